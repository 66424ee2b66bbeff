/- 'cachewiselaw02.DrawPlays' returns true for every tape and every row of calls, and leaves what was there as it was. No condition. -/
import Derived.Test.YtaiejdopmlajmaaPlaysA
import Derived.Test.YtaiejdopmlajmaaPlaysB
import Derived.Deep.RegionHeld3
import Derived.Deep.QuietTactic
import Derived.BigQuiet
namespace Go.Proofs.Ytaiejdopmlajmaa
open Go.ChangeShapes Go.WideShapes Go.ChangeAt Go.RowKit

/-- The first loop: k rows are made; all of them were short. -/
def PlA (f : Nat → List Nat) (V : Nat → Value) (n base : Nat) (w : World) (own i : Value) (W : World) : Prop := ∃ (k : Nat) (vs : List Value), i = .int .i64 (k : Int) ∧ k ≤ n ∧ Made W base k own f vs ∧ (∀ j, j < k → Short (V j)) ∧ Below w.heap.size w W ∧ base ≤ W.heap.size

def PlB (L : List (List Nat)) (base C n : Nat) (own : Value) (vs : List Value) (B E : Nat) (w : World) (i : Value) (W : World) : Prop := ∃ k : Nat, i = .int .i64 (k : Int) ∧ k ≤ n ∧ Torn W base C n own vs ∧ Tape W B E L ∧ Below w.heap.size w W
def PlC (L : List (List Nat)) (base C n m : Nat) (own : Value) (vs : List Value) (B E : Nat) (w : World) (i : Value) (W : World) : Prop := ∃ k : Nat, i = .int .i64 (k : Int) ∧ k ≤ m ∧ Torn W base C n own vs ∧ Tape W B E L ∧ Below w.heap.size w W

def PlD (L : List (List Nat)) (bm m : Nat) (w : World) (t i : Value) (W : World) : Prop := ∃ (k B E : Nat) (T : List (List Nat)) (cnt : Int → Nat), i = .int .i64 (k : Int) ∧ k ≤ m ∧ t = .pointer (some ⟨B + 1, 0, none⟩) ∧ PlS L bm w W k B E T cnt

theorem own_shape {w : World} {base n : Nat} {e : TypeId} {v : Value} {xs : List Value} (h : w.ownsRow base e 1 v n xs) : ∃ A c, v = .slice A n c ∧ (0 < n → ∃ g, A = some ⟨g, 0, none⟩ ∧ base ≤ g ∧ g < w.heap.size) ∧ n ≤ c ∧ c ≤ 9223372036854775807 := by
  rcases h.2 with ⟨rfl, hn⟩ | ⟨g, cap, cur, rfl, hb, hh, hc, hm, _⟩
  · subst hn; exact ⟨none, 0, rfl, fun h => absurd h (by omega), by omega, by omega⟩
  · exact ⟨_, cap, rfl, fun _ => ⟨g, rfl, hb, (Array.getElem?_eq_some_iff.1 hh).1⟩, hc, by unfold maxLen at hm; omega⟩

set_option maxHeartbeats 8000000 in
set_option maxRecDepth 100000 in
theorem plays_all (A0 A1 : Option Addr) (n c0 m c1 : Nat) (V : Nat → Value) (f : Nat → List Nat) (K Z : Nat → Int) (F : Nat → Nat) (w : World) (hn : n ≤ 20) (hm : m ≤ 200)
    (hV : ∀ i, i < n → CameR w (V i)) (hf : ∀ i, i < n → Short (V i) → Lane w 0 w.heap.size (V i) (f i) ∧ (f i).length ≤ 300)
    (hc : 0 < n → ∃ g o, A0 = some ⟨g, o, none⟩ ∧ g < w.heap.size ∧ n ≤ c0 ∧ c0 ≤ maxLen ∧ ∀ i, i < n → w.cell? ⟨g, o + i, none⟩ = some (V i))
    (hr : ∀ i, i < m → (-9223372036854775808 ≤ K i ∧ K i ≤ 9223372036854775807) ∧ (-9223372036854775808 ≤ Z i ∧ Z i ≤ 9223372036854775807) ∧ F i ≤ 18446744073709551615)
    (ha : 0 < m → ∃ g o, A1 = some ⟨g, o, none⟩ ∧ g < w.heap.size ∧ m ≤ c1 ∧ c1 ≤ maxLen ∧ ∀ i, i < m → w.cell? ⟨g, o + i * 3, none⟩ = some (.int .i64 (K i)) ∧ w.cell? ⟨g, o + i * 3 + 1, none⟩ = some (.int .i64 (Z i)) ∧ w.cell? ⟨g, o + i * 3 + 2, none⟩ = some (.int .u64 (F i : Int))) :
    Calls Try.prog 3 #[.slice A0 n c0, .slice A1 m c1] w (RetB true w) := by
  have HV := Lib.hid hV; clear hV
  have HF := Lib.hid hf; clear hf
  have HC := Lib.hid hc; clear hc
  have HR := Lib.hid hr; clear hr
  have HA := Lib.hid ha; clear ha
  have e0 : decide (20 < (n : Int)) = false := by simp; omega
  have e1 : decide (200 < (m : Int)) = false := by simp; omega
  go_enter Try.func3, Try.ntmps3
  go_wp2_with fail
  refine (awake_any _).mono ?_
  rintro e w0 ⟨rfl, hbl⟩
  have b0 := Lib.hid hbl; clear hbl
  obtain ⟨base, hbase⟩ : ∃ base, base = w0.heap.size := ⟨_, rfl⟩
  have hb0 : w.heap.size ≤ base := by rw [hbase]; exact b0.out.size
  have HB := Lib.hid hbase; clear hbase
  go_wp2_with fail
  go_loopw [5, 6] (fun own i W => PlA f V n base w own i W) (fun _ i _ => n - (intOf i).toNat)
  case atStart => exact ⟨0, [], rfl, by omega, ⟨World.ownsRow_nil _ _ _ _, fun j hj => by omega⟩, fun j hj => by omega, b0.out, by rw [HB.out]; exact Nat.le_refl _⟩
  case round =>
    obtain ⟨k, vs, rfl, hk, hM, hS, hbl, hsz⟩ := hrel
    have M := Lib.hid hM; clear hM
    have SH := Lib.hid hS; clear hS
    by_cases hkn : k < n
    · have e2 : decide (k < n) = true := by simpa using hkn
      obtain ⟨g, o, rfl, hg, hnc, hcm, hcell⟩ := HC.out (by omega)
      unfold maxLen at hcm
      have hgw : g < wr.heap.size := Nat.lt_of_lt_of_le hg hbl.size
      have hv := (hbl.cell (p := ⟨g, o + k, none⟩) hg).trans (hcell k hkn)
      clear hcell
      have CR := Lib.hid (HV.out k hkn)
      obtain ⟨A2, m2, c2, he, hm2, _⟩ := CR.out
      have HE := Lib.hid he
      rw [he] at hv
      clear he
      unfold maxLen at hm2
      by_cases hs : m2 ≤ 300
      · have e3 : decide (300 < (m2 : Int)) = false := by simp; omega
        have hsk : Short (V k) := ⟨A2, m2, c2, HE.out, hs⟩
        have hfk := HF.out k hkn hsk
        obtain ⟨A3, c3, he3⟩ := hfk.1.shape
        have hml : m2 = (f k).length := by have := HE.out.symm.trans he3; injection this
        have hlk := hfk.1
        rw [HE.out] at hlk
        obtain ⟨xs, hxs⟩ : ∃ xs, xs = f k := ⟨_, rfl⟩
        rw [← hxs] at hml hlk
        subst hml
        have hlk' : Lane (wr.alloc (.cells #[] 28)) 0 w.heap.size (.slice A2 xs.length c2) xs := hlk.same fun j _ hj => by rw [Below.heap_alloc _ _ _ (Nat.lt_of_lt_of_le hj hbl.size)]; exact hbl.block j hj
        obtain ⟨v1, w1, r1, o1, g1⟩ := app_first (base := base) (heap_alloc_new wr (.cells #[] 28)) hsz hlk'
        obtain ⟨A4, c4, rfl, _⟩ := own_shape o1
        have hs1 : base ≤ w1.heap.size := by have := g1.size; simp at this; omega
        have ho1 : w1.ownsRow base 25 1 _ k vs := own_old M.out.outer fun j hj => (g1.block j (by simp; omega) (by simp; omega)).trans (Below.heap_alloc _ _ _ hj)
        obtain ⟨v2, w2, r2, o2, g2⟩ := app_second ho1 hs1 (by omega) (own_slice o1)
        have R := Lib.hid (made_next M.out hxs o1 g1 o2 g2)
        have hlt := fun g e => (M.out.outer.lt g e).1
        have R2 := Lib.hid (show Below w.heap.size w w2 ∧ base ≤ w2.heap.size from ⟨hbl.grown R.out.2 hbl.size (fun j hj => Nat.le_trans hb0 (hlt j hj)), Nat.le_trans hsz R.out.2.size⟩)
        have R3 := Lib.hid (show ∀ j, j < k + 1 → Short (V j) from fun j hj => by
          rcases Nat.lt_succ_iff_lt_or_eq.1 hj with h | h
          · exact SH.out j h
          · rw [h]; exact hsk)
        have b2 := Lib.hid hbl
        have Q1 := Lib.hid r1
        have Q2 := Lib.hid r2
        clear hlk hlk' hxs hfk he3 o1 g1 o2 g2 ho1 hlt hbl hsk r1 r2
        go_wp2_with (first | (at_builtin; refine wpList_append_run rfl (.tmp 38) (.tmp 42) 25 rfl _ _ _ _ rfl rfl Q1.out ?_) | (at_builtin; refine wpList_append_run rfl (.tmp 37) (.tmp 44) 22 rfl _ _ _ _ rfl rfl Q2.out ?_))
        go_roundw
        case rel => exact ⟨k + 1, vs ++ [.slice A4 _ c4], by go_num, by omega, R.out.1, R3.out, R2.out.1, R2.out.2⟩
        case measure => simp [intOf]; omega
      · have e3 : decide (300 < (m2 : Int)) = true := by simp; omega
        have b2 := Lib.hid hbl; clear hbl
        go_wp2_with fail
        go_ret
        exact ⟨rfl, b2.out⟩
    · obtain rfl : n = k := by omega
      have e2 : decide (n < n) = false := by simp
      obtain ⟨A5, c5, rfl, hA5, hc5, hc6⟩ := own_shape M.out.outer
      have HA5 := Lib.hid hA5; clear hA5
      have hsh := fun i hi => HF.out i hi (SH.out i hi)
      have b2 := Lib.hid hbl; clear hbl hk hkn
      have NW := Lib.hid (newE_any _ _ wr (made_lanes M.out (by omega) fun i hi => ⟨(hsh i hi).1.1, (hsh i hi).1.2.1⟩))
      have HL := Lib.hid (lanes_of (c := c0) rfl (show n ≤ 1000 by omega) (fun i hi => (hsh i hi).1) HC.out)
      have HS3 := Lib.hid (fun i hi => (hsh i hi).2); clear hsh
      obtain ⟨L, hL⟩ : ∃ L, L = allOf f n := ⟨_, rfl⟩
      rw [← hL] at NW HL
      clear hL
      go_wp2_with fail
      refine NW.out.mono ?_
      rintro e w2 ⟨B, rfl, hT, hB, hbl⟩
      have TR := Lib.hid (torn_of M.out HS3.out hbl)
      have b3 := Lib.hid (b2.out.trans (hbl.mono b2.out.size)); clear hbl
      obtain ⟨E, hE⟩ : ∃ E, E = w2.heap.size := ⟨_, rfl⟩
      rw [← hE] at hT
      have T2 := Lib.hid hT; clear hT
      have HE := Lib.hid hE; clear hE
      obtain ⟨C, hC⟩ : ∃ C, C = wr.heap.size := ⟨_, rfl⟩
      rw [← hC] at TR hB
      have hB0 : w.heap.size ≤ B := Nat.le_trans (by rw [hC]; exact b2.out.size) hB
      clear hC NW M
      go_wp2_with fail
      go_loopw [8] (fun i W => PlB L base C n (.slice A5 n c5) vs B E w i W) (fun i _ => n - (intOf i).toNat)
      case atStart => exact ⟨0, rfl, by omega, TR.out, T2.out, b3.out⟩
      case round =>
        clear TR T2 b3
        obtain ⟨k, rfl, hk, hTR, hT, hbl⟩ := hrel
        by_cases hkn : k < n
        · have e3 : decide (k < n) = true := by simpa using hkn
          obtain ⟨g5, rfl, hg5, _⟩ := HA5.out (by omega)
          obtain ⟨A6, m6, c7, hv6, hm6, hmc6, hc7, _⟩ := hTR.at hkn
          have HV6 := Lib.hid hv6; clear hv6
          have RL := Lib.hid (And.intro hTR (And.intro hT hbl)); clear hTR hT hbl
          go_wp2_with fail
          go_loopw [9] (fun i W => PlC L base C n m6 (.slice (some ⟨g5, 0, none⟩) n c5) vs B E w i W) (fun i _ => m6 - (intOf i).toNat)
          case atStart => exact ⟨0, rfl, by omega, RL.out⟩
          case round =>
            clear RL
            obtain ⟨j, rfl, hj, hTR, hT, hbl⟩ := hrel
            have hrow := hTR.row hkn
            rw [HV6.out] at hrow
            by_cases hjm : j < m6
            · have e4 : decide (j < m6) = true := by simpa using hjm
              obtain ⟨A7, m7, c8, hv7, _, _, _, hcl⟩ := hTR.at hkn
              obtain ⟨rfl, rfl, rfl⟩ : A6 = A7 ∧ m6 = m7 ∧ c7 = c8 := by have := HV6.out.symm.trans hv7; injection this with h1 h2 h3; exact ⟨h1, h2, h3⟩
              obtain ⟨g6, rfl, hg6, hg7, hcf⟩ := hcl (by omega)
              obtain ⟨⟨u, hu⟩, hfz⟩ := hcf j hjm
              have R := Lib.hid (torn_step (j := j) hTR hT hbl hkn HV6.out rfl hg6 hg7 hB hb0 (.int .u64 77))
              clear hTR hT hbl hcf hv7 hcl
              go_wp2_with fail
              go_roundw
              case rel => exact ⟨j + 1, by go_num, by omega, R.out⟩
              case measure => simp [intOf]; omega
            · obtain rfl : m6 = j := by omega
              have e4 : decide (m6 < m6) = false := by simp
              have R := Lib.hid (And.intro hTR (And.intro hT hbl)); clear hTR hT hbl
              go_wp2_with fail
              go_roundw
              case rel => exact ⟨k + 1, by go_num, by omega, R.out⟩
              case measure => simp [intOf]; omega
        · obtain rfl : n = k := by omega
          have e3 : decide (n < n) = false := by simp
          have hmm := @run_makeMap Try.prog
          have b4 := Lib.hid hbl
          have T4 := Lib.hid hT
          clear hTR hT hbl hk hkn HS3 SH HF HV
          have hEm : E ≤ wr.heap.size := T4.out.lt.2
          have hwm : w.heap.size ≤ wr.heap.size := b4.out.size
          have CT := Lib.hid (Counts.made wr)
          have T5 := Lib.hid (show Tape (wr.alloc (.map #[] 0)) B E L from T4.out.below ((Below.refl _ _).alloc (Nat.le_refl _) _))
          have b5 := Lib.hid (b4.out.alloc b4.out.size (.map #[] 0))
          clear b4 T4
          go_wp2_with fail
          clear hmm
          generalize hw5 : wr.alloc (.map #[] 0) = w5 at CT T5 b5 ⊢
          clear hw5
          generalize wr.heap.size = bm at hEm hwm CT ⊢
          go_loopw [7, 11] (fun t i W => PlD L bm m w t i W) (fun _ i _ => m - (intOf i).toNat)
          case atStart => exact ⟨0, B, E, L, fun _ => 0, rfl, by omega, rfl, ⟨T5.out, fun z => rfl, CT.out, fun z => Nat.le_refl _, b5.out, hB0, Or.inl hEm, hwm⟩⟩
          case round =>
            clear CT T5 b5 hEm hwm
            obtain ⟨k, B4, E4, T, cnt, rfl, hk, rfl, hS⟩ := hrel
            have hbl := hS.below
            have S0 := Lib.hid hS; clear hS
            by_cases hkm : k < m
            · have e4 : decide (k < m) = true := by simpa using hkm
              obtain ⟨g, o, rfl, hg, hnc, hcm, hcell⟩ := HA.out (by omega)
              unfold maxLen at hcm
              obtain ⟨q0, q1, q2⟩ := hcell k hkm
              clear hcell
              have hc0' := (hbl.cell (p := ⟨g, o + k * 3, none⟩) hg).trans q0
              have hc1' := (hbl.cell (p := ⟨g, o + k * 3 + 1, none⟩) hg).trans q1
              have hc2' := (hbl.cell (p := ⟨g, o + k * 3 + 2, none⟩) hg).trans q2
              clear q0 q1 q2
              obtain ⟨r0, r1, r2⟩ := HR.out k hkm
              generalize K k = a at hc0' r0
              generalize Z k = z at hc1' r1
              generalize F k = f at hc2' r2
              have hgw : g < wr.heap.size := Nat.lt_of_lt_of_le hg hbl.size
              clear hbl
              have hcz : cnt z ≤ 200 := Nat.le_trans (S0.out.le z) (by omega)
              have P1 := Lib.hid (PlE.of (S0.out.alloc (.cells #[.int .i64 a, .int .i64 z, .int .u64 (f : Int)] 32)) (heap_alloc_new wr _) HL.out)
              have hab : E4 ≤ wr.heap.size := S0.out.tape.lt.2
              have hbm : bm < wr.heap.size := S0.out.map.lt
              have hBE := S0.out.tape.lt.1
              have hlk := P1.out.st.map.look r1
              clear S0
              go_wp2_with fail
              clear hc0' hc1' hc2' hgw
              generalize wr.alloc (.cells #[.int .i64 a, .int .i64 z, .int .u64 (f : Int)] 32) = w1 at P1 hlk ⊢
              generalize wr.heap.size = ab at P1 hab hbm ⊢
              refine (refNext_any w1 w.heap.size _ L z (cnt z) P1.out.lanes).mono ?_
              rintro e w1' ⟨rfl, rfl⟩
              have hnb : lat L z (cnt z) ≤ 18446744073709551615 := by rw [← P1.out.st.head z]; exact (P1.out.st.tape.bound z).1
              have HN := Lib.hid (P1.out.st.head z)
              generalize lat L z (cnt z) = y at hnb HN ⊢
              have c0 := P1.out.ab.c0
              have c1 := P1.out.ab.c1
              have c2 := P1.out.ab.c2
              clear hlk
              by_cases a0 : a = 0
              · subst a0
                clear c2
                go_wp2_with fail
                refine (next_at z (y : Int) (adv T z) P1.out.st.tape (by rw [HN.out]) rfl).mono ?_
                rintro e w2 ⟨rfl, hT, hg2⟩
                have N2 := Lib.hid (P1.out.st.drawn hT hg2)
                have A2 := Lib.hid (P1.out.ab.kept hg2 (fun e => by have e' : ab = B4 := Option.some.inj e; omega))
                clear hT hg2 c0 c1
                have hlk := N2.out.map.look r1
                obtain ⟨w3, hup, hm3, hg3⟩ := N2.out.map.store r1 (by omega) (by omega)
                have S3 := Lib.hid (PlE.of (N2.out.counted hm3 hg3) (A2.out.kept hg3 (fun e => by have e' : ab = bm := Option.some.inj e; omega)) HL.out)
                clear hm3 hg3
                have c1 := A2.out.c1
                go_wp2_with fail
                clear hlk hup c1
                have c1 := S3.out.ab.c1
                have hlk := fun q => S3.out.look r1 q
                have hcz3 := S3.out.st.le z
                go_quiet (first
                  | (go_at_call 16; exact Calls.quiet_of_same (leftQ S3.out.st z _))
                  | (go_at_call 17; exact Calls.quiet_of_same (refLeftQ S3.out.lanes z _ (by omega) _)))
                go_wp2_with fail
                go_roundw
                case rel => exact ⟨k + 1, _, _, _, _, by go_num, by omega, rfl, S3.out.st.drewN _⟩
                case measure => simp [intOf]; omega
              have f0 : (a == 0) = false := beq_eq_false_iff_ne.2 a0
              by_cases a1 : a = 1
              · subst a1
                go_wp2_with fail
                go_region_held3 (fun w' => w'.cell? ⟨ab, 1, none⟩ = some (.int .i64 z) ∧ w'.cell? ⟨ab, 2, none⟩ = some (.int .u64 (f : Int))) (first | (exact ⟨‹_›, ‹_›⟩) | go_keep)
                  (first
                    | (go_at_call 13; refine (pick_at z (f : Int) (pickB y f) (adv T z) P1.out.st.drewn.tape (by omega) (by rw [HN.out]; rfl) rfl).mono ?_; rintro e w2 ⟨rfl, hT, hg2⟩; have A2 := Lib.hid (P1.out.ab.drewn.kept hg2 (fun e => by have e' : ab = B4 := Option.some.inj e; omega)); have k1 := A2.out.c1; have k2 := A2.out.c2; have N2 := Lib.hid (P1.out.st.drewn.drawn hT hg2); clear hT hg2)
                    | (go_at_call 14; refine (refPick_any _ y f hnb).mono ?_; rintro e w3 ⟨rfl, rfl⟩))
                clear k1 k2 c0 c1 c2
                have hlk := N2.out.map.look r1
                obtain ⟨w3, hup, hm3, hg3⟩ := N2.out.map.store r1 (by omega) (by omega)
                have S3 := Lib.hid (PlE.of (N2.out.counted hm3 hg3) (A2.out.kept hg3 (fun e => by have e' : ab = bm := Option.some.inj e; omega)) HL.out)
                clear hm3 hg3
                have c1 := A2.out.c1
                go_wp2_with fail
                clear hlk hup c1
                have c1 := S3.out.ab.c1
                have hlk := fun q => S3.out.look r1 q
                have hcz3 := S3.out.st.le z
                go_quiet (first
                  | (go_at_call 16; exact Calls.quiet_of_same (leftQ S3.out.st z _))
                  | (go_at_call 17; exact Calls.quiet_of_same (refLeftQ S3.out.lanes z _ (by omega) _)))
                go_wp2_with fail
                go_roundw
                case rel => exact ⟨k + 1, _, _, _, _, by go_num, by omega, rfl, S3.out.st.drewN _⟩
                case measure => simp [intOf]; omega
              have f1 : (a == 1) = false := beq_eq_false_iff_ne.2 a1
              by_cases a2 : a = 2
              · subst a2
                clear c2
                go_wp2_with fail
                refine (copyE_any _ _ _ _ P1.out.st.tape).mono ?_
                rintro e w2 ⟨C4, rfl, hT2, hC4, hb2⟩
                have G2 := Lib.hid (And.intro hT2 hb2)
                have c1' := (P1.out.ab.below hb2).c1
                clear c0 c1 hT2 hb2
                go_wp2_with fail
                refine (next_any _ _ _ _ z G2.out.1).mono ?_
                rintro e w3 ⟨rfl, hT3, hg3⟩
                have T3 := Lib.hid (show Tape w3 B4 E4 T from (P1.out.st.tape.below G2.out.2).kept hg3 (Or.inr (by have := P1.out.st.tape.lt; omega)))
                have A3 := Lib.hid ((P1.out.ab.below G2.out.2).kept hg3 (fun e => by have e' : ab = C4 := Option.some.inj e; have := P1.out.ab.lt; omega))
                have G3 := Lib.hid hg3
                clear hT3 hg3 c1'
                go_wp2_with fail
                refine (copyE_any _ _ _ _ T3.out).mono ?_
                rintro e w4 ⟨D4, rfl, hT4, hD4, hb4⟩
                have S3 := Lib.hid (PlE.of ((P1.out.st.copied G2.out.2 hC4 G3.out G3.out.size hb4 hD4 hT4 G2.out.1).1.mono (Nat.le_succ k)) (A3.out.below hb4) HL.out)
                clear hT4 hb4 G2 G3 T3 A3
                go_wp2_with fail
                have c1 := S3.out.ab.c1
                have hlk := fun q => S3.out.look r1 q
                have hcz3 := S3.out.st.le z
                go_quiet (first
                  | (go_at_call 16; exact Calls.quiet_of_same (leftQ S3.out.st z _))
                  | (go_at_call 17; exact Calls.quiet_of_same (refLeftQ S3.out.lanes z _ (by omega) _)))
                go_wp2_with fail
                go_roundw
                case rel => exact ⟨k + 1, _, _, _, _, by go_num, by omega, rfl, S3.out.st.drewN _⟩
                case measure => simp [intOf]; omega
              have f2 : (a == 2) = false := beq_eq_false_iff_ne.2 a2
              have S3 := Lib.hid (PlE.of (P1.out.st.mono (Nat.le_succ k)) P1.out.ab HL.out)
              clear c1 c2
              go_wp2_with fail
              clear c0
              have c1 := S3.out.ab.c1
              have hlk := fun q => S3.out.look r1 q
              have hcz3 := S3.out.st.le z
              go_quiet (first
                | (go_at_call 16; exact Calls.quiet_of_same (leftQ S3.out.st z _))
                | (go_at_call 17; exact Calls.quiet_of_same (refLeftQ S3.out.lanes z _ (by omega) _)))
              go_wp2_with fail
              go_roundw
              case rel => exact ⟨k + 1, _, _, _, _, by go_num, by omega, rfl, S3.out.st.drewN _⟩
              case measure => simp [intOf]; omega
            · obtain rfl : m = k := by omega
              have e4 : decide (m < m) = false := by simp
              have b6 := Lib.hid hbl; clear hbl S0
              go_wp2_with fail
              go_ret
              exact ⟨rfl, b6.out⟩

theorem walk_drawPlays (v0 v1 : Value) (w : World) (h0 : CameRR w v0) (h1 : CameA w v1) :
    Calls Try.prog 3 #[v0, v1] w (RetB true w) := by
  obtain ⟨A0, n, c0, rfl, hn, V, hV, hc⟩ := h0
  obtain ⟨A1, m, c1, rfl, hm, K, Z, F, hr, ha⟩ := h1
  by_cases hn2 : n ≤ 20
  · by_cases hm2 : m ≤ 200
    · obtain ⟨f, hf⟩ := pick_lanes hV
      exact plays_all A0 A1 n c0 m c1 V f K Z F w hn2 hm2 hV hf hc hr ha
    · clear hV hc hr ha
      unfold maxLen at hn hm
      have e0 : decide (20 < (n : Int)) = false := by simp; omega
      have e1 : decide (200 < (m : Int)) = true := by simp; omega
      go_enter Try.func3, Try.ntmps3
      go_wp2_with fail
      refine (awake_any _).mono ?_
      rintro e w0 ⟨rfl, hbl⟩
      have b0 := Lib.hid hbl; clear hbl
      go_wp2_with fail
      go_ret
      exact ⟨rfl, b0.out⟩
  · clear hV hc hr ha
    unfold maxLen at hn hm
    have e0 : decide (20 < (n : Int)) = true := by simp; omega
    go_enter Try.func3, Try.ntmps3
    go_wp2_with fail
    refine (awake_any _).mono ?_
    rintro e w0 ⟨rfl, hbl⟩
    have b0 := Lib.hid hbl; clear hbl
    go_wp2_with fail
    go_ret
    exact ⟨rfl, b0.out⟩
namespace LDrawPlays
set_option maxRecDepth 100000 in
theorem lifted (os : Os) (started : os.Started) (H : Type) (enc : TypeId × Value → H) :
    ReturnsInHanded {} Try.checked os 3 .any (Rows.drawPlaysSpec.pre6 enc Try.prog Try.f3 Rows.drawPlaysRow.domain false) (Rows.drawPlaysSpec.post enc Try.prog Try.f3 false true false false) := by
  refine returnsInHanded_of_change (C := Try.checked) own started (by kernel_rfl) Try.func3
    (ChangeSpec.witness6 (enc := enc) (C := Try.checked) false ⟨#[], #[.slice none 0 0, .slice none 0 0], []⟩ 8 (by kernel_rfl) (by kernel_rfl) (by kernel_rfl) (by kernel_rfl)) ?_
  intro W base args ds gs before hval0 hW _ _
  have hval : ∀ (j : Nat) t v, Try.f3.params[j]? = some t → args[j]? = some v → Value.okWide Try.prog W .any base t v := hval0
  have hW' := hW
  obtain ⟨p, q, hA0, hV, rfl, hfz, hnd⟩ := hW
  have hA : DataW.TrodAll enc Try.prog W 0 (fun _ => true) true Try.f3.params.toList args.toList ds p := hA0
  rw [Try.params3] at hA hval
  obtain ⟨v0, vs0, d0, ds0, p0, q0, hargs, rfl, rfl, h0, r0⟩ := trodAll_cons hA
  obtain ⟨v1, vs1, d1, ds1, p1, q1, rfl, rfl, rfl, h1, r1⟩ := trodAll_cons r0
  obtain ⟨rfl, rfl, rfl⟩ := trodAll_nil r1
  obtain rfl : args = #[v0, v1] := by cases args; simp_all
  obtain ⟨rfl, rfl⟩ := trodVars_none hV
  have k0 := h0
  have lt0 : ∀ x ∈ p0, x.block < W.heap.size := by obtain ⟨m, hm⟩ := k0; exact DataW.trod_lt m _ _ _ hm
  have w0 := open_R (hval 0 22 v0 rfl rfl) h0
  have k1 := h1
  have lt1 : ∀ x ∈ p1, x.block < W.heap.size := by obtain ⟨m, hm⟩ := k1; exact DataW.trod_lt m _ _ _ hm
  have w1 := open_a (hval 1 23 v1 rfl rfl) h1
  clear hA0 hval0
  refine (walk_drawPlays v0 v1 W w0 w1).mono fun e W' ⟨he, bel⟩ => ?_
  subst he
  exact ⟨_, rfl, _, _, _, [], _, [], hW', trodAll_mk1 (shut_bool Try.underlying4 _), (trodAll_cons_mk (Below.trod laidOut (by kernel_rfl) (of_decide_eq_true (by kernel_rfl)) k0 bel lt0) (trodAll_cons_mk (Below.trod laidOut (by kernel_rfl) (of_decide_eq_true (by kernel_rfl)) k1 bel lt1) trodAll_mk0)), rfl, bel.frame _, fun h => by cases h⟩

theorem said : Rows.DrawPlaysSaid :=
  OpenClaim.holds_of_wide 3 Try.f3 rfl rfl rfl rfl rfl rfl rfl ⟨rfl, rfl, rfl, rfl, rfl⟩ rfl rfl rfl rfl rfl (by kernel_rfl) Try.func3 (by kernel_rfl)
    (of_decide_eq_true (by kernel_rfl)) (by unfold Func.isWrapper; rw [if_neg (of_decide_eq_false (by kernel_rfl))]; exact ⟨rfl, rfl⟩)
    (fun os started H enc _ => lifted os started H enc)
#print axioms said
end LDrawPlays
end Go.Proofs.Ytaiejdopmlajmaa
