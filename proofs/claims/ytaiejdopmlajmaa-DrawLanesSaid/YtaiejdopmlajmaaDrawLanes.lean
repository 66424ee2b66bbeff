/- 'cachewiselaw02.DrawLanes' returns true for every tape and every row of lanes asked, whatever the order of the map, and leaves what was there as it was. No condition. -/
import Derived.Test.YtaiejdopmlajmaaLanesA
import Derived.Deep.RegionLaw
import Derived.Deep.RegionHeld3
namespace Go.Proofs.Ytaiejdopmlajmaa
open Go.ChangeShapes Go.WideShapes Go.ChangeAt Go.RowKit Go.Maps

def LnA (V : Nat → Value) (n : Nat) (i : Value) : Prop := ∃ k : Nat, i = .int .i64 (k : Int) ∧ k ≤ n ∧ ∀ j, j < k → Short (V j)
def LnB (L : List (List Nat)) (bm base m B E : Nat) (w : World) (i : Value) (W : World) : Prop := ∃ (k : Nat) (T : List (List Nat)) (D : DataW Value) (val : Int → Value) (cnt : Int → Nat), i = .int .i64 (k : Int) ∧ k ≤ m ∧ Told L bm base w W k B E T D val cnt

def LnC (L : List (List Nat)) (bm base r m : Nat) (w : World) (B E : Nat) (T : List (List Nat)) (D : DataW Value) (val : Int → Value) (cnt : Int → Nat) (W : World) : Prop := ∃ left cn, Ranging W bm r m D val left cn ∧ LnS L bm base r w W B E T val cnt

def LnD (L : List (List Nat)) (bm base r m : Nat) (w : World) (B E : Nat) (T : List (List Nat)) (D : DataW Value) (val : Int → Value) (cnt : Int → Nat) (left : Lit → Bool) (cn C F : Nat) (x : Int) (i : Value) (W : World) : Prop :=
  ∃ j : Nat, i = .int .i64 (j : Int) ∧ j ≤ cnt x ∧ Own L C F x j W ∧ Ranging W bm r m D val left cn ∧ LnS L bm base r w W B E T val cnt
theorem lnD_next {L : List (List Nat)} {bm base r m : Nat} {w W W' : World} {B E : Nat} {T : List (List Nat)} {D : DataW Value} {val : Int → Value} {cnt : Int → Nat} {left : Lit → Bool} {cn C F j : Nat} {x : Int}
    (hR : Ranging W bm r m D val left cn) (hS : LnS L bm base r w W B E T val cnt) (hO : Own L C F x (j + 1) W') (hg : W.drew.grownBy W' (some C)) (hb : bm < r) (hr : r < C) :
    Own L C F x (j + 1) W' ∧ Ranging W' bm r m D val left cn ∧ LnS L bm base r w W' B E T val cnt := by
  have g : W.grownBy W' (some C) := ⟨hg.os, hg.tape, hg.output, hg.size, hg.block⟩
  exact ⟨hO, hR.kept g (fun e => by have e' : bm = C := Option.some.inj e; omega) (fun e => by have e' : r = C := Option.some.inj e; omega), hS.kept g (fun j hj => by cases hj; omega)⟩
theorem row_at {L : List (List Nat)} {W : World} {base k c j : Nat} {A : Option Addr} {x : Int} (h : W.ownsRow base 28 1 (.slice A k c) k (uints (ans (lget L x) k))) (hj : j < k) :
    ∃ g, A = some ⟨g, 0, none⟩ ∧ k ≤ c ∧ c ≤ 9223372036854775807 ∧ W.cell? ⟨g, j, none⟩ = some (.int .u64 ((lat L x j : Nat) : Int)) := by
  rcases h.2 with ⟨h2, h3⟩ | ⟨g, cap, cur, h2, _, hh, hc, hm, _⟩
  · omega
  · obtain ⟨rfl, rfl⟩ : A = some ⟨g, 0, none⟩ ∧ c = cap := by injection h2 with h4 _ h5; exact ⟨h4, h5⟩
    exact ⟨g, rfl, hc, by unfold maxLen at hm; omega, (h.cellAt j (by omega)).trans (ans_get _ _ _ hj)⟩

set_option maxHeartbeats 8000000 in
set_option maxRecDepth 100000 in
theorem lanes_all (A0 A1 : Option Addr) (n c0 m c1 : Nat) (V : Nat → Value) (f : Nat → List Nat) (Z : Nat → Int) (w : World) (hn : n ≤ 20) (hm : m ≤ 200)
    (hV : ∀ i, i < n → CameR w (V i)) (hf : ∀ i, i < n → Short (V i) → Lane w 0 w.heap.size (V i) (f i) ∧ (f i).length ≤ 300)
    (hc : 0 < n → ∃ g o, A0 = some ⟨g, o, none⟩ ∧ g < w.heap.size ∧ n ≤ c0 ∧ c0 ≤ maxLen ∧ ∀ i, i < n → w.cell? ⟨g, o + i, none⟩ = some (V i))
    (hr : ∀ i, i < m → -9223372036854775808 ≤ Z i ∧ Z i ≤ 9223372036854775807)
    (ha : 0 < m → ∃ g o, A1 = some ⟨g, o, none⟩ ∧ g < w.heap.size ∧ m ≤ c1 ∧ c1 ≤ maxLen ∧ ∀ i, i < m → w.cell? ⟨g, o + i, none⟩ = some (.int .i64 (Z i))) :
    Calls Try.prog 6 #[.slice A0 n c0, .slice A1 m c1] w (RetB true w) := by
  have HV := Lib.hid hV; clear hV
  have HF := Lib.hid hf; clear hf
  have HC := Lib.hid hc; clear hc
  have HR := Lib.hid hr; clear hr
  have HA := Lib.hid ha; clear ha
  have e0 : decide (20 < (n : Int)) = false := by simp; omega
  have e1 : decide (200 < (m : Int)) = false := by simp; omega
  go_enter Try.func6, Try.ntmps6
  go_wp2_with fail
  refine (awake_any _).mono ?_
  rintro e w0 ⟨rfl, hbl⟩
  have b0 := Lib.hid hbl; clear hbl
  go_wp2_with fail
  go_loop [5] (fun i => LnA V n i) (fun i => n - (intOf i).toNat)
  case atStart => exact ⟨0, rfl, by omega, fun j hj => by omega⟩
  case round =>
    obtain ⟨k, rfl, hk, hS⟩ := hrel
    have SH := Lib.hid hS; clear hS
    by_cases hkn : k < n
    · have e2 : decide (k < n) = true := by simpa using hkn
      obtain ⟨g, o, rfl, hg, hnc, hcm, hcell⟩ := HC.out (by omega)
      unfold maxLen at hcm
      have hv := (b0.out.cell (p := ⟨g, o + k, none⟩) hg).trans (hcell k hkn)
      clear hcell
      have CR := Lib.hid (HV.out k hkn)
      obtain ⟨A2, m2, c2, he, hm2, _⟩ := CR.out
      have HE := Lib.hid he
      rw [he] at hv
      clear he
      unfold maxLen at hm2
      by_cases hs : m2 ≤ 300
      · have e3 : decide (300 < (m2 : Int)) = false := by simp; omega
        have R := Lib.hid (show ∀ j, j < k + 1 → Short (V j) from fun j hj => by
          rcases Nat.lt_succ_iff_lt_or_eq.1 hj with h | h
          · exact SH.out j h
          · rw [h]; exact ⟨A2, m2, c2, HE.out, hs⟩)
        go_wp2_with fail
        go_round
        case rel => exact ⟨k + 1, by go_num, by omega, R.out⟩
        case measure => simp [intOf]; omega
      · have e3 : decide (300 < (m2 : Int)) = true := by simp; omega
        go_wp2_with fail
        go_ret
        exact ⟨rfl, b0.out⟩
    · obtain rfl : n = k := by omega
      have e2 : decide (n < n) = false := by simp
      have HL := Lib.hid (lanes_of (c := c0) rfl (show n ≤ 1000 by omega) (fun i hi => (HF.out i hi (SH.out i hi)).1) HC.out)
      have L0 := Lib.hid ((HL.out.same fun j hj => b0.out.block j hj).wide b0.out.size)
      obtain ⟨L, hL⟩ : ∃ L, L = allOf f n := ⟨_, rfl⟩
      rw [← hL] at HL L0
      clear hL hk hkn SH HF HV HC
      have hmm := @run_makeMap Try.prog
      go_wp2_with fail
      refine (newE_any _ _ w0 L0.out).mono ?_
      rintro e w2 ⟨B, rfl, hT, hB, hbl⟩
      have b2 := Lib.hid (b0.out.trans (hbl.mono b0.out.size)); clear hbl
      have hB0 : w.heap.size ≤ B := Nat.le_trans b0.out.size hB
      obtain ⟨E, hE⟩ : ∃ E, E = w2.heap.size := ⟨_, rfl⟩
      rw [← hE] at hT
      have T2 := Lib.hid hT; clear hT
      have HE := Lib.hid hE; clear hE
      have hEm : E ≤ w2.heap.size := T2.out.lt.2
      have TL := Lib.hid (show Told L w2.heap.size (w2.heap.size + 1) w (w2.alloc (.map #[] 0)) 0 B E L (.map []) (fun _ => .slice none 0 0) (fun _ => 0) from
        ⟨T2.out.below ((Below.refl _ _).alloc (Nat.le_refl _) _), fun z => rfl, Vals.made w2, fun z => World.ownsRow_nil _ _ _ _, fun _ _ _ => Or.inl rfl, fun z => Nat.le_refl _, b2.out.alloc b2.out.size _, hB0, hEm, Nat.lt_succ_self _, by simp⟩)
      clear T2 b2
      go_wp2_with fail
      clear hmm
      generalize w2.alloc (.map #[] 0) = w5 at TL ⊢
      generalize w2.heap.size = bm at TL hEm HE ⊢
      go_loopw [8] (fun i W => LnB L bm (bm + 1) m B E w i W) (fun i _ => m - (intOf i).toNat)
      case atStart => exact ⟨0, L, _, _, _, rfl, by omega, TL.out⟩
      case round =>
        clear TL
        obtain ⟨k, T, D, val, cnt, rfl, hk, hTL⟩ := hrel
        have TL := Lib.hid hTL
        have hbl := hTL.below; clear hTL
        by_cases hkm : k < m
        · have e4 : decide (k < m) = true := by simpa using hkm
          obtain ⟨g, o, rfl, hg, hnc, hcm, hcell⟩ := HA.out (by omega)
          unfold maxLen at hcm
          have hq := hcell k hkm
          have hc1' := (hbl.cell (p := ⟨g, o + k, none⟩) hg).trans hq
          have hgw : g < wr.heap.size := Nat.lt_of_lt_of_le hg hbl.size
          clear hcell hbl
          have rz := HR.out k hkm
          generalize Z k = z at hc1' rz hq
          have HQ := Lib.hid hq; clear hq
          have TD := Lib.hid TL.out.drewn; clear TL
          have hlk := TD.out.map.look rz
          go_wp2_with fail
          go_region_held3 (fun w' => w'.cell? ⟨g, o + k, none⟩ = some (.int .i64 z)) (first | assumption | go_keep)
            (first
              | (go_at_call 12; refine (next_at z ((lat L z (cnt z) : Nat) : Int) (adv T z) TD.out.tape (by rw [TD.out.head]) rfl).mono ?_; rintro e w2 ⟨rfl, hT, hg2⟩; obtain ⟨A3, c3, w3, w4, D3, ra, ru, hb3, hT4, hl2, hl3⟩ := told_step TD.out rz (by omega) hT hg2; have k2 := hg2.cell (a := ⟨g, o + k, none⟩) hc1' (fun e => by have e' : g = B := Option.some.inj e; omega); have K3 := Lib.hid ((hb3.cell (p := ⟨g, o + k, none⟩) hg).trans HQ.out); have K4 := Lib.hid ((hT4.below.cell (p := ⟨g, o + k, none⟩) hg).trans HQ.out); have RA := Lib.hid ra; have T4 := Lib.hid hT4; clear hT hg2 hT4 ra hb3)
              | (refine step_append_run rfl (.tmp 56) (.tmp 63) 25 rfl _ _ _ _ rfl rfl RA.out ?_; have k3 := K3.out; have k4 := K4.out))
          all_goals
            clear k2 k3 k4 hl2 hl3 ru hlk hc1'
            go_wp2_with fail
            go_roundw
            case rel => exact ⟨k + 1, _, _, _, _, by go_num, by omega, T4.out⟩
            case measure => simp [intOf]; omega
        · obtain rfl : m = k := by omega
          have e4 : decide (m < m) = false := by simp
          obtain ⟨w6, hrun6, hrg6, hg6, hs6⟩ := TL.out.map.1.range lawI Try.underlying45
          have RG := Lib.hid (show Ranging w6 bm wr.heap.size m D val _ _ from ⟨hrg6, TL.out.map.2.2⟩)
          have S6 := Lib.hid (TL.out.ranged hg6)
          have hrb : bm < wr.heap.size := TL.out.map.lt
          have hcnt : ∀ z, cnt z ≤ 200 := fun z => Nat.le_trans (TL.out.le z) hm
          have HCNT := Lib.hid hcnt; clear hcnt
          clear hrg6 hg6 hs6 hbl TL hk hkm
          go_wp2_with fail
          clear hrun6
          generalize wr.heap.size = r at RG S6 hrb ⊢
          go_loopw [9] (fun _ W => LnC L bm (bm + 1) r m w B E T D val cnt W) (fun _ W => W.rangeLeft bm r)
          case atStart => exact ⟨_, _, RG.out, S6.out⟩
          case round =>
            clear RG S6
            obtain ⟨left, cn, hRG, hS⟩ := hrel
            have S7 := Lib.hid hS; clear hS
            rcases hRG.1.next lawI 0 with ⟨_, _, hrun⟩ | ⟨key, v, kl, y, w7, cn', hkey, _, hv, hat, hrun, hrg, hlt, hgr, _, hen⟩
            · clear hRG
              go_wp2_with fail
              go_ret
              exact ⟨rfl, S7.out.below⟩
            · obtain ⟨x, rfl, rfl, hwx⟩ := keyOf_int_inv Try.underlying3 hkey
              obtain ⟨hy, A4, n4, c4, rfl⟩ := rdS_inv hv
              have hvx : val x = .slice A4 n4 c4 := by
                have h1 := hat (.held (.slice none 0 0))
                rw [hRG.2 x, hy] at h1
                injection h1
              have LE := Lib.hid (show cn' < wr.rangeLeft bm r by rw [hRG.1.left_eq]; exact hlt)
              generalize hlf : (fun z => left z && !z.sameKey (.int .i64 x)) = left' at hrg
              clear hlf
              obtain rfl : n4 = cnt x := by
                have h1 := S7.out.rows x
                rw [hvx] at h1
                rcases h1.2 with ⟨h2, h3⟩ | ⟨g, cap, cur, h2, _⟩
                · injection h2 with _ h2; omega
                · injection h2
              have RG := Lib.hid (show Ranging w7 bm r m D val _ _ from ⟨hrg, hRG.2⟩)
              have S8 := Lib.hid (S7.out.kept hgr (fun j hj => by cases hj; exact Nat.le_refl _))
              have L8 := Lib.hid ((HL.out.same fun j hj => S8.out.below.block j hj).wide S8.out.below.size)
              have rx := i64_rng hwx
              have HVX := Lib.hid hvx
              clear hRG hrg hat hv hy hkey hlt hgr S7 hvx
              go_wp2_with fail
              refine (newE_any _ _ w7 L8.out).mono ?_
              rintro e w8 ⟨C, rfl, hT, hC, hbl⟩
              have hrC : r < C := Nat.lt_of_lt_of_le RG.out.1.lt hC
              have RG8 := Lib.hid (RG.out.kept (below_grown hbl) (by simp) (by simp))
              have S9 := Lib.hid (S8.out.kept (below_grown hbl) (fun j hj => by cases hj))
              obtain ⟨F, hF⟩ : ∃ F, F = w8.heap.size := ⟨_, rfl⟩
              rw [← hF] at hT
              have O8 := Lib.hid (show Own L C F x 0 w8 from ⟨L, hT, rfl⟩)
              have hcx : cnt x ≤ 200 := HCNT.out x
              clear hT hbl hF RG S8 L8 hrun hen
              go_wp2_with fail
              go_loopw [12] (fun i W => LnD L bm (bm + 1) r m w B E T D val cnt left' cn' C F x i W) (fun i _ => cnt x - (intOf i).toNat)
              case atStart => exact ⟨0, rfl, by omega, O8.out, RG8.out, S9.out⟩
              case round =>
                clear O8 RG8 S9
                obtain ⟨j, rfl, hj, hO, hR, hS⟩ := hrel
                have hrow := hS.rows x
                rw [HVX.out] at hrow
                have HH := Lib.hid (And.intro hR hS)
                by_cases hjn : j < cnt x
                · have e5 : decide (j < cnt x) = true := by simpa using hjn
                  obtain ⟨g4, rfl, hc4, hcc, hcell⟩ := row_at hrow hjn
                  have hg4 : g4 < r := hS.top x g4 (by rw [HVX.out]; rfl)
                  have N := Lib.hid hO.drewn.next
                  generalize lat L x j = y at hcell N
                  clear hrow hR hS hO
                  go_wp2_with fail
                  go_region_held3 (fun w' => w'.cell? ⟨g4, j, none⟩ = some (.int .u64 (y : Int))) (first | assumption | go_keep)
                    (first | (go_at_call 12; refine N.out.mono ?_; rintro e w9 ⟨rfl, hO9, hg9⟩; have k9 := hg9.cell (a := ⟨g4, j, none⟩) hcell (fun e => by have e' : g4 = C := Option.some.inj e; omega); have R9 := Lib.hid (lnD_next HH.out.1 HH.out.2 hO9 hg9 (by omega) (by omega)); clear hO9 hg9))
                  all_goals
                    clear k9 hcell
                    go_wp2_with fail
                    go_roundw
                    case rel => exact ⟨j + 1, by go_num, by omega, R9.out⟩
                    case measure => simp [intOf]; omega
                · obtain rfl : cnt x = j := by omega
                  have e5 : decide (cnt x < cnt x) = false := by simp
                  have LL := Lib.hid hO.left
                  have LR := Lib.hid (hS.leftAt x)
                  clear hrow hR hS hO
                  go_wp2_with fail
                  refine LL.out.mono ?_
                  rintro e w9 ⟨rfl, rfl⟩
                  go_wp2_with fail
                  refine LR.out.mono ?_
                  rintro e w9 ⟨rfl, rfl⟩
                  go_wp2_with fail
                  go_roundw
                  case rel => exact ⟨_, _, HH.out.1, HH.out.2⟩
                  case measure => rw [HH.out.1.1.left_eq]; exact LE.out

theorem walk_drawLanes (v0 v1 : Value) (w : World) (h0 : CameRR w v0) (h1 : CameN w v1) :
    Calls Try.prog 6 #[v0, v1] w (RetB true w) := by
  obtain ⟨A0, n, c0, rfl, hn, V, hV, hc⟩ := h0
  obtain ⟨A1, m, c1, rfl, hm, Z, hr, ha⟩ := h1
  by_cases hn2 : n ≤ 20
  · by_cases hm2 : m ≤ 200
    · obtain ⟨f, hf⟩ := pick_lanes hV
      exact lanes_all A0 A1 n c0 m c1 V f Z w hn2 hm2 hV hf hc hr ha
    · clear hV hc hr ha
      unfold maxLen at hn hm
      have e0 : decide (20 < (n : Int)) = false := by simp; omega
      have e1 : decide (200 < (m : Int)) = true := by simp; omega
      go_enter Try.func6, Try.ntmps6
      go_wp2_with fail
      refine (awake_any _).mono ?_
      rintro e w0 ⟨rfl, hbl⟩
      have b0 := Lib.hid hbl; clear hbl
      go_wp2_with fail
      go_ret
      exact ⟨rfl, b0.out⟩
  · clear hV hc hr ha
    unfold maxLen at hn hm
    have e0 : decide (20 < (n : Int)) = true := by simp; omega
    go_enter Try.func6, Try.ntmps6
    go_wp2_with fail
    refine (awake_any _).mono ?_
    rintro e w0 ⟨rfl, hbl⟩
    have b0 := Lib.hid hbl; clear hbl
    go_wp2_with fail
    go_ret
    exact ⟨rfl, b0.out⟩
namespace LDrawLanes
set_option maxRecDepth 100000 in
theorem lifted (os : Os) (started : os.Started) (H : Type) (enc : TypeId × Value → H) :
    ReturnsInHanded {} Try.checked os 6 .any (Rows.drawLanesSpec.pre6 enc Try.prog Try.f6 Rows.drawLanesRow.domain false) (Rows.drawLanesSpec.post enc Try.prog Try.f6 false true false false) := by
  refine returnsInHanded_of_change (C := Try.checked) own started (by kernel_rfl) Try.func6
    (ChangeSpec.witness6 (enc := enc) (C := Try.checked) false ⟨#[], #[.slice none 0 0, .slice none 0 0], []⟩ 8 (by kernel_rfl) (by kernel_rfl) (by kernel_rfl) (by kernel_rfl)) ?_
  intro W base args ds gs before hval0 hW _ _
  have hval : ∀ (j : Nat) t v, Try.f6.params[j]? = some t → args[j]? = some v → Value.okWide Try.prog W .any base t v := hval0
  have hW' := hW
  obtain ⟨p, q, hA0, hV, rfl, hfz, hnd⟩ := hW
  have hA : DataW.TrodAll enc Try.prog W 0 (fun _ => true) true Try.f6.params.toList args.toList ds p := hA0
  rw [Try.params6] at hA hval
  obtain ⟨v0, vs0, d0, ds0, p0, q0, hargs, rfl, rfl, h0, r0⟩ := trodAll_cons hA
  obtain ⟨v1, vs1, d1, ds1, p1, q1, rfl, rfl, rfl, h1, r1⟩ := trodAll_cons r0
  obtain ⟨rfl, rfl, rfl⟩ := trodAll_nil r1
  obtain rfl : args = #[v0, v1] := by cases args; simp_all
  obtain ⟨rfl, rfl⟩ := trodVars_none hV
  have k0 := h0
  have lt0 : ∀ x ∈ p0, x.block < W.heap.size := by obtain ⟨m, hm⟩ := k0; exact DataW.trod_lt m _ _ _ hm
  have w0 := open_R (hval 0 22 v0 rfl rfl) h0
  have k1 := h1
  have lt1 : ∀ x ∈ p1, x.block < W.heap.size := by obtain ⟨m, hm⟩ := k1; exact DataW.trod_lt m _ _ _ hm
  have w1 := open_n (hval 1 44 v1 rfl rfl) h1
  clear hA0 hval0
  refine (walk_drawLanes v0 v1 W w0 w1).mono fun e W' ⟨he, bel⟩ => ?_
  subst he
  exact ⟨_, rfl, _, _, _, [], _, [], hW', trodAll_mk1 (shut_bool Try.underlying4 _), (trodAll_cons_mk (Below.trod laidOut (by kernel_rfl) (of_decide_eq_true (by kernel_rfl)) k0 bel lt0) (trodAll_cons_mk (Below.trod laidOut (by kernel_rfl) (of_decide_eq_true (by kernel_rfl)) k1 bel lt1) trodAll_mk0)), rfl, bel.frame _, fun h => by cases h⟩

theorem said : Rows.DrawLanesSaid :=
  OpenClaim.holds_of_wide 6 Try.f6 rfl rfl rfl rfl rfl rfl rfl ⟨rfl, rfl, rfl, rfl, rfl⟩ rfl rfl rfl rfl rfl (by kernel_rfl) Try.func6 (by kernel_rfl)
    (of_decide_eq_true (by kernel_rfl)) (by unfold Func.isWrapper; rw [if_neg (of_decide_eq_false (by kernel_rfl))]; exact ⟨rfl, rfl⟩)
    (fun os started H enc _ => lifted os started H enc)
#print axioms said
end LDrawLanes
end Go.Proofs.Ytaiejdopmlajmaa
