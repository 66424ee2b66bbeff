/- 'cachewiselaw06.LfuOrder' returns true for every size, either way, every row of keys and every smaller size, and leaves what was there as it was. No condition. -/
import Derived.Test.YtdbfojolocelaaaCut6
import Derived.Deep.RegionHeld3
namespace Go.Proofs.Ytdbfojolocelaaa
open Go.ChangeShapes Go.WideShapes Go.ChangeAt Go.RowKit Ht HS Lf
open Go.ChangeMaps (open_string shut_string)

/-- Two caches and the first one's keys; the loop over them. -/
def Ord1 (w0 : World) (a : Nat) (T : Nat → Prop) (mo : Nat) (ch : Bool) (R : List (Ent Key)) (n a2 : Nat) (T2 : Nat → Prop) (v i : Value) (W : World) : Prop := ∃ k : Nat, i = .int .i64 (k : Int) ∧ k ≤ R.length ∧ Pair w0 W a T mo ch R n a2 T2 mo ch R n ∧ Mine W (fun k => T k ∨ T2 k) v (keysL R)
/-- The first one's residents let go. -/
def Ord2 (w0 : World) (a : Nat) (mo : Nat) (ch : Bool) (R : List (Ent Key)) (n : Nat) (v i : Value) (W : World) : Prop := ∃ (k : Nat) (T : Nat → Prop), i = .int .i64 (k : Int) ∧ k ≤ R.length ∧ Live w0 W a T mo ch (R.drop k) n ∧ Mine W T v (keysL R)
theorem Mine.less {w : World} {S S' : Nat → Prop} {v : Value} {xs : List ByteArray} (m : Mine w S v xs) (h : ∀ k, S' k → S k) : Mine w S' v xs := by
  obtain ⟨g, hr, hn⟩ := m
  exact ⟨g, hr, fun hk => hn (h g hk)⟩
theorem Went.join {w w' : World} {S S' : Nat → Prop} (h : Went w w' S S') (T : Nat → Prop) : Went w w' (fun k => T k ∨ S k) (fun k => T k ∨ S' k) :=
  ⟨fun k hk => by
    rcases hk with h1 | h1
    · exact Or.inl (Or.inl h1)
    · exact (h.new k h1).imp Or.inr id, h.turn.wide fun _ _ h => Or.inr h⟩
theorem Mine.both {w w' : World} {S S2 : Nat → Prop} {v : Value} {xs : List ByteArray} (o : Own w' w.heap.size v xs) (h1 : ∀ k, S k → k < w.heap.size) (h2 : ∀ k, S2 k → k < w.heap.size) : Mine w' (fun k => S k ∨ S2 k) v xs := by
  obtain ⟨g, hg, hr⟩ := o.row
  refine ⟨g, hr, fun hk => ?_⟩
  rcases hk with h | h
  · have := h1 g h; omega
  · have := h2 g h; omega

set_option maxHeartbeats 8000000 in
set_option maxRecDepth 100000 in
theorem order_main (mo ls : Nat) (ch : Bool) (A : Option Addr) (n cc : Nat) (w : World) (S : Nat → ByteArray) (hz : 1 ≤ mo ∧ mo ≤ 9223372036854775807) (hls : ls ≤ 9223372036854775807) (hn : n ≤ 200) (hS : ∀ i, i < n → (S i).size ≤ maxLen)
    (hc : 0 < n → ∃ g o, A = some ⟨g, o, none⟩ ∧ g < w.heap.size ∧ n ≤ cc ∧ cc ≤ maxLen ∧ ∀ i, i < n → w.cell? ⟨g, o + i, none⟩ = some (.string (S i))) :
    Calls Try.prog 7 #[.int .i64 (mo : Int), .bool ch, .slice A n cc, .int .i64 (ls : Int)] w (RetB true w) := by
  have e0 : decide (200 < (n : Int)) = false := by simp; omega
  have e2 : decide ((mo : Int) < 1) = false := by simp; omega
  have e3 : decide ((ls : Int) < 0) = false := by simp
  have HC := Lib.hid hc
  have HS := Lib.hid hS
  clear hc hS
  go_enter Try.func7, Try.ntmps7
  go_wp2_with fail
  refine (awake_any _).mono ?_
  rintro e w0 ⟨rfl, hb0⟩
  have b0 := Lib.hid hb0; clear hb0
  go_wp2_with fail
  refine (new_pos w0 mo ch hz.2).mono ?_
  rintro e w1 ⟨a, T1, rfl, hC, hT, hB⟩
  have L1 := Lib.hid (Live.made b0.out hC hT hB)
  clear hC hT hB b0
  go_wp2_with fail
  refine (new_pos w1 mo ch hz.2).mono ?_
  rintro e w2 ⟨a2, T2, rfl, hC, hT, hB⟩
  have P1 := Lib.hid (Pair.made L1.out hC hT hB)
  clear hC hT hB L1
  go_wp2_with fail
  clear e0 e2 e3
  go_loopw [11] (fun i W => Fill2 S n mo ch ch a a2 w i W) (fun i _ => n - (intOf i).toNat)
  case atStart => exact ⟨0, T1, T2, rfl, Nat.zero_le _, P1.out⟩
  case round =>
    obtain ⟨k, T, T2, rfl, hk, hP⟩ := hrel
    have HP := Lib.hid hP
    clear hP P1
    by_cases hlt : k < n
    · have e0 : decide (k < n) = true := by simpa using hlt
      obtain ⟨g, o, rfl, hg, hc1, hc2, hcell⟩ := HC.out (by omega)
      have h1 := (HP.out.one.bel.cell (p := ⟨g, o + k, none⟩) hg).trans (hcell k hlt)
      have hsk := HS.out k hlt
      have hck := hcell k hlt
      clear hcell
      unfold maxLen at hc2
      have U := Lib.hid (request_one wr a T mo ch _ k (S k) HP.out.one.ca hsk (by omega) hz.1)
      have HSK := Lib.hid hsk
      unfold maxLen at hsk
      by_cases hbig : (S k).size ≤ 200
      · have e1 : decide (200 < ((S k).size : Int)) = false := by simp; omega
        go_wp2_with fail
        refine U.out.mono ?_
        intro e w2 hp
        obtain ⟨rfl, T3, hP3, _⟩ := HP.out.op1 hp
        have P3 := Lib.hid hP3
        have h3 := (hP3.one.bel.cell (p := ⟨g, o + k, none⟩) hg).trans hck
        have U2 := Lib.hid (request_one w2 a2 T2 mo ch _ k (S k) hP3.two.ca HSK.out (by omega) hz.1)
        clear hp hP3 U h1 HP
        unfold stepV
        go_wp2_with fail
        refine U2.out.mono ?_
        intro e w3 hp
        obtain ⟨rfl, T4, hP4, _⟩ := P3.out.op2 hp
        have P4 := Lib.hid hP4
        clear hp hP4 U2 P3
        unfold stepV
        go_wp2_with fail
        go_roundw
        case rel => exact ⟨k + 1, T3, T4, by go_num, by omega, P4.out⟩
        case measure => simp [intOf]; omega
      · have e1 : decide (200 < ((S k).size : Int)) = true := by simp; omega
        go_wp2_with fail
        go_ret
        exact ⟨rfl, HP.out.one.bel⟩
    · have e0 : decide (k < n) = false := by simpa using hlt
      obtain rfl : k = n := by omega
      go_wp2_with fail
      generalize resI ch S mo k = R at *
      refine (keys_ca wr a T mo ch R k HP.out.one.ca).mono ?_
      rintro e w2 ⟨v, rfl, hO, hB⟩
      have P2 := Lib.hid (HP.out.below hB)
      have M2 := Lib.hid (Mine.both hO HP.out.one.lt HP.out.two.lt)
      have hql : R.length ≤ 201 := by have := once_len HP.out.one.ca.once; omega
      clear hO hB HP e0
      obtain ⟨Av, cv, rfl⟩ := M2.out.shape
      rw [keysL_len] at M2 ⊢
      go_wp2_with fail
      go_loopw [13] (fun i W => Ord1 w a T mo ch R k a2 T2 (.slice Av R.length cv) i W) (fun i _ => R.length - (intOf i).toNat)
      case atStart => exact ⟨0, rfl, Nat.zero_le _, P2.out, M2.out⟩
      case round =>
        obtain ⟨j, rfl, hj, hP, hM⟩ := hrel
        have P3 := Lib.hid hP
        have M3 := Lib.hid hM
        clear hP hM P2 M2
        by_cases hj1 : j + 1 < R.length
        · have e1 : decide (j + 1 < R.length) = true := by simpa using hj1
          have e1' : decide ((j : Int) + 1 < (R.length : Int)) = true := by simp; omega
          obtain ⟨g, hr, hng⟩ := M3.out
          have HR := Lib.hid hr
          obtain ⟨o, rfl, hg, c1, hc1, hc2⟩ := hr.at (k := j) (by rw [keysL_len]; omega)
          obtain ⟨j1, hj1e⟩ : ∃ j1, j1 = j + 1 := ⟨_, rfl⟩
          obtain ⟨o', ho', _, c2, _, _⟩ := hr.at (k := j1) (by rw [keysL_len]; omega)
          obtain rfl : o = o' := by injection ho' with ho'; injection ho'
          rw [keysL_len] at hc1
          have hle := ord_getD P3.out.one.ca.once P3.out.one.ca.srt hj1
          rw [← hj1e] at hle
          have s1 := hr.2.1 ((keysL R).getD j ⟨#[]⟩) (by rw [List.getD_eq_getElem?_getD, List.getElem?_eq_getElem (by rw [keysL_len]; omega)]; exact List.getElem_mem _)
          have s2 := hr.2.1 ((keysL R).getD j1 ⟨#[]⟩) (by rw [List.getD_eq_getElem?_getD, List.getElem?_eq_getElem (by rw [keysL_len]; omega)]; exact List.getElem_mem _)
          generalize (keysL R).getD j ⟨#[]⟩ = x at c1 s1 hle
          generalize (keysL R).getD j1 ⟨#[]⟩ = y at c2 s2 hle
          have U1 := times_ca wr.drew a T mo ch R k x (P3.out.one.ca.below ⟨rfl, rfl, rfl, Nat.le_refl _, fun _ _ => rfl⟩) s1
          have U2 := fun (w' : World) (h : Ca w' a T mo ch R k) => times_ca w' a T mo ch R k y h s2
          obtain ⟨tx, htx⟩ : ∃ t, t = tms R x := ⟨_, rfl⟩
          obtain ⟨ty, hty⟩ : ∃ t, t = tms R y := ⟨_, rfl⟩
          rw [← htx] at U1 hle
          rw [← hty] at U2 hle
          have e2 : decide (ty < tx) = false := by simp; omega
          have U1 := Lib.hid U1
          have U2 := Lib.hid U2
          have BD := Lib.hid (show ∀ w2, Below wr.drew.heap.size wr.drew w2 → Below wr.heap.size wr w2 from fun w2 hB => ⟨hB.os, hB.tape, hB.output, hB.size, hB.block⟩)
          have BC := Lib.hid (show ∀ w2, Below wr.heap.size wr w2 → w2.cell? ⟨g, o + j, none⟩ = some (.string x) ∧ w2.cell? ⟨g, o + j1, none⟩ = some (.string y) from fun w2 hB => ⟨(hB.cell (p := ⟨g, o + j, none⟩) (cell_lt c1)).trans c1, (hB.cell (p := ⟨g, o + j1, none⟩) (cell_lt c2)).trans c2⟩)
          have HNG := Lib.hid hng
          unfold maxLen at hc2
          have i1 : (0 : Int) ≤ (j : Int) := by omega
          have i2 : (j : Int) < (R.length : Int) := by omega
          have i3 : (0 : Int) ≤ (j1 : Int) := by omega
          have i4 : (j1 : Int) < (R.length : Int) := by omega
          have i5 : j < R.length := by omega
          have i6 : j1 < R.length := by omega
          have hw : IntKind.i64.wrap ((j : Int) + 1) = (j1 : Int) := by rw [Go.IntWalk.i64_in _ (by omega), hj1e]; rfl
          clear hj1e htx hty hr hng ho' hle s1 s2
          go_wp2_with fail
          go_region_held3 (fun w' => w'.cell? ⟨g, o + j, none⟩ = some (.string x) ∧ w'.cell? ⟨g, o + j1, none⟩ = some (.string y)) (first | (exact ⟨‹_›, ‹_›⟩) | go_keep)
            (first
              | (go_at_call 29; refine U1.out.mono ?_; rintro e w4 ⟨rfl, hB⟩; have B4 := Lib.hid (BD.out w4 hB); have z1 := (BC.out w4 B4.out).1; have z2 := (BC.out w4 B4.out).2; clear hB U1)
              | (go_at_call 29; refine (U2.out w4 (P3.out.one.ca.below B4.out)).mono ?_; rintro e w5 ⟨rfl, hB⟩; have B5 := Lib.hid (B4.out.trans (hB.mono B4.out.size)); have z3 := (BC.out w5 B5.out).1; have z4 := (BC.out w5 B5.out).2; clear hB))
          clear hw i1 i2 i3 i4 i6
          go_wp2_with fail
          go_roundw
          case rel => exact ⟨j + 1, by go_num, by omega, P3.out.below B5.out, ⟨g, HR.out.below B5.out, HNG.out⟩⟩
          case measure => simp [intOf]; omega
        · have e1 : decide (j + 1 < R.length) = false := by simpa using hj1
          have e1' : decide ((j : Int) + 1 < (R.length : Int)) = false := by simp; omega
          obtain ⟨q, hq⟩ : ∃ q, q = R.length := ⟨_, rfl⟩
          obtain ⟨p, hp⟩ : ∃ p, p = q - ls := ⟨_, rfl⟩
          have U := resize_ca wr a2 T2 mo ch R k (ls : Int) (by omega) P3.out.two.ca
          rw [Int.toNat_natCast] at U
          have U := Lib.hid U
          go_wp2_with fail
          refine U.out.mono ?_
          intro e w4 hpp
          obtain ⟨v4, T4, rfl, hO, hP4, hW4, hv4⟩ := P3.out.res hpp
          have M4 := Lib.hid (M3.out.went (hW4.join T) (fun k hk => by rcases hk with h | h; exact hP4.one.lt k h; exact hP4.two.lt k h))
          have N4 := Lib.hid (Mine.of hO hv4 hP4.two.lt)
          have P4 := Lib.hid hP4
          clear hpp hO hP4 hW4 hv4 P3 M3 U e1 e1'
          rw [← hq, ← hp] at N4 P4
          have HKL := Lib.hid (show (keysL R).length = q by rw [keysL_len, hq])
          have HRL := Lib.hid hq.symm
          have E1 := Lib.hid (show keysL (R.drop p) = (keysL R).drop p from keys_drop R p)
          obtain ⟨A4, c4, rfl⟩ := N4.out.shape
          have hl4 : ((keysL R).take p).length = p := by rw [List.length_take, keysL_len, ← hq]; omega
          rw [hl4] at N4 ⊢
          rw [← hq] at M4 hql ⊢
          have hpq : p ≤ q := by omega
          have dw : Below w4.heap.size w4 w4.drew := ⟨rfl, rfl, rfl, Nat.le_refl _, fun _ _ => rfl⟩
          have PD := Lib.hid (P4.out.below dw)
          obtain ⟨gw, hRW, hgw⟩ := M4.out.below dw
          obtain ⟨go, hRO, _⟩ := N4.out.below dw
          obtain ⟨Af, f1, f2, hRF⟩ := row_from hRW HKL.out hpq
          obtain ⟨At, t1, t2, hRT⟩ := row_to hRW HKL.out hpq
          have U1 := Lib.hid (refSame_self _ go gw _ _ _ hRO hRT)
          have RF := Lib.hid hRF
          have RW := Lib.hid hRW
          have HGW := Lib.hid hgw
          have hwr : IntKind.i64.wrap ((q : Int) - (ls : Int)) = (q : Int) - (ls : Int) := Go.IntWalk.i64_in _ (by omega)
          have hmx : max (0 : Int) ((q : Int) - (ls : Int)) = (p : Int) := by omega
          have e3 : decide (p ≤ q) = true := by simpa using hpq
          clear hRW hRO hRF hRT dw M4 N4 P4 hl4 hp hq hgw hj hj1
          go_wp2_with fail
          go_region_held3 (fun _ => True) (trivial)
            (first
              | (go_at_call 22; refine U1.out.mono ?_; rintro e W1 ⟨rfl, q1, hw1⟩; have b1 : Below w4.drew.heap.size w4.drew W1 := (by rw [hw1]; exact below_drewN _ q1); have P1 := Lib.hid (PD.out.below b1); have RF1 := Lib.hid (RF.out.below b1); have RW1 := Lib.hid (RW.out.below b1); have U2 := Lib.hid (keys_ca W1 a2 T4 ls ch _ _ P1.out.two.ca); clear b1 hw1 U1 PD RF RW)
              | (go_at_call 26; refine U2.out.mono ?_; rintro e W2 ⟨v2, rfl, hO, hB⟩; have P2 := Lib.hid (P1.out.below hB); have RW2 := Lib.hid (RW1.out.below hB); obtain ⟨g2, _, hr2⟩ := hO.row; rw [E1.out] at hr2; have U3 := Lib.hid (refSame_self W2 g2 gw _ _ _ hr2 (RF1.out.below hB)); clear hO hB hr2 U2 P1 RF1 RW1)
              | (go_at_call 22; refine U3.out.mono ?_; rintro e W3 ⟨rfl, q3, hw3⟩; have b3 : Below W2.heap.size W2 W3 := (by rw [hw3]; exact below_drewN _ q3); have P5 := Lib.hid (P2.out.below b3); have RW3 := Lib.hid (RW2.out.below b3); clear b3 hw3 U3 P2 RW2))
          clear hwr hmx f1 f2 t1 t2 e3
          go_wp2_with fail
          go_loopw [15] (fun i W => Ord2 w a mo ch R k (.slice Av q cv) i W) (fun i _ => q - (intOf i).toNat)
          case atStart => exact ⟨0, T, rfl, Nat.zero_le _, P5.out.one, ⟨gw, RW3.out, fun hk => HGW.out (Or.inl hk)⟩⟩
          case round =>
            obtain ⟨j, T6, rfl, hj, hL6, hM6⟩ := hrel
            rw [HRL.out] at hj
            have L6 := Lib.hid hL6
            have M6 := Lib.hid hM6
            clear hL6 hM6 P5 RW3
            by_cases hjq : j < q
            · have e1 : decide (j < q) = true := by simpa using hjq
              have hjR : j < R.length := by rw [HRL.out]; exact hjq
              have U := drop_ca wr a T6 mo ch (R.drop j) k L6.out.ca
              rw [(hd_drop hjR).1, (hd_drop hjR).2.1, (hd_drop hjR).2.2] at U
              obtain ⟨x, hx⟩ : ∃ x, x = (keysL R).getD j ⟨#[]⟩ := ⟨_, rfl⟩
              rw [← hx] at U
              have U := Lib.hid U
              have HX := Lib.hid hx
              have e2 := beqS_yes (rfl : x = x)
              clear hx hjR
              go_wp2_with fail
              refine U.out.mono ?_
              intro e w7 hpp
              obtain ⟨rfl, T7, hL7, hW7⟩ := L6.out.op hpp
              have M7 := Lib.hid (M6.out.went hW7 hL7.lt)
              have L7 := Lib.hid hL7
              clear hpp hL7 hW7 U L6 M6
              obtain ⟨g7, hr7, hn7⟩ := M7.out
              obtain ⟨o7, rfl, hg7, c7, hc7, hd7⟩ := hr7.at (k := j) (by rw [HKL.out]; exact hjq)
              rw [← HX.out] at c7
              rw [HKL.out] at hc7
              unfold maxLen at hd7
              clear hr7 hn7
              go_wp2_with fail
              go_roundw
              case rel => exact ⟨j + 1, T7, by go_num, by rw [HRL.out]; omega, L7.out, M7.out⟩
              case measure => simp [intOf]; omega
            · have e1 : decide (j < q) = false := by simpa using hjq
              obtain rfl : j = q := by omega
              have U := len_ca wr a T6 mo ch (R.drop j) k L6.out.ca
              rw [show (R.drop j).length = 0 by rw [List.length_drop, HRL.out]; omega] at U
              have U := Lib.hid U
              go_wp2_with fail
              refine U.out.mono ?_
              rintro e w8 ⟨rfl, rfl⟩
              go_wp2_with fail
              go_ret
              exact ⟨rfl, L6.out.bel⟩

theorem walk_lfuOrder (a0 : Int) (a1 : Bool) (v2 : Value) (a3 : Int) (w : World) (w0 : (Lit.int .i64 a0).wf = true) (w2 : CameS w v2) (w3 : (Lit.int .i64 a3).wf = true) : Calls Try.prog 7 #[.int .i64 a0, .bool a1, v2, .int .i64 a3] w (RetB true w) := by
  obtain ⟨A, n, c, rfl, hn, S, hr, hc⟩ := w2
  have hz := i64_rng w0
  have hz3 := i64_rng w3
  have hn2 := hn
  unfold maxLen at hn2
  clear w0 w3
  by_cases hbig : n ≤ 200
  · have e0 : decide (200 < (n : Int)) = false := by simp; omega
    by_cases hpos : 1 ≤ a0
    · by_cases h3 : 0 ≤ a3
      · obtain ⟨mo, rfl⟩ : ∃ m : Nat, a0 = (m : Int) := ⟨a0.toNat, by omega⟩
        obtain ⟨ls, rfl⟩ : ∃ m : Nat, a3 = (m : Int) := ⟨a3.toNat, by omega⟩
        exact order_main mo ls a1 A n c w S (by omega) (by omega) hbig hr hc
      · have e1 : decide (a0 < 1) = false := by simp; omega
        have e2 : decide (a3 < 0) = true := by simp; omega
        clear hr hc
        go_enter Try.func7, Try.ntmps7
        go_wp2_with fail
        refine (awake_any _).mono ?_
        rintro e w0 ⟨rfl, hb0⟩
        go_wp2_with fail
        go_ret
        exact ⟨rfl, hb0⟩
    · have e1 : decide (a0 < 1) = true := by simp; omega
      clear hr hc
      go_enter Try.func7, Try.ntmps7
      go_wp2_with fail
      refine (awake_any _).mono ?_
      rintro e w0 ⟨rfl, hb0⟩
      go_wp2_with fail
      go_ret
      exact ⟨rfl, hb0⟩
  · have e0 : decide (200 < (n : Int)) = true := by simp; omega
    clear hr hc
    go_enter Try.func7, Try.ntmps7
    go_wp2_with fail
    refine (awake_any _).mono ?_
    rintro e w0 ⟨rfl, hb0⟩
    go_wp2_with fail
    go_ret
    exact ⟨rfl, hb0⟩

namespace LLfuOrder
set_option maxRecDepth 100000 in
theorem lifted (os : Os) (started : os.Started) (H : Type) (enc : TypeId × Value → H) :
    ReturnsInHanded {} Try.checked os 7 .any (Rows.lfuOrderSpec.pre6 enc Try.prog Try.f7 Rows.lfuOrderRow.domain false) (Rows.lfuOrderSpec.post enc Try.prog Try.f7 false true false false) := by
  refine returnsInHanded_of_change (C := Try.checked) own started (by kernel_rfl) Try.func7
    (ChangeSpec.witness6 (enc := enc) (C := Try.checked) false ⟨#[], #[.int .i64 0, .bool false, .slice none 0 0, .int .i64 0], []⟩ 8 (by kernel_rfl) (by kernel_rfl) (by kernel_rfl) (by kernel_rfl)) ?_
  intro W base args ds gs before hval0 hW _ _
  have hval : ∀ (j : Nat) t v, Try.f7.params[j]? = some t → args[j]? = some v → Value.okWide Try.prog W .any base t v := hval0
  have hW' := hW
  obtain ⟨p, q, hA0, hV, rfl, hfz, hnd⟩ := hW
  have hA : DataW.TrodAll enc Try.prog W 0 (fun _ => true) true Try.f7.params.toList args.toList ds p := hA0
  rw [Try.params7] at hA hval
  obtain ⟨v0, vs0, d0, ds0, p0, q0, hargs, rfl, rfl, h0, r0⟩ := trodAll_cons hA
  obtain ⟨v1, vs1, d1, ds1, p1, q1, rfl, rfl, rfl, h1, r1⟩ := trodAll_cons r0
  obtain ⟨v2, vs2, d2, ds2, p2, q2, rfl, rfl, rfl, h2, r2⟩ := trodAll_cons r1
  obtain ⟨v3, vs3, d3, ds3, p3, q3, rfl, rfl, rfl, h3, r3⟩ := trodAll_cons r2
  obtain ⟨rfl, rfl, rfl⟩ := trodAll_nil r3
  obtain rfl : args = #[v0, v1, v2, v3] := by cases args; simp_all
  obtain ⟨rfl, rfl⟩ := trodVars_none hV
  obtain ⟨a0, rfl, rfl, rfl, w0⟩ := open_int Try.underlying3 (hval 0 3 v0 rfl rfl) h0
  obtain ⟨a1, rfl, rfl, rfl⟩ := Go.RowKit.open_bool Try.underlying4 (hval 1 4 v1 rfl rfl) h1
  have k2 := h2
  have lt2 : ∀ x ∈ p2, x.block < W.heap.size := by obtain ⟨m, hm⟩ := k2; exact DataW.trod_lt m _ _ _ hm
  have w2 := open_z (hval 2 47 v2 rfl rfl) h2
  obtain ⟨a3, rfl, rfl, rfl, w3⟩ := open_int Try.underlying3 (hval 3 3 v3 rfl rfl) h3
  clear hA0 hval0
  refine (walk_lfuOrder a0 a1 v2 a3 W w0 w2 w3).mono fun e W' ⟨he, bel⟩ => ?_
  subst he
  exact ⟨_, rfl, _, _, _, [], _, [], hW', trodAll_mk1 (shut_bool Try.underlying4 _), (trodAll_cons_mk (shut_int Try.underlying3 w0) (trodAll_cons_mk (shut_bool Try.underlying4 _) (trodAll_cons_mk (Below.trod laidOut (by kernel_rfl) (of_decide_eq_true (by kernel_rfl)) k2 bel lt2) (trodAll_cons_mk (shut_int Try.underlying3 w3) trodAll_mk0)))), rfl, bel.frame _, fun h => by cases h⟩

theorem said : Rows.LfuOrderSaid :=
  OpenClaim.holds_of_wide 7 Try.f7 rfl rfl rfl rfl rfl rfl rfl ⟨rfl, rfl, rfl, rfl, rfl⟩ rfl rfl rfl rfl rfl (by kernel_rfl) Try.func7 (by kernel_rfl)
    (of_decide_eq_true (by kernel_rfl)) (by unfold Func.isWrapper; rw [if_neg (of_decide_eq_false (by kernel_rfl))]; exact ⟨rfl, rfl⟩)
    (fun os started H enc _ => lifted os started H enc)
#print axioms said
end LLfuOrder
end Go.Proofs.Ytdbfojolocelaaa
