/- 'cachewiselaw05.LruResizes' returns true for every two sizes and every row of keys, and leaves what was there as it was. No condition. -/
import Derived.Test.YthbokiebnniifaaCut5
import Derived.Deep.RegionHeld3
namespace Go.Proofs.Ythbokiebnniifaa
open Go.ChangeShapes Go.WideShapes Go.ChangeAt Go.RowKit

set_option maxHeartbeats 8000000 in
set_option maxRecDepth 100000 in
theorem resizes_main (mo mo2 : Nat) (A : Option Addr) (n cc : Nat) (w : World) (S : Nat → ByteArray) (hmm : mo ≤ mo2) (hmo : mo2 ≤ 9223372036854775807) (hn : n ≤ 200) (hS : ∀ i, i < n → (S i).size ≤ maxLen)
    (hc : 0 < n → ∃ g o, A = some ⟨g, o, none⟩ ∧ g < w.heap.size ∧ n ≤ cc ∧ cc ≤ maxLen ∧ ∀ i, i < n → w.cell? ⟨g, o + i, none⟩ = some (.string (S i))) :
    Calls Try.prog 6 #[.int .i64 (mo : Int), .int .i64 (mo2 : Int), .slice A n cc] w (RetB true w) := by
  have e0 : decide (200 < (n : Int)) = false := by simp; omega
  have e1 : decide (mo2 < mo) = false := by simp; omega
  have HC := Lib.hid hc
  have HS := Lib.hid hS
  have HMM := Lib.hid hmm
  clear hc hS hmm
  go_enter Try.func6, Try.ntmps6
  go_wp2_with fail
  refine (awake_any _).mono ?_
  rintro e w0 ⟨rfl, hb0⟩
  have b0 := Lib.hid hb0; clear hb0
  go_wp2_with fail
  refine (new_pos w0 mo (by have := HMM.out; omega)).mono ?_
  rintro e w1 ⟨a, T1, rfl, hC, hT, hB⟩
  have L1 := Lib.hid (Live.made b0.out hC hT hB)
  clear hC hT hB b0
  go_wp2_with fail
  refine (new_pos w1 mo2 hmo).mono ?_
  rintro e w2 ⟨a2, T2, rfl, hC, hT, hB⟩
  have P1 := Lib.hid (Pair.made L1.out hC hT hB)
  clear hC hT hB L1
  go_wp2_with fail
  clear e0 e1
  go_loopw [9] (fun i W => Fill2 S n a mo a2 mo2 w i W) (fun i _ => n - (intOf i).toNat)
  case atStart => exact ⟨0, T1, T2, rfl, Nat.zero_le _, by rw [resI_zero, resI_zero]; exact P1.out⟩
  case round =>
    obtain ⟨k, T, T2, rfl, hk, hP⟩ := hrel
    have HP := Lib.hid hP
    clear hP P1
    by_cases hlt : k < n
    · have e0 : decide (k < n) = true := by simpa using hlt
      obtain ⟨g, o, rfl, hg, hc1, hc2, hcell⟩ := HC.out (by omega)
      have h1 := (HP.out.one.bel.cell (p := ⟨g, o + k, none⟩) hg).trans (hcell k hlt)
      have hsk := HS.out k hlt
      have hck := hcell k hlt
      clear hcell
      unfold maxLen at hc2
      have U := Lib.hid (request_ca wr a T mo _ k (S k) HP.out.one.ca hsk (by omega))
      have HSK := Lib.hid hsk
      unfold maxLen at hsk
      by_cases hbig : (S k).size ≤ 200
      · have e1 : decide (200 < ((S k).size : Int)) = false := by simp; omega
        go_wp2_with fail
        refine U.out.mono ?_
        intro e w2 hp
        obtain ⟨rfl, T3, hP3, _⟩ := HP.out.op1 hp
        rw [resI_succ] at hP3
        have P3 := Lib.hid hP3
        have h3 := (hP3.one.bel.cell (p := ⟨g, o + k, none⟩) hg).trans hck
        have U2 := Lib.hid (request_ca w2 a2 T2 mo2 _ k (S k) hP3.two.ca HSK.out (by omega))
        clear hp hP3 U h1 HP
        unfold stepV
        go_wp2_with fail
        refine U2.out.mono ?_
        intro e w3 hp
        obtain ⟨rfl, T4, hP4, _⟩ := P3.out.op2 hp
        rw [resI_succ] at hP4
        have P4 := Lib.hid hP4
        clear hp hP4 U2 P3
        unfold stepV
        go_wp2_with fail
        go_roundw
        case rel => exact ⟨k + 1, T3, T4, by go_num, by omega, P4.out⟩
        case measure => simp [intOf]; omega
      · have e1 : decide (200 < ((S k).size : Int)) = true := by simp; omega
        go_wp2_with fail
        go_ret
        exact ⟨rfl, HP.out.one.bel⟩
    · have e0 : decide (k < n) = false := by simpa using hlt
      obtain rfl : k = n := by omega
      go_wp2_with fail
      refine (keys_ca wr a2 T2 mo2 _ k HP.out.two.ca).mono ?_
      rintro e w2 ⟨v, rfl, hO, hB⟩
      have P2 := Lib.hid (HP.out.below hB)
      have M2 := Lib.hid (Mine.made hO HP.out.two.ca)
      clear hO hB HP e0
      have U := resize_ca w2 a2 T2 mo2 _ k (mo : Int) (by have := HMM.out; omega) P2.out.two.ca
      rw [Int.toNat_natCast] at U
      have U := Lib.hid U
      go_wp2_with fail
      refine U.out.mono ?_
      intro e w3 hp
      obtain ⟨v3, T3, rfl, hO, hP3, hW3, hv3⟩ := P2.out.res hp
      have M3 := Lib.hid (M2.out.went hW3 hP3.two.lt)
      have N3 := Lib.hid (Mine.of hO hv3 hP3.two.lt)
      have HLL := Lib.hid (show lastN mo (resI S mo2 k) = resI S mo k from lastN_lastN HMM.out _)
      have P3 := Lib.hid hP3
      clear hp hO hP3 hW3 hv3 P2 M2 U
      obtain ⟨q, hq⟩ : ∃ q, q = (resI S mo2 k).length := ⟨_, rfl⟩
      obtain ⟨p, hp⟩ : ∃ p, p = q - mo := ⟨_, rfl⟩
      rw [← hq, ← hp] at N3
      have hql : q ≤ 999 := by rw [hq]; exact P3.out.two.ca.le.2.2 |> fun _ => (by have h1 := rcv_len (keysI S k); rw [keysI_len] at h1; have h2 := lastN_len mo2 (rcv (keysI S k)); unfold resI; omega)
      have hpq : p ≤ q := by omega
      have E1 := Lib.hid (show lastN mo (resI S mo2 k) = (resI S mo2 k).drop p by unfold lastN; rw [← hq, ← hp])
      generalize resI S mo2 k = R at *
      obtain ⟨A3, c3, rfl⟩ := N3.out.shape
      obtain ⟨A2, c2, rfl⟩ := M3.out.shape
      have hl3 : (R.take p).length = p := by rw [List.length_take, ← hq]; omega
      rw [hl3] at N3 ⊢
      rw [← hq] at M3 ⊢
      have dw : Below w3.heap.size w3 w3.drew := ⟨rfl, rfl, rfl, Nat.le_refl _, fun _ _ => rfl⟩
      have PD := Lib.hid (P3.out.below dw)
      obtain ⟨gw, hRW, _⟩ := M3.out.below dw
      obtain ⟨go, hRO, _⟩ := N3.out.below dw
      obtain ⟨Af, f1, f2, hRF⟩ := row_from hRW hq.symm hpq
      obtain ⟨At, t1, t2, hRT⟩ := row_to hRW hq.symm hpq
      have U1 := Lib.hid (refSame_self _ go gw _ _ _ hRO hRT)
      have RF := Lib.hid hRF
      have e3 : decide (p ≤ q) = true := by simpa using hpq
      clear hRW hRO hRF hRT dw M3 N3 P3 hl3 hp hq
      go_wp2_with fail
      go_region_held3 (fun _ => True) (trivial)
        (first
          | (go_at_call 22; refine U1.out.mono ?_; rintro e W1 ⟨rfl, q1, hw1⟩; have b1 : Below w3.drew.heap.size w3.drew W1 := (by rw [hw1]; exact below_drewN _ q1); have P1 := Lib.hid (PD.out.below b1); have RF1 := Lib.hid (RF.out.below b1); have U2 := Lib.hid (keys_ca W1 a2 T3 mo _ _ P1.out.two.ca); clear b1 hw1 U1 PD RF)
          | (go_at_call 25; refine U2.out.mono ?_; rintro e W2 ⟨v2, rfl, hO, hB⟩; have P2 := Lib.hid (P1.out.below hB); obtain ⟨g2, _, hr2⟩ := hO.row; rw [E1.out] at hr2; have U3 := Lib.hid (refSame_self W2 g2 gw _ _ _ hr2 (RF1.out.below hB)); clear hO hB hr2 U2 P1 RF1)
          | (go_at_call 22; refine U3.out.mono ?_; rintro e W3 ⟨rfl, q3, hw3⟩; have P3 := Lib.hid (P2.out.below (show Below W2.heap.size W2 W3 by rw [hw3]; exact below_drewN _ q3)); have U4 := Lib.hid (keys_ca W3 a T mo _ _ P3.out.one.ca); clear hw3 U3 P2)
          | (go_at_call 25; refine U4.out.mono ?_; rintro e W4 ⟨v4, rfl, hO, hB⟩; have P4 := Lib.hid (P3.out.below hB); obtain ⟨g4, _, hr4⟩ := hO.row; have R4 := Lib.hid hr4; have U5 := Lib.hid (keys_ca W4 a2 T3 mo _ _ P4.out.two.ca); clear hO hB hr4 U4 P3)
          | (go_at_call 25; refine U5.out.mono ?_; rintro e W5 ⟨v5, rfl, hO, hB⟩; have P5 := Lib.hid (P4.out.below hB); obtain ⟨g5, _, hr5⟩ := hO.row; rw [HLL.out] at hr5; have U6 := Lib.hid (refSame_self W5 g4 g5 _ _ _ (R4.out.below hB) hr5); clear hO hB hr5 U5 P4 R4)
          | (go_at_call 22; refine U6.out.mono ?_; rintro e W6 ⟨rfl, q6, hw6⟩; have B6 := Lib.hid (show Below w.heap.size w W6 by rw [hw6]; exact P5.out.one.bel.trans ((below_drewN _ q6).mono P5.out.one.bel.size)); clear hw6 U6 P5))
      all_goals
        go_wp2_with fail
        go_ret
        exact ⟨rfl, B6.out⟩

theorem walk_lruResizes (a0 a1 : Int) (v2 : Value) (w : World) (w0 : (Lit.int .i64 a0).wf = true) (w1 : (Lit.int .i64 a1).wf = true) (w2 : CameS w v2) : Calls Try.prog 6 #[.int .i64 a0, .int .i64 a1, v2] w (RetB true w) := by
  obtain ⟨A, n, c, rfl, hn, S, hr, hc⟩ := w2
  have hz := i64_rng w0
  have hz1 := i64_rng w1
  have hn2 := hn
  unfold maxLen at hn2
  clear w0 w1
  by_cases hneg : a0 < 0
  · have e0 : decide (a0 < 0) = true := by simpa using hneg
    clear hr hc
    go_enter Try.func6, Try.ntmps6
    go_wp2_with fail
    refine (awake_any _).mono ?_
    rintro e w0 ⟨rfl, hb0⟩
    go_wp2_with fail
    go_ret
    exact ⟨rfl, hb0⟩
  · by_cases hle : a1 < a0
    · have e0 : decide (a0 < 0) = false := by simpa using hneg
      have e1 : decide (a1 < a0) = true := by simpa using hle
      clear hr hc
      go_enter Try.func6, Try.ntmps6
      go_wp2_with fail
      refine (awake_any _).mono ?_
      rintro e w0 ⟨rfl, hb0⟩
      go_wp2_with fail
      go_ret
      exact ⟨rfl, hb0⟩
    · by_cases hbig : n ≤ 200
      · obtain ⟨mo, rfl⟩ : ∃ m : Nat, a0 = (m : Int) := ⟨a0.toNat, by omega⟩
        obtain ⟨mo2, rfl⟩ : ∃ m : Nat, a1 = (m : Int) := ⟨a1.toNat, by omega⟩
        exact resizes_main mo mo2 A n c w S (by omega) (by omega) hbig hr hc
      · have e0 : decide (a0 < 0) = false := by simpa using hneg
        have e1 : decide (a1 < a0) = false := by simpa using hle
        have e2 : decide (200 < (n : Int)) = true := by simp; omega
        clear hr hc
        go_enter Try.func6, Try.ntmps6
        go_wp2_with fail
        refine (awake_any _).mono ?_
        rintro e w0 ⟨rfl, hb0⟩
        go_wp2_with fail
        go_ret
        exact ⟨rfl, hb0⟩

namespace LLruResizes
set_option maxRecDepth 100000 in
theorem lifted (os : Os) (started : os.Started) (H : Type) (enc : TypeId × Value → H) :
    ReturnsInHanded {} Try.checked os 6 .any (Rows.lruResizesSpec.pre6 enc Try.prog Try.f6 Rows.lruResizesRow.domain false) (Rows.lruResizesSpec.post enc Try.prog Try.f6 false true false false) := by
  refine returnsInHanded_of_change (C := Try.checked) own started (by kernel_rfl) Try.func6
    (ChangeSpec.witness6 (enc := enc) (C := Try.checked) false ⟨#[], #[.int .i64 0, .int .i64 0, .slice none 0 0], []⟩ 8 (by kernel_rfl) (by kernel_rfl) (by kernel_rfl) (by kernel_rfl)) ?_
  intro W base args ds gs before hval0 hW _ _
  have hval : ∀ (j : Nat) t v, Try.f6.params[j]? = some t → args[j]? = some v → Value.okWide Try.prog W .any base t v := hval0
  have hW' := hW
  obtain ⟨p, q, hA0, hV, rfl, hfz, hnd⟩ := hW
  have hA : DataW.TrodAll enc Try.prog W 0 (fun _ => true) true Try.f6.params.toList args.toList ds p := hA0
  rw [Try.params6] at hA hval
  obtain ⟨v0, vs0, d0, ds0, p0, q0, hargs, rfl, rfl, h0, r0⟩ := trodAll_cons hA
  obtain ⟨v1, vs1, d1, ds1, p1, q1, rfl, rfl, rfl, h1, r1⟩ := trodAll_cons r0
  obtain ⟨v2, vs2, d2, ds2, p2, q2, rfl, rfl, rfl, h2, r2⟩ := trodAll_cons r1
  obtain ⟨rfl, rfl, rfl⟩ := trodAll_nil r2
  obtain rfl : args = #[v0, v1, v2] := by cases args; simp_all
  obtain ⟨rfl, rfl⟩ := trodVars_none hV
  obtain ⟨a0, rfl, rfl, rfl, w0⟩ := open_int Try.underlying3 (hval 0 3 v0 rfl rfl) h0
  obtain ⟨a1, rfl, rfl, rfl, w1⟩ := open_int Try.underlying3 (hval 1 3 v1 rfl rfl) h1
  have k2 := h2
  have lt2 : ∀ x ∈ p2, x.block < W.heap.size := by obtain ⟨m, hm⟩ := k2; exact DataW.trod_lt m _ _ _ hm
  have w2 := open_z (hval 2 27 v2 rfl rfl) h2
  clear hA0 hval0
  refine (walk_lruResizes a0 a1 v2 W w0 w1 w2).mono fun e W' ⟨he, bel⟩ => ?_
  subst he
  exact ⟨_, rfl, _, _, _, [], _, [], hW', trodAll_mk1 (shut_bool Try.underlying4 _), (trodAll_cons_mk (shut_int Try.underlying3 w0) (trodAll_cons_mk (shut_int Try.underlying3 w1) (trodAll_cons_mk (Below.trod laidOut (by kernel_rfl) (of_decide_eq_true (by kernel_rfl)) k2 bel lt2) trodAll_mk0))), rfl, bel.frame _, fun h => by cases h⟩

theorem said : Rows.LruResizesSaid :=
  OpenClaim.holds_of_wide 6 Try.f6 rfl rfl rfl rfl rfl rfl rfl ⟨rfl, rfl, rfl, rfl, rfl⟩ rfl rfl rfl rfl rfl (by kernel_rfl) Try.func6 (by kernel_rfl)
    (of_decide_eq_true (by kernel_rfl)) (by unfold Func.isWrapper; rw [if_neg (of_decide_eq_false (by kernel_rfl))]; exact ⟨rfl, rfl⟩)
    (fun os started H enc _ => lifted os started H enc)
#print axioms said
end LLruResizes
end Go.Proofs.Ythbokiebnniifaa
