/- 'cachewiselaw05.LruRecent' returns true for every size and every row of keys, and leaves what was there as it was. No condition. -/
import Derived.Test.YthbokiebnniifaaRc
namespace Go.Proofs.Ythbokiebnniifaa
open Go.ChangeShapes Go.WideShapes Go.ChangeAt Go.RowKit

/-- What is wanted so far. -/
def WantR (S : Nat → ByteArray) (n c mo : Nat) (T : Nat → Prop) (w0 : World) (v z : Value) (W : World) : Prop := ∃ (j : Nat) (t : Int), z = .int .i64 t ∧ t = (j : Int) - 1 ∧ j ≤ n ∧ (rcv (tlI S n j)).length ≤ mo ∧ Mine W T v (rcv (tlI S n j)) ∧ Live w0 W c T mo (resI S mo n) n

set_option maxHeartbeats 4000000 in
set_option maxRecDepth 100000 in
theorem recent_main (mo : Nat) (A : Option Addr) (n cc : Nat) (w : World) (S : Nat → ByteArray) (hmo : mo ≤ 9223372036854775807) (hn : n ≤ 200) (hS : ∀ i, i < n → (S i).size ≤ maxLen)
    (hc : 0 < n → ∃ g o, A = some ⟨g, o, none⟩ ∧ g < w.heap.size ∧ n ≤ cc ∧ cc ≤ maxLen ∧ ∀ i, i < n → w.cell? ⟨g, o + i, none⟩ = some (.string (S i))) :
    Calls Try.prog 5 #[.int .i64 (mo : Int), .slice A n cc] w (RetB true w) := by
  have e0 : decide (200 < (n : Int)) = false := by simp; omega
  have HC := Lib.hid hc
  have HS := Lib.hid hS
  clear hc hS
  go_enter Try.func5, Try.ntmps5
  go_wp2_with fail
  refine (awake_any _).mono ?_
  rintro e w0 ⟨rfl, hb0⟩
  have b0 := Lib.hid hb0; clear hb0
  go_wp2_with fail
  refine (new_pos w0 mo hmo).mono ?_
  rintro e w1 ⟨c, T1, rfl, hC, hT, hB⟩
  have L1 := Lib.hid (Live.made b0.out hC hT hB)
  clear hC hT hB b0
  go_wp2_with fail
  clear e0
  go_loopw [7] (fun i W => Fill S n c mo w i W) (fun i _ => n - (intOf i).toNat)
  case atStart => exact ⟨0, T1, rfl, Nat.zero_le _, by rw [resI_zero]; exact L1.out⟩
  case round =>
    obtain ⟨k, T, rfl, hk, hL⟩ := hrel
    have HL := Lib.hid hL
    clear hL L1
    by_cases hlt : k < n
    · have e0 : decide (k < n) = true := by simpa using hlt
      obtain ⟨g, o, rfl, hg, hc1, hc2, hcell⟩ := HC.out (by omega)
      have h1 := (HL.out.bel.cell (p := ⟨g, o + k, none⟩) hg).trans (hcell k hlt)
      have hsk := HS.out k hlt
      clear hcell
      unfold maxLen at hc2
      have U := Lib.hid (request_ca wr c T mo _ k (S k) HL.out.ca hsk (by omega))
      unfold maxLen at hsk
      by_cases hbig : (S k).size ≤ 200
      · have e1 : decide (200 < ((S k).size : Int)) = false := by simp; omega
        go_wp2_with fail
        refine U.out.mono ?_
        intro e w2 hp
        obtain ⟨rfl, hF⟩ := Fill.next hlt HL.out hp
        have R := Lib.hid hF
        clear hp hF U
        unfold stepV
        go_wp2_with fail
        go_roundw
        case rel => exact R.out
        case measure => simp [intOf]; omega
      · have e1 : decide (200 < ((S k).size : Int)) = true := by simp; omega
        go_wp2_with fail
        go_ret
        exact ⟨rfl, HL.out.bel⟩
    · have e0 : decide (k < n) = false := by simpa using hlt
      obtain rfl : k = n := by omega
      go_wp2_with fail
      clear e0
      go_loopw [6, 8] (fun v z W => WantR S k c mo T w v z W) (fun _ z _ => (intOf z + 1).toNat)
      case atStart => exact ⟨k, _, rfl, rfl, Nat.le_refl _, by rw [tlI_end]; simp [rcv], by rw [tlI_end]; exact ⟨wr.heap.size, Row.nil _ _ _ _, fun hk => by have := HL.out.lt _ hk; omega⟩, HL.out⟩
      case round =>
        obtain ⟨j, t, rfl, ht, hj, hlen, hM, hL⟩ := hrel
        have HLc := Lib.hid hL
        have HM := Lib.hid hM
        have hxl : (rcv (tlI S k j)).length ≤ 200 := by
          have := rcv_len (tlI S k j)
          unfold tlI at this ⊢
          rw [List.length_drop, keysI_len] at this
          omega
        obtain ⟨Av, cv, rfl⟩ := hM.shape
        clear hL hM HL
        obtain ⟨x, hx⟩ : ∃ x, x = (rcv (tlI S k j)).length := ⟨_, rfl⟩
        have HX := Lib.hid hx
        rw [← hx] at hlen hxl HM ⊢
        clear hx
        cases j with
        | zero =>
          have ht0 : t < 0 := by omega
          have e2 : decide (0 ≤ t) = false := by simpa using ht0
          have E := Lib.hid (resI_tl (S := S) (n := k) (mo := mo) (j := 0) (by rw [← HX.out]; exact hlen) (Or.inl rfl))
          clear ht
          go_wp2_with fail
          refine (keys_ca wr c T mo _ k HLc.out.ca).mono ?_
          rintro e w2 ⟨v2, rfl, hO, hB⟩
          obtain ⟨g2, hR2, _⟩ := HM.out.below hB
          obtain ⟨g3, _, hR3⟩ := hO.row
          have U := refSame_any w2 g3 g2 _ _ _ _ hR3 hR2
          rw [decide_eq_true E.out.symm] at U
          have U := Lib.hid U
          have B2 := Lib.hid (HLc.out.bel.trans (hB.mono HLc.out.bel.size))
          clear hO hB hR2 hR3 HM HLc
          go_wp2_with fail
          refine U.out.mono ?_
          rintro e w3 ⟨rfl, m, hw3⟩
          have B3 := Lib.hid (show Below w.heap.size w w3 by rw [hw3]; exact B2.out.trans ((below_drewN _ m).mono B2.out.size))
          clear hw3 B2
          go_wp2_with fail
          go_ret
          exact ⟨rfl, B3.out⟩
        | succ j =>
          have htj : t = (j : Int) := by omega
          clear ht
          subst htj
          by_cases hroom : x < mo
          · have e3 : decide (x < mo) = true := by simpa using hroom
            obtain ⟨g, o, rfl, hg, hc1, hc2, hcell⟩ := HC.out (by omega)
            have h1 := (HLc.out.bel.cell (p := ⟨g, o + j, none⟩) hg).trans (hcell j (by omega))
            have hsj := HS.out j (by omega)
            clear hcell
            obtain ⟨gm, hRow, hgT⟩ := HM.out
            have U := refHas_any wr gm _ _ (S j) hRow
            have E := Lib.hid (show rcv (tlI S k j) = if inn (rcv (tlI S k (j + 1))) (S j) = true then rcv (tlI S k (j + 1)) else S j :: rcv (tlI S k (j + 1)) by rw [tlI_cons S (by omega)]; rfl)
            cases hin : inn (rcv (tlI S k (j + 1))) (S j) with
            | true =>
              rw [hin] at U
              have U := Lib.hid U
              have E2 := Lib.hid (E.out.trans (if_pos hin))
              unfold maxLen at hc2
              clear hRow hgT hin E
              go_wp2_with fail
              refine U.out.mono ?_
              rintro e wr ⟨rfl, rfl⟩
              go_wp2_with fail
              go_roundw
              case rel => exact ⟨j, _, rfl, rfl, by omega, by rw [E2.out, ← HX.out]; exact hlen, by rw [E2.out]; exact HM.out, HLc.out⟩
              case measure => simp [intOf]
            | false =>
              rw [hin] at U
              have U := Lib.hid U
              have E2 := Lib.hid (E.out.trans (if_neg (by rw [hin]; simp)))
              have U2 := refFront_any wr gm _ _ (S j) hRow (by rw [← HX.out]; omega) hsj
              rw [rem_none (inn_no.1 hin), ← E2.out] at U2
              have U2 := Lib.hid U2
              unfold maxLen at hc2
              clear hRow hgT hin E
              go_wp2_with fail
              refine U.out.mono ?_
              rintro e wr ⟨rfl, rfl⟩
              go_wp2_with fail
              refine U2.out.mono ?_
              rintro e w2 ⟨v2, rfl, hO, hB⟩
              have M2 := Lib.hid (Mine.made hO HLc.out.ca)
              have L2 := Lib.hid (HLc.out.below hB)
              clear hO hB U U2 HM HLc
              go_wp2_with fail
              go_roundw
              case rel => exact ⟨j, _, rfl, rfl, by omega, by rw [E2.out, List.length_cons, ← HX.out]; omega, M2.out, L2.out⟩
              case measure => simp [intOf]
          · have e3 : decide (x < mo) = false := by simpa using hroom
            have E := Lib.hid (resI_tl (S := S) (n := k) (mo := mo) (j := j + 1) (by rw [← HX.out]; exact hlen) (Or.inr (by rw [← HX.out]; omega)))
            go_wp2_with fail
            refine (keys_ca wr c T mo _ k HLc.out.ca).mono ?_
            rintro e w2 ⟨v2, rfl, hO, hB⟩
            obtain ⟨g2, hR2, _⟩ := HM.out.below hB
            obtain ⟨g3, _, hR3⟩ := hO.row
            have U := refSame_any w2 g3 g2 _ _ _ _ hR3 hR2
            rw [decide_eq_true E.out.symm] at U
            have U := Lib.hid U
            have B2 := Lib.hid (HLc.out.bel.trans (hB.mono HLc.out.bel.size))
            clear hO hB hR2 hR3 HM HLc
            go_wp2_with fail
            refine U.out.mono ?_
            rintro e w3 ⟨rfl, m, hw3⟩
            have B3 := Lib.hid (show Below w.heap.size w w3 by rw [hw3]; exact B2.out.trans ((below_drewN _ m).mono B2.out.size))
            clear hw3 B2
            go_wp2_with fail
            go_ret
            exact ⟨rfl, B3.out⟩

theorem walk_lruRecent (a0 : Int) (v1 : Value) (w : World) (w0 : (Lit.int .i64 a0).wf = true) (w1 : CameS w v1) : Calls Try.prog 5 #[.int .i64 a0, v1] w (RetB true w) := by
  obtain ⟨A, n, c, rfl, hn, S, hr, hc⟩ := w1
  have hz := i64_rng w0
  by_cases hbig : n ≤ 200
  · by_cases hneg : a0 < 0
    · have e0 : decide (200 < (n : Int)) = false := by simp; omega
      have e1 : decide (a0 < 0) = true := by simpa using hneg
      unfold maxLen at hn
      clear hr hc w0
      go_enter Try.func5, Try.ntmps5
      go_wp2_with fail
      refine (awake_any _).mono ?_
      rintro e w0 ⟨rfl, hb0⟩
      go_wp2_with fail
      go_ret
      exact ⟨rfl, hb0⟩
    · obtain ⟨mo, rfl⟩ : ∃ m : Nat, a0 = (m : Int) := ⟨a0.toNat, by omega⟩
      exact recent_main mo A n c w S (by omega) hbig hr hc
  · have e0 : decide (200 < (n : Int)) = true := by simp; omega
    unfold maxLen at hn
    clear hr hc w0
    go_enter Try.func5, Try.ntmps5
    go_wp2_with fail
    refine (awake_any _).mono ?_
    rintro e w0 ⟨rfl, hb0⟩
    go_wp2_with fail
    go_ret
    exact ⟨rfl, hb0⟩

namespace LLruRecent
set_option maxRecDepth 100000 in
theorem lifted (os : Os) (started : os.Started) (H : Type) (enc : TypeId × Value → H) :
    ReturnsInHanded {} Try.checked os 5 .any (Rows.lruRecentSpec.pre6 enc Try.prog Try.f5 Rows.lruRecentRow.domain false) (Rows.lruRecentSpec.post enc Try.prog Try.f5 false true false false) := by
  refine returnsInHanded_of_change (C := Try.checked) own started (by kernel_rfl) Try.func5
    (ChangeSpec.witness6 (enc := enc) (C := Try.checked) false ⟨#[], #[.int .i64 0, .slice none 0 0], []⟩ 8 (by kernel_rfl) (by kernel_rfl) (by kernel_rfl) (by kernel_rfl)) ?_
  intro W base args ds gs before hval0 hW _ _
  have hval : ∀ (j : Nat) t v, Try.f5.params[j]? = some t → args[j]? = some v → Value.okWide Try.prog W .any base t v := hval0
  have hW' := hW
  obtain ⟨p, q, hA0, hV, rfl, hfz, hnd⟩ := hW
  have hA : DataW.TrodAll enc Try.prog W 0 (fun _ => true) true Try.f5.params.toList args.toList ds p := hA0
  rw [Try.params5] at hA hval
  obtain ⟨v0, vs0, d0, ds0, p0, q0, hargs, rfl, rfl, h0, r0⟩ := trodAll_cons hA
  obtain ⟨v1, vs1, d1, ds1, p1, q1, rfl, rfl, rfl, h1, r1⟩ := trodAll_cons r0
  obtain ⟨rfl, rfl, rfl⟩ := trodAll_nil r1
  obtain rfl : args = #[v0, v1] := by cases args; simp_all
  obtain ⟨rfl, rfl⟩ := trodVars_none hV
  obtain ⟨a0, rfl, rfl, rfl, w0⟩ := open_int Try.underlying3 (hval 0 3 v0 rfl rfl) h0
  have k1 := h1
  have lt1 : ∀ x ∈ p1, x.block < W.heap.size := by obtain ⟨m, hm⟩ := k1; exact DataW.trod_lt m _ _ _ hm
  have w1 := open_z (hval 1 27 v1 rfl rfl) h1
  clear hA0 hval0
  refine (walk_lruRecent a0 v1 W w0 w1).mono fun e W' ⟨he, bel⟩ => ?_
  subst he
  exact ⟨_, rfl, _, _, _, [], _, [], hW', trodAll_mk1 (shut_bool Try.underlying4 _), (trodAll_cons_mk (shut_int Try.underlying3 w0) (trodAll_cons_mk (Below.trod laidOut (by kernel_rfl) (of_decide_eq_true (by kernel_rfl)) k1 bel lt1) trodAll_mk0)), rfl, bel.frame _, fun h => by cases h⟩

theorem said : Rows.LruRecentSaid :=
  OpenClaim.holds_of_wide 5 Try.f5 rfl rfl rfl rfl rfl rfl rfl ⟨rfl, rfl, rfl, rfl, rfl⟩ rfl rfl rfl rfl rfl (by kernel_rfl) Try.func5 (by kernel_rfl)
    (of_decide_eq_true (by kernel_rfl)) (by unfold Func.isWrapper; rw [if_neg (of_decide_eq_false (by kernel_rfl))]; exact ⟨rfl, rfl⟩)
    (fun os started H enc _ => lifted os started H enc)
#print axioms said
end LLruRecent
end Go.Proofs.Ythbokiebnniifaa
