/- 'cachewiselaw05.LruAdopts' returns true for every size, every row of keys and every key, and leaves what was there as it was. No condition. -/
import Derived.Test.YthbokiebnniifaaPair
namespace Go.Proofs.Ythbokiebnniifaa
open Go.ChangeShapes Go.WideShapes Go.ChangeAt Go.RowKit
open Go.ChangeMaps (open_string shut_string)

set_option maxHeartbeats 4000000 in
set_option maxRecDepth 100000 in
theorem adopts_main (z : Int) (A : Option Addr) (n cc : Nat) (key : ByteArray) (w : World) (S : Nat → ByteArray) (hz : -9223372036854775808 ≤ z ∧ z ≤ 9223372036854775807) (hn : n ≤ 200) (hkey : key.size ≤ 200) (hS : ∀ i, i < n → (S i).size ≤ maxLen)
    (hc : 0 < n → ∃ g o, A = some ⟨g, o, none⟩ ∧ g < w.heap.size ∧ n ≤ cc ∧ cc ≤ maxLen ∧ ∀ i, i < n → w.cell? ⟨g, o + i, none⟩ = some (.string (S i))) :
    Calls Try.prog 7 #[.int .i64 z, .slice A n cc, .string key] w (RetB true w) := by
  have e0 : decide (200 < (n : Int)) = false := by simp; omega
  have e1 : decide (200 < (key.size : Int)) = false := by simp; omega
  have HC := Lib.hid hc
  have HS := Lib.hid hS
  clear hc hS
  go_enter Try.func7, Try.ntmps7
  go_wp2_with fail
  refine (awake_any _).mono ?_
  rintro e w0 ⟨rfl, hb0⟩
  have b0 := Lib.hid hb0; clear hb0
  go_wp2_with fail
  obtain ⟨mo, hmo⟩ : ∃ m, m = z.toNat := ⟨_, rfl⟩
  refine (hmo ▸ new_ca w0 z hz : Calls Try.prog 11 #[.int .i64 z] w0 (NewC mo w0)).mono ?_
  rintro e w1 ⟨a, T1, rfl, hC, hT, hB⟩
  have L1 := Lib.hid (Live.made b0.out hC hT hB)
  have HMO := Lib.hid hmo
  clear hC hT hB b0 hmo
  go_wp2_with fail
  refine (HMO.out ▸ new_ca w1 z hz : Calls Try.prog 11 #[.int .i64 z] w1 (NewC mo w1)).mono ?_
  rintro e w2 ⟨a2, T2, rfl, hC, hT, hB⟩
  have P1 := Lib.hid (Pair.made L1.out hC hT hB)
  clear hC hT hB L1
  go_wp2_with fail
  clear e0 e1
  go_loopw [9] (fun i W => Fill2 S n a mo a2 mo w i W) (fun i _ => n - (intOf i).toNat)
  case atStart => exact ⟨0, T1, T2, rfl, Nat.zero_le _, by rw [resI_zero]; exact P1.out⟩
  case round =>
    obtain ⟨k, T, T2, rfl, hk, hP⟩ := hrel
    have HP := Lib.hid hP
    clear hP P1
    by_cases hlt : k < n
    · have e0 : decide (k < n) = true := by simpa using hlt
      obtain ⟨g, o, rfl, hg, hc1, hc2, hcell⟩ := HC.out (by omega)
      have h1 := (HP.out.one.bel.cell (p := ⟨g, o + k, none⟩) hg).trans (hcell k hlt)
      have hsk := HS.out k hlt
      have hck := hcell k hlt
      clear hcell
      unfold maxLen at hc2
      have U := Lib.hid (request_ca wr a T mo _ k (S k) HP.out.one.ca hsk (by omega))
      have HSK := Lib.hid hsk
      unfold maxLen at hsk
      by_cases hbig : (S k).size ≤ 200
      · have e1 : decide (200 < ((S k).size : Int)) = false := by simp; omega
        go_wp2_with fail
        refine U.out.mono ?_
        intro e w2 hp
        obtain ⟨rfl, T3, hP3, _⟩ := HP.out.op1 hp
        rw [resI_succ] at hP3
        have P3 := Lib.hid hP3
        have h3 := (hP3.one.bel.cell (p := ⟨g, o + k, none⟩) hg).trans hck
        have U2 := Lib.hid (request_ca w2 a2 T2 mo _ k (S k) hP3.two.ca HSK.out (by omega))
        clear hp hP3 U h1 HP
        unfold stepV
        go_wp2_with fail
        refine U2.out.mono ?_
        intro e w3 hp
        obtain ⟨rfl, T4, hP4, _⟩ := P3.out.op2 hp
        rw [resI_succ] at hP4
        have P4 := Lib.hid hP4
        clear hp hP4 U2 P3
        unfold stepV
        go_wp2_with fail
        go_roundw
        case rel => exact ⟨k + 1, T3, T4, by go_num, by omega, P4.out⟩
        case measure => simp [intOf]; omega
      · have e1 : decide (200 < ((S k).size : Int)) = true := by simp; omega
        go_wp2_with fail
        go_ret
        exact ⟨rfl, HP.out.one.bel⟩
    · have e0 : decide (k < n) = false := by simpa using hlt
      obtain rfl : k = n := by omega
      have hks : key.size ≤ maxLen := by unfold maxLen; omega
      go_wp2_with fail
      refine (keys_ca wr a T mo _ k HP.out.one.ca).mono ?_
      rintro e w2 ⟨v, rfl, hO, hB⟩
      have P2 := Lib.hid (HP.out.below hB)
      have M2 := Lib.hid (Mine.made hO HP.out.one.ca)
      clear hO hB HP e0
      generalize resI S mo k = R at *
      have hle := P2.out.one.ca.le
      obtain ⟨x, hx⟩ : ∃ x, x = R.length := ⟨_, rfl⟩
      have U1 := len_ca w2 a T mo R k P2.out.one.ca
      rw [← hx] at U1 hle
      have U1 := Lib.hid U1
      have U2 := has_ca w2 a T mo R k key P2.out.one.ca hks
      have U3 := adopt_ca w2 a T mo R k key P2.out.one.ca hks (by omega)
      have HX := Lib.hid hx
      clear hx
      by_cases hroom : x < mo
      · have e2 : decide ((x : Int) < z) = true := by have := HMO.out; simp; omega
        cases hin : inn R key with
        | true =>
          have e3 : adB mo R key = false := by simp [adB, hin]
          rw [show adK mo R key = R by unfold adK; rw [e3]; rfl, e3] at U3
          rw [hin] at U2
          have U2 := Lib.hid U2
          have U3 := Lib.hid U3
          clear hin e3
          go_wp2_with fail
          refine U1.out.mono ?_
          rintro e w2 ⟨rfl, rfl⟩
          go_wp2_with fail
          refine U2.out.mono ?_
          rintro e w2 ⟨rfl, rfl⟩
          go_wp2_with fail
          refine U3.out.mono ?_
          intro e w3 hp
          obtain ⟨rfl, T3, hP3, hW3⟩ := P2.out.op1 hp
          have P3 := Lib.hid hP3
          have M3 := Lib.hid (M2.out.went hW3 hP3.one.lt)
          clear hp hP3 hW3 U1 U3 P2 M2
          go_wp2_with fail
          refine (keys_ca w3 a T3 mo R _ P3.out.one.ca).mono ?_
          rintro e w4 ⟨v4, rfl, hO, hB⟩
          have B4 := Lib.hid (P3.out.one.bel.trans (hB.mono P3.out.one.bel.size))
          obtain ⟨g3, hr3, _⟩ := M3.out.below hB
          obtain ⟨g4, _, hr4⟩ := hO.row
          have U4 := refSame_any w4 g4 g3 _ _ _ _ hr4 hr3
          rw [decide_eq_true rfl] at U4
          have U4 := Lib.hid U4
          clear hO hB P3 M3 hr3 hr4
          go_wp2_with fail
          refine U4.out.mono ?_
          rintro e w5 ⟨rfl, m, hws⟩
          have B9 := Lib.hid (show Below w.heap.size w w5 by rw [hws]; exact B4.out.trans ((below_drewN _ m).mono B4.out.size))
          clear hws B4
          go_wp2_with fail
          go_ret
          exact ⟨rfl, B9.out⟩
        | false =>
          have e3 : adB mo R key = true := by have := HX.out; simp [adB, hin]; omega
          rw [show adK mo R key = rem R key ++ [key] by unfold adK; rw [e3]; rfl, e3] at U3
          rw [hin] at U2
          have U2 := Lib.hid U2
          have U3 := Lib.hid U3
          have E4 := Lib.hid (show stepV mo R key = .agg #[.bool false, .string ⟨#[]⟩, .bool false] by
            have h1 : ¬ mo ≤ R.length := by have := HX.out; omega
            have h2 : mo ≠ 0 := by omega
            simp [stepV, hitB, vicK, outB, hin, h1])
          have E5 := Lib.hid (reqK_room (mo := mo) (ks := R) (k := key) (by have := HX.out; omega))
          clear hin e3
          go_wp2_with fail
          refine U1.out.mono ?_
          rintro e w2 ⟨rfl, rfl⟩
          go_wp2_with fail
          refine U2.out.mono ?_
          rintro e w2 ⟨rfl, rfl⟩
          go_wp2_with fail
          refine U3.out.mono ?_
          intro e w3 hp
          obtain ⟨rfl, T3, hP3, hW3⟩ := P2.out.op1 hp
          have P3 := Lib.hid hP3
          have U4 := request_ca w3 a2 T2 mo R k key hP3.two.ca hks (by omega)
          rw [E4.out, E5.out] at U4
          have U4 := Lib.hid U4
          clear hp hP3 hW3 U1 U2 U3 P2 M2
          go_wp2_with fail
          refine U4.out.mono ?_
          intro e w4 hp
          obtain ⟨rfl, T4, hP4, hW4⟩ := P3.out.op2 hp
          have P4 := Lib.hid (hP4.below ((Below.refl w4.heap.size w4).alloc (Nat.le_refl _) (.cells #[.bool false, .string ⟨#[]⟩, .bool false] 34)))
          clear hp hP4 hW4 U4 P3
          go_wp2_with fail
          refine (keys_ca _ a T3 mo _ _ P4.out.one.ca).mono ?_
          rintro e w5 ⟨v5, rfl, hO, hB⟩
          have P5 := Lib.hid (P4.out.below hB)
          have M5 := Lib.hid (Mine.made hO P4.out.one.ca)
          clear hO hB P4
          go_wp2_with fail
          refine (keys_ca w5 a2 T4 mo _ _ P5.out.two.ca).mono ?_
          rintro e w6 ⟨v6, rfl, hO, hB⟩
          have B6 := Lib.hid (P5.out.one.bel.trans (hB.mono P5.out.one.bel.size))
          obtain ⟨g5, hr5, _⟩ := M5.out.below hB
          obtain ⟨g6, _, hr6⟩ := hO.row
          have U6 := refSame_any w6 g5 g6 _ _ _ _ hr5 hr6
          rw [decide_eq_true rfl] at U6
          have U6 := Lib.hid U6
          clear hO hB P5 M5 hr5 hr6
          go_wp2_with fail
          refine U6.out.mono ?_
          rintro e w7 ⟨rfl, m, hws⟩
          have B9 := Lib.hid (show Below w.heap.size w w7 by rw [hws]; exact B6.out.trans ((below_drewN _ m).mono B6.out.size))
          clear hws B6
          go_wp2_with fail
          go_ret
          exact ⟨rfl, B9.out⟩
      · have e2 : decide ((x : Int) < z) = false := by have := HMO.out; simp; omega
        have e3 : adB mo R key = false := by have := HX.out; simp [adB]; omega
        rw [show adK mo R key = R by unfold adK; rw [e3]; rfl, e3] at U3
        have U3 := Lib.hid U3
        clear e3 U2
        go_wp2_with fail
        refine U1.out.mono ?_
        rintro e w2 ⟨rfl, rfl⟩
        go_wp2_with fail
        refine U3.out.mono ?_
        intro e w3 hp
        obtain ⟨rfl, T3, hP3, hW3⟩ := P2.out.op1 hp
        have P3 := Lib.hid hP3
        have M3 := Lib.hid (M2.out.went hW3 hP3.one.lt)
        clear hp hP3 hW3 U1 U3 P2 M2
        go_wp2_with fail
        refine (keys_ca w3 a T3 mo R _ P3.out.one.ca).mono ?_
        rintro e w4 ⟨v4, rfl, hO, hB⟩
        have B4 := Lib.hid (P3.out.one.bel.trans (hB.mono P3.out.one.bel.size))
        obtain ⟨g3, hr3, _⟩ := M3.out.below hB
        obtain ⟨g4, _, hr4⟩ := hO.row
        have U4 := refSame_any w4 g4 g3 _ _ _ _ hr4 hr3
        rw [decide_eq_true rfl] at U4
        have U4 := Lib.hid U4
        clear hO hB P3 M3 hr3 hr4
        go_wp2_with fail
        refine U4.out.mono ?_
        rintro e w5 ⟨rfl, m, hws⟩
        have B9 := Lib.hid (show Below w.heap.size w w5 by rw [hws]; exact B4.out.trans ((below_drewN _ m).mono B4.out.size))
        clear hws B4
        go_wp2_with fail
        go_ret
        exact ⟨rfl, B9.out⟩

theorem walk_lruAdopts (a0 : Int) (v1 : Value) (a2 : ByteArray) (w : World) (w0 : (Lit.int .i64 a0).wf = true) (w1 : CameS w v1) (w2 : a2.size ≤ maxLen) : Calls Try.prog 7 #[.int .i64 a0, v1, .string a2] w (RetB true w) := by
  obtain ⟨A, n, c, rfl, hn, S, hr, hc⟩ := w1
  have hz := i64_rng w0
  by_cases hbig : n ≤ 200
  · by_cases hlong : a2.size ≤ 200
    · exact adopts_main a0 A n c a2 w S hz hbig hlong hr hc
    · have e0 : decide (200 < (n : Int)) = false := by simp; omega
      have e1 : decide (200 < (a2.size : Int)) = true := by simp; omega
      unfold maxLen at hn w2
      clear hr hc w0
      go_enter Try.func7, Try.ntmps7
      go_wp2_with fail
      refine (awake_any _).mono ?_
      rintro e w0 ⟨rfl, hb0⟩
      go_wp2_with fail
      go_ret
      exact ⟨rfl, hb0⟩
  · have e0 : decide (200 < (n : Int)) = true := by simp; omega
    unfold maxLen at hn
    clear hr hc w0
    go_enter Try.func7, Try.ntmps7
    go_wp2_with fail
    refine (awake_any _).mono ?_
    rintro e w0 ⟨rfl, hb0⟩
    go_wp2_with fail
    go_ret
    exact ⟨rfl, hb0⟩

namespace LLruAdopts
set_option maxRecDepth 100000 in
theorem lifted (os : Os) (started : os.Started) (H : Type) (enc : TypeId × Value → H) :
    ReturnsInHanded {} Try.checked os 7 .any (Rows.lruAdoptsSpec.pre6 enc Try.prog Try.f7 Rows.lruAdoptsRow.domain false) (Rows.lruAdoptsSpec.post enc Try.prog Try.f7 false true false false) := by
  refine returnsInHanded_of_change (C := Try.checked) own started (by kernel_rfl) Try.func7
    (ChangeSpec.witness6 (enc := enc) (C := Try.checked) false ⟨#[], #[.int .i64 0, .slice none 0 0, .string ByteArray.empty], []⟩ 8 (by kernel_rfl) (by kernel_rfl) (by kernel_rfl) (by kernel_rfl)) ?_
  intro W base args ds gs before hval0 hW _ _
  have hval : ∀ (j : Nat) t v, Try.f7.params[j]? = some t → args[j]? = some v → Value.okWide Try.prog W .any base t v := hval0
  have hW' := hW
  obtain ⟨p, q, hA0, hV, rfl, hfz, hnd⟩ := hW
  have hA : DataW.TrodAll enc Try.prog W 0 (fun _ => true) true Try.f7.params.toList args.toList ds p := hA0
  rw [Try.params7] at hA hval
  obtain ⟨v0, vs0, d0, ds0, p0, q0, hargs, rfl, rfl, h0, r0⟩ := trodAll_cons hA
  obtain ⟨v1, vs1, d1, ds1, p1, q1, rfl, rfl, rfl, h1, r1⟩ := trodAll_cons r0
  obtain ⟨v2, vs2, d2, ds2, p2, q2, rfl, rfl, rfl, h2, r2⟩ := trodAll_cons r1
  obtain ⟨rfl, rfl, rfl⟩ := trodAll_nil r2
  obtain rfl : args = #[v0, v1, v2] := by cases args; simp_all
  obtain ⟨rfl, rfl⟩ := trodVars_none hV
  obtain ⟨a0, rfl, rfl, rfl, w0⟩ := open_int Try.underlying3 (hval 0 3 v0 rfl rfl) h0
  have k1 := h1
  have lt1 : ∀ x ∈ p1, x.block < W.heap.size := by obtain ⟨m, hm⟩ := k1; exact DataW.trod_lt m _ _ _ hm
  have w1 := open_z (hval 1 27 v1 rfl rfl) h1
  obtain ⟨a2, rfl, rfl, rfl, w2⟩ := open_string Try.underlying9 (hval 2 9 v2 rfl rfl) h2
  clear hA0 hval0
  refine (walk_lruAdopts a0 v1 a2 W w0 w1 w2).mono fun e W' ⟨he, bel⟩ => ?_
  subst he
  exact ⟨_, rfl, _, _, _, [], _, [], hW', trodAll_mk1 (shut_bool Try.underlying4 _), (trodAll_cons_mk (shut_int Try.underlying3 w0) (trodAll_cons_mk (Below.trod laidOut (by kernel_rfl) (of_decide_eq_true (by kernel_rfl)) k1 bel lt1) (trodAll_cons_mk (shut_string Try.underlying9 w2) trodAll_mk0))), rfl, bel.frame _, fun h => by cases h⟩

theorem said : Rows.LruAdoptsSaid :=
  OpenClaim.holds_of_wide 7 Try.f7 rfl rfl rfl rfl rfl rfl rfl ⟨rfl, rfl, rfl, rfl, rfl⟩ rfl rfl rfl rfl rfl (by kernel_rfl) Try.func7 (by kernel_rfl)
    (of_decide_eq_true (by kernel_rfl)) (by unfold Func.isWrapper; rw [if_neg (of_decide_eq_false (by kernel_rfl))]; exact ⟨rfl, rfl⟩)
    (fun os started H enc _ => lifted os started H enc)
#print axioms said
end LLruAdopts
end Go.Proofs.Ythbokiebnniifaa
