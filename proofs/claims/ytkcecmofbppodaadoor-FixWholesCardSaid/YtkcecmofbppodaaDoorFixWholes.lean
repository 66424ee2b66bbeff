/- For every input the law FixWholes returns true, and each argument reads afterwards as it read before. Conditions: the program's start lays errors.errorType as its text says (the card ties it). -/
import Derived.Test.YtkcecmofbppodaaDoorLift
import Derived.Test.YtkcecmofbppodaaDoorFxc
import Derived.Test.YtkcecmofbppodaaDoorCards
import Derived.Test.YtkcecmofbppodaaDoorTie
import Derived.SevenTiedAt
namespace Go.Proofs.YtkcecmofbppodaaDoor
open Go.ChangeShapes Go.WideShapes Go.ChangeAt Go.RowKit

theorem whole_twice (a b : Nat) (w : World) (ha : a ≤ 1099511627776) (hb : b ≤ 1099511627776) (h0 : 0 < b) :
    Calls Tryd.prog 15 #[.int .i64 (2 * (a : Int)), .int .i64 (2 * (b : Int))] w (Good (Fx.quo a b) w) := by
  have h := whole_yes (2 * a) (2 * b) w (by omega) (by omega) (by omega)
  rw [Fx.quo_double, Int.natCast_mul, Int.natCast_mul] at h
  exact h
theorem whole_next (a b : Nat) (w : World) (ha : a ≤ 1099511627776) (hb : b ≤ 1099511627776) (h0 : 0 < b) :
    Calls Tryd.prog 15 #[.int .i64 ((a : Int) + 1), .int .i64 b] w (Good (Fx.quo (a + 1) b) w) :=
  whole_yes (a + 1) b w (by omega) (by omega) (by omega)
theorem whole_one (a : Nat) (w : World) (ha : a ≤ 1099511627776) :
    Calls Tryd.prog 15 #[.int .i64 a, .int .i64 1] w (Good (if a < 4 then a * 4611686018427387904 else 18446744073709551615) w) := by
  have h := whole_yes a 1 w (by omega) (by omega) (by omega)
  rw [Fx.quo_by_one] at h
  exact h

set_option maxHeartbeats 4000000 in
set_option maxRecDepth 100000 in
theorem walk_fixWholes_n (a b c : Nat) (ha : a ≤ 1099511627776) (hb : 1 ≤ b) (hbc : b ≤ c) (hc : c ≤ 1099511627776) (w : World) (hl : Laid w) :
    Calls Tryd.prog 9 #[.int .i64 a, .int .i64 b, .int .i64 c] w (RetB true w) := by
  have g1 : decide ((a : Int) < 0) = false := by simp
  have g2 : decide ((b : Int) < 1) = false := by simp; omega
  have g3 : decide (c < b) = false := by simp; omega
  have g4 : decide (1099511627776 < (a : Int)) = false := by simp; omega
  have g5 : decide (1099511627776 < (c : Int)) = false := by simp; omega
  have t1 : decide (Fx.quo a c ≤ Fx.quo a b) = true := by simpa using Fx.quo_anti a (by omega) hbc
  have t2 : decide (Fx.quo a b ≤ Fx.quo (a + 1) b) = true := by simpa using Fx.quo_mono b (by omega) (Nat.le_succ a)
  have q1 := Fx.quo_le a b (by omega)
  have q2 := Fx.quo_le a c (by omega)
  have q3 := Fx.quo_le (a + 1) b (by omega)
  have C1 := fun W => Lib.hid (whole_one a W ha)
  obtain ⟨u, hu⟩ : ∃ u, u = Fx.quo (a + 1) b := ⟨_, rfl⟩
  have C2 := fun W => Lib.hid (whole_next a b W ha (by omega) hb)
  rw [← hu] at C2 t2 q3
  clear hu
  by_cases h4 : a < 4
  · have k4 : decide ((a : Int) < 4) = true := by simp; omega
    obtain ⟨v, hv⟩ : ∃ v, v = a * 4611686018427387904 := ⟨_, rfl⟩
    have ev : (a : Int) * 4611686018427387904 = (v : Int) := by omega
    have hv2 : v ≤ 18446744073709551615 := by omega
    rw [if_pos h4, ← hv] at C1
    clear hv
    by_cases hab : a = b
    · subst hab
      have pb : (((Fx.quo a a : Nat) : Int) == 4611686018427387904) = true := by rw [Fx.quo_same a hb]; rfl
      go_enter Tryd.func9, Tryd.ntmps9
      go_wp2_with fail
      refine (awake_any _ hl).mono ?_
      rintro e w1 ⟨rfl, hb1⟩
      have B1 := Lib.hid hb1; clear hb1
      go_wp2_with fail
      refine (whole_yes a a _ (by omega) (by omega) hb).mono ?_
      rintro e w2 ⟨rfl, hb2⟩
      have B2 := Lib.hid (B1.out.trans (hb2.mono B1.out.size)); clear hb2
      go_wp2_with fail
      refine (whole_twice a a _ ha (by omega) hb).mono ?_
      rintro e w3 ⟨rfl, hb3⟩
      have B3 := Lib.hid (B2.out.trans (hb3.mono B2.out.size)); clear hb3
      go_wp2_with fail
      refine (whole_yes a c _ (by omega) (by omega) (by omega)).mono ?_
      rintro e w4 ⟨rfl, hb4⟩
      have B4 := Lib.hid (B3.out.trans (hb4.mono B3.out.size)); clear hb4
      go_wp2_with fail
      refine (C2 _).out.mono ?_
      rintro e w5 ⟨rfl, hb5⟩
      have B5 := Lib.hid (B4.out.trans (hb5.mono B4.out.size)); clear hb5
      go_wp2_with fail
      refine (C1 _).out.mono ?_
      rintro e w6 ⟨rfl, hb6⟩
      have B6 := Lib.hid (B5.out.trans (hb6.mono B5.out.size)); clear hb6
      go_wp2_with fail
      go_ret
      exact ⟨rfl, B6.out⟩
    · have pa : (a != b) = true := by simpa using hab
      go_enter Tryd.func9, Tryd.ntmps9
      go_wp2_with fail
      refine (awake_any _ hl).mono ?_
      rintro e w1 ⟨rfl, hb1⟩
      have B1 := Lib.hid hb1; clear hb1
      go_wp2_with fail
      refine (whole_yes a b _ (by omega) (by omega) hb).mono ?_
      rintro e w2 ⟨rfl, hb2⟩
      have B2 := Lib.hid (B1.out.trans (hb2.mono B1.out.size)); clear hb2
      go_wp2_with fail
      refine (whole_twice a b _ ha (by omega) hb).mono ?_
      rintro e w3 ⟨rfl, hb3⟩
      have B3 := Lib.hid (B2.out.trans (hb3.mono B2.out.size)); clear hb3
      go_wp2_with fail
      refine (whole_yes a c _ (by omega) (by omega) (by omega)).mono ?_
      rintro e w4 ⟨rfl, hb4⟩
      have B4 := Lib.hid (B3.out.trans (hb4.mono B3.out.size)); clear hb4
      go_wp2_with fail
      refine (C2 _).out.mono ?_
      rintro e w5 ⟨rfl, hb5⟩
      have B5 := Lib.hid (B4.out.trans (hb5.mono B4.out.size)); clear hb5
      go_wp2_with fail
      refine (C1 _).out.mono ?_
      rintro e w6 ⟨rfl, hb6⟩
      have B6 := Lib.hid (B5.out.trans (hb6.mono B5.out.size)); clear hb6
      go_wp2_with fail
      go_ret
      exact ⟨rfl, B6.out⟩
  · have k4 : decide ((a : Int) < 4) = false := by simp; omega
    rw [if_neg h4] at C1
    by_cases hab : a = b
    · subst hab
      have pb : (((Fx.quo a a : Nat) : Int) == 4611686018427387904) = true := by rw [Fx.quo_same a hb]; rfl
      go_enter Tryd.func9, Tryd.ntmps9
      go_wp2_with fail
      refine (awake_any _ hl).mono ?_
      rintro e w1 ⟨rfl, hb1⟩
      have B1 := Lib.hid hb1; clear hb1
      go_wp2_with fail
      refine (whole_yes a a _ (by omega) (by omega) hb).mono ?_
      rintro e w2 ⟨rfl, hb2⟩
      have B2 := Lib.hid (B1.out.trans (hb2.mono B1.out.size)); clear hb2
      go_wp2_with fail
      refine (whole_twice a a _ ha (by omega) hb).mono ?_
      rintro e w3 ⟨rfl, hb3⟩
      have B3 := Lib.hid (B2.out.trans (hb3.mono B2.out.size)); clear hb3
      go_wp2_with fail
      refine (whole_yes a c _ (by omega) (by omega) (by omega)).mono ?_
      rintro e w4 ⟨rfl, hb4⟩
      have B4 := Lib.hid (B3.out.trans (hb4.mono B3.out.size)); clear hb4
      go_wp2_with fail
      refine (C2 _).out.mono ?_
      rintro e w5 ⟨rfl, hb5⟩
      have B5 := Lib.hid (B4.out.trans (hb5.mono B4.out.size)); clear hb5
      go_wp2_with fail
      refine (C1 _).out.mono ?_
      rintro e w6 ⟨rfl, hb6⟩
      have B6 := Lib.hid (B5.out.trans (hb6.mono B5.out.size)); clear hb6
      go_wp2_with fail
      go_ret
      exact ⟨rfl, B6.out⟩
    · have pa : (a != b) = true := by simpa using hab
      go_enter Tryd.func9, Tryd.ntmps9
      go_wp2_with fail
      refine (awake_any _ hl).mono ?_
      rintro e w1 ⟨rfl, hb1⟩
      have B1 := Lib.hid hb1; clear hb1
      go_wp2_with fail
      refine (whole_yes a b _ (by omega) (by omega) hb).mono ?_
      rintro e w2 ⟨rfl, hb2⟩
      have B2 := Lib.hid (B1.out.trans (hb2.mono B1.out.size)); clear hb2
      go_wp2_with fail
      refine (whole_twice a b _ ha (by omega) hb).mono ?_
      rintro e w3 ⟨rfl, hb3⟩
      have B3 := Lib.hid (B2.out.trans (hb3.mono B2.out.size)); clear hb3
      go_wp2_with fail
      refine (whole_yes a c _ (by omega) (by omega) (by omega)).mono ?_
      rintro e w4 ⟨rfl, hb4⟩
      have B4 := Lib.hid (B3.out.trans (hb4.mono B3.out.size)); clear hb4
      go_wp2_with fail
      refine (C2 _).out.mono ?_
      rintro e w5 ⟨rfl, hb5⟩
      have B5 := Lib.hid (B4.out.trans (hb5.mono B4.out.size)); clear hb5
      go_wp2_with fail
      refine (C1 _).out.mono ?_
      rintro e w6 ⟨rfl, hb6⟩
      have B6 := Lib.hid (B5.out.trans (hb6.mono B5.out.size)); clear hb6
      go_wp2_with fail
      go_ret
      exact ⟨rfl, B6.out⟩

set_option maxHeartbeats 1000000 in
theorem walk_fixWholes (a0 a1 a2 : Int) (w0 : (Lit.int .i64 a0).wf = true) (w1 : (Lit.int .i64 a1).wf = true) (w2 : (Lit.int .i64 a2).wf = true) (w : World) (hl : Laid w) :
    Calls Tryd.prog 9 #[.int .i64 a0, .int .i64 a1, .int .i64 a2] w (RetB true w) := by
  by_cases h1 : a0 < 0
  · have g1 : decide (a0 < 0) = true := by simpa using h1
    go_enter Tryd.func9, Tryd.ntmps9
    go_wp2_with (go_at_call 12; refine (awake_any _ hl).mono ?_; rintro e w1 ⟨rfl, hb1⟩; have B := Lib.hid hb1; clear hb1)
    go_ret
    exact ⟨rfl, B.out⟩
  have g1 : decide (a0 < 0) = false := by simpa using h1
  by_cases h2 : a1 < 1
  · have g2 : decide (a1 < 1) = true := by simpa using h2
    go_enter Tryd.func9, Tryd.ntmps9
    go_wp2_with (go_at_call 12; refine (awake_any _ hl).mono ?_; rintro e w1 ⟨rfl, hb1⟩; have B := Lib.hid hb1; clear hb1)
    go_ret
    exact ⟨rfl, B.out⟩
  have g2 : decide (a1 < 1) = false := by simpa using h2
  by_cases h3 : a2 < a1
  · have g3 : decide (a2 < a1) = true := by simpa using h3
    go_enter Tryd.func9, Tryd.ntmps9
    go_wp2_with (go_at_call 12; refine (awake_any _ hl).mono ?_; rintro e w1 ⟨rfl, hb1⟩; have B := Lib.hid hb1; clear hb1)
    go_ret
    exact ⟨rfl, B.out⟩
  have g3 : decide (a2 < a1) = false := by simpa using h3
  by_cases h4 : 1099511627776 < a0
  · have g4 : decide (1099511627776 < a0) = true := by simpa using h4
    go_enter Tryd.func9, Tryd.ntmps9
    go_wp2_with (go_at_call 12; refine (awake_any _ hl).mono ?_; rintro e w1 ⟨rfl, hb1⟩; have B := Lib.hid hb1; clear hb1)
    go_ret
    exact ⟨rfl, B.out⟩
  have g4 : decide (1099511627776 < a0) = false := by simpa using h4
  by_cases h5 : 1099511627776 < a2
  · have g5 : decide (1099511627776 < a2) = true := by simpa using h5
    go_enter Tryd.func9, Tryd.ntmps9
    go_wp2_with (go_at_call 12; refine (awake_any _ hl).mono ?_; rintro e w1 ⟨rfl, hb1⟩; have B := Lib.hid hb1; clear hb1)
    go_ret
    exact ⟨rfl, B.out⟩
  obtain ⟨a, rfl⟩ := Int.eq_ofNat_of_zero_le (show 0 ≤ a0 by omega)
  obtain ⟨b, rfl⟩ := Int.eq_ofNat_of_zero_le (show 0 ≤ a1 by omega)
  obtain ⟨c, rfl⟩ := Int.eq_ofNat_of_zero_le (show 0 ≤ a2 by omega)
  exact walk_fixWholes_n a b c (by omega) (by omega) (by omega) (by omega) w hl

namespace LFixWholes
set_option maxRecDepth 100000 in
theorem lifted (os : Os) (started : os.Started) (H : Type) (enc : TypeId × Value → H) :
    ReturnsInHanded {} Tryd.checked os 9 .any (fun w args => (Rows.fixWholesSpec.pre enc Tryd.prog Tryd.f9 [] false w args ∧ laidMetH Tryd.prog seatLaid w) ∧ sizedMet enc Tryd.prog Tryd.f9 (OpenSpec.ofChange Rows.fixWholesSpec) false w args)
      (Rows.fixWholesSpec.post enc Tryd.prog Tryd.f9 false true false false) := by
  refine returnsInHanded_of_change_and (C := Tryd.checked) (X := fun w _ => laidMetH Tryd.prog seatLaid w) (fun _ _ _ hh h => h.of_heap hh) own started (by kernel_rfl) Tryd.func9
    (ChangeSpec.witness_at (enc := enc) (C := Tryd.checked) (os := os) (X := fun w _ => laidMetH Tryd.prog seatLaid w) false (laidWorld os) #[.int .i64 0, .int .i64 0, .int .i64 0] 8 rfl (by kernel_rfl) (by kernel_rfl) (by kernel_rfl) (by kernel_rfl) (by kernel_rfl) (laidWorld_met os _)) ?_
  intro W base args ds gs before hval0 hW _ _ hL _
  have hval : ∀ (j : Nat) t v, Tryd.f9.params[j]? = some t → args[j]? = some v → Value.okWide Tryd.prog W .any base t v := hval0
  have hW' := hW
  obtain ⟨p, q, hA0, hV, rfl, hfz, hnd⟩ := hW
  have hA : DataW.TrodAll enc Tryd.prog W 0 (fun _ => true) true Tryd.f9.params.toList args.toList ds p := hA0
  rw [Tryd.params9] at hA hval
  obtain ⟨v0, vs0, d0, ds0, p0, q0, hargs, rfl, rfl, h0, r0⟩ := trodAll_cons hA
  obtain ⟨v1, vs1, d1, ds1, p1, q1, rfl, rfl, rfl, h1, r1⟩ := trodAll_cons r0
  obtain ⟨v2, vs2, d2, ds2, p2, q2, rfl, rfl, rfl, h2, r2⟩ := trodAll_cons r1
  obtain ⟨rfl, rfl, rfl⟩ := trodAll_nil r2
  obtain rfl : args = #[v0, v1, v2] := by cases args; simp_all
  obtain ⟨rfl, rfl⟩ := trodVars_none hV
  obtain ⟨a0, rfl, rfl, rfl, w0⟩ := open_int Tryd.underlying3 (hval 0 3 v0 rfl rfl) h0
  obtain ⟨a1, rfl, rfl, rfl, w1⟩ := open_int Tryd.underlying3 (hval 1 3 v1 rfl rfl) h1
  obtain ⟨a2, rfl, rfl, rfl, w2⟩ := open_int Tryd.underlying3 (hval 2 3 v2 rfl rfl) h2
  clear hA0 hval0
  simp only [List.append_nil] at hW'
  refine (walk_fixWholes a0 a1 a2 w0 w1 w2 W (laid_of hL)).mono fun e W' ⟨he, hb⟩ => ?_
  subst he
  refine ⟨_, rfl, _, _, _, [], [], [], hW', ?_, ?_, ?_, hb.frame _, fun h => by cases h⟩
  · exact trodAll_cons_mk (shut_bool Tryd.underlying4 true) trodAll_mk0
  · exact (trodAll_cons_mk (shut_int Tryd.underlying3 w0) (trodAll_cons_mk (shut_int Tryd.underlying3 w1) (trodAll_cons_mk (shut_int Tryd.underlying3 w2) trodAll_mk0)))
  · rfl

theorem said : Rows.FixWholesSaid :=
  OpenClaim.holds_of_wide 9 Tryd.f9 rfl rfl rfl rfl rfl rfl rfl ⟨rfl, rfl, rfl, rfl, rfl⟩ rfl rfl rfl rfl rfl (by kernel_rfl) Tryd.func9 (by kernel_rfl)
    (of_decide_eq_true (by kernel_rfl)) (by unfold Func.isWrapper; rw [if_neg (of_decide_eq_false (by kernel_rfl))]; exact ⟨rfl, rfl⟩)
    (fun os started H enc _ => lifted os started H enc)

theorem card : Rows.FixWholesCardSaid :=
  Claim7.holds_tied_plain_at .later [] _ _ _ _ said (fun _ h => by cases h) (by kernel_rfl) (fun _ h => by cases h) fixWholes_row_tie rfl ⟨rfl, rfl⟩ (by kernel_rfl) rfl
    (fun f fn hf hfn => by
      obtain rfl : f = 9 := Option.some.inj ((show Tryd.prog.funcNamed "cachewise/cachewiselaw01.FixWholes" = some 9 by kernel_rfl).symm.trans hf) |>.symm
      obtain rfl : fn = Tryd.f9 := (Option.some.inj (Tryd.func9.symm.trans hfn)).symm
      refine ⟨by kernel_rfl, fun j t ht => ?_⟩
      rw [Tryd.params9] at ht
      have ht' : t = 3 := by have := Array.mem_of_getElem? ht; simp at this; omega
      subst ht'
      exact (show Tryd.prog.wantsStandIn 3 = false by kernel_rfl))
    (by kernel_rfl)
#print axioms card
end LFixWholes
end Go.Proofs.YtkcecmofbppodaaDoor
