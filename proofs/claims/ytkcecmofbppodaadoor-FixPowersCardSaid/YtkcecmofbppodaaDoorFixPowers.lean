/- For every input the law FixPowers returns true, and each argument reads afterwards as it read before. Conditions: the program's start lays errors.errorType as its text says (the card ties it). -/
import Derived.Test.YtkcecmofbppodaaDoorLift
import Derived.Test.YtkcecmofbppodaaDoorFxc
import Derived.Test.YtkcecmofbppodaaDoorCards
import Derived.Test.YtkcecmofbppodaaDoorTie
import Derived.SevenTiedAt
namespace Go.Proofs.YtkcecmofbppodaaDoor
open Go.ChangeShapes Go.WideShapes Go.ChangeAt Go.RowKit

theorem pow_by_zero (a : Nat) (w : World) (ha : a ≤ 18446744073709551615) :
    Calls Tryd.prog 24 #[.int .u64 a, .int .i64 0] w (Good 4611686018427387904 w) := by
  have h := powr_yes a 0 w ha (by omega)
  rw [Fx.pw_zero] at h
  exact h
theorem pow_by_one (a : Nat) (w : World) (ha : a ≤ 18446744073709551615) :
    Calls Tryd.prog 24 #[.int .u64 a, .int .i64 1] w (Good a w) := by
  have h := powr_yes a 1 w ha (by omega)
  rw [Fx.pw_first a ha] at h
  exact h
theorem pow_of_one (n : Nat) (w : World) (hn : n ≤ 9223372036854775807) :
    Calls Tryd.prog 24 #[.int .u64 4611686018427387904, .int .i64 n] w (Good 4611686018427387904 w) := by
  have h := powr_yes 4611686018427387904 n w (by omega) hn
  rw [Fx.pw_one] at h
  exact h
theorem pow_next (a n : Nat) (w : World) (ha : a ≤ 18446744073709551615) (hn : n ≤ 1099511627776) :
    Calls Tryd.prog 24 #[.int .u64 a, .int .i64 ((n : Int) + 1)] w (Good (Fx.pw a (n + 1) 4611686018427387904) w) :=
  powr_yes a (n + 1) w ha (by omega)

set_option maxHeartbeats 4000000 in
set_option maxRecDepth 100000 in
theorem walk_fixPowers_n (a b n : Nat) (ha : a ≤ 18446744073709551615) (hb : b ≤ 18446744073709551615) (hn : n ≤ 1099511627776) (w : World) (hl : Laid w) :
    Calls Tryd.prog 6 #[.int .u64 a, .int .u64 b, .int .i64 n] w (RetB true w) := by
  have g1 : decide ((n : Int) < 0) = false := by simp
  have g2 : decide (1099511627776 < (n : Int)) = false := by simp; omega
  have C1 := fun W => Lib.hid (powr_yes a n W ha (by omega))
  have C2 := fun W => Lib.hid (powr_yes b n W hb (by omega))
  have C3 := fun W => Lib.hid (pow_next a n W ha hn)
  obtain ⟨x, hx⟩ : ∃ x, x = Fx.pw a n 4611686018427387904 := ⟨_, rfl⟩
  obtain ⟨y, hy⟩ : ∃ y, y = Fx.pw b n 4611686018427387904 := ⟨_, rfl⟩
  obtain ⟨z, hz⟩ : ∃ z, z = Fx.pw a (n + 1) 4611686018427387904 := ⟨_, rfl⟩
  have x1 : x ≤ 18446744073709551615 := by rw [hx]; exact Fx.pw_le n a _ (by omega)
  have y1 : y ≤ 18446744073709551615 := by rw [hy]; exact Fx.pw_le n b _ (by omega)
  have z1 : z ≤ 18446744073709551615 := by rw [hz]; exact Fx.pw_le (n + 1) a _ (by omega)
  rw [← hx] at C1
  rw [← hy] at C2
  rw [← hz] at C3
  have P := Lib.hid (show decide (b < a) = true ∨ (decide (b < a) = false ∧ decide (x ≤ y) = true) by
    by_cases h : b < a
    · exact Or.inl (by simpa using h)
    · exact Or.inr ⟨by simpa using h, by rw [hx, hy]; simpa using Fx.pw_mono n a b _ _ (Nat.le_of_not_lt h) (Nat.le_refl _)⟩)
  have Q := Lib.hid (show decide (4611686018427387904 < (a : Int)) = true ∨ (decide (4611686018427387904 < (a : Int)) = false ∧ decide ((x : Int) ≤ 4611686018427387904) = true ∧ decide ((z : Int) ≤ 4611686018427387904) = true) by
    by_cases h : 4611686018427387904 < a
    · exact Or.inl (by simp; omega)
    · have h1 := Fx.pw_le_one a n (by omega)
      have h2 := Fx.pw_le_one a (n + 1) (by omega)
      rw [← hx] at h1
      rw [← hz] at h2
      exact Or.inr ⟨by simp; omega, by simp; omega, by simp; omega⟩)
  clear hx hy hz
  rcases P.out with pa | ⟨pa, pb⟩ <;> rcases Q.out with qa | ⟨qa, qb, qc⟩
  all_goals
    clear P Q
    go_enter Tryd.func6, Tryd.ntmps6
    go_wp2_with fail
    refine (awake_any _ hl).mono ?_
    rintro e w1 ⟨rfl, hb1⟩
    have B1 := Lib.hid hb1; clear hb1
    go_wp2_with fail
    refine (pow_by_zero a _ ha).mono ?_
    rintro e w2 ⟨rfl, hb2⟩
    have B2 := Lib.hid (B1.out.trans (hb2.mono B1.out.size)); clear hb2
    go_wp2_with fail
    refine (pow_by_one a _ ha).mono ?_
    rintro e w3 ⟨rfl, hb3⟩
    have B3 := Lib.hid (B2.out.trans (hb3.mono B2.out.size)); clear hb3
    go_wp2_with fail
    refine (pow_of_one n _ (by omega)).mono ?_
    rintro e w4 ⟨rfl, hb4⟩
    have B4 := Lib.hid (B3.out.trans (hb4.mono B3.out.size)); clear hb4
    go_wp2_with fail
    refine (C1 _).out.mono ?_
    rintro e w5 ⟨rfl, hb5⟩
    have B5 := Lib.hid (B4.out.trans (hb5.mono B4.out.size)); clear hb5
    go_wp2_with fail
    refine (C2 _).out.mono ?_
    rintro e w6 ⟨rfl, hb6⟩
    have B6 := Lib.hid (B5.out.trans (hb6.mono B5.out.size)); clear hb6
    go_wp2_with fail
    refine (C3 _).out.mono ?_
    rintro e w7 ⟨rfl, hb7⟩
    have B7 := Lib.hid (B6.out.trans (hb7.mono B6.out.size)); clear hb7
    go_wp2_with fail
    go_ret
    exact ⟨rfl, B7.out⟩

set_option maxHeartbeats 1000000 in
theorem walk_fixPowers (a0 a1 a2 : Int) (w0 : (Lit.int .u64 a0).wf = true) (w1 : (Lit.int .u64 a1).wf = true) (w2 : (Lit.int .i64 a2).wf = true) (w : World) (hl : Laid w) :
    Calls Tryd.prog 6 #[.int .u64 a0, .int .u64 a1, .int .i64 a2] w (RetB true w) := by
  by_cases h1 : a2 < 0
  · have g1 : decide (a2 < 0) = true := by simpa using h1
    go_enter Tryd.func6, Tryd.ntmps6
    go_wp2_with (go_at_call 12; refine (awake_any _ hl).mono ?_; rintro e w1 ⟨rfl, hb1⟩; have B := Lib.hid hb1; clear hb1)
    go_ret
    exact ⟨rfl, B.out⟩
  have g1 : decide (a2 < 0) = false := by simpa using h1
  by_cases h2 : 1099511627776 < a2
  · have g2 : decide (1099511627776 < a2) = true := by simpa using h2
    go_enter Tryd.func6, Tryd.ntmps6
    go_wp2_with (go_at_call 12; refine (awake_any _ hl).mono ?_; rintro e w1 ⟨rfl, hb1⟩; have B := Lib.hid hb1; clear hb1)
    go_ret
    exact ⟨rfl, B.out⟩
  obtain ⟨a, rfl, ha⟩ := u64_nat w0
  obtain ⟨b, rfl, hb⟩ := u64_nat w1
  obtain ⟨n, rfl⟩ := Int.eq_ofNat_of_zero_le (show 0 ≤ a2 by omega)
  exact walk_fixPowers_n a b n ha hb (by omega) w hl

namespace LFixPowers
set_option maxRecDepth 100000 in
theorem lifted (os : Os) (started : os.Started) (H : Type) (enc : TypeId × Value → H) :
    ReturnsInHanded {} Tryd.checked os 6 .any (fun w args => (Rows.fixPowersSpec.pre enc Tryd.prog Tryd.f6 [] false w args ∧ laidMetH Tryd.prog seatLaid w) ∧ sizedMet enc Tryd.prog Tryd.f6 (OpenSpec.ofChange Rows.fixPowersSpec) false w args)
      (Rows.fixPowersSpec.post enc Tryd.prog Tryd.f6 false true false false) := by
  refine returnsInHanded_of_change_and (C := Tryd.checked) (X := fun w _ => laidMetH Tryd.prog seatLaid w) (fun _ _ _ hh h => h.of_heap hh) own started (by kernel_rfl) Tryd.func6
    (ChangeSpec.witness_at (enc := enc) (C := Tryd.checked) (os := os) (X := fun w _ => laidMetH Tryd.prog seatLaid w) false (laidWorld os) #[.int .u64 0, .int .u64 0, .int .i64 0] 8 rfl (by kernel_rfl) (by kernel_rfl) (by kernel_rfl) (by kernel_rfl) (by kernel_rfl) (laidWorld_met os _)) ?_
  intro W base args ds gs before hval0 hW _ _ hL _
  have hval : ∀ (j : Nat) t v, Tryd.f6.params[j]? = some t → args[j]? = some v → Value.okWide Tryd.prog W .any base t v := hval0
  have hW' := hW
  obtain ⟨p, q, hA0, hV, rfl, hfz, hnd⟩ := hW
  have hA : DataW.TrodAll enc Tryd.prog W 0 (fun _ => true) true Tryd.f6.params.toList args.toList ds p := hA0
  rw [Tryd.params6] at hA hval
  obtain ⟨v0, vs0, d0, ds0, p0, q0, hargs, rfl, rfl, h0, r0⟩ := trodAll_cons hA
  obtain ⟨v1, vs1, d1, ds1, p1, q1, rfl, rfl, rfl, h1, r1⟩ := trodAll_cons r0
  obtain ⟨v2, vs2, d2, ds2, p2, q2, rfl, rfl, rfl, h2, r2⟩ := trodAll_cons r1
  obtain ⟨rfl, rfl, rfl⟩ := trodAll_nil r2
  obtain rfl : args = #[v0, v1, v2] := by cases args; simp_all
  obtain ⟨rfl, rfl⟩ := trodVars_none hV
  obtain ⟨a0, rfl, rfl, rfl, w0⟩ := open_int Tryd.underlying23 (hval 0 23 v0 rfl rfl) h0
  obtain ⟨a1, rfl, rfl, rfl, w1⟩ := open_int Tryd.underlying23 (hval 1 23 v1 rfl rfl) h1
  obtain ⟨a2, rfl, rfl, rfl, w2⟩ := open_int Tryd.underlying3 (hval 2 3 v2 rfl rfl) h2
  clear hA0 hval0
  simp only [List.append_nil] at hW'
  refine (walk_fixPowers a0 a1 a2 w0 w1 w2 W (laid_of hL)).mono fun e W' ⟨he, hb⟩ => ?_
  subst he
  refine ⟨_, rfl, _, _, _, [], [], [], hW', ?_, ?_, ?_, hb.frame _, fun h => by cases h⟩
  · exact trodAll_cons_mk (shut_bool Tryd.underlying4 true) trodAll_mk0
  · exact (trodAll_cons_mk (shut_int Tryd.underlying23 w0) (trodAll_cons_mk (shut_int Tryd.underlying23 w1) (trodAll_cons_mk (shut_int Tryd.underlying3 w2) trodAll_mk0)))
  · rfl

theorem said : Rows.FixPowersSaid :=
  OpenClaim.holds_of_wide 6 Tryd.f6 rfl rfl rfl rfl rfl rfl rfl ⟨rfl, rfl, rfl, rfl, rfl⟩ rfl rfl rfl rfl rfl (by kernel_rfl) Tryd.func6 (by kernel_rfl)
    (of_decide_eq_true (by kernel_rfl)) (by unfold Func.isWrapper; rw [if_neg (of_decide_eq_false (by kernel_rfl))]; exact ⟨rfl, rfl⟩)
    (fun os started H enc _ => lifted os started H enc)

theorem card : Rows.FixPowersCardSaid :=
  Claim7.holds_tied_plain_at .later [] _ _ _ _ said (fun _ h => by cases h) (by kernel_rfl) (fun _ h => by cases h) fixPowers_row_tie rfl ⟨rfl, rfl⟩ (by kernel_rfl) rfl
    (fun f fn hf hfn => by
      obtain rfl : f = 6 := Option.some.inj ((show Tryd.prog.funcNamed "cachewise/cachewiselaw01.FixPowers" = some 6 by kernel_rfl).symm.trans hf) |>.symm
      obtain rfl : fn = Tryd.f6 := (Option.some.inj (Tryd.func6.symm.trans hfn)).symm
      refine ⟨by kernel_rfl, fun j t ht => ?_⟩
      rw [Tryd.params6] at ht
      have ht' : t = 3 ∨ t = 23 := by
        rcases j with _ | _ | _ | j
        · exact Or.inr (by simpa using ht.symm)
        · exact Or.inr (by simpa using ht.symm)
        · exact Or.inl (by simpa using ht.symm)
        · simp at ht
      rcases ht' with rfl | rfl
      · exact (show Tryd.prog.wantsStandIn 3 = false by kernel_rfl)
      · exact (show Tryd.prog.wantsStandIn 23 = false by kernel_rfl))
    (by kernel_rfl)
#print axioms card
end LFixPowers
end Go.Proofs.YtkcecmofbppodaaDoor
