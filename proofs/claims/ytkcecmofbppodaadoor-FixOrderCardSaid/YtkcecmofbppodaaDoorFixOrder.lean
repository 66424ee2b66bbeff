/- For every input the law FixOrder returns true, and each argument reads afterwards as it read before. Conditions: the program's start lays errors.errorType as its text says (the card ties it). -/
import Derived.Test.YtkcecmofbppodaaDoorLift
import Derived.Test.YtkcecmofbppodaaDoorFxb
import Derived.Test.YtkcecmofbppodaaDoorCards
import Derived.Test.YtkcecmofbppodaaDoorTie
import Derived.SevenTiedAt
namespace Go.Proofs.YtkcecmofbppodaaDoor
open Go.ChangeShapes Go.WideShapes Go.ChangeAt Go.RowKit

theorem mul_by_one (a : Nat) (w : World) (ha : a ≤ 18446744073709551615) :
    Calls Tryd.prog 21 #[.int .u64 a, .int .u64 4611686018427387904] w fun e w' => e = .returned (.int .u64 a) ∧ w = w' := by
  have h := mul_any a 4611686018427387904 w ha (by omega)
  rw [Fx.mul_one a ha] at h
  exact h

theorem div_zero (a b : Nat) (w : World) (ha : a ≤ 18446744073709551615) (h0 : ¬ 0 < b) :
    Calls Tryd.prog 13 #[.int .u64 a, .int .u64 b] w (Faulty [100, 105, 118] w) := by
  obtain rfl : b = 0 := by omega
  exact div_no a w ha

set_option maxHeartbeats 4000000 in
set_option maxRecDepth 100000 in
theorem walk_fixOrder_n (a b c : Nat) (ha : a ≤ 18446744073709551615) (hb : b ≤ 18446744073709551615) (hc : c ≤ 18446744073709551615) (w : World) (hl : Laid w) :
    Calls Tryd.prog 5 #[.int .u64 a, .int .u64 b, .int .u64 c] w (RetB true w) := by
  have m1 := Fx.mul_le a b
  have m2 := Fx.mul_le a c
  have s1 := Fx.add_le a b
  have q1 := Fx.quo_le a b ha
  obtain ⟨d, hd⟩ : ∃ d, d = Fx.add a b - b := ⟨_, rfl⟩
  have CS := fun W => Lib.hid (sub_any (Fx.add a b) b W s1 hb)
  rw [← hd] at CS
  have t1 : decide (a < d) = false := by simp; rw [hd]; exact Fx.add_sub_le a b
  have t2 : decide (4611686018427387904 < (Fx.fall a : Int)) = false := by have := Fx.fall_le a; simp; omega
  have t3 := Fx.mul_comm a b
  clear hd
  by_cases h0 : 0 < b
  · have z1 : ((b : Int) == 0) = false := beq_eq_false_iff_ne.2 (by omega)
    have Q := Lib.hid (show (((Fx.quo a b : Nat) : Int) == 18446744073709551615) = true ∨ ((((Fx.quo a b : Nat) : Int) == 18446744073709551615) = false ∧ decide (Fx.mul (Fx.quo a b) b ≤ a) = true) by
      by_cases h : Fx.quo a b = 18446744073709551615
      · exact Or.inl (beq_iff_eq.2 (by omega))
      · exact Or.inr ⟨beq_eq_false_iff_ne.2 (by omega), by simpa using Fx.quo_mul a b h⟩)
    have R := Lib.hid (show decide ((b : Int) ≤ 4611686018427387904) = false ∨ (decide ((b : Int) ≤ 4611686018427387904) = true ∧ decide (a < Fx.mul a b) = false) by
      by_cases h : b ≤ 4611686018427387904
      · exact Or.inr ⟨by simp; omega, by simpa using Fx.mul_le_left a b ha h⟩
      · exact Or.inl (by simp; omega))
    have S := Lib.hid (show decide (b ≤ c) = false ∨ (decide (b ≤ c) = true ∧ decide (Fx.mul a c < Fx.mul a b) = false ∧ decide (Fx.fall b < Fx.fall c) = false) by
      by_cases h : b ≤ c
      · exact Or.inr ⟨by simpa using h, by simpa using Fx.mul_mono (Nat.le_refl a) h, by simpa using Fx.fall_anti h⟩
      · exact Or.inl (by simpa using h))
    rcases Q.out with qa | ⟨qa, qb⟩ <;> rcases R.out with ra | ⟨ra, rb⟩ <;> rcases S.out with sa | ⟨sa, sb, sc⟩
    all_goals
      clear Q R S
      go_enter Tryd.func5, Tryd.ntmps5
      go_wp2_with (first
            | (go_at_call 12; refine (awake_any _ hl).mono ?_; rintro e w1 ⟨rfl, hb1⟩; have B := Lib.hid hb1; clear hb1)
            | (go_at_call_of 21 (Value.int IntKind.u64 4611686018427387904); refine (mul_by_one a _ ha).mono ?_; rintro e w' ⟨rfl, rfl⟩)
            | (go_at_call 21; refine (mul_any _ _ _ (by omega) (by omega)).mono ?_; rintro e w' ⟨rfl, rfl⟩)
            | (go_at_call 30; refine (fall_any _ _ (by omega)).mono ?_; rintro e w' ⟨rfl, n, rfl⟩)
            | (go_at_call 17; refine (add_any _ _ _ (by omega) (by omega)).mono ?_; rintro e w' ⟨rfl, rfl⟩)
            | (go_at_call 19; refine (CS _).out.mono ?_; rintro e w' ⟨rfl, rfl⟩)
            | (go_at_call 13; refine (div_yes a b _ ha hb h0).mono ?_; rintro e w' ⟨rfl, hb2⟩; have B2 := Lib.hid hb2; clear hb2))
      go_ret
      exact ⟨rfl, (bdrew B.out _).trans (B2.out.mono (bdrew B.out _).size)⟩
  · have z1 : ((b : Int) == 0) = true := beq_iff_eq.2 (by omega)
    have R := Lib.hid (show decide ((b : Int) ≤ 4611686018427387904) = false ∨ (decide ((b : Int) ≤ 4611686018427387904) = true ∧ decide (a < Fx.mul a b) = false) by
      by_cases h : b ≤ 4611686018427387904
      · exact Or.inr ⟨by simp; omega, by simpa using Fx.mul_le_left a b ha h⟩
      · exact Or.inl (by simp; omega))
    have S := Lib.hid (show decide (b ≤ c) = false ∨ (decide (b ≤ c) = true ∧ decide (Fx.mul a c < Fx.mul a b) = false ∧ decide (Fx.fall b < Fx.fall c) = false) by
      by_cases h : b ≤ c
      · exact Or.inr ⟨by simpa using h, by simpa using Fx.mul_mono (Nat.le_refl a) h, by simpa using Fx.fall_anti h⟩
      · exact Or.inl (by simpa using h))
    rcases R.out with ra | ⟨ra, rb⟩ <;> rcases S.out with sa | ⟨sa, sb, sc⟩
    all_goals
      clear R S
      go_enter Tryd.func5, Tryd.ntmps5
      go_wp2_with (first
            | (go_at_call 12; refine (awake_any _ hl).mono ?_; rintro e w1 ⟨rfl, hb1⟩; have B := Lib.hid hb1; clear hb1)
            | (go_at_call_of 21 (Value.int IntKind.u64 4611686018427387904); refine (mul_by_one a _ ha).mono ?_; rintro e w' ⟨rfl, rfl⟩)
            | (go_at_call 21; refine (mul_any _ _ _ (by omega) (by omega)).mono ?_; rintro e w' ⟨rfl, rfl⟩)
            | (go_at_call 30; refine (fall_any _ _ (by omega)).mono ?_; rintro e w' ⟨rfl, n, rfl⟩)
            | (go_at_call 17; refine (add_any _ _ _ (by omega) (by omega)).mono ?_; rintro e w' ⟨rfl, rfl⟩)
            | (go_at_call 19; refine (CS _).out.mono ?_; rintro e w' ⟨rfl, rfl⟩)
            | (go_at_call 13; refine (div_zero a b _ ha h0).mono ?_; rintro e w' ⟨g, rfl, -, -, -, -, hb2⟩; have B2 := Lib.hid hb2; clear hb2))
      go_ret
      exact ⟨rfl, (bdrew B.out _).trans (B2.out.mono (bdrew B.out _).size)⟩

theorem walk_fixOrder (a0 a1 a2 : Int) (w0 : (Lit.int .u64 a0).wf = true) (w1 : (Lit.int .u64 a1).wf = true) (w2 : (Lit.int .u64 a2).wf = true) (w : World) (hl : Laid w) :
    Calls Tryd.prog 5 #[.int .u64 a0, .int .u64 a1, .int .u64 a2] w (RetB true w) := by
  obtain ⟨a, rfl, ha⟩ := u64_nat w0
  obtain ⟨b, rfl, hb⟩ := u64_nat w1
  obtain ⟨c, rfl, hc⟩ := u64_nat w2
  exact walk_fixOrder_n a b c ha hb hc w hl

namespace LFixOrder
set_option maxRecDepth 100000 in
theorem lifted (os : Os) (started : os.Started) (H : Type) (enc : TypeId × Value → H) :
    ReturnsInHanded {} Tryd.checked os 5 .any (fun w args => (Rows.fixOrderSpec.pre enc Tryd.prog Tryd.f5 [] false w args ∧ laidMetH Tryd.prog seatLaid w) ∧ sizedMet enc Tryd.prog Tryd.f5 (OpenSpec.ofChange Rows.fixOrderSpec) false w args)
      (Rows.fixOrderSpec.post enc Tryd.prog Tryd.f5 false true false false) := by
  refine returnsInHanded_of_change_and (C := Tryd.checked) (X := fun w _ => laidMetH Tryd.prog seatLaid w) (fun _ _ _ hh h => h.of_heap hh) own started (by kernel_rfl) Tryd.func5
    (ChangeSpec.witness_at (enc := enc) (C := Tryd.checked) (os := os) (X := fun w _ => laidMetH Tryd.prog seatLaid w) false (laidWorld os) #[.int .u64 0, .int .u64 0, .int .u64 0] 8 rfl (by kernel_rfl) (by kernel_rfl) (by kernel_rfl) (by kernel_rfl) (by kernel_rfl) (laidWorld_met os _)) ?_
  intro W base args ds gs before hval0 hW _ _ hL _
  have hval : ∀ (j : Nat) t v, Tryd.f5.params[j]? = some t → args[j]? = some v → Value.okWide Tryd.prog W .any base t v := hval0
  have hW' := hW
  obtain ⟨p, q, hA0, hV, rfl, hfz, hnd⟩ := hW
  have hA : DataW.TrodAll enc Tryd.prog W 0 (fun _ => true) true Tryd.f5.params.toList args.toList ds p := hA0
  rw [Tryd.params5] at hA hval
  obtain ⟨v0, vs0, d0, ds0, p0, q0, hargs, rfl, rfl, h0, r0⟩ := trodAll_cons hA
  obtain ⟨v1, vs1, d1, ds1, p1, q1, rfl, rfl, rfl, h1, r1⟩ := trodAll_cons r0
  obtain ⟨v2, vs2, d2, ds2, p2, q2, rfl, rfl, rfl, h2, r2⟩ := trodAll_cons r1
  obtain ⟨rfl, rfl, rfl⟩ := trodAll_nil r2
  obtain rfl : args = #[v0, v1, v2] := by cases args; simp_all
  obtain ⟨rfl, rfl⟩ := trodVars_none hV
  obtain ⟨a0, rfl, rfl, rfl, w0⟩ := open_int Tryd.underlying23 (hval 0 23 v0 rfl rfl) h0
  obtain ⟨a1, rfl, rfl, rfl, w1⟩ := open_int Tryd.underlying23 (hval 1 23 v1 rfl rfl) h1
  obtain ⟨a2, rfl, rfl, rfl, w2⟩ := open_int Tryd.underlying23 (hval 2 23 v2 rfl rfl) h2
  clear hA0 hval0
  simp only [List.append_nil] at hW'
  refine (walk_fixOrder a0 a1 a2 w0 w1 w2 W (laid_of hL)).mono fun e W' ⟨he, hb⟩ => ?_
  subst he
  refine ⟨_, rfl, _, _, _, [], [], [], hW', ?_, ?_, ?_, hb.frame _, fun h => by cases h⟩
  · exact trodAll_cons_mk (shut_bool Tryd.underlying4 true) trodAll_mk0
  · exact (trodAll_cons_mk (shut_int Tryd.underlying23 w0) (trodAll_cons_mk (shut_int Tryd.underlying23 w1) (trodAll_cons_mk (shut_int Tryd.underlying23 w2) trodAll_mk0)))
  · rfl

theorem said : Rows.FixOrderSaid :=
  OpenClaim.holds_of_wide 5 Tryd.f5 rfl rfl rfl rfl rfl rfl rfl ⟨rfl, rfl, rfl, rfl, rfl⟩ rfl rfl rfl rfl rfl (by kernel_rfl) Tryd.func5 (by kernel_rfl)
    (of_decide_eq_true (by kernel_rfl)) (by unfold Func.isWrapper; rw [if_neg (of_decide_eq_false (by kernel_rfl))]; exact ⟨rfl, rfl⟩)
    (fun os started H enc _ => lifted os started H enc)

theorem card : Rows.FixOrderCardSaid :=
  Claim7.holds_tied_plain_at .later [] _ _ _ _ said (fun _ h => by cases h) (by kernel_rfl) (fun _ h => by cases h) fixOrder_row_tie rfl ⟨rfl, rfl⟩ (by kernel_rfl) rfl
    (fun f fn hf hfn => by
      obtain rfl : f = 5 := Option.some.inj ((show Tryd.prog.funcNamed "cachewise/cachewiselaw01.FixOrder" = some 5 by kernel_rfl).symm.trans hf) |>.symm
      obtain rfl : fn = Tryd.f5 := (Option.some.inj (Tryd.func5.symm.trans hfn)).symm
      refine ⟨by kernel_rfl, fun j t ht => ?_⟩
      rw [Tryd.params5] at ht
      have ht' : t = 23 := by have := Array.mem_of_getElem? ht; simp at this; omega
      subst ht'
      exact (show Tryd.prog.wantsStandIn 23 = false by kernel_rfl))
    (by kernel_rfl)
#print axioms card
end LFixOrder
end Go.Proofs.YtkcecmofbppodaaDoor
