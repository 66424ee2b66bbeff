/- For every input the law FixRaises returns true, and each argument reads afterwards as it read before. Conditions: the program's start lays errors.errorType as its text says (the card ties it). -/
import Derived.Test.YtkcecmofbppodaaDoorLift
import Derived.Test.YtkcecmofbppodaaDoorFxc
import Derived.Test.YtkcecmofbppodaaDoorCards
import Derived.Test.YtkcecmofbppodaaDoorTie
import Derived.SevenTiedAt
namespace Go.Proofs.YtkcecmofbppodaaDoor
open Go.ChangeShapes Go.WideShapes Go.ChangeAt Go.RowKit

theorem add_to_one (a : Nat) (w : World) (ha : a ≤ 18446744073709551615) :
    Calls Tryd.prog 17 #[.int .u64 4611686018427387904, .int .u64 a] w fun e w' => e = .returned (.int .u64 (Fx.add 4611686018427387904 a : Nat)) ∧ w = w' :=
  add_any 4611686018427387904 a w (by omega) ha

set_option maxHeartbeats 4000000 in
set_option maxRecDepth 100000 in
theorem walk_fixRaises_n (a b : Nat) (ha : a ≤ 18446744073709551615) (hb : b ≤ 18446744073709551615) (w : World) (hl : Laid w) :
    Calls Tryd.prog 10 #[.int .u64 a, .int .u64 b] w (RetB true w) := by
  have x1 := Fx.exp_le a
  have f1 := Fx.fall_le a
  have t1 : decide (Fx.add 4611686018427387904 a ≤ Fx.exp a) = true := by simpa using Fx.exp_ge_add a ha
  have t2 : decide (0 < Fx.fall a) = true := by simpa using Fx.fall_pos a
  have P := Lib.hid (show decide (b < a) = true ∨ (decide (b < a) = false ∧ decide (Fx.exp a ≤ Fx.exp b) = true) by
    by_cases h : b < a
    · exact Or.inl (by simpa using h)
    · exact Or.inr ⟨by simpa using h, by simpa using Fx.exp_mono (Nat.le_of_not_lt h)⟩)
  have Q := Lib.hid (show (((Fx.exp a : Nat) : Int) == 18446744073709551615) = true ∨ ((((Fx.exp a : Nat) : Int) == 18446744073709551615) = false ∧ decide (((Fx.mul (Fx.exp a) (Fx.fall a) : Nat) : Int) ≤ 4611686018427387904) = true) by
    by_cases h : Fx.exp a = 18446744073709551615
    · exact Or.inl (beq_iff_eq.2 (by omega))
    · exact Or.inr ⟨beq_eq_false_iff_ne.2 (by omega), by have := Fx.fall_mul a; simp; omega⟩)
  rcases P.out with pa | ⟨pa, pb⟩ <;> rcases Q.out with qa | ⟨qa, qb⟩
  all_goals
    clear P Q
    go_enter Tryd.func10, Tryd.ntmps10
    go_wp2_with (first
      | (go_at_call 12; refine (awake_any _ hl).mono ?_; rintro e w1 ⟨rfl, hb1⟩; have B := Lib.hid hb1; clear hb1)
      | (go_at_call 28; refine (exp_any _ _ (by omega)).mono ?_; rintro e w' ⟨rfl, rfl⟩)
      | (go_at_call 17; refine (add_to_one a _ ha).mono ?_; rintro e w' ⟨rfl, rfl⟩)
      | (go_at_call 21; refine (mul_any _ _ _ (by omega) (by omega)).mono ?_; rintro e w' ⟨rfl, rfl⟩)
      | (go_at_call 30; refine (fall_any _ _ (by omega)).mono ?_; rintro e w' ⟨rfl, n, rfl⟩))
    go_ret
    exact ⟨rfl, bdrew B.out _⟩

theorem walk_fixRaises (a0 a1 : Int) (w0 : (Lit.int .u64 a0).wf = true) (w1 : (Lit.int .u64 a1).wf = true) (w : World) (hl : Laid w) :
    Calls Tryd.prog 10 #[.int .u64 a0, .int .u64 a1] w (RetB true w) := by
  obtain ⟨a, rfl, ha⟩ := u64_nat w0
  obtain ⟨b, rfl, hb⟩ := u64_nat w1
  exact walk_fixRaises_n a b ha hb w hl

namespace LFixRaises
set_option maxRecDepth 100000 in
theorem lifted (os : Os) (started : os.Started) (H : Type) (enc : TypeId × Value → H) :
    ReturnsInHanded {} Tryd.checked os 10 .any (fun w args => (Rows.fixRaisesSpec.pre enc Tryd.prog Tryd.f10 [] false w args ∧ laidMetH Tryd.prog seatLaid w) ∧ sizedMet enc Tryd.prog Tryd.f10 (OpenSpec.ofChange Rows.fixRaisesSpec) false w args)
      (Rows.fixRaisesSpec.post enc Tryd.prog Tryd.f10 false true false false) := by
  refine returnsInHanded_of_change_and (C := Tryd.checked) (X := fun w _ => laidMetH Tryd.prog seatLaid w) (fun _ _ _ hh h => h.of_heap hh) own started (by kernel_rfl) Tryd.func10
    (ChangeSpec.witness_at (enc := enc) (C := Tryd.checked) (os := os) (X := fun w _ => laidMetH Tryd.prog seatLaid w) false (laidWorld os) #[.int .u64 0, .int .u64 0] 8 rfl (by kernel_rfl) (by kernel_rfl) (by kernel_rfl) (by kernel_rfl) (by kernel_rfl) (laidWorld_met os _)) ?_
  intro W base args ds gs before hval0 hW _ _ hL _
  have hval : ∀ (j : Nat) t v, Tryd.f10.params[j]? = some t → args[j]? = some v → Value.okWide Tryd.prog W .any base t v := hval0
  have hW' := hW
  obtain ⟨p, q, hA0, hV, rfl, hfz, hnd⟩ := hW
  have hA : DataW.TrodAll enc Tryd.prog W 0 (fun _ => true) true Tryd.f10.params.toList args.toList ds p := hA0
  rw [Tryd.params10] at hA hval
  obtain ⟨v0, vs0, d0, ds0, p0, q0, hargs, rfl, rfl, h0, r0⟩ := trodAll_cons hA
  obtain ⟨v1, vs1, d1, ds1, p1, q1, rfl, rfl, rfl, h1, r1⟩ := trodAll_cons r0
  obtain ⟨rfl, rfl, rfl⟩ := trodAll_nil r1
  obtain rfl : args = #[v0, v1] := by cases args; simp_all
  obtain ⟨rfl, rfl⟩ := trodVars_none hV
  obtain ⟨a0, rfl, rfl, rfl, w0⟩ := open_int Tryd.underlying23 (hval 0 23 v0 rfl rfl) h0
  obtain ⟨a1, rfl, rfl, rfl, w1⟩ := open_int Tryd.underlying23 (hval 1 23 v1 rfl rfl) h1
  clear hA0 hval0
  simp only [List.append_nil] at hW'
  refine (walk_fixRaises a0 a1 w0 w1 W (laid_of hL)).mono fun e W' ⟨he, hb⟩ => ?_
  subst he
  refine ⟨_, rfl, _, _, _, [], [], [], hW', ?_, ?_, ?_, hb.frame _, fun h => by cases h⟩
  · exact trodAll_cons_mk (shut_bool Tryd.underlying4 true) trodAll_mk0
  · exact (trodAll_cons_mk (shut_int Tryd.underlying23 w0) (trodAll_cons_mk (shut_int Tryd.underlying23 w1) trodAll_mk0))
  · rfl

theorem said : Rows.FixRaisesSaid :=
  OpenClaim.holds_of_wide 10 Tryd.f10 rfl rfl rfl rfl rfl rfl rfl ⟨rfl, rfl, rfl, rfl, rfl⟩ rfl rfl rfl rfl rfl (by kernel_rfl) Tryd.func10 (by kernel_rfl)
    (of_decide_eq_true (by kernel_rfl)) (by unfold Func.isWrapper; rw [if_neg (of_decide_eq_false (by kernel_rfl))]; exact ⟨rfl, rfl⟩)
    (fun os started H enc _ => lifted os started H enc)

theorem card : Rows.FixRaisesCardSaid :=
  Claim7.holds_tied_plain_at .later [] _ _ _ _ said (fun _ h => by cases h) (by kernel_rfl) (fun _ h => by cases h) fixRaises_row_tie rfl ⟨rfl, rfl⟩ (by kernel_rfl) rfl
    (fun f fn hf hfn => by
      obtain rfl : f = 10 := Option.some.inj ((show Tryd.prog.funcNamed "cachewise/cachewiselaw01.FixRaises" = some 10 by kernel_rfl).symm.trans hf) |>.symm
      obtain rfl : fn = Tryd.f10 := (Option.some.inj (Tryd.func10.symm.trans hfn)).symm
      refine ⟨by kernel_rfl, fun j t ht => ?_⟩
      rw [Tryd.params10] at ht
      have ht' : t = 23 := by have := Array.mem_of_getElem? ht; simp at this; omega
      subst ht'
      exact (show Tryd.prog.wantsStandIn 23 = false by kernel_rfl))
    (by kernel_rfl)
#print axioms card
end LFixRaises
end Go.Proofs.YtkcecmofbppodaaDoor
