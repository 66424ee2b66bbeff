/- For every input the law FixSums returns true, and each argument reads afterwards as it read before. Conditions: the program's start lays errors.errorType as its text says (the card ties it). -/
import Derived.Test.YtkcecmofbppodaaDoorLift
import Derived.Test.YtkcecmofbppodaaDoorCards
import Derived.Test.YtkcecmofbppodaaDoorTie
import Derived.SevenTiedAt
namespace Go.Proofs.YtkcecmofbppodaaDoor
open Go.ChangeShapes Go.WideShapes Go.ChangeAt Go.RowKit

namespace Fx
theorem add_comm (a b : Nat) : add b a = add a b := by unfold add; rw [Nat.add_comm]
theorem add_assoc (a b c : Nat) : add (add a b) c = add a (add b c) := by
  unfold add
  split <;> split <;> split <;> (try split) <;> omega
theorem le_add_left (a b : Nat) (h : a ≤ 18446744073709551615) : a ≤ add a b := by unfold add; split <;> omega
theorem le_add_right (a b : Nat) (h : b ≤ 18446744073709551615) : b ≤ add a b := by unfold add; split <;> omega
theorem add_sub (a b : Nat) (h : add a b ≠ 18446744073709551615) : add a b - b = a := by
  unfold add at *
  split at h <;> first | (exfalso; exact h rfl) | (split <;> omega)
end Fx

set_option maxHeartbeats 2000000 in
set_option maxRecDepth 100000 in
theorem walk_fixSums_n (a b c : Nat) (ha : a ≤ 18446744073709551615) (hb : b ≤ 18446744073709551615) (hc : c ≤ 18446744073709551615) (w : World) (hl : Laid w) :
    Calls Tryd.prog 8 #[.int .u64 a, .int .u64 b, .int .u64 c] w (RetB true w) := by
  obtain ⟨s, hs⟩ : ∃ s, s = Fx.add a b := ⟨_, rfl⟩
  obtain ⟨t, ht⟩ : ∃ t, t = Fx.add b c := ⟨_, rfl⟩
  obtain ⟨u, hu⟩ : ∃ u, u = Fx.add s c := ⟨_, rfl⟩
  have hs2 : s ≤ 18446744073709551615 := by rw [hs]; exact Fx.add_le _ _
  have ht2 : t ≤ 18446744073709551615 := by rw [ht]; exact Fx.add_le _ _
  have has : a ≤ s := by rw [hs]; exact Fx.le_add_left _ _ ha
  have hbs : b ≤ s := by rw [hs]; exact Fx.le_add_right _ _ hb
  have C1 := fun W => Lib.hid (add_any a b W ha hb)
  have C2 := fun W => Lib.hid (add_any b a W hb ha)
  have C3 := fun W => Lib.hid (add_any s c W hs2 hc)
  have C4 := fun W => Lib.hid (add_any b c W hb hc)
  have C5 := fun W => Lib.hid (add_any a t W ha ht2)
  have C6 := fun W => Lib.hid (add_any a 0 W ha (by omega))
  have C7 := fun W => Lib.hid (sub_any a 0 W ha (by omega))
  have C8 := fun W => Lib.hid (sub_any a a W ha ha)
  have C9 := fun W => Lib.hid (sub_any s b W hs2 hb)
  have C10 := fun W => Lib.hid (mul_any a 0 W ha (by omega))
  rw [← hs] at C1
  rw [Fx.add_comm a b, ← hs] at C2
  rw [← hu] at C3
  rw [← ht] at C4
  rw [show Fx.add a t = u by rw [ht, hu, hs, Fx.add_assoc]] at C5
  rw [Fx.add_zero a ha] at C6
  rw [Nat.sub_zero] at C7
  rw [Nat.sub_self] at C8
  rw [Fx.mul_zero] at C10
  have HS := Lib.hid (fun h : s ≠ 18446744073709551615 => Fx.add_sub a b (by rw [← hs]; exact h))
  rw [← hs] at HS
  clear hs ht hu
  go_enter Tryd.func8, Tryd.ntmps8
  go_wp2_with fail
  refine (awake_any _ hl).mono ?_
  rintro e w1 ⟨rfl, hb1⟩
  have B := Lib.hid hb1; clear hb1
  go_wp2_with fail
  refine (C1 _).out.mono ?_
  rintro e w' ⟨rfl, rfl⟩
  go_wp2_with fail
  refine (C2 _).out.mono ?_
  rintro e w' ⟨rfl, rfl⟩
  go_wp2_with fail
  refine (C3 _).out.mono ?_
  rintro e w' ⟨rfl, rfl⟩
  go_wp2_with fail
  refine (C4 _).out.mono ?_
  rintro e w' ⟨rfl, rfl⟩
  go_wp2_with fail
  refine (C5 _).out.mono ?_
  rintro e w' ⟨rfl, rfl⟩
  go_wp2_with fail
  refine (C6 _).out.mono ?_
  rintro e w' ⟨rfl, rfl⟩
  go_wp2_with fail
  refine (C7 _).out.mono ?_
  rintro e w' ⟨rfl, rfl⟩
  go_wp2_with fail
  refine (C8 _).out.mono ?_
  rintro e w' ⟨rfl, rfl⟩
  by_cases hm : s = 18446744073709551615
  · have hm2 : ((s : Int) == 18446744073709551615) = true := beq_iff_eq.2 (by omega)
    have HM := Lib.hid hm; clear hm
    go_wp2_with fail
    refine (C10 _).out.mono ?_
    rintro e w' ⟨rfl, rfl⟩
    go_wp2_with fail
    go_ret
    exact ⟨rfl, B.out⟩
  · have hm2 : ((s : Int) == 18446744073709551615) = false := beq_eq_false_iff_ne.2 (by omega)
    have h9 := HS.out hm
    rw [h9] at C9
    clear hm h9
    go_wp2_with fail
    refine (C9 _).out.mono ?_
    rintro e w' ⟨rfl, rfl⟩
    go_wp2_with fail
    refine (C10 _).out.mono ?_
    rintro e w' ⟨rfl, rfl⟩
    go_wp2_with fail
    go_ret
    exact ⟨rfl, B.out⟩

theorem walk_fixSums (a0 a1 a2 : Int) (w0 : (Lit.int .u64 a0).wf = true) (w1 : (Lit.int .u64 a1).wf = true) (w2 : (Lit.int .u64 a2).wf = true) (w : World) (hl : Laid w) :
    Calls Tryd.prog 8 #[.int .u64 a0, .int .u64 a1, .int .u64 a2] w (RetB true w) := by
  obtain ⟨a, rfl, ha⟩ := u64_nat w0
  obtain ⟨b, rfl, hb⟩ := u64_nat w1
  obtain ⟨c, rfl, hc⟩ := u64_nat w2
  exact walk_fixSums_n a b c ha hb hc w hl

namespace LFixSums
set_option maxRecDepth 100000 in
theorem lifted (os : Os) (started : os.Started) (H : Type) (enc : TypeId × Value → H) :
    ReturnsInHanded {} Tryd.checked os 8 .any (fun w args => (Rows.fixSumsSpec.pre enc Tryd.prog Tryd.f8 [] false w args ∧ laidMetH Tryd.prog seatLaid w) ∧ sizedMet enc Tryd.prog Tryd.f8 (OpenSpec.ofChange Rows.fixSumsSpec) false w args)
      (Rows.fixSumsSpec.post enc Tryd.prog Tryd.f8 false true false false) := by
  refine returnsInHanded_of_change_and (C := Tryd.checked) (X := fun w _ => laidMetH Tryd.prog seatLaid w) (fun _ _ _ hh h => h.of_heap hh) own started (by kernel_rfl) Tryd.func8
    (ChangeSpec.witness_at (enc := enc) (C := Tryd.checked) (os := os) (X := fun w _ => laidMetH Tryd.prog seatLaid w) false (laidWorld os) #[.int .u64 0, .int .u64 0, .int .u64 0] 8 rfl (by kernel_rfl) (by kernel_rfl) (by kernel_rfl) (by kernel_rfl) (by kernel_rfl) (laidWorld_met os _)) ?_
  intro W base args ds gs before hval0 hW _ _ hL _
  have hval : ∀ (j : Nat) t v, Tryd.f8.params[j]? = some t → args[j]? = some v → Value.okWide Tryd.prog W .any base t v := hval0
  have hW' := hW
  obtain ⟨p, q, hA0, hV, rfl, hfz, hnd⟩ := hW
  have hA : DataW.TrodAll enc Tryd.prog W 0 (fun _ => true) true Tryd.f8.params.toList args.toList ds p := hA0
  rw [Tryd.params8] at hA hval
  obtain ⟨v0, vs0, d0, ds0, p0, q0, hargs, rfl, rfl, h0, r0⟩ := trodAll_cons hA
  obtain ⟨v1, vs1, d1, ds1, p1, q1, rfl, rfl, rfl, h1, r1⟩ := trodAll_cons r0
  obtain ⟨v2, vs2, d2, ds2, p2, q2, rfl, rfl, rfl, h2, r2⟩ := trodAll_cons r1
  obtain ⟨rfl, rfl, rfl⟩ := trodAll_nil r2
  obtain rfl : args = #[v0, v1, v2] := by cases args; simp_all
  obtain ⟨rfl, rfl⟩ := trodVars_none hV
  obtain ⟨a0, rfl, rfl, rfl, w0⟩ := open_int Tryd.underlying23 (hval 0 23 v0 rfl rfl) h0
  obtain ⟨a1, rfl, rfl, rfl, w1⟩ := open_int Tryd.underlying23 (hval 1 23 v1 rfl rfl) h1
  obtain ⟨a2, rfl, rfl, rfl, w2⟩ := open_int Tryd.underlying23 (hval 2 23 v2 rfl rfl) h2
  clear hA0 hval0
  simp only [List.append_nil] at hW'
  refine (walk_fixSums a0 a1 a2 w0 w1 w2 W (laid_of hL)).mono fun e W' ⟨he, hb⟩ => ?_
  subst he
  refine ⟨_, rfl, _, _, _, [], [], [], hW', ?_, ?_, ?_, hb.frame _, fun h => by cases h⟩
  · exact trodAll_cons_mk (shut_bool Tryd.underlying4 true) trodAll_mk0
  · exact (trodAll_cons_mk (shut_int Tryd.underlying23 w0) (trodAll_cons_mk (shut_int Tryd.underlying23 w1) (trodAll_cons_mk (shut_int Tryd.underlying23 w2) trodAll_mk0)))
  · rfl

theorem said : Rows.FixSumsSaid :=
  OpenClaim.holds_of_wide 8 Tryd.f8 rfl rfl rfl rfl rfl rfl rfl ⟨rfl, rfl, rfl, rfl, rfl⟩ rfl rfl rfl rfl rfl (by kernel_rfl) Tryd.func8 (by kernel_rfl)
    (of_decide_eq_true (by kernel_rfl)) (by unfold Func.isWrapper; rw [if_neg (of_decide_eq_false (by kernel_rfl))]; exact ⟨rfl, rfl⟩)
    (fun os started H enc _ => lifted os started H enc)

theorem card : Rows.FixSumsCardSaid :=
  Claim7.holds_tied_plain_at .later [] _ _ _ _ said (fun _ h => by cases h) (by kernel_rfl) (fun _ h => by cases h) fixSums_row_tie rfl ⟨rfl, rfl⟩ (by kernel_rfl) rfl
    (fun f fn hf hfn => by
      obtain rfl : f = 8 := Option.some.inj ((show Tryd.prog.funcNamed "cachewise/cachewiselaw01.FixSums" = some 8 by kernel_rfl).symm.trans hf) |>.symm
      obtain rfl : fn = Tryd.f8 := (Option.some.inj (Tryd.func8.symm.trans hfn)).symm
      refine ⟨by kernel_rfl, fun j t ht => ?_⟩
      rw [Tryd.params8] at ht
      have ht' : t = 23 := by have := Array.mem_of_getElem? ht; simp at this; omega
      subst ht'
      exact (show Tryd.prog.wantsStandIn 23 = false by kernel_rfl))
    (by kernel_rfl)
#print axioms card
end LFixSums
end Go.Proofs.YtkcecmofbppodaaDoor
