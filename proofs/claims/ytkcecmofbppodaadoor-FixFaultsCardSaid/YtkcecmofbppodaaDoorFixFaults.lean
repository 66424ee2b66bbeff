/- For every input the law FixFaults returns true, and each argument reads afterwards as it read before. Conditions: the program's start lays errors.errorType as its text says (the card ties it). -/
import Derived.Test.YtkcecmofbppodaaDoorLift
import Derived.Test.YtkcecmofbppodaaDoorQuote
import Derived.Test.YtkcecmofbppodaaDoorCards
import Derived.Test.YtkcecmofbppodaaDoorTie
import Derived.SevenTiedAt
namespace Go.Proofs.YtkcecmofbppodaaDoor
open Go.ChangeShapes Go.WideShapes Go.ChangeAt Go.RowKit

set_option maxHeartbeats 4000000 in
set_option maxRecDepth 100000 in
theorem walk_fixFaults_pos (a n : Nat) (ha : a ≤ 18446744073709551615) (hn : n ≤ 9223372036854775807) (w : World) (hl : Laid w) :
    Calls Tryd.prog 11 #[.int .u64 a, .int .i64 n] w (RetB true w) := by
  have e0 : decide ((n : Int) < 0) = false := by simp
  go_enter Tryd.func11, Tryd.ntmps11
  go_wp2_with fail
  refine (awake_any _ hl).mono ?_
  rintro e w1 ⟨rfl, hb1⟩
  have B1 := Lib.hid hb1; clear hb1
  go_wp2_with fail
  refine (div_no a _ ha).mono ?_
  rintro e w2 ⟨g, rfl, hg, k0, k1, k2, hb2⟩
  have hg2 : g < w2.heap.size := cell_lt k2
  have B2 := Lib.hid (B1.out.trans (hb2.mono B1.out.size))
  have K := Lib.hid k2; clear k0 k1 k2 hb2 hg
  go_wp2_with fail
  refine (powr_yes a n _ ha hn).mono ?_
  rintro e w3 ⟨rfl, hb3⟩
  have C3 := Lib.hid hb3; clear hb3
  go_wp2_with fail
  refine (whole_yes n 1 _ hn (by omega) (by omega)).mono ?_
  rintro e w4 ⟨rfl, hb4⟩
  have C4 := Lib.hid (C3.out.trans (hb4.mono C3.out.size)); clear hb4
  have B4 := Lib.hid (B2.out.trans (C4.out.mono B2.out.size))
  have kE : w4.cell? ⟨g, 2, none⟩ = some (.iface 47 (.int .i64 1)) := ((C4.out.cell (p := ⟨g, 2, none⟩) hg2).trans K.out)
  have nE := neqN
  go_wp2_with (first | (go_at_call_of 32 (Value.int IntKind.i64 2); refine (is_no g 2 _ kE (by decide)).mono ?_; rintro e w' ⟨rfl, rfl⟩) | (go_at_call_of 32 (Value.int IntKind.i64 0); refine (is_no g 0 _ kE (by decide)).mono ?_; rintro e w' ⟨rfl, rfl⟩) | (go_at_call_of 32 (Value.pointer (some ⟨g, 0, none⟩)); refine (is_yes g _ kE).mono ?_; rintro e w' ⟨rfl, rfl⟩) | (go_at_call 33; refine (unwrap_any g _ kE).mono ?_; rintro e w' ⟨rfl, rfl⟩))
  go_ret
  exact ⟨rfl, B4.out⟩

set_option maxHeartbeats 4000000 in
set_option maxRecDepth 100000 in
theorem walk_fixFaults_neg (a : Nat) (n : Int) (ha : a ≤ 18446744073709551615) (hn : n < 0) (w : World) (hl : Laid w) :
    Calls Tryd.prog 11 #[.int .u64 a, .int .i64 n] w (RetB true w) := by
  have e0 : decide (n < 0) = true := by simpa using hn
  go_enter Tryd.func11, Tryd.ntmps11
  go_wp2_with fail
  refine (awake_any _ hl).mono ?_
  rintro e w1 ⟨rfl, hb1⟩
  have B1 := Lib.hid hb1; clear hb1
  go_wp2_with fail
  refine (div_no a _ ha).mono ?_
  rintro e w2 ⟨g, rfl, hg, k0, k1, k2, hb2⟩
  have hg2 : g < w2.heap.size := cell_lt k2
  have B2 := Lib.hid (B1.out.trans (hb2.mono B1.out.size))
  have K := Lib.hid k2; clear k0 k1 k2 hb2 hg
  go_wp2_with fail
  refine (powr_no a n _ ha hn).mono ?_
  rintro e w3 ⟨g3, rfl, hg3, j0, j1, j2, hb3⟩
  have hg4 : g3 < w3.heap.size := cell_lt j2
  have J := Lib.hid (And.intro j0 (And.intro j1 j2)); clear j0 j1 j2
  have hne : g < g3 := by omega
  have C3 := Lib.hid hb3; clear hb3 hg3
  go_wp2_with fail
  refine (whole_no n 1 _ (Or.inl hn)).mono ?_
  rintro e w4 ⟨g5, rfl, -, -, -, -, hb4⟩
  have D4 := Lib.hid hb4
  have C4 := Lib.hid (C3.out.trans (hb4.mono C3.out.size)); clear hb4
  have B4 := Lib.hid (B2.out.trans (C4.out.mono B2.out.size))
  have f0 : w4.cell? ⟨g3, 0, none⟩ = some (.string ⟨#[112, 111, 119]⟩) := ((D4.out.cell (p := ⟨g3, 0, none⟩) hg4).trans J.out.1)
  have f1 : w4.cell? ⟨g3, 1, none⟩ = some (.string ⟨#[]⟩) := ((D4.out.cell (p := ⟨g3, 1, none⟩) hg4).trans J.out.2.1)
  have f2 : w4.cell? ⟨g3, 2, none⟩ = some (.iface 47 (.int .i64 1)) := ((D4.out.cell (p := ⟨g3, 2, none⟩) hg4).trans J.out.2.2)
  have mP := methodErrorP
  have kE : w4.cell? ⟨g, 2, none⟩ = some (.iface 47 (.int .i64 1)) := ((C4.out.cell (p := ⟨g, 2, none⟩) hg2).trans K.out)
  have nE := neqN
  go_wp2_with (first | (go_at_call_of 32 (Value.int IntKind.i64 2); refine (is_no g 2 _ kE (by decide)).mono ?_; rintro e w' ⟨rfl, rfl⟩) | (go_at_call_of 32 (Value.int IntKind.i64 0); refine (is_no g 0 _ kE (by decide)).mono ?_; rintro e w' ⟨rfl, rfl⟩) | (go_at_call_of 32 (Value.pointer (some ⟨g, 0, none⟩)); refine (is_yes g _ kE).mono ?_; rintro e w' ⟨rfl, rfl⟩) | (go_at_call 33; refine (unwrap_any g _ kE).mono ?_; rintro e w' ⟨rfl, rfl⟩) | (go_at_call_of 32 (Value.pointer (some ⟨g3, 0, none⟩)); refine (is_yes g3 _ f2).mono ?_; rintro e w' ⟨rfl, rfl⟩) | (go_at_call 96; refine (fault_error g3 _ f0 f1 f2).mono ?_; rintro e w5 ⟨rfl, hb5⟩; have B5 := Lib.hid (B4.out.trans (hb5.mono B4.out.size)); clear hb5))
  go_ret
  exact ⟨rfl, B5.out⟩

theorem walk_fixFaults (a0 a1 : Int) (w0 : (Lit.int .u64 a0).wf = true) (w1 : (Lit.int .i64 a1).wf = true) (w : World) (hl : Laid w) :
    Calls Tryd.prog 11 #[.int .u64 a0, .int .i64 a1] w (RetB true w) := by
  obtain ⟨a, rfl, ha⟩ := u64_nat w0
  by_cases h : a1 < 0
  · exact walk_fixFaults_neg a a1 ha h w hl
  · obtain ⟨n, rfl⟩ := Int.eq_ofNat_of_zero_le (show 0 ≤ a1 by omega)
    exact walk_fixFaults_pos a n ha (by have := (i64_rng w1).2; omega) w hl

namespace LFixFaults
set_option maxRecDepth 100000 in
theorem lifted (os : Os) (started : os.Started) (H : Type) (enc : TypeId × Value → H) :
    ReturnsInHanded {} Tryd.checked os 11 .any (fun w args => (Rows.fixFaultsSpec.pre enc Tryd.prog Tryd.f11 [] false w args ∧ laidMetH Tryd.prog seatLaid w) ∧ sizedMet enc Tryd.prog Tryd.f11 (OpenSpec.ofChange Rows.fixFaultsSpec) false w args)
      (Rows.fixFaultsSpec.post enc Tryd.prog Tryd.f11 false true false false) := by
  refine returnsInHanded_of_change_and (C := Tryd.checked) (X := fun w _ => laidMetH Tryd.prog seatLaid w) (fun _ _ _ hh h => h.of_heap hh) own started (by kernel_rfl) Tryd.func11
    (ChangeSpec.witness_at (enc := enc) (C := Tryd.checked) (os := os) (X := fun w _ => laidMetH Tryd.prog seatLaid w) false (laidWorld os) #[.int .u64 0, .int .i64 0] 8 rfl (by kernel_rfl) (by kernel_rfl) (by kernel_rfl) (by kernel_rfl) (by kernel_rfl) (laidWorld_met os _)) ?_
  intro W base args ds gs before hval0 hW _ _ hL _
  have hval : ∀ (j : Nat) t v, Tryd.f11.params[j]? = some t → args[j]? = some v → Value.okWide Tryd.prog W .any base t v := hval0
  have hW' := hW
  obtain ⟨p, q, hA0, hV, rfl, hfz, hnd⟩ := hW
  have hA : DataW.TrodAll enc Tryd.prog W 0 (fun _ => true) true Tryd.f11.params.toList args.toList ds p := hA0
  rw [Tryd.params11] at hA hval
  obtain ⟨v0, vs0, d0, ds0, p0, q0, hargs, rfl, rfl, h0, r0⟩ := trodAll_cons hA
  obtain ⟨v1, vs1, d1, ds1, p1, q1, rfl, rfl, rfl, h1, r1⟩ := trodAll_cons r0
  obtain ⟨rfl, rfl, rfl⟩ := trodAll_nil r1
  obtain rfl : args = #[v0, v1] := by cases args; simp_all
  obtain ⟨rfl, rfl⟩ := trodVars_none hV
  obtain ⟨a0, rfl, rfl, rfl, w0⟩ := open_int Tryd.underlying23 (hval 0 23 v0 rfl rfl) h0
  obtain ⟨a1, rfl, rfl, rfl, w1⟩ := open_int Tryd.underlying3 (hval 1 3 v1 rfl rfl) h1
  clear hA0 hval0
  simp only [List.append_nil] at hW'
  refine (walk_fixFaults a0 a1 w0 w1 W (laid_of hL)).mono fun e W' ⟨he, hb⟩ => ?_
  subst he
  refine ⟨_, rfl, _, _, _, [], [], [], hW', ?_, ?_, ?_, hb.frame _, fun h => by cases h⟩
  · exact trodAll_cons_mk (shut_bool Tryd.underlying4 true) trodAll_mk0
  · exact (trodAll_cons_mk (shut_int Tryd.underlying23 w0) (trodAll_cons_mk (shut_int Tryd.underlying3 w1) trodAll_mk0))
  · rfl

theorem said : Rows.FixFaultsSaid :=
  OpenClaim.holds_of_wide 11 Tryd.f11 rfl rfl rfl rfl rfl rfl rfl ⟨rfl, rfl, rfl, rfl, rfl⟩ rfl rfl rfl rfl rfl (by kernel_rfl) Tryd.func11 (by kernel_rfl)
    (of_decide_eq_true (by kernel_rfl)) (by unfold Func.isWrapper; rw [if_neg (of_decide_eq_false (by kernel_rfl))]; exact ⟨rfl, rfl⟩)
    (fun os started H enc _ => lifted os started H enc)

theorem card : Rows.FixFaultsCardSaid :=
  Claim7.holds_tied_plain_at .later [] _ _ _ _ said (fun _ h => by cases h) (by kernel_rfl) (fun _ h => by cases h) fixFaults_row_tie rfl ⟨rfl, rfl⟩ (by kernel_rfl) rfl
    (fun f fn hf hfn => by
      obtain rfl : f = 11 := Option.some.inj ((show Tryd.prog.funcNamed "cachewise/cachewiselaw01.FixFaults" = some 11 by kernel_rfl).symm.trans hf) |>.symm
      obtain rfl : fn = Tryd.f11 := (Option.some.inj (Tryd.func11.symm.trans hfn)).symm
      refine ⟨by kernel_rfl, fun j t ht => ?_⟩
      rw [Tryd.params11] at ht
      have ht' : t = 3 ∨ t = 23 := by
        rcases j with _ | _ | j
        · exact Or.inr (by simpa using ht.symm)
        · exact Or.inl (by simpa using ht.symm)
        · simp at ht
      rcases ht' with rfl | rfl
      · exact (show Tryd.prog.wantsStandIn 3 = false by kernel_rfl)
      · exact (show Tryd.prog.wantsStandIn 23 = false by kernel_rfl))
    (by kernel_rfl)
#print axioms card
end LFixFaults
end Go.Proofs.YtkcecmofbppodaaDoor
