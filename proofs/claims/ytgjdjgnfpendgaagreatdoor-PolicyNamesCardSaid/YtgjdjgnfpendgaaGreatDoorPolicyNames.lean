/- 'cachewiselaw09.PolicyNames' returns true for every two numbers, and leaves what was there as it was. The listed variables read as the program's text lays them. -/
import Derived.Test.YtgjdjgnfpendgaaGreatDoorAw9
import Derived.Test.YtgjdjgnfpendgaaGreatDoorShapes9
import Derived.Test.YtgjdjgnfpendgaaGreatDoorCards
import Derived.Test.YtgjdjgnfpendgaaGreatDoorTie
import Derived.SevenTiedAt
set_option maxRecDepth 20000
namespace Go.Proofs.YtgjdjgnfpendgaaGreatDoor
open Go.ChangeShapes Go.WideShapes Go.ChangeAt Go.RowKit Sg

def RName (s : ByteArray) (c : Int) (w : World) (e : Ending) (w' : World) : Prop := e = .returned (.tuple #[.string s, .int .i64 c]) ∧ Below w.heap.size w w'
theorem refName_any (w : World) (k : Nat) (hk : k < 7) : Calls Tryz.prog 40 #[.int .i64 (k : Int)] w (RName (nameOf k) 0 w) := by
  rcases k with _ | _ | _ | _ | _ | _ | _ | k
  · show Calls Tryz.prog 40 #[.int .i64 0] w (RName ⟨#[76, 82, 85]⟩ 0 w)
    go_enter Tryz.func40, Tryz.ntmps40
    go_wp2_with fail
    go_ret2
    exact ⟨rfl, (Below.refl _ _).alloc (Nat.le_refl _) _⟩
  · show Calls Tryz.prog 40 #[.int .i64 1] w (RName ⟨#[76, 70, 85]⟩ 0 w)
    go_enter Tryz.func40, Tryz.ntmps40
    go_wp2_with fail
    go_ret2
    exact ⟨rfl, (Below.refl _ _).alloc (Nat.le_refl _) _⟩
  · show Calls Tryz.prog 40 #[.int .i64 2] w (RName ⟨#[67, 82, 45, 76, 70, 85]⟩ 0 w)
    go_enter Tryz.func40, Tryz.ntmps40
    go_wp2_with fail
    go_ret2
    exact ⟨rfl, (Below.refl _ _).alloc (Nat.le_refl _) _⟩
  · show Calls Tryz.prog 40 #[.int .i64 3] w (RName ⟨#[83, 82, 45, 76, 82, 85]⟩ 0 w)
    go_enter Tryz.func40, Tryz.ntmps40
    go_wp2_with fail
    go_ret2
    exact ⟨rfl, (Below.refl _ _).alloc (Nat.le_refl _) _⟩
  · show Calls Tryz.prog 40 #[.int .i64 4] w (RName ⟨#[65, 82, 67]⟩ 0 w)
    go_enter Tryz.func40, Tryz.ntmps40
    go_wp2_with fail
    go_ret2
    exact ⟨rfl, (Below.refl _ _).alloc (Nat.le_refl _) _⟩
  · show Calls Tryz.prog 40 #[.int .i64 5] w (RName ⟨#[76, 101, 67, 97, 82]⟩ 0 w)
    go_enter Tryz.func40, Tryz.ntmps40
    go_wp2_with fail
    go_ret2
    exact ⟨rfl, (Below.refl _ _).alloc (Nat.le_refl _) _⟩
  · show Calls Tryz.prog 40 #[.int .i64 6] w (RName ⟨#[67, 65, 67, 72, 69, 85, 83]⟩ 0 w)
    go_enter Tryz.func40, Tryz.ntmps40
    go_wp2_with fail
    go_ret2
    exact ⟨rfl, (Below.refl _ _).alloc (Nat.le_refl _) _⟩
  · omega
theorem refName_no (w : World) (z : Int) (hz : z < 0 ∨ 7 ≤ z) : Calls Tryz.prog 40 #[.int .i64 z] w (RName ⟨#[]⟩ 7 w) := by
  go_enter Tryz.func40, Tryz.ntmps40
  by_cases h0 : z < 0
  · clear hz
    go_wp2_with fail
    go_ret2
    exact ⟨rfl, (Below.refl _ _).alloc (Nat.le_refl _) _⟩
  · have h1 : 6 < z := by omega
    clear hz
    go_wp2_with fail
    go_ret2
    exact ⟨rfl, (Below.refl _ _).alloc (Nat.le_refl _) _⟩
theorem nameOf_inj {a b : Nat} (ha : a < 7) (hb : b < 7) (h : nameOf a = nameOf b) : a = b := by
  have key : ∀ i, i < 7 → ∀ j, j < 7 → (nameOf i).data = (nameOf j).data → i = j := by decide
  exact key a ha b hb (congrArg ByteArray.data h)
/-- A name, or none. -/
theorem name_ways (z : Int) : (∃ k : Nat, z = (k : Int) ∧ k < 7) ∨ (z < 0 ∨ 7 ≤ z) := by
  by_cases h : z < 0 ∨ 7 ≤ z
  · exact Or.inr h
  · exact Or.inl ⟨z.toNat, by omega, by omega⟩

set_option maxHeartbeats 1000000 in
theorem walk_policyNames (a0 a1 : Int) (w : World) (_w0 : (Lit.int .i64 a0).wf = true) (_w1 : (Lit.int .i64 a1).wf = true) (hl : Laid w ∧ Named w) : Calls Tryz.prog 4 #[.int .i64 a0, .int .i64 a1] w (RetB true w) := by
  clear _w0 _w1
  have HN := Lib.hid hl
  have AW := Lib.hid (awake_any w hl)
  clear hl
  rcases name_ways a0 with ⟨i, rfl, hi⟩ | hi
  · have N1 := Lib.hid (fun w1 h => name_any w1 i hi h)
    have N2 := Lib.hid (fun w1 => refName_any w1 i hi)
    rcases name_ways a1 with ⟨j, rfl, hj⟩ | hj
    · have N3 := Lib.hid (fun w1 h => name_any w1 j hj h)
      have IN := Lib.hid (fun h => nameOf_inj hi hj h)
      clear hi hj
      by_cases hij : i = j
      · subst hij
        clear IN
        generalize nameOf i = s at *
        go_enter Tryz.func4, Tryz.ntmps4
        go_wp2_with fail
        refine AW.out.mono ?_
        rintro e w1 ⟨rfl, hB⟩
        have M1 := Lib.hid (HN.out.2.below hB (Nat.le_refl _))
        have B1 := Lib.hid hB
        clear hB
        go_wp2_with fail
        refine (N1.out _ M1.out).mono ?_
        rintro e w2 ⟨rfl, rfl⟩
        go_wp2_with fail
        refine (N2.out _).mono ?_
        rintro e w2 ⟨rfl, hB⟩
        have M2 := Lib.hid (M1.out.below hB (Nat.le_refl _))
        have B2 := Lib.hid (B1.out.trans (hB.mono B1.out.size))
        clear hB
        go_wp2_with fail
        refine (N3.out _ M2.out).mono ?_
        rintro e w3 ⟨rfl, rfl⟩
        go_wp2_with fail
        refine (wraps_none _ _ _).mono ?_
        rintro e w3 ⟨rfl, rfl⟩
        go_wp2_with fail
        go_ret
        exact ⟨rfl, B2.out⟩
      · have hne : ¬ nameOf i = nameOf j := fun e => hij (IN.out e)
        have hz : ¬ (i : Int) = (j : Int) := by omega
        clear IN
        generalize nameOf i = s at *
        generalize nameOf j = t at *
        go_enter Tryz.func4, Tryz.ntmps4
        go_wp2_with fail
        refine AW.out.mono ?_
        rintro e w1 ⟨rfl, hB⟩
        have M1 := Lib.hid (HN.out.2.below hB (Nat.le_refl _))
        have B1 := Lib.hid hB
        clear hB
        go_wp2_with fail
        refine (N1.out _ M1.out).mono ?_
        rintro e w2 ⟨rfl, rfl⟩
        go_wp2_with fail
        refine (N2.out _).mono ?_
        rintro e w2 ⟨rfl, hB⟩
        have M2 := Lib.hid (M1.out.below hB (Nat.le_refl _))
        have B2 := Lib.hid (B1.out.trans (hB.mono B1.out.size))
        clear hB
        go_wp2_with fail
        refine (N3.out _ M2.out).mono ?_
        rintro e w3 ⟨rfl, rfl⟩
        go_wp2_with fail
        refine (wraps_none _ _ _).mono ?_
        rintro e w3 ⟨rfl, rfl⟩
        go_wp2_with fail
        go_ret
        refine ⟨?_, B2.out⟩
        show Ending.returned (.bool ((s.toList == t.toList) == ((i : Int) == (j : Int)))) = _
        rw [beqS_no hne, show ((i : Int) == (j : Int)) = false by simpa using hz]; rfl
    · have N3 := Lib.hid (fun w1 => name_no w1 a1 hj)
      clear hi hj
      generalize nameOf i = s at *
      go_enter Tryz.func4, Tryz.ntmps4
      go_wp2_with fail
      refine AW.out.mono ?_
      rintro e w1 ⟨rfl, hB⟩
      have M1 := Lib.hid (HN.out.2.below hB (Nat.le_refl _))
      have B1 := Lib.hid hB
      clear hB
      go_wp2_with fail
      refine (N1.out _ M1.out).mono ?_
      rintro e w2 ⟨rfl, rfl⟩
      go_wp2_with fail
      refine (N2.out _).mono ?_
      rintro e w2 ⟨rfl, hB⟩
      have B2 := Lib.hid (B1.out.trans (hB.mono B1.out.size))
      clear hB
      go_wp2_with fail
      refine (N3.out _).mono ?_
      rintro e w3 ⟨v, rfl, ⟨g, rfl, _, _⟩, hB⟩
      have B3 := Lib.hid (B2.out.trans (hB.mono B2.out.size))
      clear hB
      go_wp2_with fail
      refine (wraps_none _ _ _).mono ?_
      rintro e w4 ⟨rfl, rfl⟩
      go_wp2_with fail
      go_ret
      exact ⟨rfl, B3.out⟩
  · have N1 := Lib.hid (fun w1 => name_no w1 a0 hi)
    have N2 := Lib.hid (fun w1 => refName_no w1 a0 hi)
    have N3 := Lib.hid (fun w1 (h : Named w1) => show Calls Tryz.prog 39 #[.int .i64 a1] w1 (fun e w' => ∃ s v, e = .returned (.tuple #[.string s, v]) ∧ Below w1.heap.size w1 w') from by
      rcases name_ways a1 with ⟨j, rfl, hj⟩ | hj
      · refine (name_any w1 j hj h).mono ?_
        rintro e w' ⟨he, rfl⟩
        exact ⟨_, _, he, Below.refl _ _⟩
      · refine (name_no w1 a1 hj).mono ?_
        rintro e w' ⟨v, he, _, hB⟩
        exact ⟨_, _, he, hB⟩)
    clear hi
    go_enter Tryz.func4, Tryz.ntmps4
    go_wp2_with fail
    refine AW.out.mono ?_
    rintro e w1 ⟨rfl, hB⟩
    have L1 := Lib.hid (HN.out.1.below hB (Nat.le_refl _))
    have M1 := Lib.hid (HN.out.2.below hB (Nat.le_refl _))
    have B1 := Lib.hid hB
    clear hB
    go_wp2_with fail
    refine (N1.out _).mono ?_
    rintro e w2 ⟨v, rfl, hF, hB⟩
    have L2 := Lib.hid (L1.out.below hB (Nat.le_refl _))
    have M2 := Lib.hid (M1.out.below hB (Nat.le_refl _))
    have B2 := Lib.hid (B1.out.trans (hB.mono B1.out.size))
    have F2 := Lib.hid hF
    clear hB L1 M1 B1 hF
    go_wp2_with fail
    refine (N2.out _).mono ?_
    rintro e w3 ⟨rfl, hB⟩
    have L3 := Lib.hid (L2.out.below hB (Nat.le_refl _))
    have M3 := Lib.hid (M2.out.below hB (Nat.le_refl _))
    have B3 := Lib.hid (B2.out.trans (hB.mono B2.out.size))
    have F3 := Lib.hid (F2.out.below hB)
    clear hB L2 M2 B2 F2
    go_wp2_with fail
    refine (N3.out _ M3.out).mono ?_
    rintro e w4 ⟨s, u, rfl, hB⟩
    have L4 := Lib.hid (L3.out.below hB (Nat.le_refl _))
    have B4 := Lib.hid (B3.out.trans (hB.mono B3.out.size))
    have F4 := Lib.hid (F3.out.below hB)
    clear hB L3 M3 B3 F3
    go_wp2_with fail
    refine (F4.out.wraps (by omega) L4.out).mono ?_
    rintro e w5 ⟨rfl, hB⟩
    have B5 := Lib.hid (B4.out.trans (hB.mono B4.out.size))
    obtain ⟨g, rfl, _, _⟩ := F4.out
    clear hB B4 F4
    go_wp2_with fail
    go_ret
    exact ⟨rfl, B5.out⟩

namespace LPolicyNames
set_option maxRecDepth 100000 in
theorem lifted (os : Os) (started : os.Started) (H : Type) (enc : TypeId × Value → H) :
    ReturnsInHanded {} Tryz.checked os 4 .any (fun w args => (Rows.policyNamesSpec.pre enc Tryz.prog Tryz.f4 [] false w args ∧ laidMetH Tryz.prog seatLaid w) ∧ sizedMet enc Tryz.prog Tryz.f4 (OpenSpec.ofChange Rows.policyNamesSpec) false w args)
      (Rows.policyNamesSpec.post enc Tryz.prog Tryz.f4 false true false false) := by
  refine returnsInHanded_of_change_and (C := Tryz.checked) (X := fun w _ => laidMetH Tryz.prog seatLaid w) (fun _ _ _ hh h => h.of_heap hh) own started (by kernel_rfl) Tryz.func4
    (ChangeSpec.witness_at (enc := enc) (C := Tryz.checked) (os := os) (X := fun w _ => laidMetH Tryz.prog seatLaid w) false (laidWorld os) #[.int .i64 0, .int .i64 0] 8 rfl (by kernel_rfl) (by kernel_rfl) (by kernel_rfl) (by kernel_rfl) (by kernel_rfl) (laidWorld_met os _)) ?_
  intro W base args ds gs before hval0 hW _ _ hL _
  have hval : ∀ (j : Nat) t v, Tryz.f4.params[j]? = some t → args[j]? = some v → Value.okWide Tryz.prog W .any base t v := hval0
  have hW' := hW
  obtain ⟨p, q, hA0, hV, rfl, hfz, hnd⟩ := hW
  have hA : DataW.TrodAll enc Tryz.prog W 0 (fun _ => true) true Tryz.f4.params.toList args.toList ds p := hA0
  rw [Tryz.params4] at hA hval
  obtain ⟨v0, vs0, d0, ds0, p0, q0, hargs, rfl, rfl, h0, r0⟩ := trodAll_cons hA
  obtain ⟨v1, vs1, d1, ds1, p1, q1, rfl, rfl, rfl, h1, r1⟩ := trodAll_cons r0
  obtain ⟨rfl, rfl, rfl⟩ := trodAll_nil r1
  obtain rfl : args = #[v0, v1] := by cases args; simp_all
  obtain ⟨rfl, rfl⟩ := trodVars_none hV
  obtain ⟨a0, rfl, rfl, rfl, w0⟩ := open_int Tryz.underlying3 (hval 0 3 v0 rfl rfl) h0
  obtain ⟨a1, rfl, rfl, rfl, w1⟩ := open_int Tryz.underlying3 (hval 1 3 v1 rfl rfl) h1
  clear hA0 hval0
  simp only [List.append_nil] at hW'
  refine (walk_policyNames a0 a1 W w0 w1 (laid_of hL)).mono fun e W' ⟨he, bel⟩ => ?_
  subst he
  exact ⟨_, rfl, _, _, _, [], _, [], hW', trodAll_mk1 (shut_bool Tryz.underlying4 _), (trodAll_cons_mk (shut_int Tryz.underlying3 w0) (trodAll_cons_mk (shut_int Tryz.underlying3 w1) trodAll_mk0)), rfl, bel.frame _, fun h => by cases h⟩

theorem said : Rows.PolicyNamesSaid :=
  OpenClaim.holds_of_wide 4 Tryz.f4 rfl rfl rfl rfl rfl rfl rfl ⟨rfl, rfl, rfl, rfl, rfl⟩ rfl rfl rfl rfl rfl (by kernel_rfl) Tryz.func4 (by kernel_rfl)
    (of_decide_eq_true (by kernel_rfl)) (by unfold Func.isWrapper; rw [if_neg (of_decide_eq_false (by kernel_rfl))]; exact ⟨rfl, rfl⟩)
    (fun os started H enc _ => lifted os started H enc)

theorem card : Rows.PolicyNamesCardSaid :=
  Claim7.holds_tied_plain_at .later [] _ _ _ _ said (fun _ h => by cases h) (by kernel_rfl) (fun _ h => by cases h) policyNames_row_tie rfl ⟨rfl, rfl⟩ (by kernel_rfl) rfl
    (fun f fn hf hfn => by
      obtain rfl : f = 4 := Option.some.inj ((show Tryz.prog.funcNamed "cachewise/cachewiselaw09.PolicyNames" = some 4 by kernel_rfl).symm.trans hf) |>.symm
      obtain rfl : fn = Tryz.f4 := (Option.some.inj (Tryz.func4.symm.trans hfn)).symm
      refine ⟨by kernel_rfl, fun j t ht => ?_⟩
      rw [Tryz.params4] at ht
      rcases j with _ | _ | j
      · obtain rfl : t = 3 := by simpa using ht.symm
        exact (show Tryz.prog.wantsStandIn 3 = false by kernel_rfl)
      · obtain rfl : t = 3 := by simpa using ht.symm
        exact (show Tryz.prog.wantsStandIn 3 = false by kernel_rfl)
      · simp at ht)
    (by kernel_rfl)
#print axioms card
end LPolicyNames
end Go.Proofs.YtgjdjgnfpendgaaGreatDoor
