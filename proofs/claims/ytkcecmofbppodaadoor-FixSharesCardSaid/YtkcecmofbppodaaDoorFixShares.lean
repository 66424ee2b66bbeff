/- For every input the law FixShares returns true, and each argument reads afterwards as it read before. Conditions: the program's start lays errors.errorType as its text says (the card ties it). -/
import Derived.Test.YtkcecmofbppodaaDoorLift
import Derived.Test.YtkcecmofbppodaaDoorFxc
import Derived.Test.YtkcecmofbppodaaDoorCards
import Derived.Test.YtkcecmofbppodaaDoorTie
import Derived.SevenTiedAt
import Derived.BigQuiet
import Derived.Deep.QuietTactic
namespace Go.Proofs.YtkcecmofbppodaaDoor
open Go.ChangeShapes Go.WideShapes Go.ChangeAt Go.RowKit


set_option maxHeartbeats 4000000 in
set_option maxRecDepth 100000 in
theorem walk_fixShares_good (a b l : Nat) (ha : a ≤ 18446744073709551615) (hb : b ≤ 18446744073709551615) (hl2 : l ≤ 2305843009213693952) (h : 0 < a ∨ 0 < b) (w : World) (hl : Laid w) :
    Calls Tryd.prog 7 #[.int .u64 a, .int .u64 b, .int .u64 l] w (RetB true w) := by
  have C1 := fun W => Lib.hid (share_yes a b l W ha hb hl2 h)
  have C2 := fun W => Lib.hid (share_yes b a l W hb ha hl2 (Or.symm h))
  obtain ⟨x, hx⟩ : ∃ x, x = Fx.share a b l := ⟨_, rfl⟩
  obtain ⟨y, hy⟩ : ∃ y, y = Fx.share b a l := ⟨_, rfl⟩
  rw [← hx] at C1
  rw [← hy] at C2
  have x1 : l ≤ x := by rw [hx]; exact Fx.share_ge a b l hl2
  have y1 : l ≤ y := by rw [hy]; exact Fx.share_ge b a l hl2
  have x2 : x ≤ 4611686018427387904 - l := by rw [hx]; exact Fx.share_le a b l
  have y2 : y ≤ 4611686018427387904 - l := by rw [hy]; exact Fx.share_le b a l
  have t1 : decide (x < l) = false := by simp; omega
  have t2 : decide (y < l) = false := by simp; omega
  have t3 : decide (4611686018427387904 - (l : Int) < (x : Int)) = false := by simp; omega
  have t4 : decide (4611686018427387904 - (l : Int) < (y : Int)) = false := by simp; omega
  have P := Lib.hid (show decide (0 < l) = true ∨ (decide (0 < l) = false ∧ decide ((x : Int) + (y : Int) ≤ 4611686018427387904) = true ∧ decide (4611686018427387904 ≤ (x : Int) + (y : Int) + 2) = true ∧ (decide (a < b) = true ∨ (decide (a < b) = false ∧ decide (y ≤ x) = true))) by
    by_cases h0 : 0 < l
    · exact Or.inl (by simpa using h0)
    · obtain rfl : l = 0 := by omega
      have e1 := Fx.share_none a b h
      have e2 := Fx.share_none b a (Or.symm h)
      rw [← hx] at e1
      rw [← hy] at e2
      have s := Fx.part_sum a b h
      rw [← e1, ← e2] at s
      refine Or.inr ⟨by simp, by simp; omega, by simp; omega, ?_⟩
      by_cases hab : a < b
      · exact Or.inl (by simpa using hab)
      · have g := Fx.part_ge a b h (by omega)
        rw [← e1, ← e2] at g
        exact Or.inr ⟨by simpa using hab, by simpa using g⟩)
  clear hx hy h
  rcases P.out with pa | ⟨pa, pb, pc, pd | ⟨pd, pe⟩⟩
  all_goals
    clear P
    go_enter Tryd.func7, Tryd.ntmps7
    go_wp2_with fail
    refine (awake_any _ hl).mono ?_
    rintro e w1 ⟨rfl, hb1⟩
    have B1 := Lib.hid hb1; clear hb1
    go_wp2_with fail
    refine (C1 _).out.mono ?_
    rintro e w2 ⟨rfl, hb2⟩
    have B2 := Lib.hid (B1.out.trans (hb2.mono B1.out.size)); clear hb2
    go_wp2_with fail
    refine (C2 _).out.mono ?_
    rintro e w3 ⟨rfl, hb3⟩
    have B3 := Lib.hid (B2.out.trans (hb3.mono B2.out.size)); clear hb3
    go_wp2_with fail
    go_quiet (fail)
    go_wp2_with fail
    go_ret
    exact ⟨rfl, bdrew B3.out _⟩

set_option maxHeartbeats 4000000 in
set_option maxRecDepth 100000 in
theorem walk_fixShares_bad (a b l : Nat) (ha : a ≤ 18446744073709551615) (hb : b ≤ 18446744073709551615) (hl2 : l ≤ 18446744073709551615) (h : a = 0 ∧ b = 0 ∨ 2305843009213693952 < l) (w : World) (hl : Laid w) :
    Calls Tryd.prog 7 #[.int .u64 a, .int .u64 b, .int .u64 l] w (RetB true w) := by
  have C1 := fun W => Lib.hid (share_no a b l W ha hb hl2 h)
  have C2 := fun W => Lib.hid (share_no b a l W hb ha hl2 (by omega))
  have P := Lib.hid (show (((a : Int) == 0) = true ∧ ((b : Int) == 0) = true) ∨ (((a : Int) == 0) = false ∧ decide (2305843009213693952 < (l : Int)) = true) ∨ (((a : Int) == 0) = true ∧ ((b : Int) == 0) = false ∧ decide (2305843009213693952 < (l : Int)) = true) by
    by_cases h1 : a = 0
    · by_cases h2 : b = 0
      · exact Or.inl ⟨beq_iff_eq.2 (by omega), beq_iff_eq.2 (by omega)⟩
      · exact Or.inr (Or.inr ⟨beq_iff_eq.2 (by omega), beq_eq_false_iff_ne.2 (by omega), by simp; omega⟩)
    · exact Or.inr (Or.inl ⟨beq_eq_false_iff_ne.2 (by omega), by simp; omega⟩))
  clear h
  rcases P.out with ⟨pa, pb⟩ | ⟨pa, pb⟩ | ⟨pa, pb, pc⟩
  all_goals
    clear P
    go_enter Tryd.func7, Tryd.ntmps7
    go_wp2_with fail
    refine (awake_any _ hl).mono ?_
    rintro e w1 ⟨rfl, hb1⟩
    have B1 := Lib.hid hb1; clear hb1
    go_wp2_with fail
    refine (C1 _).out.mono ?_
    rintro e w2 ⟨g, rfl, hg, k0, k1, k2, hb2⟩
    have hg2 : g < w2.heap.size := cell_lt k0
    have B2 := Lib.hid (B1.out.trans (hb2.mono B1.out.size)); clear hb2
    have K := Lib.hid (And.intro k0 (And.intro k1 k2)); clear k0 k1 k2
    go_wp2_with fail
    refine (C2 _).out.mono ?_
    rintro e w3 ⟨g', rfl, -, -, -, -, hb3⟩
    have C3 := Lib.hid hb3; clear hb3
    have B3 := Lib.hid (B2.out.trans (C3.out.mono B2.out.size))
    have W := fun n => Lib.hid (wraps_fault g ⟨#[115, 104, 97, 114, 101]⟩ (w3.drewN n) (hl.below (bdrew B3.out n) (Nat.le_refl _)) (Nat.lt_of_lt_of_le hg2 C3.out.size)
      ((C3.out.cell (p := ⟨g, 0, none⟩) hg2).trans K.out.1) ((C3.out.cell (p := ⟨g, 1, none⟩) hg2).trans K.out.2.1) ((C3.out.cell (p := ⟨g, 2, none⟩) hg2).trans K.out.2.2))
    go_wp2_with fail
    go_quiet (fail)
    go_wp2_with fail
    refine (W _).out.mono ?_
    rintro e w4 ⟨rfl, hb4⟩
    have B4 := Lib.hid ((bdrew B3.out _).trans (hb4.mono (bdrew B3.out _).size)); clear hb4
    go_wp2_with fail
    go_ret
    exact ⟨rfl, B4.out⟩

theorem walk_fixShares (a0 a1 a2 : Int) (w0 : (Lit.int .u64 a0).wf = true) (w1 : (Lit.int .u64 a1).wf = true) (w2 : (Lit.int .u64 a2).wf = true) (w : World) (hl : Laid w) :
    Calls Tryd.prog 7 #[.int .u64 a0, .int .u64 a1, .int .u64 a2] w (RetB true w) := by
  obtain ⟨a, rfl, ha⟩ := u64_nat w0
  obtain ⟨b, rfl, hb⟩ := u64_nat w1
  obtain ⟨l, rfl, hl2⟩ := u64_nat w2
  by_cases h : a = 0 ∧ b = 0 ∨ 2305843009213693952 < l
  · exact walk_fixShares_bad a b l ha hb hl2 h w hl
  · exact walk_fixShares_good a b l ha hb (by omega) (by omega) w hl

namespace LFixShares
set_option maxRecDepth 100000 in
theorem lifted (os : Os) (started : os.Started) (H : Type) (enc : TypeId × Value → H) :
    ReturnsInHanded {} Tryd.checked os 7 .any (fun w args => (Rows.fixSharesSpec.pre enc Tryd.prog Tryd.f7 [] false w args ∧ laidMetH Tryd.prog seatLaid w) ∧ sizedMet enc Tryd.prog Tryd.f7 (OpenSpec.ofChange Rows.fixSharesSpec) false w args)
      (Rows.fixSharesSpec.post enc Tryd.prog Tryd.f7 false true false false) := by
  refine returnsInHanded_of_change_and (C := Tryd.checked) (X := fun w _ => laidMetH Tryd.prog seatLaid w) (fun _ _ _ hh h => h.of_heap hh) own started (by kernel_rfl) Tryd.func7
    (ChangeSpec.witness_at (enc := enc) (C := Tryd.checked) (os := os) (X := fun w _ => laidMetH Tryd.prog seatLaid w) false (laidWorld os) #[.int .u64 0, .int .u64 0, .int .u64 0] 8 rfl (by kernel_rfl) (by kernel_rfl) (by kernel_rfl) (by kernel_rfl) (by kernel_rfl) (laidWorld_met os _)) ?_
  intro W base args ds gs before hval0 hW _ _ hL _
  have hval : ∀ (j : Nat) t v, Tryd.f7.params[j]? = some t → args[j]? = some v → Value.okWide Tryd.prog W .any base t v := hval0
  have hW' := hW
  obtain ⟨p, q, hA0, hV, rfl, hfz, hnd⟩ := hW
  have hA : DataW.TrodAll enc Tryd.prog W 0 (fun _ => true) true Tryd.f7.params.toList args.toList ds p := hA0
  rw [Tryd.params7] at hA hval
  obtain ⟨v0, vs0, d0, ds0, p0, q0, hargs, rfl, rfl, h0, r0⟩ := trodAll_cons hA
  obtain ⟨v1, vs1, d1, ds1, p1, q1, rfl, rfl, rfl, h1, r1⟩ := trodAll_cons r0
  obtain ⟨v2, vs2, d2, ds2, p2, q2, rfl, rfl, rfl, h2, r2⟩ := trodAll_cons r1
  obtain ⟨rfl, rfl, rfl⟩ := trodAll_nil r2
  obtain rfl : args = #[v0, v1, v2] := by cases args; simp_all
  obtain ⟨rfl, rfl⟩ := trodVars_none hV
  obtain ⟨a0, rfl, rfl, rfl, w0⟩ := open_int Tryd.underlying23 (hval 0 23 v0 rfl rfl) h0
  obtain ⟨a1, rfl, rfl, rfl, w1⟩ := open_int Tryd.underlying23 (hval 1 23 v1 rfl rfl) h1
  obtain ⟨a2, rfl, rfl, rfl, w2⟩ := open_int Tryd.underlying23 (hval 2 23 v2 rfl rfl) h2
  clear hA0 hval0
  simp only [List.append_nil] at hW'
  refine (walk_fixShares a0 a1 a2 w0 w1 w2 W (laid_of hL)).mono fun e W' ⟨he, hb⟩ => ?_
  subst he
  refine ⟨_, rfl, _, _, _, [], [], [], hW', ?_, ?_, ?_, hb.frame _, fun h => by cases h⟩
  · exact trodAll_cons_mk (shut_bool Tryd.underlying4 true) trodAll_mk0
  · exact (trodAll_cons_mk (shut_int Tryd.underlying23 w0) (trodAll_cons_mk (shut_int Tryd.underlying23 w1) (trodAll_cons_mk (shut_int Tryd.underlying23 w2) trodAll_mk0)))
  · rfl

theorem said : Rows.FixSharesSaid :=
  OpenClaim.holds_of_wide 7 Tryd.f7 rfl rfl rfl rfl rfl rfl rfl ⟨rfl, rfl, rfl, rfl, rfl⟩ rfl rfl rfl rfl rfl (by kernel_rfl) Tryd.func7 (by kernel_rfl)
    (of_decide_eq_true (by kernel_rfl)) (by unfold Func.isWrapper; rw [if_neg (of_decide_eq_false (by kernel_rfl))]; exact ⟨rfl, rfl⟩)
    (fun os started H enc _ => lifted os started H enc)

theorem card : Rows.FixSharesCardSaid :=
  Claim7.holds_tied_plain_at .later [] _ _ _ _ said (fun _ h => by cases h) (by kernel_rfl) (fun _ h => by cases h) fixShares_row_tie rfl ⟨rfl, rfl⟩ (by kernel_rfl) rfl
    (fun f fn hf hfn => by
      obtain rfl : f = 7 := Option.some.inj ((show Tryd.prog.funcNamed "cachewise/cachewiselaw01.FixShares" = some 7 by kernel_rfl).symm.trans hf) |>.symm
      obtain rfl : fn = Tryd.f7 := (Option.some.inj (Tryd.func7.symm.trans hfn)).symm
      refine ⟨by kernel_rfl, fun j t ht => ?_⟩
      rw [Tryd.params7] at ht
      have ht' : t = 23 := by have := Array.mem_of_getElem? ht; simp at this; omega
      subst ht'
      exact (show Tryd.prog.wantsStandIn 23 = false by kernel_rfl))
    (by kernel_rfl)
#print axioms card
end LFixShares
end Go.Proofs.YtkcecmofbppodaaDoor
