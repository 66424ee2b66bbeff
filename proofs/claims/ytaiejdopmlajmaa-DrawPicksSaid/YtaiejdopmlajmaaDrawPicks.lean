/- 'cachewiselaw02.DrawPicks' returns true for every draw and every two numbers, and leaves what was there as it was. No condition. -/
import Derived.Test.YtaiejdopmlajmaaFrame
namespace Go.Proofs.Ytaiejdopmlajmaa
open Go.ChangeShapes Go.WideShapes Go.ChangeAt Go.RowKit

theorem pickB_mono {n a b : Nat} (h : a ≤ b) (hp : pickB n a = true) : pickB n b = true := by
  unfold pickB at *; simp only [decide_eq_true_iff] at *; omega
theorem pickB_zero (n : Nat) : pickB n 0 = false := by unfold pickB; simp
theorem pickB_one {n : Nat} (h : n ≤ 18446744073709551615) : pickB n 4611686018427387904 = true := by unfold pickB; simp only [decide_eq_true_iff]; omega

set_option maxHeartbeats 2000000 in
set_option maxRecDepth 100000 in
theorem picks_all (n a b : Nat) (w : World) (hn : n ≤ 18446744073709551615) (hab : a ≤ b) (pa : Bool) (hpa : pickB n a = pa) :
    Calls Try.prog 8 #[.int .u64 (n : Int), .int .u64 (a : Int), .int .u64 (b : Int)] w (RetB true w) := by
  have e0 : decide (b < a) = false := by simp; omega
  have hpb : pa = true → pickB n b = true := fun h => pickB_mono hab (hpa.trans h)
  have HPB := Lib.hid hpb; clear hpb
  have HPA := Lib.hid hpa; clear hpa
  go_enter Try.func8, Try.ntmps8
  go_wp2_with fail
  refine (awake_any _).mono ?_
  rintro e w0 ⟨rfl, hb⟩
  have b0 := Lib.hid hb; clear hb
  go_wp2_with fail
  refine (new_one w0 n (by omega)).mono ?_
  rintro e w1 ⟨X, rfl, hT, hX, hb⟩
  have b1 := Lib.hid (b0.out.trans (hb.mono b0.out.size)); clear hb
  have hX0 : w.heap.size ≤ X := Nat.le_trans b0.out.size hX
  have X1 := Lib.hid hT; clear hT
  go_wp2_with fail
  refine (new_one w1 n (by omega)).mono ?_
  rintro e w2 ⟨Y, rfl, hT, hY, hb⟩
  have b2 := Lib.hid (b1.out.trans (hb.mono b1.out.size))
  have hXY : X + 2 ≤ Y := by have := X1.out.lt; omega
  have hY0 : w.heap.size ≤ Y := Nat.le_trans b1.out.size hY
  have EX := X1.out.lt.2
  have X2 := Lib.hid (X1.out.below hb); clear hb
  have Y2 := Lib.hid hT; clear hT
  go_wp2_with fail
  refine (new_one w2 n (by omega)).mono ?_
  rintro e w3 ⟨Z, rfl, hT, hZ, hb⟩
  have b3 := Lib.hid (b2.out.trans (hb.mono b2.out.size))
  have hYZ : Y + 2 ≤ Z := by have := Y2.out.lt; omega
  have hZ0 : w.heap.size ≤ Z := Nat.le_trans b2.out.size hZ
  have X3 := Lib.hid (X2.out.below hb)
  have Y3 := Lib.hid (Y2.out.below hb); clear hb
  have Z3 := Lib.hid hT; clear hT
  go_wp2_with fail
  refine (new_two w3 n 1 (by omega) (by omega)).mono ?_
  rintro e w4 ⟨U, rfl, hT, hU, hb⟩
  have b4 := Lib.hid (b3.out.trans (hb.mono b3.out.size))
  have hZU : Z + 2 ≤ U := by have := Z3.out.lt; omega
  have hU0 : w.heap.size ≤ U := Nat.le_trans b3.out.size hU
  have X4 := Lib.hid (X3.out.below hb)
  have Y4 := Lib.hid (Y3.out.below hb)
  have Z4 := Lib.hid (Z3.out.below hb); clear hb
  have U4 := Lib.hid hT; clear hT
  go_wp2_with fail
  refine (pick_at 0 a pa [[]] X4.out (by omega) HPA.out rfl).mono ?_
  rintro e w5 ⟨rfl, hT, hg⟩
  have b5 := Lib.hid (b4.out.grown hg b4.out.size (fun k hk => by cases hk; exact hX0))
  have X5 := Lib.hid hT; clear hT
  have Y5 := Lib.hid (Y4.out.kept hg (Or.inl (by omega)))
  have Z5 := Lib.hid (Z4.out.kept hg (Or.inl (by omega)))
  have U5 := Lib.hid (U4.out.kept hg (Or.inl (by omega))); clear hg
  rcases pa with _ | _
  · go_wp2_with fail
    refine (pick_at 0 0 false [[]] Z5.out (by omega) (pickB_zero _) rfl).mono ?_
    rintro e w6 ⟨rfl, hT, hg⟩
    have b6 := Lib.hid (b5.out.grown hg b5.out.size (fun k hk => by cases hk; exact hZ0))
    have X6 := Lib.hid (X5.out.kept hg (Or.inr (by have := X1.out.lt; omega)))
    have U6 := Lib.hid (U5.out.kept hg (Or.inl (by omega))); clear hg hT
    go_wp2_with fail
    refine (pick_at 0 4611686018427387904 true [[1]] U6.out (by omega) (pickB_one (n := n) hn) rfl).mono ?_
    rintro e w7 ⟨rfl, hT, hg⟩
    have b7 := Lib.hid (b6.out.grown hg b6.out.size (fun k hk => by cases hk; exact hU0))
    have X7 := Lib.hid (X6.out.kept hg (Or.inr (by have := X1.out.lt; omega)))
    have U7 := Lib.hid hT; clear hg hT
    go_wp2_with fail
    refine (left_at 0 1 U7.out rfl).mono ?_
    rintro e w7 ⟨rfl, rfl⟩
    go_wp2_with fail
    refine (left_at 0 0 X7.out rfl).mono ?_
    rintro e w7 ⟨rfl, rfl⟩
    go_wp2_with fail
    go_ret
    exact ⟨rfl, b7.out⟩
  · go_wp2_with fail
    refine (pick_at 0 b true [[]] Y5.out (by omega) (HPB.out trivial) rfl).mono ?_
    rintro e w5 ⟨rfl, hT, hg⟩
    have c5 := Lib.hid (b5.out.grown hg b5.out.size (fun k hk => by cases hk; exact hY0))
    have V5 := Lib.hid (X5.out.kept hg (Or.inr (by have := X1.out.lt; omega)))
    have P5 := Lib.hid (Z5.out.kept hg (Or.inl (by omega)))
    have Q5 := Lib.hid (U5.out.kept hg (Or.inl (by omega))); clear hg hT
    go_wp2_with fail
    refine (pick_at 0 0 false [[]] P5.out (by omega) (pickB_zero _) rfl).mono ?_
    rintro e w6 ⟨rfl, hT, hg⟩
    have b6 := Lib.hid (c5.out.grown hg c5.out.size (fun k hk => by cases hk; exact hZ0))
    have X6 := Lib.hid (V5.out.kept hg (Or.inr (by have := X1.out.lt; omega)))
    have U6 := Lib.hid (Q5.out.kept hg (Or.inl (by omega))); clear hg hT
    go_wp2_with fail
    refine (pick_at 0 4611686018427387904 true [[1]] U6.out (by omega) (pickB_one (n := n) hn) rfl).mono ?_
    rintro e w7 ⟨rfl, hT, hg⟩
    have b7 := Lib.hid (b6.out.grown hg b6.out.size (fun k hk => by cases hk; exact hU0))
    have X7 := Lib.hid (X6.out.kept hg (Or.inr (by have := X1.out.lt; omega)))
    have U7 := Lib.hid hT; clear hg hT
    go_wp2_with fail
    refine (left_at 0 1 U7.out rfl).mono ?_
    rintro e w7 ⟨rfl, rfl⟩
    go_wp2_with fail
    refine (left_at 0 0 X7.out rfl).mono ?_
    rintro e w7 ⟨rfl, rfl⟩
    go_wp2_with fail
    go_ret
    exact ⟨rfl, b7.out⟩

theorem walk_drawPicks (n a b : Int) (w : World) (h0 : (Lit.int .u64 n).wf = true) (h1 : (Lit.int .u64 a).wf = true) (h2 : (Lit.int .u64 b).wf = true) :
    Calls Try.prog 8 #[.int .u64 n, .int .u64 a, .int .u64 b] w (RetB true w) := by
  obtain ⟨n, rfl, hn⟩ := u64_nat h0
  obtain ⟨a, rfl, _⟩ := u64_nat h1
  obtain ⟨b, rfl, _⟩ := u64_nat h2
  by_cases hab : a ≤ b
  · exact picks_all n a b w hn hab _ rfl
  · clear h0 h1 h2
    have e0 : decide (b < a) = true := by simp; omega
    go_enter Try.func8, Try.ntmps8
    go_wp2_with fail
    refine (awake_any _).mono ?_
    rintro e w0 ⟨rfl, hb⟩
    have b0 := Lib.hid hb; clear hb
    go_wp2_with fail
    go_ret
    exact ⟨rfl, b0.out⟩
namespace LDrawPicks
set_option maxRecDepth 100000 in
theorem lifted (os : Os) (started : os.Started) (H : Type) (enc : TypeId × Value → H) :
    ReturnsInHanded {} Try.checked os 8 .any (Rows.drawPicksSpec.pre6 enc Try.prog Try.f8 Rows.drawPicksRow.domain false) (Rows.drawPicksSpec.post enc Try.prog Try.f8 false true false false) := by
  refine returnsInHanded_of_change (C := Try.checked) own started (by kernel_rfl) Try.func8
    (ChangeSpec.witness6 (enc := enc) (C := Try.checked) false ⟨#[], #[.int .u64 0, .int .u64 0, .int .u64 0], []⟩ 8 (by kernel_rfl) (by kernel_rfl) (by kernel_rfl) (by kernel_rfl)) ?_
  intro W base args ds gs before hval0 hW _ _
  have hval : ∀ (j : Nat) t v, Try.f8.params[j]? = some t → args[j]? = some v → Value.okWide Try.prog W .any base t v := hval0
  have hW' := hW
  obtain ⟨p, q, hA0, hV, rfl, hfz, hnd⟩ := hW
  have hA : DataW.TrodAll enc Try.prog W 0 (fun _ => true) true Try.f8.params.toList args.toList ds p := hA0
  rw [Try.params8] at hA hval
  obtain ⟨v0, vs0, d0, ds0, p0, q0, hargs, rfl, rfl, h0, r0⟩ := trodAll_cons hA
  obtain ⟨v1, vs1, d1, ds1, p1, q1, rfl, rfl, rfl, h1, r1⟩ := trodAll_cons r0
  obtain ⟨v2, vs2, d2, ds2, p2, q2, rfl, rfl, rfl, h2, r2⟩ := trodAll_cons r1
  obtain ⟨rfl, rfl, rfl⟩ := trodAll_nil r2
  obtain rfl : args = #[v0, v1, v2] := by cases args; simp_all
  obtain ⟨rfl, rfl⟩ := trodVars_none hV
  obtain ⟨a0, rfl, rfl, rfl, w0⟩ := open_int Try.underlying28 (hval 0 28 v0 rfl rfl) h0
  obtain ⟨a1, rfl, rfl, rfl, w1⟩ := open_int Try.underlying30 (hval 1 30 v1 rfl rfl) h1
  obtain ⟨a2, rfl, rfl, rfl, w2⟩ := open_int Try.underlying30 (hval 2 30 v2 rfl rfl) h2
  clear hA0 hval0
  simp only [List.append_nil] at hW'
  refine (walk_drawPicks a0 a1 a2 W w0 w1 w2).mono fun e W' ⟨he, bel⟩ => ?_
  subst he
  exact ⟨_, rfl, _, _, _, [], _, [], hW', trodAll_mk1 (shut_bool Try.underlying4 _), (trodAll_cons_mk (shut_int Try.underlying28 w0) (trodAll_cons_mk (shut_int Try.underlying30 w1) (trodAll_cons_mk (shut_int Try.underlying30 w2) trodAll_mk0))), rfl, bel.frame _, fun h => by cases h⟩

theorem said : Rows.DrawPicksSaid :=
  OpenClaim.holds_of_wide 8 Try.f8 rfl rfl rfl rfl rfl rfl rfl ⟨rfl, rfl, rfl, rfl, rfl⟩ rfl rfl rfl rfl rfl (by kernel_rfl) Try.func8 (by kernel_rfl)
    (of_decide_eq_true (by kernel_rfl)) (by unfold Func.isWrapper; rw [if_neg (of_decide_eq_false (by kernel_rfl))]; exact ⟨rfl, rfl⟩)
    (fun os started H enc _ => lifted os started H enc)
#print axioms said
end LDrawPicks
end Go.Proofs.Ytaiejdopmlajmaa
