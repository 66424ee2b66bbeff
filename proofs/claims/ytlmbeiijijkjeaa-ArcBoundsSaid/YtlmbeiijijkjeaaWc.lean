/- The contracts of a cache's Len, Has, Keys, Ghosts, overMost, leaving. -/
import Derived.Test.YtlmbeiijijkjeaaWb
import Derived.Deep.RegionHeld3
namespace Go.Proofs.Ytlmbeiijijkjeaa
open Go.RowKit Sg

theorem step_append_run {P : Program} {ops : Array Oper} {o : Oper} {a : Act} {w : World} {K : Act → World → Prop} {Q : Exit → Act → World → Prop} {E : Prop} (hgd : o.guard = none) (s x : Operand) (t : TypeId)
    (ho : o.op = .call { callee := .builtin .append, args := #[s, x], argTypes := #[t, t] }) (v u v' : Value) (w' : World) (hs : a.eval s = v) (hx : a.eval x = u) (hr : (Builtin.append_ #[t, t] o.type #[v, u]).run P w = .ok v' w')
    (h : K (a.put o.dst v') w') : if Region.wanted o (yielded ops a.tmps) = true then Oper.wp P o a w K Q else E := by
  have hw : Region.wanted o (yielded ops a.tmps) = true := by simp [Region.wanted, hgd]
  rw [if_pos hw]
  unfold Oper.wp execOp
  simp only [ho, resolve, invoke, builtin, Sem.run_bind, Sem.run_pure, Result.andThen_ok, List.map_toArray, List.map_cons, List.map_nil, hs, hx, hr]
  exact h
theorem Own.below {w w' : World} {base : Nat} {v : Value} {xs : List ByteArray} (h : Own w base v xs) (hb : Below w.heap.size w w') : Own w' base v xs := h.same fun g hg => hb.block g (h.lt hg).1

def hit (R : Rw4) (key : ByteArray) : Bool := inn (R 0) key || inn (R 1) key
/-- The row whose last one goes for a key, which is in B2 (q), or isn't. -/
def lv (R : Rw4) (p : Nat) (q : Bool) : Nat := if p < (R 0).length ∨ (0 < (R 0).length ∧ (R 0).length = p ∧ q = true) ∨ (R 1).length = 0 then 0 else 1

section
variable (w : World) (i : Ix) (S : Sx) (mo p : Nat) (R : Rw4) (b : Nat) (r : Raw w i S mo p R b)
include r
/-- The call of count with a slice made for it. -/
theorem count_one (k : Nat) (hk : k < 4) : Calls Try.prog 39 #[.pointer (some ⟨i.c, 0, none⟩), .slice (some ⟨w.heap.size, 0, none⟩) 1 1] (w.alloc (.cells #[.int .i64 (k : Int)] 3)) (IntPost ((R k).length : Int) (w.alloc (.cells #[.int .i64 (k : Int)] 3))) := by
  have := countW _ i S mo p R b (r.below ((Below.refl _ _).alloc (Nat.le_refl _) (.cells #[.int .i64 (k : Int)] 3))) w.heap.size [k] (nums_one w k) (by simp; omega) (by simp)
  simp only [sumk, List.map_cons, List.map_nil, List.sum_cons, List.sum_nil, Nat.add_zero, List.length_cons, List.length_nil] at this
  exact this
theorem count_two (k l : Nat) (hk : k < 4) (hl : l < 4) : Calls Try.prog 39 #[.pointer (some ⟨i.c, 0, none⟩), .slice (some ⟨w.heap.size, 0, none⟩) 2 2] (w.alloc (.cells #[.int .i64 (k : Int), .int .i64 (l : Int)] 3)) (IntPost (((R k).length + (R l).length : Nat) : Int) (w.alloc (.cells #[.int .i64 (k : Int), .int .i64 (l : Int)] 3))) := by
  have := countW _ i S mo p R b (r.below ((Below.refl _ _).alloc (Nat.le_refl _) (.cells #[.int .i64 (k : Int), .int .i64 (l : Int)] 3))) w.heap.size [k, l] (nums_two w k l) (by simp; omega) (by simp)
  simp only [sumk, List.map_cons, List.map_nil, List.sum_cons, List.sum_nil, Nat.add_zero, List.length_cons, List.length_nil] at this
  exact this
theorem count_four : Calls Try.prog 39 #[.pointer (some ⟨i.c, 0, none⟩), .slice (some ⟨w.heap.size, 0, none⟩) 4 4] (w.alloc (.cells #[.int .i64 0, .int .i64 1, .int .i64 2, .int .i64 3] 3)) (IntPost (((R 0).length + (R 1).length + (R 2).length + (R 3).length : Nat) : Int) (w.alloc (.cells #[.int .i64 0, .int .i64 1, .int .i64 2, .int .i64 3] 3))) := by
  have := countW _ i S mo p R b (r.below ((Below.refl _ _).alloc (Nat.le_refl _) (.cells #[.int .i64 0, .int .i64 1, .int .i64 2, .int .i64 3] 3))) w.heap.size [0, 1, 2, 3] (nums_four w 0 1 2 3) (by simp) (by simp)
  simp only [sumk, List.map_cons, List.map_nil, List.sum_cons, List.sum_nil, Nat.add_zero, List.length_cons, List.length_nil] at this
  rw [show (R 0).length + (R 1).length + (R 2).length + (R 3).length = (R 0).length + ((R 1).length + ((R 2).length + (R 3).length)) by omega]
  exact this
theorem lenW : Calls Try.prog 18 #[.pointer (some ⟨i.c, 0, none⟩)] w (Stl (.int .i64 (((R 0).length + (R 1).length : Nat) : Int)) w) := by
  have U := Lib.hid (show Calls Try.prog 39 #[.pointer (some ⟨i.c, 0, none⟩), .slice (some ⟨w.heap.size, 0, none⟩) 2 2] (w.alloc (.cells #[.int .i64 0, .int .i64 1] 3)) (IntPost (((R 0).length + (R 1).length : Nat) : Int) (w.alloc (.cells #[.int .i64 0, .int .i64 1] 3))) from count_two w i S mo p R b r 0 1 (by omega) (by omega))
  clear r
  go_enter Try.func18, Try.ntmps18
  go_wp2_with fail
  refine U.out.mono ?_
  rintro e w1 ⟨rfl, rfl⟩
  go_wp2_with fail
  go_ret
  exact ⟨rfl, (Below.refl _ _).alloc (Nat.le_refl _) _⟩
theorem hasW (key : ByteArray) (hs : key.size ≤ maxLen) : Calls Try.prog 11 #[.pointer (some ⟨i.c, 0, none⟩), .string key] w (BoolPost (hit R key) w) := by
  obtain ⟨_, _, c2, c3, _⟩ := r.cells
  have U := ls_has w (i.r 0) (S 0) (R 0) b (r.ls 0 (by omega)) key hs
  have V := Lib.hid (ls_has w (i.r 1) (S 1) (R 1) b (r.ls 1 (by omega)) key hs)
  unfold hit
  clear r
  cases hi : inn (R 0) key with
  | true =>
    rw [hi] at U
    have U := Lib.hid U
    clear hi V
    rw [Bool.true_or]
    go_enter Try.func11, Try.ntmps11
    go_wp2_with fail
    refine U.out.mono ?_
    rintro e w1 ⟨rfl, rfl⟩
    go_wp2_with fail
    go_ret
    exact ⟨rfl, rfl⟩
  | false =>
    rw [hi] at U
    have U := Lib.hid U
    clear hi
    rw [Bool.false_or]
    go_enter Try.func11, Try.ntmps11
    go_wp2_with fail
    refine U.out.mono ?_
    rintro e w1 ⟨rfl, rfl⟩
    go_wp2_with fail
    refine V.out.mono ?_
    rintro e w1 ⟨rfl, rfl⟩
    go_wp2_with fail
    go_ret
    exact ⟨rfl, rfl⟩
set_option maxHeartbeats 2000000 in
theorem keysW : Calls Try.prog 16 #[.pointer (some ⟨i.c, 0, none⟩)] w (RowPost (R 1 ++ R 0).reverse w) := by
  have ca : w.cell? ⟨i.c, 3, none⟩ = some (.pointer (some ⟨i.r 1, 0, none⟩)) := r.cells.2.2.2.1
  have cb : w.cell? ⟨i.c, 2, none⟩ = some (.pointer (some ⟨i.r 0, 0, none⟩)) := r.cells.2.2.1
  have U := Lib.hid (show Calls Try.prog 37 #[.pointer (some ⟨i.r 1, 0, none⟩)] w.drew (RowPost (R 1) w) from (ls_keys w.drew (i.r 1) (S 1) (R 1) b ((r.below (below_drewN w 1)).ls 1 (by omega))).mono fun _ _ ⟨v, h1, h2, h3⟩ => ⟨v, h1, h2, ⟨h3.os, h3.tape, h3.output, h3.size, h3.block⟩⟩)
  have V := Lib.hid (fun (w1 : World) (h : Below w.heap.size w w1) => ls_keys w1 (i.r 0) (S 0) (R 0) b ((r.below h).ls 0 (by omega)))
  have C := Lib.hid (show ∀ w1, Below w.heap.size w w1 → w1.cell? ⟨i.c, 3, none⟩ = some (.pointer (some ⟨i.r 1, 0, none⟩)) ∧ w1.cell? ⟨i.c, 2, none⟩ = some (.pointer (some ⟨i.r 0, 0, none⟩)) from fun w1 h => ⟨(r.below h).cells.2.2.2.1, (r.below h).cells.2.2.1⟩)
  have h1 := (r.ls 1 (by omega)).len
  have h2 := (r.ls 0 (by omega)).len
  obtain ⟨ic, ir⟩ := i
  simp only at ca cb U V C ⊢
  generalize ir 1 = n at *
  generalize ir 0 = a at *
  clear r
  go_enter Try.func16, Try.ntmps16
  go_wp2_with fail
  go_region_held3 (fun w' => w'.cell? ⟨ic, 3, none⟩ = some (.pointer (some ⟨n, 0, none⟩)) ∧ w'.cell? ⟨ic, 2, none⟩ = some (.pointer (some ⟨a, 0, none⟩))) (first | (exact ⟨‹_›, ‹_›⟩) | go_keep)
    (first
      | (go_at_call 37; refine U.out.mono ?_; rintro e w1 ⟨v1, rfl, hO1, hB1⟩; obtain ⟨z2, z3⟩ := C.out w1 hB1; have O1 := Lib.hid hO1; have B1 := Lib.hid hB1; clear hO1 hB1 U)
      | (go_at_call 37; refine (V.out w1 B1.out).mono ?_; rintro e w2 ⟨v2, rfl, hO2, hB2⟩; obtain ⟨z4, z5⟩ := C.out w2 (B1.out.trans (hB2.mono B1.out.size)); obtain ⟨v3, w3, hrun, hO3, hg3⟩ := app_all (O1.out.below hB2) hO2 (by omega) (Nat.le_trans B1.out.size hB2.size); have RUN := Lib.hid hrun; have O3 := Lib.hid hO3; have B3 := Lib.hid (show Below w.heap.size w w3 from (B1.out.trans (hB2.mono B1.out.size)).grown hg3 (Nat.le_trans B1.out.size hB2.size) (fun k hk => ((O1.out.below hB2).1.lt k hk).1)); obtain ⟨z6, z7⟩ := C.out w3 B3.out; clear hO2 hB2 hrun hO3 hg3 V O1 B1)
      | (refine step_append_run rfl _ _ _ rfl _ _ _ _ rfl rfl RUN.out ?_))
  go_wp2_with fail
  refine (reverse_any w3 w.heap.size v3 _ O3.out B3.out.size).mono ?_
  rintro e w4 ⟨rfl, hO, hB⟩
  have O4 := Lib.hid hO
  have B4 := Lib.hid hB
  clear hO hB
  go_wp2_with fail
  go_ret
  exact ⟨v3, rfl, O4.out, B3.out.trans B4.out⟩
set_option maxHeartbeats 2000000 in
theorem ghostsW : Calls Try.prog 17 #[.pointer (some ⟨i.c, 0, none⟩)] w (RowPost (R 2 ++ R 3) w) := by
  have ca : w.cell? ⟨i.c, 4, none⟩ = some (.pointer (some ⟨i.r 2, 0, none⟩)) := r.cells.2.2.2.2.1
  have cb : w.cell? ⟨i.c, 5, none⟩ = some (.pointer (some ⟨i.r 3, 0, none⟩)) := r.cells.2.2.2.2.2
  have U := Lib.hid (show Calls Try.prog 37 #[.pointer (some ⟨i.r 2, 0, none⟩)] w.drew (RowPost (R 2) w) from (ls_keys w.drew (i.r 2) (S 2) (R 2) b ((r.below (below_drewN w 1)).ls 2 (by omega))).mono fun _ _ ⟨v, h1, h2, h3⟩ => ⟨v, h1, h2, ⟨h3.os, h3.tape, h3.output, h3.size, h3.block⟩⟩)
  have V := Lib.hid (fun (w1 : World) (h : Below w.heap.size w w1) => ls_keys w1 (i.r 3) (S 3) (R 3) b ((r.below h).ls 3 (by omega)))
  have C := Lib.hid (show ∀ w1, Below w.heap.size w w1 → w1.cell? ⟨i.c, 4, none⟩ = some (.pointer (some ⟨i.r 2, 0, none⟩)) ∧ w1.cell? ⟨i.c, 5, none⟩ = some (.pointer (some ⟨i.r 3, 0, none⟩)) from fun w1 h => ⟨(r.below h).cells.2.2.2.2.1, (r.below h).cells.2.2.2.2.2⟩)
  have h1 := (r.ls 2 (by omega)).len
  have h2 := (r.ls 3 (by omega)).len
  obtain ⟨ic, ir⟩ := i
  simp only at ca cb U V C ⊢
  generalize ir 2 = n at *
  generalize ir 3 = a at *
  clear r
  go_enter Try.func17, Try.ntmps17
  go_wp2_with fail
  go_region_held3 (fun w' => w'.cell? ⟨ic, 4, none⟩ = some (.pointer (some ⟨n, 0, none⟩)) ∧ w'.cell? ⟨ic, 5, none⟩ = some (.pointer (some ⟨a, 0, none⟩))) (first | (exact ⟨‹_›, ‹_›⟩) | go_keep)
    (first
      | (go_at_call 37; refine U.out.mono ?_; rintro e w1 ⟨v1, rfl, hO1, hB1⟩; obtain ⟨z2, z3⟩ := C.out w1 hB1; have O1 := Lib.hid hO1; have B1 := Lib.hid hB1; clear hO1 hB1 U)
      | (go_at_call 37; refine (V.out w1 B1.out).mono ?_; rintro e w2 ⟨v2, rfl, hO2, hB2⟩; obtain ⟨z4, z5⟩ := C.out w2 (B1.out.trans (hB2.mono B1.out.size)); obtain ⟨v3, w3, hrun, hO3, hg3⟩ := app_all (O1.out.below hB2) hO2 (by omega) (Nat.le_trans B1.out.size hB2.size); have RUN := Lib.hid hrun; have O3 := Lib.hid hO3; have B3 := Lib.hid (show Below w.heap.size w w3 from (B1.out.trans (hB2.mono B1.out.size)).grown hg3 (Nat.le_trans B1.out.size hB2.size) (fun k hk => ((O1.out.below hB2).1.lt k hk).1)); obtain ⟨z6, z7⟩ := C.out w3 B3.out; clear hO2 hB2 hrun hO3 hg3 V O1 B1)
      | (refine step_append_run rfl _ _ _ rfl _ _ _ _ rfl rfl RUN.out ?_))
  go_wp2_with fail
  go_ret
  exact ⟨v3, rfl, O3.out, B3.out⟩
theorem overW : Calls Try.prog 41 #[.pointer (some ⟨i.c, 0, none⟩)] w (Stl (.int .i64 ((((R 0).length + (R 1).length + (R 2).length + (R 3).length : Nat) : Int) - (mo : Int))) w) := by
  obtain ⟨c0, _⟩ := r.cells
  have hb := ((Below.refl w.heap.size w).trans (below_drewN w 1)).alloc (Nat.le_refl _) (.cells #[.int .i64 0, .int .i64 1, .int .i64 2, .int .i64 3] 3)
  have K0 : (w.drew.alloc (.cells #[.int .i64 0, .int .i64 1, .int .i64 2, .int .i64 3] 3)).cell? ⟨i.c, 0, none⟩ = some (.int .i64 (mo : Int)) := (r.below hb).cells.1
  have U := Lib.hid (count_four w.drew i S mo p R b (r.below (below_drewN w 1)))
  have B := Lib.hid hb
  have h0 := (r.ls 0 (by omega)).len
  have h1 := (r.ls 1 (by omega)).len
  have h2 := (r.ls 2 (by omega)).len
  have h3 := (r.ls 3 (by omega)).len
  have ht := r.top.1
  obtain ⟨q, hq⟩ : ∃ q, q = (R 0).length + (R 1).length + (R 2).length + (R 3).length := ⟨_, rfl⟩
  rw [← hq] at U ⊢
  have HW := IntWalk.i64_in ((q : Int) - (mo : Int)) (by omega)
  clear hb hq h0 h1 h2 h3 ht r
  go_enter Try.func41, Try.ntmps41
  go_wp2_with fail
  go_region_held3 (fun w' => w'.cell? ⟨i.c, 0, none⟩ = some (.int .i64 (mo : Int))) (first | (with_reducible exact K0) | (with_reducible exact c0) | go_keep)
    ((go_at_call 39; refine U.out.mono ?_; rintro e w1 ⟨rfl, rfl⟩))
  all_goals
    go_wp2_with fail
    go_ret
    exact ⟨rfl, B.out⟩
set_option maxHeartbeats 1000000 in
theorem leavingW (q : Bool) : Calls Try.prog 34 #[.pointer (some ⟨i.c, 0, none⟩), .bool q] w (Stl (.int .i64 (lv R p q : Int)) w) := by
  obtain ⟨_, c1, _⟩ := r.cells
  have hb1 := (Below.refl w.heap.size w).alloc (Nat.le_refl _) (.cells #[.int .i64 0] 3)
  have hb2 := hb1.alloc hb1.size (.cells #[.int .i64 1] 3)
  have K1 : (w.alloc (.cells #[.int .i64 0] 3)).cell? ⟨i.c, 1, none⟩ = some (.int .i64 (p : Int)) := (r.below hb1).cells.2.1
  have U := count_one w i S mo p R b r 0 (by omega)
  have V := count_one (w.alloc (.cells #[.int .i64 0] 3)) i S mo p R b (r.below hb1) 1 (by omega)
  have B1 := Lib.hid hb1
  have B2 := Lib.hid hb2
  unfold lv
  generalize (R 0).length = n at *
  generalize (R 1).length = m at *
  have U := Lib.hid (show Calls Try.prog 39 #[.pointer (some ⟨i.c, 0, none⟩), .slice (some ⟨w.heap.size, 0, none⟩) 1 1] (w.alloc (.cells #[.int .i64 0] 3)) (IntPost (n : Int) (w.alloc (.cells #[.int .i64 0] 3))) from U)
  have V := Lib.hid (show Calls Try.prog 39 #[.pointer (some ⟨i.c, 0, none⟩), .slice (some ⟨(w.alloc (.cells #[.int .i64 0] 3)).heap.size, 0, none⟩) 1 1] ((w.alloc (.cells #[.int .i64 0] 3)).alloc (.cells #[.int .i64 1] 3)) (IntPost (m : Int) ((w.alloc (.cells #[.int .i64 0] 3)).alloc (.cells #[.int .i64 1] 3))) from V)
  rw [show (w.alloc (.cells #[.int .i64 0] 3)).heap.size = w.heap.size + 1 by simp] at V
  clear r hb1 hb2
  by_cases h1 : p < n
  · rw [if_pos (Or.inl h1)]
    have e1 : decide (p < n) = true := by simpa using h1
    clear h1 V B2
    go_enter Try.func34, Try.ntmps34
    go_wp2_with fail
    refine U.out.mono ?_
    rintro e w1 ⟨rfl, rfl⟩
    go_wp2_with fail
    go_ret
    exact ⟨rfl, B1.out⟩
  have e1 : decide (p < n) = false := by simpa using h1
  by_cases h2 : 0 < n ∧ n = p ∧ q = true
  · rw [if_pos (Or.inr (Or.inl h2))]
    obtain ⟨h3, rfl, rfl⟩ := h2
    have e2 : decide (0 < n) = true := by simpa using h3
    clear h1 V B2 h3
    go_enter Try.func34, Try.ntmps34
    go_wp2_with fail
    refine U.out.mono ?_
    rintro e w1 ⟨rfl, rfl⟩
    go_wp2_with fail
    go_ret
    exact ⟨rfl, B1.out⟩
  have key : m = 0 → (if p < n ∨ (0 < n ∧ n = p ∧ q = true) ∨ m = 0 then 0 else 1) = 0 := fun h => if_pos (Or.inr (Or.inr h))
  have key2 : m ≠ 0 → (if p < n ∨ (0 < n ∧ n = p ∧ q = true) ∨ m = 0 then 0 else 1) = 1 := fun h => if_neg (by rintro (h | h | h) <;> contradiction)
  by_cases h3 : 0 < n
  · have e2 : decide (0 < n) = true := by simpa using h3
    by_cases h4 : n = p
    · subst h4
      obtain rfl : q = false := by cases q <;> simp_all
      by_cases h5 : m = 0
      · rw [key h5]
        subst h5
        clear h1 h2 h3 key key2
        go_enter Try.func34, Try.ntmps34
        go_wp2_with fail
        refine U.out.mono ?_
        rintro e w1 ⟨rfl, rfl⟩
        go_wp2_with fail
        refine V.out.mono ?_
        rintro e w1 ⟨rfl, rfl⟩
        go_wp2_with fail
        go_ret
        exact ⟨rfl, B2.out⟩
      · rw [key2 h5]
        have e5 : (m == 0) = false := by simpa using h5
        have e6 : ((m : Int) == 0) = false := by simp; omega
        clear h1 h2 h3 key key2 h5
        go_enter Try.func34, Try.ntmps34
        go_wp2_with fail
        refine U.out.mono ?_
        rintro e w1 ⟨rfl, rfl⟩
        go_wp2_with fail
        refine V.out.mono ?_
        rintro e w1 ⟨rfl, rfl⟩
        go_wp2_with fail
        go_ret
        exact ⟨rfl, B2.out⟩
    · have e4 : (n == p) = false := by simpa using h4
      have e7 : ((n : Int) == (p : Int)) = false := by simp; omega
      by_cases h5 : m = 0
      · rw [key h5]
        subst h5
        clear h1 h2 h3 key key2 h4
        go_enter Try.func34, Try.ntmps34
        go_wp2_with fail
        refine U.out.mono ?_
        rintro e w1 ⟨rfl, rfl⟩
        go_wp2_with fail
        refine V.out.mono ?_
        rintro e w1 ⟨rfl, rfl⟩
        go_wp2_with fail
        go_ret
        exact ⟨rfl, B2.out⟩
      · rw [key2 h5]
        have e5 : (m == 0) = false := by simpa using h5
        have e6 : ((m : Int) == 0) = false := by simp; omega
        clear h1 h2 h3 key key2 h5 h4
        go_enter Try.func34, Try.ntmps34
        go_wp2_with fail
        refine U.out.mono ?_
        rintro e w1 ⟨rfl, rfl⟩
        go_wp2_with fail
        refine V.out.mono ?_
        rintro e w1 ⟨rfl, rfl⟩
        go_wp2_with fail
        go_ret
        exact ⟨rfl, B2.out⟩
  · obtain rfl : n = 0 := by omega
    by_cases h5 : m = 0
    · rw [key h5]
      subst h5
      clear h1 h2 h3 key key2
      go_enter Try.func34, Try.ntmps34
      go_wp2_with fail
      refine U.out.mono ?_
      rintro e w1 ⟨rfl, rfl⟩
      go_wp2_with fail
      refine V.out.mono ?_
      rintro e w1 ⟨rfl, rfl⟩
      go_wp2_with fail
      go_ret
      exact ⟨rfl, B2.out⟩
    · rw [key2 h5]
      have e5 : (m == 0) = false := by simpa using h5
      have e6 : ((m : Int) == 0) = false := by simp; omega
      clear h1 h2 h3 key key2 h5
      go_enter Try.func34, Try.ntmps34
      go_wp2_with fail
      refine U.out.mono ?_
      rintro e w1 ⟨rfl, rfl⟩
      go_wp2_with fail
      refine V.out.mono ?_
      rintro e w1 ⟨rfl, rfl⟩
      go_wp2_with fail
      go_ret
      exact ⟨rfl, B2.out⟩
end
end Go.Proofs.Ytlmbeiijijkjeaa
