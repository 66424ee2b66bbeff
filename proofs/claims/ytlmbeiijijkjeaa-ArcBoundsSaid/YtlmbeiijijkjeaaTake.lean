/- The contract of a list's take: an empty place, or a new one. -/
import Derived.Test.YtlmbeiijijkjeaaLow
import Derived.Maps.AppendAt
namespace Go.Proofs.Ytlmbeiijijkjeaa
open Go.RowKit Sg

/-- An append whose run is known, for the walk. -/
theorem wpList_append_run {P : Program} {w : World} {ops : Array Oper} {rest : List Oper} {o : Oper} {a : Act} {Q : Exit → Act → World → Prop} (hgd : o.guard = none) (s x : Operand) (t : TypeId)
    (ho : o.op = .call { callee := .builtin .append, args := #[s, x], argTypes := #[t, t] }) (v u v' : Value) (w' : World) (hs : a.eval s = v) (hx : a.eval x = u) (hr : (Builtin.append_ #[t, t] o.type #[v, u]).run P w = .ok v' w')
    (h : wpList P ops Q rest (a.put o.dst v') w') : wpList P ops Q (o :: rest) a w := by
  refine wpList_plain hgd fun K hK => ?_
  unfold Oper.wp execOp
  simp only [ho, resolve, invoke, builtin, Sem.run_bind, Sem.run_pure, Result.andThen_ok, List.map_toArray, List.map_cons, List.map_nil, hs, hx, hr]
  exact hK _ _ h

theorem infoPl : (Try.prog.info? 67).map (fun i => (i.zero, i.size, i.bytes)) = some (some (.agg #[.string ⟨#[]⟩, .int .i64 0, .int .i64 0]), 3, 32) := by kernel_rfl

/-- An arena with one place more. -/
def grow (A : Ar) : Ar := ⟨A.n + 1, upd A.K A.n ⟨#[]⟩, upd A.pv A.n 0, upd A.nx A.n 0, A.e⟩

theorem take_get {cur : Array Value} {xs news : List Value} {m : Nat} (h : cur.toList.take m = xs ++ news) (j : Nat) (hj : j < m) : cur[j]? = (xs ++ news)[j]? := by
  rw [← h, List.getElem?_take, if_pos hj]; simp

/-- 'append(l.places, place{})'. -/
theorem app_place {w : World} {P cap : Nat} {arr : Array Value} {A : Ar} (hP : w.heap[P]? = some (.cells arr 67 (0, 0))) (h3 : arr.size = cap * 3) (h4 : A.n ≤ cap) (h5 : cap ≤ maxLen) (ht : A.n ≤ 999)
    (h6 : ∀ i, i < A.n → arr[i * 3]? = some (.string (A.K i)) ∧ arr[i * 3 + 1]? = some (.int .i64 (A.pv i : Int)) ∧ arr[i * 3 + 2]? = some (.int .i64 (A.nx i : Int))) :
    ∃ (P' cap' : Nat) (arr' : Array Value) (w2 : World), (Builtin.append_ #[60, 60] 60 #[.slice (some ⟨P, 0, none⟩) A.n cap, .slice (some ⟨w.heap.size, 0, none⟩) 1 1]).run Try.prog
        (w.alloc (.cells #[.string ⟨#[]⟩, .int .i64 0, .int .i64 0] 67)) = .ok (.slice (some ⟨P', 0, none⟩) (A.n + 1) cap') w2 ∧
      (P' = P ∨ P' = w.heap.size + 1) ∧ (w.alloc (.cells #[.string ⟨#[]⟩, .int .i64 0, .int .i64 0] 67)).grownBy w2 (some P) ∧ w2.heap[P']? = some (.cells arr' 67 (0, 0)) ∧ arr'.size = cap' * 3 ∧ A.n + 1 ≤ cap' ∧ cap' ≤ maxLen ∧
      ∀ i, i < A.n + 1 → arr'[i * 3]? = some (.string ((grow A).K i)) ∧ arr'[i * 3 + 1]? = some (.int .i64 ((grow A).pv i : Int)) ∧ arr'[i * 3 + 2]? = some (.int .i64 ((grow A).nx i : Int)) := by
  obtain ⟨i0, hi, hz0, hz1, hz2⟩ := info_parts infoPl
  have hlt : P < w.heap.size := (Array.getElem?_eq_some_iff.1 hP).1
  have hcell : ∀ j u, [Value.string ⟨#[]⟩, Value.int .i64 0, Value.int .i64 0][j]? = some u → (w.alloc (.cells #[.string ⟨#[]⟩, .int .i64 0, .int .i64 0] 67)).cell? ((⟨w.heap.size, 0, none⟩ : Addr).add j) = some u := by
    intro j u hj
    rw [show (⟨w.heap.size, 0, none⟩ : Addr).add j = ⟨w.heap.size, j, none⟩ by unfold Addr.add; split <;> simp_all, cell_of_row _ _ _ _ _ _ (heap_alloc_new w _)]
    simpa using hj
  have hown : w.ownsRow 0 67 3 (.slice (some ⟨P, 0, none⟩) A.n cap) A.n (arr.toList.take (A.n * 3)) :=
    ⟨by rw [List.length_take, Array.length_toList]; omega, Or.inr ⟨P, cap, arr, rfl, Nat.zero_le _, hP, h4, h5, h3, rfl⟩⟩
  obtain ⟨v', w2, hrun, hown2, hg, hnil, hloc⟩ := run_append_own_at (P := Try.prog) (w.alloc (.cells #[.string ⟨#[]⟩, .int .i64 0, .int .i64 0] 67)) 0 60 60 67 i0 _ 3 32
    Try.underlying60 hi hz0 hz1 hz2 rfl (by decide) _ _ _ (hown.alloc _) ⟨w.heap.size, 0, none⟩ 1 1 [.string ⟨#[]⟩, .int .i64 0, .int .i64 0] rfl hcell (by simp [Value.oneCell']) (by unfold maxLen; omega) (by omega) (Nat.zero_le _)
  obtain ⟨hlen, hcase⟩ := hown2
  rcases hcase with ⟨_, h0⟩ | ⟨P', cap', cur, rfl, _, hP', hn', hcm, hcs, htk⟩
  · omega
  refine ⟨P', cap', cur, w2, hrun, ?_, hg, hP', hcs, hn', hcm, ?_⟩
  · simp only [Value.ownBlock, Option.some.injEq] at hloc
    rcases hloc with h | h
    · exact Or.inl h
    · exact Or.inr (by simpa using h)
  · have hl : (arr.toList.take (A.n * 3)).length = A.n * 3 := by rw [List.length_take, Array.length_toList]; omega
    intro i hi
    by_cases e : i = A.n
    · subst e
      have g : ∀ k, k < 3 → cur[A.n * 3 + k]? = [Value.string ⟨#[]⟩, Value.int .i64 0, Value.int .i64 0][k]? := fun k hk => by
        rw [take_get htk _ (by omega), List.getElem?_append_right (by omega), hl]; congr 1; omega
      have g0 := g 0 (by omega)
      have g1 := g 1 (by omega)
      have g2 := g 2 (by omega)
      refine ⟨?_, ?_, ?_⟩
      · show _ = some (Value.string (upd A.K A.n ⟨#[]⟩ A.n))
        rw [upd_same]; simpa using g0
      · show _ = some (Value.int .i64 ((upd A.pv A.n 0 A.n : Nat) : Int))
        rw [upd_same]; simpa using g1
      · show _ = some (Value.int .i64 ((upd A.nx A.n 0 A.n : Nat) : Int))
        rw [upd_same]; simpa using g2
    · have g : ∀ k, k < 3 → cur[i * 3 + k]? = arr[i * 3 + k]? := fun k hk => by
        rw [take_get htk _ (by omega), List.getElem?_append_left (by omega), List.getElem?_take, if_pos (by omega)]; simp
      obtain ⟨k1, k2, k3⟩ := h6 i (by omega)
      refine ⟨?_, ?_, ?_⟩
      · show _ = some (Value.string (upd A.K A.n ⟨#[]⟩ i))
        rw [upd_ne e]; exact (g 0 (by omega)).trans k1
      · show _ = some (Value.int .i64 ((upd A.pv A.n 0 i : Nat) : Int))
        rw [upd_ne e]; exact (g 1 (by omega)).trans k2
      · show _ = some (Value.int .i64 ((upd A.nx A.n 0 i : Nat) : Int))
        rw [upd_ne e]; exact (g 2 (by omega)).trans k3

def TakeOld (w : World) (l M P : Nat) (A : Ar) (e : Ending) (w' : World) : Prop := e = .returned (.int .i64 (A.e : Int)) ∧ Holds w' l M P { A with e := A.nx A.e } ∧ Turned w w' l P P

theorem take_old (w : World) (l M P : Nat) (A : Ar) (h : Holds w l M P A) (he : A.e ≠ 0) :
    Calls Try.prog 51 #[.pointer (some ⟨l, 0, none⟩)] w (TakeOld w l M P A) := by
  obtain ⟨cap, hc1, hc2, c0, c1, c2⟩ := h.own
  obtain ⟨_, _, k2⟩ := h.place h.ein
  have ht := h.top
  have hei := h.ein
  have hnx := h.nxin _ h.ein
  have fl := h.freeL 2
  have e0 : ((A.e : Int) == 0) = false := by simp; omega
  have R := Lib.hid (h.setE hnx)
  have RT := Lib.hid ((Turned.refl w l P P).setCell (p := ⟨l, 2, none⟩) (Or.inl rfl) (.int .i64 (A.nx A.e : Int)))
  unfold maxLen at hc2
  clear h he
  go_enter Try.func51, Try.ntmps51
  go_wp2_with fail
  go_ret
  exact ⟨rfl, R.out, RT.out⟩

def TakeNew (w : World) (l M P : Nat) (A : Ar) (e : Ending) (w' : World) : Prop := ∃ P', (P' = P ∨ w.heap.size ≤ P') ∧ e = .returned (.int .i64 (A.n : Int)) ∧ Holds w' l M P' (grow A) ∧ Turned w w' l P P

theorem grow_holds {w w2 : World} {l M P P' cap' : Nat} {A : Ar} {arr' : Array Value} (h : Holds w l M P A) (ht : A.n ≤ 999) (hP : P' = P ∨ P' = w.heap.size + 1)
    (hg : (w.alloc (.cells #[.string ⟨#[]⟩, .int .i64 0, .int .i64 0] 67)).grownBy w2 (some P)) (hP' : w2.heap[P']? = some (.cells arr' 67 (0, 0))) (hs : arr'.size = cap' * 3) (hc : A.n + 1 ≤ cap') (hm : cap' ≤ maxLen)
    (h6 : ∀ i, i < A.n + 1 → arr'[i * 3]? = some (.string ((grow A).K i)) ∧ arr'[i * 3 + 1]? = some (.int .i64 ((grow A).pv i : Int)) ∧ arr'[i * 3 + 2]? = some (.int .i64 ((grow A).nx i : Int))) :
    Holds (w2.setCell ⟨l, 0, none⟩ (.slice (some ⟨P', 0, none⟩) (A.n + 1) cap')) l M P' (grow A) ∧ Turned w (w2.setCell ⟨l, 0, none⟩ (.slice (some ⟨P', 0, none⟩) (A.n + 1) cap')) l P P := by
  have llt := h.llt
  have Mlt := h.Mlt
  have lP := h.lP
  have MP := h.MP
  have hsz := hg.size
  rw [show (w.alloc (.cells #[.string ⟨#[]⟩, .int .i64 0, .int .i64 0] 67)).heap.size = w.heap.size + 1 by simp] at hsz
  obtain ⟨cap, arr, h1, _⟩ := h.mem
  have hl2 : w2.heap[l]? = some (.cells #[.slice (some ⟨P, 0, none⟩) A.n cap, .map (some M), .int .i64 (A.e : Int)] 63 (0, 0)) := by
    rw [hg.block l (by simp; omega) (by simpa using lP), Below.heap_alloc _ _ _ llt]; exact h1
  refine ⟨⟨h.lM, by omega, by omega, by simp [World.setCell]; omega, ⟨cap', arr', ?_, ?_, hs, hc, hm, h6⟩, by show 1 ≤ A.n + 1; omega, by show A.n + 1 ≤ 1000; omega, ?_, fun i hi => ?_, fun i hi => ?_⟩, ?_⟩
  · rw [heap_setCell_same _ _ _ _ _ _ hl2]; rfl
  · rw [heap_setCell_other _ _ _ _ (show P' ≠ l by omega)]; exact hP'
  · have := h.ein; show A.e < A.n + 1; omega
  · have hi' : i < A.n + 1 := hi
    show upd A.pv A.n 0 i < A.n + 1
    unfold upd
    split
    · omega
    · have := h.pvin i (by omega); omega
  · have hi' : i < A.n + 1 := hi
    show upd A.nx A.n 0 i < A.n + 1
    unfold upd
    split
    · omega
    · have := h.nxin i (by omega); omega
  · exact (((Turned.refl w l P P).alloc _).grown hg (fun k hk => by cases hk; exact Or.inr (Or.inr (Or.inl rfl)))).setCell (Or.inl rfl) _

set_option maxHeartbeats 1000000 in
theorem take_new (w : World) (l M P : Nat) (A : Ar) (h : Holds w l M P A) (he : A.e = 0) (ht : A.n ≤ 999) :
    Calls Try.prog 51 #[.pointer (some ⟨l, 0, none⟩)] w (TakeNew w l M P A) := by
  obtain ⟨cap, arr, h1, hP, h3, h4, h5, h6⟩ := h.mem
  have c0 : w.cell? ⟨l, 0, none⟩ = some (.slice (some ⟨P, 0, none⟩) A.n cap) := cell_of_row w _ 0 _ _ _ h1
  have c2 : w.cell? ⟨l, 2, none⟩ = some (.int .i64 0) := by rw [cell_of_row w _ 2 _ _ _ h1, he]; rfl
  obtain ⟨P', cap', arr', w2, hrun, hloc, hg, hP', hs', hc', hm', h6'⟩ := app_place hP h3 h4 h5 ht h6
  have R := Lib.hid (grow_holds h ht hloc hg hP' hs' hc' hm' h6')
  have HP := Lib.hid hloc
  have HR := Lib.hid hrun
  have llt := h.llt
  have lP := h.lP
  have d0 : w2.cell? ⟨l, 0, none⟩ = some (.slice (some ⟨P, 0, none⟩) A.n cap) := by
    rw [World.cell?_of_block (a := ⟨l, 0, none⟩) (hg.block l (by simp; omega) (by simpa using lP)), World.cell?_of_block (a := ⟨l, 0, none⟩) (Below.heap_alloc _ _ _ llt)]; exact c0
  have fl : w2.frozen? ⟨l, 0, none⟩ = false := by
    rw [World.frozen?_of_block (a := ⟨l, 0, none⟩) (hg.block l (by simp; omega) (by simpa using lP)), World.frozen?_of_block (a := ⟨l, 0, none⟩) (Below.heap_alloc _ _ _ llt)]; exact h.freeL 0
  clear hrun hloc hg hP' hs' hc' hm' h6' h6 h5 h4 h3 hP h1 h
  go_enter Try.func51, Try.ntmps51
  go_wp2_with (at_builtin; refine wpList_append_run rfl _ _ _ rfl _ _ _ _ rfl rfl HR.out ?_)
  go_ret
  exact ⟨P', HP.out.imp id (fun h => by omega), ret_int (by omega), R.out.1, R.out.2⟩
end Go.Proofs.Ytlmbeiijijkjeaa
