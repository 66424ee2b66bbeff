/- Rows of slices of numbers that a law makes by itself: one more; all overwritten; read by New. -/
import Derived.Test.YtaiejdopmlajmaaShapes
import Derived.Maps.AppendAt
namespace Go.Proofs.Ytaiejdopmlajmaa
open Go.ChangeShapes Go.WideShapes Go.ChangeAt Go.RowKit Go.Deep

def uints (xs : List Nat) : List Value := xs.map fun n : Nat => Value.int .u64 (n : Int)
theorem uints_length (xs : List Nat) : (uints xs).length = xs.length := by simp [uints]
theorem uints_one (xs : List Nat) : ∀ u ∈ uints xs, u.oneCell' = true := by
  intro u hu
  obtain ⟨n, _, rfl⟩ := List.mem_map.1 hu
  rfl

/-- An append whose run is known. -/
theorem wpList_append_run {P : Program} {w : World} {ops : Array Oper} {rest : List Oper} {o : Oper} {a : Act} {Q : Exit → Act → World → Prop} (hgd : o.guard = none) (s x : Operand) (t : TypeId)
    (ho : o.op = .call { callee := .builtin .append, args := #[s, x], argTypes := #[t, t] }) (v u v' : Value) (w' : World) (hs : a.eval s = v) (hx : a.eval x = u) (hr : (Builtin.append_ #[t, t] o.type #[v, u]).run P w = .ok v' w')
    (h : wpList P ops Q rest (a.put o.dst v') w') : wpList P ops Q (o :: rest) a w := by
  refine wpList_plain hgd fun K hK => ?_
  unfold Oper.wp execOp
  simp only [ho, resolve, invoke, builtin, Sem.run_bind, Sem.run_pure, Result.andThen_ok, List.map_toArray, List.map_cons, List.map_nil, hs, hx, hr]
  exact hK _ _ h

theorem app_none (W : World) (g : Nat) (A : Option Addr) (c : Nat) : (Builtin.append_ #[25, 25] 25 #[.slice (some ⟨g, 0, none⟩) 0 0, .slice A 0 c]).run Try.prog W = .ok (.slice (some ⟨g, 0, none⟩) 0 0) W := by
  obtain ⟨i0, hi, hz0, hz1, hz2⟩ := info_parts infoU
  cases A <;> simp [Builtin.append_, run_underlying Try.underlying25, sizeOf, typeInfo, hi, Builtin.lenOf, Builtin.firstCells, storeCells, loadCells, loadCellsFrom]

/-- 'append([]uint64{}, xs...)'. -/
theorem app_first {W : World} {base g hi : Nat} (hg : W.heap[g]? = some (.cells #[] 28 (0, 0))) (hb : base ≤ g) {A : Option Addr} {c : Nat} {xs : List Nat} (hl : Lane W 0 hi (.slice A xs.length c) xs) :
    ∃ v1 w1, (Builtin.append_ #[25, 25] 25 #[.slice (some ⟨g, 0, none⟩) 0 0, .slice A xs.length c]).run Try.prog W = .ok v1 w1 ∧ w1.ownsRow base 28 1 v1 xs.length (uints xs) ∧ W.grownBy w1 (some g) := by
  obtain ⟨i0, hi, hz0, hz1, hz2⟩ := info_parts infoU
  have hgl : g < W.heap.size := (Array.getElem?_eq_some_iff.1 hg).1
  have hown : W.ownsRow base 28 1 (.slice (some ⟨g, 0, none⟩) 0 0) 0 [] := ⟨rfl, .inr ⟨g, 0, #[], rfl, hb, hg, by omega, by omega, rfl, rfl⟩⟩
  rcases hl.2.2 with ⟨rfl, _⟩ | ⟨g2, o, c', e, _, _, _, _, h5⟩
  · exact ⟨_, W, app_none W g A c, hown, World.grownBy.refl _ _⟩
  · obtain rfl : A = some ⟨g2, o, none⟩ := by injection e
    have hx := hl.1
    have hnews : ∀ j u, (uints xs)[j]? = some u → W.cell? (Addr.add ⟨g2, o, none⟩ j) = some u := fun j u hj => by
      rw [add_at]
      by_cases hjl : j < xs.length
      · rw [h5 j hjl, ← hj]
        simp [uints, hjl, List.getD_eq_getElem?_getD]
      · simp [uints, List.getElem?_eq_none (show xs.length ≤ j by omega)] at hj
    obtain ⟨v1, w1, h1, h2, h3, _⟩ := run_append_own (P := Try.prog) W base 25 25 28 i0 (.int .u64 0) 1 8 Try.underlying25 hi hz0 hz1 hz2 rfl (by decide) _ 0 [] hown ⟨g2, o, none⟩ xs.length c (uints xs)
      (by rw [uints_length, Nat.mul_one]) hnews (uints_one xs) (by unfold maxLen; omega) (by omega) (by omega)
    rw [Nat.zero_add, List.nil_append] at h2
    exact ⟨v1, w1, h1, h2, h3⟩

/-- 'append(own, v)'. -/
theorem app_second {W : World} {base k : Nat} {own v1 : Value} {vs : List Value} (hown : W.ownsRow base 25 1 own k vs) (hb : base ≤ W.heap.size) (hk : k ≤ 1000) (h1 : v1.oneCell' = true) :
    ∃ v2 w2, (Builtin.append_ #[22, 22] 22 #[own, .slice (some ⟨W.heap.size, 0, none⟩) 1 1]).run Try.prog (W.alloc (.cells #[v1] 25)) = .ok v2 w2 ∧
      w2.ownsRow base 25 1 v2 (k + 1) (vs ++ [v1]) ∧ W.grownBy w2 own.ownBlock := by
  obtain ⟨i0, hi, hz0, hz1, hz2⟩ := info_parts infoS
  obtain ⟨v2, w2, r1, r2, r3, _⟩ := run_append_own (P := Try.prog) (W.alloc (.cells #[v1] 25)) base 22 22 25 i0 (.slice none 0 0) 1 24 Try.underlying22 hi hz0 hz1 hz2 rfl (by decide) _ k vs (hown.alloc _) ⟨W.heap.size, 0, none⟩ 1 1 [v1]
    rfl (cell_one_new W v1 _) (fun u hu => by simp at hu; subst hu; exact h1) (by unfold maxLen; omega) (by omega) (by simp; omega)
  exact ⟨v2, w2, r1, r2, (World.grownBy_alloc W _ _).trans r3⟩

theorem own_slice {w : World} {base n : Nat} {e : TypeId} {v : Value} {xs : List Value} (h : w.ownsRow base e 1 v n xs) : v.oneCell' = true := by
  rcases h.2 with ⟨rfl, _⟩ | ⟨g, cap, cur, rfl, _⟩ <;> rfl
/-- Rows of unlike types lie in unlike blocks. -/
theorem own_apart {w : World} {b1 b2 n m : Nat} {u v : Value} {xs ys : List Value} (h : w.ownsRow b1 28 1 u n xs) (k : w.ownsRow b2 25 1 v m ys) : u.ownBlock = none ∨ u.ownBlock ≠ v.ownBlock := by
  rcases h.2 with ⟨rfl, _⟩ | ⟨g, cap, cur, rfl, _, hg, _⟩
  · exact Or.inl rfl
  · rcases k.2 with ⟨rfl, _⟩ | ⟨g', cap', cur', rfl, _, hg', _⟩
    · exact Or.inr (by simp [Value.ownBlock])
    · refine Or.inr (fun e => ?_)
      have e' : g = g' := by simpa [Value.ownBlock] using e
      subst e'
      rw [hg] at hg'
      simp at hg'

theorem own_old {w w' : World} {base n : Nat} {e : TypeId} {v : Value} {xs : List Value} (h : w.ownsRow base e 1 v n xs) (hb : ∀ j, j < w.heap.size → w'.heap[j]? = w.heap[j]?) : w'.ownsRow base e 1 v n xs := by
  refine ⟨h.1, ?_⟩
  rcases h.2 with h1 | ⟨g, cap, cur, rfl, hg, hh, r⟩
  · exact Or.inl h1
  · exact Or.inr ⟨g, cap, cur, rfl, hg, (hb g (h.lt g rfl).2).trans hh, r⟩

/-- The rows made so far. -/
structure Made (W : World) (base k : Nat) (own : Value) (f : Nat → List Nat) (vs : List Value) : Prop where
  outer : W.ownsRow base 25 1 own k vs
  inner : ∀ j, j < k → W.ownsRow base 28 1 (vs.getD j undef) (f j).length (uints (f j))
theorem Made.len {W : World} {base k : Nat} {own : Value} {f : Nat → List Nat} {vs : List Value} (h : Made W base k own f vs) : vs.length = k := by have := h.outer.1; omega

theorem made_next {W w1 w2 : World} {base k : Nat} {own v1 v2 : Value} {f : Nat → List Nat} {vs : List Value} {xs : List Nat} (h : Made W base k own f vs) (hx : xs = f k)
    (h1 : w1.ownsRow base 28 1 v1 xs.length (uints xs)) (g1 : (W.alloc (.cells #[] 28)).grownBy w1 (some W.heap.size))
    (h2 : w2.ownsRow base 25 1 v2 (k + 1) (vs ++ [v1])) (g2 : w1.grownBy w2 own.ownBlock) : Made w2 base (k + 1) v2 f (vs ++ [v1]) ∧ W.grownBy w2 own.ownBlock := by
  subst hx
  have hg : ∀ j, j < W.heap.size → w1.heap[j]? = W.heap[j]? := fun j hj => (g1.block j (by simp; omega) (by simp; omega)).trans (Below.heap_alloc _ _ _ hj)
  have hsz : W.heap.size + 1 ≤ w1.heap.size := by have := g1.size; simpa using this
  have ho1 : w1.ownsRow base 25 1 own k vs := own_old h.outer hg
  have hi1 : ∀ j, j < k → w1.ownsRow base 28 1 (vs.getD j undef) (f j).length (uints (f j)) := fun j hj => own_old (h.inner j hj) hg
  have hl := h.len
  refine ⟨⟨h2, fun j hj => ?_⟩, ⟨g2.os.trans g1.os, g2.tape.trans g1.tape, g2.output.trans g1.output, Nat.le_trans (by omega) g2.size, fun j hj hne => (g2.block j (by omega) hne).trans (hg j hj)⟩⟩
  by_cases e : j = k
  · subst e
    rw [List.getD_eq_getElem?_getD, List.getElem?_append_right (by omega), hl, Nat.sub_self]
    exact h1.kept g2 (own_apart h1 ho1)
  · rw [List.getD_eq_getElem?_getD, List.getElem?_append_left (by omega), ← List.getD_eq_getElem?_getD]
    exact (hi1 j (by omega)).kept g2 (own_apart (hi1 j (by omega)) ho1)

theorem own_lane {w : World} {base : Nat} {v : Value} {xs : List Nat} (h : w.ownsRow base 28 1 v xs.length (uints xs)) (hl : xs.length ≤ 1000) (hb : ∀ x ∈ xs, x ≤ 18446744073709551615) : Lane w 0 w.heap.size v xs := by
  refine ⟨hl, hb, ?_⟩
  rcases h.2 with ⟨rfl, hn⟩ | ⟨g, cap, cur, rfl, _, hh, hc, hm, _, _⟩
  · exact Or.inl ⟨List.eq_nil_of_length_eq_zero hn, none, 0, rfl⟩
  · refine Or.inr ⟨g, 0, cap, rfl, Nat.zero_le _, (Array.getElem?_eq_some_iff.1 hh).1, hc, hm, fun j hj => ?_⟩
    rw [Nat.zero_add, h.cellAt j (by omega)]
    simp [uints, hj, List.getD_eq_getElem?_getD]

/-- What New is handed. -/
theorem made_lanes {W : World} {base n : Nat} {own : Value} {f : Nat → List Nat} {vs : List Value} (h : Made W base n own f vs) (hn : n ≤ 1000) (hf : ∀ i, i < n → (f i).length ≤ 1000 ∧ ∀ x ∈ f i, x ≤ 18446744073709551615) : Lanes W W.heap.size own (allOf f n) := by
  have hl := h.len
  have hi : ∀ i, i < n → Lane W 0 W.heap.size (vs.getD i undef) (f i) := fun i hi => own_lane (h.inner i hi) (hf i hi).1 (hf i hi).2
  rcases h.outer.2 with ⟨e, h0⟩ | ⟨g, cap, cur, e, _, hh, hc, hm, _, _⟩
  · exact lanes_of (V := fun i => vs.getD i undef) (A := none) (c := 0) (by rw [e, h0]) hn hi (fun h => by omega)
  · refine lanes_of (V := fun i => vs.getD i undef) e hn hi (fun _ => ⟨g, 0, rfl, (Array.getElem?_eq_some_iff.1 hh).1, hc, hm, fun i hi' => ?_⟩)
    have ho := h.outer
    rw [e] at ho
    rw [Nat.zero_add, ho.cellAt i (by omega), List.getD_eq_getElem?_getD, List.getElem?_eq_getElem (by omega)]
    rfl

/-- A row of numbers, whatever they are, below block C. -/
def Inner (W : World) (base C : Nat) (v : Value) : Prop := ∃ m xs, m ≤ 300 ∧ W.ownsRow base 28 1 v m xs ∧ ∀ g, v.ownBlock = some g → g < C
theorem Inner.same {W W' : World} {base C : Nat} {v : Value} (h : Inner W base C v) (hg : ∀ j, j < C → W'.heap[j]? = W.heap[j]?) : Inner W' base C v := by
  obtain ⟨m, xs, h1, h2, h3⟩ := h
  refine ⟨m, xs, h1, ⟨h2.1, ?_⟩, h3⟩
  rcases h2.2 with h4 | ⟨g, cap, cur, rfl, hb, hh, r⟩
  · exact Or.inl h4
  · exact Or.inr ⟨g, cap, cur, rfl, hb, (hg g (h3 g rfl)).trans hh, r⟩
theorem Inner.set {W : World} {base C : Nat} {v : Value} (h : Inner W base C v) (g k : Nat) (u : Value) : Inner (W.setCell ⟨g, k, none⟩ u) base C v := by
  obtain ⟨m, xs, h1, h2, h3⟩ := h
  rcases h2.2 with h4 | ⟨g', cap, cur, rfl, hb, hh, r⟩
  · exact ⟨m, xs, h1, ⟨h2.1, Or.inl h4⟩, h3⟩
  · by_cases e : g' = g
    · subst e
      exact ⟨m, _, h1, (h2.stored k u).1, h3⟩
    · exact ⟨m, xs, h1, ⟨h2.1, Or.inr ⟨g', cap, cur, rfl, hb, (heap_setCell_other _ _ _ _ e).trans hh, r⟩⟩, h3⟩

/-- The rows, while they are overwritten. -/
structure Torn (W : World) (base C n : Nat) (own : Value) (vs : List Value) : Prop where
  outer : W.ownsRow base 25 1 own n vs
  inner : ∀ j, j < n → Inner W base C (vs.getD j undef)
  below : ∀ g, own.ownBlock = some g → g < C
theorem torn_of {W W' : World} {base n : Nat} {own : Value} {f : Nat → List Nat} {vs : List Value} (h : Made W base n own f vs) (hf : ∀ i, i < n → (f i).length ≤ 300) (hg : Below W.heap.size W W') : Torn W' base W.heap.size n own vs :=
  ⟨own_old h.outer hg.block, fun j hj => Inner.same ⟨_, _, hf j hj, h.inner j hj, fun g e => (h.inner j hj).lt g e |>.2⟩ hg.block, fun g e => (h.outer.lt g e).2⟩
theorem Torn.set {W : World} {base C n j k m c g : Nat} {own : Value} {vs : List Value} {A : Option Addr} (h : Torn W base C n own vs) (hj : j < n) (hv : vs.getD j undef = .slice A m c) (hA : A = some ⟨g, 0, none⟩) (u : Value) : Torn (W.setCell ⟨g, k, none⟩ u) base C n own vs := by
  obtain ⟨m', xs, _, h2, _⟩ := h.inner j hj
  refine ⟨?_, fun i hi => (h.inner i hi).set g k u, h.below⟩
  have ha := own_apart h2 h.outer
  rw [hv, hA] at ha
  have hne : own.ownBlock ≠ some g := fun e => by
    rcases ha with ha | ha
    · simp [Value.ownBlock] at ha
    · exact ha (by rw [e]; rfl)
  refine ⟨h.outer.1, ?_⟩
  rcases h.outer.2 with h4 | ⟨g', cap, cur, rfl, hb, hh, r⟩
  · exact Or.inl h4
  · exact Or.inr ⟨g', cap, cur, rfl, hb, (heap_setCell_other _ _ _ _ (fun e => hne (congrArg some e))).trans hh, r⟩
theorem Torn.at {W : World} {base C n k : Nat} {own : Value} {vs : List Value} (h : Torn W base C n own vs) (hk : k < n) :
    ∃ A m c, vs.getD k undef = .slice A m c ∧ m ≤ 300 ∧ m ≤ c ∧ c ≤ 9223372036854775807 ∧ (0 < m → ∃ g, A = some ⟨g, 0, none⟩ ∧ base ≤ g ∧ g < C ∧ ∀ j, j < m → (∃ u, W.cell? ⟨g, j, none⟩ = some u) ∧ W.frozen? ⟨g, j, none⟩ = false) := by
  obtain ⟨m, xs, h1, h2, h3⟩ := h.inner k hk
  generalize vs.getD k undef = v at h2 h3
  rcases h2.2 with ⟨rfl, hn⟩ | ⟨g, cap, cur, rfl, hb, hh, hc, hm, _⟩
  · exact ⟨none, 0, 0, rfl, by omega, by omega, by omega, fun h => by omega⟩
  · refine ⟨_, m, cap, rfl, h1, hc, by unfold maxLen at hm; omega, fun _ => ⟨g, rfl, hb, h3 g rfl, fun j hj => ⟨?_, h2.frozenAt j⟩⟩⟩
    rw [h2.cellAt j (by omega)]
    exact ⟨_, List.getElem?_eq_getElem (by have := h2.1; omega)⟩
theorem Torn.row {W : World} {base C n k g c : Nat} {vs : List Value} (h : Torn W base C n (.slice (some ⟨g, 0, none⟩) n c) vs) (hk : k < n) : W.cell? ⟨g, k, none⟩ = some (vs.getD k undef) := by
  rw [h.outer.cellAt k (by omega), List.getD_eq_getElem?_getD, List.getElem?_eq_getElem (by have := h.outer.1; omega)]
  rfl
theorem torn_step {w W : World} {base C n k j m c g B E : Nat} {own : Value} {vs : List Value} {A : Option Addr} {L : List (List Nat)} (h : Torn W base C n own vs) (hT : Tape W B E L) (hb : Below w.heap.size w W) (hk : k < n)
    (hv : vs.getD k undef = .slice A m c) (hA : A = some ⟨g, 0, none⟩) (hgb : base ≤ g) (hgC : g < C) (hCB : C ≤ B) (hw : w.heap.size ≤ base) (u : Value) :
    Torn (W.setCell ⟨g, j, none⟩ u) base C n own vs ∧ Tape (W.setCell ⟨g, j, none⟩ u) B E L ∧ Below w.heap.size w (W.setCell ⟨g, j, none⟩ u) :=
  ⟨h.set hk hv hA u, hT.same (by simp [World.setCell]) fun q q1 _ => heap_setCell_other _ _ _ _ (show q ≠ g by omega), hb.setCell (show w.heap.size ≤ g by omega) u⟩
end Go.Proofs.Ytaiejdopmlajmaa
