/- A heap, the reference's row and a call, side by side. -/
import Derived.Test.YtfjbancceodhhaaRef4
namespace Go.Proofs.Ytfjbancceodhhaa
open Go.RowKit Ht HS

/-- A row of items beside a heap. -/
def RMine (w : World) (S : Nat → Prop) (v : Value) (M : List (Ent Key)) : Prop := ∃ g, RRow w g v M ∧ ¬ S g
section
variable {w w' : World} {h c c' : Nat} {S S' : Nat → Prop} {L L' M : List (Ent Key)} {v : Value}
theorem RRow.lt {g : Nat} (r : RRow w g v M) (hM : M ≠ []) : g < w.heap.size := by
  rcases r.2.2 with ⟨h, _⟩ | ⟨o, c, e, h1, _⟩
  · exact absurd h hM
  · exact h1
theorem RMine.below (m : RMine w S v M) (hb : Below w.heap.size w w') : RMine w' S v M := by
  obtain ⟨g, r, hn⟩ := m
  exact ⟨g, r.below hb, hn⟩
theorem RMine.turn (m : RMine w S v M) (ht : Turn S w w') (hs : ∀ k, S' k → S k ∨ w.heap.size ≤ k) (hS : HS w' h S' L c) : RMine w' S' v M := by
  obtain ⟨g, r, hn⟩ := m
  by_cases hM : M = []
  · subst hM
    obtain ⟨A, c2, rfl⟩ := r.shape
    exact ⟨w'.heap.size, RRow.nil _ _ _ _, fun hk => by have := hS.lt hk; omega⟩
  · have hlt := r.lt hM
    refine ⟨g, r.same ht.size (fun hg => ht.block g hg hn), fun hk => ?_⟩
    rcases hs g hk with h | h
    · exact hn h
    · omega
theorem RMine.of (o : OwnI w' w.heap.size v M) (hS : HS w h S L c) : RMine w' S v M := by
  obtain ⟨g, hg, r⟩ := o.row
  exact ⟨g, r, fun hk => by have := hS.lt hk; omega⟩
theorem RMine.nil (hS : HS w h S L c) (A : Option Addr) (c2 : Nat) : RMine w S (.slice A 0 c2) [] := ⟨w.heap.size, RRow.nil _ _ _ _, fun hk => by have := hS.lt hk; omega⟩
theorem RMine.shape (m : RMine w S v M) : ∃ A c, v = .slice A M.length c := by
  obtain ⟨g, r, _⟩ := m
  exact r.shape
theorem RMine.at (m : RMine w S v M) {j : Nat} {x : Ent Key} (hj : M[j]? = some x) : ∃ g o c, v = .slice (some ⟨g, o, none⟩) M.length c ∧ g < w.heap.size ∧ M.length ≤ c ∧ c ≤ maxLen ∧ w.cell? ⟨g, o + j * 3, none⟩ = some (.string x.key) ∧ w.cell? ⟨g, o + j * 3 + 1, none⟩ = some (.int .i64 x.one) ∧ w.cell? ⟨g, o + j * 3 + 2, none⟩ = some (.int .i64 x.two) := by
  obtain ⟨g, r, _⟩ := m
  obtain ⟨o, c, q⟩ := r.at hj
  exact ⟨g, o, c, q⟩
end
/-- The row without its first item. -/
theorem RMine.tail {w : World} {S : Nat → Prop} {g o c : Nat} {x : Ent Key} {M : List (Ent Key)} (m : RMine w S (.slice (some ⟨g, o, none⟩) (M.length + 1) c) (x :: M)) :
    RMine w S (.slice (if c = 1 then some ⟨g, o, none⟩ else some ⟨g, o + 3, none⟩) M.length (c - 1)) M := by
  obtain ⟨g', r, hn⟩ := m
  rcases r.2.2 with ⟨h, _⟩ | ⟨o', c', e, h1, h2, h3, h4⟩
  · cases h
  · injection e with e1 e2 e3
    injection e1 with e1
    injection e1 with e1 e1'
    subst e1
    subst e1'
    subst e3
    refine ⟨g, ⟨by have := r.1; simp at this; omega, fun e he => r.2.1 e (List.mem_cons_of_mem _ he), ?_⟩, hn⟩
    have h2' : M.length + 1 ≤ c := h2
    by_cases hc : c = 1
    · have hM : M = [] := List.eq_nil_of_length_eq_zero (by omega)
      subst hM
      exact Or.inl ⟨rfl, _, _, rfl⟩
    · rw [if_neg hc]
      refine Or.inr ⟨o + 3, c - 1, rfl, h1, by omega, by omega, fun j y hj => ?_⟩
      obtain ⟨q1, q2, q3⟩ := h4 (j + 1) y (by simpa using hj)
      rw [show o + (j + 1) * 3 = o + 3 + j * 3 by omega] at q1
      rw [show o + (j + 1) * 3 + 1 = o + 3 + j * 3 + 1 by omega] at q2
      rw [show o + (j + 1) * 3 + 2 = o + 3 + j * 3 + 2 by omega] at q3
      exact ⟨q1, q2, q3⟩

/-- .. and the call, in a variable of its own. -/
structure PlB (w0 W : World) (h ga : Nat) (S : Nat → Prop) (L : List (Ent Key)) (c : Nat) (v : Value) (M : List (Ent Key)) (kd : Int) (key : Key) (r1 r2 : Int) : Prop where
  live : Live w0 W h S L c
  row : RMine W S v M
  box : W.heap[ga]? = some (.cells #[.int .i64 kd, .string key, .int .i64 r1, .int .i64 r2] 30 (0, 0))
  boxS : ¬ S ga
section
variable {w0 W W' : World} {h ga c c' : Nat} {S : Nat → Prop} {L L' M : List (Ent Key)} {v : Value} {kd r1 r2 : Int} {key : Key} {r : Value} {e : Ending}
theorem PlB.below (s : PlB w0 W h ga S L c v M kd key r1 r2) (hb : Below W.heap.size W W') : PlB w0 W' h ga S L c v M kd key r1 r2 :=
  ⟨s.live.below hb, s.row.below hb, (hb.block ga (Array.getElem?_eq_some_iff.1 s.box).1).trans s.box, s.boxS⟩
theorem PlB.op (s : PlB w0 W h ga S L c v M kd key r1 r2) (hp : OpPost r W h S L' c' e W') : e = .returned r ∧ ∃ S', PlB w0 W' h ga S' L' c' v M kd key r1 r2 := by
  obtain ⟨he, S', h1, h2, h3⟩ := s.live.op hp
  have hlt := (Array.getElem?_eq_some_iff.1 s.box).1
  refine ⟨he, S', h1, s.row.turn h3 h2 h1.hs, (h3.block ga hlt s.boxS).trans s.box, fun hS => ?_⟩
  rcases h2 ga hS with h | h
  · exact s.boxS h
  · omega
/-- Another row is laid. -/
theorem PlB.made {v' : Value} {M' : List (Ent Key)} (s : PlB w0 W h ga S L c v M kd key r1 r2) (o : OwnI W' W.heap.size v' M') (hb : Below W.heap.size W W') : PlB w0 W' h ga S L c v' M' kd key r1 r2 :=
  ⟨s.live.below hb, RMine.of o s.live.hs, (hb.block ga (Array.getElem?_eq_some_iff.1 s.box).1).trans s.box, s.boxS⟩
theorem PlB.k0 (s : PlB w0 W h ga S L c v M kd key r1 r2) : W.cell? ⟨ga, 0, none⟩ = some (.int .i64 kd) := cell_of_row W _ 0 _ _ _ s.box
theorem PlB.k1 (s : PlB w0 W h ga S L c v M kd key r1 r2) : W.cell? ⟨ga, 1, none⟩ = some (.string key) := cell_of_row W _ 1 _ _ _ s.box
theorem PlB.k2 (s : PlB w0 W h ga S L c v M kd key r1 r2) : W.cell? ⟨ga, 2, none⟩ = some (.int .i64 r1) := cell_of_row W _ 2 _ _ _ s.box
theorem PlB.k3 (s : PlB w0 W h ga S L c v M kd key r1 r2) : W.cell? ⟨ga, 3, none⟩ = some (.int .i64 r2) := cell_of_row W _ 3 _ _ _ s.box
end
theorem neqR31 (w : World) (a b c d : Int) : (binOp .neq 31 (.agg #[.int .i64 a, .int .i64 b]) (.agg #[.int .i64 c, .int .i64 d])).run Try.prog w = .ok (.bool (!(decide (a = c) && decide (b = d)))) w := by
  have u3 := Try.underlying3
  have a3 := Try.isAgg3
  have z3 := Try.sizeOf3
  have hS : Try.prog.underlying 31 = some (.struct (Try.prog.fieldsOf 31)) := by kernel_rfl
  have hp : Try.prog.stoodInHeld 31 = false := by kernel_rfl
  rw [run_neq_struct, show (10000 : Nat) = 9999 + 1 from rfl, run_equalIn_agg w 9999 31 _ _ hS hp]
  simp only [Program.fieldsOf, Try.underlying31]
  go_simp
  by_cases h1 : a = c <;> by_cases h2 : b = d <;> simp [h1, h2]
theorem neqR31_same (w : World) (a b : Int) : (binOp .neq 31 (.agg #[.int .i64 a, .int .i64 b]) (.agg #[.int .i64 a, .int .i64 b])).run Try.prog w = .ok (.bool false) w := by
  rw [neqR31]; simp
theorem guardR31 (w : World) (op : BinOp) (x y : Operand) (xs ys : Array Value) : (eqGuard op 31 x y (.agg xs) (.agg ys)).run Try.prog w = .ok () w :=
  run_eqGuard_agg w op 31 x y xs ys (by kernel_rfl)
end Go.Proofs.Ytfjbancceodhhaa
