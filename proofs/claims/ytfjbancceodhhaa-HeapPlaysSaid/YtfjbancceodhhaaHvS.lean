/- A heap of a walk's own, beside what was there; rows of keys beside it. -/
import Derived.Test.YtfjbancceodhhaaHqS
namespace Go.Proofs.Ytfjbancceodhhaa
namespace HS
open Go.RowKit Ht Go.Maps Go.WideMaps

/-- A heap that was made since w0; what was there then is as it was. -/
structure Live (w0 w : World) (h : Nat) (S : Nat → Prop) (L : List (Ent Key)) (c : Nat) : Prop where
  hs : HS w h S L c
  bel : Below w0.heap.size w0 w
  low : ∀ k, S k → w0.heap.size ≤ k
/-- A slice of keys beside a heap. -/
def Mine (w : World) (S : Nat → Prop) (v : Value) (xs : List Key) : Prop := ∃ base, Own w base v xs ∧ ∀ g, v.ownBlock = some g → ¬ S g
section
variable {w0 w w' : World} {h c c' : Nat} {S S' : Nat → Prop} {L L' : List (Ent Key)} {r : Value} {e : Ending}
theorem Live.below (l : Live w0 w h S L c) (hb : Below w.heap.size w w') : Live w0 w' h S L c := ⟨l.hs.below hb, l.bel.trans (hb.mono l.bel.size), l.low⟩
theorem Live.made {h : Nat} (hb0 : Below w0.heap.size w0 w) (hs : HS w' h S L c) (hS : ∀ k, S k → w.heap.size ≤ k) (hb : Below w.heap.size w w') : Live w0 w' h S L c :=
  ⟨hs, hb0.trans (hb.mono hb0.size), fun k hk => Nat.le_trans hb0.size (hS k hk)⟩
theorem Live.op (l : Live w0 w h S L c) (hp : OpPost r w h S L' c' e w') : e = .returned r ∧ ∃ S', Live w0 w' h S' L' c' ∧ (∀ k, S' k → S k ∨ w.heap.size ≤ k) ∧ Turn S w w' := by
  obtain ⟨he, S', h1, h2, h3⟩ := hp
  have hsz := l.bel.size
  exact ⟨he, S', ⟨h1, l.bel.trans (h3.below l.low hsz), fun k hk => by rcases h2 k hk with h | h; exact l.low k h; omega⟩, h2, h3⟩
theorem Own.at {v : Value} {xs : List Key} {base : Nat} (o : Own w base v xs) {j : Nat} {x : Key} (hj : xs[j]? = some x) : ∃ g cap, v = .slice (some ⟨g, 0, none⟩) xs.length cap ∧ g < w.heap.size ∧ xs.length ≤ cap ∧ cap ≤ maxLen ∧ w.cell? ⟨g, j, none⟩ = some (.string x) := by
  have hjl : j < xs.length := (List.getElem?_eq_some_iff.1 hj).1
  rcases o.1.2 with ⟨_, h0⟩ | ⟨g, cap, arr, h1, _, h2, h4, h5, h3, h6⟩
  · omega
  · refine ⟨g, cap, h1, (Array.getElem?_eq_some_iff.1 h2).1, h4, h5, ?_⟩
    have := congrArg (fun l => l[j]?) h6
    simp only [List.getElem?_take, List.getElem?_map, hj] at this
    rw [if_pos (by omega), Array.getElem?_toList] at this
    rw [cell_of_row w _ _ _ _ _ h2]; exact this
theorem Own.len {v : Value} {xs : List Key} {base : Nat} (o : Own w base v xs) : ∃ a cap, v = .slice a xs.length cap := by
  rcases o.1.2 with ⟨h1, h0⟩ | ⟨g, cap, arr, h1, _⟩
  · exact ⟨none, 0, by rw [h1, h0]⟩
  · exact ⟨_, _, h1⟩
theorem Own.same {v : Value} {xs : List Key} {base : Nat} (o : Own w base v xs) (hs : ∀ g, v.ownBlock = some g → w'.heap[g]? = w.heap[g]?) : Own w' base v xs := by
  refine ⟨⟨o.1.1, ?_⟩, o.2⟩
  rcases o.1.2 with h1 | ⟨g, cap, arr, rfl, hb, h2, h3⟩
  · exact Or.inl h1
  · exact Or.inr ⟨g, cap, arr, rfl, hb, (hs g rfl).trans h2, h3⟩
theorem Own.lt {v : Value} {xs : List Key} {base g : Nat} (o : Own w base v xs) (hg : v.ownBlock = some g) : g < w.heap.size ∧ base ≤ g := by
  rcases o.1.2 with ⟨rfl, _⟩ | ⟨g', cap, arr, rfl, hb, h2, h3⟩
  · cases hg
  · cases hg; exact ⟨(Array.getElem?_eq_some_iff.1 h2).1, hb⟩
theorem Mine.of {v : Value} {xs : List Key} (o : Own w' w.heap.size v xs) (hs : HS w h S L c) : Mine w' S v xs := ⟨_, o, fun g hg hS => by have := hs.lt hS; have := (o.lt hg).2; omega⟩
theorem Mine.below {v : Value} {xs : List Key} (m : Mine w S v xs) (hb : Below w.heap.size w w') : Mine w' S v xs := by
  obtain ⟨base, o, hn⟩ := m
  exact ⟨base, o.same (fun g hg => hb.block g (o.lt hg).1), hn⟩
theorem Mine.turn {v : Value} {xs : List Key} (m : Mine w S v xs) (ht : Turn S w w') (hs : ∀ k, S' k → S k ∨ w.heap.size ≤ k) : Mine w' S' v xs := by
  obtain ⟨base, o, hn⟩ := m
  refine ⟨base, o.same (fun g hg => ht.block g (o.lt hg).1 (hn g hg)), fun g hg hS => ?_⟩
  rcases hs g hS with h | h
  · exact hn g hg h
  · have := (o.lt hg).1; omega
theorem Mine.at {v : Value} {xs : List Key} (m : Mine w S v xs) {j : Nat} {x : Key} (hj : xs[j]? = some x) : ∃ g cap, v = .slice (some ⟨g, 0, none⟩) xs.length cap ∧ g < w.heap.size ∧ ¬ S g ∧ xs.length ≤ cap ∧ cap ≤ maxLen ∧ w.cell? ⟨g, j, none⟩ = some (.string x) := by
  obtain ⟨base, o, hn⟩ := m
  obtain ⟨g, cap, rfl, h2, h3⟩ := o.at hj
  exact ⟨g, cap, rfl, h2, hn g rfl, h3⟩
theorem Mine.len {v : Value} {xs : List Key} (m : Mine w S v xs) : ∃ a cap, v = .slice a xs.length cap := by
  obtain ⟨base, o, hn⟩ := m
  exact o.len
theorem Mine.ok {v : Value} {xs : List Key} (m : Mine w S v xs) : ∀ x ∈ xs, kok x := by
  obtain ⟨base, o, hn⟩ := m
  exact o.2.2
end
end HS
end Go.Proofs.Ytfjbancceodhhaa
