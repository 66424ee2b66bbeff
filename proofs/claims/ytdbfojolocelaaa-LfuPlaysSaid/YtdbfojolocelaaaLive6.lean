/- A cache of a walk's own, beside what was there; rows of keys, and steps, beside it; steps held against each other. -/
import Derived.Test.YtdbfojolocelaaaRs
import Derived.Laws.StructEq
namespace Go.Proofs.Ytdbfojolocelaaa
open Go.RowKit Ht HS Lf

def RetB (b : Bool) (w : World) (e : Ending) (w' : World) : Prop := e = .returned (.bool b) ∧ Below w.heap.size w w'
theorem below_drewN (w : World) (n : Nat) : Below w.heap.size w (w.drewN n) := ⟨rfl, rfl, rfl, Nat.le_refl _, fun _ _ => rfl⟩

/-- A cache that was made since w0; what was there then is as it was. -/
structure Live (w0 w : World) (c : Nat) (S : Nat → Prop) (mo : Nat) (ch : Bool) (L : List (Ent Key)) (n : Nat) : Prop where
  ca : Ca w c S mo ch L n
  bel : Below w0.heap.size w0 w
  low : ∀ k, S k → w0.heap.size ≤ k
/-- What a call may have turned. -/
structure Went (w w' : World) (S S' : Nat → Prop) : Prop where
  new : ∀ k, S' k → S k ∨ w.heap.size ≤ k
  turn : Turn S w w'
theorem Went.below {w w' : World} {S : Nat → Prop} (h : Below w.heap.size w w') : Went w w' S S := ⟨fun _ h => Or.inl h, Turn.of_below h⟩
/-- A slice of keys beside a cache. -/
def Mine (w : World) (S : Nat → Prop) (v : Value) (xs : List ByteArray) : Prop := ∃ g, Row w g v xs ∧ ¬ S g
section
variable {w0 w w' : World} {c mo n n' : Nat} {S S' : Nat → Prop} {ch : Bool} {L L' : List (Ent Key)} {xs : List ByteArray} {r v : Value} {e : Ending}
theorem Live.below (l : Live w0 w c S mo ch L n) (hb : Below w.heap.size w w') : Live w0 w' c S mo ch L n := ⟨l.ca.below hb, l.bel.trans (hb.mono l.bel.size), l.low⟩
theorem Live.made (hb0 : Below w0.heap.size w0 w) (hc : Ca w' c S mo ch L n) (hS : ∀ k, S k → w.heap.size ≤ k) (hb : Below w.heap.size w w') : Live w0 w' c S mo ch L n :=
  ⟨hc, hb0.trans (hb.mono hb0.size), fun k hk => Nat.le_trans hb0.size (hS k hk)⟩
theorem Live.op (l : Live w0 w c S mo ch L n) (hp : CaPost r w c S mo ch L' n' e w') : e = .returned r ∧ ∃ S', Live w0 w' c S' mo ch L' n' ∧ Went w w' S S' := by
  obtain ⟨he, S', h1, h2, h3⟩ := hp
  have hsz := l.bel.size
  exact ⟨he, S', ⟨h1, l.bel.trans (h3.below l.low hsz), fun k hk => by rcases h2 k hk with h | h; exact l.low k h; omega⟩, h2, h3⟩
theorem Row.lt {g : Nat} (h : Row w g v xs) (hx : xs ≠ []) : g < w.heap.size := by
  rcases h.2.2 with ⟨h, _⟩ | ⟨o, c, e, h1, _⟩
  · exact absurd h hx
  · exact h1
theorem Mine.of {base : Nat} (o : Own w base v xs) (hn : ∀ g, v.ownBlock = some g → ¬ S g) (hl : ∀ k, S k → k < w.heap.size) : Mine w S v xs := by
  by_cases hx : xs = []
  · subst hx
    obtain ⟨A, cc, rfl⟩ := o.len
    exact ⟨w.heap.size, Row.nil _ _ _ _, fun hk => by have := hl _ hk; omega⟩
  · obtain ⟨g, hg, hr⟩ := o.row
    refine ⟨g, hr, hn g ?_⟩
    rcases hr.2.2 with ⟨h, _⟩ | ⟨o, c, rfl, _⟩
    · exact absurd h hx
    · rfl
theorem Mine.made (o : Own w' w.heap.size v xs) (hc : Ca w c S mo ch L n) : Mine w' S v xs := by
  obtain ⟨g, hg, hr⟩ := o.row
  exact ⟨g, hr, fun hk => by have := hc.lt hk; omega⟩
theorem Mine.below (m : Mine w S v xs) (hb : Below w.heap.size w w') : Mine w' S v xs := by
  obtain ⟨g, hr, hn⟩ := m
  exact ⟨g, hr.below hb, hn⟩
theorem Mine.went (m : Mine w S v xs) (ht : Went w w' S S') (hl : ∀ k, S' k → k < w'.heap.size) : Mine w' S' v xs := by
  obtain ⟨g, hr, hn⟩ := m
  by_cases hx : xs = []
  · subst hx
    obtain ⟨A, cc, rfl⟩ := hr.shape
    exact ⟨w'.heap.size, Row.nil _ _ _ _, fun hk => by have := hl _ hk; omega⟩
  · have hlt := hr.lt hx
    refine ⟨g, hr.same ht.turn.size (fun _ => ht.turn.block g hlt hn), fun hk => ?_⟩
    rcases ht.new g hk with h | h
    · exact hn h
    · omega
theorem Mine.shape (m : Mine w S v xs) : ∃ A c, v = .slice A xs.length c := by
  obtain ⟨g, r, _⟩ := m
  exact r.shape
theorem Live.lt (l : Live w0 w c S mo ch L n) : ∀ k, S k → k < w.heap.size := fun _ hk => l.ca.lt hk
end

/-- Steps, each in a variable of its own beside a cache. -/
def Boxes (w : World) (S : Nat → Prop) (L : List (Nat × Bool × ByteArray × Bool)) : Prop := ∀ q ∈ L, Box w q.1 q.2.1 q.2.2.1 q.2.2.2 ∧ ¬ S q.1
theorem Boxes.went {w w' : World} {S S' : Nat → Prop} {L : List (Nat × Bool × ByteArray × Bool)} (h : Boxes w S L) (ht : Went w w' S S') : Boxes w' S' L := by
  intro q hq
  obtain ⟨h1, h2⟩ := h q hq
  refine ⟨(ht.turn.block _ h1.lt h2).trans h1, fun hk => ?_⟩
  rcases ht.new _ hk with h | h
  · exact h2 h
  · have := h1.lt; omega

section
variable (w : World) (a b a' b' : Bool) (s t : ByteArray)
theorem eq34 : (binOp .eql 34 (.agg #[.bool a, .string s, .bool b]) (.agg #[.bool a, .string s, .bool b])).run Try.prog w = .ok (.bool true) w := by
  have u1 := Try.underlying4
  have u3 := Try.underlying9
  have a1 := Try.isAgg4
  have a3 := Try.isAgg9
  have z1 := Try.sizeOf4
  have z3 := Try.sizeOf9
  have hS : Try.prog.underlying 34 = some (.struct (Try.prog.fieldsOf 34)) := by kernel_rfl
  have hp : Try.prog.stoodInHeld 34 = false := by kernel_rfl
  rw [run_eql_struct, show (10000 : Nat) = 9999 + 1 from rfl, run_equalIn_agg w 9999 34 _ _ hS hp]
  simp only [Program.fieldsOf, Try.underlying34]
  go_simp
theorem neq34 : (binOp .neq 34 (.agg #[.bool a, .string s, .bool b]) (.agg #[.bool a, .string s, .bool b])).run Try.prog w = .ok (.bool false) w := by
  have u1 := Try.underlying4
  have u3 := Try.underlying9
  have a1 := Try.isAgg4
  have a3 := Try.isAgg9
  have z1 := Try.sizeOf4
  have z3 := Try.sizeOf9
  have hS : Try.prog.underlying 34 = some (.struct (Try.prog.fieldsOf 34)) := by kernel_rfl
  have hp : Try.prog.stoodInHeld 34 = false := by kernel_rfl
  rw [run_neq_struct, show (10000 : Nat) = 9999 + 1 from rfl, run_equalIn_agg w 9999 34 _ _ hS hp]
  simp only [Program.fieldsOf, Try.underlying34]
  go_simp
theorem guard34 (op : BinOp) (x y : Operand) (xs ys : Array Value) : (eqGuard op 34 x y (.agg xs) (.agg ys)).run Try.prog w = .ok () w :=
  run_eqGuard_agg w op 34 x y xs ys (by kernel_rfl)
end
end Go.Proofs.Ytdbfojolocelaaa
