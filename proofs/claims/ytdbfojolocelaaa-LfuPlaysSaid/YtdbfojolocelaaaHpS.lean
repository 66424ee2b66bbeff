/- Slices of keys of a call's own. -/
import Derived.Test.YtdbfojolocelaaaHnS
namespace Go.Proofs.Ytdbfojolocelaaa
namespace HS
open Go.RowKit Ht Go.Maps Go.WideMaps

/-- A slice of keys of the call's own. -/
def Own (w : World) (base : Nat) (v : Value) (xs : List Key) : Prop := w.ownsRow base 9 1 v xs.length (xs.map fun k => (.string k : Value)) ∧ xs.length ≤ 2000 ∧ ∀ x ∈ xs, kok x
def RowPost (xs : List Key) (w : World) (e : Ending) (w' : World) : Prop := ∃ v, e = .returned v ∧ Own w' w.heap.size v xs ∧ Below w.heap.size w w'
theorem infoK : (Try.prog.info? 9).map (fun i => (i.zero, i.size, i.bytes)) = some (some (.string ⟨#[]⟩), 1, 16) := by kernel_rfl
theorem mkK (W : World) (m : Nat) (hm : m ≤ 2000) : (Instr.makeSlice 47 (.int .i64 (m : Int)) (.int .i64 (m : Int))).run Try.prog W = .ok (.slice (some ⟨W.heap.size, 0, none⟩) m m) (W.alloc (.cells (madeCells #[.string ⟨#[]⟩] m) 9)) := by
  obtain ⟨i0, hi, hz0, hz1, hz2⟩ := info_parts infoK
  have h := run_make (P := Try.prog) W 47 9 i0 (.string ⟨#[]⟩) Try.underlying47 hi hz0 .i64 .i64 m m (by omega) (by omega) (by rw [hz2]; omega) (by omega)
  rw [h, hz1, Int.toNat_natCast, Nat.mul_one]
  rfl

section
variable {w w' : World}
theorem Own.at {v : Value} {xs : List Key} {base : Nat} (o : Own w base v xs) {j : Nat} {x : Key} (hj : xs[j]? = some x) : ∃ g cap, v = .slice (some ⟨g, 0, none⟩) xs.length cap ∧ g < w.heap.size ∧ xs.length ≤ cap ∧ cap ≤ maxLen ∧ w.cell? ⟨g, j, none⟩ = some (.string x) := by
  have hjl : j < xs.length := (List.getElem?_eq_some_iff.1 hj).1
  rcases o.1.2 with ⟨_, h0⟩ | ⟨g, cap, arr, h1, _, h2, h4, h5, h3, h6⟩
  · omega
  · refine ⟨g, cap, h1, (Array.getElem?_eq_some_iff.1 h2).1, h4, h5, ?_⟩
    have := congrArg (fun l => l[j]?) h6
    simp only [List.getElem?_take, List.getElem?_map, hj] at this
    rw [if_pos (by omega), Array.getElem?_toList] at this
    rw [cell_of_row w _ _ _ _ _ h2]; exact this
theorem Own.len {v : Value} {xs : List Key} {base : Nat} (o : Own w base v xs) : ∃ a cap, v = .slice a xs.length cap := by
  rcases o.1.2 with ⟨h1, h0⟩ | ⟨g, cap, arr, h1, _⟩
  · exact ⟨none, 0, by rw [h1, h0]⟩
  · exact ⟨_, _, h1⟩
theorem Own.same {v : Value} {xs : List Key} {base : Nat} (o : Own w base v xs) (hs : ∀ g, v.ownBlock = some g → w'.heap[g]? = w.heap[g]?) : Own w' base v xs := by
  refine ⟨⟨o.1.1, ?_⟩, o.2⟩
  rcases o.1.2 with h1 | ⟨g, cap, arr, rfl, hb, h2, h3⟩
  · exact Or.inl h1
  · exact Or.inr ⟨g, cap, arr, rfl, hb, (hs g rfl).trans h2, h3⟩
theorem Own.lt {v : Value} {xs : List Key} {base g : Nat} (o : Own w base v xs) (hg : v.ownBlock = some g) : g < w.heap.size ∧ base ≤ g := by
  rcases o.1.2 with ⟨rfl, _⟩ | ⟨g', cap, arr, rfl, hb, h2, h3⟩
  · cases hg
  · cases hg; exact ⟨(Array.getElem?_eq_some_iff.1 h2).1, hb⟩
end
end HS
end Go.Proofs.Ytdbfojolocelaaa
