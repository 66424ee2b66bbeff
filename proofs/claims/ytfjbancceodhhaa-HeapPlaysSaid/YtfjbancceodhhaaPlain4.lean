/- What the laws' walks over heaps share. -/
import Derived.Test.YtfjbancceodhhaaShapes4
namespace Go.Proofs.Ytfjbancceodhhaa
open Go.RowKit Ht HS

theorem eq_of_toList {a b : ByteArray} (h : a.toList = b.toList) : a = b := by
  rw [ByteArray.toList_eq, ByteArray.toList_eq] at h
  exact ByteArray.ext (Array.toList_inj.1 h)
/-- Strings told apart, as the walk spells it. -/
theorem beqS (a b : ByteArray) : (a.toList == b.toList) = decide (a = b) := by
  rw [Bool.eq_iff_iff]
  simp only [beq_iff_eq, decide_eq_true_eq]
  exact ⟨eq_of_toList, fun h => by rw [h]⟩
theorem beqS_no {a b : ByteArray} (h : a ≠ b) : (a.toList == b.toList) = false := by rw [beqS]; simpa using h
theorem beqS_yes {a b : ByteArray} (h : a = b) : (a.toList == b.toList) = true := by rw [beqS]; simpa using h

def keysOf {K : Type} (L : List (Ent K)) : List K := L.map (·.key)
theorem keys_rem {K : Type} [DecidableEq K] (L : List (Ent K)) (k : K) : keysOf (rem L k) = (keysOf L).filter fun x => decide (x ≠ k) := by
  unfold keysOf rem
  rw [List.filter_map]; rfl
theorem rem_len_le {K : Type} [DecidableEq K] (L : List (Ent K)) (k : K) : (rem L k).length ≤ L.length := List.length_filter_le _ _
theorem keys_len {K : Type} (L : List (Ent K)) : (keysOf L).length = L.length := List.length_map _
/-- A filtered row, place by place. -/
theorem filter_at {α : Type} (p : α → Bool) {xs : List α} {i : Nat} {x : α} (hi : xs[i]? = some x) (hp : p x = true) : (xs.filter p)[((xs.take i).filter p).length]? = some x ∧ ((xs.take (i + 1)).filter p).length = ((xs.take i).filter p).length + 1 := by
  have hl := (List.getElem?_eq_some_iff.1 hi).1
  have hx : xs[i] = x := (List.getElem?_eq_some_iff.1 hi).2
  have h1 : xs = xs.take i ++ x :: xs.drop (i + 1) := by rw [← hx, ← List.drop_eq_getElem_cons hl, List.take_append_drop]
  have h2 : xs.take (i + 1) = xs.take i ++ [x] := by rw [List.take_add_one, hi]; rfl
  refine ⟨?_, by rw [h2, List.filter_append]; simp [hp]⟩
  have h3 : xs.filter p = (xs.take i).filter p ++ x :: (xs.drop (i + 1)).filter p := by
    conv => lhs; rw [h1]
    rw [List.filter_append, List.filter_cons_of_pos hp]
  rw [h3, List.getElem?_append_right (Nat.le_refl _), Nat.sub_self]; rfl
theorem filter_skip {α : Type} (p : α → Bool) {xs : List α} {i : Nat} {x : α} (hi : xs[i]? = some x) (hp : p x = false) : ((xs.take (i + 1)).filter p).length = ((xs.take i).filter p).length := by
  have h2 : xs.take (i + 1) = xs.take i ++ [x] := by rw [List.take_add_one, hi]; rfl
  rw [h2, List.filter_append]; simp [hp]

/-- A heap filled by so many calls of Set. -/
def Fill (n h : Nat) (w0 : World) (g : Nat) (i : Value) (W : World) : Prop := ∃ (k : Nat) (S : Nat → Prop) (L : List (Ent Key)), g + k = n ∧ i = .int .i64 (k : Int) ∧ L.length ≤ k ∧ Live w0 W h S L k
theorem Fill.step {h k : Nat} {w0 wr wr' w' : World} {S : Nat → Prop} {L : List (Ent Key)} {key : Key} {r1 r2 : Int} {e : Ending} (hL : L.length ≤ k) (hl : Live w0 wr h S L k) (hb : Below wr.heap.size wr wr') (hp : OpPost (.tuple #[]) wr' h S (ins ⟨key, r1, r2, k + 1⟩ (rem L key)) (k + 1) e w') :
    e = .returned (.tuple #[]) ∧ ∃ S' L', Live w0 w' h S' L' (k + 1) ∧ L' = ins ⟨key, r1, r2, k + 1⟩ (rem L key) ∧ L'.length ≤ k + 1 := by
  obtain ⟨he, S', h1, _, _⟩ := (hl.below hb).op hp
  refine ⟨he, S', _, h1, rfl, ?_⟩
  have := rem_len_le L key
  rw [ins_len]; omega
theorem rankV_is (o : Option (Ent Key)) : rankV o = .tuple #[.agg #[.int .i64 ((o.map (·.one)).getD 0), .int .i64 ((o.map (·.two)).getD 0)], .bool o.isSome] := by cases o <;> rfl
theorem find_rem {K : Type} [DecidableEq K] (L : List (Ent K)) (k : K) : find (rem L k) k = none := by
  cases h : find (rem L k) k with
  | none => rfl
  | some e => exact absurd (find_some h).2 (mem_rem.1 (find_some h).1).2
theorem rem_rem {K : Type} [DecidableEq K] (L : List (Ent K)) (k : K) : rem (rem L k) k = rem L k := rem_none fun _ he => (mem_rem.1 he).2
theorem below_drew (w : World) : Below w.heap.size w w.drew := ⟨rfl, rfl, rfl, Nat.le_refl _, fun _ _ => rfl⟩
end Go.Proofs.Ytfjbancceodhhaa
