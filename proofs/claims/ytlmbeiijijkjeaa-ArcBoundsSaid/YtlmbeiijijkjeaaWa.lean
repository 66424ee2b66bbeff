/- A list by the set of its blocks, with its calls. -/
import Derived.Test.YtlmbeiijijkjeaaTn
namespace Go.Proofs.Ytlmbeiijijkjeaa
open Go.RowKit Sg

/-- What a call may have turned. -/
structure Went (w w' : World) (S S' : Nat → Prop) : Prop where
  new : ∀ k, S' k → S k ∨ w.heap.size ≤ k
  turn : Turn S w w'
section
variable {w w1 w2 w' : World} {S S1 S2 S' : Nat → Prop}
theorem Went.refl (w : World) (S : Nat → Prop) : Went w w S S := ⟨fun _ h => Or.inl h, Turn.refl _ _⟩
theorem Went.trans (h : Went w w1 S S1) (k : Went w1 w2 S1 S2) : Went w w2 S S2 := by
  have hs := h.turn.size
  refine ⟨fun i hi => ?_, h.turn.trans k.turn (fun i hi hS => ?_)⟩
  · rcases k.new i hi with h1 | h1
    · exact h.new i h1
    · exact Or.inr (by omega)
  · rcases h.new i hS with h1 | h1
    · exact h1
    · omega
theorem Went.below (h : Below w.heap.size w w') : Went w w' S S := ⟨fun _ h => Or.inl h, Turn.of_below h⟩
theorem Went.same (h : Turn S w w') : Went w w' S S := ⟨fun _ h => Or.inl h, h⟩
end

/-! A list by the set of its blocks. -/
def three (l M P : Nat) : Nat → Prop := fun k => k = l ∨ k = M ∨ k = P
def LS (w : World) (l : Nat) (S : Nat → Prop) (xs : List ByteArray) (b : Nat) : Prop := ∃ M P m, S = three l M P ∧ m ≤ b ∧ Lst w l M P xs m
/-- What a call that turns a list leaves. -/
def LPost (v : Value) (w : World) (l : Nat) (S : Nat → Prop) (xs : List ByteArray) (b : Nat) (e : Ending) (w' : World) : Prop :=
  e = .returned v ∧ ∃ S', LS w' l S' xs b ∧ Went w w' S S'
section
variable {w w' : World} {l b b' : Nat} {S S2 : Nat → Prop} {xs : List ByteArray} {v : Value} {e : Ending}
theorem LS.lt (h : LS w l S xs b) {k : Nat} (hk : S k) : k < w.heap.size := by
  obtain ⟨M, P, m, rfl, _, hL⟩ := h
  have := hL.llt
  rcases hk with h | h | h <;> omega
theorem LS.kept (h : LS w l S xs b) (hs : w.heap.size ≤ w'.heap.size) (hb : ∀ k, S k → w'.heap[k]? = w.heap[k]?) : LS w' l S xs b := by
  obtain ⟨M, P, m, rfl, hm, hL⟩ := h
  exact ⟨M, P, m, rfl, hm, hL.same hs (hb _ (Or.inl rfl)) (hb _ (Or.inr (Or.inl rfl))) (hb _ (Or.inr (Or.inr rfl)))⟩
theorem LS.mono (h : LS w l S xs b) (hb : b ≤ b') : LS w l S xs b' := by
  obtain ⟨M, P, m, h1, hm, hL⟩ := h
  exact ⟨M, P, m, h1, by omega, hL⟩
theorem LS.nodup (h : LS w l S xs b) : xs.Nodup := by obtain ⟨M, P, m, h1, hm, hL⟩ := h; exact hL.nodup
theorem LS.small (h : LS w l S xs b) : ∀ x ∈ xs, x.size ≤ maxLen := by obtain ⟨M, P, m, h1, hm, hL⟩ := h; exact hL.small
theorem LS.len (h : LS w l S xs b) : xs.length ≤ b ∧ xs.length ≤ 999 := by
  obtain ⟨M, P, m, h1, hm, hL⟩ := h
  have := hL.le
  omega
theorem OpPost.lpost {M P m : Nat} (h : OpPost v w l M P xs m e w') (hm : m ≤ b) : LPost v w l (three l M P) xs b e w' := by
  obtain ⟨P', he, hP, hL, hT⟩ := h
  refine ⟨he, three l M P', ⟨M, P', m, rfl, hm, hL⟩, fun k hk => ?_, ⟨hT.os, hT.tape, hT.output, hT.size, fun k hk hn => hT.block k hk (fun e => hn (Or.inl e)) (fun e => hn (Or.inr (Or.inl e))) (fun e => hn (Or.inr (Or.inr e)))⟩⟩
  rcases hk with h | h | h
  · exact Or.inl (Or.inl h)
  · exact Or.inl (Or.inr (Or.inl h))
  · subst h
    rcases hP with h | h
    · exact Or.inl (Or.inr (Or.inr h))
    · exact Or.inr h
end
section
variable (w : World) (l : Nat) (S : Nat → Prop) (xs : List ByteArray) (b : Nat) (h : LS w l S xs b)
include h
theorem ls_len : Calls Try.prog 47 #[.pointer (some ⟨l, 0, none⟩)] w (IntPost (xs.length : Int) w) := by
  obtain ⟨M, P, m, rfl, hm, hL⟩ := h
  exact len_any w l M P xs m hL
theorem ls_has (key : ByteArray) (hs : key.size ≤ maxLen) : Calls Try.prog 27 #[.pointer (some ⟨l, 0, none⟩), .string key] w (BoolPost (inn xs key) w) := by
  obtain ⟨M, P, m, rfl, hm, hL⟩ := h
  exact has_any w l M P xs m key hL hs
theorem ls_last : Calls Try.prog 46 #[.pointer (some ⟨l, 0, none⟩)] w (KeyPost (lastKey xs) (anyKey xs) w) := by
  obtain ⟨M, P, m, rfl, hm, hL⟩ := h
  exact last_any w l M P xs m hL
theorem ls_keys : Calls Try.prog 37 #[.pointer (some ⟨l, 0, none⟩)] w (RowPost xs w) := by
  obtain ⟨M, P, m, rfl, hm, hL⟩ := h
  exact keys_any w l M P xs m hL
theorem ls_front (key : ByteArray) (b' : Nat) (hs : key.size ≤ maxLen) (hb : b ≤ 990) (h1 : b ≤ b') (h2 : (rem xs key).length + 1 ≤ b') :
    Calls Try.prog 40 #[.pointer (some ⟨l, 0, none⟩), .string key] w (LPost (.tuple #[]) w l S (key :: rem xs key) b') := by
  obtain ⟨M, P, m, rfl, hm, hL⟩ := h
  exact (front_any w l M P xs m key hL hs (by omega)).mono fun e w' hp => hp.lpost (by omega)
theorem ls_front_new (key : ByteArray) (b' : Nat) (hk : key ∉ xs) (hs : key.size ≤ maxLen) (hb : b ≤ 990) (h1 : b ≤ b') (h2 : xs.length + 1 ≤ b') :
    Calls Try.prog 40 #[.pointer (some ⟨l, 0, none⟩), .string key] w (LPost (.tuple #[]) w l S (key :: xs) b') := by
  have := ls_front w l S xs b h key b' hs hb h1 (by rw [rem_none hk]; exact h2)
  rw [rem_none hk] at this
  exact this
theorem ls_remove (key : ByteArray) (hs : key.size ≤ maxLen) :
    Calls Try.prog 32 #[.pointer (some ⟨l, 0, none⟩), .string key] w (LPost (.bool (inn xs key)) w l S (rem xs key) b) := by
  obtain ⟨M, P, m, rfl, hm, hL⟩ := h
  exact (remove_any w l M P xs m key hL hs).mono fun e w' hp => hp.lpost hm
theorem ls_pop : Calls Try.prog 35 #[.pointer (some ⟨l, 0, none⟩)] w (LPost (.tuple #[.string (lastKey xs), .bool (anyKey xs)]) w l S xs.dropLast b) := by
  obtain ⟨M, P, m, rfl, hm, hL⟩ := h
  exact (pop_any w l M P xs m hL).mono fun e w' hp => hp.lpost hm
end
/-- A new list in memory of its own. -/
def NewL (w : World) (e : Ending) (w' : World) : Prop := ∃ l S, e = .returned (.pointer (some ⟨l, 0, none⟩)) ∧ (∀ k, S k → w.heap.size ≤ k) ∧ LS w' l S [] 0 ∧ Below w.heap.size w w'
theorem ls_new (w : World) : Calls Try.prog 24 #[] w (NewL w) := by
  refine (new_any w).mono ?_
  rintro e w' ⟨l, M, P, rfl, hl, hM, hP, hL, hB⟩
  refine ⟨l, three l M P, rfl, fun k hk => ?_, ⟨M, P, 0, rfl, Nat.le_refl _, hL⟩, hB⟩
  rcases hk with h | h | h <;> omega

end Go.Proofs.Ytlmbeiijijkjeaa
