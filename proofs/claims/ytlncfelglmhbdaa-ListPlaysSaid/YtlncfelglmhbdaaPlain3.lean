/- What the laws' walks over lists share: rows beside a list, and lengths. -/
import Derived.Test.YtlncfelglmhbdaaShapes3
import Derived.Test.YtlncfelglmhbdaaSeen
namespace Go.Proofs.Ytlncfelglmhbdaa
open Go.RowKit Sg

theorem rem_len {xs : List ByteArray} {k : ByteArray} (h : xs.Nodup) (hk : k ∈ xs) : (rem xs k).length + 1 = xs.length := by
  obtain ⟨ps, qs, rfl⟩ := List.append_of_mem hk
  have h1 := List.nodup_append.1 h
  have h2 := List.nodup_cons.1 h1.2.1
  have e1 : rem ps k = ps := rem_none (fun hx => h1.2.2 k hx k (by simp) rfl)
  have e2 : rem qs k = qs := rem_none h2.1
  have e3 : rem (ps ++ k :: qs) k = rem ps k ++ rem qs k := by
    unfold rem
    rw [List.filter_append, List.filter_cons_of_neg (by simp)]
  rw [e3, e1, e2]
  simp only [List.length_append, List.length_cons]; omega
theorem len_rem {xs : List ByteArray} (k : ByteArray) (h : xs.Nodup) : xs.length ≤ (rem xs k).length + 1 := by
  by_cases hk : k ∈ xs
  · rw [rem_len h hk]; exact Nat.le_refl _
  · rw [rem_none hk]; omega
theorem rem_rem (xs : List ByteArray) (k : ByteArray) : rem (rem xs k) k = rem xs k := rem_none rem_not
theorem rem_front (xs : List ByteArray) (k : ByteArray) : rem (k :: rem xs k) k = rem xs k := by
  have : rem (k :: rem xs k) k = rem (rem xs k) k := by
    unfold rem
    rw [List.filter_cons_of_neg (by simp)]
  rw [this, rem_rem]
theorem rem_back (xs : List ByteArray) (k : ByteArray) : rem (rem xs k ++ [k]) k = rem xs k := by
  rw [rem_snoc, if_pos rfl, rem_rem]

/-- A row beside a list: its block is none of the list's. -/
def Mine (w : World) (l M P : Nat) (v : Value) (xs : List ByteArray) : Prop := ∃ g, Row w g v xs ∧ g ≠ l ∧ g ≠ M ∧ g ≠ P
theorem Mine.next {w w' : World} {l M P P' : Nat} {v : Value} {xs : List ByteArray} (h : Mine w l M P v xs) (hP : P' = P ∨ w.heap.size ≤ P') (ht : Turned w w' l M P) : Mine w' l M P' v xs := by
  obtain ⟨g, h1, h2, h3, h4⟩ := h
  by_cases hg : g < w.heap.size
  · exact ⟨g, h1.same ht.size (fun hg => ht.block g hg h2 h3 h4), h2, h3, by rcases hP with rfl | hP <;> omega⟩
  · rcases h1.2.2 with ⟨rfl, A, c, rfl⟩ | ⟨o, c, e, h5, _⟩
    · exact ⟨l + M + P' + 1, Row.nil _ _ _ _, by omega, by omega, by omega⟩
    · omega
theorem Mine.below {w w' : World} {l M P : Nat} {v : Value} {xs : List ByteArray} (h : Mine w l M P v xs) (hb : Below w.heap.size w w') : Mine w' l M P v xs := by
  obtain ⟨g, h1, h2⟩ := h
  exact ⟨g, h1.below hb, h2⟩
theorem Mine.nil (w : World) (l M P : Nat) (A : Option Addr) (c : Nat) : Mine w l M P (.slice A 0 c) [] := ⟨l + M + P + 1, Row.nil _ _ _ _, by omega, by omega, by omega⟩
/-- What was made behind the list. -/
theorem Own.mine {w w' : World} {l M P m : Nat} {v : Value} {xs ys : List ByteArray} (h : Own w' w.heap.size v xs) (hL : Lst w l M P ys m) : Mine w' l M P v xs := by
  obtain ⟨g, h1, h2⟩ := h.row
  have := hL.llt
  exact ⟨g, h2, by omega, by omega, by omega⟩

theorem Lst.eq {w : World} {l M P m m' : Nat} {xs xs' : List ByteArray} (h : Lst w l M P xs m) (hx : xs = xs') (hm : m = m') : Lst w l M P xs' m' := by subst hx; subst hm; exact h
theorem max_front {xs : List ByteArray} {k : ByteArray} (h : xs.Nodup) : max xs.length ((rem xs k).length + 1) = (k :: rem xs k).length := by
  have := len_rem k h
  rw [List.length_cons]; omega
theorem max_back {xs : List ByteArray} {k : ByteArray} (h : xs.Nodup) : max xs.length ((rem xs k).length + 1) = (rem xs k ++ [k]).length := by
  have := len_rem k h
  rw [List.length_append, List.length_cons, List.length_nil]; omega

/-- A list without a place to spare, filled by so many calls. -/
def Fill (n l M : Nat) (w0 : World) (i : Value) (W : World) : Prop := ∃ (k P : Nat) (xs : List ByteArray), i = .int .i64 (k : Int) ∧ k ≤ n ∧ xs.length ≤ k ∧ Lst W l M P xs xs.length ∧ Kept w0 W l M P
theorem Fill.front {n l M P k : Nat} {w0 w1 w2 : World} {xs : List ByteArray} {s : ByteArray} {v : Value} {e : Ending} (hk : k < n) (hx : xs.length ≤ k) (hL : Lst w1 l M P xs xs.length) (hK : Kept w0 w1 l M P) (h : OpPost v w1 l M P (s :: rem xs s) (max xs.length ((rem xs s).length + 1)) e w2) :
    Fill n l M w0 (.int .i64 ((k + 1 : Nat) : Int)) w2 := by
  obtain ⟨P', _, hP, hL2, hT⟩ := h
  have := rem_le xs s
  exact ⟨k + 1, P', _, rfl, by omega, by rw [List.length_cons]; omega, hL2.eq rfl (max_front hL.nodup), hK.next hP hT⟩
theorem Fill.back {n l M P k : Nat} {w0 w1 w2 : World} {xs : List ByteArray} {s : ByteArray} {v : Value} {e : Ending} (hk : k < n) (hx : xs.length ≤ k) (hL : Lst w1 l M P xs xs.length) (hK : Kept w0 w1 l M P) (h : OpPost v w1 l M P (rem xs s ++ [s]) (max xs.length ((rem xs s).length + 1)) e w2) :
    Fill n l M w0 (.int .i64 ((k + 1 : Nat) : Int)) w2 := by
  obtain ⟨P', _, hP, hL2, hT⟩ := h
  have := rem_le xs s
  exact ⟨k + 1, P', _, rfl, by omega, by rw [List.length_append, List.length_cons, List.length_nil]; omega, hL2.eq rfl (max_back hL.nodup), hK.next hP hT⟩
theorem OpPost.val {v : Value} {w : World} {l M P : Nat} {xs : List ByteArray} {m : Nat} {e : Ending} {w' : World} (h : OpPost v w l M P xs m e w') : e = .returned v := by obtain ⟨_, h, _⟩ := h; exact h
end Go.Proofs.Ytlncfelglmhbdaa
