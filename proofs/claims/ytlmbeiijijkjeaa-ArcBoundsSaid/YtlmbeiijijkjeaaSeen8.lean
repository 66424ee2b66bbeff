/- A map from strings to bools that a law makes, and stores true into: told by the list of its keys (round 3). -/
import Derived.Test.YtlmbeiijijkjeaaWn
namespace Go.Proofs.Ytlmbeiijijkjeaa
open Go.RowKit Go.Maps Go.WideMaps

theorem zeroB (w : World) : (zeroValue 4).run Try.prog w = .ok (.bool false) w := by kernel_rfl
theorem plainElem_bool_inv {H : Type} {P : Program} {e : TypeId} (he : P.underlying e = some .bool) {v : Value} {z : DataW H × List MemPlace} (h : plainElem P e v = some z) : ∃ a, v = .bool a ∧ z = (.lit (.bool a), []) := by
  unfold plainElem at h
  rw [he] at h
  cases v <;> simp at h
  subst h
  exact ⟨_, rfl, rfl⟩

/-- Block b is the set of the keys of S. -/
def Seen (w : World) (b : Nat) (S : List ByteArray) : Prop := ∃ D : DataW Unit, w.ownsMap Try.prog 9 (plainElem Try.prog 4) b S.length D ∧ Maps.size D = S.length ∧
  ∀ s : ByteArray, Maps.has D (.string s.data.toList) = inn S s ∧ D.atKey (.string s.data.toList) (.lit (.bool false)) = .lit (.bool (inn S s))
/-- The set with one key more. -/
def add (S : List ByteArray) (s : ByteArray) : List ByteArray := if inn S s then S else S ++ [s]
theorem inn_add (S : List ByteArray) (s t : ByteArray) : inn (add S s) t = (inn S t || decide (s = t)) := by
  unfold add
  split
  · rename_i h
    by_cases e : s = t
    · subst e; simp [h]
    · simp [e]
  · rw [inn_snoc]
theorem mem_add {S : List ByteArray} {s t : ByteArray} : t ∈ add S s ↔ t ∈ S ∨ t = s := by
  rw [← inn_iff, inn_add, Bool.or_eq_true, inn_iff, decide_eq_true_eq]
  exact ⟨fun h => h.imp id Eq.symm, fun h => h.imp id Eq.symm⟩
theorem add_nodup {S : List ByteArray} {s : ByteArray} (h : S.Nodup) : (add S s).Nodup := by
  unfold add
  split
  · exact h
  · rename_i hs
    have hs' : s ∉ S := inn_no.1 (by simpa using hs)
    refine List.nodup_append.2 ⟨h, by simp, fun x hx y hy e => ?_⟩
    rw [List.mem_singleton.1 hy] at e
    exact hs' (e ▸ hx)
theorem add_in {S : List ByteArray} {s : ByteArray} (h : s ∈ S) : add S s = S := by unfold add; rw [if_pos (inn_iff.2 h)]
theorem add_len {S : List ByteArray} {s : ByteArray} (h : s ∉ S) : (add S s).length = S.length + 1 := by unfold add; rw [if_neg (by rw [inn_no.2 h]; simp)]; simp
theorem add_le (S : List ByteArray) (s : ByteArray) : S.length ≤ (add S s).length ∧ (add S s).length ≤ S.length + 1 := by
  unfold add; split <;> simp

section
variable {w : World} {b : Nat} {S : List ByteArray}
theorem Seen.made (w : World) : Seen (w.alloc (.map #[] 0)) w.heap.size [] := ⟨.map [], World.ownsMap_made w _ _ _, rfl, fun _ => ⟨rfl, rfl⟩⟩
theorem Seen.lt (h : Seen w b S) : b < w.heap.size := by
  obtain ⟨D, h1, _⟩ := h
  exact h1.lt
theorem Seen.same {w' : World} (h : Seen w b S) (hs : w'.heap[b]? = w.heap[b]?) : Seen w' b S := by
  obtain ⟨D, h1, h2⟩ := h
  exact ⟨D, owns_same h1 hs, h2⟩
theorem Seen.look (h : Seen w b S) {s : ByteArray} (hs : s.size ≤ maxLen) : (Instr.lookup 38 (.map (some b)) (.string s) false).run Try.prog w = .ok (.bool (inn S s)) w := by
  obtain ⟨D, h1, _, h3⟩ := h
  obtain ⟨v, ps, hrun, hv⟩ := h1.lookup lawS Try.underlying38 (zeroB w) (plainElem_bool Try.underlying4 false) (keyOf_string_mk Try.underlying9 hs)
  obtain ⟨c, rfl, hc⟩ := plainElem_bool_inv Try.underlying4 hv
  have hc := congrArg Prod.fst hc
  simp only [(h3 s).2] at hc
  injection hc with hc
  injection hc with hc
  rw [hrun, hc]
theorem Seen.len (h : Seen w b S) (ty : TypeId) : (Builtin.len_ #[38] ty #[.map (some b)]).run Try.prog w = .ok (.int .i64 (S.length : Int)) w := by
  obtain ⟨D, h1, h2, _⟩ := h
  rw [h1.len Try.underlying38 ty, h2]
theorem Seen.store (h : Seen w b S) {s : ByteArray} (hs : s.size ≤ maxLen) (hn : S.length ≤ 1000000) :
    ∃ w', (Instr.mapUpdate 38 (.map (some b)) (.string s) (.bool true)).run Try.prog w = .ok () w' ∧ Seen w' b (add S s) ∧ w.grownBy w' (some b) := by
  obtain ⟨D, h1, h2, h3⟩ := h
  obtain ⟨w', hrun, hown, hg⟩ := h1.update lawS Try.underlying38 (by unfold maxLen; omega) (keyOf_string_mk Try.underlying9 hs) (plainElem_bool Try.underlying4 true)
  have hk : WideAt.IsKeyLit (.string s.data.toList) := trivial
  have hsz : Maps.size (D.put (.string s.data.toList) (.lit (.bool true))) = (add S s).length := by
    rw [size_put (h1.tidy lawS), (h3 s).1, h2]
    unfold add
    split <;> simp
  refine ⟨w', hrun, ⟨_, hsz ▸ owns_size hown, hsz, fun t => ?_⟩, hg⟩
  rw [inn_add]
  by_cases e : t = s
  · subst e
    rw [has_put_same h1.isMap hk, atKey_put_same h1.isMap hk]
    simp
  · rw [has_put_other (str_ne e), atKey_put_other (str_ne e), decide_eq_false (fun h => e h.symm), Bool.or_false]
    exact h3 t
end
end Go.Proofs.Ytlmbeiijijkjeaa
