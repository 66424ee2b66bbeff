/- Rows of strings as a law has them, and the contracts of the reference's Has, Remove, Front, Back, Last, Pop, Same. -/
import Derived.Test.YtlmbeiijijkjeaaKeys
import Derived.Deep.QuietTactic
import Derived.BigQuiet
namespace Go.Proofs.Ytlmbeiijijkjeaa
open Go.RowKit Sg

/-- A slice of strings that reads as a list; its cells lie in block g. -/
def Row (w : World) (g : Nat) (v : Value) (xs : List ByteArray) : Prop :=
  xs.length ≤ 2000 ∧ (∀ x ∈ xs, x.size ≤ maxLen) ∧
  ((xs = [] ∧ ∃ A c, v = .slice A 0 c) ∨
   ∃ o c, v = .slice (some ⟨g, o, none⟩) xs.length c ∧ g < w.heap.size ∧ xs.length ≤ c ∧ c ≤ maxLen ∧ ∀ j, j < xs.length → w.cell? ⟨g, o + j, none⟩ = some (.string (xs.getD j ⟨#[]⟩)))
theorem Row.shape {w : World} {g : Nat} {v : Value} {xs : List ByteArray} (h : Row w g v xs) : ∃ A c, v = .slice A xs.length c := by
  rcases h.2.2 with ⟨rfl, A, c, e⟩ | ⟨o, c, e, _⟩
  · exact ⟨A, c, e⟩
  · exact ⟨_, c, e⟩
theorem Row.same {w w' : World} {g : Nat} {v : Value} {xs : List ByteArray} (h : Row w g v xs) (hs : w.heap.size ≤ w'.heap.size) (hb : g < w.heap.size → w'.heap[g]? = w.heap[g]?) : Row w' g v xs := by
  refine ⟨h.1, h.2.1, ?_⟩
  rcases h.2.2 with h1 | ⟨o, c, e, h1, h2, h3, h4⟩
  · exact Or.inl h1
  · exact Or.inr ⟨o, c, e, by omega, h2, h3, fun j hj => (World.cell?_of_block (a := ⟨g, o + j, none⟩) (hb h1)).trans (h4 j hj)⟩
theorem Row.nil (w : World) (g : Nat) (A : Option Addr) (c : Nat) : Row w g (.slice A 0 c) [] := ⟨by simp, by simp, Or.inl ⟨rfl, A, c, rfl⟩⟩
theorem Row.below {w w' : World} {g : Nat} {v : Value} {xs : List ByteArray} (h : Row w g v xs) (hb : Below w.heap.size w w') : Row w' g v xs := h.same hb.size fun hg => hb.block g hg
/-- What the call has made is such a row. -/
theorem Own.row {w : World} {base : Nat} {v : Value} {xs : List ByteArray} (h : Own w base v xs) : ∃ g, base ≤ g ∧ Row w g v xs := by
  obtain ⟨h1, h2, h3⟩ := h
  have h1' := h1
  rcases h1.2 with ⟨rfl, h0⟩ | ⟨g, cap, cur, rfl, hb, hg, hn, hm, hs, ht⟩
  · obtain rfl : xs = [] := List.eq_nil_of_length_eq_zero h0
    exact ⟨base, Nat.le_refl _, Row.nil _ _ _ _⟩
  · refine ⟨g, hb, h2, h3, Or.inr ⟨0, cap, rfl, (Array.getElem?_eq_some_iff.1 hg).1, hn, hm, fun j hj => ?_⟩⟩
    have := h1'.cells (g := g) rfl j (.string (xs.getD j ⟨#[]⟩)) (by rw [List.getElem?_map, List.getElem?_eq_getElem hj, List.getD_eq_getElem?_getD, List.getElem?_eq_getElem hj]; rfl)
    rw [show (⟨g, 0, none⟩ : Addr).add j = ⟨g, 0 + j, none⟩ by unfold Addr.add; split <;> simp_all] at this
    exact this

theorem eq_of_toList {a b : ByteArray} (h : a.toList = b.toList) : a = b := by
  rw [ByteArray.toList_eq, ByteArray.toList_eq] at h
  exact ByteArray.ext (Array.toList_inj.1 h)
/-- Strings told apart, as the walk spells it. -/
theorem beqS (a b : ByteArray) : (a.toList == b.toList) = decide (a = b) := by
  rw [Bool.eq_iff_iff]
  simp only [beq_iff_eq, decide_eq_true_eq]
  exact ⟨eq_of_toList, fun h => by rw [h]⟩
theorem beqS_no {a b : ByteArray} (h : a ≠ b) : (a.toList == b.toList) = false := by rw [beqS]; simpa using h
theorem beqS_yes {a b : ByteArray} (h : a = b) : (a.toList == b.toList) = true := by rw [beqS]; simpa using h

def HasRel (xs : List ByteArray) (key : ByteArray) (i : Value) : Prop := ∃ k : Nat, i = .int .i64 (k : Int) ∧ k ≤ xs.length ∧ inn (xs.take k) key = false
theorem take_snoc {α : Type} (xs : List α) (k : Nat) (d : α) (h : k < xs.length) : xs.take (k + 1) = xs.take k ++ [xs.getD k d] := by
  rw [List.take_succ_eq_append_getElem h, List.getD_eq_getElem?_getD, List.getElem?_eq_getElem h]; rfl
theorem inn_snoc (xs : List ByteArray) (x key : ByteArray) : inn (xs ++ [x]) key = (inn xs key || decide (x = key)) := by simp [inn]

/-- The cell at an index of a row that is not empty. -/
theorem Row.at {w : World} {g : Nat} {A : Option Addr} {n c : Nat} {xs : List ByteArray} (h : Row w g (.slice A n c) xs) {k : Nat} (hk : k < xs.length) :
    ∃ o, A = some ⟨g, o, none⟩ ∧ g < w.heap.size ∧ w.cell? ⟨g, o + k, none⟩ = some (.string (xs.getD k ⟨#[]⟩)) ∧ xs.length ≤ c ∧ c ≤ maxLen := by
  rcases h.2.2 with ⟨rfl, _⟩ | ⟨o, c', e, h1, h2, h3, h4⟩
  · simp at hk
  · injection e with e1 e2 e3
    subst e3
    exact ⟨o, e1, h1, h4 k hk, h2, h3⟩

set_option maxHeartbeats 1000000 in
theorem refHas_any (w : World) (g : Nat) (v : Value) (xs : List ByteArray) (key : ByteArray) (h : Row w g v xs) :
    Calls Try.prog 20 #[v, .string key] w (BoolPost (inn xs key) w) := by
  obtain ⟨A, c, rfl⟩ := h.shape
  have hl := h.1
  have HH := Lib.hid h; clear h
  go_enter Try.func20, Try.ntmps20
  go_wp2_with fail
  go_loop [5] (fun i => HasRel xs key i) (fun i => xs.length - (intOf i).toNat)
  case atStart => exact ⟨0, rfl, Nat.zero_le _, by simp [inn]⟩
  case round =>
    obtain ⟨k, rfl, hk, hno⟩ := hrel
    have HNO := Lib.hid hno
    clear hno
    by_cases hlt : k < xs.length
    · have e0 : decide (k < xs.length) = true := by simpa using hlt
      obtain ⟨o, rfl, hg, hc, hc1, hc2⟩ := HH.out.at hlt
      unfold maxLen at hc2
      have hsn := inn_snoc (xs.take k) (xs.getD k ⟨#[]⟩) key
      rw [← take_snoc xs k ⟨#[]⟩ hlt, HNO.out, Bool.false_or] at hsn
      have hmem : xs.getD k ⟨#[]⟩ ∈ xs := by rw [List.getD_eq_getElem?_getD, List.getElem?_eq_getElem hlt]; exact List.getElem_mem hlt
      generalize xs.getD k ⟨#[]⟩ = x at hc hsn hmem
      by_cases hx : x = key
      · have e1 := beqS_yes hx
        have HI := Lib.hid (show inn xs key = true from inn_iff.2 (hx ▸ hmem))
        clear hsn hx hmem
        go_wp2_with fail
        go_ret
        exact ⟨ret_bool HI.out.symm, rfl⟩
      · have e1 := beqS_no hx
        rw [decide_eq_false hx] at hsn
        have HS := Lib.hid hsn
        clear hsn hx hmem
        go_wp2_with fail
        go_round
        case rel => exact ⟨k + 1, by go_num, by omega, HS.out⟩
        case measure => simp [intOf]; omega
    · have e0 : decide (k < xs.length) = false := by simpa using hlt
      have HI := Lib.hid (show inn xs key = false by have := HNO.out; rw [List.take_of_length_le (by omega)] at this; exact this)
      go_wp2_with fail
      go_ret
      exact ⟨ret_bool HI.out.symm, rfl⟩
end Go.Proofs.Ytlmbeiijijkjeaa
