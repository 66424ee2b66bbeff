/- Rows of strings as a law has them, and the contracts of the reference's Has and Same. -/
import Derived.Test.YtdbfojolocelaaaFe
import Derived.Deep.QuietTactic
import Derived.BigQuiet
import Derived.Deep.Draws
namespace Go.Proofs.Ytdbfojolocelaaa
open Go.RowKit Ht HS Lf

/-- Is the key in the row? -/
def inn (xs : List ByteArray) (s : ByteArray) : Bool := xs.any fun x => decide (x = s)
theorem inn_iff {xs : List ByteArray} {s : ByteArray} : inn xs s = true ↔ s ∈ xs := by simp [inn]
theorem inn_no {xs : List ByteArray} {s : ByteArray} : inn xs s = false ↔ s ∉ xs := by rw [← inn_iff]; simp

/-- A slice of strings that reads as a list; its cells lie in block g. -/
def Row (w : World) (g : Nat) (v : Value) (xs : List ByteArray) : Prop :=
  xs.length ≤ 2000 ∧ (∀ x ∈ xs, x.size ≤ maxLen) ∧
  ((xs = [] ∧ ∃ A c, v = .slice A 0 c) ∨
   ∃ o c, v = .slice (some ⟨g, o, none⟩) xs.length c ∧ g < w.heap.size ∧ xs.length ≤ c ∧ c ≤ maxLen ∧ ∀ j, j < xs.length → w.cell? ⟨g, o + j, none⟩ = some (.string (xs.getD j ⟨#[]⟩)))
theorem Row.shape {w : World} {g : Nat} {v : Value} {xs : List ByteArray} (h : Row w g v xs) : ∃ A c, v = .slice A xs.length c := by
  rcases h.2.2 with ⟨rfl, A, c, e⟩ | ⟨o, c, e, _⟩
  · exact ⟨A, c, e⟩
  · exact ⟨_, c, e⟩
theorem Row.same {w w' : World} {g : Nat} {v : Value} {xs : List ByteArray} (h : Row w g v xs) (hs : w.heap.size ≤ w'.heap.size) (hb : g < w.heap.size → w'.heap[g]? = w.heap[g]?) : Row w' g v xs := by
  refine ⟨h.1, h.2.1, ?_⟩
  rcases h.2.2 with h1 | ⟨o, c, e, h1, h2, h3, h4⟩
  · exact Or.inl h1
  · exact Or.inr ⟨o, c, e, by omega, h2, h3, fun j hj => (World.cell?_of_block (a := ⟨g, o + j, none⟩) (hb h1)).trans (h4 j hj)⟩
theorem Row.nil (w : World) (g : Nat) (A : Option Addr) (c : Nat) : Row w g (.slice A 0 c) [] := ⟨by simp, by simp, Or.inl ⟨rfl, A, c, rfl⟩⟩
theorem Row.below {w w' : World} {g : Nat} {v : Value} {xs : List ByteArray} (h : Row w g v xs) (hb : Below w.heap.size w w') : Row w' g v xs := h.same hb.size fun hg => hb.block g hg
/-- What the call has made is such a row. -/
theorem HS.Own.row {w : World} {base : Nat} {v : Value} {xs : List ByteArray} (h : Own w base v xs) : ∃ g, base ≤ g ∧ Go.Proofs.Ytdbfojolocelaaa.Row w g v xs := by
  obtain ⟨h1, h2, h3⟩ := h
  have h1' := h1
  rcases h1.2 with ⟨rfl, h0⟩ | ⟨g, cap, cur, rfl, hb, hg, hn, hm, hs, ht⟩
  · obtain rfl : xs = [] := List.eq_nil_of_length_eq_zero h0
    exact ⟨base, Nat.le_refl _, Go.Proofs.Ytdbfojolocelaaa.Row.nil _ _ _ _⟩
  · refine ⟨g, hb, h2, h3, Or.inr ⟨0, cap, rfl, (Array.getElem?_eq_some_iff.1 hg).1, hn, hm, fun j hj => ?_⟩⟩
    have := h1'.cells (g := g) rfl j (.string (xs.getD j ⟨#[]⟩)) (by rw [List.getElem?_map, List.getElem?_eq_getElem hj, List.getD_eq_getElem?_getD, List.getElem?_eq_getElem hj]; rfl)
    rw [show (⟨g, 0, none⟩ : Addr).add j = ⟨g, 0 + j, none⟩ by unfold Addr.add; split <;> simp_all] at this
    exact this

theorem eq_of_toList {a b : ByteArray} (h : a.toList = b.toList) : a = b := by
  rw [ByteArray.toList_eq, ByteArray.toList_eq] at h
  exact ByteArray.ext (Array.toList_inj.1 h)
/-- Strings told apart, as the walk spells it. -/
theorem beqS (a b : ByteArray) : (a.toList == b.toList) = decide (a = b) := by
  rw [Bool.eq_iff_iff]
  simp only [beq_iff_eq, decide_eq_true_eq]
  exact ⟨eq_of_toList, fun h => by rw [h]⟩
theorem beqS_no {a b : ByteArray} (h : a ≠ b) : (a.toList == b.toList) = false := by rw [beqS]; simpa using h
theorem beqS_yes {a b : ByteArray} (h : a = b) : (a.toList == b.toList) = true := by rw [beqS]; simpa using h

def HasRel (xs : List ByteArray) (key : ByteArray) (i : Value) : Prop := ∃ k : Nat, i = .int .i64 (k : Int) ∧ k ≤ xs.length ∧ inn (xs.take k) key = false
theorem inn_snoc (xs : List ByteArray) (x key : ByteArray) : inn (xs ++ [x]) key = (inn xs key || decide (x = key)) := by simp [inn]

/-- The cell at an index of a row that is not empty. -/
theorem Row.at {w : World} {g : Nat} {A : Option Addr} {n c : Nat} {xs : List ByteArray} (h : Row w g (.slice A n c) xs) {k : Nat} (hk : k < xs.length) :
    ∃ o, A = some ⟨g, o, none⟩ ∧ g < w.heap.size ∧ w.cell? ⟨g, o + k, none⟩ = some (.string (xs.getD k ⟨#[]⟩)) ∧ xs.length ≤ c ∧ c ≤ maxLen := by
  rcases h.2.2 with ⟨rfl, _⟩ | ⟨o, c', e, h1, h2, h3, h4⟩
  · simp at hk
  · injection e with e1 e2 e3
    subst e3
    exact ⟨o, e1, h1, h4 k hk, h2, h3⟩

set_option maxHeartbeats 1000000 in
theorem refHas_any (w : World) (g : Nat) (v : Value) (xs : List ByteArray) (key : ByteArray) (h : Row w g v xs) :
    Calls Try.prog 32 #[v, .string key] w (BoolPost (inn xs key) w) := by
  obtain ⟨A, c, rfl⟩ := h.shape
  have hl := h.1
  have HH := Lib.hid h; clear h
  go_enter Try.func32, Try.ntmps32
  go_wp2_with fail
  go_loop [5] (fun i => HasRel xs key i) (fun i => xs.length - (intOf i).toNat)
  case atStart => exact ⟨0, rfl, Nat.zero_le _, by simp [inn]⟩
  case round =>
    obtain ⟨k, rfl, hk, hno⟩ := hrel
    have HNO := Lib.hid hno
    clear hno
    by_cases hlt : k < xs.length
    · have e0 : decide (k < xs.length) = true := by simpa using hlt
      obtain ⟨o, rfl, hg, hc, hc1, hc2⟩ := HH.out.at hlt
      unfold maxLen at hc2
      have hsn := inn_snoc (xs.take k) (xs.getD k ⟨#[]⟩) key
      rw [← take_snoc xs k ⟨#[]⟩ hlt, HNO.out, Bool.false_or] at hsn
      have hmem : xs.getD k ⟨#[]⟩ ∈ xs := by rw [List.getD_eq_getElem?_getD, List.getElem?_eq_getElem hlt]; exact List.getElem_mem hlt
      generalize xs.getD k ⟨#[]⟩ = x at hc hsn hmem
      by_cases hx : x = key
      · have e1 := beqS_yes hx
        have HI := Lib.hid (show inn xs key = true from inn_iff.2 (hx ▸ hmem))
        clear hsn hx hmem
        go_wp2_with fail
        go_ret
        exact ⟨ret_bool HI.out.symm, rfl⟩
      · have e1 := beqS_no hx
        rw [decide_eq_false hx] at hsn
        have HS := Lib.hid hsn
        clear hsn hx hmem
        go_wp2_with fail
        go_round
        case rel => exact ⟨k + 1, by go_num, by omega, HS.out⟩
        case measure => simp [intOf]; omega
    · have e0 : decide (k < xs.length) = false := by simpa using hlt
      have HI := Lib.hid (show inn xs key = false by have := HNO.out; rw [List.take_of_length_le (by omega)] at this; exact this)
      go_wp2_with fail
      go_ret
      exact ⟨ret_bool HI.out.symm, rfl⟩
def SamePost (b : Bool) (w : World) (e : Ending) (w' : World) : Prop := e = .returned (.bool b) ∧ ∃ n, w' = w.drewN n
def SameRel (xs ys : List ByteArray) (w : World) (i : Value) (W : World) : Prop := ∃ k n : Nat, i = .int .i64 (k : Int) ∧ k ≤ xs.length ∧ xs.take k = ys.take k ∧ W = w.drewN n

theorem same_diff (w : World) (g g' : Nat) (v u : Value) (xs ys : List ByteArray) (h : Row w g v xs) (k : Row w g' u ys) (hne : xs.length ≠ ys.length) :
    Calls Try.prog 22 #[v, u] w (SamePost (decide (xs = ys)) w) := by
  obtain ⟨A, c, rfl⟩ := h.shape
  obtain ⟨B, d, rfl⟩ := k.shape
  have E := Lib.hid (show decide (xs = ys) = false by simp; exact fun e => hne (by rw [e]))
  have e0 : ((xs.length : Int) != (ys.length : Int)) = true := by simp; omega
  have e1 : (xs.length != ys.length) = true := by simpa using hne
  clear h k hne
  go_enter Try.func22, Try.ntmps22
  go_wp2_with fail
  go_ret
  exact ⟨ret_bool E.out.symm, 0, rfl⟩

set_option maxHeartbeats 1000000 in
theorem same_like (w : World) (g g' : Nat) (v u : Value) (xs ys : List ByteArray) (h : Row w g v xs) (k : Row w g' u ys) (he : xs.length = ys.length) :
    Calls Try.prog 22 #[v, u] w (SamePost (decide (xs = ys)) w) := by
  obtain ⟨A, c, rfl⟩ := h.shape
  obtain ⟨B, d, rfl⟩ := k.shape
  rw [← he] at k ⊢
  have hl := h.1
  have HX := Lib.hid h
  have HY := Lib.hid k
  have HE := Lib.hid he
  clear h k he
  go_enter Try.func22, Try.ntmps22
  go_wp2_with fail
  go_loopw [5] (fun i W => SameRel xs ys w i W) (fun i _ => xs.length - (intOf i).toNat)
  case atStart => exact ⟨0, 0, rfl, Nat.zero_le _, rfl, rfl⟩
  case round =>
    obtain ⟨k, n, rfl, hk, heq, rfl⟩ := hrel
    have HQ := Lib.hid heq
    clear heq
    by_cases hlt : k < xs.length
    · have e0 : decide (k < xs.length) = true := by simpa using hlt
      obtain ⟨o, rfl, hg, hc, hc1, hc2⟩ := HX.out.at hlt
      obtain ⟨o', rfl, hg', hd, hd1, hd2⟩ := HY.out.at (k := k) (by rw [← HE.out]; exact hlt)
      rw [← HE.out] at hd1
      unfold maxLen at hc2 hd2
      have h1 := take_snoc xs k ⟨#[]⟩ hlt
      have h2 := take_snoc ys k ⟨#[]⟩ (by rw [← HE.out]; exact hlt)
      have hlt' : k < ys.length := by rw [← HE.out]; exact hlt
      have hx1 : xs[k]? = some (xs.getD k ⟨#[]⟩) := by rw [List.getD_eq_getElem?_getD, List.getElem?_eq_getElem hlt]; rfl
      have hy1 : ys[k]? = some (ys.getD k ⟨#[]⟩) := by rw [List.getD_eq_getElem?_getD, List.getElem?_eq_getElem hlt']; rfl
      generalize xs.getD k ⟨#[]⟩ = x at hc h1 hx1
      generalize ys.getD k ⟨#[]⟩ = y at hd h2 hy1
      by_cases hxy : x = y
      · subst hxy
        have HQ2 := Lib.hid (show xs.take (k + 1) = ys.take (k + 1) by rw [h1, h2, HQ.out])
        have e1 := beqS_yes (rfl : x = x)
        clear h1 h2 hx1 hy1 hlt' HQ
        go_wp2_with fail
        go_quiet (fail)
        go_wp2_with fail
        go_roundw
        case rel => exact ⟨k + 1, _, by go_num, by omega, HQ2.out, rfl⟩
        case measure => simp [intOf]; omega
      · have E := Lib.hid (show decide (xs = ys) = false by simp only [decide_eq_false_iff_not]; intro e; rw [e, hy1] at hx1; exact hxy (by injection hx1 with e; exact e.symm))
        have e1 := beqS_no hxy
        clear h1 h2 hx1 hy1 hlt' HQ hxy
        go_wp2_with fail
        go_quiet (fail)
        go_wp2_with fail
        go_ret
        exact ⟨ret_bool E.out.symm, _, World.drewN_drewN _ _ _⟩
    · have e0 : decide (k < xs.length) = false := by simpa using hlt
      have E := Lib.hid (show decide (xs = ys) = true by
        have := HQ.out
        have he := HE.out
        rw [List.take_of_length_le (by omega), List.take_of_length_le (by omega)] at this
        simpa using this)
      clear HQ
      go_wp2_with fail
      go_ret
      exact ⟨ret_bool E.out.symm, _, rfl⟩

theorem refSame_any (w : World) (g g' : Nat) (v u : Value) (xs ys : List ByteArray) (h : Row w g v xs) (k : Row w g' u ys) :
    Calls Try.prog 22 #[v, u] w (SamePost (decide (xs = ys)) w) := by
  by_cases he : xs.length = ys.length
  · exact same_like w g g' v u xs ys h k he
  · exact same_diff w g g' v u xs ys h k he
end Go.Proofs.Ytdbfojolocelaaa
