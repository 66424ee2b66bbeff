/- The contract of slices.Reverse over a slice of strings of the call's own. -/
import Derived.Test.YtlmbeiijijkjeaaSame
namespace Go.Proofs.Ytlmbeiijijkjeaa
open Go.RowKit Sg

/-- The row with its first i and its last i turned about. -/
def revs (xs : List ByteArray) (i : Nat) : List ByteArray := (List.range xs.length).map fun k => if k < i ∨ xs.length ≤ k + i then xs.getD (xs.length - 1 - k) ⟨#[]⟩ else xs.getD k ⟨#[]⟩
theorem revs_len (xs : List ByteArray) (i : Nat) : (revs xs i).length = xs.length := by simp [revs]
theorem revs_get {xs : List ByteArray} {i k : Nat} (hk : k < xs.length) : (revs xs i)[k]? = some (if k < i ∨ xs.length ≤ k + i then xs.getD (xs.length - 1 - k) ⟨#[]⟩ else xs.getD k ⟨#[]⟩) := by
  unfold revs
  rw [List.getElem?_map, List.getElem?_range hk]; rfl
theorem getD_get {xs : List ByteArray} {k : Nat} (hk : k < xs.length) : xs[k]? = some (xs.getD k ⟨#[]⟩) := by
  rw [List.getD_eq_getElem?_getD, List.getElem?_eq_getElem hk]; rfl
theorem get_ge {xs : List ByteArray} {k : Nat} (hk : ¬ k < xs.length) : xs[k]? = none := List.getElem?_eq_none (by omega)
theorem revs_zero (xs : List ByteArray) : revs xs 0 = xs := by
  refine List.ext_getElem? fun k => ?_
  by_cases hk : k < xs.length
  · rw [revs_get hk, if_neg (by omega), getD_get hk]
  · rw [get_ge hk, get_ge (by rw [revs_len]; exact hk)]
theorem revs_end {xs : List ByteArray} {i : Nat} (h : xs.length ≤ 2 * i + 1) : revs xs i = xs.reverse := by
  refine List.ext_getElem? fun k => ?_
  by_cases hk : k < xs.length
  · rw [revs_get hk, List.getElem?_reverse hk, getD_get (by omega)]
    split
    · rfl
    · rw [show xs.length - 1 - k = k by omega]
  · rw [get_ge (by rw [revs_len]; exact hk), get_ge (by rw [List.length_reverse]; exact hk)]
theorem revs_step {xs : List ByteArray} {i j : Nat} (hj : j = xs.length - 1 - i) (h : 2 * i + 1 < xs.length) : ((revs xs i).set i (xs.getD j ⟨#[]⟩)).set j (xs.getD i ⟨#[]⟩) = revs xs (i + 1) := by
  refine List.ext_getElem? fun k => ?_
  by_cases hk : k < xs.length
  · rw [revs_get hk, List.getElem?_set, List.getElem?_set, List.length_set, revs_len, revs_get hk]
    by_cases h1 : j = k
    · rw [if_pos h1, if_pos (by omega), if_pos (by omega), show xs.length - 1 - k = i by omega]
    · rw [if_neg h1]
      by_cases h2 : i = k
      · rw [if_pos h2, if_pos (by omega), if_pos (by omega), show xs.length - 1 - k = j by omega]
      · rw [if_neg h2]
        by_cases h3 : k < i ∨ xs.length ≤ k + i
        · rw [if_pos h3, if_pos (by omega)]
        · rw [if_neg h3, if_neg (by omega)]
  · rw [get_ge (xs := revs xs (i + 1)) (by rw [revs_len]; exact hk), get_ge (by rw [List.length_set, List.length_set, revs_len]; exact hk)]

theorem Own.same {w w' : World} {base : Nat} {v : Value} {xs : List ByteArray} (o : Own w base v xs) (hs : ∀ g, v.ownBlock = some g → w'.heap[g]? = w.heap[g]?) : Own w' base v xs := by
  refine ⟨⟨o.1.1, ?_⟩, o.2⟩
  rcases o.1.2 with h1 | ⟨g, cap, arr, rfl, hb, h2, h3⟩
  · exact Or.inl h1
  · exact Or.inr ⟨g, cap, arr, rfl, hb, (hs g rfl).trans h2, h3⟩
theorem Own.lt {w : World} {v : Value} {xs : List ByteArray} {base g : Nat} (o : Own w base v xs) (hg : v.ownBlock = some g) : g < w.heap.size ∧ base ≤ g := by
  rcases o.1.2 with ⟨rfl, _⟩ | ⟨g', cap, arr, rfl, hb, h2, h3⟩
  · cases hg
  · cases hg; exact ⟨(Array.getElem?_eq_some_iff.1 h2).1, hb⟩
/-- A cell of the call's own slice is written. -/
theorem Own.stored {w : World} {base g n cap : Nat} {xs : List ByteArray} (h : Own w base (.slice (some ⟨g, 0, none⟩) n cap) xs) (hn : xs.length = n) (j : Nat) (x : ByteArray) (hx : x.size ≤ maxLen) :
    Own (w.setCell ⟨g, j, none⟩ (.string x)) base (.slice (some ⟨g, 0, none⟩) n cap) (xs.set j x) := by
  subst hn
  have h1 := (h.1.stored j (.string x)).1
  refine ⟨?_, by rw [List.length_set]; exact h.2.1, fun y hy => ?_⟩
  · rw [List.length_set, List.map_set]; exact h1
  · rcases List.mem_or_eq_of_mem_set hy with h2 | rfl
    · exact h.2.2 y h2
    · exact hx

def RevPost (xs : List ByteArray) (base : Nat) (v : Value) (w : World) (e : Ending) (w' : World) : Prop := e = .returned (.tuple #[]) ∧ Own w' base v xs.reverse ∧ Below base w w'
def RevRel (xs : List ByteArray) (base : Nat) (v : Value) (w : World) (iv jv : Value) (W : World) : Prop := ∃ (i : Nat) (t : Int), iv = .int .i64 (i : Int) ∧ jv = .int .i64 t ∧ t = (xs.length : Int) - 1 - (i : Int) ∧ 2 * i ≤ xs.length ∧ Own W base v (revs xs i) ∧ Below base w W

set_option maxHeartbeats 2000000 in
theorem reverse_any (w : World) (base : Nat) (v : Value) (xs : List ByteArray) (h : Own w base v xs) (hb : base ≤ w.heap.size) :
    Calls Try.prog 38 #[v] w (RevPost xs base v w) := by
  obtain ⟨A, c, rfl⟩ := h.len
  have hl := h.2.1
  have HS := Lib.hid h.2.2
  have HH := Lib.hid h; clear h
  go_enter Try.func38, Try.ntmps38
  go_wp2_with fail
  go_loopw [2, 3] (fun i j W => RevRel xs base (.slice A xs.length c) w i j W) (fun i _ _ => xs.length - (intOf i).toNat)
  case atStart => exact ⟨0, _, rfl, rfl, by omega, by omega, by rw [revs_zero]; exact HH.out, Below.refl _ _⟩
  case round =>
    obtain ⟨i, t, rfl, rfl, ht, hi, hO, hB⟩ := hrel
    by_cases hlt : 2 * i + 1 < xs.length
    · obtain ⟨j, hj⟩ : ∃ j, j = xs.length - 1 - i := ⟨_, rfl⟩
      obtain rfl : t = (j : Int) := by omega
      have hij : i < j := by omega
      have hjl : j < xs.length := by omega
      have e0 : decide (i < j) = true := by simpa using hij
      have R := Lib.hid (revs_step hj hlt)
      have hO' := hO
      rcases hO.1.2 with ⟨_, h0⟩ | ⟨g, cap, cur, e1, hg0, hg, hn, hm, hcs, htk⟩
      · rw [revs_len] at h0; omega
      obtain ⟨rfl, _, rfl⟩ : A = some ⟨g, 0, none⟩ ∧ xs.length = (revs xs i).length ∧ c = cap := by
        injection e1 with a1 a2 a3
        exact ⟨a1, a2, a3⟩
      rw [revs_len] at hn
      have hx1 : (revs xs i)[i]? = some (xs.getD i ⟨#[]⟩) := by rw [revs_get (by omega), if_neg (by omega)]
      have hx2 : (revs xs i)[j]? = some (xs.getD j ⟨#[]⟩) := by rw [revs_get (by omega), if_neg (by omega)]
      have hs1 : (xs.getD i ⟨#[]⟩).size ≤ maxLen := by
        refine HS.out _ ?_
        rw [List.getD_eq_getElem?_getD, List.getElem?_eq_getElem (by omega)]; exact List.getElem_mem _
      have hs2 : (xs.getD j ⟨#[]⟩).size ≤ maxLen := by
        refine HS.out _ ?_
        rw [List.getD_eq_getElem?_getD, List.getElem?_eq_getElem hjl]; exact List.getElem_mem _
      have hW : wr.ownsRow base 9 1 (.slice (some ⟨g, 0, none⟩) (revs xs i).length c) (revs xs i).length ((revs xs i).map Value.string) := by
        have := hO.1; rw [revs_len] at this ⊢; exact this
      have k1 : wr.cell? ⟨g, i, none⟩ = some (.string (xs.getD i ⟨#[]⟩)) := by
        rw [hW.cellAt i (by rw [revs_len]; omega), List.getElem?_map, hx1]; rfl
      have k2 : wr.cell? ⟨g, j, none⟩ = some (.string (xs.getD j ⟨#[]⟩)) := by
        rw [hW.cellAt j (by rw [revs_len]; omega), List.getElem?_map, hx2]; rfl
      have f1 := hW.frozenAt i
      have f2 := hW.frozenAt j
      have O2 := Lib.hid (show Own ((wr.setCell ⟨g, i, none⟩ (.string (xs.getD j ⟨#[]⟩))).setCell ⟨g, j, none⟩ (.string (xs.getD i ⟨#[]⟩))) base (.slice (some ⟨g, 0, none⟩) xs.length c) (revs xs (i + 1)) by
        have q1 := hO.stored (revs_len xs i) i (xs.getD j ⟨#[]⟩) hs2
        have q2 := q1.stored (by rw [List.length_set, revs_len]) j (xs.getD i ⟨#[]⟩) hs1
        rw [R.out] at q2; exact q2)
      have B2 := Lib.hid (show Below base w ((wr.setCell ⟨g, i, none⟩ (.string (xs.getD j ⟨#[]⟩))).setCell ⟨g, j, none⟩ (.string (xs.getD i ⟨#[]⟩))) from (hB.setCell (p := ⟨g, i, none⟩) hg0 _).setCell (p := ⟨g, j, none⟩) hg0 _)
      generalize xs.getD i ⟨#[]⟩ = x at *
      generalize xs.getD j ⟨#[]⟩ = y at *
      have HJ := Lib.hid hj
      have n1 : i ≠ j := by omega
      have n2 : j ≠ i := by omega
      unfold maxLen at hm
      clear hO hO' hB hW e1 hg hcs htk hx1 hx2 hs1 hs2 R hj hlt ht hi hg0
      go_wp2_with fail
      go_region
      go_wp2_with fail
      go_roundw
      case rel =>
        have := HJ.out
        exact ⟨i + 1, _, by go_num, rfl, by omega, by omega, O2.out.same (fun _ _ => rfl), B2.out.drew⟩
      case measure => simp [intOf]; omega
    · have e0 : decide ((i : Int) < t) = false := by simp; omega
      have R := Lib.hid (revs_end (xs := xs) (i := i) (by omega))
      have O2 := Lib.hid hO
      clear ht hO
      go_wp2_with fail
      go_end0
      exact ⟨rfl, by rw [← R.out]; exact O2.out, hB⟩
end Go.Proofs.Ytlmbeiijijkjeaa
