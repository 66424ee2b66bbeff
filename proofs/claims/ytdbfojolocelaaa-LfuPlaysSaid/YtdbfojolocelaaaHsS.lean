/- The contract of a heap's swap. -/
import Derived.Test.YtdbfojolocelaaaHbS
namespace Go.Proofs.Ytdbfojolocelaaa
namespace HS
open Go.RowKit Ht Go.Maps Go.WideMaps

theorem at_stored {w : World} {b m : Nat} {e : Ent Key} (hb : w.heap[b]? = some (itemOf e m)) (i : Nat) : (w.setCell ⟨b, 4, none⟩ (.int .i64 (i : Int))).heap[b]? = some (itemOf e i) := by
  rw [heap_setCell_same _ _ _ _ _ _ hb]; rfl

/-- A tree in memory whose items' places are those of another tree. -/
structure Half (w : World) (h M : Nat) (v : Value) (T' T : List Nat) (E : Nat → Ent Key) (c : Nat) : Prop where
  own : w.heap[h]? = some (heapOf M v c)
  tree : Tree w v T'
  item : ∀ i, i < T.length → w.heap[tg T i]? = some (itemOf (E (tg T i)) i)
  top : T.length ≤ 1000
  ctop : c ≤ 100000

/-- The tree's block and the items' blocks. -/
def Low (v : Value) (T : List Nat) (k : Nat) : Prop := v.ownBlock = some k ∨ k ∈ T

section
variable {w : World} {h M c : Nat} {v : Value} {T : List Nat} {E : Nat → Ent Key}
theorem Holds.swap1 {tb cap i j : Nat} (H : Holds w h M (.slice (some ⟨tb, 0, none⟩) T.length cap) T E c) (hi : i < T.length) (hj : j < T.length) :
    Half ((w.setCell ⟨tb, i, none⟩ (.pointer (some ⟨tg T j, 0, none⟩))).setCell ⟨tb, j, none⟩ (.pointer (some ⟨tg T i, 0, none⟩))).drew h M (.slice (some ⟨tb, 0, none⟩) T.length cap) (tsw T i j) T E c := by
  obtain ⟨_, arr, h2, h3, h4, h5, h6⟩ := H.tree.tl
  have ht : h ≠ tb := cells_ne H.own h2 (by decide)
  refine ⟨?_, ?_, fun k hk => ?_, H.top, H.ctop⟩
  · show ((w.setCell _ _).setCell _ _).heap[h]? = _
    rw [heap_setCell_other _ _ _ _ ht, heap_setCell_other _ _ _ _ ht]; exact H.own
  · refine Or.inr ⟨tb, cap, (arr.setIfInBounds i (.pointer (some ⟨tg T j, 0, none⟩))).setIfInBounds j (.pointer (some ⟨tg T i, 0, none⟩)), by rw [tsw_len], ?_, by simpa using h3, by rw [tsw_len]; exact h4, h5, fun k hk => ?_⟩
    · show ((w.setCell _ _).setCell _ _).heap[tb]? = _
      rw [heap_setCell_same _ _ _ _ _ _ (heap_setCell_same _ _ _ _ _ _ h2)]
    · rw [tsw_len] at hk
      rw [tg_tsw hi hj]
      by_cases e1 : k = j
      · subst e1
        rw [if_pos rfl, Array.getElem?_setIfInBounds_self_of_lt (by simp; omega)]
      · rw [if_neg e1, Array.getElem?_setIfInBounds_ne (by omega)]
        by_cases e2 : k = i
        · subst e2
          rw [if_pos rfl, Array.getElem?_setIfInBounds_self_of_lt (by omega)]
        · rw [if_neg e2, Array.getElem?_setIfInBounds_ne (by omega)]; exact h6 k hk
  · show ((w.setCell _ _).setCell _ _).heap[tg T k]? = _
    have hne : tg T k ≠ tb := cells_ne (H.item k hk) h2 (by decide)
    rw [heap_setCell_other _ _ _ _ hne, heap_setCell_other _ _ _ _ hne]; exact H.item k hk
theorem Half.inj {T' : List Nat} (H : Half w h M v T' T E c) {i j : Nat} (hi : i < T.length) (hj : j < T.length) (he : tg T i = tg T j) : i = j := by
  have h1 : w.cell? ⟨tg T i, 4, none⟩ = some (.int .i64 (i : Int)) := cell_of_row w _ 4 _ _ _ (H.item i hi)
  have h2 : w.cell? ⟨tg T j, 4, none⟩ = some (.int .i64 (j : Int)) := cell_of_row w _ 4 _ _ _ (H.item j hj)
  rw [he, h2] at h1
  injection h1 with h1
  injection h1 with _ h1
  omega
theorem Half.swap2 {i j : Nat} (H : Half w h M v (tsw T i j) T E c) (hi : i < T.length) (hj : j < T.length) :
    Holds ((w.setCell ⟨tg T j, 4, none⟩ (.int .i64 (i : Int))).setCell ⟨tg T i, 4, none⟩ (.int .i64 (j : Int))).drew h M v (tsw T i j) E c := by
  have hti : h ≠ tg T i := cells_ne H.own (H.item i hi) (by decide)
  have htj : h ≠ tg T j := cells_ne H.own (H.item j hj) (by decide)
  refine ⟨?_, ?_, fun k hk => ?_, by rw [tsw_len]; exact H.top, H.ctop⟩
  · show ((w.setCell _ _).setCell _ _).heap[h]? = _
    rw [heap_setCell_other _ _ _ _ hti, heap_setCell_other _ _ _ _ htj]; exact H.own
  · rcases H.tree with hz | ⟨tb, cap, arr, h1, h2, h3⟩
    · exact Or.inl hz
    · refine Or.inr ⟨tb, cap, arr, h1, ?_, h3⟩
      show ((w.setCell _ _).setCell _ _).heap[tb]? = _
      rw [heap_setCell_other _ _ _ _ (cells_ne h2 (H.item i hi) (by decide)), heap_setCell_other _ _ _ _ (cells_ne h2 (H.item j hj) (by decide))]; exact h2
  · rw [tsw_len] at hk
    rw [tg_tsw hi hj]
    show ((w.setCell _ _).setCell _ _).heap[_]? = _
    by_cases e1 : k = j
    · rw [if_pos e1, e1]
      by_cases e2 : i = j
      · subst e2; exact at_stored (at_stored (H.item i hi) i) i
      · have hne : tg T i ≠ tg T j := fun e => e2 (H.inj hi hj e)
        exact at_stored ((heap_setCell_other _ _ _ _ hne).trans (H.item i hi)) j
    · rw [if_neg e1]
      by_cases e2 : k = i
      · rw [if_pos e2, e2]
        have hne : tg T j ≠ tg T i := fun e => e1 (e2.trans (H.inj hj hi e).symm)
        rw [heap_setCell_other _ _ _ _ hne]
        exact at_stored (H.item j hj) i
      · rw [if_neg e2]
        have n1 : tg T k ≠ tg T i := fun e => e2 (H.inj hk hi e)
        have n2 : tg T k ≠ tg T j := fun e => e1 (H.inj hk hj e)
        rw [heap_setCell_other _ _ _ _ n1, heap_setCell_other _ _ _ _ n2]; exact H.item k hk
end

def SwapPost (w : World) (h M : Nat) (v : Value) (T : List Nat) (E : Nat → Ent Key) (c i j : Nat) (e : Ending) (w' : World) : Prop := e = .returned (.tuple #[]) ∧ Holds w' h M v (tsw T i j) E c ∧ Turn (Low v T) w w'

set_option maxHeartbeats 4000000 in
theorem swap_any (w : World) (h M : Nat) (v : Value) (T : List Nat) (E : Nat → Ent Key) (c i j : Nat) (H : Holds w h M v T E c) (hi : i < T.length) (hj : j < T.length) :
    Calls Try.prog 55 #[.pointer (some ⟨h, 0, none⟩), .int .i64 (i : Int), .int .i64 (j : Int)] w (SwapPost w h M v T E c i j) := by
  obtain ⟨tb, cap, rfl, hc1, hc2, arr, h2, h3, h6⟩ := H.at (by omega)
  have c1 := H.c1
  have ti : w.cell? ⟨tb, i, none⟩ = some (.pointer (some ⟨tg T i, 0, none⟩)) := (cell_of_row w _ _ _ _ _ h2).trans (h6 i hi)
  have tj : w.cell? ⟨tb, j, none⟩ = some (.pointer (some ⟨tg T j, 0, none⟩)) := (cell_of_row w _ _ _ _ _ h2).trans (h6 j hj)
  have fi : w.frozen? ⟨tb, i, none⟩ = false := frozen_of_row w _ _ _ _ h2
  have fj : w.frozen? ⟨tb, j, none⟩ = false := frozen_of_row w _ _ _ _ h2
  have ht := H.top
  have hne : h ≠ tb := cells_ne H.own h2 (by decide)
  have H1 := Lib.hid (H.swap1 hi hj)
  have T1 := Lib.hid ((((Turn.refl (Low (.slice (some ⟨tb, 0, none⟩) T.length cap) T) w).setCell (p := ⟨tb, i, none⟩) (Or.inl rfl) (.pointer (some ⟨tg T j, 0, none⟩))).setCell (p := ⟨tb, j, none⟩) (Or.inl rfl) (.pointer (some ⟨tg T i, 0, none⟩))).drew)
  unfold maxLen at hc2
  clear h2 h3 h6 H
  obtain ⟨bi, hbi⟩ : ∃ b, tg T i = b := ⟨_, rfl⟩
  obtain ⟨bj, hbj⟩ : ∃ b, tg T j = b := ⟨_, rfl⟩
  have HBI := Lib.hid hbi
  have HBJ := Lib.hid hbj
  rw [hbi] at ti H1 T1
  rw [hbj] at tj H1 T1
  clear hbi hbj
  have second : ∀ w1 : World, Half w1 h M (.slice (some ⟨tb, 0, none⟩) T.length cap) (tsw T i j) T E c → ∃ d1 : w1.cell? ⟨h, 1, none⟩ = some (.slice (some ⟨tb, 0, none⟩) T.length cap), w1.cell? ⟨tb, i, none⟩ = some (.pointer (some ⟨bj, 0, none⟩)) ∧ w1.cell? ⟨tb, j, none⟩ = some (.pointer (some ⟨bi, 0, none⟩)) ∧
      w1.cell? ⟨bi, 4, none⟩ = some (.int .i64 (i : Int)) ∧ w1.cell? ⟨bj, 4, none⟩ = some (.int .i64 (j : Int)) ∧ w1.frozen? ⟨bi, 4, none⟩ = false ∧ w1.frozen? ⟨bj, 4, none⟩ = false ∧ (i ≠ j → bi ≠ bj) := by
    intro w1 H1
    obtain ⟨hl, arr, h2, h3, h4, h5, h6⟩ := H1.tree.tl
    rw [tsw_len] at h6
    have e1 := h6 i hi
    have e2 := h6 j hj
    rw [tg_tsw hi hj] at e1 e2
    rw [if_pos rfl] at e2
    have e3 : (if i = j then tg T i else if i = i then tg T j else tg T i) = tg T j := by
      by_cases e : i = j
      · rw [if_pos e, e]
      · rw [if_neg e, if_pos rfl]
    rw [e3, HBJ.out] at e1
    rw [HBI.out] at e2
    have g1 := H1.item i hi
    have g2 := H1.item j hj
    have g3 := fun e => H1.inj hi hj e
    rw [HBI.out] at g1 g3
    rw [HBJ.out] at g2 g3
    exact ⟨cell_of_row w1 _ 1 _ _ _ H1.own, (cell_of_row w1 _ _ _ _ _ h2).trans e1, (cell_of_row w1 _ _ _ _ _ h2).trans e2, cell_of_row w1 _ 4 _ _ _ g1, cell_of_row w1 _ 4 _ _ _ g2, frozen_of_row w1 _ 4 _ _ g1, frozen_of_row w1 _ 4 _ _ g2, fun hn e => hn (g3 e)⟩
  have SEC := Lib.hid second
  clear second
  by_cases hij : i = j
  · subst hij
    obtain rfl : bi = bj := HBI.out.symm.trans HBJ.out
    clear tj fj
    go_enter Try.func55, Try.ntmps55
    go_wp2_with fail
    go_region
    generalize ((w.setCell ⟨tb, i, none⟩ (.pointer (some ⟨bi, 0, none⟩))).setCell ⟨tb, i, none⟩ (.pointer (some ⟨bi, 0, none⟩))).drew = w1 at H1 T1 ⊢
    obtain ⟨d1, d2, _, d3, _, d4, _, _⟩ := SEC.out w1 H1.out
    clear c1 ti fi
    have R := Lib.hid (by have := H1.out.swap2 hi hj; rw [HBI.out] at this; exact this)
    have RT := Lib.hid (((T1.out.setCell (p := ⟨bi, 4, none⟩) (Or.inr (HBI.out ▸ tg_mem hi)) (.int .i64 (i : Int))).setCell (p := ⟨bi, 4, none⟩) (Or.inr (HBI.out ▸ tg_mem hi)) (.int .i64 (i : Int))).drew)
    go_wp2_with fail
    go_region
    go_end0
    exact ⟨rfl, R.out, RT.out⟩
  · have hne1 : i ≠ j := hij
    have hne2 : j ≠ i := Ne.symm hij
    clear hij
    go_enter Try.func55, Try.ntmps55
    go_wp2_with fail
    go_region
    generalize ((w.setCell ⟨tb, i, none⟩ (.pointer (some ⟨bj, 0, none⟩))).setCell ⟨tb, j, none⟩ (.pointer (some ⟨bi, 0, none⟩))).drew = w1 at H1 T1 ⊢
    obtain ⟨d1, d2, d2', d3, d3', d4, d4', d5⟩ := SEC.out w1 H1.out
    have nb1 := d5 hne1
    have nb2 := Ne.symm nb1
    clear c1 ti fi tj fj d5
    have R := Lib.hid (by have := H1.out.swap2 hi hj; rw [HBI.out, HBJ.out] at this; exact this)
    have RT := Lib.hid (((T1.out.setCell (p := ⟨bj, 4, none⟩) (Or.inr (HBJ.out ▸ tg_mem hj)) (.int .i64 (i : Int))).setCell (p := ⟨bi, 4, none⟩) (Or.inr (HBI.out ▸ tg_mem hi)) (.int .i64 (j : Int))).drew)
    go_wp2_with fail
    go_region
    go_end0
    exact ⟨rfl, R.out, RT.out⟩
end HS
end Go.Proofs.Ytdbfojolocelaaa
