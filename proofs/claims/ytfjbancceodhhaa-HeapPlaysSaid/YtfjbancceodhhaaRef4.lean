/- Rows of items as a law has them; the contracts of the reference's Less, Find, Remove. -/
import Derived.Test.YtfjbancceodhhaaSeen4
namespace Go.Proofs.Ytfjbancceodhhaa
open Go.RowKit Ht HS

theorem refLess_any (w : World) (a b c d : Int) : Calls Try.prog 27 #[.agg #[.int .i64 a, .int .i64 b], .agg #[.int .i64 c, .int .i64 d]] w (BoolGrw (rless a b c d) w) := by
  by_cases h : a = c
  · have e0 : (a != c) = false := by simp [h]
    have R : rless a b c d = decide (b < d) := by simp [rless, h]
    have HR := Lib.hid R
    clear R h
    go_enter Try.func27, Try.ntmps27
    go_wp2_with fail
    go_ret
    exact ⟨ret_bool HR.out.symm, ((Grw.refl w).alloc _).alloc _⟩
  · have e0 : (a != c) = true := by simp [h]
    have R : rless a b c d = decide (a < c) := by simp [rless, h]
    have HR := Lib.hid R
    clear R h
    go_enter Try.func27, Try.ntmps27
    go_wp2_with fail
    go_ret
    exact ⟨ret_bool HR.out.symm, ((Grw.refl w).alloc _).alloc _⟩

/-- A rank of the reference's read out of a variable. -/
theorem loadR31 (w : World) (b : Nat) (r1 r2 : Value) (h0 : w.cell? ⟨b, 0, none⟩ = some r1) (h1 : w.cell? ⟨b, 1, none⟩ = some r2) : (loadVar 31 ⟨b, 0, none⟩).run Try.prog w = .ok (.agg #[r1, r2]) w := by
  have a1 := Try.isAgg31
  have z1 := Try.sizeOf31
  unfold loadVar
  go_simp

/-- A slice of items that reads as a row of entries; its cells lie in block g. -/
def RRow (w : World) (g : Nat) (v : Value) (L : List (Ent Key)) : Prop :=
  L.length ≤ 2000 ∧ (∀ e ∈ L, e.key.size ≤ maxLen) ∧ ((L = [] ∧ ∃ A c, v = .slice A 0 c) ∨ ∃ o c, v = .slice (some ⟨g, o, none⟩) L.length c ∧ g < w.heap.size ∧ L.length ≤ c ∧ c ≤ maxLen ∧
    ∀ j x, L[j]? = some x → w.cell? ⟨g, o + j * 3, none⟩ = some (.string x.key) ∧ w.cell? ⟨g, o + j * 3 + 1, none⟩ = some (.int .i64 x.one) ∧ w.cell? ⟨g, o + j * 3 + 2, none⟩ = some (.int .i64 x.two))
section
variable {w w' : World} {g : Nat} {v : Value} {L : List (Ent Key)}
theorem RRow.shape (h : RRow w g v L) : ∃ A c, v = .slice A L.length c := by
  rcases h.2.2 with ⟨rfl, A, c, e⟩ | ⟨o, c, e, _⟩
  · exact ⟨A, c, e⟩
  · exact ⟨_, c, e⟩
theorem RRow.same (h : RRow w g v L) (hs : w.heap.size ≤ w'.heap.size) (hb : g < w.heap.size → w'.heap[g]? = w.heap[g]?) : RRow w' g v L := by
  refine ⟨h.1, h.2.1, ?_⟩
  rcases h.2.2 with h1 | ⟨o, c, e, h1, h2, h3, h4⟩
  · exact Or.inl h1
  · refine Or.inr ⟨o, c, e, by omega, h2, h3, fun j x hj => ?_⟩
    obtain ⟨q1, q2, q3⟩ := h4 j x hj
    exact ⟨(World.cell?_of_block (a := ⟨g, o + j * 3, none⟩) (hb h1)).trans q1, (World.cell?_of_block (a := ⟨g, o + j * 3 + 1, none⟩) (hb h1)).trans q2, (World.cell?_of_block (a := ⟨g, o + j * 3 + 2, none⟩) (hb h1)).trans q3⟩
theorem RRow.below (h : RRow w g v L) (hb : Below w.heap.size w w') : RRow w' g v L := h.same hb.size fun hg => hb.block g hg
theorem RRow.nil (w : World) (g : Nat) (A : Option Addr) (c : Nat) : RRow w g (.slice A 0 c) [] := ⟨by simp, by simp, Or.inl ⟨rfl, A, c, rfl⟩⟩
theorem RRow.at (h : RRow w g v L) {j : Nat} {x : Ent Key} (hj : L[j]? = some x) : ∃ o c, v = .slice (some ⟨g, o, none⟩) L.length c ∧ g < w.heap.size ∧ L.length ≤ c ∧ c ≤ maxLen ∧ w.cell? ⟨g, o + j * 3, none⟩ = some (.string x.key) ∧ w.cell? ⟨g, o + j * 3 + 1, none⟩ = some (.int .i64 x.one) ∧ w.cell? ⟨g, o + j * 3 + 2, none⟩ = some (.int .i64 x.two) := by
  rcases h.2.2 with ⟨rfl, _⟩ | ⟨o, c, e, h1, h2, h3, h4⟩
  · simp at hj
  · exact ⟨o, c, e, h1, h2, h3, h4 j x hj⟩
end

/-- The cells of items. -/
def cellsI3 (L : List (Ent Key)) : List Value := L.flatMap fun e => [.string e.key, .int .i64 e.one, .int .i64 e.two]
theorem cells3_len (L : List (Ent Key)) : (cellsI3 L).length = L.length * 3 := by
  induction L with
  | nil => rfl
  | cons x L ih => simp [cellsI3] at ih ⊢; omega
theorem cells3_get : ∀ (L : List (Ent Key)) (j : Nat) (x : Ent Key), L[j]? = some x → (cellsI3 L)[j * 3]? = some (.string x.key) ∧ (cellsI3 L)[j * 3 + 1]? = some (.int .i64 x.one) ∧ (cellsI3 L)[j * 3 + 2]? = some (.int .i64 x.two)
  | [], j, x, h => by simp at h
  | y :: L, 0, x, h => by
    simp at h; subst h
    exact ⟨rfl, rfl, rfl⟩
  | y :: L, j + 1, x, h => by
    have h' : L[j]? = some x := by simpa using h
    obtain ⟨q1, q2, q3⟩ := cells3_get L j x h'
    have e : cellsI3 (y :: L) = [.string y.key, .int .i64 y.one, .int .i64 y.two] ++ cellsI3 L := rfl
    rw [e]
    refine ⟨?_, ?_, ?_⟩
    · rw [List.getElem?_append_right (by simp; omega)]; rw [show (j + 1) * 3 - [Value.string y.key, .int .i64 y.one, .int .i64 y.two].length = j * 3 by simp; omega]; exact q1
    · rw [List.getElem?_append_right (by simp; omega)]; rw [show (j + 1) * 3 + 1 - [Value.string y.key, .int .i64 y.one, .int .i64 y.two].length = j * 3 + 1 by simp; omega]; exact q2
    · rw [List.getElem?_append_right (by simp; omega)]; rw [show (j + 1) * 3 + 2 - [Value.string y.key, .int .i64 y.one, .int .i64 y.two].length = j * 3 + 2 by simp; omega]; exact q3
theorem cells3_app (L M : List (Ent Key)) : cellsI3 (L ++ M) = cellsI3 L ++ cellsI3 M := by simp [cellsI3]
theorem cells3_one (L : List (Ent Key)) : ∀ u ∈ cellsI3 L, u.oneCell' = true := by
  intro u hu
  unfold cellsI3 at hu
  obtain ⟨e, _, he⟩ := List.mem_flatMap.1 hu
  simp at he
  rcases he with rfl | rfl | rfl <;> rfl
/-- A slice of items of the call's own. -/
def OwnI (w : World) (base : Nat) (v : Value) (L : List (Ent Key)) : Prop := w.ownsRow base 41 3 v L.length (cellsI3 L) ∧ L.length ≤ 2000 ∧ ∀ e ∈ L, e.key.size ≤ maxLen
theorem OwnI.row {w : World} {base : Nat} {v : Value} {L : List (Ent Key)} (h : OwnI w base v L) : ∃ g, base ≤ g ∧ RRow w g v L := by
  obtain ⟨h1, h2, h3⟩ := h
  have h1' := h1
  rcases h1.2 with ⟨rfl, h0⟩ | ⟨g, cap, cur, rfl, hb, hg, hn, hm, hs, ht⟩
  · obtain rfl : L = [] := List.eq_nil_of_length_eq_zero h0
    exact ⟨base, Nat.le_refl _, RRow.nil _ _ _ _⟩
  · refine ⟨g, hb, h2, h3, Or.inr ⟨0, cap, rfl, (Array.getElem?_eq_some_iff.1 hg).1, hn, hm, fun j x hj => ?_⟩⟩
    obtain ⟨q1, q2, q3⟩ := cells3_get L j x hj
    have key : ∀ m u, (cellsI3 L)[m]? = some u → w.cell? ⟨g, 0 + m, none⟩ = some u := fun m u hm => by
      have := h1'.cells (g := g) rfl m u hm
      rw [show (⟨g, 0, none⟩ : Addr).add m = ⟨g, 0 + m, none⟩ by unfold Addr.add; split <;> simp_all] at this
      exact this
    exact ⟨key _ _ q1, key _ _ q2, key _ _ q3⟩
theorem OwnI.len {w : World} {base : Nat} {v : Value} {L : List (Ent Key)} (h : OwnI w base v L) : ∃ A c, v = .slice A L.length c := by
  rcases h.1.2 with ⟨rfl, h0⟩ | ⟨g, cap, cur, rfl, _⟩
  · exact ⟨none, 0, by rw [h0]⟩
  · exact ⟨_, _, rfl⟩
theorem ownI_nil (w : World) (base : Nat) : OwnI w base (.slice none 0 0) [] := ⟨⟨rfl, Or.inl ⟨rfl, rfl⟩⟩, by simp, by simp⟩
theorem infoIt : (Try.prog.info? 41).map (fun i => (i.zero, i.size, i.bytes)) = some (some (.agg #[.string ⟨#[]⟩, .int .i64 0, .int .i64 0]), 3, 32) := by kernel_rfl
def RowI (L : List (Ent Key)) (w : World) (e : Ending) (w' : World) : Prop := ∃ v, e = .returned v ∧ OwnI w' w.heap.size v L ∧ Below w.heap.size w w'

/-- 'append(l, m...)': m is some row of items, the first one of the call's own. -/
theorem app_items {w : World} {base : Nat} {v : Value} {L M : List (Ent Key)} {a : Addr} {cap : Nat} (h : OwnI w base v L) (hM : ∀ e ∈ M, e.key.size ≤ maxLen) (hc : ∀ j u, (cellsI3 M)[j]? = some u → w.cell? (a.add j) = some u) (hl : L.length + M.length ≤ 2000) (hb : base ≤ w.heap.size) :
    ∃ (v' : Value) (w2 : World), (Builtin.append_ #[26, 26] 26 #[v, .slice (some a) M.length cap]).run Try.prog w = .ok v' w2 ∧ OwnI w2 base v' (L ++ M) ∧ w.grownBy w2 v.ownBlock := by
  obtain ⟨i0, hi, hz0, hz1, hz2⟩ := info_parts infoIt
  obtain ⟨v', w2, hrun, hown2, hg, hnil, hloc⟩ := run_append_own_at (P := Try.prog) w base 26 26 41 i0 _ 3 32
    Try.underlying26 hi hz0 hz1 hz2 rfl (by decide) _ _ _ h.1 a M.length cap (cellsI3 M) (cells3_len M) hc (cells3_one M) (by unfold maxLen; omega) (by omega) hb
  refine ⟨v', w2, hrun, ⟨?_, by rw [List.length_append]; exact hl, fun e he => ?_⟩, hg⟩
  · rw [cells3_app, List.length_append]; exact hown2
  · rcases List.mem_append.1 he with h1 | h1
    · exact h.2.2 e h1
    · exact hM e h1
theorem OwnI.alloc {w : World} {base : Nat} {v : Value} {L : List (Ent Key)} (h : OwnI w base v L) (o : Obj) : OwnI (w.alloc o) base v L := ⟨h.1.alloc o, h.2⟩
theorem OwnI.lt {w : World} {base g : Nat} {v : Value} {L : List (Ent Key)} (h : OwnI w base v L) (hg : v.ownBlock = some g) : g < w.heap.size ∧ base ≤ g := by
  rcases h.1.2 with ⟨rfl, _⟩ | ⟨g', cap, arr, rfl, hb, h2, h3⟩
  · cases hg
  · cases hg; exact ⟨(Array.getElem?_eq_some_iff.1 h2).1, hb⟩
/-- 'append(l, x)'. -/
theorem app_item {w : World} {base : Nat} {v : Value} {L : List (Ent Key)} (h : OwnI w base v L) (x : Ent Key) (hx : x.key.size ≤ maxLen) (hl : L.length ≤ 1999) (hb : base ≤ w.heap.size) :
    ∃ (v' : Value) (w2 : World), (Builtin.append_ #[26, 26] 26 #[v, .slice (some ⟨w.heap.size, 0, none⟩) 1 1]).run Try.prog (w.alloc (.cells #[.string x.key, .int .i64 x.one, .int .i64 x.two] 41)) = .ok v' w2 ∧ OwnI w2 base v' (L ++ [x]) ∧ w.grownBy w2 v.ownBlock := by
  obtain ⟨v', w2, h1, h2, h3⟩ := app_items (w := w.alloc (.cells #[.string x.key, .int .i64 x.one, .int .i64 x.two] 41)) (M := [x]) (a := ⟨w.heap.size, 0, none⟩) (cap := 1) (h.alloc _) (by simpa using hx) (fun j u hj => by
    rw [show (⟨w.heap.size, 0, none⟩ : Addr).add j = ⟨w.heap.size, j, none⟩ by unfold Addr.add; split <;> simp_all, cell_of_row _ _ _ _ _ _ (heap_alloc_new w _)]
    simpa [cellsI3] using hj) (by simp; omega) (by simp; omega)
  exact ⟨v', w2, h1, h2, (World.grownBy_alloc w _ _).trans h3⟩

def FindR (L : List (Ent Key)) (key : Key) (w1 : World) (g : Nat) (iz : Value) (W : World) : Prop := ∃ i, g + i = L.length ∧ iz = .int .i64 (i : Int) ∧ W = w1 ∧ ∀ j e, j < i → L[j]? = some e → e.key ≠ key
theorem find_first {L : List (Ent Key)} {key : Key} {i : Nat} {x : Ent Key} (hx : L[i]? = some x) (hk : x.key = key) (hb : ∀ j e, j < i → L[j]? = some e → e.key ≠ key) : find L key = some x := by
  unfold find
  rw [List.find?_eq_some_iff_getElem]
  obtain ⟨hi, he⟩ := List.getElem?_eq_some_iff.1 hx
  refine ⟨by simpa using hk, i, hi, he, fun j hj => ?_⟩
  have := hb j L[j] hj (List.getElem?_eq_getElem (by omega))
  simpa using this

set_option maxHeartbeats 1000000 in
set_option maxRecDepth 100000 in
theorem refFind_any (w : World) (g : Nat) (v : Value) (L : List (Ent Key)) (key : Key) (h : RRow w g v L) :
    Calls Try.prog 10 #[v, .string key] w (ValBelow (rankV (find L key)) w) := by
  obtain ⟨A, c, rfl⟩ := h.shape
  have B1 := Lib.hid ((Below.refl w.heap.size w).alloc (Nat.le_refl _) (.cells #[.int .i64 0, .int .i64 0] 31 (0, 0)))
  have BX := heap_alloc_new w (.cells #[.int .i64 0, .int .i64 0] 31 (0, 0))
  have hr1 := h.below B1.out
  obtain ⟨w1, hw1⟩ : ∃ w1, w.alloc (.cells #[.int .i64 0, .int .i64 0] 31 (0, 0)) = w1 := ⟨_, rfl⟩
  rw [hw1] at B1 BX hr1
  obtain ⟨bx, hbx⟩ : ∃ bx, w.heap.size = bx := ⟨_, rfl⟩
  have HBX := Lib.hid hbx
  rw [hbx] at BX
  have HR := Lib.hid hr1
  have HX := Lib.hid BX
  have hl := h.1
  have hgne : (0 < L.length → g ≠ bx) := fun h0 => by
    obtain ⟨x, hx⟩ : ∃ x, L[0]? = some x := ⟨_, List.getElem?_eq_getElem h0⟩
    obtain ⟨_, _, _, hg, _⟩ := h.at hx
    omega
  have HG := Lib.hid hgne
  obtain ⟨n, hn⟩ : ∃ n, L.length = n := ⟨_, rfl⟩
  have HN := Lib.hid hn
  rw [hn] at hl ⊢
  clear h hr1 BX hgne hn
  go_enter Try.func10, Try.ntmps10
  go_wp2_with fail
  clear hw1 hbx
  go_loopg [6] n (fun g iz W => FindR L key w1 g iz W)
  case atStart => exact ⟨0, by rw [HN.out]; omega, rfl, rfl, fun j e hj => by omega⟩
  case round =>
    obtain ⟨i, hgi, rfl, rfl, hno⟩ := hrel
    have NO := Lib.hid hno
    have GI := Lib.hid hgi
    have x0 : wr.cell? ⟨bx, 0, none⟩ = some (.int .i64 0) := cell_of_row wr _ 0 _ _ _ HX.out
    have x1 : wr.cell? ⟨bx, 1, none⟩ = some (.int .i64 0) := cell_of_row wr _ 1 _ _ _ HX.out
    have g0 : wr.frozen? ⟨bx, 0, none⟩ = false := frozen_of_row wr _ 0 _ _ HX.out
    have g1 : wr.frozen? ⟨bx, 1, none⟩ = false := frozen_of_row wr _ 1 _ _ HX.out
    clear hno hgi
    by_cases hi : i < n
    · have e0 : decide (i < n) = true := by simpa using hi
      obtain ⟨x, hx⟩ : ∃ x, L[i]? = some x := ⟨_, List.getElem?_eq_getElem (by rw [HN.out]; exact hi)⟩
      obtain ⟨o, c', hv, hg, hc1, hc2, m0, m1, m2⟩ := HR.out.at hx
      injection hv with hv1 hvn hv2
      clear hvn
      subst hv1
      subst hv2
      rw [HN.out] at hc1
      unfold maxLen at hc2
      have hne := HG.out (by rw [HN.out]; omega)
      have XX := Lib.hid hx
      clear hx
      by_cases hk : x.key = key
      · have e1 := beqS_yes hk
        have LR := Lib.hid (loadR31 _ bx _ _ (two_stored HX.out (.int .i64 x.one) (.int .i64 x.two)).1 (two_stored HX.out (.int .i64 x.one) (.int .i64 x.two)).2)
        have FF := Lib.hid (find_first XX.out hk NO.out)
        clear hk
        go_wp2_with fail
        refine bodyPost_ret (results_cell1 rfl _ _ _ ⟨bx, 0, none⟩ _ rfl LR.out) rfl ?_
        rw [FF.out]
        exact ⟨rfl, (B1.out.setCell (p := ⟨bx, 0, none⟩) (Nat.le_of_eq HBX.out) _).setCell (p := ⟨bx, 1, none⟩) (Nat.le_of_eq HBX.out) _⟩
      · have e1 := beqS_no hk
        have NK := Lib.hid hk
        clear hk
        go_wp2_with fail
        go_roundg (n - (i + 1))
        case measure => have := GI.out; have := HN.out; omega
        case rel =>
          refine ⟨i + 1, by rw [HN.out]; omega, rfl, rfl, fun j e hj he => ?_⟩
          by_cases hji : j = i
          · subst hji; rw [XX.out] at he; cases he; exact NK.out
          · exact NO.out j e (by omega) he
    · have e0 : decide (i < n) = false := by simpa using hi
      have FF := Lib.hid (show find L key = none from by
        cases hf : find L key with
        | none => rfl
        | some e =>
          obtain ⟨hm, hk⟩ := find_some hf
          obtain ⟨j, hj, he⟩ := List.mem_iff_getElem.1 hm
          exact absurd hk (NO.out j e (by have := GI.out; have := HN.out; omega) (by rw [List.getElem?_eq_getElem hj, he])))
      have LR := Lib.hid (loadR31 _ bx _ _ (two_stored HX.out (.int .i64 0) (.int .i64 0)).1 (two_stored HX.out (.int .i64 0) (.int .i64 0)).2)
      go_wp2_with fail
      refine bodyPost_ret (results_cell1 rfl _ _ _ ⟨bx, 0, none⟩ _ rfl LR.out) rfl ?_
      rw [FF.out]
      exact ⟨rfl, (B1.out.setCell (p := ⟨bx, 0, none⟩) (Nat.le_of_eq HBX.out) _).setCell (p := ⟨bx, 1, none⟩) (Nat.le_of_eq HBX.out) _⟩

def RemR (L : List (Ent Key)) (key : Key) (w : World) (g : Nat) (v iz : Value) (W : World) : Prop := ∃ i, g + i = L.length ∧ iz = .int .i64 (i : Int) ∧ OwnI W w.heap.size v (rem (L.take i) key) ∧ Below w.heap.size w W
theorem rem_take {L : List (Ent Key)} {i : Nat} {x : Ent Key} (hx : L[i]? = some x) (key : Key) : rem (L.take (i + 1)) key = rem (L.take i) key ++ (if x.key = key then [] else [x]) := by
  have h2 : L.take (i + 1) = L.take i ++ [x] := by rw [List.take_add_one, hx]; rfl
  unfold rem
  rw [h2, List.filter_append]
  by_cases h : x.key = key <;> simp [h]

set_option maxHeartbeats 1000000 in
set_option maxRecDepth 100000 in
theorem refRemove_any (w : World) (g : Nat) (v : Value) (L : List (Ent Key)) (key : Key) (h : RRow w g v L) (hl : L.length ≤ 1900) :
    Calls Try.prog 14 #[v, .string key] w (RowI (rem L key) w) := by
  obtain ⟨A, c, rfl⟩ := h.shape
  have HR := Lib.hid h
  obtain ⟨n, hn⟩ : ∃ n, L.length = n := ⟨_, rfl⟩
  have HN := Lib.hid hn
  rw [hn] at hl ⊢
  clear h hn
  go_enter Try.func14, Try.ntmps14
  go_wp2_with fail
  go_loopg [5, 6] n (fun g v iz W => RemR L key w g v iz W)
  case atStart => exact ⟨0, by rw [HN.out]; omega, rfl, ownI_nil _ _, Below.refl _ _⟩
  case round =>
    obtain ⟨i, hgi, rfl, hO, hB⟩ := hrel
    have GI := Lib.hid hgi
    have OO := Lib.hid hO
    have BB := Lib.hid hB
    have hlr : (rem (L.take i) key).length ≤ 1900 := by
      have := rem_len_le (L.take i) key
      rw [List.length_take] at this
      have := HN.out
      omega
    clear hgi hB
    by_cases hi : i < n
    · have e0 : decide (i < n) = true := by simpa using hi
      obtain ⟨x, hx⟩ : ∃ x, L[i]? = some x := ⟨_, List.getElem?_eq_getElem (by rw [HN.out]; exact hi)⟩
      obtain ⟨o, c', hv, hg, hc1, hc2, m0, m1, m2⟩ := (HR.out.below BB.out).at hx
      injection hv with hv1 hvn hv2
      clear hvn
      subst hv1
      subst hv2
      rw [HN.out] at hc1
      unfold maxLen at hc2
      have RT := Lib.hid (rem_take hx key)
      have hxs : x.key.size ≤ maxLen := HR.out.2.1 x (List.mem_of_getElem? hx)
      obtain ⟨v', w2, hrun, hO2, hg2⟩ := app_item hO x hxs (by omega) BB.out.size
      obtain ⟨A', c'', rfl⟩ := hO.len
      by_cases hk : x.key = key
      · have e1 := beqS_yes hk
        rw [if_pos hk, List.append_nil] at RT
        clear hk hx hO hrun hO2 hg2 hxs
        go_wp2_with fail
        go_roundg (n - (i + 1))
        case measure => have := GI.out; have := HN.out; omega
        case rel => exact ⟨i + 1, by rw [HN.out]; omega, rfl, by rw [RT.out]; exact OO.out, BB.out⟩
      · have e1 := beqS_no hk
        rw [if_neg hk] at RT
        have HRUN := Lib.hid hrun
        have O2 := Lib.hid hO2
        have B2 := Lib.hid (BB.out.grown hg2 BB.out.size (fun k hk => (hO.lt hk).2))
        obtain ⟨A2, c2, rfl⟩ := hO2.len
        clear hk hx hO hrun hO2 hg2 hxs hlr
        go_wp2_with (at_builtin; refine wpList_append_run rfl _ _ _ rfl _ _ _ _ rfl rfl HRUN.out ?_)
        go_roundg (n - (i + 1))
        case measure => have := GI.out; have := HN.out; omega
        case rel => exact ⟨i + 1, by rw [HN.out]; omega, rfl, by (rw [RT.out]; have := O2.out; rw [List.length_append] at this; exact this), B2.out⟩
    · have e0 : decide (i < n) = false := by simpa using hi
      clear hO hlr
      go_wp2_with fail
      go_ret
      refine ⟨_, rfl, ?_, BB.out⟩
      have := OO.out
      rw [List.take_of_length_le (by rw [HN.out]; omega)] at this
      exact this
end Go.Proofs.Ytfjbancceodhhaa
