/- The reference's rows of keys in memory; the contracts of its find, without, front. -/
import Derived.Test.YtmnflcidcoejiaaTg7
namespace Go.Proofs.Ytmnflcidcoejiaa
open Go.RowKit Sg

/-- A key of the reference, with what is told of it. -/
structure KE where
  s : ByteArray
  o : Bool
  d : Bool
abbrev KE.v (e : KE) : Value := .agg #[.string e.s, .bool e.o, .bool e.d]
structure Sl where
  A : Option Addr
  n : Nat
  c : Nat
abbrev Sl.v (r : Sl) : Value := .slice r.A r.n r.c
/-- A slice of keys that reads as a row; its cells lie in a block of P. -/
structure KW (w : World) (P : Nat → Prop) (r : Sl) (L : List KE) : Prop where
  len : L.length = r.n
  le : L.length ≤ 2000
  small : ∀ e ∈ L, e.s.size ≤ maxLen
  cells : L = [] ∨ ∃ g o, P g ∧ r.A = some ⟨g, o, none⟩ ∧ g < w.heap.size ∧ L.length ≤ r.c ∧ r.c ≤ maxLen ∧
    ∀ j x, L[j]? = some x → w.cell? ⟨g, o + j * 3, none⟩ = some (.string x.s) ∧ w.cell? ⟨g, o + j * 3 + 1, none⟩ = some (.bool x.o) ∧ w.cell? ⟨g, o + j * 3 + 2, none⟩ = some (.bool x.d)
section
variable {w w' : World} {P P' : Nat → Prop} {r : Sl} {L : List KE}
theorem KW.same (h : KW w P r L) (hs : w.heap.size ≤ w'.heap.size) (hb : ∀ g, P g → g < w.heap.size → w'.heap[g]? = w.heap[g]?) (hp : ∀ g, P g → g < w.heap.size → P' g) : KW w' P' r L := by
  refine ⟨h.len, h.le, h.small, ?_⟩
  rcases h.cells with h1 | ⟨g, o, hg, e, h1, h2, h3, h4⟩
  · exact Or.inl h1
  · refine Or.inr ⟨g, o, hp g hg h1, e, by omega, h2, h3, fun j x hj => ?_⟩
    obtain ⟨q1, q2, q3⟩ := h4 j x hj
    exact ⟨(World.cell?_of_block (a := ⟨g, o + j * 3, none⟩) (hb g hg h1)).trans q1, (World.cell?_of_block (a := ⟨g, o + j * 3 + 1, none⟩) (hb g hg h1)).trans q2, (World.cell?_of_block (a := ⟨g, o + j * 3 + 2, none⟩) (hb g hg h1)).trans q3⟩
theorem KW.below (h : KW w P r L) (hb : Below w.heap.size w w') : KW w' P r L := h.same hb.size (fun g _ hg => hb.block g hg) fun _ h _ => h
theorem KW.wide (h : KW w P r L) (hp : ∀ g, P g → g < w.heap.size → P' g) : KW w P' r L := h.same (Nat.le_refl _) (fun _ _ _ => rfl) hp
theorem KW.set (h : KW w P r L) {q : Addr} (hq : ¬ P q.block) (u : Value) : KW (w.setCell q u) P r L := h.same (by simp [World.setCell]) (fun g hg _ => Below.heap_setCell _ _ _ _ fun e => hq (e ▸ hg)) fun _ h _ => h
theorem KW.nil (w : World) (P : Nat → Prop) (A : Option Addr) (c : Nat) : KW w P ⟨A, 0, c⟩ [] := ⟨rfl, by simp, by simp, Or.inl rfl⟩
theorem KW.at (h : KW w P r L) {j : Nat} {x : KE} (hj : L[j]? = some x) : ∃ g o, P g ∧ r.A = some ⟨g, o, none⟩ ∧ g < w.heap.size ∧ r.n ≤ r.c ∧ r.c ≤ maxLen ∧ w.cell? ⟨g, o + j * 3, none⟩ = some (.string x.s) ∧ w.cell? ⟨g, o + j * 3 + 1, none⟩ = some (.bool x.o) ∧ w.cell? ⟨g, o + j * 3 + 2, none⟩ = some (.bool x.d) := by
  rcases h.cells with rfl | ⟨g, o, hg, e, h1, h2, h3, h4⟩
  · simp at hj
  · exact ⟨g, o, hg, e, h1, h.len ▸ h2, h3, h4 j x hj⟩
end

/-- The cells of keys. -/
def cellsK (L : List KE) : List Value := L.flatMap fun e => [.string e.s, .bool e.o, .bool e.d]
theorem cellsK_len (L : List KE) : (cellsK L).length = L.length * 3 := by
  induction L with
  | nil => rfl
  | cons x L ih => simp [cellsK] at ih ⊢; omega
theorem cellsK_get : ∀ (L : List KE) (j : Nat) (x : KE), L[j]? = some x → (cellsK L)[j * 3]? = some (.string x.s) ∧ (cellsK L)[j * 3 + 1]? = some (.bool x.o) ∧ (cellsK L)[j * 3 + 2]? = some (.bool x.d)
  | [], j, x, h => by simp at h
  | y :: L, 0, x, h => by
    simp at h; subst h
    exact ⟨rfl, rfl, rfl⟩
  | y :: L, j + 1, x, h => by
    have h' : L[j]? = some x := by simpa using h
    obtain ⟨q1, q2, q3⟩ := cellsK_get L j x h'
    have e : cellsK (y :: L) = [.string y.s, .bool y.o, .bool y.d] ++ cellsK L := rfl
    have key : ∀ m u, (cellsK L)[m]? = some u → (cellsK (y :: L))[m + 3]? = some u := fun m u hm => by
      rw [e, List.getElem?_append_right (by simp)]
      simpa using hm
    refine ⟨?_, ?_, ?_⟩
    · rw [show (j + 1) * 3 = j * 3 + 3 by omega]; exact key _ _ q1
    · rw [show (j + 1) * 3 + 1 = j * 3 + 1 + 3 by omega]; exact key _ _ q2
    · rw [show (j + 1) * 3 + 2 = j * 3 + 2 + 3 by omega]; exact key _ _ q3
theorem cellsK_app (L M : List KE) : cellsK (L ++ M) = cellsK L ++ cellsK M := by simp [cellsK]
theorem cellsK_one (L : List KE) : ∀ u ∈ cellsK L, u.oneCell' = true := by
  intro u hu
  unfold cellsK at hu
  obtain ⟨e, _, he⟩ := List.mem_flatMap.1 hu
  simp at he
  rcases he with rfl | rfl | rfl <;> rfl
theorem cellsK_inv : ∀ (L : List KE) (m : Nat) (u : Value), (cellsK L)[m]? = some u → ∃ j x, L[j]? = some x ∧ ((m = j * 3 ∧ u = .string x.s) ∨ (m = j * 3 + 1 ∧ u = .bool x.o) ∨ (m = j * 3 + 2 ∧ u = .bool x.d))
  | [], m, u, h => by simp [cellsK] at h
  | y :: L, m, u, h => by
    have e : cellsK (y :: L) = [.string y.s, .bool y.o, .bool y.d] ++ cellsK L := rfl
    rw [e] at h
    by_cases hm : m < 3
    · rcases m with _ | _ | _ | m
      · simp at h; exact ⟨0, y, rfl, Or.inl ⟨rfl, h.symm⟩⟩
      · simp at h; exact ⟨0, y, rfl, Or.inr (Or.inl ⟨rfl, h.symm⟩)⟩
      · simp at h; exact ⟨0, y, rfl, Or.inr (Or.inr ⟨rfl, h.symm⟩)⟩
      · omega
    · rw [List.getElem?_append_right (by simp; omega)] at h
      obtain ⟨j, x, hj, hc⟩ := cellsK_inv L _ u h
      simp only [List.length_cons, List.length_nil] at hc
      refine ⟨j + 1, x, by simpa using hj, ?_⟩
      rcases hc with ⟨h1, h2⟩ | ⟨h1, h2⟩ | ⟨h1, h2⟩
      · exact Or.inl ⟨by omega, h2⟩
      · exact Or.inr (Or.inl ⟨by omega, h2⟩)
      · exact Or.inr (Or.inr ⟨by omega, h2⟩)
/-- A slice of keys of the call's own. -/
def OwnK (w : World) (base : Nat) (v : Value) (L : List KE) : Prop := w.ownsRow base 68 3 v L.length (cellsK L) ∧ L.length ≤ 2000 ∧ ∀ e ∈ L, e.s.size ≤ maxLen
theorem OwnK.row {w : World} {base : Nat} {v : Value} {L : List KE} {P : Nat → Prop} (h : OwnK w base v L) (hP : ∀ k, base ≤ k → P k) : ∃ r : Sl, v = r.v ∧ KW w P r L := by
  obtain ⟨h1, h2, h3⟩ := h
  have h1' := h1
  rcases h1.2 with ⟨rfl, h0⟩ | ⟨g, cap, cur, rfl, hb, hg, hn, hm, hs, ht⟩
  · obtain rfl : L = [] := List.eq_nil_of_length_eq_zero h0
    exact ⟨⟨none, 0, 0⟩, rfl, KW.nil _ _ _ _⟩
  · refine ⟨⟨some ⟨g, 0, none⟩, L.length, cap⟩, rfl, rfl, h2, h3, Or.inr ⟨g, 0, hP g hb, rfl, (Array.getElem?_eq_some_iff.1 hg).1, hn, hm, fun j x hj => ?_⟩⟩
    obtain ⟨q1, q2, q3⟩ := cellsK_get L j x hj
    have key : ∀ m u, (cellsK L)[m]? = some u → w.cell? ⟨g, 0 + m, none⟩ = some u := fun m u hm => by
      have := h1'.cells (g := g) rfl m u hm
      rw [show (⟨g, 0, none⟩ : Addr).add m = ⟨g, 0 + m, none⟩ by unfold Addr.add; split <;> simp_all] at this
      exact this
    exact ⟨key _ _ q1, key _ _ q2, key _ _ q3⟩
theorem OwnK.len {w : World} {base : Nat} {v : Value} {L : List KE} (h : OwnK w base v L) : ∃ A c, v = .slice A L.length c := by
  rcases h.1.2 with ⟨rfl, h0⟩ | ⟨g, cap, cur, rfl, _⟩
  · exact ⟨none, 0, by rw [h0]⟩
  · exact ⟨_, _, rfl⟩
theorem ownK_nil (w : World) (base : Nat) : OwnK w base (.slice none 0 0) [] := ⟨⟨rfl, Or.inl ⟨rfl, rfl⟩⟩, by simp, by simp⟩
theorem infoK : (Try.prog.info? 68).map (fun i => (i.zero, i.size, i.bytes)) = some (some (.agg #[.string ⟨#[]⟩, .bool false, .bool false]), 3, 24) := by kernel_rfl
theorem OwnK.lt {w : World} {base g : Nat} {v : Value} {L : List KE} (h : OwnK w base v L) (hg : v.ownBlock = some g) : g < w.heap.size ∧ base ≤ g := by
  rcases h.1.2 with ⟨rfl, _⟩ | ⟨g', cap, arr, rfl, hb, h2, h3⟩
  · cases hg
  · cases hg; exact ⟨(Array.getElem?_eq_some_iff.1 h2).1, hb⟩
/-- 'append(l, x)'. -/
theorem app_k {w : World} {base : Nat} {v : Value} {L : List KE} (h : OwnK w base v L) (x : KE) (hx : x.s.size ≤ maxLen) (hl : L.length ≤ 1999) (hb : base ≤ w.heap.size) :
    ∃ (A : Option Addr) (c : Nat) (w2 : World), (Builtin.append_ #[27, 27] 27 #[v, .slice (some ⟨w.heap.size, 0, none⟩) 1 1]).run Try.prog (w.alloc (.cells #[.string x.s, .bool x.o, .bool x.d] 68)) = .ok (.slice A (L.length + 1) c) w2 ∧
      OwnK w2 base (.slice A (L.length + 1) c) (L ++ [x]) ∧ w.grownBy w2 v.ownBlock := by
  obtain ⟨i0, hi, hz0, hz1, hz2⟩ := info_parts infoK
  obtain ⟨v', w2, hrun, hown2, hg, hnil, hloc⟩ := run_append_own_at (P := Try.prog) (w.alloc (.cells #[.string x.s, .bool x.o, .bool x.d] 68)) base 27 27 68 i0 _ 3 24
    Try.underlying27 hi hz0 hz1 hz2 rfl (by decide) _ _ _ (h.1.alloc _) ⟨w.heap.size, 0, none⟩ 1 1 (cellsK [x]) rfl (fun j u hj => by
      rw [show (⟨w.heap.size, 0, none⟩ : Addr).add j = ⟨w.heap.size, j, none⟩ by unfold Addr.add; split <;> simp_all, cell_of_row _ _ _ _ _ _ (heap_alloc_new w _)]
      simpa [cellsK] using hj) (cellsK_one [x]) (by unfold maxLen; omega) (by omega) (by simp; omega)
  have hown3 := hown2
  rcases hown2.2 with ⟨_, h0⟩ | ⟨g, cap, cur, rfl, _⟩
  · omega
  refine ⟨_, cap, w2, hrun, ⟨?_, by rw [List.length_append]; simp only [List.length_cons, List.length_nil]; omega, fun e he => ?_⟩, (World.grownBy_alloc w _ _).trans hg⟩
  · rw [cellsK_app, List.length_append]; exact hown3
  · rcases List.mem_append.1 he with h1 | h1
    · exact h.2.2 e h1
    · rw [List.mem_singleton.1 h1]; exact hx
theorem ownK_one (w : World) (x : KE) (hx : x.s.size ≤ maxLen) : OwnK (w.alloc (.cells #[.string x.s, .bool x.o, .bool x.d] 68)) w.heap.size (.slice (some ⟨w.heap.size, 0, none⟩) 1 1) [x] :=
  ⟨⟨rfl, Or.inr ⟨w.heap.size, 1, _, rfl, Nat.le_refl _, heap_alloc_new w _, Nat.le_refl _, by unfold maxLen; omega, rfl, rfl⟩⟩, by simp, by simpa using hx⟩
/-- 'append(l, m...)', m anywhere. -/
theorem app_ks {w : World} {base : Nat} {v : Value} {L M : List KE} {P : Nat → Prop} {r : Sl} (h : OwnK w base v L) (k : KW w P r M) (hl : L.length + M.length ≤ 2000) (hb : base ≤ w.heap.size) :
    ∃ (v' : Value) (w2 : World), (Builtin.append_ #[27, 27] 27 #[v, r.v]).run Try.prog w = .ok v' w2 ∧ OwnK w2 base v' (L ++ M) ∧ w.grownBy w2 v.ownBlock := by
  obtain ⟨i0, hi, hz0, hz1, hz2⟩ := info_parts infoK
  obtain ⟨A, n, c⟩ := r
  have hln := k.len
  simp only at hln
  have hsm : ∀ y ∈ L ++ M, y.s.size ≤ maxLen := fun y hy => by
    rcases List.mem_append.1 hy with h1 | h1
    · exact h.2.2 y h1
    · exact k.small y h1
  rcases k.cells with rfl | ⟨g, o, _, e, k1, k2, k3, k4⟩
  · obtain rfl : n = 0 := hln.symm
    refine ⟨v, w, ?_, by rw [List.append_nil]; exact h, ⟨rfl, rfl, rfl, Nat.le_refl _, fun _ _ _ => rfl⟩⟩
    rcases h.1.2 with ⟨rfl, _⟩ | ⟨g, cap, cur, rfl, _, _, h3, _⟩
    · cases A <;> simp [Builtin.append_, run_underlying Try.underlying27, sizeOf, typeInfo, hi, Builtin.lenOf, Builtin.firstCells, storeCells, loadCells, loadCellsFrom]
    · cases A <;> simp [Builtin.append_, run_underlying Try.underlying27, sizeOf, typeInfo, hi, Builtin.lenOf, Builtin.firstCells, storeCells, loadCells, loadCellsFrom, h3]
  · simp only at e k2 k3
    subst e
    subst hln
    obtain ⟨v', w2, hrun, hown2, hg, hnil, hloc⟩ := run_append_own_at (P := Try.prog) w base 27 27 68 i0 _ 3 24
      Try.underlying27 hi hz0 hz1 hz2 rfl (by decide) _ _ _ h.1 ⟨g, o, none⟩ M.length c (cellsK M) (cellsK_len M) (fun j u hj => by
        rw [show (⟨g, o, none⟩ : Addr).add j = ⟨g, o + j, none⟩ by unfold Addr.add; split <;> simp_all]
        obtain ⟨i, x, hx, hc⟩ := cellsK_inv M j u hj
        obtain ⟨q1, q2, q3⟩ := k4 i x hx
        rcases hc with ⟨rfl, rfl⟩ | ⟨rfl, rfl⟩ | ⟨rfl, rfl⟩
        · exact q1
        · rw [← Nat.add_assoc]; exact q2
        · rw [← Nat.add_assoc]; exact q3) (cellsK_one M) (by unfold maxLen; omega) (by omega) hb
    refine ⟨v', w2, hrun, ⟨?_, by rw [List.length_append]; omega, hsm⟩, hg⟩
    rw [cellsK_app, List.length_append]; exact hown2

theorem sizeK (w : World) : (sizeOf 68).run Try.prog w = .ok 3 w := by kernel_rfl
theorem elemK : Try.prog.underlying 27 = some (.slice (Try.prog.elem 27)) := by kernel_rfl
theorem elemK1 : Try.prog.elem 27 = 68 := by kernel_rfl
/-- 'l[:p]'. -/
theorem krow_to {w : World} {P : Nat → Prop} {r : Sl} {L : List KE} (h : KW w P r L) {p : Nat} (hp : p ≤ r.n) :
    ∃ r' : Sl, r'.n = p ∧ (∀ W : World, (Instr.sliceAt 27 (.slice r.A r.n r.c) none (some (.int .i64 (p : Int))) none).run Try.prog W = .ok (.slice r'.A r'.n r'.c) W) ∧
      (∀ W : World, (Instr.slice 27 (.slice r.A r.n r.c) none (some (.int .i64 (p : Int))) none).run Try.prog W = .ok (.slice r'.A r'.n r'.c) W) ∧ KW w P r' (L.take p) := by
  obtain ⟨A, n, c⟩ := r
  have hln := h.len
  simp only at hln hp ⊢
  have hdd : (L.take p).length = p := by rw [List.length_take, hln]; omega
  have hsm : ∀ e ∈ L.take p, e.s.size ≤ maxLen := fun e he => h.small e (List.mem_of_mem_take he)
  by_cases h0 : p = 0
  · subst h0
    have hrun : ∀ W : World, (Instr.slice 27 (.slice A n c) none (some (.int .i64 ((0 : Nat) : Int))) none).run Try.prog W = .ok (.slice (if c = 0 then A else A.map (·.add (0 * 3))) 0 c) W := fun W => by
      have hnc : 0 ≤ c := Nat.zero_le _
      rw [run_slice_h W _ _ _ _ elemK .i64 ((0 : Nat) : Int) (by omega) (by omega), elemK1, sizeK]
      rfl
    refine ⟨⟨if c = 0 then A else A.map (·.add (0 * 3)), 0, c⟩, rfl, fun W => (run_sliceAt_slice W _ _ _ _ _ elemK).trans (hrun W), hrun, ?_⟩
    rw [List.take_zero]
    exact KW.nil _ _ _ _
  · rcases h.cells with rfl | ⟨g, o, hg, e, h1, h2, h3, h4⟩
    · simp at hln; omega
    · simp only at e h2 h3
      subst e
      have hrun : ∀ W : World, (Instr.slice 27 (.slice (some ⟨g, o, none⟩) n c) none (some (.int .i64 (p : Int))) none).run Try.prog W = .ok (.slice (some ⟨g, o, none⟩) p c) W := fun W => by
        rw [run_slice_h W _ _ _ _ elemK .i64 (p : Int) (by omega) (by omega), elemK1, sizeK]
        show Result.ok (sliced _ 0 _ _ _) _ = _
        unfold sliced
        rw [if_neg (by omega)]
        simp [Addr.add]
      refine ⟨⟨some ⟨g, o, none⟩, p, c⟩, rfl, fun W => (run_sliceAt_slice W _ _ _ _ _ elemK).trans (hrun W), hrun, hdd, by have := h.le; omega, hsm, Or.inr ⟨g, o, hg, rfl, h1, by rw [hdd]; show p ≤ c; omega, h3, fun j x hj => ?_⟩⟩
      rw [List.getElem?_take] at hj
      split at hj
      · exact h4 j x hj
      · cases hj

/-! find, without, front. -/
def fk (L : List KE) (k : ByteArray) : KE := (L.find? fun e => decide (e.s = k)).getD ⟨⟨#[]⟩, false, false⟩
def isK (L : List KE) (k : ByteArray) : Bool := L.any fun e => decide (e.s = k)
def wo (L : List KE) (k : ByteArray) : List KE := L.filter fun e => !decide (e.s = k)
theorem wo_le (L : List KE) (k : ByteArray) : (wo L k).length ≤ L.length := List.length_filter_le _ _
def KBox (w : World) (p : Nat) (e : KE) : Prop := w.heap[p]? = some (.cells #[.string e.s, .bool e.o, .bool e.d] 68 (0, 0))
theorem KBox.lt {w : World} {p : Nat} {e : KE} (k : KBox w p e) : p < w.heap.size := (Array.getElem?_eq_some_iff.1 k).1
theorem KBox.c {w : World} {p : Nat} {e : KE} (k : KBox w p e) : w.cell? ⟨p, 0, none⟩ = some (.string e.s) ∧ w.cell? ⟨p, 1, none⟩ = some (.bool e.o) ∧ w.cell? ⟨p, 2, none⟩ = some (.bool e.d) := ⟨cell_of_row w _ 0 _ _ _ k, cell_of_row w _ 1 _ _ _ k, cell_of_row w _ 2 _ _ _ k⟩
theorem KBox.f {w : World} {p : Nat} {e : KE} (k : KBox w p e) : w.frozen? ⟨p, 0, none⟩ = false ∧ w.frozen? ⟨p, 1, none⟩ = false ∧ w.frozen? ⟨p, 2, none⟩ = false := ⟨frozen_of_row w _ 0 _ _ k, frozen_of_row w _ 1 _ _ k, frozen_of_row w _ 2 _ _ k⟩
theorem KBox.put {w : World} {p : Nat} {e : KE} (k : KBox w p e) (e' : KE) : KBox (((w.setCell ⟨p, 0, none⟩ (.string e'.s)).setCell ⟨p, 1, none⟩ (.bool e'.o)).setCell ⟨p, 2, none⟩ (.bool e'.d)) p e' := by
  unfold KBox at *
  have r1 : (w.setCell ⟨p, 0, none⟩ (.string e'.s)).heap[p]? = some (.cells #[.string e'.s, .bool e.o, .bool e.d] 68 (0, 0)) := by rw [heap_setCell_same _ _ _ _ _ _ k]; rfl
  have r2 : ((w.setCell ⟨p, 0, none⟩ (.string e'.s)).setCell ⟨p, 1, none⟩ (.bool e'.o)).heap[p]? = some (.cells #[.string e'.s, .bool e'.o, .bool e.d] 68 (0, 0)) := by rw [heap_setCell_same _ _ _ _ _ _ r1]; rfl
  rw [heap_setCell_same _ _ _ _ _ _ r2]; rfl
theorem load_k {w : World} {p : Nat} {e : KE} (k : KBox w p e) : (loadVar 68 ⟨p, 0, none⟩).run Try.prog w = .ok e.v w := by
  obtain ⟨k0, k1, k2⟩ := k.c
  unfold loadVar
  go_simp
theorem results_ct {fn : Func} {a u : Tmp} {ty : TypeId} (h : fn.results = #[.cell a ty, .tmp u]) (tmps : Array Value) (P : Program) (w : World) (p : Addr) (v : Value) (ha : tmps.getD a undef = .pointer (some p)) (hv : (loadVar ty p).run P w = .ok v w) :
    (results fn tmps).run P w = .ok (.tuple #[v, tmps.getD u undef]) w := by
  rw [Array.getD_eq_getD_getElem?] at ha
  simp [results, h, ha, asAddr, hv]
theorem results_cc {fn : Func} {a u : Tmp} {ty tu : TypeId} (h : fn.results = #[.cell a ty, .cell u tu]) (tmps : Array Value) (P : Program) (w : World) (p q : Addr) (v x : Value) (ha : tmps.getD a undef = .pointer (some p)) (hv : (loadVar ty p).run P w = .ok v w)
    (hu : tmps.getD u undef = .pointer (some q)) (hx : (loadVar tu q).run P w = .ok x w) : (results fn tmps).run P w = .ok (.tuple #[v, x]) w := by
  rw [Array.getD_eq_getD_getElem?] at ha hu
  simp [results, h, ha, hu, asAddr, hv, hx]
def ValB (v : Value) (w : World) (e : Ending) (w' : World) : Prop := e = .returned v ∧ Below w.heap.size w w'
end Go.Proofs.Ytmnflcidcoejiaa
