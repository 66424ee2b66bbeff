/- Plain mathematics of a ring of places that are linked both ways, and of a chain of empty places. No program is spoken of. -/
import Derived.Laws.Bits64
namespace Go.Proofs.Ytlmbeiijijkjeaa.Sg
open Go

def upd {α : Type} (f : Nat → α) (i : Nat) (v : α) : Nat → α := fun j => if j = i then v else f j
theorem upd_same {α : Type} (f : Nat → α) (i : Nat) (v : α) : upd f i v i = v := by simp [upd]
theorem upd_ne {α : Type} {f : Nat → α} {i j : Nat} {v : α} (h : j ≠ i) : upd f i v j = f j := by simp [upd, h]

/-- A path, linked both ways, from a by the places of l to b. -/
def Seg (nx pv : Nat → Nat) : Nat → List Nat → Nat → Prop
  | a, [], b => nx a = b ∧ pv b = a
  | a, x :: l, b => nx a = x ∧ pv x = a ∧ Seg nx pv x l b

theorem seg_append {nx pv : Nat → Nat} {x b : Nat} {ys : List Nat} : ∀ {a : Nat} {xs : List Nat}, Seg nx pv a (xs ++ x :: ys) b ↔ Seg nx pv a xs x ∧ Seg nx pv x ys b
  | a, [] => by simp [Seg, and_assoc]
  | a, y :: xs => by
    have := @seg_append nx pv x b ys y xs
    simp only [List.cons_append, Seg, this, and_assoc]
theorem seg_congr {nx pv nx' pv' : Nat → Nat} {b : Nat} : ∀ {a : Nat} {l : List Nat}, Seg nx pv a l b → (∀ i ∈ a :: l, nx' i = nx i) → (∀ i ∈ l ++ [b], pv' i = pv i) → Seg nx' pv' a l b
  | a, [], h, h1, h2 => ⟨(h1 a (by simp)).trans h.1, (h2 b (by simp)).trans h.2⟩
  | a, x :: l, h, h1, h2 => ⟨(h1 a (by simp)).trans h.1, (h2 x (by simp)).trans h.2.1, seg_congr h.2.2 (fun i hi => h1 i (List.mem_cons_of_mem _ hi)) (fun i hi => h2 i (List.mem_cons_of_mem _ hi))⟩
theorem seg_pv_mem {nx pv : Nat → Nat} {b : Nat} : ∀ {a : Nat} {l : List Nat}, Seg nx pv a l b → pv b ∈ a :: l
  | a, [], h => by rw [h.2]; simp
  | a, x :: l, h => List.mem_cons_of_mem _ (seg_pv_mem h.2.2)
theorem seg_nx_mem {nx pv : Nat → Nat} {b : Nat} : ∀ {a : Nat} {l : List Nat}, Seg nx pv a l b → nx a ∈ l ++ [b]
  | a, [], h => by rw [h.1]; simp
  | a, x :: l, h => by rw [h.1]; simp
theorem seg_nx_pv {nx pv : Nat → Nat} {b : Nat} : ∀ {a : Nat} {l : List Nat}, Seg nx pv a l b → nx (pv b) = b
  | a, [], h => by rw [h.2]; exact h.1
  | a, x :: l, h => seg_nx_pv h.2.2
/-- The last link turned to another end. -/
theorem seg_end {nx pv : Nat → Nat} {a n : Nat} : ∀ {s : Nat} {xs : List Nat}, Seg nx pv s xs a → (s :: xs).Nodup → n ∉ xs → Seg (upd nx (pv a) n) (upd pv n (pv a)) s xs n
  | s, [], h, _, _ => by
    obtain ⟨_, h2⟩ := h
    rw [h2]
    exact ⟨upd_same _ _ _, upd_same _ _ _⟩
  | s, x :: xs, h, hn, hx => by
    have hm := seg_pv_mem h.2.2
    have hs : s ∉ x :: xs := (List.nodup_cons.1 hn).1
    refine ⟨?_, ?_, seg_end h.2.2 (List.nodup_cons.1 hn).2 (fun h => hx (List.mem_cons_of_mem _ h))⟩
    · rw [upd_ne (fun e => hs (by rw [e]; exact hm))]; exact h.1
    · rw [upd_ne (fun e => hx (by rw [e]; simp))]; exact h.2.1

/-- A place taken out of the ring. -/
theorem unlink {nx pv : Nat → Nat} {a : Nat} {xs ys : List Nat} (h : Seg nx pv 0 (xs ++ a :: ys) 0) (hn : (0 :: (xs ++ a :: ys)).Nodup) :
    Seg (upd nx (pv a) (nx a)) (upd pv (nx a) (pv a)) 0 (xs ++ ys) 0 := by
  obtain ⟨h1, h2⟩ := seg_append.1 h
  have hn1 : (0 :: xs).Nodup := by
    refine hn.sublist (List.Sublist.cons_cons _ (List.sublist_append_left _ _))
  have hm := seg_pv_mem h1
  cases ys with
  | nil =>
    have e : nx a = 0 := h2.1
    rw [e, List.append_nil]
    exact seg_end h1 hn1 (List.nodup_cons.1 hn1).1
  | cons y ys =>
    have e : nx a = y := h2.1
    rw [e]
    have hq := (List.nodup_cons.1 hn)
    have hq2 := List.nodup_append.1 hq.2
    have hy := List.nodup_cons.1 hq2.2.1
    have hy2 := List.nodup_cons.1 hy.2
    have hyx : y ∉ xs := fun hx => hq2.2.2 y hx y (by simp) rfl
    refine seg_append.2 ⟨seg_end h1 hn1 hyx, seg_congr h2.2.2 (fun i hi => upd_ne ?_) (fun i hi => upd_ne ?_)⟩
    · intro e
      rw [← e] at hm
      rcases List.mem_cons.1 hm with h0 | h0
      · rw [h0] at hi
        exact hq.1 (List.mem_append_right _ (List.mem_cons_of_mem _ hi))
      · exact hq2.2.2 i h0 i (List.mem_cons_of_mem _ hi) rfl
    · intro e
      rcases List.mem_append.1 hi with h0 | h0
      · exact hy2.1 (e ▸ h0)
      · have : i = 0 := by simpa using h0
        exact hq.1 (by rw [← this, e]; simp)

/-- A place laid in at the front. -/
theorem link_front {nx pv : Nat → Nat} {a : Nat} {row : List Nat} (h : Seg nx pv 0 row 0) (hn : (0 :: row).Nodup) (ha : a ∉ 0 :: row) :
    Seg (upd (upd nx a (nx 0)) 0 a) (upd (upd pv a 0) (nx 0) a) 0 (a :: row) 0 := by
  have ha0 : a ≠ 0 := fun e => ha (by simp [e])
  have har : a ∉ row := fun e => ha (List.mem_cons_of_mem _ e)
  have hnx := seg_nx_mem h
  have hane : a ≠ nx 0 := by
    intro e
    rw [← e] at hnx
    rcases List.mem_append.1 hnx with h0 | h0
    · exact har h0
    · exact ha0 (by simpa using h0)
  refine ⟨upd_same _ _ _, ?_, ?_⟩
  · rw [upd_ne hane, upd_same]
  · cases row with
    | nil =>
      have e : nx 0 = 0 := h.1
      refine ⟨?_, ?_⟩
      · rw [upd_ne ha0, upd_same, e]
      · rw [e, upd_same]
    | cons y row =>
      have e : nx 0 = y := h.1
      have h0 := List.nodup_cons.1 hn
      have hy := List.nodup_cons.1 h0.2
      refine ⟨?_, ?_, seg_congr h.2.2 (fun i hi => ?_) (fun i hi => ?_)⟩
      · rw [upd_ne ha0, upd_same, e]
      · rw [e, upd_same]
      · rw [upd_ne (fun e => h0.1 (by rw [← e]; exact hi)), upd_ne (fun e => har (by rw [← e]; exact hi))]
      · rw [e, upd_ne ?_, upd_ne ?_]
        · intro e2
          rcases List.mem_append.1 hi with h1 | h1
          · exact har (by rw [← e2]; exact List.mem_cons_of_mem _ h1)
          · exact ha0 (by rw [← e2]; simpa using h1)
        · intro e2
          rcases List.mem_append.1 hi with h1 | h1
          · exact hy.1 (e2 ▸ h1)
          · have : i = 0 := by simpa using h1
            exact h0.1 (by rw [← this, e2]; simp)

/-- A place laid in at the back. -/
theorem link_back {nx pv : Nat → Nat} {a : Nat} {row : List Nat} (h : Seg nx pv 0 row 0) (hn : (0 :: row).Nodup) (ha : a ∉ 0 :: row) :
    Seg (upd (upd nx a (nx (pv 0))) (pv 0) a) (upd (upd pv a (pv 0)) (nx (pv 0)) a) 0 (row ++ [a]) 0 := by
  have ha0 : a ≠ 0 := fun e => ha (by simp [e])
  have har : a ∉ row := fun e => ha (List.mem_cons_of_mem _ e)
  have hp := seg_pv_mem h
  have hap : a ≠ pv 0 := fun e => ha (e ▸ hp)
  rw [seg_nx_pv h]
  have h0 := List.nodup_cons.1 hn
  refine seg_append.2 ⟨?_, ?_, ?_⟩
  · refine seg_congr (seg_end h hn har) (fun i hi => ?_) (fun i hi => ?_)
    · by_cases e : i = pv 0
      · rw [e, upd_same, upd_same]
      · rw [upd_ne e, upd_ne e, upd_ne (fun e2 => ha (by rw [← e2]; exact hi))]
    · have hi0 : i ≠ 0 := by
        rcases List.mem_append.1 hi with h1 | h1
        · exact fun e => h0.1 (e ▸ h1)
        · have : i = a := by simpa using h1
          rw [this]; exact ha0
      rw [upd_ne hi0]
  · rw [upd_ne hap, upd_same]
  · rw [upd_same]

/-- The chain of empty places. -/
def Fch (nx : Nat → Nat) : Nat → List Nat → Prop
  | e, [] => e = 0
  | e, x :: l => e = x ∧ Fch nx (nx x) l
theorem fch_congr {nx nx' : Nat → Nat} : ∀ {e : Nat} {l : List Nat}, Fch nx e l → (∀ i ∈ l, nx' i = nx i) → Fch nx' e l
  | _, [], h, _ => h
  | e, x :: l, h, h1 => ⟨h.1, by rw [h1 x (by simp)]; exact fch_congr h.2 fun i hi => h1 i (List.mem_cons_of_mem _ hi)⟩

/-- What is left of a row when a key's place goes. -/
theorem filter_split {K : Nat → ByteArray} {xs ys : List Nat} {a : Nat} (hk : ((xs ++ a :: ys).map K).Nodup) : (xs ++ a :: ys).filter (fun i => decide (K i ≠ K a)) = xs ++ ys := by
  rw [List.map_append, List.map_cons] at hk
  have h1 := List.nodup_append.1 hk
  have h2 := List.nodup_cons.1 h1.2.1
  rw [List.filter_append, List.filter_cons_of_neg (by simp)]
  congr 1
  · rw [List.filter_eq_self]
    intro i hi
    simp only [decide_eq_true_eq]
    intro e
    exact h1.2.2 (K i) (List.mem_map_of_mem hi) (K a) (by simp) e
  · rw [List.filter_eq_self]
    intro i hi
    simp only [decide_eq_true_eq]
    intro e
    exact h2.1 (by rw [← e]; exact List.mem_map_of_mem hi)
end Go.Proofs.Ytlmbeiijijkjeaa.Sg
