/- A list in memory: its own block, its places' block, its map's block; what a store into a place leaves. -/
import Derived.Test.YtlmbeiijijkjeaaChecked
import Derived.Test.YtlmbeiijijkjeaaSeg
import Derived.WalkKit
import Derived.IntWalk
import Derived.LoopTactic
import Derived.Lib.Hide
import Derived.Below
import Derived.Laws.OwnMore
import Derived.OwnWalk
import Derived.RegionTactic
import Derived.BigRegion
namespace Go.Proofs.Ytlmbeiijijkjeaa
open Go.RowKit Sg

theorem ret_int {k : IntKind} {a b : Int} (h : a = b) : Ending.returned (.int k a) = .returned (.int k b) := by rw [h]
theorem ret_kb {s t : ByteArray} {a b : Bool} (h : s = t) (k : a = b) : Ending.returned (.tuple #[.string s, .bool a]) = .returned (.tuple #[.string t, .bool b]) := by rw [h, k]
theorem ret_bool {a b : Bool} (h : a = b) : Ending.returned (.bool a) = .returned (.bool b) := by rw [h]

/-- An arena: how many places, and of each its key, the place ahead and the place behind; the first empty one. -/
structure Ar where
  n : Nat
  K : Nat → ByteArray
  pv : Nat → Nat
  nx : Nat → Nat
  e : Nat

/-- w' is w but for three blocks, and new ones. -/
structure Turned (w w' : World) (a b c : Nat) : Prop where
  os : w'.os = w.os
  tape : w'.tape = w.tape
  output : w'.output = w.output
  size : w.heap.size ≤ w'.heap.size
  block : ∀ k, k < w.heap.size → k ≠ a → k ≠ b → k ≠ c → w'.heap[k]? = w.heap[k]?
theorem Turned.refl (w : World) (a b c : Nat) : Turned w w a b c := ⟨rfl, rfl, rfl, Nat.le_refl _, fun _ _ _ _ _ => rfl⟩
theorem Turned.trans {w w1 w2 : World} {a b c : Nat} (h : Turned w w1 a b c) (k : Turned w1 w2 a b c) : Turned w w2 a b c :=
  ⟨k.os.trans h.os, k.tape.trans h.tape, k.output.trans h.output, Nat.le_trans h.size k.size, fun i hi h1 h2 h3 => (k.block i (Nat.lt_of_lt_of_le hi h.size) h1 h2 h3).trans (h.block i hi h1 h2 h3)⟩
/-- .. where the third block was turned to a new one on the way. -/
theorem Turned.trans' {w w1 w2 : World} {a b c d : Nat} (h : Turned w w1 a b c) (hd : d = c ∨ w.heap.size ≤ d) (k : Turned w1 w2 a b d) : Turned w w2 a b c :=
  ⟨k.os.trans h.os, k.tape.trans h.tape, k.output.trans h.output, Nat.le_trans h.size k.size, fun i hi h1 h2 h3 => (k.block i (Nat.lt_of_lt_of_le hi h.size) h1 h2 (by rcases hd with rfl | hd <;> omega)).trans (h.block i hi h1 h2 h3)⟩
theorem Turned.setCell {w w1 : World} {a b c : Nat} (h : Turned w w1 a b c) {p : Addr} (hp : p.block = a ∨ p.block = b ∨ p.block = c) (u : Value) : Turned w (w1.setCell p u) a b c :=
  h.trans ⟨rfl, rfl, rfl, by simp [World.setCell], fun k _ h1 h2 h3 => Below.heap_setCell _ _ _ _ (by omega)⟩
theorem Turned.drew {w w1 : World} {a b c : Nat} (h : Turned w w1 a b c) : Turned w w1.drew a b c := ⟨h.os, h.tape, h.output, h.size, h.block⟩
theorem Turned.alloc {w w1 : World} {a b c : Nat} (h : Turned w w1 a b c) (o : Obj) : Turned w (w1.alloc o) a b c :=
  h.trans ⟨rfl, rfl, rfl, by simp, fun k hk _ _ _ => Below.heap_alloc _ _ _ hk⟩
theorem Turned.grown {w w1 w2 : World} {a b c : Nat} {r : Option Nat} (h : Turned w w1 a b c) (g : w1.grownBy w2 r) (hr : ∀ k, r = some k → k = a ∨ k = b ∨ k = c ∨ w.heap.size ≤ k) : Turned w w2 a b c :=
  ⟨g.os.trans h.os, g.tape.trans h.tape, g.output.trans h.output, Nat.le_trans h.size g.size, fun i hi h1 h2 h3 => (g.block i (Nat.lt_of_lt_of_le hi h.size) (fun e => by have := hr i e.symm; omega)).trans (h.block i hi h1 h2 h3)⟩
theorem Turned.below {w w' : World} {a b c B : Nat} (h : Turned w w' a b c) (ha : B ≤ a) (hb : B ≤ b) (hc : B ≤ c) (hB : B ≤ w.heap.size) : Below B w w' :=
  ⟨h.os, h.tape, h.output, h.size, fun k hk => h.block k (by omega) (by omega) (by omega) (by omega)⟩
theorem Turned.wide {w w' : World} {l M P : Nat} (h : Turned w w' l P P) : Turned w w' l M P := ⟨h.os, h.tape, h.output, h.size, fun k hk h1 _ h3 => h.block k hk h1 h3 h3⟩
theorem Turned.of_below {w w' : World} {a b c : Nat} (h : Below w.heap.size w w') : Turned w w' a b c := ⟨h.os, h.tape, h.output, h.size, fun k hk _ _ _ => h.block k hk⟩

/-- The list at block l, its map at block M, its places at block P. -/
structure Holds (w : World) (l M P : Nat) (A : Ar) : Prop where
  lM : l ≠ M
  lP : l ≠ P
  MP : M ≠ P
  Mlt : M < w.heap.size
  mem : ∃ (cap : Nat) (arr : Array Value), w.heap[l]? = some (.cells #[.slice (some ⟨P, 0, none⟩) A.n cap, .map (some M), .int .i64 (A.e : Int)] 63 (0, 0)) ∧
    w.heap[P]? = some (.cells arr 67 (0, 0)) ∧ arr.size = cap * 3 ∧ A.n ≤ cap ∧ cap ≤ maxLen ∧
    ∀ i, i < A.n → arr[i * 3]? = some (.string (A.K i)) ∧ arr[i * 3 + 1]? = some (.int .i64 (A.pv i : Int)) ∧ arr[i * 3 + 2]? = some (.int .i64 (A.nx i : Int))
  pos : 1 ≤ A.n
  top : A.n ≤ 1000
  ein : A.e < A.n
  pvin : ∀ i, i < A.n → A.pv i < A.n
  nxin : ∀ i, i < A.n → A.nx i < A.n

section
variable {w : World} {l M P : Nat} {A : Ar}
theorem Holds.llt (h : Holds w l M P A) : l < w.heap.size := by obtain ⟨cap, arr, h1, _⟩ := h.mem; exact (Array.getElem?_eq_some_iff.1 h1).1
theorem Holds.Plt (h : Holds w l M P A) : P < w.heap.size := by obtain ⟨cap, arr, _, h1, _⟩ := h.mem; exact (Array.getElem?_eq_some_iff.1 h1).1
theorem Holds.same {w' : World} (h : Holds w l M P A) (hs : w.heap.size ≤ w'.heap.size) (hl : w'.heap[l]? = w.heap[l]?) (hP : w'.heap[P]? = w.heap[P]?) : Holds w' l M P A := by
  obtain ⟨cap, arr, h1, h2, h3⟩ := h.mem
  exact ⟨h.lM, h.lP, h.MP, Nat.lt_of_lt_of_le h.Mlt hs, ⟨cap, arr, hl.trans h1, hP.trans h2, h3⟩, h.pos, h.top, h.ein, h.pvin, h.nxin⟩
/-- What the list's own block holds. -/
theorem Holds.own (h : Holds w l M P A) : ∃ cap, A.n ≤ cap ∧ cap ≤ maxLen ∧ w.cell? ⟨l, 0, none⟩ = some (.slice (some ⟨P, 0, none⟩) A.n cap) ∧ w.cell? ⟨l, 1, none⟩ = some (.map (some M)) ∧ w.cell? ⟨l, 2, none⟩ = some (.int .i64 (A.e : Int)) := by
  obtain ⟨cap, arr, h1, _, _, h4, h5, _⟩ := h.mem
  exact ⟨cap, h4, h5, cell_of_row w _ 0 _ _ _ h1, cell_of_row w _ 1 _ _ _ h1, cell_of_row w _ 2 _ _ _ h1⟩
theorem Holds.place (h : Holds w l M P A) {i : Nat} (hi : i < A.n) : w.cell? ⟨P, i * 3, none⟩ = some (.string (A.K i)) ∧ w.cell? ⟨P, i * 3 + 1, none⟩ = some (.int .i64 (A.pv i : Int)) ∧ w.cell? ⟨P, i * 3 + 2, none⟩ = some (.int .i64 (A.nx i : Int)) := by
  obtain ⟨cap, arr, _, h2, _, _, _, h6⟩ := h.mem
  obtain ⟨k1, k2, k3⟩ := h6 i hi
  exact ⟨(cell_of_row w _ _ _ _ _ h2).trans k1, (cell_of_row w _ _ _ _ _ h2).trans k2, (cell_of_row w _ _ _ _ _ h2).trans k3⟩
theorem Holds.freeP (h : Holds w l M P A) (j : Nat) : w.frozen? ⟨P, j, none⟩ = false := by
  obtain ⟨cap, arr, _, h2, _⟩ := h.mem
  exact frozen_of_row w _ j _ _ h2
theorem Holds.freeL (h : Holds w l M P A) (j : Nat) : w.frozen? ⟨l, j, none⟩ = false := by
  obtain ⟨cap, arr, h1, _⟩ := h.mem
  exact frozen_of_row w _ j _ _ h1
theorem arr_set3 (arr : Array Value) (c : Nat) (v : Value) (i j k : Nat) (hk : k < 3) (hj : j < 3) (hne : ¬ (i * 3 + k = c * 3 + j)) : (arr.setIfInBounds (c * 3 + j) v)[i * 3 + k]? = arr[i * 3 + k]? :=
  Array.getElem?_setIfInBounds_ne (by omega)

/-- A place's key stored. -/
theorem Holds.setK (h : Holds w l M P A) {i : Nat} (hi : i < A.n) (s : ByteArray) : Holds (w.setCell ⟨P, i * 3, none⟩ (.string s)) l M P { A with K := upd A.K i s } := by
  obtain ⟨cap, arr, h1, h2, h3, h4, h5, h6⟩ := h.mem
  refine ⟨h.lM, h.lP, h.MP, by simpa [World.setCell] using h.Mlt, ⟨cap, _, (heap_setCell_other _ _ _ _ h.lP).trans h1, heap_setCell_same _ _ _ _ _ _ h2, by simpa using h3, h4, h5, fun j hj => ?_⟩, h.pos, h.top, h.ein, h.pvin, h.nxin⟩
  obtain ⟨k1, k2, k3⟩ := h6 j hj
  refine ⟨?_, ?_, ?_⟩
  · by_cases e : j = i
    · subst e
      show _ = some (Value.string (upd A.K j s j))
      rw [upd_same, Array.getElem?_setIfInBounds_self_of_lt (by omega)]
    · show _ = some (Value.string (upd A.K i s j))
      rw [upd_ne e, Array.getElem?_setIfInBounds_ne (by omega)]; exact k1
  · rw [Array.getElem?_setIfInBounds_ne (by omega)]; exact k2
  · rw [Array.getElem?_setIfInBounds_ne (by omega)]; exact k3
/-- The place ahead stored. -/
theorem Holds.setPv (h : Holds w l M P A) {i v : Nat} (hi : i < A.n) (hv : v < A.n) : Holds (w.setCell ⟨P, i * 3 + 1, none⟩ (.int .i64 (v : Int))) l M P { A with pv := upd A.pv i v } := by
  obtain ⟨cap, arr, h1, h2, h3, h4, h5, h6⟩ := h.mem
  refine ⟨h.lM, h.lP, h.MP, by simpa [World.setCell] using h.Mlt, ⟨cap, _, (heap_setCell_other _ _ _ _ h.lP).trans h1, heap_setCell_same _ _ _ _ _ _ h2, by simpa using h3, h4, h5, fun j hj => ?_⟩, h.pos, h.top, h.ein, fun j hj => ?_, h.nxin⟩
  · obtain ⟨k1, k2, k3⟩ := h6 j hj
    refine ⟨?_, ?_, ?_⟩
    · rw [Array.getElem?_setIfInBounds_ne (by omega)]; exact k1
    · by_cases e : j = i
      · subst e
        show _ = some (Value.int .i64 ((upd A.pv j v j : Nat) : Int))
        rw [upd_same, Array.getElem?_setIfInBounds_self_of_lt (by omega)]
      · show _ = some (Value.int .i64 ((upd A.pv i v j : Nat) : Int))
        rw [upd_ne e, Array.getElem?_setIfInBounds_ne (by omega)]; exact k2
    · rw [Array.getElem?_setIfInBounds_ne (by omega)]; exact k3
  · show upd A.pv i v j < A.n
    unfold upd
    split
    · exact hv
    · exact h.pvin j hj
/-- The place behind stored. -/
theorem Holds.setNx (h : Holds w l M P A) {i v : Nat} (hi : i < A.n) (hv : v < A.n) : Holds (w.setCell ⟨P, i * 3 + 2, none⟩ (.int .i64 (v : Int))) l M P { A with nx := upd A.nx i v } := by
  obtain ⟨cap, arr, h1, h2, h3, h4, h5, h6⟩ := h.mem
  refine ⟨h.lM, h.lP, h.MP, by simpa [World.setCell] using h.Mlt, ⟨cap, _, (heap_setCell_other _ _ _ _ h.lP).trans h1, heap_setCell_same _ _ _ _ _ _ h2, by simpa using h3, h4, h5, fun j hj => ?_⟩, h.pos, h.top, h.ein, h.pvin, fun j hj => ?_⟩
  · obtain ⟨k1, k2, k3⟩ := h6 j hj
    refine ⟨?_, ?_, ?_⟩
    · rw [Array.getElem?_setIfInBounds_ne (by omega)]; exact k1
    · rw [Array.getElem?_setIfInBounds_ne (by omega)]; exact k2
    · by_cases e : j = i
      · subst e
        show _ = some (Value.int .i64 ((upd A.nx j v j : Nat) : Int))
        rw [upd_same, Array.getElem?_setIfInBounds_self_of_lt (by omega)]
      · show _ = some (Value.int .i64 ((upd A.nx i v j : Nat) : Int))
        rw [upd_ne e, Array.getElem?_setIfInBounds_ne (by omega)]; exact k3
  · show upd A.nx i v j < A.n
    unfold upd
    split
    · exact hv
    · exact h.nxin j hj
/-- The first empty place stored. -/
theorem Holds.setE (h : Holds w l M P A) {v : Nat} (hv : v < A.n) : Holds (w.setCell ⟨l, 2, none⟩ (.int .i64 (v : Int))) l M P { A with e := v } := by
  obtain ⟨cap, arr, h1, h2, h3, h4, h5, h6⟩ := h.mem
  exact ⟨h.lM, h.lP, h.MP, by simpa [World.setCell] using h.Mlt, ⟨cap, arr, by rw [heap_setCell_same _ _ _ _ _ _ h1]; rfl, (heap_setCell_other _ _ _ _ h.lP.symm).trans h2, h3, h4, h5, h6⟩, h.pos, h.top, hv, h.pvin, h.nxin⟩
theorem Holds.drew (h : Holds w l M P A) : Holds w.drew l M P A := h.same (Nat.le_refl _) rfl rfl
theorem Holds.alloc (h : Holds w l M P A) (o : Obj) : Holds (w.alloc o) l M P A := h.same (by simp) (Below.heap_alloc _ _ _ h.llt) (Below.heap_alloc _ _ _ h.Plt)
end
end Go.Proofs.Ytlmbeiijijkjeaa
