/- The contracts of a cache's Sizes, New. -/
import Derived.Test.YtlmbeiijijkjeaaWd
namespace Go.Proofs.Ytlmbeiijijkjeaa
open Go.RowKit Sg

def szA (n0 n1 n2 n3 : Int) : Nat → Array Value
  | 0 => #[.int .i64 0, .int .i64 0, .int .i64 0, .int .i64 0]
  | 1 => #[.int .i64 n0, .int .i64 0, .int .i64 0, .int .i64 0]
  | 2 => #[.int .i64 n0, .int .i64 n1, .int .i64 0, .int .i64 0]
  | 3 => #[.int .i64 n0, .int .i64 n1, .int .i64 n2, .int .i64 0]
  | _ => #[.int .i64 n0, .int .i64 n1, .int .i64 n2, .int .i64 n3]
/-- What Sizes has in memory. -/
structure SzR (w : World) (arr : Array Value) (W : World) : Prop where
  bel : Below w.heap.size w W
  res : W.heap[w.heap.size]? = some (.cells (szA 0 0 0 0 0) 42 (0, 0))
  box : W.heap[w.heap.size + 1]? = some (.cells arr 42 (0, 0))
theorem SzR.next {w W : World} {arr arr' : Array Value} (h : SzR w arr W) (k : Nat) (v : Value) (x : Obj) (ha : arr' = arr.setIfInBounds k v) : SzR w arr' ((W.alloc x).setCell ⟨w.heap.size + 1, k, none⟩ v) := by
  have hs : w.heap.size + 1 < W.heap.size := (Array.getElem?_eq_some_iff.1 h.box).1
  have b1 := h.bel.alloc h.bel.size x
  refine ⟨b1.setCell (p := ⟨w.heap.size + 1, k, none⟩) (Nat.le_succ _) v, ?_, ?_⟩
  · rw [Below.heap_setCell _ _ _ _ (show w.heap.size ≠ w.heap.size + 1 by omega)]
    exact (Below.heap_alloc _ _ _ (by omega)).trans h.res
  · have q : (W.alloc x).heap[w.heap.size + 1]? = some (.cells arr 42 (0, 0)) := (Below.heap_alloc _ _ _ (by omega)).trans h.box
    rw [heap_setCell_same _ _ _ _ _ _ q, ha]
theorem SzR.start (w : World) : SzR w (szA 0 0 0 0 0) ((w.alloc (.cells (szA 0 0 0 0 0) 42)).alloc (.cells (szA 0 0 0 0 0) 42)) := by
  have s1 : (w.alloc (.cells (szA 0 0 0 0 0) 42)).heap.size = w.heap.size + 1 := by simp
  have b1 := (Below.refl w.heap.size w).alloc (Nat.le_refl _) (.cells (szA 0 0 0 0 0) 42)
  have q := heap_alloc_new (w.alloc (.cells (szA 0 0 0 0 0) 42)) (.cells (szA 0 0 0 0 0) 42)
  rw [s1] at q
  exact ⟨b1.alloc b1.size _, (Below.heap_alloc _ _ _ (by rw [s1]; omega)).trans (heap_alloc_new _ _), q⟩
theorem SzR.out {w W : World} {n0 n1 n2 n3 : Int} (h : SzR w (szA n0 n1 n2 n3 4) W) : ((((W.setCell ⟨w.heap.size, 0, none⟩ (.int .i64 n0)).setCell ⟨w.heap.size, 1, none⟩ (.int .i64 n1)).setCell ⟨w.heap.size, 2, none⟩ (.int .i64 n2)).setCell ⟨w.heap.size, 3, none⟩ (.int .i64 n3)).heap[w.heap.size]? = some (.cells #[.int .i64 n0, .int .i64 n1, .int .i64 n2, .int .i64 n3] 42 (0, 0)) := by
  have r0 : (W.setCell ⟨w.heap.size, 0, none⟩ (.int .i64 n0)).heap[w.heap.size]? = some (.cells #[.int .i64 n0, .int .i64 0, .int .i64 0, .int .i64 0] 42 (0, 0)) := by rw [heap_setCell_same _ _ _ _ _ _ h.res]; rfl
  have r1 : ((W.setCell ⟨w.heap.size, 0, none⟩ (.int .i64 n0)).setCell ⟨w.heap.size, 1, none⟩ (.int .i64 n1)).heap[w.heap.size]? = some (.cells #[.int .i64 n0, .int .i64 n1, .int .i64 0, .int .i64 0] 42 (0, 0)) := by rw [heap_setCell_same _ _ _ _ _ _ r0]; rfl
  have r2 : (((W.setCell ⟨w.heap.size, 0, none⟩ (.int .i64 n0)).setCell ⟨w.heap.size, 1, none⟩ (.int .i64 n1)).setCell ⟨w.heap.size, 2, none⟩ (.int .i64 n2)).heap[w.heap.size]? = some (.cells #[.int .i64 n0, .int .i64 n1, .int .i64 n2, .int .i64 0] 42 (0, 0)) := by rw [heap_setCell_same _ _ _ _ _ _ r1]; rfl
  rw [heap_setCell_same _ _ _ _ _ _ r2]; rfl
theorem results_c {fn : Func} {a : Tmp} {ty : TypeId} (h : fn.results = #[.cell a ty]) (tmps : Array Value) (P : Program) (w : World) (p : Addr) (v : Value) (ha : tmps.getD a undef = .pointer (some p)) (hv : (loadVar ty p).run P w = .ok v w) :
    (results fn tmps).run P w = .ok v w := by
  rw [Array.getD_eq_getD_getElem?] at ha
  simp [results, h, ha, asAddr, hv]
theorem load_four {w : World} {sb : Nat} {n0 n1 n2 n3 : Int} (h : w.heap[sb]? = some (.cells #[.int .i64 n0, .int .i64 n1, .int .i64 n2, .int .i64 n3] 42 (0, 0))) : (loadVar 42 ⟨sb, 0, none⟩).run Try.prog w = .ok (.agg #[.int .i64 n0, .int .i64 n1, .int .i64 n2, .int .i64 n3]) w := by
  have c0 : w.cell? ⟨sb, 0, none⟩ = some (.int .i64 n0) := cell_of_row w _ 0 _ _ _ h
  have c1 : w.cell? ⟨sb, 1, none⟩ = some (.int .i64 n1) := cell_of_row w _ 1 _ _ _ h
  have c2 : w.cell? ⟨sb, 2, none⟩ = some (.int .i64 n2) := cell_of_row w _ 2 _ _ _ h
  have c3 : w.cell? ⟨sb, 3, none⟩ = some (.int .i64 n3) := cell_of_row w _ 3 _ _ _ h
  unfold loadVar
  go_simp

section
variable (w : World) (i : Ix) (S : Sx) (mo p : Nat) (R : Rw4) (b : Nat) (r : Raw w i S mo p R b)
include r
set_option maxHeartbeats 1000000 in
theorem sizesW : Calls Try.prog 21 #[.pointer (some ⟨i.c, 0, none⟩)] w (Stl (.agg #[.int .i64 ((R 0).length : Int), .int .i64 ((R 1).length : Int), .int .i64 ((R 2).length : Int), .int .i64 ((R 3).length : Int)]) w) := by
  have HH := Lib.hid r
  have V := fun (W : World) (hB : Below w.heap.size w W) (k : Nat) (hk : k < 4) => count_one W i S mo p R b (r.below hB) k hk
  have S0 := Lib.hid (SzR.start w)
  obtain ⟨n0, h0⟩ : ∃ n, n = (R 0).length := ⟨_, rfl⟩
  obtain ⟨n1, h1⟩ : ∃ n, n = (R 1).length := ⟨_, rfl⟩
  obtain ⟨n2, h2⟩ : ∃ n, n = (R 2).length := ⟨_, rfl⟩
  obtain ⟨n3, h3⟩ : ∃ n, n = (R 3).length := ⟨_, rfl⟩
  have V0 := Lib.hid (show ∀ W, Below w.heap.size w W → Calls Try.prog 39 #[.pointer (some ⟨i.c, 0, none⟩), .slice (some ⟨W.heap.size, 0, none⟩) 1 1] (W.alloc (.cells #[.int .i64 0] 3)) (IntPost (n0 : Int) (W.alloc (.cells #[.int .i64 0] 3))) from h0 ▸ fun W hB => V W hB 0 (by omega))
  have V1 := Lib.hid (show ∀ W, Below w.heap.size w W → Calls Try.prog 39 #[.pointer (some ⟨i.c, 0, none⟩), .slice (some ⟨W.heap.size, 0, none⟩) 1 1] (W.alloc (.cells #[.int .i64 1] 3)) (IntPost (n1 : Int) (W.alloc (.cells #[.int .i64 1] 3))) from h1 ▸ fun W hB => V W hB 1 (by omega))
  have V2 := Lib.hid (show ∀ W, Below w.heap.size w W → Calls Try.prog 39 #[.pointer (some ⟨i.c, 0, none⟩), .slice (some ⟨W.heap.size, 0, none⟩) 1 1] (W.alloc (.cells #[.int .i64 2] 3)) (IntPost (n2 : Int) (W.alloc (.cells #[.int .i64 2] 3))) from h2 ▸ fun W hB => V W hB 2 (by omega))
  have V3 := Lib.hid (show ∀ W, Below w.heap.size w W → Calls Try.prog 39 #[.pointer (some ⟨i.c, 0, none⟩), .slice (some ⟨W.heap.size, 0, none⟩) 1 1] (W.alloc (.cells #[.int .i64 3] 3)) (IntPost (n3 : Int) (W.alloc (.cells #[.int .i64 3] 3))) from h3 ▸ fun W hB => V W hB 3 (by omega))
  rw [← h0, ← h1, ← h2, ← h3]
  clear r V h0 h1 h2 h3
  go_enter Try.func21, Try.ntmps21
  go_wp2_with fail
  go_loopw [5] (fun z W => ∃ k : Nat, z = .int .i64 (k : Int) ∧ k ≤ 4 ∧ SzR w (szA n0 n1 n2 n3 k) W) (fun z _ => 4 - (intOf z).toNat)
  case atStart => exact ⟨0, rfl, by omega, S0.out⟩
  case round =>
    obtain ⟨k, rfl, hk, hR⟩ := hrel
    have HR := Lib.hid hR
    rcases k with _ | _ | _ | _ | _ | k
    · have hb := hR.box
      have hb2 : (wr.alloc (.cells #[.int .i64 0] 3)).heap[w.heap.size + 1]? = _ := (Below.heap_alloc _ _ _ (Array.getElem?_eq_some_iff.1 hb).1).trans hb
      have f0 := frozen_of_row (wr.alloc (.cells #[.int .i64 0] 3)) _ 0 _ _ hb2
      have c0 : (wr.alloc (.cells #[.int .i64 0] 3)).cell? ⟨w.heap.size + 1, 0, none⟩ = some (.int .i64 0) := cell_of_row _ _ 0 _ _ _ hb2
      have U := Lib.hid (V0.out wr hR.bel)
      have N2 := Lib.hid (hR.next 0 (.int .i64 (n0 : Int)) (.cells #[.int .i64 0] 3) (arr' := szA n0 n1 n2 n3 1) rfl)
      clear hR hb hb2
      go_wp2_with fail
      refine U.out.mono ?_
      rintro e w2 ⟨rfl, rfl⟩
      go_wp2_with fail
      go_roundw
      case rel => exact ⟨1, by go_num, by omega, N2.out⟩
      case measure => simp [intOf]
    · have hb := hR.box
      have hb2 : (wr.alloc (.cells #[.int .i64 1] 3)).heap[w.heap.size + 1]? = _ := (Below.heap_alloc _ _ _ (Array.getElem?_eq_some_iff.1 hb).1).trans hb
      have f0 := frozen_of_row (wr.alloc (.cells #[.int .i64 1] 3)) _ 1 _ _ hb2
      have c0 : (wr.alloc (.cells #[.int .i64 1] 3)).cell? ⟨w.heap.size + 1, 1, none⟩ = some (.int .i64 0) := cell_of_row _ _ 1 _ _ _ hb2
      have U := Lib.hid (V1.out wr hR.bel)
      have N2 := Lib.hid (hR.next 1 (.int .i64 (n1 : Int)) (.cells #[.int .i64 1] 3) (arr' := szA n0 n1 n2 n3 2) rfl)
      clear hR hb hb2
      go_wp2_with fail
      refine U.out.mono ?_
      rintro e w2 ⟨rfl, rfl⟩
      go_wp2_with fail
      go_roundw
      case rel => exact ⟨2, by go_num, by omega, N2.out⟩
      case measure => simp [intOf]
    · have hb := hR.box
      have hb2 : (wr.alloc (.cells #[.int .i64 2] 3)).heap[w.heap.size + 1]? = _ := (Below.heap_alloc _ _ _ (Array.getElem?_eq_some_iff.1 hb).1).trans hb
      have f0 := frozen_of_row (wr.alloc (.cells #[.int .i64 2] 3)) _ 2 _ _ hb2
      have c0 : (wr.alloc (.cells #[.int .i64 2] 3)).cell? ⟨w.heap.size + 1, 2, none⟩ = some (.int .i64 0) := cell_of_row _ _ 2 _ _ _ hb2
      have U := Lib.hid (V2.out wr hR.bel)
      have N2 := Lib.hid (hR.next 2 (.int .i64 (n2 : Int)) (.cells #[.int .i64 2] 3) (arr' := szA n0 n1 n2 n3 3) rfl)
      clear hR hb hb2
      go_wp2_with fail
      refine U.out.mono ?_
      rintro e w2 ⟨rfl, rfl⟩
      go_wp2_with fail
      go_roundw
      case rel => exact ⟨3, by go_num, by omega, N2.out⟩
      case measure => simp [intOf]
    · have hb := hR.box
      have hb2 : (wr.alloc (.cells #[.int .i64 3] 3)).heap[w.heap.size + 1]? = _ := (Below.heap_alloc _ _ _ (Array.getElem?_eq_some_iff.1 hb).1).trans hb
      have f0 := frozen_of_row (wr.alloc (.cells #[.int .i64 3] 3)) _ 3 _ _ hb2
      have c0 : (wr.alloc (.cells #[.int .i64 3] 3)).cell? ⟨w.heap.size + 1, 3, none⟩ = some (.int .i64 0) := cell_of_row _ _ 3 _ _ _ hb2
      have U := Lib.hid (V3.out wr hR.bel)
      have N2 := Lib.hid (hR.next 3 (.int .i64 (n3 : Int)) (.cells #[.int .i64 3] 3) (arr' := szA n0 n1 n2 n3 4) rfl)
      clear hR hb hb2
      go_wp2_with fail
      refine U.out.mono ?_
      rintro e w2 ⟨rfl, rfl⟩
      go_wp2_with fail
      go_roundw
      case rel => exact ⟨4, by go_num, by omega, N2.out⟩
      case measure => simp [intOf]
    · have hb := hR.box
      have hr := hR.res
      have c0 : wr.cell? ⟨w.heap.size + 1, 0, none⟩ = some (.int .i64 (n0 : Int)) := cell_of_row wr _ 0 _ _ _ hb
      have c1 : wr.cell? ⟨w.heap.size + 1, 1, none⟩ = some (.int .i64 (n1 : Int)) := cell_of_row wr _ 1 _ _ _ hb
      have c2 : wr.cell? ⟨w.heap.size + 1, 2, none⟩ = some (.int .i64 (n2 : Int)) := cell_of_row wr _ 2 _ _ _ hb
      have c3 : wr.cell? ⟨w.heap.size + 1, 3, none⟩ = some (.int .i64 (n3 : Int)) := cell_of_row wr _ 3 _ _ _ hb
      have g0 : wr.cell? ⟨w.heap.size, 0, none⟩ = some (.int .i64 0) := cell_of_row wr _ 0 _ _ _ hr
      have g1 : wr.cell? ⟨w.heap.size, 1, none⟩ = some (.int .i64 0) := cell_of_row wr _ 1 _ _ _ hr
      have g2 : wr.cell? ⟨w.heap.size, 2, none⟩ = some (.int .i64 0) := cell_of_row wr _ 2 _ _ _ hr
      have g3 : wr.cell? ⟨w.heap.size, 3, none⟩ = some (.int .i64 0) := cell_of_row wr _ 3 _ _ _ hr
      have f0 := frozen_of_row wr _ 0 _ _ hr
      have f1 := frozen_of_row wr _ 1 _ _ hr
      have f2 := frozen_of_row wr _ 2 _ _ hr
      have f3 := frozen_of_row wr _ 3 _ _ hr
      have F := Lib.hid (hR.out)
      have B := Lib.hid (((((hR.bel.setCell (p := ⟨w.heap.size, 0, none⟩) (Nat.le_refl _) (.int .i64 (n0 : Int))).setCell (p := ⟨w.heap.size, 1, none⟩) (Nat.le_refl _) (.int .i64 (n1 : Int))).setCell (p := ⟨w.heap.size, 2, none⟩) (Nat.le_refl _) (.int .i64 (n2 : Int))).setCell (p := ⟨w.heap.size, 3, none⟩) (Nat.le_refl _) (.int .i64 (n3 : Int))))
      clear hR hb hr
      go_wp2_with fail
      refine bodyPost_ret (results_c rfl _ _ _ ⟨w.heap.size, 0, none⟩ _ rfl (load_four F.out)) rfl ?_
      exact ⟨rfl, B.out⟩
    · omega
end

def nwA (mo : Nat) (r : Nat → Nat) : Nat → Array Value
  | 0 => #[.int .i64 (mo : Int), .int .i64 0, .pointer none, .pointer none, .pointer none, .pointer none]
  | 1 => #[.int .i64 (mo : Int), .int .i64 0, .pointer (some ⟨r 0, 0, none⟩), .pointer none, .pointer none, .pointer none]
  | 2 => #[.int .i64 (mo : Int), .int .i64 0, .pointer (some ⟨r 0, 0, none⟩), .pointer (some ⟨r 1, 0, none⟩), .pointer none, .pointer none]
  | 3 => #[.int .i64 (mo : Int), .int .i64 0, .pointer (some ⟨r 0, 0, none⟩), .pointer (some ⟨r 1, 0, none⟩), .pointer (some ⟨r 2, 0, none⟩), .pointer none]
  | _ => #[.int .i64 (mo : Int), .int .i64 0, .pointer (some ⟨r 0, 0, none⟩), .pointer (some ⟨r 1, 0, none⟩), .pointer (some ⟨r 2, 0, none⟩), .pointer (some ⟨r 3, 0, none⟩)]
/-- A new cache under way: k lists are there. -/
structure NwR (w : World) (arr : Array Value) (r : Nat → Nat) (S : Sx) (k : Nat) (W : World) : Prop where
  box : W.heap[w.heap.size]? = some (.cells arr 51 (0, 0))
  ls : ∀ j, j < k → LS W (r j) (S j) [] 0
  up : ∀ j, j < k → ∀ x, S j x → w.heap.size < x
  sep : ∀ j l, j < k → l < k → j ≠ l → ∀ x, S j x → ¬ S l x
  bel : Below w.heap.size w W
section
variable {w W W' : World} {arr arr' : Array Value} {r : Nat → Nat} {S : Sx} {k : Nat} {e : Ending}
theorem NwR.lt (h : NwR w arr r S k W) : w.heap.size < W.heap.size := (Array.getElem?_eq_some_iff.1 h.box).1
theorem NwR.below (h : NwR w arr r S k W) (hb : Below W.heap.size W W') : NwR w arr r S k W' :=
  ⟨(hb.block _ h.lt).trans h.box, fun j hj => (h.ls j hj).kept hb.size fun x hx => hb.block x ((h.ls j hj).lt hx), h.up, h.sep, h.bel.trans (hb.mono h.bel.size)⟩
theorem NwR.store (h : NwR w arr r S k W) (o : Nat) (v : Value) (ha : arr' = arr.setIfInBounds o v) : NwR w arr' r S k (W.setCell ⟨w.heap.size, o, none⟩ v) := by
  refine ⟨by rw [heap_setCell_same _ _ _ _ _ _ h.box, ha], fun j hj => (h.ls j hj).kept (by simp [World.setCell]) fun x hx => Below.heap_setCell _ _ _ _ (fun e => ?_), h.up, h.sep, h.bel.setCell (p := ⟨w.heap.size, o, none⟩) (Nat.le_refl _) v⟩
  have := h.up j hj x hx
  have e : x = w.heap.size := e
  omega
theorem NwR.list (h : NwR w arr r S k W) (hp : NewL W e W') : ∃ l S', e = .returned (.pointer (some ⟨l, 0, none⟩)) ∧ NwR w arr (upd r k l) S' (k + 1) W' := by
  obtain ⟨l, S0, he, h1, h2, h3⟩ := hp
  have h' := h.below h3
  have hlt := h.lt
  refine ⟨l, fun j => if j = k then S0 else S j, he, h'.box, fun j hj => ?_, fun j hj x hx => ?_, fun j l hj hl hne x hx hx2 => ?_, h'.bel⟩
  · by_cases e : j = k
    · subst e; rw [upd_same, if_pos rfl]; exact h2
    · rw [upd_ne e, if_neg e]; exact h'.ls j (by omega)
  · by_cases e : j = k
    · rw [if_pos e] at hx; have := h1 x hx; omega
    · rw [if_neg e] at hx; exact h.up j (by omega) x hx
  · by_cases e : j = k
    · by_cases e2 : l = k
      · omega
      · rw [if_pos e] at hx
        rw [if_neg e2] at hx2
        have := h1 x hx
        have := (h.ls l (by omega)).lt hx2
        omega
    · rw [if_neg e] at hx
      by_cases e2 : l = k
      · rw [if_pos e2] at hx2
        have := h1 x hx2
        have := (h.ls j (by omega)).lt hx
        omega
      · rw [if_neg e2] at hx2
        exact h.sep j l (by omega) (by omega) hne x hx hx2
end
/-- A new cache in memory of its own. -/
def NewC (mo : Nat) (w : World) (e : Ending) (w' : World) : Prop := ∃ i S, e = .returned (.pointer (some ⟨i.c, 0, none⟩)) ∧ Raw w' i S mo 0 (fun _ => []) 0 ∧ (∀ k, blk i S k → w.heap.size ≤ k) ∧ Below w.heap.size w w'
theorem NwR.made {w W : World} {mo : Nat} {r : Nat → Nat} {S : Sx} (h : NwR w (nwA mo r 4) r S 4 W) (hm : mo ≤ 9223372036854775807) : NewC mo w (.returned (.pointer (some ⟨w.heap.size, 0, none⟩))) W := by
  refine ⟨⟨w.heap.size, r⟩, S, rfl, ⟨h.box, fun k hk => h.ls k hk, fun j k hj hk => h.sep j k hj hk, fun k hk hx => ?_, hm, by omega⟩, fun x hx => ?_, h.bel⟩
  · have := h.up k hk _ hx
    exact Nat.lt_irrefl _ this
  · rcases hx with hx | ⟨k, hk, hx⟩
    · exact Nat.le_of_eq hx.symm
    · exact Nat.le_of_lt (h.up k hk x hx)
theorem NwR.start (w : World) (mo : Nat) : NwR w (nwA mo (fun _ => 0) 0) (fun _ => 0) (fun _ _ => False) 0 (w.alloc (.cells (nwA mo (fun _ => 0) 0) 51)) :=
  ⟨heap_alloc_new _ _, fun j hj => absurd hj (Nat.not_lt_zero _), fun j hj => absurd hj (Nat.not_lt_zero _), fun j _ hj => absurd hj (Nat.not_lt_zero _), (Below.refl _ _).alloc (Nat.le_refl _) _⟩
set_option maxHeartbeats 1000000 in
theorem newW (w : World) (z : Int) (n : Nat) (hz : -9223372036854775808 ≤ z ∧ z ≤ 9223372036854775807) (hn : n = z.toNat) : Calls Try.prog 9 #[.int .i64 z] w (NewC n w) := by
  have e1 : (if z < 0 then (0 : Int) else z) = (n : Int) := by split <;> omega
  have hmax : max z 0 = (n : Int) := by omega
  have HM := Lib.hid (show n ≤ 9223372036854775807 by omega)
  have S0 := Lib.hid (NwR.start w n)
  clear hn
  go_enter Try.func9, Try.ntmps9
  go_wp2_with fail
  go_loopw [9] (fun z W => ∃ (k : Nat) (r : Nat → Nat) (S : Sx), z = .int .i64 (k : Int) ∧ k ≤ 4 ∧ NwR w (nwA n r k) r S k W) (fun z _ => 4 - (intOf z).toNat)
  case atStart => exact ⟨0, _, _, rfl, by omega, S0.out⟩
  case round =>
    obtain ⟨k, r, S, rfl, hk, hR⟩ := hrel
    clear hmax e1
    have HR := Lib.hid hR
    rcases k with _ | _ | _ | _ | _ | k
    · have U := Lib.hid (ls_new wr.drew)
      have D := Lib.hid (hR.below (show Below wr.heap.size wr wr.drew from ⟨rfl, rfl, rfl, Nat.le_refl _, fun _ _ => rfl⟩))
      clear hR
      go_wp2_with fail
      go_region_with ((go_at_call 24; refine U.out.mono ?_; intro e w2 hp; obtain ⟨l, S2, rfl, h2⟩ := D.out.list hp; have f2 := frozen_of_row w2 _ 2 _ _ h2.box; have c2 : w2.cell? ⟨w.heap.size, 2, none⟩ = some (.pointer none) := cell_of_row w2 _ 2 _ _ _ h2.box; have N2 := Lib.hid (h2.store 2 (.pointer (some ⟨l, 0, none⟩)) (arr' := nwA n (upd r 0 l) 1) (by rfl)); clear hp h2))
      all_goals
        go_wp2_with fail
        go_roundw
        case rel => exact ⟨1, _, S2, by go_num, by omega, N2.out⟩
        case measure => simp [intOf]
    · have U := Lib.hid (ls_new wr.drew)
      have D := Lib.hid (hR.below (show Below wr.heap.size wr wr.drew from ⟨rfl, rfl, rfl, Nat.le_refl _, fun _ _ => rfl⟩))
      clear hR
      go_wp2_with fail
      go_region_with ((go_at_call 24; refine U.out.mono ?_; intro e w2 hp; obtain ⟨l, S2, rfl, h2⟩ := D.out.list hp; have f2 := frozen_of_row w2 _ 3 _ _ h2.box; have c2 : w2.cell? ⟨w.heap.size, 3, none⟩ = some (.pointer none) := cell_of_row w2 _ 3 _ _ _ h2.box; have N2 := Lib.hid (h2.store 3 (.pointer (some ⟨l, 0, none⟩)) (arr' := nwA n (upd r 1 l) 2) (by rfl)); clear hp h2))
      all_goals
        go_wp2_with fail
        go_roundw
        case rel => exact ⟨2, _, S2, by go_num, by omega, N2.out⟩
        case measure => simp [intOf]
    · have U := Lib.hid (ls_new wr.drew)
      have D := Lib.hid (hR.below (show Below wr.heap.size wr wr.drew from ⟨rfl, rfl, rfl, Nat.le_refl _, fun _ _ => rfl⟩))
      clear hR
      go_wp2_with fail
      go_region_with ((go_at_call 24; refine U.out.mono ?_; intro e w2 hp; obtain ⟨l, S2, rfl, h2⟩ := D.out.list hp; have f2 := frozen_of_row w2 _ 4 _ _ h2.box; have c2 : w2.cell? ⟨w.heap.size, 4, none⟩ = some (.pointer none) := cell_of_row w2 _ 4 _ _ _ h2.box; have N2 := Lib.hid (h2.store 4 (.pointer (some ⟨l, 0, none⟩)) (arr' := nwA n (upd r 2 l) 3) (by rfl)); clear hp h2))
      all_goals
        go_wp2_with fail
        go_roundw
        case rel => exact ⟨3, _, S2, by go_num, by omega, N2.out⟩
        case measure => simp [intOf]
    · have U := Lib.hid (ls_new wr.drew)
      have D := Lib.hid (hR.below (show Below wr.heap.size wr wr.drew from ⟨rfl, rfl, rfl, Nat.le_refl _, fun _ _ => rfl⟩))
      clear hR
      go_wp2_with fail
      go_region_with ((go_at_call 24; refine U.out.mono ?_; intro e w2 hp; obtain ⟨l, S2, rfl, h2⟩ := D.out.list hp; have f2 := frozen_of_row w2 _ 5 _ _ h2.box; have c2 : w2.cell? ⟨w.heap.size, 5, none⟩ = some (.pointer none) := cell_of_row w2 _ 5 _ _ _ h2.box; have N2 := Lib.hid (h2.store 5 (.pointer (some ⟨l, 0, none⟩)) (arr' := nwA n (upd r 3 l) 4) (by rfl)); clear hp h2))
      all_goals
        go_wp2_with fail
        go_roundw
        case rel => exact ⟨4, _, S2, by go_num, by omega, N2.out⟩
        case measure => simp [intOf]
    · go_wp2_with fail
      go_ret
      exact hR.made HM.out
    · omega
end Go.Proofs.Ytlmbeiijijkjeaa
