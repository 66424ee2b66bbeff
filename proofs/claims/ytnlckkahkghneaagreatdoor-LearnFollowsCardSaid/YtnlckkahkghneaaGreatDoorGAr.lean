/- arc: Wb Wc Wd We Wf Wg Wh Wi Wj Wk Wl. -/
import Derived.Test.YtnlckkahkghneaaGreatDoorGBas
import Derived.Deep.QuietTactic
import Derived.BigQuiet
import Derived.Deep.RegionHeld3
import Derived.Deep.LoopGhost
import Derived.Deep.RegionLaw
import Derived.BigRegion
import Derived.Deep.CutBlock
import Derived.Deep.DeepCutAuto
import Derived.Laws.StructEq
set_option maxRecDepth 20000
namespace Go.Proofs.YtnlckkahkghneaaGreatDoor.AR
open Go.RowKit Sg

/-- Rows by their numbers: T1, T2, B1, B2; each from its front on. -/
abbrev Rw4 := Nat → List ByteArray
/-- The cache's block, and the lists' ones. -/
structure Ix where
  c : Nat
  r : Nat → Nat
abbrev Sx := Nat → Nat → Prop
def blk (i : Ix) (S : Sx) : Nat → Prop := fun x => x = i.c ∨ ∃ k, k < 4 ∧ S k x
def cBox (w : World) (i : Ix) (mo p : Nat) : Prop := w.heap[i.c]? = some (.cells #[.int .i64 (mo : Int), .int .i64 (p : Int), .pointer (some ⟨i.r 0, 0, none⟩), .pointer (some ⟨i.r 1, 0, none⟩), .pointer (some ⟨i.r 2, 0, none⟩), .pointer (some ⟨i.r 3, 0, none⟩)] 294 (0, 0))
/-- A cache of at most mo residents, with share p; no list has had more than b keys. -/
structure Raw (w : World) (i : Ix) (S : Sx) (mo p : Nat) (R : Rw4) (b : Nat) : Prop where
  box : cBox w i mo p
  ls : ∀ k, k < 4 → LS w (i.r k) (S k) (R k) b
  sep : ∀ j k, j < 4 → k < 4 → j ≠ k → ∀ x, S j x → ¬ S k x
  out : ∀ k, k < 4 → ¬ S k i.c
  top : mo ≤ 9223372036854775807 ∧ p ≤ 9223372036854775807
def RPost (v : Value) (w : World) (i : Ix) (S : Sx) (mo p : Nat) (R : Rw4) (b : Nat) (e : Ending) (w' : World) : Prop :=
  e = .returned v ∧ ∃ S', Raw w' i S' mo p R b ∧ Went w w' (blk i S) (blk i S')
section
variable {w w' : World} {i : Ix} {S : Sx} {mo p b b' : Nat} {R R' : Rw4} {v : Value} {e : Ending}
theorem Raw.cells (r : Raw w i S mo p R b) : w.cell? ⟨i.c, 0, none⟩ = some (.int .i64 (mo : Int)) ∧ w.cell? ⟨i.c, 1, none⟩ = some (.int .i64 (p : Int)) ∧ w.cell? ⟨i.c, 2, none⟩ = some (.pointer (some ⟨i.r 0, 0, none⟩)) ∧ w.cell? ⟨i.c, 3, none⟩ = some (.pointer (some ⟨i.r 1, 0, none⟩)) ∧ w.cell? ⟨i.c, 4, none⟩ = some (.pointer (some ⟨i.r 2, 0, none⟩)) ∧ w.cell? ⟨i.c, 5, none⟩ = some (.pointer (some ⟨i.r 3, 0, none⟩)) :=
  ⟨cell_of_row w _ 0 _ _ _ r.box, cell_of_row w _ 1 _ _ _ r.box, cell_of_row w _ 2 _ _ _ r.box, cell_of_row w _ 3 _ _ _ r.box, cell_of_row w _ 4 _ _ _ r.box, cell_of_row w _ 5 _ _ _ r.box⟩
theorem Raw.clt (r : Raw w i S mo p R b) : i.c < w.heap.size := (Array.getElem?_eq_some_iff.1 r.box).1
theorem Raw.lt (r : Raw w i S mo p R b) {k : Nat} (hk : blk i S k) : k < w.heap.size := by
  rcases hk with h | ⟨j, hj, h⟩
  · have := r.clt; omega
  · exact (r.ls j hj).lt h
theorem Raw.kept (r : Raw w i S mo p R b) (hs : w.heap.size ≤ w'.heap.size) (hb : ∀ k, blk i S k → w'.heap[k]? = w.heap[k]?) : Raw w' i S mo p R b :=
  ⟨(hb _ (Or.inl rfl)).trans r.box, fun j hj => (r.ls j hj).kept hs fun k hk => hb k (Or.inr ⟨j, hj, hk⟩), r.sep, r.out, r.top⟩
theorem Raw.below (r : Raw w i S mo p R b) (hb : Below w.heap.size w w') : Raw w' i S mo p R b := r.kept hb.size fun k hk => hb.block k (r.lt hk)
theorem below_drewN (w : World) (n : Nat) : Below w.heap.size w (w.drewN n) := ⟨rfl, rfl, rfl, Nat.le_refl _, fun _ _ => rfl⟩
/-- Behind a call of one of the lists. -/
theorem Raw.on (r : Raw w i S mo p R b) {k : Nat} (hk : k < 4) {xs : List ByteArray} (hp : LPost v w (i.r k) (S k) xs b' e w') (hb : b ≤ b') : RPost v w i S mo p (upd R k xs) b' e w' := by
  obtain ⟨he, S', hL, hW⟩ := hp
  have q : ∀ x, x < w.heap.size → ¬ S k x → w'.heap[x]? = w.heap[x]? := fun x hx hn => hW.turn.block x hx hn
  have z : ∀ x, x < w.heap.size → ¬ S k x → ¬ S' x := fun x hx hn h => by
    rcases hW.new x h with h | h
    · exact hn h
    · omega
  refine ⟨he, fun j => if j = k then S' else S j, ⟨(q _ r.clt (r.out k hk)).trans r.box, fun j hj => ?_, fun j l hj hl hne x hx hx2 => ?_, fun j hj => ?_, r.top⟩, fun x hx => ?_, hW.turn.wide fun x _ h => Or.inr ⟨k, hk, h⟩⟩
  · by_cases e : j = k
    · subst e
      rw [upd_same, if_pos rfl]; exact hL
    · rw [upd_ne e, if_neg e]
      exact ((r.ls j hj).kept hW.turn.size fun x hx => q x ((r.ls j hj).lt hx) (r.sep j k hj hk e x hx)).mono hb
  · by_cases e : j = k
    · subst e
      rw [if_pos rfl] at hx
      rw [if_neg (Ne.symm hne)] at hx2
      exact z x ((r.ls l hl).lt hx2) (r.sep l j hl hj (Ne.symm hne) x hx2) hx
    · rw [if_neg e] at hx
      by_cases e2 : l = k
      · subst e2
        rw [if_pos rfl] at hx2
        exact z x ((r.ls j hj).lt hx) (r.sep j l hj hl e x hx) hx2
      · rw [if_neg e2] at hx2
        exact r.sep j l hj hl hne x hx hx2
  · by_cases e : j = k
    · rw [if_pos e]; exact z _ r.clt (r.out k hk)
    · rw [if_neg e]; exact r.out j hj
  · rcases hx with h | ⟨j, hj, h⟩
    · exact Or.inl (Or.inl h)
    · by_cases e : j = k
      · rw [if_pos e] at h
        exact (hW.new x h).imp (fun h => Or.inr ⟨k, hk, h⟩) id
      · rw [if_neg e] at h
        exact Or.inl (Or.inr ⟨j, hj, h⟩)
end
/-- A call that only asks, and lays memory of its own. -/
def Stl (v : Value) (w : World) (e : Ending) (w' : World) : Prop := e = .returned v ∧ Below w.heap.size w w'

/-- How many keys some rows have together. -/
def sumk (R : Rw4) (ks : List Nat) : Nat := (ks.map fun k => (R k).length).sum
theorem sumk_snoc (R : Rw4) (ks : List Nat) (k : Nat) : sumk R (ks ++ [k]) = sumk R ks + (R k).length := by unfold sumk; rw [List.map_append, List.sum_append]; simp
/-- Numbers of rows in a block of their own. -/
def Nums (w : World) (g : Nat) (ks : List Nat) : Prop := ∀ j k : Nat, ks[j]? = some k → w.cell? ⟨g, j, none⟩ = some (.int .i64 (k : Int))
theorem nums_two (w : World) (x y : Nat) : Nums (w.alloc (.cells #[.int .i64 (x : Int), .int .i64 (y : Int)] 3)) w.heap.size [x, y] := by
  have hn := heap_alloc_new w (.cells #[.int .i64 (x : Int), .int .i64 (y : Int)] 3)
  intro j k h
  rcases j with _ | _ | j
  · simp at h; subst h; exact cell_of_row _ _ 0 _ _ _ hn
  · simp at h; subst h; exact cell_of_row _ _ 1 _ _ _ hn
  · simp at h
theorem nums_one (w : World) (x : Nat) : Nums (w.alloc (.cells #[.int .i64 (x : Int)] 3)) w.heap.size [x] := by
  have hn := heap_alloc_new w (.cells #[.int .i64 (x : Int)] 3)
  intro j k h
  rcases j with _ | j
  · simp at h; subst h; exact cell_of_row _ _ 0 _ _ _ hn
  · simp at h
theorem nums_four (w : World) (x y z u : Nat) : Nums (w.alloc (.cells #[.int .i64 (x : Int), .int .i64 (y : Int), .int .i64 (z : Int), .int .i64 (u : Int)] 3)) w.heap.size [x, y, z, u] := by
  have hn := heap_alloc_new w (.cells #[.int .i64 (x : Int), .int .i64 (y : Int), .int .i64 (z : Int), .int .i64 (u : Int)] 3)
  intro j k h
  rcases j with _ | _ | _ | _ | j
  · simp at h; subst h; exact cell_of_row _ _ 0 _ _ _ hn
  · simp at h; subst h; exact cell_of_row _ _ 1 _ _ _ hn
  · simp at h; subst h; exact cell_of_row _ _ 2 _ _ _ hn
  · simp at h; subst h; exact cell_of_row _ _ 3 _ _ _ hn
  · simp at h

section
variable (w : World) (i : Ix) (S : Sx) (mo p : Nat) (R : Rw4) (b : Nat) (r : Raw w i S mo p R b)
include r
set_option maxHeartbeats 1000000 in
theorem countW (g : Nat) (ks : List Nat) (hg : Nums w g ks) (hk : ∀ k ∈ ks, k < 4) (h4 : ks.length ≤ 4) : Calls Tryz.prog 343 #[.pointer (some ⟨i.c, 0, none⟩), .slice (some ⟨g, 0, none⟩) ks.length ks.length] w (IntPost (sumk R ks : Int) w) := by
  obtain ⟨_, _, c2, c3, c4, c5⟩ := r.cells
  have L := fun k (h : k < 4) => ls_len w (i.r k) (S k) (R k) b (r.ls k h)
  have B := Lib.hid (fun k (h : k < 4) => (r.ls k h).len)
  have L0 := Lib.hid (L 0 (by omega))
  have L1 := Lib.hid (L 1 (by omega))
  have L2 := Lib.hid (L 2 (by omega))
  have L3 := Lib.hid (L 3 (by omega))
  have HG := Lib.hid hg
  have HK := Lib.hid hk
  clear r L hg hk
  go_enter Tryz.func343, Tryz.ntmps343
  go_wp2_with fail
  go_loopw [5, 10] (fun n z W => ∃ j, j ≤ ks.length ∧ n = .int .i64 (sumk R (ks.take j) : Int) ∧ z = .int .i64 (j : Int) ∧ sumk R (ks.take j) ≤ j * 999 ∧ W = w) (fun _ z _ => ks.length - (intOf z).toNat)
  case atStart => exact ⟨0, Nat.zero_le _, rfl, rfl, by simp [sumk], rfl⟩
  case round =>
    obtain ⟨j, hj, rfl, rfl, hs, rfl⟩ := hrel
    by_cases hlt : j < ks.length
    · have e0 : decide (j < ks.length) = true := by simpa using hlt
      have hkj : ks[j]? = some ks[j] := List.getElem?_eq_getElem hlt
      have hk4 := HK.out ks[j] (List.getElem_mem hlt)
      have hB := B.out ks[j] hk4
      have hc := HG.out j ks[j] hkj
      have htk : ks.take (j + 1) = ks.take j ++ [ks[j]] := by rw [List.take_add_one, hkj]; rfl
      have hsn := sumk_snoc R (ks.take j) ks[j]
      rw [← htk] at hsn
      have HS := Lib.hid hsn
      generalize ks[j] = k at *
      have HT := Lib.hid htk
      obtain ⟨s, hse⟩ : ∃ s, s = sumk R (ks.take j) := ⟨_, rfl⟩
      rw [← hse] at hs HS ⊢
      clear hse hsn htk hkj
      have HW := IntWalk.i64_in ((s : Int) + ((R k).length : Int)) (by omega)
      rcases k with _ | _ | _ | _ | k
      · go_wp2_with fail
        refine L0.out.mono ?_
        rintro e w1 ⟨rfl, rfl⟩
        go_wp2_with fail
        go_roundw
        case rel => exact ⟨j + 1, by omega, by rw [HS.out]; go_num, by go_num, by rw [HS.out]; omega, trivial⟩
        case measure => simp [intOf]; omega
      · go_wp2_with fail
        refine L1.out.mono ?_
        rintro e w1 ⟨rfl, rfl⟩
        go_wp2_with fail
        go_roundw
        case rel => exact ⟨j + 1, by omega, by rw [HS.out]; go_num, by go_num, by rw [HS.out]; omega, trivial⟩
        case measure => simp [intOf]; omega
      · go_wp2_with fail
        refine L2.out.mono ?_
        rintro e w1 ⟨rfl, rfl⟩
        go_wp2_with fail
        go_roundw
        case rel => exact ⟨j + 1, by omega, by rw [HS.out]; go_num, by go_num, by rw [HS.out]; omega, trivial⟩
        case measure => simp [intOf]; omega
      · go_wp2_with fail
        refine L3.out.mono ?_
        rintro e w1 ⟨rfl, rfl⟩
        go_wp2_with fail
        go_roundw
        case rel => exact ⟨j + 1, by omega, by rw [HS.out]; go_num, by go_num, by rw [HS.out]; omega, trivial⟩
        case measure => simp [intOf]; omega
      · omega
    · have e0 : decide (j < ks.length) = false := by simpa using hlt
      have E := Lib.hid (show ks.take j = ks from List.take_of_length_le (by omega))
      go_wp2_with fail
      go_ret
      exact ⟨by rw [E.out]; rfl, rfl⟩
end
end Go.Proofs.YtnlckkahkghneaaGreatDoor.AR
namespace Go.Proofs.YtnlckkahkghneaaGreatDoor.AR
open Go.RowKit Sg

theorem step_append_run {P : Program} {ops : Array Oper} {o : Oper} {a : Act} {w : World} {K : Act → World → Prop} {Q : Exit → Act → World → Prop} {E : Prop} (hgd : o.guard = none) (s x : Operand) (t : TypeId)
    (ho : o.op = .call { callee := .builtin .append, args := #[s, x], argTypes := #[t, t] }) (v u v' : Value) (w' : World) (hs : a.eval s = v) (hx : a.eval x = u) (hr : (Builtin.append_ #[t, t] o.type #[v, u]).run P w = .ok v' w')
    (h : K (a.put o.dst v') w') : if Region.wanted o (yielded ops a.tmps) = true then Oper.wp P o a w K Q else E := by
  have hw : Region.wanted o (yielded ops a.tmps) = true := by simp [Region.wanted, hgd]
  rw [if_pos hw]
  unfold Oper.wp execOp
  simp only [ho, resolve, invoke, builtin, Sem.run_bind, Sem.run_pure, Result.andThen_ok, List.map_toArray, List.map_cons, List.map_nil, hs, hx, hr]
  exact h
def hit (R : Rw4) (key : ByteArray) : Bool := inn (R 0) key || inn (R 1) key
/-- The row whose last one goes for a key, which is in B2 (q), or isn't. -/
def lv (R : Rw4) (p : Nat) (q : Bool) : Nat := if p < (R 0).length ∨ (0 < (R 0).length ∧ (R 0).length = p ∧ q = true) ∨ (R 1).length = 0 then 0 else 1

section
variable (w : World) (i : Ix) (S : Sx) (mo p : Nat) (R : Rw4) (b : Nat) (r : Raw w i S mo p R b)
include r
/-- The call of count with a slice made for it. -/
theorem count_one (k : Nat) (hk : k < 4) : Calls Tryz.prog 343 #[.pointer (some ⟨i.c, 0, none⟩), .slice (some ⟨w.heap.size, 0, none⟩) 1 1] (w.alloc (.cells #[.int .i64 (k : Int)] 3)) (IntPost ((R k).length : Int) (w.alloc (.cells #[.int .i64 (k : Int)] 3))) := by
  have := countW _ i S mo p R b (r.below ((Below.refl _ _).alloc (Nat.le_refl _) (.cells #[.int .i64 (k : Int)] 3))) w.heap.size [k] (nums_one w k) (by simp; omega) (by simp)
  simp only [sumk, List.map_cons, List.map_nil, List.sum_cons, List.sum_nil, Nat.add_zero, List.length_cons, List.length_nil] at this
  exact this
theorem count_two (k l : Nat) (hk : k < 4) (hl : l < 4) : Calls Tryz.prog 343 #[.pointer (some ⟨i.c, 0, none⟩), .slice (some ⟨w.heap.size, 0, none⟩) 2 2] (w.alloc (.cells #[.int .i64 (k : Int), .int .i64 (l : Int)] 3)) (IntPost (((R k).length + (R l).length : Nat) : Int) (w.alloc (.cells #[.int .i64 (k : Int), .int .i64 (l : Int)] 3))) := by
  have := countW _ i S mo p R b (r.below ((Below.refl _ _).alloc (Nat.le_refl _) (.cells #[.int .i64 (k : Int), .int .i64 (l : Int)] 3))) w.heap.size [k, l] (nums_two w k l) (by simp; omega) (by simp)
  simp only [sumk, List.map_cons, List.map_nil, List.sum_cons, List.sum_nil, Nat.add_zero, List.length_cons, List.length_nil] at this
  exact this
theorem count_four : Calls Tryz.prog 343 #[.pointer (some ⟨i.c, 0, none⟩), .slice (some ⟨w.heap.size, 0, none⟩) 4 4] (w.alloc (.cells #[.int .i64 0, .int .i64 1, .int .i64 2, .int .i64 3] 3)) (IntPost (((R 0).length + (R 1).length + (R 2).length + (R 3).length : Nat) : Int) (w.alloc (.cells #[.int .i64 0, .int .i64 1, .int .i64 2, .int .i64 3] 3))) := by
  have := countW _ i S mo p R b (r.below ((Below.refl _ _).alloc (Nat.le_refl _) (.cells #[.int .i64 0, .int .i64 1, .int .i64 2, .int .i64 3] 3))) w.heap.size [0, 1, 2, 3] (nums_four w 0 1 2 3) (by simp) (by simp)
  simp only [sumk, List.map_cons, List.map_nil, List.sum_cons, List.sum_nil, Nat.add_zero, List.length_cons, List.length_nil] at this
  rw [show (R 0).length + (R 1).length + (R 2).length + (R 3).length = (R 0).length + ((R 1).length + ((R 2).length + (R 3).length)) by omega]
  exact this
theorem lenW : Calls Tryz.prog 334 #[.pointer (some ⟨i.c, 0, none⟩)] w (Stl (.int .i64 (((R 0).length + (R 1).length : Nat) : Int)) w) := by
  have U := Lib.hid (show Calls Tryz.prog 343 #[.pointer (some ⟨i.c, 0, none⟩), .slice (some ⟨w.heap.size, 0, none⟩) 2 2] (w.alloc (.cells #[.int .i64 0, .int .i64 1] 3)) (IntPost (((R 0).length + (R 1).length : Nat) : Int) (w.alloc (.cells #[.int .i64 0, .int .i64 1] 3))) from count_two w i S mo p R b r 0 1 (by omega) (by omega))
  clear r
  go_enter Tryz.func334, Tryz.ntmps334
  go_wp2_with fail
  refine U.out.mono ?_
  rintro e w1 ⟨rfl, rfl⟩
  go_wp2_with fail
  go_ret
  exact ⟨rfl, (Below.refl _ _).alloc (Nat.le_refl _) _⟩
set_option maxHeartbeats 2000000 in
theorem ghostsW : Calls Tryz.prog 331 #[.pointer (some ⟨i.c, 0, none⟩)] w (RowPost (R 2 ++ R 3) w) := by
  have ca : w.cell? ⟨i.c, 4, none⟩ = some (.pointer (some ⟨i.r 2, 0, none⟩)) := r.cells.2.2.2.2.1
  have cb : w.cell? ⟨i.c, 5, none⟩ = some (.pointer (some ⟨i.r 3, 0, none⟩)) := r.cells.2.2.2.2.2
  have U := Lib.hid (show Calls Tryz.prog 86 #[.pointer (some ⟨i.r 2, 0, none⟩)] w.drew (RowPost (R 2) w) from (ls_keys w.drew (i.r 2) (S 2) (R 2) b ((r.below (below_drewN w 1)).ls 2 (by omega))).mono fun _ _ ⟨v, h1, h2, h3⟩ => ⟨v, h1, h2, ⟨h3.os, h3.tape, h3.output, h3.size, h3.block⟩⟩)
  have V := Lib.hid (fun (w1 : World) (h : Below w.heap.size w w1) => ls_keys w1 (i.r 3) (S 3) (R 3) b ((r.below h).ls 3 (by omega)))
  have C := Lib.hid (show ∀ w1, Below w.heap.size w w1 → w1.cell? ⟨i.c, 4, none⟩ = some (.pointer (some ⟨i.r 2, 0, none⟩)) ∧ w1.cell? ⟨i.c, 5, none⟩ = some (.pointer (some ⟨i.r 3, 0, none⟩)) from fun w1 h => ⟨(r.below h).cells.2.2.2.2.1, (r.below h).cells.2.2.2.2.2⟩)
  have h1 := (r.ls 2 (by omega)).len
  have h2 := (r.ls 3 (by omega)).len
  obtain ⟨ic, ir⟩ := i
  simp only at ca cb U V C ⊢
  generalize ir 2 = n at *
  generalize ir 3 = a at *
  clear r
  go_enter Tryz.func331, Tryz.ntmps331
  go_wp2_with fail
  go_region_held3 (fun w' => w'.cell? ⟨ic, 4, none⟩ = some (.pointer (some ⟨n, 0, none⟩)) ∧ w'.cell? ⟨ic, 5, none⟩ = some (.pointer (some ⟨a, 0, none⟩))) (first | (exact ⟨‹_›, ‹_›⟩) | go_keep)
    (first
      | (go_at_call 86; refine U.out.mono ?_; rintro e w1 ⟨v1, rfl, hO1, hB1⟩; obtain ⟨z2, z3⟩ := C.out w1 hB1; have O1 := Lib.hid hO1; have B1 := Lib.hid hB1; clear hO1 hB1 U)
      | (go_at_call 86; refine (V.out w1 B1.out).mono ?_; rintro e w2 ⟨v2, rfl, hO2, hB2⟩; obtain ⟨z4, z5⟩ := C.out w2 (B1.out.trans (hB2.mono B1.out.size)); obtain ⟨v3, w3, hrun, hO3, hg3⟩ := app_all (O1.out.below hB2) hO2 (by omega) (Nat.le_trans B1.out.size hB2.size); have RUN := Lib.hid hrun; have O3 := Lib.hid hO3; have B3 := Lib.hid (show Below w.heap.size w w3 from (B1.out.trans (hB2.mono B1.out.size)).grown hg3 (Nat.le_trans B1.out.size hB2.size) (fun k hk => ((O1.out.below hB2).1.lt k hk).1)); obtain ⟨z6, z7⟩ := C.out w3 B3.out; clear hO2 hB2 hrun hO3 hg3 V O1 B1)
      | (refine step_append_run rfl _ _ _ rfl _ _ _ _ rfl rfl RUN.out ?_))
  go_wp2_with fail
  go_ret
  exact ⟨v3, rfl, O3.out, B3.out⟩
theorem overW : Calls Tryz.prog 352 #[.pointer (some ⟨i.c, 0, none⟩)] w (Stl (.int .i64 ((((R 0).length + (R 1).length + (R 2).length + (R 3).length : Nat) : Int) - (mo : Int))) w) := by
  obtain ⟨c0, _⟩ := r.cells
  have hb := ((Below.refl w.heap.size w).trans (below_drewN w 1)).alloc (Nat.le_refl _) (.cells #[.int .i64 0, .int .i64 1, .int .i64 2, .int .i64 3] 3)
  have K0 : (w.drew.alloc (.cells #[.int .i64 0, .int .i64 1, .int .i64 2, .int .i64 3] 3)).cell? ⟨i.c, 0, none⟩ = some (.int .i64 (mo : Int)) := (r.below hb).cells.1
  have U := Lib.hid (count_four w.drew i S mo p R b (r.below (below_drewN w 1)))
  have B := Lib.hid hb
  have h0 := (r.ls 0 (by omega)).len
  have h1 := (r.ls 1 (by omega)).len
  have h2 := (r.ls 2 (by omega)).len
  have h3 := (r.ls 3 (by omega)).len
  have ht := r.top.1
  obtain ⟨q, hq⟩ : ∃ q, q = (R 0).length + (R 1).length + (R 2).length + (R 3).length := ⟨_, rfl⟩
  rw [← hq] at U ⊢
  have HW := IntWalk.i64_in ((q : Int) - (mo : Int)) (by omega)
  clear hb hq h0 h1 h2 h3 ht r
  go_enter Tryz.func352, Tryz.ntmps352
  go_wp2_with fail
  go_region_held3 (fun w' => w'.cell? ⟨i.c, 0, none⟩ = some (.int .i64 (mo : Int))) (first | (with_reducible exact K0) | (with_reducible exact c0) | go_keep)
    ((go_at_call 343; refine U.out.mono ?_; rintro e w1 ⟨rfl, rfl⟩))
  all_goals
    go_wp2_with fail
    go_ret
    exact ⟨rfl, B.out⟩
end
end Go.Proofs.YtnlckkahkghneaaGreatDoor.AR
namespace Go.Proofs.YtnlckkahkghneaaGreatDoor.AR
open Go.RowKit Sg

def rmR (R : Rw4) (key : ByteArray) : Rw4 := fun k => rem (R k) key
def putR (R : Rw4) (key : ByteArray) (k : Nat) : Rw4 := upd (rmR R key) k (key :: rem (R k) key)
theorem lv_two (R : Rw4) (p : Nat) (q : Bool) : lv R p q = 0 ∨ lv R p q = 1 := by unfold lv; split <;> simp
def rpU (mo p : Nat) (R : Rw4) : Nat := p + min (max ((R 3).length / (R 2).length) 1) (mo - p)
def lpU (p : Nat) (R : Rw4) : Nat := p - min (max ((R 2).length / (R 3).length) 1) p

end Go.Proofs.YtnlckkahkghneaaGreatDoor.AR
namespace Go.Proofs.YtnlckkahkghneaaGreatDoor.AR
open Go.RowKit Sg


end Go.Proofs.YtnlckkahkghneaaGreatDoor.AR
namespace Go.Proofs.YtnlckkahkghneaaGreatDoor.AR
open Go.RowKit Sg

def lenR (R : Rw4) : Nat := (R 0).length + (R 1).length
def totR (R : Rw4) : Nat := (R 0).length + (R 1).length + (R 2).length + (R 3).length
/-- One goes, for a key that is in B2 (q), or isn't. -/
def cut1 (p : Nat) (q : Bool) (R : Rw4) : Rw4 := upd (upd R (lv R p q) (R (lv R p q)).dropLast) (lv R p q + 2) (lastKey (R (lv R p q)) :: rem (R (lv R p q + 2)) (lastKey (R (lv R p q))))
def cutn (p : Nat) (q : Bool) (R : Rw4) : Nat → Rw4
  | 0 => R
  | n + 1 => cut1 p q (cutn p q R n)
/-- Who went. -/
def outs (p : Nat) (q : Bool) (R : Rw4) : Nat → List ByteArray
  | 0 => []
  | n + 1 => outs p q R n ++ [lastKey (cutn p q R n (lv (cutn p q R n) p q))]
theorem lv_pos {R : Rw4} {p : Nat} {q : Bool} (h : 0 < lenR R) : 0 < (R (lv R p q)).length := by
  unfold lenR at h
  unfold lv
  split
  · rename_i h2
    rcases h2 with h2 | ⟨h2, _⟩ | h2 <;> omega
  · rename_i h2
    have : (R 1).length ≠ 0 := fun e => h2 (Or.inr (Or.inr e))
    omega
theorem lv_lt (R : Rw4) (p : Nat) (q : Bool) : lv R p q < 4 ∧ lv R p q + 2 < 4 := by rcases lv_two R p q with h | h <;> omega
theorem last_mem {xs : List ByteArray} (h : 0 < xs.length) : lastKey xs ∈ xs := by
  have h2 : xs ≠ [] := fun e => by rw [e] at h; exact Nat.lt_irrefl _ h
  unfold lastKey
  rw [List.getLastD_eq_getLast?, List.getLast?_eq_some_getLast h2]
  exact List.getLast_mem h2
theorem any_pos {xs : List ByteArray} (h : 0 < xs.length) : anyKey xs = true := by cases xs; exact absurd h (Nat.lt_irrefl _); rfl
theorem cut1_len {R : Rw4} {p : Nat} {q : Bool} (h : 0 < lenR R) : lenR (cut1 p q R) + 1 = lenR R := by
  have hp := lv_pos (p := p) (q := q) h
  unfold cut1
  rcases lv_two R p q with e | e <;> rw [e] at hp ⊢ <;> simp [lenR, upd] <;> omega
theorem cutn_len {R : Rw4} {p : Nat} {q : Bool} : ∀ {n : Nat}, n ≤ lenR R → lenR (cutn p q R n) + n = lenR R
  | 0, _ => rfl
  | n + 1, h => by
    have h1 := cutn_len (R := R) (p := p) (q := q) (n := n) (by omega)
    have h2 := cut1_len (R := cutn p q R n) (p := p) (q := q) (by omega)
    show lenR (cut1 p q (cutn p q R n)) + (n + 1) = _
    omega
theorem went_out {w w' : World} {S S' : Nat → Prop} {k : Nat} (h : Went w w' S S') (hk : k < w.heap.size) (hn : ¬ S k) : w'.heap[k]? = w.heap[k]? ∧ ¬ S' k :=
  ⟨h.turn.block k hk hn, fun h1 => by rcases h.new k h1 with h | h; exact hn h; omega⟩
end Go.Proofs.YtnlckkahkghneaaGreatDoor.AR
namespace Go.Proofs.YtnlckkahkghneaaGreatDoor.AR
open Go.RowKit Sg

def trim2 (mo : Nat) (R : Rw4) : Rw4 := upd R 2 ((R 2).take (mo - (R 0).length))
def trim3 (mo : Nat) (R : Rw4) : Rw4 := upd R 3 ((R 3).take (2 * mo - ((R 0).length + (R 1).length + (R 2).length)))
def trimR (mo : Nat) (R : Rw4) : Rw4 := trim3 mo (trim2 mo R)
theorem upd_upd (R : Rw4) (k : Nat) (xs ys : List ByteArray) : upd (upd R k xs) k ys = upd R k ys := by funext j; unfold upd; split <;> rfl
theorem upd_self (R : Rw4) (k : Nat) : upd R k (R k) = R := by
  funext j
  by_cases e : j = k
  · subst e; exact upd_same _ _ _
  · exact upd_ne e
theorem take_last {xs : List ByteArray} {j : Nat} (h : j < xs.length) : anyKey (xs.take (j + 1)) = true ∧ (xs.take (j + 1)).dropLast = xs.take j := by
  rw [take_snoc xs j ⟨#[]⟩ h]
  refine ⟨?_, by simp⟩
  unfold anyKey
  cases h2 : xs.take j <;> rfl
theorem take_min (xs : List ByteArray) (m : Nat) : xs.take (min m xs.length) = xs.take m := by
  by_cases h : m ≤ xs.length
  · rw [Nat.min_eq_left h]
  · rw [Nat.min_eq_right (by omega), List.take_length, List.take_of_length_le (by omega)]

/-- The cache's pointer in a variable of its own. -/
def CB (w : World) (cb : Nat) (i : Ix) : Prop := w.heap[cb]? = some (.cells #[.pointer (some ⟨i.c, 0, none⟩)] 221 (0, 0))
theorem CB.lt {w : World} {cb : Nat} {i : Ix} (k : CB w cb i) : cb < w.heap.size := (Array.getElem?_eq_some_iff.1 k).1
theorem CB.cell {w : World} {cb : Nat} {i : Ix} (k : CB w cb i) : w.cell? ⟨cb, 0, none⟩ = some (.pointer (some ⟨i.c, 0, none⟩)) := cell_of_row w _ 0 _ _ _ k

section
variable (w : World) (cb : Nat) (i : Ix) (S : Sx) (mo p : Nat) (R : Rw4) (b : Nat) (r : Raw w i S mo p R b) (kb : CB w cb i)
include r kb
theorem many2 : Calls Tryz.prog 350 #[.pointer (some ⟨cb, 0, none⟩)] w (Stl (.bool (decide (mo < (R 0).length + (R 2).length))) w) := by
  obtain ⟨c0, _⟩ := r.cells
  have K0 := kb.cell
  have hb := ((Below.refl w.heap.size w).trans (below_drewN w 1)).alloc (Nat.le_refl _) (.cells #[.int .i64 0, .int .i64 2] 3)
  have c1 : (w.drew.alloc (.cells #[.int .i64 0, .int .i64 2] 3)).cell? ⟨i.c, 0, none⟩ = some (.int .i64 (mo : Int)) := (r.below hb).cells.1
  have K1 : (w.drew.alloc (.cells #[.int .i64 0, .int .i64 2] 3)).cell? ⟨cb, 0, none⟩ = some (.pointer (some ⟨i.c, 0, none⟩)) := CB.cell (i := i) ((hb.block _ kb.lt).trans kb)
  have U := count_two w.drew i S mo p R b (r.below (below_drewN w 1)) 0 2 (by omega) (by omega)
  have B := Lib.hid hb
  obtain ⟨q, hq⟩ : ∃ q, q = (R 0).length + (R 2).length := ⟨_, rfl⟩
  rw [← hq] at U ⊢
  have U := Lib.hid (show Calls Tryz.prog 343 #[.pointer (some ⟨i.c, 0, none⟩), .slice (some ⟨w.drew.heap.size, 0, none⟩) 2 2] (w.drew.alloc (.cells #[.int .i64 0, .int .i64 2] 3)) (IntPost (q : Int) (w.drew.alloc (.cells #[.int .i64 0, .int .i64 2] 3))) from U)
  clear hb hq r kb
  go_enter Tryz.func350, Tryz.ntmps350
  go_wp2_with fail
  go_region_held3 (fun w' => w'.cell? ⟨cb, 0, none⟩ = some (.pointer (some ⟨i.c, 0, none⟩)) ∧ w'.cell? ⟨i.c, 0, none⟩ = some (.int .i64 (mo : Int))) (first | (with_reducible exact ⟨K1, c1⟩) | (with_reducible exact ⟨K0, c0⟩) | go_keep)
    ((go_at_call 343; refine U.out.mono ?_; rintro e w1 ⟨rfl, rfl⟩))
  all_goals
    go_wp2_with fail
    go_ret
    exact ⟨rfl, B.out⟩
theorem many3 : Calls Tryz.prog 351 #[.pointer (some ⟨cb, 0, none⟩)] w (Stl (.bool (decide (2 * mo < (R 0).length + (R 1).length + (R 2).length + (R 3).length))) w) := by
  obtain ⟨c0, _⟩ := r.cells
  have K0 := kb.cell
  have U := overW w.drew i S mo p R b (r.below (below_drewN w 1))
  have C := Lib.hid (show ∀ w1, Below w.heap.size w w1 → w1.cell? ⟨cb, 0, none⟩ = some (.pointer (some ⟨i.c, 0, none⟩)) ∧ w1.cell? ⟨i.c, 0, none⟩ = some (.int .i64 (mo : Int)) from fun w1 h => ⟨CB.cell (i := i) ((h.block _ kb.lt).trans kb), (r.below h).cells.1⟩)
  have BD := Lib.hid (show ∀ w1, Below w.drew.heap.size w.drew w1 → Below w.heap.size w w1 from fun w1 h => (below_drewN w 1).trans h)
  obtain ⟨q, hq⟩ : ∃ q, q = (R 0).length + (R 1).length + (R 2).length + (R 3).length := ⟨_, rfl⟩
  rw [← hq] at U ⊢
  obtain ⟨d, hd⟩ : ∃ d : Int, d = (q : Int) - (mo : Int) := ⟨_, rfl⟩
  rw [← hd] at U
  obtain ⟨z, hz⟩ : ∃ z, z = decide (2 * mo < q) := ⟨_, rfl⟩
  have e0 : decide ((mo : Int) < d) = z := by rw [hz]; by_cases h : 2 * mo < q <;> simp only [h, decide_true, decide_false] <;> simp <;> omega
  rw [← hz]
  have U := Lib.hid U
  clear hq r kb hz hd
  go_enter Tryz.func351, Tryz.ntmps351
  go_wp2_with fail
  go_region_held3 (fun w' => w'.cell? ⟨cb, 0, none⟩ = some (.pointer (some ⟨i.c, 0, none⟩)) ∧ w'.cell? ⟨i.c, 0, none⟩ = some (.int .i64 (mo : Int))) (first | (with_reducible exact ⟨K1, c1⟩) | (with_reducible exact ⟨K0, c0⟩) | go_keep)
    ((go_at_call 352; refine U.out.mono ?_; rintro e w1 ⟨rfl, hB⟩; obtain ⟨K1, c1⟩ := C.out w1 (BD.out w1 hB); have B := Lib.hid (BD.out w1 hB); clear hB))
  all_goals
    go_wp2_with fail
    go_ret
    exact ⟨rfl, B.out⟩
end

/-- Ghosts trimmed to j. -/
def TRel (w : World) (cb : Nat) (i : Ix) (S : Sx) (mo p : Nat) (R : Rw4) (b k j : Nat) (W : World) : Prop :=
  ∃ S', Raw W i S' mo p (upd R k ((R k).take j)) b ∧ Went w W (blk i S) (blk i S') ∧ CB W cb i ∧ ¬ blk i S' cb
set_option maxHeartbeats 1000000 in
theorem cutG2 (w : World) (cb : Nat) (i : Ix) (S : Sx) (mo p : Nat) (R : Rw4) (b m : Nat) (r : Raw w i S mo p R b) (kb : CB w cb i) (hn : ¬ blk i S cb) (FT : FuncId) (hF : ∀ args w, (callFunc FT args).run Tryz.prog w = .ok (.enter FT args) w)
    (hT : ∀ W S' j, Raw W i S' mo p (upd R 2 ((R 2).take j)) b → CB W cb i → j ≤ (R 2).length → Calls Tryz.prog FT #[.pointer (some ⟨cb, 0, none⟩)] W (Stl (.bool (decide (m < j))) W)) :
    Calls Tryz.prog 349 #[.int .i64 2, .func (.func FT) #[] #[.pointer (some ⟨cb, 0, none⟩)], .pointer (some ⟨cb, 0, none⟩)] w (fun e w' => e = .returned (.tuple #[]) ∧ TRel w cb i S mo p R b 2 m w') := by
  obtain ⟨n, hnn⟩ : ∃ n, n = (R 2).length := ⟨_, rfl⟩
  have H0 := Lib.hid (show TRel w cb i S mo p R b 2 n w from ⟨S, by rw [hnn, List.take_length, upd_self]; exact r, Went.refl _ _, kb, hn⟩)
  have HT := Lib.hid hT
  have HN := Lib.hid hnn
  have TM := Lib.hid (show (R 2).take (min m n) = (R 2).take m by rw [hnn]; exact take_min _ _)
  clear r kb hn hT hnn
  go_enter Tryz.func349, Tryz.ntmps349
  go_wp2_with fail
  go_loopg [] (n - m) (fun g W => g ≤ n - m ∧ TRel w cb i S mo p R b 2 (min m n + g) W)
  case atStart => exact ⟨Nat.le_refl _, by rw [show min m n + (n - m) = n by omega]; exact H0.out⟩
  case round =>
    obtain ⟨hg, S', hR, hW, hK, hnb⟩ := hrel
    have K0 := hK.cell
    have U := Lib.hid (HT.out wr S' (min m n + gk) hR hK (by have := HN.out; omega))
    have HR := Lib.hid (And.intro hR (And.intro hW (And.intro hK hnb)))
    clear hR hW hK hnb
    cases gk with
    | zero =>
      have U := Lib.hid (show Calls Tryz.prog FT #[.pointer (some ⟨cb, 0, none⟩)] wr (Stl (.bool false) wr) by
        have := U.out
        rw [show decide (m < min m n + 0) = false by simp; omega] at this
        exact this)
      go_wp2_with fail
      refine U.out.mono ?_
      rintro e w1 ⟨rfl, hB⟩
      have B1 := Lib.hid hB
      clear hB
      go_wp2_with fail
      go_end0
      obtain ⟨hR, hW, hK, hnb⟩ := HR.out
      refine ⟨rfl, S', ?_, hW.trans (Went.below B1.out), (B1.out.block _ hK.lt).trans hK, hnb⟩
      have := hR.below B1.out
      rw [Nat.add_zero, TM.out] at this
      exact this
    | succ gk =>
      have U := Lib.hid (show Calls Tryz.prog FT #[.pointer (some ⟨cb, 0, none⟩)] wr (Stl (.bool true) wr) by
        have := U.out
        rw [show decide (m < min m n + (gk + 1)) = true by simp; omega] at this
        exact this)
      obtain ⟨j, hj⟩ : ∃ j, j = min m n + gk := ⟨_, rfl⟩
      have HJ := Lib.hid hj
      have hjn : j < (R 2).length := by have := HN.out; omega
      rw [show min m n + (gk + 1) = j + 1 by omega] at HR
      have TL := Lib.hid (take_last hjn)
      clear hj
      go_wp2_with fail
      refine U.out.mono ?_
      rintro e w1 ⟨rfl, hB⟩
      have B1 := Lib.hid hB
      have R1 := Lib.hid (HR.out.1.below hB)
      have k1 : CB w1 cb i := (hB.block _ HR.out.2.2.1.lt).trans HR.out.2.2.1
      have K1 := k1.cell
      have V := count_one w1 i S' mo p _ b R1.out 2 (by omega)
      rw [upd_same, List.length_take, Nat.min_eq_left (by omega)] at V
      have V := Lib.hid (show Calls Tryz.prog 343 #[.pointer (some ⟨i.c, 0, none⟩), .slice (some ⟨w1.heap.size, 0, none⟩) 1 1] (w1.alloc (.cells #[.int .i64 2] 3)) (IntPost ((j + 1 : Nat) : Int) (w1.alloc (.cells #[.int .i64 2] 3))) from V)
      have hb2 := (Below.refl w1.heap.size w1).alloc (Nat.le_refl _) (.cells #[.int .i64 2] 3)
      have R2 := R1.out.below hb2
      have k2 : CB (w1.alloc (.cells #[.int .i64 2] 3)) cb i := (hb2.block _ k1.lt).trans k1
      have K2 := k2.cell
      have c4 : (w1.alloc (.cells #[.int .i64 2] 3)).cell? ⟨i.c, 4, none⟩ = some (.pointer (some ⟨i.r 2, 0, none⟩)) := R2.cells.2.2.2.2.1
      have Z := ls_pop _ (i.r 2) (S' 2) _ b (R2.ls 2 (by omega))
      rw [upd_same, TL.out.1, TL.out.2] at Z
      have Z := Lib.hid Z
      have HR2 := Lib.hid (And.intro R2 (And.intro ((HR.out.2.1.trans (Went.below B1.out)).trans (Went.below hb2)) (And.intro k2 HR.out.2.2.2)))
      clear hB k1 R1 U HR K0 hb2 R2 k2
      go_wp2_with fail
      refine V.out.mono ?_
      rintro e w2 ⟨rfl, rfl⟩
      clear K1 V
      go_wp2_with fail
      refine Z.out.mono ?_
      intro e w3 hp
      obtain ⟨R2, W2, k2, hnb⟩ := HR2.out
      obtain ⟨rfl, S3, r3, hW3⟩ := R2.on (show 2 < 4 by omega) hp (Nat.le_refl _)
      rw [upd_upd] at r3
      have o3 := went_out hW3 k2.lt hnb
      have N3 := Lib.hid (show TRel w cb i S mo p R b 2 (min m n + gk) w3 from ⟨S3, by rw [← HJ.out]; exact r3, W2.trans hW3, o3.1.trans k2, o3.2⟩)
      clear hp r3 hW3 o3 R2 W2 k2 hnb HR2 Z c4 K2
      go_wp2_with fail
      go_roundg gk
      case measure => omega
      case rel => exact ⟨by omega, N3.out⟩
set_option maxHeartbeats 1000000 in
theorem cutG3 (w : World) (cb : Nat) (i : Ix) (S : Sx) (mo p : Nat) (R : Rw4) (b m : Nat) (r : Raw w i S mo p R b) (kb : CB w cb i) (hn : ¬ blk i S cb) (FT : FuncId) (hF : ∀ args w, (callFunc FT args).run Tryz.prog w = .ok (.enter FT args) w)
    (hT : ∀ W S' j, Raw W i S' mo p (upd R 3 ((R 3).take j)) b → CB W cb i → j ≤ (R 3).length → Calls Tryz.prog FT #[.pointer (some ⟨cb, 0, none⟩)] W (Stl (.bool (decide (m < j))) W)) :
    Calls Tryz.prog 349 #[.int .i64 3, .func (.func FT) #[] #[.pointer (some ⟨cb, 0, none⟩)], .pointer (some ⟨cb, 0, none⟩)] w (fun e w' => e = .returned (.tuple #[]) ∧ TRel w cb i S mo p R b 3 m w') := by
  obtain ⟨n, hnn⟩ : ∃ n, n = (R 3).length := ⟨_, rfl⟩
  have H0 := Lib.hid (show TRel w cb i S mo p R b 3 n w from ⟨S, by rw [hnn, List.take_length, upd_self]; exact r, Went.refl _ _, kb, hn⟩)
  have HT := Lib.hid hT
  have HN := Lib.hid hnn
  have TM := Lib.hid (show (R 3).take (min m n) = (R 3).take m by rw [hnn]; exact take_min _ _)
  clear r kb hn hT hnn
  go_enter Tryz.func349, Tryz.ntmps349
  go_wp2_with fail
  go_loopg [] (n - m) (fun g W => g ≤ n - m ∧ TRel w cb i S mo p R b 3 (min m n + g) W)
  case atStart => exact ⟨Nat.le_refl _, by rw [show min m n + (n - m) = n by omega]; exact H0.out⟩
  case round =>
    obtain ⟨hg, S', hR, hW, hK, hnb⟩ := hrel
    have K0 := hK.cell
    have U := Lib.hid (HT.out wr S' (min m n + gk) hR hK (by have := HN.out; omega))
    have HR := Lib.hid (And.intro hR (And.intro hW (And.intro hK hnb)))
    clear hR hW hK hnb
    cases gk with
    | zero =>
      have U := Lib.hid (show Calls Tryz.prog FT #[.pointer (some ⟨cb, 0, none⟩)] wr (Stl (.bool false) wr) by
        have := U.out
        rw [show decide (m < min m n + 0) = false by simp; omega] at this
        exact this)
      go_wp2_with fail
      refine U.out.mono ?_
      rintro e w1 ⟨rfl, hB⟩
      have B1 := Lib.hid hB
      clear hB
      go_wp2_with fail
      go_end0
      obtain ⟨hR, hW, hK, hnb⟩ := HR.out
      refine ⟨rfl, S', ?_, hW.trans (Went.below B1.out), (B1.out.block _ hK.lt).trans hK, hnb⟩
      have := hR.below B1.out
      rw [Nat.add_zero, TM.out] at this
      exact this
    | succ gk =>
      have U := Lib.hid (show Calls Tryz.prog FT #[.pointer (some ⟨cb, 0, none⟩)] wr (Stl (.bool true) wr) by
        have := U.out
        rw [show decide (m < min m n + (gk + 1)) = true by simp; omega] at this
        exact this)
      obtain ⟨j, hj⟩ : ∃ j, j = min m n + gk := ⟨_, rfl⟩
      have HJ := Lib.hid hj
      have hjn : j < (R 3).length := by have := HN.out; omega
      rw [show min m n + (gk + 1) = j + 1 by omega] at HR
      have TL := Lib.hid (take_last hjn)
      clear hj
      go_wp2_with fail
      refine U.out.mono ?_
      rintro e w1 ⟨rfl, hB⟩
      have B1 := Lib.hid hB
      have R1 := Lib.hid (HR.out.1.below hB)
      have k1 : CB w1 cb i := (hB.block _ HR.out.2.2.1.lt).trans HR.out.2.2.1
      have K1 := k1.cell
      have V := count_one w1 i S' mo p _ b R1.out 3 (by omega)
      rw [upd_same, List.length_take, Nat.min_eq_left (by omega)] at V
      have V := Lib.hid (show Calls Tryz.prog 343 #[.pointer (some ⟨i.c, 0, none⟩), .slice (some ⟨w1.heap.size, 0, none⟩) 1 1] (w1.alloc (.cells #[.int .i64 3] 3)) (IntPost ((j + 1 : Nat) : Int) (w1.alloc (.cells #[.int .i64 3] 3))) from V)
      have hb2 := (Below.refl w1.heap.size w1).alloc (Nat.le_refl _) (.cells #[.int .i64 3] 3)
      have R2 := R1.out.below hb2
      have k2 : CB (w1.alloc (.cells #[.int .i64 3] 3)) cb i := (hb2.block _ k1.lt).trans k1
      have K2 := k2.cell
      have c5 : (w1.alloc (.cells #[.int .i64 3] 3)).cell? ⟨i.c, 5, none⟩ = some (.pointer (some ⟨i.r 3, 0, none⟩)) := R2.cells.2.2.2.2.2
      have Z := ls_pop _ (i.r 3) (S' 3) _ b (R2.ls 3 (by omega))
      rw [upd_same, TL.out.1, TL.out.2] at Z
      have Z := Lib.hid Z
      have HR2 := Lib.hid (And.intro R2 (And.intro ((HR.out.2.1.trans (Went.below B1.out)).trans (Went.below hb2)) (And.intro k2 HR.out.2.2.2)))
      clear hB k1 R1 U HR K0 hb2 R2 k2
      go_wp2_with fail
      refine V.out.mono ?_
      rintro e w2 ⟨rfl, rfl⟩
      clear K1 V
      go_wp2_with fail
      refine Z.out.mono ?_
      intro e w3 hp
      obtain ⟨R2, W2, k2, hnb⟩ := HR2.out
      obtain ⟨rfl, S3, r3, hW3⟩ := R2.on (show 3 < 4 by omega) hp (Nat.le_refl _)
      rw [upd_upd] at r3
      have o3 := went_out hW3 k2.lt hnb
      have N3 := Lib.hid (show TRel w cb i S mo p R b 3 (min m n + gk) w3 from ⟨S3, by rw [← HJ.out]; exact r3, W2.trans hW3, o3.1.trans k2, o3.2⟩)
      clear hp r3 hW3 o3 R2 W2 k2 hnb HR2 Z c5 K2
      go_wp2_with fail
      go_roundg gk
      case measure => omega
      case rel => exact ⟨by omega, N3.out⟩
theorem fn2 : ∀ args w, (callFunc 350 args).run Tryz.prog w = .ok (.enter 350 args) w := fun args w => by kernel_rfl
theorem fn3 : ∀ args w, (callFunc 351 args).run Tryz.prog w = .ok (.enter 351 args) w := fun args w => by kernel_rfl
theorem trim_two (w : World) (cb : Nat) (i : Ix) (S : Sx) (mo p : Nat) (R : Rw4) (b : Nat) (r : Raw w i S mo p R b) (kb : CB w cb i) (hn : ¬ blk i S cb) (h0 : (R 0).length ≤ mo) :
    Calls Tryz.prog 349 #[.int .i64 2, .func (.func 350) #[] #[.pointer (some ⟨cb, 0, none⟩)], .pointer (some ⟨cb, 0, none⟩)] w (fun e w' => e = .returned (.tuple #[]) ∧ ∃ S', Raw w' i S' mo p (trim2 mo R) b ∧ Went w w' (blk i S) (blk i S') ∧ CB w' cb i ∧ ¬ blk i S' cb) := by
  refine (cutG2 w cb i S mo p R b (mo - (R 0).length) r kb hn _ fn2 ?_).mono fun e w' h => h
  intro W S' j hR hK hj
  have := many2 W cb i S' mo p _ b hR hK
  rw [upd_same, upd_ne (by omega), List.length_take, Nat.min_eq_left hj] at this
  rw [show decide (mo - (R 0).length < j) = decide (mo < (R 0).length + j) by congr 1; simp only [eq_iff_iff]; omega]
  exact this
theorem trim_three (w : World) (cb : Nat) (i : Ix) (S : Sx) (mo p : Nat) (R : Rw4) (b : Nat) (r : Raw w i S mo p R b) (kb : CB w cb i) (hn : ¬ blk i S cb) (h0 : (R 0).length + (R 1).length + (R 2).length ≤ 2 * mo) :
    Calls Tryz.prog 349 #[.int .i64 3, .func (.func 351) #[] #[.pointer (some ⟨cb, 0, none⟩)], .pointer (some ⟨cb, 0, none⟩)] w (fun e w' => e = .returned (.tuple #[]) ∧ ∃ S', Raw w' i S' mo p (trim3 mo R) b ∧ Went w w' (blk i S) (blk i S') ∧ CB w' cb i ∧ ¬ blk i S' cb) := by
  refine (cutG3 w cb i S mo p R b (2 * mo - ((R 0).length + (R 1).length + (R 2).length)) r kb hn _ fn3 ?_).mono fun e w' h => h
  intro W S' j hR hK hj
  have := many3 W cb i S' mo p _ b hR hK
  rw [upd_same, upd_ne (by omega), upd_ne (by omega), upd_ne (by omega), List.length_take, Nat.min_eq_left hj] at this
  rw [show decide (2 * mo - ((R 0).length + (R 1).length + (R 2).length) < j) = decide (2 * mo < (R 0).length + (R 1).length + (R 2).length + j) by congr 1; simp only [eq_iff_iff]; omega]
  exact this
theorem trim2_len (mo : Nat) (R : Rw4) : (trim2 mo R 2).length ≤ mo - (R 0).length := by
  unfold trim2
  rw [upd_same, List.length_take]; omega
theorem trimW (w : World) (i : Ix) (S : Sx) (mo p : Nat) (R : Rw4) (b : Nat) (r : Raw w i S mo p R b) (h0 : (R 0).length + (R 1).length ≤ mo) : Calls Tryz.prog 341 #[.pointer (some ⟨i.c, 0, none⟩)] w (RPost (.tuple #[]) w i S mo p (trimR mo R) b) := by
  have hb := (Below.refl w.heap.size w).alloc (Nat.le_refl _) (.cells #[.pointer (some ⟨i.c, 0, none⟩)] 221)
  have kb : CB (w.alloc (.cells #[.pointer (some ⟨i.c, 0, none⟩)] 221)) w.heap.size i := heap_alloc_new _ _
  have U := Lib.hid (trim_two _ w.heap.size i S mo p R b (r.below hb) kb (fun h => by have := r.lt h; omega) (by omega))
  have B := Lib.hid hb
  have h3 := Lib.hid (show (trim2 mo R 0).length + (trim2 mo R 1).length + (trim2 mo R 2).length ≤ 2 * mo by
    have := trim2_len mo R
    rw [show trim2 mo R 0 = R 0 from upd_ne (by omega), show trim2 mo R 1 = R 1 from upd_ne (by omega)]
    omega)
  clear r hb kb h0
  go_enter Tryz.func341, Tryz.ntmps341
  go_wp2_with fail
  refine U.out.mono ?_
  rintro e w1 ⟨rfl, S1, r1, hW1, k1, n1⟩
  have V := Lib.hid (trim_three w1 w.heap.size i S1 mo p _ b r1 k1 n1 h3.out)
  have W1 := Lib.hid ((Went.below B.out : Went w _ (blk i S) (blk i S)).trans hW1)
  clear r1 hW1 k1 n1 U
  go_wp2_with fail
  refine V.out.mono ?_
  rintro e w2 ⟨rfl, S2, r2, hW2, k2, n2⟩
  have P := Lib.hid (show RPost (.tuple #[]) w i S mo p (trimR mo R) b (.returned (.tuple #[])) w2 from ⟨rfl, S2, r2, W1.out.trans hW2⟩)
  clear r2 hW2 k2 n2 V
  go_wp2_with fail
  go_end0
  exact P.out
end Go.Proofs.YtnlckkahkghneaaGreatDoor.AR
namespace Go.Proofs.YtnlckkahkghneaaGreatDoor.AR
open Go.RowKit Sg

end Go.Proofs.YtnlckkahkghneaaGreatDoor.AR
namespace Go.Proofs.YtnlckkahkghneaaGreatDoor.AR
open Go.RowKit Sg

theorem putR_len (R : Rw4) (key : ByteArray) : (putR R key 0 0).length + (putR R key 0 1).length ≤ (R 0).length + (R 1).length + 1 := by
  have r0 := rem_le (R 0) key
  have r1 := rem_le (R 1) key
  unfold putR
  rw [upd_same, upd_ne (by omega), List.length_cons]
  show (rem (R 0) key).length + 1 + (rem (R 1) key).length ≤ _
  omega

/-- The rows behind a resize to n. -/
def resR (p n : Nat) (R : Rw4) : Rw4 := trimR n (cutn (min p n) false R (lenR R - n))
end Go.Proofs.YtnlckkahkghneaaGreatDoor.AR
namespace Go.Proofs.YtnlckkahkghneaaGreatDoor.AR
open Go.RowKit Sg

/-- The rows when the place for a new key is made, ahead of cutTo; who went then. -/
def plR (mo : Nat) (R : Rw4) : Rw4 := if (R 0).length + (R 2).length < mo then (if 2 * mo ≤ totR R then upd R 3 (R 3).dropLast else R) else if (R 0).length < mo then upd R 2 (R 2).dropLast else upd R 0 (R 0).dropLast
def plV (mo : Nat) (R : Rw4) : List ByteArray := if (R 0).length + (R 2).length < mo then [] else if (R 0).length < mo then [] else [lastKey (R 0)]

/-- Whom Request's closure was handed last. -/
def vicOf (vs : List ByteArray) : ByteArray := if vs = [] then ⟨#[]⟩ else lastKey vs

end Go.Proofs.YtnlckkahkghneaaGreatDoor.AR
namespace Go.Proofs.YtnlckkahkghneaaGreatDoor.AR
open Sg

structure St where
  mo : Nat
  p : Nat
  R : Rw4
/-- No key twice. -/
structure Pre (R : Rw4) : Prop where
  dis : ∀ j k, j < 4 → k < 4 → ∀ x, x ∈ R j → x ∈ R k → j = k
  nd : ∀ k, k < 4 → (R k).Nodup
def s02 (R : Rw4) : Nat := (R 0).length + (R 2).length
structure Ok (s : St) : Prop where
  pre : Pre s.R
  le : lenR s.R ≤ s.mo
  gl : s02 s.R ≤ s.mo
  tl : totR s.R ≤ 2 * s.mo
  pl : s.p ≤ s.mo
def St.req (s : St) (k : ByteArray) : St :=
  if s.mo = 0 then s
  else if hit s.R k = true then ⟨s.mo, s.p, putR s.R k 1⟩
  else if inn (s.R 2) k = true then ⟨s.mo, rpU s.mo s.p s.R, putR (cutn (rpU s.mo s.p s.R) false s.R (lenR s.R - (s.mo - 1))) k 1⟩
  else if inn (s.R 3) k = true then ⟨s.mo, lpU s.p s.R, putR (cutn (lpU s.p s.R) true s.R (lenR s.R - (s.mo - 1))) k 1⟩
  else ⟨s.mo, s.p, putR (cutn s.p false (plR s.mo s.R) (lenR (plR s.mo s.R) - (s.mo - 1))) k 0⟩
/-- Who goes for a key. -/
def St.vs (s : St) (k : ByteArray) : List ByteArray :=
  if s.mo = 0 then []
  else if hit s.R k = true then []
  else if inn (s.R 2) k = true then outs (rpU s.mo s.p s.R) false s.R (lenR s.R - (s.mo - 1))
  else if inn (s.R 3) k = true then outs (lpU s.p s.R) true s.R (lenR s.R - (s.mo - 1))
  else plV s.mo s.R ++ outs s.p false (plR s.mo s.R) (lenR (plR s.mo s.R) - (s.mo - 1))
def St.step (s : St) (k : ByteArray) : Value := .agg #[.bool (hit s.R k), .string (vicOf (s.vs k)), .bool (!(s.vs k).isEmpty)]
def St.rm (s : St) (k : ByteArray) : St := ⟨s.mo, s.p, rmR s.R k⟩
def St.adB (s : St) (k : ByteArray) : Bool := !hit s.R k && decide (lenR s.R < s.mo)
def St.ad (s : St) (k : ByteArray) : St := if s.adB k = true then ⟨s.mo, s.p, trimR s.mo (putR s.R k 0)⟩ else s
def St.dr (s : St) : St := ⟨s.mo, s.p, upd s.R (lv s.R s.p false) (s.R (lv s.R s.p false)).dropLast⟩
def St.rs (s : St) (n : Nat) : St := ⟨n, min s.p n, resR s.p n s.R⟩
def St.start (n : Nat) : St := ⟨n, 0, fun _ => []⟩

section
variable {R Q : Rw4} {x y : ByteArray} {p n k : Nat} {q : Bool}
theorem Pre.sub (h : Pre R) (hs : ∀ k, k < 4 → (Q k).Sublist (R k)) : Pre Q :=
  ⟨fun j k hj hk x h1 h2 => h.dis j k hj hk x ((hs j hj).subset h1) ((hs k hk).subset h2), fun k hk => (h.nd k hk).sublist (hs k hk)⟩
theorem Pre.front (h : Pre R) (hx : ∀ j, j < 4 → x ∉ R j) (k : Nat) : Pre (upd R k (x :: R k)) := by
  have key : ∀ j, j < 4 → ∀ y, y ∈ upd R k (x :: R k) j → (y = x ∧ j = k) ∨ y ∈ R j := fun j _ y hy => by
    by_cases e : j = k
    · subst e
      rw [upd_same] at hy
      exact (List.mem_cons.1 hy).imp (fun h => ⟨h, rfl⟩) id
    · rw [upd_ne e] at hy; exact Or.inr hy
  refine ⟨fun j l hj hl y h1 h2 => ?_, fun j hj => ?_⟩
  · rcases key j hj y h1 with ⟨e1, f1⟩ | g1
    · rcases key l hl y h2 with ⟨e2, f2⟩ | g2
      · omega
      · subst e1; exact absurd g2 (hx l hl)
    · rcases key l hl y h2 with ⟨e2, f2⟩ | g2
      · subst e2; exact absurd g1 (hx j hj)
      · exact h.dis j l hj hl y g1 g2
  · by_cases e : j = k
    · subst e
      rw [upd_same, List.nodup_cons]
      exact ⟨hx j hj, h.nd j hj⟩
    · rw [upd_ne e]; exact h.nd j hj
theorem last_out {xs : List ByteArray} (h : xs.Nodup) (h0 : 0 < xs.length) : lastKey xs ∉ xs.dropLast := by
  have h2 : xs ≠ [] := fun e => by rw [e] at h0; exact Nat.lt_irrefl _ h0
  rw [← (dropLast_rem h h2).1]
  exact rem_not
/-- A row's last one off it: it is in no row then. -/
theorem pop_out (h : Pre R) (hk : k < 4) (h0 : 0 < (R k).length) : Pre (upd R k (R k).dropLast) ∧ ∀ j, j < 4 → lastKey (R k) ∉ upd R k (R k).dropLast j := by
  refine ⟨h.sub fun j hj => ?_, fun j hj hm => ?_⟩
  · by_cases e : j = k
    · subst e; rw [upd_same]; exact List.dropLast_sublist _
    · rw [upd_ne e]; exact List.Sublist.refl _
  · by_cases e : j = k
    · subst e
      rw [upd_same] at hm
      exact last_out (h.nd j hj) h0 hm
    · rw [upd_ne e] at hm
      exact e (h.dis j k hj hk _ hm (last_mem h0))
theorem cut1_eq (h : Pre R) (hl : 0 < lenR R) : cut1 p q R = upd (upd R (lv R p q) (R (lv R p q)).dropLast) (lv R p q + 2) (lastKey (R (lv R p q)) :: upd R (lv R p q) (R (lv R p q)).dropLast (lv R p q + 2)) := by
  have h0 := lv_pos (p := p) (q := q) hl
  have h4 := lv_lt R p q
  unfold cut1
  rw [upd_ne (f := R) (show lv R p q + 2 ≠ lv R p q by omega), rem_none]
  intro hm
  have := h.dis _ _ h4.2 h4.1 _ hm (last_mem h0)
  omega
/-- What one that goes leaves. -/
structure Cut (R Q : Rw4) (n : Nat) : Prop where
  pre : Pre Q
  len : lenR Q + n = lenR R
  gl : s02 Q = s02 R
  tot : totR Q = totR R
  gh : ∀ k, 2 ≤ k → k < 4 → ∀ y, y ∈ R k → y ∈ Q k
  old : ∀ k, k < 4 → ∀ y, y ∈ Q k → ∃ j, j < 4 ∧ y ∈ R j
theorem cut1_ok (h : Pre R) (hl : 0 < lenR R) : Cut R (cut1 p q R) 1 := by
  have h0 := lv_pos (p := p) (q := q) hl
  have h4 := lv_lt R p q
  obtain ⟨h1, h2⟩ := pop_out h h4.1 h0
  have hlen := cut1_len (p := p) (q := q) hl
  rw [cut1_eq h hl] at hlen ⊢
  refine ⟨h1.front h2 _, hlen, ?_, ?_, fun k hk hk4 y hy => ?_, fun k hk y hy => ?_⟩
  · rcases lv_two R p q with e | e <;> rw [e] at h0 ⊢ <;> simp [s02, upd] <;> omega
  · rcases lv_two R p q with e | e <;> rw [e] at h0 ⊢ <;> simp [totR, upd] <;> omega
  · have hne : k ≠ lv R p q := by rcases lv_two R p q with e | e <;> omega
    by_cases e : k = lv R p q + 2
    · subst e
      rw [upd_same, upd_ne hne]; exact List.mem_cons_of_mem _ hy
    · rw [upd_ne e, upd_ne hne]; exact hy
  · have key : ∀ j, j < 4 → y ∈ upd R (lv R p q) (R (lv R p q)).dropLast j → ∃ j, j < 4 ∧ y ∈ R j := fun j hj hm => by
      by_cases e : j = lv R p q
      · subst e
        rw [upd_same] at hm
        exact ⟨_, hj, List.dropLast_subset _ hm⟩
      · rw [upd_ne e] at hm; exact ⟨j, hj, hm⟩
    by_cases e : k = lv R p q + 2
    · rw [e, upd_same] at hy
      rcases List.mem_cons.1 hy with hy | hy
      · exact ⟨_, h4.1, hy ▸ last_mem h0⟩
      · exact key _ h4.2 hy
    · rw [upd_ne e] at hy; exact key k hk hy
theorem cutn_ok (h : Pre R) : ∀ {n : Nat}, n ≤ lenR R → Cut R (cutn p q R n) n
  | 0, _ => ⟨h, rfl, rfl, rfl, fun _ _ _ _ hy => hy, fun k hk _ hy => ⟨k, hk, hy⟩⟩
  | n + 1, hn => by
    have c := cutn_ok h (n := n) (by omega)
    have hl := c.len
    have d := cut1_ok (p := p) (q := q) c.pre (by omega)
    have dl := d.len
    refine ⟨d.pre, ?_, d.gl.trans c.gl, d.tot.trans c.tot, fun k h1 h2 y hy => d.gh k h1 h2 y (c.gh k h1 h2 y hy), fun k hk y hy => ?_⟩
    · show lenR (cut1 p q (cutn p q R n)) + (n + 1) = _
      omega
    · obtain ⟨j, hj, hm⟩ := d.old k hk y hy
      exact c.old j hj y hm
theorem Pre.rm (h : Pre R) (x : ByteArray) : Pre (rmR R x) := h.sub fun _ _ => List.filter_sublist
theorem rm_out (R : Rw4) (x : ByteArray) : ∀ j, j < 4 → x ∉ rmR R x j := fun _ _ => rem_not
theorem Pre.put (h : Pre R) (x : ByteArray) (k : Nat) : Pre (putR R x k) := (h.rm x).front (rm_out R x) k
theorem put_at (R : Rw4) (x : ByteArray) (k : Nat) : putR R x k k = x :: rem (R k) x := upd_same _ _ _
theorem put_ne {j : Nat} (h : j ≠ k) : putR R x k j = rem (R j) x := upd_ne h
theorem trim_sub (mo : Nat) (R : Rw4) (k : Nat) : (trimR mo R k).Sublist (R k) := by
  unfold trimR trim3
  by_cases e : k = 3
  · subst e
    rw [upd_same]
    refine (List.take_sublist _ _).trans ?_
    rw [show trim2 mo R 3 = R 3 from upd_ne (by omega)]
    exact List.Sublist.refl _
  · rw [upd_ne e]
    unfold trim2
    by_cases e2 : k = 2
    · subst e2; rw [upd_same]; exact List.take_sublist _ _
    · rw [upd_ne e2]; exact List.Sublist.refl _
theorem trim_cnt {mo : Nat} {R : Rw4} (h : lenR R ≤ mo) : lenR (trimR mo R) = lenR R ∧ s02 (trimR mo R) ≤ mo ∧ totR (trimR mo R) ≤ 2 * mo ∧ totR (trimR mo R) ≤ totR R := by
  have f0 : trim2 mo R 0 = R 0 := upd_ne (by omega)
  have f1 : trim2 mo R 1 = R 1 := upd_ne (by omega)
  have f2 : trim2 mo R 2 = (R 2).take (mo - (R 0).length) := upd_same _ _ _
  have f3 : trim2 mo R 3 = R 3 := upd_ne (by omega)
  have ht : ∀ j, j ≠ 3 → trimR mo R j = trim2 mo R j := fun j hj => by unfold trimR trim3; exact upd_ne hj
  have e0 : trimR mo R 0 = R 0 := (ht 0 (by omega)).trans f0
  have e1 : trimR mo R 1 = R 1 := (ht 1 (by omega)).trans f1
  have e2 : trimR mo R 2 = (R 2).take (mo - (R 0).length) := (ht 2 (by omega)).trans f2
  have e3 : trimR mo R 3 = (R 3).take (2 * mo - ((R 0).length + (R 1).length + ((R 2).take (mo - (R 0).length)).length)) := by
    show upd (trim2 mo R) 3 ((trim2 mo R 3).take (2 * mo - ((trim2 mo R 0).length + (trim2 mo R 1).length + (trim2 mo R 2).length))) 3 = _
    rw [upd_same, f0, f1, f2, f3]
  unfold lenR at *
  unfold s02 totR
  rw [e0, e1, e2, e3, List.length_take, List.length_take]
  omega
end

section
variable {s : St}
theorem hit_iff {R : Rw4} {k : ByteArray} : hit R k = true ↔ k ∈ R 0 ∨ k ∈ R 1 := by unfold hit; rw [Bool.or_eq_true, inn_iff, inn_iff]
theorem hit_no {R : Rw4} {k : ByteArray} : hit R k = false ↔ k ∉ R 0 ∧ k ∉ R 1 := by unfold hit; rw [Bool.or_eq_false_iff, inn_no, inn_no]
theorem rp_le (mo p : Nat) (R : Rw4) (h : p ≤ mo) : rpU mo p R ≤ mo := by unfold rpU; omega
theorem lp_le (mo p : Nat) (R : Rw4) (h : p ≤ mo) : lpU p R ≤ mo := by unfold lpU; omega
/-- A ghost that is asked for. -/
theorem ok_ghost (h : Ok s) (hm : s.mo ≠ 0) (k : ByteArray) (j : Nat) (hj : j = 2 ∨ j = 3) (hk : k ∈ s.R j) (_ : hit s.R k = false) (p : Nat) (hp : p ≤ s.mo) (q : Bool) : Ok ⟨s.mo, p, putR (cutn p q s.R (lenR s.R - (s.mo - 1))) k 1⟩ := by
  have c := cutn_ok (p := p) (q := q) h.pre (n := lenR s.R - (s.mo - 1)) (by omega)
  have hkQ := c.gh j (by omega) (by omega) k hk
  have h1 := c.len
  have h2 := c.gl
  have h3 := c.tot
  have g1 := h.le
  have g2 := h.gl
  have g3 := h.tl
  have r := rem_len (c.pre.nd j (by omega)) hkQ
  generalize cutn p q s.R (lenR s.R - (s.mo - 1)) = Q at *
  refine ⟨c.pre.put k 1, ?_, ?_, ?_, hp⟩
  · show lenR (putR Q k 1) ≤ s.mo
    have r0 := rem_le (Q 0) k
    have r1 := rem_le (Q 1) k
    unfold lenR at *
    rw [put_at, put_ne (by omega), List.length_cons]; omega
  · show s02 (putR Q k 1) ≤ s.mo
    have r0 := rem_le (Q 0) k
    have r2 := rem_le (Q 2) k
    unfold s02 at *
    rw [put_ne (by omega), put_ne (by omega)]; omega
  · show totR (putR Q k 1) ≤ 2 * s.mo
    have r0 := rem_le (Q 0) k
    have r1 := rem_le (Q 1) k
    have r2 := rem_le (Q 2) k
    have r3 := rem_le (Q 3) k
    unfold totR at *
    rw [put_at, put_ne (by omega), put_ne (by omega), put_ne (by omega), List.length_cons]
    rcases hj with rfl | rfl <;> omega
theorem pl_ok (h : Ok s) (hm : s.mo ≠ 0) : Pre (plR s.mo s.R) ∧ (∀ k, k < 4 → (plR s.mo s.R k).Sublist (s.R k)) ∧ s02 (plR s.mo s.R) < s.mo ∧ totR (plR s.mo s.R) < 2 * s.mo ∧ lenR (plR s.mo s.R) ≤ s.mo := by
  have g1 := h.le
  have g2 := h.gl
  have g3 := h.tl
  have up : ∀ j, ∀ k, k < 4 → (upd s.R j (s.R j).dropLast k).Sublist (s.R k) := fun j k _ => by
    by_cases e : k = j
    · subst e; rw [upd_same]; exact List.dropLast_sublist _
    · rw [upd_ne e]; exact List.Sublist.refl _
  unfold plR
  unfold lenR s02 at *
  by_cases h1 : (s.R 0).length + (s.R 2).length < s.mo
  · rw [if_pos h1]
    by_cases h2 : 2 * s.mo ≤ totR s.R
    · rw [if_pos h2]
      refine ⟨h.pre.sub (up 3), up 3, ?_, ?_, ?_⟩
      · simp [upd]; omega
      · unfold totR at *; simp [upd]; omega
      · simp [upd]; omega
    · rw [if_neg h2]
      exact ⟨h.pre, fun _ _ => List.Sublist.refl _, h1, by omega, g1⟩
  · rw [if_neg h1]
    by_cases h2 : (s.R 0).length < s.mo
    · rw [if_pos h2]
      refine ⟨h.pre.sub (up 2), up 2, ?_, ?_, ?_⟩
      · simp [upd]; omega
      · unfold totR at *; simp [upd]; omega
      · simp [upd]; omega
    · rw [if_neg h2]
      refine ⟨h.pre.sub (up 0), up 0, ?_, ?_, ?_⟩
      · simp [upd]; omega
      · unfold totR at *; simp [upd]; omega
      · simp [upd]; omega
theorem Ok.req (h : Ok s) (k : ByteArray) : Ok (s.req k) := by
  have g1 := h.le
  have g2 := h.gl
  have g3 := h.tl
  unfold St.req
  by_cases hm : s.mo = 0
  · rw [if_pos hm]; exact h
  rw [if_neg hm]
  cases hh : hit s.R k with
  | true =>
    rw [if_pos rfl]
    have r0 := rem_le (s.R 0) k
    have r1 := rem_le (s.R 1) k
    have r2 := rem_le (s.R 2) k
    have r3 := rem_le (s.R 3) k
    have hc : (rem (s.R 0) k).length + (rem (s.R 1) k).length + 1 ≤ (s.R 0).length + (s.R 1).length := by
      rcases hit_iff.1 hh with hi | hi
      · have := rem_len (h.pre.nd 0 (by omega)) hi; omega
      · have := rem_len (h.pre.nd 1 (by omega)) hi; omega
    refine ⟨h.pre.put k 1, ?_, ?_, ?_, h.pl⟩
    · show lenR (putR s.R k 1) ≤ s.mo
      unfold lenR at *
      rw [put_at, put_ne (by omega), List.length_cons]; omega
    · show s02 (putR s.R k 1) ≤ s.mo
      unfold s02 at *
      rw [put_ne (by omega), put_ne (by omega)]; omega
    · show totR (putR s.R k 1) ≤ 2 * s.mo
      unfold totR at *
      rw [put_at, put_ne (by omega), put_ne (by omega), put_ne (by omega), List.length_cons]; omega
  | false =>
  rw [if_neg (by simp)]
  cases h2 : inn (s.R 2) k with
  | true => rw [if_pos rfl]; exact ok_ghost h hm k 2 (Or.inl rfl) (inn_iff.1 h2) hh _ (rp_le _ _ _ h.pl) _
  | false =>
  rw [if_neg (by simp)]
  cases h3 : inn (s.R 3) k with
  | true => rw [if_pos rfl]; exact ok_ghost h hm k 3 (Or.inr rfl) (inn_iff.1 h3) hh _ (lp_le _ _ _ h.pl) _
  | false =>
  rw [if_neg (by simp)]
  obtain ⟨p1, p2, p3, p4, p5⟩ := pl_ok h hm
  have c := cutn_ok (p := s.p) (q := false) p1 (n := lenR (plR s.mo s.R) - (s.mo - 1)) (by omega)
  have c1 := c.len
  have c2 := c.gl
  have c3 := c.tot
  generalize cutn s.p false (plR s.mo s.R) (lenR (plR s.mo s.R) - (s.mo - 1)) = Q at *
  have r0 := rem_le (Q 0) k
  have r1 := rem_le (Q 1) k
  have r2 := rem_le (Q 2) k
  have r3 := rem_le (Q 3) k
  refine ⟨c.pre.put k 0, ?_, ?_, ?_, h.pl⟩
  · show lenR (putR Q k 0) ≤ s.mo
    unfold lenR at *
    rw [put_at, put_ne (by omega), List.length_cons]; omega
  · show s02 (putR Q k 0) ≤ s.mo
    unfold s02 at *
    rw [put_at, put_ne (by omega), List.length_cons]; omega
  · show totR (putR Q k 0) ≤ 2 * s.mo
    unfold totR at *
    rw [put_at, put_ne (by omega), put_ne (by omega), put_ne (by omega), List.length_cons]; omega
theorem Ok.rm (h : Ok s) (k : ByteArray) : Ok (s.rm k) := by
  have g1 := h.le
  have g2 := h.gl
  have g3 := h.tl
  have r0 := rem_le (s.R 0) k
  have r1 := rem_le (s.R 1) k
  have r2 := rem_le (s.R 2) k
  have r3 := rem_le (s.R 3) k
  unfold lenR at g1
  unfold s02 at g2
  unfold totR at g3
  refine ⟨h.pre.rm k, ?_, ?_, ?_, h.pl⟩
  · show (rem (s.R 0) k).length + (rem (s.R 1) k).length ≤ s.mo
    omega
  · show (rem (s.R 0) k).length + (rem (s.R 2) k).length ≤ s.mo
    omega
  · show (rem (s.R 0) k).length + (rem (s.R 1) k).length + (rem (s.R 2) k).length + (rem (s.R 3) k).length ≤ 2 * s.mo
    omega
theorem ad_len (s : St) (k : ByteArray) (hl : lenR s.R < s.mo) : lenR (putR s.R k 0) ≤ s.mo := by
  have := putR_len s.R k
  unfold lenR at *
  omega
theorem Ok.ad (h : Ok s) (k : ByteArray) : Ok (s.ad k) := by
  unfold St.ad
  by_cases hb : s.adB k = true
  · rw [if_pos hb]
    have hl : lenR s.R < s.mo := by unfold St.adB at hb; simp at hb; exact hb.2
    have hp := ad_len s k hl
    obtain ⟨t1, t2, t3, _⟩ := trim_cnt hp
    exact ⟨(h.pre.put k 0).sub fun j _ => trim_sub _ _ j, Nat.le_trans (Nat.le_of_eq t1) hp, t2, t3, h.pl⟩
  · rw [if_neg hb]; exact h
theorem dr_sub (s : St) (k : Nat) : (s.dr.R k).Sublist (s.R k) := by
  show (upd s.R (lv s.R s.p false) (s.R (lv s.R s.p false)).dropLast k).Sublist (s.R k)
  by_cases e : k = lv s.R s.p false
  · rw [e, upd_same]; exact List.dropLast_sublist _
  · rw [upd_ne e]; exact List.Sublist.refl _
theorem dr_tot (s : St) : totR s.dr.R ≤ totR s.R := by
  have r0 := (dr_sub s 0).length_le
  have r1 := (dr_sub s 1).length_le
  have r2 := (dr_sub s 2).length_le
  have r3 := (dr_sub s 3).length_le
  unfold totR
  omega
theorem Ok.dr (h : Ok s) : Ok s.dr := by
  have g1 := h.le
  have g2 := h.gl
  have r0 := (dr_sub s 0).length_le
  have r1 := (dr_sub s 1).length_le
  have r2 := (dr_sub s 2).length_le
  refine ⟨h.pre.sub fun k _ => dr_sub s k, ?_, ?_, Nat.le_trans (dr_tot s) h.tl, h.pl⟩
  · show lenR s.dr.R ≤ s.mo
    unfold lenR at *; omega
  · show s02 s.dr.R ≤ s.mo
    unfold s02 at *; omega
theorem Ok.rs (h : Ok s) (n : Nat) : Ok (s.rs n) := by
  have c := cutn_ok (p := min s.p n) (q := false) h.pre (n := lenR s.R - n) (by omega)
  have c1 := c.len
  have hl : lenR (cutn (min s.p n) false s.R (lenR s.R - n)) ≤ n := by omega
  obtain ⟨t1, t2, t3, _⟩ := trim_cnt hl
  exact ⟨c.pre.sub fun j _ => trim_sub _ _ j, Nat.le_trans (Nat.le_of_eq t1) hl, t2, t3, Nat.min_le_right _ _⟩
theorem ok_start (n : Nat) : Ok (St.start n) :=
  ⟨⟨fun _ _ _ _ _ h => absurd h (List.not_mem_nil), fun _ _ => List.nodup_nil⟩, Nat.zero_le _, Nat.zero_le _, Nat.zero_le _, Nat.zero_le _⟩
end
end Go.Proofs.YtnlckkahkghneaaGreatDoor.AR
namespace Go.Proofs.YtnlckkahkghneaaGreatDoor.AR
open Go.RowKit Sg



end Go.Proofs.YtnlckkahkghneaaGreatDoor.AR
