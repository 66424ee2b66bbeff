/- A cache of four rows in memory: its struct, its four lists; the contracts of Share, count, Len, Has. -/
import Derived.Test.YtlmbeiijijkjeaaWa
import Derived.Deep.QuietTactic
import Derived.BigQuiet
namespace Go.Proofs.Ytlmbeiijijkjeaa
open Go.RowKit Sg

/-- Rows by their numbers: T1, T2, B1, B2; each from its front on. -/
abbrev Rw4 := Nat → List ByteArray
/-- The cache's block, and the lists' ones. -/
structure Ix where
  c : Nat
  r : Nat → Nat
abbrev Sx := Nat → Nat → Prop
def blk (i : Ix) (S : Sx) : Nat → Prop := fun x => x = i.c ∨ ∃ k, k < 4 ∧ S k x
def cBox (w : World) (i : Ix) (mo p : Nat) : Prop := w.heap[i.c]? = some (.cells #[.int .i64 (mo : Int), .int .i64 (p : Int), .pointer (some ⟨i.r 0, 0, none⟩), .pointer (some ⟨i.r 1, 0, none⟩), .pointer (some ⟨i.r 2, 0, none⟩), .pointer (some ⟨i.r 3, 0, none⟩)] 51 (0, 0))
/-- A cache of at most mo residents, with share p; no list has had more than b keys. -/
structure Raw (w : World) (i : Ix) (S : Sx) (mo p : Nat) (R : Rw4) (b : Nat) : Prop where
  box : cBox w i mo p
  ls : ∀ k, k < 4 → LS w (i.r k) (S k) (R k) b
  sep : ∀ j k, j < 4 → k < 4 → j ≠ k → ∀ x, S j x → ¬ S k x
  out : ∀ k, k < 4 → ¬ S k i.c
  top : mo ≤ 9223372036854775807 ∧ p ≤ 9223372036854775807
def RPost (v : Value) (w : World) (i : Ix) (S : Sx) (mo p : Nat) (R : Rw4) (b : Nat) (e : Ending) (w' : World) : Prop :=
  e = .returned v ∧ ∃ S', Raw w' i S' mo p R b ∧ Went w w' (blk i S) (blk i S')
section
variable {w w' : World} {i : Ix} {S : Sx} {mo p b b' : Nat} {R R' : Rw4} {v : Value} {e : Ending}
theorem Raw.cells (r : Raw w i S mo p R b) : w.cell? ⟨i.c, 0, none⟩ = some (.int .i64 (mo : Int)) ∧ w.cell? ⟨i.c, 1, none⟩ = some (.int .i64 (p : Int)) ∧ w.cell? ⟨i.c, 2, none⟩ = some (.pointer (some ⟨i.r 0, 0, none⟩)) ∧ w.cell? ⟨i.c, 3, none⟩ = some (.pointer (some ⟨i.r 1, 0, none⟩)) ∧ w.cell? ⟨i.c, 4, none⟩ = some (.pointer (some ⟨i.r 2, 0, none⟩)) ∧ w.cell? ⟨i.c, 5, none⟩ = some (.pointer (some ⟨i.r 3, 0, none⟩)) :=
  ⟨cell_of_row w _ 0 _ _ _ r.box, cell_of_row w _ 1 _ _ _ r.box, cell_of_row w _ 2 _ _ _ r.box, cell_of_row w _ 3 _ _ _ r.box, cell_of_row w _ 4 _ _ _ r.box, cell_of_row w _ 5 _ _ _ r.box⟩
theorem Raw.froz (r : Raw w i S mo p R b) : w.frozen? ⟨i.c, 0, none⟩ = false ∧ w.frozen? ⟨i.c, 1, none⟩ = false := ⟨frozen_of_row w _ 0 _ _ r.box, frozen_of_row w _ 1 _ _ r.box⟩
theorem Raw.clt (r : Raw w i S mo p R b) : i.c < w.heap.size := (Array.getElem?_eq_some_iff.1 r.box).1
theorem Raw.lt (r : Raw w i S mo p R b) {k : Nat} (hk : blk i S k) : k < w.heap.size := by
  rcases hk with h | ⟨j, hj, h⟩
  · have := r.clt; omega
  · exact (r.ls j hj).lt h
theorem Raw.kept (r : Raw w i S mo p R b) (hs : w.heap.size ≤ w'.heap.size) (hb : ∀ k, blk i S k → w'.heap[k]? = w.heap[k]?) : Raw w' i S mo p R b :=
  ⟨(hb _ (Or.inl rfl)).trans r.box, fun j hj => (r.ls j hj).kept hs fun k hk => hb k (Or.inr ⟨j, hj, hk⟩), r.sep, r.out, r.top⟩
theorem Raw.below (r : Raw w i S mo p R b) (hb : Below w.heap.size w w') : Raw w' i S mo p R b := r.kept hb.size fun k hk => hb.block k (r.lt hk)
theorem Raw.beside (r : Raw w i S mo p R b) {X : Nat → Prop} (ht : Turn X w w') (hx : ∀ k, blk i S k → ¬ X k) : Raw w' i S mo p R b := r.kept ht.size fun k hk => ht.block k (r.lt hk) (hx k hk)
theorem below_drewN (w : World) (n : Nat) : Below w.heap.size w (w.drewN n) := ⟨rfl, rfl, rfl, Nat.le_refl _, fun _ _ => rfl⟩
theorem Raw.drewN (r : Raw w i S mo p R b) (m : Nat) : Raw (w.drewN m) i S mo p R b := r.below (below_drewN w m)
theorem Raw.mono (r : Raw w i S mo p R b) (hb : b ≤ b') : Raw w i S mo p R b' := ⟨r.box, fun j hj => (r.ls j hj).mono hb, r.sep, r.out, r.top⟩
/-- What a cache is hangs on its four rows alone. -/
theorem Raw.congr (r : Raw w i S mo p R b) (h : ∀ k, k < 4 → R' k = R k) : Raw w i S mo p R' b := ⟨r.box, fun j hj => by rw [h j hj]; exact r.ls j hj, r.sep, r.out, r.top⟩
theorem RPost.congr (r : RPost v w i S mo p R b e w') (h : ∀ k, k < 4 → R' k = R k) : RPost v w i S mo p R' b e w' := by
  obtain ⟨he, S', r', hW⟩ := r
  exact ⟨he, S', r'.congr h, hW⟩
theorem RPost.mono (r : RPost v w i S mo p R b e w') (hb : b ≤ b') : RPost v w i S mo p R b' e w' := by
  obtain ⟨he, S', r', hW⟩ := r
  exact ⟨he, S', r'.mono hb, hW⟩
/-- Behind a call of one of the lists. -/
theorem Raw.on (r : Raw w i S mo p R b) {k : Nat} (hk : k < 4) {xs : List ByteArray} (hp : LPost v w (i.r k) (S k) xs b' e w') (hb : b ≤ b') : RPost v w i S mo p (upd R k xs) b' e w' := by
  obtain ⟨he, S', hL, hW⟩ := hp
  have q : ∀ x, x < w.heap.size → ¬ S k x → w'.heap[x]? = w.heap[x]? := fun x hx hn => hW.turn.block x hx hn
  have z : ∀ x, x < w.heap.size → ¬ S k x → ¬ S' x := fun x hx hn h => by
    rcases hW.new x h with h | h
    · exact hn h
    · omega
  refine ⟨he, fun j => if j = k then S' else S j, ⟨(q _ r.clt (r.out k hk)).trans r.box, fun j hj => ?_, fun j l hj hl hne x hx hx2 => ?_, fun j hj => ?_, r.top⟩, fun x hx => ?_, hW.turn.wide fun x _ h => Or.inr ⟨k, hk, h⟩⟩
  · by_cases e : j = k
    · subst e
      rw [upd_same, if_pos rfl]; exact hL
    · rw [upd_ne e, if_neg e]
      exact ((r.ls j hj).kept hW.turn.size fun x hx => q x ((r.ls j hj).lt hx) (r.sep j k hj hk e x hx)).mono hb
  · by_cases e : j = k
    · subst e
      rw [if_pos rfl] at hx
      rw [if_neg (Ne.symm hne)] at hx2
      exact z x ((r.ls l hl).lt hx2) (r.sep l j hl hj (Ne.symm hne) x hx2) hx
    · rw [if_neg e] at hx
      by_cases e2 : l = k
      · subst e2
        rw [if_pos rfl] at hx2
        exact z x ((r.ls j hj).lt hx) (r.sep j l hj hl e x hx) hx2
      · rw [if_neg e2] at hx2
        exact r.sep j l hj hl hne x hx hx2
  · by_cases e : j = k
    · rw [if_pos e]; exact z _ r.clt (r.out k hk)
    · rw [if_neg e]; exact r.out j hj
  · rcases hx with h | ⟨j, hj, h⟩
    · exact Or.inl (Or.inl h)
    · by_cases e : j = k
      · rw [if_pos e] at h
        exact (hW.new x h).imp (fun h => Or.inr ⟨k, hk, h⟩) id
      · rw [if_neg e] at h
        exact Or.inl (Or.inr ⟨j, hj, h⟩)
/-- Behind a store into its struct. -/
theorem Raw.setC (r : Raw w i S mo p R b) (o : Nat) (x : Value) : (∀ k, k < 4 → LS (w.setCell ⟨i.c, o, none⟩ x) (i.r k) (S k) (R k) b) ∧ Turn (blk i S) w (w.setCell ⟨i.c, o, none⟩ x) := by
  have hs : w.heap.size ≤ (w.setCell ⟨i.c, o, none⟩ x).heap.size := by simp [World.setCell]
  exact ⟨fun j hj => (r.ls j hj).kept hs fun k hk => Below.heap_setCell _ _ _ _ fun h => r.out j hj (by rw [← (show k = i.c from h)]; exact hk), (Turn.refl _ _).setCell (p := ⟨i.c, o, none⟩) (Or.inl (Or.inl rfl)) _⟩
theorem Raw.setP (r : Raw w i S mo p R b) (u : Nat) (hu : u ≤ 9223372036854775807) : Raw (w.setCell ⟨i.c, 1, none⟩ (.int .i64 (u : Int))) i S mo u R b ∧ Turn (blk i S) w (w.setCell ⟨i.c, 1, none⟩ (.int .i64 (u : Int))) := by
  obtain ⟨h1, h2⟩ := r.setC 1 (.int .i64 (u : Int))
  refine ⟨⟨?_, h1, r.sep, r.out, r.top.1, hu⟩, h2⟩
  have := r.box
  unfold cBox at this ⊢
  rw [heap_setCell_same _ _ _ _ _ _ this]; rfl
theorem Raw.setM (r : Raw w i S mo p R b) (u : Nat) (hu : u ≤ 9223372036854775807) : Raw (w.setCell ⟨i.c, 0, none⟩ (.int .i64 (u : Int))) i S u p R b ∧ Turn (blk i S) w (w.setCell ⟨i.c, 0, none⟩ (.int .i64 (u : Int))) := by
  obtain ⟨h1, h2⟩ := r.setC 0 (.int .i64 (u : Int))
  refine ⟨⟨?_, h1, r.sep, r.out, hu, r.top.2⟩, h2⟩
  have := r.box
  unfold cBox at this ⊢
  rw [heap_setCell_same _ _ _ _ _ _ this]; rfl
/-- One post behind another. -/
theorem RPost.trans {mo1 p1 b1 : Nat} {R1 : Rw4} {S1 : Sx} {w1 : World} (hW : Went w w1 (blk i S) (blk i S1)) (hp : RPost v w1 i S1 mo1 p1 R1 b1 e w') : RPost v w i S mo1 p1 R1 b1 e w' := by
  obtain ⟨he, S2, hR, h2⟩ := hp
  exact ⟨he, S2, hR, hW.trans h2⟩
end
/-- A call that only asks, and lays memory of its own. -/
def Stl (v : Value) (w : World) (e : Ending) (w' : World) : Prop := e = .returned v ∧ Below w.heap.size w w'

/-- How many keys some rows have together. -/
def sumk (R : Rw4) (ks : List Nat) : Nat := (ks.map fun k => (R k).length).sum
theorem sumk_snoc (R : Rw4) (ks : List Nat) (k : Nat) : sumk R (ks ++ [k]) = sumk R ks + (R k).length := by unfold sumk; rw [List.map_append, List.sum_append]; simp
/-- Numbers of rows in a block of their own. -/
def Nums (w : World) (g : Nat) (ks : List Nat) : Prop := ∀ j k : Nat, ks[j]? = some k → w.cell? ⟨g, j, none⟩ = some (.int .i64 (k : Int))
theorem nums_two (w : World) (x y : Nat) : Nums (w.alloc (.cells #[.int .i64 (x : Int), .int .i64 (y : Int)] 3)) w.heap.size [x, y] := by
  have hn := heap_alloc_new w (.cells #[.int .i64 (x : Int), .int .i64 (y : Int)] 3)
  intro j k h
  rcases j with _ | _ | j
  · simp at h; subst h; exact cell_of_row _ _ 0 _ _ _ hn
  · simp at h; subst h; exact cell_of_row _ _ 1 _ _ _ hn
  · simp at h
theorem nums_one (w : World) (x : Nat) : Nums (w.alloc (.cells #[.int .i64 (x : Int)] 3)) w.heap.size [x] := by
  have hn := heap_alloc_new w (.cells #[.int .i64 (x : Int)] 3)
  intro j k h
  rcases j with _ | j
  · simp at h; subst h; exact cell_of_row _ _ 0 _ _ _ hn
  · simp at h
theorem nums_four (w : World) (x y z u : Nat) : Nums (w.alloc (.cells #[.int .i64 (x : Int), .int .i64 (y : Int), .int .i64 (z : Int), .int .i64 (u : Int)] 3)) w.heap.size [x, y, z, u] := by
  have hn := heap_alloc_new w (.cells #[.int .i64 (x : Int), .int .i64 (y : Int), .int .i64 (z : Int), .int .i64 (u : Int)] 3)
  intro j k h
  rcases j with _ | _ | _ | _ | j
  · simp at h; subst h; exact cell_of_row _ _ 0 _ _ _ hn
  · simp at h; subst h; exact cell_of_row _ _ 1 _ _ _ hn
  · simp at h; subst h; exact cell_of_row _ _ 2 _ _ _ hn
  · simp at h; subst h; exact cell_of_row _ _ 3 _ _ _ hn
  · simp at h

section
variable (w : World) (i : Ix) (S : Sx) (mo p : Nat) (R : Rw4) (b : Nat) (r : Raw w i S mo p R b)
include r
theorem shareW : Calls Try.prog 19 #[.pointer (some ⟨i.c, 0, none⟩)] w (IntPost (p : Int) w) := by
  obtain ⟨_, c1, _⟩ := r.cells
  clear r
  go_enter Try.func19, Try.ntmps19
  go_wp2_with fail
  go_ret
  exact ⟨rfl, rfl⟩
set_option maxHeartbeats 1000000 in
theorem countW (g : Nat) (ks : List Nat) (hg : Nums w g ks) (hk : ∀ k ∈ ks, k < 4) (h4 : ks.length ≤ 4) : Calls Try.prog 39 #[.pointer (some ⟨i.c, 0, none⟩), .slice (some ⟨g, 0, none⟩) ks.length ks.length] w (IntPost (sumk R ks : Int) w) := by
  obtain ⟨_, _, c2, c3, c4, c5⟩ := r.cells
  have L := fun k (h : k < 4) => ls_len w (i.r k) (S k) (R k) b (r.ls k h)
  have B := Lib.hid (fun k (h : k < 4) => (r.ls k h).len)
  have L0 := Lib.hid (L 0 (by omega))
  have L1 := Lib.hid (L 1 (by omega))
  have L2 := Lib.hid (L 2 (by omega))
  have L3 := Lib.hid (L 3 (by omega))
  have HG := Lib.hid hg
  have HK := Lib.hid hk
  clear r L hg hk
  go_enter Try.func39, Try.ntmps39
  go_wp2_with fail
  go_loopw [5, 10] (fun n z W => ∃ j, j ≤ ks.length ∧ n = .int .i64 (sumk R (ks.take j) : Int) ∧ z = .int .i64 (j : Int) ∧ sumk R (ks.take j) ≤ j * 999 ∧ W = w) (fun _ z _ => ks.length - (intOf z).toNat)
  case atStart => exact ⟨0, Nat.zero_le _, rfl, rfl, by simp [sumk], rfl⟩
  case round =>
    obtain ⟨j, hj, rfl, rfl, hs, rfl⟩ := hrel
    by_cases hlt : j < ks.length
    · have e0 : decide (j < ks.length) = true := by simpa using hlt
      have hkj : ks[j]? = some ks[j] := List.getElem?_eq_getElem hlt
      have hk4 := HK.out ks[j] (List.getElem_mem hlt)
      have hB := B.out ks[j] hk4
      have hc := HG.out j ks[j] hkj
      have htk : ks.take (j + 1) = ks.take j ++ [ks[j]] := by rw [List.take_add_one, hkj]; rfl
      have hsn := sumk_snoc R (ks.take j) ks[j]
      rw [← htk] at hsn
      have HS := Lib.hid hsn
      generalize ks[j] = k at *
      have HT := Lib.hid htk
      obtain ⟨s, hse⟩ : ∃ s, s = sumk R (ks.take j) := ⟨_, rfl⟩
      rw [← hse] at hs HS ⊢
      clear hse hsn htk hkj
      have HW := IntWalk.i64_in ((s : Int) + ((R k).length : Int)) (by omega)
      rcases k with _ | _ | _ | _ | k
      · go_wp2_with fail
        refine L0.out.mono ?_
        rintro e w1 ⟨rfl, rfl⟩
        go_wp2_with fail
        go_roundw
        case rel => exact ⟨j + 1, by omega, by rw [HS.out]; go_num, by go_num, by rw [HS.out]; omega, trivial⟩
        case measure => simp [intOf]; omega
      · go_wp2_with fail
        refine L1.out.mono ?_
        rintro e w1 ⟨rfl, rfl⟩
        go_wp2_with fail
        go_roundw
        case rel => exact ⟨j + 1, by omega, by rw [HS.out]; go_num, by go_num, by rw [HS.out]; omega, trivial⟩
        case measure => simp [intOf]; omega
      · go_wp2_with fail
        refine L2.out.mono ?_
        rintro e w1 ⟨rfl, rfl⟩
        go_wp2_with fail
        go_roundw
        case rel => exact ⟨j + 1, by omega, by rw [HS.out]; go_num, by go_num, by rw [HS.out]; omega, trivial⟩
        case measure => simp [intOf]; omega
      · go_wp2_with fail
        refine L3.out.mono ?_
        rintro e w1 ⟨rfl, rfl⟩
        go_wp2_with fail
        go_roundw
        case rel => exact ⟨j + 1, by omega, by rw [HS.out]; go_num, by go_num, by rw [HS.out]; omega, trivial⟩
        case measure => simp [intOf]; omega
      · omega
    · have e0 : decide (j < ks.length) = false := by simpa using hlt
      have E := Lib.hid (show ks.take j = ks from List.take_of_length_le (by omega))
      go_wp2_with fail
      go_ret
      exact ⟨by rw [E.out]; rfl, rfl⟩
end
end Go.Proofs.Ytlmbeiijijkjeaa
