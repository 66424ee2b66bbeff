/- A cache in memory: its struct, its three lists, its map; the contracts of the calls that only ask, and of New. -/
import Derived.Test.YtmnflcidcoejiaaYb
import Derived.Deep.QuietTactic
import Derived.BigQuiet
namespace Go.Proofs.Ytmnflcidcoejiaa
open Go.RowKit Sg

/-- The blocks of a cache that never change, and the sets of its lists' blocks. -/
structure Ix where
  c : Nat
  n : Nat
  a : Nat
  g : Nat
  O : Nat
structure Sx where
  n : Nat → Prop
  a : Nat → Prop
  g : Nat → Prop
def blk (i : Ix) (S : Sx) : Nat → Prop := fun k => k = i.c ∨ k = i.O ∨ S.n k ∨ S.a k ∨ S.g k
structure Sep (i : Ix) (S : Sx) : Prop where
  na : ∀ k, S.n k → ¬ S.a k
  ng : ∀ k, S.n k → ¬ S.g k
  ag : ∀ k, S.a k → ¬ S.g k
  cn : ¬ S.n i.c
  ca : ¬ S.a i.c
  cg : ¬ S.g i.c
  On : ¬ S.n i.O
  Oa : ¬ S.a i.O
  Og : ¬ S.g i.O
  cO : i.c ≠ i.O
def cBox (w : World) (i : Ix) (mo t : Nat) : Prop := w.heap[i.c]? = some (.cells #[.int .i64 (mo : Int), .int .i64 (t : Int), .pointer (some ⟨i.n, 0, none⟩), .pointer (some ⟨i.a, 0, none⟩), .pointer (some ⟨i.g, 0, none⟩), .map (some i.O)] 66 (0, 0))
/-- A cache of at most mo residents and ghosts, with target t; N, A, G from their fronts on; f holds for those told as old; no list has had more than b keys. -/
structure Raw (w : World) (i : Ix) (S : Sx) (mo t : Nat) (N A G : List ByteArray) (f : Told) (b : Nat) : Prop where
  box : cBox w i mo t
  n : LS w i.n S.n N b
  a : LS w i.a S.a A b
  g : LS w i.g S.g G b
  o : Om w i.O f b
  sep : Sep i S
  top : mo ≤ 9223372036854775807 ∧ t ≤ 9223372036854775807
def RPost (v : Value) (w : World) (i : Ix) (S : Sx) (mo t : Nat) (N A G : List ByteArray) (f : Told) (b : Nat) (e : Ending) (w' : World) : Prop :=
  e = .returned v ∧ ∃ S', Raw w' i S' mo t N A G f b ∧ Went w w' (blk i S) (blk i S')
section
variable {w w' : World} {i : Ix} {S : Sx} {mo t b b' : Nat} {N A G : List ByteArray} {f f' : Told} {v : Value} {e : Ending}
theorem Raw.cells (r : Raw w i S mo t N A G f b) : w.cell? ⟨i.c, 0, none⟩ = some (.int .i64 (mo : Int)) ∧ w.cell? ⟨i.c, 1, none⟩ = some (.int .i64 (t : Int)) ∧ w.cell? ⟨i.c, 2, none⟩ = some (.pointer (some ⟨i.n, 0, none⟩)) ∧ w.cell? ⟨i.c, 3, none⟩ = some (.pointer (some ⟨i.a, 0, none⟩)) ∧ w.cell? ⟨i.c, 4, none⟩ = some (.pointer (some ⟨i.g, 0, none⟩)) ∧ w.cell? ⟨i.c, 5, none⟩ = some (.map (some i.O)) :=
  ⟨cell_of_row w _ 0 _ _ _ r.box, cell_of_row w _ 1 _ _ _ r.box, cell_of_row w _ 2 _ _ _ r.box, cell_of_row w _ 3 _ _ _ r.box, cell_of_row w _ 4 _ _ _ r.box, cell_of_row w _ 5 _ _ _ r.box⟩
theorem Raw.froz (r : Raw w i S mo t N A G f b) : w.frozen? ⟨i.c, 0, none⟩ = false ∧ w.frozen? ⟨i.c, 1, none⟩ = false := ⟨frozen_of_row w _ 0 _ _ r.box, frozen_of_row w _ 1 _ _ r.box⟩
theorem Raw.clt (r : Raw w i S mo t N A G f b) : i.c < w.heap.size := (Array.getElem?_eq_some_iff.1 r.box).1
theorem Raw.lt (r : Raw w i S mo t N A G f b) {k : Nat} (hk : blk i S k) : k < w.heap.size := by
  rcases hk with h | h | h | h | h
  · have := r.clt; omega
  · have := r.o.lt; omega
  · exact r.n.lt h
  · exact r.a.lt h
  · exact r.g.lt h
theorem Raw.kept (r : Raw w i S mo t N A G f b) (hs : w.heap.size ≤ w'.heap.size) (hb : ∀ k, blk i S k → w'.heap[k]? = w.heap[k]?) : Raw w' i S mo t N A G f b :=
  ⟨(hb _ (Or.inl rfl)).trans r.box, r.n.kept hs fun k hk => hb k (Or.inr (Or.inr (Or.inl hk))), r.a.kept hs fun k hk => hb k (Or.inr (Or.inr (Or.inr (Or.inl hk)))),
    r.g.kept hs fun k hk => hb k (Or.inr (Or.inr (Or.inr (Or.inr hk)))), r.o.same (hb _ (Or.inr (Or.inl rfl))), r.sep, r.top⟩
theorem Raw.below (r : Raw w i S mo t N A G f b) (hb : Below w.heap.size w w') : Raw w' i S mo t N A G f b := r.kept hb.size fun k hk => hb.block k (r.lt hk)
theorem Raw.beside (r : Raw w i S mo t N A G f b) {X : Nat → Prop} (ht : Turn X w w') (hx : ∀ k, blk i S k → ¬ X k) : Raw w' i S mo t N A G f b := r.kept ht.size fun k hk => ht.block k (r.lt hk) (hx k hk)
theorem Raw.drewN (r : Raw w i S mo t N A G f b) (m : Nat) : Raw (w.drewN m) i S mo t N A G f b := r.below ⟨rfl, rfl, rfl, Nat.le_refl _, fun _ _ => rfl⟩
theorem Raw.mono (r : Raw w i S mo t N A G f b) (hb : b ≤ b') : Raw w i S mo t N A G f b' := ⟨r.box, r.n.mono hb, r.a.mono hb, r.g.mono hb, r.o.mono hb, r.sep, r.top⟩
/-- Behind a call of one of the lists. -/
theorem Raw.onN (r : Raw w i S mo t N A G f b) {xs : List ByteArray} (hp : LPost v w i.n S.n xs b' e w') (hb : b ≤ b') : RPost v w i S mo t xs A G f b' e w' := by
  obtain ⟨he, S', hL, hW⟩ := hp
  have q : ∀ k, k < w.heap.size → ¬ S.n k → w'.heap[k]? = w.heap[k]? := fun k hk hn => hW.turn.block k hk hn
  have z : ∀ k, k < w.heap.size → ¬ S.n k → ¬ S' k := fun k hk hn h => by
    rcases hW.new k h with h | h
    · exact hn h
    · omega
  refine ⟨he, ⟨S', S.a, S.g⟩, ⟨(q _ r.clt r.sep.cn).trans r.box, hL, (r.a.kept hW.turn.size fun k hk => q k (r.a.lt hk) fun h => r.sep.na k h hk).mono hb, (r.g.kept hW.turn.size fun k hk => q k (r.g.lt hk) fun h => r.sep.ng k h hk).mono hb, (r.o.same (q _ r.o.lt r.sep.On)).mono hb,
    ⟨fun k hk ha => z k (r.a.lt ha) (fun h => r.sep.na k h ha) hk, fun k hk ha => z k (r.g.lt ha) (fun h => r.sep.ng k h ha) hk, r.sep.ag, z _ r.clt r.sep.cn, r.sep.ca, r.sep.cg, z _ r.o.lt r.sep.On, r.sep.Oa, r.sep.Og, r.sep.cO⟩, r.top⟩, ?_, hW.turn.wide fun k _ h => Or.inr (Or.inr (Or.inl h))⟩
  rintro k (h | h | h | h | h)
  · exact Or.inl (Or.inl h)
  · exact Or.inl (Or.inr (Or.inl h))
  · exact (hW.new k h).imp (fun h => Or.inr (Or.inr (Or.inl h))) id
  · exact Or.inl (Or.inr (Or.inr (Or.inr (Or.inl h))))
  · exact Or.inl (Or.inr (Or.inr (Or.inr (Or.inr h))))
theorem Raw.onA (r : Raw w i S mo t N A G f b) {xs : List ByteArray} (hp : LPost v w i.a S.a xs b' e w') (hb : b ≤ b') : RPost v w i S mo t N xs G f b' e w' := by
  obtain ⟨he, S', hL, hW⟩ := hp
  have q : ∀ k, k < w.heap.size → ¬ S.a k → w'.heap[k]? = w.heap[k]? := fun k hk hn => hW.turn.block k hk hn
  have z : ∀ k, k < w.heap.size → ¬ S.a k → ¬ S' k := fun k hk hn h => by
    rcases hW.new k h with h | h
    · exact hn h
    · omega
  refine ⟨he, ⟨S.n, S', S.g⟩, ⟨(q _ r.clt r.sep.ca).trans r.box, (r.n.kept hW.turn.size fun k hk => q k (r.n.lt hk) (r.sep.na k hk)).mono hb, hL, (r.g.kept hW.turn.size fun k hk => q k (r.g.lt hk) fun h => r.sep.ag k h hk).mono hb, (r.o.same (q _ r.o.lt r.sep.Oa)).mono hb,
    ⟨fun k hk => z k (r.n.lt hk) (r.sep.na k hk), r.sep.ng, fun k hk ha => z k (r.g.lt ha) (fun h => r.sep.ag k h ha) hk, r.sep.cn, z _ r.clt r.sep.ca, r.sep.cg, r.sep.On, z _ r.o.lt r.sep.Oa, r.sep.Og, r.sep.cO⟩, r.top⟩, ?_, hW.turn.wide fun k _ h => Or.inr (Or.inr (Or.inr (Or.inl h)))⟩
  rintro k (h | h | h | h | h)
  · exact Or.inl (Or.inl h)
  · exact Or.inl (Or.inr (Or.inl h))
  · exact Or.inl (Or.inr (Or.inr (Or.inl h)))
  · exact (hW.new k h).imp (fun h => Or.inr (Or.inr (Or.inr (Or.inl h)))) id
  · exact Or.inl (Or.inr (Or.inr (Or.inr (Or.inr h))))
theorem Raw.onG (r : Raw w i S mo t N A G f b) {xs : List ByteArray} (hp : LPost v w i.g S.g xs b' e w') (hb : b ≤ b') : RPost v w i S mo t N A xs f b' e w' := by
  obtain ⟨he, S', hL, hW⟩ := hp
  have q : ∀ k, k < w.heap.size → ¬ S.g k → w'.heap[k]? = w.heap[k]? := fun k hk hn => hW.turn.block k hk hn
  have z : ∀ k, k < w.heap.size → ¬ S.g k → ¬ S' k := fun k hk hn h => by
    rcases hW.new k h with h | h
    · exact hn h
    · omega
  refine ⟨he, ⟨S.n, S.a, S'⟩, ⟨(q _ r.clt r.sep.cg).trans r.box, (r.n.kept hW.turn.size fun k hk => q k (r.n.lt hk) (r.sep.ng k hk)).mono hb, (r.a.kept hW.turn.size fun k hk => q k (r.a.lt hk) (r.sep.ag k hk)).mono hb, hL, (r.o.same (q _ r.o.lt r.sep.Og)).mono hb,
    ⟨r.sep.na, fun k hk => z k (r.n.lt hk) (r.sep.ng k hk), fun k hk => z k (r.a.lt hk) (r.sep.ag k hk), r.sep.cn, r.sep.ca, z _ r.clt r.sep.cg, r.sep.On, r.sep.Oa, z _ r.o.lt r.sep.Og, r.sep.cO⟩, r.top⟩, ?_, hW.turn.wide fun k _ h => Or.inr (Or.inr (Or.inr (Or.inr h)))⟩
  rintro k (h | h | h | h | h)
  · exact Or.inl (Or.inl h)
  · exact Or.inl (Or.inr (Or.inl h))
  · exact Or.inl (Or.inr (Or.inr (Or.inl h)))
  · exact Or.inl (Or.inr (Or.inr (Or.inr (Or.inl h))))
  · exact (hW.new k h).imp (fun h => Or.inr (Or.inr (Or.inr (Or.inr h)))) id
/-- Behind a store into the map, or a delete. -/
theorem Raw.onO (r : Raw w i S mo t N A G f b) (ho : Om w' i.O f' b') (hg : w.grownBy w' (some i.O)) (hb : b ≤ b') : Raw w' i S mo t N A G f' b' ∧ Went w w' (blk i S) (blk i S) := by
  have q : ∀ k, k < w.heap.size → k ≠ i.O → w'.heap[k]? = w.heap[k]? := fun k hk hn => hg.block k hk (by simpa using hn)
  refine ⟨⟨(q _ r.clt r.sep.cO).trans r.box, (r.n.kept hg.size fun k hk => q k (r.n.lt hk) fun h => r.sep.On (h ▸ hk)).mono hb, (r.a.kept hg.size fun k hk => q k (r.a.lt hk) fun h => r.sep.Oa (h ▸ hk)).mono hb, (r.g.kept hg.size fun k hk => q k (r.g.lt hk) fun h => r.sep.Og (h ▸ hk)).mono hb, ho, r.sep, r.top⟩, Went.same ⟨hg.os, hg.tape, hg.output, hg.size, fun k hk hn => q k hk fun h => hn (Or.inr (Or.inl h))⟩⟩
/-- Behind a store into its struct. -/
theorem Raw.setT (r : Raw w i S mo t N A G f b) (u : Nat) (hu : u ≤ 9223372036854775807) : Raw (w.setCell ⟨i.c, 1, none⟩ (.int .i64 (u : Int))) i S mo u N A G f b ∧ Turn (blk i S) w (w.setCell ⟨i.c, 1, none⟩ (.int .i64 (u : Int))) := by
  have q : ∀ k, k ≠ i.c → (w.setCell ⟨i.c, 1, none⟩ (.int .i64 (u : Int))).heap[k]? = w.heap[k]? := fun k hk => Below.heap_setCell _ _ _ _ hk
  have hs : w.heap.size ≤ (w.setCell ⟨i.c, 1, none⟩ (.int .i64 (u : Int))).heap.size := by simp [World.setCell]
  refine ⟨⟨?_, r.n.kept hs fun k hk => q k fun h => r.sep.cn (h ▸ hk), r.a.kept hs fun k hk => q k fun h => r.sep.ca (h ▸ hk), r.g.kept hs fun k hk => q k fun h => r.sep.cg (h ▸ hk), r.o.same (q _ (Ne.symm r.sep.cO)), r.sep, r.top.1, hu⟩, (Turn.refl _ _).setCell (p := ⟨i.c, 1, none⟩) (Or.inl (Or.inl rfl)) _⟩
  have := r.box
  unfold cBox at this ⊢
  rw [heap_setCell_same _ _ _ _ _ _ this]; rfl
theorem Raw.setM (r : Raw w i S mo t N A G f b) (u : Nat) (hu : u ≤ 9223372036854775807) : Raw (w.setCell ⟨i.c, 0, none⟩ (.int .i64 (u : Int))) i S u t N A G f b ∧ Turn (blk i S) w (w.setCell ⟨i.c, 0, none⟩ (.int .i64 (u : Int))) := by
  have q : ∀ k, k ≠ i.c → (w.setCell ⟨i.c, 0, none⟩ (.int .i64 (u : Int))).heap[k]? = w.heap[k]? := fun k hk => Below.heap_setCell _ _ _ _ hk
  have hs : w.heap.size ≤ (w.setCell ⟨i.c, 0, none⟩ (.int .i64 (u : Int))).heap.size := by simp [World.setCell]
  refine ⟨⟨?_, r.n.kept hs fun k hk => q k fun h => r.sep.cn (h ▸ hk), r.a.kept hs fun k hk => q k fun h => r.sep.ca (h ▸ hk), r.g.kept hs fun k hk => q k fun h => r.sep.cg (h ▸ hk), r.o.same (q _ (Ne.symm r.sep.cO)), r.sep, hu, r.top.2⟩, (Turn.refl _ _).setCell (p := ⟨i.c, 0, none⟩) (Or.inl (Or.inl rfl)) _⟩
  have := r.box
  unfold cBox at this ⊢
  rw [heap_setCell_same _ _ _ _ _ _ this]; rfl
/-- One post behind another. -/
theorem RPost.trans {mo1 t1 b1 : Nat} {N1 A1 G1 : List ByteArray} {f1 : Told} {S1 : Sx} {w1 : World} (hW : Went w w1 (blk i S) (blk i S1)) (hp : RPost v w1 i S1 mo1 t1 N1 A1 G1 f1 b1 e w') : RPost v w i S mo1 t1 N1 A1 G1 f1 b1 e w' := by
  obtain ⟨he, S2, hR, h2⟩ := hp
  exact ⟨he, S2, hR, hW.trans h2⟩
end

/-- A call that only asks. -/
def Qt (v : Value) (w : World) (e : Ending) (w' : World) : Prop := e = .returned v ∧ ∃ n, w' = w.drewN n
/-- .. and one that lays memory of its own. -/
def Stl (v : Value) (w : World) (e : Ending) (w' : World) : Prop := e = .returned v ∧ Below w.heap.size w w'
theorem below_drewN (w : World) (n : Nat) : Below w.heap.size w (w.drewN n) := ⟨rfl, rfl, rfl, Nat.le_refl _, fun _ _ => rfl⟩

section
variable (w : World) (i : Ix) (S : Sx) (mo t : Nat) (N A G : List ByteArray) (f : Told) (b : Nat) (r : Raw w i S mo t N A G f b)
include r
theorem targetY : Calls Try.prog 32 #[.pointer (some ⟨i.c, 0, none⟩)] w (IntPost (t : Int) w) := by
  obtain ⟨_, c1, _⟩ := r.cells
  clear r
  go_enter Try.func32, Try.ntmps32
  go_wp2_with fail
  go_ret
  exact ⟨rfl, rfl⟩
theorem againY : Calls Try.prog 33 #[.pointer (some ⟨i.c, 0, none⟩)] w (IntPost (A.length : Int) w) := by
  obtain ⟨_, _, _, c3, _⟩ := r.cells
  have U := Lib.hid (ls_len w i.a S.a A b r.a)
  clear r
  go_enter Try.func33, Try.ntmps33
  go_wp2_with fail
  refine U.out.mono ?_
  rintro e w1 ⟨rfl, rfl⟩
  go_wp2_with fail
  go_ret
  exact ⟨rfl, rfl⟩
theorem ghostsY : Calls Try.prog 30 #[.pointer (some ⟨i.c, 0, none⟩)] w (RowPost G w) := by
  obtain ⟨_, _, _, _, c4, _⟩ := r.cells
  have U := Lib.hid (ls_keys w i.g S.g G b r.g)
  clear r
  go_enter Try.func30, Try.ntmps30
  go_wp2_with fail
  refine U.out.mono ?_
  rintro e w1 ⟨v, rfl, hO, hB⟩
  go_wp2_with fail
  go_ret
  exact ⟨v, rfl, hO, hB⟩
theorem hasY (key : ByteArray) (hs : key.size ≤ maxLen) : Calls Try.prog 29 #[.pointer (some ⟨i.c, 0, none⟩), .string key] w (BoolPost (inn N key || inn A key) w) := by
  obtain ⟨_, _, c2, c3, _⟩ := r.cells
  have U := ls_has w i.n S.n N b r.n key hs
  have V := Lib.hid (ls_has w i.a S.a A b r.a key hs)
  clear r
  cases hi : inn N key with
  | true =>
    rw [hi] at U
    have U := Lib.hid U
    clear hi V
    rw [Bool.true_or]
    go_enter Try.func29, Try.ntmps29
    go_wp2_with fail
    refine U.out.mono ?_
    rintro e w1 ⟨rfl, rfl⟩
    go_wp2_with fail
    go_ret
    exact ⟨rfl, rfl⟩
  | false =>
    rw [hi] at U
    have U := Lib.hid U
    clear hi
    rw [Bool.false_or]
    go_enter Try.func29, Try.ntmps29
    go_wp2_with fail
    refine U.out.mono ?_
    rintro e w1 ⟨rfl, rfl⟩
    go_wp2_with fail
    refine V.out.mono ?_
    rintro e w1 ⟨rfl, rfl⟩
    go_wp2_with fail
    go_ret
    exact ⟨rfl, rfl⟩
theorem lenY : Calls Try.prog 28 #[.pointer (some ⟨i.c, 0, none⟩)] w (Qt (.int .i64 ((N.length + A.length : Nat) : Int)) w) := by
  obtain ⟨_, _, c2, c3, _⟩ := r.cells
  have U := Lib.hid (show ∀ m, Calls Try.prog 60 #[.pointer (some ⟨i.n, 0, none⟩)] (w.drewN m) (fun e w' => e = .returned (.int .i64 (N.length : Int)) ∧ w' = w.drewN m) from fun m => (ls_len (w.drewN m) i.n S.n N b (r.drewN m).n).mono fun _ _ h => ⟨h.1, h.2.symm⟩)
  have V := Lib.hid (show ∀ m, Calls Try.prog 60 #[.pointer (some ⟨i.a, 0, none⟩)] (w.drewN m) (fun e w' => e = .returned (.int .i64 (A.length : Int)) ∧ w' = w.drewN m) from fun m => (ls_len (w.drewN m) i.a S.a A b (r.drewN m).a).mono fun _ _ h => ⟨h.1, h.2.symm⟩)
  have h1 := r.n.len
  have h2 := r.a.len
  obtain ⟨c, n, a, g, O⟩ := i
  simp only at c2 c3 U V ⊢
  have HW := IntWalk.i64_in ((N.length : Int) + (A.length : Int)) (by omega)
  rw [show ((N.length + A.length : Nat) : Int) = (N.length : Int) + (A.length : Int) by omega]
  clear r
  go_enter Try.func28, Try.ntmps28
  go_wp2_with fail
  go_quiet (first
    | (go_at_call 60; with_reducible exact Calls.quiet_of_same (U.out _))
    | (go_at_call 60; with_reducible exact Calls.quiet_of_same (V.out _)))
  go_wp2_with fail
  go_ret
  exact ⟨rfl, _, rfl⟩
theorem isOldY (key : ByteArray) (hs : key.size ≤ maxLen) : Calls Try.prog 46 #[.pointer (some ⟨i.c, 0, none⟩), .string key] w (Stl (.bool (f key)) w) := by
  obtain ⟨_, _, _, _, _, c5⟩ := r.cells
  have hl := r.o.look hs
  clear r
  go_enter Try.func46, Try.ntmps46
  go_wp2_with fail
  go_ret
  exact ⟨rfl, (Below.refl _ _).alloc (Nat.le_refl _) _⟩
/-- The list whose last key is the victim. -/
theorem leavingY : Calls Try.prog 51 #[.pointer (some ⟨i.c, 0, none⟩)] w (fun e w' => e = .returned (.pointer (some ⟨if N = [] then i.a else i.n, 0, none⟩)) ∧ w = w') := by
  obtain ⟨_, _, c2, c3, _⟩ := r.cells
  have U := ls_len w i.n S.n N b r.n
  have hl := r.n.len
  clear r
  cases N with
  | nil =>
    have U := Lib.hid (show Calls Try.prog 60 #[.pointer (some ⟨i.n, 0, none⟩)] w (IntPost 0 w) from U)
    rw [if_pos rfl]
    go_enter Try.func51, Try.ntmps51
    go_wp2_with fail
    refine U.out.mono ?_
    rintro e w1 ⟨rfl, rfl⟩
    go_wp2_with fail
    go_ret
    exact ⟨rfl, rfl⟩
  | cons x N =>
    obtain ⟨q, hq⟩ : ∃ q : Int, q = ((x :: N).length : Int) := ⟨_, rfl⟩
    rw [← hq] at U
    have e0 : (q == 0) = false := by rw [hq, List.length_cons]; simp; omega
    have U := Lib.hid U
    rw [if_neg (by simp)]
    clear hq hl
    go_enter Try.func51, Try.ntmps51
    go_wp2_with fail
    refine U.out.mono ?_
    rintro e w1 ⟨rfl, rfl⟩
    go_wp2_with fail
    go_ret
    exact ⟨rfl, rfl⟩
end
end Go.Proofs.Ytmnflcidcoejiaa
