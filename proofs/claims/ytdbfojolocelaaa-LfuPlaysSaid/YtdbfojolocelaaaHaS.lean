/- A heap over keys of one kind in memory: its own block, its map's, its tree's, its items'. -/
import Derived.Test.YtdbfojolocelaaaHc
import Derived.Recover
import Derived.Defers
namespace Go.Proofs.Ytdbfojolocelaaa
namespace HS
open Go.RowKit Ht Go.Maps Go.WideMaps

abbrev Key := ByteArray
def kok (k : Key) : Prop := k.size ≤ maxLen
def klit (k : Key) : Lit := Lit.string k.data.toList
theorem int_ne {a b : Int} (h : a ≠ b) : (Lit.int .i64 a) ≠ .int .i64 b := fun e => h (by injection e)
theorem klit_ne {a b : Key} (h : a ≠ b) : klit a ≠ klit b := str_ne h
theorem klit_is (k : Key) : WideAt.IsKeyLit (klit k) := trivial
theorem lawK : Keyed Try.prog 9 := string_keyed Try.underlying9
theorem keyK {k : Key} (hs : kok k) : keyOf Try.prog 9 (.string k) = some (klit k) := keyOf_string_mk Try.underlying9 hs
theorem zeroP (w : World) : (zeroValue 83).run Try.prog w = .ok (.pointer none) w := by kernel_rfl

/-! The map of items. -/
/-- A pointer reads as itself. -/
def rdP : Value → Option (DataW Value × List MemPlace)
  | .pointer a => some (.held (.pointer a), [])
  | _ => none
theorem rdP_inv {v : Value} {y : DataW Value × List MemPlace} (h : rdP v = some y) : y = (.held v, []) := by
  unfold rdP at h
  split at h
  · cases h; rfl
  · cases h
def ptr (b : Nat) : Value := .pointer (some ⟨b, 0, none⟩)
def optr : Option Nat → Value
  | none => .pointer none
  | some b => .pointer (some ⟨b, 0, none⟩)
def fput (f : Key → Option Nat) (s : Key) (v : Nat) : Key → Option Nat := fun t => if t = s then some v else f t
def fdel (f : Key → Option Nat) (s : Key) : Key → Option Nat := fun t => if t = s then none else f t
/-- Block b is a map of n entries; at each key it reads what f says. -/
def Mp (w : World) (b : Nat) (f : Key → Option Nat) (n : Nat) : Prop := ∃ D : DataW Value, w.ownsMap Try.prog 9 rdP b n D ∧ Maps.size D = n ∧
  ∀ s : Key, Maps.has D (klit s) = (f s).isSome ∧ D.atKey (klit s) (.held (.pointer none)) = .held (optr (f s))
section
variable {w : World} {b n : Nat} {f : Key → Option Nat}
theorem Mp.made (w : World) : Mp (w.alloc (.map #[] 0)) w.heap.size (fun _ => none) 0 := ⟨.map [], World.ownsMap_made w _ _ _, rfl, fun _ => ⟨rfl, rfl⟩⟩
theorem Mp.same {w' : World} (h : Mp w b f n) (hs : w'.heap[b]? = w.heap[b]?) : Mp w' b f n := by
  obtain ⟨D, h1, h2⟩ := h
  exact ⟨D, owns_same h1 hs, h2⟩
theorem Mp.lt (h : Mp w b f n) : b < w.heap.size := by
  obtain ⟨D, h1, _⟩ := h
  exact h1.lt
theorem Mp.obj (h : Mp w b f n) : ∃ es c, w.heap[b]? = some (.map es c) := by
  obtain ⟨D, ⟨es, clock, hb, _⟩, _⟩ := h
  exact ⟨es, clock, hb⟩
theorem Mp.congr {g : Key → Option Nat} (h : Mp w b f n) (hg : ∀ s, g s = f s) : Mp w b g n := by
  obtain rfl : g = f := funext hg
  exact h
theorem Mp.look (h : Mp w b f n) {s : Key} (hs : kok s) :
    (Instr.lookup 78 (.map (some b)) (.string s) false).run Try.prog w = .ok (optr (f s)) w := by
  obtain ⟨D, h1, _, h3⟩ := h
  obtain ⟨v, ps, hrun, hv⟩ := h1.lookup lawK Try.underlying78 (zeroP w) (zd := .held (.pointer none)) (zp := []) rfl (keyK hs)
  have e := rdP_inv hv
  rw [(h3 s).2] at e
  rw [hrun, ← DataW.held.inj (Prod.mk.inj e).1]
theorem Mp.store (h : Mp w b f n) {s : Key} (hs : kok s) (hn : n ≤ 1000000) (hf : f s = none) (v : Nat) :
    ∃ w', (Instr.mapUpdate 78 (.map (some b)) (.string s) (.pointer (some ⟨v, 0, none⟩))).run Try.prog w = .ok () w' ∧ Mp w' b (fput f s v) (n + 1) ∧ w.grownBy w' (some b) := by
  obtain ⟨D, h1, h2, h3⟩ := h
  obtain ⟨w', hrun, hown, hg⟩ := h1.update lawK Try.underlying78 (by unfold maxLen; omega) (keyK hs) (val := .pointer (some ⟨v, 0, none⟩)) (d := .held (.pointer (some ⟨v, 0, none⟩))) (ps := []) rfl
  refine ⟨w', hrun, ⟨_, hown, ?_, fun t => ?_⟩, hg⟩
  · rw [size_put (h1.tidy lawK), (h3 s).1, hf, h2]; rfl
  · unfold fput
    by_cases e : t = s
    · subst e
      rw [if_pos rfl, has_put_same h1.isMap (klit_is _), atKey_put_same h1.isMap (klit_is _)]
      exact ⟨rfl, rfl⟩
    · rw [if_neg e, has_put_other (klit_ne e), atKey_put_other (klit_ne e)]
      exact h3 t
theorem Mp.drop (h : Mp w b f (n + 1)) {s : Key} (hs : kok s) (hf : (f s).isSome = true) (ty : TypeId) :
    ∃ w', (Builtin.delete_ #[78, 9] ty #[.map (some b), .string s]).run Try.prog w = .ok (.tuple #[]) w' ∧ Mp w' b (fdel f s) n ∧ w.grownBy w' (some b) := by
  obtain ⟨D, h1, h2, h3⟩ := h
  obtain ⟨w', hrun, hown, hg⟩ := h1.drop lawK Try.underlying78 (keyK hs) ty
  have hsz : Maps.size (D.del (klit s)) = n := by
    have := size_del (k := klit s) (h1.tidy lawK)
    rw [(h3 s).1, hf, h2] at this
    simpa using this
  refine ⟨w', hrun, ⟨_, hsz ▸ owns_size hown, hsz, fun t => ?_⟩, hg.grown⟩
  unfold fdel
  by_cases e : t = s
  · subst e
    rw [if_pos rfl, has_del_same, atKey_del_same]
    exact ⟨rfl, rfl⟩
  · rw [if_neg e, has_del_other (klit_ne e), atKey_del_other (klit_ne e)]
    exact h3 t
end

/-! The heap's own block, its tree, its items. -/
def itemOf (e : Ent Key) (i : Nat) : Obj := .cells #[.string e.key, .int .i64 e.one, .int .i64 e.two, .int .i64 (e.set : Int), .int .i64 (i : Int)] 87 (0, 0)
def heapOf (M : Nat) (v : Value) (c : Nat) : Obj := .cells #[.map (some M), v, .int .i64 (c : Int)] 81 (0, 0)
/-- v is a slice that holds the tree. -/
def Tree (w : World) (v : Value) (T : List Nat) : Prop := (v = .slice none 0 0 ∧ T = []) ∨ ∃ (tb cap : Nat) (arr : Array Value), v = .slice (some ⟨tb, 0, none⟩) T.length cap ∧ w.heap[tb]? = some (.cells arr 83 (0, 0)) ∧ arr.size = cap ∧ T.length ≤ cap ∧ cap ≤ maxLen ∧
  ∀ i, i < T.length → arr[i]? = some (.pointer (some ⟨tg T i, 0, none⟩))
structure Holds (w : World) (h M : Nat) (v : Value) (T : List Nat) (E : Nat → Ent Key) (c : Nat) : Prop where
  own : w.heap[h]? = some (heapOf M v c)
  tree : Tree w v T
  item : ∀ i, i < T.length → w.heap[tg T i]? = some (itemOf (E (tg T i)) i)
  top : T.length ≤ 1000
  ctop : c ≤ 100000
/-- The heap's blocks. -/
def Blk (h M : Nat) (v : Value) (T : List Nat) (k : Nat) : Prop := k = h ∨ k = M ∨ v.ownBlock = some k ∨ k ∈ T

section
variable {w : World} {h M c : Nat} {v : Value} {T : List Nat} {E : Nat → Ent Key}
theorem Holds.hlt (H : Holds w h M v T E c) : h < w.heap.size := (Array.getElem?_eq_some_iff.1 H.own).1
theorem Holds.ilt (H : Holds w h M v T E c) {i : Nat} (hi : i < T.length) : tg T i < w.heap.size := (Array.getElem?_eq_some_iff.1 (H.item i hi)).1
theorem Holds.c0 (H : Holds w h M v T E c) : w.cell? ⟨h, 0, none⟩ = some (.map (some M)) := cell_of_row w _ 0 _ _ _ H.own
theorem Holds.c1 (H : Holds w h M v T E c) : w.cell? ⟨h, 1, none⟩ = some v := cell_of_row w _ 1 _ _ _ H.own
theorem Holds.c2 (H : Holds w h M v T E c) : w.cell? ⟨h, 2, none⟩ = some (.int .i64 (c : Int)) := cell_of_row w _ 2 _ _ _ H.own
theorem Holds.hfr (H : Holds w h M v T E c) (j : Nat) : w.frozen? ⟨h, j, none⟩ = false := frozen_of_row w _ j _ _ H.own
theorem Holds.i0 (H : Holds w h M v T E c) {i : Nat} (hi : i < T.length) : w.cell? ⟨tg T i, 0, none⟩ = some (.string (E (tg T i)).key) := cell_of_row w _ 0 _ _ _ (H.item i hi)
theorem Holds.i1 (H : Holds w h M v T E c) {i : Nat} (hi : i < T.length) : w.cell? ⟨tg T i, 1, none⟩ = some (.int .i64 (E (tg T i)).one) := cell_of_row w _ 1 _ _ _ (H.item i hi)
theorem Holds.i2 (H : Holds w h M v T E c) {i : Nat} (hi : i < T.length) : w.cell? ⟨tg T i, 2, none⟩ = some (.int .i64 (E (tg T i)).two) := cell_of_row w _ 2 _ _ _ (H.item i hi)
theorem Holds.i3 (H : Holds w h M v T E c) {i : Nat} (hi : i < T.length) : w.cell? ⟨tg T i, 3, none⟩ = some (.int .i64 ((E (tg T i)).set : Int)) := cell_of_row w _ 3 _ _ _ (H.item i hi)
theorem Holds.i4 (H : Holds w h M v T E c) {i : Nat} (hi : i < T.length) : w.cell? ⟨tg T i, 4, none⟩ = some (.int .i64 (i : Int)) := cell_of_row w _ 4 _ _ _ (H.item i hi)
theorem Holds.ifr (H : Holds w h M v T E c) {i : Nat} (hi : i < T.length) (j : Nat) : w.frozen? ⟨tg T i, j, none⟩ = false := frozen_of_row w _ j _ _ (H.item i hi)
/-- A tree that is not empty lies in a block. -/
theorem Holds.at (H : Holds w h M v T E c) (hT : 0 < T.length) : ∃ (tb cap : Nat), v = .slice (some ⟨tb, 0, none⟩) T.length cap ∧ T.length ≤ cap ∧ cap ≤ maxLen ∧ (∃ arr, w.heap[tb]? = some (.cells arr 83 (0, 0)) ∧ arr.size = cap ∧ ∀ i, i < T.length → arr[i]? = some (.pointer (some ⟨tg T i, 0, none⟩))) := by
  rcases H.tree with ⟨_, rfl⟩ | ⟨tb, cap, arr, h1, h2, h3, h4, h5, h6⟩
  · exact absurd hT (by simp)
  · exact ⟨tb, cap, h1, h4, h5, arr, h2, h3, h6⟩
theorem Holds.tlen (H : Holds w h M v T E c) : ∃ a cap, v = .slice a T.length cap := by
  rcases H.tree with ⟨rfl, rfl⟩ | ⟨tb, cap, arr, h1, _⟩
  · exact ⟨none, 0, rfl⟩
  · exact ⟨_, _, h1⟩
theorem Tree.tl {tb n cap : Nat} (hT : Tree w (.slice (some ⟨tb, 0, none⟩) n cap) T) : n = T.length ∧ ∃ arr, w.heap[tb]? = some (.cells arr 83 (0, 0)) ∧ arr.size = cap ∧ T.length ≤ cap ∧ cap ≤ maxLen ∧ ∀ i, i < T.length → arr[i]? = some (.pointer (some ⟨tg T i, 0, none⟩)) := by
  rcases hT with ⟨h1, _⟩ | ⟨tb', cap', arr, h1, h2, h3, h4, h5, h6⟩
  · exact absurd h1 (by simp)
  · injection h1 with a1 a2 a3
    injection a1 with a1
    injection a1 with a1
    subst a1; subst a2; subst a3
    exact ⟨rfl, arr, h2, h3, h4, h5, h6⟩
theorem cells_ne {a b : Nat} {x y : Array Value} {s t : TypeId} {u u' : Nat × Nat} (ha : w.heap[a]? = some (.cells x s u)) (hb : w.heap[b]? = some (.cells y t u')) (hst : s ≠ t) : a ≠ b := by
  intro e; subst e; rw [ha] at hb; injection hb with hb; injection hb with _ hb; exact hst hb
theorem Holds.hi (H : Holds w h M v T E c) {i : Nat} (hi : i < T.length) : h ≠ tg T i := cells_ne H.own (H.item i hi) (by decide)
theorem Holds.mi {f : Key → Option Nat} {n : Nat} (H : Holds w h M v T E c) (hM : Mp w M f n) {i : Nat} (hi : i < T.length) : M ≠ tg T i := by
  obtain ⟨es, c', hb⟩ := hM.obj
  intro e; rw [e, H.item i hi] at hb; cases hb
theorem Holds.hm {f : Key → Option Nat} {n : Nat} (H : Holds w h M v T E c) (hM : Mp w M f n) : h ≠ M := by
  obtain ⟨es, c', hb⟩ := hM.obj
  intro e; rw [← e, H.own] at hb; cases hb
theorem Holds.inj (H : Holds w h M v T E c) {i j : Nat} (hi : i < T.length) (hj : j < T.length) (he : tg T i = tg T j) : i = j := by
  have h1 := H.i4 hi
  have h2 := H.i4 hj
  rw [he, h2] at h1
  injection h1 with h1
  injection h1 with _ h1
  omega
theorem Holds.nodup (H : Holds w h M v T E c) : T.Nodup := by
  refine List.pairwise_iff_getElem.2 fun i j hi hj hij he => ?_
  have e1 := tg_get hi
  have e2 := tg_get hj
  rw [List.getElem?_eq_getElem hi] at e1
  rw [List.getElem?_eq_getElem hj] at e2
  have := H.inj hi hj (by rw [← Option.some.inj e1, ← Option.some.inj e2]; exact he)
  omega
theorem Holds.same {w' : World} (H : Holds w h M v T E c) (hs : ∀ k, Blk h M v T k → w'.heap[k]? = w.heap[k]?) : Holds w' h M v T E c := by
  refine ⟨(hs h (Or.inl rfl)).trans H.own, ?_, fun i hi => (hs _ (Or.inr (Or.inr (Or.inr (tg_mem hi))))).trans (H.item i hi), H.top, H.ctop⟩
  rcases H.tree with ⟨h1, h2⟩ | ⟨tb, cap, arr, rfl, h2, h3⟩
  · exact Or.inl ⟨h1, h2⟩
  · exact Or.inr ⟨tb, cap, arr, rfl, (hs tb (Or.inr (Or.inr (Or.inl rfl)))).trans h2, h3⟩
theorem Holds.blt {f : Key → Option Nat} {n : Nat} (H : Holds w h M v T E c) (hM : Mp w M f n) {k : Nat} (hk : Blk h M v T k) : k < w.heap.size := by
  rcases hk with rfl | rfl | hk | hk
  · exact H.hlt
  · exact hM.lt
  · rcases H.tree with ⟨rfl, h2⟩ | ⟨tb, cap, arr, rfl, h2, h3⟩
    · cases hk
    · cases hk; exact (Array.getElem?_eq_some_iff.1 h2).1
  · obtain ⟨i, hi, rfl⟩ := mem_tg hk
    exact H.ilt hi
theorem Holds.below {f : Key → Option Nat} {n : Nat} {w' : World} (H : Holds w h M v T E c) (hM : Mp w M f n) (hb : Below w.heap.size w w') : Holds w' h M v T E c := H.same fun _ hk => hb.block _ (H.blt hM hk)
theorem Holds.congrE {E' : Nat → Ent Key} (H : Holds w h M v T E c) (he : ∀ b ∈ T, E' b = E b) : Holds w h M v T E' c :=
  ⟨H.own, H.tree, fun i hi => by rw [he _ (tg_mem hi)]; exact H.item i hi, H.top, H.ctop⟩
end

/-! findable, find, ahead. -/
theorem recover_idle (w : World) : CallsD Try.prog 60 #[] .returning w fun e u' w' => e = .returned (.tuple #[]) ∧ u' = .returning ∧ w' = w := by
  refine callsD_of_wpS Try.func60 rfl fun c₀ cs hu => ?_
  apply wpS_region
  simp [wpOpsS, go_sem, recoverD, hu, Try.ntmps60, bodyPostS, results, Try.results60]
  cases c₀
  simp_all

theorem findable_any (w : World) (k : Key) : Calls Try.prog 54 #[.string k] w (BoolPost true w) := by
  have e0 : (k == k) = true := by rw [beq_toListBytes]; simp
  go_enter_defers Try.func54, Try.ntmps54
  go_wp2
  refine leaves_cons (f := 60) (args := #[]) (by simp) rfl ?_
  refine (recover_idle _).mono ?_
  rintro e u' w'' ⟨rfl, rfl, rfl⟩
  simp [Leaves, settle, results, Try.results54, go_sem, BoolPost]

def PtrPost (o : Option Nat) (w : World) (e : Ending) (w' : World) : Prop := e = .returned (optr o) ∧ w = w'
theorem find_any (w : World) (h M n : Nat) (f : Key → Option Nat) (k : Key) (c0 : w.cell? ⟨h, 0, none⟩ = some (.map (some M))) (hM : Mp w M f n) (hk : kok k) :
    Calls Try.prog 46 #[.pointer (some ⟨h, 0, none⟩), .string k] w (PtrPost (f k) w) := by
  have hl := hM.look hk
  have F := Lib.hid (findable_any w k)
  clear hM hk
  obtain ⟨r, hr⟩ : ∃ r, optr (f k) = r := ⟨_, rfl⟩
  rw [hr] at hl
  have HR := Lib.hid hr
  clear hr
  go_enter Try.func46, Try.ntmps46
  go_wp2_with fail
  refine F.out.mono ?_
  rintro e w' ⟨rfl, rfl⟩
  go_wp2_with fail
  go_ret
  exact ⟨congrArg Ending.returned HR.out.symm, rfl⟩
end HS
end Go.Proofs.Ytdbfojolocelaaa
