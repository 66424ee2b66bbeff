/- The contract of Request's closure that makes room; what Request has in memory under way. -/
import Derived.Test.YtmnflcidcoejiaaYq
namespace Go.Proofs.Ytmnflcidcoejiaa
open Go.RowKit Sg

/-- A step in a variable of its own. -/
def Box (w : World) (sb : Nat) (h : Bool) (s : ByteArray) (o : Bool) : Prop := w.heap[sb]? = some (.cells #[.bool h, .string s, .bool o] 34 (0, 0))
section
variable {w : World} {sb : Nat} {h o : Bool} {s : ByteArray}
theorem Box.set (k : Box w sb h s o) (x : ByteArray) : Box ((w.setCell ⟨sb, 1, none⟩ (.string x)).setCell ⟨sb, 2, none⟩ (.bool true)) sb h x true := by
  unfold Box at *
  have r1 : (w.setCell ⟨sb, 1, none⟩ (.string x)).heap[sb]? = some (.cells #[.bool h, .string x, .bool o] 34 (0, 0)) := by rw [heap_setCell_same _ _ _ _ _ _ k]; rfl
  rw [heap_setCell_same _ _ _ _ _ _ r1]; rfl
theorem Box.cells (k : Box w sb h s o) : w.cell? ⟨sb, 0, none⟩ = some (.bool h) ∧ w.cell? ⟨sb, 1, none⟩ = some (.string s) ∧ w.cell? ⟨sb, 2, none⟩ = some (.bool o) ∧ w.frozen? ⟨sb, 1, none⟩ = false ∧ w.frozen? ⟨sb, 2, none⟩ = false :=
  ⟨cell_of_row w _ 0 _ _ _ k, cell_of_row w _ 1 _ _ _ k, cell_of_row w _ 2 _ _ _ k, frozen_of_row w _ 1 _ _ k, frozen_of_row w _ 2 _ _ k⟩
theorem Box.lt (k : Box w sb h s o) : sb < w.heap.size := (Array.getElem?_eq_some_iff.1 k).1
theorem load_step (k : Box w sb h s o) : (loadVar 34 ⟨sb, 0, none⟩).run Try.prog w = .ok (.agg #[.bool h, .string s, .bool o]) w := by
  obtain ⟨k0, k1, k2, _, _⟩ := k.cells
  unfold loadVar
  go_simp
theorem Box.put (k : Box w sb h s o) (h' o' : Bool) (s' : ByteArray) : Box (((w.setCell ⟨sb, 0, none⟩ (.bool h')).setCell ⟨sb, 1, none⟩ (.string s')).setCell ⟨sb, 2, none⟩ (.bool o')) sb h' s' o' := by
  unfold Box at *
  have r1 : (w.setCell ⟨sb, 0, none⟩ (.bool h')).heap[sb]? = some (.cells #[.bool h', .string s, .bool o] 34 (0, 0)) := by rw [heap_setCell_same _ _ _ _ _ _ k]; rfl
  have r2 : ((w.setCell ⟨sb, 0, none⟩ (.bool h')).setCell ⟨sb, 1, none⟩ (.string s')).heap[sb]? = some (.cells #[.bool h', .string s', .bool o] 34 (0, 0)) := by rw [heap_setCell_same _ _ _ _ _ _ r1]; rfl
  rw [heap_setCell_same _ _ _ _ _ _ r2]; rfl
end
theorem results_c {fn : Func} {a : Tmp} {ty : TypeId} (h : fn.results = #[.cell a ty]) (tmps : Array Value) (P : Program) (w : World) (p : Addr) (v : Value) (ha : tmps.getD a undef = .pointer (some p)) (hv : (loadVar ty p).run P w = .ok v w) :
    (results fn tmps).run P w = .ok v w := by
  rw [Array.getD_eq_getD_getElem?] at ha
  simp [results, h, ha, asAddr, hv]

/-- Whom Request's closure was handed last. -/
def vicOf (vs : List ByteArray) : ByteArray := if vs = [] then ⟨#[]⟩ else lastKey vs
def KQ (sb : Nat) (h : Bool) (vs : List ByteArray) (X : Nat → Prop) (W : World) : Prop := X = (fun k => k = sb) ∧ Box W sb h (vicOf vs) (!vs.isEmpty)
theorem cloQ (w : World) (sb : Nat) (h o : Bool) (s x : ByteArray) (k : Box w sb h s o) :
    Calls Try.prog 43 #[.string x, .pointer (some ⟨sb, 0, none⟩)] w (fun e w' => e = .returned (.tuple #[]) ∧ Box w' sb h x true ∧ Turn (fun k => k = sb) w w') := by
  obtain ⟨k0, k1, k2, f1, f2⟩ := k.cells
  have R := Lib.hid (k.set x)
  clear k
  go_enter Try.func43, Try.ntmps43
  go_wp2_with fail
  go_end0
  exact ⟨rfl, R.out, ((Turn.refl (fun k => k = sb) w).setCell (p := ⟨sb, 1, none⟩) (Or.inl rfl) _).setCell (p := ⟨sb, 2, none⟩) (Or.inl rfl) _⟩
theorem sideQ (sb : Nat) (h : Bool) : Side 43 ⟨sb, 0, none⟩ (KQ sb h) where
  enter := fun args w => by kernel_rfl
  lt := by rintro vs X W ⟨rfl, hB⟩ k rfl; exact hB.lt
  same := by rintro vs X W W' ⟨rfl, hB⟩ _ hk; exact ⟨rfl, (hk sb rfl).trans hB⟩
  call := by
    rintro vs X W x ⟨rfl, hB⟩ _ _
    refine (cloQ W sb h _ _ x hB).mono ?_
    rintro e W' ⟨he, hB', hT⟩
    refine ⟨he, _, ⟨rfl, ?_⟩, Went.same hT⟩
    rw [show vicOf (vs ++ [x]) = x by unfold vicOf; rw [if_neg (by simp)]; simp [lastKey], show (!(vs ++ [x]).isEmpty) = true by simp]
    exact hB'

/-- Room made for one: n gone, 1 at most. -/
def RoomPost (w : World) (i : Ix) (S : Sx) (sb mo t : Nat) (N1 A1 G1 : List ByteArray) (f1 : Told) (b : Nat) (h : Bool) (x : ByteArray) (o : Bool) (e : Ending) (w' : World) : Prop :=
  e = .returned (.tuple #[]) ∧ ∃ S', Raw w' i S' mo t N1 A1 G1 f1 b ∧
    Box w' sb h x o ∧ Went w w' (both i S fun k => k = sb) (both i S' fun k => k = sb) ∧ ¬ blk i S' sb
set_option maxHeartbeats 1000000 in
theorem roomY (w : World) (i : Ix) (S : Sx) (cb sb mo m t : Nat) (N A G : List ByteArray) (f : Told) (b : Nat) (h : Bool) (r : Raw w i S mo t N A G f b) (k : CB w cb i) (hB : Box w sb h ⟨#[]⟩ false) (hs : ¬ blk i S sb) (hm : mo = m + 1) (hne : cb ≠ sb) (hc : ¬ blk i S cb)
    (nd : (A ++ N ++ G).Nodup) (hl : A.length + N.length + G.length ≤ b) (hb : b ≤ 990) :
    Calls Try.prog 41 #[.pointer (some ⟨cb, 0, none⟩), .pointer (some ⟨sb, 0, none⟩)] w (RoomPost w i S sb mo t (N.take (N.length - (A.length + N.length - m))) (A.take (A.length + N.length - (A.length + N.length - m))) (((A ++ N).drop (A.length + N.length - (A.length + N.length - m)) ++ G).take mo) (tcut f (((A ++ N).drop (A.length + N.length - (A.length + N.length - m)) ++ G).drop mo)) b h (vicOf ((A ++ N).reverse.take (A.length + N.length - m))) (!((A ++ N).reverse.take (A.length + N.length - m)).isEmpty)) := by
  have K0 := k.cell
  obtain ⟨c0, _⟩ := r.cells
  have D0 := Lib.hid (show Below w.heap.size w w.drew from ⟨rfl, rfl, rfl, Nat.le_refl _, fun _ _ => rfl⟩)
  have U := Lib.hid (cutTo_any w.drew i S mo t N A G f b m (fun k => k = sb) (KQ sb h) 43 ⟨sb, 0, none⟩ (r.below D0.out) ⟨rfl, (D0.out.block _ hB.lt).trans hB⟩ (by rintro k rfl; exact hs) (sideQ sb h) nd hl hb)
  have ht := r.top.1
  have HW : IntKind.i64.wrap ((mo : Int) - 1) = (m : Int) := by rw [IntWalk.i64_in _ (by omega)]; omega
  have HK := Lib.hid k
  have HN := Lib.hid (show ¬ both i S (fun k => k = sb) cb from fun h => by rcases h with h | h; exact hc h; exact hne h)
  clear r k hB nd hm hs hc hne
  go_enter Try.func41, Try.ntmps41
  go_wp2_with fail
  go_region_held3 (fun w' => w'.cell? ⟨cb, 0, none⟩ = some (.pointer (some ⟨i.c, 0, none⟩)) ∧ w'.cell? ⟨i.c, 0, none⟩ = some (.int .i64 (mo : Int))) (first | (exact ⟨Z0, z1⟩) | (exact ⟨K0, c0⟩) | go_keep)
    ((go_at_call 42; refine U.out.mono ?_; rintro e w4 ⟨rfl, S4, X4, r4, ⟨rfl, hB4⟩, hW, hd⟩; obtain ⟨z1, _⟩ := r4.cells; have Z0 := CB.cell (i := i) ((went_out hW HK.out.lt HN.out).1.trans HK.out); have P4 := Lib.hid (show RoomPost w i S sb mo t (N.take (N.length - (A.length + N.length - m))) (A.take (A.length + N.length - (A.length + N.length - m))) (((A ++ N).drop (A.length + N.length - (A.length + N.length - m)) ++ G).take mo) (tcut f (((A ++ N).drop (A.length + N.length - (A.length + N.length - m)) ++ G).drop mo)) b h (vicOf ((A ++ N).reverse.take (A.length + N.length - m))) (!((A ++ N).reverse.take (A.length + N.length - m)).isEmpty) (.returned (.tuple #[])) w4 from ⟨rfl, S4, r4, hB4, (Went.below D0.out).trans hW, hd sb rfl⟩); clear r4 hB4 hW hd))
  all_goals
    go_wp2_with fail
    go_end0
    exact P4.out

/-- What Request has in memory: the cache's pointer, its result, its step. -/
structure Mid (w W : World) (i : Ix) (S S' : Sx) (mo t : Nat) (N A G : List ByteArray) (f : Told) (b : Nat) (h : Bool) (s : ByteArray) (o : Bool) : Prop where
  raw : Raw W i S' mo t N A G f b
  cb : CB W w.heap.size i
  res : Box W (w.heap.size + 1) false ⟨#[]⟩ false
  step : Box W (w.heap.size + 1 + 1) h s o
  went : Went w W (blk i S) (blk i S')
  n0 : ¬ blk i S' w.heap.size
  n1 : ¬ blk i S' (w.heap.size + 1)
  n2 : ¬ blk i S' (w.heap.size + 1 + 1)
section
variable {w W W' : World} {i : Ix} {S S' S2 : Sx} {mo t mo' t' : Nat} {N A G N' A' G' : List ByteArray} {f f' : Told} {b b' : Nat} {h o : Bool} {s : ByteArray} {e : Ending} {v : Value}
abbrev pObj (i : Ix) : Obj := .cells #[.pointer (some ⟨i.c, 0, none⟩)] 25
abbrev sObj (h : Bool) (s : ByteArray) (o : Bool) : Obj := .cells #[.bool h, .string s, .bool o] 34
theorem Mid.start (r : Raw w i S mo t N A G f b) (h : Bool) : Mid w (((w.alloc (pObj i)).alloc (sObj false ⟨#[]⟩ false)).alloc (sObj h ⟨#[]⟩ false)) i S S mo t N A G f b h ⟨#[]⟩ false := by
  have s1 : (w.alloc (pObj i)).heap.size = w.heap.size + 1 := by simp
  have s2 : ((w.alloc (pObj i)).alloc (sObj false ⟨#[]⟩ false)).heap.size = w.heap.size + 1 + 1 := by simp
  have b1 := (Below.refl w.heap.size w).alloc (Nat.le_refl _) (pObj i)
  have b2 := b1.alloc (by rw [s1]; omega) (sObj false ⟨#[]⟩ false)
  have b3 := b2.alloc (by rw [s2]; omega) (sObj h ⟨#[]⟩ false)
  have q2 := heap_alloc_new (w.alloc (pObj i)) (sObj false ⟨#[]⟩ false)
  rw [s1] at q2
  have q3 := heap_alloc_new ((w.alloc (pObj i)).alloc (sObj false ⟨#[]⟩ false)) (sObj h ⟨#[]⟩ false)
  rw [s2] at q3
  exact ⟨r.below b3, (Below.heap_alloc _ _ _ (by rw [s2]; omega)).trans ((Below.heap_alloc _ _ _ (by rw [s1]; omega)).trans (heap_alloc_new _ _)), (Below.heap_alloc _ _ _ (by rw [s2]; omega)).trans q2, q3, Went.below b3,
    fun hk => by have := r.lt hk; omega, fun hk => by have := r.lt hk; omega, fun hk => by have := r.lt hk; omega⟩
theorem Mid.below (m : Mid w W i S S' mo t N A G f b h s o) (hb : Below W.heap.size W W') : Mid w W' i S S' mo t N A G f b h s o :=
  ⟨m.raw.below hb, (hb.block _ m.cb.lt).trans m.cb, (hb.block _ m.res.lt).trans m.res, (hb.block _ m.step.lt).trans m.step, m.went.trans (Went.below hb), m.n0, m.n1, m.n2⟩
theorem Mid.op (m : Mid w W i S S' mo t N A G f b h s o) (hp : RPost v W i S' mo' t' N' A' G' f' b' e W') : e = .returned v ∧ ∃ S2, Mid w W' i S S2 mo' t' N' A' G' f' b' h s o := by
  obtain ⟨he, S2, r2, hW⟩ := hp
  have o0 := went_out hW m.cb.lt m.n0
  have o1 := went_out hW m.res.lt m.n1
  have o2 := went_out hW m.step.lt m.n2
  exact ⟨he, S2, r2, o0.1.trans m.cb, o1.1.trans m.res, o2.1.trans m.step, m.went.trans hW, o0.2, o1.2, o2.2⟩
theorem Mid.room {N1 A1 G1 : List ByteArray} {f1 : Told} {x : ByteArray} {q : Bool} (m : Mid w W i S S' mo t N A G f b h ⟨#[]⟩ false) (hp : RoomPost W i S' (w.heap.size + 1 + 1) mo t N1 A1 G1 f1 b h x q e W') : e = .returned (.tuple #[]) ∧ ∃ S2, Mid w W' i S S2 mo t N1 A1 G1 f1 b h x q := by
  obtain ⟨he, S2, r2, hB, hW, hn⟩ := hp
  have hs := m.went.turn.size
  have o0 := went_out hW m.cb.lt (fun h => by rcases h with h | h; exact m.n0 h; omega)
  have o1 := went_out hW m.res.lt (fun h => by rcases h with h | h; exact m.n1 h; omega)
  refine ⟨he, S2, r2, o0.1.trans m.cb, o1.1.trans m.res, hB, ⟨fun k hk => ?_, m.went.turn.trans hW.turn fun k hk hS => ?_⟩, fun h => o0.2 (Or.inl h), fun h => o1.2 (Or.inl h), hn⟩
  · rcases hW.new k (Or.inl hk) with h | h
    · rcases h with h | h
      · exact m.went.new k h
      · exact Or.inr (by omega)
    · exact Or.inr (by omega)
  · rcases hS with h | h
    · rcases m.went.new k h with h | h
      · exact h
      · omega
    · omega
/-- The result's variable is written. -/
theorem Mid.out (m : Mid w W i S S' mo t N A G f b h s o) :
    Box (((W.setCell ⟨w.heap.size + 1, 0, none⟩ (.bool h)).setCell ⟨w.heap.size + 1, 1, none⟩ (.string s)).setCell ⟨w.heap.size + 1, 2, none⟩ (.bool o)) (w.heap.size + 1) h s o ∧
    RPost (.agg #[.bool h, .string s, .bool o]) w i S mo t N A G f b (.returned (.agg #[.bool h, .string s, .bool o])) (((W.setCell ⟨w.heap.size + 1, 0, none⟩ (.bool h)).setCell ⟨w.heap.size + 1, 1, none⟩ (.string s)).setCell ⟨w.heap.size + 1, 2, none⟩ (.bool o)) := by
  refine ⟨m.res.put h o s, rfl, S', m.raw.kept (by simp [World.setCell]) (fun k hk => ?_), m.went.new, ((m.went.turn.setCell (p := ⟨w.heap.size + 1, 0, none⟩) (Or.inr (Nat.le_succ _)) _).setCell (p := ⟨w.heap.size + 1, 1, none⟩) (Or.inr (Nat.le_succ _)) _).setCell (p := ⟨w.heap.size + 1, 2, none⟩) (Or.inr (Nat.le_succ _)) _⟩
  have hne : k ≠ w.heap.size + 1 := fun e => m.n1 (e ▸ hk)
  rw [Below.heap_setCell _ _ _ _ hne, Below.heap_setCell _ _ _ _ hne, Below.heap_setCell _ _ _ _ hne]
theorem Mid.six (m : Mid w W i S S' mo t N A G f b h s o) : (W.cell? ⟨w.heap.size + 1 + 1, 0, none⟩ = some (.bool h) ∧ W.cell? ⟨w.heap.size + 1 + 1, 1, none⟩ = some (.string s) ∧ W.cell? ⟨w.heap.size + 1 + 1, 2, none⟩ = some (.bool o)) ∧
    (W.cell? ⟨w.heap.size + 1, 0, none⟩ = some (.bool false) ∧ W.cell? ⟨w.heap.size + 1, 1, none⟩ = some (.string ⟨#[]⟩) ∧ W.cell? ⟨w.heap.size + 1, 2, none⟩ = some (.bool false)) ∧ W.frozen? ⟨w.heap.size + 1, 0, none⟩ = false ∧ W.frozen? ⟨w.heap.size + 1, 1, none⟩ = false ∧ W.frozen? ⟨w.heap.size + 1, 2, none⟩ = false :=
  ⟨⟨m.step.cells.1, m.step.cells.2.1, m.step.cells.2.2.1⟩, ⟨m.res.cells.1, m.res.cells.2.1, m.res.cells.2.2.1⟩, frozen_of_row W _ 0 _ _ m.res, frozen_of_row W _ 1 _ _ m.res, frozen_of_row W _ 2 _ _ m.res⟩
end
end Go.Proofs.Ytmnflcidcoejiaa
