/- A new learner. -/
import Derived.Test.YtnlckkahkghneaaGreatDoorLk
import Derived.Test.YtnlckkahkghneaaGreatDoorPn
set_option maxRecDepth 20000
namespace Go.Proofs.YtnlckkahkghneaaGreatDoor.LE
open Go.RowKit Go.Maps Go.WideMaps Sg

theorem idx2i_0 (w : World) (x0 x1 : Value) : (Instr.index 92 (.agg #[x0, x1]) (.int .i64 0)).run Tryz.prog w = .ok x0 w := by kernel_rfl
theorem idx2i_1 (w : World) (x0 x1 : Value) : (Instr.index 92 (.agg #[x0, x1]) (.int .i64 1)).run Tryz.prog w = .ok x1 w := by kernel_rfl
/-- A pace in a block of its own. -/
def PBox (w : World) (x : Nat) (r : Int) : Prop := w.heap[x]? = some (.cells #[.int .u64 r, .int .i64 0, .int .i64 0, .int .i64 0, .bool false, .bool false, .int .i64 0] 101 (0, 0))
theorem load_pace {w : World} {x : Nat} {r : Int} (k : PBox w x r) : (loadVar 101 ⟨x, 0, none⟩).run Tryz.prog w = .ok (.agg #[.int .u64 r, .int .i64 0, .int .i64 0, .int .i64 0, .bool false, .bool false, .int .i64 0]) w := by
  have k0 := cell_of_row w _ 0 _ _ _ k
  have k1 := cell_of_row w _ 1 _ _ _ k
  have k2 := cell_of_row w _ 2 _ _ _ k
  have k3 := cell_of_row w _ 3 _ _ _ k
  have k4 := cell_of_row w _ 4 _ _ _ k
  have k5 := cell_of_row w _ 5 _ _ _ k
  have k6 := cell_of_row w _ 6 _ _ _ k
  unfold loadVar
  go_simp
theorem PBox.put {w : World} {x : Nat} {r q : Int} (k : PBox w x r) : PBox (((((((w.setCell ⟨x, 0, none⟩ (.int .u64 q)).setCell ⟨x, 1, none⟩ (.int .i64 0)).setCell ⟨x, 2, none⟩ (.int .i64 0)).setCell ⟨x, 3, none⟩ (.int .i64 0)).setCell ⟨x, 4, none⟩ (.bool false)).setCell ⟨x, 5, none⟩ (.bool false)).setCell ⟨x, 6, none⟩ (.int .i64 0)) x q := by
  unfold PBox at *
  have r0 : (w.setCell ⟨x, 0, none⟩ (.int .u64 q)).heap[x]? = some (.cells #[.int .u64 q, .int .i64 0, .int .i64 0, .int .i64 0, .bool false, .bool false, .int .i64 0] 101 (0, 0)) := by rw [heap_setCell_same _ _ _ _ _ _ k]; rfl
  have r1 : ((w.setCell ⟨x, 0, none⟩ (.int .u64 q)).setCell ⟨x, 1, none⟩ (.int .i64 0)).heap[x]? = some (.cells #[.int .u64 q, .int .i64 0, .int .i64 0, .int .i64 0, .bool false, .bool false, .int .i64 0] 101 (0, 0)) := by rw [heap_setCell_same _ _ _ _ _ _ r0]; rfl
  have r2 : (((w.setCell ⟨x, 0, none⟩ (.int .u64 q)).setCell ⟨x, 1, none⟩ (.int .i64 0)).setCell ⟨x, 2, none⟩ (.int .i64 0)).heap[x]? = some (.cells #[.int .u64 q, .int .i64 0, .int .i64 0, .int .i64 0, .bool false, .bool false, .int .i64 0] 101 (0, 0)) := by rw [heap_setCell_same _ _ _ _ _ _ r1]; rfl
  have r3 : ((((w.setCell ⟨x, 0, none⟩ (.int .u64 q)).setCell ⟨x, 1, none⟩ (.int .i64 0)).setCell ⟨x, 2, none⟩ (.int .i64 0)).setCell ⟨x, 3, none⟩ (.int .i64 0)).heap[x]? = some (.cells #[.int .u64 q, .int .i64 0, .int .i64 0, .int .i64 0, .bool false, .bool false, .int .i64 0] 101 (0, 0)) := by rw [heap_setCell_same _ _ _ _ _ _ r2]; rfl
  have r4 : (((((w.setCell ⟨x, 0, none⟩ (.int .u64 q)).setCell ⟨x, 1, none⟩ (.int .i64 0)).setCell ⟨x, 2, none⟩ (.int .i64 0)).setCell ⟨x, 3, none⟩ (.int .i64 0)).setCell ⟨x, 4, none⟩ (.bool false)).heap[x]? = some (.cells #[.int .u64 q, .int .i64 0, .int .i64 0, .int .i64 0, .bool false, .bool false, .int .i64 0] 101 (0, 0)) := by rw [heap_setCell_same _ _ _ _ _ _ r3]; rfl
  have r5 : ((((((w.setCell ⟨x, 0, none⟩ (.int .u64 q)).setCell ⟨x, 1, none⟩ (.int .i64 0)).setCell ⟨x, 2, none⟩ (.int .i64 0)).setCell ⟨x, 3, none⟩ (.int .i64 0)).setCell ⟨x, 4, none⟩ (.bool false)).setCell ⟨x, 5, none⟩ (.bool false)).heap[x]? = some (.cells #[.int .u64 q, .int .i64 0, .int .i64 0, .int .i64 0, .bool false, .bool false, .int .i64 0] 101 (0, 0)) := by rw [heap_setCell_same _ _ _ _ _ _ r4]; rfl
  rw [heap_setCell_same _ _ _ _ _ _ r5]; rfl
/-- The rate at first. -/
def rate0 : Nat := Fx.quo 45 100
theorem newPace_l (w : World) : Calls Tryz.prog 46 #[] w (fun e w' => e = .returned (.agg #[.int .u64 (rate0 : Int), .int .i64 0, .int .i64 0, .int .i64 0, .bool false, .bool false, .int .i64 0]) ∧ Below w.heap.size w w') := by
  have b0 := (Below.refl w.heap.size w).alloc (Nat.le_refl _) (.cells #[.int .u64 0, .int .i64 0, .int .i64 0, .int .i64 0, .bool false, .bool false, .int .i64 0] 101)
  have U := Lib.hid (show Calls Tryz.prog 88 #[.int .i64 45, .int .i64 100] (w.alloc (.cells #[.int .u64 0, .int .i64 0, .int .i64 0, .int .i64 0, .bool false, .bool false, .int .i64 0] 101)) (Num rate0 _) from part_l 45 100 _ (by omega) (by omega) (by omega))
  have PB := Lib.hid (show PBox (w.alloc (.cells #[.int .u64 0, .int .i64 0, .int .i64 0, .int .i64 0, .bool false, .bool false, .int .i64 0] 101)) w.heap.size 0 from heap_alloc_new _ _)
  have B0 := Lib.hid b0
  clear b0
  go_enter Tryz.func46, Tryz.ntmps46
  go_wp2_with fail
  refine U.out.mono ?_
  rintro e w1 ⟨rfl, hB⟩
  have P1 : PBox w1 w.heap.size 0 := (hB.block _ (heap_lt PB.out)).trans PB.out
  have k0 := cell_of_row w1 _ 0 _ _ _ P1
  have k1 := cell_of_row w1 _ 1 _ _ _ P1
  have k2 := cell_of_row w1 _ 2 _ _ _ P1
  have k3 := cell_of_row w1 _ 3 _ _ _ P1
  have k4 := cell_of_row w1 _ 4 _ _ _ P1
  have k5 := cell_of_row w1 _ 5 _ _ _ P1
  have k6 := cell_of_row w1 _ 6 _ _ _ P1
  have f0 := frozen_of_row w1 _ 0 _ _ P1
  have f1 := frozen_of_row w1 _ 1 _ _ P1
  have f2 := frozen_of_row w1 _ 2 _ _ P1
  have f3 := frozen_of_row w1 _ 3 _ _ P1
  have f4 := frozen_of_row w1 _ 4 _ _ P1
  have f5 := frozen_of_row w1 _ 5 _ _ P1
  have f6 := frozen_of_row w1 _ 6 _ _ P1
  have B1 := Lib.hid (B0.out.trans (hB.mono B0.out.size))
  have Q1 := Lib.hid (P1.put (q := (rate0 : Int)))
  clear P1 hB U PB
  go_wp2_with fail
  refine bodyPost_ret (LR.results_c rfl _ _ _ ⟨w.heap.size, 0, none⟩ _ rfl (load_pace Q1.out)) rfl ?_
  exact ⟨rfl, ((((((B1.out.setCell (Nat.le_refl _) _).setCell (Nat.le_refl _) _).setCell (Nat.le_refl _) _).setCell (Nat.le_refl _) _).setCell (Nat.le_refl _) _).setCell (Nat.le_refl _) _).setCell (Nat.le_refl _) _⟩
theorem load_two {w : World} {x : Nat} {a c : Int} (k : w.heap[x]? = some (.cells #[.int .i64 a, .int .i64 c] 92 (0, 0))) : (loadVar 92 ⟨x, 0, none⟩).run Tryz.prog w = .ok (.agg #[.int .i64 a, .int .i64 c]) w := by
  have k0 := cell_of_row w _ 0 _ _ _ k
  have k1 := cell_of_row w _ 1 _ _ _ k
  unfold loadVar
  go_simp
theorem experts_five (w : World)  : Calls Tryz.prog 44 #[.int .i64 5] w (fun e w' => e = .returned (.tuple #[.agg #[.int .i64 0, .int .i64 1], .bool true]) ∧ Below w.heap.size w w') := by
  have Q := Lib.hid (heap_alloc_new w (.cells #[.int .i64 0, .int .i64 1] 92))
  have B0 := Lib.hid ((Below.refl w.heap.size w).alloc (Nat.le_refl _) (.cells #[.int .i64 0, .int .i64 1] 92))
  go_enter Tryz.func44, Tryz.ntmps44
  go_wp2_with fail
  refine bodyPost_ret (LR.results_ct rfl _ _ _ ⟨w.heap.size, 0, none⟩ _ rfl (load_two Q.out)) rfl ?_
  exact ⟨rfl, B0.out⟩
theorem experts_six (w : World)  : Calls Tryz.prog 44 #[.int .i64 6] w (fun e w' => e = .returned (.tuple #[.agg #[.int .i64 3, .int .i64 2], .bool true]) ∧ Below w.heap.size w w') := by
  have Q := Lib.hid (heap_alloc_new w (.cells #[.int .i64 3, .int .i64 2] 92))
  have B0 := Lib.hid ((Below.refl w.heap.size w).alloc (Nat.le_refl _) (.cells #[.int .i64 3, .int .i64 2] 92))
  go_enter Tryz.func44, Tryz.ntmps44
  go_wp2_with fail
  refine bodyPost_ret (LR.results_ct rfl _ _ _ ⟨w.heap.size, 0, none⟩ _ rfl (load_two Q.out)) rfl ?_
  exact ⟨rfl, B0.out⟩
theorem experts_none (w : World) (z : Int) (h5 : ¬ z = 5) (h6 : ¬ z = 6) : Calls Tryz.prog 44 #[.int .i64 z] w (fun e w' => e = .returned (.tuple #[.agg #[.int .i64 0, .int .i64 0], .bool false]) ∧ Below w.heap.size w w') := by
  have Q := Lib.hid (heap_alloc_new w (.cells #[.int .i64 0, .int .i64 0] 92))
  have B0 := Lib.hid ((Below.refl w.heap.size w).alloc (Nat.le_refl _) (.cells #[.int .i64 0, .int .i64 0] 92))
  go_enter Tryz.func44, Tryz.ntmps44
  go_wp2_with fail
  refine bodyPost_ret (LR.results_ct rfl _ _ _ ⟨w.heap.size, 0, none⟩ _ rfl (load_two Q.out)) rfl ?_
  exact ⟨rfl, B0.out⟩
/-- Addresses of parts, as far as they are laid. -/
def aOf (p q r t : Option Nat) : Nat → Option Nat
  | 0 => p
  | 1 => q
  | 2 => r
  | _ => t
def pad (x : Option Nat) : Value := .pointer (x.map fun n => ⟨n, 0, none⟩)
/-- A learner's struct while it is filled. -/
def nc (kd mo rate m B : Nat) (lane : Int) (a : Nat → Option Nat) : Array Value := #[.int .i64 (kd : Int), .int .i64 (mo : Int), pad (a 0), pad (a 1), pad (a 2), pad (a 3), .map (some m), .int .i64 0, .int .u64 2305843009213693952, .int .u64 (rate : Int), .int .i64 0, .int .i64 0, .int .i64 0, .bool false, .bool false, .int .i64 0, .pointer (some ⟨B + 1, 0, none⟩), .int .i64 lane]
structure Fill (w W : World) (l m kd mo rate B : Nat) (lane : Int) (a : Nat → Option Nat) (S : Sx) (R : Nat → Part) : Prop where
  box : LBox W l (nc kd mo rate m B lane a)
  mp : Mp W m (fun _ => none) 0
  pt : ∀ k, k < 4 → ∀ x, a k = some x → PartIn W x (S k) 0 (R k)
  low : ∀ k, k < 4 → ∀ y, S k y → l < y ∧ y < W.heap.size
  sep : ∀ j k, j < 4 → k < 4 → j ≠ k → ∀ x, S j x → ¬ S k x
  lm : m < l
  lw : w.heap.size ≤ m
  bel : Below w.heap.size w W
section
variable {w W W' : World} {l m kd mo rate B : Nat} {lane : Int} {a : Nat → Option Nat} {S : Sx} {R : Nat → Part} {e : Ending}
theorem Fill.below (f : Fill w W l m kd mo rate B lane a S R) (hb : Below W.heap.size W W') : Fill w W' l m kd mo rate B lane a S R :=
  ⟨(hb.block l (heap_lt f.box)).trans f.box, f.mp.same (hb.block m f.mp.lt), fun k hk x hx => (f.pt k hk x hx).below hb, fun k hk y hy => ⟨(f.low k hk y hy).1, Nat.lt_of_lt_of_le (f.low k hk y hy).2 hb.size⟩, f.sep, f.lm, f.lw, f.bel.trans (hb.mono f.bel.size)⟩
theorem nc_set (x : Nat) {k : Nat} (hk : k < 4) : (nc kd mo rate m B lane a).setIfInBounds (2 + k) (.pointer (some ⟨x, 0, none⟩)) = nc kd mo rate m B lane (fun j => if j = k then some x else a j) := by
  rcases k with _ | _ | _ | _ | k
  · rfl
  · rfl
  · rfl
  · rfl
  · omega
/-- A part more. -/
theorem Fill.add (f : Fill w W l m kd mo rate B lane a S R) {k : Nat} (hk : k < 4) {x : Nat} {T : Nat → Prop} {w2 : World} (hp : PartIn w2 x T 0 (R k)) (hT : ∀ y, T y → W.heap.size ≤ y) (hb : Below W.heap.size W w2) :
    Fill w (w2.setCell ⟨l, 2 + k, none⟩ (.pointer (some ⟨x, 0, none⟩))) l m kd mo rate B lane (fun j => if j = k then some x else a j) (fun j => if j = k then T else S j) R := by
  have g := f.below hb
  have ht : Turn (fun j => j = l) w2 (w2.setCell ⟨l, 2 + k, none⟩ (.pointer (some ⟨x, 0, none⟩))) := (Turn.refl (fun j => j = l) w2).setCell (p := ⟨l, 2 + k, none⟩) (Or.inl rfl) _
  have hl := heap_lt f.box
  have hs : (w2.setCell ⟨l, 2 + k, none⟩ (.pointer (some ⟨x, 0, none⟩))).heap.size = w2.heap.size := by simp [World.setCell]
  have hlt := fun y (hy : T y) => hp.lt hy
  refine ⟨?_, g.mp.same (ht.block m g.mp.lt (by have := f.lm; omega)), fun j hj y hy => ?_, fun j hj y hy => ?_, fun j i hj hi hne y hy hy2 => ?_, f.lm, f.lw, ?_⟩
  · have := g.box
    unfold LBox at this ⊢
    rw [heap_setCell_same _ _ _ _ _ _ this, nc_set x hk]
  · by_cases ejk : j = k
    · subst ejk
      rw [if_pos rfl] at hy
      rw [if_pos rfl]
      obtain rfl := Option.some.inj hy
      exact hp.beside ht fun y hy e => by have := hT y hy; have e : y = l := e; omega
    · rw [if_neg ejk] at hy
      rw [if_neg ejk]
      exact (g.pt j hj y hy).beside ht fun y hy e => by have := (f.low j hj y hy).1; have e : y = l := e; omega
  · rw [hs]
    by_cases ejk : j = k
    · rw [if_pos ejk] at hy
      exact ⟨by have := hT y hy; omega, hlt y hy⟩
    · rw [if_neg ejk] at hy
      exact g.low j hj y hy
  · by_cases ejk : j = k
    · rw [if_pos ejk] at hy
      rw [if_neg (by omega)] at hy2
      have := hT y hy
      have := (f.low i hi y hy2).2
      omega
    · rw [if_neg ejk] at hy
      by_cases eik : i = k
      · rw [if_pos eik] at hy2
        have := hT y hy2
        have := (f.low j hj y hy).2
        omega
      · rw [if_neg eik] at hy2
        exact f.sep j i hj hi hne y hy hy2
  · exact g.bel.trans (ht.below (B := w.heap.size) (fun y hy => by have hy : y = l := hy; have := f.lm; have := f.lw; omega) g.bel.size)
theorem Fill.congr {a' : Nat → Option Nat} (f : Fill w W l m kd mo rate B lane a S R) (h : ∀ k, k < 4 → a' k = a k) : Fill w W l m kd mo rate B lane a' S R := by
  refine ⟨?_, f.mp, fun k hk x hx => f.pt k hk x (by rw [← h k hk]; exact hx), f.low, f.sep, f.lm, f.lw, f.bel⟩
  have e : nc kd mo rate m B lane a' = nc kd mo rate m B lane a := by unfold nc; rw [h 0 (by omega), h 1 (by omega), h 2 (by omega), h 3 (by omega)]
  rw [e]; exact f.box
end
/-- A new learner in memory of its own, beside its tape. -/
def NewT (six : Bool) (mo B E : Nat) (L : List (List Nat)) (lane : Int) (w : World) (e : Ending) (w' : World) : Prop :=
  ∃ i S, e = .returned (.tuple #[.pointer (some ⟨i.l, 0, none⟩), .nilIface]) ∧ LT w' i S B E L lane (St.start six mo (DR.lget L lane)) 0 ∧ (∀ k, blk i S k → w.heap.size ≤ k) ∧ Below w.heap.size w w'
theorem start_fl (six : Bool) (mo B : Nat) (lane : Int) (vs : List Nat) (l m : Nat) (p q r t : Nat) : nc (if six then 6 else 5) mo rate0 m B lane (aOf (some p) (some q) (some r) (some t)) = lcells ⟨l, fun | 0 => p | 1 => q | 2 => r | 3 => t | _ => m⟩ (flOf (St.start six mo vs) B lane) := by
  cases six <;> rfl
theorem Fill.done {w W : World} {l m mo B E : Nat} {lane : Int} {L : List (List Nat)} {p q r t : Nat} {S : Sx} (six : Bool) (hm : mo ≤ 16777216) (hT : DR.Tape w B E L)
    (f : Fill w W l m (if six then 6 else 5) mo rate0 B lane (aOf (some p) (some q) (some r) (some t)) S (pts (KSt.start (if six then 3 else 0) mo) (KSt.start (if six then 2 else 1) mo) [] [] (fun _ => none))) :
    NewT six mo B E L lane w (.returned (.tuple #[.pointer (some ⟨l, 0, none⟩), .nilIface])) W := by
  have hE := hT.lt
  refine ⟨⟨l, fun | 0 => p | 1 => q | 2 => r | 3 => t | _ => m⟩, fun k => if k < 4 then S k else fun j => j = m, rfl, ⟨⟨?_, five ?_ ?_ ?_ ?_ ?_, fun j k hj hk hne x hx hx2 => ?_, fun k hk hx => ?_⟩, start_ok six mo _, ⟨hm, Nat.le_refl _, Nat.le_refl _, Nat.le_refl _, Nat.le_refl _, Nat.zero_le _⟩, hT.below f.bel, fun k hk hk2 => ?_, rfl⟩, fun k hk => ?_, f.bel⟩
  · have := f.box
    unfold LBox at this ⊢
    rw [this, start_fl six mo B lane (DR.lget L lane) l m p q r t]
  · exact f.pt 0 (by omega) p rfl
  · exact f.pt 1 (by omega) q rfl
  · exact f.pt 2 (by omega) r rfl
  · exact f.pt 3 (by omega) t rfl
  · exact ⟨rfl, 0, Nat.le_refl _, f.mp⟩
  · have hlm := f.lm
    by_cases h1 : j < 4
    · rw [if_pos h1] at hx
      by_cases h2 : k < 4
      · rw [if_pos h2] at hx2
        exact f.sep j k h1 h2 hne x hx hx2
      · rw [if_neg h2] at hx2
        have := (f.low j h1 x hx).1
        have hx2 : x = m := hx2
        omega
    · rw [if_neg h1] at hx
      have hx : x = m := hx
      by_cases h2 : k < 4
      · rw [if_pos h2] at hx2
        have := (f.low k h2 x hx2).1
        omega
      · omega
  · have hlm := f.lm
    by_cases h1 : k < 4
    · rw [if_pos h1] at hx
      have := (f.low k h1 _ hx).1
      have : (⟨l, fun | 0 => p | 1 => q | 2 => r | 3 => t | _ => m⟩ : Ix).l = l := rfl
      omega
    · rw [if_neg h1] at hx
      have hx : l = m := hx
      omega
  · have h1 := f.lm
    have h2 := f.lw
    rcases hk with hk | ⟨j, hj, hk⟩
    · have hk : k = l := hk
      omega
    · by_cases h3 : j < 4
      · rw [if_pos h3] at hk
        have := (f.low j h3 k hk).1
        omega
      · rw [if_neg h3] at hk
        have hk : k = m := hk
        omega
  · have h1 := f.lm
    have h2 := f.lw
    rcases hk with hk | ⟨j, hj, hk⟩
    · have hk : k = l := hk
      omega
    · by_cases h3 : j < 4
      · rw [if_pos h3] at hk
        have := (f.low j h3 k hk).1
        omega
      · rw [if_neg h3] at hk
        have hk : k = m := hk
        omega

end Go.Proofs.YtnlckkahkghneaaGreatDoor.LE
