/- The contracts of a cache's Remove, put, Drop, raiseShare, lowerShare, Sizes, New. -/
import Derived.Test.YtlmbeiijijkjeaaWc
import Derived.Deep.LoopGhost
import Derived.Deep.RegionLaw
import Derived.BigRegion
namespace Go.Proofs.Ytlmbeiijijkjeaa
open Go.RowKit Sg

def rmR (R : Rw4) (key : ByteArray) : Rw4 := fun k => rem (R k) key
/-- With a key off the rows ahead of k. -/
def rmK (R : Rw4) (key : ByteArray) (k : Nat) : Rw4 := fun j => if j < k then rem (R j) key else R j
theorem rmK_at (R : Rw4) (key : ByteArray) (k : Nat) : rmK R key k k = R k := by unfold rmK; rw [if_neg (Nat.lt_irrefl k)]
theorem rmK_next (R : Rw4) (key : ByteArray) (k j : Nat) : rmK R key (k + 1) j = upd (rmK R key k) k (rem (R k) key) j := by
  unfold rmK upd
  by_cases e : j = k
  · subst e; simp
  · simp only [e, if_false]
    by_cases h : j < k
    · rw [if_pos h, if_pos (by omega)]
    · rw [if_neg h, if_neg (by omega)]
def putR (R : Rw4) (key : ByteArray) (k : Nat) : Rw4 := upd (rmR R key) k (key :: rem (R k) key)
theorem lv_two (R : Rw4) (p : Nat) (q : Bool) : lv R p q = 0 ∨ lv R p q = 1 := by unfold lv; split <;> simp
def rpU (mo p : Nat) (R : Rw4) : Nat := p + min (max ((R 3).length / (R 2).length) 1) (mo - p)
def lpU (p : Nat) (R : Rw4) : Nat := p - min (max ((R 2).length / (R 3).length) 1) p

theorem idx4_0 (w : World) (x0 x1 x2 x3 : Value) : (Instr.index 49 (.agg #[x0, x1, x2, x3]) (.int .i64 0)).run Try.prog w = .ok x0 w := by kernel_rfl
theorem idx4_1 (w : World) (x0 x1 x2 x3 : Value) : (Instr.index 49 (.agg #[x0, x1, x2, x3]) (.int .i64 1)).run Try.prog w = .ok x1 w := by kernel_rfl
theorem idx4_2 (w : World) (x0 x1 x2 x3 : Value) : (Instr.index 49 (.agg #[x0, x1, x2, x3]) (.int .i64 2)).run Try.prog w = .ok x2 w := by kernel_rfl
theorem idx4_3 (w : World) (x0 x1 x2 x3 : Value) : (Instr.index 49 (.agg #[x0, x1, x2, x3]) (.int .i64 3)).run Try.prog w = .ok x3 w := by kernel_rfl
section
variable (w : World) (i : Ix) (S : Sx) (mo p : Nat) (R : Rw4) (b : Nat) (r : Raw w i S mo p R b)
include r
theorem removeW (key : ByteArray) (hs : key.size ≤ maxLen) : Calls Try.prog 12 #[.pointer (some ⟨i.c, 0, none⟩), .string key] w (RPost (.bool (hit R key)) w i S mo p (rmR R key) b) := by
  obtain ⟨_, _, c2, c3, c4, c5⟩ := r.cells
  have U := Lib.hid (hasW w i S mo p R b r key hs)
  have HH := Lib.hid r
  obtain ⟨h, hh⟩ : ∃ h, h = hit R key := ⟨_, rfl⟩
  rw [← hh] at U ⊢
  clear r hh
  go_enter Try.func12, Try.ntmps12
  go_wp2_with fail
  refine U.out.mono ?_
  rintro e w1 ⟨rfl, rfl⟩
  go_wp2_with fail
  go_loopw [15] (fun z W => ∃ (k : Nat) (S' : Sx), z = .int .i64 (k : Int) ∧ k ≤ 4 ∧ Raw W i S' mo p (rmK R key k) b ∧ Went w W (blk i S) (blk i S')) (fun z _ => 4 - (intOf z).toNat)
  case atStart => exact ⟨0, S, rfl, by omega, HH.out.congr (fun k _ => by unfold rmK; rw [if_neg (by omega)]), Went.refl _ _⟩
  case round =>
    obtain ⟨k, S', rfl, hk, hR, hW⟩ := hrel
    have HR := Lib.hid hR
    have HW := Lib.hid hW
    clear hR hW c2 c3 c4 c5
    rcases k with _ | _ | _ | _ | _ | k
    · have V := ls_remove wr (i.r 0) (S' 0) _ b (HR.out.ls 0 (by omega)) key hs
      rw [rmK_at] at V
      have V := Lib.hid V
      have X := idx4_0
      go_wp2_with fail
      refine V.out.mono ?_
      intro e w2 hp
      obtain ⟨rfl, S2, r2, hW2⟩ := HR.out.on (show 0 < 4 by omega) hp (Nat.le_refl _)
      have N2 := Lib.hid (show ∃ S2, Raw w2 i S2 mo p (rmK R key 1) b ∧ Went w w2 (blk i S) (blk i S2) from ⟨S2, r2.congr (fun j _ => rmK_next R key 0 j), HW.out.trans hW2⟩)
      clear hp r2 hW2 V
      go_wp2_with fail
      go_roundw
      case rel =>
        obtain ⟨S2, h1, h2⟩ := N2.out
        exact ⟨1, S2, by go_num, by omega, h1, h2⟩
      case measure => simp [intOf]
    · have V := ls_remove wr (i.r 1) (S' 1) _ b (HR.out.ls 1 (by omega)) key hs
      rw [rmK_at] at V
      have V := Lib.hid V
      have X := idx4_1
      go_wp2_with fail
      refine V.out.mono ?_
      intro e w2 hp
      obtain ⟨rfl, S2, r2, hW2⟩ := HR.out.on (show 1 < 4 by omega) hp (Nat.le_refl _)
      have N2 := Lib.hid (show ∃ S2, Raw w2 i S2 mo p (rmK R key 2) b ∧ Went w w2 (blk i S) (blk i S2) from ⟨S2, r2.congr (fun j _ => rmK_next R key 1 j), HW.out.trans hW2⟩)
      clear hp r2 hW2 V
      go_wp2_with fail
      go_roundw
      case rel =>
        obtain ⟨S2, h1, h2⟩ := N2.out
        exact ⟨2, S2, by go_num, by omega, h1, h2⟩
      case measure => simp [intOf]
    · have V := ls_remove wr (i.r 2) (S' 2) _ b (HR.out.ls 2 (by omega)) key hs
      rw [rmK_at] at V
      have V := Lib.hid V
      have X := idx4_2
      go_wp2_with fail
      refine V.out.mono ?_
      intro e w2 hp
      obtain ⟨rfl, S2, r2, hW2⟩ := HR.out.on (show 2 < 4 by omega) hp (Nat.le_refl _)
      have N2 := Lib.hid (show ∃ S2, Raw w2 i S2 mo p (rmK R key 3) b ∧ Went w w2 (blk i S) (blk i S2) from ⟨S2, r2.congr (fun j _ => rmK_next R key 2 j), HW.out.trans hW2⟩)
      clear hp r2 hW2 V
      go_wp2_with fail
      go_roundw
      case rel =>
        obtain ⟨S2, h1, h2⟩ := N2.out
        exact ⟨3, S2, by go_num, by omega, h1, h2⟩
      case measure => simp [intOf]
    · have V := ls_remove wr (i.r 3) (S' 3) _ b (HR.out.ls 3 (by omega)) key hs
      rw [rmK_at] at V
      have V := Lib.hid V
      have X := idx4_3
      go_wp2_with fail
      refine V.out.mono ?_
      intro e w2 hp
      obtain ⟨rfl, S2, r2, hW2⟩ := HR.out.on (show 3 < 4 by omega) hp (Nat.le_refl _)
      have N2 := Lib.hid (show ∃ S2, Raw w2 i S2 mo p (rmK R key 4) b ∧ Went w w2 (blk i S) (blk i S2) from ⟨S2, r2.congr (fun j _ => rmK_next R key 3 j), HW.out.trans hW2⟩)
      clear hp r2 hW2 V
      go_wp2_with fail
      go_roundw
      case rel =>
        obtain ⟨S2, h1, h2⟩ := N2.out
        exact ⟨4, S2, by go_num, by omega, h1, h2⟩
      case measure => simp [intOf]
    · go_wp2_with fail
      go_ret
      exact ⟨rfl, S', HR.out.congr (fun j hj => by unfold rmK rmR; rw [if_pos (by omega)]), HW.out⟩
    · omega
theorem putW0 (key : ByteArray) (hs : key.size ≤ maxLen) (hb : b ≤ 985) : Calls Try.prog 26 #[.pointer (some ⟨i.c, 0, none⟩), .string key, .int .i64 0] w (RPost (.tuple #[]) w i S mo p (putR R key 0) (b + 1)) := by
  have U := Lib.hid (removeW w i S mo p R b r key hs)
  generalize hit R key = h at U
  clear r
  go_enter Try.func26, Try.ntmps26
  go_wp2_with fail
  refine U.out.mono ?_
  rintro e w1 ⟨rfl, S1, r1, hW1⟩
  have c2 : w1.cell? ⟨i.c, 2, none⟩ = some (.pointer (some ⟨i.r 0, 0, none⟩)) := r1.cells.2.2.1
  have hl := (r1.ls 0 (by omega)).len
  have V := Lib.hid (ls_front_new w1 (i.r 0) (S1 0) _ b (r1.ls 0 (by omega)) key (b + 1) (show key ∉ rem (R 0) key from rem_not) hs (by omega) (by omega) (by omega))
  have R1 := Lib.hid r1
  have W1 := Lib.hid hW1
  clear r1 hW1 hl U
  go_wp2_with fail
  refine V.out.mono ?_
  intro e w2 hp
  have P := Lib.hid (RPost.trans W1.out (R1.out.on (show 0 < 4 by omega) hp (by omega)))
  obtain ⟨rfl, _⟩ := hp
  go_wp2_with fail
  go_end0
  exact P.out
theorem putW1 (key : ByteArray) (hs : key.size ≤ maxLen) (hb : b ≤ 985) : Calls Try.prog 26 #[.pointer (some ⟨i.c, 0, none⟩), .string key, .int .i64 1] w (RPost (.tuple #[]) w i S mo p (putR R key 1) (b + 1)) := by
  have U := Lib.hid (removeW w i S mo p R b r key hs)
  generalize hit R key = h at U
  clear r
  go_enter Try.func26, Try.ntmps26
  go_wp2_with fail
  refine U.out.mono ?_
  rintro e w1 ⟨rfl, S1, r1, hW1⟩
  have c3 : w1.cell? ⟨i.c, 3, none⟩ = some (.pointer (some ⟨i.r 1, 0, none⟩)) := r1.cells.2.2.2.1
  have hl := (r1.ls 1 (by omega)).len
  have V := Lib.hid (ls_front_new w1 (i.r 1) (S1 1) _ b (r1.ls 1 (by omega)) key (b + 1) (show key ∉ rem (R 1) key from rem_not) hs (by omega) (by omega) (by omega))
  have R1 := Lib.hid r1
  have W1 := Lib.hid hW1
  clear r1 hW1 hl U
  go_wp2_with fail
  refine V.out.mono ?_
  intro e w2 hp
  have P := Lib.hid (RPost.trans W1.out (R1.out.on (show 1 < 4 by omega) hp (by omega)))
  obtain ⟨rfl, _⟩ := hp
  go_wp2_with fail
  go_end0
  exact P.out
theorem dropW : Calls Try.prog 14 #[.pointer (some ⟨i.c, 0, none⟩)] w (RPost (.tuple #[.string (lastKey (R (lv R p false))), .bool (anyKey (R (lv R p false)))]) w i S mo p (upd R (lv R p false) (R (lv R p false)).dropLast) b) := by
  have C := Lib.hid (show ∀ w1, Below w.heap.size w w1 → w1.cell? ⟨i.c, 2, none⟩ = some (.pointer (some ⟨i.r 0, 0, none⟩)) ∧ w1.cell? ⟨i.c, 3, none⟩ = some (.pointer (some ⟨i.r 1, 0, none⟩)) from fun w1 h => ⟨(r.below h).cells.2.2.1, (r.below h).cells.2.2.2.1⟩)
  obtain ⟨_, _, c2, c3, _⟩ := r.cells
  have HH := Lib.hid r
  have U := leavingW w.drew i S mo p R b (r.below (below_drewN w 1)) false
  have V := fun (w1 : World) (h : Below w.heap.size w w1) (k : Nat) (hk : k < 4) => ls_pop w1 (i.r k) (S k) (R k) b ((r.below h).ls k hk)
  have BD := Lib.hid (show ∀ w1, Below w.drew.heap.size w.drew w1 → Below w.heap.size w w1 from fun w1 h => (below_drewN w 1).trans h)
  rcases lv_two R p false with hl | hl
  · rw [hl] at U ⊢
    have U := Lib.hid (show Calls Try.prog 34 #[.pointer (some ⟨i.c, 0, none⟩), .bool false] w.drew (Stl (.int .i64 0) w.drew) from U)
    have V := Lib.hid (fun w1 h => V w1 h 0 (by omega))
    clear r hl
    go_enter Try.func14, Try.ntmps14
    go_wp2_with fail
    go_region_held3 (fun w' => w'.cell? ⟨i.c, 2, none⟩ = some (.pointer (some ⟨i.r 0, 0, none⟩)) ∧ w'.cell? ⟨i.c, 3, none⟩ = some (.pointer (some ⟨i.r 1, 0, none⟩))) (first | (with_reducible exact ⟨z2, z3⟩) | (with_reducible exact ⟨y2, y3⟩) | (with_reducible exact ⟨c2, c3⟩) | go_keep)
      (first
        | (go_at_call 34; refine U.out.mono ?_; rintro e w1 ⟨rfl, hB1⟩; obtain ⟨y2, y3⟩ := C.out w1 (BD.out w1 hB1); have B1 := Lib.hid (BD.out w1 hB1); clear hB1 U)
        | (go_at_call 35; refine (V.out w1 B1.out).mono ?_; intro e w2 hp; have P := Lib.hid (RPost.trans (Went.below B1.out) ((HH.out.below B1.out).on (show 0 < 4 by omega) hp (Nat.le_refl _))); obtain ⟨rfl, S2, r2, _⟩ := P.out; obtain ⟨_, _, z2, z3, _⟩ := r2.cells; clear hp r2 V))
    go_wp2_with fail
    go_ret2
    exact P.out
  · rw [hl] at U ⊢
    have U := Lib.hid (show Calls Try.prog 34 #[.pointer (some ⟨i.c, 0, none⟩), .bool false] w.drew (Stl (.int .i64 1) w.drew) from U)
    have V := Lib.hid (fun w1 h => V w1 h 1 (by omega))
    clear r hl
    go_enter Try.func14, Try.ntmps14
    go_wp2_with fail
    go_region_held3 (fun w' => w'.cell? ⟨i.c, 2, none⟩ = some (.pointer (some ⟨i.r 0, 0, none⟩)) ∧ w'.cell? ⟨i.c, 3, none⟩ = some (.pointer (some ⟨i.r 1, 0, none⟩))) (first | (with_reducible exact ⟨z2, z3⟩) | (with_reducible exact ⟨y2, y3⟩) | (with_reducible exact ⟨c2, c3⟩) | go_keep)
      (first
        | (go_at_call 34; refine U.out.mono ?_; rintro e w1 ⟨rfl, hB1⟩; obtain ⟨y2, y3⟩ := C.out w1 (BD.out w1 hB1); have B1 := Lib.hid (BD.out w1 hB1); clear hB1 U)
        | (go_at_call 35; refine (V.out w1 B1.out).mono ?_; intro e w2 hp; have P := Lib.hid (RPost.trans (Went.below B1.out) ((HH.out.below B1.out).on (show 1 < 4 by omega) hp (Nat.le_refl _))); obtain ⟨rfl, S2, r2, _⟩ := P.out; obtain ⟨_, _, z2, z3, _⟩ := r2.cells; clear hp r2 V))
    go_wp2_with fail
    go_ret2
    exact P.out
set_option maxHeartbeats 1000000 in
theorem raiseW (h2 : 0 < (R 2).length) (hp : p ≤ mo) : Calls Try.prog 28 #[.pointer (some ⟨i.c, 0, none⟩)] w (RPost (.tuple #[]) w i S mo (rpU mo p R) R b) := by
  have hb1 := (Below.refl w.heap.size w).alloc (Nat.le_refl _) (.cells #[.int .i64 3] 3)
  have hb2 := hb1.alloc hb1.size (.cells #[.int .i64 2] 3)
  have U := count_one w i S mo p R b r 3 (by omega)
  have V := count_one (w.alloc (.cells #[.int .i64 3] 3)) i S mo p R b (r.below hb1) 2 (by omega)
  have hl := (r.ls 3 (by omega)).len
  have ht := r.top
  have HR := Lib.hid (r.below hb2)
  have HB := Lib.hid hb2
  unfold rpU
  generalize (R 3).length = n at *
  generalize (R 2).length = m at *
  obtain ⟨u, hu⟩ : ∃ u, u = n / m := ⟨_, rfl⟩
  have hun : u ≤ n := by rw [hu]; exact Nat.div_le_self _ _
  have e1 : (n : Int).tdiv (m : Int) = (u : Int) := by rw [hu, Int.tdiv_eq_ediv_of_nonneg (by omega)]; rfl
  have e2 : IntKind.i64.wrap (u : Int) = (u : Int) := IntWalk.i64_in _ (by omega)
  obtain ⟨q, hq⟩ : ∃ q, q = max u 1 := ⟨_, rfl⟩
  have e3 : (if (u : Int) < 1 then (1 : Int) else (u : Int)) = (q : Int) := by rw [hq]; split <;> omega
  have e4 : max (u : Int) 1 = (q : Int) := by omega
  have e5 : (m == 0) = false := by simp; omega
  have e6 : ((m : Int) == 0) = false := by simp; omega
  have e7 : (m : Int) ≠ 0 := by omega
  have e8 : m ≠ 0 := by omega
  obtain ⟨d, hd⟩ : ∃ d, d = mo - p := ⟨_, rfl⟩
  have f1 : IntKind.i64.wrap ((mo : Int) - (p : Int)) = (d : Int) := by rw [IntWalk.i64_in _ (by omega)]; omega
  obtain ⟨x, hx⟩ : ∃ x, x = min q d := ⟨_, rfl⟩
  have f2 : (if d < q then (d : Int) else (q : Int)) = (x : Int) := by rw [hx]; split <;> omega
  have f3 : min (q : Int) (d : Int) = (x : Int) := by omega
  have f4 : IntKind.i64.wrap ((p : Int) + (x : Int)) = ((p + x : Nat) : Int) := by rw [IntWalk.i64_in _ (by omega)]; omega
  have HT := Lib.hid (show p + x ≤ 9223372036854775807 by omega)
  rw [← hu, ← hq, ← hd, ← hx]
  have U := Lib.hid (show Calls Try.prog 39 #[.pointer (some ⟨i.c, 0, none⟩), .slice (some ⟨w.heap.size, 0, none⟩) 1 1] (w.alloc (.cells #[.int .i64 3] 3)) (IntPost (n : Int) (w.alloc (.cells #[.int .i64 3] 3))) from U)
  have V := Lib.hid (show Calls Try.prog 39 #[.pointer (some ⟨i.c, 0, none⟩), .slice (some ⟨(w.alloc (.cells #[.int .i64 3] 3)).heap.size, 0, none⟩) 1 1] ((w.alloc (.cells #[.int .i64 3] 3)).alloc (.cells #[.int .i64 2] 3)) (IntPost (m : Int) ((w.alloc (.cells #[.int .i64 3] 3)).alloc (.cells #[.int .i64 2] 3))) from V)
  rw [show (w.alloc (.cells #[.int .i64 3] 3)).heap.size = w.heap.size + 1 by simp] at V
  clear r hb1 hb2 hu hq hun h2 hl hd hx hp ht
  go_enter Try.func28, Try.ntmps28
  go_wp2_with fail
  refine U.out.mono ?_
  rintro e w1 ⟨rfl, rfl⟩
  go_wp2_with fail
  refine V.out.mono ?_
  rintro e w1 ⟨rfl, rfl⟩
  go_wp2_with fail
  generalize (w.alloc (.cells #[.int .i64 3] 3)).alloc (.cells #[.int .i64 2] 3) = w2 at HR HB ⊢
  obtain ⟨c0, c1, _⟩ := HR.out.cells
  obtain ⟨_, f1⟩ := HR.out.froz
  clear e1 e2 e3 e4 e5 e6 e7 e8 U V
  go_region
  go_wp2_with fail
  go_end0
  exact ⟨rfl, S, (HR.out.below (below_drewN w2 1)).setP _ HT.out |>.1, (Went.below (HB.out.trans ((below_drewN w2 1).mono HB.out.size))).trans (Went.same ((HR.out.below (below_drewN w2 1)).setP _ HT.out).2)⟩
set_option maxHeartbeats 1000000 in
theorem lowerW (h2 : 0 < (R 3).length) (hp : p ≤ mo) : Calls Try.prog 30 #[.pointer (some ⟨i.c, 0, none⟩)] w (RPost (.tuple #[]) w i S mo (lpU p R) R b) := by
  have hb1 := (Below.refl w.heap.size w).alloc (Nat.le_refl _) (.cells #[.int .i64 2] 3)
  have hb2 := hb1.alloc hb1.size (.cells #[.int .i64 3] 3)
  have U := count_one w i S mo p R b r 2 (by omega)
  have V := count_one (w.alloc (.cells #[.int .i64 2] 3)) i S mo p R b (r.below hb1) 3 (by omega)
  have hl := (r.ls 2 (by omega)).len
  have ht := r.top
  have HR := Lib.hid (r.below hb2)
  have HB := Lib.hid hb2
  unfold lpU
  generalize (R 2).length = n at *
  generalize (R 3).length = m at *
  obtain ⟨u, hu⟩ : ∃ u, u = n / m := ⟨_, rfl⟩
  have hun : u ≤ n := by rw [hu]; exact Nat.div_le_self _ _
  have e1 : (n : Int).tdiv (m : Int) = (u : Int) := by rw [hu, Int.tdiv_eq_ediv_of_nonneg (by omega)]; rfl
  have e2 : IntKind.i64.wrap (u : Int) = (u : Int) := IntWalk.i64_in _ (by omega)
  obtain ⟨q, hq⟩ : ∃ q, q = max u 1 := ⟨_, rfl⟩
  have e3 : (if (u : Int) < 1 then (1 : Int) else (u : Int)) = (q : Int) := by rw [hq]; split <;> omega
  have e4 : max (u : Int) 1 = (q : Int) := by omega
  have e5 : (m == 0) = false := by simp; omega
  have e6 : ((m : Int) == 0) = false := by simp; omega
  have e7 : (m : Int) ≠ 0 := by omega
  have e8 : m ≠ 0 := by omega
  obtain ⟨x, hx⟩ : ∃ x, x = min q p := ⟨_, rfl⟩
  have f2 : (if p < q then (p : Int) else (q : Int)) = (x : Int) := by rw [hx]; split <;> omega
  have f3 : min (q : Int) (p : Int) = (x : Int) := by omega
  have f4 : IntKind.i64.wrap ((p : Int) - (x : Int)) = ((p - x : Nat) : Int) := by rw [IntWalk.i64_in _ (by omega)]; omega
  have HT := Lib.hid (show p - x ≤ 9223372036854775807 by omega)
  rw [← hu, ← hq, ← hx]
  have U := Lib.hid (show Calls Try.prog 39 #[.pointer (some ⟨i.c, 0, none⟩), .slice (some ⟨w.heap.size, 0, none⟩) 1 1] (w.alloc (.cells #[.int .i64 2] 3)) (IntPost (n : Int) (w.alloc (.cells #[.int .i64 2] 3))) from U)
  have V := Lib.hid (show Calls Try.prog 39 #[.pointer (some ⟨i.c, 0, none⟩), .slice (some ⟨(w.alloc (.cells #[.int .i64 2] 3)).heap.size, 0, none⟩) 1 1] ((w.alloc (.cells #[.int .i64 2] 3)).alloc (.cells #[.int .i64 3] 3)) (IntPost (m : Int) ((w.alloc (.cells #[.int .i64 2] 3)).alloc (.cells #[.int .i64 3] 3))) from V)
  rw [show (w.alloc (.cells #[.int .i64 2] 3)).heap.size = w.heap.size + 1 by simp] at V
  clear r hb1 hb2 hu hq hun h2 hl hx hp ht
  go_enter Try.func30, Try.ntmps30
  go_wp2_with fail
  refine U.out.mono ?_
  rintro e w1 ⟨rfl, rfl⟩
  go_wp2_with fail
  refine V.out.mono ?_
  rintro e w1 ⟨rfl, rfl⟩
  go_wp2_with fail
  generalize (w.alloc (.cells #[.int .i64 2] 3)).alloc (.cells #[.int .i64 3] 3) = w2 at HR HB ⊢
  obtain ⟨c0, c1, _⟩ := HR.out.cells
  obtain ⟨_, f1⟩ := HR.out.froz
  clear e1 e2 e3 e4 e5 e6 e7 e8 U V
  go_region
  go_wp2_with fail
  go_end0
  exact ⟨rfl, S, (HR.out.below (below_drewN w2 1)).setP _ HT.out |>.1, (Went.below (HB.out.trans ((below_drewN w2 1).mono HB.out.size))).trans (Went.same ((HR.out.below (below_drewN w2 1)).setP _ HT.out).2)⟩
end
end Go.Proofs.Ytlmbeiijijkjeaa
