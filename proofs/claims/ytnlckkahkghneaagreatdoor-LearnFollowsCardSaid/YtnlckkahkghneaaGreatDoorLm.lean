/- New of package learn. -/
import Derived.Test.YtnlckkahkghneaaGreatDoorLl
set_option maxRecDepth 20000
namespace Go.Proofs.YtnlckkahkghneaaGreatDoor.LE
open Go.RowKit Go.Maps Go.WideMaps Sg

set_option maxHeartbeats 4000000 in
theorem new_five (w : World) (mo B E : Nat) (L : List (List Nat)) (lane : Int) (hm : mo ≤ 16777216) (hT : DR.Tape w B E L) : Calls Tryz.prog 13 #[.int .i64 5, .int .i64 (mo : Int), .pointer (some ⟨B + 1, 0, none⟩), .int .i64 lane] w (NewT false mo B E L lane w) := by
  have X := Lib.hid (experts_five w)
  have IR := Lib.hid (fun w1 => show Calls Tryz.prog 45 #[.int .i64 (mo : Int)] w1 (fun e w' => e = .returned (.bool true) ∧ w1 = w') from by
    have := isRoom_l w1 (mo : Int)
    rw [decide_eq_true (by omega), decide_eq_true (by omega)] at this
    exact this)
  have NP := Lib.hid newPace_l
  have h2 := @run_makeMap Tryz.prog
  have X0 := idx2i_0
  have X1 := idx2i_1
  have FIN := Lib.hid (fun (W : World) (l m p q r t : Nat) (S : Sx) (f : Fill w W l m 5 mo rate0 B lane (aOf (some p) (some q) (some r) (some t)) S (pts (KSt.start 0 mo) (KSt.start 1 mo) [] [] (fun _ => none))) => Fill.done (six := false) hm hT f)
  clear hT
  go_enter Tryz.func13, Tryz.ntmps13
  go_wp2_with fail
  refine X.out.mono ?_
  rintro e w1 ⟨rfl, hB1⟩
  have B1 := Lib.hid hB1
  clear hB1 X
  go_upto_region 4 with fail
  have hx0 := heap_alloc_new w1 (.cells #[.int .i64 0, .int .i64 1] 92)
  have B2 := Lib.hid (B1.out.alloc B1.out.size (.cells #[.int .i64 0, .int .i64 1] 92))
  generalize w1.heap.size = x at hx0 ⊢
  generalize w1.alloc (.cells #[.int .i64 0, .int .i64 1] 92) = w2 at hx0 B2 ⊢
  go_wp2_with fail
  refine (IR.out _).mono ?_
  rintro e w2' ⟨rfl, rfl⟩
  go_wp2_with fail
  refine (NP.out _).mono ?_
  rintro e w4 ⟨rfl, hB4⟩
  have hm3 : Mp (w2.alloc (.map #[] 0)) w2.heap.size (fun _ => none) 0 := Mp.made w2
  have M4 := Lib.hid (hm3.same (hB4.block _ hm3.lt))
  have B4 := Lib.hid ((B2.out.alloc B2.out.size (.map #[] 0)).trans (hB4.mono (B2.out.alloc B2.out.size (.map #[] 0)).size))
  have LW := Lib.hid (show w.heap.size ≤ w2.heap.size ∧ w2.heap.size < w4.heap.size from ⟨B2.out.size, M4.out.lt⟩)
  have hx4 : w4.heap[x]? = some (.cells #[.int .i64 0, .int .i64 1] 92 (0, 0)) := by
    have h1 := heap_lt hx0
    have h3 : (w2.alloc (.map #[] 0)).heap[x]? = w2.heap[x]? := Below.heap_alloc _ _ _ h1
    have h4 : x < (w2.alloc (.map #[] 0)).heap.size := by simp; omega
    exact (hB4.block x h4).trans (h3.trans hx0)
  clear hx0 hm3 hB4 B2 NP IR
  generalize w2.heap.size = m at *
  go_upto_region 7 with fail
  have F0 := Lib.hid (show Fill w (w4.alloc (.cells #[.int .i64 5, .int .i64 (mo : Int), .pointer none, .pointer none, .pointer none, .pointer none, .map (some m), .int .i64 0, .int .u64 2305843009213693952, .int .u64 (rate0 : Int), .int .i64 0, .int .i64 0, .int .i64 0, .bool false, .bool false, .int .i64 0, .pointer (some ⟨B + 1, 0, none⟩), .int .i64 lane] 108)) w4.heap.size m 5 mo rate0 B lane (aOf none none none none) (fun _ _ => False) (pts (KSt.start 0 mo) (KSt.start 1 mo) [] [] (fun _ => none)) from
    ⟨heap_alloc_new w4 (.cells (nc 5 mo rate0 m B lane (aOf none none none none)) 108), M4.out.same (Below.heap_alloc _ _ _ M4.out.lt), fun k hk y hy => by rcases k with _ | _ | _ | _ | k <;> first | cases hy | omega, fun _ _ _ h => h.elim, fun _ _ _ _ _ _ h => h.elim, LW.out.2, LW.out.1, B4.out.alloc B4.out.size _⟩)
  have hx5 := (Below.heap_alloc w4 (.cells #[.int .i64 5, .int .i64 (mo : Int), .pointer none, .pointer none, .pointer none, .pointer none, .map (some m), .int .i64 0, .int .u64 2305843009213693952, .int .u64 (rate0 : Int), .int .i64 0, .int .i64 0, .int .i64 0, .bool false, .bool false, .int .i64 0, .pointer (some ⟨B + 1, 0, none⟩), .int .i64 lane] 108) x (heap_lt hx4)).trans hx4
  clear hx4 M4 B4 LW
  generalize w4.heap.size = l at F0 ⊢
  generalize w4.alloc (.cells #[.int .i64 5, .int .i64 (mo : Int), .pointer none, .pointer none, .pointer none, .pointer none, .map (some m), .int .i64 0, .int .u64 2305843009213693952, .int .u64 (rate0 : Int), .int .i64 0, .int .i64 0, .int .i64 0, .bool false, .bool false, .int .i64 0, .pointer (some ⟨B + 1, 0, none⟩), .int .i64 lane] 108) = w5 at F0 hx5 ⊢
  have k0 := cell_of_row w5 _ 0 _ _ _ hx5
  have k1 := cell_of_row w5 _ 1 _ _ _ hx5
  have PA := Lib.hid (fun w1 => new_p w1 0 (by omega) mo hm)
  have PB := Lib.hid (fun w1 => new_p w1 1 (by omega) mo hm)
  have LN := Lib.hid ls_new
  clear hx5
  go_wp2_with fail
  go_loopw [42] (fun z W => (z = .int .i64 0 ∧ W = w5) ∨ (z = .int .i64 1 ∧ ∃ p r S, Fill w W l m 5 mo rate0 B lane (aOf (some p) none (some r) none) S (pts (KSt.start 0 mo) (KSt.start 1 mo) [] [] (fun _ => none))) ∨ (z = .int .i64 2 ∧ ∃ p q r t S, Fill w W l m 5 mo rate0 B lane (aOf (some p) (some q) (some r) (some t)) S (pts (KSt.start 0 mo) (KSt.start 1 mo) [] [] (fun _ => none)))) (fun z _ => 2 - (intOf z).toNat)
  case atStart => exact Or.inl ⟨rfl, rfl⟩
  case round =>
    clear k0 k1
    rcases hrel with ⟨rfl, rfl⟩ | ⟨rfl, p, r, S, hF⟩ | ⟨rfl, p, q, r, t, S, hF⟩
    · have D := Lib.hid (F0.out.below ((Below.refl wr.heap.size wr).drew))
      go_wp2_with fail
      go_region_with ((go_at_call 47; refine (PA.out _).mono ?_; rintro e w6 ⟨p0, U, rfl, hC, hU, hB⟩; have g := D.out.below hB; have c2 : w6.cell? ⟨l, 2, none⟩ = some (.pointer none) := cell_of_row w6 l 2 _ _ _ g.box; have f2 : w6.frozen? ⟨l, 2, none⟩ = false := frozen_of_row w6 l 2 _ _ g.box; have G := Lib.hid ((D.out.add (k := 0) (by omega) (x := p0) (T := U) (w2 := w6) hC hU hB).congr (a' := aOf (some p0) none none none) (by intro k hk; rcases k with _ | _ | _ | _ | k <;> first | rfl | omega)); clear g hC hU hB D))
      have D := Lib.hid ((show Fill w (w6.setCell ⟨l, 2, none⟩ (.pointer (some ⟨p0, 0, none⟩))) l m 5 mo rate0 B lane _ _ _ from G.out).below ((Below.refl (w6.setCell ⟨l, 2, none⟩ (.pointer (some ⟨p0, 0, none⟩))).heap.size (w6.setCell ⟨l, 2, none⟩ (.pointer (some ⟨p0, 0, none⟩)))).drew))
      clear c2 f2 G
      generalize w6.setCell ⟨l, 2, none⟩ (.pointer (some ⟨p0, 0, none⟩)) = w7 at D ⊢
      go_wp2_with fail
      go_region_with ((go_at_call 48; refine (LN.out _).mono ?_; rintro e w8 ⟨r0, T, rfl, hT, hL, hB⟩; have g := D.out.below hB; have c2 : w8.cell? ⟨l, 4, none⟩ = some (.pointer none) := cell_of_row w8 l 4 _ _ _ g.box; have f2 : w8.frozen? ⟨l, 4, none⟩ = false := frozen_of_row w8 l 4 _ _ g.box; have G := Lib.hid ((D.out.add (k := 2) (by omega) (x := r0) (T := T) (w2 := w8) hL hT hB).congr (a' := aOf (some p0) none (some r0) none) (by intro k hk; rcases k with _ | _ | _ | _ | k <;> first | rfl | omega)); clear g hT hL hB D))
      have D := Lib.hid (show Fill w (w8.setCell ⟨l, 4, none⟩ (.pointer (some ⟨r0, 0, none⟩))) l m 5 mo rate0 B lane _ _ _ from G.out)
      clear c2 f2 G
      generalize w8.setCell ⟨l, 4, none⟩ (.pointer (some ⟨r0, 0, none⟩)) = w9 at D ⊢
      go_wp2_with fail
      go_roundw
      case rel => exact Or.inr (Or.inl ⟨by go_num, p0, r0, _, D.out⟩)
      case measure => simp [intOf]
    · have D := Lib.hid (hF.below ((Below.refl wr.heap.size wr).drew))
      clear hF
      go_wp2_with fail
      go_region_with ((go_at_call 47; refine (PB.out _).mono ?_; rintro e w6 ⟨p1, U, rfl, hC, hU, hB⟩; have g := D.out.below hB; have c2 : w6.cell? ⟨l, 3, none⟩ = some (.pointer none) := cell_of_row w6 l 3 _ _ _ g.box; have f2 : w6.frozen? ⟨l, 3, none⟩ = false := frozen_of_row w6 l 3 _ _ g.box; have G := Lib.hid ((D.out.add (k := 1) (by omega) (x := p1) (T := U) (w2 := w6) hC hU hB).congr (a' := aOf (some p) (some p1) (some r) none) (by intro k hk; rcases k with _ | _ | _ | _ | k <;> first | rfl | omega)); clear g hC hU hB D))
      have D := Lib.hid ((show Fill w (w6.setCell ⟨l, 3, none⟩ (.pointer (some ⟨p1, 0, none⟩))) l m 5 mo rate0 B lane _ _ _ from G.out).below ((Below.refl (w6.setCell ⟨l, 3, none⟩ (.pointer (some ⟨p1, 0, none⟩))).heap.size (w6.setCell ⟨l, 3, none⟩ (.pointer (some ⟨p1, 0, none⟩)))).drew))
      clear c2 f2 G
      generalize w6.setCell ⟨l, 3, none⟩ (.pointer (some ⟨p1, 0, none⟩)) = w7 at D ⊢
      go_wp2_with fail
      go_region_with ((go_at_call 48; refine (LN.out _).mono ?_; rintro e w8 ⟨r1, T, rfl, hT, hL, hB⟩; have g := D.out.below hB; have c2 : w8.cell? ⟨l, 5, none⟩ = some (.pointer none) := cell_of_row w8 l 5 _ _ _ g.box; have f2 : w8.frozen? ⟨l, 5, none⟩ = false := frozen_of_row w8 l 5 _ _ g.box; have G := Lib.hid ((D.out.add (k := 3) (by omega) (x := r1) (T := T) (w2 := w8) hL hT hB).congr (a' := aOf (some p) (some p1) (some r) (some r1)) (by intro k hk; rcases k with _ | _ | _ | _ | k <;> first | rfl | omega)); clear g hT hL hB D))
      have D := Lib.hid (show Fill w (w8.setCell ⟨l, 5, none⟩ (.pointer (some ⟨r1, 0, none⟩))) l m 5 mo rate0 B lane _ _ _ from G.out)
      clear c2 f2 G
      generalize w8.setCell ⟨l, 5, none⟩ (.pointer (some ⟨r1, 0, none⟩)) = w9 at D ⊢
      go_wp2_with fail
      go_roundw
      case rel => exact Or.inr (Or.inr ⟨by go_num, p, p1, r, r1, _, D.out⟩)
      case measure => simp [intOf]
    · have FF := Lib.hid (FIN.out wr l m p q r t S hF)
      clear hF FIN
      go_wp2_with fail
      go_ret2
      exact FF.out
set_option maxHeartbeats 4000000 in
theorem new_six (w : World) (mo B E : Nat) (L : List (List Nat)) (lane : Int) (hm : mo ≤ 16777216) (hT : DR.Tape w B E L) : Calls Tryz.prog 13 #[.int .i64 6, .int .i64 (mo : Int), .pointer (some ⟨B + 1, 0, none⟩), .int .i64 lane] w (NewT true mo B E L lane w) := by
  have X := Lib.hid (experts_six w)
  have IR := Lib.hid (fun w1 => show Calls Tryz.prog 45 #[.int .i64 (mo : Int)] w1 (fun e w' => e = .returned (.bool true) ∧ w1 = w') from by
    have := isRoom_l w1 (mo : Int)
    rw [decide_eq_true (by omega), decide_eq_true (by omega)] at this
    exact this)
  have NP := Lib.hid newPace_l
  have h2 := @run_makeMap Tryz.prog
  have X0 := idx2i_0
  have X1 := idx2i_1
  have FIN := Lib.hid (fun (W : World) (l m p q r t : Nat) (S : Sx) (f : Fill w W l m 6 mo rate0 B lane (aOf (some p) (some q) (some r) (some t)) S (pts (KSt.start 3 mo) (KSt.start 2 mo) [] [] (fun _ => none))) => Fill.done (six := true) hm hT f)
  clear hT
  go_enter Tryz.func13, Tryz.ntmps13
  go_wp2_with fail
  refine X.out.mono ?_
  rintro e w1 ⟨rfl, hB1⟩
  have B1 := Lib.hid hB1
  clear hB1 X
  go_upto_region 4 with fail
  have hx0 := heap_alloc_new w1 (.cells #[.int .i64 3, .int .i64 2] 92)
  have B2 := Lib.hid (B1.out.alloc B1.out.size (.cells #[.int .i64 3, .int .i64 2] 92))
  generalize w1.heap.size = x at hx0 ⊢
  generalize w1.alloc (.cells #[.int .i64 3, .int .i64 2] 92) = w2 at hx0 B2 ⊢
  go_wp2_with fail
  refine (IR.out _).mono ?_
  rintro e w2' ⟨rfl, rfl⟩
  go_wp2_with fail
  refine (NP.out _).mono ?_
  rintro e w4 ⟨rfl, hB4⟩
  have hm3 : Mp (w2.alloc (.map #[] 0)) w2.heap.size (fun _ => none) 0 := Mp.made w2
  have M4 := Lib.hid (hm3.same (hB4.block _ hm3.lt))
  have B4 := Lib.hid ((B2.out.alloc B2.out.size (.map #[] 0)).trans (hB4.mono (B2.out.alloc B2.out.size (.map #[] 0)).size))
  have LW := Lib.hid (show w.heap.size ≤ w2.heap.size ∧ w2.heap.size < w4.heap.size from ⟨B2.out.size, M4.out.lt⟩)
  have hx4 : w4.heap[x]? = some (.cells #[.int .i64 3, .int .i64 2] 92 (0, 0)) := by
    have h1 := heap_lt hx0
    have h3 : (w2.alloc (.map #[] 0)).heap[x]? = w2.heap[x]? := Below.heap_alloc _ _ _ h1
    have h4 : x < (w2.alloc (.map #[] 0)).heap.size := by simp; omega
    exact (hB4.block x h4).trans (h3.trans hx0)
  clear hx0 hm3 hB4 B2 NP IR
  generalize w2.heap.size = m at *
  go_upto_region 7 with fail
  have F0 := Lib.hid (show Fill w (w4.alloc (.cells #[.int .i64 6, .int .i64 (mo : Int), .pointer none, .pointer none, .pointer none, .pointer none, .map (some m), .int .i64 0, .int .u64 2305843009213693952, .int .u64 (rate0 : Int), .int .i64 0, .int .i64 0, .int .i64 0, .bool false, .bool false, .int .i64 0, .pointer (some ⟨B + 1, 0, none⟩), .int .i64 lane] 108)) w4.heap.size m 6 mo rate0 B lane (aOf none none none none) (fun _ _ => False) (pts (KSt.start 3 mo) (KSt.start 2 mo) [] [] (fun _ => none)) from
    ⟨heap_alloc_new w4 (.cells (nc 6 mo rate0 m B lane (aOf none none none none)) 108), M4.out.same (Below.heap_alloc _ _ _ M4.out.lt), fun k hk y hy => by rcases k with _ | _ | _ | _ | k <;> first | cases hy | omega, fun _ _ _ h => h.elim, fun _ _ _ _ _ _ h => h.elim, LW.out.2, LW.out.1, B4.out.alloc B4.out.size _⟩)
  have hx5 := (Below.heap_alloc w4 (.cells #[.int .i64 6, .int .i64 (mo : Int), .pointer none, .pointer none, .pointer none, .pointer none, .map (some m), .int .i64 0, .int .u64 2305843009213693952, .int .u64 (rate0 : Int), .int .i64 0, .int .i64 0, .int .i64 0, .bool false, .bool false, .int .i64 0, .pointer (some ⟨B + 1, 0, none⟩), .int .i64 lane] 108) x (heap_lt hx4)).trans hx4
  clear hx4 M4 B4 LW
  generalize w4.heap.size = l at F0 ⊢
  generalize w4.alloc (.cells #[.int .i64 6, .int .i64 (mo : Int), .pointer none, .pointer none, .pointer none, .pointer none, .map (some m), .int .i64 0, .int .u64 2305843009213693952, .int .u64 (rate0 : Int), .int .i64 0, .int .i64 0, .int .i64 0, .bool false, .bool false, .int .i64 0, .pointer (some ⟨B + 1, 0, none⟩), .int .i64 lane] 108) = w5 at F0 hx5 ⊢
  have k0 := cell_of_row w5 _ 0 _ _ _ hx5
  have k1 := cell_of_row w5 _ 1 _ _ _ hx5
  have PA := Lib.hid (fun w1 => new_p w1 3 (by omega) mo hm)
  have PB := Lib.hid (fun w1 => new_p w1 2 (by omega) mo hm)
  have LN := Lib.hid ls_new
  clear hx5
  go_wp2_with fail
  go_loopw [42] (fun z W => (z = .int .i64 0 ∧ W = w5) ∨ (z = .int .i64 1 ∧ ∃ p r S, Fill w W l m 6 mo rate0 B lane (aOf (some p) none (some r) none) S (pts (KSt.start 3 mo) (KSt.start 2 mo) [] [] (fun _ => none))) ∨ (z = .int .i64 2 ∧ ∃ p q r t S, Fill w W l m 6 mo rate0 B lane (aOf (some p) (some q) (some r) (some t)) S (pts (KSt.start 3 mo) (KSt.start 2 mo) [] [] (fun _ => none)))) (fun z _ => 2 - (intOf z).toNat)
  case atStart => exact Or.inl ⟨rfl, rfl⟩
  case round =>
    clear k0 k1
    rcases hrel with ⟨rfl, rfl⟩ | ⟨rfl, p, r, S, hF⟩ | ⟨rfl, p, q, r, t, S, hF⟩
    · have D := Lib.hid (F0.out.below ((Below.refl wr.heap.size wr).drew))
      go_wp2_with fail
      go_region_with ((go_at_call 47; refine (PA.out _).mono ?_; rintro e w6 ⟨p0, U, rfl, hC, hU, hB⟩; have g := D.out.below hB; have c2 : w6.cell? ⟨l, 2, none⟩ = some (.pointer none) := cell_of_row w6 l 2 _ _ _ g.box; have f2 : w6.frozen? ⟨l, 2, none⟩ = false := frozen_of_row w6 l 2 _ _ g.box; have G := Lib.hid ((D.out.add (k := 0) (by omega) (x := p0) (T := U) (w2 := w6) hC hU hB).congr (a' := aOf (some p0) none none none) (by intro k hk; rcases k with _ | _ | _ | _ | k <;> first | rfl | omega)); clear g hC hU hB D))
      have D := Lib.hid ((show Fill w (w6.setCell ⟨l, 2, none⟩ (.pointer (some ⟨p0, 0, none⟩))) l m 6 mo rate0 B lane _ _ _ from G.out).below ((Below.refl (w6.setCell ⟨l, 2, none⟩ (.pointer (some ⟨p0, 0, none⟩))).heap.size (w6.setCell ⟨l, 2, none⟩ (.pointer (some ⟨p0, 0, none⟩)))).drew))
      clear c2 f2 G
      generalize w6.setCell ⟨l, 2, none⟩ (.pointer (some ⟨p0, 0, none⟩)) = w7 at D ⊢
      go_wp2_with fail
      go_region_with ((go_at_call 48; refine (LN.out _).mono ?_; rintro e w8 ⟨r0, T, rfl, hT, hL, hB⟩; have g := D.out.below hB; have c2 : w8.cell? ⟨l, 4, none⟩ = some (.pointer none) := cell_of_row w8 l 4 _ _ _ g.box; have f2 : w8.frozen? ⟨l, 4, none⟩ = false := frozen_of_row w8 l 4 _ _ g.box; have G := Lib.hid ((D.out.add (k := 2) (by omega) (x := r0) (T := T) (w2 := w8) hL hT hB).congr (a' := aOf (some p0) none (some r0) none) (by intro k hk; rcases k with _ | _ | _ | _ | k <;> first | rfl | omega)); clear g hT hL hB D))
      have D := Lib.hid (show Fill w (w8.setCell ⟨l, 4, none⟩ (.pointer (some ⟨r0, 0, none⟩))) l m 6 mo rate0 B lane _ _ _ from G.out)
      clear c2 f2 G
      generalize w8.setCell ⟨l, 4, none⟩ (.pointer (some ⟨r0, 0, none⟩)) = w9 at D ⊢
      go_wp2_with fail
      go_roundw
      case rel => exact Or.inr (Or.inl ⟨by go_num, p0, r0, _, D.out⟩)
      case measure => simp [intOf]
    · have D := Lib.hid (hF.below ((Below.refl wr.heap.size wr).drew))
      clear hF
      go_wp2_with fail
      go_region_with ((go_at_call 47; refine (PB.out _).mono ?_; rintro e w6 ⟨p1, U, rfl, hC, hU, hB⟩; have g := D.out.below hB; have c2 : w6.cell? ⟨l, 3, none⟩ = some (.pointer none) := cell_of_row w6 l 3 _ _ _ g.box; have f2 : w6.frozen? ⟨l, 3, none⟩ = false := frozen_of_row w6 l 3 _ _ g.box; have G := Lib.hid ((D.out.add (k := 1) (by omega) (x := p1) (T := U) (w2 := w6) hC hU hB).congr (a' := aOf (some p) (some p1) (some r) none) (by intro k hk; rcases k with _ | _ | _ | _ | k <;> first | rfl | omega)); clear g hC hU hB D))
      have D := Lib.hid ((show Fill w (w6.setCell ⟨l, 3, none⟩ (.pointer (some ⟨p1, 0, none⟩))) l m 6 mo rate0 B lane _ _ _ from G.out).below ((Below.refl (w6.setCell ⟨l, 3, none⟩ (.pointer (some ⟨p1, 0, none⟩))).heap.size (w6.setCell ⟨l, 3, none⟩ (.pointer (some ⟨p1, 0, none⟩)))).drew))
      clear c2 f2 G
      generalize w6.setCell ⟨l, 3, none⟩ (.pointer (some ⟨p1, 0, none⟩)) = w7 at D ⊢
      go_wp2_with fail
      go_region_with ((go_at_call 48; refine (LN.out _).mono ?_; rintro e w8 ⟨r1, T, rfl, hT, hL, hB⟩; have g := D.out.below hB; have c2 : w8.cell? ⟨l, 5, none⟩ = some (.pointer none) := cell_of_row w8 l 5 _ _ _ g.box; have f2 : w8.frozen? ⟨l, 5, none⟩ = false := frozen_of_row w8 l 5 _ _ g.box; have G := Lib.hid ((D.out.add (k := 3) (by omega) (x := r1) (T := T) (w2 := w8) hL hT hB).congr (a' := aOf (some p) (some p1) (some r) (some r1)) (by intro k hk; rcases k with _ | _ | _ | _ | k <;> first | rfl | omega)); clear g hT hL hB D))
      have D := Lib.hid (show Fill w (w8.setCell ⟨l, 5, none⟩ (.pointer (some ⟨r1, 0, none⟩))) l m 6 mo rate0 B lane _ _ _ from G.out)
      clear c2 f2 G
      generalize w8.setCell ⟨l, 5, none⟩ (.pointer (some ⟨r1, 0, none⟩)) = w9 at D ⊢
      go_wp2_with fail
      go_roundw
      case rel => exact Or.inr (Or.inr ⟨by go_num, p, p1, r, r1, _, D.out⟩)
      case measure => simp [intOf]
    · have FF := Lib.hid (FIN.out wr l m p q r t S hF)
      clear hF FIN
      go_wp2_with fail
      go_ret2
      exact FF.out
end Go.Proofs.YtnlckkahkghneaaGreatDoor.LE
