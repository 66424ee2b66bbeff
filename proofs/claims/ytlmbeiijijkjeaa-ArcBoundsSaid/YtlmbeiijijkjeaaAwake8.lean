/- The laws' own helper awake of layer 8 at this program: it returns true, whatever the memory; what was there is as it was. -/
import Derived.Test.YtlmbeiijijkjeaaWl
namespace Go.Proofs.Ytlmbeiijijkjeaa
open Go.RowKit Sg

def sa : ByteArray := ⟨#[97]⟩
def sb : ByteArray := ⟨#[98]⟩
def sc : ByteArray := ⟨#[99]⟩
def sq : ByteArray := ⟨#[113]⟩
def a0 : St := St.start 2
def a1 : St := a0.req sa
def a2 : St := a1.req sa
def a3 : St := a2.req sb
def a4 : St := a3.req sc
def a5 : St := a4.req sb
def a6 : St := a5.rm sb
theorem st0 : a0.step sa = .agg #[.bool false, .string ⟨#[]⟩, .bool false] := by kernel_rfl
theorem st1 : a1.step sa = .agg #[.bool true, .string ⟨#[]⟩, .bool false] := by kernel_rfl
theorem st2 : a2.step sb = .agg #[.bool false, .string ⟨#[]⟩, .bool false] := by kernel_rfl
theorem st3 : a3.step sc = .agg #[.bool false, .string ⟨#[98]⟩, .bool true] := by kernel_rfl
theorem st4 : a4.step sb = .agg #[.bool false, .string ⟨#[97]⟩, .bool true] := by kernel_rfl
theorem g4 : a4.R 2 ++ a4.R 3 = [sb] := by kernel_rfl
theorem p5 : a5.p = 1 := by kernel_rfl
theorem z50 : (a5.R 0).length = 1 := by kernel_rfl
theorem z51 : (a5.R 1).length = 1 := by kernel_rfl
theorem z52 : (a5.R 2).length = 0 := by kernel_rfl
theorem z53 : (a5.R 3).length = 1 := by kernel_rfl
theorem r5 : (a5.R 1 ++ a5.R 0).reverse = [sc, sb] := by kernel_rfl
theorem ln5 : lenR a5.R = 2 := by kernel_rfl
theorem h5 : hit a5.R sb = true := by kernel_rfl
theorem d5 : a5.adB sq = false := by kernel_rfl
theorem e5 : a5.ad sq = a5 := by unfold St.ad; rw [d5]; rfl
theorem d6 : a6.adB sq = true := by kernel_rfl
theorem eq42 (w : World) : (binOp .eql 42 (.agg #[.int .i64 1, .int .i64 1, .int .i64 0, .int .i64 1]) (.agg #[.int .i64 1, .int .i64 1, .int .i64 0, .int .i64 1])).run Try.prog w = .ok (.bool true) w := by kernel_rfl
theorem guard42 (w : World) (op : BinOp) (x y : Operand) (xs ys : Array Value) : (eqGuard op 42 x y (.agg xs) (.agg ys)).run Try.prog w = .ok () w :=
  run_eqGuard_agg w op 42 x y xs ys (by kernel_rfl)

theorem box_new {w : World} {T : Nat → Prop} {L : List (Nat × Bool × ByteArray × Bool)} (h : Boxes w T L) (hl : ∀ k, T k → k < w.heap.size) (x y : Bool) (s : ByteArray) : Boxes (w.alloc (sObj x s y)) T ((w.heap.size, x, s, y) :: L) := by
  intro q hq
  rcases List.mem_cons.1 hq with rfl | hq
  · exact ⟨heap_alloc_new _ _, fun hk => by have := hl _ hk; omega⟩
  obtain ⟨h1, h2⟩ := h q hq
  exact ⟨(Below.heap_alloc _ _ _ h1.lt).trans h1, h2⟩
theorem row_two (w : World) (x y : ByteArray) (hx : x.size ≤ maxLen) (hy : y.size ≤ maxLen) : Row (w.alloc (.cells #[.string x, .string y] 9)) w.heap.size (.slice (some ⟨w.heap.size, 0, none⟩) 2 2) [x, y] := by
  have hn := heap_alloc_new w (.cells #[.string x, .string y] 9)
  refine ⟨by simp, by intro z hz; simp at hz; rcases hz with rfl | rfl <;> assumption, Or.inr ⟨0, 2, rfl, by simp, by simp, by unfold maxLen; omega, fun j hj => ?_⟩⟩
  have hj : j < 2 := hj
  rcases j with _ | _ | j
  · exact cell_of_row _ _ 0 _ _ _ hn
  · exact cell_of_row _ _ 1 _ _ _ hn
  · omega


set_option maxHeartbeats 4000000 in
set_option maxRecDepth 100000 in
theorem awake_any (w : World) : Calls Try.prog 7 #[] w (RetB true w) := by
  have g34 := guard34
  have q34 := eq34
  have g42 := guard42
  have q42 := eq42
  go_enter Try.func7, Try.ntmps7
  go_wp2_with fail
  refine Calls.mono (show Calls Try.prog 9 #[.int .i64 2] w (NewS a0 w) from new_ca w 2 (by omega)) ?_
  rintro e w1 ⟨c, T1, rfl, hC, hS, hB⟩
  have L1 := Lib.hid (Live.made (Below.refl _ w) hC hS hB)
  clear hC hS hB
  go_wp2_with fail
  refine Calls.mono (show Calls Try.prog 10 #[.pointer (some ⟨c, 0, none⟩), .string ⟨#[97]⟩] w1 (CaPost (.agg #[.bool false, .string ⟨#[]⟩, .bool false]) w1 c T1 a1 1) from st0 ▸ request_ca w1 c T1 a0 0 sa L1.out.ca (by decide) (by omega)) ?_
  intro e w2 hp
  obtain ⟨rfl, T2, hL, hW⟩ := L1.out.op hp
  have L2 := Lib.hid hL
  clear hp hL hW L1
  go_wp2_with fail
  refine Calls.mono (show Calls Try.prog 10 #[.pointer (some ⟨c, 0, none⟩), .string ⟨#[97]⟩] w2 (CaPost (.agg #[.bool true, .string ⟨#[]⟩, .bool false]) w2 c T2 a2 2) from st1 ▸ request_ca w2 c T2 a1 1 sa L2.out.ca (by decide) (by omega)) ?_
  intro e w3 hp
  obtain ⟨rfl, T3, hL, hW⟩ := L2.out.op hp
  have X3 := Lib.hid (box_new (w := w3) (T := T3) (L := []) (by intro q hq; cases hq) hL.lt true false ⟨#[]⟩)
  have L3 := Lib.hid (hL.below ((Below.refl _ _).alloc (Nat.le_refl _) (sObj true ⟨#[]⟩ false)))
  clear hp hL hW L2
  go_wp2_with fail
  refine Calls.mono (show Calls Try.prog 10 #[.pointer (some ⟨c, 0, none⟩), .string ⟨#[98]⟩] (w3.alloc (sObj true ⟨#[]⟩ false)) (CaPost (.agg #[.bool false, .string ⟨#[]⟩, .bool false]) (w3.alloc (sObj true ⟨#[]⟩ false)) c T3 a3 3) from st2 ▸ request_ca _ c T3 a2 2 sb L3.out.ca (by decide) (by omega)) ?_
  intro e w4 hp
  obtain ⟨rfl, T4, hL, hW⟩ := L3.out.op hp
  have X4 := Lib.hid (X3.out.went hW)
  have L4 := Lib.hid hL
  clear hp hL hW L3 X3
  go_wp2_with fail
  refine Calls.mono (show Calls Try.prog 10 #[.pointer (some ⟨c, 0, none⟩), .string ⟨#[99]⟩] w4 (CaPost (.agg #[.bool false, .string ⟨#[98]⟩, .bool true]) w4 c T4 a4 4) from st3 ▸ request_ca _ c T4 a3 3 sc L4.out.ca (by decide) (by omega)) ?_
  intro e w5 hp
  obtain ⟨rfl, T5, hL, hW⟩ := L4.out.op hp
  have X5 := Lib.hid (box_new (X4.out.went hW) hL.lt false true ⟨#[98]⟩)
  have L5 := Lib.hid (hL.below ((Below.refl _ _).alloc (Nat.le_refl _) (sObj false ⟨#[98]⟩ true)))
  clear hp hL hW L4 X4
  go_wp2_with fail
  refine Calls.mono (show Calls Try.prog 17 #[.pointer (some ⟨c, 0, none⟩)] (w5.alloc (sObj false ⟨#[98]⟩ true)) (RowPost [sb] (w5.alloc (sObj false ⟨#[98]⟩ true))) from g4 ▸ ghosts_ca _ c T5 a4 4 L5.out.ca) ?_
  rintro e w6 ⟨v, rfl, hO, hB⟩
  have M6 := Lib.hid (Mine.made hO L5.out.ca)
  have X6 := Lib.hid (show Boxes w6 T5 _ from X5.out.went (Went.below hB))
  have L6 := Lib.hid (L5.out.below hB)
  clear hO hB L5 X5
  go_wp2_with fail
  refine Calls.mono (show Calls Try.prog 10 #[.pointer (some ⟨c, 0, none⟩), .string ⟨#[98]⟩] w6 (CaPost (.agg #[.bool false, .string ⟨#[97]⟩, .bool true]) w6 c T5 a5 5) from st4 ▸ request_ca _ c T5 a4 4 sb L6.out.ca (by decide) (by omega)) ?_
  intro e w7 hp
  obtain ⟨rfl, T7, hL, hW⟩ := L6.out.op hp
  have hb7 := (Below.refl w7.heap.size w7).alloc (Nat.le_refl _) (sObj false ⟨#[97]⟩ true)
  have X7 := Lib.hid (box_new (X6.out.went hW) hL.lt false true ⟨#[97]⟩)
  have M7 := Lib.hid ((M6.out.went hW hL.lt).below hb7)
  have L7 := Lib.hid (hL.below hb7)
  clear hp hL hW hb7 L6 X6 M6
  go_upto_region 10 with fail
  generalize hw8 : w7.alloc (sObj false ⟨#[97]⟩ true) = w8 at L7 X7 M7 ⊢
  obtain ⟨n3, hn3⟩ : ∃ n, n = w3.heap.size := ⟨_, rfl⟩
  obtain ⟨n5, hn5⟩ : ∃ n, n = w5.heap.size := ⟨_, rfl⟩
  obtain ⟨n7, hn7⟩ : ∃ n, n = w7.heap.size := ⟨_, rfl⟩
  rw [← hn3, ← hn5, ← hn7] at X7
  rw [← hn3, ← hn5, ← hn7]
  clear hw8 hn3 hn5 hn7
  obtain ⟨x1, x2, x3, _, _⟩ := (X7.out (n3, true, ⟨#[]⟩, false) (by simp)).1.cells
  obtain ⟨x4, x5, x6, _, _⟩ := (X7.out (n5, false, ⟨#[98]⟩, true) (by simp)).1.cells
  simp only at x1 x2 x3 x4 x5 x6
  obtain ⟨g, hR, _⟩ := M7.out
  have hb9 := (Below.refl w8.heap.size w8).alloc (Nat.le_refl _) (.cells #[.string ⟨#[98]⟩] 9)
  obtain ⟨g', _, hR'⟩ := (own_one w8 sb (by decide)).row
  have U := Lib.hid (show Calls Try.prog 22 #[v, .slice (some ⟨w8.heap.size, 0, none⟩) 1 1] (w8.alloc (.cells #[.string ⟨#[98]⟩] 9)) (SamePost true (w8.alloc (.cells #[.string ⟨#[98]⟩] 9))) from refSame_any _ g g' _ _ [sb] [sb] (hR.below hb9) hR')
  have L8 := Lib.hid (L7.out.below hb9)
  have X8 := Lib.hid (X7.out.went (Went.below hb9))
  clear hR hb9 L7 hR' M7 X7
  go_wp2_with fail
  refine U.out.mono ?_
  rintro e w9 ⟨rfl, n, hw⟩
  have L9 := Lib.hid (show Live w w9 c T7 a5 5 by rw [hw]; exact L8.out.below (below_drewN _ n))
  obtain ⟨y0, y1, y2, _, _⟩ := ((X8.out.went (Went.below (hw ▸ below_drewN _ n : Below _ _ w9))) (n7, false, ⟨#[97]⟩, true) (by simp)).1.cells
  simp only at y0 y1 y2
  clear hw L8 U X8 x1 x2 x3 x4 x5 x6
  go_wp2_with fail
  refine Calls.mono (show Calls Try.prog 19 #[.pointer (some ⟨c, 0, none⟩)] w9 (IntPost 1 w9) from by
    have := share_ca w9 c T7 a5 5 L9.out.ca
    rw [p5] at this
    exact this) ?_
  rintro e w9 ⟨rfl, rfl⟩
  clear y0 y1 y2
  go_wp2_with fail
  refine Calls.mono (show Calls Try.prog 21 #[.pointer (some ⟨c, 0, none⟩)] w9 (Stl (.agg #[.int .i64 1, .int .i64 1, .int .i64 0, .int .i64 1]) w9) from by
    have := sizes_ca w9 c T7 a5 5 L9.out.ca
    rw [z50, z51, z52, z53] at this
    exact this) ?_
  rintro e wa ⟨rfl, hB⟩
  have La := Lib.hid (L9.out.below hB)
  clear hB L9
  go_wp2_with fail
  refine Calls.mono (show Calls Try.prog 16 #[.pointer (some ⟨c, 0, none⟩)] wa (RowPost [sc, sb] wa) from r5 ▸ keys_ca wa c T7 a5 5 La.out.ca) ?_
  rintro e wb ⟨v2, rfl, hO, hB⟩
  obtain ⟨g2, _, hR⟩ := hO.row
  have hb2 := (Below.refl wb.heap.size wb).alloc (Nat.le_refl _) (.cells #[.string ⟨#[99]⟩, .string ⟨#[98]⟩] 9)
  have Lb := Lib.hid ((La.out.below hB).below hb2)
  have U := Lib.hid (show Calls Try.prog 22 #[v2, .slice (some ⟨wb.heap.size, 0, none⟩) 2 2] (wb.alloc (.cells #[.string ⟨#[99]⟩, .string ⟨#[98]⟩] 9)) (SamePost true (wb.alloc (.cells #[.string ⟨#[99]⟩, .string ⟨#[98]⟩] 9))) from refSame_any _ g2 wb.heap.size _ _ [sc, sb] [sc, sb] (hR.below hb2) (row_two wb sc sb (by decide) (by decide)))
  clear hO hB hR hb2 La
  go_wp2_with fail
  refine U.out.mono ?_
  rintro e wc ⟨rfl, n, hw⟩
  have Lc := Lib.hid (show Live w wc c T7 a5 5 by rw [hw]; exact Lb.out.below (below_drewN _ n))
  clear hw Lb U
  go_wp2_with fail
  refine Calls.mono (show Calls Try.prog 18 #[.pointer (some ⟨c, 0, none⟩)] wc (Stl (.int .i64 2) wc) from by
    have := len_ca wc c T7 a5 5 Lc.out.ca
    rw [ln5] at this
    exact this) ?_
  rintro e wd ⟨rfl, hB⟩
  have Ld := Lib.hid (Lc.out.below hB)
  clear hB Lc
  go_wp2_with fail
  refine Calls.mono (show Calls Try.prog 11 #[.pointer (some ⟨c, 0, none⟩), .string ⟨#[98]⟩] wd (BoolPost true wd) from h5 ▸ has_ca wd c T7 a5 5 sb Ld.out.ca (by decide)) ?_
  rintro e wd ⟨rfl, rfl⟩
  go_wp2_with fail
  refine Calls.mono (show Calls Try.prog 13 #[.pointer (some ⟨c, 0, none⟩), .string ⟨#[113]⟩] wd (CaPost (.bool false) wd c T7 a5 6) from by
    have := adopt_ca wd c T7 a5 5 sq Ld.out.ca (by decide) (by omega)
    rw [d5, e5] at this
    exact this) ?_
  intro e we hp
  obtain ⟨rfl, Te, hL, hW⟩ := Ld.out.op hp
  have Le := Lib.hid hL
  clear hp hL hW Ld
  go_wp2_with fail
  refine Calls.mono (show Calls Try.prog 12 #[.pointer (some ⟨c, 0, none⟩), .string ⟨#[98]⟩] we (CaPost (.bool true) we c Te a6 6) from h5 ▸ remove_ca we c Te a5 6 sb Le.out.ca (by decide)) ?_
  intro e wf hp
  obtain ⟨rfl, Tf, hL, hW⟩ := Le.out.op hp
  have Lf := Lib.hid hL
  clear hp hL hW Le
  go_wp2_with fail
  refine Calls.mono (show Calls Try.prog 13 #[.pointer (some ⟨c, 0, none⟩), .string ⟨#[113]⟩] wf (CaPost (.bool true) wf c Tf (a6.ad sq) 7) from d6 ▸ adopt_ca wf c Tf a6 6 sq Lf.out.ca (by decide) (by omega)) ?_
  intro e wg hp
  obtain ⟨rfl, Tg, hL, hW⟩ := Lf.out.op hp
  have B := Lib.hid hL.bel
  clear hp hL hW Lf
  go_wp2_with fail
  go_ret
  exact ⟨rfl, B.out⟩
end Go.Proofs.Ytlmbeiijijkjeaa
