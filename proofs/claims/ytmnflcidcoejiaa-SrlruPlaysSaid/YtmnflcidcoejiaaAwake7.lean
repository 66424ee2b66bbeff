/- The laws' own helper awake of layer 7 at this program: it returns true, whatever the memory; what was there is as it was. -/
import Derived.Test.YtmnflcidcoejiaaYw
namespace Go.Proofs.Ytmnflcidcoejiaa
open Go.RowKit Sg

def sa : ByteArray := ⟨#[97]⟩
def sb : ByteArray := ⟨#[98]⟩
def sc : ByteArray := ⟨#[99]⟩
def sq : ByteArray := ⟨#[113]⟩
def a0 : St := St.start 2
def a1 : St := a0.req sa
def a2 : St := a1.req sa
def a3 : St := a2.req sb
def a4 : St := a3.req sc
def a5 : St := a4.rm sa
theorem st0 : a0.step sa = .agg #[.bool false, .string ⟨#[]⟩, .bool false] := by kernel_rfl
theorem st1 : a1.step sa = .agg #[.bool true, .string ⟨#[]⟩, .bool false] := by kernel_rfl
theorem st2 : a2.step sb = .agg #[.bool false, .string ⟨#[]⟩, .bool false] := by kernel_rfl
theorem st3 : a3.step sc = .agg #[.bool false, .string ⟨#[98]⟩, .bool true] := by kernel_rfl
theorem v4 : lastKey (a4.A ++ a4.N) = ⟨#[99]⟩ := by kernel_rfl
theorem k4 : anyKey (a4.A ++ a4.N) = true := by kernel_rfl
theorem t4 : a4.t = 1 := by kernel_rfl
theorem l4 : a4.A.length = 1 := by kernel_rfl
theorem r4 : (a4.A ++ a4.N).reverse = [sc, sa] := by kernel_rfl
theorem g4 : a4.G = [sb] := by kernel_rfl
theorem n4 : a4.N.length + a4.A.length = 2 := by kernel_rfl
theorem h4 : a4.hit sa = true := by kernel_rfl
theorem d4 : a4.adB sq = false := by kernel_rfl
theorem e4 : a4.ad sq = a4 := by unfold St.ad; rw [d4]; rfl
theorem d5 : a5.adB sq = true := by kernel_rfl

theorem box_new {w : World} {T : Nat → Prop} {L : List (Nat × Bool × ByteArray × Bool)} (h : Boxes w T L) (hl : ∀ k, T k → k < w.heap.size) (x y : Bool) (s : ByteArray) : Boxes (w.alloc (sObj x s y)) T ((w.heap.size, x, s, y) :: L) := by
  intro q hq
  rcases List.mem_cons.1 hq with rfl | hq
  · exact ⟨heap_alloc_new _ _, fun hk => by have := hl _ hk; omega⟩
  obtain ⟨h1, h2⟩ := h q hq
  exact ⟨(Below.heap_alloc _ _ _ h1.lt).trans h1, h2⟩
theorem row_two (w : World) (x y : ByteArray) (hx : x.size ≤ maxLen) (hy : y.size ≤ maxLen) : Row (w.alloc (.cells #[.string x, .string y] 9)) w.heap.size (.slice (some ⟨w.heap.size, 0, none⟩) 2 2) [x, y] := by
  have hn := heap_alloc_new w (.cells #[.string x, .string y] 9)
  refine ⟨by simp, by intro z hz; simp at hz; rcases hz with rfl | rfl <;> assumption, Or.inr ⟨0, 2, rfl, by simp, by simp, by unfold maxLen; omega, fun j hj => ?_⟩⟩
  have hj : j < 2 := hj
  rcases j with _ | _ | j
  · exact cell_of_row _ _ 0 _ _ _ hn
  · exact cell_of_row _ _ 1 _ _ _ hn
  · omega

set_option maxHeartbeats 4000000 in
set_option maxRecDepth 100000 in
theorem awake_any (w : World) : Calls Try.prog 8 #[] w (RetB true w) := by
  have g34 := guard34
  have q34 := eq34
  go_enter Try.func8, Try.ntmps8
  go_wp2_with fail
  refine Calls.mono (show Calls Try.prog 10 #[.int .i64 2] w (NewS a0 w) from new_ca w 2 (by omega)) ?_
  rintro e w1 ⟨c, T1, rfl, hC, hS, hB⟩
  have L1 := Lib.hid (Live.made (Below.refl _ w) hC hS hB)
  clear hC hS hB
  go_wp2_with fail
  refine Calls.mono (show Calls Try.prog 13 #[.pointer (some ⟨c, 0, none⟩), .string ⟨#[97]⟩] w1 (CaPost (.agg #[.bool false, .string ⟨#[]⟩, .bool false]) w1 c T1 a1 1) from st0 ▸ request_ca w1 c T1 a0 0 sa L1.out.ca (by decide) (by omega)) ?_
  intro e w2 hp
  obtain ⟨rfl, T2, hL, hW⟩ := L1.out.op hp
  have L2 := Lib.hid hL
  clear hp hL hW L1
  go_wp2_with fail
  refine Calls.mono (show Calls Try.prog 13 #[.pointer (some ⟨c, 0, none⟩), .string ⟨#[97]⟩] w2 (CaPost (.agg #[.bool true, .string ⟨#[]⟩, .bool false]) w2 c T2 a2 2) from st1 ▸ request_ca w2 c T2 a1 1 sa L2.out.ca (by decide) (by omega)) ?_
  intro e w3 hp
  obtain ⟨rfl, T3, hL, hW⟩ := L2.out.op hp
  have X3 := Lib.hid (box_new (w := w3) (T := T3) (L := []) (by intro q hq; cases hq) hL.lt true false ⟨#[]⟩)
  have L3 := Lib.hid (hL.below ((Below.refl _ _).alloc (Nat.le_refl _) (sObj true ⟨#[]⟩ false)))
  clear hp hL hW L2
  go_wp2_with fail
  refine Calls.mono (show Calls Try.prog 13 #[.pointer (some ⟨c, 0, none⟩), .string ⟨#[98]⟩] (w3.alloc (sObj true ⟨#[]⟩ false)) (CaPost (.agg #[.bool false, .string ⟨#[]⟩, .bool false]) (w3.alloc (sObj true ⟨#[]⟩ false)) c T3 a3 3) from st2 ▸ request_ca _ c T3 a2 2 sb L3.out.ca (by decide) (by omega)) ?_
  intro e w4 hp
  obtain ⟨rfl, T4, hL, hW⟩ := L3.out.op hp
  have X4 := Lib.hid (X3.out.went hW)
  have L4 := Lib.hid hL
  clear hp hL hW L3 X3
  go_wp2_with fail
  refine Calls.mono (show Calls Try.prog 13 #[.pointer (some ⟨c, 0, none⟩), .string ⟨#[99]⟩] w4 (CaPost (.agg #[.bool false, .string ⟨#[98]⟩, .bool true]) w4 c T4 a4 4) from st3 ▸ request_ca _ c T4 a3 3 sc L4.out.ca (by decide) (by omega)) ?_
  intro e w5 hp
  obtain ⟨rfl, T5, hL, hW⟩ := L4.out.op hp
  have X5 := Lib.hid (box_new (X4.out.went hW) hL.lt false true ⟨#[98]⟩)
  have L5 := Lib.hid (hL.below ((Below.refl _ _).alloc (Nat.le_refl _) (sObj false ⟨#[98]⟩ true)))
  clear hp hL hW L4 X4
  go_wp2_with fail
  generalize hw6 : w5.alloc (sObj false ⟨#[98]⟩ true) = w6 at L5 X5 ⊢
  obtain ⟨n3, hn3⟩ : ∃ n, n = w3.heap.size := ⟨_, rfl⟩
  obtain ⟨n5, hn5⟩ : ∃ n, n = w5.heap.size := ⟨_, rfl⟩
  rw [← hn3, ← hn5] at X5 ⊢
  clear hw6 hn3 hn5
  refine Calls.mono (show Calls Try.prog 24 #[.pointer (some ⟨c, 0, none⟩)] w6 (KeyPost ⟨#[99]⟩ true w6) from v4 ▸ k4 ▸ victim_ca w6 c T5 a4 4 L5.out.ca) ?_
  rintro e w6 ⟨rfl, rfl⟩
  obtain ⟨d1, d2, d3, _, _⟩ := (X5.out (n3, true, ⟨#[]⟩, false) (by simp)).1.cells
  obtain ⟨d4, d5, d6, _, _⟩ := (X5.out (n5, false, ⟨#[98]⟩, true) (by simp)).1.cells
  simp only at d1 d2 d3 d4 d5 d6
  clear X5
  go_wp2_with fail
  refine Calls.mono (show Calls Try.prog 32 #[.pointer (some ⟨c, 0, none⟩)] w6 (IntPost 1 w6) from by
    have := target_ca w6 c T5 a4 4 L5.out.ca
    rw [t4] at this
    exact this) ?_
  rintro e w6 ⟨rfl, rfl⟩
  clear d1 d2 d3 d4 d5 d6
  go_wp2_with fail
  refine Calls.mono (show Calls Try.prog 33 #[.pointer (some ⟨c, 0, none⟩)] w6 (IntPost 1 w6) from by
    have := again_ca w6 c T5 a4 4 L5.out.ca
    rw [l4] at this
    exact this) ?_
  rintro e w6 ⟨rfl, rfl⟩
  go_wp2_with fail
  refine Calls.mono (show Calls Try.prog 27 #[.pointer (some ⟨c, 0, none⟩)] w6 (RowPost [sc, sa] w6) from r4 ▸ keys_ca w6 c T5 a4 4 L5.out.ca) ?_
  rintro e w7 ⟨v, rfl, hO, hB⟩
  obtain ⟨g, _, hR⟩ := hO.row
  have hb2 := (Below.refl w7.heap.size w7).alloc (Nat.le_refl _) (.cells #[.string ⟨#[99]⟩, .string ⟨#[97]⟩] 9)
  have L6 := Lib.hid ((L5.out.below hB).below hb2)
  have U := Lib.hid (show Calls Try.prog 22 #[v, .slice (some ⟨w7.heap.size, 0, none⟩) 2 2] (w7.alloc (.cells #[.string ⟨#[99]⟩, .string ⟨#[97]⟩] 9)) (SamePost true (w7.alloc (.cells #[.string ⟨#[99]⟩, .string ⟨#[97]⟩] 9))) from refSame_any _ g w7.heap.size _ _ [sc, sa] [sc, sa] (hR.below hb2) (row_two w7 sc sa (by decide) (by decide)))
  clear hO hB hR hb2 L5
  go_wp2_with fail
  refine U.out.mono ?_
  rintro e w8 ⟨rfl, n, hw⟩
  have L7 := Lib.hid (show Live w w8 c T5 a4 4 by rw [hw]; exact L6.out.below (below_drewN _ n))
  clear hw L6 U
  go_wp2_with fail
  refine Calls.mono (show Calls Try.prog 30 #[.pointer (some ⟨c, 0, none⟩)] w8 (RowPost [sb] w8) from g4 ▸ ghosts_ca w8 c T5 a4 4 L7.out.ca) ?_
  rintro e w9 ⟨v2, rfl, hO, hB⟩
  obtain ⟨g, _, hR⟩ := hO.row
  have hb2 := (Below.refl w9.heap.size w9).alloc (Nat.le_refl _) (.cells #[.string ⟨#[98]⟩] 9)
  have L8 := Lib.hid ((L7.out.below hB).below hb2)
  obtain ⟨g', _, hR'⟩ := (own_one w9 sb (by decide)).row
  have U := Lib.hid (show Calls Try.prog 22 #[v2, .slice (some ⟨w9.heap.size, 0, none⟩) 1 1] (w9.alloc (.cells #[.string ⟨#[98]⟩] 9)) (SamePost true (w9.alloc (.cells #[.string ⟨#[98]⟩] 9))) from refSame_any _ g g' _ _ [sb] [sb] (hR.below hb2) hR')
  clear hO hB hR hb2 L7 hR'
  go_wp2_with fail
  refine U.out.mono ?_
  rintro e wa ⟨rfl, n, hw⟩
  have L9 := Lib.hid (show Live w wa c T5 a4 4 by rw [hw]; exact L8.out.below (below_drewN _ n))
  clear hw L8 U
  go_wp2_with fail
  refine Calls.mono (show Calls Try.prog 28 #[.pointer (some ⟨c, 0, none⟩)] wa (Qt (.int .i64 2) wa) from by
    have := len_ca wa c T5 a4 4 L9.out.ca
    rw [n4] at this
    exact this) ?_
  rintro e wb ⟨rfl, n, hw⟩
  have La := Lib.hid (show Live w wb c T5 a4 4 by rw [hw]; exact L9.out.below (below_drewN _ n))
  clear hw L9
  go_wp2_with fail
  refine Calls.mono (show Calls Try.prog 29 #[.pointer (some ⟨c, 0, none⟩), .string ⟨#[97]⟩] wb (BoolPost true wb) from h4 ▸ has_ca wb c T5 a4 4 sa La.out.ca (by decide)) ?_
  rintro e wb ⟨rfl, rfl⟩
  go_wp2_with fail
  refine Calls.mono (show Calls Try.prog 18 #[.pointer (some ⟨c, 0, none⟩), .string ⟨#[113]⟩] wb (CaPost (.bool false) wb c T5 a4 5) from by
    have := adopt_ca wb c T5 a4 4 sq La.out.ca (by decide) (by omega)
    rw [d4, e4] at this
    exact this) ?_
  intro e wc hp
  obtain ⟨rfl, Tc, hL, hW⟩ := La.out.op hp
  have Lc := Lib.hid hL
  clear hp hL hW La
  go_wp2_with fail
  refine Calls.mono (show Calls Try.prog 14 #[.pointer (some ⟨c, 0, none⟩), .string ⟨#[97]⟩] wc (CaPost (.bool true) wc c Tc a5 5) from h4 ▸ remove_ca wc c Tc a4 5 sa Lc.out.ca (by decide)) ?_
  intro e wd hp
  obtain ⟨rfl, Td, hL, hW⟩ := Lc.out.op hp
  have Ld := Lib.hid hL
  clear hp hL hW Lc
  go_wp2_with fail
  refine Calls.mono (show Calls Try.prog 18 #[.pointer (some ⟨c, 0, none⟩), .string ⟨#[113]⟩] wd (CaPost (.bool true) wd c Td (a5.ad sq) 6) from d5 ▸ adopt_ca wd c Td a5 5 sq Ld.out.ca (by decide) (by omega)) ?_
  intro e we hp
  obtain ⟨rfl, Te, hL, hW⟩ := Ld.out.op hp
  have B := Lib.hid hL.bel
  clear hp hL hW Ld
  go_wp2_with fail
  go_ret
  exact ⟨rfl, B.out⟩
end Go.Proofs.Ytmnflcidcoejiaa
