/- The laws' own helper awake of layer 5 at this program: it returns true, whatever the memory; what was there is as it was. -/
import Derived.Test.YthbokiebnniifaaLive5
namespace Go.Proofs.Ythbokiebnniifaa
open Go.RowKit Sg

def sa : ByteArray := ⟨#[97]⟩
def sb : ByteArray := ⟨#[98]⟩
def sc : ByteArray := ⟨#[99]⟩
def sx : ByteArray := ⟨#[120]⟩

abbrev zStep : Obj := .cells #[.bool false, .string ⟨#[]⟩, .bool false] 34
/-- Two steps more, each in a variable of its own. -/
theorem two_boxes {w : World} {S : Nat → Prop} {L : List (Nat × Bool × ByteArray × Bool)} (h : Boxes w S L) (hl : ∀ k, S k → k < w.heap.size) (x1 y1 x2 y2 : Bool) (s1 s2 : ByteArray) :
    Boxes ((w.alloc (.cells #[.bool x1, .string s1, .bool y1] 34)).alloc (.cells #[.bool x2, .string s2, .bool y2] 34)) S ((w.heap.size, x1, s1, y1) :: (w.heap.size + 1, x2, s2, y2) :: L) := by
  have e1 : (w.alloc (.cells #[.bool x1, .string s1, .bool y1] 34)).heap.size = w.heap.size + 1 := by simp
  have b2 := heap_alloc_new (w.alloc (.cells #[.bool x1, .string s1, .bool y1] 34)) (.cells #[.bool x2, .string s2, .bool y2] 34)
  rw [e1] at b2
  intro q hq
  rcases List.mem_cons.1 hq with rfl | hq
  · exact ⟨(Below.heap_alloc _ _ _ (by rw [e1]; omega)).trans (heap_alloc_new _ _), fun hk => by have := hl _ hk; omega⟩
  rcases List.mem_cons.1 hq with rfl | hq
  · exact ⟨b2, fun hk => by have := hl _ hk; omega⟩
  obtain ⟨h1, h2⟩ := h q hq
  have := h1.lt
  exact ⟨(Below.heap_alloc _ _ _ (by rw [e1]; omega)).trans ((Below.heap_alloc _ _ _ this).trans h1), h2⟩
theorem below_two (w : World) (o1 o2 : Obj) : Below w.heap.size w ((w.alloc o1).alloc o2) := ((Below.refl _ _).alloc (Nat.le_refl _) _).alloc (by simp) _

set_option maxHeartbeats 4000000 in
set_option maxRecDepth 100000 in
theorem awake_any (w : World) : Calls Try.prog 9 #[] w (RetB true w) := by
  have g34 := guard34
  have q34 := eq34
  go_enter Try.func9, Try.ntmps9
  go_wp2_with fail
  refine Calls.mono (show Calls Try.prog 11 #[.int .i64 2] w (NewC 2 w) from new_ca w 2 (by omega)) ?_
  rintro e w1 ⟨c, S1, rfl, hC, hS, hB⟩
  have L1 := Lib.hid (Live.made (Below.refl _ w) hC hS hB)
  clear hC hS hB
  go_wp2_with fail
  refine Calls.mono (show Calls Try.prog 14 #[.pointer (some ⟨c, 0, none⟩), .string ⟨#[97]⟩] w1 (CaPost (.agg #[.bool false, .string ⟨#[]⟩, .bool false]) w1 c S1 2 [sa] 1) from request_ca w1 c S1 2 [] 0 sa L1.out.ca (by decide) (by omega)) ?_
  intro e w2 hp
  obtain ⟨rfl, S2, hL, hW⟩ := L1.out.op hp
  have L2 := Lib.hid hL
  clear hp hL hW L1
  go_wp2_with fail
  refine Calls.mono (show Calls Try.prog 14 #[.pointer (some ⟨c, 0, none⟩), .string ⟨#[98]⟩] w2 (CaPost (.agg #[.bool false, .string ⟨#[]⟩, .bool false]) w2 c S2 2 [sa, sb] 2) from request_ca w2 c S2 2 [sa] 1 sb L2.out.ca (by decide) (by omega)) ?_
  intro e w3 hp
  obtain ⟨rfl, S3, hL, hW⟩ := L2.out.op hp
  have L3 := Lib.hid hL
  clear hp hL hW L2
  have X3 := Lib.hid (two_boxes (w := w3) (S := S3) (L := []) (by intro q hq; cases hq) L3.out.lt false false false false ⟨#[]⟩ ⟨#[]⟩)
  have L4 := Lib.hid (L3.out.below (below_two w3 zStep zStep))
  clear L3
  go_wp2_with fail
  refine Calls.mono (show Calls Try.prog 14 #[.pointer (some ⟨c, 0, none⟩), .string ⟨#[97]⟩] ((w3.alloc zStep).alloc zStep) (CaPost (.agg #[.bool true, .string ⟨#[]⟩, .bool false]) ((w3.alloc zStep).alloc zStep) c S3 2 [sb, sa] 3) from request_ca _ c S3 2 [sa, sb] 2 sa L4.out.ca (by decide) (by omega)) ?_
  intro e w4 hp
  obtain ⟨rfl, S4, hL, hW⟩ := L4.out.op hp
  have L5 := Lib.hid hL
  have X4 := Lib.hid (X3.out.went hW)
  clear hp hL hW L4 X3
  go_wp2_with fail
  refine Calls.mono (show Calls Try.prog 14 #[.pointer (some ⟨c, 0, none⟩), .string ⟨#[99]⟩] w4 (CaPost (.agg #[.bool false, .string sb, .bool true]) w4 c S4 2 [sa, sc] 4) from request_ca _ c S4 2 [sb, sa] 3 sc L5.out.ca (by decide) (by omega)) ?_
  intro e w5 hp
  obtain ⟨rfl, S5, hL, hW⟩ := L5.out.op hp
  have L6 := Lib.hid hL
  have X5 := Lib.hid (X4.out.went hW)
  have X6 := Lib.hid (two_boxes X5.out L6.out.lt true false false true ⟨#[]⟩ sb)
  have L7 := Lib.hid (L6.out.below (below_two w5 (.cells #[.bool true, .string ⟨#[]⟩, .bool false] 34) (.cells #[.bool false, .string sb, .bool true] 34)))
  clear hp hL hW L5 L6 X4 X5
  go_wp2_with fail
  generalize hw6 : (w5.alloc (.cells #[.bool true, .string ⟨#[]⟩, .bool false] 34)).alloc (.cells #[.bool false, .string sb, .bool true] 34) = w6 at L7 X6 ⊢
  obtain ⟨n3, hn3⟩ : ∃ n, n = w3.heap.size := ⟨_, rfl⟩
  obtain ⟨n5, hn5⟩ : ∃ n, n = w5.heap.size := ⟨_, rfl⟩
  rw [← hn3, ← hn5] at X6 ⊢
  clear hw6 hn3 hn5
  refine Calls.mono (show Calls Try.prog 24 #[.pointer (some ⟨c, 0, none⟩)] w6 (KeyPost ⟨#[97]⟩ true w6) from victim_ca _ c S5 2 [sa, sc] 4 L7.out.ca) ?_
  rintro e w6 ⟨rfl, rfl⟩
  go_wp2_with fail
  refine Calls.mono (show Calls Try.prog 19 #[.pointer (some ⟨c, 0, none⟩), .string ⟨#[120]⟩] w6 (CaPost (.bool false) w6 c S5 2 [sa, sc] 5) from adopt_ca _ c S5 2 [sa, sc] 4 sx L7.out.ca (by decide) (by omega)) ?_
  intro e w7 hp
  obtain ⟨rfl, S7, hL, hW⟩ := L7.out.op hp
  have L8 := Lib.hid hL
  have X7 := Lib.hid (X6.out.went hW)
  clear hp hL hW L7 X6
  go_wp2_with fail
  refine Calls.mono (show Calls Try.prog 15 #[.pointer (some ⟨c, 0, none⟩), .string ⟨#[97]⟩] w7 (CaPost (.bool true) w7 c S7 2 [sc] 5) from remove_ca _ c S7 2 [sa, sc] 5 sa L8.out.ca (by decide)) ?_
  intro e w8 hp
  obtain ⟨rfl, S8, hL, hW⟩ := L8.out.op hp
  have L9 := Lib.hid hL
  have X8 := X7.out.went hW
  obtain ⟨d1, d2, d3, _, _⟩ := (X8 (n3, false, ⟨#[]⟩, false) (by simp)).1.cells
  obtain ⟨d4, d5, d6, _, _⟩ := (X8 (n3 + 1, false, ⟨#[]⟩, false) (by simp)).1.cells
  obtain ⟨d7, d8, d9, _, _⟩ := (X8 (n5, true, ⟨#[]⟩, false) (by simp)).1.cells
  obtain ⟨e1, e2, e3, _, _⟩ := (X8 (n5 + 1, false, sb, true) (by simp)).1.cells
  rw [show sb = ⟨#[98]⟩ from rfl] at e2
  simp only at d1 d2 d3 d4 d5 d6 d7 d8 d9 e1 e2 e3
  clear hp hL hW L8 X7 X8
  go_wp2_with fail
  refine Calls.mono (show Calls Try.prog 19 #[.pointer (some ⟨c, 0, none⟩), .string ⟨#[120]⟩] w8 (CaPost (.bool true) w8 c S8 2 [sc, sx] 6) from adopt_ca _ c S8 2 [sc] 5 sx L9.out.ca (by decide) (by omega)) ?_
  intro e w9 hp
  obtain ⟨rfl, S9, hL, hW⟩ := L9.out.op hp
  have La := Lib.hid hL
  clear hp hL hW L9 d1 d2 d3 d4 d5 d6 d7 d8 d9 e1 e2 e3
  go_wp2_with fail
  refine (keys_ca w9 c S9 2 [sc, sx] 6 La.out.ca).mono ?_
  rintro e wa ⟨v, rfl, hO, hB⟩
  have Lb := Lib.hid (La.out.below hB)
  obtain ⟨g, _, hR⟩ := hO.row
  have hb2 := (Below.refl wa.heap.size wa).alloc (Nat.le_refl _) (.cells #[.string ⟨#[99]⟩, .string ⟨#[120]⟩] 9)
  have hR2 := hR.below hb2
  have hr3 : Row (wa.alloc (.cells #[.string ⟨#[99]⟩, .string ⟨#[120]⟩] 9)) wa.heap.size (.slice (some ⟨wa.heap.size, 0, none⟩) 2 2) [sc, sx] := by
    have hx := heap_alloc_new wa (.cells #[.string ⟨#[99]⟩, .string ⟨#[120]⟩] 9)
    refine ⟨by simp, by intro x hx; simp at hx; rcases hx with rfl | rfl <;> decide, Or.inr ⟨0, 2, rfl, by simp, by simp, by unfold maxLen; omega, fun j hj => ?_⟩⟩
    have hj : j < 2 := hj
    rcases j with _ | _ | j
    · exact cell_of_row _ _ 0 _ _ _ hx
    · exact cell_of_row _ _ 1 _ _ _ hx
    · omega
  have Lc := Lib.hid (Lb.out.below hb2)
  have U := Lib.hid (show Calls Try.prog 22 #[v, .slice (some ⟨wa.heap.size, 0, none⟩) 2 2] (wa.alloc (.cells #[.string ⟨#[99]⟩, .string ⟨#[120]⟩] 9)) (SamePost true (wa.alloc (.cells #[.string ⟨#[99]⟩, .string ⟨#[120]⟩] 9))) from refSame_any _ g wa.heap.size _ _ [sc, sx] [sc, sx] hR2 hr3)
  clear hO hB hR hb2 hR2 hr3 La Lb
  go_wp2_with fail
  refine U.out.mono ?_
  rintro e wd ⟨rfl, n, hwd⟩
  have Ld := Lib.hid (show Live w wd c S9 2 [sc, sx] 6 by rw [hwd]; exact Lc.out.below (below_drewN _ n))
  clear hwd Lc U
  go_wp2_with fail
  refine Calls.mono (show Calls Try.prog 26 #[.pointer (some ⟨c, 0, none⟩)] wd (IntPost 2 wd) from len_ca wd c S9 2 [sc, sx] 6 Ld.out.ca) ?_
  rintro e wd ⟨rfl, rfl⟩
  go_wp2_with fail
  refine Calls.mono (show Calls Try.prog 27 #[.pointer (some ⟨c, 0, none⟩), .string ⟨#[99]⟩] wd (BoolPost true wd) from has_ca wd c S9 2 [sc, sx] 6 sc Ld.out.ca (by decide)) ?_
  rintro e wd ⟨rfl, rfl⟩
  go_wp2_with fail
  refine Calls.mono (show Calls Try.prog 23 #[.pointer (some ⟨c, 0, none⟩), .int .i64 1] wd (ResPost wd c S9 1 [sc, sx] 6) from resize_ca wd c S9 2 [sc, sx] 6 1 (by omega) Ld.out.ca) ?_
  rintro e we ⟨v2, Se, rfl, hO, hC, hn, hT, hv⟩
  have B1 := Lib.hid (show Below w.heap.size w we from Ld.out.bel.trans (hT.below Ld.out.low Ld.out.bel.size))
  obtain ⟨g, _, hR⟩ := hO.row
  have hr2 := hR.below ((Below.refl we.heap.size we).alloc (Nat.le_refl _) (.cells #[.string ⟨#[99]⟩] 9))
  obtain ⟨g', _, hR'⟩ := (own_one we sc (by decide)).row
  have B2 := Lib.hid (B1.out.alloc B1.out.size (.cells #[.string ⟨#[99]⟩] 9))
  have U := Lib.hid (show Calls Try.prog 22 #[v2, .slice (some ⟨we.heap.size, 0, none⟩) 1 1] (we.alloc (.cells #[.string ⟨#[99]⟩] 9)) (SamePost true (we.alloc (.cells #[.string ⟨#[99]⟩] 9))) from refSame_any _ g g' _ _ [sc] [sc] hr2 hR')
  clear hO hC hn hT hv hR hr2 hR' B1
  go_wp2_with fail
  refine U.out.mono ?_
  rintro e wf ⟨rfl, n, hwf⟩
  have B3 := Lib.hid (show Below w.heap.size w wf by rw [hwf]; exact B2.out.trans ((below_drewN _ n).mono B2.out.size))
  clear hwf B2 U
  go_wp2_with fail
  refine (ghostsC wf c).mono ?_
  rintro e wf ⟨rfl, rfl⟩
  go_wp2_with fail
  go_ret
  exact ⟨rfl, B3.out⟩
end Go.Proofs.Ythbokiebnniifaa
