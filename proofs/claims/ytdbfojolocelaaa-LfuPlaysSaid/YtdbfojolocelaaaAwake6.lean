/- The laws' own helper awake of layer 6 at this program: it returns true, whatever the memory; what was there is as it was. -/
import Derived.Test.YtdbfojolocelaaaPair6
namespace Go.Proofs.Ytdbfojolocelaaa
open Go.RowKit Ht HS Lf

/-- Two caches, and steps in variables beside them. -/
structure PB (w0 w : World) (a : Nat) (S : Nat → Prop) (mo : Nat) (ch : Bool) (L : List (Ent Key)) (n a2 : Nat) (S2 : Nat → Prop) (mo2 : Nat) (ch2 : Bool) (L2 : List (Ent Key)) (n2 : Nat) (B : List (Nat × Bool × ByteArray × Bool)) : Prop where
  pair : Pair w0 w a S mo ch L n a2 S2 mo2 ch2 L2 n2
  box : Boxes w (fun k => S k ∨ S2 k) B
section
variable {w0 w w' : World} {a a2 mo mo2 n n2 n' : Nat} {S S2 : Nat → Prop} {ch ch2 : Bool} {L L2 L' : List (Ent Key)} {r : Value} {e : Ending} {B : List (Nat × Bool × ByteArray × Bool)}
theorem Boxes.below {S : Nat → Prop} (h : Boxes w S B) (hb : Below w.heap.size w w') : Boxes w' S B := fun q hq => ⟨(hb.block _ (h q hq).1.lt).trans (h q hq).1, (h q hq).2⟩
theorem PB.below (p : PB w0 w a S mo ch L n a2 S2 mo2 ch2 L2 n2 B) (hb : Below w.heap.size w w') : PB w0 w' a S mo ch L n a2 S2 mo2 ch2 L2 n2 B := ⟨p.pair.below hb, p.box.below hb⟩
theorem PB.op1 (p : PB w0 w a S mo ch L n a2 S2 mo2 ch2 L2 n2 B) (hp : CaPost r w a S mo ch L' n' e w') : e = .returned r ∧ ∃ S', PB w0 w' a S' mo ch L' n' a2 S2 mo2 ch2 L2 n2 B := by
  obtain ⟨he, S', h1, h2⟩ := p.pair.op1 hp
  refine ⟨he, S', h1, p.box.went ⟨fun k hk => ?_, h2.turn.wide fun _ _ h => Or.inl h⟩⟩
  rcases hk with h | h
  · exact (h2.new k h).imp Or.inl id
  · exact Or.inl (Or.inr h)
theorem PB.op2 (p : PB w0 w a S mo ch L n a2 S2 mo2 ch2 L2 n2 B) (hp : CaPost r w a2 S2 mo2 ch2 L' n' e w') : e = .returned r ∧ ∃ S', PB w0 w' a S mo ch L n a2 S' mo2 ch2 L' n' B := by
  obtain ⟨he, S', h1, h2⟩ := p.pair.op2 hp
  refine ⟨he, S', h1, p.box.went ⟨fun k hk => ?_, h2.turn.wide fun _ _ h => Or.inr h⟩⟩
  rcases hk with h | h
  · exact Or.inl (Or.inl h)
  · exact (h2.new k h).imp Or.inr id
theorem PB.alloc (p : PB w0 w a S mo ch L n a2 S2 mo2 ch2 L2 n2 B) (x y : Bool) (s : ByteArray) : PB w0 (w.alloc (.cells #[.bool x, .string s, .bool y] 34)) a S mo ch L n a2 S2 mo2 ch2 L2 n2 ((w.heap.size, x, s, y) :: B) := by
  have hb := (Below.refl w.heap.size w).alloc (Nat.le_refl _) (.cells #[.bool x, .string s, .bool y] 34)
  refine ⟨p.pair.below hb, fun q hq => ?_⟩
  rcases List.mem_cons.1 hq with rfl | hq
  · refine ⟨heap_alloc_new _ _, fun hk => ?_⟩
    rcases hk with h | h
    · have := p.pair.one.lt _ h; omega
    · have := p.pair.two.lt _ h; omega
  · exact p.box.below hb q hq
end

def sa : ByteArray := ⟨#[97]⟩
def sb : ByteArray := ⟨#[98]⟩
def sc : ByteArray := ⟨#[99]⟩
def sq : ByteArray := ⟨#[113]⟩
def x1 : Ent Key := ⟨sa, 1, 1, 1⟩
def x2 : Ent Key := ⟨sa, 2, 2, 2⟩
def x3 : Ent Key := ⟨sb, 1, 3, 3⟩
def x4 : Ent Key := ⟨sc, 1, 4, 4⟩
def y1 : Ent Key := ⟨sa, 1, -1, 1⟩
def y2 : Ent Key := ⟨sb, 1, -2, 2⟩
def y3 : Ent Key := ⟨sq, 1, -3, 3⟩
theorem aw1 : reqL false 2 0 [] sa = [x1] := by rfl
theorem aw2 : reqL false 2 1 [x1] sa = [x2] := by rfl
theorem aw3 : reqL false 2 2 [x2] sb = [x3, x2] := by rfl
theorem aw4 : reqL false 2 3 [x3, x2] sc = [x4, x2] := by rfl
theorem aw5 : reqL true 3 0 [] sa = [y1] := by rfl
theorem aw6 : reqL true 3 1 [y1] sb = [y2, y1] := by rfl
theorem aw7 : adL true 3 2 [y2, y1] sq = [y3, y2, y1] := by rfl
theorem aw8 : adL true 3 3 [y3, y2, y1] sq = [y3, y2, y1] := by rfl
theorem aw9 : rem [y3, y2, y1] sq = [y2, y1] := by rfl
theorem two_same {w : World} : Row (w.alloc (.cells #[.string ⟨#[99]⟩, .string ⟨#[97]⟩] 9)) w.heap.size (.slice (some ⟨w.heap.size, 0, none⟩) 2 2) [sc, sa] := by
  have hx := heap_alloc_new w (.cells #[.string ⟨#[99]⟩, .string ⟨#[97]⟩] 9)
  refine ⟨by simp, by intro x hx; simp at hx; rcases hx with rfl | rfl <;> decide, Or.inr ⟨0, 2, rfl, by simp, by simp, by unfold maxLen; omega, fun j hj => ?_⟩⟩
  have hj : j < 2 := hj
  rcases j with _ | _ | j
  · exact cell_of_row _ _ 0 _ _ _ hx
  · exact cell_of_row _ _ 1 _ _ _ hx
  · omega

set_option maxHeartbeats 4000000 in
set_option maxRecDepth 100000 in
theorem awake_any (w : World) : Calls Try.prog 8 #[] w (RetB true w) := by
  have g34 := guard34
  have q34 := eq34
  go_enter Try.func8, Try.ntmps8
  go_wp2_with fail
  refine Calls.mono (show Calls Try.prog 10 #[.int .i64 2, .bool false] w (NewC 2 false w) from new_ca w 2 false (by omega)) ?_
  rintro e w1 ⟨c, S1, rfl, hC, hS, hB⟩
  have L1 := Lib.hid (Live.made (Below.refl _ w) hC hS hB)
  clear hC hS hB
  go_wp2_with fail
  refine Calls.mono (show Calls Try.prog 10 #[.int .i64 3, .bool true] w1 (NewC 3 true w1) from new_ca w1 3 true (by omega)) ?_
  rintro e w2 ⟨d, D1, rfl, hC, hS, hB⟩
  have P1 := Lib.hid (show PB w w2 c S1 2 false [] 0 d D1 3 true [] 0 [] from ⟨Pair.made L1.out hC hS hB, fun q hq => by cases hq⟩)
  clear hC hS hB L1
  go_wp2_with fail
  refine Calls.mono (show Calls Try.prog 13 #[.pointer (some ⟨c, 0, none⟩), .string ⟨#[97]⟩] w2 (CaPost (.agg #[.bool false, .string ⟨#[]⟩, .bool false]) w2 c S1 2 false [x1] 1) from aw1 ▸ request_ca w2 c S1 2 false [] 0 sa P1.out.pair.one.ca (by decide) (by omega)) ?_
  intro e w3 hp
  obtain ⟨rfl, S2, hP⟩ := P1.out.op1 hp
  have P2 := Lib.hid hP
  clear hp hP P1
  go_wp2_with fail
  refine Calls.mono (show Calls Try.prog 13 #[.pointer (some ⟨c, 0, none⟩), .string ⟨#[97]⟩] w3 (CaPost (.agg #[.bool true, .string ⟨#[]⟩, .bool false]) w3 c S2 2 false [x2] 2) from aw2 ▸ request_ca w3 c S2 2 false [x1] 1 sa P2.out.pair.one.ca (by decide) (by omega)) ?_
  intro e w4 hp
  obtain ⟨rfl, S3, hP⟩ := P2.out.op1 hp
  have P3 := Lib.hid (hP.alloc true false ⟨#[]⟩)
  clear hp hP P2
  go_wp2_with fail
  generalize hw5 : w4.alloc (.cells #[.bool true, .string ⟨#[]⟩, .bool false] 34) = w5 at P3 ⊢
  obtain ⟨n4, hn4⟩ : ∃ n, n = w4.heap.size := ⟨_, rfl⟩
  rw [← hn4] at P3 ⊢
  clear hw5 hn4
  refine Calls.mono (show Calls Try.prog 13 #[.pointer (some ⟨c, 0, none⟩), .string ⟨#[98]⟩] w5 (CaPost (.agg #[.bool false, .string ⟨#[]⟩, .bool false]) w5 c S3 2 false [x3, x2] 3) from aw3 ▸ request_ca w5 c S3 2 false [x2] 2 sb P3.out.pair.one.ca (by decide) (by omega)) ?_
  intro e w6 hp
  obtain ⟨rfl, S4, hP⟩ := P3.out.op1 hp
  have P4 := Lib.hid hP
  clear hp hP P3
  go_wp2_with fail
  refine Calls.mono (show Calls Try.prog 13 #[.pointer (some ⟨c, 0, none⟩), .string ⟨#[99]⟩] w6 (CaPost (.agg #[.bool false, .string ⟨#[98]⟩, .bool true]) w6 c S4 2 false [x4, x2] 4) from aw4 ▸ request_ca w6 c S4 2 false [x3, x2] 3 sc P4.out.pair.one.ca (by decide) (by omega)) ?_
  intro e w7 hp
  obtain ⟨rfl, S5, hP⟩ := P4.out.op1 hp
  have P5 := Lib.hid (hP.alloc false true ⟨#[98]⟩)
  clear hp hP P4
  go_wp2_with fail
  generalize hw8 : w7.alloc (.cells #[.bool false, .string ⟨#[98]⟩, .bool true] 34) = w8 at P5 ⊢
  obtain ⟨n7, hn7⟩ : ∃ n, n = w7.heap.size := ⟨_, rfl⟩
  rw [← hn7] at P5 ⊢
  clear hw8 hn7
  refine Calls.mono (show Calls Try.prog 13 #[.pointer (some ⟨d, 0, none⟩), .string ⟨#[97]⟩] w8 (CaPost (.agg #[.bool false, .string ⟨#[]⟩, .bool false]) w8 d D1 3 true [y1] 1) from aw5 ▸ request_ca w8 d D1 3 true [] 0 sa P5.out.pair.two.ca (by decide) (by omega)) ?_
  intro e w9 hp
  obtain ⟨rfl, D2, hP⟩ := P5.out.op2 hp
  have P6 := Lib.hid hP
  clear hp hP P5
  go_wp2_with fail
  refine Calls.mono (show Calls Try.prog 13 #[.pointer (some ⟨d, 0, none⟩), .string ⟨#[98]⟩] w9 (CaPost (.agg #[.bool false, .string ⟨#[]⟩, .bool false]) w9 d D2 3 true [y2, y1] 2) from aw6 ▸ request_ca w9 d D2 3 true [y1] 1 sb P6.out.pair.two.ca (by decide) (by omega)) ?_
  intro e wa hp
  obtain ⟨rfl, D3, hP⟩ := P6.out.op2 hp
  have P7 := Lib.hid hP
  clear hp hP P6
  go_wp2_with fail
  refine Calls.mono (show Calls Try.prog 24 #[.pointer (some ⟨d, 0, none⟩)] wa (ValBelow (.tuple #[.string ⟨#[98]⟩, .bool true]) wa) from victim_ca wa d D3 3 true [y2, y1] 2 P7.out.pair.two.ca) ?_
  rintro e wb ⟨rfl, hB⟩
  have P8 := Lib.hid (P7.out.below hB)
  clear hB P7
  go_wp2_with fail
  refine Calls.mono (show Calls Try.prog 24 #[.pointer (some ⟨c, 0, none⟩)] wb (ValBelow (.tuple #[.string ⟨#[99]⟩, .bool true]) wb) from victim_ca wb c S5 2 false [x4, x2] 4 P8.out.pair.one.ca) ?_
  rintro e wc ⟨rfl, hB⟩
  have P9 := Lib.hid (P8.out.below hB)
  obtain ⟨d1, d2, d3, _, _⟩ := (P9.out.box (n4, true, ⟨#[]⟩, false) (by simp)).1.cells
  obtain ⟨d4, d5, d6, _, _⟩ := (P9.out.box (n7, false, ⟨#[98]⟩, true) (by simp)).1.cells
  simp only at d1 d2 d3 d4 d5 d6
  clear hB P8
  go_wp2_with fail
  refine Calls.mono (show Calls Try.prog 29 #[.pointer (some ⟨c, 0, none⟩), .string ⟨#[97]⟩] wc (ValBelow (.int .i64 2) wc) from times_ca wc c S5 2 false [x4, x2] 4 sa P9.out.pair.one.ca (by decide)) ?_
  rintro e wd ⟨rfl, hB⟩
  have Pa := Lib.hid (P9.out.below hB)
  clear hB P9 d1 d2 d3 d4 d5 d6
  go_wp2_with fail
  refine Calls.mono (show Calls Try.prog 29 #[.pointer (some ⟨c, 0, none⟩), .string ⟨#[98]⟩] wd (ValBelow (.int .i64 0) wd) from times_ca wd c S5 2 false [x4, x2] 4 sb Pa.out.pair.one.ca (by decide)) ?_
  rintro e we ⟨rfl, hB⟩
  have Pb := Lib.hid (Pa.out.below hB)
  clear hB Pa
  go_wp2_with fail
  refine Calls.mono (show Calls Try.prog 18 #[.pointer (some ⟨d, 0, none⟩), .string ⟨#[113]⟩] we (CaPost (.bool true) we d D3 3 true [y3, y2, y1] 3) from aw7 ▸ adopt_ca we d D3 3 true [y2, y1] 2 sq Pb.out.pair.two.ca (by decide) (by omega)) ?_
  intro e wf hp
  obtain ⟨rfl, D4, hP⟩ := Pb.out.op2 hp
  have Pc := Lib.hid hP
  clear hp hP Pb
  go_wp2_with fail
  refine Calls.mono (show Calls Try.prog 18 #[.pointer (some ⟨d, 0, none⟩), .string ⟨#[113]⟩] wf (CaPost (.bool false) wf d D4 3 true [y3, y2, y1] 3) from aw8 ▸ adopt_ca wf d D4 3 true [y3, y2, y1] 3 sq Pc.out.pair.two.ca (by decide) (by omega)) ?_
  intro e wg hp
  obtain ⟨rfl, D5, hP⟩ := Pc.out.op2 hp
  have Pd := Lib.hid hP
  clear hp hP Pc
  go_wp2_with fail
  refine Calls.mono (show Calls Try.prog 14 #[.pointer (some ⟨d, 0, none⟩), .string ⟨#[113]⟩] wg (CaPost (.bool true) wg d D5 3 true [y2, y1] 3) from aw9 ▸ remove_ca wg d D5 3 true [y3, y2, y1] 3 sq Pd.out.pair.two.ca (by decide)) ?_
  intro e wh hp
  obtain ⟨rfl, D6, hP⟩ := Pd.out.op2 hp
  have Pe := Lib.hid hP
  clear hp hP Pd
  go_wp2_with fail
  refine (keys_ca wh c S5 2 false [x4, x2] 4 Pe.out.pair.one.ca).mono ?_
  rintro e wi ⟨v, rfl, hO, hB⟩
  have Pf := Lib.hid (Pe.out.below hB)
  obtain ⟨g, _, hR⟩ := hO.row
  have hb2 := (Below.refl wi.heap.size wi).alloc (Nat.le_refl _) (.cells #[.string ⟨#[99]⟩, .string ⟨#[97]⟩] 9)
  have Pg := Lib.hid (Pf.out.below hb2)
  have U := Lib.hid (show Calls Try.prog 22 #[v, .slice (some ⟨wi.heap.size, 0, none⟩) 2 2] (wi.alloc (.cells #[.string ⟨#[99]⟩, .string ⟨#[97]⟩] 9)) (SamePost true (wi.alloc (.cells #[.string ⟨#[99]⟩, .string ⟨#[97]⟩] 9))) from refSame_any _ g wi.heap.size _ _ [sc, sa] [sc, sa] (hR.below hb2) two_same)
  clear hO hB hR hb2 Pe Pf
  go_wp2_with fail
  refine U.out.mono ?_
  rintro e wj ⟨rfl, m, hwj⟩
  have Ph := Lib.hid (show PB w wj c S5 2 false [x4, x2] 4 d D6 3 true [y2, y1] 3 _ by rw [hwj]; exact Pg.out.below (below_drewN _ m))
  clear hwj Pg U
  go_wp2_with fail
  refine Calls.mono (show Calls Try.prog 28 #[.pointer (some ⟨c, 0, none⟩)] wj (IntPost 2 wj) from len_ca wj c S5 2 false [x4, x2] 4 Ph.out.pair.one.ca) ?_
  rintro e wj ⟨rfl, rfl⟩
  go_wp2_with fail
  refine Calls.mono (show Calls Try.prog 30 #[.pointer (some ⟨c, 0, none⟩), .string ⟨#[97]⟩] wj (ValBelow (.bool true) wj) from has_ca wj c S5 2 false [x4, x2] 4 sa Ph.out.pair.one.ca (by decide)) ?_
  rintro e wk ⟨rfl, hB⟩
  have B9 := Lib.hid (Ph.out.pair.one.bel.trans (hB.mono Ph.out.pair.one.bel.size))
  clear hB Ph
  go_wp2_with fail
  refine (ghostsC wk c).mono ?_
  rintro e wk ⟨rfl, rfl⟩
  go_wp2_with fail
  go_ret
  exact ⟨rfl, B9.out⟩
end Go.Proofs.Ytdbfojolocelaaa
