/- The laws' own helper awake at this program: it returns true, whatever the memory; what was there is as it was. -/
import Derived.Test.YtfjbancceodhhaaHvS
namespace Go.Proofs.Ytfjbancceodhhaa
open Go.RowKit Ht HS

def RetB (b : Bool) (w : World) (e : Ending) (w' : World) : Prop := e = .returned (.bool b) ∧ Below w.heap.size w w'
theorem below_drewN (w : World) (n : Nat) : Below w.heap.size w (w.drewN n) := ⟨rfl, rfl, rfl, Nat.le_refl _, fun _ _ => rfl⟩

theorem eqlR (w : World) (a b c d : Int) : (binOp .eql 28 (.agg #[.int .i64 a, .int .i64 b]) (.agg #[.int .i64 c, .int .i64 d])).run Try.prog w = .ok (.bool (decide (a = c) && decide (b = d))) w := by
  have u3 := Try.underlying3
  have a3 := Try.isAgg3
  have z3 := Try.sizeOf3
  have hS : Try.prog.underlying 28 = some (.struct (Try.prog.fieldsOf 28)) := by kernel_rfl
  have hp : Try.prog.stoodInHeld 28 = false := by kernel_rfl
  rw [run_eql_struct, show (10000 : Nat) = 9999 + 1 from rfl, run_equalIn_agg w 9999 28 _ _ hS hp]
  simp only [Program.fieldsOf, Try.underlying28]
  go_simp
  by_cases h1 : a = c <;> by_cases h2 : b = d <;> simp [h1, h2]

/-- A rank in a variable beside a heap. -/
def Box (w : World) (S : Nat → Prop) (b : Nat) (r1 r2 : Int) : Prop := w.heap[b]? = some (.cells #[.int .i64 r1, .int .i64 r2] 28 (0, 0)) ∧ ¬ S b
section
variable {w w' : World} {h c b : Nat} {S S' : Nat → Prop} {L : List (Ent Key)} {r1 r2 : Int}
theorem Box.made (hs : HS w h S L c) (hb : w.heap.size ≤ w'.heap.size) (r1 r2 : Int) : Box (w'.alloc (.cells #[.int .i64 r1, .int .i64 r2] 28 (0, 0))) S w'.heap.size r1 r2 :=
  ⟨heap_alloc_new _ _, fun hS => by have := hs.lt hS; omega⟩
theorem Box.lt (x : Box w S b r1 r2) : b < w.heap.size := (Array.getElem?_eq_some_iff.1 x.1).1
theorem Box.below (x : Box w S b r1 r2) (hb : Below w.heap.size w w') : Box w' S b r1 r2 := ⟨(hb.block b x.lt).trans x.1, x.2⟩
theorem Box.turn (x : Box w S b r1 r2) (ht : Turn S w w') (hs : ∀ k, S' k → S k ∨ w.heap.size ≤ k) : Box w' S' b r1 r2 :=
  ⟨(ht.block b x.lt x.2).trans x.1, fun hS => by rcases hs b hS with h | h; exact x.2 h; have := x.lt; omega⟩
theorem Box.c0 (x : Box w S b r1 r2) : w.cell? ⟨b, 0, none⟩ = some (.int .i64 r1) := cell_of_row w _ 0 _ _ _ x.1
theorem Box.c1 (x : Box w S b r1 r2) : w.cell? ⟨b, 1, none⟩ = some (.int .i64 r2) := cell_of_row w _ 1 _ _ _ x.1
end

def sa : ByteArray := ⟨#[97]⟩
def sb : ByteArray := ⟨#[98]⟩
def sc : ByteArray := ⟨#[99]⟩
def e1 : Ent Key := ⟨sa, 2, 0, 1⟩
def e2 : Ent Key := ⟨sb, 1, 9, 2⟩
def e3 : Ent Key := ⟨sc, 2, 0, 3⟩

set_option maxHeartbeats 2000000 in
set_option maxRecDepth 100000 in
theorem awake_any (w : World) : Calls Try.prog 8 #[] w (RetB true w) := by
  have hq := fun w => eqlR w 1 9 1 9
  have hg := guardR
  go_enter Try.func8, Try.ntmps8
  go_wp2_with fail
  refine (new_any w).mono ?_
  rintro e w1 ⟨h, S, rfl, hH, hS, hB⟩
  have L1 := Lib.hid (Live.made (Below.refl _ _) hH hS hB)
  clear hH hS hB
  go_wp2_with fail
  refine (set_any w1 h S [] 0 sa 2 0 L1.out.hs (show sa.size ≤ maxLen by decide) (by simp) (by omega)).mono ?_
  intro e w2 hp
  obtain ⟨rfl, S2, hL, _, _⟩ := L1.out.op hp
  have L2 := Lib.hid (show Live w w2 h S2 [e1] 1 from hL)
  clear hp hL L1
  go_wp2_with fail
  refine (set_any w2 h S2 [e1] 1 sb 1 9 L2.out.hs (show sb.size ≤ maxLen by decide) (by simp) (by omega)).mono ?_
  intro e w3 hp
  obtain ⟨rfl, S3, hL, _, _⟩ := L2.out.op hp
  have L3 := Lib.hid (show Live w w3 h S3 [e2, e1] 2 from hL)
  clear hp hL L2
  go_wp2_with fail
  refine (set_any w3 h S3 [e2, e1] 2 sc 2 0 L3.out.hs (show sc.size ≤ maxLen by decide) (by simp) (by omega)).mono ?_
  intro e w4 hp
  obtain ⟨rfl, S4, hL, _, _⟩ := L3.out.op hp
  have L4 := Lib.hid (show Live w w4 h S4 [e2, e1, e3] 3 from hL)
  clear hp hL L3
  go_wp2_with fail
  refine Calls.mono (show Calls Try.prog 17 #[.pointer (some ⟨h, 0, none⟩)] w4 (ValBelow (.tuple #[.string ⟨#[98]⟩, .agg #[.int .i64 1, .int .i64 9], .bool true]) w4) from least_any w4 h S4 _ 3 L4.out.hs) ?_
  rintro e w5 ⟨rfl, hb⟩
  have L5 := Lib.hid (L4.out.below (hb.alloc hb.size (.cells #[.int .i64 1, .int .i64 9] 28 (0, 0))))
  have X5 := Lib.hid (Box.made L4.out.hs hb.size 1 9)
  clear hb L4
  go_wp2_with fail
  generalize w5.alloc (.cells #[.int .i64 1, .int .i64 9] 28 (0, 0)) = w6 at L5 X5 ⊢
  generalize w5.heap.size = bx at X5 ⊢
  refine Calls.mono (show Calls Try.prog 16 #[.pointer (some ⟨h, 0, none⟩), .string ⟨#[97]⟩] w6 (ValBelow (.tuple #[.agg #[.int .i64 2, .int .i64 0], .bool true]) w6) from rank_any w6 h S4 [e2, e1, e3] 3 sa L5.out.hs (show sa.size ≤ maxLen by decide)) ?_
  rintro e w7 ⟨rfl, hb⟩
  have L6 := Lib.hid (L5.out.below (hb.alloc hb.size (.cells #[.int .i64 2, .int .i64 0] 28 (0, 0))))
  have X6 := Lib.hid (X5.out.below (hb.alloc hb.size (.cells #[.int .i64 2, .int .i64 0] 28 (0, 0))))
  have Y6 := Lib.hid (Box.made L5.out.hs hb.size 2 0)
  clear hb L5 X5
  go_wp2_with fail
  generalize w7.alloc (.cells #[.int .i64 2, .int .i64 0] 28 (0, 0)) = w8 at L6 X6 Y6 ⊢
  generalize w7.heap.size = by' at Y6 ⊢
  refine Calls.mono (show Calls Try.prog 19 #[.pointer (some ⟨h, 0, none⟩)] w8 (RowPost [sb, sa, sc] w8) from order_any w8 h S4 [e2, e1, e3] 3 L6.out.hs) ?_
  rintro e w9 ⟨v, rfl, hO, hb⟩
  have L7 := Lib.hid (L6.out.below hb)
  have X7 := Lib.hid (X6.out.below hb)
  have Y7 := Lib.hid (Y6.out.below hb)
  have M7 := Lib.hid (Mine.of hO L6.out.hs)
  clear hO hb L6 X6 Y6
  go_wp2_with fail
  refine Calls.mono (show Calls Try.prog 15 #[.pointer (some ⟨h, 0, none⟩)] w9 (OpPost (.tuple #[.string ⟨#[98]⟩, .bool true]) w9 h S4 [e1, e3] 3) from pop_any w9 h S4 [e2, e1, e3] 3 L7.out.hs) ?_
  intro e wa hp
  obtain ⟨rfl, Sa, hL, hS, hT⟩ := L7.out.op hp
  have La := Lib.hid hL
  have Xa := Lib.hid (X7.out.turn hT hS)
  have Ya := Lib.hid (Y7.out.turn hT hS)
  have Ma := Lib.hid (M7.out.turn hT hS)
  clear hp hL hS hT L7 X7 Y7 M7
  have x0 := Xa.out.c0
  have x1 := Xa.out.c1
  have y0 := Ya.out.c0
  have y1 := Ya.out.c1
  obtain ⟨g, cap, rfl, hg, _, hc1, hc2, m1⟩ := Ma.out.at (j := 1) (x := sa) rfl
  obtain ⟨g2, _, hv, _, _, _, _, m2⟩ := Ma.out.at (j := 2) (x := sc) rfl
  have hgg : g2 = g := by
    injection hv with hv _ _
    injection hv with hv
    injection hv with hv
    exact hv.symm
  rw [hgg] at m2
  replace hc1 : 3 ≤ cap := hc1
  have hl3 : [sb, sa, sc].length = 3 := rfl
  rw [hl3]
  replace m1 : wa.cell? ⟨g, 1, none⟩ = some (.string ⟨#[97]⟩) := m1
  replace m2 : wa.cell? ⟨g, 2, none⟩ = some (.string ⟨#[99]⟩) := m2
  clear hv hgg
  unfold maxLen at hc2
  clear hl3
  go_wp2_with fail
  refine Calls.mono (show Calls Try.prog 18 #[.pointer (some ⟨h, 0, none⟩)] wa (IntPost 2 wa) from len_any wa h Sa [e1, e3] 3 La.out.hs) ?_
  rintro e wb ⟨rfl, rfl⟩
  go_wp2_with fail
  refine Calls.mono (show Calls Try.prog 13 #[.pointer (some ⟨h, 0, none⟩), .string ⟨#[99]⟩] wa (OpPost (.bool true) wa h Sa [e1] 3) from remove_any wa h Sa [e1, e3] 3 sc La.out.hs (show sc.size ≤ maxLen by decide)) ?_
  intro e wc hp
  obtain ⟨rfl, Sc, hL, hS, hT⟩ := La.out.op hp
  have Lc := Lib.hid hL
  have Yc := Lib.hid (Ya.out.turn hT hS)
  clear hp hL hS hT La Xa Ya Ma x0 x1 y0 y1 m1 m2
  go_wp2_with fail
  refine Calls.mono (show Calls Try.prog 13 #[.pointer (some ⟨h, 0, none⟩), .string ⟨#[99]⟩] wc (OpPost (.bool false) wc h Sc [e1] 3) from remove_any wc h Sc [e1] 3 sc Lc.out.hs (show sc.size ≤ maxLen by decide)) ?_
  intro e wd hp
  obtain ⟨rfl, Sd, hL, hS, hT⟩ := Lc.out.op hp
  have Ld := Lib.hid hL
  have Yd := Lib.hid (Yc.out.turn hT hS)
  clear hp hL hS hT Lc Yc
  have y0 := Yd.out.c0
  have y1 := Yd.out.c1
  go_wp2_with fail
  refine Calls.mono (show Calls Try.prog 20 #[.agg #[.int .i64 2, .int .i64 0], .agg #[.int .i64 2, .int .i64 1]] wd (BoolGrw true wd) from less_any wd 2 0 2 1) ?_
  rintro e we ⟨rfl, hG⟩
  have Le := Lib.hid (Ld.out.below hG.below)
  clear hG y0 y1
  go_wp2_with fail
  go_ret
  exact ⟨rfl, Le.out.bel⟩
end Go.Proofs.Ytfjbancceodhhaa
