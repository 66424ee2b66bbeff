/- What both experts do, by closures; a regret. -/
import Derived.Test.YtnlckkahkghneaaGreatDoorLd
set_option maxRecDepth 20000
namespace Go.Proofs.YtnlckkahkghneaaGreatDoor.LE
open Go.RowKit Go.Maps Go.WideMaps Sg

theorem cReq (w : World) (p : Nat) (U : Nat → Prop) (st : KSt) (b x : Nat) (key : ByteArray) (h : Pc w p U st b) (hx : w.cell? ⟨x, 0, none⟩ = some (.string key)) (hs : key.size ≤ maxLen) (hb : b ≤ 900) :
    Calls Tryz.prog 64 #[.pointer (some ⟨p, 0, none⟩), .pointer (some ⟨x, 0, none⟩)] w (PPost (.tuple #[]) w p U (st.req key) (b + 1)) := by
  have V := request_p w p U st b key h hs hb
  unfold KSt.step at V
  have V := Lib.hid V
  clear h
  go_enter Tryz.func64, Tryz.ntmps64
  go_wp2_with fail
  refine V.out.mono ?_
  intro e w1 hp
  obtain ⟨rfl, h1⟩ := hp
  have H1 := Lib.hid h1
  clear h1 V
  go_wp2_with fail
  go_end0
  exact ⟨rfl, H1.out⟩
theorem cReqE (args : Array Value) (w : World) : (callFunc 64 args).run Tryz.prog w = .ok (.enter 64 args) w := run_enter9 Tryz.func64 (by kernel_rfl) rfl args w
theorem cRmR (w : World) (p : Nat) (U : Nat → Prop) (st : KSt) (b x : Nat) (key : ByteArray) (h : Pc w p U st b) (hx : w.cell? ⟨x, 0, none⟩ = some (.string key)) (hs : key.size ≤ maxLen)  :
    Calls Tryz.prog 70 #[.pointer (some ⟨p, 0, none⟩), .pointer (some ⟨x, 0, none⟩)] w (PPost (.tuple #[]) w p U (st.rm key) b) := by
  have V := remove_p w p U st b key h hs
  have V := Lib.hid V
  clear h
  go_enter Tryz.func70, Tryz.ntmps70
  go_wp2_with fail
  refine V.out.mono ?_
  intro e w1 hp
  obtain ⟨rfl, h1⟩ := hp
  have H1 := Lib.hid h1
  clear h1 V
  go_wp2_with fail
  go_end0
  exact ⟨rfl, H1.out⟩
theorem cRmRE (args : Array Value) (w : World) : (callFunc 70 args).run Tryz.prog w = .ok (.enter 70 args) w := run_enter9 Tryz.func70 (by kernel_rfl) rfl args w
theorem cRmE (w : World) (p : Nat) (U : Nat → Prop) (st : KSt) (b x : Nat) (key : ByteArray) (h : Pc w p U st b) (hx : w.cell? ⟨x, 0, none⟩ = some (.string key)) (hs : key.size ≤ maxLen)  :
    Calls Tryz.prog 172 #[.pointer (some ⟨p, 0, none⟩), .pointer (some ⟨x, 0, none⟩)] w (PPost (.tuple #[]) w p U (st.rm key) b) := by
  have V := remove_p w p U st b key h hs
  have V := Lib.hid V
  clear h
  go_enter Tryz.func172, Tryz.ntmps172
  go_wp2_with fail
  refine V.out.mono ?_
  intro e w1 hp
  obtain ⟨rfl, h1⟩ := hp
  have H1 := Lib.hid h1
  clear h1 V
  go_wp2_with fail
  go_end0
  exact ⟨rfl, H1.out⟩
theorem cRmEE (args : Array Value) (w : World) : (callFunc 172 args).run Tryz.prog w = .ok (.enter 172 args) w := run_enter9 Tryz.func172 (by kernel_rfl) rfl args w
theorem cAdA (w : World) (p : Nat) (U : Nat → Prop) (st : KSt) (b x : Nat) (key : ByteArray) (h : Pc w p U st b) (hx : w.cell? ⟨x, 0, none⟩ = some (.string key)) (hs : key.size ≤ maxLen) (hb : b ≤ 900) :
    Calls Tryz.prog 75 #[.pointer (some ⟨p, 0, none⟩), .pointer (some ⟨x, 0, none⟩)] w (PPost (.tuple #[]) w p U (st.ad key) (b + 1)) := by
  have V := adopt_p w p U st b key h hs hb
  have V := Lib.hid V
  clear h
  go_enter Tryz.func75, Tryz.ntmps75
  go_wp2_with fail
  refine V.out.mono ?_
  intro e w1 hp
  obtain ⟨rfl, h1⟩ := hp
  have H1 := Lib.hid h1
  clear h1 V
  go_wp2_with fail
  go_end0
  exact ⟨rfl, H1.out⟩
theorem cAdAE (args : Array Value) (w : World) : (callFunc 75 args).run Tryz.prog w = .ok (.enter 75 args) w := run_enter9 Tryz.func75 (by kernel_rfl) rfl args w
theorem cAdF (w : World) (p : Nat) (U : Nat → Prop) (st : KSt) (b x : Nat) (key : ByteArray) (h : Pc w p U st b) (hx : w.cell? ⟨x, 0, none⟩ = some (.string key)) (hs : key.size ≤ maxLen) (hb : b ≤ 900) :
    Calls Tryz.prog 117 #[.pointer (some ⟨p, 0, none⟩), .pointer (some ⟨x, 0, none⟩)] w (PPost (.tuple #[]) w p U (st.ad key) (b + 1)) := by
  have V := adopt_p w p U st b key h hs hb
  have V := Lib.hid V
  clear h
  go_enter Tryz.func117, Tryz.ntmps117
  go_wp2_with fail
  refine V.out.mono ?_
  intro e w1 hp
  obtain ⟨rfl, h1⟩ := hp
  have H1 := Lib.hid h1
  clear h1 V
  go_wp2_with fail
  go_end0
  exact ⟨rfl, H1.out⟩
theorem cAdFE (args : Array Value) (w : World) : (callFunc 117 args).run Tryz.prog w = .ok (.enter 117 args) w := run_enter9 Tryz.func117 (by kernel_rfl) rfl args w
/-- A closure that turns a policy's size. -/
theorem cRes (w : World) (p : Nat) (U : Nat → Prop) (st : KSt) (b x n : Nat) (h : Pc w p U st b) (hx : w.cell? ⟨x, 0, none⟩ = some (.int .i64 (n : Int))) (hb : b ≤ 900) (hn : n ≤ 16777216) :
    Calls Tryz.prog 77 #[.pointer (some ⟨p, 0, none⟩), .pointer (some ⟨x, 0, none⟩)] w (PPost (.tuple #[]) w p U (st.rs n) b) := by
  have V := Lib.hid (resize_p w p U st b n h hb hn)
  clear h
  go_enter Tryz.func77, Tryz.ntmps77
  go_wp2_with fail
  refine V.out.mono ?_
  rintro e w1 ⟨v, U', rfl, hO, h1, h2, h3⟩
  have H1 := Lib.hid (And.intro h1 h2)
  clear hO h1 h2 h3 V
  go_wp2_with fail
  go_end0
  exact ⟨rfl, U', H1.out.1, H1.out.2⟩
theorem cResE (args : Array Value) (w : World) : (callFunc 77 args).run Tryz.prog w = .ok (.enter 77 args) w := run_enter9 Tryz.func77 (by kernel_rfl) rfl args w

/-- What both experts do leaves the rest as it was. -/
theorem both_r (w : World) (i : Ix) (S : Sx) (F : Fl) (A B A' B' : KSt) (G H : List ByteArray) (f : ByteArray → Option Nat) (b c : Nat → Nat) (Fn : FuncId) (x : Nat) (v : Value) (r : Raw w i S F (pts A B G H f) b)
    (hx : w.cell? ⟨x, 0, none⟩ = some v) (hn : ¬ blk i S x) (hF : ∀ args w, (callFunc Fn args).run Tryz.prog w = .ok (.enter Fn args) w) (hc : ∀ j, j < 5 → b j ≤ c j)
    (cA : ∀ w1 p U, Pc w1 p U A (b 0) → w1.cell? ⟨x, 0, none⟩ = some v → Calls Tryz.prog Fn #[.pointer (some ⟨p, 0, none⟩), .pointer (some ⟨x, 0, none⟩)] w1 (PPost (.tuple #[]) w1 p U A' (c 0)))
    (cB : ∀ w1 p U, Pc w1 p U B (b 1) → w1.cell? ⟨x, 0, none⟩ = some v → Calls Tryz.prog Fn #[.pointer (some ⟨p, 0, none⟩), .pointer (some ⟨x, 0, none⟩)] w1 (PPost (.tuple #[]) w1 p U B' (c 1))) :
    Calls Tryz.prog 63 #[.pointer (some ⟨i.l, 0, none⟩), .func (.func Fn) #[] #[.pointer (some ⟨x, 0, none⟩)]] w (fun e w' => e = .returned (.tuple #[]) ∧ ∃ S', Raw w' i S' F (pts A' B' G H f) c ∧ Went w w' (blk i S) (blk i S') ∧ ¬ blk i S' x ∧ w'.cell? ⟨x, 0, none⟩ = some v) := by
  have hxl : x < w.heap.size := World.block_lt_of_cell? _ _ hx
  refine both_any w i.l (i.r 0) (i.r 1) Fn ⟨x, 0, none⟩ (fun w1 => ∃ S1, Raw w1 i S1 F (pts A' B G H f) (fun j => if j = 0 then c 0 else b j) ∧ Went w w1 (blk i S) (blk i S1)) _ (r.c 2 rfl) (r.c 3 rfl) hF ?_ ?_
  · refine (cA w _ _ r.pa hx).mono ?_
    intro e w1 hp
    obtain ⟨he, S1, h1, h2⟩ := r.onA (b' := fun j => if j = 0 then c 0 else b j) hp (by rw [if_pos rfl]; exact Nat.le_refl _) (fun j _ hj => by rw [if_neg hj]; exact Nat.le_refl _)
    exact ⟨he, S1, h1, h2⟩
  · rintro w1 ⟨S1, h1, h2⟩
    have o := SR.went_out h2 hxl hn
    have hx1 : w1.cell? ⟨x, 0, none⟩ = some v := (World.cell?_of_block (a := ⟨x, 0, none⟩) o.1).trans hx
    have hxl1 : x < w1.heap.size := World.block_lt_of_cell? _ _ hx1
    refine (cB w1 _ _ h1.pb hx1).mono ?_
    intro e w2 hp
    obtain ⟨he, S2, h3, h4⟩ := h1.onB (b' := c) hp (Nat.le_refl _) (fun j hj _ => by
      split
      · rename_i e; subst e; exact Nat.le_refl _
      · exact hc j hj)
    have o2 := SR.went_out h4 hxl1 o.2
    exact ⟨he, S2, h3, h2.trans h4, o2.2, (World.cell?_of_block (a := ⟨x, 0, none⟩) o2.1).trans hx1⟩
/-- A weight's two parts in a block of their own. -/
def WBox (w : World) (g a c : Nat) : Prop := w.heap[g]? = some (.cells #[.int .u64 (a : Int), .int .u64 (c : Int)] 275 (0, 0))
theorem WBox.cells {w : World} {g a c : Nat} (h : WBox w g a c) : w.cell? ⟨g, 0, none⟩ = some (.int .u64 (a : Int)) ∧ w.cell? ⟨g, 1, none⟩ = some (.int .u64 (c : Int)) ∧ w.frozen? ⟨g, 0, none⟩ = false ∧ w.frozen? ⟨g, 1, none⟩ = false :=
  ⟨cell_of_row w _ 0 _ _ _ h, cell_of_row w _ 1 _ _ _ h, frozen_of_row w _ 0 _ _ h, frozen_of_row w _ 1 _ _ h⟩
theorem WBox.set0 {w : World} {g a c : Nat} (h : WBox w g a c) (n : Nat) : WBox (w.setCell ⟨g, 0, none⟩ (.int .u64 (n : Int))) g n c := by unfold WBox at *; rw [heap_setCell_same _ _ _ _ _ _ h]; rfl
theorem WBox.set1 {w : World} {g a c : Nat} (h : WBox w g a c) (n : Nat) : WBox (w.setCell ⟨g, 1, none⟩ (.int .u64 (n : Int))) g a n := by unfold WBox at *; rw [heap_setCell_same _ _ _ _ _ _ h]; rfl
theorem WBox.below {w w' : World} {g a c : Nat} (h : WBox w g a c) (hb : Below w.heap.size w w') : WBox w' g a c := (hb.block g (Array.getElem?_eq_some_iff.1 h).1).trans h
end Go.Proofs.YtnlckkahkghneaaGreatDoor.LE
