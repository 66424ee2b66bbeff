/- The contracts of the reference's New, Request, Adopt, Resize of layer 5. -/
import Derived.Test.YthbokiebnniifaaCut5
import Derived.Test.YthbokiebnniifaaTwoB
namespace Go.Proofs.Ythbokiebnniifaa
open Go.RowKit Sg

/-- The reference's cache in a variable. -/
def CBox (w : World) (p mo : Nat) (v : Value) : Prop := w.heap[p]? = some (.cells #[.int .i64 (mo : Int), v] 29 (0, 0))
section
variable {w w' : World} {p mo : Nat} {v : Value}
theorem CBox.lt (k : CBox w p mo v) : p < w.heap.size := (Array.getElem?_eq_some_iff.1 k).1
theorem CBox.four (k : CBox w p mo v) : w.cell? ⟨p, 0, none⟩ = some (.int .i64 (mo : Int)) ∧ w.cell? ⟨p, 1, none⟩ = some v ∧ w.frozen? ⟨p, 0, none⟩ = false ∧ w.frozen? ⟨p, 1, none⟩ = false :=
  ⟨cell_of_row w _ 0 _ _ _ k, cell_of_row w _ 1 _ _ _ k, frozen_of_row w _ 0 _ _ k, frozen_of_row w _ 1 _ _ k⟩
theorem CBox.below (k : CBox w p mo v) (hb : Below w.heap.size w w') : CBox w' p mo v := (hb.block p k.lt).trans k
theorem CBox.other (k : CBox w p mo v) {q : Addr} (hq : p ≠ q.block) (u : Value) : CBox (w.setCell q u) p mo v := (Below.heap_setCell _ _ _ _ hq).trans k
theorem CBox.setL (k : CBox w p mo v) (u : Value) : CBox (w.setCell ⟨p, 1, none⟩ u) p mo u := by
  unfold CBox at *
  rw [heap_setCell_same _ _ _ _ _ _ k]; rfl
theorem CBox.setM (k : CBox w p mo v) (m : Nat) : CBox (w.setCell ⟨p, 0, none⟩ (.int .i64 (m : Int))) p m v := by
  unfold CBox at *
  rw [heap_setCell_same _ _ _ _ _ _ k]; rfl
theorem CBox.put (k : CBox w p mo v) (m : Nat) (u : Value) : CBox ((w.setCell ⟨p, 0, none⟩ (.int .i64 (m : Int))).setCell ⟨p, 1, none⟩ u) p m u := (k.setM m).setL u
theorem CBox.drew (k : CBox w p mo v) : CBox w.drew p mo v := k
theorem Box.other {sb : Nat} {h o : Bool} {s : ByteArray} (k : Box w sb h s o) {q : Addr} (hq : sb ≠ q.block) (u : Value) : Box (w.setCell q u) sb h s o := (Below.heap_setCell _ _ _ _ hq).trans k
theorem Box.drew {sb : Nat} {h o : Bool} {s : ByteArray} (k : Box w sb h s o) : Box w.drew sb h s o := k
theorem Box.bel {sb : Nat} {h o : Bool} {s : ByteArray} (k : Box w sb h s o) (hb : Below w.heap.size w w') : Box w' sb h s o := (hb.block sb k.lt).trans k
theorem Box.setH {sb : Nat} {h o : Bool} {s : ByteArray} (k : Box w sb h s o) (h' : Bool) : Box (w.setCell ⟨sb, 0, none⟩ (.bool h')) sb h' s o := by
  unfold Box at *
  rw [heap_setCell_same _ _ _ _ _ _ k]; rfl
end
theorem load_c {w : World} {p mo n c : Nat} {A : Option Addr} (k : CBox w p mo (.slice A n c)) : (loadVar 29 ⟨p, 0, none⟩).run Try.prog w = .ok (.agg #[.int .i64 (mo : Int), .slice A n c]) w := by
  obtain ⟨k0, k1, _, _⟩ := k.four
  unfold loadVar
  go_simp

def RNew (mo : Nat) (w : World) (e : Ending) (w' : World) : Prop := e = .returned (.agg #[.int .i64 (mo : Int), .slice none 0 0]) ∧ Below w.heap.size w w'
theorem rnew_pos (w : World) (n : Nat) (hz : n ≤ 9223372036854775807) : Calls Try.prog 12 #[.int .i64 (n : Int)] w (RNew n w) := by
  have k := heap_alloc_new w (.cells #[.int .i64 (n : Int), .slice none 0 0] 29)
  have h0 : ¬ ((n : Int) < 0) := by omega
  have K := Lib.hid (show CBox _ _ n (.slice none 0 0) from k)
  clear k
  go_enter Try.func12, Try.ntmps12
  go_wp2_with fail
  refine bodyPost_ret (results_c rfl _ _ _ ⟨w.heap.size, 0, none⟩ _ rfl (load_c K.out)) rfl ?_
  exact ⟨rfl, (Below.refl _ _).alloc (Nat.le_refl _) _⟩
theorem rnew_neg (w : World) (z : Int) (hz : -9223372036854775808 ≤ z) (h0 : z < 0) : Calls Try.prog 12 #[.int .i64 z] w (RNew 0 w) := by
  have k := heap_alloc_new w (.cells #[.int .i64 ((0 : Nat) : Int), .slice none 0 0] 29)
  have e0 : decide (z < 0) = true := by simpa using h0
  have K := Lib.hid (show CBox _ _ 0 (.slice none 0 0) from k)
  clear k
  go_enter Try.func12, Try.ntmps12
  go_wp2_with fail
  refine bodyPost_ret (results_c rfl _ _ _ ⟨w.heap.size, 0, none⟩ _ rfl (load_c K.out)) rfl ?_
  exact ⟨rfl, (Below.refl _ _).alloc (Nat.le_refl _) _⟩
theorem rnew_any (w : World) (z : Int) (hz : -9223372036854775808 ≤ z ∧ z ≤ 9223372036854775807) : Calls Try.prog 12 #[.int .i64 z] w (RNew z.toNat w) := by
  by_cases h0 : z < 0
  · rw [show z.toNat = 0 by omega]; exact rnew_neg w z hz.1 h0
  · obtain ⟨n, rfl⟩ : ∃ n : Nat, z = (n : Int) := ⟨z.toNat, by omega⟩
    exact rnew_pos w n (by omega)

/-- The variables of a request under way: the cache, the two results, the step. -/
structure Rv (w W : World) (p0 p1 p2 p3 mo : Nat) (v : Value) (h : Bool) (s : ByteArray) (o : Bool) : Prop where
  c : CBox W p0 mo v
  r1 : CBox W p1 0 (.slice none 0 0)
  r2 : Box W p2 false ⟨#[]⟩ false
  s : Box W p3 h s o
  bel : Below w.heap.size w W
  ne : (p0 ≠ p1 ∧ p0 ≠ p2 ∧ p0 ≠ p3) ∧ (p1 ≠ p0 ∧ p1 ≠ p2 ∧ p1 ≠ p3) ∧ (p2 ≠ p0 ∧ p2 ≠ p1 ∧ p2 ≠ p3) ∧ (p3 ≠ p0 ∧ p3 ≠ p1 ∧ p3 ≠ p2)
  low : w.heap.size ≤ p0 ∧ w.heap.size ≤ p1 ∧ w.heap.size ≤ p2 ∧ w.heap.size ≤ p3
abbrev rv0 (w : World) (mo : Nat) (v : Value) : World := (((w.alloc (.cells #[.int .i64 (mo : Int), v] 29)).alloc (.cells #[.int .i64 0, .slice none 0 0] 29)).alloc (.cells #[.bool false, .string ⟨#[]⟩, .bool false] 34)).alloc (.cells #[.bool false, .string ⟨#[]⟩, .bool false] 34)
theorem rv_start (w : World) (mo : Nat) (v : Value) : Rv w (rv0 w mo v) w.heap.size (w.heap.size + 1) (w.heap.size + 1 + 1) (w.heap.size + 1 + 1 + 1) mo v false ⟨#[]⟩ false := by
  have a1 : (w.alloc (.cells #[.int .i64 (mo : Int), v] 29)).heap.size = w.heap.size + 1 := by simp
  have a2 : ((w.alloc (.cells #[.int .i64 (mo : Int), v] 29)).alloc (.cells #[.int .i64 0, .slice none 0 0] 29)).heap.size = w.heap.size + 1 + 1 := by simp
  have a3 : (((w.alloc (.cells #[.int .i64 (mo : Int), v] 29)).alloc (.cells #[.int .i64 0, .slice none 0 0] 29)).alloc (.cells #[.bool false, .string ⟨#[]⟩, .bool false] 34)).heap.size = w.heap.size + 1 + 1 + 1 := by simp
  have b1 := heap_alloc_new w (.cells #[.int .i64 (mo : Int), v] 29)
  have b2 := heap_alloc_new (w.alloc (.cells #[.int .i64 (mo : Int), v] 29)) (.cells #[.int .i64 0, .slice none 0 0] 29)
  have b3 := heap_alloc_new ((w.alloc (.cells #[.int .i64 (mo : Int), v] 29)).alloc (.cells #[.int .i64 0, .slice none 0 0] 29)) (.cells #[.bool false, .string ⟨#[]⟩, .bool false] 34)
  have b4 := heap_alloc_new (((w.alloc (.cells #[.int .i64 (mo : Int), v] 29)).alloc (.cells #[.int .i64 0, .slice none 0 0] 29)).alloc (.cells #[.bool false, .string ⟨#[]⟩, .bool false] 34)) (.cells #[.bool false, .string ⟨#[]⟩, .bool false] 34)
  rw [a1] at b2
  rw [a2] at b3
  rw [a3] at b4
  refine ⟨?_, ?_, ?_, b4, ?_, by omega, by omega⟩
  · exact (Below.heap_alloc _ _ _ (by omega)).trans ((Below.heap_alloc _ _ _ (by omega)).trans ((Below.heap_alloc _ _ _ (by omega)).trans b1))
  · exact (Below.heap_alloc _ _ _ (by omega)).trans ((Below.heap_alloc _ _ _ (by omega)).trans b2)
  · exact (Below.heap_alloc _ _ _ (by omega)).trans b3
  · exact ((((Below.refl _ _).alloc (Nat.le_refl _) _).alloc (by omega) _).alloc (by omega) _).alloc (by omega) _
section
variable {w W W' : World} {p0 p1 p2 p3 mo : Nat} {v : Value} {h o : Bool} {s : ByteArray}
theorem Rv.hit (r : Rv w W p0 p1 p2 p3 mo v h s o) (h' : Bool) : Rv w (W.setCell ⟨p3, 0, none⟩ (.bool h')) p0 p1 p2 p3 mo v h' s o :=
  ⟨r.c.other r.ne.1.2.2 _, r.r1.other r.ne.2.1.2.2 _, r.r2.other r.ne.2.2.1.2.2 _, r.s.setH h', r.bel.setCell (p := ⟨p3, 0, none⟩) r.low.2.2.2 _, r.ne, r.low⟩
theorem Rv.vic (r : Rv w W p0 p1 p2 p3 mo v h s o) (x : ByteArray) : Rv w ((W.setCell ⟨p3, 1, none⟩ (.string x)).setCell ⟨p3, 2, none⟩ (.bool true)) p0 p1 p2 p3 mo v h x true :=
  ⟨(r.c.other r.ne.1.2.2 _).other r.ne.1.2.2 _, (r.r1.other r.ne.2.1.2.2 _).other r.ne.2.1.2.2 _, (r.r2.other r.ne.2.2.1.2.2 _).other r.ne.2.2.1.2.2 _, r.s.set x, (r.bel.setCell (p := ⟨p3, 1, none⟩) r.low.2.2.2 _).setCell (p := ⟨p3, 2, none⟩) r.low.2.2.2 _, r.ne, r.low⟩
theorem Rv.setL (r : Rv w W p0 p1 p2 p3 mo v h s o) (u : Value) : Rv w (W.setCell ⟨p0, 1, none⟩ u) p0 p1 p2 p3 mo u h s o :=
  ⟨r.c.setL u, r.r1.other r.ne.2.1.1 _, r.r2.other r.ne.2.2.1.1 _, r.s.other r.ne.2.2.2.1 _, r.bel.setCell (p := ⟨p0, 1, none⟩) r.low.1 _, r.ne, r.low⟩
theorem Rv.below (r : Rv w W p0 p1 p2 p3 mo v h s o) (hb : Below W.heap.size W W') : Rv w W' p0 p1 p2 p3 mo v h s o :=
  ⟨r.c.below hb, r.r1.below hb, r.r2.bel hb, r.s.bel hb, r.bel.trans (hb.mono r.bel.size), r.ne, r.low⟩
/-- The results are written. -/
theorem Rv.out (r : Rv w W p0 p1 p2 p3 mo v h s o) (W' : World) (hW : W' = ((((W.setCell ⟨p1, 0, none⟩ (.int .i64 (mo : Int))).setCell ⟨p1, 1, none⟩ v).setCell ⟨p2, 0, none⟩ (.bool h)).setCell ⟨p2, 1, none⟩ (.string s)).setCell ⟨p2, 2, none⟩ (.bool o)) :
    CBox W' p1 mo v ∧ Box W' p2 h s o ∧ Below w.heap.size w W' := by
  subst hW
  refine ⟨((r.r1.put mo v).other r.ne.2.1.2.1 _ |>.other r.ne.2.1.2.1 _).other r.ne.2.1.2.1 _, ?_, ?_⟩
  · exact Box.put ((r.r2.other r.ne.2.2.1.2.1 _).other r.ne.2.2.1.2.1 _) h o s
  · exact ((((r.bel.setCell (p := ⟨p1, 0, none⟩) r.low.2.1 _).setCell (p := ⟨p1, 1, none⟩) r.low.2.1 _).setCell (p := ⟨p2, 0, none⟩) r.low.2.2.1 _).setCell (p := ⟨p2, 1, none⟩) r.low.2.2.1 _).setCell (p := ⟨p2, 2, none⟩) r.low.2.2.1 _
end

/-- What Request of the reference leaves. -/
def RqPost (w : World) (g mo : Nat) (st : Value) (xs : List ByteArray) (e : Ending) (w' : World) : Prop := ∃ A n c g', e = .returned (.tuple #[.agg #[.int .i64 (mo : Int), .slice A n c], st]) ∧ Row w' g' (.slice A n c) xs ∧ (g' = g ∨ w.heap.size ≤ g') ∧ Below w.heap.size w w'

theorem Row.set {W : World} {g : Nat} {v : Value} {xs : List ByteArray} (r : Row W g v xs) {q : Addr} (hq : g ≠ q.block) (u : Value) : Row (W.setCell q u) g v xs := r.same (by simp [World.setCell]) (fun _ => Below.heap_setCell _ _ _ _ hq)
theorem Row.drew {W : World} {g : Nat} {v : Value} {xs : List ByteArray} (r : Row W g v xs) : Row W.drew g v xs := r.same (Nat.le_refl _) (fun _ => rfl)
theorem row_six {W : World} {g : Nat} {v : Value} {xs : List ByteArray} (r : Row W g v xs) {p0 p1 p2 : Nat} (hn : g ≠ p0 ∧ g ≠ p1 ∧ g ≠ p2) (u m u2 h s o : Value) : Row (((((((W.setCell ⟨p0, 1, none⟩ u).setCell ⟨p1, 0, none⟩ m).setCell ⟨p1, 1, none⟩ u2).setCell ⟨p2, 0, none⟩ h).setCell ⟨p2, 1, none⟩ s).setCell ⟨p2, 2, none⟩ o).drew) g v xs :=
  ((((((r.set (q := ⟨p0, 1, none⟩) hn.1 u).set (q := ⟨p1, 0, none⟩) hn.2.1 m).set (q := ⟨p1, 1, none⟩) hn.2.1 u2).set (q := ⟨p2, 0, none⟩) hn.2.2 h).set (q := ⟨p2, 1, none⟩) hn.2.2 s).set (q := ⟨p2, 2, none⟩) hn.2.2 o).drew

theorem rq_zero (w : World) (g : Nat) (A : Option Addr) (c : Nat) (key : ByteArray) (h : Row w g (.slice A 0 c) []) :
    Calls Try.prog 13 #[.agg #[.int .i64 0, .slice A 0 c], .string key] w (RqPost w g 0 (.agg #[.bool false, .string ⟨#[]⟩, .bool false]) []) := by
  have V0 := rv_start w 0 (.slice A 0 c)
  have U := Lib.hid (show Calls Try.prog 16 #[.slice A 0 c, .string key] (rv0 w 0 (.slice A 0 c)) (BoolPost false (rv0 w 0 (.slice A 0 c))) from refHas_any _ g _ [] key (h.below V0.bel))
  have HH := Lib.hid h
  clear h
  go_enter Try.func13, Try.ntmps13
  go_wp2_with fail
  refine U.out.mono ?_
  rintro e W ⟨rfl, hW⟩
  rw [hW] at V0
  clear hW U
  generalize w.heap.size + 1 + 1 + 1 = p3 at V0 ⊢
  generalize w.heap.size + 1 + 1 = p2 at V0 ⊢
  generalize w.heap.size + 1 = p1 at V0 ⊢
  obtain ⟨p0, hp0⟩ : ∃ p, p = w.heap.size := ⟨_, rfl⟩
  rw [← hp0] at V0 ⊢
  clear hp0
  obtain ⟨c0, c1, c2, c3⟩ := V0.c.four
  obtain ⟨r0, r1, r2, r3⟩ := V0.r1.four
  obtain ⟨q0, q1, q2, q3, q4, q5⟩ := V0.r2.six
  obtain ⟨s0, s1, s2, s3, s4, s5⟩ := V0.s.six
  obtain ⟨⟨n1, n2, n3⟩, ⟨n4, n5, n6⟩, ⟨n7, n8, n9⟩, ⟨m1, m2, m3⟩⟩ := V0.ne
  have R := Lib.hid (V0.hit false)
  clear V0
  go_wp2_with fail
  go_region
  go_wp2_with fail
  have F := R.out.out _ rfl
  refine bodyPost_ret (results_cc rfl _ _ _ ⟨p1, 0, none⟩ ⟨p2, 0, none⟩ _ _ rfl (load_c (mo := 0) F.1.drew) rfl (load_step F.2.1.drew)) rfl ?_
  exact ⟨_, _, _, g, rfl, HH.out.below F.2.2.drew, Or.inl rfl, F.2.2.drew⟩

theorem rq_hit (w : World) (g : Nat) (A : Option Addr) (n c mo : Nat) (xs : List ByteArray) (key : ByteArray) (h : Row w g (.slice A n c) xs) (hn : xs.length = n) (hmo : mo + 1 ≤ 9223372036854775807) (hi : inn xs key = true) (hs : key.size ≤ maxLen) (hl : xs.length ≤ 1900) :
    Calls Try.prog 13 #[.agg #[.int .i64 ((mo + 1 : Nat) : Int), .slice A n c], .string key] w (RqPost w g (mo + 1) (.agg #[.bool true, .string ⟨#[]⟩, .bool false]) (rem xs key ++ [key])) := by
  have V0 := rv_start w (mo + 1) (.slice A n c)
  have U := refHas_any _ g _ xs key (h.below V0.bel)
  rw [hi] at U
  have U := Lib.hid U
  have HH := Lib.hid h
  clear h hi
  go_enter Try.func13, Try.ntmps13
  go_wp2_with fail
  refine U.out.mono ?_
  rintro e W ⟨rfl, hW⟩
  rw [hW] at V0
  clear hW U
  generalize w.heap.size + 1 + 1 + 1 = p3 at V0 ⊢
  generalize w.heap.size + 1 + 1 = p2 at V0 ⊢
  generalize w.heap.size + 1 = p1 at V0 ⊢
  obtain ⟨p0, hp0⟩ : ∃ p, p = w.heap.size := ⟨_, rfl⟩
  rw [← hp0] at V0 ⊢
  clear hp0
  obtain ⟨c0, c1, c2, c3⟩ := V0.c.four
  obtain ⟨r0, r1, r2, r3⟩ := V0.r1.four
  obtain ⟨q0, q1, q2, q3, q4, q5⟩ := V0.r2.six
  obtain ⟨s0, s1, s2, s3, s4, s5⟩ := V0.s.six
  obtain ⟨⟨n1, n2, n3⟩, ⟨n4, n5, n6⟩, ⟨n7, n8, n9⟩, ⟨m1, m2, m3⟩⟩ := V0.ne
  have V1 := V0.hit true
  obtain ⟨W1, hW1⟩ : ∃ W1, W1 = W.setCell ⟨p3, 0, none⟩ (.bool true) := ⟨_, rfl⟩
  rw [← hW1] at V1
  have R1 := Lib.hid V1
  have HW1 := Lib.hid hW1
  clear hW1
  have U2 := Lib.hid (refBack_any W1 g _ xs key (HH.out.below V1.bel) (by omega) hs)
  clear V0 V1
  go_wp2_with fail
  rw [← HW1.out]
  refine U2.out.mono ?_
  rintro e W2 ⟨v4, rfl, hO, hB⟩
  obtain ⟨A4, c4, rfl⟩ := hO.len
  have V0 := R1.out.below hB
  obtain ⟨c0, c1, c2, c3⟩ := V0.c.four
  obtain ⟨r0, r1, r2, r3⟩ := V0.r1.four
  obtain ⟨q0, q1, q2, q3, q4, q5⟩ := V0.r2.six
  obtain ⟨s0, s1, s2, s3, s4, s5⟩ := V0.s.six
  obtain ⟨⟨n1, n2, n3⟩, ⟨n4, n5, n6⟩, ⟨n7, n8, n9⟩, ⟨m1, m2, m3⟩⟩ := V0.ne
  have R := Lib.hid (V0.setL (.slice A4 (rem xs key ++ [key]).length c4))
  obtain ⟨g4, hg4, hr4⟩ := hO.row
  have HR4 := Lib.hid hr4
  have HG4 := Lib.hid (show w.heap.size ≤ g4 from Nat.le_trans R1.out.bel.size hg4)
  have HN4 := Lib.hid (show g4 ≠ p0 ∧ g4 ≠ p1 ∧ g4 ≠ p2 from ⟨by have := R1.out.c.lt; omega, by have := R1.out.r1.lt; omega, by have := R1.out.r2.lt; omega⟩)
  clear V0 hO hB hr4 hg4 U2 R1
  generalize (rem xs key ++ [key]).length = l4 at *
  go_wp2_with fail
  go_region
  go_wp2_with fail
  have F := R.out.out _ rfl
  refine bodyPost_ret (results_cc rfl _ _ _ ⟨p1, 0, none⟩ ⟨p2, 0, none⟩ _ _ rfl (load_c (mo := mo + 1) F.1.drew) rfl (load_step F.2.1.drew)) rfl ?_
  exact ⟨_, _, _, g4, rfl, row_six HR4.out HN4.out _ _ _ _ _ _, Or.inr HG4.out, F.2.2.drew⟩

theorem rq_room (w : World) (g : Nat) (A : Option Addr) (n c mo : Nat) (xs : List ByteArray) (key : ByteArray) (h : Row w g (.slice A n c) xs) (hn : xs.length = n) (hmo : mo + 1 ≤ 9223372036854775807) (hi : inn xs key = false) (hs : key.size ≤ maxLen) (hl : xs.length ≤ 1900) (hr : n < mo + 1) :
    Calls Try.prog 13 #[.agg #[.int .i64 ((mo + 1 : Nat) : Int), .slice A n c], .string key] w (RqPost w g (mo + 1) (.agg #[.bool false, .string ⟨#[]⟩, .bool false]) (rem xs key ++ [key])) := by
  have V0 := rv_start w (mo + 1) (.slice A n c)
  have U := refHas_any _ g _ xs key (h.below V0.bel)
  rw [hi] at U
  have U := Lib.hid U
  have HH := Lib.hid h
  have e1 : decide (mo + 1 ≤ n) = false := by simp; omega
  clear h hi
  go_enter Try.func13, Try.ntmps13
  go_wp2_with fail
  refine U.out.mono ?_
  rintro e W ⟨rfl, hW⟩
  rw [hW] at V0
  clear hW U
  generalize w.heap.size + 1 + 1 + 1 = p3 at V0 ⊢
  generalize w.heap.size + 1 + 1 = p2 at V0 ⊢
  generalize w.heap.size + 1 = p1 at V0 ⊢
  obtain ⟨p0, hp0⟩ : ∃ p, p = w.heap.size := ⟨_, rfl⟩
  rw [← hp0] at V0 ⊢
  clear hp0
  obtain ⟨c0, c1, c2, c3⟩ := V0.c.four
  obtain ⟨r0, r1, r2, r3⟩ := V0.r1.four
  obtain ⟨q0, q1, q2, q3, q4, q5⟩ := V0.r2.six
  obtain ⟨s0, s1, s2, s3, s4, s5⟩ := V0.s.six
  obtain ⟨⟨n1, n2, n3⟩, ⟨n4, n5, n6⟩, ⟨n7, n8, n9⟩, ⟨m1, m2, m3⟩⟩ := V0.ne
  have V1 := V0.hit false
  obtain ⟨W1, hW1⟩ : ∃ W1, W1 = W.setCell ⟨p3, 0, none⟩ (.bool false) := ⟨_, rfl⟩
  rw [← hW1] at V1
  have R1 := Lib.hid V1
  have HW1 := Lib.hid hW1
  clear hW1
  have U2 := Lib.hid (refBack_any W1 g _ xs key (HH.out.below V1.bel) (by omega) hs)
  clear V0 V1
  go_wp2_with fail
  rw [← HW1.out]
  refine U2.out.mono ?_
  rintro e W2 ⟨v4, rfl, hO, hB⟩
  obtain ⟨A4, c4, rfl⟩ := hO.len
  have V0 := R1.out.below hB
  obtain ⟨c0, c1, c2, c3⟩ := V0.c.four
  obtain ⟨r0, r1, r2, r3⟩ := V0.r1.four
  obtain ⟨q0, q1, q2, q3, q4, q5⟩ := V0.r2.six
  obtain ⟨s0, s1, s2, s3, s4, s5⟩ := V0.s.six
  obtain ⟨⟨n1, n2, n3⟩, ⟨n4, n5, n6⟩, ⟨n7, n8, n9⟩, ⟨m1, m2, m3⟩⟩ := V0.ne
  have R := Lib.hid (V0.setL (.slice A4 (rem xs key ++ [key]).length c4))
  obtain ⟨g4, hg4, hr4⟩ := hO.row
  have HR4 := Lib.hid hr4
  have HG4 := Lib.hid (show w.heap.size ≤ g4 from Nat.le_trans R1.out.bel.size hg4)
  have HN4 := Lib.hid (show g4 ≠ p0 ∧ g4 ≠ p1 ∧ g4 ≠ p2 from ⟨by have := R1.out.c.lt; omega, by have := R1.out.r1.lt; omega, by have := R1.out.r2.lt; omega⟩)
  clear V0 hO hB hr4 hg4 U2 R1
  generalize (rem xs key ++ [key]).length = l4 at *
  go_wp2_with fail
  go_region
  go_wp2_with fail
  have F := R.out.out _ rfl
  refine bodyPost_ret (results_cc rfl _ _ _ ⟨p1, 0, none⟩ ⟨p2, 0, none⟩ _ _ rfl (load_c (mo := mo + 1) F.1.drew) rfl (load_step F.2.1.drew)) rfl ?_
  exact ⟨_, _, _, g4, rfl, row_six HR4.out HN4.out _ _ _ _ _ _, Or.inr HG4.out, F.2.2.drew⟩


theorem rq_full (w : World) (g : Nat) (A : Option Addr) (c : Nat) (x : ByteArray) (ks : List ByteArray) (key : ByteArray) (h : Row w g (.slice A (ks.length + 1) c) (x :: ks)) (hmo : ks.length + 1 ≤ 9223372036854775807) (hi : inn (x :: ks) key = false) (hs : key.size ≤ maxLen) (hl : ks.length ≤ 1900) :
    Calls Try.prog 13 #[.agg #[.int .i64 ((ks.length + 1 : Nat) : Int), .slice A (ks.length + 1) c], .string key] w (RqPost w g (ks.length + 1) (.agg #[.bool false, .string x, .bool true]) (rem ks key ++ [key])) := by
  have V0 := rv_start w (ks.length + 1) (.slice A (ks.length + 1) c)
  have U := refHas_any _ g _ _ key (h.below V0.bel)
  rw [hi] at U
  have U := Lib.hid U
  have HH := Lib.hid h
  obtain ⟨o, rfl, hg, hx, hc1, hc2⟩ := h.at (k := 0) (by simp)
  rw [Nat.add_zero, show (x :: ks).getD 0 ⟨#[]⟩ = x from rfl] at hx
  obtain ⟨A', f1, f2, hF⟩ := row_from h rfl (p := 1) (by omega)
  rw [Nat.add_sub_cancel] at hF
  simp only [Nat.add_sub_cancel] at f1 f2
  have f1 : ∀ W : World, (Instr.sliceAt 27 (.slice (some ⟨g, o, none⟩) (ks.length + 1) c) (some (.int .i64 1)) none none).run Try.prog W = .ok (.slice A' ks.length (c - 1)) W := f1
  have f2 : ∀ W : World, (Instr.slice 27 (.slice (some ⟨g, o, none⟩) (ks.length + 1) c) (some (.int .i64 1)) none none).run Try.prog W = .ok (.slice A' ks.length (c - 1)) W := f2
  have HF := Lib.hid (show Row w g (.slice A' ks.length (c - 1)) ks from hF)
  have hc1 : ks.length + 1 ≤ c := hc1
  clear hF
  clear h hi
  go_enter Try.func13, Try.ntmps13
  go_wp2_with fail
  refine U.out.mono ?_
  rintro e W ⟨rfl, hW⟩
  rw [hW] at V0
  clear hW U
  have hxW : W.cell? ⟨g, o, none⟩ = some (.string x) := (V0.bel.cell (p := ⟨g, o, none⟩) hg).trans hx
  generalize w.heap.size + 1 + 1 + 1 = p3 at V0 ⊢
  generalize w.heap.size + 1 + 1 = p2 at V0 ⊢
  generalize w.heap.size + 1 = p1 at V0 ⊢
  obtain ⟨p0, hp0⟩ : ∃ p, p = w.heap.size := ⟨_, rfl⟩
  rw [← hp0] at V0 ⊢
  clear hp0
  obtain ⟨c0, c1, c2, c3⟩ := V0.c.four
  obtain ⟨r0, r1, r2, r3⟩ := V0.r1.four
  obtain ⟨q0, q1, q2, q3, q4, q5⟩ := V0.r2.six
  obtain ⟨s0, s1, s2, s3, s4, s5⟩ := V0.s.six
  obtain ⟨⟨n1, n2, n3⟩, ⟨n4, n5, n6⟩, ⟨n7, n8, n9⟩, ⟨m1, m2, m3⟩⟩ := V0.ne
  have gp0 : g ≠ p0 := by have := V0.low; omega
  have gp3 : g ≠ p3 := by have := V0.low; omega
  unfold maxLen at hc2
  have V1 := ((V0.hit false).vic x).setL (.slice A' ks.length (c - 1))
  obtain ⟨W1, hW1⟩ : ∃ W1, W1 = (((W.setCell ⟨p3, 0, none⟩ (.bool false)).setCell ⟨p3, 1, none⟩ (.string x)).setCell ⟨p3, 2, none⟩ (.bool true)).setCell ⟨p0, 1, none⟩ (.slice A' ks.length (c - 1)) := ⟨_, rfl⟩
  rw [← hW1] at V1
  have R1 := Lib.hid V1
  have HW1 := Lib.hid hW1
  clear hW1
  have U2 := Lib.hid (refBack_any W1 g _ ks key (HF.out.below V1.bel) (by omega) hs)
  clear V0 V1
  go_wp2_with fail
  rw [← HW1.out]
  refine U2.out.mono ?_
  rintro e W2 ⟨v4, rfl, hO, hB⟩
  obtain ⟨A4, c4, rfl⟩ := hO.len
  have V0 := R1.out.below hB
  obtain ⟨c0, c1, c2, c3⟩ := V0.c.four
  obtain ⟨r0, r1, r2, r3⟩ := V0.r1.four
  obtain ⟨q0, q1, q2, q3, q4, q5⟩ := V0.r2.six
  obtain ⟨s0, s1, s2, s3, s4, s5⟩ := V0.s.six
  obtain ⟨⟨n1, n2, n3⟩, ⟨n4, n5, n6⟩, ⟨n7, n8, n9⟩, ⟨m1, m2, m3⟩⟩ := V0.ne
  have R := Lib.hid (V0.setL (.slice A4 (rem ks key ++ [key]).length c4))
  obtain ⟨g4, hg4, hr4⟩ := hO.row
  have HR4 := Lib.hid hr4
  have HG4 := Lib.hid (show w.heap.size ≤ g4 from Nat.le_trans R1.out.bel.size hg4)
  have HN4 := Lib.hid (show g4 ≠ p0 ∧ g4 ≠ p1 ∧ g4 ≠ p2 from ⟨by have := R1.out.c.lt; omega, by have := R1.out.r1.lt; omega, by have := R1.out.r2.lt; omega⟩)
  clear V0 hO hB hr4 hg4 U2 R1 f1 f2 hx hxW
  generalize (rem ks key ++ [key]).length = l4 at *
  go_wp2_with fail
  go_region
  go_wp2_with fail
  have F := R.out.out _ rfl
  refine bodyPost_ret (results_cc rfl _ _ _ ⟨p1, 0, none⟩ ⟨p2, 0, none⟩ _ _ rfl (load_c (mo := ks.length + 1) F.1.drew) rfl (load_step F.2.1.drew)) rfl ?_
  exact ⟨_, _, _, g4, rfl, row_six HR4.out HN4.out _ _ _ _ _ _, Or.inr HG4.out, F.2.2.drew⟩



/-- Request of the reference, whatever is there. -/
theorem rq_any (w : World) (g mo : Nat) (A : Option Addr) (n c : Nat) (xs : List ByteArray) (key : ByteArray) (h : Row w g (.slice A n c) xs) (hn : xs.length = n) (hnd : xs.Nodup) (hmo : mo ≤ 9223372036854775807) (hs : key.size ≤ maxLen) (hl : xs.length ≤ 1900) (hle : xs.length ≤ mo) :
    Calls Try.prog 13 #[.agg #[.int .i64 (mo : Int), .slice A n c], .string key] w (RqPost w g mo (stepV mo xs key) (reqK mo xs key)) := by
  cases mo with
  | zero =>
    obtain rfl : xs = [] := List.eq_nil_of_length_eq_zero (by omega)
    obtain rfl : n = 0 := hn.symm
    rw [reqK_zero]
    exact rq_zero w g A c key h
  | succ mo =>
    cases hi : inn xs key with
    | true =>
      have e1 : stepV (mo + 1) xs key = .agg #[.bool true, .string ⟨#[]⟩, .bool false] := by simp [stepV, hitB, vicK, outB, hi]
      rw [e1, reqK_hit hnd (inn_iff.1 hi) hle]
      exact rq_hit w g A n c mo xs key h hn hmo hi hs hl
    | false =>
      by_cases hf : xs.length ≤ mo
      · have e1 : stepV (mo + 1) xs key = .agg #[.bool false, .string ⟨#[]⟩, .bool false] := by
          have : ¬ (mo + 1 ≤ xs.length) := by omega
          simp [stepV, hitB, vicK, outB, hi, this]
        rw [e1, reqK_room (by omega)]
        exact rq_room w g A n c mo xs key h hn hmo hi hs hl (by omega)
      · cases xs with
        | nil => simp at hf
        | cons x ks =>
          obtain rfl : mo = ks.length := by rw [List.length_cons] at hf hle; omega
          obtain rfl : n = ks.length + 1 := hn.symm
          have e1 : stepV (ks.length + 1) (x :: ks) key = .agg #[.bool false, .string x, .bool true] := by simp [stepV, hitB, vicK, outB, hi]
          rw [e1, reqK_full (mo := ks.length + 1) (inn_no.1 hi) rfl]
          exact rq_full w g A c x ks key h hmo hi hs (by rw [List.length_cons] at hl; omega)
end Go.Proofs.Ythbokiebnniifaa
