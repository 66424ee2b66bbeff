/- Two caches, and two steps that come to be in variables of their own. -/
import Derived.Test.YthbokiebnniifaaPair
namespace Go.Proofs.Ythbokiebnniifaa
open Go.RowKit Sg

structure PB (w0 W : World) (a : Nat) (T : Nat → Prop) (mo : Nat) (ks : List ByteArray) (b a2 : Nat) (T2 : Nat → Prop) (mo2 : Nat) (ks2 : List ByteArray) (b2 : Nat) (x y : Option Nat) : Prop where
  pair : Pair w0 W a T mo ks b a2 T2 mo2 ks2 b2
  bx : ∀ z, x = some z → Box W z false ⟨#[]⟩ false ∧ ¬ T z ∧ ¬ T2 z ∧ w0.heap.size ≤ z
  bby : ∀ z, y = some z → Box W z false ⟨#[]⟩ false ∧ ¬ T z ∧ ¬ T2 z ∧ w0.heap.size ≤ z
  ne : ∀ z z', x = some z → y = some z' → z ≠ z'
/-- The first step is written. -/
structure PC (w0 W : World) (a : Nat) (T : Nat → Prop) (mo : Nat) (ks : List ByteArray) (b a2 : Nat) (T2 : Nat → Prop) (mo2 : Nat) (ks2 : List ByteArray) (b2 z z' : Nat) (h : Bool) (s : ByteArray) (o : Bool) : Prop where
  pair : Pair w0 W a T mo ks b a2 T2 mo2 ks2 b2
  bx : Box W z h s o
  bby : Box W z' false ⟨#[]⟩ false
  out : ¬ T z' ∧ ¬ T2 z' ∧ w0.heap.size ≤ z' ∧ z ≠ z'
/-- Both are. -/
structure PE (w0 W : World) (a : Nat) (T : Nat → Prop) (mo : Nat) (ks : List ByteArray) (b a2 : Nat) (T2 : Nat → Prop) (mo2 : Nat) (ks2 : List ByteArray) (b2 z z' : Nat) (h : Bool) (s : ByteArray) (o : Bool) (h' : Bool) (s' : ByteArray) (o' : Bool) : Prop where
  pair : Pair w0 W a T mo ks b a2 T2 mo2 ks2 b2
  bx : Box W z h s o
  bby : Box W z' h' s' o'
section
variable {w0 W w' : World} {a a2 mo mo2 b b2 b' z z' : Nat} {T T2 T' : Nat → Prop} {ks ks2 ks' : List ByteArray} {r : Value} {e : Ending} {x y : Option Nat} {h o : Bool} {s : ByteArray}
theorem PB.start (p : Pair w0 W a T mo ks b a2 T2 mo2 ks2 b2) : PB w0 W a T mo ks b a2 T2 mo2 ks2 b2 none none := ⟨p, fun _ h => (by cases h), fun _ h => (by cases h), fun _ _ h => (by cases h)⟩
theorem below_z (W : World) : Below W.heap.size W (W.alloc (.cells #[.bool false, .string ⟨#[]⟩, .bool false] 34)) := (Below.refl _ _).alloc (Nat.le_refl _) _
theorem Box.below {W : World} (k : Box W z h s o) (hb : Below W.heap.size W w') : Box w' z h s o := (hb.block z k.lt).trans k
theorem PB.alloc12 (p : PB w0 W a T mo ks b a2 T2 mo2 ks2 b2 none y) : PB w0 (W.alloc (.cells #[.bool false, .string ⟨#[]⟩, .bool false] 34)) a T mo ks b a2 T2 mo2 ks2 b2 (some W.heap.size) y := by
  refine ⟨p.pair.below (below_z W), fun z hz => ?_, fun z hz => ?_, fun z z' hz hz' => ?_⟩
  · cases hz
    exact ⟨heap_alloc_new _ _, fun hk => by have := p.pair.one.lt _ hk; omega, fun hk => by have := p.pair.two.lt _ hk; omega, p.pair.one.bel.size⟩
  · exact ⟨(p.bby z hz).1.below (below_z W), (p.bby z hz).2⟩
  · cases hz
    have := (p.bby z' hz').1.lt
    omega
theorem PB.alloc13 (p : PB w0 W a T mo ks b a2 T2 mo2 ks2 b2 x none) : PB w0 (W.alloc (.cells #[.bool false, .string ⟨#[]⟩, .bool false] 34)) a T mo ks b a2 T2 mo2 ks2 b2 x (some W.heap.size) := by
  refine ⟨p.pair.below (below_z W), fun z hz => ?_, fun z hz => ?_, fun z z' hz hz' => ?_⟩
  · exact ⟨(p.bx z hz).1.below (below_z W), (p.bx z hz).2⟩
  · cases hz
    exact ⟨heap_alloc_new _ _, fun hk => by have := p.pair.one.lt _ hk; omega, fun hk => by have := p.pair.two.lt _ hk; omega, p.pair.one.bel.size⟩
  · cases hz'
    have := (p.bx z hz).1.lt
    omega
theorem went_box {S S' : Nat → Prop} (hw : Went W w' S S') (k : Box W z h s o) (hn : ¬ S z) : Box w' z h s o ∧ ¬ S' z :=
  ⟨(hw.turn.block z k.lt hn).trans k, fun hk => by
    rcases hw.new z hk with h | h
    · exact hn h
    · have := k.lt; omega⟩
theorem PB.call1 (p : PB w0 W a T mo ks b a2 T2 mo2 ks2 b2 x y) (hp : CaPost r W a T mo ks' b' e w') : e = .returned r ∧ ∃ T', PB w0 w' a T' mo ks' b' a2 T2 mo2 ks2 b2 x y := by
  obtain ⟨he, T', h1, h2⟩ := p.pair.op1 hp
  refine ⟨he, T', h1, fun z hz => ?_, fun z hz => ?_, p.ne⟩
  · obtain ⟨q1, q2, q3⟩ := p.bx z hz
    exact ⟨(went_box h2 q1 q2).1, (went_box h2 q1 q2).2, q3⟩
  · obtain ⟨q1, q2, q3⟩ := p.bby z hz
    exact ⟨(went_box h2 q1 q2).1, (went_box h2 q1 q2).2, q3⟩
theorem PB.call2 (p : PB w0 W a T mo ks b a2 T2 mo2 ks2 b2 x y) (hp : CaPost r W a2 T2 mo2 ks' b' e w') : e = .returned r ∧ ∃ T', PB w0 w' a T mo ks b a2 T' mo2 ks' b' x y := by
  obtain ⟨he, T', h1, h2⟩ := p.pair.op2 hp
  refine ⟨he, T', h1, fun z hz => ?_, fun z hz => ?_, p.ne⟩
  · obtain ⟨q1, q2, q3, q4⟩ := p.bx z hz
    exact ⟨(went_box h2 q1 q3).1, q2, (went_box h2 q1 q3).2, q4⟩
  · obtain ⟨q1, q2, q3, q4⟩ := p.bby z hz
    exact ⟨(went_box h2 q1 q3).1, q2, (went_box h2 q1 q3).2, q4⟩
theorem Box.six (k : Box W z h s o) : W.cell? ⟨z, 0, none⟩ = some (.bool h) ∧ W.cell? ⟨z, 1, none⟩ = some (.string s) ∧ W.cell? ⟨z, 2, none⟩ = some (.bool o) ∧ W.frozen? ⟨z, 0, none⟩ = false ∧ W.frozen? ⟨z, 1, none⟩ = false ∧ W.frozen? ⟨z, 2, none⟩ = false :=
  ⟨k.cells.1, k.cells.2.1, k.cells.2.2.1, frozen_of_row W _ 0 _ _ k, k.cells.2.2.2.1, k.cells.2.2.2.2⟩
theorem PB.cells (p : PB w0 W a T mo ks b a2 T2 mo2 ks2 b2 (some z) y) : W.cell? ⟨z, 0, none⟩ = some (.bool false) ∧ W.cell? ⟨z, 1, none⟩ = some (.string ⟨#[]⟩) ∧ W.cell? ⟨z, 2, none⟩ = some (.bool false) ∧ W.frozen? ⟨z, 0, none⟩ = false ∧ W.frozen? ⟨z, 1, none⟩ = false ∧ W.frozen? ⟨z, 2, none⟩ = false := (p.bx z rfl).1.six
theorem PC.cells (p : PC w0 W a T mo ks b a2 T2 mo2 ks2 b2 z z' h s o) : W.cell? ⟨z', 0, none⟩ = some (.bool false) ∧ W.cell? ⟨z', 1, none⟩ = some (.string ⟨#[]⟩) ∧ W.cell? ⟨z', 2, none⟩ = some (.bool false) ∧ W.frozen? ⟨z', 0, none⟩ = false ∧ W.frozen? ⟨z', 1, none⟩ = false ∧ W.frozen? ⟨z', 2, none⟩ = false := p.bby.six
theorem put_other (W : World) (z k : Nat) (h o : Bool) (s : ByteArray) (hk : k ≠ z) : (((W.setCell ⟨z, 0, none⟩ (.bool h)).setCell ⟨z, 1, none⟩ (.string s)).setCell ⟨z, 2, none⟩ (.bool o)).heap[k]? = W.heap[k]? := by
  rw [Below.heap_setCell _ _ _ _ hk, Below.heap_setCell _ _ _ _ hk, Below.heap_setCell _ _ _ _ hk]
theorem put_turn (W : World) (z : Nat) (h o : Bool) (s : ByteArray) : Turn (fun k => k = z) W (((W.setCell ⟨z, 0, none⟩ (.bool h)).setCell ⟨z, 1, none⟩ (.string s)).setCell ⟨z, 2, none⟩ (.bool o)) :=
  ⟨rfl, rfl, rfl, by simp [World.setCell], fun k _ hk => put_other W z k h o s hk⟩
theorem Pair.put (p : Pair w0 W a T mo ks b a2 T2 mo2 ks2 b2) (hz : w0.heap.size ≤ z) (h1 : ¬ T z) (h2 : ¬ T2 z) (h o : Bool) (s : ByteArray) : Pair w0 (((W.setCell ⟨z, 0, none⟩ (.bool h)).setCell ⟨z, 1, none⟩ (.string s)).setCell ⟨z, 2, none⟩ (.bool o)) a T mo ks b a2 T2 mo2 ks2 b2 := by
  have t := put_turn W z h o s
  have bl : Below w0.heap.size w0 (((W.setCell ⟨z, 0, none⟩ (.bool h)).setCell ⟨z, 1, none⟩ (.string s)).setCell ⟨z, 2, none⟩ (.bool o)) := p.one.bel.trans (t.below (fun k hk => by subst hk; exact hz) p.one.bel.size)
  exact ⟨⟨p.one.ca.kept t (fun k hk e => h1 (e ▸ hk)), bl, p.one.low⟩, ⟨p.two.ca.kept t (fun k hk e => h2 (e ▸ hk)), bl, p.two.low⟩, p.apart⟩
theorem PB.store1 (p : PB w0 W a T mo ks b a2 T2 mo2 ks2 b2 (some z) (some z')) (h : Bool) (s : ByteArray) (o : Bool) : PC w0 (((W.setCell ⟨z, 0, none⟩ (.bool h)).setCell ⟨z, 1, none⟩ (.string s)).setCell ⟨z, 2, none⟩ (.bool o)) a T mo ks b a2 T2 mo2 ks2 b2 z z' h s o := by
  obtain ⟨q1, q2, q3, q4⟩ := p.bx z rfl
  obtain ⟨r1, r2, r3, r4⟩ := p.bby z' rfl
  have hne := p.ne z z' rfl rfl
  exact ⟨p.pair.put q4 q2 q3 h o s, q1.put h o s, (put_other W z z' h o s (Ne.symm hne)).trans r1, r2, r3, r4, hne⟩
theorem PC.store2 (p : PC w0 W a T mo ks b a2 T2 mo2 ks2 b2 z z' h s o) (h' : Bool) (s' : ByteArray) (o' : Bool) : PE w0 (((W.setCell ⟨z', 0, none⟩ (.bool h')).setCell ⟨z', 1, none⟩ (.string s')).setCell ⟨z', 2, none⟩ (.bool o')) a T mo ks b a2 T2 mo2 ks2 b2 z z' h s o h' s' o' :=
  ⟨p.pair.put p.out.2.2.1 p.out.1 p.out.2.1 h' o' s', (put_other W z' z h' o' s' p.out.2.2.2).trans p.bx, p.bby.put h' o' s'⟩
end
end Go.Proofs.Ythbokiebnniifaa
