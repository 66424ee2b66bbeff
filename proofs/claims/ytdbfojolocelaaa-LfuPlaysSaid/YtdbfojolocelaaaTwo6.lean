/- Two caches, a row of strings beside them, and two steps that come to be in variables of their own. -/
import Derived.Test.YtdbfojolocelaaaRc6
namespace Go.Proofs.Ytdbfojolocelaaa
open Go.RowKit Ht HS Lf

/-- A row of the call's own, beside two caches. -/
structure RowP (w0 W : World) (T T2 : Nat → Prop) (v : Value) (xs : List ByteArray) : Prop where
  own : Own W w0.heap.size v xs
  out : ∀ g, v.ownBlock = some g → ¬ T g ∧ ¬ T2 g
structure PR (w0 W : World) (a : Nat) (T : Nat → Prop) (mo : Nat) (ch : Bool) (L : List (Ent Key)) (n a2 : Nat) (T2 : Nat → Prop) (mo2 : Nat) (ch2 : Bool) (L2 : List (Ent Key)) (n2 : Nat) (v : Value) (xs : List ByteArray) (x y : Option Nat) : Prop where
  pair : Pair w0 W a T mo ch L n a2 T2 mo2 ch2 L2 n2
  row : RowP w0 W T T2 v xs
  bx : ∀ z, x = some z → Box W z false ⟨#[]⟩ false ∧ ¬ T z ∧ ¬ T2 z ∧ w0.heap.size ≤ z
  bby : ∀ z, y = some z → Box W z false ⟨#[]⟩ false ∧ ¬ T z ∧ ¬ T2 z ∧ w0.heap.size ≤ z
  ne : ∀ z z', x = some z → y = some z' → z ≠ z'
/-- The first step is written. -/
structure PC (w0 W : World) (a : Nat) (T : Nat → Prop) (mo : Nat) (ch : Bool) (L : List (Ent Key)) (n a2 : Nat) (T2 : Nat → Prop) (mo2 : Nat) (ch2 : Bool) (L2 : List (Ent Key)) (n2 : Nat) (v : Value) (xs : List ByteArray) (z z' : Nat) (h : Bool) (s : ByteArray) (o : Bool) : Prop where
  pair : Pair w0 W a T mo ch L n a2 T2 mo2 ch2 L2 n2
  row : RowP w0 W T T2 v xs
  bx : Box W z h s o
  bby : Box W z' false ⟨#[]⟩ false
  out : ¬ T z' ∧ ¬ T2 z' ∧ w0.heap.size ≤ z' ∧ z ≠ z'
/-- Both are. -/
structure PE (w0 W : World) (a : Nat) (T : Nat → Prop) (mo : Nat) (ch : Bool) (L : List (Ent Key)) (n a2 : Nat) (T2 : Nat → Prop) (mo2 : Nat) (ch2 : Bool) (L2 : List (Ent Key)) (n2 : Nat) (v : Value) (xs : List ByteArray) (z z' : Nat) (h : Bool) (s : ByteArray) (o : Bool) (h' : Bool) (s' : ByteArray) (o' : Bool) : Prop where
  pair : Pair w0 W a T mo ch L n a2 T2 mo2 ch2 L2 n2
  row : RowP w0 W T T2 v xs
  bx : Box W z h s o
  bby : Box W z' h' s' o'
section
variable {w0 W w' : World} {a a2 mo mo2 n n2 n' z z' : Nat} {T T2 T' : Nat → Prop} {ch ch2 : Bool} {L L2 L' : List (Ent Key)} {r v : Value} {e : Ending} {x y : Option Nat} {h o : Bool} {s : ByteArray} {xs : List ByteArray}
theorem Own.obj {base g : Nat} (q : Own W base v xs) (hg : v.ownBlock = some g) : ∃ arr, W.heap[g]? = some (.cells arr 9 (0, 0)) := by
  rcases q.1.2 with ⟨rfl, _⟩ | ⟨g', cap, arr, rfl, hb, h2, h3⟩
  · cases hg
  · cases hg; exact ⟨arr, h2⟩
theorem RowP.below (q : RowP w0 W T T2 v xs) (hb : Below W.heap.size W w') : RowP w0 w' T T2 v xs := ⟨q.own.same fun g hg => hb.block g (q.own.lt hg).1, q.out⟩
theorem RowP.went1 (q : RowP w0 W T T2 v xs) (hw : Went W w' T T') : RowP w0 w' T' T2 v xs :=
  ⟨q.own.same fun g hg => hw.turn.block g (q.own.lt hg).1 (q.out g hg).1, fun g hg => ⟨fun hk => by
    rcases hw.new g hk with h | h
    · exact (q.out g hg).1 h
    · have := (q.own.lt hg).1; omega, (q.out g hg).2⟩⟩
theorem RowP.went2 (q : RowP w0 W T T2 v xs) (hw : Went W w' T2 T') : RowP w0 w' T T' v xs :=
  ⟨q.own.same fun g hg => hw.turn.block g (q.own.lt hg).1 (q.out g hg).2, fun g hg => ⟨(q.out g hg).1, fun hk => by
    rcases hw.new g hk with h | h
    · exact (q.out g hg).2 h
    · have := (q.own.lt hg).1; omega⟩⟩
theorem PR.start (p : Pair w0 W a T mo ch L n a2 T2 mo2 ch2 L2 n2) (q : RowP w0 W T T2 v xs) : PR w0 W a T mo ch L n a2 T2 mo2 ch2 L2 n2 v xs none none := ⟨p, q, fun _ h => (by cases h), fun _ h => (by cases h), fun _ _ h => (by cases h)⟩
theorem below_z (W : World) : Below W.heap.size W (W.alloc zStep) := (Below.refl _ _).alloc (Nat.le_refl _) _
theorem Box.below {W : World} (k : Box W z h s o) (hb : Below W.heap.size W w') : Box w' z h s o := (hb.block z k.lt).trans k
theorem PR.alloc12 (p : PR w0 W a T mo ch L n a2 T2 mo2 ch2 L2 n2 v xs none y) : PR w0 (W.alloc zStep) a T mo ch L n a2 T2 mo2 ch2 L2 n2 v xs (some W.heap.size) y := by
  refine ⟨p.pair.below (below_z W), p.row.below (below_z W), fun z hz => ?_, fun z hz => ?_, fun z z' hz hz' => ?_⟩
  · cases hz
    exact ⟨heap_alloc_new _ _, fun hk => by have := p.pair.one.lt _ hk; omega, fun hk => by have := p.pair.two.lt _ hk; omega, p.pair.one.bel.size⟩
  · exact ⟨(p.bby z hz).1.below (below_z W), (p.bby z hz).2⟩
  · cases hz
    have := (p.bby z' hz').1.lt
    omega
theorem PR.alloc13 (p : PR w0 W a T mo ch L n a2 T2 mo2 ch2 L2 n2 v xs x none) : PR w0 (W.alloc zStep) a T mo ch L n a2 T2 mo2 ch2 L2 n2 v xs x (some W.heap.size) := by
  refine ⟨p.pair.below (below_z W), p.row.below (below_z W), fun z hz => ?_, fun z hz => ?_, fun z z' hz hz' => ?_⟩
  · exact ⟨(p.bx z hz).1.below (below_z W), (p.bx z hz).2⟩
  · cases hz
    exact ⟨heap_alloc_new _ _, fun hk => by have := p.pair.one.lt _ hk; omega, fun hk => by have := p.pair.two.lt _ hk; omega, p.pair.one.bel.size⟩
  · cases hz'
    have := (p.bx z hz).1.lt
    omega
theorem went_box {S S' : Nat → Prop} (hw : Went W w' S S') (k : Box W z h s o) (hn : ¬ S z) : Box w' z h s o ∧ ¬ S' z :=
  ⟨(hw.turn.block z k.lt hn).trans k, fun hk => by
    rcases hw.new z hk with h | h
    · exact hn h
    · have := k.lt; omega⟩
theorem PR.call1 (p : PR w0 W a T mo ch L n a2 T2 mo2 ch2 L2 n2 v xs x y) (hp : CaPost r W a T mo ch L' n' e w') : e = .returned r ∧ ∃ T', PR w0 w' a T' mo ch L' n' a2 T2 mo2 ch2 L2 n2 v xs x y := by
  obtain ⟨he, T', h1, h2⟩ := p.pair.op1 hp
  refine ⟨he, T', h1, p.row.went1 h2, fun z hz => ?_, fun z hz => ?_, p.ne⟩
  · obtain ⟨q1, q2, q3⟩ := p.bx z hz
    exact ⟨(went_box h2 q1 q2).1, (went_box h2 q1 q2).2, q3⟩
  · obtain ⟨q1, q2, q3⟩ := p.bby z hz
    exact ⟨(went_box h2 q1 q2).1, (went_box h2 q1 q2).2, q3⟩
theorem PR.call2 (p : PR w0 W a T mo ch L n a2 T2 mo2 ch2 L2 n2 v xs x y) (hp : CaPost r W a2 T2 mo2 ch2 L' n' e w') : e = .returned r ∧ ∃ T', PR w0 w' a T mo ch L n a2 T' mo2 ch2 L' n' v xs x y := by
  obtain ⟨he, T', h1, h2⟩ := p.pair.op2 hp
  refine ⟨he, T', h1, p.row.went2 h2, fun z hz => ?_, fun z hz => ?_, p.ne⟩
  · obtain ⟨q1, q2, q3, q4⟩ := p.bx z hz
    exact ⟨(went_box h2 q1 q3).1, q2, (went_box h2 q1 q3).2, q4⟩
  · obtain ⟨q1, q2, q3, q4⟩ := p.bby z hz
    exact ⟨(went_box h2 q1 q3).1, q2, (went_box h2 q1 q3).2, q4⟩
theorem Box.six (k : Box W z h s o) : W.cell? ⟨z, 0, none⟩ = some (.bool h) ∧ W.cell? ⟨z, 1, none⟩ = some (.string s) ∧ W.cell? ⟨z, 2, none⟩ = some (.bool o) ∧ W.frozen? ⟨z, 0, none⟩ = false ∧ W.frozen? ⟨z, 1, none⟩ = false ∧ W.frozen? ⟨z, 2, none⟩ = false :=
  ⟨k.cells.1, k.cells.2.1, k.cells.2.2.1, frozen_of_row W _ 0 _ _ k, k.cells.2.2.2.1, k.cells.2.2.2.2⟩
theorem PR.cells (p : PR w0 W a T mo ch L n a2 T2 mo2 ch2 L2 n2 v xs (some z) y) : W.cell? ⟨z, 0, none⟩ = some (.bool false) ∧ W.cell? ⟨z, 1, none⟩ = some (.string ⟨#[]⟩) ∧ W.cell? ⟨z, 2, none⟩ = some (.bool false) ∧ W.frozen? ⟨z, 0, none⟩ = false ∧ W.frozen? ⟨z, 1, none⟩ = false ∧ W.frozen? ⟨z, 2, none⟩ = false := (p.bx z rfl).1.six
theorem PC.cells (p : PC w0 W a T mo ch L n a2 T2 mo2 ch2 L2 n2 v xs z z' h s o) : W.cell? ⟨z', 0, none⟩ = some (.bool false) ∧ W.cell? ⟨z', 1, none⟩ = some (.string ⟨#[]⟩) ∧ W.cell? ⟨z', 2, none⟩ = some (.bool false) ∧ W.frozen? ⟨z', 0, none⟩ = false ∧ W.frozen? ⟨z', 1, none⟩ = false ∧ W.frozen? ⟨z', 2, none⟩ = false := p.bby.six
theorem putS_other (W : World) (z k : Nat) (h o : Bool) (s : ByteArray) (hk : k ≠ z) : (((W.setCell ⟨z, 0, none⟩ (.bool h)).setCell ⟨z, 1, none⟩ (.string s)).setCell ⟨z, 2, none⟩ (.bool o)).heap[k]? = W.heap[k]? := by
  rw [Below.heap_setCell _ _ _ _ hk, Below.heap_setCell _ _ _ _ hk, Below.heap_setCell _ _ _ _ hk]
theorem putS_turn (W : World) (z : Nat) (h o : Bool) (s : ByteArray) : Turn (fun k => k = z) W (((W.setCell ⟨z, 0, none⟩ (.bool h)).setCell ⟨z, 1, none⟩ (.string s)).setCell ⟨z, 2, none⟩ (.bool o)) :=
  ⟨rfl, rfl, rfl, by simp [World.setCell], fun k _ hk => putS_other W z k h o s hk⟩
theorem Pair.put (p : Pair w0 W a T mo ch L n a2 T2 mo2 ch2 L2 n2) (hz : w0.heap.size ≤ z) (h1 : ¬ T z) (h2 : ¬ T2 z) (h o : Bool) (s : ByteArray) : Pair w0 (((W.setCell ⟨z, 0, none⟩ (.bool h)).setCell ⟨z, 1, none⟩ (.string s)).setCell ⟨z, 2, none⟩ (.bool o)) a T mo ch L n a2 T2 mo2 ch2 L2 n2 := by
  have t := putS_turn W z h o s
  have bl : Below w0.heap.size w0 (((W.setCell ⟨z, 0, none⟩ (.bool h)).setCell ⟨z, 1, none⟩ (.string s)).setCell ⟨z, 2, none⟩ (.bool o)) := p.one.bel.trans (t.below (fun k hk => by have hk : k = z := hk; subst hk; exact hz) p.one.bel.size)
  exact ⟨⟨p.one.ca.kept t (fun k hk e => h1 (by have e : k = z := e; exact e ▸ hk)), bl, p.one.low⟩, ⟨p.two.ca.kept t (fun k hk e => h2 (by have e : k = z := e; exact e ▸ hk)), bl, p.two.low⟩, p.apart⟩
theorem RowP.put (q : RowP w0 W T T2 v xs) {h0 o0 : Bool} {s0 : ByteArray} (k : Box W z h0 s0 o0) (h o : Bool) (s : ByteArray) : RowP w0 (((W.setCell ⟨z, 0, none⟩ (.bool h)).setCell ⟨z, 1, none⟩ (.string s)).setCell ⟨z, 2, none⟩ (.bool o)) T T2 v xs :=
  ⟨q.own.same fun g hg => putS_other W z g h o s (by
    obtain ⟨arr, ho⟩ := Own.obj q.own hg
    exact cells_ne ho k (by decide)), q.out⟩
theorem PR.store1 (p : PR w0 W a T mo ch L n a2 T2 mo2 ch2 L2 n2 v xs (some z) (some z')) (h : Bool) (s : ByteArray) (o : Bool) : PC w0 (((W.setCell ⟨z, 0, none⟩ (.bool h)).setCell ⟨z, 1, none⟩ (.string s)).setCell ⟨z, 2, none⟩ (.bool o)) a T mo ch L n a2 T2 mo2 ch2 L2 n2 v xs z z' h s o := by
  obtain ⟨q1, q2, q3, q4⟩ := p.bx z rfl
  obtain ⟨r1, r2, r3, r4⟩ := p.bby z' rfl
  have hne := p.ne z z' rfl rfl
  exact ⟨p.pair.put q4 q2 q3 h o s, p.row.put q1 h o s, q1.put h o s, (putS_other W z z' h o s (Ne.symm hne)).trans r1, r2, r3, r4, hne⟩
theorem PC.store2 (p : PC w0 W a T mo ch L n a2 T2 mo2 ch2 L2 n2 v xs z z' h s o) (h' : Bool) (s' : ByteArray) (o' : Bool) : PE w0 (((W.setCell ⟨z', 0, none⟩ (.bool h')).setCell ⟨z', 1, none⟩ (.string s')).setCell ⟨z', 2, none⟩ (.bool o')) a T mo ch L n a2 T2 mo2 ch2 L2 n2 v xs z z' h s o h' s' o' :=
  ⟨p.pair.put p.out.2.2.1 p.out.1 p.out.2.1 h' o' s', p.row.put p.bby h' o' s', (putS_other W z' z h' o' s' p.out.2.2.2).trans p.bx, p.bby.put h' o' s'⟩
/-- One more key at the row's end. -/
theorem row_app (p : Pair w0 W a T mo ch L n a2 T2 mo2 ch2 L2 n2) (q : RowP w0 W T T2 v xs) (k : ByteArray) (hk : k.size ≤ maxLen) (hl : xs.length ≤ 1999) :
    ∃ (A : Option Addr) (cap : Nat) (w2 : World), (Builtin.append_ #[47, 47] 47 #[v, .slice (some ⟨W.heap.size, 0, none⟩) 1 1]).run Try.prog (W.alloc (.cells #[.string k] 9)) = .ok (.slice A (xs.length + 1) cap) w2 ∧
      Pair w0 w2 a T mo ch L n a2 T2 mo2 ch2 L2 n2 ∧ RowP w0 w2 T T2 (.slice A (xs.length + 1) cap) (xs ++ [k]) := by
  obtain ⟨A, cap, w2, h1, h2, h3, h4⟩ := app_at q.own k hk hl p.one.bel.size
  have ht : Turn (fun k => v.ownBlock = some k) W w2 := ⟨h3.os, h3.tape, h3.output, h3.size, fun i hi hn => h3.block i hi (fun e => hn e.symm)⟩
  have hb := p.one.bel.trans (ht.below (fun k hk => (q.own.lt hk).2) p.one.bel.size)
  refine ⟨A, cap, w2, h1, ⟨⟨p.one.ca.kept ht (fun k hk e => (q.out k e).1 hk), hb, p.one.low⟩, ⟨p.two.ca.kept ht (fun k hk e => (q.out k e).2 hk), hb, p.two.low⟩, p.apart⟩, h2, fun g hg => ?_⟩
  rcases h4 g hg with h | h
  · exact q.out g h
  · exact ⟨fun hk => by have := p.one.lt g hk; omega, fun hk => by have := p.two.lt g hk; omega⟩
end

/-! Keys that are asked for once each. -/
def lastN (m : Nat) (xs : List ByteArray) : List ByteArray := xs.drop (xs.length - m)
structure On (mo : Nat) (xs : List ByteArray) (L M : List (Ent Key)) : Prop where
  ones : ∀ e ∈ L, e.one = 1
  twos : ∀ e ∈ M, e.one = 1
  plain : keysL L = lastN mo xs
  churn : (xs = [] ∧ M = []) ∨ ∃ zs z, xs = zs ++ [z] ∧ keysL M = z :: (zs.take (mo - 1)).reverse
theorem On.start (mo : Nat) : On mo [] [] [] := ⟨by simp, by simp, by simp [keysL, lastN], Or.inl ⟨rfl, rfl⟩⟩
theorem inn_keysL (L : List (Ent Key)) (y : ByteArray) : inn (keysL L) y = isIn L y := by
  rw [Bool.eq_iff_iff, inn_iff, isIn_iff]
  unfold keysL
  rw [List.mem_map]
section
variable {mo n : Nat} {xs : List ByteArray} {L M : List (Ent Key)} {k : ByteArray}
theorem On.lens (o : On mo xs L M) (hm : 1 ≤ mo) : L.length = min mo xs.length ∧ M.length = min mo xs.length := by
  constructor
  · rw [← keysL_len, o.plain, lastN, List.length_drop]; omega
  · rcases o.churn with ⟨rfl, rfl⟩ | ⟨zs, z, rfl, h⟩
    · simp
    · rw [← keysL_len, h, List.length_cons, List.length_reverse, List.length_take, List.length_append]
      simp only [List.length_cons, List.length_nil]; omega
theorem On.miss (o : On mo xs L M) (hk : k ∉ xs) : isIn L k = false ∧ isIn M k = false := by
  constructor
  · rw [← inn_keysL, inn_no, o.plain]
    exact fun h => hk (List.mem_of_mem_drop h)
  · rw [← inn_keysL, inn_no]
    rcases o.churn with ⟨rfl, rfl⟩ | ⟨zs, z, rfl, h⟩
    · simp [keysL]
    · rw [h]
      intro hm
      rcases List.mem_cons.1 hm with rfl | hm
      · exact hk (by simp)
      · exact hk (List.mem_append_left _ (List.mem_of_mem_take (List.mem_reverse.1 hm)))
theorem put_last (f : Fit false L n) (oc : Once L n) (h1 : ∀ e ∈ L, e.one = 1) (hk : isIn L k = false) : put false n L k = L ++ [ent false n k 1] := by
  unfold put
  rw [tms_no hk, Lf.rem_len_no hk]
  refine ins_last fun x hx => ?_
  have e1 := h1 x hx
  have e2 := f.two x hx
  have e3 := oc.le x hx
  unfold lt ent
  rw [show sg false = 1 from rfl] at *
  simp only
  omega
theorem put_first (f : Fit true M n) (oc : Once M n) (h1 : ∀ e ∈ M, e.one = 1) (hk : isIn M k = false) : put true n M k = ent true n k 1 :: M := by
  unfold put
  rw [tms_no hk, Lf.rem_len_no hk]
  refine ins_first fun x hx => ?_
  have e1 := h1 x hx
  have e2 := f.two x hx
  have e3 := oc.le x hx
  unfold lt ent
  rw [show sg true = -1 from rfl] at *
  simp only
  omega
theorem On.next (o : On mo xs L M) (hm : 1 ≤ mo) (hk : k ∉ xs) (fL : Fit false L n) (fM : Fit true M n) (oL : Once L n) (oM : Once M n) : On mo (xs ++ [k]) (reqL false mo n L k) (reqL true mo n M k) := by
  obtain ⟨l1, l2⟩ := o.lens hm
  obtain ⟨i1, i2⟩ := o.miss hk
  have sub : ∀ (X : List (Ent Key)) (d : Nat), ∀ e ∈ X.drop d, e ∈ X := fun X d e he => List.mem_of_mem_drop he
  have r1 : reqL false mo n L k = L.drop (L.length + 1 - mo) ++ [ent false n k 1] := by
    unfold reqL
    rw [if_neg (by omega), i1, if_neg (by simp)]
    exact put_last (fit_sub fL (sub L _)) (once_sub oL (List.drop_sublist _ _)) (fun e he => o.ones e (sub L _ e he)) (isIn_no.2 fun e he => isIn_no.1 i1 e (sub L _ e he))
  have r2 : reqL true mo n M k = ent true n k 1 :: M.drop (M.length + 1 - mo) := by
    unfold reqL
    rw [if_neg (by omega), i2, if_neg (by simp)]
    exact put_first (fit_sub fM (sub M _)) (once_sub oM (List.drop_sublist _ _)) (fun e he => o.twos e (sub M _ e he)) (isIn_no.2 fun e he => isIn_no.1 i2 e (sub M _ e he))
  rw [r1, r2]
  refine ⟨fun e he => ?_, fun e he => ?_, ?_, Or.inr ⟨xs, k, rfl, ?_⟩⟩
  · rcases List.mem_append.1 he with h | h
    · exact o.ones e (sub L _ e h)
    · rw [List.mem_singleton.1 h]; rfl
  · rcases List.mem_cons.1 he with rfl | h
    · rfl
    · exact o.twos e (sub M _ e h)
  · show (L.drop (L.length + 1 - mo) ++ [ent false n k 1]).map (·.key) = _
    rw [List.map_append, List.map_drop]
    show (keysL L).drop (L.length + 1 - mo) ++ [k] = _
    rw [o.plain, lastN, lastN, List.drop_drop, List.length_append, List.drop_append, l1]
    simp only [List.length_cons, List.length_nil]
    rw [show xs.length + (0 + 1) - mo - xs.length = 0 by omega, List.drop_zero]
    congr 2
    omega
  · show (ent true n k 1 :: M.drop (M.length + 1 - mo)).map (·.key) = _
    rw [List.map_cons, List.map_drop]
    show k :: (keysL M).drop (M.length + 1 - mo) = _
    congr 1
    rcases o.churn with ⟨rfl, rfl⟩ | ⟨zs, z, rfl, h⟩
    · simp [keysL]
    · rw [List.length_append, List.length_cons, List.length_nil] at l2
      rw [h]
      by_cases hf : mo ≤ zs.length + 1
      · rw [show M.length + 1 - mo = 1 by omega, List.drop_succ_cons, List.drop_zero, List.take_append_of_le_length (by omega)]
      · rw [show M.length + 1 - mo = 0 by omega, List.drop_zero, List.take_of_length_le (by omega), List.take_of_length_le (by rw [List.length_append]; simp only [List.length_cons, List.length_nil]; omega), List.reverse_append]; rfl
/-- Who goes. -/
theorem On.gone (o : On mo xs L M) (hm : 1 ≤ mo) (hf : mo ≤ xs.length) (k : ByteArray) : hdK L = (xs ++ [k]).getD (xs.length - mo) ⟨#[]⟩ ∧ hdK M = (xs ++ [k]).getD (xs.length - 1) ⟨#[]⟩ := by
  have hd : ∀ X : List (Ent Key), hdK X = (keysL X).getD 0 ⟨#[]⟩ := fun X => by cases X <;> rfl
  constructor
  · rw [hd, o.plain, lastN, List.getD_eq_getElem?_getD, List.getD_eq_getElem?_getD, List.getElem?_drop, Nat.add_zero, List.getElem?_append_left (by omega)]
  · rw [hd]
    rcases o.churn with ⟨rfl, rfl⟩ | ⟨zs, z, rfl, h⟩
    · simp at hf; omega
    · rw [h, List.length_append]
      simp [List.getD_eq_getElem?_getD]
theorem On.step (o : On mo xs L M) (hm : 1 ≤ mo) (hk : k ∉ xs) : hitB mo L k = false ∧ hitB mo M k = false ∧ outB mo L k = decide (mo ≤ xs.length) ∧ outB mo M k = decide (mo ≤ xs.length) := by
  obtain ⟨l1, l2⟩ := o.lens hm
  obtain ⟨i1, i2⟩ := o.miss hk
  have e0 : decide (mo ≠ 0) = true := by simp; omega
  refine ⟨by simp [hitB, i1], by simp [hitB, i2], ?_, ?_⟩
  · unfold outB
    rw [i1, e0, l1]
    simp only [Bool.not_false, Bool.and_true, Bool.true_and]
    rw [Bool.eq_iff_iff, decide_eq_true_eq, decide_eq_true_eq]; omega
  · unfold outB
    rw [i2, e0, l2]
    simp only [Bool.not_false, Bool.and_true, Bool.true_and]
    rw [Bool.eq_iff_iff, decide_eq_true_eq, decide_eq_true_eq]; omega
end
end Go.Proofs.Ytdbfojolocelaaa
