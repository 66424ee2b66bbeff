/- What LearnFollows needs: pieces of Law10, Rg10, Sm10, and Fo10. -/
import Derived.Test.YtnlckkahkghneaaGreatDoorAw10
import Derived.Test.YtnlckkahkghneaaGreatDoorShapes9
import Derived.Test.YtnlckkahkghneaaGreatDoorShapes10
import Derived.Test.YtnlckkahkghneaaGreatDoorLp
set_option maxRecDepth 20000
namespace Go.Proofs.YtnlckkahkghneaaGreatDoor.LE
open Go.RowKit Sg
theorem req_keep (s : St) (k : ByteArray) : (s.req k).six = s.six ∧ (s.req k).mo = s.mo := by
  by_cases hm : s.mo = 0
  · unfold St.req
    rw [if_pos hm]
    exact ⟨rfl, rfl⟩
  · cases hk : s.has k with
    | true => rw [req_hit hm hk, (window_same _).1, (window_same _).2.1]; exact ⟨rfl, rfl⟩
    | false =>
      rw [req_miss hm hk, (window_same _).1, (window_same _).2.1]
      exact ⟨(make_w s.tick k).2.1, (make_w s.tick k).2.2.1⟩
/-- A row of keys that came in. -/
def KRow (w : World) (A : Option Addr) (n cc : Nat) (S : Nat → ByteArray) : Prop :=
  (∀ i, i < n → (S i).size ≤ maxLen) ∧ (0 < n → ∃ g o, A = some ⟨g, o, none⟩ ∧ g < w.heap.size ∧ n ≤ cc ∧ cc ≤ maxLen ∧ ∀ i, i < n → w.cell? ⟨g, o + i, none⟩ = some (.string (S i)))
end Go.Proofs.YtnlckkahkghneaaGreatDoor.LE

namespace Go.Proofs.YtnlckkahkghneaaGreatDoor.LE
open Go.RowKit Go.Maps Go.WideMaps Sg
theorem zeroI (w : World) : (zeroValue 3).run Tryz.prog w = .ok (.int .i64 0) w := by kernel_rfl
def IMap (w : World) (b m : Nat) (f : ByteArray → Int) : Prop := ∃ D : DataW Unit, w.ownsMap Tryz.prog 9 (plainElem Tryz.prog 3) b m D ∧ IsMap D ∧ ∀ s : ByteArray, D.atKey (.string s.data.toList) (.lit (.int .i64 0)) = .lit (.int .i64 (f s))
def updI (f : ByteArray → Int) (s : ByteArray) (z : Int) : ByteArray → Int := fun y => if y = s then z else f y
section
variable {w w' : World} {b m : Nat} {f : ByteArray → Bool} {h : ByteArray → Int}
theorem IMap.made (w : World) : IMap (w.alloc (.map #[] 0)) w.heap.size 0 (fun _ => 0) := ⟨.map [], World.ownsMap_made w _ _ _, isMap_empty, fun _ => rfl⟩
theorem IMap.lt (q : IMap w b m h) : b < w.heap.size := by
  obtain ⟨D, h1, _⟩ := q
  exact h1.lt
theorem IMap.same (q : IMap w b m h) (hs : w'.heap[b]? = w.heap[b]?) : IMap w' b m h := by
  obtain ⟨D, h1, h2⟩ := q
  exact ⟨D, owns_same h1 hs, h2⟩
set_option maxRecDepth 100000 in
theorem IMap.look (q : IMap w b m h) {s : ByteArray} (hs : s.size ≤ maxLen) : (Instr.lookup 88 (.map (some b)) (.string s) false).run Tryz.prog w = .ok (.int .i64 (h s)) w := by
  obtain ⟨D, h1, _, h3⟩ := q
  obtain ⟨c, hrun, hat, _⟩ := h1.lookup_int lawS Tryz.underlying88 Tryz.underlying3 (zeroI w) (keyOf_string_mk Tryz.underlying9 hs)
  rw [h3 s] at hat
  injection hat with hat
  injection hat with _ hat
  rw [hrun, hat]
set_option maxRecDepth 100000 in
theorem IMap.store (q : IMap w b m h) {s : ByteArray} (hs : s.size ≤ maxLen) {z : Int} (hz : -9223372036854775808 ≤ z ∧ z ≤ 9223372036854775807) (hm : m ≤ 100000) :
    ∃ w', (Instr.mapUpdate 88 (.map (some b)) (.string s) (.int .i64 z)).run Tryz.prog w = .ok () w' ∧ IMap w' b (m + 1) (updI h s z) ∧ w.grownBy w' (some b) := by
  obtain ⟨D, h1, h2, h3⟩ := q
  obtain ⟨w', hrun, hown, hg⟩ := h1.update lawS Tryz.underlying88 (by unfold maxLen; omega) (keyOf_string_mk Tryz.underlying9 hs) (plainElem_int Tryz.underlying3 (i64_wf hz))
  refine ⟨w', hrun, ⟨_, hown, h2.put _ _, fun y => ?_⟩, hg⟩
  unfold updI
  by_cases e : y = s
  · subst e
    rw [if_pos rfl, atKey_put_same h2 (show WideAt.IsKeyLit (.string y.data.toList) from trivial)]
  · rw [if_neg e, atKey_put_other (str_ne e)]
    exact h3 y
end
theorem turn_one {w w' : World} {b : Nat} (hg : w.grownBy w' (some b)) : Turn (fun k => k = b) w w' := ⟨hg.os, hg.tape, hg.output, hg.size, fun k hk hn => hg.block k hk (fun e => hn (by injection e))⟩

section
variable {w0 w w' : World} {l b m c c' : Nat} {T T' : Nat → Prop} {s s' : St} {f : ByteArray → Bool} {r : Value} {e : Ending}
end
end Go.Proofs.YtnlckkahkghneaaGreatDoor.LE

namespace Go.Proofs.YtnlckkahkghneaaGreatDoor.LE
open Go.RowKit Sg
theorem went_out10 {w w' : World} {T T' : Nat → Prop} {g : Nat} (h : Went w w' T T') (hg : g < w.heap.size) (hn : ¬ T g) : w'.heap[g]? = w.heap[g]? ∧ ¬ T' g := by
  refine ⟨h.turn.block g hg hn, fun e => ?_⟩
  rcases h.new g e with e | e
  · exact hn e
  · omega

structure Pr2 (w0 W : World) (p : Nat) (U : Nat → Prop) (s : St) (b : Nat) (p2 : Nat) (U2 : Nat → Prop) (s2 : St) (b2 : Nat) : Prop where
  one : LL w0 W p U s b
  two : LL w0 W p2 U2 s2 b2
  dis : ∀ k, U k → ¬ U2 k
section
variable {w0 W W' : World} {p p2 b b2 b' : Nat} {U U' U2 : Nat → Prop} {s s' s2 : St} {r : Value} {e : Ending}
theorem Pr2.below (h : Pr2 w0 W p U s b p2 U2 s2 b2) (hb : Below W.heap.size W W') : Pr2 w0 W' p U s b p2 U2 s2 b2 := ⟨h.one.below hb, h.two.below hb, h.dis⟩
theorem Pr2.op1 (h : Pr2 w0 W p U s b p2 U2 s2 b2) (hp : LCP r W p U s' b' e W') : e = .returned r ∧ ∃ U', Pr2 w0 W' p U' s' b' p2 U2 s2 b2 ∧ Went W W' U U' := by
  obtain ⟨he, U', h1, h2⟩ := h.one.op hp
  refine ⟨he, U', ⟨h1, ⟨h.two.ca.beside h2.turn (fun k hk hu => h.dis k hu hk), h1.bel, h.two.low⟩, fun k hk hu => ?_⟩, h2⟩
  rcases h2.new k hk with e | e
  · exact h.dis k e hu
  · have := h.two.lt k hu; omega
theorem Pr2.swap (h : Pr2 w0 W p U s b p2 U2 s2 b2) : Pr2 w0 W p2 U2 s2 b2 p U s b := ⟨h.two, h.one, fun k h2 h1 => h.dis k h1 h2⟩
theorem Pr2.op2 (h : Pr2 w0 W p U s b p2 U2 s2 b2) (hp : LCP r W p2 U2 s' b' e W') : e = .returned r ∧ ∃ U', Pr2 w0 W' p U s b p2 U' s' b' ∧ Went W W' U2 U' := by
  obtain ⟨he, U', h1, h2⟩ := h.swap.op1 hp
  exact ⟨he, U', h1.swap, h2⟩
end
section
variable {w0 W W' : World} {p p2 b b2 b' ga : Nat} {U U' U2 : Nat → Prop} {s s' s2 : St} {r : Value} {e : Ending} {kd nn : Int} {key : ByteArray}
end

end Go.Proofs.YtnlckkahkghneaaGreatDoor.LE

namespace Go.Proofs.YtnlckkahkghneaaGreatDoor.LE
open Go.RowKit Go.Maps Go.WideMaps Sg
/-- Two learners, two maps; the blocks X lie beside them. -/
structure Fo (w0 W : World) (p : Nat) (U : Nat → Prop) (s : St) (b p2 : Nat) (U2 : Nat → Prop) (s2 : St) (b2 ma na : Nat) (f : ByteArray → Int) (mb nb : Nat) (g : ByteArray → Int) (X : Nat → Prop) : Prop where
  pr : Pr2 w0 W p U s b p2 U2 s2 b2
  ia : IMap W ma na f
  ib : IMap W mb nb g
  la : w0.heap.size ≤ ma
  lb : w0.heap.size ≤ mb
  ne : ma ≠ mb
  ua : ¬ U ma ∧ ¬ U2 ma
  ub : ¬ U mb ∧ ¬ U2 mb
  ext : ∀ k, X k → k < W.heap.size ∧ ¬ U k ∧ ¬ U2 k ∧ k ≠ ma ∧ k ≠ mb ∧ w0.heap.size ≤ k
section
variable {w0 W W' : World} {p p2 b b2 b' ma na mb nb : Nat} {U U2 : Nat → Prop} {s s2 s' : St} {f g : ByteArray → Int} {X Y : Nat → Prop} {r : Value} {e : Ending}
theorem Fo.below (q : Fo w0 W p U s b p2 U2 s2 b2 ma na f mb nb g X) (hb : Below W.heap.size W W') : Fo w0 W' p U s b p2 U2 s2 b2 ma na f mb nb g X :=
  ⟨q.pr.below hb, q.ia.same (hb.block _ q.ia.lt), q.ib.same (hb.block _ q.ib.lt), q.la, q.lb, q.ne, q.ua, q.ub, fun k hk => ⟨Nat.lt_of_lt_of_le (q.ext k hk).1 hb.size, (q.ext k hk).2⟩⟩
theorem Fo.wide (q : Fo w0 W p U s b p2 U2 s2 b2 ma na f mb nb g X) (h : ∀ k, Y k → X k) : Fo w0 W p U s b p2 U2 s2 b2 ma na f mb nb g Y := { q with ext := fun k hk => q.ext k (h k hk) }
theorem Fo.swap (q : Fo w0 W p U s b p2 U2 s2 b2 ma na f mb nb g X) : Fo w0 W p2 U2 s2 b2 p U s b mb nb g ma na f X :=
  ⟨q.pr.swap, q.ib, q.ia, q.lb, q.la, q.ne.symm, ⟨q.ub.2, q.ub.1⟩, ⟨q.ua.2, q.ua.1⟩, fun k hk => by obtain ⟨x1, x2, x3, x4, x5, x6⟩ := q.ext k hk; exact ⟨x1, x3, x2, x5, x4, x6⟩⟩
theorem Fo.op1 (q : Fo w0 W p U s b p2 U2 s2 b2 ma na f mb nb g X) (hp : LCP r W p U s' b' e W') :
    e = .returned r ∧ ∃ U', Fo w0 W' p U' s' b' p2 U2 s2 b2 ma na f mb nb g X ∧ (∀ k, X k → W'.heap[k]? = W.heap[k]?) ∧ W.heap.size ≤ W'.heap.size := by
  obtain ⟨he, U', h1, h2⟩ := q.pr.op1 hp
  have o : ∀ k, k < W.heap.size → ¬ U k → W'.heap[k]? = W.heap[k]? ∧ ¬ U' k := fun k hk hn => went_out10 h2 hk hn
  refine ⟨he, U', ⟨h1, q.ia.same (o ma q.ia.lt q.ua.1).1, q.ib.same (o mb q.ib.lt q.ub.1).1, q.la, q.lb, q.ne, ⟨(o ma q.ia.lt q.ua.1).2, q.ua.2⟩, ⟨(o mb q.ib.lt q.ub.1).2, q.ub.2⟩, fun k hk => ?_⟩, fun k hk => ?_, h2.turn.size⟩
  · obtain ⟨x1, x2, x3⟩ := q.ext k hk
    exact ⟨Nat.lt_of_lt_of_le x1 h2.turn.size, (o k x1 x2).2, x3⟩
  · obtain ⟨x1, x2, x3⟩ := q.ext k hk
    exact (o k x1 x2).1
theorem Fo.op2 (q : Fo w0 W p U s b p2 U2 s2 b2 ma na f mb nb g X) (hp : LCP r W p2 U2 s' b' e W') :
    e = .returned r ∧ ∃ U', Fo w0 W' p U s b p2 U' s' b' ma na f mb nb g X ∧ (∀ k, X k → W'.heap[k]? = W.heap[k]?) ∧ W.heap.size ≤ W'.heap.size := by
  obtain ⟨he, U', h1, h2⟩ := q.swap.op1 hp
  exact ⟨he, U', h1.swap, h2⟩
theorem Fo.alloc (q : Fo w0 W p U s b p2 U2 s2 b2 ma na f mb nb g X) (o : Obj) : Fo w0 (W.alloc o) p U s b p2 U2 s2 b2 ma na f mb nb g (fun k => X k ∨ k = W.heap.size) := by
  have hb := (Below.refl W.heap.size W).alloc (Nat.le_refl _) o
  have q2 := q.below hb
  refine { q2 with ext := fun k hk => ?_ }
  rcases hk with hk | rfl
  · exact q2.ext k hk
  · exact ⟨by simp, fun h => by have := q.pr.one.lt _ h; omega, fun h => by have := q.pr.two.lt _ h; omega, fun e => by have := q.ia.lt; omega, fun e => by have := q.ib.lt; omega, q.pr.one.bel.size⟩
/-- A block of X is written. -/
theorem Fo.put (q : Fo w0 W p U s b p2 U2 s2 b2 ma na f mb nb g X) {k0 : Nat} (hx : X k0) (ht : Turn (fun k => k = k0) W W') : Fo w0 W' p U s b p2 U2 s2 b2 ma na f mb nb g X := by
  obtain ⟨x1, x2, x3, x4, x5, x6⟩ := q.ext k0 hx
  have bl : Below w0.heap.size w0 W' := q.pr.one.bel.trans (ht.below (fun k hk => by have hk : k = k0 := hk; subst hk; exact x6) q.pr.one.bel.size)
  exact ⟨⟨⟨q.pr.one.ca.beside ht fun k hk e => x2 (by have e : k = k0 := e; exact e ▸ hk), bl, q.pr.one.low⟩, ⟨q.pr.two.ca.beside ht fun k hk e => x3 (by have e : k = k0 := e; exact e ▸ hk), bl, q.pr.two.low⟩, q.pr.dis⟩,
    q.ia.same (ht.block ma q.ia.lt x4.symm), q.ib.same (ht.block mb q.ib.lt x5.symm), q.la, q.lb, q.ne, q.ua, q.ub, fun k hk => ⟨Nat.lt_of_lt_of_le (q.ext k hk).1 ht.size, (q.ext k hk).2⟩⟩
theorem Fo.storeA (q : Fo w0 W p U s b p2 U2 s2 b2 ma na f mb nb g X) {k : ByteArray} (hs : k.size ≤ maxLen) {z : Int} (hz : -9223372036854775808 ≤ z ∧ z ≤ 9223372036854775807) (hm : na ≤ 100000) :
    ∃ W', (Instr.mapUpdate 88 (.map (some ma)) (.string k) (.int .i64 z)).run Tryz.prog W = .ok () W' ∧ Fo w0 W' p U s b p2 U2 s2 b2 ma (na + 1) (upf f k z) mb nb g X ∧ (∀ k, X k → W'.heap[k]? = W.heap[k]?) ∧ W.heap.size ≤ W'.heap.size := by
  obtain ⟨W', hrun, hM, hg⟩ := q.ia.store hs hz hm
  have ht := turn_one hg
  have bl : Below w0.heap.size w0 W' := q.pr.one.bel.trans (ht.below (fun k hk => by have hk : k = ma := hk; subst hk; exact q.la) q.pr.one.bel.size)
  refine ⟨W', hrun, ⟨⟨⟨q.pr.one.ca.beside ht fun k hk e => q.ua.1 (by have e : k = ma := e; exact e ▸ hk), bl, q.pr.one.low⟩, ⟨q.pr.two.ca.beside ht fun k hk e => q.ua.2 (by have e : k = ma := e; exact e ▸ hk), bl, q.pr.two.low⟩, q.pr.dis⟩,
    hM, q.ib.same (ht.block mb q.ib.lt q.ne.symm), q.la, q.lb, q.ne, q.ua, q.ub, fun k hk => ⟨Nat.lt_of_lt_of_le (q.ext k hk).1 ht.size, (q.ext k hk).2⟩⟩, fun k hk => ht.block k (q.ext k hk).1 (q.ext k hk).2.2.2.1, ht.size⟩
theorem Fo.storeB (q : Fo w0 W p U s b p2 U2 s2 b2 ma na f mb nb g X) {k : ByteArray} (hs : k.size ≤ maxLen) {z : Int} (hz : -9223372036854775808 ≤ z ∧ z ≤ 9223372036854775807) (hm : nb ≤ 100000) :
    ∃ W', (Instr.mapUpdate 88 (.map (some mb)) (.string k) (.int .i64 z)).run Tryz.prog W = .ok () W' ∧ Fo w0 W' p U s b p2 U2 s2 b2 ma na f mb (nb + 1) (upf g k z) X ∧ (∀ k, X k → W'.heap[k]? = W.heap[k]?) ∧ W.heap.size ≤ W'.heap.size := by
  obtain ⟨W', hrun, h1, h2⟩ := q.swap.storeA hs hz hm
  exact ⟨W', hrun, h1.swap, h2⟩
/-- The rows that were made last lie beside it. -/
theorem Fo.rows (q : Fo w0 W p U s b p2 U2 s2 b2 ma na f mb nb g X) (hb : Below W.heap.size W W') : Fo w0 W' p U s b p2 U2 s2 b2 ma na f mb nb g (fun k => W.heap.size ≤ k ∧ k < W'.heap.size) := by
  have q2 := q.below hb
  refine { q2 with ext := fun k hk => ⟨hk.2, fun h => ?_, fun h => ?_, fun e => ?_, fun e => ?_, Nat.le_trans q.pr.one.bel.size hk.1⟩ }
  · have := q.pr.one.lt _ h; omega
  · have := q.pr.two.lt _ h; omega
  · have := q.ia.lt; omega
  · have := q.ib.lt; omega
/-- Two learners and one map. -/
structure Fm (w0 W : World) (p : Nat) (U : Nat → Prop) (s : St) (b p2 : Nat) (U2 : Nat → Prop) (s2 : St) (b2 ma : Nat) : Prop where
  pr : Pr2 w0 W p U s b p2 U2 s2 b2
  ia : IMap W ma 0 (fun _ => 0)
  la : w0.heap.size ≤ ma
  ua : ¬ U ma ∧ ¬ U2 ma
theorem Fm.made (q : Pr2 w0 W p U s b p2 U2 s2 b2) : Fm w0 (W.alloc (.map #[] 0)) p U s b p2 U2 s2 b2 W.heap.size :=
  ⟨q.below ((Below.refl W.heap.size W).alloc (Nat.le_refl _) _), IMap.made W, q.one.bel.size, ⟨fun h => by have := q.one.lt _ h; omega, fun h => by have := q.two.lt _ h; omega⟩⟩
theorem Fo.made (q : Fm w0 W p U s b p2 U2 s2 b2 ma) : Fo w0 (W.alloc (.map #[] 0)) p U s b p2 U2 s2 b2 ma 0 (fun _ => 0) W.heap.size 0 (fun _ => 0) (fun _ => False) := by
  have hb := (Below.refl W.heap.size W).alloc (Nat.le_refl _) (.map #[] 0)
  exact ⟨q.pr.below hb, q.ia.same (hb.block _ q.ia.lt), IMap.made W, q.la, q.pr.one.bel.size, fun e => by have := q.ia.lt; omega, q.ua, ⟨fun h => by have := q.pr.one.lt _ h; omega, fun h => by have := q.pr.two.lt _ h; omega⟩, fun k hk => hk.elim⟩
end
/-- A row of keys whose cells lie in a block of X. -/
def PX (W : World) (X : Nat → Prop) (v : Value) (xs : List ByteArray) : Prop := ∃ g, Row W g v xs ∧ (xs ≠ [] → X g)
theorem PX.same {W W' : World} {X : Nat → Prop} {v : Value} {xs : List ByteArray} (h : PX W X v xs) (hs : W.heap.size ≤ W'.heap.size) (hx : ∀ k, X k → W'.heap[k]? = W.heap[k]?) : PX W' X v xs := by
  obtain ⟨g, hr, hg⟩ := h
  by_cases he : xs = []
  · subst he
    obtain ⟨A, c, rfl⟩ := hr.shape
    exact ⟨g, Row.nil _ _ _ _, fun h => absurd rfl h⟩
  · exact ⟨g, hr.same hs fun _ => hx g (hg he), hg⟩
theorem PX.wide {W : World} {X Y : Nat → Prop} {v : Value} {xs : List ByteArray} (h : PX W X v xs) (hx : ∀ k, X k → Y k) : PX W Y v xs := by
  obtain ⟨g, hr, hg⟩ := h
  exact ⟨g, hr, fun h => hx g (hg h)⟩
theorem PX.below {W W' : World} {X : Nat → Prop} {v : Value} {xs : List ByteArray} (h : PX W X v xs) (hb : Below W.heap.size W W') : PX W' X v xs := by
  obtain ⟨g, hr, hg⟩ := h
  exact ⟨g, hr.below hb, hg⟩
/-- Two steps that come to be in variables of their own, beside the learners, the maps and the blocks X. -/
structure FB (w0 W1 W : World) (p : Nat) (U : Nat → Prop) (s : St) (b p2 : Nat) (U2 : Nat → Prop) (s2 : St) (b2 ma na : Nat) (f : ByteArray → Int) (mb nb : Nat) (g : ByteArray → Int) (X : Nat → Prop) (x y : Option Nat) : Prop where
  fo : Fo w0 W p U s b p2 U2 s2 b2 ma na f mb nb g (fun k => X k ∨ x = some k ∨ y = some k)
  bx : ∀ z, x = some z → LR.Box W z false ⟨#[]⟩ false ∧ ¬ X z
  bby : ∀ z, y = some z → LR.Box W z false ⟨#[]⟩ false ∧ ¬ X z
  ne : ∀ z z', x = some z → y = some z' → z ≠ z'
  fr : ∀ k, X k → k < W1.heap.size ∧ W.heap[k]? = W1.heap[k]?
  sz : W1.heap.size ≤ W.heap.size
/-- The first step is written. -/
structure FC (w0 W1 W : World) (p : Nat) (U : Nat → Prop) (s : St) (b p2 : Nat) (U2 : Nat → Prop) (s2 : St) (b2 ma na : Nat) (f : ByteArray → Int) (mb nb : Nat) (g : ByteArray → Int) (X : Nat → Prop) (z z' : Nat) (h : Bool) (t : ByteArray) (o : Bool) : Prop where
  fo : Fo w0 W p U s b p2 U2 s2 b2 ma na f mb nb g (fun k => X k ∨ k = z ∨ k = z')
  bx : LR.Box W z h t o
  bby : LR.Box W z' false ⟨#[]⟩ false
  ne : z ≠ z'
  nx : ¬ X z'
  fr : ∀ k, X k → k < W1.heap.size ∧ W.heap[k]? = W1.heap[k]?
  sz : W1.heap.size ≤ W.heap.size
/-- Both are. -/
structure FE (w0 W1 W : World) (p : Nat) (U : Nat → Prop) (s : St) (b p2 : Nat) (U2 : Nat → Prop) (s2 : St) (b2 ma na : Nat) (f : ByteArray → Int) (mb nb : Nat) (g : ByteArray → Int) (X : Nat → Prop) (z z' : Nat) (h : Bool) (t : ByteArray) (o : Bool) (h' : Bool) (t' : ByteArray) (o' : Bool) : Prop where
  fo : Fo w0 W p U s b p2 U2 s2 b2 ma na f mb nb g (fun k => X k ∨ k = z ∨ k = z')
  bx : LR.Box W z h t o
  bby : LR.Box W z' h' t' o'
  fr : ∀ k, X k → k < W1.heap.size ∧ W.heap[k]? = W1.heap[k]?
  sz : W1.heap.size ≤ W.heap.size
section
variable {w0 W1 W W' : World} {p p2 b b2 b' ma na mb nb z z' : Nat} {U U2 : Nat → Prop} {s s2 s' : St} {f g : ByteArray → Int} {X : Nat → Prop} {r : Value} {e : Ending} {x y : Option Nat} {h o : Bool} {t : ByteArray}
theorem FB.start (q : Fo w0 W p U s b p2 U2 s2 b2 ma na f mb nb g X) : FB w0 W W p U s b p2 U2 s2 b2 ma na f mb nb g X none none :=
  ⟨q.wide (fun k hk => by
    rcases hk with hk | hk | hk
    · exact hk
    · cases hk
    · cases hk), fun _ h => (by cases h), fun _ h => (by cases h), fun _ _ h => (by cases h), fun k hk => ⟨(q.ext k hk).1, rfl⟩, Nat.le_refl _⟩
theorem FB.alloc12 (q : FB w0 W1 W p U s b p2 U2 s2 b2 ma na f mb nb g X none y) : FB w0 W1 (W.alloc (.cells #[.bool false, .string ⟨#[]⟩, .bool false] 57)) p U s b p2 U2 s2 b2 ma na f mb nb g X (some W.heap.size) y := by
  have hb := (Below.refl W.heap.size W).alloc (Nat.le_refl _) (.cells #[.bool false, .string ⟨#[]⟩, .bool false] 57)
  refine ⟨(q.fo.alloc (.cells #[.bool false, .string ⟨#[]⟩, .bool false] 57)).wide fun k hk => ?_, fun z hz => ?_, fun z hz => ?_, fun z z' hz hz' => ?_, fun k hk => ⟨(q.fr k hk).1, (hb.block k (Nat.lt_of_lt_of_le (q.fr k hk).1 q.sz)).trans (q.fr k hk).2⟩, Nat.le_trans q.sz hb.size⟩
  · rcases hk with hk | hk | hk
    · exact Or.inl (Or.inl hk)
    · injection hk with hk
      exact Or.inr hk.symm
    · exact Or.inl (Or.inr (Or.inr hk))
  · injection hz with hz
    subst hz
    exact ⟨heap_alloc_new _ _, fun hk => by have := (q.fr _ hk).1; have := q.sz; omega⟩
  · exact ⟨(hb.block z (q.bby z hz).1.lt).trans (q.bby z hz).1, (q.bby z hz).2⟩
  · injection hz with hz
    have := (q.bby z' hz').1.lt
    omega
theorem FB.swap0 (q : FB w0 W1 W p U s b p2 U2 s2 b2 ma na f mb nb g X x y) : FB w0 W1 W p U s b p2 U2 s2 b2 ma na f mb nb g X y x :=
  ⟨q.fo.wide (fun k hk => by
    rcases hk with hk | hk | hk
    · exact Or.inl hk
    · exact Or.inr (Or.inr hk)
    · exact Or.inr (Or.inl hk)), q.bby, q.bx, fun z z' h h' => (q.ne z' z h' h).symm, q.fr, q.sz⟩
theorem FB.alloc13 (q : FB w0 W1 W p U s b p2 U2 s2 b2 ma na f mb nb g X x none) : FB w0 W1 (W.alloc (.cells #[.bool false, .string ⟨#[]⟩, .bool false] 57)) p U s b p2 U2 s2 b2 ma na f mb nb g X x (some W.heap.size) := q.swap0.alloc12.swap0
theorem FB.call1 (q : FB w0 W1 W p U s b p2 U2 s2 b2 ma na f mb nb g X x y) (hp : LCP r W p U s' b' e W') : e = .returned r ∧ ∃ U', FB w0 W1 W' p U' s' b' p2 U2 s2 b2 ma na f mb nb g X x y := by
  obtain ⟨he, U', h1, h2, h3⟩ := q.fo.op1 hp
  exact ⟨he, U', h1, fun z hz => ⟨(h2 z (Or.inr (Or.inl hz))).trans (q.bx z hz).1, (q.bx z hz).2⟩, fun z hz => ⟨(h2 z (Or.inr (Or.inr hz))).trans (q.bby z hz).1, (q.bby z hz).2⟩, q.ne, fun k hk => ⟨(q.fr k hk).1, (h2 k (Or.inl hk)).trans (q.fr k hk).2⟩, Nat.le_trans q.sz h3⟩
theorem FB.call2 (q : FB w0 W1 W p U s b p2 U2 s2 b2 ma na f mb nb g X x y) (hp : LCP r W p2 U2 s' b' e W') : e = .returned r ∧ ∃ U', FB w0 W1 W' p U s b p2 U' s' b' ma na f mb nb g X x y := by
  obtain ⟨he, U', h1, h2, h3⟩ := q.fo.op2 hp
  exact ⟨he, U', h1, fun z hz => ⟨(h2 z (Or.inr (Or.inl hz))).trans (q.bx z hz).1, (q.bx z hz).2⟩, fun z hz => ⟨(h2 z (Or.inr (Or.inr hz))).trans (q.bby z hz).1, (q.bby z hz).2⟩, q.ne, fun k hk => ⟨(q.fr k hk).1, (h2 k (Or.inl hk)).trans (q.fr k hk).2⟩, Nat.le_trans q.sz h3⟩
theorem boxSix {W : World} (k : LR.Box W z h t o) : W.cell? ⟨z, 0, none⟩ = some (.bool h) ∧ W.cell? ⟨z, 1, none⟩ = some (.string t) ∧ W.cell? ⟨z, 2, none⟩ = some (.bool o) ∧ W.frozen? ⟨z, 0, none⟩ = false ∧ W.frozen? ⟨z, 1, none⟩ = false ∧ W.frozen? ⟨z, 2, none⟩ = false :=
  ⟨k.cells.1, k.cells.2.1, k.cells.2.2.1, frozen_of_row W _ 0 _ _ k, k.cells.2.2.2.1, k.cells.2.2.2.2⟩
theorem FB.cells (q : FB w0 W1 W p U s b p2 U2 s2 b2 ma na f mb nb g X (some z) y) : W.cell? ⟨z, 0, none⟩ = some (.bool false) ∧ W.cell? ⟨z, 1, none⟩ = some (.string ⟨#[]⟩) ∧ W.cell? ⟨z, 2, none⟩ = some (.bool false) ∧ W.frozen? ⟨z, 0, none⟩ = false ∧ W.frozen? ⟨z, 1, none⟩ = false ∧ W.frozen? ⟨z, 2, none⟩ = false := boxSix (q.bx z rfl).1
theorem FC.cells (q : FC w0 W1 W p U s b p2 U2 s2 b2 ma na f mb nb g X z z' h t o) : W.cell? ⟨z', 0, none⟩ = some (.bool false) ∧ W.cell? ⟨z', 1, none⟩ = some (.string ⟨#[]⟩) ∧ W.cell? ⟨z', 2, none⟩ = some (.bool false) ∧ W.frozen? ⟨z', 0, none⟩ = false ∧ W.frozen? ⟨z', 1, none⟩ = false ∧ W.frozen? ⟨z', 2, none⟩ = false := boxSix q.bby
theorem put3_other (W : World) (z k : Nat) (h o : Bool) (t : ByteArray) (hk : k ≠ z) : (((W.setCell ⟨z, 0, none⟩ (.bool h)).setCell ⟨z, 1, none⟩ (.string t)).setCell ⟨z, 2, none⟩ (.bool o)).heap[k]? = W.heap[k]? := by
  rw [Below.heap_setCell _ _ _ _ hk, Below.heap_setCell _ _ _ _ hk, Below.heap_setCell _ _ _ _ hk]
theorem put3_turn (W : World) (z : Nat) (h o : Bool) (t : ByteArray) : Turn (fun k => k = z) W (((W.setCell ⟨z, 0, none⟩ (.bool h)).setCell ⟨z, 1, none⟩ (.string t)).setCell ⟨z, 2, none⟩ (.bool o)) :=
  ⟨rfl, rfl, rfl, by simp [World.setCell], fun k _ hk => put3_other W z k h o t hk⟩
theorem FB.store1 (q : FB w0 W1 W p U s b p2 U2 s2 b2 ma na f mb nb g X (some z) (some z')) (h : Bool) (t : ByteArray) (o : Bool) : FC w0 W1 (((W.setCell ⟨z, 0, none⟩ (.bool h)).setCell ⟨z, 1, none⟩ (.string t)).setCell ⟨z, 2, none⟩ (.bool o)) p U s b p2 U2 s2 b2 ma na f mb nb g X z z' h t o := by
  obtain ⟨q1, q2⟩ := q.bx z rfl
  obtain ⟨r1, r2⟩ := q.bby z' rfl
  have hne := q.ne z z' rfl rfl
  have tn := put3_turn W z h o t
  refine ⟨(q.fo.put (Or.inr (Or.inl rfl)) tn).wide fun k hk => ?_, q1.put h o t, (put3_other W z z' h o t (Ne.symm hne)).trans r1, hne, r2, fun k hk => ⟨(q.fr k hk).1, (put3_other W z k h o t fun e => q2 (e ▸ hk)).trans (q.fr k hk).2⟩, Nat.le_trans q.sz tn.size⟩
  rcases hk with hk | hk | hk
  · exact Or.inl hk
  · exact Or.inr (Or.inl (by rw [hk]))
  · exact Or.inr (Or.inr (by rw [hk]))
theorem FC.store2 (q : FC w0 W1 W p U s b p2 U2 s2 b2 ma na f mb nb g X z z' h t o) (h' : Bool) (t' : ByteArray) (o' : Bool) : FE w0 W1 (((W.setCell ⟨z', 0, none⟩ (.bool h')).setCell ⟨z', 1, none⟩ (.string t')).setCell ⟨z', 2, none⟩ (.bool o')) p U s b p2 U2 s2 b2 ma na f mb nb g X z z' h t o h' t' o' := by
  have tn := put3_turn W z' h' o' t'
  exact ⟨q.fo.put (Or.inr (Or.inr rfl)) tn, (put3_other W z' z h' o' t' q.ne).trans q.bx, q.bby.put h' o' t', fun k hk => ⟨(q.fr k hk).1, (put3_other W z' k h' o' t' fun e => q.nx (e ▸ hk)).trans (q.fr k hk).2⟩, Nat.le_trans q.sz tn.size⟩
end
theorem PX.made {W0 W1 W2 : World} {v : Value} {xs : List ByteArray} (o : Own W1 W0.heap.size v xs) (hb : Below W1.heap.size W1 W2) : PX W2 (fun k => W0.heap.size ≤ k ∧ k < W2.heap.size) v xs := by
  obtain ⟨g, hg, hr⟩ := o.row
  exact ⟨g, hr.below hb, fun h => ⟨hg, (hr.below hb).lt h⟩⟩
/-- Behind both requests: learners, maps, steps, rows. -/
structure FR (w0 W : World) (p : Nat) (U : Nat → Prop) (s : St) (b p2 : Nat) (U2 : Nat → Prop) (s2 : St) (b2 ma na : Nat) (f : ByteArray → Int) (mb nb : Nat) (g : ByteArray → Int) (X : Nat → Prop) (z z' : Nat) (h : Bool) (t : ByteArray) (o : Bool) (h' : Bool) (t' : ByteArray) (o' : Bool) (vx : Value) (xs : List ByteArray) (vy : Value) (ys : List ByteArray) : Prop where
  fo : Fo w0 W p U s b p2 U2 s2 b2 ma na f mb nb g X
  bx : LR.Box W z h t o
  bby : LR.Box W z' h' t' o'
  hz : X z ∧ X z'
  rx : PX W X vx xs
  ry : PX W X vy ys
section
variable {w0 W1 W W' : World} {p p2 b b2 ma na mb nb z z' : Nat} {U U2 : Nat → Prop} {s s2 : St} {f g : ByteArray → Int} {X : Nat → Prop} {h o h' o' : Bool} {t t' : ByteArray} {vx vy : Value} {xs ys : List ByteArray}
theorem FE.fr2 (q : FE w0 W1 W p U s b p2 U2 s2 b2 ma na f mb nb g X z z' h t o h' t' o') (rx : PX W1 X vx xs) (ry : PX W1 X vy ys) :
    FR w0 W p U s b p2 U2 s2 b2 ma na f mb nb g (fun k => X k ∨ k = z ∨ k = z') z z' h t o h' t' o' vx xs vy ys :=
  ⟨q.fo, q.bx, q.bby, ⟨Or.inr (Or.inl rfl), Or.inr (Or.inr rfl)⟩, (rx.same q.sz fun k hk => (q.fr k hk).2).wide fun _ hk => Or.inl hk, (ry.same q.sz fun k hk => (q.fr k hk).2).wide fun _ hk => Or.inl hk⟩
theorem FR.below (q : FR w0 W p U s b p2 U2 s2 b2 ma na f mb nb g X z z' h t o h' t' o' vx xs vy ys) (hb : Below W.heap.size W W') : FR w0 W' p U s b p2 U2 s2 b2 ma na f mb nb g X z z' h t o h' t' o' vx xs vy ys :=
  ⟨q.fo.below hb, (hb.block z q.bx.lt).trans q.bx, (hb.block z' q.bby.lt).trans q.bby, q.hz, q.rx.below hb, q.ry.below hb⟩
end
/-- An operation that may come next, not written out. -/
theorem rdy {P : Program} {ops : Array Oper} {Q : Exit → Act → World → Prop} {md : Region.Mode} {S : World → Prop} {d : Option Nat} {o : Op} {t : Nat} {p : String} {f : Array Edge} {g : Option (Nat × Bool)} {n : Nat} {l : Array Bool} {a : Act} {w : World} {i : Nat} {r : List Nat} (hi : ops[i]? = some ⟨d, o, t, p, f, g⟩)
    (h : ∀ K : Act → World → Prop, Shut (∀ a w, S w → (S w → wpAnyH P md ops Q S n (l.setIfInBounds i true) a w) → K a w) → if Region.wanted ⟨d, o, t, p, f, g⟩ (yielded ops a.tmps) = true then Oper.wp P ⟨d, o, t, p, f, g⟩ a w K Q else K (a.put d undef) w) (hr : AllReadyH P md ops Q S n l a w r) : AllReadyH P md ops Q S n l a w (i :: r) := AllReadyH.cons hi h hr
/-! The lane of the greatest numbers. -/
theorem appU {w : World} {base : Nat} {v : Value} {k : Nat} {z : Int} (h : w.ownsRow base 47 1 v k (List.replicate k (.int .u64 z))) (hk : k ≤ 1999) (hb : base ≤ w.heap.size) :
    ∃ (A : Option Addr) (cap : Nat) (w2 : World), (Builtin.append_ #[22, 22] 22 #[v, .slice (some ⟨w.heap.size, 0, none⟩) 1 1]).run Tryz.prog (w.alloc (.cells #[.int .u64 z] 47)) = .ok (.slice A (k + 1) cap) w2 ∧
      w2.ownsRow base 47 1 (.slice A (k + 1) cap) (k + 1) (List.replicate (k + 1) (.int .u64 z)) ∧ w.grownBy w2 v.ownBlock := by
  obtain ⟨i0, hi, hz0, hz1, hz2⟩ := info_parts DR.infoU
  obtain ⟨v', w2, hrun, hown2, hg, hnil, hloc⟩ := run_append_own_at (P := Tryz.prog) (w.alloc (.cells #[.int .u64 z] 47)) base 22 22 47 i0 _ 1 8
    Tryz.underlying22 hi hz0 hz1 hz2 rfl (by decide) _ _ _ (h.alloc _) ⟨w.heap.size, 0, none⟩ 1 1 [.int .u64 z] rfl (cell_one_new _ _ _) (by simp [Value.oneCell']) (by unfold maxLen; omega) (by omega) (by simp; omega)
  have hown3 := hown2
  rcases hown2.2 with ⟨_, h0⟩ | ⟨g, cap, cur, rfl, _⟩
  · omega
  refine ⟨_, cap, w2, hrun, ?_, (World.grownBy_alloc w _ _).trans hg⟩
  rw [List.replicate_succ']
  exact hown3
theorem laneU {w : World} {base : Nat} {v : Value} {k : Nat} {z : Int} {M : Nat} (hz : z = (M : Int)) (hM : M ≤ 18446744073709551615) (hk : k ≤ 1000) (h : w.ownsRow base 47 1 v k (List.replicate k (.int .u64 z))) : DR.Lane w 0 w.heap.size v (List.replicate k M) := by
  have h1' := h
  rcases h.2 with ⟨rfl, h0⟩ | ⟨g, cap, cur, rfl, hb, hg, hn, hm, hs, ht⟩
  · subst h0
    exact DR.Lane.nil _ _ _ _ _
  · refine ⟨by rw [List.length_replicate]; exact hk, fun x hx => by rw [List.eq_of_mem_replicate hx]; exact hM, Or.inr ⟨g, 0, cap, by rw [List.length_replicate], Nat.zero_le _, (Array.getElem?_eq_some_iff.1 hg).1, by rw [List.length_replicate]; exact hn, hm, fun j hj => ?_⟩⟩
    rw [List.length_replicate] at hj
    have := h1'.cells (g := g) rfl j (.int .u64 z) (by rw [List.getElem?_replicate, if_pos hj])
    rw [show (⟨g, 0, none⟩ : Addr).add j = ⟨g, 0 + j, none⟩ by unfold Addr.add; split <;> simp_all] at this
    rw [this, hz, List.getD_eq_getElem?_getD, List.getElem?_replicate, if_pos hj]
    rfl
/-- So many were laid. -/
def HiR (w0 : World) (v i : Value) (W : World) : Prop := ∃ k : Nat, i = .int .i64 (k : Int) ∧ k ≤ 100 ∧ W.ownsRow w0.heap.size 47 1 v k (List.replicate k (.int .u64 18446744073709551615)) ∧ Below w0.heap.size w0 W
theorem hi_next {w0 W W2 : World} {v v' : Value} {k : Nat} (h : W.ownsRow w0.heap.size 47 1 v k (List.replicate k (.int .u64 18446744073709551615))) (hb : Below w0.heap.size w0 W) (hk : k < 100) (h2 : W2.ownsRow w0.heap.size 47 1 v' (k + 1) (List.replicate (k + 1) (.int .u64 18446744073709551615))) (hg : W.grownBy W2 v.ownBlock) : HiR w0 v' (.int .i64 ((k : Int) + 1)) W2 :=
  ⟨k + 1, by go_num, by omega, h2, hb.grown hg hb.size fun k hk => (h.lt k hk).1⟩
/-- k keys were asked for. -/
def FoR (w0 : World) (p p2 ma mb n mo : Nat) (i : Value) (W : World) : Prop := ∃ (k na nb : Nat) (U U2 : Nat → Prop) (s s2 : St) (f g : ByteArray → Int), i = .int .i64 (k : Int) ∧ k ≤ n ∧ na ≤ k ∧ nb ≤ 2 * k ∧ Fo w0 W p U s (4 * k) p2 U2 s2 (4 * k) ma na f mb nb g (fun _ => False) ∧ s.mo = mo ∧ s2.mo = mo ∧ s.six = false ∧ s2.six = false ∧ FolA s f k ∧ FolB s2 g k ∧ ∀ x, 0 ≤ g x ∧ g x ≤ (k : Int)
end Go.Proofs.YtnlckkahkghneaaGreatDoor.LE
