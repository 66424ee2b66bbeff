/- What the laws of layer 10 share: Law10 On10 Rg10 Lx Ly Sm10 Bd10 in one text. -/
import Derived.Test.YtnlckkahkghneaaGreatDoorAw10
import Derived.Test.YtnlckkahkghneaaGreatDoorShapes9
import Derived.Test.YtnlckkahkghneaaGreatDoorShapes10
import Derived.Test.YtnlckkahkghneaaGreatDoorLk
import Derived.Test.YtnlckkahkghneaaGreatDoorLq
set_option maxRecDepth 20000
namespace Go.Proofs.YtnlckkahkghneaaGreatDoor.LE
open Go.RowKit Sg
theorem req_keep (s : St) (k : ByteArray) : (s.req k).six = s.six ∧ (s.req k).mo = s.mo := by
  by_cases hm : s.mo = 0
  · unfold St.req
    rw [if_pos hm]
    exact ⟨rfl, rfl⟩
  · cases hk : s.has k with
    | true => rw [req_hit hm hk, (window_same _).1, (window_same _).2.1]; exact ⟨rfl, rfl⟩
    | false =>
      rw [req_miss hm hk, (window_same _).1, (window_same _).2.1]
      exact ⟨(make_w s.tick k).2.1, (make_w s.tick k).2.2.1⟩
/-- A row of keys that came in. -/
def KRow (w : World) (A : Option Addr) (n cc : Nat) (S : Nat → ByteArray) : Prop :=
  (∀ i, i < n → (S i).size ≤ maxLen) ∧ (0 < n → ∃ g o, A = some ⟨g, o, none⟩ ∧ g < w.heap.size ∧ n ≤ cc ∧ cc ≤ maxLen ∧ ∀ i, i < n → w.cell? ⟨g, o + i, none⟩ = some (.string (S i)))
theorem kd_six {a : Int} (h : 5 ≤ a ∧ a ≤ 6) : ∃ six : Bool, ((if six then 6 else 5 : Nat) : Int) = a := by
  by_cases h6 : a = 6
  · exact ⟨true, by rw [if_pos rfl]; omega⟩
  · exact ⟨false, by rw [if_neg (by simp)]; omega⟩
end Go.Proofs.YtnlckkahkghneaaGreatDoor.LE

namespace Go.Proofs.YtnlckkahkghneaaGreatDoor.LE
open Go.RowKit Sg
/-- The keys xs were asked for once each. -/
structure On (s : St) (mo : Nat) (xs : List ByteArray) : Prop where
  m : s.mo = mo
  kin : ∀ x ∈ s.keys, x ∈ xs
  gin : ∀ x ∈ s.ghosts, x ∈ xs
  len : s.keys.length = min mo xs.length
  glo : min mo (xs.length - s.keys.length) ≤ s.ghosts.length
  ghi : s.ghosts.length ≤ xs.length - s.keys.length
  w : s.w = half
theorem On.start (six : Bool) (m : Nat) (vs : List Nat) : On (St.start six m vs) m [] := by
  have hk : (St.start six m vs).keys = [] := (KSt.start_kind (k := if six then 3 else 0) (by cases six <;> decide) m).2.2.1
  refine ⟨rfl, fun x hx => ?_, fun x hx => ?_, ?_, ?_, ?_, rfl⟩
  · rw [hk] at hx; cases hx
  · cases hx
  · rw [hk]; simp
  · simp
  · show 0 ≤ _; omega
theorem On.req {s : St} {mo : Nat} {xs : List ByteArray} (h : Ok s) (o : On s mo xs) (h1 : 1 ≤ mo) {x : ByteArray} (hx : x ∉ xs) : s.has x = false ∧ s.outB x = decide (mo < xs.length + 1) ∧ On (s.req x) mo (xs ++ [x]) := by
  have hm : s.mo ≠ 0 := by rw [o.m]; omega
  have hk : x ∉ s.keys := fun e => hx (o.kin x e)
  have hg : x ∉ s.ghosts := fun e => hx (o.gin x e)
  have hh : s.has x = false := inn_no.2 hk
  have F := req_f h hm x
  have hi : inn s.keys x = false := inn_no.2 hk
  obtain ⟨n1, n2, n3, n4⟩ := req_new h hm hk hg
  have hl := o.len
  have ho : s.outB x = decide (mo < xs.length + 1) := by
    rw [F.outE, hi, o.m, Bool.eq_iff_iff]
    simp
    omega
  have hkl := F.len
  rw [hh] at hkl
  have lx : (xs ++ [x]).length = xs.length + 1 := by rw [List.length_append]; rfl
  have g1 := o.glo
  have g2 := o.ghi
  have om := o.m
  refine ⟨hh, ho, (req_keep s x).2.trans o.m, fun y hy => ?_, fun y hy => ?_, ?_, ?_, ?_, n3.trans o.w⟩
  · rcases F.old y hy with h | h
    · exact List.mem_append_left _ (o.kin y h)
    · rw [h]; exact List.mem_append_right _ (List.mem_singleton.2 rfl)
  · rcases n4 y hy with h | h
    · exact List.mem_append_left _ (o.gin y h)
    · exact List.mem_append_left _ (o.kin y h)
  all_goals
    rw [lx]
    cases hb : s.outB x with
    | true =>
      rw [hb] at hkl
      have hmx : mo < xs.length + 1 := of_decide_eq_true (ho.symm.trans hb)
      obtain ⟨q1, q2⟩ := n1 hb
      simp at hkl
      rw [om] at q2
      omega
    | false =>
      rw [hb] at hkl
      have hmx : ¬ mo < xs.length + 1 := of_decide_eq_false (ho.symm.trans hb)
      have q1 := n2 hb
      simp at hkl
      rw [q1] at *
      omega

/-- A learner, and a row of the law's own beside it. -/
structure LR2 (w0 w : World) (l : Nat) (T : Nat → Prop) (s : St) (b : Nat) (v : Value) (xs : List ByteArray) : Prop where
  lv : LL w0 w l T s b
  own : Own w w0.heap.size v xs
  out : ∀ g, v.ownBlock = some g → ¬ T g
section
variable {w0 w w' : World} {l b b' : Nat} {T T' : Nat → Prop} {s s' : St} {v r : Value} {xs : List ByteArray} {e : Ending}
theorem LR2.below (q : LR2 w0 w l T s b v xs) (hb : Below w.heap.size w w') : LR2 w0 w' l T s b v xs := ⟨q.lv.below hb, q.own.below hb, q.out⟩
theorem LR2.op (q : LR2 w0 w l T s b v xs) (hp : LCP r w l T s' b' e w') : e = .returned r ∧ ∃ T', LR2 w0 w' l T' s' b' v xs ∧ Went w w' T T' := by
  obtain ⟨he, T', h1, h2⟩ := q.lv.op hp
  refine ⟨he, T', ⟨h1, q.own.same fun g hg => h2.turn.block g (q.own.lt hg).1 (q.out g hg), fun g hg hk => ?_⟩, h2⟩
  rcases h2.new g hk with h | h
  · exact q.out g hg h
  · have := (q.own.lt hg).1; omega
theorem LR2.app (q : LR2 w0 w l T s b v xs) (x : ByteArray) (hx : x.size ≤ maxLen) (hl : xs.length ≤ 1999) :
    ∃ (A : Option Addr) (cap : Nat) (w2 : World), (Builtin.append_ #[33, 33] 33 #[v, .slice (some ⟨w.heap.size, 0, none⟩) 1 1]).run Tryz.prog (w.alloc (.cells #[.string x] 9)) = .ok (.slice A (xs.length + 1) cap) w2 ∧
      LR2 w0 w2 l T s b (.slice A (xs.length + 1) cap) (xs ++ [x]) := by
  obtain ⟨A, cap, w2, hrun, hO, hG, hloc⟩ := LR.app_at q.own x hx hl q.lv.bel.size
  have tn : Turn (fun k => v.ownBlock = some k) w w2 := ⟨hG.os, hG.tape, hG.output, hG.size, fun k hk hn => hG.block k hk (fun e => hn e.symm)⟩
  refine ⟨A, cap, w2, hrun, ⟨⟨q.lv.ca.beside tn fun k hk hv => q.out k hv hk, q.lv.bel.trans ⟨hG.os, hG.tape, hG.output, hG.size, fun k hk => hG.block k (Nat.lt_of_lt_of_le hk q.lv.bel.size) fun e => by have := (q.own.lt e.symm).2; omega⟩, q.lv.low⟩, hO, fun g hg hk => ?_⟩⟩
  rcases hloc g hg with h | h
  · exact q.out g h hk
  · have := q.lv.lt g hk; omega
theorem LR2.rowOf (q : LR2 w0 w l T s b v xs) : ∃ g, Row w g v xs := by
  obtain ⟨g, _, hr⟩ := q.own.row
  exact ⟨g, hr⟩
end
end Go.Proofs.YtnlckkahkghneaaGreatDoor.LE

namespace Go.Proofs.YtnlckkahkghneaaGreatDoor.LE
open Go.RowKit Go.Maps Go.WideMaps Sg
theorem zeroB (w : World) : (zeroValue 4).run Tryz.prog w = .ok (.bool false) w := by kernel_rfl
theorem zeroI (w : World) : (zeroValue 3).run Tryz.prog w = .ok (.int .i64 0) w := by kernel_rfl
theorem plainElem_bool_inv {H : Type} {P : Program} {e : TypeId} (he : P.underlying e = some .bool) {v : Value} {z : DataW H × List MemPlace} (h : plainElem P e v = some z) : ∃ a, v = .bool a ∧ z = (.lit (.bool a), []) := by
  unfold plainElem at h
  rw [he] at h
  cases v <;> simp at h
  subst h
  exact ⟨_, rfl, rfl⟩
/-- Block b is a map of at most m entries; at each key it reads what f says. -/
def BMap (w : World) (b m : Nat) (f : ByteArray → Bool) : Prop := ∃ D : DataW Unit, w.ownsMap Tryz.prog 9 (plainElem Tryz.prog 4) b m D ∧ IsMap D ∧ ∀ s : ByteArray, D.atKey (.string s.data.toList) (.lit (.bool false)) = .lit (.bool (f s))
def IMap (w : World) (b m : Nat) (f : ByteArray → Int) : Prop := ∃ D : DataW Unit, w.ownsMap Tryz.prog 9 (plainElem Tryz.prog 3) b m D ∧ IsMap D ∧ ∀ s : ByteArray, D.atKey (.string s.data.toList) (.lit (.int .i64 0)) = .lit (.int .i64 (f s))
def updB (f : ByteArray → Bool) (s : ByteArray) (z : Bool) : ByteArray → Bool := fun y => if y = s then z else f y
def updI (f : ByteArray → Int) (s : ByteArray) (z : Int) : ByteArray → Int := fun y => if y = s then z else f y
section
variable {w w' : World} {b m : Nat} {f : ByteArray → Bool} {h : ByteArray → Int}
theorem BMap.made (w : World) : BMap (w.alloc (.map #[] 0)) w.heap.size 0 (fun _ => false) := ⟨.map [], World.ownsMap_made w _ _ _, isMap_empty, fun _ => rfl⟩
theorem IMap.made (w : World) : IMap (w.alloc (.map #[] 0)) w.heap.size 0 (fun _ => 0) := ⟨.map [], World.ownsMap_made w _ _ _, isMap_empty, fun _ => rfl⟩
theorem BMap.lt (q : BMap w b m f) : b < w.heap.size := by
  obtain ⟨D, h1, _⟩ := q
  exact h1.lt
theorem IMap.lt (q : IMap w b m h) : b < w.heap.size := by
  obtain ⟨D, h1, _⟩ := q
  exact h1.lt
theorem BMap.same (q : BMap w b m f) (hs : w'.heap[b]? = w.heap[b]?) : BMap w' b m f := by
  obtain ⟨D, h1, h2⟩ := q
  exact ⟨D, owns_same h1 hs, h2⟩
theorem IMap.same (q : IMap w b m h) (hs : w'.heap[b]? = w.heap[b]?) : IMap w' b m h := by
  obtain ⟨D, h1, h2⟩ := q
  exact ⟨D, owns_same h1 hs, h2⟩
set_option maxRecDepth 100000 in
theorem BMap.look (q : BMap w b m f) {s : ByteArray} (hs : s.size ≤ maxLen) : (Instr.lookup 85 (.map (some b)) (.string s) false).run Tryz.prog w = .ok (.bool (f s)) w := by
  obtain ⟨D, h1, _, h3⟩ := q
  obtain ⟨v, ps, hrun, hv⟩ := h1.lookup lawS Tryz.underlying85 (zeroB w) (plainElem_bool Tryz.underlying4 false) (keyOf_string_mk Tryz.underlying9 hs)
  obtain ⟨c, rfl, hc⟩ := plainElem_bool_inv Tryz.underlying4 hv
  have hc := congrArg Prod.fst hc
  simp only [h3 s] at hc
  injection hc with hc
  injection hc with hc
  rw [hrun, hc]
set_option maxRecDepth 100000 in
theorem IMap.look (q : IMap w b m h) {s : ByteArray} (hs : s.size ≤ maxLen) : (Instr.lookup 88 (.map (some b)) (.string s) false).run Tryz.prog w = .ok (.int .i64 (h s)) w := by
  obtain ⟨D, h1, _, h3⟩ := q
  obtain ⟨c, hrun, hat, _⟩ := h1.lookup_int lawS Tryz.underlying88 Tryz.underlying3 (zeroI w) (keyOf_string_mk Tryz.underlying9 hs)
  rw [h3 s] at hat
  injection hat with hat
  injection hat with _ hat
  rw [hrun, hat]
set_option maxRecDepth 100000 in
theorem BMap.store (q : BMap w b m f) {s : ByteArray} (hs : s.size ≤ maxLen) (z : Bool) (hm : m ≤ 100000) :
    ∃ w', (Instr.mapUpdate 85 (.map (some b)) (.string s) (.bool z)).run Tryz.prog w = .ok () w' ∧ BMap w' b (m + 1) (updB f s z) ∧ w.grownBy w' (some b) := by
  obtain ⟨D, h1, h2, h3⟩ := q
  obtain ⟨w', hrun, hown, hg⟩ := h1.update lawS Tryz.underlying85 (by unfold maxLen; omega) (keyOf_string_mk Tryz.underlying9 hs) (plainElem_bool Tryz.underlying4 z)
  refine ⟨w', hrun, ⟨_, hown, h2.put _ _, fun y => ?_⟩, hg⟩
  unfold updB
  by_cases e : y = s
  · subst e
    rw [if_pos rfl, atKey_put_same h2 (show WideAt.IsKeyLit (.string y.data.toList) from trivial)]
  · rw [if_neg e, atKey_put_other (str_ne e)]
    exact h3 y
set_option maxRecDepth 100000 in
theorem IMap.store (q : IMap w b m h) {s : ByteArray} (hs : s.size ≤ maxLen) {z : Int} (hz : -9223372036854775808 ≤ z ∧ z ≤ 9223372036854775807) (hm : m ≤ 100000) :
    ∃ w', (Instr.mapUpdate 88 (.map (some b)) (.string s) (.int .i64 z)).run Tryz.prog w = .ok () w' ∧ IMap w' b (m + 1) (updI h s z) ∧ w.grownBy w' (some b) := by
  obtain ⟨D, h1, h2, h3⟩ := q
  obtain ⟨w', hrun, hown, hg⟩ := h1.update lawS Tryz.underlying88 (by unfold maxLen; omega) (keyOf_string_mk Tryz.underlying9 hs) (plainElem_int Tryz.underlying3 (i64_wf hz))
  refine ⟨w', hrun, ⟨_, hown, h2.put _ _, fun y => ?_⟩, hg⟩
  unfold updI
  by_cases e : y = s
  · subst e
    rw [if_pos rfl, atKey_put_same h2 (show WideAt.IsKeyLit (.string y.data.toList) from trivial)]
  · rw [if_neg e, atKey_put_other (str_ne e)]
    exact h3 y
end
theorem turn_one {w w' : World} {b : Nat} (hg : w.grownBy w' (some b)) : Turn (fun k => k = b) w w' := ⟨hg.os, hg.tape, hg.output, hg.size, fun k hk hn => hg.block k hk (fun e => hn (by injection e))⟩

/-- A learner and a map of bools beside it. -/
structure LB (w0 w : World) (l : Nat) (T : Nat → Prop) (s : St) (c : Nat) (b m : Nat) (f : ByteArray → Bool) : Prop where
  lv : LL w0 w l T s c
  map : BMap w b m f
  mT : ¬ T b
  low : w0.heap.size ≤ b
section
variable {w0 w w' : World} {l b m c c' : Nat} {T T' : Nat → Prop} {s s' : St} {f : ByteArray → Bool} {r : Value} {e : Ending}
theorem LB.made (q : LL w0 w l T s c) : LB w0 (w.alloc (.map #[] 0)) l T s c w.heap.size 0 (fun _ => false) :=
  ⟨q.below ((Below.refl _ _).alloc (Nat.le_refl _) _), BMap.made w, fun hk => by have := q.lt _ hk; omega, q.bel.size⟩
theorem LB.below (q : LB w0 w l T s c b m f) (hb : Below w.heap.size w w') : LB w0 w' l T s c b m f := ⟨q.lv.below hb, q.map.same (hb.block b q.map.lt), q.mT, q.low⟩
theorem LB.op (q : LB w0 w l T s c b m f) (hp : LCP r w l T s' c' e w') : e = .returned r ∧ ∃ T', LB w0 w' l T' s' c' b m f ∧ Went w w' T T' := by
  obtain ⟨he, T', h1, h2⟩ := q.lv.op hp
  refine ⟨he, T', ⟨h1, q.map.same (h2.turn.block b q.map.lt q.mT), fun hk => ?_, q.low⟩, h2⟩
  rcases h2.new b hk with h | h
  · exact q.mT h
  · have := q.map.lt; omega
theorem LB.store (q : LB w0 w l T s c b m f) {k : ByteArray} (hs : k.size ≤ maxLen) (z : Bool) (hm : m ≤ 100000) :
    ∃ w', (Instr.mapUpdate 85 (.map (some b)) (.string k) (.bool z)).run Tryz.prog w = .ok () w' ∧ LB w0 w' l T s c b (m + 1) (updB f k z) := by
  obtain ⟨w', hrun, hM, hg⟩ := q.map.store hs z hm
  have ht := turn_one hg
  exact ⟨w', hrun, ⟨⟨q.lv.ca.beside ht fun k hk e => q.mT (by have e : k = b := e; exact e ▸ hk), q.lv.bel.trans (ht.below (fun k hk => by have hk : k = b := hk; subst hk; exact q.low) q.lv.bel.size), q.lv.low⟩, hM, q.mT, q.low⟩⟩
end
/-- What is left of the lane. -/
theorem win5 (t : St) (h : t.six = false) : t.window = t := by unfold St.window; rw [if_pos h]
theorem req_vs {s : St} (h5 : s.six = false) (hm : s.mo ≠ 0) (k : ByteArray) : (s.req k).vs = if s.outB k = true then s.vs.tail else s.vs := by
  cases hk : s.has k with
  | true =>
    have e1 : s.outB k = false := by unfold St.outB; rw [hk]; rfl
    rw [req_hit hm hk, win5 (s.tick.onHit k) h5, e1, if_neg (by simp)]
    rfl
  | false =>
    have e1 : s.outB k = s.tick.full := by unfold St.outB; rw [hk, decide_eq_true hm]; rfl
    rw [req_miss hm hk, win5 ((s.tick.make k).both k) ((make_w s.tick k).2.1.trans h5), e1]
    show (s.tick.make k).vs = _
    unfold St.make
    cases hf : s.tick.full with
    | true =>
      rw [if_pos rfl, if_pos rfl]
      unfold St.evict
      split <;> rfl
    | false => rw [if_neg (by simp), if_neg (by simp)]; rfl
theorem drop_headD (vs : List Nat) (j : Nat) : (vs.drop j).headD 0 = vs.getD j 0 := by
  induction vs generalizing j with
  | nil => simp
  | cons a t ih =>
    cases j with
    | zero => rfl
    | succ j => exact ih j
/-- What LearnRegrets reads of a request. -/
structure RgF (s : St) (k : ByteArray) (f : ByteArray → Bool) (bf af : Nat) (was hit out : Bool) : Prop where
  no : was = false → af = bf
  hit : was = true → hit = false
  up : was = true → f k = true → af ≤ bf
  dn : was = true → f k = false → bf ≤ af
  lo : 46116860184273879 ≤ af
  hi : af ≤ 4565569158243114025
theorem rgF {s : St} {k : ByteArray} (h : Ok s) (h2 : Ok (s.req k)) (hm : s.mo ≠ 0) {f : ByteArray → Bool} (b : ByOf s f) : RgF s k f s.w (s.req k).w (inn s.ghosts k) (s.has k) (s.outB k) := by
  refine ⟨fun e => req_w_none hm (inn_no.1 e), fun e => nh h (inn_iff.1 e), fun e hf => ?_, fun e hf => ?_, ?_, ?_⟩
  · rcases List.mem_append.1 (inn_iff.1 e) with g | g
    · exact req_w_A h hm g
    · rw [b.2 k g] at hf; cases hf
  · rcases List.mem_append.1 (inn_iff.1 e) with g | g
    · rw [b.1 k g] at hf; cases hf
    · exact req_w_B h hm g
  · have := h2.wl
    rw [least_val] at this
    exact this
  · have := h2.wh
    rw [least_val] at this
    unfold one at this
    omega
theorem byOf_next {s : St} (h : Ok s) (hm : s.mo ≠ 0) (k : ByteArray) {f : ByteArray → Bool} (b : ByOf s f) :
    (s.outB k = false → ByOf (s.req k) f) ∧ (s.outB k = true → ByOf (s.req k) (updB f (s.vicV k) (decide (s.vs.headD 0 / 4 < (s.req k).w)))) := by
  refine ⟨fun e => ByOf.req h hm k b (fun e2 => by rw [e] at e2; cases e2) (fun _ _ => rfl), fun e => ByOf.req h hm k b (fun _ => ⟨?_, fun x hx => if_neg hx⟩) (fun e2 => by rw [e] at e2; cases e2)⟩
  have hh : s.has k = false := by
    cases hk : s.has k with
    | false => rfl
    | true => unfold St.outB at e; rw [hk] at e; cases e
  unfold updB
  rw [if_pos rfl, req_w hm, hh, if_neg (by simp)]
  rfl
end Go.Proofs.YtnlckkahkghneaaGreatDoor.LE

namespace Go.Proofs.YtnlckkahkghneaaGreatDoor.LE
open Go.RowKit Go.Maps Go.WideMaps Sg

/-- A key is no ghost any more. -/
def fgt (s : St) (k : ByteArray) : St := { s with HA := wo s.HA k, HB := wo s.HB k }
theorem fgt_ok {s : St} (h : Ok s) (k : ByteArray) : Ok (fgt s k) := by
  have r := regret_ok h k
  exact { h with nd := r.nd, dis := fun x hx => r.dis x hx, lA := r.lA, lB := r.lB, old := r.old }
theorem fgt_gho (s : St) (k x : ByteArray) : x ∈ (fgt s k).ghosts ↔ x ∈ s.ghosts ∧ x ≠ k := regret_gho s k x
theorem fgt_parts (s : St) (k : ByteArray) : pOf (fgt s k) = pts s.A s.B (rem (gk s.HA) k) (rem (gk s.HB) k) (fdel (fOf s.HA s.HB) k) := by
  unfold pOf fgt
  rw [gk_wo, gk_wo, fOf_wo]
theorem rm_fgt (s : St) (k : ByteArray) : s.rm k = fgt (s.out k) k := rfl
/-- What an adoption leaves. -/
def adP (s : St) (k : ByteArray) : St := if s.adB k = true then (fgt s k).both k else s
theorem adP_ok {s : St} (h : Ok s) (k : ByteArray) : Ok (adP s k) ∧ (s.adB k = true → k ∉ s.A.keys ∧ s.A.keys.length < s.mo) := by
  have q : s.adB k = true → k ∉ s.A.keys ∧ s.A.keys.length < s.mo := fun hb => by
    unfold St.adB at hb
    rw [Bool.and_eq_true, Bool.not_eq_true'] at hb
    exact ⟨inn_no.1 hb.1, of_decide_eq_true hb.2⟩
  refine ⟨?_, q⟩
  unfold adP
  split
  · rename_i hb
    exact (both_ok (fgt_ok h k) (q hb).1 (fun e => ((fgt_gho s k k).1 e).2 rfl) (q hb).2).1
  · exact h
section
variable (w : World) (i : Ix) (S : Sx) (B E : Nat) (L : List (List Nat)) (lane : Int) (s : St) (b : Nat) (h : LT w i S B E L lane s b)
include h
theorem forget_t (key : ByteArray) (hs : key.size ≤ maxLen) : Calls Tryz.prog 72 #[.pointer (some ⟨i.l, 0, none⟩), .string key] w (TPost (.tuple #[]) w i S B E L lane (fgt s key) b) := by
  refine (forget_r w i S (flOf s B lane) s.A s.B (gk s.HA) (gk s.HB) (fOf s.HA s.HB) (fun _ => b) h.raw key hs).mono fun e w' hp => ?_
  rw [← fgt_parts] at hp
  have l := h.lim
  exact h.post (s' := fgt s key) (b' := b) hp (fgt_ok h.ok key) ⟨l.mo, l.clock, l.asked, l.hits, l.last, l.still⟩ rfl
set_option maxHeartbeats 2000000 in
theorem remove_t (key : ByteArray) (hs : key.size ≤ maxLen) : Calls Tryz.prog 19 #[.pointer (some ⟨i.l, 0, none⟩), .string key] w (TPost (.bool (s.has key)) w i S B E L lane (s.rm key) b) := by
  have hb1 := (Below.refl w.heap.size w).alloc (Nat.le_refl _) (.cells #[.string key] 9)
  have H1 := Lib.hid (h.below hb1)
  have X1 := Lib.hid (show KB (w.alloc (.cells #[.string key] 9)) i S B E w.heap.size (.string key) from ⟨sbox_new w _ _, fun e => Nat.lt_irrefl _ (h.lt e)⟩)
  have x1 := X1.out.cell
  have W1 := Lib.hid (Went.below (S := tblk i S B E) hb1)
  have V := Lib.hid (has_t _ i S B E L lane s b H1.out key hs)
  have HF := Lib.hid (fun (w2 : World) (S2 : Sx) (h2 : LT w2 i S2 B E L lane (s.out key) b) => forget_t w2 i S2 B E L lane (s.out key) b h2 key hs)
  have BTH := Lib.hid (fun (w4 : World) (h4 : LT w4 i S B E L lane s b) (k4 : KB w4 i S B E w.heap.size (.string key)) =>
    show Calls Tryz.prog 63 #[.pointer (some ⟨i.l, 0, none⟩), .func (.func 70) #[] #[.pointer (some ⟨w.heap.size, 0, none⟩)]] w4 (fun e w5 => TPost (.tuple #[]) w4 i S B E L lane (s.out key) b e w5 ∧ w5.cell? ⟨w.heap.size, 0, none⟩ = some (.string key)) from
    (both_r w4 i S (flOf s B lane) s.A s.B (s.A.rm key) (s.B.rm key) (gk s.HA) (gk s.HB) (fOf s.HA s.HB) (fun _ => b) (fun _ => b) 70 w.heap.size (.string key) h4.raw k4.cell (fun e => k4.out (Or.inl e)) cRmRE (fun _ _ => Nat.le_refl _)
      (fun w1 p U hP hx => cRmR w1 p U s.A b w.heap.size key hP hx hs) (fun w1 p U hP hx => cRmR w1 p U s.B b w.heap.size key hP hx hs)).mono fun e w5 hp => by
        obtain ⟨he, S5, r5, g5, _, hc⟩ := hp
        have l := h4.lim
        exact ⟨h4.post (s' := s.out key) (b' := b) ⟨he, S5, r5, g5⟩ (out_ok h4.ok key) ⟨l.mo, l.clock, l.asked, l.hits, l.last, l.still⟩ rfl, hc⟩)
  rw [rm_fgt]
  generalize s.has key = hv at *
  clear h hb1
  go_enter Tryz.func19, Tryz.ntmps19
  go_wp2_with fail
  refine V.out.mono ?_
  rintro e w2 ⟨rfl, hB⟩
  have H2 := Lib.hid (H1.out.below hB)
  have X2 := Lib.hid (X1.out.below hB)
  have W2 := Lib.hid (W1.out.trans (Went.below (S := tblk i S B E) hB))
  have x2 := X2.out.cell
  clear hB H1 X1 W1 V x1
  go_wp2_with fail
  refine (BTH.out w2 H2.out X2.out).mono ?_
  rintro e w3 ⟨⟨rfl, S3, L3, h3, hL3, g3⟩, x3⟩
  have P3 := Lib.hid (And.intro h3 (And.intro hL3 (W2.out.trans g3)))
  clear h3 hL3 g3 BTH H2 X2 W2 x2
  go_wp2_with fail
  refine (forget_t w3 i S3 B E L3 lane (s.out key) b P3.out.1 key hs).mono ?_
  intro e w4 hp
  obtain ⟨rfl, h4⟩ := TPost.trans P3.out.2.2 P3.out.2.1 hp
  have H4 := Lib.hid h4
  clear h4 hp P3 HF x3
  go_wp2_with fail
  go_ret
  exact ⟨rfl, H4.out⟩
set_option maxHeartbeats 4000000 in
theorem adopt_t (key : ByteArray) (hs : key.size ≤ maxLen) (hb : b ≤ 890) : Calls Tryz.prog 23 #[.pointer (some ⟨i.l, 0, none⟩), .string key] w (TPost (.bool (s.adB key)) w i S B E L lane (adP s key) (b + 1)) := by
  have hb1 := (Below.refl w.heap.size w).alloc (Nat.le_refl _) (.cells #[.string key] 9)
  have H1 := Lib.hid (h.below hb1)
  have X1 := Lib.hid (show KB (w.alloc (.cells #[.string key] 9)) i S B E w.heap.size (.string key) from ⟨sbox_new w _ _, fun e => Nat.lt_irrefl _ (h.lt e)⟩)
  have W1 := Lib.hid (Went.below (S := tblk i S B E) hb1)
  obtain ⟨kl, hkl⟩ : ∃ kl, kl = s.keys.length := ⟨_, rfl⟩
  obtain ⟨mm, hmm⟩ : ∃ mm, mm = s.mo := ⟨_, rfl⟩
  obtain ⟨hv, hhv⟩ : ∃ x, x = s.has key := ⟨_, rfl⟩
  have AB := Lib.hid (show s.adB key = (!hv && decide (kl < mm)) from by rw [hhv, hkl, hmm]; rfl)
  have OK := Lib.hid (adP_ok h.ok key)
  have LIM := Lib.hid h.lim
  have FF := Lib.hid (show ∀ W, Below (w.alloc (.cells #[.string key] 9)).heap.size (w.alloc (.cells #[.string key] 9)) W → W.cell? ⟨w.heap.size, 0, none⟩ = some (.string key) ∧ W.cell? ⟨i.l, 1, none⟩ = some (.int .i64 (mm : Int)) from fun W hB => ⟨(X1.out.below hB).cell, by have := (H1.out.below hB).cm; rw [← hmm] at this; exact this⟩)
  have VH := Lib.hid (show ∀ W, Below (w.alloc (.cells #[.string key] 9)).heap.size (w.alloc (.cells #[.string key] 9)) W → Calls Tryz.prog 34 #[.pointer (some ⟨i.l, 0, none⟩), .string key] W (Told (.bool hv) W) from fun W hB => by
    have := has_t W i S B E L lane s b (H1.out.below hB) key hs
    rw [← hhv] at this
    exact this)
  have VL := Lib.hid (show ∀ W, Below (w.alloc (.cells #[.string key] 9)).heap.size (w.alloc (.cells #[.string key] 9)) W → Calls Tryz.prog 33 #[.pointer (some ⟨i.l, 0, none⟩)] W (Told (.int .i64 (kl : Int)) W) from fun W hB => by
    have := len_t W i S B E L lane s b (H1.out.below hB)
    rw [← hkl] at this
    exact this)
  have D0 := Lib.hid (show Below (w.alloc (.cells #[.string key] 9)).heap.size (w.alloc (.cells #[.string key] 9)) (w.alloc (.cells #[.string key] 9)).drew from ⟨rfl, rfl, rfl, Nat.le_refl _, fun _ _ => rfl⟩)
  have BTH := Lib.hid (fun (w4 : World) (h4 : LT w4 i S B E L lane s b) (k4 : KB w4 i S B E w.heap.size (.string key)) =>
    both_r w4 i S (flOf s B lane) s.A s.B (s.A.ad key) (s.B.ad key) (gk s.HA) (gk s.HB) (fOf s.HA s.HB) (fun _ => b) (fun _ => b + 1) 75 w.heap.size (.string key) h4.raw k4.cell (fun e => k4.out (Or.inl e)) cAdAE (fun _ _ => Nat.le_succ _)
      (fun w1 p U hP hx => cAdA w1 p U s.A b w.heap.size key hP hx hs (by omega)) (fun w1 p U hP hx => cAdA w1 p U s.B b w.heap.size key hP hx hs (by omega)))
  have FIN := Lib.hid (fun (w4 w5 w6 : World) (h4 : LT w4 i S B E L lane s b) (g4 : Went w w4 (tblk i S B E) (tblk i S B E)) (S5 : Sx) (_ : Raw w5 i S5 (flOf s B lane) (pts (s.A.ad key) (s.B.ad key) (gk s.HA) (gk s.HB) (fOf s.HA s.HB)) (fun _ => b + 1)) (g5 : Went w4 w5 (blk i S) (blk i S5)) (e : Ending) (hp : RPost (.tuple #[]) w5 i S5 (flOf s B lane) (pts (s.A.ad key) (s.B.ad key) (rem (gk s.HA) key) (rem (gk s.HB) key) (fdel (fOf s.HA s.HB) key)) (fun _ => b + 1) e w6) (ha : s.adB key = true) =>
    show e = .returned (.tuple #[]) ∧ TPost (.bool (s.adB key)) w i S B E L lane (adP s key) (b + 1) (.returned (.bool true)) w6 from by
      obtain ⟨he, S6, r6, g6⟩ := hp
      have ep : pts (s.A.ad key) (s.B.ad key) (rem (gk s.HA) key) (rem (gk s.HB) key) (fdel (fOf s.HA s.HB) key) = pOf ((fgt s key).both key) := by
        unfold pOf St.both fgt
        rw [gk_wo, gk_wo, fOf_wo]
      have ea : adP s key = (fgt s key).both key := if_pos ha
      rw [ep] at r6
      have l := h4.lim.mono (show b ≤ b + 1 by omega)
      have p := h4.post (s' := (fgt s key).both key) (b' := b + 1) (v := .tuple #[]) ⟨he, S6, r6, g5.trans g6⟩ (by rw [← ea]; exact OK.out.1) ⟨l.mo, l.clock, l.asked, l.hits, l.last, l.still⟩ rfl
      obtain ⟨_, S7, L7, q1, q2, q3⟩ := TPost.trans g4 (fun _ _ => rfl) p
      rw [ea, ha]
      exact ⟨he, rfl, S7, L7, q1, q2, q3⟩)
  have NON := Lib.hid (fun (W : World) (hB : Below (w.alloc (.cells #[.string key] 9)).heap.size (w.alloc (.cells #[.string key] 9)) W) (ha : s.adB key = false) => show TPost (.bool (s.adB key)) w i S B E L lane (adP s key) (b + 1) (.returned (.bool false)) W from by
    have ea : adP s key = s := if_neg (by rw [ha]; simp)
    rw [ea, ha]
    exact ⟨rfl, S, L, (H1.out.below hB).mono (Nat.le_succ _), fun _ _ => rfl, W1.out.trans (Went.below hB)⟩)
  generalize TPost (.bool (s.adB key)) w i S B E L lane (adP s key) (b + 1) = Q at *
  clear h hb1 hkl hmm hhv
  cases hv with
  | true =>
    go_enter Tryz.func23, Tryz.ntmps23
    go_upto_region 1 with fail
    generalize w.alloc (.cells #[.string key] 9) = w1 at *
    refine wp_region_noPanic ?_
    refine wp_region_held_drew (S := fun W => W.cell? ⟨w.heap.size, 0, none⟩ = some (.string key) ∧ W.cell? ⟨i.l, 1, none⟩ = some (.int .i64 (mm : Int))) (by kernel_rfl) ?_ (fun hHeld => ?_)
    · exact FF.out _ D0.out
    refine wpAnyH_take (i := 0) (oi := { dst := some 5, op := Go.Op.move (Go.Operand.tmp 0), type := 26, pos := "learn.go:93", after := #[], guard := none }) (v := ?_) rfl (by kernel_rfl) (by kernel_rfl) (by kernel_rfl) (fun _ _ _ h => h) (Or.inl ⟨by rfl, ?_⟩) (by assumption) ?_
    rotate_left
    · (intro w hSw; (try dsimp only at hSw); go_simp; (try with_reducible rfl))
    (try simp only [Act.put, List.setIfInBounds_toArray, List.set_cons_zero, List.set_cons_succ])
    refine wpAnyH_take (i := 1) (oi := { dst := some 6, op := Go.Op.load 9 (Go.Operand.tmp 3), type := 9, pos := "learn.go:93", after := #[], guard := none }) (v := ?_) rfl (by kernel_rfl) (by kernel_rfl) (by kernel_rfl) (fun _ _ _ h => h) (Or.inl ⟨by rfl, ?_⟩) (by assumption) ?_
    rotate_left
    · (intro w hSw; (try dsimp only at hSw); obtain ⟨s0, s1⟩ := hSw; go_simp; (try with_reducible rfl))
    (try simp only [Act.put, List.setIfInBounds_toArray, List.set_cons_zero, List.set_cons_succ])
    refine wpAnyH_ready (rs := [2]) (by kernel_rfl) (by simp) ?_
    refine AllReadyH.cons (o := { dst := some 7, op := Go.Op.call { callee := Go.Callee.value (Go.Operand.func 34), args := #[Go.Operand.tmp 5, Go.Operand.tmp 6], argTypes := #[26, 9] }, type := 4, pos := "learn.go:93", after := #[{ on := 0, ground := Go.Ground.data }, { on := 1, ground := Go.Ground.data }], guard := none }) rfl (fun K hK => ?_) AllReadyH.nil
    go_simp
    refine (VH.out _ D0.out).mono ?_
    rintro e wa ⟨rfl, hB⟩
    have Ba := Lib.hid (D0.out.trans (hB.mono D0.out.size))
    clear hB
    go_wp2_with fail
    refine hK.out _ _ ?_ (fun hHeld => ?_)
    · exact FF.out _ Ba.out
    clear hK K
    (try simp only [Act.put, List.setIfInBounds_toArray, List.set_cons_zero, List.set_cons_succ])
    refine wpAnyH_take (i := 3) (oi := { dst := some 8, op := Go.Op.move (Go.Operand.tmp 7), type := 4, pos := "learn.go:93", after := #[{ on := 2, ground := Go.Ground.data }, { on := 2, ground := Go.Ground.chain }], guard := none }) (v := ?_) rfl (by kernel_rfl) (by kernel_rfl) (by kernel_rfl) (fun _ _ _ h => h) (Or.inl ⟨by rfl, ?_⟩) (by assumption) ?_
    rotate_left
    · (intro w hSw; (try dsimp only at hSw); go_simp; (try with_reducible rfl))
    (try simp only [Act.put, List.setIfInBounds_toArray, List.set_cons_zero, List.set_cons_succ])
    refine wpAnyH_take (i := 4) (oi := { dst := some 9, op := Go.Op.move (Go.Operand.tmp 0), type := 26, pos := "learn.go:93", after := #[{ on := 3, ground := Go.Ground.guard }], guard := some (3, false) }) (v := undef) rfl (by kernel_rfl) (by kernel_rfl) (by kernel_rfl) (fun _ _ _ h => h) (Or.inr ⟨by rfl, rfl⟩) (by assumption) ?_
    (try simp only [Act.put, List.setIfInBounds_toArray, List.set_cons_zero, List.set_cons_succ])
    refine wpAnyH_take (i := 5) (oi := { dst := some 10, op := Go.Op.call { callee := Go.Callee.value (Go.Operand.func 33), args := #[Go.Operand.tmp 9], argTypes := #[26] }, type := 3, pos := "learn.go:93", after := #[{ on := 4, ground := Go.Ground.data }, { on := 3, ground := Go.Ground.chain }, { on := 3, ground := Go.Ground.guard }], guard := some (3, false) }) (v := undef) rfl (by kernel_rfl) (by kernel_rfl) (by kernel_rfl) (fun _ _ _ h => h) (Or.inr ⟨by rfl, rfl⟩) (by assumption) ?_
    (try simp only [Act.put, List.setIfInBounds_toArray, List.set_cons_zero, List.set_cons_succ])
    refine wpAnyH_take (i := 6) (oi := { dst := some 11, op := Go.Op.move (Go.Operand.tmp 0), type := 26, pos := "learn.go:93", after := #[{ on := 3, ground := Go.Ground.guard }], guard := some (3, false) }) (v := undef) rfl (by kernel_rfl) (by kernel_rfl) (by kernel_rfl) (fun _ _ _ h => h) (Or.inr ⟨by rfl, rfl⟩) (by assumption) ?_
    (try simp only [Act.put, List.setIfInBounds_toArray, List.set_cons_zero, List.set_cons_succ])
    refine wpAnyH_take (i := 7) (oi := { dst := some 12, op := Go.Op.nilCheck (Go.Operand.tmp 11), type := 0, pos := "learn.go:93", after := #[{ on := 6, ground := Go.Ground.data }, { on := 3, ground := Go.Ground.guard }], guard := some (3, false) }) (v := undef) rfl (by kernel_rfl) (by kernel_rfl) (by kernel_rfl) (fun _ _ _ h => h) (Or.inr ⟨by rfl, rfl⟩) (by assumption) ?_
    (try simp only [Act.put, List.setIfInBounds_toArray, List.set_cons_zero, List.set_cons_succ])
    refine wpAnyH_take (i := 8) (oi := { dst := some 13, op := Go.Op.fieldAddr 108 (Go.Operand.tmp 12) 1, type := 0, pos := "learn.go:93", after := #[{ on := 7, ground := Go.Ground.data }, { on := 3, ground := Go.Ground.guard }], guard := some (3, false) }) (v := undef) rfl (by kernel_rfl) (by kernel_rfl) (by kernel_rfl) (fun _ _ _ h => h) (Or.inr ⟨by rfl, rfl⟩) (by assumption) ?_
    (try simp only [Act.put, List.setIfInBounds_toArray, List.set_cons_zero, List.set_cons_succ])
    refine wpAnyH_take (i := 9) (oi := { dst := some 14, op := Go.Op.load 3 (Go.Operand.tmp 13), type := 3, pos := "learn.go:93", after := #[{ on := 8, ground := Go.Ground.data }, { on := 3, ground := Go.Ground.guard }], guard := some (3, false) }) (v := undef) rfl (by kernel_rfl) (by kernel_rfl) (by kernel_rfl) (fun _ _ _ h => h) (Or.inr ⟨by rfl, rfl⟩) (by assumption) ?_
    (try simp only [Act.put, List.setIfInBounds_toArray, List.set_cons_zero, List.set_cons_succ])
    refine wpAnyH_take (i := 10) (oi := { dst := some 15, op := Go.Op.binOp Go.BinOp.geq 3 (Go.Operand.tmp 10) (Go.Operand.tmp 14) 3, type := 4, pos := "learn.go:93", after := #[{ on := 5, ground := Go.Ground.data }, { on := 9, ground := Go.Ground.data }, { on := 3, ground := Go.Ground.guard }], guard := some (3, false) }) (v := undef) rfl (by kernel_rfl) (by kernel_rfl) (by kernel_rfl) (fun _ _ _ h => h) (Or.inr ⟨by rfl, rfl⟩) (by assumption) ?_
    (try simp only [Act.put, List.setIfInBounds_toArray, List.set_cons_zero, List.set_cons_succ])
    refine wpAnyH_take (i := 11) (oi := { dst := some 16, op := Go.Op.pick (Go.Operand.tmp 8) (Go.Operand.const (Go.Value.bool true)) (Go.Operand.tmp 15), type := 4, pos := "learn.go:93", after := #[{ on := 3, ground := Go.Ground.data }, { on := 10, ground := Go.Ground.data }], guard := none }) (v := ?_) rfl (by kernel_rfl) (by kernel_rfl) (by kernel_rfl) (fun _ _ _ h => h) (Or.inl ⟨by rfl, ?_⟩) (by assumption) ?_
    rotate_left
    · (intro w hSw; (try dsimp only at hSw); go_simp; (try with_reducible rfl))
    (try simp only [Act.put, List.setIfInBounds_toArray, List.set_cons_zero, List.set_cons_succ])
    refine wpAnyH_done (by kernel_rfl) ?_ _
    refine NoPanic.normal ?_
    go_wp2_with fail
    exact NON.out _ Ba.out (by rw [AB.out]; rfl)
  | false =>
    have ways : kl < mm ∨ ¬ kl < mm := by omega
    have WAYS := Lib.hid ways
    clear ways
    have go : ∀ d, decide (kl < mm) = d → decide ((mm : Int) ≤ (kl : Int)) = !d := fun d hd => by subst hd; rw [Bool.eq_iff_iff]; simp
    have go2 : ∀ d, decide (kl < mm) = d → decide (mm ≤ kl) = !d := fun d hd => by subst hd; rw [Bool.eq_iff_iff]; simp
    rcases WAYS.out with hw | hw
    · have e0 := go true (decide_eq_true hw)
      have e1 := go2 true (decide_eq_true hw)
      have AT := Lib.hid (show s.adB key = true from by rw [AB.out, decide_eq_true hw]; rfl)
      clear go go2 hw
      go_enter Tryz.func23, Tryz.ntmps23
      go_upto_region 1 with fail
      generalize w.alloc (.cells #[.string key] 9) = w1 at *
      refine wp_region_noPanic ?_
      refine wp_region_held_drew (S := fun W => W.cell? ⟨w.heap.size, 0, none⟩ = some (.string key) ∧ W.cell? ⟨i.l, 1, none⟩ = some (.int .i64 (mm : Int))) (by kernel_rfl) ?_ (fun hHeld => ?_)
      · exact FF.out _ D0.out
      refine wpAnyH_take (i := 0) (oi := { dst := some 5, op := Go.Op.move (Go.Operand.tmp 0), type := 26, pos := "learn.go:93", after := #[], guard := none }) (v := ?_) rfl (by kernel_rfl) (by kernel_rfl) (by kernel_rfl) (fun _ _ _ h => h) (Or.inl ⟨by rfl, ?_⟩) (by assumption) ?_
      rotate_left
      · (intro w hSw; (try dsimp only at hSw); go_simp; (try with_reducible rfl))
      (try simp only [Act.put, List.setIfInBounds_toArray, List.set_cons_zero, List.set_cons_succ])
      refine wpAnyH_take (i := 1) (oi := { dst := some 6, op := Go.Op.load 9 (Go.Operand.tmp 3), type := 9, pos := "learn.go:93", after := #[], guard := none }) (v := ?_) rfl (by kernel_rfl) (by kernel_rfl) (by kernel_rfl) (fun _ _ _ h => h) (Or.inl ⟨by rfl, ?_⟩) (by assumption) ?_
      rotate_left
      · (intro w hSw; (try dsimp only at hSw); obtain ⟨s0, s1⟩ := hSw; go_simp; (try with_reducible rfl))
      (try simp only [Act.put, List.setIfInBounds_toArray, List.set_cons_zero, List.set_cons_succ])
      refine wpAnyH_ready (rs := [2]) (by kernel_rfl) (by simp) ?_
      refine AllReadyH.cons (o := { dst := some 7, op := Go.Op.call { callee := Go.Callee.value (Go.Operand.func 34), args := #[Go.Operand.tmp 5, Go.Operand.tmp 6], argTypes := #[26, 9] }, type := 4, pos := "learn.go:93", after := #[{ on := 0, ground := Go.Ground.data }, { on := 1, ground := Go.Ground.data }], guard := none }) rfl (fun K hK => ?_) AllReadyH.nil
      go_simp
      refine (VH.out _ D0.out).mono ?_
      rintro e wa ⟨rfl, hB⟩
      have Ba := Lib.hid (D0.out.trans (hB.mono D0.out.size))
      clear hB
      go_wp2_with fail
      refine hK.out _ _ ?_ (fun hHeld => ?_)
      · exact FF.out _ Ba.out
      clear hK K
      (try simp only [Act.put, List.setIfInBounds_toArray, List.set_cons_zero, List.set_cons_succ])
      refine wpAnyH_take (i := 3) (oi := { dst := some 8, op := Go.Op.move (Go.Operand.tmp 7), type := 4, pos := "learn.go:93", after := #[{ on := 2, ground := Go.Ground.data }, { on := 2, ground := Go.Ground.chain }], guard := none }) (v := ?_) rfl (by kernel_rfl) (by kernel_rfl) (by kernel_rfl) (fun _ _ _ h => h) (Or.inl ⟨by rfl, ?_⟩) (by assumption) ?_
      rotate_left
      · (intro w hSw; (try dsimp only at hSw); go_simp; (try with_reducible rfl))
      (try simp only [Act.put, List.setIfInBounds_toArray, List.set_cons_zero, List.set_cons_succ])
      refine wpAnyH_take (i := 4) (oi := { dst := some 9, op := Go.Op.move (Go.Operand.tmp 0), type := 26, pos := "learn.go:93", after := #[{ on := 3, ground := Go.Ground.guard }], guard := some (3, false) }) (v := ?_) rfl (by kernel_rfl) (by kernel_rfl) (by kernel_rfl) (fun _ _ _ h => h) (Or.inl ⟨by rfl, ?_⟩) (by assumption) ?_
      rotate_left
      · (intro w hSw; (try dsimp only at hSw); go_simp; (try with_reducible rfl))
      (try simp only [Act.put, List.setIfInBounds_toArray, List.set_cons_zero, List.set_cons_succ])
      refine wpAnyH_take (i := 6) (oi := { dst := some 11, op := Go.Op.move (Go.Operand.tmp 0), type := 26, pos := "learn.go:93", after := #[{ on := 3, ground := Go.Ground.guard }], guard := some (3, false) }) (v := ?_) rfl (by kernel_rfl) (by kernel_rfl) (by kernel_rfl) (fun _ _ _ h => h) (Or.inl ⟨by rfl, ?_⟩) (by assumption) ?_
      rotate_left
      · (intro w hSw; (try dsimp only at hSw); go_simp; (try with_reducible rfl))
      (try simp only [Act.put, List.setIfInBounds_toArray, List.set_cons_zero, List.set_cons_succ])
      refine wpAnyH_take (i := 7) (oi := { dst := some 12, op := Go.Op.nilCheck (Go.Operand.tmp 11), type := 0, pos := "learn.go:93", after := #[{ on := 6, ground := Go.Ground.data }, { on := 3, ground := Go.Ground.guard }], guard := some (3, false) }) (v := ?_) rfl (by kernel_rfl) (by kernel_rfl) (by kernel_rfl) (fun _ _ _ h => h) (Or.inl ⟨by rfl, ?_⟩) (by assumption) ?_
      rotate_left
      · (intro w hSw; (try dsimp only at hSw); go_simp; (try with_reducible rfl))
      (try simp only [Act.put, List.setIfInBounds_toArray, List.set_cons_zero, List.set_cons_succ])
      refine wpAnyH_take (i := 8) (oi := { dst := some 13, op := Go.Op.fieldAddr 108 (Go.Operand.tmp 12) 1, type := 0, pos := "learn.go:93", after := #[{ on := 7, ground := Go.Ground.data }, { on := 3, ground := Go.Ground.guard }], guard := some (3, false) }) (v := ?_) rfl (by kernel_rfl) (by kernel_rfl) (by kernel_rfl) (fun _ _ _ h => h) (Or.inl ⟨by rfl, ?_⟩) (by assumption) ?_
      rotate_left
      · (intro w hSw; (try dsimp only at hSw); go_simp; (try with_reducible rfl))
      (try simp only [Act.put, List.setIfInBounds_toArray, List.set_cons_zero, List.set_cons_succ])
      refine wpAnyH_take (i := 9) (oi := { dst := some 14, op := Go.Op.load 3 (Go.Operand.tmp 13), type := 3, pos := "learn.go:93", after := #[{ on := 8, ground := Go.Ground.data }, { on := 3, ground := Go.Ground.guard }], guard := some (3, false) }) (v := ?_) rfl (by kernel_rfl) (by kernel_rfl) (by kernel_rfl) (fun _ _ _ h => h) (Or.inl ⟨by rfl, ?_⟩) (by assumption) ?_
      rotate_left
      · (intro w hSw; (try dsimp only at hSw); obtain ⟨s0, s1⟩ := hSw; go_simp; (try with_reducible rfl))
      (try simp only [Act.put, List.setIfInBounds_toArray, List.set_cons_zero, List.set_cons_succ])
      refine wpAnyH_ready (rs := [5]) (by kernel_rfl) (by simp) ?_
      refine AllReadyH.cons (o := { dst := some 10, op := Go.Op.call { callee := Go.Callee.value (Go.Operand.func 33), args := #[Go.Operand.tmp 9], argTypes := #[26] }, type := 3, pos := "learn.go:93", after := #[{ on := 4, ground := Go.Ground.data }, { on := 3, ground := Go.Ground.chain }, { on := 3, ground := Go.Ground.guard }], guard := some (3, false) }) rfl (fun K hK => ?_) AllReadyH.nil
      go_simp
      refine (VL.out _ Ba.out).mono ?_
      rintro e wb ⟨rfl, hB⟩
      have Bb := Lib.hid (Ba.out.trans (hB.mono Ba.out.size))
      clear hB
      go_wp2_with fail
      refine hK.out _ _ ?_ (fun hHeld => ?_)
      · exact FF.out _ Bb.out
      clear hK K
      (try simp only [Act.put, List.setIfInBounds_toArray, List.set_cons_zero, List.set_cons_succ])
      refine wpAnyH_take (i := 10) (oi := { dst := some 15, op := Go.Op.binOp Go.BinOp.geq 3 (Go.Operand.tmp 10) (Go.Operand.tmp 14) 3, type := 4, pos := "learn.go:93", after := #[{ on := 5, ground := Go.Ground.data }, { on := 9, ground := Go.Ground.data }, { on := 3, ground := Go.Ground.guard }], guard := some (3, false) }) (v := ?_) rfl (by kernel_rfl) (by kernel_rfl) (by kernel_rfl) (fun _ _ _ h => h) (Or.inl ⟨by rfl, ?_⟩) (by assumption) ?_
      rotate_left
      · (intro w hSw; (try dsimp only at hSw); go_simp; (try with_reducible rfl))
      (try simp only [Act.put, List.setIfInBounds_toArray, List.set_cons_zero, List.set_cons_succ])
      refine wpAnyH_take (i := 11) (oi := { dst := some 16, op := Go.Op.pick (Go.Operand.tmp 8) (Go.Operand.const (Go.Value.bool true)) (Go.Operand.tmp 15), type := 4, pos := "learn.go:93", after := #[{ on := 3, ground := Go.Ground.data }, { on := 10, ground := Go.Ground.data }], guard := none }) (v := ?_) rfl (by kernel_rfl) (by kernel_rfl) (by kernel_rfl) (fun _ _ _ h => h) (Or.inl ⟨by rfl, ?_⟩) (by assumption) ?_
      rotate_left
      · (intro w hSw; (try dsimp only at hSw); go_simp; (try with_reducible rfl))
      (try simp only [Act.put, List.setIfInBounds_toArray, List.set_cons_zero, List.set_cons_succ])
      refine wpAnyH_done (by kernel_rfl) ?_ _
      refine NoPanic.normal ?_
      have H5 := Lib.hid (H1.out.below Bb.out)
      have X5 := Lib.hid (X1.out.below Bb.out)
      have W5 := Lib.hid (W1.out.trans (Went.below (S := tblk i S B E) Bb.out))
      have x5 := X5.out.cell
      clear FF VH VL D0 Ba H1 X1 W1 NON
      go_wp2_with fail
      refine (BTH.out _ H5.out X5.out).mono ?_
      rintro e w6 ⟨rfl, S6, r6, g6, _, x6⟩
      have P6 := Lib.hid (And.intro r6 g6)
      clear r6 g6 BTH x5 X5
      go_wp2_with fail
      refine (forget_r w6 i S6 _ _ _ _ _ _ _ P6.out.1 key hs).mono ?_
      intro e w7 hp
      obtain ⟨rfl, h7⟩ := FIN.out _ _ _ H5.out W5.out S6 P6.out.1 P6.out.2 e hp AT.out
      have H7 := Lib.hid h7
      clear hp h7 FIN P6 x6
      go_wp2_with fail
      exact H7.out
    · have e0 := go false (decide_eq_false hw)
      have e1 := go2 false (decide_eq_false hw)
      have AT := Lib.hid (show s.adB key = false from by rw [AB.out, decide_eq_false hw]; rfl)
      clear go go2 hw
      go_enter Tryz.func23, Tryz.ntmps23
      go_upto_region 1 with fail
      generalize w.alloc (.cells #[.string key] 9) = w1 at *
      refine wp_region_noPanic ?_
      refine wp_region_held_drew (S := fun W => W.cell? ⟨w.heap.size, 0, none⟩ = some (.string key) ∧ W.cell? ⟨i.l, 1, none⟩ = some (.int .i64 (mm : Int))) (by kernel_rfl) ?_ (fun hHeld => ?_)
      · exact FF.out _ D0.out
      refine wpAnyH_take (i := 0) (oi := { dst := some 5, op := Go.Op.move (Go.Operand.tmp 0), type := 26, pos := "learn.go:93", after := #[], guard := none }) (v := ?_) rfl (by kernel_rfl) (by kernel_rfl) (by kernel_rfl) (fun _ _ _ h => h) (Or.inl ⟨by rfl, ?_⟩) (by assumption) ?_
      rotate_left
      · (intro w hSw; (try dsimp only at hSw); go_simp; (try with_reducible rfl))
      (try simp only [Act.put, List.setIfInBounds_toArray, List.set_cons_zero, List.set_cons_succ])
      refine wpAnyH_take (i := 1) (oi := { dst := some 6, op := Go.Op.load 9 (Go.Operand.tmp 3), type := 9, pos := "learn.go:93", after := #[], guard := none }) (v := ?_) rfl (by kernel_rfl) (by kernel_rfl) (by kernel_rfl) (fun _ _ _ h => h) (Or.inl ⟨by rfl, ?_⟩) (by assumption) ?_
      rotate_left
      · (intro w hSw; (try dsimp only at hSw); obtain ⟨s0, s1⟩ := hSw; go_simp; (try with_reducible rfl))
      (try simp only [Act.put, List.setIfInBounds_toArray, List.set_cons_zero, List.set_cons_succ])
      refine wpAnyH_ready (rs := [2]) (by kernel_rfl) (by simp) ?_
      refine AllReadyH.cons (o := { dst := some 7, op := Go.Op.call { callee := Go.Callee.value (Go.Operand.func 34), args := #[Go.Operand.tmp 5, Go.Operand.tmp 6], argTypes := #[26, 9] }, type := 4, pos := "learn.go:93", after := #[{ on := 0, ground := Go.Ground.data }, { on := 1, ground := Go.Ground.data }], guard := none }) rfl (fun K hK => ?_) AllReadyH.nil
      go_simp
      refine (VH.out _ D0.out).mono ?_
      rintro e wa ⟨rfl, hB⟩
      have Ba := Lib.hid (D0.out.trans (hB.mono D0.out.size))
      clear hB
      go_wp2_with fail
      refine hK.out _ _ ?_ (fun hHeld => ?_)
      · exact FF.out _ Ba.out
      clear hK K
      (try simp only [Act.put, List.setIfInBounds_toArray, List.set_cons_zero, List.set_cons_succ])
      refine wpAnyH_take (i := 3) (oi := { dst := some 8, op := Go.Op.move (Go.Operand.tmp 7), type := 4, pos := "learn.go:93", after := #[{ on := 2, ground := Go.Ground.data }, { on := 2, ground := Go.Ground.chain }], guard := none }) (v := ?_) rfl (by kernel_rfl) (by kernel_rfl) (by kernel_rfl) (fun _ _ _ h => h) (Or.inl ⟨by rfl, ?_⟩) (by assumption) ?_
      rotate_left
      · (intro w hSw; (try dsimp only at hSw); go_simp; (try with_reducible rfl))
      (try simp only [Act.put, List.setIfInBounds_toArray, List.set_cons_zero, List.set_cons_succ])
      refine wpAnyH_take (i := 4) (oi := { dst := some 9, op := Go.Op.move (Go.Operand.tmp 0), type := 26, pos := "learn.go:93", after := #[{ on := 3, ground := Go.Ground.guard }], guard := some (3, false) }) (v := ?_) rfl (by kernel_rfl) (by kernel_rfl) (by kernel_rfl) (fun _ _ _ h => h) (Or.inl ⟨by rfl, ?_⟩) (by assumption) ?_
      rotate_left
      · (intro w hSw; (try dsimp only at hSw); go_simp; (try with_reducible rfl))
      (try simp only [Act.put, List.setIfInBounds_toArray, List.set_cons_zero, List.set_cons_succ])
      refine wpAnyH_take (i := 6) (oi := { dst := some 11, op := Go.Op.move (Go.Operand.tmp 0), type := 26, pos := "learn.go:93", after := #[{ on := 3, ground := Go.Ground.guard }], guard := some (3, false) }) (v := ?_) rfl (by kernel_rfl) (by kernel_rfl) (by kernel_rfl) (fun _ _ _ h => h) (Or.inl ⟨by rfl, ?_⟩) (by assumption) ?_
      rotate_left
      · (intro w hSw; (try dsimp only at hSw); go_simp; (try with_reducible rfl))
      (try simp only [Act.put, List.setIfInBounds_toArray, List.set_cons_zero, List.set_cons_succ])
      refine wpAnyH_take (i := 7) (oi := { dst := some 12, op := Go.Op.nilCheck (Go.Operand.tmp 11), type := 0, pos := "learn.go:93", after := #[{ on := 6, ground := Go.Ground.data }, { on := 3, ground := Go.Ground.guard }], guard := some (3, false) }) (v := ?_) rfl (by kernel_rfl) (by kernel_rfl) (by kernel_rfl) (fun _ _ _ h => h) (Or.inl ⟨by rfl, ?_⟩) (by assumption) ?_
      rotate_left
      · (intro w hSw; (try dsimp only at hSw); go_simp; (try with_reducible rfl))
      (try simp only [Act.put, List.setIfInBounds_toArray, List.set_cons_zero, List.set_cons_succ])
      refine wpAnyH_take (i := 8) (oi := { dst := some 13, op := Go.Op.fieldAddr 108 (Go.Operand.tmp 12) 1, type := 0, pos := "learn.go:93", after := #[{ on := 7, ground := Go.Ground.data }, { on := 3, ground := Go.Ground.guard }], guard := some (3, false) }) (v := ?_) rfl (by kernel_rfl) (by kernel_rfl) (by kernel_rfl) (fun _ _ _ h => h) (Or.inl ⟨by rfl, ?_⟩) (by assumption) ?_
      rotate_left
      · (intro w hSw; (try dsimp only at hSw); go_simp; (try with_reducible rfl))
      (try simp only [Act.put, List.setIfInBounds_toArray, List.set_cons_zero, List.set_cons_succ])
      refine wpAnyH_take (i := 9) (oi := { dst := some 14, op := Go.Op.load 3 (Go.Operand.tmp 13), type := 3, pos := "learn.go:93", after := #[{ on := 8, ground := Go.Ground.data }, { on := 3, ground := Go.Ground.guard }], guard := some (3, false) }) (v := ?_) rfl (by kernel_rfl) (by kernel_rfl) (by kernel_rfl) (fun _ _ _ h => h) (Or.inl ⟨by rfl, ?_⟩) (by assumption) ?_
      rotate_left
      · (intro w hSw; (try dsimp only at hSw); obtain ⟨s0, s1⟩ := hSw; go_simp; (try with_reducible rfl))
      (try simp only [Act.put, List.setIfInBounds_toArray, List.set_cons_zero, List.set_cons_succ])
      refine wpAnyH_ready (rs := [5]) (by kernel_rfl) (by simp) ?_
      refine AllReadyH.cons (o := { dst := some 10, op := Go.Op.call { callee := Go.Callee.value (Go.Operand.func 33), args := #[Go.Operand.tmp 9], argTypes := #[26] }, type := 3, pos := "learn.go:93", after := #[{ on := 4, ground := Go.Ground.data }, { on := 3, ground := Go.Ground.chain }, { on := 3, ground := Go.Ground.guard }], guard := some (3, false) }) rfl (fun K hK => ?_) AllReadyH.nil
      go_simp
      refine (VL.out _ Ba.out).mono ?_
      rintro e wb ⟨rfl, hB⟩
      have Bb := Lib.hid (Ba.out.trans (hB.mono Ba.out.size))
      clear hB
      go_wp2_with fail
      refine hK.out _ _ ?_ (fun hHeld => ?_)
      · exact FF.out _ Bb.out
      clear hK K
      (try simp only [Act.put, List.setIfInBounds_toArray, List.set_cons_zero, List.set_cons_succ])
      refine wpAnyH_take (i := 10) (oi := { dst := some 15, op := Go.Op.binOp Go.BinOp.geq 3 (Go.Operand.tmp 10) (Go.Operand.tmp 14) 3, type := 4, pos := "learn.go:93", after := #[{ on := 5, ground := Go.Ground.data }, { on := 9, ground := Go.Ground.data }, { on := 3, ground := Go.Ground.guard }], guard := some (3, false) }) (v := ?_) rfl (by kernel_rfl) (by kernel_rfl) (by kernel_rfl) (fun _ _ _ h => h) (Or.inl ⟨by rfl, ?_⟩) (by assumption) ?_
      rotate_left
      · (intro w hSw; (try dsimp only at hSw); go_simp; (try with_reducible rfl))
      (try simp only [Act.put, List.setIfInBounds_toArray, List.set_cons_zero, List.set_cons_succ])
      refine wpAnyH_take (i := 11) (oi := { dst := some 16, op := Go.Op.pick (Go.Operand.tmp 8) (Go.Operand.const (Go.Value.bool true)) (Go.Operand.tmp 15), type := 4, pos := "learn.go:93", after := #[{ on := 3, ground := Go.Ground.data }, { on := 10, ground := Go.Ground.data }], guard := none }) (v := ?_) rfl (by kernel_rfl) (by kernel_rfl) (by kernel_rfl) (fun _ _ _ h => h) (Or.inl ⟨by rfl, ?_⟩) (by assumption) ?_
      rotate_left
      · (intro w hSw; (try dsimp only at hSw); go_simp; (try with_reducible rfl))
      (try simp only [Act.put, List.setIfInBounds_toArray, List.set_cons_zero, List.set_cons_succ])
      refine wpAnyH_done (by kernel_rfl) ?_ _
      refine NoPanic.normal ?_
      go_wp2_with fail
      exact NON.out _ Bb.out AT.out
end
end Go.Proofs.YtnlckkahkghneaaGreatDoor.LE

namespace Go.Proofs.YtnlckkahkghneaaGreatDoor.LE
open Go.RowKit Go.Maps Go.WideMaps Sg
theorem fgt_none {s : St} {k : ByteArray} (h : k ∉ s.ghosts) : fgt s k = s := by
  have h1 : k ∉ gk s.HA := fun e => h (List.mem_append_left _ e)
  have h2 : k ∉ gk s.HB := fun e => h (List.mem_append_right _ e)
  have e : ∀ {H : List (ByteArray × Nat)}, k ∉ gk H → wo H k = H := by
    intro H hk
    unfold wo
    refine List.filter_eq_self.2 fun p hp => ?_
    exact decide_eq_true fun e => hk (e ▸ List.mem_map_of_mem (f := Prod.fst) hp)
  unfold fgt
  rw [e h1, e h2]
theorem dr_rm {s : St} (h : Ok s) (ha : s.any = true) : s.dr = s.rm s.vic := by
  rw [rm_fgt]
  unfold St.dr
  rw [if_pos ha, fgt_none]
  exact h.dis _ ((lead_ok h).2 ha)
theorem dr_none {s : St} (ha : s.any = false) : s.dr = s := by unfold St.dr; rw [if_neg (by rw [ha]; simp)]
section
variable (w : World) (i : Ix) (S : Sx) (B E : Nat) (L : List (List Nat)) (lane : Int) (s : St) (b : Nat) (h : LT w i S B E L lane s b)
include h
theorem drop_t : Calls Tryz.prog 24 #[.pointer (some ⟨i.l, 0, none⟩)] w (TPost (.tuple #[.string s.vic, .bool s.any]) w i S B E L lane s.dr b) := by
  have V := Lib.hid (victim_t w i S B E L lane s b h)
  have HH := Lib.hid h
  have W0 := Lib.hid (fun (w2 : World) (hB : Below w.heap.size w w2) => Went.below (S := tblk i S B E) hB)
  cases ha : s.any with
  | true =>
    have e := dr_rm h.ok ha
    have hs := h.raw.pa.small s.vic ((lead_ok h.ok).2 ha)
    rw [e]
    rw [ha] at V
    have R := Lib.hid (fun (w2 : World) (hB : Below w.heap.size w w2) => remove_t w2 i S B E L lane s b (HH.out.below hB) s.vic hs)
    generalize s.rm s.vic = s2 at *
    generalize s.vic = vk at *
    generalize s.has vk = hv at *
    clear h e ha hs
    go_enter Tryz.func24, Tryz.ntmps24
    go_wp2_with fail
    refine V.out.mono ?_
    rintro e w2 ⟨rfl, hB⟩
    have R2 := Lib.hid (R.out w2 hB)
    have W2 := Lib.hid (W0.out w2 hB)
    clear hB V R W0
    go_wp2_with fail
    refine R2.out.mono ?_
    intro e w3 hp
    obtain ⟨rfl, h3⟩ := TPost.trans W2.out (fun _ _ => rfl) hp
    have H3 := Lib.hid h3
    clear hp h3 R2 W2
    go_wp2_with fail
    go_ret2
    exact ⟨rfl, H3.out⟩
  | false =>
    rw [dr_none ha]
    rw [ha] at V
    generalize s.vic = vk at *
    clear h ha
    go_enter Tryz.func24, Tryz.ntmps24
    go_wp2_with fail
    refine V.out.mono ?_
    rintro e w2 ⟨rfl, hB⟩
    have W2 := Lib.hid (And.intro (W0.out w2 hB) (HH.out.below hB))
    clear hB V
    go_wp2_with fail
    go_ret2
    exact ⟨rfl, S, L, W2.out.2, fun _ _ => rfl, W2.out.1⟩
end
section
variable (w : World) (l : Nat) (T : Nat → Prop) (s : St) (b : Nat) (h : LC w l T s b)
include h
theorem remove_l (key : ByteArray) (hs : key.size ≤ maxLen) : Calls Tryz.prog 19 #[.pointer (some ⟨l, 0, none⟩), .string key] w (LCP (.bool (s.has key)) w l T (s.rm key) b) := by
  obtain ⟨i, S, B, E, L, rfl, rfl, h⟩ := h
  exact (remove_t w i S B E L 0 s b h key hs).mono fun e w' hp => hp.lc
theorem adopt_l (key : ByteArray) (hs : key.size ≤ maxLen) (hb : b ≤ 890) : Calls Tryz.prog 23 #[.pointer (some ⟨l, 0, none⟩), .string key] w (LCP (.bool (s.adB key)) w l T (adP s key) (b + 1)) := by
  obtain ⟨i, S, B, E, L, rfl, rfl, h⟩ := h
  exact (adopt_t w i S B E L 0 s b h key hs hb).mono fun e w' hp => hp.lc
theorem drop_l : Calls Tryz.prog 24 #[.pointer (some ⟨l, 0, none⟩)] w (LCP (.tuple #[.string s.vic, .bool s.any]) w l T s.dr b) := by
  obtain ⟨i, S, B, E, L, rfl, rfl, h⟩ := h
  exact (drop_t w i S B E L 0 s b h).mono fun e w' hp => hp.lc
end
end Go.Proofs.YtnlckkahkghneaaGreatDoor.LE

namespace Go.Proofs.YtnlckkahkghneaaGreatDoor.LE
open Go.RowKit Sg
theorem went_out10 {w w' : World} {T T' : Nat → Prop} {g : Nat} (h : Went w w' T T') (hg : g < w.heap.size) (hn : ¬ T g) : w'.heap[g]? = w.heap[g]? ∧ ¬ T' g := by
  refine ⟨h.turn.block g hg hn, fun e => ?_⟩
  rcases h.new g e with e | e
  · exact hn e
  · omega

structure Pr2 (w0 W : World) (p : Nat) (U : Nat → Prop) (s : St) (b : Nat) (p2 : Nat) (U2 : Nat → Prop) (s2 : St) (b2 : Nat) : Prop where
  one : LL w0 W p U s b
  two : LL w0 W p2 U2 s2 b2
  dis : ∀ k, U k → ¬ U2 k
section
variable {w0 W W' : World} {p p2 b b2 b' : Nat} {U U' U2 : Nat → Prop} {s s' s2 : St} {r : Value} {e : Ending}
theorem Pr2.below (h : Pr2 w0 W p U s b p2 U2 s2 b2) (hb : Below W.heap.size W W') : Pr2 w0 W' p U s b p2 U2 s2 b2 := ⟨h.one.below hb, h.two.below hb, h.dis⟩
theorem Pr2.op1 (h : Pr2 w0 W p U s b p2 U2 s2 b2) (hp : LCP r W p U s' b' e W') : e = .returned r ∧ ∃ U', Pr2 w0 W' p U' s' b' p2 U2 s2 b2 ∧ Went W W' U U' := by
  obtain ⟨he, U', h1, h2⟩ := h.one.op hp
  refine ⟨he, U', ⟨h1, ⟨h.two.ca.beside h2.turn (fun k hk hu => h.dis k hu hk), h1.bel, h.two.low⟩, fun k hk hu => ?_⟩, h2⟩
  rcases h2.new k hk with e | e
  · exact h.dis k e hu
  · have := h.two.lt k hu; omega
theorem Pr2.swap (h : Pr2 w0 W p U s b p2 U2 s2 b2) : Pr2 w0 W p2 U2 s2 b2 p U s b := ⟨h.two, h.one, fun k h2 h1 => h.dis k h1 h2⟩
theorem Pr2.op2 (h : Pr2 w0 W p U s b p2 U2 s2 b2) (hp : LCP r W p2 U2 s' b' e W') : e = .returned r ∧ ∃ U', Pr2 w0 W' p U s b p2 U' s' b' ∧ Went W W' U2 U' := by
  obtain ⟨he, U', h1, h2⟩ := h.swap.op1 hp
  exact ⟨he, U', h1.swap, h2⟩
end
/-- .. and a call of a script. -/
structure PA2 (w0 W : World) (p : Nat) (U : Nat → Prop) (s : St) (b : Nat) (p2 : Nat) (U2 : Nat → Prop) (s2 : St) (b2 : Nat) (ga : Nat) (kd : Int) (key : ByteArray) (nn : Int) : Prop where
  pr : Pr2 w0 W p U s b p2 U2 s2 b2
  act : W.heap[ga]? = some (.cells #[.int .i64 kd, .string key, .int .i64 nn] 55 (0, 0))
  a1 : ¬ U ga
  a2 : ¬ U2 ga
section
variable {w0 W W' : World} {p p2 b b2 b' ga : Nat} {U U' U2 : Nat → Prop} {s s' s2 : St} {r : Value} {e : Ending} {kd nn : Int} {key : ByteArray}
theorem PA2.lt (h : PA2 w0 W p U s b p2 U2 s2 b2 ga kd key nn) : ga < W.heap.size := (Array.getElem?_eq_some_iff.1 h.act).1
theorem PA2.below (h : PA2 w0 W p U s b p2 U2 s2 b2 ga kd key nn) (hb : Below W.heap.size W W') : PA2 w0 W' p U s b p2 U2 s2 b2 ga kd key nn := ⟨h.pr.below hb, (hb.block ga h.lt).trans h.act, h.a1, h.a2⟩
theorem PA2.made (h : Pr2 w0 W p U s b p2 U2 s2 b2) (kd : Int) (key : ByteArray) (nn : Int) : PA2 w0 (W.alloc (.cells #[.int .i64 kd, .string key, .int .i64 nn] 55)) p U s b p2 U2 s2 b2 W.heap.size kd key nn :=
  ⟨h.below ((Below.refl W.heap.size W).alloc (Nat.le_refl _) _), heap_alloc_new _ _, fun hk => by have := h.one.lt _ hk; omega, fun hk => by have := h.two.lt _ hk; omega⟩
theorem PA2.op1 (h : PA2 w0 W p U s b p2 U2 s2 b2 ga kd key nn) (hp : LCP r W p U s' b' e W') : e = .returned r ∧ ∃ U', PA2 w0 W' p U' s' b' p2 U2 s2 b2 ga kd key nn := by
  obtain ⟨he, U', h1, h2⟩ := h.pr.op1 hp
  have o := went_out10 h2 h.lt h.a1
  exact ⟨he, U', h1, o.1.trans h.act, o.2, h.a2⟩
theorem PA2.op2 (h : PA2 w0 W p U s b p2 U2 s2 b2 ga kd key nn) (hp : LCP r W p2 U2 s' b' e W') : e = .returned r ∧ ∃ U', PA2 w0 W' p U s b p2 U' s' b' ga kd key nn := by
  obtain ⟨he, U', h1, h2⟩ := h.pr.op2 hp
  have o := went_out10 h2 h.lt h.a2
  exact ⟨he, U', h1, o.1.trans h.act, h.a1, o.2⟩
theorem PA2.k (h : PA2 w0 W p U s b p2 U2 s2 b2 ga kd key nn) : W.cell? ⟨ga, 0, none⟩ = some (.int .i64 kd) ∧ W.cell? ⟨ga, 1, none⟩ = some (.string key) ∧ W.cell? ⟨ga, 2, none⟩ = some (.int .i64 nn) :=
  ⟨cell_of_row W _ 0 _ _ _ h.act, cell_of_row W _ 1 _ _ _ h.act, cell_of_row W _ 2 _ _ _ h.act⟩
end

/-- Few, told by what it leaves open alone. -/
def FewPost (n : Nat) (w : World) (e : Ending) (w' : World) : Prop := ∃ t : Bool, e = .returned (.bool t) ∧ w = w' ∧ (t = true → n ≤ 200)
theorem few_any (A : Option Addr) (n cc : Nat) (w : World) (S : Nat → ByteArray) (hn : n ≤ maxLen) (hS : ∀ i, i < n → (S i).size ≤ maxLen)
    (hc : 0 < n → ∃ g o, A = some ⟨g, o, none⟩ ∧ g < w.heap.size ∧ n ≤ cc ∧ cc ≤ maxLen ∧ ∀ i, i < n → w.cell? ⟨g, o + i * 3 + 1, none⟩ = some (.string (S i))) :
    Calls Tryz.prog 12 #[.slice A n cc] w (FewPost n w) := by
  have HC := Lib.hid hc
  have HS := Lib.hid hS
  unfold maxLen at hn
  clear hc hS
  go_enter Tryz.func12, Tryz.ntmps12
  go_wp2_with fail
  go_loop [3] (fun i => ∃ k : Nat, i = .int .i64 (k : Int) ∧ k ≤ n ∧ k ≤ 200) (fun i => n - (intOf i).toNat)
  case atStart => exact ⟨0, rfl, Nat.zero_le _, by omega⟩
  case round =>
    obtain ⟨k, rfl, hk, hk2⟩ := hrel
    by_cases hlt : k < n
    · have e0 : decide (k < n) = true := by simpa using hlt
      obtain ⟨g, o, rfl, hg, hc1, hc2, hcell⟩ := HC.out (by omega)
      have h1 := hcell k hlt
      have hsk := HS.out k hlt
      clear hcell
      unfold maxLen at hc2 hsk
      by_cases hb : k < 200
      · have e1 : decide (200 ≤ (k : Int)) = false := by simp; omega
        by_cases hbig : (S k).size ≤ 200
        · have e2 : decide (200 < ((S k).size : Int)) = false := by simp; omega
          go_wp2_with fail
          go_round
          case rel => exact ⟨k + 1, by go_num, by omega, by omega⟩
          case measure => simp [intOf]; omega
        · have e2 : decide (200 < ((S k).size : Int)) = true := by simp; omega
          go_wp2_with fail
          go_ret
          exact ⟨false, rfl, rfl, fun h => by cases h⟩
      · have e1 : decide (200 ≤ (k : Int)) = true := by simp; omega
        go_wp2_with fail
        go_ret
        exact ⟨false, rfl, rfl, fun h => by cases h⟩
    · have e0 : decide (k < n) = false := by simpa using hlt
      go_wp2_with fail
      go_ret
      exact ⟨true, rfl, rfl, fun _ => by omega⟩
end Go.Proofs.YtnlckkahkghneaaGreatDoor.LE

namespace Go.Proofs.YtnlckkahkghneaaGreatDoor.LE
open Go.RowKit Go.Maps Go.WideMaps Sg
/-- A learner, a map beside it, a row of keys beside both; the first j of them are in the map. -/
structure LBR (w0 w : World) (l : Nat) (T : Nat → Prop) (s : St) (c : Nat) (b : Nat) (g : Nat) (v : Value) (xs : List ByteArray) (j : Nat) : Prop where
  lb : LB w0 w l T s c b j (fun x => inn (xs.take j) x)
  row : Row w g v xs
  gm : xs ≠ [] → g ≠ b
section
variable {w0 w w' : World} {l b g c j : Nat} {T : Nat → Prop} {s : St} {v : Value} {xs : List ByteArray}
theorem LBR.made (q : LL w0 w l T s c) (r : Row w g v xs) : LBR w0 (w.alloc (.map #[] 0)) l T s c w.heap.size g v xs 0 := by
  refine ⟨?_, r.below ((Below.refl _ _).alloc (Nat.le_refl _) _), fun hx e => by have := r.lt hx; omega⟩
  have := LB.made q
  rw [show (fun x => inn (xs.take 0) x) = (fun _ : ByteArray => false) from funext fun x => inn_no.2 (by simp)]
  exact this
theorem LBR.below (q : LBR w0 w l T s c b g v xs j) (hb : Below w.heap.size w w') : LBR w0 w' l T s c b g v xs j := ⟨q.lb.below hb, q.row.below hb, q.gm⟩
theorem LBR.store (q : LBR w0 w l T s c b g v xs j) (hj : j < xs.length) {k : ByteArray} (hk : k = xs.getD j ⟨#[]⟩) (hs : k.size ≤ maxLen) (hm : j ≤ 100000) :
    ∃ w', (Instr.mapUpdate 85 (.map (some b)) (.string k) (.bool true)).run Tryz.prog w = .ok () w' ∧ LBR w0 w' l T s c b g v xs (j + 1) := by
  obtain ⟨w', hrun, hM, hg⟩ := q.lb.map.store hs true hm
  have ht := turn_one hg
  have hx : xs ≠ [] := fun e => by rw [e] at hj; exact Nat.not_lt_zero _ hj
  have hgb := q.gm hx
  refine ⟨w', hrun, ⟨⟨q.lb.lv.ca.beside ht fun k hk e => q.lb.mT (by have e : k = b := e; exact e ▸ hk), q.lb.lv.bel.trans (ht.below (fun k hk => by have hk : k = b := hk; subst hk; exact q.lb.low) q.lb.lv.bel.size), q.lb.lv.low⟩, ?_, q.lb.mT, q.lb.low⟩, q.row.same ht.size fun h => ht.block g h hgb, q.gm⟩
  have hf : updB (fun x => inn (xs.take j) x) k true = fun x => inn (xs.take (j + 1)) x := by
    funext y
    unfold updB
    have et : xs.take (j + 1) = xs.take j ++ [k] := by rw [hk, List.getD_eq_getElem?_getD, List.getElem?_eq_getElem hj]; exact (List.take_append_getElem hj).symm
    rw [et, Bool.eq_iff_iff]
    split
    · rename_i e
      simp [inn_iff, e]
    · rename_i e
      rw [inn_iff, inn_iff, List.mem_append, List.mem_singleton]
      exact ⟨Or.inl, fun h => h.resolve_right e⟩
  rw [← hf]
  exact hM
end
theorem take_new {xs : List ByteArray} (h : xs.Nodup) {j : Nat} (hj : j < xs.length) : inn (xs.take j) (xs.getD j ⟨#[]⟩) = false := by
  rw [List.getD_eq_getElem?_getD, List.getElem?_eq_getElem hj]
  refine inn_no.2 fun e => ?_
  obtain ⟨i, hi, e⟩ := List.mem_iff_getElem.1 e
  rw [List.getElem_take] at e
  have hij : i < j := by rw [List.length_take] at hi; omega
  exact List.pairwise_iff_getElem.1 h i j (by omega) hj hij e
theorem gho_len {s : St} (h : Ok s) : s.ghosts.length ≤ 2 * s.mo := by
  have h1 := h.lA
  have h2 := h.lB
  show (gk s.HA ++ gk s.HB).length ≤ _
  unfold gk
  rw [List.length_append, List.length_map, List.length_map]
  omega
theorem gho_no {s : St} (h : Ok s) {x : ByteArray} (hx : x ∈ s.ghosts) : s.has x = false := inn_no.2 fun e => h.dis x e hx
/-- What LearnBounds asks of a request. -/
theorem req_bd {s : St} (h : Ok s) (k : ByteArray) : (s.has k = true → s.outB k = false) ∧ (s.mo ≠ 0 → (s.req k).has k = true) ∧ (s.outB k = true → (s.req k).has (s.vicV k) = false ∧ s.vicV k ∈ s.keys) := by
  refine ⟨fun e => by unfold St.outB; rw [e]; rfl, fun hm => inn_iff.2 (req_f h hm k).has, fun e => ?_⟩
  have hm : s.mo ≠ 0 := by
    unfold St.outB at e
    rw [Bool.and_eq_true, Bool.and_eq_true] at e
    first
    | exact of_decide_eq_true e.1.1
    | exact of_decide_eq_true e.1.2
    | exact of_decide_eq_true e.2.1
    | exact of_decide_eq_true e.2
  exact ⟨inn_no.2 ((req_f h hm k).vic e).2, ((req_f h hm k).vic e).1⟩
theorem rm_has {s : St} (h : Ok s) (k : ByteArray) : (s.rm k).has k = false := inn_no.2 fun e => (((rm_f h k).mem k).1 e).2 rfl
theorem keep_rm (s : St) (k : ByteArray) : (s.rm k).six = s.six ∧ (s.rm k).mo = s.mo := ⟨rfl, rfl⟩
theorem keep_ad (s : St) (k : ByteArray) : (adP s k).six = s.six ∧ (adP s k).mo = s.mo := by unfold adP; split <;> exact ⟨rfl, rfl⟩
theorem keep_dr (s : St) : s.dr.six = s.six ∧ s.dr.mo = s.mo := by unfold St.dr; split <;> exact ⟨rfl, rfl⟩
end Go.Proofs.YtnlckkahkghneaaGreatDoor.LE
