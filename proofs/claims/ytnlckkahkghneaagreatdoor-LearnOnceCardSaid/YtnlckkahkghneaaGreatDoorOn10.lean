/- LearnOnce as plain lists; a row of the law's own beside a learner. -/
import Derived.Test.YtnlckkahkghneaaGreatDoorLaw10
set_option maxRecDepth 20000
namespace Go.Proofs.YtnlckkahkghneaaGreatDoor.LE
open Go.RowKit Sg
/-- The keys xs were asked for once each. -/
structure On (s : St) (mo : Nat) (xs : List ByteArray) : Prop where
  m : s.mo = mo
  kin : ∀ x ∈ s.keys, x ∈ xs
  gin : ∀ x ∈ s.ghosts, x ∈ xs
  len : s.keys.length = min mo xs.length
  glo : min mo (xs.length - s.keys.length) ≤ s.ghosts.length
  ghi : s.ghosts.length ≤ xs.length - s.keys.length
  w : s.w = half
theorem On.start (six : Bool) (m : Nat) (vs : List Nat) : On (St.start six m vs) m [] := by
  have hk : (St.start six m vs).keys = [] := (KSt.start_kind (k := if six then 3 else 0) (by cases six <;> decide) m).2.2.1
  refine ⟨rfl, fun x hx => ?_, fun x hx => ?_, ?_, ?_, ?_, rfl⟩
  · rw [hk] at hx; cases hx
  · cases hx
  · rw [hk]; simp
  · simp
  · show 0 ≤ _; omega
theorem On.req {s : St} {mo : Nat} {xs : List ByteArray} (h : Ok s) (o : On s mo xs) (h1 : 1 ≤ mo) {x : ByteArray} (hx : x ∉ xs) : s.has x = false ∧ s.outB x = decide (mo < xs.length + 1) ∧ On (s.req x) mo (xs ++ [x]) := by
  have hm : s.mo ≠ 0 := by rw [o.m]; omega
  have hk : x ∉ s.keys := fun e => hx (o.kin x e)
  have hg : x ∉ s.ghosts := fun e => hx (o.gin x e)
  have hh : s.has x = false := inn_no.2 hk
  have F := req_f h hm x
  have hi : inn s.keys x = false := inn_no.2 hk
  obtain ⟨n1, n2, n3, n4⟩ := req_new h hm hk hg
  have hl := o.len
  have ho : s.outB x = decide (mo < xs.length + 1) := by
    rw [F.outE, hi, o.m, Bool.eq_iff_iff]
    simp
    omega
  have hkl := F.len
  rw [hh] at hkl
  have lx : (xs ++ [x]).length = xs.length + 1 := by rw [List.length_append]; rfl
  have g1 := o.glo
  have g2 := o.ghi
  have om := o.m
  refine ⟨hh, ho, (req_keep s x).2.trans o.m, fun y hy => ?_, fun y hy => ?_, ?_, ?_, ?_, n3.trans o.w⟩
  · rcases F.old y hy with h | h
    · exact List.mem_append_left _ (o.kin y h)
    · rw [h]; exact List.mem_append_right _ (List.mem_singleton.2 rfl)
  · rcases n4 y hy with h | h
    · exact List.mem_append_left _ (o.gin y h)
    · exact List.mem_append_left _ (o.kin y h)
  all_goals
    rw [lx]
    cases hb : s.outB x with
    | true =>
      rw [hb] at hkl
      have hmx : mo < xs.length + 1 := of_decide_eq_true (ho.symm.trans hb)
      obtain ⟨q1, q2⟩ := n1 hb
      simp at hkl
      rw [om] at q2
      omega
    | false =>
      rw [hb] at hkl
      have hmx : ¬ mo < xs.length + 1 := of_decide_eq_false (ho.symm.trans hb)
      have q1 := n2 hb
      simp at hkl
      rw [q1] at *
      omega

/-- A learner, and a row of the law's own beside it. -/
structure LR2 (w0 w : World) (l : Nat) (T : Nat → Prop) (s : St) (b : Nat) (v : Value) (xs : List ByteArray) : Prop where
  lv : LL w0 w l T s b
  own : Own w w0.heap.size v xs
  out : ∀ g, v.ownBlock = some g → ¬ T g
section
variable {w0 w w' : World} {l b b' : Nat} {T T' : Nat → Prop} {s s' : St} {v r : Value} {xs : List ByteArray} {e : Ending}
theorem LR2.below (q : LR2 w0 w l T s b v xs) (hb : Below w.heap.size w w') : LR2 w0 w' l T s b v xs := ⟨q.lv.below hb, q.own.below hb, q.out⟩
theorem LR2.op (q : LR2 w0 w l T s b v xs) (hp : LCP r w l T s' b' e w') : e = .returned r ∧ ∃ T', LR2 w0 w' l T' s' b' v xs ∧ Went w w' T T' := by
  obtain ⟨he, T', h1, h2⟩ := q.lv.op hp
  refine ⟨he, T', ⟨h1, q.own.same fun g hg => h2.turn.block g (q.own.lt hg).1 (q.out g hg), fun g hg hk => ?_⟩, h2⟩
  rcases h2.new g hk with h | h
  · exact q.out g hg h
  · have := (q.own.lt hg).1; omega
theorem LR2.app (q : LR2 w0 w l T s b v xs) (x : ByteArray) (hx : x.size ≤ maxLen) (hl : xs.length ≤ 1999) :
    ∃ (A : Option Addr) (cap : Nat) (w2 : World), (Builtin.append_ #[33, 33] 33 #[v, .slice (some ⟨w.heap.size, 0, none⟩) 1 1]).run Tryz.prog (w.alloc (.cells #[.string x] 9)) = .ok (.slice A (xs.length + 1) cap) w2 ∧
      LR2 w0 w2 l T s b (.slice A (xs.length + 1) cap) (xs ++ [x]) := by
  obtain ⟨A, cap, w2, hrun, hO, hG, hloc⟩ := LR.app_at q.own x hx hl q.lv.bel.size
  have tn : Turn (fun k => v.ownBlock = some k) w w2 := ⟨hG.os, hG.tape, hG.output, hG.size, fun k hk hn => hG.block k hk (fun e => hn e.symm)⟩
  refine ⟨A, cap, w2, hrun, ⟨⟨q.lv.ca.beside tn fun k hk hv => q.out k hv hk, q.lv.bel.trans ⟨hG.os, hG.tape, hG.output, hG.size, fun k hk => hG.block k (Nat.lt_of_lt_of_le hk q.lv.bel.size) fun e => by have := (q.own.lt e.symm).2; omega⟩, q.lv.low⟩, hO, fun g hg hk => ?_⟩⟩
  rcases hloc g hg with h | h
  · exact q.out g h hk
  · have := q.lv.lt g hk; omega
theorem LR2.rowOf (q : LR2 w0 w l T s b v xs) : ∃ g, Row w g v xs := by
  obtain ⟨g, _, hr⟩ := q.own.row
  exact ⟨g, hr⟩
end
end Go.Proofs.YtnlckkahkghneaaGreatDoor.LE
