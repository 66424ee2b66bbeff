/- The reference's Request in memory; its first ways. -/
import Derived.Test.YtmnflcidcoejiaaQf
namespace Go.Proofs.Ytmnflcidcoejiaa
open Go.RowKit Sg

abbrev zObj (h : Bool) (v : ByteArray) (e : Bool) : Obj := .cells #[.bool h, .string v, .bool e] 34
abbrev stA (h : Bool) (v : ByteArray) (e : Bool) : Value := .agg #[.bool h, .string v, .bool e]
def ZB (w : World) (p : Nat) (h : Bool) (v : ByteArray) (e : Bool) : Prop := w.heap[p]? = some (.cells #[.bool h, .string v, .bool e] 34 (0, 0))
section
variable {w w' W W' : World} {p : Nat} {h : Bool} {v : ByteArray} {e : Bool}
theorem ZB.lt (k : ZB w p h v e) : p < w.heap.size := (Array.getElem?_eq_some_iff.1 k).1
theorem ZB.c (k : ZB w p h v e) : w.cell? ⟨p, 0, none⟩ = some (.bool h) ∧ w.cell? ⟨p, 1, none⟩ = some (.string v) ∧ w.cell? ⟨p, 2, none⟩ = some (.bool e) := ⟨cell_of_row w _ 0 _ _ _ k, cell_of_row w _ 1 _ _ _ k, cell_of_row w _ 2 _ _ _ k⟩
theorem ZB.f (k : ZB w p h v e) : w.frozen? ⟨p, 0, none⟩ = false ∧ w.frozen? ⟨p, 1, none⟩ = false ∧ w.frozen? ⟨p, 2, none⟩ = false := ⟨frozen_of_row w _ 0 _ _ k, frozen_of_row w _ 1 _ _ k, frozen_of_row w _ 2 _ _ k⟩
theorem ZB.below (k : ZB w p h v e) (hb : Below w.heap.size w w') : ZB w' p h v e := (hb.block p k.lt).trans k
theorem ZB.other (k : ZB w p h v e) {z : Addr} (hz : p ≠ z.block) (u : Value) : ZB (w.setCell z u) p h v e := (Below.heap_setCell _ _ _ _ hz).trans k
theorem ZB.set0 (k : ZB w p h v e) (b : Bool) : ZB (w.setCell ⟨p, 0, none⟩ (.bool b)) p b v e := by
  unfold ZB at *
  rw [heap_setCell_same _ _ _ _ _ _ k]; rfl
theorem ZB.set1 (k : ZB w p h v e) (b : ByteArray) : ZB (w.setCell ⟨p, 1, none⟩ (.string b)) p h b e := by
  unfold ZB at *
  rw [heap_setCell_same _ _ _ _ _ _ k]; rfl
theorem ZB.set2 (k : ZB w p h v e) (b : Bool) : ZB (w.setCell ⟨p, 2, none⟩ (.bool b)) p h v b := by
  unfold ZB at *
  rw [heap_setCell_same _ _ _ _ _ _ k]; rfl
theorem load_z (k : ZB w p h v e) : (loadVar 34 ⟨p, 0, none⟩).run Try.prog w = .ok (stA h v e) w := by
  obtain ⟨k0, k1, k2⟩ := k.c
  unfold loadVar
  go_simp
end
abbrev putZ (w : World) (p : Nat) (h : Bool) (v : ByteArray) (e : Bool) : World := ((w.setCell ⟨p, 0, none⟩ (.bool h)).setCell ⟨p, 1, none⟩ (.string v)).setCell ⟨p, 2, none⟩ (.bool e)
/-- Request's variables. -/
structure RQ (w W : World) (P : Nat → Prop) (p q r x mo t : Nat) (n a g : Sl) (N A G : List KE) (h : Bool) (v : ByteArray) (e : Bool) : Prop where
  two : R2 w W P p q mo t n a g N A G
  res : ZB W r false ⟨#[]⟩ false
  stp : ZB W x h v e
  np : ¬ P r ∧ ¬ P x
  ne : r ≠ p ∧ r ≠ q ∧ x ≠ p ∧ x ≠ q ∧ r ≠ x
  low : w.heap.size ≤ r ∧ w.heap.size ≤ x
section
variable {w W W' : World} {P P0 : Nat → Prop} {p q r x mo t : Nat} {n a g n' a' g' : Sl} {N A G N' A' G' : List KE} {h e : Bool} {v : ByteArray}
theorem RQ.start (k : Rw w P n a g N A G) (hP : Cl w P) (mo t : Nat) : RQ w ((((w.alloc (rObj mo t n a g)).alloc rZero).alloc (zObj false ⟨#[]⟩ false)).alloc (zObj false ⟨#[]⟩ false)) (ex (ex (wi P w.heap.size (w.heap.size + 1)) (w.heap.size + 1 + 1)) (w.heap.size + 1 + 1 + 1)) w.heap.size (w.heap.size + 1) (w.heap.size + 1 + 1) (w.heap.size + 1 + 1 + 1) mo t n a g N A G false ⟨#[]⟩ false := by
  have r0 := r2_start k hP mo t
  have s2 : ((w.alloc (rObj mo t n a g)).alloc rZero).heap.size = w.heap.size + 1 + 1 := by simp
  generalize (w.alloc (rObj mo t n a g)).alloc rZero = W0 at r0 s2 ⊢
  have r1 := (r0.alloc (zObj false ⟨#[]⟩ false)).alloc (zObj false ⟨#[]⟩ false)
  have s3 : (W0.alloc (zObj false ⟨#[]⟩ false)).heap.size = w.heap.size + 1 + 1 + 1 := by simp; omega
  have q2 : ZB ((W0.alloc (zObj false ⟨#[]⟩ false)).alloc (zObj false ⟨#[]⟩ false)) W0.heap.size false ⟨#[]⟩ false := (Below.heap_alloc _ _ _ (by omega)).trans (heap_alloc_new _ _)
  have q3 : ZB ((W0.alloc (zObj false ⟨#[]⟩ false)).alloc (zObj false ⟨#[]⟩ false)) (W0.alloc (zObj false ⟨#[]⟩ false)).heap.size false ⟨#[]⟩ false := heap_alloc_new _ _
  rw [s2] at q2
  rw [s3] at q3
  rw [s2, s3] at r1
  exact ⟨r1, q2, q3, ⟨fun h => h.1.2 rfl, fun h => h.2 rfl⟩, ⟨by omega, by omega, by omega, by omega, by omega⟩, ⟨by omega, by omega⟩⟩
theorem RQ.below (k : RQ w W P p q r x mo t n a g N A G h v e) (hb : Below W.heap.size W W') : RQ w W' P p q r x mo t n a g N A G h v e := ⟨k.two.below hb, k.res.below hb, k.stp.below hb, k.np, k.ne, k.low⟩
theorem RQ.setN (k : RQ w W P p q r x mo t n a g N A G h v e) (s : KW W P n' N') : RQ w (W.setCell ⟨p, 2, none⟩ (.slice n'.A n'.n n'.c)) P p q r x mo t n' a g N' A G h v e :=
  ⟨k.two.setN s, k.res.other (z := ⟨p, 2, none⟩) k.ne.1 _, k.stp.other (z := ⟨p, 2, none⟩) k.ne.2.2.1 _, k.np, k.ne, k.low⟩
theorem RQ.setA (k : RQ w W P p q r x mo t n a g N A G h v e) (s : KW W P n' N') : RQ w (W.setCell ⟨p, 3, none⟩ (.slice n'.A n'.n n'.c)) P p q r x mo t n n' g N N' G h v e :=
  ⟨k.two.setA s, k.res.other (z := ⟨p, 3, none⟩) k.ne.1 _, k.stp.other (z := ⟨p, 3, none⟩) k.ne.2.2.1 _, k.np, k.ne, k.low⟩
theorem RQ.setG (k : RQ w W P p q r x mo t n a g N A G h v e) (s : KW W P n' N') : RQ w (W.setCell ⟨p, 4, none⟩ (.slice n'.A n'.n n'.c)) P p q r x mo t n a n' N A N' h v e :=
  ⟨k.two.setG s, k.res.other (z := ⟨p, 4, none⟩) k.ne.1 _, k.stp.other (z := ⟨p, 4, none⟩) k.ne.2.2.1 _, k.np, k.ne, k.low⟩
theorem RQ.setT (k : RQ w W P p q r x mo t n a g N A G h v e) (u : Nat) : RQ w (W.setCell ⟨p, 1, none⟩ (.int .i64 (u : Int))) P p q r x mo u n a g N A G h v e :=
  ⟨k.two.setT u, k.res.other (z := ⟨p, 1, none⟩) k.ne.1 _, k.stp.other (z := ⟨p, 1, none⟩) k.ne.2.2.1 _, k.np, k.ne, k.low⟩
theorem RQ.set0 (k : RQ w W P p q r x mo t n a g N A G h v e) (b : Bool) : RQ w (W.setCell ⟨x, 0, none⟩ (.bool b)) P p q r x mo t n a g N A G b v e :=
  ⟨k.two.other k.np.2 k.ne.2.2.1 k.ne.2.2.2.1 k.low.2 0 _, k.res.other (z := ⟨x, 0, none⟩) k.ne.2.2.2.2 _, k.stp.set0 b, k.np, k.ne, k.low⟩
theorem RQ.set1 (k : RQ w W P p q r x mo t n a g N A G h v e) (b : ByteArray) : RQ w (W.setCell ⟨x, 1, none⟩ (.string b)) P p q r x mo t n a g N A G h b e :=
  ⟨k.two.other k.np.2 k.ne.2.2.1 k.ne.2.2.2.1 k.low.2 1 _, k.res.other (z := ⟨x, 1, none⟩) k.ne.2.2.2.2 _, k.stp.set1 b, k.np, k.ne, k.low⟩
theorem RQ.set2 (k : RQ w W P p q r x mo t n a g N A G h v e) (b : Bool) : RQ w (W.setCell ⟨x, 2, none⟩ (.bool b)) P p q r x mo t n a g N A G h v b :=
  ⟨k.two.other k.np.2 k.ne.2.2.1 k.ne.2.2.2.1 k.low.2 2 _, k.res.other (z := ⟨x, 2, none⟩) k.ne.2.2.2.2 _, k.stp.set2 b, k.np, k.ne, k.low⟩
theorem RQ.setAll {mo' t' : Nat} (k : RQ w W P p q r x mo t n a g N A G h v e) (s : Rw W P n' a' g' N' A' G') : RQ w (put5 W p mo' t' n' a' g') P p q r x mo' t' n' a' g' N' A' G' h v e := by
  have o : ∀ {z h v e}, z ≠ p → ZB W z h v e → ZB (put5 W p mo' t' n' a' g') z h v e := fun hz s => ((((s.other (z := ⟨p, 0, none⟩) hz _).other (z := ⟨p, 1, none⟩) hz _).other (z := ⟨p, 2, none⟩) hz _).other (z := ⟨p, 3, none⟩) hz _).other (z := ⟨p, 4, none⟩) hz _
  exact ⟨k.two.setAll s, o k.ne.1 k.res, o k.ne.2.2.1 k.stp, k.np, k.ne, k.low⟩
/-- The results written out: the rows any, the step as it is. -/
theorem RQ.out {mo' t' : Nat} (k : RQ w W P p q r x mo t n a g N A G h v e) (hp : ∀ k, P k → P0 k) (s : Rw W P n' a' g' N' A' G') :
    RB (putZ (put5 W q mo' t' n' a' g') r h v e) q mo' t' n' a' g' ∧ ZB (putZ (put5 W q mo' t' n' a' g') r h v e) r h v e ∧ Rw (putZ (put5 W q mo' t' n' a' g') r h v e) P0 n' a' g' N' A' G' ∧ Below w.heap.size w (putZ (put5 W q mo' t' n' a' g') r h v e) := by
  have o := k.two.out2 (mo' := mo') (t' := t') (P0 := P) (fun _ h => h) s
  have hrq := k.ne.2.1
  have z := ((((k.res.other (z := ⟨q, 0, none⟩) hrq (.int .i64 (mo' : Int))).other (z := ⟨q, 1, none⟩) hrq (.int .i64 (t' : Int))).other (z := ⟨q, 2, none⟩) hrq (.slice n'.A n'.n n'.c)).other (z := ⟨q, 3, none⟩) hrq (.slice a'.A a'.n a'.c)).other (z := ⟨q, 4, none⟩) hrq (.slice g'.A g'.n g'.c)
  have nr := k.np.1
  have lr := k.low.1
  change ZB (put5 W q mo' t' n' a' g') r false ⟨#[]⟩ false at z
  generalize put5 W q mo' t' n' a' g' = V at o z ⊢
  exact ⟨((o.1.other (q := ⟨r, 0, none⟩) (Ne.symm hrq) _).other (q := ⟨r, 1, none⟩) (Ne.symm hrq) _).other (q := ⟨r, 2, none⟩) (Ne.symm hrq) _, ((z.set0 h).set1 v).set2 e,
    (((o.2.1.set (q := ⟨r, 0, none⟩) nr (.bool h)).set (q := ⟨r, 1, none⟩) nr (.string v)).set (q := ⟨r, 2, none⟩) nr (.bool e)).wide fun k hk _ => hp k hk,
    ((o.2.2.setCell (p := ⟨r, 0, none⟩) lr _).setCell (p := ⟨r, 1, none⟩) lr _).setCell (p := ⟨r, 2, none⟩) lr _⟩
theorem RQ.out0 (k : RQ w W P p q r x mo t n a g N A G h v e) (hp : ∀ k, P k → P0 k) :
    RB (putZ (put5 W q mo t n a g) r h v e) q mo t n a g ∧ ZB (putZ (put5 W q mo t n a g) r h v e) r h v e ∧ Rw (putZ (put5 W q mo t n a g) r h v e) P0 n a g N A G ∧ Below w.heap.size w (putZ (put5 W q mo t n a g) r h v e) := k.out hp k.two.rows
end
section
variable (w : World) (P : Nat → Prop) (mo t : Nat) (n a g : Sl) (N A G : List KE) (h : Rw w P n a g N A G) (hP : Cl w P) (s : ByteArray)
include h hP
set_option maxHeartbeats 1000000 in
theorem rq_zero (hm : mo = 0) (hit : Bool) (hh : (isK N s || isK A s) = hit) : Calls Try.prog 12 #[rAgg mo t n a g, .string s] w (CT w P (fun v => .tuple #[v, stA hit ⟨#[]⟩ false]) mo t N A G) := by
  have e9 : ((mo : Int) == 0) = true := by rw [hm]; rfl
  clear hm
  have R0 := Lib.hid (RQ.start h hP mo t)
  clear h hP
  go_enter Try.func12, Try.ntmps12
  go_upto_region 2 with fail
  generalize (((w.alloc (rObj mo t n a g)).alloc rZero).alloc (zObj false ⟨#[]⟩ false)).alloc (zObj false ⟨#[]⟩ false) = W at R0 ⊢
  generalize w.heap.size + 1 + 1 + 1 = x at R0 ⊢
  generalize w.heap.size + 1 + 1 = r at R0 ⊢
  generalize w.heap.size + 1 = q at R0 ⊢
  obtain ⟨p, hp⟩ : ∃ p, p = w.heap.size := ⟨_, rfl⟩
  rw [← hp] at R0 ⊢
  clear hp
  obtain ⟨c0, c1, c2, c3, c4⟩ := R0.out.two.box.c
  have U := Lib.hid (has_r W _ mo t n a g N A G R0.out.two.rows s)
  rw [hh] at U
  go_wp2_with fail
  refine U.out.mono ?_
  rintro e W1 ⟨rfl, B1⟩
  have R1 := Lib.hid ((R0.out.below B1).set0 hit)
  obtain ⟨x0, _, _⟩ := (R0.out.below B1).stp.c
  obtain ⟨g0, _, _⟩ := (R0.out.below B1).stp.f
  clear c0 c1 c2 c3 c4 B1 R0 U
  go_upto_region 3 with fail
  clear x0 g0
  generalize W1.setCell ⟨x, 0, none⟩ (.bool hit) = W2 at R1 ⊢
  obtain ⟨c0, c1, c2, c3, c4⟩ := R1.out.two.box.c
  (try go_upto_region 4 with fail)
  obtain ⟨x0, x1, x2⟩ := R1.out.stp.c
  obtain ⟨⟨k0, k1, k2, k3, k4⟩, f0, f1, f2, f3, f4⟩ := R1.out.two.ten
  obtain ⟨r0, r1, r2⟩ := R1.out.res.c
  obtain ⟨g0, g1, g2'⟩ := R1.out.res.f
  obtain ⟨nrp, nrq, nxp, nxq, nrx⟩ := R1.out.ne
  have npq : p ≠ q := R1.out.two.ne
  have nqp : q ≠ p := Ne.symm npq
  have npr : p ≠ r := Ne.symm nrp
  have nqr : q ≠ r := Ne.symm nrq
  have npx : p ≠ x := Ne.symm nxp
  have nqx : q ≠ x := Ne.symm nxq
  have nxr : x ≠ r := Ne.symm nrx
  go_region
  have F := Lib.hid (R1.out.out0 (P0 := P) (fun k hk => hk.1.1.1))
  go_wp2_with fail
  (try simp only [Exit.inBlock, Exit.then])
  refine bodyPost_ret (results_cc rfl _ _ _ ⟨q, 0, none⟩ ⟨r, 0, none⟩ _ _ rfl (load_r (F.out.1.below (below_drew _))) rfl (load_z (F.out.2.1.below (below_drew _)))) rfl ?_
  exact ⟨_, _, _, rfl, F.out.2.2.1.drew, F.out.2.2.2.trans ((below_drew _).mono F.out.2.2.2.size)⟩
end
end Go.Proofs.Ytmnflcidcoejiaa
