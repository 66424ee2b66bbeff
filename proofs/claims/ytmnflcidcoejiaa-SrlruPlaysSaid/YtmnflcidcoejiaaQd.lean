/- The contracts of the reference's go1, Drop. -/
import Derived.Test.YtmnflcidcoejiaaQc
namespace Go.Proofs.Ytmnflcidcoejiaa
open Go.RowKit Sg

def ex (P : Nat → Prop) (x : Nat) : Nat → Prop := fun k => P k ∧ k ≠ x
section
variable {w W W' : World} {P P' P0 : Nat → Prop} {p q x mo t : Nat} {n a g n' a' g' : Sl} {N A G N' A' G' : List KE} {e : KE}
theorem R2.alloc (r : R2 w W P p q mo t n a g N A G) (o : Obj) : R2 w (W.alloc o) (ex P W.heap.size) p q mo t n a g N A G := by
  have hb := (Below.refl W.heap.size W).alloc (Nat.le_refl _) o
  refine ⟨r.box.below hb, (r.rows.wide fun k hk hl => ⟨hk, by omega⟩).below hb, r.res.below hb, r.bel.trans (hb.mono r.bel.size), r.low, r.ne, ⟨fun h => r.np.1 h.1, fun h => r.np.2 h.1⟩, fun k hk => ?_⟩
  have : W.heap.size + 1 ≤ k := by simpa using hk
  exact ⟨r.cl k (by omega), by omega⟩
theorem R2.out2 {mo' t' : Nat} (r : R2 w W P p q mo t n a g N A G) (hp : ∀ k, P k → P0 k) (h : Rw W P n' a' g' N' A' G') :
    RB (put5 W q mo' t' n' a' g') q mo' t' n' a' g' ∧ Rw (put5 W q mo' t' n' a' g') P0 n' a' g' N' A' G' ∧ Below w.heap.size w (put5 W q mo' t' n' a' g') := by
  have s := ((((h.set (q := ⟨q, 0, none⟩) r.np.2 (.int .i64 (mo' : Int))).set (q := ⟨q, 1, none⟩) r.np.2 (.int .i64 (t' : Int))).set (q := ⟨q, 2, none⟩) r.np.2 (.slice n'.A n'.n n'.c)).set (q := ⟨q, 3, none⟩) r.np.2 (.slice a'.A a'.n a'.c)).set (q := ⟨q, 4, none⟩) r.np.2 (.slice g'.A g'.n g'.c)
  exact ⟨r.res.put, s.wide fun k hk _ => hp k hk, ((((r.bel.setCell (p := ⟨q, 0, none⟩) r.low.2 _).setCell (p := ⟨q, 1, none⟩) r.low.2 _).setCell (p := ⟨q, 2, none⟩) r.low.2 _).setCell (p := ⟨q, 3, none⟩) r.low.2 _).setCell (p := ⟨q, 4, none⟩) r.low.2 _⟩
theorem KBox.below (k : KBox W x e) (hb : Below W.heap.size W W') : KBox W' x e := (hb.block x k.lt).trans k
theorem KBox.other (k : KBox W x e) {z : Addr} (hz : x ≠ z.block) (u : Value) : KBox (W.setCell z u) x e := (Below.heap_setCell _ _ _ _ hz).trans k
abbrev put3 (w : World) (p : Nat) (e : KE) : World := ((w.setCell ⟨p, 0, none⟩ (.string e.s)).setCell ⟨p, 1, none⟩ (.bool e.o)).setCell ⟨p, 2, none⟩ (.bool e.d)
theorem RB.put3 (k : RB W p mo t n a g) (h : p ≠ x) (e : KE) : RB (put3 W x e) p mo t n a g := ((k.other (q := ⟨x, 0, none⟩) h _).other (q := ⟨x, 1, none⟩) h _).other (q := ⟨x, 2, none⟩) h _
theorem KBox.put5 (k : KBox W x e) (h : x ≠ p) (mo t : Nat) (n a g : Sl) : KBox (put5 W p mo t n a g) x e := ((((k.other (z := ⟨p, 0, none⟩) h _).other (z := ⟨p, 1, none⟩) h _).other (z := ⟨p, 2, none⟩) h _).other (z := ⟨p, 3, none⟩) h _).other (z := ⟨p, 4, none⟩) h _
end
theorem below_drew (w : World) : Below w.heap.size w w.drew := ⟨rfl, rfl, rfl, Nat.le_refl _, fun _ _ => rfl⟩
theorem Rw.put3 {w : World} {P : Nat → Prop} {n a g : Sl} {N A G : List KE} {x : Nat} (h : Rw w P n a g N A G) (hx : ¬ P x) (e : KE) : Rw (Go.Proofs.Ytmnflcidcoejiaa.put3 w x e) P n a g N A G :=
  ((h.set (q := ⟨x, 0, none⟩) hx (.string e.s)).set (q := ⟨x, 1, none⟩) hx (.bool e.o)).set (q := ⟨x, 2, none⟩) hx (.bool e.d)
theorem below_put3 {w W : World} {x : Nat} (b : Below w.heap.size w W) (hl : w.heap.size ≤ x) (e : KE) : Below w.heap.size w (put3 W x e) :=
  ((b.setCell (p := ⟨x, 0, none⟩) hl (.string e.s)).setCell (p := ⟨x, 1, none⟩) hl (.bool e.o)).setCell (p := ⟨x, 2, none⟩) hl (.bool e.d)
theorem KBox.put3 {w : World} {x : Nat} {e0 : KE} (k : KBox w x e0) (e : KE) : KBox (Go.Proofs.Ytmnflcidcoejiaa.put3 w x e) x e := k.put e
/-- The results written out: a cache, and a key. -/
theorem R2.outK {w W : World} {P P0 : Nat → Prop} {p q x mo t : Nat} {n a g : Sl} {N A G : List KE} {e0 e : KE} (r : R2 w W P p q mo t n a g N A G) (hp : ∀ k, P k → P0 k) (k : KBox W x e0) (hx : ¬ P x) (hxq : x ≠ q) (hl : w.heap.size ≤ x) :
    RB (put3 (put5 W q mo t n a g) x e).drew q mo t n a g ∧ KBox (put3 (put5 W q mo t n a g) x e).drew x e ∧ Rw (put3 (put5 W q mo t n a g) x e).drew P0 n a g N A G ∧ Below w.heap.size w (put3 (put5 W q mo t n a g) x e).drew := by
  have o := r.out2 (mo' := mo) (t' := t) (P0 := P) (fun _ h => h) r.rows
  have k1 := k.put5 hxq mo t n a g
  generalize put5 W q mo t n a g = V at o k1 ⊢
  have s := o.2.1.put3 hx e
  have b := below_put3 o.2.2 hl e
  have o1 := o.1.put3 (Ne.symm hxq) e
  have k2 := k1.put3 e
  generalize put3 V x e = U at s b o1 k2 ⊢
  exact ⟨o1.below (below_drew _), k2.below (below_drew _), (s.wide fun k hk _ => hp k hk).drew, b.trans ((below_drew U).mono b.size)⟩
abbrev kZero : Obj := .cells #[.string ⟨#[]⟩, .bool false, .bool false] 68
abbrev kObj (e : KE) : Obj := .cells #[.string e.s, .bool e.o, .bool e.d] 68
section
variable (w : World) (P : Nat → Prop) (mo t : Nat) (n a g : Sl) (N A G : List KE) (h : Rw w P n a g N A G) (hP : Cl w P)
include h hP
set_option maxHeartbeats 1000000 in
theorem go1_N (hN : N ≠ []) : Calls Try.prog 53 #[rAgg mo t n a g] w (CT w P (fun v => .tuple #[v, (lastE N).v]) mo t N.dropLast A G) := by
  have R0 := Lib.hid ((r2_start h hP mo t).alloc kZero)
  have KX := Lib.hid (show KBox (((w.alloc (rObj mo t n a g)).alloc rZero).alloc kZero) ((w.alloc (rObj mo t n a g)).alloc rZero).heap.size ⟨⟨#[]⟩, false, false⟩ from heap_alloc_new _ _)
  have hx : ((w.alloc (rObj mo t n a g)).alloc rZero).heap.size = w.heap.size + 1 + 1 := by simp
  rw [hx] at R0 KX
  have hlen := h.n.len
  have hl0 := List.length_pos_iff.2 hN
  have hle := h.n.le
  obtain ⟨m, hm⟩ : ∃ m, m = n.n - 1 := ⟨_, rfl⟩
  have e0 : decide (0 < n.n) = true := by simp; omega
  have e0' : decide (0 < (n.n : Int)) = true := by simp; omega
  have hw1 : IntKind.i64.wrap ((n.n : Int) - 1) = (m : Int) := by rw [IntWalk.i64_in _ (by omega)]; omega
  have hmn : m < n.n := by omega
  have hlast := lastE_get hN
  rw [show N.length - 1 = m by omega] at hlast
  obtain ⟨gb, o, _, hA, hg, hc1, hc2, m0, m1, m2⟩ := R0.out.rows.n.at hlast
  obtain ⟨n', hnn, s1, s2, hn'⟩ := krow_to R0.out.rows.n (p := m) (by omega)
  rw [show N.take m = N.dropLast by rw [List.dropLast_eq_take, show N.length - 1 = m by omega]] at hn'
  have HN := Lib.hid hn'
  generalize lastE N = e at *
  unfold maxLen at hc2
  clear h hP hN hx hlen hl0 hle hm hlast hnn hn'
  obtain ⟨nA, nn, nc⟩ := n
  simp only at hA hc1 s1 s2 hmn e0 e0' hw1
  subst hA
  go_enter Try.func53, Try.ntmps53
  go_upto_region 1 with fail
  generalize ((w.alloc (rObj mo t ⟨some ⟨gb, o, none⟩, nn, nc⟩ a g)).alloc rZero).alloc kZero = W at R0 KX m0 m1 m2 hg HN ⊢
  have HXN := Lib.hid (show w.heap.size < w.heap.size + 1 + 1 ∧ w.heap.size + 1 < w.heap.size + 1 + 1 from ⟨by omega, by omega⟩)
  generalize w.heap.size + 1 + 1 = x at R0 KX HXN HN ⊢
  generalize w.heap.size + 1 = q at R0 HXN HN ⊢
  obtain ⟨p, hp⟩ : ∃ p, p = w.heap.size := ⟨_, rfl⟩
  have NLX := Lib.hid (show w.heap.size ≤ x from by have := HXN.out.1; omega)
  rw [← hp] at R0 HXN HN ⊢
  clear hp
  obtain ⟨c0, c1, c2, c3, c4⟩ := R0.out.box.c
  go_upto_region 3 with fail
  have R1 := Lib.hid (R0.out.alloc (kObj e))
  have KY := Lib.hid (show KBox (W.alloc (kObj e)) W.heap.size e from heap_alloc_new _ _)
  have KX1 := Lib.hid (KX.out.below ((Below.refl W.heap.size W).alloc (Nat.le_refl _) (kObj e)))
  have NX := Lib.hid (show x ≠ p ∧ x ≠ q ∧ W.heap.size ≠ x ∧ W.heap.size ≠ p ∧ W.heap.size ≠ q from by
    have := KX.out.lt; have := R0.out.box.lt; have := R0.out.res.lt
    refine ⟨fun h => ?_, fun h => ?_, by omega, by omega, by omega⟩
    · have := HXN.out.1; omega
    · have := HXN.out.2; omega)
  have HN1 := Lib.hid (show KW (W.alloc (kObj e)) (ex (ex (wi P p q) x) W.heap.size) n' N.dropLast from (HN.out.wide fun k hk hl => ⟨hk, by omega⟩).below ((Below.refl W.heap.size W).alloc (Nat.le_refl _) (kObj e)))
  clear c0 c1 c2 c3 c4 m0 m1 m2 hg R0 KX HN
  generalize W.alloc (kObj e) = W1 at R1 KY KX1 HN1 ⊢
  generalize W.heap.size = y at R1 KY NX HN1 ⊢
  obtain ⟨c0, c1, c2, c3, c4⟩ := R1.out.box.c
  obtain ⟨_, _, f2, _, _⟩ := R1.out.box.f
  have R2' := Lib.hid (R1.out.setN HN1.out)
  have KY2 := Lib.hid (KY.out.other (z := ⟨p, 2, none⟩) NX.out.2.2.2.1 (.slice n'.A n'.n n'.c))
  have KX2 := Lib.hid (KX1.out.other (z := ⟨p, 2, none⟩) NX.out.1 (.slice n'.A n'.n n'.c))
  clear R1 KY KX1 HN1
  go_upto_region 4 with fail
  generalize W1.setCell ⟨p, 2, none⟩ (.slice n'.A n'.n n'.c) = W2 at R2' KY2 KX2 ⊢
  clear c0 c1 c2 c3 c4 f2
  obtain ⟨c0, c1, c2, c3, c4⟩ := R2'.out.box.c
  obtain ⟨y0, y1, y2⟩ := KY2.out.c
  obtain ⟨⟨k0, k1, k2, k3, k4⟩, f0, f1, f2, f3, f4⟩ := R2'.out.ten
  obtain ⟨x0, x1, x2⟩ := KX2.out.c
  obtain ⟨g0, g1, g2⟩ := KX2.out.f
  have nqx : q ≠ x := Ne.symm NX.out.2.1
  have nxq : x ≠ q := NX.out.2.1
  have nyq : y ≠ q := NX.out.2.2.2.2
  have nqy : q ≠ y := Ne.symm NX.out.2.2.2.2
  have nyx : y ≠ x := NX.out.2.2.1
  have nxy : x ≠ y := Ne.symm NX.out.2.2.1
  have npq : p ≠ q := R2'.out.ne
  have nqp : q ≠ p := Ne.symm R2'.out.ne
  have npx : p ≠ x := Ne.symm NX.out.1
  have nxp : x ≠ p := NX.out.1
  go_region
  have F := Lib.hid (R2'.out.outK (e := e) (P0 := P) (fun k hk => hk.1.1.1) KX2.out (fun h => h.1.2 rfl) NX.out.2.1 NLX.out)
  go_wp2_with fail
  refine bodyPost_ret (results_cc rfl _ _ _ ⟨q, 0, none⟩ ⟨x, 0, none⟩ _ _ rfl (load_r F.out.1) rfl (load_k F.out.2.1)) rfl ?_
  exact ⟨_, _, _, rfl, F.out.2.2.1, F.out.2.2.2⟩
set_option maxHeartbeats 1000000 in
theorem go1_A (hN0 : N = []) (hN : A ≠ []) : Calls Try.prog 53 #[rAgg mo t n a g] w (CT w P (fun v => .tuple #[v, (lastE A).v]) mo t N A.dropLast G) := by
  have R0 := Lib.hid ((r2_start h hP mo t).alloc kZero)
  have KX := Lib.hid (show KBox (((w.alloc (rObj mo t n a g)).alloc rZero).alloc kZero) ((w.alloc (rObj mo t n a g)).alloc rZero).heap.size ⟨⟨#[]⟩, false, false⟩ from heap_alloc_new _ _)
  have hx : ((w.alloc (rObj mo t n a g)).alloc rZero).heap.size = w.heap.size + 1 + 1 := by simp
  rw [hx] at R0 KX
  have hlen := h.a.len
  have hn0 : n.n = 0 := by have := h.n.len; rw [hN0] at this; exact this.symm
  have e9 : decide (0 < n.n) = false := by rw [hn0]; rfl
  have e9' : decide (0 < (n.n : Int)) = false := by rw [hn0]; rfl
  have hl0 := List.length_pos_iff.2 hN
  have hle := h.a.le
  obtain ⟨m, hm⟩ : ∃ m, m = a.n - 1 := ⟨_, rfl⟩
  have e0 : decide (0 < a.n) = true := by simp; omega
  have e0' : decide (0 < (a.n : Int)) = true := by simp; omega
  have hw1 : IntKind.i64.wrap ((a.n : Int) - 1) = (m : Int) := by rw [IntWalk.i64_in _ (by omega)]; omega
  have hmn : m < a.n := by omega
  have hlast := lastE_get hN
  rw [show A.length - 1 = m by omega] at hlast
  obtain ⟨gb, o, _, hA, hg, hc1, hc2, m0, m1, m2⟩ := R0.out.rows.a.at hlast
  obtain ⟨n', hnn, s1, s2, hn'⟩ := krow_to R0.out.rows.a (p := m) (by omega)
  rw [show A.take m = A.dropLast by rw [List.dropLast_eq_take, show A.length - 1 = m by omega]] at hn'
  have HN := Lib.hid hn'
  generalize lastE A = e at *
  unfold maxLen at hc2
  clear h hP hN hx hlen hN0 hn0 hl0 hle hm hlast hnn hn'
  obtain ⟨nA, nn, nc⟩ := a
  simp only at hA hc1 s1 s2 hmn e0 e0' hw1
  subst hA
  go_enter Try.func53, Try.ntmps53
  go_upto_region 1 with fail
  generalize ((w.alloc (rObj mo t n ⟨some ⟨gb, o, none⟩, nn, nc⟩ g)).alloc rZero).alloc kZero = W at R0 KX m0 m1 m2 hg HN ⊢
  have HXN := Lib.hid (show w.heap.size < w.heap.size + 1 + 1 ∧ w.heap.size + 1 < w.heap.size + 1 + 1 from ⟨by omega, by omega⟩)
  generalize w.heap.size + 1 + 1 = x at R0 KX HXN HN ⊢
  generalize w.heap.size + 1 = q at R0 HXN HN ⊢
  obtain ⟨p, hp⟩ : ∃ p, p = w.heap.size := ⟨_, rfl⟩
  have NLX := Lib.hid (show w.heap.size ≤ x from by have := HXN.out.1; omega)
  rw [← hp] at R0 HXN HN ⊢
  clear hp
  obtain ⟨c0, c1, c2, c3, c4⟩ := R0.out.box.c
  go_upto_region 6 with fail
  have R1 := Lib.hid (R0.out.alloc (kObj e))
  have KY := Lib.hid (show KBox (W.alloc (kObj e)) W.heap.size e from heap_alloc_new _ _)
  have KX1 := Lib.hid (KX.out.below ((Below.refl W.heap.size W).alloc (Nat.le_refl _) (kObj e)))
  have NX := Lib.hid (show x ≠ p ∧ x ≠ q ∧ W.heap.size ≠ x ∧ W.heap.size ≠ p ∧ W.heap.size ≠ q from by
    have := KX.out.lt; have := R0.out.box.lt; have := R0.out.res.lt
    refine ⟨fun h => ?_, fun h => ?_, by omega, by omega, by omega⟩
    · have := HXN.out.1; omega
    · have := HXN.out.2; omega)
  have HN1 := Lib.hid (show KW (W.alloc (kObj e)) (ex (ex (wi P p q) x) W.heap.size) n' A.dropLast from (HN.out.wide fun k hk hl => ⟨hk, by omega⟩).below ((Below.refl W.heap.size W).alloc (Nat.le_refl _) (kObj e)))
  clear c0 c1 c2 c3 c4 m0 m1 m2 hg R0 KX HN
  generalize W.alloc (kObj e) = W1 at R1 KY KX1 HN1 ⊢
  generalize W.heap.size = y at R1 KY NX HN1 ⊢
  obtain ⟨c0, c1, c2, c3, c4⟩ := R1.out.box.c
  obtain ⟨_, _, _, f2, _⟩ := R1.out.box.f
  have R2' := Lib.hid (R1.out.setA HN1.out)
  have KY2 := Lib.hid (KY.out.other (z := ⟨p, 3, none⟩) NX.out.2.2.2.1 (.slice n'.A n'.n n'.c))
  have KX2 := Lib.hid (KX1.out.other (z := ⟨p, 3, none⟩) NX.out.1 (.slice n'.A n'.n n'.c))
  clear R1 KY KX1 HN1
  go_upto_region 7 with fail
  generalize W1.setCell ⟨p, 3, none⟩ (.slice n'.A n'.n n'.c) = W2 at R2' KY2 KX2 ⊢
  clear c0 c1 c2 c3 c4 f2
  obtain ⟨c0, c1, c2, c3, c4⟩ := R2'.out.box.c
  obtain ⟨y0, y1, y2⟩ := KY2.out.c
  obtain ⟨⟨k0, k1, k2, k3, k4⟩, f0, f1, f2, f3, f4⟩ := R2'.out.ten
  obtain ⟨x0, x1, x2⟩ := KX2.out.c
  obtain ⟨g0, g1, g2⟩ := KX2.out.f
  have nqx : q ≠ x := Ne.symm NX.out.2.1
  have nxq : x ≠ q := NX.out.2.1
  have nyq : y ≠ q := NX.out.2.2.2.2
  have nqy : q ≠ y := Ne.symm NX.out.2.2.2.2
  have nyx : y ≠ x := NX.out.2.2.1
  have nxy : x ≠ y := Ne.symm NX.out.2.2.1
  have npq : p ≠ q := R2'.out.ne
  have nqp : q ≠ p := Ne.symm R2'.out.ne
  have npx : p ≠ x := Ne.symm NX.out.1
  have nxp : x ≠ p := NX.out.1
  go_region
  have F := Lib.hid (R2'.out.outK (e := e) (P0 := P) (fun k hk => hk.1.1.1) KX2.out (fun h => h.1.2 rfl) NX.out.2.1 NLX.out)
  go_wp2_with fail
  refine bodyPost_ret (results_cc rfl _ _ _ ⟨q, 0, none⟩ ⟨x, 0, none⟩ _ _ rfl (load_r F.out.1) rfl (load_k F.out.2.1)) rfl ?_
  exact ⟨_, _, _, rfl, F.out.2.2.1, F.out.2.2.2⟩
end
end Go.Proofs.Ytmnflcidcoejiaa
