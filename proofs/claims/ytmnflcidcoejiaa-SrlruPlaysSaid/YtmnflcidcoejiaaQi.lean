/- The reference's Request at a key that isn't there. -/
import Derived.Test.YtmnflcidcoejiaaQh
namespace Go.Proofs.Ytmnflcidcoejiaa
open Go.RowKit Sg

section
variable (w : World) (P : Nat → Prop) (mo t : Nat) (n a g : Sl) (N A G : List KE) (h : Rw w P n a g N A G) (hP : Cl w P) (s : ByteArray) (hs : s.size ≤ maxLen) (hm : mo ≠ 0) (hmo : mo ≤ 9223372036854775807) (ht : t ≤ 9223372036854775807) (hl : N.length + A.length ≤ 1700) (hgl : G.length ≤ 1700)
include h hP hm hl hs hgl
set_option maxHeartbeats 4000000 in
theorem rq_new_room (hit : Bool) (hh : (isK N s || isK A s) = hit) (hA : isK A s = false) (hN : isK N s = false) (hG : isK G s = false) (hrm : N.length + A.length < mo) : Calls Try.prog 12 #[rAgg mo t n a g, .string s] w (CT w P (fun v => .tuple #[v, stA hit ⟨#[]⟩ false]) mo t (⟨s, false, false⟩ :: N) A (wo G s)) := by
  have hnl := h.n.len
  have hal := h.a.len
  obtain ⟨m, hmm⟩ : ∃ m, m = N.length + A.length := ⟨_, rfl⟩
  have hwm : IntKind.i64.wrap ((n.n : Int) + (a.n : Int)) = (m : Int) := by rw [IntWalk.i64_in _ (by omega)]; omega
  have em : decide (mo ≤ m) = false := by simp; omega
  have HFL := Lib.hid (show N.length ≤ 1900 by omega)
  have HNA := Lib.hid (And.intro hl hgl)
  clear hnl hal hmm hrm
  have e9 : ((mo : Int) == 0) = false := by simp; omega
  have e8 : (mo == 0) = false := by simp; omega
  have R0 := Lib.hid (RQ.start h hP mo t)
  clear h hP
  go_enter Try.func12, Try.ntmps12
  go_upto_region 2 with fail
  generalize (((w.alloc (rObj mo t n a g)).alloc rZero).alloc (zObj false ⟨#[]⟩ false)).alloc (zObj false ⟨#[]⟩ false) = W at R0 ⊢
  generalize w.heap.size + 1 + 1 + 1 = x at R0 ⊢
  generalize w.heap.size + 1 + 1 = r at R0 ⊢
  generalize w.heap.size + 1 = q at R0 ⊢
  obtain ⟨p, hp⟩ : ∃ p, p = w.heap.size := ⟨_, rfl⟩
  rw [← hp] at R0 ⊢
  clear hp
  obtain ⟨c0, c1, c2, c3, c4⟩ := R0.out.two.box.c
  have U := Lib.hid (has_r W _ mo t n a g N A G R0.out.two.rows s)
  rw [hh] at U
  go_wp2_with fail
  refine U.out.mono ?_
  rintro e W1 ⟨rfl, B1⟩
  have R1 := Lib.hid ((R0.out.below B1).set0 hit)
  obtain ⟨x0, _, _⟩ := (R0.out.below B1).stp.c
  obtain ⟨g0, _, _⟩ := (R0.out.below B1).stp.f
  clear c0 c1 c2 c3 c4 B1 R0 U
  go_upto_region 3 with fail
  clear x0 g0
  generalize W1.setCell ⟨x, 0, none⟩ (.bool hit) = W2 at R1 ⊢
  obtain ⟨c0, c1, c2, c3, c4⟩ := R1.out.two.box.c
  have V := find_any _ _ a A s R1.out.two.rows.a
  rw [hA] at V
  have V := Lib.hid V
  go_wp2_with fail
  refine V.out.mono ?_
  rintro e W3 ⟨rfl, B3⟩
  have b4 := B3.trans (((Below.refl W3.heap.size W3).alloc (Nat.le_refl _) (kObj (fk A s))).mono B3.size)
  have R2 := Lib.hid (R1.out.below b4)
  have KY := Lib.hid (show KBox (W3.alloc (kObj (fk A s))) W3.heap.size (fk A s) from heap_alloc_new _ _)
  have NY := Lib.hid (show W3.heap.size ≠ p ∧ W3.heap.size ≠ x from by have := (R1.out.below B3).two.box.lt; have := (R1.out.below B3).stp.lt; omega)
  clear c0 c1 c2 c3 c4 B3 b4 V R1
  go_upto_region 9 with fail
  generalize W3.alloc (kObj (fk A s)) = W4 at R2 KY ⊢
  generalize W3.heap.size = y at KY NY ⊢
  have R1 := Lib.hid R2.out
  clear R2
  obtain ⟨c0, c1, c2, c3, c4⟩ := R1.out.two.box.c
  clear KY NY
  have V := find_any _ _ n N s R1.out.two.rows.n
  rw [hN] at V
  have V := Lib.hid V
  go_wp2_with fail
  refine V.out.mono ?_
  rintro e W3 ⟨rfl, B3⟩
  have b4 := B3.trans (((Below.refl W3.heap.size W3).alloc (Nat.le_refl _) (kObj (fk N s))).mono B3.size)
  have R2 := Lib.hid (R1.out.below b4)
  have KY := Lib.hid (show KBox (W3.alloc (kObj (fk N s))) W3.heap.size (fk N s) from heap_alloc_new _ _)
  have NY := Lib.hid (show W3.heap.size ≠ p ∧ W3.heap.size ≠ x from by have := (R1.out.below B3).two.box.lt; have := (R1.out.below B3).stp.lt; omega)
  clear c0 c1 c2 c3 c4 B3 b4 V R1
  go_upto_region 15 with fail
  generalize W3.alloc (kObj (fk N s)) = W4 at R2 KY ⊢
  generalize W3.heap.size = y at KY NY ⊢
  have R1 := Lib.hid R2.out
  clear R2
  obtain ⟨c0, c1, c2, c3, c4⟩ := R1.out.two.box.c
  clear KY NY
  have V := find_any _ _ g G s R1.out.two.rows.g
  rw [hG] at V
  have V := Lib.hid V
  go_wp2_with fail
  refine V.out.mono ?_
  rintro e W3 ⟨rfl, B3⟩
  have b4 := B3.trans (((Below.refl W3.heap.size W3).alloc (Nat.le_refl _) (kObj (fk G s))).mono B3.size)
  have R2 := Lib.hid (R1.out.below b4)
  have KY := Lib.hid (show KBox (W3.alloc (kObj (fk G s))) W3.heap.size (fk G s) from heap_alloc_new _ _)
  have NY := Lib.hid (show W3.heap.size ≠ p ∧ W3.heap.size ≠ x from by have := (R1.out.below B3).two.box.lt; have := (R1.out.below B3).stp.lt; omega)
  clear c0 c1 c2 c3 c4 B3 b4 V R1
  go_upto_region 16 with fail
  generalize W3.alloc (kObj (fk G s)) = W4 at R2 KY ⊢
  generalize W3.heap.size = y at KY NY ⊢
  have R1 := Lib.hid R2.out
  clear R2
  obtain ⟨c0, c1, c2, c3, c4⟩ := R1.out.two.box.c
  clear KY NY
  go_upto_region 18 with fail
  clear c0 c1 c2 c3 c4
  obtain ⟨c0, c1, c2, c3, c4⟩ := R1.out.two.box.c
  have U := Lib.hid (without_any _ _ g G s R1.out.two.rows.g (by omega) R1.out.two.cl)
  go_wp2_with fail
  refine U.out.mono ?_
  rintro e V1 ⟨n9, rfl, k9, B9⟩
  have R2 := Lib.hid ((R1.out.below B9).setG k9)
  obtain ⟨d0, d1, d2, d3, d4⟩ := (R1.out.below B9).two.box.c
  obtain ⟨f0, f1, f2, f3, f4⟩ := (R1.out.below B9).two.box.f
  clear c0 c1 c2 c3 c4 k9 B9 R1 U
  go_upto_region 19 with fail
  clear d0 d1 d2 d3 d4 f0 f1 f2 f3 f4
  generalize V1.setCell ⟨p, 4, none⟩ (.slice n9.A n9.n n9.c) = V2 at R2 ⊢
  have R1 := Lib.hid R2.out
  clear R2
  obtain ⟨c0, c1, c2, c3, c4⟩ := R1.out.two.box.c
  go_upto_region 24 with fail
  clear c0 c1 c2 c3 c4
  obtain ⟨c0, c1, c2, c3, c4⟩ := R1.out.two.box.c
  have U := Lib.hid (front_k _ _ n _ ⟨s, false, false⟩ R1.out.two.rows.n HFL.out hs R1.out.two.cl)
  go_wp2_with fail
  refine U.out.mono ?_
  rintro e V6 ⟨n8, rfl, k8, B8⟩
  have R2 := Lib.hid ((R1.out.below B8).setN k8)
  obtain ⟨d0, d1, d2, d3, d4⟩ := (R1.out.below B8).two.box.c
  obtain ⟨f0, f1, f2, f3, f4⟩ := (R1.out.below B8).two.box.f
  clear c0 c1 c2 c3 c4 k8 B8 R1 U
  go_upto_region 25 with fail
  clear d0 d1 d2 d3 d4 f0 f1 f2 f3 f4
  generalize V6.setCell ⟨p, 2, none⟩ (.slice n8.A n8.n n8.c) = V7 at R2 ⊢
  have R1 := Lib.hid R2.out
  clear R2
  (try go_upto_region 25 with fail)
  obtain ⟨c0, c1, c2, c3, c4⟩ := R1.out.two.box.c
  obtain ⟨x0, x1, x2⟩ := R1.out.stp.c
  obtain ⟨⟨k0, k1, k2, k3, k4⟩, f0, f1, f2, f3, f4⟩ := R1.out.two.ten
  obtain ⟨r0, r1, r2⟩ := R1.out.res.c
  obtain ⟨g0, g1, g2'⟩ := R1.out.res.f
  obtain ⟨nrp, nrq, nxp, nxq, nrx⟩ := R1.out.ne
  have npq : p ≠ q := R1.out.two.ne
  have nqp : q ≠ p := Ne.symm npq
  have npr : p ≠ r := Ne.symm nrp
  have nqr : q ≠ r := Ne.symm nrq
  have npx : p ≠ x := Ne.symm nxp
  have nqx : q ≠ x := Ne.symm nxq
  have nxr : x ≠ r := Ne.symm nrx
  go_region
  have F := Lib.hid (R1.out.out0 (P0 := P) (fun k hk => hk.1.1.1))
  go_wp2_with fail
  (try simp only [Exit.inBlock, Exit.then])
  refine bodyPost_ret (results_cc rfl _ _ _ ⟨q, 0, none⟩ ⟨r, 0, none⟩ _ _ rfl (load_r (F.out.1.below (below_drew _))) rfl (load_z (F.out.2.1.below (below_drew _)))) rfl ?_
  exact ⟨_, _, _, rfl, F.out.2.2.1.drew, F.out.2.2.2.trans ((below_drew _).mono F.out.2.2.2.size)⟩
include hmo
set_option maxHeartbeats 4000000 in
theorem rq_new_full (hit : Bool) (hh : (isK N s || isK A s) = hit) (hA : isK A s = false) (hN : isK N s = false) (hG : isK G s = false) (hrm : mo ≤ N.length + A.length) : Calls Try.prog 12 #[rAgg mo t n a g, .string s] w (CT w P (fun v => .tuple #[v, stA hit (vK N A).s true]) mo t (⟨s, false, false⟩ :: g1N N) (g1A N A) (((⟨(vK N A).s, (vK N A).o, false⟩ : KE) :: wo G s).take mo)) := by
  have hnl := h.n.len
  have hal := h.a.len
  obtain ⟨m, hmm⟩ : ∃ m, m = N.length + A.length := ⟨_, rfl⟩
  have hwm : IntKind.i64.wrap ((n.n : Int) + (a.n : Int)) = (m : Int) := by rw [IntWalk.i64_in _ (by omega)]; omega
  have em : decide (mo ≤ m) = true := by simp; omega
  have HEV := Lib.hid (show N ++ A ≠ [] from fun h => by have := congrArg List.length h; rw [List.length_append] at this; simp only [List.length_nil] at this; omega)
  have HML := Lib.hid (show mo ≤ 9223372036854775807 by omega)
  have HGL := Lib.hid (show (wo G s).length ≤ 1800 from by have := wo_le G s; omega)
  have HFL := Lib.hid (show (g1N N).length ≤ 1900 from by unfold g1N; rw [List.length_dropLast]; omega)
  have HNA := Lib.hid (And.intro hl hgl)
  clear hnl hal hmm hrm
  have e9 : ((mo : Int) == 0) = false := by simp; omega
  have e8 : (mo == 0) = false := by simp; omega
  have R0 := Lib.hid (RQ.start h hP mo t)
  clear h hP
  go_enter Try.func12, Try.ntmps12
  go_upto_region 2 with fail
  generalize (((w.alloc (rObj mo t n a g)).alloc rZero).alloc (zObj false ⟨#[]⟩ false)).alloc (zObj false ⟨#[]⟩ false) = W at R0 ⊢
  generalize w.heap.size + 1 + 1 + 1 = x at R0 ⊢
  generalize w.heap.size + 1 + 1 = r at R0 ⊢
  generalize w.heap.size + 1 = q at R0 ⊢
  obtain ⟨p, hp⟩ : ∃ p, p = w.heap.size := ⟨_, rfl⟩
  rw [← hp] at R0 ⊢
  clear hp
  obtain ⟨c0, c1, c2, c3, c4⟩ := R0.out.two.box.c
  have U := Lib.hid (has_r W _ mo t n a g N A G R0.out.two.rows s)
  rw [hh] at U
  go_wp2_with fail
  refine U.out.mono ?_
  rintro e W1 ⟨rfl, B1⟩
  have R1 := Lib.hid ((R0.out.below B1).set0 hit)
  obtain ⟨x0, _, _⟩ := (R0.out.below B1).stp.c
  obtain ⟨g0, _, _⟩ := (R0.out.below B1).stp.f
  clear c0 c1 c2 c3 c4 B1 R0 U
  go_upto_region 3 with fail
  clear x0 g0
  generalize W1.setCell ⟨x, 0, none⟩ (.bool hit) = W2 at R1 ⊢
  obtain ⟨c0, c1, c2, c3, c4⟩ := R1.out.two.box.c
  have V := find_any _ _ a A s R1.out.two.rows.a
  rw [hA] at V
  have V := Lib.hid V
  go_wp2_with fail
  refine V.out.mono ?_
  rintro e W3 ⟨rfl, B3⟩
  have b4 := B3.trans (((Below.refl W3.heap.size W3).alloc (Nat.le_refl _) (kObj (fk A s))).mono B3.size)
  have R2 := Lib.hid (R1.out.below b4)
  have KY := Lib.hid (show KBox (W3.alloc (kObj (fk A s))) W3.heap.size (fk A s) from heap_alloc_new _ _)
  have NY := Lib.hid (show W3.heap.size ≠ p ∧ W3.heap.size ≠ x from by have := (R1.out.below B3).two.box.lt; have := (R1.out.below B3).stp.lt; omega)
  clear c0 c1 c2 c3 c4 B3 b4 V R1
  go_upto_region 9 with fail
  generalize W3.alloc (kObj (fk A s)) = W4 at R2 KY ⊢
  generalize W3.heap.size = y at KY NY ⊢
  have R1 := Lib.hid R2.out
  clear R2
  obtain ⟨c0, c1, c2, c3, c4⟩ := R1.out.two.box.c
  clear KY NY
  have V := find_any _ _ n N s R1.out.two.rows.n
  rw [hN] at V
  have V := Lib.hid V
  go_wp2_with fail
  refine V.out.mono ?_
  rintro e W3 ⟨rfl, B3⟩
  have b4 := B3.trans (((Below.refl W3.heap.size W3).alloc (Nat.le_refl _) (kObj (fk N s))).mono B3.size)
  have R2 := Lib.hid (R1.out.below b4)
  have KY := Lib.hid (show KBox (W3.alloc (kObj (fk N s))) W3.heap.size (fk N s) from heap_alloc_new _ _)
  have NY := Lib.hid (show W3.heap.size ≠ p ∧ W3.heap.size ≠ x from by have := (R1.out.below B3).two.box.lt; have := (R1.out.below B3).stp.lt; omega)
  clear c0 c1 c2 c3 c4 B3 b4 V R1
  go_upto_region 15 with fail
  generalize W3.alloc (kObj (fk N s)) = W4 at R2 KY ⊢
  generalize W3.heap.size = y at KY NY ⊢
  have R1 := Lib.hid R2.out
  clear R2
  obtain ⟨c0, c1, c2, c3, c4⟩ := R1.out.two.box.c
  clear KY NY
  have V := find_any _ _ g G s R1.out.two.rows.g
  rw [hG] at V
  have V := Lib.hid V
  go_wp2_with fail
  refine V.out.mono ?_
  rintro e W3 ⟨rfl, B3⟩
  have b4 := B3.trans (((Below.refl W3.heap.size W3).alloc (Nat.le_refl _) (kObj (fk G s))).mono B3.size)
  have R2 := Lib.hid (R1.out.below b4)
  have KY := Lib.hid (show KBox (W3.alloc (kObj (fk G s))) W3.heap.size (fk G s) from heap_alloc_new _ _)
  have NY := Lib.hid (show W3.heap.size ≠ p ∧ W3.heap.size ≠ x from by have := (R1.out.below B3).two.box.lt; have := (R1.out.below B3).stp.lt; omega)
  clear c0 c1 c2 c3 c4 B3 b4 V R1
  go_upto_region 16 with fail
  generalize W3.alloc (kObj (fk G s)) = W4 at R2 KY ⊢
  generalize W3.heap.size = y at KY NY ⊢
  have R1 := Lib.hid R2.out
  clear R2
  obtain ⟨c0, c1, c2, c3, c4⟩ := R1.out.two.box.c
  clear KY NY
  go_upto_region 18 with fail
  clear c0 c1 c2 c3 c4
  obtain ⟨c0, c1, c2, c3, c4⟩ := R1.out.two.box.c
  have U := Lib.hid (without_any _ _ g G s R1.out.two.rows.g (by omega) R1.out.two.cl)
  go_wp2_with fail
  refine U.out.mono ?_
  rintro e V1 ⟨n9, rfl, k9, B9⟩
  have R2 := Lib.hid ((R1.out.below B9).setG k9)
  obtain ⟨d0, d1, d2, d3, d4⟩ := (R1.out.below B9).two.box.c
  obtain ⟨f0, f1, f2, f3, f4⟩ := (R1.out.below B9).two.box.f
  clear c0 c1 c2 c3 c4 k9 B9 R1 U
  go_upto_region 19 with fail
  clear d0 d1 d2 d3 d4 f0 f1 f2 f3 f4
  generalize V1.setCell ⟨p, 4, none⟩ (.slice n9.A n9.n n9.c) = V2 at R2 ⊢
  have R1 := Lib.hid R2.out
  clear R2
  obtain ⟨c0, c1, c2, c3, c4⟩ := R1.out.two.box.c
  go_upto_region 20 with fail
  clear c0 c1 c2 c3 c4
  obtain ⟨c0, c1, c2, c3, c4⟩ := R1.out.two.box.c
  have U := Lib.hid (evict_r _ _ mo t _ _ _ _ _ _ R1.out.two.rows R1.out.two.cl HEV.out HML.out HGL.out)
  go_wp2_with fail
  refine U.out.mono ?_
  rintro e V3 ⟨n3, a3, g3, rfl, RW3, B3⟩
  have r1 := R1.out.below B3
  have R2 := Lib.hid ((r1.setAll (mo' := mo) (t' := t) RW3).set1 (vK N A).s)
  obtain ⟨d0, d1, d2, d3, d4⟩ := r1.two.box.c
  obtain ⟨f0, f1, f2, f3, f4⟩ := r1.two.box.f
  obtain ⟨_, x1, _⟩ := r1.stp.c
  obtain ⟨_, h1, _⟩ := r1.stp.f
  have npx : p ≠ x := Ne.symm r1.ne.2.2.1
  have nxp : x ≠ p := r1.ne.2.2.1
  clear c0 c1 c2 c3 c4 RW3 B3 R1 U r1
  go_upto_region 21 with fail
  clear d0 d1 d2 d3 d4 f0 f1 f2 f3 f4 x1 h1 npx nxp
  dsimp only [put5] at R2
  generalize (((((V3.setCell ⟨p, 0, none⟩ (.int .i64 (mo : Int))).setCell ⟨p, 1, none⟩ (.int .i64 (t : Int))).setCell ⟨p, 2, none⟩ (.slice n3.A n3.n n3.c)).setCell ⟨p, 3, none⟩ (.slice a3.A a3.n a3.c)).setCell ⟨p, 4, none⟩ (.slice g3.A g3.n g3.c)).setCell ⟨x, 1, none⟩ (.string (vK N A).s) = V4 at R2 ⊢
  obtain ⟨_, _, x2⟩ := R2.out.stp.c
  obtain ⟨_, _, h2⟩ := R2.out.stp.f
  have R3 := Lib.hid (R2.out.set2 true)
  clear R2
  go_upto_region 22 with fail
  clear x2 h2
  generalize V4.setCell ⟨x, 2, none⟩ (.bool true) = V5 at R3 ⊢
  have R1 := Lib.hid R3.out
  clear R3
  go_upto_region 24 with fail
  obtain ⟨c0, c1, c2, c3, c4⟩ := R1.out.two.box.c
  have U := Lib.hid (front_k _ _ n3 _ ⟨s, false, false⟩ R1.out.two.rows.n HFL.out hs R1.out.two.cl)
  go_wp2_with fail
  refine U.out.mono ?_
  rintro e V6 ⟨n8, rfl, k8, B8⟩
  have R2 := Lib.hid ((R1.out.below B8).setN k8)
  obtain ⟨d0, d1, d2, d3, d4⟩ := (R1.out.below B8).two.box.c
  obtain ⟨f0, f1, f2, f3, f4⟩ := (R1.out.below B8).two.box.f
  clear c0 c1 c2 c3 c4 k8 B8 R1 U
  go_upto_region 25 with fail
  clear d0 d1 d2 d3 d4 f0 f1 f2 f3 f4
  generalize V6.setCell ⟨p, 2, none⟩ (.slice n8.A n8.n n8.c) = V7 at R2 ⊢
  have R1 := Lib.hid R2.out
  clear R2
  (try go_upto_region 25 with fail)
  obtain ⟨c0, c1, c2, c3, c4⟩ := R1.out.two.box.c
  obtain ⟨x0, x1, x2⟩ := R1.out.stp.c
  obtain ⟨⟨k0, k1, k2, k3, k4⟩, f0, f1, f2, f3, f4⟩ := R1.out.two.ten
  obtain ⟨r0, r1, r2⟩ := R1.out.res.c
  obtain ⟨g0, g1, g2'⟩ := R1.out.res.f
  obtain ⟨nrp, nrq, nxp, nxq, nrx⟩ := R1.out.ne
  have npq : p ≠ q := R1.out.two.ne
  have nqp : q ≠ p := Ne.symm npq
  have npr : p ≠ r := Ne.symm nrp
  have nqr : q ≠ r := Ne.symm nrq
  have npx : p ≠ x := Ne.symm nxp
  have nqx : q ≠ x := Ne.symm nxq
  have nxr : x ≠ r := Ne.symm nrx
  go_region
  have F := Lib.hid (R1.out.out0 (P0 := P) (fun k hk => hk.1.1.1))
  go_wp2_with fail
  (try simp only [Exit.inBlock, Exit.then])
  refine bodyPost_ret (results_cc rfl _ _ _ ⟨q, 0, none⟩ ⟨r, 0, none⟩ _ _ rfl (load_r (F.out.1.below (below_drew _))) rfl (load_z (F.out.2.1.below (below_drew _)))) rfl ?_
  exact ⟨_, _, _, rfl, F.out.2.2.1.drew, F.out.2.2.2.trans ((below_drew _).mono F.out.2.2.2.size)⟩
end
end Go.Proofs.Ytmnflcidcoejiaa
