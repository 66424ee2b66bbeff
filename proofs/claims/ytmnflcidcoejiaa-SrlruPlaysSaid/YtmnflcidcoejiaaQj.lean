/- The reference's Request at a key that isn't there. -/
import Derived.Test.YtmnflcidcoejiaaQi
namespace Go.Proofs.Ytmnflcidcoejiaa
open Go.RowKit Sg

section
variable (w : World) (P : Nat → Prop) (mo t : Nat) (n a g : Sl) (N A G : List KE) (h : Rw w P n a g N A G) (hP : Cl w P) (s : ByteArray) (hs : s.size ≤ maxLen) (hm : mo ≠ 0) (hmo : mo ≤ 9223372036854775807) (ht : t ≤ 9223372036854775807) (hl : N.length + A.length ≤ 1700) (hgl : G.length ≤ 1700)
include h hP hm hl hs hgl
include ht
set_option maxHeartbeats 8000000 in
theorem rq_ghost_room (hit : Bool) (hh : (isK N s || isK A s) = hit) (hA : isK A s = false) (hN : isK N s = false) (hG : isK G s = true) (hrm : N.length + A.length < mo) : Calls Try.prog 12 #[rAgg mo t n a g, .string s] w (CT w P (fun v => .tuple #[v, stA hit ⟨#[]⟩ false]) mo (gT t true (fk G s).o) (agN (gT t true (fk G s).o) N (⟨s, true, false⟩ :: A)) (agA (gT t true (fk G s).o) (⟨s, true, false⟩ :: A)) (wo G s)) := by
  obtain ⟨u, hu⟩ : ∃ u, u = gT t true (fk G s).o := ⟨_, rfl⟩
  rw [← hu]
  have HU := Lib.hid hu
  clear hu
  have hnl := h.n.len
  have hal := h.a.len
  obtain ⟨m, hmm⟩ : ∃ m, m = N.length + A.length := ⟨_, rfl⟩
  have hwm : IntKind.i64.wrap ((n.n : Int) + (a.n : Int)) = (m : Int) := by rw [IntWalk.i64_in _ (by omega)]; omega
  have em : decide (mo ≤ m) = false := by simp; omega
  have HWL := Lib.hid (show N.length + A.length ≤ 1800 by omega)
  have HNA := Lib.hid (And.intro hl hgl)
  clear hnl hal hmm hrm
  have e9 : ((mo : Int) == 0) = false := by simp; omega
  have e8 : (mo == 0) = false := by simp; omega
  have R0 := Lib.hid (RQ.start h hP mo t)
  clear h hP
  go_enter Try.func12, Try.ntmps12
  go_upto_region 2 with fail
  generalize (((w.alloc (rObj mo t n a g)).alloc rZero).alloc (zObj false ⟨#[]⟩ false)).alloc (zObj false ⟨#[]⟩ false) = W at R0 ⊢
  generalize w.heap.size + 1 + 1 + 1 = x at R0 ⊢
  generalize w.heap.size + 1 + 1 = r at R0 ⊢
  generalize w.heap.size + 1 = q at R0 ⊢
  obtain ⟨p, hp⟩ : ∃ p, p = w.heap.size := ⟨_, rfl⟩
  rw [← hp] at R0 ⊢
  clear hp
  obtain ⟨c0, c1, c2, c3, c4⟩ := R0.out.two.box.c
  have U := Lib.hid (has_r W _ mo t n a g N A G R0.out.two.rows s)
  rw [hh] at U
  go_wp2_with fail
  refine U.out.mono ?_
  rintro e W1 ⟨rfl, B1⟩
  have R1 := Lib.hid ((R0.out.below B1).set0 hit)
  obtain ⟨x0, _, _⟩ := (R0.out.below B1).stp.c
  obtain ⟨g0, _, _⟩ := (R0.out.below B1).stp.f
  clear c0 c1 c2 c3 c4 B1 R0 U
  go_upto_region 3 with fail
  clear x0 g0
  generalize W1.setCell ⟨x, 0, none⟩ (.bool hit) = W2 at R1 ⊢
  obtain ⟨c0, c1, c2, c3, c4⟩ := R1.out.two.box.c
  have V := find_any _ _ a A s R1.out.two.rows.a
  rw [hA] at V
  have V := Lib.hid V
  go_wp2_with fail
  refine V.out.mono ?_
  rintro e W3 ⟨rfl, B3⟩
  have b4 := B3.trans (((Below.refl W3.heap.size W3).alloc (Nat.le_refl _) (kObj (fk A s))).mono B3.size)
  have R2 := Lib.hid (R1.out.below b4)
  have KY := Lib.hid (show KBox (W3.alloc (kObj (fk A s))) W3.heap.size (fk A s) from heap_alloc_new _ _)
  have NY := Lib.hid (show W3.heap.size ≠ p ∧ W3.heap.size ≠ x from by have := (R1.out.below B3).two.box.lt; have := (R1.out.below B3).stp.lt; omega)
  clear c0 c1 c2 c3 c4 B3 b4 V R1
  go_upto_region 9 with fail
  generalize W3.alloc (kObj (fk A s)) = W4 at R2 KY ⊢
  generalize W3.heap.size = y at KY NY ⊢
  have R1 := Lib.hid R2.out
  clear R2
  obtain ⟨c0, c1, c2, c3, c4⟩ := R1.out.two.box.c
  clear KY NY
  have V := find_any _ _ n N s R1.out.two.rows.n
  rw [hN] at V
  have V := Lib.hid V
  go_wp2_with fail
  refine V.out.mono ?_
  rintro e W3 ⟨rfl, B3⟩
  have b4 := B3.trans (((Below.refl W3.heap.size W3).alloc (Nat.le_refl _) (kObj (fk N s))).mono B3.size)
  have R2 := Lib.hid (R1.out.below b4)
  have KY := Lib.hid (show KBox (W3.alloc (kObj (fk N s))) W3.heap.size (fk N s) from heap_alloc_new _ _)
  have NY := Lib.hid (show W3.heap.size ≠ p ∧ W3.heap.size ≠ x from by have := (R1.out.below B3).two.box.lt; have := (R1.out.below B3).stp.lt; omega)
  clear c0 c1 c2 c3 c4 B3 b4 V R1
  go_upto_region 15 with fail
  generalize W3.alloc (kObj (fk N s)) = W4 at R2 KY ⊢
  generalize W3.heap.size = y at KY NY ⊢
  have R1 := Lib.hid R2.out
  clear R2
  obtain ⟨c0, c1, c2, c3, c4⟩ := R1.out.two.box.c
  clear KY NY
  have V := find_any _ _ g G s R1.out.two.rows.g
  rw [hG] at V
  have V := Lib.hid V
  go_wp2_with fail
  refine V.out.mono ?_
  rintro e W3 ⟨rfl, B3⟩
  have b4 := B3.trans (((Below.refl W3.heap.size W3).alloc (Nat.le_refl _) (kObj (fk G s))).mono B3.size)
  have R2 := Lib.hid (R1.out.below b4)
  have KY := Lib.hid (show KBox (W3.alloc (kObj (fk G s))) W3.heap.size (fk G s) from heap_alloc_new _ _)
  have NY := Lib.hid (show W3.heap.size ≠ p ∧ W3.heap.size ≠ x from by have := (R1.out.below B3).two.box.lt; have := (R1.out.below B3).stp.lt; omega)
  clear c0 c1 c2 c3 c4 B3 b4 V R1
  go_upto_region 16 with fail
  generalize W3.alloc (kObj (fk G s)) = W4 at R2 KY ⊢
  generalize W3.heap.size = y at KY NY ⊢
  have R1 := Lib.hid R2.out
  clear R2
  obtain ⟨c0, c1, c2, c3, c4⟩ := R1.out.two.box.c
  obtain ⟨_, y1, _⟩ := KY.out.c
  cases hd : (fk G s).o with
  | true =>
    have hu : u = t := by have := HU.out; rw [hd] at this; unfold gT at this; rwa [if_neg (fun h => by cases h.2.1)] at this
    rw [hd] at y1
    clear KY NY HU hd
    subst hu
    go_upto_region 18 with fail
    clear c0 c1 c2 c3 c4 y1
    obtain ⟨c0, c1, c2, c3, c4⟩ := R1.out.two.box.c
    have U := Lib.hid (without_any _ _ g G s R1.out.two.rows.g (by omega) R1.out.two.cl)
    go_wp2_with fail
    refine U.out.mono ?_
    rintro e V1 ⟨n9, rfl, k9, B9⟩
    have R2 := Lib.hid ((R1.out.below B9).setG k9)
    obtain ⟨d0, d1, d2, d3, d4⟩ := (R1.out.below B9).two.box.c
    obtain ⟨f0, f1, f2, f3, f4⟩ := (R1.out.below B9).two.box.f
    clear c0 c1 c2 c3 c4 k9 B9 R1 U
    go_upto_region 19 with fail
    clear d0 d1 d2 d3 d4 f0 f1 f2 f3 f4
    generalize V1.setCell ⟨p, 4, none⟩ (.slice n9.A n9.n n9.c) = V2 at R2 ⊢
    have R1 := Lib.hid R2.out
    clear R2
    obtain ⟨c0, c1, c2, c3, c4⟩ := R1.out.two.box.c
    go_upto_region 23 with fail
    clear c0 c1 c2 c3 c4
    obtain ⟨c0, c1, c2, c3, c4⟩ := (R1.out.below (below_drew _)).two.box.c
    obtain ⟨x0, x1, x2⟩ := (R1.out.below (below_drew _)).stp.c
    obtain ⟨nrp, nrq, nxp, nxq, nrx⟩ := R1.out.ne
    have npq : p ≠ q := R1.out.two.ne
    have nqp : q ≠ p := Ne.symm npq
    have npr : p ≠ r := Ne.symm nrp
    have nqr : q ≠ r := Ne.symm nrq
    have npx : p ≠ x := Ne.symm nxp
    have nqx : q ≠ x := Ne.symm nxq
    have nxr : x ≠ r := Ne.symm nrx
    have U := Lib.hid (again_r _ _ mo u _ _ _ _ _ _ (R1.out.below (below_drew _)).two.rows (R1.out.below (below_drew _)).two.cl s hs HWL.out)
    have R2 := Lib.hid (R1.out.below (below_drew _))
    clear R1
    go_region_held3 (fun w' => w'.cell? ⟨p, 0, none⟩ = some (.int .i64 (mo : Int)) ∧ w'.cell? ⟨p, 1, none⟩ = some (.int .i64 (u : Int)) ∧ w'.cell? ⟨p, 2, none⟩ = some (.slice n.A n.n n.c) ∧ w'.cell? ⟨p, 3, none⟩ = some (.slice a.A a.n a.c) ∧ w'.cell? ⟨p, 4, none⟩ = some (.slice n9.A n9.n n9.c) ∧ w'.cell? ⟨x, 0, none⟩ = some (.bool hit) ∧ w'.cell? ⟨x, 1, none⟩ = some (.string ⟨#[]⟩) ∧ w'.cell? ⟨x, 2, none⟩ = some (.bool false)) (first | (with_reducible exact ⟨z0, z1, z2, z3, z4, z5, z6, z7⟩) | (with_reducible exact ⟨c0, c1, c2, c3, c4, x0, x1, x2⟩) | go_keep)
      ((go_at_call 39; refine U.out.mono ?_; rintro e V5 ⟨n4, a4, g4, rfl, RW4, B4⟩; have T4 := Lib.hid (And.intro (R2.out.below B4) RW4); obtain ⟨z0, z1, z2, z3, z4⟩ := T4.out.1.two.box.c; obtain ⟨z5, z6, z7⟩ := T4.out.1.stp.c; obtain ⟨⟨k0, k1, k2, k3, k4⟩, f0, f1, f2, f3, f4⟩ := T4.out.1.two.ten; obtain ⟨r0, r1, r2⟩ := T4.out.1.res.c; obtain ⟨g0, g1, g2'⟩ := T4.out.1.res.f; clear RW4 B4))
    all_goals
      have F := Lib.hid (T4.out.1.out (mo' := mo) (t' := u) (P0 := P) (fun k hk => hk.1.1.1) T4.out.2)
      go_wp2_with fail
      (try simp only [Exit.inBlock, Exit.then])
      refine bodyPost_ret (results_cc rfl _ _ _ ⟨q, 0, none⟩ ⟨r, 0, none⟩ _ _ rfl (load_r F.out.1) rfl (load_z F.out.2.1)) rfl ?_
      exact ⟨_, _, _, rfl, F.out.2.2.1, F.out.2.2.2⟩
  | false =>
    by_cases htm : 1 < t
    · have hu : u = t - 1 := by have := HU.out; rw [hd] at this; unfold gT at this; rwa [if_pos ⟨rfl, rfl, htm⟩] at this
      have e1 : decide ((1 : Int) < (t : Int)) = true := by simp; omega
      have e1' : decide (1 < t) = true := by simp; omega
      have hw1 : IntKind.i64.wrap ((t : Int) - 1) = (u : Int) := by rw [IntWalk.i64_in _ (by omega)]; omega
      have R2 := Lib.hid (R1.out.setT u)
      obtain ⟨_, f1, _, _, _⟩ := R1.out.two.box.f
      rw [hd] at y1
      clear htm hu R1 KY NY HU hd
      go_upto_region 18 with fail
      clear c0 c1 c2 c3 c4 y1 f1 e1 e1' hw1
      generalize W4.setCell ⟨p, 1, none⟩ (.int .i64 (u : Int)) = W5 at R2 ⊢
      have R1 := Lib.hid R2.out
      clear R2
      obtain ⟨c0, c1, c2, c3, c4⟩ := R1.out.two.box.c
      have U := Lib.hid (without_any _ _ g G s R1.out.two.rows.g (by omega) R1.out.two.cl)
      go_wp2_with fail
      refine U.out.mono ?_
      rintro e V1 ⟨n9, rfl, k9, B9⟩
      have R2 := Lib.hid ((R1.out.below B9).setG k9)
      obtain ⟨d0, d1, d2, d3, d4⟩ := (R1.out.below B9).two.box.c
      obtain ⟨f0, f1, f2, f3, f4⟩ := (R1.out.below B9).two.box.f
      clear c0 c1 c2 c3 c4 k9 B9 R1 U
      go_upto_region 19 with fail
      clear d0 d1 d2 d3 d4 f0 f1 f2 f3 f4
      generalize V1.setCell ⟨p, 4, none⟩ (.slice n9.A n9.n n9.c) = V2 at R2 ⊢
      have R1 := Lib.hid R2.out
      clear R2
      obtain ⟨c0, c1, c2, c3, c4⟩ := R1.out.two.box.c
      go_upto_region 23 with fail
      clear c0 c1 c2 c3 c4
      obtain ⟨c0, c1, c2, c3, c4⟩ := (R1.out.below (below_drew _)).two.box.c
      obtain ⟨x0, x1, x2⟩ := (R1.out.below (below_drew _)).stp.c
      obtain ⟨nrp, nrq, nxp, nxq, nrx⟩ := R1.out.ne
      have npq : p ≠ q := R1.out.two.ne
      have nqp : q ≠ p := Ne.symm npq
      have npr : p ≠ r := Ne.symm nrp
      have nqr : q ≠ r := Ne.symm nrq
      have npx : p ≠ x := Ne.symm nxp
      have nqx : q ≠ x := Ne.symm nxq
      have nxr : x ≠ r := Ne.symm nrx
      have U := Lib.hid (again_r _ _ mo u _ _ _ _ _ _ (R1.out.below (below_drew _)).two.rows (R1.out.below (below_drew _)).two.cl s hs HWL.out)
      have R2 := Lib.hid (R1.out.below (below_drew _))
      clear R1
      go_region_held3 (fun w' => w'.cell? ⟨p, 0, none⟩ = some (.int .i64 (mo : Int)) ∧ w'.cell? ⟨p, 1, none⟩ = some (.int .i64 (u : Int)) ∧ w'.cell? ⟨p, 2, none⟩ = some (.slice n.A n.n n.c) ∧ w'.cell? ⟨p, 3, none⟩ = some (.slice a.A a.n a.c) ∧ w'.cell? ⟨p, 4, none⟩ = some (.slice n9.A n9.n n9.c) ∧ w'.cell? ⟨x, 0, none⟩ = some (.bool hit) ∧ w'.cell? ⟨x, 1, none⟩ = some (.string ⟨#[]⟩) ∧ w'.cell? ⟨x, 2, none⟩ = some (.bool false)) (first | (with_reducible exact ⟨z0, z1, z2, z3, z4, z5, z6, z7⟩) | (with_reducible exact ⟨c0, c1, c2, c3, c4, x0, x1, x2⟩) | go_keep)
        ((go_at_call 39; refine U.out.mono ?_; rintro e V5 ⟨n4, a4, g4, rfl, RW4, B4⟩; have T4 := Lib.hid (And.intro (R2.out.below B4) RW4); obtain ⟨z0, z1, z2, z3, z4⟩ := T4.out.1.two.box.c; obtain ⟨z5, z6, z7⟩ := T4.out.1.stp.c; obtain ⟨⟨k0, k1, k2, k3, k4⟩, f0, f1, f2, f3, f4⟩ := T4.out.1.two.ten; obtain ⟨r0, r1, r2⟩ := T4.out.1.res.c; obtain ⟨g0, g1, g2'⟩ := T4.out.1.res.f; clear RW4 B4))
      all_goals
        have F := Lib.hid (T4.out.1.out (mo' := mo) (t' := u) (P0 := P) (fun k hk => hk.1.1.1) T4.out.2)
        go_wp2_with fail
        (try simp only [Exit.inBlock, Exit.then])
        refine bodyPost_ret (results_cc rfl _ _ _ ⟨q, 0, none⟩ ⟨r, 0, none⟩ _ _ rfl (load_r F.out.1) rfl (load_z F.out.2.1)) rfl ?_
        exact ⟨_, _, _, rfl, F.out.2.2.1, F.out.2.2.2⟩
    · have hu : u = t := by have := HU.out; rw [hd] at this; unfold gT at this; rwa [if_neg (fun h => htm h.2.2)] at this
      have e1 : decide ((1 : Int) < (t : Int)) = false := by simp; omega
      have e1' : decide (1 < t) = false := by simp; omega
      rw [hd] at y1
      clear htm KY NY HU hd
      subst hu
      go_upto_region 18 with fail
      clear c0 c1 c2 c3 c4 y1 e1 e1'
      obtain ⟨c0, c1, c2, c3, c4⟩ := R1.out.two.box.c
      have U := Lib.hid (without_any _ _ g G s R1.out.two.rows.g (by omega) R1.out.two.cl)
      go_wp2_with fail
      refine U.out.mono ?_
      rintro e V1 ⟨n9, rfl, k9, B9⟩
      have R2 := Lib.hid ((R1.out.below B9).setG k9)
      obtain ⟨d0, d1, d2, d3, d4⟩ := (R1.out.below B9).two.box.c
      obtain ⟨f0, f1, f2, f3, f4⟩ := (R1.out.below B9).two.box.f
      clear c0 c1 c2 c3 c4 k9 B9 R1 U
      go_upto_region 19 with fail
      clear d0 d1 d2 d3 d4 f0 f1 f2 f3 f4
      generalize V1.setCell ⟨p, 4, none⟩ (.slice n9.A n9.n n9.c) = V2 at R2 ⊢
      have R1 := Lib.hid R2.out
      clear R2
      obtain ⟨c0, c1, c2, c3, c4⟩ := R1.out.two.box.c
      go_upto_region 23 with fail
      clear c0 c1 c2 c3 c4
      obtain ⟨c0, c1, c2, c3, c4⟩ := (R1.out.below (below_drew _)).two.box.c
      obtain ⟨x0, x1, x2⟩ := (R1.out.below (below_drew _)).stp.c
      obtain ⟨nrp, nrq, nxp, nxq, nrx⟩ := R1.out.ne
      have npq : p ≠ q := R1.out.two.ne
      have nqp : q ≠ p := Ne.symm npq
      have npr : p ≠ r := Ne.symm nrp
      have nqr : q ≠ r := Ne.symm nrq
      have npx : p ≠ x := Ne.symm nxp
      have nqx : q ≠ x := Ne.symm nxq
      have nxr : x ≠ r := Ne.symm nrx
      have U := Lib.hid (again_r _ _ mo u _ _ _ _ _ _ (R1.out.below (below_drew _)).two.rows (R1.out.below (below_drew _)).two.cl s hs HWL.out)
      have R2 := Lib.hid (R1.out.below (below_drew _))
      clear R1
      go_region_held3 (fun w' => w'.cell? ⟨p, 0, none⟩ = some (.int .i64 (mo : Int)) ∧ w'.cell? ⟨p, 1, none⟩ = some (.int .i64 (u : Int)) ∧ w'.cell? ⟨p, 2, none⟩ = some (.slice n.A n.n n.c) ∧ w'.cell? ⟨p, 3, none⟩ = some (.slice a.A a.n a.c) ∧ w'.cell? ⟨p, 4, none⟩ = some (.slice n9.A n9.n n9.c) ∧ w'.cell? ⟨x, 0, none⟩ = some (.bool hit) ∧ w'.cell? ⟨x, 1, none⟩ = some (.string ⟨#[]⟩) ∧ w'.cell? ⟨x, 2, none⟩ = some (.bool false)) (first | (with_reducible exact ⟨z0, z1, z2, z3, z4, z5, z6, z7⟩) | (with_reducible exact ⟨c0, c1, c2, c3, c4, x0, x1, x2⟩) | go_keep)
        ((go_at_call 39; refine U.out.mono ?_; rintro e V5 ⟨n4, a4, g4, rfl, RW4, B4⟩; have T4 := Lib.hid (And.intro (R2.out.below B4) RW4); obtain ⟨z0, z1, z2, z3, z4⟩ := T4.out.1.two.box.c; obtain ⟨z5, z6, z7⟩ := T4.out.1.stp.c; obtain ⟨⟨k0, k1, k2, k3, k4⟩, f0, f1, f2, f3, f4⟩ := T4.out.1.two.ten; obtain ⟨r0, r1, r2⟩ := T4.out.1.res.c; obtain ⟨g0, g1, g2'⟩ := T4.out.1.res.f; clear RW4 B4))
      all_goals
        have F := Lib.hid (T4.out.1.out (mo' := mo) (t' := u) (P0 := P) (fun k hk => hk.1.1.1) T4.out.2)
        go_wp2_with fail
        (try simp only [Exit.inBlock, Exit.then])
        refine bodyPost_ret (results_cc rfl _ _ _ ⟨q, 0, none⟩ ⟨r, 0, none⟩ _ _ rfl (load_r F.out.1) rfl (load_z F.out.2.1)) rfl ?_
        exact ⟨_, _, _, rfl, F.out.2.2.1, F.out.2.2.2⟩
include hmo
set_option maxHeartbeats 8000000 in
theorem rq_ghost_full (hit : Bool) (hh : (isK N s || isK A s) = hit) (hA : isK A s = false) (hN : isK N s = false) (hG : isK G s = true) (hrm : mo ≤ N.length + A.length) : Calls Try.prog 12 #[rAgg mo t n a g, .string s] w (CT w P (fun v => .tuple #[v, stA hit (vK N A).s true]) mo (gT t true (fk G s).o) (agN (gT t true (fk G s).o) (g1N N) (⟨s, true, false⟩ :: g1A N A)) (agA (gT t true (fk G s).o) (⟨s, true, false⟩ :: g1A N A)) (((⟨(vK N A).s, (vK N A).o, false⟩ : KE) :: wo G s).take mo)) := by
  obtain ⟨u, hu⟩ : ∃ u, u = gT t true (fk G s).o := ⟨_, rfl⟩
  rw [← hu]
  have HU := Lib.hid hu
  clear hu
  have hnl := h.n.len
  have hal := h.a.len
  obtain ⟨m, hmm⟩ : ∃ m, m = N.length + A.length := ⟨_, rfl⟩
  have hwm : IntKind.i64.wrap ((n.n : Int) + (a.n : Int)) = (m : Int) := by rw [IntWalk.i64_in _ (by omega)]; omega
  have em : decide (mo ≤ m) = true := by simp; omega
  have HEV := Lib.hid (show N ++ A ≠ [] from fun h => by have := congrArg List.length h; rw [List.length_append] at this; simp only [List.length_nil] at this; omega)
  have HML := Lib.hid (show mo ≤ 9223372036854775807 by omega)
  have HGL := Lib.hid (show (wo G s).length ≤ 1800 from by have := wo_le G s; omega)
  have HWL := Lib.hid (show (g1N N).length + (g1A N A).length ≤ 1800 from by unfold g1N g1A; rw [List.length_dropLast]; split <;> (try rw [List.length_dropLast]) <;> omega)
  have HNA := Lib.hid (And.intro hl hgl)
  clear hnl hal hmm hrm
  have e9 : ((mo : Int) == 0) = false := by simp; omega
  have e8 : (mo == 0) = false := by simp; omega
  have R0 := Lib.hid (RQ.start h hP mo t)
  clear h hP
  go_enter Try.func12, Try.ntmps12
  go_upto_region 2 with fail
  generalize (((w.alloc (rObj mo t n a g)).alloc rZero).alloc (zObj false ⟨#[]⟩ false)).alloc (zObj false ⟨#[]⟩ false) = W at R0 ⊢
  generalize w.heap.size + 1 + 1 + 1 = x at R0 ⊢
  generalize w.heap.size + 1 + 1 = r at R0 ⊢
  generalize w.heap.size + 1 = q at R0 ⊢
  obtain ⟨p, hp⟩ : ∃ p, p = w.heap.size := ⟨_, rfl⟩
  rw [← hp] at R0 ⊢
  clear hp
  obtain ⟨c0, c1, c2, c3, c4⟩ := R0.out.two.box.c
  have U := Lib.hid (has_r W _ mo t n a g N A G R0.out.two.rows s)
  rw [hh] at U
  go_wp2_with fail
  refine U.out.mono ?_
  rintro e W1 ⟨rfl, B1⟩
  have R1 := Lib.hid ((R0.out.below B1).set0 hit)
  obtain ⟨x0, _, _⟩ := (R0.out.below B1).stp.c
  obtain ⟨g0, _, _⟩ := (R0.out.below B1).stp.f
  clear c0 c1 c2 c3 c4 B1 R0 U
  go_upto_region 3 with fail
  clear x0 g0
  generalize W1.setCell ⟨x, 0, none⟩ (.bool hit) = W2 at R1 ⊢
  obtain ⟨c0, c1, c2, c3, c4⟩ := R1.out.two.box.c
  have V := find_any _ _ a A s R1.out.two.rows.a
  rw [hA] at V
  have V := Lib.hid V
  go_wp2_with fail
  refine V.out.mono ?_
  rintro e W3 ⟨rfl, B3⟩
  have b4 := B3.trans (((Below.refl W3.heap.size W3).alloc (Nat.le_refl _) (kObj (fk A s))).mono B3.size)
  have R2 := Lib.hid (R1.out.below b4)
  have KY := Lib.hid (show KBox (W3.alloc (kObj (fk A s))) W3.heap.size (fk A s) from heap_alloc_new _ _)
  have NY := Lib.hid (show W3.heap.size ≠ p ∧ W3.heap.size ≠ x from by have := (R1.out.below B3).two.box.lt; have := (R1.out.below B3).stp.lt; omega)
  clear c0 c1 c2 c3 c4 B3 b4 V R1
  go_upto_region 9 with fail
  generalize W3.alloc (kObj (fk A s)) = W4 at R2 KY ⊢
  generalize W3.heap.size = y at KY NY ⊢
  have R1 := Lib.hid R2.out
  clear R2
  obtain ⟨c0, c1, c2, c3, c4⟩ := R1.out.two.box.c
  clear KY NY
  have V := find_any _ _ n N s R1.out.two.rows.n
  rw [hN] at V
  have V := Lib.hid V
  go_wp2_with fail
  refine V.out.mono ?_
  rintro e W3 ⟨rfl, B3⟩
  have b4 := B3.trans (((Below.refl W3.heap.size W3).alloc (Nat.le_refl _) (kObj (fk N s))).mono B3.size)
  have R2 := Lib.hid (R1.out.below b4)
  have KY := Lib.hid (show KBox (W3.alloc (kObj (fk N s))) W3.heap.size (fk N s) from heap_alloc_new _ _)
  have NY := Lib.hid (show W3.heap.size ≠ p ∧ W3.heap.size ≠ x from by have := (R1.out.below B3).two.box.lt; have := (R1.out.below B3).stp.lt; omega)
  clear c0 c1 c2 c3 c4 B3 b4 V R1
  go_upto_region 15 with fail
  generalize W3.alloc (kObj (fk N s)) = W4 at R2 KY ⊢
  generalize W3.heap.size = y at KY NY ⊢
  have R1 := Lib.hid R2.out
  clear R2
  obtain ⟨c0, c1, c2, c3, c4⟩ := R1.out.two.box.c
  clear KY NY
  have V := find_any _ _ g G s R1.out.two.rows.g
  rw [hG] at V
  have V := Lib.hid V
  go_wp2_with fail
  refine V.out.mono ?_
  rintro e W3 ⟨rfl, B3⟩
  have b4 := B3.trans (((Below.refl W3.heap.size W3).alloc (Nat.le_refl _) (kObj (fk G s))).mono B3.size)
  have R2 := Lib.hid (R1.out.below b4)
  have KY := Lib.hid (show KBox (W3.alloc (kObj (fk G s))) W3.heap.size (fk G s) from heap_alloc_new _ _)
  have NY := Lib.hid (show W3.heap.size ≠ p ∧ W3.heap.size ≠ x from by have := (R1.out.below B3).two.box.lt; have := (R1.out.below B3).stp.lt; omega)
  clear c0 c1 c2 c3 c4 B3 b4 V R1
  go_upto_region 16 with fail
  generalize W3.alloc (kObj (fk G s)) = W4 at R2 KY ⊢
  generalize W3.heap.size = y at KY NY ⊢
  have R1 := Lib.hid R2.out
  clear R2
  obtain ⟨c0, c1, c2, c3, c4⟩ := R1.out.two.box.c
  obtain ⟨_, y1, _⟩ := KY.out.c
  cases hd : (fk G s).o with
  | true =>
    have hu : u = t := by have := HU.out; rw [hd] at this; unfold gT at this; rwa [if_neg (fun h => by cases h.2.1)] at this
    rw [hd] at y1
    clear KY NY HU hd
    subst hu
    go_upto_region 18 with fail
    clear c0 c1 c2 c3 c4 y1
    obtain ⟨c0, c1, c2, c3, c4⟩ := R1.out.two.box.c
    have U := Lib.hid (without_any _ _ g G s R1.out.two.rows.g (by omega) R1.out.two.cl)
    go_wp2_with fail
    refine U.out.mono ?_
    rintro e V1 ⟨n9, rfl, k9, B9⟩
    have R2 := Lib.hid ((R1.out.below B9).setG k9)
    obtain ⟨d0, d1, d2, d3, d4⟩ := (R1.out.below B9).two.box.c
    obtain ⟨f0, f1, f2, f3, f4⟩ := (R1.out.below B9).two.box.f
    clear c0 c1 c2 c3 c4 k9 B9 R1 U
    go_upto_region 19 with fail
    clear d0 d1 d2 d3 d4 f0 f1 f2 f3 f4
    generalize V1.setCell ⟨p, 4, none⟩ (.slice n9.A n9.n n9.c) = V2 at R2 ⊢
    have R1 := Lib.hid R2.out
    clear R2
    obtain ⟨c0, c1, c2, c3, c4⟩ := R1.out.two.box.c
    go_upto_region 20 with fail
    clear c0 c1 c2 c3 c4
    obtain ⟨c0, c1, c2, c3, c4⟩ := R1.out.two.box.c
    have U := Lib.hid (evict_r _ _ mo u _ _ _ _ _ _ R1.out.two.rows R1.out.two.cl HEV.out HML.out HGL.out)
    go_wp2_with fail
    refine U.out.mono ?_
    rintro e V3 ⟨n3, a3, g3, rfl, RW3, B3⟩
    have r1 := R1.out.below B3
    have R2 := Lib.hid ((r1.setAll (mo' := mo) (t' := u) RW3).set1 (vK N A).s)
    obtain ⟨d0, d1, d2, d3, d4⟩ := r1.two.box.c
    obtain ⟨f0, f1, f2, f3, f4⟩ := r1.two.box.f
    obtain ⟨_, x1, _⟩ := r1.stp.c
    obtain ⟨_, h1, _⟩ := r1.stp.f
    have npx : p ≠ x := Ne.symm r1.ne.2.2.1
    have nxp : x ≠ p := r1.ne.2.2.1
    clear c0 c1 c2 c3 c4 RW3 B3 R1 U r1
    go_upto_region 21 with fail
    clear d0 d1 d2 d3 d4 f0 f1 f2 f3 f4 x1 h1 npx nxp
    dsimp only [put5] at R2
    generalize (((((V3.setCell ⟨p, 0, none⟩ (.int .i64 (mo : Int))).setCell ⟨p, 1, none⟩ (.int .i64 (u : Int))).setCell ⟨p, 2, none⟩ (.slice n3.A n3.n n3.c)).setCell ⟨p, 3, none⟩ (.slice a3.A a3.n a3.c)).setCell ⟨p, 4, none⟩ (.slice g3.A g3.n g3.c)).setCell ⟨x, 1, none⟩ (.string (vK N A).s) = V4 at R2 ⊢
    obtain ⟨_, _, x2⟩ := R2.out.stp.c
    obtain ⟨_, _, h2⟩ := R2.out.stp.f
    have R3 := Lib.hid (R2.out.set2 true)
    clear R2
    go_upto_region 22 with fail
    clear x2 h2
    generalize V4.setCell ⟨x, 2, none⟩ (.bool true) = V5 at R3 ⊢
    have R1 := Lib.hid R3.out
    clear R3
    go_upto_region 23 with fail
    obtain ⟨c0, c1, c2, c3, c4⟩ := (R1.out.below (below_drew _)).two.box.c
    obtain ⟨x0, x1, x2⟩ := (R1.out.below (below_drew _)).stp.c
    obtain ⟨nrp, nrq, nxp, nxq, nrx⟩ := R1.out.ne
    have npq : p ≠ q := R1.out.two.ne
    have nqp : q ≠ p := Ne.symm npq
    have npr : p ≠ r := Ne.symm nrp
    have nqr : q ≠ r := Ne.symm nrq
    have npx : p ≠ x := Ne.symm nxp
    have nqx : q ≠ x := Ne.symm nxq
    have nxr : x ≠ r := Ne.symm nrx
    have U := Lib.hid (again_r _ _ mo u _ _ _ _ _ _ (R1.out.below (below_drew _)).two.rows (R1.out.below (below_drew _)).two.cl s hs HWL.out)
    have R2 := Lib.hid (R1.out.below (below_drew _))
    clear R1
    go_region_held3 (fun w' => w'.cell? ⟨p, 0, none⟩ = some (.int .i64 (mo : Int)) ∧ w'.cell? ⟨p, 1, none⟩ = some (.int .i64 (u : Int)) ∧ w'.cell? ⟨p, 2, none⟩ = some (.slice n3.A n3.n n3.c) ∧ w'.cell? ⟨p, 3, none⟩ = some (.slice a3.A a3.n a3.c) ∧ w'.cell? ⟨p, 4, none⟩ = some (.slice g3.A g3.n g3.c) ∧ w'.cell? ⟨x, 0, none⟩ = some (.bool hit) ∧ w'.cell? ⟨x, 1, none⟩ = some (.string (vK N A).s) ∧ w'.cell? ⟨x, 2, none⟩ = some (.bool true)) (first | (with_reducible exact ⟨z0, z1, z2, z3, z4, z5, z6, z7⟩) | (with_reducible exact ⟨c0, c1, c2, c3, c4, x0, x1, x2⟩) | go_keep)
      ((go_at_call 39; refine U.out.mono ?_; rintro e V5 ⟨n4, a4, g4, rfl, RW4, B4⟩; have T4 := Lib.hid (And.intro (R2.out.below B4) RW4); obtain ⟨z0, z1, z2, z3, z4⟩ := T4.out.1.two.box.c; obtain ⟨z5, z6, z7⟩ := T4.out.1.stp.c; obtain ⟨⟨k0, k1, k2, k3, k4⟩, f0, f1, f2, f3, f4⟩ := T4.out.1.two.ten; obtain ⟨r0, r1, r2⟩ := T4.out.1.res.c; obtain ⟨g0, g1, g2'⟩ := T4.out.1.res.f; clear RW4 B4))
    all_goals
      have F := Lib.hid (T4.out.1.out (mo' := mo) (t' := u) (P0 := P) (fun k hk => hk.1.1.1) T4.out.2)
      go_wp2_with fail
      (try simp only [Exit.inBlock, Exit.then])
      refine bodyPost_ret (results_cc rfl _ _ _ ⟨q, 0, none⟩ ⟨r, 0, none⟩ _ _ rfl (load_r F.out.1) rfl (load_z F.out.2.1)) rfl ?_
      exact ⟨_, _, _, rfl, F.out.2.2.1, F.out.2.2.2⟩
  | false =>
    by_cases htm : 1 < t
    · have hu : u = t - 1 := by have := HU.out; rw [hd] at this; unfold gT at this; rwa [if_pos ⟨rfl, rfl, htm⟩] at this
      have e1 : decide ((1 : Int) < (t : Int)) = true := by simp; omega
      have e1' : decide (1 < t) = true := by simp; omega
      have hw1 : IntKind.i64.wrap ((t : Int) - 1) = (u : Int) := by rw [IntWalk.i64_in _ (by omega)]; omega
      have R2 := Lib.hid (R1.out.setT u)
      obtain ⟨_, f1, _, _, _⟩ := R1.out.two.box.f
      rw [hd] at y1
      clear htm hu R1 KY NY HU hd
      go_upto_region 18 with fail
      clear c0 c1 c2 c3 c4 y1 f1 e1 e1' hw1
      generalize W4.setCell ⟨p, 1, none⟩ (.int .i64 (u : Int)) = W5 at R2 ⊢
      have R1 := Lib.hid R2.out
      clear R2
      obtain ⟨c0, c1, c2, c3, c4⟩ := R1.out.two.box.c
      have U := Lib.hid (without_any _ _ g G s R1.out.two.rows.g (by omega) R1.out.two.cl)
      go_wp2_with fail
      refine U.out.mono ?_
      rintro e V1 ⟨n9, rfl, k9, B9⟩
      have R2 := Lib.hid ((R1.out.below B9).setG k9)
      obtain ⟨d0, d1, d2, d3, d4⟩ := (R1.out.below B9).two.box.c
      obtain ⟨f0, f1, f2, f3, f4⟩ := (R1.out.below B9).two.box.f
      clear c0 c1 c2 c3 c4 k9 B9 R1 U
      go_upto_region 19 with fail
      clear d0 d1 d2 d3 d4 f0 f1 f2 f3 f4
      generalize V1.setCell ⟨p, 4, none⟩ (.slice n9.A n9.n n9.c) = V2 at R2 ⊢
      have R1 := Lib.hid R2.out
      clear R2
      obtain ⟨c0, c1, c2, c3, c4⟩ := R1.out.two.box.c
      go_upto_region 20 with fail
      clear c0 c1 c2 c3 c4
      obtain ⟨c0, c1, c2, c3, c4⟩ := R1.out.two.box.c
      have U := Lib.hid (evict_r _ _ mo u _ _ _ _ _ _ R1.out.two.rows R1.out.two.cl HEV.out HML.out HGL.out)
      go_wp2_with fail
      refine U.out.mono ?_
      rintro e V3 ⟨n3, a3, g3, rfl, RW3, B3⟩
      have r1 := R1.out.below B3
      have R2 := Lib.hid ((r1.setAll (mo' := mo) (t' := u) RW3).set1 (vK N A).s)
      obtain ⟨d0, d1, d2, d3, d4⟩ := r1.two.box.c
      obtain ⟨f0, f1, f2, f3, f4⟩ := r1.two.box.f
      obtain ⟨_, x1, _⟩ := r1.stp.c
      obtain ⟨_, h1, _⟩ := r1.stp.f
      have npx : p ≠ x := Ne.symm r1.ne.2.2.1
      have nxp : x ≠ p := r1.ne.2.2.1
      clear c0 c1 c2 c3 c4 RW3 B3 R1 U r1
      go_upto_region 21 with fail
      clear d0 d1 d2 d3 d4 f0 f1 f2 f3 f4 x1 h1 npx nxp
      dsimp only [put5] at R2
      generalize (((((V3.setCell ⟨p, 0, none⟩ (.int .i64 (mo : Int))).setCell ⟨p, 1, none⟩ (.int .i64 (u : Int))).setCell ⟨p, 2, none⟩ (.slice n3.A n3.n n3.c)).setCell ⟨p, 3, none⟩ (.slice a3.A a3.n a3.c)).setCell ⟨p, 4, none⟩ (.slice g3.A g3.n g3.c)).setCell ⟨x, 1, none⟩ (.string (vK N A).s) = V4 at R2 ⊢
      obtain ⟨_, _, x2⟩ := R2.out.stp.c
      obtain ⟨_, _, h2⟩ := R2.out.stp.f
      have R3 := Lib.hid (R2.out.set2 true)
      clear R2
      go_upto_region 22 with fail
      clear x2 h2
      generalize V4.setCell ⟨x, 2, none⟩ (.bool true) = V5 at R3 ⊢
      have R1 := Lib.hid R3.out
      clear R3
      go_upto_region 23 with fail
      obtain ⟨c0, c1, c2, c3, c4⟩ := (R1.out.below (below_drew _)).two.box.c
      obtain ⟨x0, x1, x2⟩ := (R1.out.below (below_drew _)).stp.c
      obtain ⟨nrp, nrq, nxp, nxq, nrx⟩ := R1.out.ne
      have npq : p ≠ q := R1.out.two.ne
      have nqp : q ≠ p := Ne.symm npq
      have npr : p ≠ r := Ne.symm nrp
      have nqr : q ≠ r := Ne.symm nrq
      have npx : p ≠ x := Ne.symm nxp
      have nqx : q ≠ x := Ne.symm nxq
      have nxr : x ≠ r := Ne.symm nrx
      have U := Lib.hid (again_r _ _ mo u _ _ _ _ _ _ (R1.out.below (below_drew _)).two.rows (R1.out.below (below_drew _)).two.cl s hs HWL.out)
      have R2 := Lib.hid (R1.out.below (below_drew _))
      clear R1
      go_region_held3 (fun w' => w'.cell? ⟨p, 0, none⟩ = some (.int .i64 (mo : Int)) ∧ w'.cell? ⟨p, 1, none⟩ = some (.int .i64 (u : Int)) ∧ w'.cell? ⟨p, 2, none⟩ = some (.slice n3.A n3.n n3.c) ∧ w'.cell? ⟨p, 3, none⟩ = some (.slice a3.A a3.n a3.c) ∧ w'.cell? ⟨p, 4, none⟩ = some (.slice g3.A g3.n g3.c) ∧ w'.cell? ⟨x, 0, none⟩ = some (.bool hit) ∧ w'.cell? ⟨x, 1, none⟩ = some (.string (vK N A).s) ∧ w'.cell? ⟨x, 2, none⟩ = some (.bool true)) (first | (with_reducible exact ⟨z0, z1, z2, z3, z4, z5, z6, z7⟩) | (with_reducible exact ⟨c0, c1, c2, c3, c4, x0, x1, x2⟩) | go_keep)
        ((go_at_call 39; refine U.out.mono ?_; rintro e V5 ⟨n4, a4, g4, rfl, RW4, B4⟩; have T4 := Lib.hid (And.intro (R2.out.below B4) RW4); obtain ⟨z0, z1, z2, z3, z4⟩ := T4.out.1.two.box.c; obtain ⟨z5, z6, z7⟩ := T4.out.1.stp.c; obtain ⟨⟨k0, k1, k2, k3, k4⟩, f0, f1, f2, f3, f4⟩ := T4.out.1.two.ten; obtain ⟨r0, r1, r2⟩ := T4.out.1.res.c; obtain ⟨g0, g1, g2'⟩ := T4.out.1.res.f; clear RW4 B4))
      all_goals
        have F := Lib.hid (T4.out.1.out (mo' := mo) (t' := u) (P0 := P) (fun k hk => hk.1.1.1) T4.out.2)
        go_wp2_with fail
        (try simp only [Exit.inBlock, Exit.then])
        refine bodyPost_ret (results_cc rfl _ _ _ ⟨q, 0, none⟩ ⟨r, 0, none⟩ _ _ rfl (load_r F.out.1) rfl (load_z F.out.2.1)) rfl ?_
        exact ⟨_, _, _, rfl, F.out.2.2.1, F.out.2.2.2⟩
    · have hu : u = t := by have := HU.out; rw [hd] at this; unfold gT at this; rwa [if_neg (fun h => htm h.2.2)] at this
      have e1 : decide ((1 : Int) < (t : Int)) = false := by simp; omega
      have e1' : decide (1 < t) = false := by simp; omega
      rw [hd] at y1
      clear htm KY NY HU hd
      subst hu
      go_upto_region 18 with fail
      clear c0 c1 c2 c3 c4 y1 e1 e1'
      obtain ⟨c0, c1, c2, c3, c4⟩ := R1.out.two.box.c
      have U := Lib.hid (without_any _ _ g G s R1.out.two.rows.g (by omega) R1.out.two.cl)
      go_wp2_with fail
      refine U.out.mono ?_
      rintro e V1 ⟨n9, rfl, k9, B9⟩
      have R2 := Lib.hid ((R1.out.below B9).setG k9)
      obtain ⟨d0, d1, d2, d3, d4⟩ := (R1.out.below B9).two.box.c
      obtain ⟨f0, f1, f2, f3, f4⟩ := (R1.out.below B9).two.box.f
      clear c0 c1 c2 c3 c4 k9 B9 R1 U
      go_upto_region 19 with fail
      clear d0 d1 d2 d3 d4 f0 f1 f2 f3 f4
      generalize V1.setCell ⟨p, 4, none⟩ (.slice n9.A n9.n n9.c) = V2 at R2 ⊢
      have R1 := Lib.hid R2.out
      clear R2
      obtain ⟨c0, c1, c2, c3, c4⟩ := R1.out.two.box.c
      go_upto_region 20 with fail
      clear c0 c1 c2 c3 c4
      obtain ⟨c0, c1, c2, c3, c4⟩ := R1.out.two.box.c
      have U := Lib.hid (evict_r _ _ mo u _ _ _ _ _ _ R1.out.two.rows R1.out.two.cl HEV.out HML.out HGL.out)
      go_wp2_with fail
      refine U.out.mono ?_
      rintro e V3 ⟨n3, a3, g3, rfl, RW3, B3⟩
      have r1 := R1.out.below B3
      have R2 := Lib.hid ((r1.setAll (mo' := mo) (t' := u) RW3).set1 (vK N A).s)
      obtain ⟨d0, d1, d2, d3, d4⟩ := r1.two.box.c
      obtain ⟨f0, f1, f2, f3, f4⟩ := r1.two.box.f
      obtain ⟨_, x1, _⟩ := r1.stp.c
      obtain ⟨_, h1, _⟩ := r1.stp.f
      have npx : p ≠ x := Ne.symm r1.ne.2.2.1
      have nxp : x ≠ p := r1.ne.2.2.1
      clear c0 c1 c2 c3 c4 RW3 B3 R1 U r1
      go_upto_region 21 with fail
      clear d0 d1 d2 d3 d4 f0 f1 f2 f3 f4 x1 h1 npx nxp
      dsimp only [put5] at R2
      generalize (((((V3.setCell ⟨p, 0, none⟩ (.int .i64 (mo : Int))).setCell ⟨p, 1, none⟩ (.int .i64 (u : Int))).setCell ⟨p, 2, none⟩ (.slice n3.A n3.n n3.c)).setCell ⟨p, 3, none⟩ (.slice a3.A a3.n a3.c)).setCell ⟨p, 4, none⟩ (.slice g3.A g3.n g3.c)).setCell ⟨x, 1, none⟩ (.string (vK N A).s) = V4 at R2 ⊢
      obtain ⟨_, _, x2⟩ := R2.out.stp.c
      obtain ⟨_, _, h2⟩ := R2.out.stp.f
      have R3 := Lib.hid (R2.out.set2 true)
      clear R2
      go_upto_region 22 with fail
      clear x2 h2
      generalize V4.setCell ⟨x, 2, none⟩ (.bool true) = V5 at R3 ⊢
      have R1 := Lib.hid R3.out
      clear R3
      go_upto_region 23 with fail
      obtain ⟨c0, c1, c2, c3, c4⟩ := (R1.out.below (below_drew _)).two.box.c
      obtain ⟨x0, x1, x2⟩ := (R1.out.below (below_drew _)).stp.c
      obtain ⟨nrp, nrq, nxp, nxq, nrx⟩ := R1.out.ne
      have npq : p ≠ q := R1.out.two.ne
      have nqp : q ≠ p := Ne.symm npq
      have npr : p ≠ r := Ne.symm nrp
      have nqr : q ≠ r := Ne.symm nrq
      have npx : p ≠ x := Ne.symm nxp
      have nqx : q ≠ x := Ne.symm nxq
      have nxr : x ≠ r := Ne.symm nrx
      have U := Lib.hid (again_r _ _ mo u _ _ _ _ _ _ (R1.out.below (below_drew _)).two.rows (R1.out.below (below_drew _)).two.cl s hs HWL.out)
      have R2 := Lib.hid (R1.out.below (below_drew _))
      clear R1
      go_region_held3 (fun w' => w'.cell? ⟨p, 0, none⟩ = some (.int .i64 (mo : Int)) ∧ w'.cell? ⟨p, 1, none⟩ = some (.int .i64 (u : Int)) ∧ w'.cell? ⟨p, 2, none⟩ = some (.slice n3.A n3.n n3.c) ∧ w'.cell? ⟨p, 3, none⟩ = some (.slice a3.A a3.n a3.c) ∧ w'.cell? ⟨p, 4, none⟩ = some (.slice g3.A g3.n g3.c) ∧ w'.cell? ⟨x, 0, none⟩ = some (.bool hit) ∧ w'.cell? ⟨x, 1, none⟩ = some (.string (vK N A).s) ∧ w'.cell? ⟨x, 2, none⟩ = some (.bool true)) (first | (with_reducible exact ⟨z0, z1, z2, z3, z4, z5, z6, z7⟩) | (with_reducible exact ⟨c0, c1, c2, c3, c4, x0, x1, x2⟩) | go_keep)
        ((go_at_call 39; refine U.out.mono ?_; rintro e V5 ⟨n4, a4, g4, rfl, RW4, B4⟩; have T4 := Lib.hid (And.intro (R2.out.below B4) RW4); obtain ⟨z0, z1, z2, z3, z4⟩ := T4.out.1.two.box.c; obtain ⟨z5, z6, z7⟩ := T4.out.1.stp.c; obtain ⟨⟨k0, k1, k2, k3, k4⟩, f0, f1, f2, f3, f4⟩ := T4.out.1.two.ten; obtain ⟨r0, r1, r2⟩ := T4.out.1.res.c; obtain ⟨g0, g1, g2'⟩ := T4.out.1.res.f; clear RW4 B4))
      all_goals
        have F := Lib.hid (T4.out.1.out (mo' := mo) (t' := u) (P0 := P) (fun k hk => hk.1.1.1) T4.out.2)
        go_wp2_with fail
        (try simp only [Exit.inBlock, Exit.then])
        refine bodyPost_ret (results_cc rfl _ _ _ ⟨q, 0, none⟩ ⟨r, 0, none⟩ _ _ rfl (load_r F.out.1) rfl (load_z F.out.2.1)) rfl ?_
        exact ⟨_, _, _, rfl, F.out.2.2.1, F.out.2.2.2⟩
end
end Go.Proofs.Ytmnflcidcoejiaa
