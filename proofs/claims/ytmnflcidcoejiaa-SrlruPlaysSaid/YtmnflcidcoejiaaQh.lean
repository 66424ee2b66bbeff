/- The reference's Request, way by way. -/
import Derived.Test.YtmnflcidcoejiaaQg
namespace Go.Proofs.Ytmnflcidcoejiaa
open Go.RowKit Sg

theorem fk_small {w : World} {P : Nat → Prop} {r : Sl} {L : List KE} (h : KW w P r L) (s : ByteArray) : (fk L s).s.size ≤ maxLen := by
  unfold fk
  cases hf : L.find? fun e => decide (e.s = s) with
  | none => decide
  | some x => exact h.small x (List.mem_of_find?_eq_some hf)
def nT (mo t : Nat) (d : Bool) : Nat := if d = true ∧ t < mo then t + 1 else t
def gT (t : Nat) (gh o : Bool) : Nat := if gh = true ∧ o = false ∧ 1 < t then t - 1 else t
section
variable (w : World) (P : Nat → Prop) (mo t : Nat) (n a g : Sl) (N A G : List KE) (h : Rw w P n a g N A G) (hP : Cl w P) (s : ByteArray) (hs : s.size ≤ maxLen) (hm : mo ≠ 0) (hmo : mo ≤ 9223372036854775807) (hl : N.length + A.length ≤ 1700)
include h hP hm hl
set_option maxHeartbeats 4000000 in
theorem rq_A (hit : Bool) (hh : (isK N s || isK A s) = hit) (hA : isK A s = true) : Calls Try.prog 12 #[rAgg mo t n a g, .string s] w (CT w P (fun v => .tuple #[v, stA hit ⟨#[]⟩ false]) mo t N (fk A s :: wo A s) G) := by
  have HFS := Lib.hid (fk_small h.a s)
  have e9 : ((mo : Int) == 0) = false := by simp; omega
  have e8 : (mo == 0) = false := by simp; omega
  have R0 := Lib.hid (RQ.start h hP mo t)
  clear h hP
  go_enter Try.func12, Try.ntmps12
  go_upto_region 2 with fail
  generalize (((w.alloc (rObj mo t n a g)).alloc rZero).alloc (zObj false ⟨#[]⟩ false)).alloc (zObj false ⟨#[]⟩ false) = W at R0 ⊢
  generalize w.heap.size + 1 + 1 + 1 = x at R0 ⊢
  generalize w.heap.size + 1 + 1 = r at R0 ⊢
  generalize w.heap.size + 1 = q at R0 ⊢
  obtain ⟨p, hp⟩ : ∃ p, p = w.heap.size := ⟨_, rfl⟩
  rw [← hp] at R0 ⊢
  clear hp
  obtain ⟨c0, c1, c2, c3, c4⟩ := R0.out.two.box.c
  have U := Lib.hid (has_r W _ mo t n a g N A G R0.out.two.rows s)
  rw [hh] at U
  go_wp2_with fail
  refine U.out.mono ?_
  rintro e W1 ⟨rfl, B1⟩
  have R1 := Lib.hid ((R0.out.below B1).set0 hit)
  obtain ⟨x0, _, _⟩ := (R0.out.below B1).stp.c
  obtain ⟨g0, _, _⟩ := (R0.out.below B1).stp.f
  clear c0 c1 c2 c3 c4 B1 R0 U
  go_upto_region 3 with fail
  clear x0 g0
  generalize W1.setCell ⟨x, 0, none⟩ (.bool hit) = W2 at R1 ⊢
  obtain ⟨c0, c1, c2, c3, c4⟩ := R1.out.two.box.c
  have V := find_any _ _ a A s R1.out.two.rows.a
  rw [hA] at V
  have V := Lib.hid V
  go_wp2_with fail
  refine V.out.mono ?_
  rintro e W3 ⟨rfl, B3⟩
  have b4 := B3.trans (((Below.refl W3.heap.size W3).alloc (Nat.le_refl _) (kObj (fk A s))).mono B3.size)
  have R2 := Lib.hid (R1.out.below b4)
  have KY := Lib.hid (show KBox (W3.alloc (kObj (fk A s))) W3.heap.size (fk A s) from heap_alloc_new _ _)
  have NY := Lib.hid (show W3.heap.size ≠ p ∧ W3.heap.size ≠ x from by have := (R1.out.below B3).two.box.lt; have := (R1.out.below B3).stp.lt; omega)
  clear c0 c1 c2 c3 c4 B3 b4 V R1
  go_upto_region 7 with fail
  generalize W3.alloc (kObj (fk A s)) = W4 at R2 KY ⊢
  generalize W3.heap.size = y at KY NY ⊢
  have R1 := Lib.hid R2.out
  clear R2
  obtain ⟨c0, c1, c2, c3, c4⟩ := R1.out.two.box.c
  have HWL := Lib.hid (show (wo A s).length ≤ 1900 from by have := wo_le A s; omega)
  obtain ⟨_, _, _, d3, _⟩ := (R1.out.below (below_drew _)).two.box.c
  obtain ⟨y0, y1, y2⟩ := (KY.out.below (below_drew _)).c
  have U1 := Lib.hid (without_any W4.drew _ a A s (R1.out.below (below_drew _)).two.rows.a (by omega) (R1.out.below (below_drew _)).two.cl)
  have nyp : y ≠ p := NY.out.1
  have npy : p ≠ y := Ne.symm nyp
  go_region_with
    (first
      | (go_at_call 38; refine U1.out.mono ?_; rintro e V5 ⟨a5, rfl, k5, B5⟩; have T5 := Lib.hid (And.intro ((R1.out.below (below_drew _)).below B5) k5); have Y5 := Lib.hid ((KY.out.below (below_drew _)).below B5); obtain ⟨_, _, _, z3, _⟩ := T5.out.1.two.box.c; obtain ⟨z4, z5, z6⟩ := Y5.out.c; clear k5 B5)
      | (go_at_call 37; refine (front_k V5 _ a5 _ (fk A s) T5.out.2 HWL.out HFS.out T5.out.1.two.cl).mono ?_; rintro e V6 ⟨a6, rfl, k6, B6⟩; have T6 := Lib.hid (And.intro (T5.out.1.below B6) k6); have Y6 := Lib.hid (Y5.out.below B6); obtain ⟨_, _, _, u3, _⟩ := T6.out.1.two.box.c; obtain ⟨_, _, _, f3, _⟩ := T6.out.1.two.box.f; obtain ⟨u4, u5, u6⟩ := Y6.out.c; clear k6 B6))
  all_goals
    have R2 := Lib.hid (T6.out.1.setA T6.out.2)
    clear R1 KY y0 y1 y2 d3 U1 z3 z4 z5 z6 u3 u4 u5 u6 f3 T5 T6 Y5 Y6 c0 c1 c2 c3 c4
    (try go_upto_region 8 with fail)
    generalize V6.setCell ⟨p, 3, none⟩ (.slice a6.A a6.n a6.c) = W5 at R2 ⊢
    have R1 := Lib.hid R2.out
    clear R2
    (try go_upto_region 8 with fail)
    obtain ⟨c0, c1, c2, c3, c4⟩ := R1.out.two.box.c
    obtain ⟨x0, x1, x2⟩ := R1.out.stp.c
    obtain ⟨⟨k0, k1, k2, k3, k4⟩, f0, f1, f2, f3, f4⟩ := R1.out.two.ten
    obtain ⟨r0, r1, r2⟩ := R1.out.res.c
    obtain ⟨g0, g1, g2'⟩ := R1.out.res.f
    obtain ⟨nrp, nrq, nxp, nxq, nrx⟩ := R1.out.ne
    have npq : p ≠ q := R1.out.two.ne
    have nqp : q ≠ p := Ne.symm npq
    have npr : p ≠ r := Ne.symm nrp
    have nqr : q ≠ r := Ne.symm nrq
    have npx : p ≠ x := Ne.symm nxp
    have nqx : q ≠ x := Ne.symm nxq
    have nxr : x ≠ r := Ne.symm nrx
    go_region
    have F := Lib.hid (R1.out.out0 (P0 := P) (fun k hk => hk.1.1.1))
    go_wp2_with fail
    (try simp only [Exit.inBlock, Exit.then])
    refine bodyPost_ret (results_cc rfl _ _ _ ⟨q, 0, none⟩ ⟨r, 0, none⟩ _ _ rfl (load_r (F.out.1.below (below_drew _))) rfl (load_z (F.out.2.1.below (below_drew _)))) rfl ?_
    exact ⟨_, _, _, rfl, F.out.2.2.1.drew, F.out.2.2.2.trans ((below_drew _).mono F.out.2.2.2.size)⟩
include hs hmo
set_option maxHeartbeats 4000000 in
theorem rq_N (hit : Bool) (hh : (isK N s || isK A s) = hit) (hA : isK A s = false) (hN : isK N s = true) : Calls Try.prog 12 #[rAgg mo t n a g, .string s] w (CT w P (fun v => .tuple #[v, stA hit ⟨#[]⟩ false]) mo (nT mo t (fk N s).d) (agN (nT mo t (fk N s).d) (wo N s) (⟨s, true, false⟩ :: A)) (agA (nT mo t (fk N s).d) (⟨s, true, false⟩ :: A)) G) := by
  obtain ⟨u, hu⟩ : ∃ u, u = nT mo t (fk N s).d := ⟨_, rfl⟩
  rw [← hu]
  have HU := Lib.hid hu
  clear hu
  have e9 : ((mo : Int) == 0) = false := by simp; omega
  have e8 : (mo == 0) = false := by simp; omega
  have R0 := Lib.hid (RQ.start h hP mo t)
  clear h hP
  go_enter Try.func12, Try.ntmps12
  go_upto_region 2 with fail
  generalize (((w.alloc (rObj mo t n a g)).alloc rZero).alloc (zObj false ⟨#[]⟩ false)).alloc (zObj false ⟨#[]⟩ false) = W at R0 ⊢
  generalize w.heap.size + 1 + 1 + 1 = x at R0 ⊢
  generalize w.heap.size + 1 + 1 = r at R0 ⊢
  generalize w.heap.size + 1 = q at R0 ⊢
  obtain ⟨p, hp⟩ : ∃ p, p = w.heap.size := ⟨_, rfl⟩
  rw [← hp] at R0 ⊢
  clear hp
  obtain ⟨c0, c1, c2, c3, c4⟩ := R0.out.two.box.c
  have U := Lib.hid (has_r W _ mo t n a g N A G R0.out.two.rows s)
  rw [hh] at U
  go_wp2_with fail
  refine U.out.mono ?_
  rintro e W1 ⟨rfl, B1⟩
  have R1 := Lib.hid ((R0.out.below B1).set0 hit)
  obtain ⟨x0, _, _⟩ := (R0.out.below B1).stp.c
  obtain ⟨g0, _, _⟩ := (R0.out.below B1).stp.f
  clear c0 c1 c2 c3 c4 B1 R0 U
  go_upto_region 3 with fail
  clear x0 g0
  generalize W1.setCell ⟨x, 0, none⟩ (.bool hit) = W2 at R1 ⊢
  obtain ⟨c0, c1, c2, c3, c4⟩ := R1.out.two.box.c
  have V := find_any _ _ a A s R1.out.two.rows.a
  rw [hA] at V
  have V := Lib.hid V
  go_wp2_with fail
  refine V.out.mono ?_
  rintro e W3 ⟨rfl, B3⟩
  have b4 := B3.trans (((Below.refl W3.heap.size W3).alloc (Nat.le_refl _) (kObj (fk A s))).mono B3.size)
  have R2 := Lib.hid (R1.out.below b4)
  have KY := Lib.hid (show KBox (W3.alloc (kObj (fk A s))) W3.heap.size (fk A s) from heap_alloc_new _ _)
  have NY := Lib.hid (show W3.heap.size ≠ p ∧ W3.heap.size ≠ x from by have := (R1.out.below B3).two.box.lt; have := (R1.out.below B3).stp.lt; omega)
  clear c0 c1 c2 c3 c4 B3 b4 V R1
  go_upto_region 9 with fail
  generalize W3.alloc (kObj (fk A s)) = W4 at R2 KY ⊢
  generalize W3.heap.size = y at KY NY ⊢
  have R1 := Lib.hid R2.out
  clear R2
  obtain ⟨c0, c1, c2, c3, c4⟩ := R1.out.two.box.c
  clear KY NY
  have V := find_any _ _ n N s R1.out.two.rows.n
  rw [hN] at V
  have V := Lib.hid V
  go_wp2_with fail
  refine V.out.mono ?_
  rintro e W3 ⟨rfl, B3⟩
  have b4 := B3.trans (((Below.refl W3.heap.size W3).alloc (Nat.le_refl _) (kObj (fk N s))).mono B3.size)
  have R2 := Lib.hid (R1.out.below b4)
  have KY := Lib.hid (show KBox (W3.alloc (kObj (fk N s))) W3.heap.size (fk N s) from heap_alloc_new _ _)
  have NY := Lib.hid (show W3.heap.size ≠ p ∧ W3.heap.size ≠ x from by have := (R1.out.below B3).two.box.lt; have := (R1.out.below B3).stp.lt; omega)
  clear c0 c1 c2 c3 c4 B3 b4 V R1
  go_upto_region 11 with fail
  generalize W3.alloc (kObj (fk N s)) = W4 at R2 KY ⊢
  generalize W3.heap.size = y at KY NY ⊢
  have R1 := Lib.hid R2.out
  clear R2
  obtain ⟨c0, c1, c2, c3, c4⟩ := R1.out.two.box.c
  obtain ⟨y0, y1, y2⟩ := KY.out.c
  have HWL := Lib.hid (show (wo N s).length + A.length ≤ 1800 from by have := wo_le N s; omega)
  cases hd : (fk N s).d with
  | true =>
    by_cases htm : t < mo
    · have hu : u = t + 1 := by have := HU.out; rw [hd] at this; unfold nT at this; rwa [if_pos ⟨rfl, htm⟩] at this
      have e0 : decide (t < mo) = true := by simpa using htm
      have hw1 : IntKind.i64.wrap ((t : Int) + 1) = (u : Int) := by rw [IntWalk.i64_in _ (by omega)]; omega
      have R2 := Lib.hid (R1.out.setT u)
      obtain ⟨_, f1, _, _, _⟩ := R1.out.two.box.f
      rw [hd] at y2
      clear htm hu R1 KY NY HU hd
      go_upto_region 13 with fail
      clear c0 c1 c2 c3 c4 y0 y1 y2 f1 e0 hw1
      generalize W4.setCell ⟨p, 1, none⟩ (.int .i64 (u : Int)) = W5 at R2 ⊢
      have R1 := Lib.hid R2.out
      clear R2
      obtain ⟨c0, c1, c2, c3, c4⟩ := R1.out.two.box.c
      have U := Lib.hid (without_any _ _ n N s R1.out.two.rows.n (by omega) R1.out.two.cl)
      go_wp2_with fail
      refine U.out.mono ?_
      rintro e V1 ⟨n9, rfl, k9, B9⟩
      have R2 := Lib.hid ((R1.out.below B9).setN k9)
      obtain ⟨d0, d1, d2, d3, d4⟩ := (R1.out.below B9).two.box.c
      obtain ⟨f0, f1, f2, f3, f4⟩ := (R1.out.below B9).two.box.f
      clear c0 c1 c2 c3 c4 k9 B9 R1 U
      go_upto_region 14 with fail
      clear d0 d1 d2 d3 d4 f0 f1 f2 f3 f4
      generalize V1.setCell ⟨p, 2, none⟩ (.slice n9.A n9.n n9.c) = V2 at R2 ⊢
      have R1 := Lib.hid R2.out
      clear R2
      obtain ⟨c0, c1, c2, c3, c4⟩ := (R1.out.below (below_drew _)).two.box.c
      obtain ⟨x0, x1, x2⟩ := (R1.out.below (below_drew _)).stp.c
      obtain ⟨nrp, nrq, nxp, nxq, nrx⟩ := R1.out.ne
      have npq : p ≠ q := R1.out.two.ne
      have nqp : q ≠ p := Ne.symm npq
      have npr : p ≠ r := Ne.symm nrp
      have nqr : q ≠ r := Ne.symm nrq
      have npx : p ≠ x := Ne.symm nxp
      have nqx : q ≠ x := Ne.symm nxq
      have nxr : x ≠ r := Ne.symm nrx
      have U := Lib.hid (again_r _ _ mo u _ _ _ _ _ _ (R1.out.below (below_drew _)).two.rows (R1.out.below (below_drew _)).two.cl s hs HWL.out)
      have R2 := Lib.hid (R1.out.below (below_drew _))
      clear R1
      go_region_held3 (fun w' => w'.cell? ⟨p, 0, none⟩ = some (.int .i64 (mo : Int)) ∧ w'.cell? ⟨p, 1, none⟩ = some (.int .i64 (u : Int)) ∧ w'.cell? ⟨p, 2, none⟩ = some (.slice n9.A n9.n n9.c) ∧ w'.cell? ⟨p, 3, none⟩ = some (.slice a.A a.n a.c) ∧ w'.cell? ⟨p, 4, none⟩ = some (.slice g.A g.n g.c) ∧ w'.cell? ⟨x, 0, none⟩ = some (.bool hit) ∧ w'.cell? ⟨x, 1, none⟩ = some (.string ⟨#[]⟩) ∧ w'.cell? ⟨x, 2, none⟩ = some (.bool false)) (first | (with_reducible exact ⟨z0, z1, z2, z3, z4, z5, z6, z7⟩) | (with_reducible exact ⟨c0, c1, c2, c3, c4, x0, x1, x2⟩) | go_keep)
        ((go_at_call 39; refine U.out.mono ?_; rintro e V5 ⟨n4, a4, g4, rfl, RW4, B4⟩; have T4 := Lib.hid (And.intro (R2.out.below B4) RW4); obtain ⟨z0, z1, z2, z3, z4⟩ := T4.out.1.two.box.c; obtain ⟨z5, z6, z7⟩ := T4.out.1.stp.c; obtain ⟨⟨k0, k1, k2, k3, k4⟩, f0, f1, f2, f3, f4⟩ := T4.out.1.two.ten; obtain ⟨r0, r1, r2⟩ := T4.out.1.res.c; obtain ⟨g0, g1, g2'⟩ := T4.out.1.res.f; clear RW4 B4))
      all_goals
        have F := Lib.hid (T4.out.1.out (mo' := mo) (t' := u) (P0 := P) (fun k hk => hk.1.1.1) T4.out.2)
        go_wp2_with fail
        (try simp only [Exit.inBlock, Exit.then])
        refine bodyPost_ret (results_cc rfl _ _ _ ⟨q, 0, none⟩ ⟨r, 0, none⟩ _ _ rfl (load_r F.out.1) rfl (load_z F.out.2.1)) rfl ?_
        exact ⟨_, _, _, rfl, F.out.2.2.1, F.out.2.2.2⟩
    · have hu : u = t := by have := HU.out; rw [hd] at this; unfold nT at this; rwa [if_neg (fun h => htm h.2)] at this
      have e0 : decide (t < mo) = false := by simpa using htm
      rw [hd] at y2
      clear htm KY NY HU hd
      subst hu
      go_upto_region 13 with fail
      clear c0 c1 c2 c3 c4 y0 y1 y2 e0
      obtain ⟨c0, c1, c2, c3, c4⟩ := R1.out.two.box.c
      have U := Lib.hid (without_any _ _ n N s R1.out.two.rows.n (by omega) R1.out.two.cl)
      go_wp2_with fail
      refine U.out.mono ?_
      rintro e V1 ⟨n9, rfl, k9, B9⟩
      have R2 := Lib.hid ((R1.out.below B9).setN k9)
      obtain ⟨d0, d1, d2, d3, d4⟩ := (R1.out.below B9).two.box.c
      obtain ⟨f0, f1, f2, f3, f4⟩ := (R1.out.below B9).two.box.f
      clear c0 c1 c2 c3 c4 k9 B9 R1 U
      go_upto_region 14 with fail
      clear d0 d1 d2 d3 d4 f0 f1 f2 f3 f4
      generalize V1.setCell ⟨p, 2, none⟩ (.slice n9.A n9.n n9.c) = V2 at R2 ⊢
      have R1 := Lib.hid R2.out
      clear R2
      obtain ⟨c0, c1, c2, c3, c4⟩ := (R1.out.below (below_drew _)).two.box.c
      obtain ⟨x0, x1, x2⟩ := (R1.out.below (below_drew _)).stp.c
      obtain ⟨nrp, nrq, nxp, nxq, nrx⟩ := R1.out.ne
      have npq : p ≠ q := R1.out.two.ne
      have nqp : q ≠ p := Ne.symm npq
      have npr : p ≠ r := Ne.symm nrp
      have nqr : q ≠ r := Ne.symm nrq
      have npx : p ≠ x := Ne.symm nxp
      have nqx : q ≠ x := Ne.symm nxq
      have nxr : x ≠ r := Ne.symm nrx
      have U := Lib.hid (again_r _ _ mo u _ _ _ _ _ _ (R1.out.below (below_drew _)).two.rows (R1.out.below (below_drew _)).two.cl s hs HWL.out)
      have R2 := Lib.hid (R1.out.below (below_drew _))
      clear R1
      go_region_held3 (fun w' => w'.cell? ⟨p, 0, none⟩ = some (.int .i64 (mo : Int)) ∧ w'.cell? ⟨p, 1, none⟩ = some (.int .i64 (u : Int)) ∧ w'.cell? ⟨p, 2, none⟩ = some (.slice n9.A n9.n n9.c) ∧ w'.cell? ⟨p, 3, none⟩ = some (.slice a.A a.n a.c) ∧ w'.cell? ⟨p, 4, none⟩ = some (.slice g.A g.n g.c) ∧ w'.cell? ⟨x, 0, none⟩ = some (.bool hit) ∧ w'.cell? ⟨x, 1, none⟩ = some (.string ⟨#[]⟩) ∧ w'.cell? ⟨x, 2, none⟩ = some (.bool false)) (first | (with_reducible exact ⟨z0, z1, z2, z3, z4, z5, z6, z7⟩) | (with_reducible exact ⟨c0, c1, c2, c3, c4, x0, x1, x2⟩) | go_keep)
        ((go_at_call 39; refine U.out.mono ?_; rintro e V5 ⟨n4, a4, g4, rfl, RW4, B4⟩; have T4 := Lib.hid (And.intro (R2.out.below B4) RW4); obtain ⟨z0, z1, z2, z3, z4⟩ := T4.out.1.two.box.c; obtain ⟨z5, z6, z7⟩ := T4.out.1.stp.c; obtain ⟨⟨k0, k1, k2, k3, k4⟩, f0, f1, f2, f3, f4⟩ := T4.out.1.two.ten; obtain ⟨r0, r1, r2⟩ := T4.out.1.res.c; obtain ⟨g0, g1, g2'⟩ := T4.out.1.res.f; clear RW4 B4))
      all_goals
        have F := Lib.hid (T4.out.1.out (mo' := mo) (t' := u) (P0 := P) (fun k hk => hk.1.1.1) T4.out.2)
        go_wp2_with fail
        (try simp only [Exit.inBlock, Exit.then])
        refine bodyPost_ret (results_cc rfl _ _ _ ⟨q, 0, none⟩ ⟨r, 0, none⟩ _ _ rfl (load_r F.out.1) rfl (load_z F.out.2.1)) rfl ?_
        exact ⟨_, _, _, rfl, F.out.2.2.1, F.out.2.2.2⟩
  | false =>
    have hu : u = t := by have := HU.out; rw [hd] at this; unfold nT at this; rwa [if_neg (fun h => by cases h.1)] at this
    rw [hd] at y2
    clear KY NY HU hd
    subst hu
    go_upto_region 13 with fail
    clear c0 c1 c2 c3 c4 y0 y1 y2
    obtain ⟨c0, c1, c2, c3, c4⟩ := R1.out.two.box.c
    have U := Lib.hid (without_any _ _ n N s R1.out.two.rows.n (by omega) R1.out.two.cl)
    go_wp2_with fail
    refine U.out.mono ?_
    rintro e V1 ⟨n9, rfl, k9, B9⟩
    have R2 := Lib.hid ((R1.out.below B9).setN k9)
    obtain ⟨d0, d1, d2, d3, d4⟩ := (R1.out.below B9).two.box.c
    obtain ⟨f0, f1, f2, f3, f4⟩ := (R1.out.below B9).two.box.f
    clear c0 c1 c2 c3 c4 k9 B9 R1 U
    go_upto_region 14 with fail
    clear d0 d1 d2 d3 d4 f0 f1 f2 f3 f4
    generalize V1.setCell ⟨p, 2, none⟩ (.slice n9.A n9.n n9.c) = V2 at R2 ⊢
    have R1 := Lib.hid R2.out
    clear R2
    obtain ⟨c0, c1, c2, c3, c4⟩ := (R1.out.below (below_drew _)).two.box.c
    obtain ⟨x0, x1, x2⟩ := (R1.out.below (below_drew _)).stp.c
    obtain ⟨nrp, nrq, nxp, nxq, nrx⟩ := R1.out.ne
    have npq : p ≠ q := R1.out.two.ne
    have nqp : q ≠ p := Ne.symm npq
    have npr : p ≠ r := Ne.symm nrp
    have nqr : q ≠ r := Ne.symm nrq
    have npx : p ≠ x := Ne.symm nxp
    have nqx : q ≠ x := Ne.symm nxq
    have nxr : x ≠ r := Ne.symm nrx
    have U := Lib.hid (again_r _ _ mo u _ _ _ _ _ _ (R1.out.below (below_drew _)).two.rows (R1.out.below (below_drew _)).two.cl s hs HWL.out)
    have R2 := Lib.hid (R1.out.below (below_drew _))
    clear R1
    go_region_held3 (fun w' => w'.cell? ⟨p, 0, none⟩ = some (.int .i64 (mo : Int)) ∧ w'.cell? ⟨p, 1, none⟩ = some (.int .i64 (u : Int)) ∧ w'.cell? ⟨p, 2, none⟩ = some (.slice n9.A n9.n n9.c) ∧ w'.cell? ⟨p, 3, none⟩ = some (.slice a.A a.n a.c) ∧ w'.cell? ⟨p, 4, none⟩ = some (.slice g.A g.n g.c) ∧ w'.cell? ⟨x, 0, none⟩ = some (.bool hit) ∧ w'.cell? ⟨x, 1, none⟩ = some (.string ⟨#[]⟩) ∧ w'.cell? ⟨x, 2, none⟩ = some (.bool false)) (first | (with_reducible exact ⟨z0, z1, z2, z3, z4, z5, z6, z7⟩) | (with_reducible exact ⟨c0, c1, c2, c3, c4, x0, x1, x2⟩) | go_keep)
      ((go_at_call 39; refine U.out.mono ?_; rintro e V5 ⟨n4, a4, g4, rfl, RW4, B4⟩; have T4 := Lib.hid (And.intro (R2.out.below B4) RW4); obtain ⟨z0, z1, z2, z3, z4⟩ := T4.out.1.two.box.c; obtain ⟨z5, z6, z7⟩ := T4.out.1.stp.c; obtain ⟨⟨k0, k1, k2, k3, k4⟩, f0, f1, f2, f3, f4⟩ := T4.out.1.two.ten; obtain ⟨r0, r1, r2⟩ := T4.out.1.res.c; obtain ⟨g0, g1, g2'⟩ := T4.out.1.res.f; clear RW4 B4))
    all_goals
      have F := Lib.hid (T4.out.1.out (mo' := mo) (t' := u) (P0 := P) (fun k hk => hk.1.1.1) T4.out.2)
      go_wp2_with fail
      (try simp only [Exit.inBlock, Exit.then])
      refine bodyPost_ret (results_cc rfl _ _ _ ⟨q, 0, none⟩ ⟨r, 0, none⟩ _ _ rfl (load_r F.out.1) rfl (load_z F.out.2.1)) rfl ?_
      exact ⟨_, _, _, rfl, F.out.2.2.1, F.out.2.2.2⟩
end
end Go.Proofs.Ytmnflcidcoejiaa
