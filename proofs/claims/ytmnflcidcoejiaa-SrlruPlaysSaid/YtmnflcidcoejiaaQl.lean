/- The contracts of the reference's Remove, Adopt, New. -/
import Derived.Test.YtmnflcidcoejiaaQk
namespace Go.Proofs.Ytmnflcidcoejiaa
open Go.RowKit Sg

theorem below_put5 {w W : World} {x : Nat} (b : Below w.heap.size w W) (hl : w.heap.size ≤ x) (mo t : Nat) (n a g : Sl) : Below w.heap.size w (put5 W x mo t n a g) :=
  ((((b.setCell (p := ⟨x, 0, none⟩) hl _).setCell (p := ⟨x, 1, none⟩) hl _).setCell (p := ⟨x, 2, none⟩) hl _).setCell (p := ⟨x, 3, none⟩) hl _).setCell (p := ⟨x, 4, none⟩) hl _
section
variable (w : World) (P : Nat → Prop) (mo t : Nat) (n a g : Sl) (N A G : List KE) (h : Rw w P n a g N A G) (hP : Cl w P) (s : ByteArray) (hs : s.size ≤ maxLen) (hl : N.length + A.length ≤ 1700) (hgl : G.length ≤ 1700)
include h hP hl
set_option maxHeartbeats 1000000 in
theorem adopt_no (hit : Bool) (hh : (isK N s || isK A s) = hit) (hno : hit = true ∨ mo ≤ N.length + A.length) : Calls Try.prog 17 #[rAgg mo t n a g, .string s] w (CT w P (fun v => .tuple #[v, .bool false]) mo t N A G) := by
  have hnl := h.n.len
  have hal := h.a.len
  have R0 := Lib.hid (r2_start h hP mo t)
  clear h hP
  obtain ⟨m, hmm⟩ : ∃ m, m = N.length + A.length := ⟨_, rfl⟩
  have hwm : IntKind.i64.wrap ((n.n : Int) + (a.n : Int)) = (m : Int) := by rw [IntWalk.i64_in _ (by omega)]; omega
  go_enter Try.func17, Try.ntmps17
  go_upto_region 1 with fail
  generalize (w.alloc (rObj mo t n a g)).alloc rZero = W at R0 ⊢
  generalize w.heap.size + 1 = q at R0 ⊢
  obtain ⟨p, hp⟩ : ∃ p, p = w.heap.size := ⟨_, rfl⟩
  have HPL := Lib.hid (show w.heap.size ≤ p from Nat.le_of_eq hp.symm)
  rw [← hp] at R0 ⊢
  clear hp
  obtain ⟨c0, c1, c2, c3, c4⟩ := R0.out.box.c
  clear HPL
  have U := Lib.hid (has_r _ _ mo t _ _ _ _ _ _ R0.out.rows s)
  rw [hh] at U
  have HNO := Lib.hid hno
  clear hno hnl hal
  go_wp2_with fail
  refine U.out.mono ?_
  rintro e W1 ⟨rfl, B1⟩
  have R1 := Lib.hid (R0.out.below B1)
  clear c0 c1 c2 c3 c4 B1 R0 U
  cases hit with
  | true =>
    clear HNO hmm
    obtain ⟨c0, c1, c2, c3, c4⟩ := R1.out.box.c
    obtain ⟨⟨k0, k1, k2, k3, k4⟩, f0, f1, f2, f3, f4⟩ := R1.out.ten
    have F := Lib.hid (R1.out.out2 (mo' := mo) (t' := t) (P0 := P) (fun k hk => hk.1) R1.out.rows)
    go_wp2_with fail
    (try simp only [Exit.inBlock, Exit.then])
    refine bodyPost_ret (results_ct rfl _ _ _ ⟨q, 0, none⟩ _ rfl (load_r F.out.1)) rfl ?_
    exact ⟨_, _, _, rfl, F.out.2.1, F.out.2.2⟩
  | false =>
    have em : decide (mo ≤ m) = true := by have := HNO.out; simp at this; simp; omega
    clear HNO hmm
    obtain ⟨c0, c1, c2, c3, c4⟩ := R1.out.box.c
    obtain ⟨⟨k0, k1, k2, k3, k4⟩, f0, f1, f2, f3, f4⟩ := R1.out.ten
    have F := Lib.hid (R1.out.out2 (mo' := mo) (t' := t) (P0 := P) (fun k hk => hk.1) R1.out.rows)
    go_wp2_with fail
    (try simp only [Exit.inBlock, Exit.then])
    refine bodyPost_ret (results_ct rfl _ _ _ ⟨q, 0, none⟩ _ rfl (load_r F.out.1)) rfl ?_
    exact ⟨_, _, _, rfl, F.out.2.1, F.out.2.2⟩
include hgl
set_option maxHeartbeats 1000000 in
theorem remove_r : Calls Try.prog 16 #[rAgg mo t n a g, .string s] w (CT w P id mo t (wo N s) (wo A s) (wo G s)) := by
  have R0 := Lib.hid (r2_start h hP mo t)
  clear h hP
  go_enter Try.func16, Try.ntmps16
  go_upto_region 1 with fail
  generalize (w.alloc (rObj mo t n a g)).alloc rZero = W at R0 ⊢
  generalize w.heap.size + 1 = q at R0 ⊢
  obtain ⟨p, hp⟩ : ∃ p, p = w.heap.size := ⟨_, rfl⟩
  have HPL := Lib.hid (show w.heap.size ≤ p from Nat.le_of_eq hp.symm)
  rw [← hp] at R0 ⊢
  clear hp
  obtain ⟨c0, c1, c2, c3, c4⟩ := R0.out.box.c
  clear c0 c1 c2 c3 c4 HPL
  have R1 := Lib.hid R0.out
  clear R0
  obtain ⟨c0, c1, c2, c3, c4⟩ := R1.out.box.c
  have U := Lib.hid (without_any _ _ n _ s R1.out.rows.n (by omega) R1.out.cl)
  go_wp2_with fail
  refine U.out.mono ?_
  rintro e V1 ⟨n9, rfl, k9, B9⟩
  have R2 := Lib.hid ((R1.out.below B9).setN k9)
  obtain ⟨d0, d1, d2, d3, d4⟩ := (R1.out.below B9).box.c
  obtain ⟨f0, f1, f2, f3, f4⟩ := (R1.out.below B9).box.f
  clear c0 c1 c2 c3 c4 k9 B9 R1 U
  go_upto_region 2 with fail
  clear d0 d1 d2 d3 d4 f0 f1 f2 f3 f4
  generalize V1.setCell ⟨p, 2, none⟩ (.slice n9.A n9.n n9.c) = V2 at R2 ⊢
  have R1 := Lib.hid R2.out
  clear R2
  obtain ⟨c0, c1, c2, c3, c4⟩ := R1.out.box.c
  have U := Lib.hid (without_any _ _ a _ s R1.out.rows.a (by omega) R1.out.cl)
  go_wp2_with fail
  refine U.out.mono ?_
  rintro e V1 ⟨n9, rfl, k9, B9⟩
  have R2 := Lib.hid ((R1.out.below B9).setA k9)
  obtain ⟨d0, d1, d2, d3, d4⟩ := (R1.out.below B9).box.c
  obtain ⟨f0, f1, f2, f3, f4⟩ := (R1.out.below B9).box.f
  clear c0 c1 c2 c3 c4 k9 B9 R1 U
  go_upto_region 3 with fail
  clear d0 d1 d2 d3 d4 f0 f1 f2 f3 f4
  generalize V1.setCell ⟨p, 3, none⟩ (.slice n9.A n9.n n9.c) = V2 at R2 ⊢
  have R1 := Lib.hid R2.out
  clear R2
  obtain ⟨c0, c1, c2, c3, c4⟩ := R1.out.box.c
  have U := Lib.hid (without_any _ _ g _ s R1.out.rows.g (by omega) R1.out.cl)
  go_wp2_with fail
  refine U.out.mono ?_
  rintro e V1 ⟨n9, rfl, k9, B9⟩
  have R2 := Lib.hid ((R1.out.below B9).setG k9)
  obtain ⟨d0, d1, d2, d3, d4⟩ := (R1.out.below B9).box.c
  obtain ⟨f0, f1, f2, f3, f4⟩ := (R1.out.below B9).box.f
  clear c0 c1 c2 c3 c4 k9 B9 R1 U
  go_upto_region 4 with fail
  clear d0 d1 d2 d3 d4 f0 f1 f2 f3 f4
  generalize V1.setCell ⟨p, 4, none⟩ (.slice n9.A n9.n n9.c) = V2 at R2 ⊢
  have R1 := Lib.hid R2.out
  clear R2
  obtain ⟨c0, c1, c2, c3, c4⟩ := R1.out.box.c
  obtain ⟨⟨k0, k1, k2, k3, k4⟩, f0, f1, f2, f3, f4⟩ := R1.out.ten
  have F := Lib.hid (R1.out.out2 (mo' := mo) (t' := t) (P0 := P) (fun k hk => hk.1) R1.out.rows)
  go_wp2_with fail
  (try simp only [Exit.inBlock, Exit.then])
  refine bodyPost_ret (results_c rfl _ _ _ ⟨q, 0, none⟩ _ rfl (load_r F.out.1)) rfl ?_
  exact ⟨_, _, _, rfl, F.out.2.1, F.out.2.2⟩
include hs
set_option maxHeartbeats 1000000 in
theorem adopt_yes (hh : (isK N s || isK A s) = false) (hno : N.length + A.length < mo) : Calls Try.prog 17 #[rAgg mo t n a g, .string s] w (CT w P (fun v => .tuple #[v, .bool true]) mo t (⟨s, false, false⟩ :: N) A (wo G s)) := by
  have hnl := h.n.len
  have hal := h.a.len
  have R0 := Lib.hid (r2_start h hP mo t)
  clear h hP
  obtain ⟨m, hmm⟩ : ∃ m, m = N.length + A.length := ⟨_, rfl⟩
  have hwm : IntKind.i64.wrap ((n.n : Int) + (a.n : Int)) = (m : Int) := by rw [IntWalk.i64_in _ (by omega)]; omega
  have em : decide (mo ≤ m) = false := by simp; omega
  go_enter Try.func17, Try.ntmps17
  go_upto_region 1 with fail
  generalize (w.alloc (rObj mo t n a g)).alloc rZero = W at R0 ⊢
  generalize w.heap.size + 1 = q at R0 ⊢
  obtain ⟨p, hp⟩ : ∃ p, p = w.heap.size := ⟨_, rfl⟩
  have HPL := Lib.hid (show w.heap.size ≤ p from Nat.le_of_eq hp.symm)
  rw [← hp] at R0 ⊢
  clear hp
  obtain ⟨c0, c1, c2, c3, c4⟩ := R0.out.box.c
  clear HPL hnl hal hmm hno
  have U := Lib.hid (has_r _ _ mo t _ _ _ _ _ _ R0.out.rows s)
  rw [hh] at U
  go_wp2_with fail
  refine U.out.mono ?_
  rintro e W1 ⟨rfl, B1⟩
  have R1 := Lib.hid (R0.out.below B1)
  clear c0 c1 c2 c3 c4 B1 R0 U
  obtain ⟨c0, c1, c2, c3, c4⟩ := R1.out.box.c
  go_upto_region 3 with fail
  clear c0 c1 c2 c3 c4
  obtain ⟨c0, c1, c2, c3, c4⟩ := R1.out.box.c
  have U := Lib.hid (without_any _ _ g _ s R1.out.rows.g (by omega) R1.out.cl)
  go_wp2_with fail
  refine U.out.mono ?_
  rintro e V1 ⟨n9, rfl, k9, B9⟩
  have R2 := Lib.hid ((R1.out.below B9).setG k9)
  obtain ⟨d0, d1, d2, d3, d4⟩ := (R1.out.below B9).box.c
  obtain ⟨f0, f1, f2, f3, f4⟩ := (R1.out.below B9).box.f
  clear c0 c1 c2 c3 c4 k9 B9 R1 U
  go_upto_region 4 with fail
  clear d0 d1 d2 d3 d4 f0 f1 f2 f3 f4
  generalize V1.setCell ⟨p, 4, none⟩ (.slice n9.A n9.n n9.c) = V2 at R2 ⊢
  have R1 := Lib.hid R2.out
  clear R2
  obtain ⟨c0, c1, c2, c3, c4⟩ := R1.out.box.c
  have U := Lib.hid (front_k _ _ n _ ⟨s, false, false⟩ R1.out.rows.n (by omega) hs R1.out.cl)
  go_wp2_with fail
  refine U.out.mono ?_
  rintro e V6 ⟨n8, rfl, k8, B8⟩
  have R2 := Lib.hid ((R1.out.below B8).setN k8)
  obtain ⟨d0, d1, d2, d3, d4⟩ := (R1.out.below B8).box.c
  obtain ⟨f0, f1, f2, f3, f4⟩ := (R1.out.below B8).box.f
  clear c0 c1 c2 c3 c4 k8 B8 R1 U
  go_upto_region 5 with fail
  clear d0 d1 d2 d3 d4 f0 f1 f2 f3 f4
  generalize V6.setCell ⟨p, 2, none⟩ (.slice n8.A n8.n n8.c) = V7 at R2 ⊢
  have R1 := Lib.hid R2.out
  clear R2
  obtain ⟨c0, c1, c2, c3, c4⟩ := R1.out.box.c
  obtain ⟨⟨k0, k1, k2, k3, k4⟩, f0, f1, f2, f3, f4⟩ := R1.out.ten
  have F := Lib.hid (R1.out.out2 (mo' := mo) (t' := t) (P0 := P) (fun k hk => hk.1) R1.out.rows)
  go_wp2_with fail
  (try simp only [Exit.inBlock, Exit.then])
  refine bodyPost_ret (results_ct rfl _ _ _ ⟨q, 0, none⟩ _ rfl (load_r F.out.1)) rfl ?_
  exact ⟨_, _, _, rfl, F.out.2.1, F.out.2.2⟩
end
theorem newR (w : World) (z : Int) (m : Nat) (hz : -9223372036854775808 ≤ z ∧ z ≤ 9223372036854775807) (hn : m = z.toNat) : Calls Try.prog 11 #[.int .i64 z] w (fun e w' => e = .returned (rAgg m (m / 2) ⟨none, 0, 0⟩ ⟨none, 0, 0⟩ ⟨none, 0, 0⟩) ∧ Below w.heap.size w w') := by
  obtain ⟨u, hu⟩ : ∃ u, u = m / 2 := ⟨_, rfl⟩
  have e2 : (m : Int).tdiv 2 = (u : Int) := by rw [hu, Int.tdiv_eq_ediv_of_nonneg (by omega)]; rfl
  rw [← hu]
  have e3 : IntKind.i64.wrap (u : Int) = (u : Int) := IntWalk.i64_in _ (by omega)
  have K0 := Lib.hid (show RB (w.alloc rZero) w.heap.size 0 0 ⟨none, 0, 0⟩ ⟨none, 0, 0⟩ ⟨none, 0, 0⟩ from heap_alloc_new _ _)
  have B0 := Lib.hid ((Below.refl w.heap.size w).alloc (Nat.le_refl _) rZero)
  by_cases h0 : z < 0
  · have e0 : decide (z < 0) = true := by simpa using h0
    obtain rfl : m = 0 := by omega
    obtain rfl : u = 0 := hu
    clear hn h0 e2 e3
    go_enter Try.func11, Try.ntmps11
    go_upto_region 1 with fail
    obtain ⟨q, hq⟩ : ∃ q, q = w.heap.size := ⟨_, rfl⟩
    have HQ := Lib.hid (show w.heap.size ≤ q from Nat.le_of_eq hq.symm)
    rw [← hq] at K0 ⊢
    clear hq
    generalize w.alloc rZero = W at K0 B0 ⊢
    obtain ⟨c0, c1, c2, c3, c4⟩ := K0.out.c
    obtain ⟨f0, f1, f2, f3, f4⟩ := K0.out.f
    have F := Lib.hid (show RB (((((W.setCell ⟨q, 0, none⟩ (.int .i64 0)).setCell ⟨q, 1, none⟩ (.int .i64 0)).setCell ⟨q, 2, none⟩ (.slice none 0 0)).setCell ⟨q, 3, none⟩ (.slice none 0 0)).setCell ⟨q, 4, none⟩ (.slice none 0 0)) q 0 0 ⟨none, 0, 0⟩ ⟨none, 0, 0⟩ ⟨none, 0, 0⟩ ∧ Below w.heap.size w (((((W.setCell ⟨q, 0, none⟩ (.int .i64 0)).setCell ⟨q, 1, none⟩ (.int .i64 0)).setCell ⟨q, 2, none⟩ (.slice none 0 0)).setCell ⟨q, 3, none⟩ (.slice none 0 0)).setCell ⟨q, 4, none⟩ (.slice none 0 0)) from ⟨K0.out.put (mo' := 0) (t' := 0) (n' := ⟨none, 0, 0⟩) (a' := ⟨none, 0, 0⟩) (g' := ⟨none, 0, 0⟩), below_put5 B0.out HQ.out 0 0 ⟨none, 0, 0⟩ ⟨none, 0, 0⟩ ⟨none, 0, 0⟩⟩)
    go_wp2_with fail
    (try simp only [Exit.inBlock, Exit.then])
    refine bodyPost_ret (results_c rfl _ _ _ ⟨q, 0, none⟩ _ rfl (load_r F.out.1)) rfl ?_
    exact ⟨rfl, F.out.2⟩
  · have e0 : decide (z < 0) = false := by simpa using h0
    obtain rfl : z = (m : Int) := by omega
    clear hn h0 hu
    go_enter Try.func11, Try.ntmps11
    go_upto_region 1 with fail
    obtain ⟨q, hq⟩ : ∃ q, q = w.heap.size := ⟨_, rfl⟩
    have HQ := Lib.hid (show w.heap.size ≤ q from Nat.le_of_eq hq.symm)
    rw [← hq] at K0 ⊢
    clear hq
    generalize w.alloc rZero = W at K0 B0 ⊢
    obtain ⟨c0, c1, c2, c3, c4⟩ := K0.out.c
    obtain ⟨f0, f1, f2, f3, f4⟩ := K0.out.f
    have F := Lib.hid (K0.out.put (mo' := m) (t' := u) (n' := ⟨none, 0, 0⟩) (a' := ⟨none, 0, 0⟩) (g' := ⟨none, 0, 0⟩))
    have B := Lib.hid (below_put5 B0.out HQ.out m u ⟨none, 0, 0⟩ ⟨none, 0, 0⟩ ⟨none, 0, 0⟩)
    go_wp2_with fail
    (try simp only [Exit.inBlock, Exit.then])
    refine bodyPost_ret (results_c rfl _ _ _ ⟨q, 0, none⟩ _ rfl (load_r F.out)) rfl ?_
    exact ⟨rfl, B.out⟩
end Go.Proofs.Ytmnflcidcoejiaa
