/- The contracts of the reference's Drop, evict, again. -/
import Derived.Test.YtmnflcidcoejiaaQd
namespace Go.Proofs.Ytmnflcidcoejiaa
open Go.RowKit Sg

def vK (N A : List KE) : KE := if N = [] then lastE A else lastE N
theorem lastE_mem {L : List KE} (h : L ≠ []) : lastE L ∈ L := List.mem_of_getElem? (lastE_get h)
theorem vK_small {w : World} {P : Nat → Prop} {n a : Sl} {N A : List KE} (hn : KW w P n N) (ha : KW w P a A) (hne : N ++ A ≠ []) : (vK N A).s.size ≤ maxLen := by
  unfold vK
  split
  · rename_i h; exact ha.small _ (lastE_mem (by rw [h] at hne; exact hne))
  · rename_i h; exact hn.small _ (lastE_mem h)
def g1N (N : List KE) : List KE := N.dropLast
def g1A (N A : List KE) : List KE := if N = [] then A.dropLast else A
theorem results_ctt {fn : Func} {a u x : Tmp} {ty : TypeId} (h : fn.results = #[.cell a ty, .tmp u, .tmp x]) (tmps : Array Value) (P : Program) (w : World) (p : Addr) (v : Value) (ha : tmps.getD a undef = .pointer (some p)) (hv : (loadVar ty p).run P w = .ok v w) :
    (results fn tmps).run P w = .ok (.tuple #[v, tmps.getD u undef, tmps.getD x undef]) w := by
  rw [Array.getD_eq_getD_getElem?] at ha
  simp [results, h, ha, asAddr, hv]
section
variable {w W w2 : World} {P : Nat → Prop} {p q mo t : Nat} {n a g n2 a2 g2 : Sl} {N A G N2 A2 G2 : List KE}
theorem R2.other {x : Nat} (r : R2 w W P p q mo t n a g N A G) (hx : ¬ P x) (hp : x ≠ p) (hq : x ≠ q) (hl : w.heap.size ≤ x) (j : Nat) (u : Value) : R2 w (W.setCell ⟨x, j, none⟩ u) P p q mo t n a g N A G :=
  ⟨r.box.other (Ne.symm hp) _, r.rows.set hx _, r.res.other (Ne.symm hq) _, r.bel.setCell (p := ⟨x, j, none⟩) hl _, r.low, r.ne, r.np, r.cset _⟩
theorem R2.took (r : R2 w W P p q mo t n a g N A G) (b : Below W.heap.size W w2) (h : Rw w2 P n2 a2 g2 N2 A2 G2) (e : KE) :
    R2 w (put3 (put5 (w2.alloc kZero) p mo t n2 a2 g2) w2.heap.size e) (ex P w2.heap.size) p q mo t n2 a2 g2 N2 A2 G2 ∧ KBox (put3 (put5 (w2.alloc kZero) p mo t n2 a2 g2) w2.heap.size e) w2.heap.size e ∧ w2.heap.size ≠ p ∧ w2.heap.size ≠ q ∧ w.heap.size ≤ w2.heap.size := by
  have r0 := r.below b
  have hp := r0.box.lt
  have hq := r0.res.lt
  have hl := r0.bel.size
  have hne : ¬ ex P w2.heap.size w2.heap.size := fun h => h.2 rfl
  have r1 := r0.alloc kZero
  have h1 : Rw (w2.alloc kZero) (ex P w2.heap.size) n2 a2 g2 N2 A2 G2 := (h.wide fun k hk hl => ⟨hk, by omega⟩).below ((Below.refl w2.heap.size w2).alloc (Nat.le_refl _) kZero)
  have r2 := r1.setAll (mo' := mo) (t' := t) h1
  have k0 : KBox (w2.alloc kZero) w2.heap.size ⟨⟨#[]⟩, false, false⟩ := heap_alloc_new _ _
  have k1 := k0.put5 (p := p) (by omega) mo t n2 a2 g2
  generalize put5 (w2.alloc kZero) p mo t n2 a2 g2 = V at r2 k1 ⊢
  have r3 := ((r2.other hne (by omega) (by omega) hl 0 (.string e.s)).other hne (by omega) (by omega) hl 1 (.bool e.o)).other hne (by omega) (by omega) hl 2 (.bool e.d)
  exact ⟨r3, k1.put3 e, by omega, by omega, hl⟩
end
theorem KBox.setD {w : World} {x : Nat} {e : KE} (k : KBox w x e) (b : Bool) : KBox (w.setCell ⟨x, 2, none⟩ (.bool b)) x ⟨e.s, e.o, b⟩ := by
  unfold KBox at *
  rw [heap_setCell_same _ _ _ _ _ _ k]; rfl
section
variable (w : World) (P : Nat → Prop) (mo t : Nat) (n a g : Sl) (N A G : List KE) (h : Rw w P n a g N A G) (hP : Cl w P)
include h hP
theorem go1_r (hne : N ++ A ≠ []) : Calls Try.prog 53 #[rAgg mo t n a g] w (CT w P (fun v => .tuple #[v, (vK N A).v]) mo t (g1N N) (g1A N A) G) := by
  unfold vK g1N g1A
  by_cases hN : N = []
  · rw [if_pos hN, if_pos hN]
    have := go1_A w P mo t n a g N A G h hP hN (by rw [hN] at hne; exact hne)
    rw [hN] at this ⊢
    exact this
  · rw [if_neg hN, if_neg hN]
    exact go1_N w P mo t n a g N A G h hP hN
set_option maxHeartbeats 1000000 in
theorem drop_none (hne : N ++ A = []) : Calls Try.prog 20 #[rAgg mo t n a g] w (CT w P (fun v => .tuple #[v, .string ⟨#[]⟩, .bool false]) mo t N A G) := by
  have R0 := Lib.hid (r2_start h hP mo t)
  have hn9 := h.n.len
  have ha9 := h.a.len
  rw [(List.append_eq_nil_iff.1 hne).1] at hn9
  rw [(List.append_eq_nil_iff.1 hne).2] at ha9
  have hn : n.n = 0 := hn9.symm
  have ha : a.n = 0 := ha9.symm
  have hw1 : IntKind.i64.wrap ((n.n : Int) + (a.n : Int)) = 0 := by rw [hn, ha]; rfl
  clear h hP hne hn ha
  clear hn9 ha9
  go_enter Try.func20, Try.ntmps20
  go_upto_region 1 with fail
  generalize (w.alloc (rObj mo t n a g)).alloc rZero = W at R0 ⊢
  generalize w.heap.size + 1 = q at R0 ⊢
  obtain ⟨p, hp⟩ : ∃ p, p = w.heap.size := ⟨_, rfl⟩
  have HPL := Lib.hid (show w.heap.size ≤ p from Nat.le_of_eq hp.symm)
  rw [← hp] at R0 ⊢
  clear hp
  obtain ⟨c0, c1, c2, c3, c4⟩ := R0.out.box.c
  obtain ⟨⟨k0, k1, k2, k3, k4⟩, f0, f1, f2, f3, f4⟩ := R0.out.ten
  have F := Lib.hid (R0.out.out (mo' := mo) (t' := t) R0.out.rows)
  go_wp2_with fail
  (try simp only [Exit.inBlock, Exit.then])
  refine bodyPost_ret (results_ctt rfl _ _ _ ⟨q, 0, none⟩ _ rfl (load_r F.out.1)) rfl ?_
  exact ⟨n, a, g, rfl, F.out.2.1, F.out.2.2⟩
set_option maxHeartbeats 1000000 in
theorem drop_some (hne : N ++ A ≠ []) : Calls Try.prog 20 #[rAgg mo t n a g] w (CT w P (fun v => .tuple #[v, .string (vK N A).s, .bool true]) mo t (g1N N) (g1A N A) G) := by
  have R0 := Lib.hid (r2_start h hP mo t)
  have hn := h.n.len
  have ha := h.a.len
  have hn2 := h.n.le
  have ha2 := h.a.le
  have hl := List.length_pos_iff.2 hne
  rw [List.length_append] at hl
  obtain ⟨m, hm⟩ : ∃ m, m = n.n + a.n := ⟨_, rfl⟩
  have hw1 : IntKind.i64.wrap ((n.n : Int) + (a.n : Int)) = (m : Int) := by rw [IntWalk.i64_in _ (by omega)]; omega
  have e0 : ((m : Int) == 0) = false := by simp; omega
  have e0' : (m == 0) = false := by simp; omega
  clear h hP hn ha hn2 ha2 hl hm
  go_enter Try.func20, Try.ntmps20
  go_upto_region 1 with fail
  generalize (w.alloc (rObj mo t n a g)).alloc rZero = W at R0 ⊢
  generalize w.heap.size + 1 = q at R0 ⊢
  obtain ⟨p, hp⟩ : ∃ p, p = w.heap.size := ⟨_, rfl⟩
  have HPL := Lib.hid (show w.heap.size ≤ p from Nat.le_of_eq hp.symm)
  rw [← hp] at R0 ⊢
  clear hp
  obtain ⟨c0, c1, c2, c3, c4⟩ := R0.out.box.c
  have U := Lib.hid (go1_r W (wi P p q) mo t n a g N A G R0.out.rows R0.out.cl hne)
  go_wp2_with fail
  refine U.out.mono ?_
  rintro e w2 ⟨n2, a2, g2, rfl, RW2, B2⟩
  have r1 := (R0.out.below B2).alloc kZero
  have T := Lib.hid (R0.out.took B2 RW2 (vK N A))
  obtain ⟨d0, d1, d2, d3, d4⟩ := r1.box.c
  obtain ⟨f0, f1, f2, f3, f4⟩ := r1.box.f
  have kb : KBox (w2.alloc kZero) w2.heap.size ⟨⟨#[]⟩, false, false⟩ := heap_alloc_new _ _
  obtain ⟨y0, y1, y2⟩ := kb.c
  obtain ⟨g0, g1, g2'⟩ := kb.f
  obtain ⟨nyp, nyq, nly⟩ := T.out.2.2
  have npy : p ≠ w2.heap.size := Ne.symm nyp
  clear RW2 B2 r1 kb R0 U HPL
  clear c0 c1 c2 c3 c4
  go_upto_region 4 with fail
  clear d0 d1 d2 d3 d4 f0 f1 f2 f3 f4 y0 y1 y2 g0 g1 g2'
  dsimp only [Go.Proofs.Ytmnflcidcoejiaa.put3, Go.Proofs.Ytmnflcidcoejiaa.put5] at T
  generalize ((((((((w2.alloc kZero).setCell ⟨p, 0, none⟩ (.int .i64 (mo : Int))).setCell ⟨p, 1, none⟩ (.int .i64 (t : Int))).setCell ⟨p, 2, none⟩ (.slice n2.A n2.n n2.c)).setCell ⟨p, 3, none⟩ (.slice a2.A a2.n a2.c)).setCell ⟨p, 4, none⟩ (.slice g2.A g2.n g2.c)).setCell ⟨w2.heap.size, 0, none⟩ (.string (vK N A).s)).setCell ⟨w2.heap.size, 1, none⟩ (.bool (vK N A).o)).setCell ⟨w2.heap.size, 2, none⟩ (.bool (vK N A).d) = V at T ⊢
  generalize w2.heap.size = y at T nyp nyq nly npy ⊢
  obtain ⟨c0, c1, c2, c3, c4⟩ := T.out.1.box.c
  obtain ⟨y0, _, _⟩ := T.out.2.1.c
  obtain ⟨⟨k0, k1, k2, k3, k4⟩, f0, f1, f2, f3, f4⟩ := T.out.1.ten
  have nqy : q ≠ y := Ne.symm nyq
  have npq : p ≠ q := T.out.1.ne
  have nqp : q ≠ p := Ne.symm npq
  go_region
  have F := Lib.hid (T.out.1.out2 (mo' := mo) (t' := t) (P0 := P) (fun k hk => hk.1.1) T.out.1.rows)
  go_wp2_with fail
  (try simp only [Exit.inBlock, Exit.then])
  refine bodyPost_ret (results_ctt rfl _ _ _ ⟨q, 0, none⟩ _ rfl (load_r (F.out.1.below (below_drew _)))) rfl ?_
  exact ⟨n2, a2, g2, rfl, F.out.2.1.drew, F.out.2.2.trans ((below_drew _).mono F.out.2.2.size)⟩
set_option maxHeartbeats 1000000 in
theorem evict_r (hne : N ++ A ≠ []) (hm : mo ≤ 9223372036854775807) (hgl : G.length ≤ 1800) : Calls Try.prog 40 #[rAgg mo t n a g] w (CT w P (fun v => .tuple #[v, .string (vK N A).s]) mo t (g1N N) (g1A N A) (((⟨(vK N A).s, (vK N A).o, false⟩ : KE) :: G).take mo)) := by
  have R0 := Lib.hid (r2_start h hP mo t)
  have HS := Lib.hid (show (vK N A).s.size ≤ maxLen from vK_small h.n h.a hne)
  clear h hP
  go_enter Try.func40, Try.ntmps40
  go_upto_region 1 with fail
  generalize (w.alloc (rObj mo t n a g)).alloc rZero = W at R0 ⊢
  generalize w.heap.size + 1 = q at R0 ⊢
  obtain ⟨p, hp⟩ : ∃ p, p = w.heap.size := ⟨_, rfl⟩
  have HPL := Lib.hid (show w.heap.size ≤ p from Nat.le_of_eq hp.symm)
  rw [← hp] at R0 ⊢
  clear hp
  obtain ⟨c0, c1, c2, c3, c4⟩ := R0.out.box.c
  have U := Lib.hid (go1_r W (wi P p q) mo t n a g N A G R0.out.rows R0.out.cl hne)
  go_wp2_with fail
  refine U.out.mono ?_
  rintro e w2 ⟨n2, a2, g2, rfl, RW2, B2⟩
  have r1 := (R0.out.below B2).alloc kZero
  have T := Lib.hid (R0.out.took B2 RW2 (vK N A))
  obtain ⟨d0, d1, d2, d3, d4⟩ := r1.box.c
  obtain ⟨f0, f1, f2, f3, f4⟩ := r1.box.f
  have kb : KBox (w2.alloc kZero) w2.heap.size ⟨⟨#[]⟩, false, false⟩ := heap_alloc_new _ _
  obtain ⟨y0, y1, y2⟩ := kb.c
  obtain ⟨g0, g1, g2'⟩ := kb.f
  obtain ⟨nyp, nyq, nly⟩ := T.out.2.2
  have npy : p ≠ w2.heap.size := Ne.symm nyp
  clear RW2 B2 r1 kb R0 U HPL
  clear c0 c1 c2 c3 c4
  go_upto_region 2 with fail
  clear d0 d1 d2 d3 d4 f0 f1 f2 f3 f4 y0 y1 y2 g0 g1 g2'
  dsimp only [Go.Proofs.Ytmnflcidcoejiaa.put3, Go.Proofs.Ytmnflcidcoejiaa.put5] at T
  generalize ((((((((w2.alloc kZero).setCell ⟨p, 0, none⟩ (.int .i64 (mo : Int))).setCell ⟨p, 1, none⟩ (.int .i64 (t : Int))).setCell ⟨p, 2, none⟩ (.slice n2.A n2.n n2.c)).setCell ⟨p, 3, none⟩ (.slice a2.A a2.n a2.c)).setCell ⟨p, 4, none⟩ (.slice g2.A g2.n g2.c)).setCell ⟨w2.heap.size, 0, none⟩ (.string (vK N A).s)).setCell ⟨w2.heap.size, 1, none⟩ (.bool (vK N A).o)).setCell ⟨w2.heap.size, 2, none⟩ (.bool (vK N A).d) = V at T ⊢
  generalize w2.heap.size = y at T nyp nyq nly npy ⊢
  obtain ⟨y0, y1, y2⟩ := T.out.2.1.c
  obtain ⟨_, _, f2⟩ := T.out.2.1.f
  have T2 := Lib.hid (And.intro (T.out.1.other (fun h => h.2 rfl) nyp nyq nly 2 (.bool false)) (T.out.2.1.setD false))
  go_upto_region 3 with fail
  clear y0 y1 y2 f2 T
  generalize V.setCell ⟨y, 2, none⟩ (.bool false) = V2 at T2 ⊢
  obtain ⟨c0, c1, c2, c3, c4⟩ := T2.out.1.box.c
  obtain ⟨y0, y1, y2⟩ := T2.out.2.c
  have U := Lib.hid (front_k V2 _ g2 G ⟨(vK N A).s, (vK N A).o, false⟩ T2.out.1.rows.g (by omega) HS.out T2.out.1.cl)
  go_wp2_with fail
  refine U.out.mono ?_
  rintro e V3 ⟨g3, rfl, k3, B3⟩
  have T3 := Lib.hid (And.intro ((T2.out.1.below B3).setG k3) ((T2.out.2.below B3).other (z := ⟨p, 4, none⟩) nyp (.slice g3.A g3.n g3.c)))
  obtain ⟨_, _, _, _, d4⟩ := (T2.out.1.below B3).box.c
  obtain ⟨_, _, _, _, f4⟩ := (T2.out.1.below B3).box.f
  clear c0 c1 c2 c3 c4 y0 y1 y2 k3 B3 T2 U
  go_upto_region 4 with fail
  clear d4 f4
  generalize V3.setCell ⟨p, 4, none⟩ (.slice g3.A g3.n g3.c) = V4 at T3 ⊢
  obtain ⟨c0, c1, c2, c3, c4⟩ := T3.out.1.box.c
  obtain ⟨y0, _, _⟩ := T3.out.2.c
  obtain ⟨⟨k0, k1, k2, k3, k4⟩, f0, f1, f2, f3, f4⟩ := T3.out.1.ten
  have nqy : q ≠ y := Ne.symm nyq
  have npq : p ≠ q := T3.out.1.ne
  have nqp : q ≠ p := Ne.symm npq
  obtain ⟨d0, d1, d2, d3, d4⟩ := (T3.out.1.below (below_drew _)).box.c
  obtain ⟨d5, _, _⟩ := (T3.out.2.below (below_drew _)).c
  have U := Lib.hid (trim_r V4.drew _ mo t n2 a2 g3 _ _ _ (T3.out.1.below (below_drew _)).rows (T3.out.1.below (below_drew _)).cl hm)
  go_region_held3 (fun w' => w'.cell? ⟨p, 0, none⟩ = some (.int .i64 (mo : Int)) ∧ w'.cell? ⟨p, 1, none⟩ = some (.int .i64 (t : Int)) ∧ w'.cell? ⟨p, 2, none⟩ = some (.slice n2.A n2.n n2.c) ∧ w'.cell? ⟨p, 3, none⟩ = some (.slice a2.A a2.n a2.c) ∧ w'.cell? ⟨p, 4, none⟩ = some (.slice g3.A g3.n g3.c) ∧ w'.cell? ⟨y, 0, none⟩ = some (.string (vK N A).s)) (first | (with_reducible exact ⟨z0, z1, z2, z3, z4, z5⟩) | (with_reducible exact ⟨d0, d1, d2, d3, d4, d5⟩) | go_keep)
    ((go_at_call 54; refine U.out.mono ?_; rintro e V5 ⟨n4, a4, g4, rfl, RW4, B4⟩; have T4 := Lib.hid (And.intro ((T3.out.1.below (below_drew _)).below B4) RW4); obtain ⟨z0, z1, z2, z3, z4⟩ := T4.out.1.box.c; obtain ⟨z5, _, _⟩ := ((T3.out.2.below (below_drew _)).below B4).c; obtain ⟨⟨k0, k1, k2, k3, k4⟩, f0, f1, f2, f3, f4⟩ := T4.out.1.ten; clear RW4 B4))
  all_goals
    have F := Lib.hid (T4.out.1.out2 (mo' := mo) (t' := t) (P0 := P) (fun k hk => hk.1.1) T4.out.2)
    go_wp2_with fail
    refine bodyPost_ret (results_ct rfl _ _ _ ⟨q, 0, none⟩ _ rfl (load_r F.out.1)) rfl ?_
    exact ⟨n4, a4, g4, rfl, F.out.2.1, F.out.2.2⟩
end
end Go.Proofs.Ytmnflcidcoejiaa
