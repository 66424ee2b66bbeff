/- The contract of the reference's Resize. -/
import Derived.Test.YtmnflcidcoejiaaQl
namespace Go.Proofs.Ytmnflcidcoejiaa
open Go.RowKit Sg

def evG (mo : Nat) (N A G : List KE) : List KE := ((⟨(vK N A).s, (vK N A).o, false⟩ : KE) :: G).take mo
def evs (mo : Nat) : Nat → List KE → List KE → List KE → List KE × List KE × List KE
  | 0, N, A, G => (N, A, G)
  | k + 1, N, A, G => evs mo k (g1N N) (g1A N A) (evG mo N A G)
def evo : Nat → List KE → List KE → List ByteArray
  | 0, _, _ => []
  | k + 1, N, A => (vK N A).s :: evo k (g1N N) (g1A N A)
theorem g1_len {N A : List KE} (h : N ++ A ≠ []) : (g1N N).length + (g1A N A).length + 1 = N.length + A.length := by
  unfold g1N g1A
  by_cases hN : N = []
  · rw [if_pos hN, hN, List.length_dropLast]
    rw [hN, List.nil_append] at h
    have := List.length_pos_iff.2 h
    simp; omega
  · rw [if_neg hN, List.length_dropLast]
    have := List.length_pos_iff.2 hN
    omega
theorem evG_len (mo : Nat) (N A G : List KE) : (evG mo N A G).length ≤ G.length + 1 := by
  unfold evG
  rw [List.length_take, List.length_cons]; omega
def exv (P : Nat → Prop) (v : Value) : Nat → Prop := fun k => P k ∧ v.ownBlock ≠ some k
section
variable {w W W' : World} {P : Nat → Prop} {p q mo t base : Nat} {n a g : Sl} {N A G L : List KE} {v v' : Value} {r : Sl} {xs : List ByteArray}
theorem KW.appd (h : KW W (exv P v) r L) (hT : Turn (fun k => v.ownBlock = some k) W W') (hloc : ∀ g, v'.ownBlock = some g → v.ownBlock = some g ∨ W.heap.size ≤ g) : KW W' (exv P v') r L :=
  h.same hT.size (fun g hg hl => hT.block g hl hg.2) fun g hg hl => ⟨hg.1, fun e => (hloc g e).elim hg.2 fun h => by omega⟩
theorem R2.appd (k : R2 w W (exv P v) p q mo t n a g N A G) (hP : ¬ P p ∧ ¬ P q) (hc : ∀ i, W'.heap.size ≤ i → P i) (hT : Turn (fun k => v.ownBlock = some k) W W') (hloc : ∀ g, v'.ownBlock = some g → v.ownBlock = some g ∨ W.heap.size ≤ g) (hv : ∀ g, v.ownBlock = some g → g ≠ p ∧ g ≠ q ∧ w.heap.size ≤ g) (hv' : ∀ g, v'.ownBlock = some g → g < W'.heap.size) : R2 w W' (exv P v') p q mo t n a g N A G :=
  ⟨(hT.block p k.box.lt fun e => (hv p e).1 rfl).trans k.box, ⟨k.rows.n.appd hT hloc, k.rows.a.appd hT hloc, k.rows.g.appd hT hloc⟩, (hT.block q k.res.lt fun e => (hv q e).2.1 rfl).trans k.res,
    k.bel.trans (hT.below (fun i e => (hv i e).2.2) k.bel.size), k.low, k.ne, ⟨fun h => hP.1 h.1, fun h => hP.2 h.1⟩, fun i hi => ⟨hc i hi, fun e => by have := hv' i e; omega⟩⟩
end
theorem own_put5 {w : World} {base q : Nat} {v : Value} {xs : List ByteArray} (o : Own w base v xs) (hq : q < base) (mo t : Nat) (n a g : Sl) : Own (put5 w q mo t n a g) base v xs := by
  refine o.same fun k hk => ?_
  have : k ≠ q := by have := (o.lt hk).2; omega
  exact ((((Below.heap_setCell _ ⟨q, 4, none⟩ _ _ this).trans (Below.heap_setCell _ ⟨q, 3, none⟩ _ _ this)).trans (Below.heap_setCell _ ⟨q, 2, none⟩ _ _ this)).trans (Below.heap_setCell _ ⟨q, 1, none⟩ _ _ this)).trans (Below.heap_setCell _ ⟨q, 0, none⟩ _ _ this)
theorem R2.exv0 {w W : World} {P : Nat → Prop} {p q mo t : Nat} {n a g : Sl} {N A G : List KE} (r : R2 w W P p q mo t n a g N A G) : R2 w W (exv P (.slice none 0 0)) p q mo t n a g N A G :=
  ⟨r.box, r.rows.wide fun k hk _ => ⟨hk, by simp [Value.ownBlock]⟩, r.res, r.bel, r.low, r.ne, ⟨fun h => r.np.1 h.1, fun h => r.np.2 h.1⟩, fun k hk => ⟨r.cl k hk, by simp [Value.ownBlock]⟩⟩
theorem field0 (m u : Nat) (n a g : Sl) (W : World) : (Instr.field 29 (rAgg m u n a g) 0).run Try.prog W = .ok (.int .i64 (m : Int)) W := by kernel_rfl
/-- What the loop keeps. -/
def RsR (w : World) (P : Nat → Prop) (p q m t : Nat) (X : List KE × List KE × List KE) (Y : List ByteArray) (k : Nat) (v : Value) (W : World) : Prop :=
  ∃ (n a g : Sl) (N A G : List KE) (out : List ByteArray), k = N.length + A.length - m ∧ N.length + A.length + G.length ≤ 1700 ∧ out.length + N.length + A.length ≤ 1700 ∧ evs m k N A G = X ∧ out ++ evo k N A = Y ∧
    R2 w W (exv (wi P p q) v) p q m t n a g N A G ∧ Own W (q + 1) v out
section
variable (w : World) (P : Nat → Prop) (mo t : Nat) (n a g : Sl) (N A G : List KE) (h : Rw w P n a g N A G) (hP : Cl w P)
include h hP
set_option maxHeartbeats 4000000 in
set_option maxRecDepth 8000 in
theorem resize_r (z : Int) (m t' : Nat) (hz : -9223372036854775808 ≤ z ∧ z ≤ 9223372036854775807) (hm : m = z.toNat) (ht : t' = if m < t then m else t) (hl : N.length + A.length + G.length ≤ 1700) :
    Calls Try.prog 21 #[rAgg mo t n a g, .int .i64 z] w (fun e w' => ∃ (n' a' g' : Sl) (v : Value), e = .returned (.tuple #[rAgg m t' n' a' g', v]) ∧ Rw w' P n' a' g' (evs m (N.length + A.length - m) N A G).1 (evs m (N.length + A.length - m) N A G).2.1 ((evs m (N.length + A.length - m) N A G).2.2.take m) ∧ Own w' w.heap.size v (evo (N.length + A.length - m) N A) ∧ Below w.heap.size w w') := by
  have R0 := Lib.hid (r2_start h hP mo t)
  obtain ⟨X, hX⟩ : ∃ X, X = evs m (N.length + A.length - m) N A G := ⟨_, rfl⟩
  obtain ⟨Y, hY⟩ : ∃ Y, Y = evo (N.length + A.length - m) N A := ⟨_, rfl⟩
  rw [← hX, ← hY]
  have HXY := Lib.hid (And.intro hX.symm hY.symm)
  have HM := Lib.hid (show m ≤ 9223372036854775807 by omega)
  have HL := Lib.hid hl
  clear h hP hX hY hl
  have HT := Lib.hid ht
  have HZ := Lib.hid (And.intro hz hm)
  clear ht hz hm
  have HQ := Lib.hid (show w.heap.size < w.heap.size + 1 from by omega)
  go_enter Try.func21, Try.ntmps21
  go_upto_region 1 with fail
  generalize (w.alloc (rObj mo t n a g)).alloc rZero = W at R0 ⊢
  generalize w.heap.size + 1 = q at R0 HQ ⊢
  obtain ⟨p, hp⟩ : ∃ p, p = w.heap.size := ⟨_, rfl⟩
  rw [← hp] at R0 HQ ⊢
  clear hp
  have U0 := newR W z m HZ.out.1 HZ.out.2
  obtain ⟨u, hu⟩ : ∃ u, u = m / 2 := ⟨_, rfl⟩
  rw [← hu] at U0
  clear hu
  have U := Lib.hid U0
  clear U0
  have hfd := field0 m u ⟨none, 0, 0⟩ ⟨none, 0, 0⟩ ⟨none, 0, 0⟩
  go_wp2_with fail
  refine U.out.mono ?_
  rintro e W1 ⟨rfl, B1⟩
  have R1 := Lib.hid ((R0.out.below B1).setM m)
  obtain ⟨d0, d1, d2, d3, d4⟩ := (R0.out.below B1).box.c
  obtain ⟨f0, f1, f2, f3, f4⟩ := (R0.out.below B1).box.f
  clear B1 R0 U
  go_upto_region 2 with fail
  clear d0 d1 d2 d3 d4 f0 f1 f2 f3 f4 hfd
  generalize W1.setCell ⟨p, 0, none⟩ (.int .i64 (m : Int)) = W2 at R1 ⊢
  obtain ⟨c0, c1, c2, c3, c4⟩ := R1.out.box.c
  go_upto_if 17 with fail
  go_cut [] (fun W => R2 w W (wi P p q) p q m t' n a g N A G)
  case first =>
    obtain ⟨_, f1, _, _, _⟩ := R1.out.box.f
    cases hb : decide (m < t) with
    | true =>
      have h1 := HT.out
      rw [if_pos (of_decide_eq_true hb)] at h1
      have HT1 := Lib.hid h1
      clear h1
      go_wp2_with fail
      go_meet
      rw [HT1.out]
      exact R1.out.setT m
    | false =>
      have h1 := HT.out
      rw [if_neg (of_decide_eq_false hb)] at h1
      have HT1 := Lib.hid h1
      clear h1
      go_wp2_with fail
      go_meet
      rw [HT1.out]
      exact R1.out
  case rest =>
    have R2' := Lib.hid hcut
    clear hcut c0 c1 c2 c3 c4 R1
    go_wp2_with fail
    go_loopg [6] (N.length + A.length - m) (fun k v W => RsR w P p q m t' X Y k v W)
    case atStart => exact ⟨n, a, g, N, A, G, [], rfl, HL.out, by have := HL.out; simp; omega, HXY.out.1, HXY.out.2, R2'.out.exv0, Own.nil _ _⟩
    case round =>
      obtain ⟨n1, a1, g1, N1, A1, G1, out, hk, hl1, hl2, hX, hY, r, ho⟩ := hrel
      have hnl := r.rows.n.len
      have hal := r.rows.a.len
      obtain ⟨l, hll⟩ : ∃ l, l = N1.length + A1.length := ⟨_, rfl⟩
      have hwm : IntKind.i64.wrap ((n1.n : Int) + (a1.n : Int)) = (l : Int) := by rw [IntWalk.i64_in _ (by omega)]; omega
      obtain ⟨c0, c1, c2, c3, c4⟩ := r.box.c
      have RR := Lib.hid r
      have HO := Lib.hid ho
      obtain ⟨Av, cv, rfl⟩ := ho.len
      cases gk with
      | zero =>
        have e0 : decide (m < l) = false := by simp; omega
        have U := Lib.hid (trim_r wr _ m t' n1 a1 g1 N1 A1 G1 r.rows r.cl HM.out)
        have EX := Lib.hid hX.symm
        have EY := Lib.hid hY.symm
        clear r ho hX hY hk hl1 hl2 hnl hal hll R2' HXY
        go_upto_region 9 with fail
        go_wp2_with fail
        refine U.out.mono ?_
        rintro e w3 ⟨n2, a2, g2, rfl, RW, B⟩
        have R3 := Lib.hid (RR.out.below B)
        have F := Lib.hid (R3.out.out2 (mo' := m) (t' := t') (P0 := P) (fun k hk => hk.1.1) RW)
        have O3 := Lib.hid (own_put5 (HO.out.below B) (Nat.lt_succ_self q) m t' n2 a2 g2)
        have HLQ := Lib.hid (show w.heap.size ≤ q + 1 from Nat.le_succ_of_le R3.out.low.2)
        obtain ⟨⟨k0, k1, k2, k3, k4⟩, f0, f1, f2, f3, f4⟩ := R3.out.ten
        clear RW B U RR HO R3 c0 c1 c2 c3 c4
        go_wp2_with fail
        (try simp only [Exit.inBlock, Exit.then])
        refine bodyPost_ret (results_ct rfl _ _ _ ⟨q, 0, none⟩ _ rfl (load_r F.out.1)) rfl ?_
        refine ⟨n2, a2, g2, _, rfl, ?_, ?_, F.out.2.2⟩
        · rw [EX.out]; exact F.out.2.1
        · rw [EY.out]; exact (List.append_nil out).symm ▸ O3.out.mono HLQ.out
      | succ k =>
        have e0 : decide (m < l) = true := by simp; omega
        have hne : N1 ++ A1 ≠ [] := fun h => by have := congrArg List.length h; rw [List.length_append] at this; simp only [List.length_nil] at this; omega
        have hg1 := g1_len hne
        have hgl := evG_len m N1 A1 G1
        have HK := Lib.hid (show k = (g1N N1).length + (g1A N1 A1).length - m ∧ (g1N N1).length + (g1A N1 A1).length + (evG m N1 A1 G1).length ≤ 1700 ∧ (out ++ [(vK N1 A1).s]).length + (g1N N1).length + (g1A N1 A1).length ≤ 1700 ∧ out.length ≤ 1900 from ⟨by omega, by omega, by rw [List.length_append]; simp only [List.length_cons, List.length_nil]; omega, by omega⟩)
        have HX := Lib.hid (show evs m k (g1N N1) (g1A N1 A1) (evG m N1 A1 G1) = X from hX)
        have HY := Lib.hid (show (out ++ [(vK N1 A1).s]) ++ evo k (g1N N1) (g1A N1 A1) = Y from by rw [List.append_assoc]; exact hY)
        have HSM := Lib.hid (vK_small r.rows.n r.rows.a hne)
        have U := Lib.hid (evict_r wr _ m t' n1 a1 g1 N1 A1 G1 r.rows r.cl hne HM.out (by omega))
        clear r ho hX hY hk hl1 hl2 hnl hal hll R2' HXY hne hg1 hgl
        go_wp2_with fail
        refine U.out.mono ?_
        rintro e W3 ⟨n3, a3, g3, rfl, RW3, B3⟩
        have b1 := (Below.refl W3.heap.size W3).alloc (Nat.le_refl _) (rObj m t' n3 a3 g3)
        have b4 := B3.trans (b1.mono B3.size)
        have R4 := Lib.hid (RR.out.below b4)
        have RW4 := Lib.hid (RW3.below b1)
        have O4 := Lib.hid (HO.out.below b4)
        have KY := Lib.hid (show RB (W3.alloc (rObj m t' n3 a3 g3)) W3.heap.size m t' n3 a3 g3 from heap_alloc_new _ _)
        clear RW3 B3 b1 b4 U RR HO c0 c1 c2 c3 c4
        go_upto_region 7 with fail
        generalize W3.alloc (rObj m t' n3 a3 g3) = W4 at R4 RW4 O4 KY ⊢
        generalize W3.heap.size = y at KY ⊢
        obtain ⟨y0, y1, y2, y3, y4⟩ := KY.out.c
        obtain ⟨d0, d1, d2, d3, d4⟩ := R4.out.box.c
        obtain ⟨f0, f1, f2, f3, f4⟩ := R4.out.box.f
        have R5 := Lib.hid (R4.out.setAll (mo' := m) (t' := t') RW4.out)
        have O5 := Lib.hid (own_put5 O4.out (q := p) (Nat.lt_succ_of_lt HQ.out) m t' n3 a3 g3)
        clear R4 RW4 O4
        go_upto_region 8 with fail
        clear y0 y1 y2 y3 y4 d0 d1 d2 d3 d4 f0 f1 f2 f3 f4 KY
        dsimp only [put5] at R5 O5
        generalize ((((W4.setCell ⟨p, 0, none⟩ (.int .i64 (m : Int))).setCell ⟨p, 1, none⟩ (.int .i64 (t' : Int))).setCell ⟨p, 2, none⟩ (.slice n3.A n3.n n3.c)).setCell ⟨p, 3, none⟩ (.slice a3.A a3.n a3.c)).setCell ⟨p, 4, none⟩ (.slice g3.A g3.n g3.c) = W5 at R5 O5 ⊢
        have R5 := R5.out
        obtain ⟨A9, c9, W9, hrun, hO9, hg9, hloc⟩ := app_at O5.out (vK N1 A1).s HSM.out (by have := HK.out.2.2.2; omega) R5.res.lt
        have hT : Turn (fun k => (Value.slice Av out.length cv).ownBlock = some k) W5 W9 := ⟨hg9.os, hg9.tape, hg9.output, hg9.size, fun i hi hn => hg9.block i hi fun e => hn e.symm⟩
        have hqp := HQ.out
        have R6 := Lib.hid (R5.appd (v' := .slice A9 (out.length + 1) c9) ⟨fun h => h.2.1 rfl, fun h => h.2.2 rfl⟩ (fun i hi => R5.cl i (Nat.le_trans hT.size hi) |>.1) hT hloc (fun g hg => by have := (O5.out.lt hg).2; have := R5.low.2; omega) (fun g hg => (hO9.lt hg).1))
        have HRUN := Lib.hid hrun
        have O9 := Lib.hid hO9
        clear hrun hO9 hg9 hloc hT R5 O5 hqp
        go_wp2_with (at_builtin; refine wpList_append_run rfl _ _ _ rfl _ _ _ _ rfl rfl HRUN.out ?_)
        go_roundg k
        case measure => omega
        case rel => exact ⟨n3, a3, g3, _, _, _, out ++ [(vK N1 A1).s], HK.out.1, HK.out.2.1, HK.out.2.2.1, HX.out, HY.out, R6.out, O9.out⟩
end
end Go.Proofs.Ytmnflcidcoejiaa
