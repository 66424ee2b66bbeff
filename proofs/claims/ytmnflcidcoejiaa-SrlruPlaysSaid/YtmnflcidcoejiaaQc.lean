/- The contracts of the reference's Has, Victim, trim, go1, Drop. -/
import Derived.Test.YtmnflcidcoejiaaQb
import Derived.Deep.RegionLaw
import Derived.BigRegion
import Derived.Deep.CutBlock
import Derived.Deep.DeepCutAuto
namespace Go.Proofs.Ytmnflcidcoejiaa
open Go.RowKit Sg

/-- The reference's three rows. -/
structure Rw (w : World) (P : Nat → Prop) (n a g : Sl) (N A G : List KE) : Prop where
  n : KW w P n N
  a : KW w P a A
  g : KW w P g G
section
variable {w w' : World} {P P' : Nat → Prop} {n a g : Sl} {N A G : List KE}
theorem Rw.below (h : Rw w P n a g N A G) (hb : Below w.heap.size w w') : Rw w' P n a g N A G := ⟨h.n.below hb, h.a.below hb, h.g.below hb⟩
theorem Rw.wide (h : Rw w P n a g N A G) (hp : ∀ k, P k → k < w.heap.size → P' k) : Rw w P' n a g N A G := ⟨h.n.wide hp, h.a.wide hp, h.g.wide hp⟩
theorem Rw.set (h : Rw w P n a g N A G) {q : Addr} (hq : ¬ P q.block) (u : Value) : Rw (w.setCell q u) P n a g N A G := ⟨h.n.set hq u, h.a.set hq u, h.g.set hq u⟩
theorem Rw.drew (h : Rw w P n a g N A G) : Rw w.drew P n a g N A G := h.below ⟨rfl, rfl, rfl, Nat.le_refl _, fun _ _ => rfl⟩
end
def Cl (w : World) (P : Nat → Prop) : Prop := ∀ k, w.heap.size ≤ k → P k
theorem Cl.below {w w' : World} {P : Nat → Prop} (h : Cl w P) (hb : Below w.heap.size w w') : Cl w' P := fun k hk => h k (Nat.le_trans hb.size hk)
/-- What a call that tells a cache leaves, wrapped up in F. -/
def CT (w : World) (P : Nat → Prop) (F : Value → Value) (mo t : Nat) (N A G : List KE) (e : Ending) (w' : World) : Prop :=
  ∃ n a g : Sl, e = .returned (F (rAgg mo t n a g)) ∧ Rw w' P n a g N A G ∧ Below w.heap.size w w'
def lastE (L : List KE) : KE := L.getLastD ⟨⟨#[]⟩, false, false⟩
theorem lastE_get {L : List KE} (h : L ≠ []) : L[L.length - 1]? = some (lastE L) := by
  unfold lastE
  rw [List.getLastD_eq_getLast?, ← List.getLast?_eq_getElem?, List.getLast?_eq_some_getLast h]; rfl

section
variable (w : World) (P : Nat → Prop) (mo t : Nat) (n a g : Sl) (N A G : List KE) (h : Rw w P n a g N A G)
include h
set_option maxHeartbeats 1000000 in
theorem has_r (key : ByteArray) : Calls Try.prog 15 #[rAgg mo t n a g, .string key] w (ValB (.bool (isK N key || isK A key)) w) := by
  have hb := (Below.refl w.heap.size w).alloc (Nat.le_refl _) (rObj mo t n a g)
  have K0 := Lib.hid (show RB (w.alloc (rObj mo t n a g)) w.heap.size mo t n a g from heap_alloc_new _ _)
  have HR := Lib.hid (h.below hb)
  have HB := Lib.hid hb
  clear h hb
  go_enter Try.func15, Try.ntmps15
  go_wp2_with fail
  generalize w.alloc (rObj mo t n a g) = w1 at K0 HR HB ⊢
  obtain ⟨p, hp⟩ : ∃ p, w.heap.size = p := ⟨_, rfl⟩
  rw [hp] at K0 ⊢
  clear hp
  refine (find_any w1 P n N key HR.out.n).mono ?_
  rintro e w2 ⟨rfl, hB⟩
  have b3 := hB.trans (((Below.refl w2.heap.size w2).alloc (Nat.le_refl _) (.cells #[.string (fk N key).s, .bool (fk N key).o, .bool (fk N key).d] 68)).mono hB.size)
  have K2 := K0.out.below b3
  obtain ⟨_, _, k2, k3, _⟩ := K2.c
  have R2 := Lib.hid (HR.out.below b3)
  have B2 := Lib.hid (HB.out.trans (b3.mono HB.out.size))
  clear hB b3 K2 K0 HR HB
  obtain ⟨x1, hx1⟩ : ∃ x1, x1 = fk N key := ⟨_, rfl⟩
  rw [← hx1] at R2 B2 k2 k3 ⊢
  clear hx1
  go_wp2_with fail
  obtain ⟨w3, hw3⟩ : ∃ w3, w3 = w2.alloc (.cells #[.string x1.s, .bool x1.o, .bool x1.d] 68) := ⟨_, rfl⟩
  rw [← hw3] at R2 B2 k2 k3 ⊢
  clear hw3
  refine (find_any w3 P a A key R2.out.a).mono ?_
  rintro e w4 ⟨rfl, hB⟩
  have B4 := Lib.hid (B2.out.trans ((hB.trans (((Below.refl w4.heap.size w4).alloc (Nat.le_refl _) (.cells #[.string (fk A key).s, .bool (fk A key).o, .bool (fk A key).d] 68)).mono hB.size)).mono B2.out.size))
  clear hB
  obtain ⟨y, hy⟩ : ∃ y, y = isK A key := ⟨_, rfl⟩
  rw [← hy]
  have HY := Lib.hid hy
  clear hy
  cases h1 : isK N key with
  | true =>
    go_wp2_with fail
    go_ret
    exact ⟨by rw [h1]; rfl, B4.out⟩
  | false =>
    go_wp2_with fail
    go_ret
    exact ⟨by rw [h1, ← HY.out]; rfl, B4.out⟩
def vicE (N A : List KE) : ByteArray := if N = [] then (lastE A).s else (lastE N).s
def anyE (N A : List KE) : Bool := !(N ++ A).isEmpty
theorem victim_r : Calls Try.prog 25 #[rAgg mo t n a g] w (ValB (.tuple #[.string (vicE N A), .bool (anyE N A)]) w) := by
  have hb := (Below.refl w.heap.size w).alloc (Nat.le_refl _) (rObj mo t n a g)
  have K0 := show RB (w.alloc (rObj mo t n a g)) w.heap.size mo t n a g from heap_alloc_new _ _
  have HR := h.below hb
  have HB := Lib.hid hb
  obtain ⟨_, _, k2, k3, _⟩ := K0.c
  obtain ⟨nA, nn, nc⟩ := n
  obtain ⟨aA, an, ac⟩ := a
  have hnl := h.n.le
  have hal := h.a.le
  rw [h.n.len] at hnl
  rw [h.a.len] at hal
  simp only at k2 k3 hnl hal ⊢
  unfold vicE anyE
  by_cases hN : N = []
  · have hn0 : nn = 0 := by have := h.n.len; rw [hN] at this; exact this.symm
    subst hn0
    rw [if_pos hN, hN, List.nil_append]
    by_cases hA : A = []
    · have ha0 : an = 0 := by have := h.a.len; rw [hA] at this; exact this.symm
      subst ha0
      rw [hA]
      have e1 : (!([] : List KE).isEmpty) = false := rfl
      have e2 : (lastE []).s = ⟨#[]⟩ := rfl
      rw [e1, e2]
      clear h HR K0 hN hA e1 e2 hnl hal
      go_enter Try.func25, Try.ntmps25
      go_wp2_with fail
      go_ret2
      exact ⟨rfl, HB.out⟩
    · have ha0 : 0 < an := by have := h.a.len; have := List.length_pos_iff.2 hA; simp only at *; omega
      have e0 : decide (0 < (an : Int)) = true := by simp; omega
      have e1 : (!A.isEmpty) = true := by cases A <;> simp_all
      obtain ⟨gg, o, _, hAA, hg, hc1, hc2, m0, m1, m2⟩ := HR.a.at (lastE_get hA)
      rw [h.a.len] at m0
      simp only at hAA hc1 hc2 m0
      subst hAA
      have hw2 : IntKind.i64.wrap ((an : Int) - 1) = ((an - 1 : Nat) : Int) := by rw [IntWalk.i64_in _ (by omega)]; omega
      obtain ⟨am, ham⟩ : ∃ am, am = an - 1 := ⟨_, rfl⟩
      rw [← ham] at hw2 m0
      have hma : am < an := by omega
      rw [e1]
      generalize (lastE A).s = y at *
      unfold maxLen at hc2
      clear h HR K0 hN hA e1 hnl ham m1 m2
      go_enter Try.func25, Try.ntmps25
      go_wp2_with fail
      go_ret2
      exact ⟨rfl, HB.out⟩
  · have hn0 : 0 < nn := by have := h.n.len; have := List.length_pos_iff.2 hN; simp only at *; omega
    have e0 : decide (0 < (nn : Int)) = true := by simp; omega
    have e1 : (!(N ++ A).isEmpty) = true := by cases N <;> simp_all
    obtain ⟨gg, o, _, hAA, hg, hc1, hc2, m0, m1, m2⟩ := HR.n.at (lastE_get hN)
    rw [h.n.len] at m0
    simp only at hAA hc1 hc2 m0
    subst hAA
    have hw2 : IntKind.i64.wrap ((nn : Int) - 1) = ((nn - 1 : Nat) : Int) := by rw [IntWalk.i64_in _ (by omega)]; omega
    obtain ⟨am, ham⟩ : ∃ am, am = nn - 1 := ⟨_, rfl⟩
    rw [← ham] at hw2 m0
    have hma : am < nn := by omega
    rw [e1, if_neg hN]
    generalize (lastE N).s = y at *
    unfold maxLen at hc2
    clear h HR K0 hN e1 hal ham m1 m2
    go_enter Try.func25, Try.ntmps25
    go_wp2_with fail
    go_ret2
    exact ⟨rfl, HB.out⟩
/-- Two variables: the argument, and the result. -/
structure R2 (w W : World) (P : Nat → Prop) (p q mo t : Nat) (n a g : Sl) (N A G : List KE) : Prop where
  box : RB W p mo t n a g
  rows : Rw W P n a g N A G
  res : RB W q 0 0 ⟨none, 0, 0⟩ ⟨none, 0, 0⟩ ⟨none, 0, 0⟩
  bel : Below w.heap.size w W
  low : w.heap.size ≤ p ∧ w.heap.size ≤ q
  ne : p ≠ q
  np : ¬ P p ∧ ¬ P q
  cl : Cl W P
end
def wi (P : Nat → Prop) (p q : Nat) : Nat → Prop := fun k => P k ∧ k ≠ p ∧ k ≠ q
section
variable {w W W' : World} {P : Nat → Prop} {p q mo t : Nat} {n a g n' : Sl} {N A G N' : List KE}
theorem r2_start (h : Rw w P n a g N A G) (hP : Cl w P) (mo t : Nat) : R2 w ((w.alloc (rObj mo t n a g)).alloc rZero) (wi P w.heap.size (w.heap.size + 1)) w.heap.size (w.heap.size + 1) mo t n a g N A G := by
  have s1 : (w.alloc (rObj mo t n a g)).heap.size = w.heap.size + 1 := by simp
  have b1 := (Below.refl w.heap.size w).alloc (Nat.le_refl _) (rObj mo t n a g)
  have b2 := b1.alloc (by rw [s1]; omega) rZero
  have q2 := heap_alloc_new (w.alloc (rObj mo t n a g)) rZero
  rw [s1] at q2
  refine ⟨(Below.heap_alloc _ _ _ (by rw [s1]; omega)).trans (heap_alloc_new _ _), ⟨(h.n.wide ?_).below b2, (h.a.wide ?_).below b2, (h.g.wide ?_).below b2⟩, q2, b2, ⟨Nat.le_refl _, by omega⟩, by omega, ⟨fun h => h.2.1 rfl, fun h => h.2.2 rfl⟩, fun k hk => ?_⟩
  · exact fun k hk hl => ⟨hk, by omega, by omega⟩
  · exact fun k hk hl => ⟨hk, by omega, by omega⟩
  · exact fun k hk hl => ⟨hk, by omega, by omega⟩
  · have : w.heap.size + 1 + 1 ≤ k := by simpa using hk
    exact ⟨hP k (by omega), by omega, by omega⟩
theorem R2.below (r : R2 w W P p q mo t n a g N A G) (hb : Below W.heap.size W W') : R2 w W' P p q mo t n a g N A G :=
  ⟨r.box.below hb, r.rows.below hb, r.res.below hb, r.bel.trans (hb.mono r.bel.size), r.low, r.ne, r.np, r.cl.below hb⟩
theorem set_size (W : World) (x : Addr) (u : Value) : (W.setCell x u).heap.size = W.heap.size := by simp [World.setCell]
theorem R2.cset {x : Addr} (r : R2 w W P p q mo t n a g N A G) (u : Value) : Cl (W.setCell x u) P := fun k hk => r.cl k (by rw [set_size] at hk; exact hk)
theorem R2.setN (r : R2 w W P p q mo t n a g N A G) (h : KW W P n' N') : R2 w (W.setCell ⟨p, 2, none⟩ (.slice n'.A n'.n n'.c)) P p q mo t n' a g N' A G :=
  ⟨r.box.setN n', ⟨h.set r.np.1 _, r.rows.a.set r.np.1 _, r.rows.g.set r.np.1 _⟩, r.res.other (Ne.symm r.ne) _, r.bel.setCell (p := ⟨p, 2, none⟩) r.low.1 _, r.low, r.ne, r.np, r.cset _⟩
theorem R2.setA (r : R2 w W P p q mo t n a g N A G) (h : KW W P n' N') : R2 w (W.setCell ⟨p, 3, none⟩ (.slice n'.A n'.n n'.c)) P p q mo t n n' g N N' G :=
  ⟨r.box.setA n', ⟨r.rows.n.set r.np.1 _, h.set r.np.1 _, r.rows.g.set r.np.1 _⟩, r.res.other (Ne.symm r.ne) _, r.bel.setCell (p := ⟨p, 3, none⟩) r.low.1 _, r.low, r.ne, r.np, r.cset _⟩
theorem R2.setG (r : R2 w W P p q mo t n a g N A G) (h : KW W P n' N') : R2 w (W.setCell ⟨p, 4, none⟩ (.slice n'.A n'.n n'.c)) P p q mo t n a n' N A N' :=
  ⟨r.box.setG n', ⟨r.rows.n.set r.np.1 _, r.rows.a.set r.np.1 _, h.set r.np.1 _⟩, r.res.other (Ne.symm r.ne) _, r.bel.setCell (p := ⟨p, 4, none⟩) r.low.1 _, r.low, r.ne, r.np, r.cset _⟩
theorem R2.setT (r : R2 w W P p q mo t n a g N A G) (u : Nat) : R2 w (W.setCell ⟨p, 1, none⟩ (.int .i64 (u : Int))) P p q mo u n a g N A G :=
  ⟨r.box.setT u, r.rows.set r.np.1 _, r.res.other (Ne.symm r.ne) _, r.bel.setCell (p := ⟨p, 1, none⟩) r.low.1 _, r.low, r.ne, r.np, r.cset _⟩
theorem R2.setM (r : R2 w W P p q mo t n a g N A G) (u : Nat) : R2 w (W.setCell ⟨p, 0, none⟩ (.int .i64 (u : Int))) P p q u t n a g N A G :=
  ⟨r.box.setM u, r.rows.set r.np.1 _, r.res.other (Ne.symm r.ne) _, r.bel.setCell (p := ⟨p, 0, none⟩) r.low.1 _, r.low, r.ne, r.np, r.cset _⟩
/-- The whole variable written anew. -/
theorem R2.setAll {mo' t' : Nat} {a' g' : Sl} {A' G' : List KE} (r : R2 w W P p q mo t n a g N A G) (h : Rw W P n' a' g' N' A' G') : R2 w (put5 W p mo' t' n' a' g') P p q mo' t' n' a' g' N' A' G' := by
  have r1 : R2 w (W.setCell ⟨p, 0, none⟩ (.int .i64 (mo' : Int))) P p q mo' t n' a' g' N' A' G' → True := fun _ => trivial
  have s := ((((h.set (q := ⟨p, 0, none⟩) r.np.1 (.int .i64 (mo' : Int))).set (q := ⟨p, 1, none⟩) r.np.1 (.int .i64 (t' : Int))).set (q := ⟨p, 2, none⟩) r.np.1 (.slice n'.A n'.n n'.c)).set (q := ⟨p, 3, none⟩) r.np.1 (.slice a'.A a'.n a'.c)).set (q := ⟨p, 4, none⟩) r.np.1 (.slice g'.A g'.n g'.c)
  have hne := Ne.symm r.ne
  refine ⟨r.box.put, s, ((((r.res.other (q := ⟨p, 0, none⟩) hne _).other (q := ⟨p, 1, none⟩) hne _).other (q := ⟨p, 2, none⟩) hne _).other (q := ⟨p, 3, none⟩) hne _).other (q := ⟨p, 4, none⟩) hne _,
    ((((r.bel.setCell (p := ⟨p, 0, none⟩) r.low.1 _).setCell (p := ⟨p, 1, none⟩) r.low.1 _).setCell (p := ⟨p, 2, none⟩) r.low.1 _).setCell (p := ⟨p, 3, none⟩) r.low.1 _).setCell (p := ⟨p, 4, none⟩) r.low.1 _, r.low, r.ne, r.np, fun k hk => r.cl k (by simpa [put5, set_size] using hk)⟩
/-- The result written out. -/
theorem R2.out {mo' t' : Nat} {a' g' : Sl} {A' G' : List KE} {P0 : Nat → Prop} (r : R2 w W (wi P0 p q) p q mo t n a g N A G) (h : Rw W (wi P0 p q) n' a' g' N' A' G') :
    RB (put5 W q mo' t' n' a' g') q mo' t' n' a' g' ∧ Rw (put5 W q mo' t' n' a' g') P0 n' a' g' N' A' G' ∧ Below w.heap.size w (put5 W q mo' t' n' a' g') := by
  have s := ((((h.set (q := ⟨q, 0, none⟩) r.np.2 (.int .i64 (mo' : Int))).set (q := ⟨q, 1, none⟩) r.np.2 (.int .i64 (t' : Int))).set (q := ⟨q, 2, none⟩) r.np.2 (.slice n'.A n'.n n'.c)).set (q := ⟨q, 3, none⟩) r.np.2 (.slice a'.A a'.n a'.c)).set (q := ⟨q, 4, none⟩) r.np.2 (.slice g'.A g'.n g'.c)
  exact ⟨r.res.put, s.wide fun k hk _ => hk.1, ((((r.bel.setCell (p := ⟨q, 0, none⟩) r.low.2 _).setCell (p := ⟨q, 1, none⟩) r.low.2 _).setCell (p := ⟨q, 2, none⟩) r.low.2 _).setCell (p := ⟨q, 3, none⟩) r.low.2 _).setCell (p := ⟨q, 4, none⟩) r.low.2 _⟩
theorem R2.ten (r : R2 w W P p q mo t n a g N A G) : (W.cell? ⟨q, 0, none⟩ = some (.int .i64 0) ∧ W.cell? ⟨q, 1, none⟩ = some (.int .i64 0) ∧ W.cell? ⟨q, 2, none⟩ = some (.slice none 0 0) ∧ W.cell? ⟨q, 3, none⟩ = some (.slice none 0 0) ∧ W.cell? ⟨q, 4, none⟩ = some (.slice none 0 0)) ∧
    W.frozen? ⟨q, 0, none⟩ = false ∧ W.frozen? ⟨q, 1, none⟩ = false ∧ W.frozen? ⟨q, 2, none⟩ = false ∧ W.frozen? ⟨q, 3, none⟩ = false ∧ W.frozen? ⟨q, 4, none⟩ = false := ⟨r.res.c, r.res.f⟩
end
section
variable (w : World) (P : Nat → Prop) (mo t : Nat) (n a g : Sl) (N A G : List KE) (h : Rw w P n a g N A G) (hP : Cl w P)
include h hP
set_option maxHeartbeats 1000000 in
theorem trim_r (hm : mo ≤ 9223372036854775807) : Calls Try.prog 54 #[rAgg mo t n a g] w (CT w P id mo t N A (G.take mo)) := by
  have R0 := Lib.hid (r2_start h hP mo t)
  have hgl := h.g.len
  have hgs := h.g.le
  clear h hP
  by_cases hc : mo < g.n
  · have e0 : decide (mo < g.n) = true := by simpa using hc
    obtain ⟨g', hgn, s1, s2, hg'⟩ := krow_to R0.out.rows.g (p := mo) (by omega)
    have HG := Lib.hid hg'
    clear hg' hgl hgn
    go_enter Try.func54, Try.ntmps54
    go_upto_region 1 with fail
    generalize (w.alloc (rObj mo t n a g)).alloc rZero = W at R0 HG ⊢
    generalize w.heap.size + 1 = q at R0 HG ⊢
    obtain ⟨p, hp⟩ : ∃ p, p = w.heap.size := ⟨_, rfl⟩
    rw [← hp] at R0 HG ⊢
    clear hp
    obtain ⟨c0, c1, c2, c3, c4⟩ := R0.out.box.c
    obtain ⟨f0, f1, f2, f3, f4⟩ := R0.out.box.f
    have R1 := Lib.hid (R0.out.setG HG.out)
    clear R0
    go_upto_region 3 with fail
    generalize W.setCell ⟨p, 4, none⟩ (.slice g'.A g'.n g'.c) = W1 at R1 ⊢
    clear c0 c1 c2 c3 c4 f0 f1 f2 f3 f4
    obtain ⟨c0, c1, c2, c3, c4⟩ := R1.out.box.c
    obtain ⟨⟨k0, k1, k2, k3, k4⟩, f0, f1, f2, f3, f4⟩ := R1.out.ten
    have F := Lib.hid (R1.out.out (mo' := mo) (t' := t) R1.out.rows)
    go_wp2_with fail
    refine bodyPost_ret (results_c rfl _ _ _ ⟨q, 0, none⟩ _ rfl (load_r F.out.1)) rfl ?_
    exact ⟨n, a, g', rfl, F.out.2.1, F.out.2.2⟩
  · have e0 : decide (mo < g.n) = false := by simpa using hc
    have hG : G.take mo = G := List.take_of_length_le (by omega)
    rw [hG]
    clear hG hgl
    go_enter Try.func54, Try.ntmps54
    go_upto_region 1 with fail
    generalize (w.alloc (rObj mo t n a g)).alloc rZero = W at R0 ⊢
    generalize w.heap.size + 1 = q at R0 ⊢
    obtain ⟨p, hp⟩ : ∃ p, p = w.heap.size := ⟨_, rfl⟩
    rw [← hp] at R0 ⊢
    clear hp
    obtain ⟨c0, c1, c2, c3, c4⟩ := R0.out.box.c
    obtain ⟨⟨k0, k1, k2, k3, k4⟩, f0, f1, f2, f3, f4⟩ := R0.out.ten
    have F := Lib.hid (R0.out.out (mo' := mo) (t' := t) R0.out.rows)
    go_wp2_with fail
    refine bodyPost_ret (results_c rfl _ _ _ ⟨q, 0, none⟩ _ rfl (load_r F.out.1)) rfl ?_
    exact ⟨n, a, g, rfl, F.out.2.1, F.out.2.2⟩
end
end Go.Proofs.Ytmnflcidcoejiaa
