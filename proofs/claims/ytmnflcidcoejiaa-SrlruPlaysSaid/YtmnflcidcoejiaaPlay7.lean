/- The cache, the reference's cache and a call, side by side. -/
import Derived.Test.YtmnflcidcoejiaaQp
import Derived.Test.YtmnflcidcoejiaaSrlruTargets
namespace Go.Proofs.Ytmnflcidcoejiaa
open Go.RowKit Sg

/-- Where the reference's rows may lie. -/
def Aside (T : Nat → Prop) (bm : Nat) : Nat → Prop := fun k => ¬ T k ∧ k ≠ bm
/-- The cache at c has s, the reference's in block bm has u. -/
structure PyS (w0 W : World) (c : Nat) (T : Nat → Prop) (bm : Nat) (s : St) (b : Nat) (u : St) (n a g : Sl) : Prop where
  live : Live w0 W c T s b
  box : RB W bm u.mo u.t n a g
  rows : Rw W (Aside T bm) n a g u.rN u.rA u.rG
  out : ¬ T bm ∧ w0.heap.size ≤ bm
/-- .. and the call that is gone through lies in block ga. -/
structure PyA (w0 W : World) (c : Nat) (T : Nat → Prop) (bm : Nat) (s : St) (b : Nat) (u : St) (n a g : Sl) (ga : Nat) (kd : Int) (key : ByteArray) (nn : Int) : Prop where
  st : PyS w0 W c T bm s b u n a g
  act : W.heap[ga]? = some (.cells #[.int .i64 kd, .string key, .int .i64 nn] 32 (0, 0))
  away : ¬ T ga ∧ ga ≠ bm ∧ w0.heap.size ≤ ga
section
variable {w0 W W' : World} {c bm b b' ga : Nat} {T T' : Nat → Prop} {s s' u u' : St} {n a g n' a' g' : Sl} {v r : Value} {kd nn : Int} {key : ByteArray} {e : Ending}
theorem PyS.below (p : PyS w0 W c T bm s b u n a g) (hb : Below W.heap.size W W') : PyS w0 W' c T bm s b u n a g := ⟨p.live.below hb, p.box.below hb, p.rows.below hb, p.out⟩
theorem PyS.cl (p : PyS w0 W c T bm s b u n a g) : Cl W (Aside T bm) := fun k hk => ⟨fun h => by have := p.live.lt k h; omega, fun h => by have := p.box.lt; omega⟩
theorem PyA.alt (p : PyA w0 W c T bm s b u n a g ga kd key nn) : ga < W.heap.size := (Array.getElem?_eq_some_iff.1 p.act).1
theorem PyA.below (p : PyA w0 W c T bm s b u n a g ga kd key nn) (hb : Below W.heap.size W W') : PyA w0 W' c T bm s b u n a g ga kd key nn := ⟨p.st.below hb, (hb.block ga p.alt).trans p.act, p.away⟩
theorem PyA.drew (p : PyA w0 W c T bm s b u n a g ga kd key nn) : PyA w0 W.drew c T bm s b u n a g ga kd key nn := p.below (below_drew _)
theorem PyA.mono (p : PyA w0 W c T bm s b u n a g ga kd key nn) (h : b ≤ b') : PyA w0 W c T bm s b' u n a g ga kd key nn := ⟨⟨⟨p.st.live.ca.mono h, p.st.live.bel, p.st.live.low⟩, p.st.box, p.st.rows, p.st.out⟩, p.act, p.away⟩
theorem PyS.alloc (p : PyS w0 W c T bm s b u n a g) (kd : Int) (key : ByteArray) (nn : Int) : PyA w0 (W.alloc (.cells #[.int .i64 kd, .string key, .int .i64 nn] 32)) c T bm s b u n a g W.heap.size kd key nn := by
  have hb := (Below.refl W.heap.size W).alloc (Nat.le_refl _) (.cells #[.int .i64 kd, .string key, .int .i64 nn] 32)
  have h1 := p.box.lt
  exact ⟨p.below hb, heap_alloc_new _ _, fun hk => by have := p.live.lt _ hk; omega, by omega, p.live.bel.size⟩
theorem went_aside (h : Went W W' T T') {k : Nat} (hk : k < W.heap.size) (hn : ¬ T k) : W'.heap[k]? = W.heap[k]? ∧ ¬ T' k := ⟨h.turn.block k hk hn, fun h' => (h.new k h').elim hn fun h => by omega⟩
theorem Rw.went (h : Rw W (Aside T bm) n a g u.rN u.rA u.rG) (hW : Went W W' T T') : Rw W' (Aside T' bm) n a g u.rN u.rA u.rG := by
  have f1 : ∀ k, Aside T bm k → k < W.heap.size → W'.heap[k]? = W.heap[k]? := fun k hk hl => (went_aside hW hl hk.1).1
  have f2 : ∀ k, Aside T bm k → k < W.heap.size → Aside T' bm k := fun k hk hl => ⟨(went_aside hW hl hk.1).2, hk.2⟩
  exact ⟨h.n.same hW.turn.size f1 f2, h.a.same hW.turn.size f1 f2, h.g.same hW.turn.size f1 f2⟩
theorem PyA.went (p : PyA w0 W c T bm s b u n a g ga kd key nn) (hl : Live w0 W' c T' s' b') (hW : Went W W' T T') : PyA w0 W' c T' bm s' b' u n a g ga kd key nn := by
  have o1 := went_aside hW p.st.box.lt p.st.out.1
  have o2 := went_aside hW p.alt p.away.1
  exact ⟨⟨hl, o1.1.trans p.st.box, p.st.rows.went hW, o1.2, p.st.out.2⟩, o2.1.trans p.act, o2.2, p.away.2⟩
/-- A call of the cache. -/
theorem PyA.op (p : PyA w0 W c T bm s b u n a g ga kd key nn) (hp : CaPost r W c T s' b' e W') : e = .returned r ∧ ∃ T', PyA w0 W' c T' bm s' b' u n a g ga kd key nn ∧ Went W W' T T' := by
  obtain ⟨he, T', h1, h2⟩ := p.st.live.op hp
  exact ⟨he, T', p.went h1 h2, h2⟩
/-- The reference's cache is laid anew. -/
theorem PyA.set (p : PyA w0 W c T bm s b u n a g ga kd key nn) (h : Rw W (Aside T bm) n' a' g' u'.rN u'.rA u'.rG) : PyA w0 (put5 W bm u'.mo u'.t n' a' g') c T bm s b u' n' a' g' ga kd key nn := by
  have hn : ¬ Aside T bm bm := fun h => h.2 rfl
  have hr := ((((h.set (q := ⟨bm, 0, none⟩) hn (.int .i64 (u'.mo : Int))).set (q := ⟨bm, 1, none⟩) hn (.int .i64 (u'.t : Int))).set (q := ⟨bm, 2, none⟩) hn (.slice n'.A n'.n n'.c)).set (q := ⟨bm, 3, none⟩) hn (.slice a'.A a'.n a'.c)).set (q := ⟨bm, 4, none⟩) hn (.slice g'.A g'.n g'.c)
  have t : Turn (fun k => k = bm) W (put5 W bm u'.mo u'.t n' a' g') := (((((Turn.refl (fun k => k = bm) W).setCell (p := ⟨bm, 0, none⟩) (Or.inl rfl) _).setCell (p := ⟨bm, 1, none⟩) (Or.inl rfl) _).setCell (p := ⟨bm, 2, none⟩) (Or.inl rfl) _).setCell (p := ⟨bm, 3, none⟩) (Or.inl rfl) _).setCell (p := ⟨bm, 4, none⟩) (Or.inl rfl) _
  refine ⟨⟨⟨p.st.live.ca.beside t (fun k hk e => p.st.out.1 (by have e : k = bm := e; exact e ▸ hk)), p.st.live.bel.trans (t.below (fun k hk => by have hk : k = bm := hk; subst hk; exact p.st.out.2) p.st.live.bel.size), p.st.live.low⟩, p.st.box.put, hr, p.st.out⟩, (t.block ga p.alt p.away.2.1).trans p.act, p.away⟩
theorem PyA.k (p : PyA w0 W c T bm s b u n a g ga kd key nn) : W.cell? ⟨ga, 0, none⟩ = some (.int .i64 kd) ∧ W.cell? ⟨ga, 1, none⟩ = some (.string key) ∧ W.cell? ⟨ga, 2, none⟩ = some (.int .i64 nn) :=
  ⟨cell_of_row W _ 0 _ _ _ p.act, cell_of_row W _ 1 _ _ _ p.act, cell_of_row W _ 2 _ _ _ p.act⟩
/-- A call of the reference, the cache unmoved. -/
theorem PyA.cs {F : Value → Value} (p : PyA w0 W c T bm s b u n a g ga kd key nn) (h : CS W (Aside T bm) F u' e W') : ∃ n' a' g' : Sl, e = .returned (F (rAgg u'.mo u'.t n' a' g')) ∧ PyA w0 W' c T bm s b u n a g ga kd key nn ∧ Rw W' (Aside T bm) n' a' g' u'.rN u'.rA u'.rG ∧ Below W.heap.size W W' := by
  obtain ⟨n', a', g', he, hr, hb⟩ := h
  exact ⟨n', a', g', he, p.below hb, hr, hb⟩
theorem PyA.fresh (p : PyA w0 W c T bm s b u n a g ga kd key nn) {k : Nat} (hk : W.heap.size ≤ k) : ¬ T k ∧ k ≠ bm ∧ ga ≠ k := ⟨fun h => by have := p.st.live.lt _ h; omega, by have := p.st.box.lt; omega, by have := p.alt; omega⟩
end
end Go.Proofs.Ytmnflcidcoejiaa
