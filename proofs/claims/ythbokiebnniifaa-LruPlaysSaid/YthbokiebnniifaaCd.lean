/- The contracts of a cache's Adopt and Resize. -/
import Derived.Test.YthbokiebnniifaaCc
namespace Go.Proofs.Ythbokiebnniifaa
open Go.RowKit Sg

/-- 'append(gone, x)', and where it lies then. -/
theorem app_at {w : World} {base : Nat} {v : Value} {xs : List ByteArray} (h : Own w base v xs) (x : ByteArray) (hx : x.size ≤ maxLen) (hl : xs.length ≤ 1999) (hb : base ≤ w.heap.size) :
    ∃ (A : Option Addr) (cap : Nat) (w2 : World), (Builtin.append_ #[27, 27] 27 #[v, .slice (some ⟨w.heap.size, 0, none⟩) 1 1]).run Try.prog (w.alloc (.cells #[.string x] 9)) = .ok (.slice A (xs.length + 1) cap) w2 ∧
      Own w2 base (.slice A (xs.length + 1) cap) (xs ++ [x]) ∧ w.grownBy w2 v.ownBlock ∧ (∀ g, (Value.slice A (xs.length + 1) cap).ownBlock = some g → v.ownBlock = some g ∨ w.heap.size ≤ g) := by
  obtain ⟨i0, hi, hz0, hz1, hz2⟩ := info_parts infoStr
  obtain ⟨v', w2, hrun, hown2, hg, hnil, hloc⟩ := run_append_own_at (P := Try.prog) (w.alloc (.cells #[.string x] 9)) base 27 27 9 i0 _ 1 16
    Try.underlying27 hi hz0 hz1 hz2 rfl (by decide) _ _ _ (h.1.alloc _) ⟨w.heap.size, 0, none⟩ 1 1 [.string x] rfl (cell_one_new _ _ _) (by simp [Value.oneCell']) (by unfold maxLen; omega) (by omega) (by simp; omega)
  have hown3 := hown2
  rcases hown2.2 with ⟨_, h0⟩ | ⟨g, cap, cur, rfl, _⟩
  · omega
  refine ⟨_, cap, w2, hrun, ⟨?_, by rw [List.length_append]; simp only [List.length_cons, List.length_nil]; omega, fun y hy => ?_⟩, (World.grownBy_alloc w _ _).trans hg, fun g' hg' => ?_⟩
  · rw [List.map_append, List.length_append]; exact hown3
  · rcases List.mem_append.1 hy with h1 | h1
    · exact h.2.2 y h1
    · rw [List.mem_singleton.1 h1]; exact hx
  · rcases hloc with h1 | h1
    · exact Or.inl (h1 ▸ hg')
    · rw [h1] at hg'
      injection hg' with hg'
      rw [show (w.alloc (.cells #[.string x] 9)).heap.size = w.heap.size + 1 by simp] at hg'
      exact Or.inr (by omega)

/-- Who went, in a variable of its own. -/
def GBox (w : World) (gb : Nat) (v : Value) : Prop := w.heap[gb]? = some (.cells #[v] 27 (0, 0))
theorem GBox.lt {w : World} {gb : Nat} {v : Value} (k : GBox w gb v) : gb < w.heap.size := (Array.getElem?_eq_some_iff.1 k).1
theorem GBox.put {w : World} {gb : Nat} {v : Value} (k : GBox w gb v) (u : Value) : GBox (w.setCell ⟨gb, 0, none⟩ u) gb u := by
  unfold GBox at *
  rw [heap_setCell_same _ _ _ _ _ _ k]; rfl

theorem cloR (w : World) (gb base : Nat) (v : Value) (ts : List ByteArray) (x : ByteArray) (k : GBox w gb v) (o : Own w base v ts) (hl : ts.length ≤ 1999) (hx : x.size ≤ maxLen) (hb : base ≤ w.heap.size) (hne : v.ownBlock ≠ some gb) :
    Calls Try.prog 37 #[.string x, .pointer (some ⟨gb, 0, none⟩)] w (fun e w' => e = .returned (.tuple #[]) ∧ ∃ v', GBox w' gb v' ∧ Own w' base v' (ts ++ [x]) ∧ (∀ g, v'.ownBlock = some g → v.ownBlock = some g ∨ w.heap.size ≤ g) ∧ Turn (fun k => k = gb ∨ v.ownBlock = some k) w w') := by
  obtain ⟨A2, cap, w2, hrun, hown, hg, hloc⟩ := app_at o x hx hl hb
  obtain ⟨A1, c1, rfl⟩ := o.len
  have hgb := k.lt
  have k1 : w.cell? ⟨gb, 0, none⟩ = some (.slice A1 ts.length c1) := cell_of_row w _ 0 _ _ _ k
  have k2 : GBox w2 gb (.slice A1 ts.length c1) := (hg.block gb hgb (fun e => hne e.symm)).trans k
  have k3 : w2.cell? ⟨gb, 0, none⟩ = some (.slice A1 ts.length c1) := cell_of_row w2 _ 0 _ _ _ k2
  have k4 : w2.frozen? ⟨gb, 0, none⟩ = false := frozen_of_row w2 _ 0 _ _ k2
  have HRUN := Lib.hid hrun
  have R := Lib.hid (show ∃ v', GBox (w2.setCell ⟨gb, 0, none⟩ (.slice A2 (ts.length + 1) cap)) gb v' ∧ Own (w2.setCell ⟨gb, 0, none⟩ (.slice A2 (ts.length + 1) cap)) base v' (ts ++ [x]) ∧ (∀ g, v'.ownBlock = some g → (Value.slice A1 ts.length c1).ownBlock = some g ∨ w.heap.size ≤ g) ∧ Turn (fun k => k = gb ∨ (Value.slice A1 ts.length c1).ownBlock = some k) w (w2.setCell ⟨gb, 0, none⟩ (.slice A2 (ts.length + 1) cap)) by
    refine ⟨_, k2.put _, hown.same (fun g hg' => ?_), hloc, ?_⟩
    · refine Below.heap_setCell _ _ _ _ (fun e => ?_)
      have e : g = gb := e
      subst e
      rcases hloc g hg' with h | h
      · exact hne h
      · omega
    · have t1 : Turn (fun k => k = gb ∨ (Value.slice A1 ts.length c1).ownBlock = some k) w w2 := ⟨hg.os, hg.tape, hg.output, hg.size, fun i hi h1 => hg.block i hi (fun e => h1 (Or.inr e.symm))⟩
      exact t1.setCell (p := ⟨gb, 0, none⟩) (Or.inl (Or.inl rfl)) _)
  clear hrun hown hg hloc k k2 o hne
  go_enter Try.func37, Try.ntmps37
  go_wp2_with (at_builtin; refine wpList_append_run rfl _ _ _ rfl _ _ _ _ rfl rfl HRUN.out ?_)
  go_end0
  exact ⟨rfl, R.out⟩

/-- Where Resize stands with its cut. -/
structure RAt (w : World) (c l M P mo : Nat) (ks : List ByteArray) (b gb base n k : Nat) (W : World) (P' j : Nat) (v : Value) : Prop where
  nextP : P' = P ∨ w.heap.size ≤ P'
  turn : Turn (fun k => blk c l M P k ∨ k = gb) w W
  gbn : ¬ blk c l M P' gb
  vn : ∀ g, v.ownBlock = some g → ¬ blk c l M P' g ∧ g ≠ gb ∧ w.heap.size ≤ g
  cnt : j + k = ks.length - n
  raw : Raw W c l M P' mo (ks.drop j) b
  box : GBox W gb v
  own : Own W base v (ks.take j)
def RRel (w : World) (c l M P mo : Nat) (ks : List ByteArray) (b gb base n k : Nat) (W : World) : Prop := ∃ P' j v, RAt w c l M P mo ks b gb base n k W P' j v

theorem drop_some {ks : List ByteArray} {j : Nat} (h : j < ks.length) : ks.drop j = ks.getD j ⟨#[]⟩ :: ks.drop (j + 1) := by
  rw [List.drop_eq_getElem_cons h, List.getD_eq_getElem?_getD, List.getElem?_eq_getElem h]; rfl

theorem RAt.next {w : World} {c l M P mo : Nat} {ks : List ByteArray} {b gb base n k : Nat} {W W1 W2 : World} {P' P2 j : Nat} {v v' : Value} (r : RAt w c l M P mo ks b gb base n (k + 1) W P' j v)
    (hP : P2 = P' ∨ W.heap.size ≤ P2) (hT : Turn (blk c l M P') W W1) (hR : Raw W1 c l M P2 mo (ks.drop (j + 1)) b)
    (g1 : GBox W2 gb v') (g2 : Own W2 base v' (ks.take j ++ [ks.getD j ⟨#[]⟩])) (g3 : ∀ g, v'.ownBlock = some g → v.ownBlock = some g ∨ W1.heap.size ≤ g) (g4 : Turn (fun k => k = gb ∨ v.ownBlock = some k) W1 W2) (hj : j < ks.length) :
    RAt w c l M P mo ks b gb base n k W2 P2 (j + 1) v' := by
  have s1 := r.turn.size
  have s2 := hT.size
  have s3 := g4.size
  have n2 : ¬ blk c l M P2 gb := fun hk => by
    rcases blk_next hP gb hk with h | h
    · exact r.gbn h
    · have := r.box.lt; omega
  have hlt : ∀ k, blk c l M P2 k → k < W1.heap.size := fun k hk => by
    have h1 := hR.clt
    have h2 := hR.llt
    rcases hk with h | h | h | h <;> omega
  have vlt : ∀ g, v.ownBlock = some g → g < W.heap.size := fun g hg => (r.own.lt hg).1
  have nv : ∀ g, v.ownBlock = some g → ¬ blk c l M P2 g := fun g hg hk => by
    rcases blk_next hP g hk with h | h
    · exact (r.vn g hg).1 h
    · have := vlt g hg; omega
  refine ⟨?_, ?_, n2, fun g hg => ?_, by have := r.cnt; omega, ?_, g1, ?_⟩
  · rcases hP with rfl | hP
    · exact r.nextP
    · exact Or.inr (by omega)
  · have t1 := r.turn.trans hT (fun k hk hS => by
      rcases blk_next r.nextP k hS with h | h
      · exact Or.inl h
      · omega)
    refine t1.trans g4 (fun k hk hS => ?_)
    rcases hS with h | h
    · exact Or.inr h
    · have := (r.vn k h).2.2; omega
  · rcases g3 g hg with h | h
    · exact ⟨nv g h, (r.vn g h).2⟩
    · refine ⟨fun hk => ?_, fun e => ?_, by omega⟩
      · have := hlt g hk; omega
      · have := r.box.lt; omega
  · have q : ∀ k, blk c l M P2 k → W2.heap[k]? = W1.heap[k]? := fun k hk => g4.block k (hlt k hk) (fun e => by
      rcases e with e | e
      · exact n2 (e ▸ hk)
      · exact nv k e hk)
    exact hR.same s3 (q _ (Or.inl rfl)) (q _ (Or.inr (Or.inl rfl))) (q _ (Or.inr (Or.inr (Or.inl rfl)))) (q _ (Or.inr (Or.inr (Or.inr rfl))))
  · rw [take_snoc ks j ⟨#[]⟩ hj]; exact g2

theorem cutR (w : World) (c l M P mo : Nat) (ks : List ByteArray) (b gb base n : Nat) (h : Raw w c l M P mo ks b) (hs : ¬ blk c l M P gb) (hB : GBox w gb (.slice none 0 0)) (hb : base ≤ w.heap.size) :
    Calls Try.prog 32 #[.pointer (some ⟨c, 0, none⟩), .int .i64 (n : Int), .func (.func 37) #[] #[.pointer (some ⟨gb, 0, none⟩)]] w (fun e w' => e = .returned (.tuple #[]) ∧ RRel w c l M P mo ks b gb base n 0 w') := by
  have R0 := Lib.hid (show RRel w c l M P mo ks b gb base n (ks.length - n) w from ⟨P, 0, _, Or.inl rfl, Turn.refl _ _, hs, fun g hg => (by cases hg), by omega, h, hB, Own.nil _ _⟩)
  have hks := h.len
  have HS := Lib.hid h.small
  clear h hs hB
  go_enter Try.func32, Try.ntmps32
  go_wp2_with fail
  go_loopg [] (ks.length - n) (fun k W => RRel w c l M P mo ks b gb base n k W)
  case atStart => exact R0.out
  case round =>
    obtain ⟨P', j, v, r⟩ := hrel
    have hcnt := r.cnt
    have RR := Lib.hid r
    have U1 := lenC wr c l M P' mo _ b r.raw
    rw [List.length_drop] at U1
    obtain ⟨q, hq⟩ : ∃ q, q = ks.length - j := ⟨_, rfl⟩
    rw [← hq] at U1
    have U1 := Lib.hid U1
    have HQ := Lib.hid hq
    cases gk with
    | zero =>
      have e0 : decide (n < q) = false := by simp; omega
      clear r hcnt R0 hq
      go_wp2_with fail
      refine U1.out.mono ?_
      rintro e wr ⟨rfl, rfl⟩
      go_wp2_with fail
      go_end0
      exact ⟨rfl, P', j, v, RR.out⟩
    | succ gk =>
      have e0 : decide (n < q) = true := by simp; omega
      have hj : j < ks.length := by omega
      have U2 := dropC wr c l M P' mo _ b r.raw
      rw [drop_some hj] at U2
      simp only [List.headD_cons, List.isEmpty_cons, Bool.not_false, List.tail_cons] at U2
      have U2 := Lib.hid U2
      have hxs := HS.out (ks.getD j ⟨#[]⟩) (by rw [List.getD_eq_getElem?_getD, List.getElem?_eq_getElem hj]; exact List.getElem_mem hj)
      obtain ⟨x, hx⟩ : ∃ x, x = ks.getD j ⟨#[]⟩ := ⟨_, rfl⟩
      rw [← hx] at U2 hxs
      have HX := Lib.hid hx
      clear r hcnt R0 hx hq
      go_wp2_with fail
      refine U1.out.mono ?_
      rintro e wr ⟨rfl, rfl⟩
      go_wp2_with fail
      refine U2.out.mono ?_
      rintro e w2 ⟨P2, rfl, hP, hR, hT⟩
      have T2 : Turn (blk c l M P') wr w2 := turned_turn hT
      have r := RR.out
      have s2 := T2.size
      have s1 := r.turn.size
      have b2 : GBox w2 gb v := (T2.block gb r.box.lt r.gbn).trans r.box
      have o2 : Own w2 base v (ks.take j) := r.own.same (fun g hg => T2.block g (r.own.lt hg).1 (r.vn g hg).1)
      have U3 := Lib.hid (cloR w2 gb base v _ x b2 o2 (by rw [List.length_take]; omega) hxs (by omega) (fun e => (r.vn gb e).2.1 rfl))
      have H1 := Lib.hid hP
      have H2 := Lib.hid hR
      have H3 := Lib.hid T2
      clear hP hR hT T2 b2 o2 r U1 U2
      go_wp2_with fail
      refine U3.out.mono ?_
      rintro e w3 ⟨rfl, v', g1, g2, g3, g4⟩
      rw [HX.out] at g2
      have R3 := Lib.hid (RR.out.next H1.out H3.out H2.out g1 g2 g3 g4 hj)
      clear g1 g2 g3 g4 U3
      go_wp2_with fail
      go_roundg gk
      case measure => omega
      case rel => exact ⟨P2, j + 1, v', R3.out⟩

end Go.Proofs.Ythbokiebnniifaa
