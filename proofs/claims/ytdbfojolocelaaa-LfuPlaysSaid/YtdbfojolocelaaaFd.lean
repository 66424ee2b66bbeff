/- The contracts of cutTo at Resize's closure, of Resize and Keys. -/
import Derived.Test.YtdbfojolocelaaaFc
import Derived.Test.YtdbfojolocelaaaHqS
namespace Go.Proofs.Ytdbfojolocelaaa
open Go.RowKit Ht HS Lf

theorem take_snoc {α : Type} (xs : List α) (k : Nat) (d : α) (h : k < xs.length) : xs.take (k + 1) = xs.take k ++ [xs.getD k d] := by
  rw [List.take_succ_eq_append_getElem h, List.getD_eq_getElem?_getD, List.getElem?_eq_getElem h]; rfl
theorem Own.nil (w : World) (base : Nat) : Own w base (.slice none 0 0) [] := ⟨⟨rfl, Or.inl ⟨rfl, rfl⟩⟩, by simp, by simp⟩
/-- 'append(gone, x)', and where it lies then. -/
theorem app_at {w : World} {base : Nat} {v : Value} {xs : List ByteArray} (h : Own w base v xs) (x : ByteArray) (hx : x.size ≤ maxLen) (hl : xs.length ≤ 1999) (hb : base ≤ w.heap.size) :
    ∃ (A : Option Addr) (cap : Nat) (w2 : World), (Builtin.append_ #[47, 47] 47 #[v, .slice (some ⟨w.heap.size, 0, none⟩) 1 1]).run Try.prog (w.alloc (.cells #[.string x] 9)) = .ok (.slice A (xs.length + 1) cap) w2 ∧
      Own w2 base (.slice A (xs.length + 1) cap) (xs ++ [x]) ∧ w.grownBy w2 v.ownBlock ∧ (∀ g, (Value.slice A (xs.length + 1) cap).ownBlock = some g → v.ownBlock = some g ∨ w.heap.size ≤ g) := by
  obtain ⟨i0, hi, hz0, hz1, hz2⟩ := info_parts infoK
  obtain ⟨v', w2, hrun, hown2, hg, hnil, hloc⟩ := run_append_own_at (P := Try.prog) (w.alloc (.cells #[.string x] 9)) base 47 47 9 i0 _ 1 16
    Try.underlying47 hi hz0 hz1 hz2 rfl (by decide) _ _ _ (h.1.alloc _) ⟨w.heap.size, 0, none⟩ 1 1 [.string x] rfl (cell_one_new _ _ _) (by simp [Value.oneCell']) (by unfold maxLen; omega) (by omega) (by simp; omega)
  have hown3 := hown2
  rcases hown2.2 with ⟨_, h0⟩ | ⟨g, cap, cur, rfl, _⟩
  · omega
  refine ⟨_, cap, w2, hrun, ⟨?_, by rw [List.length_append]; simp only [List.length_cons, List.length_nil]; omega, fun y hy => ?_⟩, (World.grownBy_alloc w _ _).trans hg, fun g' hg' => ?_⟩
  · rw [List.map_append, List.length_append]; exact hown3
  · rcases List.mem_append.1 hy with h1 | h1
    · exact h.2.2 y h1
    · rw [List.mem_singleton.1 h1]; exact hx
  · rcases hloc with h1 | h1
    · exact Or.inl (h1 ▸ hg')
    · rw [h1] at hg'
      injection hg' with hg'
      rw [show (w.alloc (.cells #[.string x] 9)).heap.size = w.heap.size + 1 by simp] at hg'
      exact Or.inr (by omega)

/-- Who went, in a variable of its own. -/
def GBox (w : World) (gb : Nat) (v : Value) : Prop := w.heap[gb]? = some (.cells #[v] 47 (0, 0))
theorem GBox.lt {w : World} {gb : Nat} {v : Value} (k : GBox w gb v) : gb < w.heap.size := (Array.getElem?_eq_some_iff.1 k).1
theorem GBox.put {w : World} {gb : Nat} {v : Value} (k : GBox w gb v) (u : Value) : GBox (w.setCell ⟨gb, 0, none⟩ u) gb u := by
  unfold GBox at *
  rw [heap_setCell_same _ _ _ _ _ _ k]; rfl

theorem cloR (w : World) (gb base : Nat) (v : Value) (ts : List ByteArray) (x : ByteArray) (k : GBox w gb v) (o : Own w base v ts) (hl : ts.length ≤ 1999) (hx : x.size ≤ maxLen) (hb : base ≤ w.heap.size) (hne : v.ownBlock ≠ some gb) :
    Calls Try.prog 40 #[.string x, .pointer (some ⟨gb, 0, none⟩)] w (fun e w' => e = .returned (.tuple #[]) ∧ ∃ v', GBox w' gb v' ∧ Own w' base v' (ts ++ [x]) ∧ (∀ g, v'.ownBlock = some g → v.ownBlock = some g ∨ w.heap.size ≤ g) ∧ Turn (fun k => k = gb ∨ v.ownBlock = some k) w w') := by
  obtain ⟨A2, cap, w2, hrun, hown, hg, hloc⟩ := app_at o x hx hl hb
  obtain ⟨A1, c1, rfl⟩ := o.len
  have hgb := k.lt
  have k1 : w.cell? ⟨gb, 0, none⟩ = some (.slice A1 ts.length c1) := cell_of_row w _ 0 _ _ _ k
  have k2 : GBox w2 gb (.slice A1 ts.length c1) := (hg.block gb hgb (fun e => hne e.symm)).trans k
  have k3 : w2.cell? ⟨gb, 0, none⟩ = some (.slice A1 ts.length c1) := cell_of_row w2 _ 0 _ _ _ k2
  have k4 : w2.frozen? ⟨gb, 0, none⟩ = false := frozen_of_row w2 _ 0 _ _ k2
  have HRUN := Lib.hid hrun
  have R := Lib.hid (show ∃ v', GBox (w2.setCell ⟨gb, 0, none⟩ (.slice A2 (ts.length + 1) cap)) gb v' ∧ Own (w2.setCell ⟨gb, 0, none⟩ (.slice A2 (ts.length + 1) cap)) base v' (ts ++ [x]) ∧ (∀ g, v'.ownBlock = some g → (Value.slice A1 ts.length c1).ownBlock = some g ∨ w.heap.size ≤ g) ∧ Turn (fun k => k = gb ∨ (Value.slice A1 ts.length c1).ownBlock = some k) w (w2.setCell ⟨gb, 0, none⟩ (.slice A2 (ts.length + 1) cap)) by
    refine ⟨_, k2.put _, hown.same (fun g hg' => ?_), hloc, ?_⟩
    · refine Below.heap_setCell _ _ _ _ (fun e => ?_)
      have e : g = gb := e
      subst e
      rcases hloc g hg' with h | h
      · exact hne h
      · omega
    · have t1 : Turn (fun k => k = gb ∨ (Value.slice A1 ts.length c1).ownBlock = some k) w w2 := ⟨hg.os, hg.tape, hg.output, hg.size, fun i hi h1 => hg.block i hi (fun e => h1 (Or.inr e.symm))⟩
      exact t1.put (p := ⟨gb, 0, none⟩) (Or.inl (Or.inl rfl)) _)
  clear hrun hown hg hloc k k2 o hne
  go_enter Try.func40, Try.ntmps40
  go_wp2_with (at_builtin; refine wpList_append_run rfl _ _ _ rfl _ _ _ _ rfl rfl HRUN.out ?_)
  go_end0
  exact ⟨rfl, R.out⟩

/-- Where Resize stands with its cut. -/
structure RAt (w : World) (c h : Nat) (T : Nat → Prop) (mo : Nat) (ch : Bool) (mk : Int) (L : List (Ent Key)) (n gb base m k : Nat) (W : World) (T' : Nat → Prop) (j : Nat) (v : Value) : Prop where
  new : ∀ k, T' k → T k ∨ w.heap.size ≤ k
  turn : Turn (fun k => T k ∨ k = gb) w W
  gbn : ¬ T' gb
  vn : ∀ g, v.ownBlock = some g → ¬ blk c T' g ∧ g ≠ gb ∧ w.heap.size ≤ g
  cnt : j + k = L.length - m
  raw : Raw W c h T' mo ch mk (L.drop j) n
  box : GBox W gb v
  own : Own W base v ((keysL L).take j)
def RRel (w : World) (c h : Nat) (T : Nat → Prop) (mo : Nat) (ch : Bool) (mk : Int) (L : List (Ent Key)) (n gb base m k : Nat) (W : World) : Prop := ∃ T' j v, RAt w c h T mo ch mk L n gb base m k W T' j v

theorem drop_some {L : List (Ent Key)} {j : Nat} (h : j < L.length) : ∃ x, L.drop j = x :: L.drop (j + 1) ∧ x ∈ L ∧ (keysL L).getD j ⟨#[]⟩ = x.key := by
  refine ⟨L[j], List.drop_eq_getElem_cons h, List.getElem_mem h, ?_⟩
  rw [List.getD_eq_getElem?_getD, keysL, List.getElem?_map, List.getElem?_eq_getElem h]; rfl
theorem gbox_ne {w : World} {c h : Nat} {T : Nat → Prop} {mo : Nat} {ch : Bool} {mk : Int} {L : List (Ent Key)} {n gb : Nat} {v : Value} (r : Raw w c h T mo ch mk L n) (k : GBox w gb v) : c ≠ gb := cells_ne r.box k (by decide)

theorem RAt.next {w : World} {c h : Nat} {T : Nat → Prop} {mo : Nat} {ch : Bool} {mk : Int} {L : List (Ent Key)} {n gb base m k : Nat} {W W1 W2 : World} {T' T2 : Nat → Prop} {j : Nat} {v v' : Value} (r : RAt w c h T mo ch mk L n gb base m (k + 1) W T' j v)
    (hP : ∀ k, T2 k → T' k ∨ W.heap.size ≤ k) (hT : Turn T' W W1) (hR : Raw W1 c h T2 mo ch mk (L.drop (j + 1)) n)
    (g1 : GBox W2 gb v') (g2 : Own W2 base v' ((keysL L).take j ++ [(keysL L).getD j ⟨#[]⟩])) (g3 : ∀ g, v'.ownBlock = some g → v.ownBlock = some g ∨ W1.heap.size ≤ g) (g4 : Turn (fun k => k = gb ∨ v.ownBlock = some k) W1 W2) (hj : j < L.length) :
    RAt w c h T mo ch mk L n gb base m k W2 T2 (j + 1) v' := by
  have s1 := r.turn.size
  have s2 := hT.size
  have s3 := g4.size
  have n2 : ¬ T2 gb := fun hk => by
    rcases hP gb hk with h | h
    · exact r.gbn h
    · have := r.box.lt; omega
  have hlt : ∀ k, blk c T2 k → k < W1.heap.size := fun k hk => hR.lt hk
  have vlt : ∀ g, v.ownBlock = some g → g < W.heap.size := fun g hg => (r.own.lt hg).1
  have nv : ∀ g, v.ownBlock = some g → ¬ blk c T2 g := fun g hg hk => by
    rcases blk_next hP g hk with h | h
    · exact (r.vn g hg).1 h
    · have := vlt g hg; omega
  have hne := gbox_ne r.raw r.box
  refine ⟨?_, ?_, n2, fun g hg => ?_, by have := r.cnt; omega, ?_, g1, ?_⟩
  · intro k hk
    rcases hP k hk with h | h
    · exact r.new k h
    · exact Or.inr (by omega)
  · have t1 := r.turn.trans hT (fun k hk hS => by
      rcases r.new k hS with h | h
      · exact Or.inl h
      · omega)
    refine t1.trans g4 (fun k hk hS => ?_)
    rcases hS with h | h
    · exact Or.inr h
    · have := (r.vn k h).2.2; omega
  · rcases g3 g hg with h | h
    · exact ⟨nv g h, (r.vn g h).2⟩
    · refine ⟨fun hk => ?_, fun e => ?_, by omega⟩
      · have := hlt g hk; omega
      · have := r.box.lt; omega
  · exact hR.keep fun k hk => g4.block k (hlt k hk) (fun e => by
      rcases e with e | e
      · subst e
        rcases hk with hk | hk
        · exact hne hk.symm
        · exact n2 hk
      · exact nv k e hk)
  · rw [take_snoc (keysL L) j ⟨#[]⟩ (by rw [keysL_len]; exact hj)]; exact g2

theorem cutR (w : World) (c h : Nat) (T : Nat → Prop) (mo : Nat) (ch : Bool) (mk : Int) (L : List (Ent Key)) (n gb base m : Nat) (r : Raw w c h T mo ch mk L n) (hs : ¬ T gb) (hB : GBox w gb (.slice none 0 0)) (hb : base ≤ w.heap.size) :
    Calls Try.prog 35 #[.pointer (some ⟨c, 0, none⟩), .int .i64 (m : Int), .func (.func 40) #[] #[.pointer (some ⟨gb, 0, none⟩)]] w (fun e w' => e = .returned (.tuple #[]) ∧ RRel w c h T mo ch mk L n gb base m 0 w') := by
  have R0 := Lib.hid (show RRel w c h T mo ch mk L n gb base m (L.length - m) w from ⟨T, 0, _, fun _ h => Or.inl h, Turn.refl _ _, hs, fun g hg => (by cases hg), by omega, r, hB, Own.nil _ _⟩)
  have hks := r.len
  have HS := Lib.hid (show ∀ x ∈ L, x.key.size ≤ maxLen from r.hs.ok)
  clear r hs hB
  go_enter Try.func35, Try.ntmps35
  go_wp2_with fail
  go_loopg [] (L.length - m) (fun k W => RRel w c h T mo ch mk L n gb base m k W)
  case atStart => exact R0.out
  case round =>
    obtain ⟨T', j, v, r⟩ := hrel
    have hcnt := r.cnt
    have RR := Lib.hid r
    have U1 := lenC wr c h T' mo ch mk _ n r.raw
    rw [List.length_drop] at U1
    obtain ⟨q, hq⟩ : ∃ q, q = L.length - j := ⟨_, rfl⟩
    rw [← hq] at U1
    have U1 := Lib.hid U1
    have HQ := Lib.hid hq
    cases gk with
    | zero =>
      have e0 : decide (m < q) = false := by simp; omega
      clear r hcnt R0 hq
      go_wp2_with fail
      refine U1.out.mono ?_
      rintro e wr ⟨rfl, rfl⟩
      go_wp2_with fail
      go_end0
      exact ⟨rfl, T', j, v, RR.out⟩
    | succ gk =>
      have e0 : decide (m < q) = true := by simp; omega
      have hj : j < L.length := by omega
      have U2 := dropC wr c h T' mo ch mk _ n r.raw
      obtain ⟨x, hx, hxm, hxk⟩ := drop_some hj
      rw [hx] at U2
      have U2 := Lib.hid (show Calls Try.prog 19 #[.pointer (some ⟨c, 0, none⟩)] wr (OpR (.tuple #[.string x.key, .bool true]) wr c h T' mo ch mk (L.drop (j + 1)) n) from U2)
      have hxs := HS.out x hxm
      have HX := Lib.hid hxk
      clear r hcnt R0 hx hxm hxk hq
      go_wp2_with fail
      refine U1.out.mono ?_
      rintro e wr ⟨rfl, rfl⟩
      go_wp2_with fail
      refine U2.out.mono ?_
      rintro e w2 ⟨rfl, T2, hR, hN, hT⟩
      have r := RR.out
      have s2 := hT.size
      have s1 := r.turn.size
      have b2 : GBox w2 gb v := (hT.block gb r.box.lt r.gbn).trans r.box
      have o2 : Own w2 base v ((keysL L).take j) := r.own.same (fun g hg => hT.block g (r.own.lt hg).1 (fun e => (r.vn g hg).1 (Or.inr e)))
      have U3 := Lib.hid (cloR w2 gb base v _ x.key b2 o2 (by rw [List.length_take]; omega) hxs (by omega) (fun e => (r.vn gb e).2.1 rfl))
      have H1 := Lib.hid hN
      have H2 := Lib.hid hR
      have H3 := Lib.hid hT
      clear hN hR hT b2 o2 r U1 U2
      go_wp2_with fail
      refine U3.out.mono ?_
      rintro e w3 ⟨rfl, v', g1, g2, g3, g4⟩
      rw [← HX.out] at g2
      have R3 := Lib.hid (RR.out.next H1.out H3.out H2.out g1 g2 g3 g4 hj)
      clear g1 g2 g3 g4 U3
      go_wp2_with fail
      go_roundg gk
      case measure => omega
      case rel => exact ⟨T2, j + 1, v', R3.out⟩

/-- What Resize leaves. -/
def ResPost (w : World) (c : Nat) (S : Nat → Prop) (m : Nat) (ch : Bool) (L : List (Ent Key)) (n : Nat) (e : Ending) (w' : World) : Prop :=
  ∃ v S', e = .returned v ∧ Own w' w.heap.size v ((keysL L).take (L.length - m)) ∧ Ca w' c S' m ch (L.drop (L.length - m)) n ∧ (∀ k, S' k → S k ∨ w.heap.size ≤ k) ∧ Turn S w w' ∧ (∀ g, v.ownBlock = some g → ¬ S' g)

theorem res_start {w : World} {c h : Nat} {T : Nat → Prop} {mo : Nat} {ch : Bool} {mk : Int} {L : List (Ent Key)} {n : Nat} (r : Raw w c h T mo ch mk L n) (m : Nat) (hm : m ≤ 9223372036854775807) :
    Raw ((w.setCell ⟨c, 0, none⟩ (.int .i64 (m : Int))).alloc (.cells #[.slice none 0 0] 47)) c h T m ch mk L n ∧ ¬ T w.heap.size ∧ GBox ((w.setCell ⟨c, 0, none⟩ (.int .i64 (m : Int))).alloc (.cells #[.slice none 0 0] 47)) w.heap.size (.slice none 0 0) := by
  have hsz : (w.setCell ⟨c, 0, none⟩ (.int .i64 (m : Int))).heap.size = w.heap.size := by simp [World.setCell]
  have r1 : Raw (w.setCell ⟨c, 0, none⟩ (.int .i64 (m : Int))) c h T m ch mk L n := by
    refine ⟨r.hs.same (fun k hk => Below.heap_setCell _ _ _ _ (fun e => r.cT (by have e : k = c := e; exact e ▸ hk))), r.cT, ?_, hm, r.fit⟩
    rw [heap_setCell_same _ _ _ _ _ _ r.box]; rfl
  refine ⟨r1.below ((Below.refl _ _).alloc (Nat.le_refl _) _), fun hk => ?_, ?_⟩
  · have := r.hs.lt hk; omega
  · have := heap_alloc_new (w.setCell ⟨c, 0, none⟩ (.int .i64 (m : Int))) (.cells #[.slice none 0 0] 47)
    rw [hsz] at this
    exact this
theorem res_end {w w2 : World} {c h : Nat} {T : Nat → Prop} {ch : Bool} {L : List (Ent Key)} {n m : Nat} (r : RRel ((w.setCell ⟨c, 0, none⟩ (.int .i64 (m : Int))).alloc (.cells #[.slice none 0 0] 47)) c h T m ch (sg ch * (n : Int)) L n w.heap.size w.heap.size m 0 w2) :
    ∃ A q cp, GBox w2 w.heap.size (.slice A q cp) ∧ ResPost w c (blk c T) m ch L n (.returned (.slice A q cp)) w2 := by
  obtain ⟨T', j, v, r⟩ := r
  have hsz : ((w.setCell ⟨c, 0, none⟩ (.int .i64 (m : Int))).alloc (.cells #[.slice none 0 0] 47)).heap.size = w.heap.size + 1 := by simp [World.setCell]
  have hj := r.cnt
  obtain rfl : j = L.length - m := by omega
  have hown := r.own
  obtain ⟨A, cp, rfl⟩ := hown.len
  refine ⟨A, _, cp, r.box, _, blk c T', rfl, hown, ⟨h, T', rfl, r.raw, ?_⟩, ?_, ?_, fun g hg => (r.vn g hg).1⟩
  · rw [List.length_drop]; omega
  · refine blk_next fun k hk => ?_
    rcases r.new k hk with h | h
    · exact Or.inl h
    · exact Or.inr (by omega)
  · have t0 : Turn (blk c T) w ((w.setCell ⟨c, 0, none⟩ (.int .i64 (m : Int))).alloc (.cells #[.slice none 0 0] 47)) := ((Turn.refl _ _).put (p := ⟨c, 0, none⟩) (Or.inl (Or.inl rfl)) _).alloc _
    exact t0.trans r.turn (fun k hk hS => by
      rcases hS with h | h
      · exact Or.inr h
      · omega)

set_option maxHeartbeats 1000000 in
theorem res_neg (w : World) (c h : Nat) (T : Nat → Prop) (mo : Nat) (ch : Bool) (L : List (Ent Key)) (n : Nat) (z : Int) (hz : -9223372036854775808 ≤ z) (h0 : z < 0) (r : Raw w c h T mo ch (sg ch * (n : Int)) L n) :
    Calls Try.prog 23 #[.pointer (some ⟨c, 0, none⟩), .int .i64 z] w (ResPost w c (blk c T) 0 ch L n) := by
  have c0 := r.c0
  have f0 := r.f0
  have clt := r.clt
  obtain ⟨r1, r2, r3⟩ := res_start r 0 (by omega)
  have c1 := r1.c0
  have U := cutR _ c h T 0 ch _ L n w.heap.size w.heap.size 0 r1 r2 r3 (by simp [World.setCell])
  simp only [Int.natCast_zero] at U c1
  have HM := Lib.hid (show max z 0 = 0 by omega)
  have U := Lib.hid U
  clear r r1 r2 r3
  go_enter Try.func23, Try.ntmps23
  go_wp2_with fail
  rw [HM.out]
  refine U.out.mono ?_
  rintro e w2 ⟨rfl, hr⟩
  obtain ⟨A, q, cp, hg, hp⟩ := res_end (m := 0) hr
  have k1 : w2.cell? ⟨w.heap.size, 0, none⟩ = some (.slice A q cp) := cell_of_row w2 _ 0 _ _ _ hg
  have HP := Lib.hid hp
  clear hr hg hp
  go_wp2_with fail
  go_ret
  exact HP.out
set_option maxHeartbeats 1000000 in
theorem res_pos (w : World) (c h : Nat) (T : Nat → Prop) (mo : Nat) (ch : Bool) (L : List (Ent Key)) (n : Nat) (m : Nat) (hz : m ≤ 9223372036854775807) (r : Raw w c h T mo ch (sg ch * (n : Int)) L n) :
    Calls Try.prog 23 #[.pointer (some ⟨c, 0, none⟩), .int .i64 (m : Int)] w (ResPost w c (blk c T) m ch L n) := by
  have c0 := r.c0
  have f0 := r.f0
  have clt := r.clt
  have h0 : ¬ ((m : Int) < 0) := by omega
  obtain ⟨r1, r2, r3⟩ := res_start r m hz
  have c1 := r1.c0
  have U := cutR _ c h T m ch _ L n w.heap.size w.heap.size m r1 r2 r3 (by simp [World.setCell])
  have U := Lib.hid U
  clear r r1 r2 r3
  go_enter Try.func23, Try.ntmps23
  go_wp2_with fail
  refine U.out.mono ?_
  rintro e w2 ⟨rfl, hr⟩
  obtain ⟨A, q, cp, hg, hp⟩ := res_end (m := m) hr
  have k1 : w2.cell? ⟨w.heap.size, 0, none⟩ = some (.slice A q cp) := cell_of_row w2 _ 0 _ _ _ hg
  have HP := Lib.hid hp
  clear hr hg hp
  go_wp2_with fail
  go_ret
  exact HP.out
theorem resize_ca (w : World) (c : Nat) (S : Nat → Prop) (mo : Nat) (ch : Bool) (L : List (Ent Key)) (n : Nat) (z : Int) (hz : -9223372036854775808 ≤ z ∧ z ≤ 9223372036854775807) (a : Ca w c S mo ch L n) :
    Calls Try.prog 23 #[.pointer (some ⟨c, 0, none⟩), .int .i64 z] w (ResPost w c S z.toNat ch L n) := by
  obtain ⟨h, T, rfl, hR, hl⟩ := a
  by_cases h0 : z < 0
  · rw [show z.toNat = 0 by omega]; exact res_neg w c h T mo ch L n z hz.1 h0 hR
  · obtain ⟨m, rfl⟩ : ∃ m : Nat, z = (m : Int) := ⟨z.toNat, by omega⟩
    exact res_pos w c h T mo ch L n m (by omega) hR

theorem keysC (w : World) (c h : Nat) (T : Nat → Prop) (mo : Nat) (ch : Bool) (mk : Int) (L : List (Ent Key)) (n : Nat) (r : Raw w c h T mo ch mk L n) :
    Calls Try.prog 26 #[.pointer (some ⟨c, 0, none⟩)] w (RowPost (keysL L) w) := by
  have c1 := r.c1
  have U := Lib.hid (order_any w h T L n r.hs)
  clear r
  go_enter Try.func26, Try.ntmps26
  go_wp2_with fail
  refine U.out.mono ?_
  rintro e w1 ⟨v, rfl, hO, hB⟩
  have HO := Lib.hid hO
  have HB := Lib.hid hB
  clear hO hB
  go_wp2_with fail
  go_ret
  exact ⟨v, rfl, HO.out, HB.out⟩
theorem keys_ca (w : World) (c : Nat) (S : Nat → Prop) (mo : Nat) (ch : Bool) (L : List (Ent Key)) (n : Nat) (a : Ca w c S mo ch L n) : Calls Try.prog 26 #[.pointer (some ⟨c, 0, none⟩)] w (RowPost (keysL L) w) := by
  obtain ⟨h, T, rfl, hR, hl⟩ := a
  exact keysC w c h T mo ch _ L n hR
end Go.Proofs.Ytdbfojolocelaaa
