/- A learner's request. -/
import Derived.Test.YtnlckkahkghneaaGreatDoorLj
import Derived.Test.YtnlckkahkghneaaGreatDoorLo
set_option maxRecDepth 20000
namespace Go.Proofs.YtnlckkahkghneaaGreatDoor.LE
open Go.RowKit Go.Maps Go.WideMaps Sg

abbrev zSt : Obj := .cells #[.bool false, .string ⟨#[]⟩, .bool false] 57
/-- What Request has laid: the learner's pointer, the key, the result. -/
structure RQ (W : World) (i : Ix) (S : Sx) (B E n : Nat) (key : ByteArray) : Prop where
  kl : KB W i S B E n (.pointer (some ⟨i.l, 0, none⟩))
  kk : KB W i S B E (n + 1) (.string key)
  rb : LR.Box W (n + 1 + 1) false ⟨#[]⟩ false
  rn : ¬ tblk i S B E (n + 1 + 1)
/-- A step in a block of its own. -/
structure SB (W : World) (i : Ix) (S : Sx) (B E x : Nat) (h : Bool) (v : ByteArray) (o : Bool) : Prop where
  box : LR.Box W x h v o
  out : ¬ tblk i S B E x
section
variable {w w' : World} {i : Ix} {S S' : Sx} {B E n x : Nat} {key v : ByteArray} {h o : Bool} {L : List (List Nat)} {lane : Int} {s s' : St} {b b' : Nat}
theorem tout (hn : ¬ tblk i S B E x) (hl : x < w.heap.size) (g : Went w w' (tblk i S B E) (tblk i S' B E)) : w'.heap[x]? = w.heap[x]? ∧ ¬ tblk i S' B E x := SR.went_out g hl hn
theorem SB.went (q : SB w i S B E x h v o) (g : Went w w' (tblk i S B E) (tblk i S' B E)) : SB w' i S' B E x h v o := by
  obtain ⟨a, c⟩ := tout q.out (heap_lt q.box) g
  exact ⟨a.trans q.box, c⟩
theorem SB.below (q : SB w i S B E x h v o) (g : Below w.heap.size w w') : SB w' i S B E x h v o := q.went (Went.below g)
theorem RQ.went (q : RQ w i S B E n key) (g : Went w w' (tblk i S B E) (tblk i S' B E)) : RQ w' i S' B E n key := by
  obtain ⟨a, c⟩ := tout q.rn (heap_lt q.rb) g
  exact ⟨q.kl.went g, q.kk.went g, a.trans q.rb, c⟩
theorem RQ.below (q : RQ w i S B E n key) (g : Below w.heap.size w w') : RQ w' i S B E n key := q.went (Went.below g)
theorem LT.congr (q : LT w i S B E L lane s b) (hf : flOf s' B lane = flOf s B lane) (hp : pOf s' = pOf s) (ok : Ok s') (lim : Lim s' b) (hv : s'.vs = s.vs) : LT w i S B E L lane s' b :=
  ⟨by rw [hf, hp]; exact q.raw, ok, lim, q.tp, q.sep, q.vs.trans hv.symm⟩
/-- What Request lays first. -/
theorem rq_start (q : LT w i S B E L lane s b) (key : ByteArray) :
    LT (((w.alloc (.cells #[.pointer (some ⟨i.l, 0, none⟩)] 26)).alloc (.cells #[.string key] 9)).alloc zSt) i S B E L lane s b ∧ RQ (((w.alloc (.cells #[.pointer (some ⟨i.l, 0, none⟩)] 26)).alloc (.cells #[.string key] 9)).alloc zSt) i S B E w.heap.size key ∧ Went w (((w.alloc (.cells #[.pointer (some ⟨i.l, 0, none⟩)] 26)).alloc (.cells #[.string key] 9)).alloc zSt) (tblk i S B E) (tblk i S B E) := by
  have hb1 := (Below.refl w.heap.size w).alloc (Nat.le_refl _) (.cells #[.pointer (some ⟨i.l, 0, none⟩)] 26)
  have hb2 := (Below.refl (w.alloc (.cells #[.pointer (some ⟨i.l, 0, none⟩)] 26)).heap.size (w.alloc (.cells #[.pointer (some ⟨i.l, 0, none⟩)] 26))).alloc (Nat.le_refl _) (.cells #[.string key] 9)
  have hb3 := (Below.refl ((w.alloc (.cells #[.pointer (some ⟨i.l, 0, none⟩)] 26)).alloc (.cells #[.string key] 9)).heap.size ((w.alloc (.cells #[.pointer (some ⟨i.l, 0, none⟩)] 26)).alloc (.cells #[.string key] 9))).alloc (Nat.le_refl _) zSt
  have q1 := q.below hb1
  have q2 := q1.below hb2
  have q3 := q2.below hb3
  have k1 : KB (w.alloc (.cells #[.pointer (some ⟨i.l, 0, none⟩)] 26)) i S B E w.heap.size (.pointer (some ⟨i.l, 0, none⟩)) := ⟨sbox_new w _ _, fun e => Nat.lt_irrefl _ (q.lt e)⟩
  have k2 : KB ((w.alloc (.cells #[.pointer (some ⟨i.l, 0, none⟩)] 26)).alloc (.cells #[.string key] 9)) i S B E (w.heap.size + 1) (.string key) := by
    have := sbox_new (w.alloc (.cells #[.pointer (some ⟨i.l, 0, none⟩)] 26)) (.string key) 9
    rw [show (w.alloc (.cells #[.pointer (some ⟨i.l, 0, none⟩)] 26)).heap.size = w.heap.size + 1 by simp] at this
    exact ⟨this, fun e => by have := q.lt e; omega⟩
  have k3 : LR.Box (((w.alloc (.cells #[.pointer (some ⟨i.l, 0, none⟩)] 26)).alloc (.cells #[.string key] 9)).alloc zSt) (w.heap.size + 1 + 1) false ⟨#[]⟩ false := by
    have := heap_alloc_new ((w.alloc (.cells #[.pointer (some ⟨i.l, 0, none⟩)] 26)).alloc (.cells #[.string key] 9)) zSt
    rw [show ((w.alloc (.cells #[.pointer (some ⟨i.l, 0, none⟩)] 26)).alloc (.cells #[.string key] 9)).heap.size = w.heap.size + 1 + 1 by simp] at this
    exact this
  have rq : RQ (((w.alloc (.cells #[.pointer (some ⟨i.l, 0, none⟩)] 26)).alloc (.cells #[.string key] 9)).alloc zSt) i S B E w.heap.size key := ⟨(k1.below hb2).below hb3, k2.below hb3, k3, fun e => by have := q.lt e; omega⟩
  exact ⟨q3, rq, ((Went.below hb1).trans (Went.below hb2)).trans (Went.below hb3)⟩
/-- The clock's turn. -/
theorem rq_tick (q3 : LT w i S B E L lane s b) :
    LT (w.setCell ⟨i.l, 7, none⟩ (.int .i64 ((s.clock : Int) + 1))) i S B E L lane s.tick (b + 1) ∧ Went w (w.setCell ⟨i.l, 7, none⟩ (.int .i64 ((s.clock : Int) + 1))) (tblk i S B E) (tblk i S B E) := by
  obtain ⟨z1, z2⟩ := q3.set (s' := s.tick) (b' := b + 1) 7 (.int .i64 ((s.clock : Int) + 1)) rfl rfl (by omega) (tick_ok q3.ok) ⟨q3.lim.mo, by have := q3.lim.clock; show s.clock + 1 ≤ b + 1; omega, by have := q3.lim.asked; show s.asked ≤ b + 1; omega, by have := q3.lim.hits; show s.hits ≤ b + 1; omega, by have := q3.lim.last; show s.last ≤ b + 1; omega, q3.lim.still⟩ rfl
  exact ⟨z1, z2⟩
/-- The result is laid. -/
theorem rq_end (q : LT w i S B E L lane s b) (r : RQ w i S B E n key) (x : Bool) (v : ByteArray) (o : Bool) :
    LT (((w.setCell ⟨n + 1 + 1, 0, none⟩ (.bool x)).setCell ⟨n + 1 + 1, 1, none⟩ (.string v)).setCell ⟨n + 1 + 1, 2, none⟩ (.bool o)) i S B E L lane s b ∧
    LR.Box (((w.setCell ⟨n + 1 + 1, 0, none⟩ (.bool x)).setCell ⟨n + 1 + 1, 1, none⟩ (.string v)).setCell ⟨n + 1 + 1, 2, none⟩ (.bool o)) (n + 1 + 1) x v o ∧
    Turn (fun k => k = n + 1 + 1) w (((w.setCell ⟨n + 1 + 1, 0, none⟩ (.bool x)).setCell ⟨n + 1 + 1, 1, none⟩ (.string v)).setCell ⟨n + 1 + 1, 2, none⟩ (.bool o)) := by
  have ht := put_turn9 w (n + 1 + 1) x o v
  exact ⟨q.beside ht (fun k hk e => r.rn (by rw [← (show k = n + 1 + 1 from e)]; exact hk)), r.rb.put x o v, ht⟩
end
theorem SB.put {w : World} {i : Ix} {S : Sx} {B E x : Nat} {L : List (List Nat)} {lane : Int} {s : St} {b : Nat} {y o : Bool} {v : ByteArray} (q : SB w i S B E x y v o) (h : LT w i S B E L lane s b) (v' : ByteArray) (o' : Bool) :
    SB ((w.setCell ⟨x, 1, none⟩ (.string v')).setCell ⟨x, 2, none⟩ (.bool o')) i S B E x y v' o' ∧ LT ((w.setCell ⟨x, 1, none⟩ (.string v')).setCell ⟨x, 2, none⟩ (.bool o')) i S B E L lane s b ∧ Turn (fun k => k = x) w ((w.setCell ⟨x, 1, none⟩ (.string v')).setCell ⟨x, 2, none⟩ (.bool o')) := by
  have ht : Turn (fun k => k = x) w ((w.setCell ⟨x, 1, none⟩ (.string v')).setCell ⟨x, 2, none⟩ (.bool o')) := ((Turn.refl (fun k => k = x) w).setCell (p := ⟨x, 1, none⟩) (Or.inl rfl) _).setCell (p := ⟨x, 2, none⟩) (Or.inl rfl) _
  refine ⟨⟨?_, q.out⟩, h.beside ht (fun k hk e => q.out (by rw [← (show k = x from e)]; exact hk)), ht⟩
  have k := q.box
  unfold LR.Box at k ⊢
  have r1 : (w.setCell ⟨x, 1, none⟩ (.string v')).heap[x]? = some (.cells #[.bool y, .string v', .bool o] 57 (0, 0)) := by rw [heap_setCell_same _ _ _ _ _ _ k]; rfl
  rw [heap_setCell_same _ _ _ _ _ _ r1]; rfl
theorem RQ.turn {w w' : World} {i : Ix} {S : Sx} {B E n x : Nat} {key : ByteArray} (q : RQ w i S B E n key) (ht : Turn (fun k => k = x) w w') (h0 : n ≠ x) (h1 : n + 1 ≠ x) (h2 : n + 1 + 1 ≠ x) : RQ w' i S B E n key := by
  refine ⟨⟨?_, q.kl.out⟩, ⟨?_, q.kk.out⟩, ?_, q.rn⟩
  · exact (World.cell?_of_block (a := ⟨n, 0, none⟩) (ht.block n (World.block_lt_of_cell? _ _ q.kl.cell) h0)).trans q.kl.cell
  · exact (World.cell?_of_block (a := ⟨n + 1, 0, none⟩) (ht.block (n + 1) (World.block_lt_of_cell? _ _ q.kk.cell) h1)).trans q.kk.cell
  · exact (ht.block _ (heap_lt q.rb) h2).trans q.rb
theorem tpost_fin {i : Ix} {B E : Nat} {lane : Int} {w0 w1 w2 : World} {S0 S1 : Sx} {L0 L1 : List (List Nat)} {s' : St} {b' n : Nat} {v : Value} (h1 : LT w2 i S1 B E L1 lane s' b') (hL : ∀ j, j ≠ lane → DR.lget L1 j = DR.lget L0 j) (g : Went w0 w1 (tblk i S0 B E) (tblk i S1 B E)) (hn : w0.heap.size ≤ n) (ht : Turn (fun k => k = n) w1 w2) : TPost v w0 i S0 B E L0 lane s' b' (.returned v) w2 :=
  ⟨rfl, S1, L1, h1, hL, ⟨g.new, g.turn.trans ht fun k hk e => by have e : k = n := e; omega⟩⟩
section
variable (w : World) (i : Ix) (S : Sx) (B E : Nat) (L : List (List Nat)) (lane : Int) (s : St) (b : Nat) (h : LT w i S B E L lane s b)
include h

set_option maxHeartbeats 2000000 in
theorem request_zero (key : ByteArray) (hm : s.mo = 0) (hb : b ≤ 880) : Calls Tryz.prog 18 #[.pointer (some ⟨i.l, 0, none⟩), .string key] w (TPost (.agg #[.bool false, .string ⟨#[]⟩, .bool false]) w i S B E L lane s.tick (b + 1)) := by
  obtain ⟨q1, q2, q3⟩ := rq_start h key
  have hcl := h.lim.clock
  have hw := IntWalk.i64_in ((s.clock : Int) + 1) (by omega)
  have Q1 := Lib.hid (And.intro q1 (And.intro q2 q3))
  clear h q1 q2 q3 hcl
  go_enter Tryz.func18, Tryz.ntmps18
  go_upto_region 1 with fail
  obtain ⟨n, hn⟩ : ∃ n, n = w.heap.size := ⟨_, rfl⟩
  rw [← hn] at Q1 ⊢
  have HN := Lib.hid (Nat.le_of_eq hn.symm)
  clear hn
  generalize ((w.alloc (.cells #[.pointer (some ⟨i.l, 0, none⟩)] 26)).alloc (.cells #[.string key] 9)).alloc zSt = w1 at Q1 ⊢
  have c7 := Q1.out.1.cc
  have f7 := Q1.out.1.fr 7
  have k1 := Q1.out.2.1.kl.cell
  obtain ⟨z1, z2⟩ := rq_tick Q1.out.1
  have Q2 := Lib.hid (And.intro z1 (And.intro (Q1.out.2.1.went z2) (Q1.out.2.2.trans z2)))
  clear Q1 z1 z2
  go_upto_region 2 with fail
  generalize w1.setCell ⟨i.l, 7, none⟩ (.int .i64 ((s.clock : Int) + 1)) = w2 at Q2 ⊢
  clear c7 f7 k1 hw w1
  have k2 := Q2.out.2.1.kl.cell
  have d1 := Q2.out.1.cm
  rw [show s.tick.mo = 0 from hm] at d1
  replace d1 : w2.cell? ⟨i.l, 1, none⟩ = some (.int .i64 0) := d1
  obtain ⟨r0, r1, r2, p1, p2⟩ := Q2.out.2.1.rb.cells
  have p0 := frozen_of_row w2 _ 0 _ _ Q2.out.2.1.rb
  obtain ⟨e1, e2, e3⟩ := rq_end Q2.out.1 Q2.out.2.1 false ⟨#[]⟩ false
  have FN := Lib.hid (And.intro e1 (And.intro e2 e3))
  clear e1 e2 e3
  go_wp2_with fail
  refine bodyPost_ret (LR.results_c rfl _ _ _ ⟨n + 1 + 1, 0, none⟩ _ rfl (LR.load_step FN.out.2.1)) rfl ?_
  exact tpost_fin FN.out.1 (fun _ _ => rfl) Q2.out.2.2 (by have := HN.out; omega) FN.out.2.2
set_option maxHeartbeats 4000000 in
theorem request_hit (key : ByteArray) (hs : key.size ≤ maxLen) (hk : s.has key = true) (hm : s.mo ≠ 0) (hb : b ≤ 880) : Calls Tryz.prog 18 #[.pointer (some ⟨i.l, 0, none⟩), .string key] w (TPost (.agg #[.bool true, .string ⟨#[]⟩, .bool false]) w i S B E L lane (s.tick.onHit key).window (b + 4)) := by
  have okh := Lib.hid (onHit_ok (tick_ok h.ok) hm (inn_iff.1 hk)).1
  obtain ⟨q1, q2, q3⟩ := rq_start h key
  have hcl := h.lim.clock
  have hw := IntWalk.i64_in ((s.clock : Int) + 1) (by omega)
  have Q1 := Lib.hid (And.intro q1 (And.intro q2 q3))
  clear h q1 q2 q3 hcl
  go_enter Tryz.func18, Tryz.ntmps18
  go_upto_region 1 with fail
  obtain ⟨n, hn⟩ : ∃ n, n = w.heap.size := ⟨_, rfl⟩
  rw [← hn] at Q1 ⊢
  have HN := Lib.hid (Nat.le_of_eq hn.symm)
  clear hn
  generalize ((w.alloc (.cells #[.pointer (some ⟨i.l, 0, none⟩)] 26)).alloc (.cells #[.string key] 9)).alloc zSt = w1 at Q1 ⊢
  have c7 := Q1.out.1.cc
  have f7 := Q1.out.1.fr 7
  have k1 := Q1.out.2.1.kl.cell
  obtain ⟨z1, z2⟩ := rq_tick Q1.out.1
  have Q2 := Lib.hid (And.intro z1 (And.intro (Q1.out.2.1.went z2) (Q1.out.2.2.trans z2)))
  clear Q1 z1 z2
  go_upto_region 2 with fail
  generalize w1.setCell ⟨i.l, 7, none⟩ (.int .i64 ((s.clock : Int) + 1)) = w2 at Q2 ⊢
  clear c7 f7 k1 hw w1
  have k2 := Q2.out.2.1.kl.cell
  have d1 := Q2.out.1.cm
  replace d1 : w2.cell? ⟨i.l, 1, none⟩ = some (.int .i64 (s.mo : Int)) := d1
  have ne0 : ((s.mo : Int) == 0) = false := by simp; omega
  have ne1 : (s.mo == 0) = false := by simpa using hm
  have kk := Q2.out.2.1.kk.cell
  have U := Lib.hid (show Calls Tryz.prog 34 #[.pointer (some ⟨i.l, 0, none⟩), .string key] w2 (Told (.bool true) w2) from by
    have := has_t w2 i S B E L lane s.tick (b + 1) Q2.out.1 key hs
    rw [show s.tick.has key = true from hk] at this
    exact this)
  go_wp2_with fail
  refine U.out.mono ?_
  rintro e w3 ⟨rfl, hB⟩
  have Q3 := Lib.hid (And.intro (Q2.out.1.below hB) (And.intro (Q2.out.2.1.below hB) (Q2.out.2.2.trans (Went.below hB))))
  clear hB U Q2 d1 k2 kk
  go_upto_region 5 with fail
  have hb3 := (Below.refl w3.heap.size w3).alloc (Nat.le_refl _) (.cells #[.bool true, .string ⟨#[]⟩, .bool false] 57)
  have Q4 := Lib.hid (And.intro (Q3.out.1.below hb3) (And.intro (Q3.out.2.1.below hb3) (Q3.out.2.2.trans (Went.below hb3))))
  have S4 := Lib.hid (show SB (w3.alloc (.cells #[.bool true, .string ⟨#[]⟩, .bool false] 57)) i S B E w3.heap.size true ⟨#[]⟩ false from ⟨heap_alloc_new _ _, fun e => Nat.lt_irrefl _ (Q3.out.1.lt e)⟩)
  clear hb3 Q3
  generalize w3.heap.size = x at S4 ⊢
  generalize w3.alloc (.cells #[.bool true, .string ⟨#[]⟩, .bool false] 57) = w4 at Q4 S4 ⊢
  obtain ⟨s0, s1, s2, j1, j2⟩ := S4.out.box.cells
  have k4 := Q4.out.2.1.kl.cell
  have BT := Lib.hid (both_r w4 i S (flOf s.tick B lane) s.A s.B (s.A.req key) (s.B.req key) (gk s.HA) (gk s.HB) (fOf s.HA s.HB) (fun _ => b + 1) (fun _ => b + 1 + 1) 64 (n + 1) (.string key) Q4.out.1.raw Q4.out.2.1.kk.cell (fun e => Q4.out.2.1.kk.out (Or.inl e)) cReqE (fun _ _ => Nat.le_succ _)
    (fun w1 p U hP hx => cReq w1 p U s.A (b + 1) (n + 1) key hP hx hs (by omega)) (fun w1 p U hP hx => cReq w1 p U s.B (b + 1) (n + 1) key hP hx hs (by omega)))
  go_wp2_with fail
  refine BT.out.mono ?_
  rintro e w6 ⟨rfl, S5, r5, g5, _, _⟩
  obtain ⟨h6, g6⟩ := Q4.out.1.went (s' := { s.tick with A := s.A.req key, B := s.B.req key }) (b' := b + 2) r5 g5 { okh.out with } ⟨Q4.out.1.lim.mo, Nat.le_succ_of_le Q4.out.1.lim.clock, Nat.le_succ_of_le Q4.out.1.lim.asked, Nat.le_succ_of_le Q4.out.1.lim.hits, Nat.le_succ_of_le Q4.out.1.lim.last, Q4.out.1.lim.still⟩ rfl
  have Q6 := Lib.hid (And.intro h6 (And.intro (Q4.out.2.1.went g6) (And.intro (Nat.le_refl 0) (Q4.out.2.2.trans g6))))
  have S6 := Lib.hid (S4.out.went g6)
  have Q4h := Lib.hid (show s.hits ≤ b + 1 from Q4.out.1.lim.hits)
  clear h6 g6 r5 g5 BT Q4 S4 s0 s1 s2 j1 j2 k4
  obtain ⟨t, ht⟩ : ∃ t, t = ({ s.tick with A := s.A.req key, B := s.B.req key } : St) := ⟨_, rfl⟩
  have FF := Lib.hid (show cnt t true = (s.tick.onHit key).window from by rw [ht]; unfold cnt; rw [if_pos rfl]; rfl)
  have CM := Lib.hid (show (cnt t true).mo = t.mo from by unfold cnt; rw [if_pos rfl]; exact (window_same _).2.1)
  rw [← ht] at Q6
  have F5 := Lib.hid (show t.six = false → LT w6 i S5 B E L lane ((s.tick.onHit key).window) (b + 4) from fun h6 => by
    rw [ht] at h6
    rw [show (s.tick.onHit key).window = s.tick.onHit key from by unfold St.window; exact if_pos h6]
    have l := (Q6.out.1.mono (show b + 2 ≤ b + 4 by omega))
    rw [ht] at l
    have hh : s.hits ≤ b + 1 := Q4h.out
    exact l.congr (s' := s.tick.onHit key) (by have e1 : s.six = false := h6; unfold flOf St.onHit St.tick; simp [e1]) rfl okh.out ⟨l.lim.mo, l.lim.clock, l.lim.asked, by show s.hits + 1 ≤ b + 4; omega, l.lim.last, l.lim.still⟩ rfl)
  clear ht
  generalize (s.tick.onHit key).window = fs at *
  have k0 := Q6.out.1.kd
  have kl6 := Q6.out.2.1.kl.cell
  obtain ⟨t0, t1, t2, _, _⟩ := S6.out.box.cells
  cases h6 : (t).six with
  | false =>
    rw [h6, if_neg (by simp)] at k0
    replace k0 : w6.cell? ⟨i.l, 0, none⟩ = some (.int .i64 5) := k0
    have L7 := Lib.hid (F5.out h6)
    obtain ⟨r0, r1, r2, p1, p2⟩ := Q6.out.2.1.rb.cells
    have p0 := frozen_of_row w6 _ 0 _ _ Q6.out.2.1.rb
    obtain ⟨e1, e2, e3⟩ := rq_end L7.out Q6.out.2.1 true ⟨#[]⟩ false
    have FN := Lib.hid (And.intro e1 (And.intro e2 e3))
    have G6 := Lib.hid Q6.out.2.2
    clear e1 e2 e3 L7 Q6 S6 h6
    go_wp2_with fail
    refine bodyPost_ret (LR.results_c rfl _ _ _ ⟨n + 1 + 1, 0, none⟩ _ rfl (LR.load_step FN.out.2.1)) rfl ?_
    exact tpost_fin FN.out.1 (fun _ _ => rfl) G6.out.2 (by have := HN.out; omega) FN.out.2.2
  | true =>
    rw [h6, if_pos rfl] at k0
    replace k0 : w6.cell? ⟨i.l, 0, none⟩ = some (.int .i64 6) := k0
    have m6 := Q6.out.1.cm
    have hd := Q6.out.1.below (FX.bdrew (Below.refl w6.heap.size w6) 1)
    have CT := Lib.hid (show Calls Tryz.prog 67 #[.pointer (some ⟨i.l, 9, none⟩), .bool true, .int .i64 ((t).mo : Int), nxF n] w6.drew (TPost (.tuple #[]) w6.drew i S5 B E L lane (cnt (t) true) (b + 2 + 1)) from count_t w6.drew i S5 B E L lane (t) (b + 2) hd n ⟨Q6.out.2.1.kl.cell, Q6.out.2.1.kl.out⟩ h6 true (by omega))
    clear hd h6
    go_wp2_with fail
    go_region_held3 (fun w' => w'.cell? ⟨n, 0, none⟩ = some (.pointer (some ⟨i.l, 0, none⟩)) ∧ w'.cell? ⟨x, 0, none⟩ = some (.bool true) ∧ w'.cell? ⟨i.l, 1, none⟩ = some (.int .i64 ((t).mo : Int))) (first | (with_reducible exact ⟨y1, y2, y3⟩) | (with_reducible exact ⟨kl6, t0, m6⟩) | go_keep)
      ((go_at_call 67; refine CT.out.mono ?_; rintro e w7 ⟨rfl, S7, L7, h7, hL7, g7⟩; have g67 := (Went.below (S := tblk i S5 B E) ((Below.refl w6.heap.size w6).drew)).trans g7; have Q7 := Lib.hid (And.intro h7 (And.intro (Q6.out.2.1.went g67) (And.intro (fun (j : Int) (hj : j ≠ lane) => hL7 j hj) (Q6.out.2.2.2.trans g67)))); have S7' := Lib.hid (S6.out.went g67); have y1 := Q7.out.2.1.kl.cell; have y2 := S7'.out.box.cells.1; have y3 : w7.cell? ⟨i.l, 1, none⟩ = some (.int .i64 ((t).mo : Int)) := (by have := h7.cm; rw [CM.out] at this; exact this); clear h7 hL7 g7 g67 CT))
    clear y1 y2 y3 k0 kl6 t0 t1 t2 m6 CM
    obtain ⟨t0, t1, t2, _, _⟩ := S7'.out.box.cells
    obtain ⟨r0, r1, r2, p1, p2⟩ := Q7.out.2.1.rb.cells
    have p0 := frozen_of_row w7 _ 0 _ _ Q7.out.2.1.rb
    have LF := Lib.hid (show LT w7 i S7 B E L7 lane fs (b + 4) from by rw [← FF.out]; exact Q7.out.1.mono (by omega))
    obtain ⟨e1, e2, e3⟩ := rq_end LF.out Q7.out.2.1 true ⟨#[]⟩ false
    have FN := Lib.hid (And.intro e1 (And.intro e2 e3))
    have G6 := Lib.hid Q7.out.2.2
    clear e1 e2 e3 Q7 S7' LF Q6 S6
    go_wp2_with fail
    refine bodyPost_ret (LR.results_c rfl _ _ _ ⟨n + 1 + 1, 0, none⟩ _ rfl (LR.load_step FN.out.2.1)) rfl ?_
    exact tpost_fin FN.out.1 G6.out.1 G6.out.2 (by have := HN.out; omega) FN.out.2.2
set_option maxHeartbeats 4000000 in
theorem request_miss (key : ByteArray) (hs : key.size ≤ maxLen) (hk : s.has key = false) (hm : s.mo ≠ 0) (hb : b ≤ 880) : Calls Tryz.prog 18 #[.pointer (some ⟨i.l, 0, none⟩), .string key] w (TPost (.agg #[.bool false, .string (fV s.tick key), .bool s.tick.full]) w i S B E L lane ((s.tick.make key).both key).window (b + 4)) := by
  obtain ⟨q1, q2, q3⟩ := rq_start h key
  have hcl := h.lim.clock
  have hw := IntWalk.i64_in ((s.clock : Int) + 1) (by omega)
  have Q1 := Lib.hid (And.intro q1 (And.intro q2 q3))
  clear h q1 q2 q3 hcl
  go_enter Tryz.func18, Tryz.ntmps18
  go_upto_region 1 with fail
  obtain ⟨n, hn⟩ : ∃ n, n = w.heap.size := ⟨_, rfl⟩
  rw [← hn] at Q1 ⊢
  have HN := Lib.hid (Nat.le_of_eq hn.symm)
  clear hn
  generalize ((w.alloc (.cells #[.pointer (some ⟨i.l, 0, none⟩)] 26)).alloc (.cells #[.string key] 9)).alloc zSt = w1 at Q1 ⊢
  have c7 := Q1.out.1.cc
  have f7 := Q1.out.1.fr 7
  have k1 := Q1.out.2.1.kl.cell
  obtain ⟨z1, z2⟩ := rq_tick Q1.out.1
  have Q2 := Lib.hid (And.intro z1 (And.intro (Q1.out.2.1.went z2) (Q1.out.2.2.trans z2)))
  clear Q1 z1 z2
  go_upto_region 2 with fail
  generalize w1.setCell ⟨i.l, 7, none⟩ (.int .i64 ((s.clock : Int) + 1)) = w2 at Q2 ⊢
  clear c7 f7 k1 hw w1
  have k2 := Q2.out.2.1.kl.cell
  have d1 := Q2.out.1.cm
  replace d1 : w2.cell? ⟨i.l, 1, none⟩ = some (.int .i64 (s.mo : Int)) := d1
  have ne0 : ((s.mo : Int) == 0) = false := by simp; omega
  have ne1 : (s.mo == 0) = false := by simpa using hm
  have kk := Q2.out.2.1.kk.cell
  have U := Lib.hid (show Calls Tryz.prog 34 #[.pointer (some ⟨i.l, 0, none⟩), .string key] w2 (Told (.bool false) w2) from by
    have := has_t w2 i S B E L lane s.tick (b + 1) Q2.out.1 key hs
    rw [show s.tick.has key = false from hk] at this
    exact this)
  go_wp2_with fail
  refine U.out.mono ?_
  rintro e w3 ⟨rfl, hB⟩
  have Q3 := Lib.hid (And.intro (Q2.out.1.below hB) (And.intro (Q2.out.2.1.below hB) (Q2.out.2.2.trans (Went.below hB))))
  clear hB U Q2 d1 k2 kk
  go_upto_region 5 with fail
  have hb3 := (Below.refl w3.heap.size w3).alloc (Nat.le_refl _) (.cells #[.bool false, .string ⟨#[]⟩, .bool false] 57)
  have Q4 := Lib.hid (And.intro (Q3.out.1.below hb3) (And.intro (Q3.out.2.1.below hb3) (Q3.out.2.2.trans (Went.below hb3))))
  have S4 := Lib.hid (show SB (w3.alloc (.cells #[.bool false, .string ⟨#[]⟩, .bool false] 57)) i S B E w3.heap.size false ⟨#[]⟩ false from ⟨heap_alloc_new _ _, fun e => Nat.lt_irrefl _ (Q3.out.1.lt e)⟩)
  have Q3' := Lib.hid Q3.out.2.1
  clear hb3 Q3
  obtain ⟨x, hx⟩ : ∃ x, x = w3.heap.size := ⟨_, rfl⟩
  have HX := Lib.hid (show n < x ∧ n + 1 < x ∧ n + 1 + 1 < x from by rw [hx]; exact ⟨World.block_lt_of_cell? _ _ Q3'.out.kl.cell, World.block_lt_of_cell? _ _ Q3'.out.kk.cell, heap_lt Q3'.out.rb⟩)
  rw [← hx] at S4 ⊢
  clear hx Q3'
  generalize w3.alloc (.cells #[.bool false, .string ⟨#[]⟩, .bool false] 57) = w4 at Q4 S4 ⊢
  obtain ⟨s0, s1, s2, j1, j2⟩ := S4.out.box.cells
  have k4 := Q4.out.2.1.kl.cell
  have FE := Lib.hid (fetch_t w4 i S B E L lane s.tick (b + 1) Q4.out.1 key hs (inn_no.1 hk) hm (by omega))
  generalize fV s.tick key = vk at *
  generalize s.tick.full = ob at *
  have kk4 := Q4.out.2.1.kk.cell
  go_wp2_with fail
  refine FE.out.mono ?_
  rintro e w5 ⟨rfl, S5, L5, h5, hL5, g5⟩
  have R5 := Q4.out.2.1.went g5
  have B5 := S4.out.went g5
  obtain ⟨u0, u1, u2, v1, v2⟩ := B5.box.cells
  obtain ⟨b6, h6, ht6⟩ := B5.put h5 vk ob
  have R6 := R5.turn ht6 (by have := HX.out; omega) (by have := HX.out; omega) (by have := HX.out; omega)
  have hx0 : w.heap.size ≤ x := by have := HX.out; have := HN.out; omega
  have G6 : Went w ((w5.setCell ⟨x, 1, none⟩ (.string vk)).setCell ⟨x, 2, none⟩ (.bool ob)) (tblk i S B E) (tblk i S5 B E) := ⟨(Q4.out.2.2.trans g5).new, (Q4.out.2.2.trans g5).turn.trans ht6 fun k hk e => by have e : k = x := e; omega⟩
  have Q6 := Lib.hid (And.intro h6 (And.intro R6 (And.intro hL5 G6)))
  have S6 := Lib.hid b6
  clear h5 hL5 g5 R5 B5 b6 h6 ht6 R6 G6 FE Q4 S4 s0 s1 s2 j1 j2 k4 kk4
  go_upto_region 8 with fail
  generalize (w5.setCell ⟨x, 1, none⟩ (.string vk)).setCell ⟨x, 2, none⟩ (.bool ob) = w6 at Q6 S6 ⊢
  clear u0 u1 u2 v1 v2
  obtain ⟨t, ht⟩ : ∃ t, t = (s.tick.make key).both key := ⟨_, rfl⟩
  have FF := Lib.hid (show cnt t false = ((s.tick.make key).both key).window from by rw [ht]; unfold cnt; rw [if_neg (by simp)])
  have CM := Lib.hid (show (cnt t false).mo = t.mo from by unfold cnt; rw [if_neg (by simp)]; exact (window_same _).2.1)
  rw [← ht] at Q6
  have F5 := Lib.hid (show t.six = false → LT w6 i S5 B E L5 lane (((s.tick.make key).both key).window) (b + 4) from fun h6 => by
    rw [ht] at h6
    rw [show ((s.tick.make key).both key).window = (s.tick.make key).both key from by unfold St.window; exact if_pos h6]
    have l := (Q6.out.1.mono (show b + 1 + 2 ≤ b + 4 by omega))
    rw [ht] at l
    exact l)
  clear ht
  generalize ((s.tick.make key).both key).window = fs at *
  have k0 := Q6.out.1.kd
  have kl6 := Q6.out.2.1.kl.cell
  obtain ⟨t0, t1, t2, _, _⟩ := S6.out.box.cells
  cases h6 : (t).six with
  | false =>
    rw [h6, if_neg (by simp)] at k0
    replace k0 : w6.cell? ⟨i.l, 0, none⟩ = some (.int .i64 5) := k0
    have L7 := Lib.hid (F5.out h6)
    obtain ⟨r0, r1, r2, p1, p2⟩ := Q6.out.2.1.rb.cells
    have p0 := frozen_of_row w6 _ 0 _ _ Q6.out.2.1.rb
    obtain ⟨e1, e2, e3⟩ := rq_end L7.out Q6.out.2.1 false vk ob
    have FN := Lib.hid (And.intro e1 (And.intro e2 e3))
    have G6 := Lib.hid Q6.out.2.2
    clear e1 e2 e3 L7 Q6 S6 h6
    go_wp2_with fail
    refine bodyPost_ret (LR.results_c rfl _ _ _ ⟨n + 1 + 1, 0, none⟩ _ rfl (LR.load_step FN.out.2.1)) rfl ?_
    exact tpost_fin FN.out.1 (G6.out.1) G6.out.2 (by have := HN.out; omega) FN.out.2.2
  | true =>
    rw [h6, if_pos rfl] at k0
    replace k0 : w6.cell? ⟨i.l, 0, none⟩ = some (.int .i64 6) := k0
    have m6 := Q6.out.1.cm
    have hd := Q6.out.1.below (FX.bdrew (Below.refl w6.heap.size w6) 1)
    have CT := Lib.hid (show Calls Tryz.prog 67 #[.pointer (some ⟨i.l, 9, none⟩), .bool false, .int .i64 ((t).mo : Int), nxF n] w6.drew (TPost (.tuple #[]) w6.drew i S5 B E L5 lane (cnt (t) false) (b + 1 + 2 + 1)) from count_t w6.drew i S5 B E L5 lane (t) (b + 1 + 2) hd n ⟨Q6.out.2.1.kl.cell, Q6.out.2.1.kl.out⟩ h6 false (by omega))
    clear hd h6
    go_wp2_with fail
    go_region_held3 (fun w' => w'.cell? ⟨n, 0, none⟩ = some (.pointer (some ⟨i.l, 0, none⟩)) ∧ w'.cell? ⟨x, 0, none⟩ = some (.bool false) ∧ w'.cell? ⟨i.l, 1, none⟩ = some (.int .i64 ((t).mo : Int))) (first | (with_reducible exact ⟨y1, y2, y3⟩) | (with_reducible exact ⟨kl6, t0, m6⟩) | go_keep)
      ((go_at_call 67; refine CT.out.mono ?_; rintro e w7 ⟨rfl, S7, L7, h7, hL7, g7⟩; have g67 := (Went.below (S := tblk i S5 B E) ((Below.refl w6.heap.size w6).drew)).trans g7; have Q7 := Lib.hid (And.intro h7 (And.intro (Q6.out.2.1.went g67) (And.intro (fun (j : Int) (hj : j ≠ lane) => (hL7 j hj).trans (Q6.out.2.2.1 j hj)) (Q6.out.2.2.2.trans g67)))); have S7' := Lib.hid (S6.out.went g67); have y1 := Q7.out.2.1.kl.cell; have y2 := S7'.out.box.cells.1; have y3 : w7.cell? ⟨i.l, 1, none⟩ = some (.int .i64 ((t).mo : Int)) := (by have := h7.cm; rw [CM.out] at this; exact this); clear h7 hL7 g7 g67 CT))
    clear y1 y2 y3 k0 kl6 t0 t1 t2 m6 CM
    obtain ⟨t0, t1, t2, _, _⟩ := S7'.out.box.cells
    obtain ⟨r0, r1, r2, p1, p2⟩ := Q7.out.2.1.rb.cells
    have p0 := frozen_of_row w7 _ 0 _ _ Q7.out.2.1.rb
    have LF := Lib.hid (show LT w7 i S7 B E L7 lane fs (b + 4) from by rw [← FF.out]; exact Q7.out.1.mono (by omega))
    obtain ⟨e1, e2, e3⟩ := rq_end LF.out Q7.out.2.1 false vk ob
    have FN := Lib.hid (And.intro e1 (And.intro e2 e3))
    have G6 := Lib.hid Q7.out.2.2
    clear e1 e2 e3 Q7 S7' LF Q6 S6
    go_wp2_with fail
    refine bodyPost_ret (LR.results_c rfl _ _ _ ⟨n + 1 + 1, 0, none⟩ _ rfl (LR.load_step FN.out.2.1)) rfl ?_
    exact tpost_fin FN.out.1 G6.out.1 G6.out.2 (by have := HN.out; omega) FN.out.2.2
end
end Go.Proofs.YtnlckkahkghneaaGreatDoor.LE
