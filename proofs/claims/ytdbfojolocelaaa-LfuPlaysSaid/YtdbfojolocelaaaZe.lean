/- The contracts of the reference's Adopt and Request. -/
import Derived.Test.YtdbfojolocelaaaZd
namespace Go.Proofs.Ytdbfojolocelaaa
open Go.RowKit Ht HS Lf

/-- What a call that hands back a cache and something more leaves. -/
def ZtPost (w : World) (g mo : Nat) (ch : Bool) (st : Value) (B : List (Ent Key)) (e : Ending) (w' : World) : Prop := ∃ A m c, e = .returned (.tuple #[.agg #[.int .i64 (mo : Int), .bool ch, .slice A m c], st]) ∧ Kp w w' g (.slice A m c) B ∧ B.length = m ∧ Below w.heap.size w w'
theorem zlen {w' : World} {A : Option Addr} {m c base : Nat} {B : List (Ent Key)} (hO : OwnZ w' base (.slice A m c) B) : B.length = m := by
  obtain ⟨_, _, hv⟩ := hO.len
  injection hv with _ hv _
  exact hv.symm

set_option maxHeartbeats 2000000 in
set_option maxRecDepth 100000 in
theorem rad_no (w : World) (g mo : Nat) (ch : Bool) (A : Option Addr) (m c : Nat) (L B : List (Ent Key)) (n : Nat) (key : Key) (h : ZRow w g (.slice A m c) B) (hm : B.length = m) (hl : m ≤ 1900) (hmo : mo ≤ 9223372036854775807) (y : By ch L B n) (hf : isIn L key = true ∨ (isIn L key = false ∧ mo ≤ m)) :
    Calls Try.prog 17 #[.agg #[.int .i64 (mo : Int), .bool ch, .slice A m c], .string key] w (ZtPost w g mo ch (.bool false) B) := by
  have X0 := rw_start w mo ch (.slice A m c)
  obtain ⟨w1, hw1⟩ : ∃ w1, rw0 w mo ch (.slice A m c) = w1 := ⟨_, rfl⟩
  obtain ⟨p0, hp0⟩ : ∃ p, w.heap.size = p := ⟨_, rfl⟩
  obtain ⟨p1, hp1⟩ : ∃ p, p0 + 1 = p := ⟨_, rfl⟩
  have hr := h.below X0.bel
  rw [hw1] at X0 hr
  rw [hp0, hp1] at X0
  have RW := Lib.hid X0
  have U := rtimes_any w1 g mo ch A m c B key hr hm
  rw [y.tms] at U
  have tp := tms_pos y.fit key
  have ht := tms_rng y.fit key
  generalize tms L key = t at U tp ht
  have U := Lib.hid U
  have HH := Lib.hid h
  have HM := Lib.hid hm
  obtain ⟨k0, k1, k2⟩ := X0.c.c
  clear h hm X0 hr y
  rcases hf with hi | ⟨hi, hf⟩
  · rw [hi] at tp
    clear hi
    go_enter Try.func17, Try.ntmps17
    go_wp2_with fail
    clear hw1 hp0 hp1
    refine U.out.mono ?_
    rintro e w2 ⟨rfl, hB⟩
    have X2 := RW.out.below hB
    have F := Lib.hid X2.out
    obtain ⟨c0, c1, c2⟩ := X2.c.c
    obtain ⟨r0, r1, r2⟩ := X2.r1.c
    obtain ⟨q0, q1, q2⟩ := X2.r1.f
    obtain ⟨n1, n2⟩ := X2.ne
    clear hB X2 k0 k1 k2 U
    go_wp2_with fail
    refine bodyPost_ret (results_ct rfl _ _ _ ⟨p1, 0, none⟩ _ rfl (load_c F.out.1)) rfl ?_
    exact ⟨_, _, _, rfl, ⟨g, HH.out.below F.out.2, Or.inl rfl⟩, HM.out, F.out.2⟩
  · rw [hi] at tp
    have e1 : decide (mo ≤ m) = true := by simpa using hf
    clear hi hf
    go_enter Try.func17, Try.ntmps17
    go_wp2_with fail
    clear hw1 hp0 hp1
    refine U.out.mono ?_
    rintro e w2 ⟨rfl, hB⟩
    have X2 := RW.out.below hB
    have F := Lib.hid X2.out
    obtain ⟨c0, c1, c2⟩ := X2.c.c
    obtain ⟨r0, r1, r2⟩ := X2.r1.c
    obtain ⟨q0, q1, q2⟩ := X2.r1.f
    obtain ⟨n1, n2⟩ := X2.ne
    clear hB X2 k0 k1 k2 U
    go_wp2_with fail
    refine bodyPost_ret (results_ct rfl _ _ _ ⟨p1, 0, none⟩ _ rfl (load_c F.out.1)) rfl ?_
    exact ⟨_, _, _, rfl, ⟨g, HH.out.below F.out.2, Or.inl rfl⟩, HM.out, F.out.2⟩

set_option maxHeartbeats 2000000 in
set_option maxRecDepth 100000 in
theorem rad_yes (w : World) (g mo : Nat) (ch : Bool) (A : Option Addr) (m c : Nat) (L B : List (Ent Key)) (n : Nat) (key : Key) (h : ZRow w g (.slice A m c) B) (hm : B.length = m) (hl : m ≤ 1900) (hmo : mo ≤ 9223372036854775807) (y : By ch L B n) (hn : n ≤ 90000) (hs : key.size ≤ maxLen) (hi : isIn L key = false) (hf : m < mo) :
    Calls Try.prog 17 #[.agg #[.int .i64 (mo : Int), .bool ch, .slice A m c], .string key] w (ZtPost w g mo ch (.bool true) (askB ch n L B key)) := by
  have X0 := rw_start w mo ch (.slice A m c)
  obtain ⟨w1, hw1⟩ : ∃ w1, rw0 w mo ch (.slice A m c) = w1 := ⟨_, rfl⟩
  obtain ⟨p0, hp0⟩ : ∃ p, w.heap.size = p := ⟨_, rfl⟩
  obtain ⟨p1, hp1⟩ : ∃ p, p0 + 1 = p := ⟨_, rfl⟩
  have hr := h.below X0.bel
  rw [hw1] at X0 hr
  rw [hp0, hp1] at X0
  have RW := Lib.hid X0
  have U := rtimes_any w1 g mo ch A m c B key hr hm
  rw [y.tms] at U
  have tp := tms_pos y.fit key
  have ht := tms_rng y.fit key
  have AS := Lib.hid (fun (W : World) (hz : ZRow W g (.slice A m c) B) => rask_any W g mo ch A m c L B n key hz hm hl y hn hs)
  rw [hi] at tp
  generalize askB ch n L B key = B2 at *
  generalize tms L key = t at U tp ht
  have e1 : decide (mo ≤ m) = false := by simpa using hf
  have U := Lib.hid U
  have HR := Lib.hid hr
  obtain ⟨k0, k1, k2⟩ := X0.c.c
  clear h X0 hr y hi hf
  go_enter Try.func17, Try.ntmps17
  go_wp2_with fail
  clear hw1 hp0 hp1
  refine U.out.mono ?_
  rintro e w2 ⟨rfl, hB⟩
  have X2 := RW.out.below hB
  have R2 := Lib.hid X2
  have U2 := Lib.hid (AS.out w2 (HR.out.below hB))
  obtain ⟨c0, c1, c2⟩ := X2.c.c
  clear hB X2 k0 k1 k2 U RW HR AS
  go_wp2_with fail
  refine U2.out.mono ?_
  rintro e w3 ⟨A3, m3, c3, rfl, hO, hB⟩
  have X3 := R2.out.below hB
  have HM3 := Lib.hid (zlen hO)
  have F := Lib.hid (show CBox (((w3.setCell ⟨p1, 0, none⟩ (.int .i64 (mo : Int))).setCell ⟨p1, 1, none⟩ (.bool ch)).setCell ⟨p1, 2, none⟩ (.slice A3 m3 c3)) p1 mo ch (.slice A3 m3 c3) ∧ Below w.heap.size w (((w3.setCell ⟨p1, 0, none⟩ (.int .i64 (mo : Int))).setCell ⟨p1, 1, none⟩ (.bool ch)).setCell ⟨p1, 2, none⟩ (.slice A3 m3 c3)) from
    ⟨X3.r1.put mo ch _, ((X3.bel.setCell (p := ⟨p1, 0, none⟩) X3.low.2 _).setCell (p := ⟨p1, 1, none⟩) X3.low.2 _).setCell (p := ⟨p1, 2, none⟩) X3.low.2 _⟩)
  have HO := Lib.hid ((hO.three (p := p1) (R2.out.r1.lt) (.int .i64 (mo : Int)) (.bool ch) (.slice A3 m3 c3)).mono R2.out.bel.size)
  obtain ⟨r0, r1, r2⟩ := X3.r1.c
  obtain ⟨q0, q1, q2⟩ := X3.r1.f
  clear hO hB X3 U2 c0 c1 c2
  go_wp2_with fail
  refine bodyPost_ret (results_ct rfl _ _ _ ⟨p1, 0, none⟩ _ rfl (load_c F.out.1)) rfl ?_
  exact ⟨_, _, _, rfl, kp_own HO.out, HM3.out, F.out.2⟩

/-- The reference's row behind Adopt. -/
def adZ (ch : Bool) (mo n : Nat) (L B : List (Ent Key)) (k : Key) : List (Ent Key) := if adB mo L k = true then askB ch n L B k else B
theorem rad_any (w : World) (g mo : Nat) (ch : Bool) (A : Option Addr) (m c : Nat) (L B : List (Ent Key)) (n : Nat) (key : Key) (h : ZRow w g (.slice A m c) B) (hm : B.length = m) (hl : m ≤ 1900) (hmo : mo ≤ 9223372036854775807) (y : By ch L B n) (hn : n ≤ 90000) (hs : key.size ≤ maxLen) :
    Calls Try.prog 17 #[.agg #[.int .i64 (mo : Int), .bool ch, .slice A m c], .string key] w (ZtPost w g mo ch (.bool (adB mo L key)) (adZ ch mo n L B key)) ∧ By ch (adL ch mo n L key) (adZ ch mo n L B key) (adN mo n L key) := by
  have hlen := y.len
  unfold adZ adL adN
  cases hi : isIn L key with
  | true =>
    have e1 : adB mo L key = false := by simp [adB, hi]
    rw [e1]
    exact ⟨rad_no w g mo ch A m c L B n key h hm hl hmo y (Or.inl hi), y⟩
  | false =>
    by_cases hf : L.length < mo
    · have e1 : adB mo L key = true := by simp [adB, hi, hf]
      rw [e1]
      exact ⟨rad_yes w g mo ch A m c L B n key h hm hl hmo y hn hs hi (by omega), y.put key⟩
    · have e1 : adB mo L key = false := by simp [adB, hi, hf]
      rw [e1]
      exact ⟨rad_no w g mo ch A m c L B n key h hm hl hmo y (Or.inr ⟨hi, by omega⟩), y⟩

/-! Request -/
/-- The variables of a request under way: the cache, the two results, the step. -/
structure Rv (w W : World) (p0 p1 p2 p3 mo : Nat) (ch : Bool) (v : Value) (h : Bool) (s : ByteArray) (o : Bool) : Prop where
  c : CBox W p0 mo ch v
  r1 : CBox W p1 0 false (.slice none 0 0)
  r2 : Box W p2 false ⟨#[]⟩ false
  s : Box W p3 h s o
  bel : Below w.heap.size w W
  ne : (p0 ≠ p1 ∧ p0 ≠ p2 ∧ p0 ≠ p3) ∧ (p1 ≠ p0 ∧ p1 ≠ p2 ∧ p1 ≠ p3) ∧ (p2 ≠ p0 ∧ p2 ≠ p1 ∧ p2 ≠ p3) ∧ (p3 ≠ p0 ∧ p3 ≠ p1 ∧ p3 ≠ p2)
  low : w.heap.size ≤ p0 ∧ w.heap.size ≤ p1 ∧ w.heap.size ≤ p2 ∧ w.heap.size ≤ p3
abbrev rv0 (w : World) (mo : Nat) (ch : Bool) (v : Value) : World := (((w.alloc (cObj mo ch v)).alloc cZero).alloc zStep).alloc zStep
theorem rv_start (w : World) (mo : Nat) (ch : Bool) (v : Value) : Rv w (rv0 w mo ch v) w.heap.size (w.heap.size + 1) (w.heap.size + 1 + 1) (w.heap.size + 1 + 1 + 1) mo ch v false ⟨#[]⟩ false := by
  have a1 : (w.alloc (cObj mo ch v)).heap.size = w.heap.size + 1 := by simp
  have a2 : ((w.alloc (cObj mo ch v)).alloc cZero).heap.size = w.heap.size + 1 + 1 := by simp
  have a3 : (((w.alloc (cObj mo ch v)).alloc cZero).alloc zStep).heap.size = w.heap.size + 1 + 1 + 1 := by simp
  have b1 := heap_alloc_new w (cObj mo ch v)
  have b2 := heap_alloc_new (w.alloc (cObj mo ch v)) cZero
  have b3 := heap_alloc_new ((w.alloc (cObj mo ch v)).alloc cZero) zStep
  have b4 := heap_alloc_new (((w.alloc (cObj mo ch v)).alloc cZero).alloc zStep) zStep
  rw [a1] at b2
  rw [a2] at b3
  rw [a3] at b4
  refine ⟨?_, ?_, ?_, b4, ?_, by omega, by omega⟩
  · exact (Below.heap_alloc _ _ _ (by omega)).trans ((Below.heap_alloc _ _ _ (by omega)).trans ((Below.heap_alloc _ _ _ (by omega)).trans b1))
  · exact (Below.heap_alloc _ _ _ (by omega)).trans ((Below.heap_alloc _ _ _ (by omega)).trans b2)
  · exact (Below.heap_alloc _ _ _ (by omega)).trans b3
  · exact ((((Below.refl _ _).alloc (Nat.le_refl _) _).alloc (by omega) _).alloc (by omega) _).alloc (by omega) _
theorem Box.other {w : World} {sb : Nat} {h o : Bool} {s : ByteArray} (k : Box w sb h s o) {q : Addr} (hq : sb ≠ q.block) (u : Value) : Box (w.setCell q u) sb h s o := (Below.heap_setCell _ _ _ _ hq).trans k
theorem Box.setH {w : World} {sb : Nat} {h o : Bool} {s : ByteArray} (k : Box w sb h s o) (h' : Bool) : Box (w.setCell ⟨sb, 0, none⟩ (.bool h')) sb h' s o := by
  unfold Box at *
  rw [heap_setCell_same _ _ _ _ _ _ k]; rfl
section
variable {w W W' : World} {p0 p1 p2 p3 mo : Nat} {ch : Bool} {v : Value} {h o : Bool} {s : ByteArray}
theorem Rv.hit (r : Rv w W p0 p1 p2 p3 mo ch v h s o) (h' : Bool) : Rv w (W.setCell ⟨p3, 0, none⟩ (.bool h')) p0 p1 p2 p3 mo ch v h' s o :=
  ⟨r.c.other r.ne.1.2.2 _, r.r1.other r.ne.2.1.2.2 _, r.r2.other r.ne.2.2.1.2.2 _, r.s.setH h', r.bel.setCell (p := ⟨p3, 0, none⟩) r.low.2.2.2 _, r.ne, r.low⟩
theorem Rv.vic (r : Rv w W p0 p1 p2 p3 mo ch v h s o) (x : ByteArray) : Rv w ((W.setCell ⟨p3, 1, none⟩ (.string x)).setCell ⟨p3, 2, none⟩ (.bool true)) p0 p1 p2 p3 mo ch v h x true :=
  ⟨(r.c.other r.ne.1.2.2 _).other r.ne.1.2.2 _, (r.r1.other r.ne.2.1.2.2 _).other r.ne.2.1.2.2 _, (r.r2.other r.ne.2.2.1.2.2 _).other r.ne.2.2.1.2.2 _, r.s.set x, (r.bel.setCell (p := ⟨p3, 1, none⟩) r.low.2.2.2 _).setCell (p := ⟨p3, 2, none⟩) r.low.2.2.2 _, r.ne, r.low⟩
theorem Rv.all (r : Rv w W p0 p1 p2 p3 mo ch v h s o) (m : Nat) (b : Bool) (u : Value) : Rv w (((W.setCell ⟨p0, 0, none⟩ (.int .i64 (m : Int))).setCell ⟨p0, 1, none⟩ (.bool b)).setCell ⟨p0, 2, none⟩ u) p0 p1 p2 p3 m b u h s o :=
  ⟨r.c.put m b u, ((r.r1.other r.ne.2.1.1 _).other r.ne.2.1.1 _).other r.ne.2.1.1 _, ((r.r2.other r.ne.2.2.1.1 _).other r.ne.2.2.1.1 _).other r.ne.2.2.1.1 _, ((r.s.other r.ne.2.2.2.1 _).other r.ne.2.2.2.1 _).other r.ne.2.2.2.1 _, ((r.bel.setCell (p := ⟨p0, 0, none⟩) r.low.1 _).setCell (p := ⟨p0, 1, none⟩) r.low.1 _).setCell (p := ⟨p0, 2, none⟩) r.low.1 _, r.ne, r.low⟩
theorem Rv.below (r : Rv w W p0 p1 p2 p3 mo ch v h s o) (hb : Below W.heap.size W W') : Rv w W' p0 p1 p2 p3 mo ch v h s o :=
  ⟨r.c.below hb, r.r1.below hb, r.r2.below hb, r.s.below hb, r.bel.trans (hb.mono r.bel.size), r.ne, r.low⟩
/-- The results are written. -/
theorem Rv.out (r : Rv w W p0 p1 p2 p3 mo ch v h s o) (m : Nat) (b : Bool) (u : Value) (W' : World) (hW : W' = (((((W.setCell ⟨p1, 0, none⟩ (.int .i64 (m : Int))).setCell ⟨p1, 1, none⟩ (.bool b)).setCell ⟨p1, 2, none⟩ u).setCell ⟨p2, 0, none⟩ (.bool h)).setCell ⟨p2, 1, none⟩ (.string s)).setCell ⟨p2, 2, none⟩ (.bool o)) :
    CBox W' p1 m b u ∧ Box W' p2 h s o ∧ Below w.heap.size w W' := by
  subst hW
  refine ⟨((r.r1.put m b u).other r.ne.2.1.2.1 _ |>.other r.ne.2.1.2.1 _).other r.ne.2.1.2.1 _, ?_, ?_⟩
  · exact Box.put (((r.r2.other r.ne.2.2.1.2.1 _).other r.ne.2.2.1.2.1 _).other r.ne.2.2.1.2.1 _) h o s
  · exact (((((r.bel.setCell (p := ⟨p1, 0, none⟩) r.low.2.1 _).setCell (p := ⟨p1, 1, none⟩) r.low.2.1 _).setCell (p := ⟨p1, 2, none⟩) r.low.2.1 _).setCell (p := ⟨p2, 0, none⟩) r.low.2.2.1 _).setCell (p := ⟨p2, 1, none⟩) r.low.2.2.1 _).setCell (p := ⟨p2, 2, none⟩) r.low.2.2.1 _
/-- A row of the call's own behind that. -/
theorem OwnZ.six {base : Nat} {B : List (Ent Key)} (q : OwnZ W base v B) (h1 : p1 < base) (h2 : p2 < base) (x1 x2 x3 x4 x5 x6 : Value) : OwnZ ((((((W.setCell ⟨p1, 0, none⟩ x1).setCell ⟨p1, 1, none⟩ x2).setCell ⟨p1, 2, none⟩ x3).setCell ⟨p2, 0, none⟩ x4).setCell ⟨p2, 1, none⟩ x5).setCell ⟨p2, 2, none⟩ x6) base v B :=
  (q.three h1 x1 x2 x3).three h2 x4 x5 x6
end

end Go.Proofs.Ytdbfojolocelaaa
