/- The contracts of the reference's Drop, ask, Adopt. -/
import Derived.Test.YtdbfojolocelaaaZc
namespace Go.Proofs.Ytdbfojolocelaaa
open Go.RowKit Ht HS Lf

theorem results_ctt {fn : Func} {a u t : Tmp} {ty : TypeId} (h : fn.results = #[.cell a ty, .tmp u, .tmp t]) (tmps : Array Value) (P : Program) (w : World) (p : Addr) (v : Value) (ha : tmps.getD a undef = .pointer (some p)) (hv : (loadVar ty p).run P w = .ok v w) :
    (results fn tmps).run P w = .ok (.tuple #[v, tmps.getD u undef, tmps.getD t undef]) w := by
  rw [Array.getD_eq_getD_getElem?] at ha
  simp [results, h, ha, asAddr, hv]
theorem results_ct {fn : Func} {a u : Tmp} {ty : TypeId} (h : fn.results = #[.cell a ty, .tmp u]) (tmps : Array Value) (P : Program) (w : World) (p : Addr) (v : Value) (ha : tmps.getD a undef = .pointer (some p)) (hv : (loadVar ty p).run P w = .ok v w) :
    (results fn tmps).run P w = .ok (.tuple #[v, tmps.getD u undef]) w := by
  rw [Array.getD_eq_getD_getElem?] at ha
  simp [results, h, ha, asAddr, hv]
theorem results_cc {fn : Func} {a u : Tmp} {ty tu : TypeId} (h : fn.results = #[.cell a ty, .cell u tu]) (tmps : Array Value) (P : Program) (w : World) (p q : Addr) (v x : Value) (ha : tmps.getD a undef = .pointer (some p)) (hv : (loadVar ty p).run P w = .ok v w)
    (hu : tmps.getD u undef = .pointer (some q)) (hx : (loadVar tu q).run P w = .ok x w) : (results fn tmps).run P w = .ok (.tuple #[v, x]) w := by
  rw [Array.getD_eq_getD_getElem?] at ha hu
  simp [results, h, ha, hu, asAddr, hv, hx]

/-- A row that is where it was, or new. -/
def Kp (w w' : World) (g : Nat) (v : Value) (B : List (Ent Key)) : Prop := ∃ g', ZRow w' g' v B ∧ (g' = g ∨ w.heap.size ≤ g')
theorem kp_own {w w' : World} {g : Nat} {v : Value} {B : List (Ent Key)} (o : OwnZ w' w.heap.size v B) : Kp w w' g v B := by
  obtain ⟨g', h1, h2⟩ := o.row
  exact ⟨g', h2, Or.inr h1⟩
def DropPost (w : World) (g mo : Nat) (ch : Bool) (k : ByteArray) (t : Bool) (B : List (Ent Key)) (e : Ending) (w' : World) : Prop := ∃ A m c, e = .returned (.tuple #[.agg #[.int .i64 (mo : Int), .bool ch, .slice A m c], .string k, .bool t]) ∧ Kp w w' g (.slice A m c) B ∧ B.length = m ∧ Below w.heap.size w w'
/-- OwnZ behind stores into other variables. -/
theorem OwnZ.three {W : World} {base p : Nat} {v : Value} {B : List (Ent Key)} (o : OwnZ W base v B) (hp : p < base) (x y z : Value) : OwnZ (((W.setCell ⟨p, 0, none⟩ x).setCell ⟨p, 1, none⟩ y).setCell ⟨p, 2, none⟩ z) base v B :=
  o.same fun g hg => by
    have := (o.lt hg).2
    rw [Below.heap_setCell _ _ _ _ (by show g ≠ p; omega), Below.heap_setCell _ _ _ _ (by show g ≠ p; omega), Below.heap_setCell _ _ _ _ (by show g ≠ p; omega)]

set_option maxHeartbeats 2000000 in
set_option maxRecDepth 100000 in
theorem rdrop_none (w : World) (g mo : Nat) (ch : Bool) (A : Option Addr) (m c : Nat) (B : List (Ent Key)) (n : Nat) (h : ZRow w g (.slice A m c) B) (hm : B.length = m) (y : By ch [] B n) :
    Calls Try.prog 20 #[.agg #[.int .i64 (mo : Int), .bool ch, .slice A m c]] w (DropPost w g mo ch ⟨#[]⟩ false B) := by
  have X0 := rw_start w mo ch (.slice A m c)
  obtain ⟨w1, hw1⟩ : ∃ w1, rw0 w mo ch (.slice A m c) = w1 := ⟨_, rfl⟩
  obtain ⟨p0, hp0⟩ : ∃ p, w.heap.size = p := ⟨_, rfl⟩
  obtain ⟨p1, hp1⟩ : ∃ p, p0 + 1 = p := ⟨_, rfl⟩
  have hr := h.below X0.bel
  rw [hw1] at X0 hr
  rw [hp0, hp1] at X0
  have RW := Lib.hid X0
  have U := Lib.hid (rvictim_any w1 g mo ch A m c [] B n hr hm y)
  have HH := Lib.hid h
  have HM := Lib.hid hm
  obtain ⟨k0, k1, k2⟩ := X0.c.c
  clear h hm X0 hr y
  go_enter Try.func20, Try.ntmps20
  go_wp2_with fail
  clear hw1 hp0 hp1
  refine U.out.mono ?_
  rintro e w2 ⟨rfl, hB⟩
  have X2 := RW.out.below hB
  have F := Lib.hid X2.out
  obtain ⟨c0, c1, c2⟩ := X2.c.c
  obtain ⟨r0, r1, r2⟩ := X2.r1.c
  obtain ⟨q0, q1, q2⟩ := X2.r1.f
  obtain ⟨n1, n2⟩ := X2.ne
  clear hB X2 k0 k1 k2 U
  rw [show hdK [] = ⟨#[]⟩ from rfl]
  go_wp2_with fail
  refine bodyPost_ret (results_ctt rfl _ _ _ ⟨p1, 0, none⟩ _ rfl (load_c F.out.1)) rfl ?_
  exact ⟨_, _, _, rfl, ⟨g, HH.out.below F.out.2, Or.inl rfl⟩, HM.out, F.out.2⟩

set_option maxHeartbeats 2000000 in
set_option maxRecDepth 100000 in
theorem rdrop_some (w : World) (g mo : Nat) (ch : Bool) (A : Option Addr) (m c : Nat) (x : Ent Key) (L B : List (Ent Key)) (n : Nat) (h : ZRow w g (.slice A m c) B) (hm : B.length = m) (hl : m ≤ 1900) (y : By ch (x :: L) B n) :
    Calls Try.prog 20 #[.agg #[.int .i64 (mo : Int), .bool ch, .slice A m c]] w (DropPost w g mo ch x.key true (rem B x.key)) := by
  have X0 := rw_start w mo ch (.slice A m c)
  obtain ⟨w1, hw1⟩ : ∃ w1, rw0 w mo ch (.slice A m c) = w1 := ⟨_, rfl⟩
  obtain ⟨p0, hp0⟩ : ∃ p, w.heap.size = p := ⟨_, rfl⟩
  obtain ⟨p1, hp1⟩ : ∃ p, p0 + 1 = p := ⟨_, rfl⟩
  have hr := h.below X0.bel
  rw [hw1] at X0 hr
  rw [hp0, hp1] at X0
  have RW := Lib.hid X0
  have U := Lib.hid (show Calls Try.prog 25 #[.agg #[.int .i64 (mo : Int), .bool ch, .slice A m c]] w1 (ValBelow (.tuple #[.string x.key, .bool true]) w1) from rvictim_any w1 g mo ch A m c (x :: L) B n hr hm y)
  have HR := Lib.hid hr
  have HM := Lib.hid hm
  obtain ⟨k0, k1, k2⟩ := X0.c.c
  clear h hm X0 hr y
  go_enter Try.func20, Try.ntmps20
  go_wp2_with fail
  clear hw1 hp0 hp1
  refine U.out.mono ?_
  rintro e w2 ⟨rfl, hB⟩
  have X2 := RW.out.below hB
  obtain ⟨c0, c1, c2⟩ := X2.c.c
  have R2 := Lib.hid X2
  have U2 := Lib.hid (rremove_any w2 g mo ch A m c B x.key (HR.out.below hB) HM.out hl)
  clear hB X2 k0 k1 k2 U RW HR
  go_wp2_with fail
  refine U2.out.mono ?_
  rintro e w3 ⟨A3, m3, c3, rfl, hO, hB⟩
  have X3 := R2.out.below hB
  have hm3 : (rem B x.key).length = m3 := by
    obtain ⟨_, _, hv⟩ := hO.len
    injection hv with _ hv _
    exact hv.symm
  have HM3 := Lib.hid hm3
  have F := Lib.hid (show CBox (((w3.setCell ⟨p1, 0, none⟩ (.int .i64 (mo : Int))).setCell ⟨p1, 1, none⟩ (.bool ch)).setCell ⟨p1, 2, none⟩ (.slice A3 m3 c3)) p1 mo ch (.slice A3 m3 c3) ∧ Below w.heap.size w (((w3.setCell ⟨p1, 0, none⟩ (.int .i64 (mo : Int))).setCell ⟨p1, 1, none⟩ (.bool ch)).setCell ⟨p1, 2, none⟩ (.slice A3 m3 c3)) from
    ⟨X3.r1.put mo ch _, ((X3.bel.setCell (p := ⟨p1, 0, none⟩) X3.low.2 _).setCell (p := ⟨p1, 1, none⟩) X3.low.2 _).setCell (p := ⟨p1, 2, none⟩) X3.low.2 _⟩)
  have HO := Lib.hid ((hO.three (p := p1) (R2.out.r1.lt) (.int .i64 (mo : Int)) (.bool ch) (.slice A3 m3 c3)).mono R2.out.bel.size)
  obtain ⟨r0, r1, r2⟩ := X3.r1.c
  obtain ⟨q0, q1, q2⟩ := X3.r1.f
  clear hO hB X3 hm3 U2 c0 c1 c2
  go_wp2_with fail
  refine bodyPost_ret (results_ctt rfl _ _ _ ⟨p1, 0, none⟩ _ rfl (load_c F.out.1)) rfl ?_
  exact ⟨_, _, _, rfl, kp_own HO.out, HM3.out, F.out.2⟩

/-- One key more, or once more. -/
def askB (ch : Bool) (n : Nat) (L B : List (Ent Key)) (k : Key) : List (Ent Key) := rem B k ++ [ent ch n k (tms L k + 1)]
set_option maxHeartbeats 2000000 in
set_option maxRecDepth 100000 in
theorem rask_any (w : World) (g mo : Nat) (ch : Bool) (A : Option Addr) (m c : Nat) (L B : List (Ent Key)) (n : Nat) (key : Key) (h : ZRow w g (.slice A m c) B) (hm : B.length = m) (hl : m ≤ 1900) (y : By ch L B n) (hn : n ≤ 90000) (hs : key.size ≤ maxLen) :
    Calls Try.prog 34 #[.agg #[.int .i64 (mo : Int), .bool ch, .slice A m c], .string key] w (ZPost mo ch (askB ch n L B key) w) := by
  have X0 := rw_start w mo ch (.slice A m c)
  obtain ⟨w1, hw1⟩ : ∃ w1, rw0 w mo ch (.slice A m c) = w1 := ⟨_, rfl⟩
  obtain ⟨p0, hp0⟩ : ∃ p, w.heap.size = p := ⟨_, rfl⟩
  obtain ⟨p1, hp1⟩ : ∃ p, p0 + 1 = p := ⟨_, rfl⟩
  have hr := h.below X0.bel
  rw [hw1] at X0 hr
  rw [hp0, hp1] at X0
  have RW := Lib.hid X0
  have U := rtimes_any w1 g mo ch A m c B key hr hm
  rw [y.tms] at U
  have ht := tms_rng y.fit key
  obtain ⟨t, hT⟩ : ∃ t, t = tms L key := ⟨_, rfl⟩
  rw [← hT] at U ht
  have HT := Lib.hid hT
  have U := Lib.hid U
  have HR := Lib.hid hr
  have HM := Lib.hid hm
  obtain ⟨k0, k1, k2⟩ := X0.c.c
  clear h hm X0 hr y hT
  go_enter Try.func34, Try.ntmps34
  go_wp2_with fail
  clear hw1 hp0 hp1
  refine U.out.mono ?_
  rintro e w2 ⟨rfl, hB⟩
  have X2 := RW.out.below hB
  obtain ⟨c0, c1, c2⟩ := X2.c.c
  have R2 := Lib.hid X2
  have U2 := Lib.hid (rremove_any w2 g mo ch A m c B key (HR.out.below hB) HM.out hl)
  clear hB X2 k0 k1 k2 U RW HR
  go_wp2_with fail
  refine U2.out.mono ?_
  rintro e w3 ⟨A3, m3, c3, rfl, hO, hB⟩
  have X3 := (R2.out.below hB).all mo ch (.slice A3 m3 c3)
  have hm3 : (rem B key).length = m3 := by
    obtain ⟨_, _, hv⟩ := hO.len
    injection hv with _ hv _
    exact hv.symm
  have hml : m3 ≤ 1900 := by have := Lf.rem_le B key; have := HM.out; omega
  have O3 := hO.three (p := p0) (R2.out.c.lt) (.int .i64 (mo : Int)) (.bool ch) (.slice A3 m3 c3)
  obtain ⟨f0, f1, f2⟩ := (R2.out.below hB).c.f
  obtain ⟨b0, b1, b2⟩ := (R2.out.below hB).c.c
  obtain ⟨w4, hw4⟩ : ∃ w4, w4 = ((w3.setCell ⟨p0, 0, none⟩ (.int .i64 (mo : Int))).setCell ⟨p0, 1, none⟩ (.bool ch)).setCell ⟨p0, 2, none⟩ (.slice A3 m3 c3) := ⟨_, rfl⟩
  rw [← hw4] at X3 O3
  have HW4 := Lib.hid hw4
  clear hw4
  have hs4 : w2.heap.size ≤ w4.heap.size := by
    have h1 := hB.size
    have h2 : w4.heap.size = w3.heap.size := by rw [HW4.out]; simp [World.setCell]
    omega
  obtain ⟨A5, c5, w5, hrun, hown5, hg5⟩ := app_z O3 (ent ch n key (t + 1)) hs (by rw [hm3]; omega) hs4
  rw [hm3] at hrun hown5
  have hb5 : Below w2.heap.size w4 w5 := (Below.refl _ _).grown hg5 hs4 (fun j hj => (O3.lt hj).2)
  have X5 : Rw w w5 p0 p1 mo ch (.slice A3 m3 c3) := ⟨(hb5.block p0 R2.out.c.lt).trans X3.c, (hb5.block p1 R2.out.r1.lt).trans X3.r1, X3.bel.trans (hb5.mono R2.out.bel.size), X3.ne, X3.low⟩
  have X6 := X5.setL (.slice A5 (m3 + 1) c5)
  have F := Lib.hid X6.out
  have HO := Lib.hid (((hown5.same (w' := w5.setCell ⟨p0, 2, none⟩ (.slice A5 (m3 + 1) c5)) fun gg hgg => Below.heap_setCell _ _ _ _ (by
    have := (hown5.lt hgg).2
    have := R2.out.c.lt
    show gg ≠ p0
    omega)).three (p := p1) R2.out.r1.lt (.int .i64 (mo : Int)) (.bool ch) (.slice A5 (m3 + 1) c5)).mono R2.out.bel.size)
  have HRUN := Lib.hid (show (Builtin.append_ #[27, 27] 27 #[.slice A3 m3 c3, .slice (some ⟨w4.heap.size, 0, none⟩) 1 1]).run Try.prog (w4.alloc (.cells #[.string key, .int .i64 (t + 1)] 71)) = .ok (.slice A5 (m3 + 1) c5) w5 from hrun)
  obtain ⟨c0', c1', c2'⟩ := X3.c.c
  obtain ⟨d0, d1, d2⟩ := X5.c.c
  obtain ⟨e0, e1, e2⟩ := X5.c.f
  obtain ⟨r0, r1, r2⟩ := X5.r1.c
  obtain ⟨q0, q1, q2⟩ := X5.r1.f
  obtain ⟨n1, n2⟩ := X5.ne
  have p0lt := X3.c.lt
  clear hO hB X3 hm3 U2 c0 c1 c2 O3 hs4 hrun hown5 hg5 hb5 X5 X6
  go_upto_region 3 with fail
  rw [← HW4.out]
  clear b0 b1 b2 f0 f1 f2 HW4
  go_wp2_with (at_builtin; refine wpList_append_run rfl _ _ _ rfl _ _ _ _ rfl rfl HRUN.out ?_)
  refine bodyPost_ret (results_c rfl _ _ _ ⟨p1, 0, none⟩ _ rfl (load_c F.out.1)) rfl ?_
  refine ⟨_, _, _, rfl, ?_, F.out.2⟩
  unfold askB
  rw [← HT.out]
  exact HO.out
end Go.Proofs.Ytdbfojolocelaaa
