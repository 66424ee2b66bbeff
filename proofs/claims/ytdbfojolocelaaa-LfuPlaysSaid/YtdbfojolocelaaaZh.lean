/- The contracts of the reference's Resize and Keys. -/
import Derived.Test.YtdbfojolocelaaaZi
namespace Go.Proofs.Ytdbfojolocelaaa
open Go.RowKit Ht HS Lf

theorem Own.three {W : World} {base p : Nat} {v : Value} {xs : List ByteArray} (o : Own W base v xs) (hp : p < base) (x y z : Value) : Own (((W.setCell ⟨p, 0, none⟩ x).setCell ⟨p, 1, none⟩ y).setCell ⟨p, 2, none⟩ z) base v xs :=
  HS.Own.same o fun g hg => by
    have := (HS.Own.lt o hg).2
    rw [Below.heap_setCell _ _ _ _ (by show g ≠ p; omega), Below.heap_setCell _ _ _ _ (by show g ≠ p; omega), Below.heap_setCell _ _ _ _ (by show g ≠ p; omega)]
theorem Own.mono {w : World} {base base' : Nat} {v : Value} {xs : List ByteArray} (h : Own w base v xs) (hb : base' ≤ base) : Own w base' v xs := by
  refine ⟨⟨h.1.1, ?_⟩, h.2⟩
  rcases h.1.2 with h1 | ⟨g, cap, cur, e, h1, h2⟩
  · exact Or.inl h1
  · exact Or.inr ⟨g, cap, cur, e, by omega, h2⟩
theorem ZRow.three {W : World} {g p : Nat} {v : Value} {B : List (Ent Key)} (o : ZRow W g v B) (hp : g ≠ p) (x y z : Value) : ZRow (((W.setCell ⟨p, 0, none⟩ x).setCell ⟨p, 1, none⟩ y).setCell ⟨p, 2, none⟩ z) g v B :=
  ((o.set (q := ⟨p, 0, none⟩) hp x).set (q := ⟨p, 1, none⟩) hp y).set (q := ⟨p, 2, none⟩) hp z

theorem ZRow.keep {w w' : World} {g : Nat} {v : Value} {B : List (Ent Key)} (h : ZRow w g v B) (hs : w.heap.size ≤ w'.heap.size) (hb : B ≠ [] → w'.heap[g]? = w.heap[g]?) : ZRow w' g v B := by
  by_cases e : B = []
  · subst e
    obtain ⟨A, c, rfl⟩ := h.shape
    exact ZRow.nil _ _ _ _
  · exact h.same hs fun _ => hb e
theorem three_other (W : World) (p k : Nat) (x y z : Value) (hk : k ≠ p) : (((W.setCell ⟨p, 0, none⟩ x).setCell ⟨p, 1, none⟩ y).setCell ⟨p, 2, none⟩ z).heap[k]? = W.heap[k]? := by
  rw [Below.heap_setCell _ _ _ _ hk, Below.heap_setCell _ _ _ _ hk, Below.heap_setCell _ _ _ _ hk]
/-- Where the reference's Resize stands. -/
structure RzAt (w w1 W : World) (p0 p1 mo : Nat) (ch : Bool) (L : List (Ent Key)) (n j : Nat) (v : Value) (A : Option Addr) (m c g : Nat) (B : List (Ent Key)) : Prop where
  rw : Rw w W p0 p1 mo ch (.slice A m c)
  row : ZRow W g (.slice A m c) B
  len : B.length = m
  ne : B ≠ [] → g ≠ p0 ∧ g ≠ p1 ∧ ∀ gg, v.ownBlock = some gg → gg ≠ g
  by_ : By ch (L.drop j) B n
  own : Own W w1.heap.size v ((keysL L).take j)
  size : w1.heap.size ≤ W.heap.size
def RzRel (w w1 : World) (p0 p1 mo : Nat) (ch : Bool) (L : List (Ent Key)) (n g0 k : Nat) (u : Value) (W : World) : Prop := ∃ v j A m c g B, v = u ∧ j + k = L.length - mo ∧ (g = g0 ∨ w.heap.size ≤ g) ∧ RzAt w w1 W p0 p1 mo ch L n j v A m c g B
/-- What Resize leaves. -/
def RzPost (w : World) (g mo : Nat) (ch : Bool) (L : List (Ent Key)) (n : Nat) (e : Ending) (w' : World) : Prop := ∃ A m c v g' B, e = .returned (.tuple #[.agg #[.int .i64 (mo : Int), .bool ch, .slice A m c], v]) ∧ ZRow w' g' (.slice A m c) B ∧ (g' = g ∨ w.heap.size ≤ g') ∧ B.length = m ∧ By ch (L.drop (L.length - mo)) B n ∧ Own w' w.heap.size v ((keysL L).take (L.length - mo)) ∧ Below w.heap.size w w'

theorem fieldM (w : World) (mo : Int) (ch : Bool) (v : Value) : (Instr.field 29 (.agg #[.int .i64 mo, .bool ch, .slice none 0 0]) 0).run Try.prog w = .ok (.int .i64 mo) w := by kernel_rfl

set_option maxHeartbeats 4000000 in
set_option maxRecDepth 100000 in
theorem rrz_main (w : World) (g mo mo2 : Nat) (ch : Bool) (A : Option Addr) (m c : Nat) (L B : List (Ent Key)) (n : Nat) (z : Int) (h : ZRow w g (.slice A m c) B) (hm : B.length = m) (hl : m ≤ 1900) (hz : -9223372036854775808 ≤ z ∧ z ≤ 9223372036854775807) (hzm : mo2 = z.toNat) (y : By ch L B n) (hsk : ∀ e ∈ L, e.key.size ≤ maxLen) :
    Calls Try.prog 21 #[.agg #[.int .i64 (mo : Int), .bool ch, .slice A m c], .int .i64 z] w (RzPost w g mo2 ch L n) := by
  have fM := fun w => fieldM w (mo2 : Int) false (.slice none 0 0)
  have X0 := rw_start w mo ch (.slice A m c)
  obtain ⟨w1, hw1⟩ : ∃ w1, rw0 w mo ch (.slice A m c) = w1 := ⟨_, rfl⟩
  obtain ⟨p0, hp0⟩ : ∃ p, w.heap.size = p := ⟨_, rfl⟩
  obtain ⟨p1, hp1⟩ : ∃ p, p0 + 1 = p := ⟨_, rfl⟩
  have hr := h.below X0.bel
  rw [hw1] at X0 hr
  have HNE := Lib.hid (show B ≠ [] → g ≠ p0 ∧ g ≠ p1 from fun e => by have := h.lt e; exact ⟨by omega, by omega⟩)
  rw [hp0, hp1] at X0
  have RW := Lib.hid X0
  have U := Lib.hid (show Calls Try.prog 11 #[.int .i64 z, .bool false] w1 (RNew mo2 false w1) from hzm ▸ rnew_any w1 z false hz)
  have HR := Lib.hid hr
  have HM := Lib.hid hm
  have HY := Lib.hid y
  have HSK := Lib.hid hsk
  have hlen := y.len
  have hmo2 : mo2 ≤ 9223372036854775807 := by omega
  have HLEN := Lib.hid hlen
  clear h hm X0 hr y hzm hlen hsk
  go_enter Try.func21, Try.ntmps21
  go_wp2_with fail
  clear hw1 hp0 hp1
  refine U.out.mono ?_
  rintro e w2 ⟨rfl, hB⟩
  have X2 := (RW.out.below hB).setM mo2
  have HR2 := Lib.hid ((HR.out.below hB).keep (w' := w2.setCell ⟨p0, 0, none⟩ (.int .i64 (mo2 : Int))) (by simp [World.setCell]) fun e => Below.heap_setCell _ _ _ _ (HNE.out e).1)
  obtain ⟨f0, f1, f2⟩ := (RW.out.below hB).c.f
  obtain ⟨b0, b1, b2⟩ := (RW.out.below hB).c.c
  obtain ⟨w3, hw3⟩ : ∃ w3, w3 = w2.setCell ⟨p0, 0, none⟩ (.int .i64 (mo2 : Int)) := ⟨_, rfl⟩
  rw [← hw3] at X2 HR2
  have HW3 := Lib.hid hw3
  have R3 := Lib.hid X2
  have hsz3 : w1.heap.size ≤ w3.heap.size := by
    have h1 := hB.size
    have h2 : w3.heap.size = w2.heap.size := by rw [hw3]; simp [World.setCell]
    omega
  have HP := Lib.hid (show p0 < w3.heap.size ∧ p1 < w3.heap.size from ⟨X2.c.lt, X2.r1.lt⟩)
  clear hB X2 hw3 U RW HR
  go_upto_region 2 with fail
  rw [← HW3.out]
  clear b0 b1 b2 f0 f1 f2 HW3 fM
  go_wp2_with fail
  go_loopg [6] (L.length - mo2) (fun k v W => RzRel w w3 p0 p1 mo2 ch L n g k v W)
  case atStart => exact ⟨_, 0, A, m, c, g, B, rfl, by omega, Or.inl rfl, ⟨R3.out, HR2.out, HM.out, fun e => ⟨(HNE.out e).1, (HNE.out e).2, fun gg hgg => (by cases hgg)⟩, HY.out, Own.nil _ _, Nat.le_refl _⟩⟩
  case round =>
    obtain ⟨v, j, A', m', c', g', B', hvu, hjk, hg', r⟩ := hrel
    subst hvu
    obtain ⟨k0, k1, k2⟩ := r.rw.c.c
    have hlb := r.by_.len
    rw [List.length_drop, r.len] at hlb
    have RR := Lib.hid r
    have HG := Lib.hid hg'
    have hll : L.length ≤ 1900 := by have := HLEN.out; have := HM.out; omega
    cases gk with
    | zero =>
      have e0 : decide (mo2 < m') = false := by simp; omega
      obtain ⟨Av, cv, hv⟩ := HS.Own.len r.own
      obtain ⟨q0, q1, q2⟩ := r.rw.r1.c
      obtain ⟨u0, u1, u2⟩ := r.rw.r1.f
      obtain ⟨n1, n2⟩ := r.rw.ne
      have F := Lib.hid r.rw.out
      obtain rfl : j = L.length - mo2 := by omega
      clear r hg' hlb hjk
      subst hv
      generalize hvl : ((keysL L).take (L.length - mo2)).length = vl at *
      clear hvl
      go_wp2_with fail
      refine bodyPost_ret (results_ct rfl _ _ _ ⟨p1, 0, none⟩ _ rfl (load_c F.out.1)) rfl ?_
      refine ⟨A', m', c', _, g', B', rfl, RR.out.row.keep (by simp [World.setCell]) (fun e => three_other _ _ _ _ _ _ (RR.out.ne e).2.1), HG.out, RR.out.len, RR.out.by_, ?_, F.out.2⟩
      exact Own.mono (Own.three RR.out.own HP.out.2 _ _ _) (Nat.le_trans (R3.out.bel.size) (Nat.le_refl _))
    | succ gk =>
      have e0 : decide (mo2 < m') = true := by simp; omega
      have hj : j < L.length := by omega
      obtain ⟨x, hx, hxm, hxk⟩ := drop_some hj
      have y' := r.by_
      rw [hx] at y'
      have U := Lib.hid (rdrop_some wr g' mo2 ch A' m' c' x (L.drop (j + 1)) B' n r.row r.len (by omega) y')
      have HX := Lib.hid hxk
      have HXS := Lib.hid (HSK.out x hxm)
      have HY2 := Lib.hid y'.drop
      clear r hg' hlb hx hxm hxk y'
      go_wp2_with fail
      refine U.out.mono ?_
      rintro e w4 ⟨A4, m4, c4, rfl, hK, hm4, hB4⟩
      obtain ⟨g4, hz4, hg4⟩ := hK
      have X4 := RR.out.rw.below hB4
      have b5 := (Below.refl w4.heap.size w4).alloc (Nat.le_refl _) (cObj mo2 ch (.slice A4 m4 c4))
      have X5 := (X4.below b5).all mo2 ch (.slice A4 m4 c4)
      have hn5 := heap_alloc_new w4 (cObj mo2 ch (.slice A4 m4 c4))
      have N5 : CBox (w4.alloc (cObj mo2 ch (.slice A4 m4 c4))) w4.heap.size mo2 ch (.slice A4 m4 c4) := hn5
      obtain ⟨l0, l1, l2⟩ := N5.c
      obtain ⟨f0, f1, f2⟩ := (X4.below b5).c.f
      obtain ⟨b0, b1, b2⟩ := (X4.below b5).c.c
      have hpp := RR.out.rw.c.lt
      have hpp1 := RR.out.rw.r1.lt
      have s4 := hB4.size
      have hs6 : w4.heap.size < ((((w4.alloc (cObj mo2 ch (.slice A4 m4 c4))).setCell ⟨p0, 0, none⟩ (.int .i64 (mo2 : Int))).setCell ⟨p0, 1, none⟩ (.bool ch)).setCell ⟨p0, 2, none⟩ (.slice A4 m4 c4)).heap.size := by simp [World.setCell]
      have hne4 : rem B' x.key ≠ [] → g4 ≠ p0 ∧ g4 ≠ p1 ∧ (∀ gg, v.ownBlock = some gg → gg ≠ g4) ∧ g4 < w4.heap.size := fun e => by
        have hlt4 := hz4.lt e
        have eB : B' ≠ [] := fun e0 => e (by rw [e0]; rfl)
        obtain ⟨a1, a2, a3⟩ := RR.out.ne eB
        rcases hg4 with rfl | hg4
        · exact ⟨a1, a2, a3, hlt4⟩
        · exact ⟨by omega, by omega, fun gg hgg => by have := (HS.Own.lt RR.out.own hgg).1; omega, hlt4⟩
      have Z5 := (hz4.below b5).keep (w' := (((w4.alloc (cObj mo2 ch (.slice A4 m4 c4))).setCell ⟨p0, 0, none⟩ (.int .i64 (mo2 : Int))).setCell ⟨p0, 1, none⟩ (.bool ch)).setCell ⟨p0, 2, none⟩ (.slice A4 m4 c4)) (by simp [World.setCell]) (fun e => three_other _ _ _ _ _ _ (hne4 e).1)
      have O5 := Own.three (HS.Own.same RR.out.own (w' := w4.alloc (cObj mo2 ch (.slice A4 m4 c4))) fun gg hgg => by
        have := (HS.Own.lt RR.out.own hgg).1
        rw [b5.block gg (by omega), hB4.block gg this]) HP.out.1 (.int .i64 (mo2 : Int)) (.bool ch) (.slice A4 m4 c4)
      have hsz := RR.out.size
      obtain ⟨w6, hw6⟩ : ∃ w6, w6 = (((w4.alloc (cObj mo2 ch (.slice A4 m4 c4))).setCell ⟨p0, 0, none⟩ (.int .i64 (mo2 : Int))).setCell ⟨p0, 1, none⟩ (.bool ch)).setCell ⟨p0, 2, none⟩ (.slice A4 m4 c4) := ⟨_, rfl⟩
      rw [← hw6] at X5 Z5 O5 hs6
      obtain ⟨A7, c7, w7, hrun, own7, hg7, hloc7⟩ := app_at O5 x.key HXS.out (by rw [List.length_take]; omega) (by omega)
      have hnp : ∀ p, p < w3.heap.size → w7.heap[p]? = w6.heap[p]? := fun p hp => hg7.block p (by omega) (fun e => by have := (HS.Own.lt O5 e.symm).2; omega)
      have bel7 : Below w.heap.size w w7 := X5.bel.grown hg7 X5.bel.size (fun k hk => Nat.le_trans R3.out.bel.size (HS.Own.lt O5 hk).2)
      have r7 : RzAt w w3 w7 p0 p1 mo2 ch L n (j + 1) (.slice A7 (((keysL L).take j).length + 1) c7) A4 m4 c4 g4 (rem B' x.key) := by
        refine ⟨⟨(hnp p0 HP.out.1).trans X5.c, (hnp p1 HP.out.2).trans X5.r1, bel7, X5.ne, X5.low⟩, Z5.keep hg7.size (fun e => ?_), hm4, fun e => ⟨(hne4 e).1, (hne4 e).2.1, fun gg hgg => ?_⟩, HY2.out, ?_, by have := hg7.size; omega⟩
        · refine hg7.block g4 (by have := (hne4 e).2.2.2; omega) (fun e2 => ?_)
          exact (hne4 e).2.2.1 g4 e2.symm rfl
        · rcases hloc7 gg hgg with h1 | h1
          · exact (hne4 e).2.2.1 gg h1
          · have := (hne4 e).2.2.2; omega
        · rw [take_snoc (keysL L) j ⟨#[]⟩ (by rw [keysL_len]; exact hj), HX.out]
          exact own7
      have R7 := Lib.hid r7
      have HG7 := Lib.hid (show g4 = g ∨ w.heap.size ≤ g4 from by
        rcases hg4 with rfl | hg4
        · exact HG.out
        · exact Or.inr (by have := RR.out.rw.bel.size; omega))
      have HRUN := Lib.hid hrun
      have HW6 := Lib.hid hw6
      obtain ⟨Av, cv, hv⟩ := HS.Own.len RR.out.own
      have HJK := Lib.hid hjk
      have p0ne : p0 ≠ w4.heap.size := by omega
      have p0ne' : w4.heap.size ≠ p0 := by omega
      clear hz4 hg4 X4 b5 X5 hn5 N5 hpp hpp1 s4 hs6 hne4 Z5 O5 hsz hrun own7 hg7 hloc7 hnp bel7 r7 hw6 hB4 hm4 U
      subst hv
      generalize ((keysL L).take j).length = vl at *
      go_upto_region 6 with fail
      rw [← HW6.out]
      clear l0 l1 l2 f0 f1 f2 b0 b1 b2 HW6 p0ne p0ne'
      go_wp2_with (at_builtin; refine wpList_append_run rfl _ _ _ rfl _ _ _ _ rfl rfl HRUN.out ?_)
      go_roundg gk
      case measure => omega
      case rel => exact ⟨_, j + 1, A4, m4, c4, g4, rem B' x.key, rfl, by have := HJK.out; omega, HG7.out, R7.out⟩

set_option maxHeartbeats 2000000 in
set_option maxRecDepth 100000 in
theorem rkeys_any (w : World) (g mo : Nat) (ch : Bool) (A : Option Addr) (m c : Nat) (L B : List (Ent Key)) (n : Nat) (h : ZRow w g (.slice A m c) B) (hm : B.length = m) (hl : m ≤ 1900) (y : By ch L B n) (hsk : ∀ e ∈ L, e.key.size ≤ maxLen) :
    Calls Try.prog 27 #[.agg #[.int .i64 (mo : Int), .bool ch, .slice A m c]] w (RowPost (keysL L) w) := by
  have X0 := bx_start w mo ch (.slice A m c)
  have U := rrz_main (w.alloc (cObj mo ch (.slice A m c))) g mo 0 ch A m c L B n 0 (h.below X0.bel) hm hl (by omega) rfl y hsk
  have U := Lib.hid U
  have HB := Lib.hid X0.bel
  obtain ⟨k0, k1, k2⟩ := X0.c.c
  clear h X0 y hsk
  go_enter Try.func27, Try.ntmps27
  go_wp2_with fail
  refine U.out.mono ?_
  rintro e w2 ⟨A2, m2, c2, v, g2, B2, rfl, hz, hg, hlen, hy, hO, hB⟩
  rw [List.take_of_length_le (by rw [keysL_len]; omega)] at hO
  obtain ⟨Av, cv, rfl⟩ := HS.Own.len hO
  have b3 := (Below.refl w2.heap.size w2).alloc (Nat.le_refl _) (cObj 0 ch (.slice A2 m2 c2))
  have HO := Lib.hid (HS.Own.same hO (w' := w2.alloc (cObj 0 ch (.slice A2 m2 c2))) fun gg hgg => b3.block gg (HS.Own.lt hO hgg).1)
  have HBB := Lib.hid ((HB.out.trans (hB.mono HB.out.size)).trans (b3.mono (Nat.le_trans HB.out.size hB.size)))
  have HSZ := Lib.hid HB.out.size
  clear hz hg hlen hy hO hB b3 k0 k1 k2
  generalize (keysL L).length = kl at *
  go_wp2_with fail
  go_ret
  exact ⟨_, rfl, Own.mono HO.out HSZ.out, HBB.out⟩
end Go.Proofs.Ytdbfojolocelaaa
