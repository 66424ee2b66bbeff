/- The contracts of a list's own helpers: keyAt, unlink, link. -/
import Derived.Test.YtlmbeiijijkjeaaAr
namespace Go.Proofs.Ytlmbeiijijkjeaa
open Go.RowKit Sg

def KeyPost (s : ByteArray) (b : Bool) (w : World) (e : Ending) (w' : World) : Prop := e = .returned (.tuple #[.string s, .bool b]) ∧ w = w'

theorem keyAt_any (w : World) (l M P : Nat) (A : Ar) (i : Nat) (h : Holds w l M P A) (hi : i < A.n) :
    Calls Try.prog 50 #[.pointer (some ⟨l, 0, none⟩), .int .i64 (i : Int)] w (KeyPost (A.K i) (decide (i ≠ 0)) w) := by
  obtain ⟨cap, hc1, hc2, c0, _, _⟩ := h.own
  obtain ⟨k0, _, _⟩ := h.place hi
  have ht := h.top
  unfold maxLen at hc2
  clear h
  go_enter Try.func50, Try.ntmps50
  go_wp2_with fail
  go_ret2
  exact ⟨ret_kb rfl (by rw [Bool.eq_iff_iff]; simp), rfl⟩

/-- An arena behind a place's unlinking. -/
def unl (A : Ar) (i : Nat) : Ar := { A with nx := upd A.nx (A.pv i) (A.nx i), pv := upd A.pv (A.nx i) (A.pv i) }
def UnlPost (w : World) (l M P : Nat) (A : Ar) (e : Ending) (w' : World) : Prop := e = .returned (.tuple #[]) ∧ Holds w' l M P A ∧ Turned w w' l P P

theorem unl_holds {w : World} {l M P : Nat} {A : Ar} {i p q : Nat} (h : Holds w l M P A) (hp : A.pv i = p) (hq : A.nx i = q) (hp1 : p < A.n) (hq1 : q < A.n) :
    Holds ((w.setCell ⟨P, p * 3 + 2, none⟩ (.int .i64 (q : Int))).setCell ⟨P, q * 3 + 1, none⟩ (.int .i64 (p : Int))).drew l M P (unl A i) := by
  subst hp; subst hq
  exact ((h.setNx hp1 hq1).setPv (A := { A with nx := upd A.nx (A.pv i) (A.nx i) }) hq1 hp1).drew

set_option maxHeartbeats 1000000 in
theorem unlink_any (w : World) (l M P : Nat) (A : Ar) (i : Nat) (h : Holds w l M P A) (hi : i < A.n) :
    Calls Try.prog 42 #[.pointer (some ⟨l, 0, none⟩), .int .i64 (i : Int)] w (UnlPost w l M P (unl A i)) := by
  have ht := h.top
  have hp := h.pvin i hi
  have hn := h.nxin i hi
  have llt := h.llt
  have Plt := h.Plt
  have lP := h.lP
  have HH := Lib.hid h
  clear h
  obtain ⟨p, hp'⟩ : ∃ p, A.pv i = p := ⟨_, rfl⟩
  obtain ⟨q, hq'⟩ : ∃ q, A.nx i = q := ⟨_, rfl⟩
  rw [hp'] at hp
  rw [hq'] at hn
  have HP := Lib.hid hp'
  have HQ := Lib.hid hq'
  clear hp' hq'
  obtain ⟨cap, hc1, hc2, c0, _, _⟩ := HH.out.own
  obtain ⟨k0, k1, k2⟩ := HH.out.place hi
  rw [HP.out] at k1
  rw [HQ.out] at k2
  unfold maxLen at hc2
  go_enter Try.func42, Try.ntmps42
  go_wp2_with fail
  clear k0 k1 k2
  have HA := Lib.hid (HH.out.alloc (.cells #[.string (A.K i), .int .i64 (p : Int), .int .i64 (q : Int)] 67))
  have HT := Lib.hid ((Turned.refl w l P P).alloc (.cells #[.string (A.K i), .int .i64 (p : Int), .int .i64 (q : Int)] 67))
  have hw := heap_alloc_new w (.cells #[.string (A.K i), .int .i64 (p : Int), .int .i64 (q : Int)] 67)
  have d0 : (w.alloc (.cells #[.string (A.K i), .int .i64 (p : Int), .int .i64 (q : Int)] 67)).cell? ⟨l, 0, none⟩ = some (.slice (some ⟨P, 0, none⟩) A.n cap) := (World.cell?_of_block (a := ⟨l, 0, none⟩) (Below.heap_alloc w _ l llt)).trans c0
  have hbl : w.heap.size ≠ l := by omega
  have hbP : w.heap.size ≠ P := by omega
  clear c0 HH llt Plt
  generalize w.heap.size = b at hw hbl hbP ⊢
  generalize w.alloc (.cells #[.string (A.K i), .int .i64 (p : Int), .int .i64 (q : Int)] 67) = w1 at hw HA HT d0 ⊢
  have d1 : w1.cell? ⟨b, 1, none⟩ = some (.int .i64 (p : Int)) := cell_of_row w1 _ 1 _ _ _ hw
  have d2 : w1.cell? ⟨b, 2, none⟩ = some (.int .i64 (q : Int)) := cell_of_row w1 _ 2 _ _ _ hw
  obtain ⟨_, _, k3⟩ := HA.out.place hp
  obtain ⟨_, k4, _⟩ := HA.out.place hn
  have f3 := HA.out.freeP (p * 3 + 2)
  have f4 := HA.out.freeP (q * 3 + 1)
  have hne1 : p * 3 + 2 ≠ q * 3 + 1 := by omega
  have hne2 : q * 3 + 1 ≠ p * 3 + 2 := by omega
  have R := Lib.hid (unl_holds HA.out HP.out HQ.out hp hn)
  have RT := Lib.hid (((HT.out.setCell (p := ⟨P, p * 3 + 2, none⟩) (Or.inr (Or.inr rfl)) (.int .i64 (q : Int))).setCell (p := ⟨P, q * 3 + 1, none⟩) (Or.inr (Or.inr rfl)) (.int .i64 (p : Int))).drew)
  clear hw
  go_region
  go_end0
  exact ⟨rfl, R.out, RT.out⟩

/-- An arena behind a place's linking right behind another one. -/
def lnk1 (A : Ar) (i j : Nat) : Ar := { A with pv := upd A.pv i j, nx := upd A.nx i (A.nx j) }
def lnk (A : Ar) (i j : Nat) : Ar := { A with pv := upd (upd A.pv i j) (A.nx j) i, nx := upd (upd A.nx i (A.nx j)) j i }
theorem lnk_holds1 {w : World} {l M P : Nat} {A : Ar} {i j q : Nat} (h : Holds w l M P A) (hq : A.nx j = q) (hi : i < A.n) (hj : j < A.n) (hq1 : q < A.n) :
    Holds ((w.setCell ⟨P, i * 3 + 1, none⟩ (.int .i64 (j : Int))).setCell ⟨P, i * 3 + 2, none⟩ (.int .i64 (q : Int))).drew l M P (lnk1 A i j) := by
  subst hq
  exact ((h.setPv hi hj).setNx (A := { A with pv := upd A.pv i j }) hi hq1).drew
theorem lnk_holds2 {w : World} {l M P : Nat} {A : Ar} {i j q : Nat} (h : Holds w l M P (lnk1 A i j)) (hq : A.nx j = q) (hi : i < A.n) (hj : j < A.n) (hq1 : q < A.n) :
    Holds ((w.setCell ⟨P, j * 3 + 2, none⟩ (.int .i64 (i : Int))).setCell ⟨P, q * 3 + 1, none⟩ (.int .i64 (i : Int))).drew l M P (lnk A i j) := by
  subst hq
  exact ((h.setNx (i := j) (v := i) hj hi).setPv (i := A.nx j) (v := i) hq1 hi).drew

set_option maxHeartbeats 1000000 in
theorem link_any (w : World) (l M P : Nat) (A : Ar) (i j : Nat) (h : Holds w l M P A) (hi : i < A.n) (hj : j < A.n) :
    Calls Try.prog 49 #[.pointer (some ⟨l, 0, none⟩), .int .i64 (i : Int), .int .i64 (j : Int)] w (UnlPost w l M P (lnk A i j)) := by
  have ht := h.top
  have hn := h.nxin j hj
  have lP := h.lP
  have HH := Lib.hid h
  clear h
  obtain ⟨q, hq'⟩ : ∃ q, A.nx j = q := ⟨_, rfl⟩
  rw [hq'] at hn
  have HQ := Lib.hid hq'
  clear hq'
  obtain ⟨cap, hc1, hc2, c0, _, _⟩ := HH.out.own
  obtain ⟨_, _, k2⟩ := HH.out.place hj
  rw [HQ.out] at k2
  obtain ⟨_, k3, k4⟩ := HH.out.place hi
  have f3 := HH.out.freeP (i * 3 + 1)
  have f4 := HH.out.freeP (i * 3 + 2)
  unfold maxLen at hc2
  go_enter Try.func49, Try.ntmps49
  go_wp2_with fail
  clear k2
  go_region
  have R := Lib.hid (lnk_holds1 HH.out HQ.out hi hj hn)
  have RT := Lib.hid ((((Turned.refl w l P P).setCell (p := ⟨P, i * 3 + 1, none⟩) (Or.inr (Or.inr rfl)) (.int .i64 (j : Int))).setCell (p := ⟨P, i * 3 + 2, none⟩) (Or.inr (Or.inr rfl)) (.int .i64 (q : Int))).drew)
  clear c0 k3 k4 f3 f4
  generalize ((w.setCell ⟨P, i * 3 + 1, none⟩ (.int .i64 (j : Int))).setCell ⟨P, i * 3 + 2, none⟩ (.int .i64 (q : Int))).drew = w1 at R RT ⊢
  obtain ⟨cap', hc1', hc2', c0, _, _⟩ := R.out.own
  have hnn : (lnk1 A i j).n = A.n := rfl
  rw [hnn] at c0 hc1'
  obtain ⟨_, _, k3⟩ := R.out.place (i := j) hj
  obtain ⟨_, k4, _⟩ := R.out.place (i := q) hn
  have f3 := R.out.freeP (j * 3 + 2)
  have f4 := R.out.freeP (q * 3 + 1)
  have hne1 : j * 3 + 2 ≠ q * 3 + 1 := by omega
  have hne2 : q * 3 + 1 ≠ j * 3 + 2 := by omega
  have R2 := Lib.hid (lnk_holds2 R.out HQ.out hi hj hn)
  have RT2 := Lib.hid (((RT.out.setCell (p := ⟨P, j * 3 + 2, none⟩) (Or.inr (Or.inr rfl)) (.int .i64 (i : Int))).setCell (p := ⟨P, q * 3 + 1, none⟩) (Or.inr (Or.inr rfl)) (.int .i64 (i : Int))).drew)
  clear hnn hc1 hc2
  unfold maxLen at hc2'
  go_wp2_with fail
  go_region
  go_end0
  exact ⟨rfl, R2.out, RT2.out⟩
end Go.Proofs.Ytlmbeiijijkjeaa
