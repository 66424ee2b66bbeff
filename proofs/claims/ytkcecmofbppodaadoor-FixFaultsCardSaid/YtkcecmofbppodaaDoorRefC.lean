/- The contracts of the reference's plus, Add and Mul at this program: sums and products of rows of bits are those of the numbers. -/
import Derived.Test.YtkcecmofbppodaaDoorRefB
import Derived.Test.YtkcecmofbppodaaDoorFx
namespace Go.Proofs.YtkcecmofbppodaaDoor
open Go.RowKit

def PlusPost (xs ys : List Nat) (up : Nat) (w : World) (e : Ending) (w' : World) : Prop := ∃ r zs, e = .returned r ∧ Rd w' r zs ∧ Rw.Bits zs ∧ Rw.val zs = Rw.val xs + Rw.val ys * 2 ^ up ∧ zs.length = xs.length + ys.length + up + 1 ∧ Below w.heap.size w w'
def PlRel (xs ys : List Nat) (up : Nat) (w : World) (s c i : Value) (W : World) : Prop := ∃ (k cc : Nat) (zs : List Nat), i = .int .i64 (k : Int) ∧ k ≤ xs.length + ys.length + up + 1 ∧ c = .int .i64 (cc : Int) ∧ cc ≤ 1 ∧ W.ownsRow w.heap.size 3 1 s zs.length (ints zs) ∧ zs.length = k ∧ Rw.Bits zs ∧ Rw.val zs + cc * 2 ^ k = Rw.dsum xs ys up k ∧ Below w.heap.size w W

theorem rel_plus {xs ys zs : List Nat} {up k cc b m : Nat} {w W w1 : World} {s v' : Value} {o : Obj} (hb : b = (Rw.dig xs ys up k + cc) % 2) (hm : m = (Rw.dig xs ys up k + cc) / 2)
    (hown : W.ownsRow w.heap.size 3 1 s zs.length (ints zs)) (hz : zs.length = k) (hbits : Rw.Bits zs) (hv : Rw.val zs + cc * 2 ^ k = Rw.dsum xs ys up k) (hB : Below w.heap.size w W)
    (hown' : w1.ownsRow w.heap.size 3 1 v' (zs.length + 1) (ints zs ++ [.int .i64 (b : Int)])) (hg : (W.alloc o).grownBy w1 s.ownBlock) :
    w1.ownsRow w.heap.size 3 1 v' (zs ++ [b]).length (ints (zs ++ [b])) ∧ (zs ++ [b]).length = k + 1 ∧ Rw.Bits (zs ++ [b]) ∧ Rw.val (zs ++ [b]) + m * 2 ^ (k + 1) = Rw.dsum xs ys up (k + 1) ∧ Below w.heap.size w w1 := by
  refine ⟨?_, by simp [hz], Rw.bits_snoc hbits (by omega), ?_, (hB.alloc hB.size o).grown hg (by simp; have := hB.size; omega) (fun j hj => (hown.lt j hj).1)⟩
  · rw [ints_snoc, List.length_append]; exact hown'
  · rw [hb, hm]; exact Rw.sum_step hz hv

theorem dig_bits (xs ys : List Nat) (up k : Nat) : bitAt xs (k : Int) + bitAt ys ((k : Int) - (up : Int)) = Rw.dig xs ys up k := by
  unfold bitAt Rw.dig
  rw [if_pos (by omega)]
  by_cases h : up ≤ k
  · rw [if_pos (by omega), if_pos h, show ((k : Int) - (up : Int)).toNat = k - up by omega]; rfl
  · rw [if_neg (by omega), if_neg h]; rfl
theorem bitAt_le {xs : List Nat} (h : Rw.Bits xs) (i : Int) : bitAt xs i ≤ 1 := by
  unfold bitAt
  split
  · exact Rw.bits_get h _
  · omega

set_option maxHeartbeats 2000000 in
set_option maxRecDepth 100000 in
theorem plus_any (va vb : Value) (xs ys : List Nat) (up : Nat) (w : World) (ha : Rd w va xs) (hb : Rd w vb ys) (hx : Rw.Bits xs) (hy : Rw.Bits ys) (hxl : xs.length ≤ 400000) (hyl : ys.length ≤ 400000) (hup : up ≤ 64) :
    Calls Tryd.prog 42 #[va, vb, .int .i64 (up : Int)] w (PlusPost xs ys up w) := by
  obtain ⟨i0, hi, hz0, hz1, hz2⟩ := info_parts infoInt
  obtain ⟨A, c1, rfl⟩ := ha.shape
  obtain ⟨A', c2, rfl⟩ := hb.shape
  have HA := Lib.hid ha; clear ha
  have HB := Lib.hid hb; clear hb
  go_enter Tryd.func42, Tryd.ntmps42
  go_wp2_with fail
  go_loopw [7, 8, 9] (fun s c i W => PlRel xs ys up w s c i W) (fun _ _ i _ => xs.length + ys.length + up + 1 - (intOf i).toNat)
  case atStart => exact ⟨0, 0, [], rfl, by omega, rfl, by omega, World.ownsRow_nil _ _ _ _, rfl, (fun b hb => absurd hb (by simp)), rfl, Below.refl _ _⟩
  case round =>
    obtain ⟨k, cc, zs, rfl, hk, rfl, hcc, hown, hzl, hbits, hval, hBl⟩ := hrel
    have HV := Lib.hid hval; clear hval
    have HZ := Lib.hid hzl
    have hzl2 : zs.length ≤ k := by omega
    clear hzl
    by_cases hlt : k < xs.length + ys.length + up + 1
    · have e0 : decide ((k : Int) < (xs.length : Int) + (ys.length : Int) + (up : Int) + 1) = true := by simp; omega
      have RA := Lib.hid (HA.out.below hBl (Nat.le_refl _))
      have RB := Lib.hid (HB.out.below hBl (Nat.le_refl _))
      have p1 := bitAt_le hx (k : Int)
      have q1 := bitAt_le hy ((k : Int) - (up : Int))
      have D := Lib.hid (dig_bits xs ys up k)
      have C1 := Lib.hid (bit_any _ xs (k : Int) _ RA.out (by omega))
      have C2 := Lib.hid (bit_any _ ys ((k : Int) - (up : Int)) _ RB.out (by omega))
      generalize bitAt xs (k : Int) = p at p1 D C1
      generalize bitAt ys ((k : Int) - (up : Int)) = q at q1 D C2
      obtain ⟨b, hb⟩ : ∃ b, b = (p + q + cc) % 2 := ⟨_, rfl⟩
      obtain ⟨m, hm⟩ : ∃ m, m = (p + q + cc) / 2 := ⟨_, rfl⟩
      have e1 : ((p : Int) + (q : Int) + (cc : Int)) % 2 = (b : Int) := by omega
      have e2 : ((p : Int) + (q : Int) + (cc : Int)) / 2 = (m : Int) := by omega
      have hb1 : b ≤ 1 := by omega
      have hm1 : m ≤ 1 := by omega
      have HB' := Lib.hid (show b = (Rw.dig xs ys up k + cc) % 2 by rw [← D.out]; exact hb); clear hb
      have HM := Lib.hid (show m = (Rw.dig xs ys up k + cc) / 2 by rw [← D.out]; exact hm); clear hm
      have hsz := hBl.size
      go_wp2_with fail
      refine C1.out.mono ?_
      rintro e w' ⟨rfl, rfl⟩
      go_wp2_with fail
      refine C2.out.mono ?_
      rintro e w' ⟨rfl, rfl⟩
      go_wp2_with (at_builtin; refine wpList_append_own _ rfl _ _ 55 rfl w.heap.size 3 i0 (.int .i64 0) 1 8 Tryd.underlying55 hi hz0 hz1 hz2 rfl (by decide) _ _ _ rfl (hown.alloc _) ⟨wr.heap.size, 0, none⟩ 1 1 [.int .i64 (b : Int)] rfl rfl ?c1 ?c2 ?c3 ?c4 ?c5 ?_)
      case c1 =>
        intro j x hj
        match j, hj with
        | 0, hj => simp at hj; subst hj; simp [Addr.add]
      case c2 => intro x hx; simp at hx; subst hx; rfl
      case c3 => unfold maxLen; omega
      case c4 => omega
      case c5 => simp; omega
      intro v' w1 hown' hg _
      have R := Lib.hid (rel_plus HB'.out HM.out hown HZ.out hbits HV.out hBl hown' hg)
      clear hown' hg hown hbits
      go_wp2_with fail
      go_roundw
      case rel => exact ⟨k + 1, m, zs ++ [b], by go_num, by omega, congrArg (Value.int .i64) e2, hm1, R.out⟩
      case measure => simp [intOf]; omega
    · have e0 : decide ((k : Int) < (xs.length : Int) + (ys.length : Int) + (up : Int) + 1) = false := by simp; omega
      have E := Lib.hid (show Rw.val zs = Rw.val xs + Rw.val ys * 2 ^ up by
        have h1 := HV.out
        rw [show k = xs.length + ys.length + up + 1 by omega] at h1
        exact Rw.sum_end hx hy h1)
      have RZ := Lib.hid (Rd.of_own hown (by omega))
      have hzl : Hid (zs.length = xs.length + ys.length + up + 1) := by have := HZ.out; exact (by omega : zs.length = xs.length + ys.length + up + 1)
      go_wp2_with fail
      go_ret
      exact ⟨_, zs, rfl, RZ.out, hbits, E.out, hzl.out, hBl⟩
end Go.Proofs.YtkcecmofbppodaaDoor
