/- The contracts of the reference's Add and Mul at this program. -/
import Derived.Test.YtkcecmofbppodaaDoorRefC
namespace Go.Proofs.YtkcecmofbppodaaDoor
open Go.RowKit

def RetN (v : Nat) (w : World) (e : Ending) (w' : World) : Prop := e = .returned (.int .u64 v) ∧ Below w.heap.size w w'

theorem cap_add {zs : List Nat} {a b : Nat} (h : Rw.val zs = a + b * 2 ^ 0) : Rw.cap zs = Fx.add a b := by
  unfold Rw.cap Fx.add
  rw [h, Nat.pow_zero, Nat.mul_one]
theorem cap_mul {zs : List Nat} {a b : Nat} (hz : Rw.Bits zs) (h : Rw.val zs = a * b) : Rw.cap (zs.drop 62) = Fx.mul a b := by
  unfold Rw.cap Fx.mul
  rw [Rw.val_drop_div 62 hz, h]

set_option maxHeartbeats 1000000 in
theorem refAdd_any (a b : Nat) (w : World) (ha : a ≤ 18446744073709551615) (hb : b ≤ 18446744073709551615) :
    Calls Tryd.prog 18 #[.int .u64 a, .int .u64 b] w (RetN (Fx.add a b) w) := by
  go_enter Tryd.func18, Tryd.ntmps18
  go_wp2_with fail
  refine (row_any a _ ha).mono ?_
  rintro e w1 ⟨r1, xs, rfl, hown1, hx, vx, lx, hb1⟩
  have R1 := Lib.hid (Rd.of_own hown1 (by omega)); clear hown1
  have VX := Lib.hid vx; clear vx
  have B1 := Lib.hid hb1; clear hb1
  go_wp2_with fail
  refine (row_any b _ hb).mono ?_
  rintro e w2 ⟨r2, ys, rfl, hown2, hy, vy, ly, hb2⟩
  have R2 := Lib.hid (Rd.of_own hown2 (by omega)); clear hown2
  have VY := Lib.hid vy; clear vy
  have R1' := Lib.hid (R1.out.below hb2 (Nat.le_refl _))
  have B2 := Lib.hid (B1.out.trans (hb2.mono B1.out.size)); clear hb2
  have C := Lib.hid (plus_any r1 r2 xs ys 0 w2 R1'.out R2.out hx hy (by omega) (by omega) (by omega))
  go_wp2_with fail
  refine C.out.mono ?_
  rintro e w3 ⟨r3, zs, rfl, hr3, hz, vz, lz, hb3⟩
  have B3 := Lib.hid (B2.out.trans (hb3.mono B2.out.size)); clear hb3
  have VZ := Lib.hid (cap_add (by rw [vz, VX.out, VY.out])); clear vz
  have LZ := Lib.hid lz; clear lz
  have R3 := Lib.hid (whole_row r3 zs w3 hr3 hz); clear hr3
  rw [VZ.out] at R3
  go_wp2_with fail
  refine R3.out.mono ?_
  rintro e w4 ⟨rfl, rfl⟩
  go_wp2_with fail
  go_ret
  exact ⟨rfl, B3.out⟩

def MuRel (xs ys : List Nat) (w2 : World) (p i : Value) (W : World) : Prop := ∃ (k : Nat) (zs : List Nat), i = .int .i64 (k : Int) ∧ k ≤ ys.length ∧ Rd W p zs ∧ Rw.Bits zs ∧ zs.length ≤ k * 200 ∧ Rw.val zs = Rw.val xs * Rw.tsum ys k ∧ Below w2.heap.size w2 W

set_option maxHeartbeats 2000000 in
set_option maxRecDepth 100000 in
theorem refMul_any (a b : Nat) (w : World) (ha : a ≤ 18446744073709551615) (hb : b ≤ 18446744073709551615) :
    Calls Tryd.prog 22 #[.int .u64 a, .int .u64 b] w (RetN (Fx.mul a b) w) := by
  go_enter Tryd.func22, Tryd.ntmps22
  go_wp2_with fail
  refine (row_any a _ ha).mono ?_
  rintro e w1 ⟨r1, xs, rfl, hown1, hx, vx, lx, hb1⟩
  have R1 := Lib.hid (Rd.of_own hown1 (by omega)); clear hown1
  have VX := Lib.hid vx; clear vx
  have B1 := Lib.hid hb1; clear hb1
  go_wp2_with fail
  refine (row_any b _ hb).mono ?_
  rintro e w2 ⟨r2, ys, rfl, hown2, hy, vy, ly, hb2⟩
  have R2 := Lib.hid (Rd.of_own hown2 (by omega)); clear hown2
  have VY := Lib.hid vy; clear vy
  have R1' := Lib.hid (R1.out.below hb2 (Nat.le_refl _))
  have B2 := Lib.hid (B1.out.trans (hb2.mono B1.out.size)); clear hb2
  obtain ⟨A, c2, rfl⟩ := R2.out.shape
  go_wp2_with fail
  go_loopw [7, 8] (fun p i W => MuRel xs ys w2 p i W) (fun _ i _ => ys.length - (intOf i).toNat)
  case atStart => exact ⟨0, [], rfl, by omega, ⟨by simp, Or.inl ⟨rfl, _, _, rfl⟩⟩, (fun b hb => absurd hb (by simp)), by simp, by simp [Rw.val, Rw.tsum], Below.refl _ _⟩
  case round =>
    obtain ⟨k, zs, rfl, hk, hr, hz, hzl, hv, hB⟩ := hrel
    have HV := Lib.hid hv; clear hv
    by_cases hlt : k < ys.length
    · have e0 : decide (k < ys.length) = true := by simpa using hlt
      have RB := Lib.hid (R2.out.below hB (Nat.le_refl _))
      have RA := Lib.hid (R1'.out.below hB (Nat.le_refl _))
      rcases RB.out.2 with ⟨h1, _⟩ | ⟨g, o, c', e, hg, hc, hm, hcell⟩
      · exfalso; rw [h1] at hlt; simp at hlt
      · have hxk := hcell k hlt
        clear hcell
        unfold maxLen at hm
        obtain ⟨rfl, rfl⟩ : A = some ⟨g, o, none⟩ ∧ c2 = c' := by injection e with e1 _ e2; exact ⟨e1, e2⟩
        clear e
        obtain ⟨d, hd⟩ : ∃ d, d = ys.getD k 0 := ⟨_, rfl⟩
        have hd1 : d ≤ 1 := by rw [hd]; exact Rw.bits_get hy k
        rw [← hd] at hxk
        have HT := Lib.hid (show Rw.tsum ys (k + 1) = Rw.tsum ys k + d * 2 ^ k by rw [Rw.tsum, hd])
        by_cases h1 : d = 1
        · have e1 : ((d : Int) == 1) = true := beq_iff_eq.2 (by omega)
          have C := Lib.hid (plus_any _ _ zs xs k _ hr RA.out hz hx (by omega) (by omega) (by omega))
          have HW := Lib.hid (show Rw.val zs + Rw.val xs * 2 ^ k = Rw.val xs * Rw.tsum ys (k + 1) by rw [HT.out, h1, Nat.one_mul, Nat.mul_add, HV.out])
          clear hd h1 hr
          go_wp2_with fail
          refine C.out.mono ?_
          rintro e w3 ⟨r3, zs', rfl, hr3, hz3, vz, lz, hb3⟩
          have VZ := Lib.hid (vz.trans HW.out); clear vz
          have LZ := Lib.hid lz; clear lz
          have B3 := Lib.hid (hB.trans (hb3.mono hB.size)); clear hb3
          have RR := Lib.hid hr3; clear hr3
          go_wp2_with fail
          go_roundw
          case rel => exact ⟨k + 1, zs', by go_num, by omega, RR.out, hz3, by have := LZ.out; omega, VZ.out, B3.out⟩
          case measure => simp [intOf]; omega
        · have e1 : ((d : Int) == 1) = false := beq_eq_false_iff_ne.2 (by omega)
          have HW := Lib.hid (show Rw.val zs = Rw.val xs * Rw.tsum ys (k + 1) by rw [HT.out, show d = 0 by omega, Nat.zero_mul, Nat.add_zero, HV.out])
          clear hd h1
          have RR := Lib.hid hr; clear hr
          go_wp2_with fail
          go_roundw
          case rel => exact ⟨k + 1, zs, by go_num, by omega, RR.out, hz, by omega, HW.out, hB⟩
          case measure => simp [intOf]; omega
    · have e0 : decide (k < ys.length) = false := by simpa using hlt
      have VZ := Lib.hid (show Rw.val zs = a * b by rw [HV.out, Rw.tsum_val k ys (by omega), VX.out, VY.out])
      have B3 := Lib.hid (B2.out.trans (hB.mono B2.out.size))
      have C := Lib.hid (down_any _ zs _ hr)
      clear hr
      go_wp2_with fail
      refine C.out.mono ?_
      rintro e w3 ⟨r3, rfl, hr3, rfl⟩
      have W := Lib.hid (whole_row r3 (zs.drop 62) _ hr3 (Rw.bits_drop hz 62)); clear hr3
      rw [cap_mul hz VZ.out] at W
      go_wp2_with fail
      refine W.out.mono ?_
      rintro e w4 ⟨rfl, rfl⟩
      go_wp2_with fail
      go_ret
      exact ⟨rfl, B3.out⟩
end Go.Proofs.YtkcecmofbppodaaDoor
