/- The laws' own helper awake at this program: it returns true, whatever the memory, where errors.errorType is laid; what was there is as it was. -/
import Derived.Test.YtkcecmofbppodaaDoorWraps
namespace Go.Proofs.YtkcecmofbppodaaDoor
open Go.RowKit

theorem cell_lt {w : World} {a : Addr} {v : Value} (h : w.cell? a = some v) : a.block < w.heap.size := by
  rcases Nat.lt_or_ge a.block w.heap.size with h0 | h0
  · exact h0
  · simp [World.cell?, Array.getElem?_eq_none h0] at h

namespace Aw
theorem q1 : Fx.quo 4611686018427387904 9223372036854775808 = 2305843009213693952 := by simp [Fx.quo]
theorem q2 : Fx.quo 3 2 = 6917529027641081856 := by simp [Fx.quo]
theorem p3 : Fx.pw 2305843009213693952 3 4611686018427387904 = 576460752303423488 := by
  rw [Fx.pw_step _ _ _ (by omega), if_pos (by omega), show 3 / 2 = 1 by omega, Fx.pw_step _ _ _ (by omega), if_pos (by omega), show 1 / 2 = 0 by omega, Fx.pw_zero]
  simp [Fx.mul]
theorem s1 : Fx.share 4611686018427387904 4611686018427387904 0 = 2305843009213693952 := by simp [Fx.share, Fx.part, Fx.quo]
theorem m1 : Fx.mul 2305843009213693952 2305843009213693952 = 1152921504606846976 := by simp [Fx.mul]
theorem a1 : Fx.add 18446744073709551615 1 = 18446744073709551615 := by simp [Fx.add]
theorem x1 : Fx.exp 0 = 4611686018427387904 := by
  unfold Fx.exp
  rw [Fx.ex, Fx.mul_zero, Nat.zero_div, Fx.add_zero _ (by omega), Fx.ex_zero _ _ _ _ (by omega)]
theorem f1 : Fx.fall 0 = 4611686018427387904 := by unfold Fx.fall; rw [x1]; simp [Fx.quo]

theorem div1 (w : World) : Calls Tryd.prog 13 #[.int .u64 4611686018427387904, .int .u64 9223372036854775808] w (Good 2305843009213693952 w) := by
  have h := div_yes 4611686018427387904 9223372036854775808 w (by omega) (by omega) (by omega)
  rw [q1] at h
  exact h
theorem div2 (w : World) : Calls Tryd.prog 13 #[.int .u64 1, .int .u64 0] w (Faulty [100, 105, 118] w) := div_no 1 w (by omega)
theorem pow1 (w : World) : Calls Tryd.prog 24 #[.int .u64 2305843009213693952, .int .i64 3] w (Good 576460752303423488 w) := by
  have h := powr_yes 2305843009213693952 3 w (by omega) (by omega)
  rw [p3] at h
  exact h
theorem share1 (w : World) : Calls Tryd.prog 26 #[.int .u64 4611686018427387904, .int .u64 4611686018427387904, .int .u64 0] w (Good 2305843009213693952 w) := by
  have h := share_yes 4611686018427387904 4611686018427387904 0 w (by omega) (by omega) (by omega) (Or.inl (by omega))
  rw [s1] at h
  exact h
theorem whole1 (w : World) : Calls Tryd.prog 15 #[.int .i64 3, .int .i64 2] w (Good 6917529027641081856 w) := by
  have h := whole_yes 3 2 w (by omega) (by omega) (by omega)
  rw [q2] at h
  exact h
theorem mul1 (w : World) : Calls Tryd.prog 21 #[.int .u64 2305843009213693952, .int .u64 2305843009213693952] w fun e w' => e = .returned (.int .u64 1152921504606846976) ∧ w = w' := by
  have h := mul_any 2305843009213693952 2305843009213693952 w (by omega) (by omega)
  rw [m1] at h
  exact h
theorem add1 (w : World) : Calls Tryd.prog 17 #[.int .u64 18446744073709551615, .int .u64 1] w fun e w' => e = .returned (.int .u64 18446744073709551615) ∧ w = w' := by
  have h := add_any 18446744073709551615 1 w (by omega) (by omega)
  rw [a1] at h
  exact h
theorem sub1 (w : World) : Calls Tryd.prog 19 #[.int .u64 1, .int .u64 2] w fun e w' => e = .returned (.int .u64 0) ∧ w = w' := sub_any 1 2 w (by omega) (by omega)
theorem exp1 (w : World) : Calls Tryd.prog 28 #[.int .u64 0] w fun e w' => e = .returned (.int .u64 4611686018427387904) ∧ w = w' := by
  have h := exp_any 0 w (by omega)
  rw [x1] at h
  exact h
theorem fall1 (w : World) : Calls Tryd.prog 30 #[.int .u64 0] w (Ret 4611686018427387904 w) := by
  have h := fall_any 0 w (by omega)
  rw [f1] at h
  exact h
end Aw

set_option maxHeartbeats 2000000 in
set_option maxRecDepth 100000 in
theorem awake_any (w : World) (hl : Laid w) : Calls Tryd.prog 12 #[] w (RetB true w) := by
  go_enter Tryd.func12, Tryd.ntmps12
  go_wp2_with fail
  refine (Aw.div1 _).mono ?_
  rintro e w1 ⟨rfl, hb1⟩
  have B1 := Lib.hid hb1; clear hb1
  go_wp2_with fail
  refine (Aw.div2 _).mono ?_
  rintro e w2 ⟨g, rfl, hg, k0, k1, k2, hb2⟩
  have hg2 : g < w2.heap.size := cell_lt k0
  have B2 := Lib.hid (B1.out.trans (hb2.mono B1.out.size)); clear hb2
  have K := Lib.hid (And.intro k0 (And.intro k1 k2)); clear k0 k1 k2
  go_wp2_with fail
  refine (Aw.pow1 _).mono ?_
  rintro e w3 ⟨rfl, hb3⟩
  have C3 := Lib.hid hb3; clear hb3
  go_wp2_with fail
  refine (Aw.share1 _).mono ?_
  rintro e w4 ⟨rfl, hb4⟩
  have C4 := Lib.hid (C3.out.trans (hb4.mono C3.out.size)); clear hb4
  go_wp2_with fail
  refine (Aw.whole1 _).mono ?_
  rintro e w5 ⟨rfl, hb5⟩
  have C5 := Lib.hid (C4.out.trans (hb5.mono C4.out.size)); clear hb5
  have B5 := Lib.hid (B2.out.trans (C5.out.mono B2.out.size))
  have k0 : w5.cell? ⟨g, 0, none⟩ = some (.string ⟨#[100, 105, 118]⟩) := by rw [C5.out.cell (p := ⟨g, 0, none⟩) hg2]; exact K.out.1
  have k1 : w5.cell? ⟨g, 1, none⟩ = some (.string ⟨#[]⟩) := by rw [C5.out.cell (p := ⟨g, 1, none⟩) hg2]; exact K.out.2.1
  have k2 : w5.cell? ⟨g, 2, none⟩ = some (.iface 47 (.int .i64 1)) := by rw [C5.out.cell (p := ⟨g, 2, none⟩) hg2]; exact K.out.2.2
  have W := Lib.hid (wraps_fault g ⟨#[100, 105, 118]⟩ w5 (hl.below B5.out (Nat.le_refl _)) (cell_lt k0) k0 k1 k2)
  clear k0 k1 k2
  go_wp2_with (first
    | (go_at_call 21; refine (Aw.mul1 _).mono ?_; rintro e w' ⟨rfl, rfl⟩)
    | (go_at_call 17; refine (Aw.add1 _).mono ?_; rintro e w' ⟨rfl, rfl⟩)
    | (go_at_call 19; refine (Aw.sub1 _).mono ?_; rintro e w' ⟨rfl, rfl⟩))
  refine W.out.mono ?_
  rintro e w6 ⟨rfl, hb6⟩
  have B6 := Lib.hid (B5.out.trans (hb6.mono B5.out.size)); clear hb6
  go_wp2_with (first
    | (go_at_call 28; refine (Aw.exp1 _).mono ?_; rintro e w' ⟨rfl, rfl⟩)
    | (go_at_call 30; refine (Aw.fall1 _).mono ?_; rintro e w' ⟨rfl, n, rfl⟩))
  go_ret
  exact ⟨rfl, bdrew B6.out _⟩
end Go.Proofs.YtkcecmofbppodaaDoor
