/- The contracts of the reference's Exp, Fall and Share at this program. -/
import Derived.Test.YtkcecmofbppodaaDoorRefF
import Derived.Test.YtkcecmofbppodaaDoorFxc
namespace Go.Proofs.YtkcecmofbppodaaDoor
open Go.RowKit

def EpRel (x : Nat) (w : World) (a b c : Value) (W : World) : Prop := ∃ (t s k n : Nat), a = .int .u64 (t : Int) ∧ b = .int .u64 (s : Int) ∧ c = .int .i64 (k : Int) ∧ s ≤ 18446744073709551615 ∧ t ≤ 18446744073709551615 ∧ 1 ≤ k ∧ k + n ≤ 64 ∧ 64 ≤ k + n ∧ Fx.ex x n k t s = Fx.exp x ∧ Below w.heap.size w W

set_option maxHeartbeats 2000000 in
set_option maxRecDepth 100000 in
theorem refExp_any (x : Nat) (w : World) (hx : x ≤ 18446744073709551615) :
    Calls Tryd.prog 29 #[.int .u64 x] w (RetN (Fx.exp x) w) := by
  go_enter Tryd.func29, Tryd.ntmps29
  go_wp2_with fail
  go_loopw [3, 4, 5] (fun a b c W => EpRel x w a b c W) (fun _ _ c _ => 64 - (intOf c).toNat)
  case atStart => exact ⟨4611686018427387904, 4611686018427387904, 1, 63, rfl, rfl, rfl, by omega, by omega, by omega, by omega, by omega, rfl, Below.refl _ _⟩
  case round =>
    obtain ⟨t, s, k, n, rfl, rfl, rfl, hs, ht, hk, hn, hn2, hv, hB⟩ := hrel
    have HE := Lib.hid hv; clear hv
    by_cases h0 : k < 64
    · have e0 : decide ((k : Int) < 64) = true := by simp; omega
      have e2 : ¬ ((k : Int) = 0) := by omega
      obtain ⟨n', rfl⟩ : ∃ n', n = n' + 1 := ⟨n - 1, by omega⟩
      have hm := Fx.mul_le t x
      obtain ⟨u, hu⟩ : ∃ u, u = Fx.mul t x / k := ⟨_, rfl⟩
      have hu2 : u ≤ 18446744073709551615 := by
        have := Nat.div_le_self (Fx.mul t x) k
        omega
      have e3 : ((Fx.mul t x : Nat) : Int) / (k : Int) = (u : Int) := by rw [hu]; exact (Int.natCast_ediv _ _).symm
      have hadd := Fx.add_le s u
      have HS := Lib.hid (show Fx.ex x n' (k + 1) u (Fx.add s u) = Fx.ex x (n' + 1) k t s by rw [hu]; rfl)
      clear hu
      by_cases hu0 : u = 0
      · have e4 : ((u : Int) == 0) = true := beq_iff_eq.2 (by omega)
        have HF := Lib.hid (show Fx.exp x = s by
          rw [← HE.out, ← HS.out, hu0, Fx.add_zero s hs, Fx.ex_zero x n' (k + 1) s hs])
        clear hu0
        go_wp2_with fail
        refine (refMul_any t x _ ht hx).mono ?_
        rintro e w2 ⟨rfl, hb2⟩
        have B2 := Lib.hid (hB.trans (hb2.mono hB.size)); clear hb2
        go_wp2_with fail
        go_ret
        exact ⟨ret_int (by rw [HF.out]), B2.out⟩
      · have e4 : ((u : Int) == 0) = false := beq_eq_false_iff_ne.2 (by omega)
        clear hu0
        go_wp2_with fail
        refine (refMul_any t x _ ht hx).mono ?_
        rintro e w2 ⟨rfl, hb2⟩
        have B2 := Lib.hid (hB.trans (hb2.mono hB.size)); clear hb2
        go_wp2_with fail
        refine (refAdd_any s u _ hs hu2).mono ?_
        rintro e w3 ⟨rfl, hb3⟩
        have B3 := Lib.hid (B2.out.trans (hb3.mono B2.out.size)); clear hb3
        go_wp2_with fail
        go_roundw
        case rel => exact ⟨u, Fx.add s u, k + 1, n', rfl, rfl, by go_num, by omega, by omega, by omega, by omega, by omega, HS.out.trans HE.out, B3.out⟩
        case measure => simp [intOf]; omega
    · have e0 : decide ((k : Int) < 64) = false := by simp; omega
      have HF := Lib.hid (show Fx.exp x = s by
        have h1 := HE.out
        rw [show n = 0 by omega] at h1
        exact h1.symm)
      go_wp2_with fail
      go_ret
      exact ⟨ret_int (by rw [HF.out]), hB⟩

theorem refFall_any (x : Nat) (w : World) (hx : x ≤ 18446744073709551615) :
    Calls Tryd.prog 31 #[.int .u64 x] w (RetN (Fx.fall x) w) := by
  have he := Fx.exp_le x
  have hg := Fx.exp_ge x
  have C := fun W => Lib.hid (refDiv_any 4611686018427387904 (Fx.exp x) W (by omega) he)
  rw [dq, dc, if_neg (by omega), if_neg (by omega)] at C
  go_enter Tryd.func31, Tryd.ntmps31
  go_wp2_with fail
  refine (refExp_any x _ hx).mono ?_
  rintro e w1 ⟨rfl, hb1⟩
  have B1 := Lib.hid hb1; clear hb1
  go_wp2_with fail
  refine (C _).out.mono ?_
  rintro e w2 ⟨rfl, hb2⟩
  have B2 := Lib.hid (B1.out.trans (hb2.mono B1.out.size)); clear hb2
  go_wp2_with fail
  go_ret
  exact ⟨rfl, B2.out⟩

theorem share_cases (a b l : Nat) (hl : l ≤ 2305843009213693952) : Fx.share a b l = if Fx.part a b < l then l else if 4611686018427387904 - l < Fx.part a b then 4611686018427387904 - l else Fx.part a b := by
  unfold Fx.share
  split
  · omega
  · split <;> omega

set_option maxHeartbeats 2000000 in
set_option maxRecDepth 100000 in
theorem refShare_any (a b l : Nat) (w : World) (ha : a ≤ 18446744073709551615) (hb : b ≤ 18446744073709551615) (hl : l ≤ 18446744073709551615) :
    Calls Tryd.prog 27 #[.int .u64 a, .int .u64 b, .int .u64 l] w (RefRet (sq a b l) (sc a b l) w) := by
  by_cases h : a = 0 ∧ b = 0 ∨ 2305843009213693952 < l
  · rw [sq, sc, if_pos h, if_pos h]
    have P := Lib.hid (show (((a : Int) == 0) = true ∧ ((b : Int) == 0) = true) ∨ (((a : Int) == 0) = false ∧ decide (2305843009213693952 < (l : Int)) = true) ∨ (((a : Int) == 0) = true ∧ ((b : Int) == 0) = false ∧ decide (2305843009213693952 < (l : Int)) = true) by
      by_cases h1 : a = 0
      · by_cases h2 : b = 0
        · exact Or.inl ⟨beq_iff_eq.2 (by omega), beq_iff_eq.2 (by omega)⟩
        · exact Or.inr (Or.inr ⟨beq_iff_eq.2 (by omega), beq_eq_false_iff_ne.2 (by omega), by simp; omega⟩)
      · exact Or.inr (Or.inl ⟨beq_eq_false_iff_ne.2 (by omega), by simp; omega⟩))
    clear h
    rcases P.out with ⟨pa, pb⟩ | ⟨pa, pb⟩ | ⟨pa, pb, pc⟩
    all_goals
      clear P
      go_enter Tryd.func27, Tryd.ntmps27
      go_wp2_with fail
      go_ret2
      exact ⟨rfl, Below.refl _ _⟩
  · rw [sq, sc, if_neg h, if_neg h, share_cases a b l (by omega)]
    have P := Lib.hid (show ((a : Int) == 0) = false ∨ (((a : Int) == 0) = true ∧ ((b : Int) == 0) = false) by
      by_cases h1 : a = 0
      · exact Or.inr ⟨beq_iff_eq.2 (by omega), beq_eq_false_iff_ne.2 (by omega)⟩
      · exact Or.inl (beq_eq_false_iff_ne.2 (by omega)))
    have hl2 : l ≤ 2305843009213693952 := by omega
    have el : decide (2305843009213693952 < (l : Int)) = false := by simp; omega
    -- the two that are divided
    have D := Lib.hid (show ∃ c d : Nat, c ≤ 18446744073709551615 ∧ c + d ≤ 18446744073709551615 ∧ c + d ≠ 0 ∧ Fx.part a b = Fx.quo c (c + d) ∧
        ((decide (18446744073709551615 - (b : Int) < (a : Int)) = true ∧ (a : Int) / 2 = (c : Int) ∧ (b : Int) / 2 = (d : Int)) ∨ (decide (18446744073709551615 - (b : Int) < (a : Int)) = false ∧ a = c ∧ b = d)) by
      by_cases hs : 18446744073709551615 < a + b
      · refine ⟨a / 2, b / 2, by omega, by omega, by omega, by unfold Fx.part; rw [if_pos hs], Or.inl ⟨by simp; omega, by omega, by omega⟩⟩
      · refine ⟨a, b, ha, by omega, by omega, by unfold Fx.part; rw [if_neg hs], Or.inr ⟨by simp; omega, rfl, rfl⟩⟩)
    obtain ⟨c, d, hc, hcd, hne, hpart, hcase⟩ := D.out
    have hql := Fx.quo_le c (c + d) hc
    rw [hpart]
    have C := fun W => Lib.hid (refDiv_any c (c + d) W hc hcd)
    rw [dq, dc, if_neg hne, if_neg hne] at C
    have hcd2 : c + d ≤ 18446744073709551615 := hcd
    generalize Fx.quo c (c + d) = q at hql C
    clear D hpart h hne
    have Q := Lib.hid (show (decide (q < l) = true ∧ decide (4611686018427387904 - (l : Int) < (l : Int)) = false ∧ (if q < l then l else if 4611686018427387904 - l < q then 4611686018427387904 - l else q) = l) ∨
        (decide (q < l) = false ∧ decide (4611686018427387904 - (l : Int) < (q : Int)) = true ∧ (if q < l then l else if 4611686018427387904 - l < q then 4611686018427387904 - l else q) = 4611686018427387904 - l) ∨
        (decide (q < l) = false ∧ decide (4611686018427387904 - (l : Int) < (q : Int)) = false ∧ (if q < l then l else if 4611686018427387904 - l < q then 4611686018427387904 - l else q) = q) by
      by_cases h1 : q < l
      · exact Or.inl ⟨by simpa using h1, by simp; omega, by rw [if_pos h1]⟩
      · by_cases h2 : 4611686018427387904 - l < q
        · exact Or.inr (Or.inl ⟨by simpa using h1, by simp; omega, by rw [if_neg h1, if_pos h2]⟩)
        · exact Or.inr (Or.inr ⟨by simpa using h1, by simp; omega, by rw [if_neg h1, if_neg h2]⟩))
    obtain ⟨v, hv⟩ : ∃ v, v = (if q < l then l else if 4611686018427387904 - l < q then 4611686018427387904 - l else q) := ⟨_, rfl⟩
    rw [← hv] at Q ⊢
    clear hv
    rcases hcase with ⟨s1, s2, s3⟩ | ⟨s1, rfl, rfl⟩ <;> rcases P.out with pa | ⟨pa, pb⟩ <;> rcases Q.out with ⟨q1, q2, q3⟩ | ⟨q1, q2, q3⟩ | ⟨q1, q2, q3⟩
    all_goals
      clear P Q
      have Q3 := Lib.hid q3; clear q3
      go_enter Tryd.func27, Tryd.ntmps27
      go_wp2_with fail
      refine (C _).out.mono ?_
      rintro e w1 ⟨rfl, hb1⟩
      have B1 := Lib.hid hb1; clear hb1
      go_wp2_with fail
      go_ret2
      refine ⟨?_, B1.out⟩
      rw [Q3.out]
      first | rfl | exact congrArg (fun n : Int => Ending.returned (.tuple #[.int .u64 n, .int .i64 0])) (by omega)
end Go.Proofs.YtkcecmofbppodaaDoor
