/- More of the plain arithmetic of package fix: powers, whole numbers' quotients, shares. No program is spoken of. -/
import Derived.Test.YtkcecmofbppodaaDoorFxb
namespace Go.Proofs.YtkcecmofbppodaaDoor.Fx

theorem pw_le (n : Nat) : ∀ x p, p ≤ 18446744073709551615 → pw x n p ≤ 18446744073709551615 := by
  induction n using Nat.strongRecOn with
  | ind n ih =>
    intro x p hp
    rcases Nat.eq_zero_or_pos n with rfl | hn
    · rw [pw_zero]; exact hp
    · rw [pw_step x n p (by omega)]
      refine ih (n / 2) (by omega) _ _ ?_
      split
      · exact mul_le _ _
      · exact hp
theorem pw_mono (n : Nat) : ∀ x y p q, x ≤ y → p ≤ q → pw x n p ≤ pw y n q := by
  induction n using Nat.strongRecOn with
  | ind n ih =>
    intro x y p q hx hp
    rcases Nat.eq_zero_or_pos n with rfl | hn
    · rw [pw_zero, pw_zero]; exact hp
    · rw [pw_step x n p (by omega), pw_step y n q (by omega)]
      refine ih (n / 2) (by omega) _ _ _ _ (mul_mono hx hx) ?_
      split
      · exact mul_mono hp hx
      · exact hp
theorem pw_one (n : Nat) : pw 4611686018427387904 n 4611686018427387904 = 4611686018427387904 := by
  induction n using Nat.strongRecOn with
  | ind n ih =>
    rcases Nat.eq_zero_or_pos n with rfl | hn
    · rw [pw_zero]
    · rw [pw_step _ n _ (by omega), mul_one _ (by omega), ite_self]
      exact ih (n / 2) (by omega)
theorem pw_le_one (x n : Nat) (h : x ≤ 4611686018427387904) : pw x n 4611686018427387904 ≤ 4611686018427387904 := by
  have := pw_mono n x 4611686018427387904 4611686018427387904 4611686018427387904 h (Nat.le_refl _)
  rwa [pw_one] at this
theorem pw_first (x : Nat) (h : x ≤ 18446744073709551615) : pw x 1 4611686018427387904 = x := by
  rw [pw_step x 1 _ (by omega), if_pos (by omega), show 1 / 2 = 0 by omega, pw_zero, one_mul x h]

theorem quo_double (a b : Nat) : quo (2 * a) (2 * b) = quo a b := by
  unfold quo
  by_cases h : b ≤ a / 4
  · rw [if_pos h, if_pos (by omega)]
  · rw [if_neg h, if_neg (by omega), Nat.mul_assoc, Nat.mul_div_mul_left _ _ (by omega)]
theorem quo_by_one (a : Nat) : quo a 1 = if a < 4 then a * 4611686018427387904 else 18446744073709551615 := by
  unfold quo
  by_cases h : a < 4
  · rw [if_neg (by omega), if_pos h, Nat.div_one]
  · rw [if_pos (by omega), if_neg h]
theorem quo_same (a : Nat) (h : 1 ≤ a) : quo a a = 4611686018427387904 := by
  unfold quo
  rw [if_neg (by omega), Nat.mul_div_cancel_left _ h]

theorem quo_frac (a s : Nat) (h : a ≤ s) (hs : 0 < s) : quo a s = a * 4611686018427387904 / s := by unfold quo; rw [if_neg (by omega)]
theorem frac_sum (a b s : Nat) (hs : 0 < s) (h : a + b = s) : a * 4611686018427387904 / s + b * 4611686018427387904 / s ≤ 4611686018427387904 ∧ 4611686018427387904 ≤ a * 4611686018427387904 / s + b * 4611686018427387904 / s + 2 := by
  have h1 := Nat.div_add_mod (a * 4611686018427387904) s
  have h2 := Nat.div_add_mod (b * 4611686018427387904) s
  have m1 := Nat.mod_lt (a * 4611686018427387904) hs
  have m2 := Nat.mod_lt (b * 4611686018427387904) hs
  have h3 : a * 4611686018427387904 + b * 4611686018427387904 = s * 4611686018427387904 := by rw [← Nat.add_mul, h]
  have h4 : s * (a * 4611686018427387904 / s + b * 4611686018427387904 / s) + (a * 4611686018427387904 % s + b * 4611686018427387904 % s) = s * 4611686018427387904 := by
    rw [Nat.mul_add]; omega
  constructor
  · refine Nat.le_of_mul_le_mul_left ?_ hs
    exact Nat.le.intro h4
  · refine Nat.le_of_mul_le_mul_left ?_ hs
    rw [← h4, Nat.mul_add s (a * 4611686018427387904 / s + b * 4611686018427387904 / s) 2]
    omega
theorem part_le_one (a b : Nat) (h : 0 < a ∨ 0 < b) : part a b ≤ 4611686018427387904 := by
  unfold part
  split
  · rw [quo_frac _ _ (by omega) (by omega)]
    have := (frac_sum (a / 2) (b / 2) _ (by omega) rfl).1
    exact Nat.le_trans (Nat.le_add_right _ _) this
  · rw [quo_frac _ _ (by omega) (by omega)]
    have := (frac_sum a b _ (by omega) rfl).1
    exact Nat.le_trans (Nat.le_add_right _ _) this
theorem part_sum (a b : Nat) (h : 0 < a ∨ 0 < b) : part a b + part b a ≤ 4611686018427387904 ∧ 4611686018427387904 ≤ part a b + part b a + 2 := by
  unfold part
  by_cases hs : 18446744073709551615 < a + b
  · rw [if_pos hs, if_pos (by omega), quo_frac _ _ (by omega) (by omega), quo_frac _ _ (by omega) (by omega), Nat.add_comm (b / 2) (a / 2)]
    exact frac_sum (a / 2) (b / 2) _ (by omega) rfl
  · rw [if_neg hs, if_neg (by omega), quo_frac _ _ (by omega) (by omega), quo_frac _ _ (by omega) (by omega), Nat.add_comm b a]
    exact frac_sum a b _ (by omega) rfl
theorem part_ge (a b : Nat) (h : 0 < a ∨ 0 < b) (hab : b ≤ a) : part b a ≤ part a b := by
  unfold part
  by_cases hs : 18446744073709551615 < a + b
  · rw [if_pos hs, if_pos (by omega), quo_frac _ _ (by omega) (by omega), quo_frac _ _ (by omega) (by omega), Nat.add_comm (b / 2) (a / 2)]
    exact div_mono _ (Nat.mul_le_mul_right _ (by omega))
  · rw [if_neg hs, if_neg (by omega), quo_frac _ _ (by omega) (by omega), quo_frac _ _ (by omega) (by omega), Nat.add_comm b a]
    exact div_mono _ (Nat.mul_le_mul_right _ hab)
theorem share_ge (a b l : Nat) (hl : l ≤ 2305843009213693952) : l ≤ share a b l := by unfold share; omega
theorem share_le (a b l : Nat) : share a b l ≤ 4611686018427387904 - l := by unfold share; omega
theorem share_none (a b : Nat) (h : 0 < a ∨ 0 < b) : share a b 0 = part a b := by
  have := part_le_one a b h
  unfold share
  omega
end Go.Proofs.YtkcecmofbppodaaDoor.Fx
