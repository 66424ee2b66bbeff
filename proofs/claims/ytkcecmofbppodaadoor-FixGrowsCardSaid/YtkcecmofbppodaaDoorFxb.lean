/- What follows of the plain arithmetic of package fix: order, monotony, bounds. No program is spoken of. -/
import Derived.Test.YtkcecmofbppodaaDoorFx
namespace Go.Proofs.YtkcecmofbppodaaDoor.Fx

theorem div_mono {a b : Nat} (c : Nat) (h : a ≤ b) : a / c ≤ b / c := Nat.div_le_div_right h
theorem mul_comm (a b : Nat) : mul b a = mul a b := by unfold mul; rw [Nat.mul_comm]
theorem mul_one (a : Nat) (h : a ≤ 18446744073709551615) : mul a 4611686018427387904 = a := by
  unfold mul
  rw [Nat.mul_div_cancel _ (by omega), if_neg (by omega)]
theorem one_mul (a : Nat) (h : a ≤ 18446744073709551615) : mul 4611686018427387904 a = a := by rw [mul_comm a]; exact mul_one a h
theorem cap_mono {x y : Nat} (h : x ≤ y) : (if 18446744073709551615 < x then 18446744073709551615 else x) ≤ (if 18446744073709551615 < y then 18446744073709551615 else y) := by
  split <;> split <;> omega
theorem mul_mono {a b c d : Nat} (h : a ≤ c) (k : b ≤ d) : mul a b ≤ mul c d := cap_mono (div_mono _ (Nat.mul_le_mul h k))
theorem mul_le_raw (a b : Nat) : mul a b ≤ a * b / 4611686018427387904 := by unfold mul; split <;> omega
theorem mul_le_left (a b : Nat) (h : a ≤ 18446744073709551615) (hb : b ≤ 4611686018427387904) : mul a b ≤ a := by
  have := mul_mono (Nat.le_refl a) hb
  rwa [mul_one a h] at this
theorem add_mono {a b c d : Nat} (h : a ≤ c) (k : b ≤ d) : add a b ≤ add c d := by
  unfold add
  exact cap_mono (Nat.add_le_add h k)
theorem add_sub_le (a b : Nat) : add a b - b ≤ a := by unfold add; split <;> omega
theorem le_add_left (a b : Nat) (h : a ≤ 18446744073709551615) : a ≤ add a b := by unfold add; split <;> omega
theorem le_add_right (a b : Nat) (h : b ≤ 18446744073709551615) : b ≤ add a b := by unfold add; split <;> omega
theorem add_comm (a b : Nat) : add b a = add a b := by unfold add; rw [Nat.add_comm]
theorem add_assoc (a b c : Nat) : add (add a b) c = add a (add b c) := by
  unfold add
  split <;> split <;> split <;> (try split) <;> omega
theorem add_sub (a b : Nat) (h : add a b ≠ 18446744073709551615) : add a b - b = a := by
  unfold add at *
  split at h <;> first | (exfalso; exact h rfl) | (split <;> omega)

theorem ex_mono {x y : Nat} (hx : x ≤ y) : ∀ n k t u s r, t ≤ u → s ≤ r → ex x n k t s ≤ ex y n k u r
  | 0, _, _, _, _, _, _, h => h
  | n + 1, k, _, _, _, _, ht, hs => ex_mono hx n (k + 1) _ _ _ _ (div_mono _ (mul_mono ht hx)) (add_mono hs (div_mono _ (mul_mono ht hx)))
theorem exp_mono {x y : Nat} (h : x ≤ y) : exp x ≤ exp y := ex_mono h _ _ _ _ _ _ (Nat.le_refl _) (Nat.le_refl _)
theorem ex_ge (x : Nat) : ∀ n k t s, s ≤ 18446744073709551615 → s ≤ ex x n k t s
  | 0, _, _, _, _ => Nat.le_refl _
  | n + 1, k, t, s, h => Nat.le_trans (le_add_left s (mul t x / k) h) (ex_ge x n (k + 1) _ _ (add_le _ _))
theorem exp_ge (x : Nat) : 4611686018427387904 ≤ exp x := ex_ge x _ _ _ _ (by omega)
theorem exp_ge_add (x : Nat) (h : x ≤ 18446744073709551615) : add 4611686018427387904 x ≤ exp x := by
  unfold exp
  rw [ex, one_mul x h, Nat.div_one]
  exact ex_ge x _ _ _ _ (add_le _ _)

theorem quo_anti (a : Nat) {b c : Nat} (ha : a ≤ 18446744073709551615) (h : b ≤ c) : quo a c ≤ quo a b := by
  by_cases hb : b ≤ a / 4
  · have : quo a b = 18446744073709551615 := by unfold quo; rw [if_pos hb]
    rw [this]
    exact quo_le a c ha
  · have e1 : quo a b = a * 4611686018427387904 / b := by unfold quo; rw [if_neg hb]
    have e2 : quo a c = a * 4611686018427387904 / c := by unfold quo; rw [if_neg (by omega)]
    rw [e1, e2]
    exact Nat.div_le_div_left h (by omega)
theorem quo_mono {a b : Nat} (c : Nat) (hb : b ≤ 18446744073709551615) (h : a ≤ b) : quo a c ≤ quo b c := by
  by_cases hc : c ≤ b / 4
  · have : quo b c = 18446744073709551615 := by unfold quo; rw [if_pos hc]
    rw [this]
    exact quo_le a c (by omega)
  · have e1 : quo b c = b * 4611686018427387904 / c := by unfold quo; rw [if_neg hc]
    have e2 : quo a c = a * 4611686018427387904 / c := by unfold quo; rw [if_neg (by omega)]
    rw [e1, e2]
    exact div_mono _ (Nat.mul_le_mul_right _ h)
theorem quo_mul (a b : Nat) (h : quo a b ≠ 18446744073709551615) : mul (quo a b) b ≤ a := by
  by_cases hb : b ≤ a / 4
  · exfalso
    apply h
    unfold quo
    rw [if_pos hb]
  · have e1 : quo a b = a * 4611686018427387904 / b := by unfold quo; rw [if_neg hb]
    rw [e1]
    refine Nat.le_trans (mul_le_raw _ _) ?_
    have h1 := div_mono 4611686018427387904 (Nat.div_mul_le_self (a * 4611686018427387904) b)
    rw [Nat.mul_div_cancel _ (by omega)] at h1
    exact h1
theorem fall_le (x : Nat) : fall x ≤ 4611686018427387904 := by
  have h := exp_ge x
  have e1 : fall x = 4611686018427387904 * 4611686018427387904 / exp x := by unfold fall quo; rw [if_neg (by omega)]
  rw [e1]
  have := Nat.div_le_div_left (a := 4611686018427387904 * 4611686018427387904) h (by omega)
  rw [Nat.mul_div_cancel _ (by omega)] at this
  exact this
theorem fall_anti {x y : Nat} (h : x ≤ y) : fall y ≤ fall x := quo_anti _ (by omega) (exp_mono h)
theorem fall_pos (x : Nat) : 0 < fall x := by
  have h := exp_ge x
  have h2 := exp_le x
  have e1 : fall x = 4611686018427387904 * 4611686018427387904 / exp x := by unfold fall quo; rw [if_neg (by omega)]
  rw [e1]
  exact Nat.div_pos (by omega) (by omega)
theorem fall_mul (x : Nat) : mul (exp x) (fall x) ≤ 4611686018427387904 := by
  have h := fall_le x
  rw [mul_comm (fall x) (exp x)]
  exact quo_mul 4611686018427387904 (exp x) (by show fall x ≠ _; omega)
end Go.Proofs.YtkcecmofbppodaaDoor.Fx
