/- plain numbers: Fx Fxb Fxc. -/
set_option maxRecDepth 20000
namespace Go.Proofs.YtnlckkahkghneaaGreatDoor.Fx

def add (a b : Nat) : Nat := if 18446744073709551615 < a + b then 18446744073709551615 else a + b
def mul (a b : Nat) : Nat := if 18446744073709551615 < a * b / 4611686018427387904 then 18446744073709551615 else a * b / 4611686018427387904
def quo (a b : Nat) : Nat := if b ≤ a / 4 then 18446744073709551615 else a * 4611686018427387904 / b
def pw (x n p : Nat) : Nat := if h : n = 0 then p else pw (mul x x) (n / 2) (if n % 2 = 1 then mul p x else p)
termination_by n
decreasing_by omega
def ex (x : Nat) : Nat → Nat → Nat → Nat → Nat
  | 0, _, _, s => s
  | n + 1, k, t, s => ex x n (k + 1) (mul t x / k) (add s (mul t x / k))
def exp (x : Nat) : Nat := ex x 63 1 4611686018427387904 4611686018427387904
def fall (x : Nat) : Nat := quo 4611686018427387904 (exp x)
def part (a b : Nat) : Nat := if 18446744073709551615 < a + b then quo (a / 2) (a / 2 + b / 2) else quo a (a + b)
def share (a b l : Nat) : Nat := min (max (part a b) l) (4611686018427387904 - l)

theorem add_le (a b : Nat) : add a b ≤ 18446744073709551615 := by unfold add; split <;> omega
theorem mul_le (a b : Nat) : mul a b ≤ 18446744073709551615 := by unfold mul; split <;> omega
theorem quo_le (a b : Nat) (ha : a ≤ 18446744073709551615) : quo a b ≤ 18446744073709551615 := by
  unfold quo
  split
  · omega
  · rename_i h
    have hb : 0 < b := by omega
    have : a * 4611686018427387904 / b < 18446744073709551616 := by
      rw [Nat.div_lt_iff_lt_mul hb]
      omega
    omega
theorem pw_zero (x p : Nat) : pw x 0 p = p := by unfold pw; simp
theorem pw_step (x n p : Nat) (h : n ≠ 0) : pw x n p = pw (mul x x) (n / 2) (if n % 2 = 1 then mul p x else p) := by rw [pw]; simp [h]
theorem mul_zero (a : Nat) : mul a 0 = 0 := by simp [mul]
theorem zero_mul (a : Nat) : mul 0 a = 0 := by simp [mul]
theorem add_zero (a : Nat) (h : a ≤ 18446744073709551615) : add a 0 = a := by unfold add; split <;> omega
theorem ex_zero (x : Nat) : ∀ n k s, s ≤ 18446744073709551615 → ex x n k 0 s = s
  | 0, _, _, _ => rfl
  | n + 1, k, s, h => by rw [ex, zero_mul, Nat.zero_div, add_zero s h, ex_zero x n (k + 1) s h]
theorem ex_le (x : Nat) : ∀ n k t s, s ≤ 18446744073709551615 → ex x n k t s ≤ 18446744073709551615
  | 0, _, _, _, h => h
  | n + 1, k, _, _, _ => ex_le x n (k + 1) _ _ (add_le _ _)
theorem exp_le (x : Nat) : exp x ≤ 18446744073709551615 := ex_le x _ _ _ _ (by omega)
theorem part_le (a b : Nat) (ha : a ≤ 18446744073709551615) : part a b ≤ 18446744073709551615 := by
  unfold part; split <;> exact quo_le _ _ (by omega)
end Go.Proofs.YtnlckkahkghneaaGreatDoor.Fx
namespace Go.Proofs.YtnlckkahkghneaaGreatDoor.Fx

theorem div_mono {a b : Nat} (c : Nat) (h : a ≤ b) : a / c ≤ b / c := Nat.div_le_div_right h
theorem mul_comm (a b : Nat) : mul b a = mul a b := by unfold mul; rw [Nat.mul_comm]
theorem mul_one (a : Nat) (h : a ≤ 18446744073709551615) : mul a 4611686018427387904 = a := by
  unfold mul
  rw [Nat.mul_div_cancel _ (by omega), if_neg (by omega)]
theorem one_mul (a : Nat) (h : a ≤ 18446744073709551615) : mul 4611686018427387904 a = a := by rw [mul_comm a]; exact mul_one a h
theorem cap_mono {x y : Nat} (h : x ≤ y) : (if 18446744073709551615 < x then 18446744073709551615 else x) ≤ (if 18446744073709551615 < y then 18446744073709551615 else y) := by
  split <;> split <;> omega
theorem mul_mono {a b c d : Nat} (h : a ≤ c) (k : b ≤ d) : mul a b ≤ mul c d := cap_mono (div_mono _ (Nat.mul_le_mul h k))
theorem mul_le_raw (a b : Nat) : mul a b ≤ a * b / 4611686018427387904 := by unfold mul; split <;> omega
theorem mul_le_left (a b : Nat) (h : a ≤ 18446744073709551615) (hb : b ≤ 4611686018427387904) : mul a b ≤ a := by
  have := mul_mono (Nat.le_refl a) hb
  rwa [mul_one a h] at this
theorem add_mono {a b c d : Nat} (h : a ≤ c) (k : b ≤ d) : add a b ≤ add c d := by
  unfold add
  exact cap_mono (Nat.add_le_add h k)
theorem add_sub_le (a b : Nat) : add a b - b ≤ a := by unfold add; split <;> omega
theorem le_add_left (a b : Nat) (h : a ≤ 18446744073709551615) : a ≤ add a b := by unfold add; split <;> omega
theorem le_add_right (a b : Nat) (h : b ≤ 18446744073709551615) : b ≤ add a b := by unfold add; split <;> omega
theorem add_comm (a b : Nat) : add b a = add a b := by unfold add; rw [Nat.add_comm]
theorem add_assoc (a b c : Nat) : add (add a b) c = add a (add b c) := by
  unfold add
  split <;> split <;> split <;> (try split) <;> omega
theorem add_sub (a b : Nat) (h : add a b ≠ 18446744073709551615) : add a b - b = a := by
  unfold add at *
  split at h <;> first | (exfalso; exact h rfl) | (split <;> omega)

theorem ex_mono {x y : Nat} (hx : x ≤ y) : ∀ n k t u s r, t ≤ u → s ≤ r → ex x n k t s ≤ ex y n k u r
  | 0, _, _, _, _, _, _, h => h
  | n + 1, k, _, _, _, _, ht, hs => ex_mono hx n (k + 1) _ _ _ _ (div_mono _ (mul_mono ht hx)) (add_mono hs (div_mono _ (mul_mono ht hx)))
theorem exp_mono {x y : Nat} (h : x ≤ y) : exp x ≤ exp y := ex_mono h _ _ _ _ _ _ (Nat.le_refl _) (Nat.le_refl _)
theorem ex_ge (x : Nat) : ∀ n k t s, s ≤ 18446744073709551615 → s ≤ ex x n k t s
  | 0, _, _, _, _ => Nat.le_refl _
  | n + 1, k, t, s, h => Nat.le_trans (le_add_left s (mul t x / k) h) (ex_ge x n (k + 1) _ _ (add_le _ _))
theorem exp_ge (x : Nat) : 4611686018427387904 ≤ exp x := ex_ge x _ _ _ _ (by omega)
theorem exp_ge_add (x : Nat) (h : x ≤ 18446744073709551615) : add 4611686018427387904 x ≤ exp x := by
  unfold exp
  rw [ex, one_mul x h, Nat.div_one]
  exact ex_ge x _ _ _ _ (add_le _ _)

theorem quo_anti (a : Nat) {b c : Nat} (ha : a ≤ 18446744073709551615) (h : b ≤ c) : quo a c ≤ quo a b := by
  by_cases hb : b ≤ a / 4
  · have : quo a b = 18446744073709551615 := by unfold quo; rw [if_pos hb]
    rw [this]
    exact quo_le a c ha
  · have e1 : quo a b = a * 4611686018427387904 / b := by unfold quo; rw [if_neg hb]
    have e2 : quo a c = a * 4611686018427387904 / c := by unfold quo; rw [if_neg (by omega)]
    rw [e1, e2]
    exact Nat.div_le_div_left h (by omega)
theorem quo_mono {a b : Nat} (c : Nat) (hb : b ≤ 18446744073709551615) (h : a ≤ b) : quo a c ≤ quo b c := by
  by_cases hc : c ≤ b / 4
  · have : quo b c = 18446744073709551615 := by unfold quo; rw [if_pos hc]
    rw [this]
    exact quo_le a c (by omega)
  · have e1 : quo b c = b * 4611686018427387904 / c := by unfold quo; rw [if_neg hc]
    have e2 : quo a c = a * 4611686018427387904 / c := by unfold quo; rw [if_neg (by omega)]
    rw [e1, e2]
    exact div_mono _ (Nat.mul_le_mul_right _ h)
theorem quo_mul (a b : Nat) (h : quo a b ≠ 18446744073709551615) : mul (quo a b) b ≤ a := by
  by_cases hb : b ≤ a / 4
  · exfalso
    apply h
    unfold quo
    rw [if_pos hb]
  · have e1 : quo a b = a * 4611686018427387904 / b := by unfold quo; rw [if_neg hb]
    rw [e1]
    refine Nat.le_trans (mul_le_raw _ _) ?_
    have h1 := div_mono 4611686018427387904 (Nat.div_mul_le_self (a * 4611686018427387904) b)
    rw [Nat.mul_div_cancel _ (by omega)] at h1
    exact h1
theorem fall_le (x : Nat) : fall x ≤ 4611686018427387904 := by
  have h := exp_ge x
  have e1 : fall x = 4611686018427387904 * 4611686018427387904 / exp x := by unfold fall quo; rw [if_neg (by omega)]
  rw [e1]
  have := Nat.div_le_div_left (a := 4611686018427387904 * 4611686018427387904) h (by omega)
  rw [Nat.mul_div_cancel _ (by omega)] at this
  exact this
theorem fall_anti {x y : Nat} (h : x ≤ y) : fall y ≤ fall x := quo_anti _ (by omega) (exp_mono h)
theorem fall_pos (x : Nat) : 0 < fall x := by
  have h := exp_ge x
  have h2 := exp_le x
  have e1 : fall x = 4611686018427387904 * 4611686018427387904 / exp x := by unfold fall quo; rw [if_neg (by omega)]
  rw [e1]
  exact Nat.div_pos (by omega) (by omega)
theorem fall_mul (x : Nat) : mul (exp x) (fall x) ≤ 4611686018427387904 := by
  have h := fall_le x
  rw [mul_comm (fall x) (exp x)]
  exact quo_mul 4611686018427387904 (exp x) (by show fall x ≠ _; omega)
end Go.Proofs.YtnlckkahkghneaaGreatDoor.Fx
namespace Go.Proofs.YtnlckkahkghneaaGreatDoor.Fx

theorem pw_le (n : Nat) : ∀ x p, p ≤ 18446744073709551615 → pw x n p ≤ 18446744073709551615 := by
  induction n using Nat.strongRecOn with
  | ind n ih =>
    intro x p hp
    rcases Nat.eq_zero_or_pos n with rfl | hn
    · rw [pw_zero]; exact hp
    · rw [pw_step x n p (by omega)]
      refine ih (n / 2) (by omega) _ _ ?_
      split
      · exact mul_le _ _
      · exact hp
theorem pw_mono (n : Nat) : ∀ x y p q, x ≤ y → p ≤ q → pw x n p ≤ pw y n q := by
  induction n using Nat.strongRecOn with
  | ind n ih =>
    intro x y p q hx hp
    rcases Nat.eq_zero_or_pos n with rfl | hn
    · rw [pw_zero, pw_zero]; exact hp
    · rw [pw_step x n p (by omega), pw_step y n q (by omega)]
      refine ih (n / 2) (by omega) _ _ _ _ (mul_mono hx hx) ?_
      split
      · exact mul_mono hp hx
      · exact hp
theorem pw_one (n : Nat) : pw 4611686018427387904 n 4611686018427387904 = 4611686018427387904 := by
  induction n using Nat.strongRecOn with
  | ind n ih =>
    rcases Nat.eq_zero_or_pos n with rfl | hn
    · rw [pw_zero]
    · rw [pw_step _ n _ (by omega), mul_one _ (by omega), ite_self]
      exact ih (n / 2) (by omega)
theorem pw_le_one (x n : Nat) (h : x ≤ 4611686018427387904) : pw x n 4611686018427387904 ≤ 4611686018427387904 := by
  have := pw_mono n x 4611686018427387904 4611686018427387904 4611686018427387904 h (Nat.le_refl _)
  rwa [pw_one] at this
theorem pw_first (x : Nat) (h : x ≤ 18446744073709551615) : pw x 1 4611686018427387904 = x := by
  rw [pw_step x 1 _ (by omega), if_pos (by omega), show 1 / 2 = 0 by omega, pw_zero, one_mul x h]

theorem quo_double (a b : Nat) : quo (2 * a) (2 * b) = quo a b := by
  unfold quo
  by_cases h : b ≤ a / 4
  · rw [if_pos h, if_pos (by omega)]
  · rw [if_neg h, if_neg (by omega), Nat.mul_assoc, Nat.mul_div_mul_left _ _ (by omega)]
theorem quo_by_one (a : Nat) : quo a 1 = if a < 4 then a * 4611686018427387904 else 18446744073709551615 := by
  unfold quo
  by_cases h : a < 4
  · rw [if_neg (by omega), if_pos h, Nat.div_one]
  · rw [if_pos (by omega), if_neg h]
theorem quo_same (a : Nat) (h : 1 ≤ a) : quo a a = 4611686018427387904 := by
  unfold quo
  rw [if_neg (by omega), Nat.mul_div_cancel_left _ h]

theorem quo_frac (a s : Nat) (h : a ≤ s) (hs : 0 < s) : quo a s = a * 4611686018427387904 / s := by unfold quo; rw [if_neg (by omega)]
theorem frac_sum (a b s : Nat) (hs : 0 < s) (h : a + b = s) : a * 4611686018427387904 / s + b * 4611686018427387904 / s ≤ 4611686018427387904 ∧ 4611686018427387904 ≤ a * 4611686018427387904 / s + b * 4611686018427387904 / s + 2 := by
  have h1 := Nat.div_add_mod (a * 4611686018427387904) s
  have h2 := Nat.div_add_mod (b * 4611686018427387904) s
  have m1 := Nat.mod_lt (a * 4611686018427387904) hs
  have m2 := Nat.mod_lt (b * 4611686018427387904) hs
  have h3 : a * 4611686018427387904 + b * 4611686018427387904 = s * 4611686018427387904 := by rw [← Nat.add_mul, h]
  have h4 : s * (a * 4611686018427387904 / s + b * 4611686018427387904 / s) + (a * 4611686018427387904 % s + b * 4611686018427387904 % s) = s * 4611686018427387904 := by
    rw [Nat.mul_add]; omega
  constructor
  · refine Nat.le_of_mul_le_mul_left ?_ hs
    exact Nat.le.intro h4
  · refine Nat.le_of_mul_le_mul_left ?_ hs
    rw [← h4, Nat.mul_add s (a * 4611686018427387904 / s + b * 4611686018427387904 / s) 2]
    omega
theorem part_le_one (a b : Nat) (h : 0 < a ∨ 0 < b) : part a b ≤ 4611686018427387904 := by
  unfold part
  split
  · rw [quo_frac _ _ (by omega) (by omega)]
    have := (frac_sum (a / 2) (b / 2) _ (by omega) rfl).1
    exact Nat.le_trans (Nat.le_add_right _ _) this
  · rw [quo_frac _ _ (by omega) (by omega)]
    have := (frac_sum a b _ (by omega) rfl).1
    exact Nat.le_trans (Nat.le_add_right _ _) this
theorem part_sum (a b : Nat) (h : 0 < a ∨ 0 < b) : part a b + part b a ≤ 4611686018427387904 ∧ 4611686018427387904 ≤ part a b + part b a + 2 := by
  unfold part
  by_cases hs : 18446744073709551615 < a + b
  · rw [if_pos hs, if_pos (by omega), quo_frac _ _ (by omega) (by omega), quo_frac _ _ (by omega) (by omega), Nat.add_comm (b / 2) (a / 2)]
    exact frac_sum (a / 2) (b / 2) _ (by omega) rfl
  · rw [if_neg hs, if_neg (by omega), quo_frac _ _ (by omega) (by omega), quo_frac _ _ (by omega) (by omega), Nat.add_comm b a]
    exact frac_sum a b _ (by omega) rfl
theorem part_ge (a b : Nat) (h : 0 < a ∨ 0 < b) (hab : b ≤ a) : part b a ≤ part a b := by
  unfold part
  by_cases hs : 18446744073709551615 < a + b
  · rw [if_pos hs, if_pos (by omega), quo_frac _ _ (by omega) (by omega), quo_frac _ _ (by omega) (by omega), Nat.add_comm (b / 2) (a / 2)]
    exact div_mono _ (Nat.mul_le_mul_right _ (by omega))
  · rw [if_neg hs, if_neg (by omega), quo_frac _ _ (by omega) (by omega), quo_frac _ _ (by omega) (by omega), Nat.add_comm b a]
    exact div_mono _ (Nat.mul_le_mul_right _ hab)
theorem share_ge (a b l : Nat) (hl : l ≤ 2305843009213693952) : l ≤ share a b l := by unfold share; omega
theorem share_le (a b l : Nat) : share a b l ≤ 4611686018427387904 - l := by unfold share; omega
theorem share_none (a b : Nat) (h : 0 < a ∨ 0 < b) : share a b 0 = part a b := by
  have := part_le_one a b h
  unfold share
  omega
end Go.Proofs.YtnlckkahkghneaaGreatDoor.Fx
