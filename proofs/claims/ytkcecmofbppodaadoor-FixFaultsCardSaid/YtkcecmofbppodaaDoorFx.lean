/- Plain arithmetic of the numbers of 64 bits in parts of 2^62: sums, products, quotients, powers, the exponential, shares, and what follows of them. No program is spoken of. -/
namespace Go.Proofs.YtkcecmofbppodaaDoor.Fx

def add (a b : Nat) : Nat := if 18446744073709551615 < a + b then 18446744073709551615 else a + b
def mul (a b : Nat) : Nat := if 18446744073709551615 < a * b / 4611686018427387904 then 18446744073709551615 else a * b / 4611686018427387904
def quo (a b : Nat) : Nat := if b ≤ a / 4 then 18446744073709551615 else a * 4611686018427387904 / b
def pw (x n p : Nat) : Nat := if h : n = 0 then p else pw (mul x x) (n / 2) (if n % 2 = 1 then mul p x else p)
termination_by n
decreasing_by omega
def ex (x : Nat) : Nat → Nat → Nat → Nat → Nat
  | 0, _, _, s => s
  | n + 1, k, t, s => ex x n (k + 1) (mul t x / k) (add s (mul t x / k))
def exp (x : Nat) : Nat := ex x 63 1 4611686018427387904 4611686018427387904
def fall (x : Nat) : Nat := quo 4611686018427387904 (exp x)
def part (a b : Nat) : Nat := if 18446744073709551615 < a + b then quo (a / 2) (a / 2 + b / 2) else quo a (a + b)
def share (a b l : Nat) : Nat := min (max (part a b) l) (4611686018427387904 - l)

theorem add_le (a b : Nat) : add a b ≤ 18446744073709551615 := by unfold add; split <;> omega
theorem mul_le (a b : Nat) : mul a b ≤ 18446744073709551615 := by unfold mul; split <;> omega
theorem quo_le (a b : Nat) (ha : a ≤ 18446744073709551615) : quo a b ≤ 18446744073709551615 := by
  unfold quo
  split
  · omega
  · rename_i h
    have hb : 0 < b := by omega
    have : a * 4611686018427387904 / b < 18446744073709551616 := by
      rw [Nat.div_lt_iff_lt_mul hb]
      omega
    omega
theorem pw_zero (x p : Nat) : pw x 0 p = p := by unfold pw; simp
theorem pw_step (x n p : Nat) (h : n ≠ 0) : pw x n p = pw (mul x x) (n / 2) (if n % 2 = 1 then mul p x else p) := by rw [pw]; simp [h]
theorem mul_zero (a : Nat) : mul a 0 = 0 := by simp [mul]
theorem zero_mul (a : Nat) : mul 0 a = 0 := by simp [mul]
theorem add_zero (a : Nat) (h : a ≤ 18446744073709551615) : add a 0 = a := by unfold add; split <;> omega
theorem ex_zero (x : Nat) : ∀ n k s, s ≤ 18446744073709551615 → ex x n k 0 s = s
  | 0, _, _, _ => rfl
  | n + 1, k, s, h => by rw [ex, zero_mul, Nat.zero_div, add_zero s h, ex_zero x n (k + 1) s h]
theorem ex_le (x : Nat) : ∀ n k t s, s ≤ 18446744073709551615 → ex x n k t s ≤ 18446744073709551615
  | 0, _, _, _, h => h
  | n + 1, k, _, _, _ => ex_le x n (k + 1) _ _ (add_le _ _)
theorem exp_le (x : Nat) : exp x ≤ 18446744073709551615 := ex_le x _ _ _ _ (by omega)
theorem part_le (a b : Nat) (ha : a ≤ 18446744073709551615) : part a b ≤ 18446744073709551615 := by
  unfold part; split <;> exact quo_le _ _ (by omega)
end Go.Proofs.YtkcecmofbppodaaDoor.Fx
