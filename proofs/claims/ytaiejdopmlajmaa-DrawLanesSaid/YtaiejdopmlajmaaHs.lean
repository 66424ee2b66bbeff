/- The document's hash over plain numbers, and its products by doubling. No program is spoken of. -/
import Derived.Laws.Bits64
namespace Go.Proofs.Ytaiejdopmlajmaa.Hs
open Go

def start : Nat := 14695981039346656037
def mulm (a b : Nat) : Nat := a * b % 18446744073709551616
def step (h c : Nat) : Nat := mulm (h ^^^ c) 1099511628211
def fold (h : Nat) : Nat := h ^^^ (h / 8589934592)
def body (l : List UInt8) : Nat := l.foldl (fun h c => step h c.toNat) start
def last (h : Nat) : Nat := mulm (fold h) 18397679294719823053
def hash (l : List UInt8) : Nat := fold (last (body l))

theorem xor_le {a b : Nat} (ha : a ≤ 18446744073709551615) (hb : b ≤ 18446744073709551615) : a ^^^ b ≤ 18446744073709551615 := by
  have : a ^^^ b < 2 ^ 64 := Nat.xor_lt_two_pow (by omega) (by omega)
  omega
theorem mulm_le (a b : Nat) : mulm a b ≤ 18446744073709551615 := by unfold mulm; omega
theorem step_le (h c : Nat) : step h c ≤ 18446744073709551615 := mulm_le _ _
theorem fold_le {h : Nat} (hh : h ≤ 18446744073709551615) : fold h ≤ 18446744073709551615 := xor_le hh (by omega)
theorem last_le (h : Nat) : last h ≤ 18446744073709551615 := mulm_le _ _
theorem body_snoc (l : List UInt8) (c : UInt8) : body (l ++ [c]) = step (body l) c.toNat := by
  unfold body
  rw [List.foldl_append, List.foldl_cons, List.foldl_nil]
theorem body_le (l : List UInt8) : body l ≤ 18446744073709551615 := by
  rcases List.eq_nil_or_concat l with rfl | ⟨l', c, rfl⟩
  · simp [body, start]
  · rw [List.concat_eq_append, body_snoc]; exact step_le _ _
theorem hash_le (l : List UInt8) : hash l ≤ 18446744073709551615 := fold_le (last_le _)

theorem xorC {a b : Nat} (ha : a ≤ 18446744073709551615) (hb : b ≤ 18446744073709551615) : bits .xor .u64 (a : Int) (b : Int) = ((a ^^^ b : Nat) : Int) := bits_xor_u64_nat a b (by omega) (by omega)
theorem foldC {h : Nat} (hh : h ≤ 18446744073709551615) : bits .xor .u64 (h : Int) ((h : Int) / 8589934592) = ((fold h : Nat) : Int) := xorShift_u64 h 8589934592 (by omega)
theorem mulC (a b : Nat) : IntKind.u64.wrap ((a : Int) * (b : Int)) = ((mulm a b : Nat) : Int) := by rw [IntKind.wrap_u64, mulm]; simp

theorem dbl_odd (z x y m : Nat) (h : y = 2 * m + 1) : ((z + x) % 18446744073709551616 + ((x + x) % 18446744073709551616) * m) % 18446744073709551616 = (z + x * y) % 18446744073709551616 := by
  have e : z + x * y = (z + x) + (x + x) * m := by
    subst h; rw [Nat.mul_add, Nat.add_mul, Nat.mul_one, ← Nat.mul_assoc, Nat.mul_comm x 2, Nat.two_mul, Nat.add_mul]; omega
  rw [e, Nat.add_mod, Nat.mul_mod, Nat.mod_mod, Nat.mod_mod, ← Nat.mul_mod, ← Nat.add_mod]
theorem dbl_even (z x y m : Nat) (h : y = 2 * m) : (z + ((x + x) % 18446744073709551616) * m) % 18446744073709551616 = (z + x * y) % 18446744073709551616 := by
  have e : z + x * y = z + (x + x) * m := by
    subst h; rw [← Nat.mul_assoc, Nat.mul_comm x 2, Nat.two_mul]
  rw [e, Nat.add_mod, Nat.mul_mod, Nat.mod_mod, ← Nat.mul_mod, ← Nat.add_mod]

/-- What is sampled by a shift, of a hash. -/
def samp (h : Nat) (s : Int) : Bool := decide (h / 2 ^ (64 - (min (max s 0) 64).toNat) = 0)
theorem samp_zero {h : Nat} (hh : h ≤ 18446744073709551615) {s : Int} (hs : s ≤ 0) : samp h s = true := by
  unfold samp
  have e : (min (max s 0) 64).toNat = 0 := by omega
  rw [e]
  exact decide_eq_true (Nat.div_eq_of_lt (by omega))
theorem samp_iff (h : Nat) (s : Int) : samp h s = true ↔ h < 2 ^ (64 - (min (max s 0) 64).toNat) := by
  unfold samp
  rw [decide_eq_true_iff, Nat.div_eq_zero_iff]
  constructor
  · rintro (h0 | h0)
    · have := Nat.two_pow_pos (64 - (min (max s 0) 64).toNat); omega
    · exact h0
  · exact Or.inr
theorem samp_less {h : Nat} {s t : Int} (ht : t ≤ s) (hs : samp h s = true) : samp h t = true := by
  rw [samp_iff] at *
  exact Nat.lt_of_lt_of_le hs (Nat.pow_le_pow_right (by omega) (by omega))

/-- The reference's doubling: behind k doublings without a high bit the hash times 2 ^ k is below 2 ^ 64. -/
theorem dbl_samp {h k s : Nat} (hk : k = min s 64) (hlt : h * 2 ^ k ≤ 18446744073709551615) : samp h (s : Int) = true := by
  rw [samp_iff]
  have e : (min (max (s : Int) 0) 64).toNat = k := by omega
  rw [e]
  have hp : 2 ^ (64 - k) * 2 ^ k = 2 ^ 64 := by rw [← Nat.pow_add]; congr 1; omega
  refine Nat.lt_of_mul_lt_mul_right (a := 2 ^ k) ?_
  rw [hp]; omega
theorem dbl_not {h k s : Nat} (hk : k < min s 64) (hge : 9223372036854775808 ≤ h * 2 ^ k) : samp h (s : Int) = false := by
  rw [← Bool.not_eq_true, samp_iff]
  intro hlt
  have e : h < 2 ^ (64 - (k + 1)) := Nat.lt_of_lt_of_le hlt (Nat.pow_le_pow_right (by omega) (by omega))
  have hp : 2 ^ (64 - (k + 1)) * 2 ^ k = 2 ^ 63 := by rw [← Nat.pow_add]; congr 1; omega
  have := Nat.mul_lt_mul_of_pos_right e (Nat.two_pow_pos k)
  rw [hp] at this; omega

theorem empty_ne : hash [97] ≠ hash [98] := by decide +kernel
end Go.Proofs.Ytaiejdopmlajmaa.Hs
