/- Plain arithmetic of 64-bit words: the long division of two words by one (Knuth's algorithm D at two digits of 32 bits). No program is spoken of. -/
import Derived.Laws.Bits64b
import Derived.Lib.BitFns
import Derived.IntWalk
namespace Go.Proofs.YtkcecmofbppodaaDoor.Num
open Go

theorem or_disj (a b s : Nat) (h : b < 2 ^ s) : a * 2 ^ s ||| b = a * 2 ^ s + b := by
  rw [← Nat.shiftLeft_eq, Nat.shiftLeft_add_eq_or_of_lt h]

theorem maskN (a : Nat) (ha : a < 18446744073709551616) : bits .and .u64 (a : Int) 4294967295 = ((a % 4294967296 : Nat) : Int) := by
  have h := bits_and_u64_nat a 4294967295 ha (by omega)
  have e : a &&& 4294967295 = a % 4294967296 := Nat.and_two_pow_sub_one_eq_mod a 32
  rw [e] at h
  exact h

theorem wrapN (a : Nat) (ha : a < 18446744073709551616) : IntKind.u64.wrap (a : Int) = (a : Int) := by rw [IntKind.wrap_u64]; omega
theorem wrapM (a : Nat) : IntKind.u64.wrap (a : Int) = ((a % 18446744073709551616 : Nat) : Int) := by rw [IntKind.wrap_u64]; omega
theorem mulC (a b : Nat) : (a : Int) * (b : Int) = ((a * b : Nat) : Int) := (Int.natCast_mul a b).symm
theorem powC (s : Nat) : (2 : Int) ^ s = ((2 ^ s : Nat) : Int) := by simp

theorem pow_split (s : Nat) (h : s ≤ 64) : 2 ^ (64 - s) * 2 ^ s = 18446744073709551616 := by
  rw [← Nat.pow_add, Nat.sub_add_cancel h]

/-- The words shifted up. -/
theorem prep (hi lo y s : Nat) (hy : hi < y) (hl : lo ≤ 18446744073709551615) (hs : s ≤ 63) (hz : y * 2 ^ s ≤ 18446744073709551615) :
    ∃ u v : Nat, bits .or .u64 (IntKind.u64.wrap ((hi : Int) * 2 ^ s)) ((lo : Int) / 2 ^ (64 - s)) = (u : Int) ∧ IntKind.u64.wrap ((lo : Int) * 2 ^ s) = (v : Int) ∧
      u < y * 2 ^ s ∧ v ≤ 18446744073709551615 ∧ u * 18446744073709551616 + v = (hi * 18446744073709551616 + lo) * 2 ^ s := by
  have hp := pow_split s (by omega)
  have hpos : 0 < 2 ^ s := Nat.two_pow_pos s
  have hpos' : 0 < 2 ^ (64 - s) := Nat.two_pow_pos (64 - s)
  have h1 : (hi + 1) * 2 ^ s ≤ y * 2 ^ s := Nat.mul_le_mul_right _ hy
  rw [Nat.add_mul, Nat.one_mul] at h1
  have h2 : lo / 2 ^ (64 - s) < 2 ^ s := by
    rw [Nat.div_lt_iff_lt_mul hpos', Nat.mul_comm, hp]; omega
  have hd : lo = lo / 2 ^ (64 - s) * 2 ^ (64 - s) + lo % 2 ^ (64 - s) := by
    rw [Nat.mul_comm]; exact (Nat.div_add_mod _ _).symm
  have hm : lo % 2 ^ (64 - s) < 2 ^ (64 - s) := Nat.mod_lt _ hpos'
  have hv : lo * 2 ^ s = lo / 2 ^ (64 - s) * 18446744073709551616 + lo % 2 ^ (64 - s) * 2 ^ s := by
    have := congrArg (· * 2 ^ s) hd
    simp only [Nat.add_mul, Nat.mul_assoc, hp] at this
    exact this
  have hm2 : lo % 2 ^ (64 - s) * 2 ^ s < 18446744073709551616 := by
    rw [← hp]; exact Nat.mul_lt_mul_of_pos_right hm hpos
  refine ⟨hi * 2 ^ s + lo / 2 ^ (64 - s), lo * 2 ^ s % 18446744073709551616, ?_, ?_, by omega, by omega, ?_⟩
  · rw [powC, powC, mulC, wrapN _ (by omega), ← Int.natCast_ediv, bits_or_u64_nat _ _ (by omega) (by omega), or_disj _ _ _ h2]
  · rw [powC, mulC, wrapM]
  · rw [Nat.add_mul, Nat.add_mul, Nat.mul_right_comm]
    omega

/-- The first guess of a digit. -/
theorem guess (u c : Nat) (hu : u ≤ 18446744073709551615) (hc : 1 ≤ c) : ∃ q r : Nat, (u : Int) / (c : Int) = (q : Int) ∧ IntKind.u64.wrap ((u : Int) - IntKind.u64.wrap ((q : Int) * (c : Int))) = (r : Int) ∧ u = q * c + r ∧ r < c := by
  have hd : u = u / c * c + u % c := by rw [Nat.mul_comm]; exact (Nat.div_add_mod _ _).symm
  have hm := Nat.mod_lt u hc
  have hle : u / c * c ≤ u := by omega
  refine ⟨u / c, u % c, (Int.natCast_ediv _ _).symm, ?_, hd, hm⟩
  rw [mulC, wrapN _ (by omega), ← Int.ofNat_sub hle, wrapN _ (by omega)]
  omega

/-- A digit of the quotient: how it stands at a round's head. -/
structure Digit (u c f d q r : Nat) : Prop where
  parts : u = q * c + r
  above : (u * 4294967296 + d) / (c * 4294967296 + f) ≤ q
  most : q ≤ 4294967297

theorem Digit.start (u c f d q r : Nat) (hu : u < c * 4294967296 + f) (hf : f < 4294967296) (hc : 2147483648 ≤ c) (hd : d < 4294967296) (h : u = q * c + r) (hr : r < c) : Digit u c f d q r := by
  refine ⟨h, ?_, ?_⟩
  · rw [← Nat.lt_succ_iff, Nat.div_lt_iff_lt_mul (by omega)]
    have e : (q + 1) * (c * 4294967296 + f) = (q * c + c) * 4294967296 + (q + 1) * f := by
      rw [Nat.mul_add, ← Nat.mul_assoc, Nat.add_mul q 1 c, Nat.one_mul]
    show _ < (q + 1) * _
    rw [e, h]
    have := Nat.zero_le ((q + 1) * f)
    generalize (q + 1) * f = k at *
    generalize q * c = m at *
    omega
  · rcases Nat.lt_or_ge 4294967297 q with hq | hq
    · have := Nat.mul_le_mul_right c (show 4294967298 ≤ q from hq)
      generalize q * c = m at *
      omega
    · exact hq

theorem Digit.down {u c f d q r : Nat} (D : Digit u c f d q r) (hu : u < c * 4294967296 + f) (hd : d < 4294967296) (h : 4294967296 ≤ q ∨ 4294967296 * r + d < q * f) : 1 ≤ q ∧ Digit u c f d (q - 1) (r + c) := by
  obtain ⟨h1, h2, h3⟩ := D
  have hq : 1 ≤ q := by
    rcases h with h | h
    · omega
    · rcases Nat.eq_zero_or_pos q with rfl | hp
      · simp at h
      · exact hp
  refine ⟨hq, ⟨?_, ?_, by omega⟩⟩
  · have : q * c = (q - 1) * c + c := by
      rw [Nat.sub_mul, Nat.one_mul]
      have := Nat.mul_le_mul_right c hq
      omega
    omega
  · rcases h with h | h
    · have : (u * 4294967296 + d) / (c * 4294967296 + f) < 4294967296 := by
        rw [Nat.div_lt_iff_lt_mul (by omega)]
        have := Nat.mul_le_mul_left 4294967296 (show u + 1 ≤ c * 4294967296 + f from hu)
        omega
      omega
    · have : (u * 4294967296 + d) / (c * 4294967296 + f) < q := by
        rw [Nat.div_lt_iff_lt_mul (by omega), Nat.mul_add, ← Nat.mul_assoc, h1]
        generalize q * c = m at *
        generalize q * f = k at *
        omega
      omega

theorem Digit.done {u c f d q r : Nat} (D : Digit u c f d q r) (hc : 1 ≤ c) (h : q * f ≤ 4294967296 * r + d) : q = (u * 4294967296 + d) / (c * 4294967296 + f) := by
  obtain ⟨h1, h2, h3⟩ := D
  refine Nat.le_antisymm ?_ h2
  rw [Nat.le_div_iff_mul_le (by omega), Nat.mul_add, ← Nat.mul_assoc, h1]
  generalize q * c = m at *
  generalize q * f = k at *
  omega

theorem Digit.broke {u c f d q r : Nat} (D : Digit u c f d q r) (hc : 1 ≤ c) (hf : f < 4294967296) (hq : q ≤ 4294967296) (hr : 4294967296 ≤ r) : q = (u * 4294967296 + d) / (c * 4294967296 + f) := by
  refine D.done hc ?_
  have := Nat.mul_le_mul hq (Nat.le_of_lt hf)
  generalize q * f = k at *
  omega

/-- What is left behind a digit. -/
theorem rest (u d z q : Nat) (hz : 1 ≤ z) (hz2 : z ≤ 18446744073709551615) (hq : q = (u * 4294967296 + d) / z) :
    ∃ t : Nat, IntKind.u64.wrap (IntKind.u64.wrap (IntKind.u64.wrap ((u : Int) * 4294967296) + (d : Int)) - IntKind.u64.wrap ((q : Int) * (z : Int))) = (t : Int) ∧ t < z ∧ u * 4294967296 + d = q * z + t := by
  have hd : u * 4294967296 + d = q * z + (u * 4294967296 + d) % z := by rw [hq]; exact (Nat.div_add_mod' _ _).symm
  have hm := Nat.mod_lt (u * 4294967296 + d) hz
  refine ⟨(u * 4294967296 + d) % z, ?_, hm, hd⟩
  rw [mulC]
  simp only [IntKind.wrap_u64]
  generalize (u * 4294967296 + d) % z = t at *
  generalize q * z = m at *
  omega

theorem five (a b c d e : Nat) (h : a + b = c + d) : a + (b + e) = d + e + c := by omega
theorem two_words (u un1 un0 t m : Nat) (ht : u * 4294967296 + un1 = m + t) : u * 18446744073709551616 + (un1 * 4294967296 + un0) = t * 4294967296 + un0 + m * 4294967296 := by
  have h := congrArg (· * 4294967296) ht
  simp only [Nat.add_mul, Nat.mul_assoc, Nat.reduceMul] at h
  exact five _ _ _ _ un0 h

/-- The two digits together. -/
theorem whole (hi lo y s u v z un1 un0 t q1 q0 : Nat) (hz : y * 2 ^ s = z) (hzp : 1 ≤ z) (hu : u * 18446744073709551616 + v = (hi * 18446744073709551616 + lo) * 2 ^ s) (hv : v = un1 * 4294967296 + un0) (ht : u * 4294967296 + un1 = q1 * z + t) (h0 : q0 = (t * 4294967296 + un0) / z) :
    q1 * 4294967296 + q0 = (hi * 18446744073709551616 + lo) / y := by
  have hpos : 0 < 2 ^ s := Nat.two_pow_pos s
  have e1 : (hi * 18446744073709551616 + lo) / y = (u * 18446744073709551616 + v) / z := by
    rw [hu, ← hz, Nat.mul_div_mul_right _ _ hpos]
  have e2 : u * 18446744073709551616 + v = (t * 4294967296 + un0) + q1 * 4294967296 * z := by
    rw [Nat.mul_right_comm q1 4294967296 z, hv]
    exact two_words u un1 un0 t _ ht
  rw [e1, h0, e2, Nat.add_mul_div_right _ _ hzp, Nat.add_comm]

theorem quo_lt (hi lo y : Nat) (hy : hi < y) (hl : lo ≤ 18446744073709551615) : (hi * 18446744073709551616 + lo) / y ≤ 18446744073709551615 := by
  have h : (hi * 18446744073709551616 + lo) / y < 18446744073709551616 := by
    rw [Nat.div_lt_iff_lt_mul (by omega)]
    have := Nat.mul_le_mul_left 18446744073709551616 (show hi + 1 ≤ y from hy)
    omega
  omega
theorem join (q1 q0 Q : Nat) (h : q1 * 4294967296 + q0 = Q) (hQ : Q ≤ 18446744073709551615) : IntKind.u64.wrap (IntKind.u64.wrap ((q1 : Int) * 4294967296) + (q0 : Int)) = (Q : Int) := by
  simp only [IntKind.wrap_u64]
  omega

theorem bitLen_bounds : ∀ (f x : Nat), 1 ≤ x → x < 2 ^ f → ∃ k, Lib.bitLenAux f x = k + 1 ∧ 2 ^ k ≤ x ∧ x < 2 ^ (k + 1) ∧ k + 1 ≤ f
  | 0, x, h, h' => by simp at h'; omega
  | f + 1, x, h, h' => by
    simp only [Lib.bitLenAux]
    rw [if_neg (by omega)]
    rcases Nat.lt_or_ge x 2 with h2 | h2
    · obtain rfl : x = 1 := by omega
      refine ⟨0, ?_, by simp, by simp, by omega⟩
      have : Lib.bitLenAux f (1 / 2) = 0 := by cases f <;> simp [Lib.bitLenAux]
      rw [this]
    · obtain ⟨k, e, a, b, c⟩ := bitLen_bounds f (x / 2) (by omega) (by rw [Nat.pow_succ] at h'; omega)
      refine ⟨k + 1, by rw [e]; omega, by rw [Nat.pow_succ]; omega, ?_, by omega⟩
      rw [Nat.pow_succ]; omega

theorem lead (y : Nat) (h : 1 ≤ y) (h1 : y ≤ 18446744073709551615) : ∃ s : Nat, s ≤ 63 ∧ 9223372036854775808 ≤ y * 2 ^ s ∧ y * 2 ^ s ≤ 18446744073709551615 ∧ 64 - (Lib.bitLen y : Int) = (s : Int) := by
  obtain ⟨k, e, a, b, c⟩ := bitLen_bounds 64 y h (by omega)
  have e' : Lib.bitLen y = k + 1 := e
  refine ⟨63 - k, by omega, ?_, ?_, by rw [e']; omega⟩
  · have := Nat.mul_le_mul_right (2 ^ (63 - k)) a
    rw [← Nat.pow_add, show k + (63 - k) = 63 by omega] at this
    omega
  · have := Nat.mul_le_mul_right (2 ^ (63 - k)) (show y + 1 ≤ 2 ^ (k + 1) from b)
    rw [← Nat.pow_add, show k + 1 + (63 - k) = 64 by omega, Nat.add_mul] at this
    have := Nat.two_pow_pos (63 - k)
    omega
end Go.Proofs.YtkcecmofbppodaaDoor.Num
