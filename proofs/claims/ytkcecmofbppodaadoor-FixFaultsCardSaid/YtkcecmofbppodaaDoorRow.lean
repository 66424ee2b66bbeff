/- Plain arithmetic of rows of bits, the lowest first: what a row stands for, sums, cuts, long division. No program is spoken of. -/
namespace Go.Proofs.YtkcecmofbppodaaDoor.Rw

def val : List Nat → Nat
  | [] => 0
  | b :: l => b + 2 * val l
def Bits (l : List Nat) : Prop := ∀ b ∈ l, b ≤ 1

theorem Bits.cons {b : Nat} {l : List Nat} (h : Bits (b :: l)) : b ≤ 1 ∧ Bits l := ⟨h b (by simp), fun x hx => h x (by simp [hx])⟩
theorem bits_snoc {l : List Nat} {b : Nat} (h : Bits l) (hb : b ≤ 1) : Bits (l ++ [b]) := by
  intro x hx
  rcases List.mem_append.1 hx with h1 | h1
  · exact h x h1
  · rw [List.mem_singleton.1 h1]; exact hb
theorem bits_append {l m : List Nat} (h : Bits l) (k : Bits m) : Bits (l ++ m) := by
  intro x hx
  rcases List.mem_append.1 hx with h1 | h1
  · exact h x h1
  · exact k x h1
theorem val_lt : ∀ {l : List Nat}, Bits l → val l < 2 ^ l.length
  | [], _ => by simp [val]
  | b :: l, h => by
    have h1 := h.cons
    have := val_lt h1.2
    simp only [val, List.length_cons, Nat.pow_succ]
    omega
theorem val_append : ∀ (l m : List Nat), val (l ++ m) = val l + 2 ^ l.length * val m
  | [], m => by simp [val]
  | b :: l, m => by
    simp only [List.cons_append, val, val_append l m, List.length_cons, Nat.pow_succ]
    rw [Nat.mul_right_comm, Nat.mul_comm (2 ^ l.length * val m) 2]
    omega
theorem val_snoc (l : List Nat) (b : Nat) : val (l ++ [b]) = val l + 2 ^ l.length * b := by rw [val_append]; simp [val]
theorem val_zeros : ∀ n, val (List.replicate n 0) = 0
  | 0 => rfl
  | n + 1 => by rw [List.replicate_succ, val, val_zeros n]
theorem bits_zeros (n : Nat) : Bits (List.replicate n 0) := by
  intro b hb
  rw [(List.mem_replicate.1 hb).2]
  omega
theorem bits_drop {l : List Nat} (h : Bits l) (k : Nat) : Bits (l.drop k) := fun b hb => h b (List.mem_of_mem_drop hb)
theorem bits_get {l : List Nat} (h : Bits l) (k : Nat) : l.getD k 0 ≤ 1 := by
  rw [List.getD_eq_getElem?_getD]
  rcases Nat.lt_or_ge k l.length with hk | hk
  · rw [List.getElem?_eq_getElem hk]; exact h _ (List.getElem_mem hk)
  · rw [List.getElem?_eq_none hk]; simp
theorem val_drop_succ (l : List Nat) (k : Nat) : val (l.drop k) = l.getD k 0 + 2 * val (l.drop (k + 1)) := by
  rcases Nat.lt_or_ge k l.length with hk | hk
  · rw [List.drop_eq_getElem_cons hk, val, List.getD_eq_getElem?_getD, List.getElem?_eq_getElem hk]; rfl
  · rw [List.drop_eq_nil_of_le hk, List.drop_eq_nil_of_le (by omega), List.getD_eq_getElem?_getD, List.getElem?_eq_none hk]; simp [val]
theorem val_drop_div : ∀ (k : Nat) {l : List Nat}, Bits l → val (l.drop k) = val l / 2 ^ k
  | 0, l, _ => by simp
  | k + 1, [], _ => by simp [val]
  | k + 1, b :: l, h => by
    have h1 := h.cons
    rw [List.drop_succ_cons, val_drop_div k h1.2, Nat.pow_succ, Nat.mul_comm (2 ^ k) 2, ← Nat.div_div_eq_div_mul, val]
    congr 1
    omega

/-- The row of a number. -/
theorem step_div (v n : Nat) (h : v < 2 ^ (n + 1)) : v / 2 < 2 ^ n := by rw [Nat.pow_succ] at h; omega
theorem pow_two_step (k v s : Nat) : s + 2 ^ k * v = (s + 2 ^ k * (v % 2)) + 2 ^ (k + 1) * (v / 2) := by
  have e : v = v % 2 + 2 * (v / 2) := by omega
  rw [Nat.pow_succ, Nat.mul_assoc, Nat.add_assoc, ← Nat.mul_add, ← e]

/-- The digit at a place of the sum of two rows, the second moved up. -/
def dig (xs ys : List Nat) (up j : Nat) : Nat := xs.getD j 0 + if up ≤ j then ys.getD (j - up) 0 else 0
def dsum (xs ys : List Nat) (up : Nat) : Nat → Nat
  | 0 => 0
  | k + 1 => dsum xs ys up k + dig xs ys up k * 2 ^ k
theorem dig_le {xs ys : List Nat} (hx : Bits xs) (hy : Bits ys) (up j : Nat) : dig xs ys up j ≤ 2 := by
  unfold dig
  have := bits_get hx j
  have := bits_get hy (j - up)
  split <;> omega
def tsum (xs : List Nat) : Nat → Nat
  | 0 => 0
  | k + 1 => tsum xs k + xs.getD k 0 * 2 ^ k
theorem tsum_val : ∀ (k : Nat) (xs : List Nat), xs.length ≤ k → tsum xs k = val xs := by
  have key : ∀ (k : Nat) (xs : List Nat), tsum xs k + 2 ^ k * val (xs.drop k) = val xs := by
    intro k xs
    induction k with
    | zero => simp [tsum]
    | succ k ih =>
      rw [← ih, val_drop_succ xs k, tsum, Nat.pow_succ, Nat.mul_add, Nat.mul_comm (xs.getD k 0), Nat.mul_assoc, Nat.add_assoc]
  intro k xs h
  have := key k xs
  rw [List.drop_eq_nil_of_le h] at this
  simpa [val] using this
theorem dsum_parts (xs ys : List Nat) (up : Nat) : ∀ k, dsum xs ys up k = tsum xs k + tsum ys (k - up) * 2 ^ up
  | 0 => by simp [dsum, tsum]
  | k + 1 => by
    rw [dsum, dsum_parts xs ys up k, tsum, dig]
    by_cases h : up ≤ k
    · rw [if_pos h, show k + 1 - up = (k - up) + 1 by omega, tsum, Nat.add_mul, Nat.add_mul, Nat.mul_assoc, ← Nat.pow_add, show k - up + up = k by omega]
      omega
    · rw [if_neg h, show k + 1 - up = 0 by omega, show k - up = 0 by omega]
      simp [tsum]
theorem dsum_all (xs ys : List Nat) (up : Nat) : dsum xs ys up (xs.length + ys.length + up + 1) = val xs + val ys * 2 ^ up := by
  rw [dsum_parts, tsum_val _ _ (by omega), tsum_val _ _ (by omega)]
/-- One place of the sum. -/
theorem sum_step {xs ys zs : List Nat} {up k c : Nat} (hz : zs.length = k) (h : val zs + c * 2 ^ k = dsum xs ys up k) :
    val (zs ++ [(dig xs ys up k + c) % 2]) + (dig xs ys up k + c) / 2 * 2 ^ (k + 1) = dsum xs ys up (k + 1) := by
  rw [val_snoc, hz, dsum, ← h, Nat.pow_succ]
  generalize dig xs ys up k = d
  have e : d + c = (d + c) % 2 + 2 * ((d + c) / 2) := by omega
  have e2 : d * 2 ^ k + c * 2 ^ k = ((d + c) % 2 + 2 * ((d + c) / 2)) * 2 ^ k := by rw [← e, Nat.add_mul]
  rw [Nat.add_mul] at e2
  have e3 : (d + c) / 2 * (2 ^ k * 2) = 2 * ((d + c) / 2) * 2 ^ k := by rw [Nat.mul_comm (2 ^ k) 2, ← Nat.mul_assoc, Nat.mul_comm ((d + c) / 2) 2]
  rw [e3, Nat.mul_comm (2 ^ k) ((d + c) % 2)]
  omega
theorem sum_end {xs ys zs : List Nat} {up c : Nat} (hx : Bits xs) (hy : Bits ys) (h : val zs + c * 2 ^ (xs.length + ys.length + up + 1) = dsum xs ys up (xs.length + ys.length + up + 1)) : val zs = val xs + val ys * 2 ^ up := by
  rw [dsum_all] at h
  rcases Nat.eq_zero_or_pos c with rfl | hc
  · simpa using h
  · exfalso
    have h1 := val_lt hx
    have h2 : val ys * 2 ^ up < 2 ^ (ys.length + up) := by
      rw [Nat.pow_add]; exact Nat.mul_lt_mul_of_pos_right (val_lt hy) (Nat.two_pow_pos up)
    have h3 : 2 ^ xs.length ≤ 2 ^ (xs.length + ys.length + up) := Nat.pow_le_pow_right (by omega) (by omega)
    have h4 : 2 ^ (ys.length + up) ≤ 2 ^ (xs.length + ys.length + up) := Nat.pow_le_pow_right (by omega) (by omega)
    have h5 : 2 ^ (xs.length + ys.length + up + 1) ≤ c * 2 ^ (xs.length + ys.length + up + 1) := Nat.le_mul_of_pos_left _ hc
    rw [Nat.pow_succ] at h5
    rw [Nat.pow_succ] at h
    omega

/-- What a row stands for, or the most. -/
def cap (l : List Nat) : Nat := if 18446744073709551615 < val l then 18446744073709551615 else val l
theorem cap_high {l : List Nat} {k : Nat} (hl : Bits l) (hk : 64 ≤ k) (h : l.getD k 0 = 1) : cap l = 18446744073709551615 := by
  have h1 := val_drop_succ l k
  have h2 := val_drop_div k hl
  have h3 : 1 ≤ val l / 2 ^ k := by omega
  have h4 : 2 ^ k ≤ val l := by
    rcases Nat.lt_or_ge (val l) (2 ^ k) with h | h
    · rw [Nat.div_eq_of_lt h] at h3; omega
    · exact h
  have h5 : 2 ^ 64 ≤ 2 ^ k := Nat.pow_le_pow_right (by omega) hk
  unfold cap
  rw [if_pos (by omega)]
theorem cap_low {l : List Nat} (hl : Bits l) (h : val (l.drop 64) = 0) : cap l = val l := by
  rw [val_drop_div 64 hl] at h
  have : val l < 2 ^ 64 := by
    rcases Nat.lt_or_ge (val l) (2 ^ 64) with h1 | h1
    · exact h1
    · have := Nat.div_pos h1 (Nat.two_pow_pos 64)
      omega
  unfold cap
  rw [if_neg (by omega)]
theorem low_lt {l : List Nat} {k : Nat} (hl : Bits l) (h : val (l.drop 64) = 0) : val (l.drop k) ≤ 18446744073709551615 := by
  rw [val_drop_div 64 hl] at h
  rw [val_drop_div k hl]
  have : val l < 2 ^ 64 := by
    rcases Nat.lt_or_ge (val l) (2 ^ 64) with h1 | h1
    · exact h1
    · have := Nat.div_pos h1 (Nat.two_pow_pos 64)
      omega
  have := Nat.div_le_self (val l) (2 ^ k)
  omega
end Go.Proofs.YtkcecmofbppodaaDoor.Rw
