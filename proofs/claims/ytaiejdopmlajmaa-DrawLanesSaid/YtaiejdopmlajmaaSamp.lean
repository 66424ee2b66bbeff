/- The contracts of draw.Sampled and of the reference's Sampled at this program: the hash's Hs.samp at that shift. -/
import Derived.Test.YtaiejdopmlajmaaHash
namespace Go.Proofs.Ytaiejdopmlajmaa
open Go.RowKit

def SampPost (s : ByteArray) (t : Int) (w : World) (e : Ending) (w' : World) : Prop := e = .returned (.bool (Hs.samp (Hs.hash s.data.toList) t)) ∧ w = w'

namespace Hs
theorem samp_at {h n : Nat} {t : Int} {x : Int} (hn : (min (max t 0) 64).toNat = n) (hx : x = ((h / 2 ^ (64 - n) : Nat) : Int)) : (x == 0) = samp h t := by
  unfold samp
  rw [hn, hx, Bool.eq_iff_iff]
  simp only [beq_iff_eq, decide_eq_true_iff]
  omega
theorem samp_hi (h : Nat) (t : Int) (ht : 64 < t) : ((h : Int) == 0) = samp h t := samp_at (n := 64) (by omega) (by simp)
theorem samp_lo (h : Nat) (t : Int) (ht : t < 0) : ((h : Int) / 18446744073709551616 == 0) = samp h t := samp_at (n := 0) (by omega) (by omega)
theorem samp_mid (h : Nat) (t : Int) (h0 : 0 ≤ t) (ht : t ≤ 64) : ((h : Int) / 2 ^ (64 - t).toNat == 0) = samp h t :=
  samp_at (n := t.toNat) (by omega) (by rw [show (64 - t).toNat = 64 - t.toNat by omega, Int.natCast_ediv]; simp)
end Hs

set_option maxHeartbeats 1000000 in
theorem samp_any (s : ByteArray) (t : Int) (w : World) (hs : s.size ≤ 500) (h1 : -9223372036854775808 ≤ t) (h2 : t ≤ 9223372036854775807) :
    Calls Try.prog 20 #[.string s, .int .i64 t] w (SampPost s t w) := by
  have hl := Hs.hash_le s.data.toList
  go_enter Try.func20, Try.ntmps20
  go_wp2_with (go_at_call 18; refine (hash_any s _ hs).mono ?_; rintro e w' ⟨rfl, rfl⟩)
  all_goals
    go_ret
    refine ⟨ret_bool ?_, rfl⟩
  · exact Hs.samp_hi _ t (by split at * <;> omega)
  · exact Hs.samp_lo _ t (by omega)
  · exact Hs.samp_mid _ t (by omega) (by split at * <;> omega)

theorem pow_dbl (h k : Nat) : h * 2 ^ (k + 1) = h * 2 ^ k * 2 := by rw [Nat.pow_succ, Nat.mul_assoc]

set_option maxHeartbeats 1000000 in
theorem refSamp_any (s : ByteArray) (t : Int) (w : World) (hs : s.size ≤ 500) (h1 : -9223372036854775808 ≤ t) (h2 : t ≤ 9223372036854775807) :
    Calls Try.prog 21 #[.string s, .int .i64 t] w (SampPost s t w) := by
  have hl := Hs.hash_le s.data.toList
  by_cases ht : t < 1
  · have E := Lib.hid (Hs.samp_zero hl (s := t) (by omega))
    go_enter Try.func21, Try.ntmps21
    go_wp2_with fail
    go_ret
    exact ⟨ret_bool E.out.symm, rfl⟩
  · obtain ⟨n, rfl⟩ := Int.eq_ofNat_of_zero_le (show 0 ≤ t by omega)
    have hn : 1 ≤ n := by omega
    have e0 : decide ((n : Int) < 1) = false := by simp; omega
    obtain ⟨h, hh⟩ : ∃ h, h = Hs.hash s.data.toList := ⟨_, rfl⟩
    have HH := Lib.hid hh
    rw [← hh] at hl
    clear hh ht
    go_enter Try.func21, Try.ntmps21
    go_wp2_with fail
    refine (refHash_any s _ hs).mono ?_
    unfold HashPost
    rw [← HH.out]
    rintro e w' ⟨rfl, rfl⟩
    go_wp2_with fail
    go_loop [5, 6] (fun x i => ∃ k : Nat, k ≤ n ∧ k ≤ 64 ∧ i = .int .i64 k ∧ x = .int .u64 (h * 2 ^ k : Nat) ∧ h * 2 ^ k ≤ 18446744073709551615) (fun _ i => 64 - (intOf i).toNat)
    case atStart => exact ⟨0, by omega, by omega, rfl, by simp, by simpa using hl⟩
    case round =>
      obtain ⟨k, hk1, hk2, rfl, rfl, hx⟩ := hrel
      obtain ⟨x, hx0⟩ : ∃ x, x = h * 2 ^ k := ⟨_, rfl⟩
      have HX := Lib.hid hx0
      rw [← hx0] at hx ⊢
      clear hx0
      by_cases hk : k < min n 64
      · have e1 : decide (k < n) = true := by simp; omega
        have e2 : decide ((k : Int) < 64) = true := by simp; omega
        by_cases hb : 9223372036854775808 ≤ x
        · have e3 : decide (9223372036854775808 ≤ (x : Int)) = true := by simp; omega
          have E := Lib.hid (Hs.dbl_not hk (by rw [← HX.out]; exact hb))
          rw [HH.out] at E
          go_wp2_with fail
          go_ret
          exact ⟨ret_bool E.out.symm, rfl⟩
        · have e3 : decide (9223372036854775808 ≤ (x : Int)) = false := by simp; omega
          have e4 : (x : Int) * 2 ≤ 18446744073709551615 := by omega
          have E := Lib.hid (show h * 2 ^ (k + 1) = x * 2 by rw [pow_dbl, HX.out])
          go_wp2_with fail
          go_round
          case rel => exact ⟨k + 1, by omega, by omega, by go_num, by rw [E.out]; go_num, by rw [E.out]; omega⟩
          case measure => simp [intOf]; omega
      · have E := Lib.hid (Hs.dbl_samp (h := h) (k := k) (s := n) (by omega) (by rw [← HX.out]; exact hx))
        rw [HH.out] at E
        by_cases hkn : k < n
        · have e1 : decide (k < n) = true := by simp; omega
          have e2 : decide ((k : Int) < 64) = false := by simp; omega
          go_wp2_with fail
          go_ret
          exact ⟨ret_bool E.out.symm, rfl⟩
        · have e1 : decide (k < n) = false := by simp; omega
          go_wp2_with fail
          go_ret
          exact ⟨ret_bool E.out.symm, rfl⟩
end Go.Proofs.Ytaiejdopmlajmaa
