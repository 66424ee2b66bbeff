/- The contracts of package fix's plain functions at this program: Add, Sub, Mul, quotient, power, Exp, Fall, part. -/
import Derived.Test.YtkcecmofbppodaaDoorDiv
import Derived.Test.YtkcecmofbppodaaDoorFx
namespace Go.Proofs.YtkcecmofbppodaaDoor
open Go.RowKit

theorem ret_int {k : IntKind} {a b : Int} (h : a = b) : Ending.returned (.int k a) = .returned (.int k b) := by rw [h]

theorem add_any (a b : Nat) (w : World) (ha : a ≤ 18446744073709551615) (hb : b ≤ 18446744073709551615) :
    Calls Tryd.prog 17 #[.int .u64 a, .int .u64 b] w fun e w' => e = .returned (.int .u64 (Fx.add a b : Nat)) ∧ w = w' := by
  go_enter Tryd.func17, Tryd.ntmps17
  go_wp2
  all_goals
    go_ret
    refine ⟨ret_int ?_, rfl⟩
    unfold Fx.add
    split <;> omega

theorem sub_any (a b : Nat) (w : World) (ha : a ≤ 18446744073709551615) (hb : b ≤ 18446744073709551615) :
    Calls Tryd.prog 19 #[.int .u64 a, .int .u64 b] w fun e w' => e = .returned (.int .u64 (a - b : Nat)) ∧ w = w' := by
  go_enter Tryd.func19, Tryd.ntmps19
  go_wp2
  all_goals
    go_ret
    refine ⟨ret_int ?_, rfl⟩
    omega

def MulPost (a b : Nat) (w : World) (e : Ending) (w' : World) : Prop := ∃ h l : Nat, h ≤ 18446744073709551615 ∧ l ≤ 18446744073709551615 ∧ Hid (a * b = h * 18446744073709551616 + l) ∧ e = .returned (.tuple #[.int .u64 h, .int .u64 l]) ∧ w = w'
theorem mul64_hid (a b : Nat) (w : World) (ha : a ≤ 18446744073709551615) (hb : b ≤ 18446744073709551615) :
    Calls Tryd.prog 44 #[.int .u64 a, .int .u64 b] w (MulPost a b w) :=
  (mul64_any a b w (by omega) (by omega)).mono fun e w' h => by
    refine ⟨a * b / 18446744073709551616, a * b % 18446744073709551616, ?_, by omega, ?_, h.1, h.2⟩
    · have : a * b ≤ 18446744073709551615 * 18446744073709551615 := Nat.mul_le_mul ha hb
      omega
    · exact (Nat.div_add_mod' _ _).symm

theorem mul_high (a b h l : Nat) (hh : a * b = h * 18446744073709551616 + l) (hl : l ≤ 18446744073709551615) (hb : 4611686018427387904 ≤ h) : Fx.mul a b = 18446744073709551615 := by
  unfold Fx.mul
  rw [hh]
  split <;> omega
theorem mul_low (a b h l : Nat) (hh : a * b = h * 18446744073709551616 + l) (hl : l ≤ 18446744073709551615) (hb : h < 4611686018427387904) : bits .or .u64 ((h : Int) * 4) ((l : Int) / 4611686018427387904) = ((Fx.mul a b : Nat) : Int) := by
  have e : (h : Int) * 4 = ((h * 2 ^ 2 : Nat) : Int) := by omega
  have e2 : (l : Int) / 4611686018427387904 = ((l / 4611686018427387904 : Nat) : Int) := by omega
  rw [e, e2, bits_or_u64_nat _ _ (by omega) (by omega), Num.or_disj _ _ 2 (by omega)]
  unfold Fx.mul
  rw [hh]
  split <;> omega

set_option maxRecDepth 100000 in
theorem mul_any (a b : Nat) (w : World) (ha : a ≤ 18446744073709551615) (hb : b ≤ 18446744073709551615) :
    Calls Tryd.prog 21 #[.int .u64 a, .int .u64 b] w fun e w' => e = .returned (.int .u64 (Fx.mul a b : Nat)) ∧ w = w' := by
  go_enter Tryd.func21, Tryd.ntmps21
  go_wp2_with fail
  refine (mul64_hid a b _ (by omega) (by omega)).mono ?_
  rintro e w' ⟨h, l, hh, hl, HM, rfl, rfl⟩
  by_cases hb : h < 4611686018427387904
  · have e1 : ((h : Int) / 4611686018427387904 != 0) = false := by simp; omega
    have e2 := mul_low a b h l HM.out hl hb
    go_wp2_with fail
    go_ret
    exact ⟨rfl, rfl⟩
  · have e1 : ((h : Int) / 4611686018427387904 != 0) = true := by rw [bne_iff_ne]; omega
    have E2 := Lib.hid (mul_high a b h l HM.out hl (by omega))
    go_wp2_with fail
    go_ret
    exact ⟨ret_int (by rw [E2.out]; rfl), rfl⟩

def Ret (v : Nat) (w : World) (e : Ending) (w' : World) : Prop := e = .returned (.int .u64 v) ∧ ∃ n, w' = w.drewN n

theorem quo_low (a b h l : Nat) (hh : h = a / 4) (hl : l = a * 4611686018427387904 % 18446744073709551616) (hb : h < b) : (h * 18446744073709551616 + l) / b = Fx.quo a b := by
  unfold Fx.quo
  rw [if_neg (by omega), show h * 18446744073709551616 + l = a * 4611686018427387904 by omega]

set_option maxRecDepth 100000 in
theorem quo_any (a b : Nat) (w : World) (ha : a ≤ 18446744073709551615) (hb : b ≤ 18446744073709551615) :
    Calls Tryd.prog 37 #[.int .u64 a, .int .u64 b] w (Ret (Fx.quo a b) w) := by
  obtain ⟨h, hh⟩ : ∃ h, h = a / 4 := ⟨_, rfl⟩
  obtain ⟨l, hl⟩ : ∃ l, l = a * 4611686018427387904 % 18446744073709551616 := ⟨_, rfl⟩
  have e1 : (a : Int) / 4 = (h : Int) := by omega
  have e2 : IntKind.u64.wrap ((a : Int) * 4611686018427387904) = (l : Int) := by rw [IntKind.wrap_u64]; omega
  have hl2 : l ≤ 18446744073709551615 := by omega
  have hh2 : h ≤ 18446744073709551615 := by omega
  by_cases hb2 : b ≤ h
  · have e3 : decide (b ≤ h) = true := by simp; omega
    have E := Lib.hid (show Fx.quo a b = 18446744073709551615 by unfold Fx.quo; rw [if_pos (by omega)])
    clear hh hl
    go_enter Tryd.func37, Tryd.ntmps37
    go_wp2_with fail
    go_ret
    exact ⟨ret_int (by rw [E.out]; rfl), 0, rfl⟩
  · have e3 : decide (b ≤ h) = false := by simp; omega
    have E := Lib.hid (quo_low a b h l hh hl (by omega))
    clear hh hl
    go_enter Tryd.func37, Tryd.ntmps37
    go_wp2_with fail
    refine (div64_any h l b _ (by omega) (by omega) (by omega)).mono ?_
    rw [E.out]
    rintro e w' ⟨r, n, rfl, rfl⟩
    go_wp2_with fail
    go_ret
    exact ⟨rfl, n, rfl⟩

theorem pow_half (n : Nat) (hn : n ≤ 9223372036854775807) : bits .and .i64 (n : Int) 1 = ((n % 2 : Nat) : Int) := by
  have hx : n &&& 1 < 2 ^ 63 := Nat.and_lt_two_pow _ (by omega)
  show IntKind.i64.wrap ((BitVec.ofInt 64 (n : Int) &&& BitVec.ofInt 64 (1 : Int)).toNat : Int) = _
  have e1 : (BitVec.ofInt 64 (n : Int)).toNat = n := by rw [BitVec.ofInt_natCast, BitVec.toNat_ofNat]; exact Nat.mod_eq_of_lt (by omega)
  have e2 : (BitVec.ofInt 64 (1 : Int)).toNat = 1 := by decide
  rw [BitVec.toNat_and, e1, e2, IntKind.wrap_i64, Nat.and_one_is_mod]
  omega

def Pw (x n p : Nat) (a b c : Value) : Prop := ∃ x' n' p' : Nat, a = .int .u64 x' ∧ b = .int .i64 n' ∧ c = .int .u64 p' ∧ x' ≤ 18446744073709551615 ∧ n' ≤ 9223372036854775807 ∧ p' ≤ 18446744073709551615 ∧ Hid (Fx.pw x' n' p' = Fx.pw x n p)

set_option maxRecDepth 100000 in
theorem pow_any (x n : Nat) (w : World) (hx : x ≤ 18446744073709551615) (hn : n ≤ 9223372036854775807) :
    Calls Tryd.prog 49 #[.int .u64 x, .int .i64 n] w fun e w' => e = .returned (.int .u64 (Fx.pw x n 4611686018427387904 : Nat)) ∧ w = w' := by
  go_enter Tryd.func49, Tryd.ntmps49
  go_wp2_with fail
  go_loop [0, 1, 5] (fun a b c => Pw x n 4611686018427387904 a b c) (fun _ b _ => (intOf b).toNat)
  case atStart => exact ⟨x, n, 4611686018427387904, rfl, rfl, rfl, hx, hn, by omega, rfl⟩
  case round =>
    obtain ⟨x', n', p', rfl, rfl, rfl, hx', hn', hp', HP⟩ := hrel
    by_cases h0 : 0 < n'
    · have e0 : decide (0 < (n' : Int)) = true := by simp; omega
      have hm1 := Fx.mul_le x' x'
      have hm2 := Fx.mul_le p' x'
      have hs := Fx.pw_step x' n' p' (by omega)
      have e1 := pow_half n' hn'
      obtain ⟨m, hm⟩ : ∃ m, m = n' / 2 := ⟨_, rfl⟩
      rw [← hm] at hs
      have e2 : ((n' : Int) / 2) = (m : Int) := by omega
      have hmn : m < n' := by omega
      by_cases h1 : n' % 2 = 1
      · rw [if_pos h1] at hs
        have HS := Lib.hid hs; clear hs
        rw [h1] at e1
        have e1 : bits .and .i64 (n' : Int) 1 = 1 := e1
        clear h1 hm
        go_wp2_with (go_at_call 21; refine (mul_any _ _ _ (by omega) (by omega)).mono ?_; rintro e w' ⟨rfl, rfl⟩)
        go_round
        case rel => exact ⟨Fx.mul x' x', m, Fx.mul p' x', rfl, rfl, rfl, hm1, by omega, hm2, HS.out.symm.trans HP.out⟩
        case measure => simp [intOf]; omega
      · rw [if_neg h1] at hs
        have HS := Lib.hid hs; clear hs
        rw [show n' % 2 = 0 by omega] at e1
        have e1 : bits .and .i64 (n' : Int) 1 = 0 := e1
        clear h1 hm
        go_wp2_with (go_at_call 21; refine (mul_any _ _ _ (by omega) (by omega)).mono ?_; rintro e w' ⟨rfl, rfl⟩)
        go_round
        case rel => exact ⟨Fx.mul x' x', m, p', rfl, rfl, rfl, hm1, by omega, hp', HS.out.symm.trans HP.out⟩
        case measure => simp [intOf]; omega
    · obtain rfl : n' = 0 := by omega
      have HQ := Lib.hid ((Fx.pw_zero x' p').symm.trans HP.out)
      clear HP
      go_wp2_with fail
      go_ret
      exact ⟨ret_int (by rw [HQ.out]), rfl⟩

def Ex (x : Nat) (a b c : Value) : Prop := ∃ s t k n : Nat, a = .int .u64 s ∧ b = .int .u64 t ∧ c = .int .u64 k ∧ s ≤ 18446744073709551615 ∧ t ≤ 18446744073709551615 ∧ 1 ≤ k ∧ k + n ≤ 64 ∧ 64 ≤ k + n ∧ Hid (Fx.ex x n k t s = Fx.exp x)

set_option maxRecDepth 100000 in
theorem exp_any (x : Nat) (w : World) (hx : x ≤ 18446744073709551615) :
    Calls Tryd.prog 28 #[.int .u64 x] w fun e w' => e = .returned (.int .u64 (Fx.exp x : Nat)) ∧ w = w' := by
  go_enter Tryd.func28, Tryd.ntmps28
  go_wp2_with fail
  go_loop [3, 4, 5] (fun a b c => Ex x a b c) (fun _ _ c => 64 - (intOf c).toNat)
  case atStart => exact ⟨4611686018427387904, 4611686018427387904, 1, 63, rfl, rfl, rfl, by omega, by omega, by omega, by omega, by omega, rfl⟩
  case round =>
    obtain ⟨s, t, k, n, rfl, rfl, rfl, hs, ht, hk, hn, hn2, HE⟩ := hrel
    by_cases h0 : k < 64 ∧ t ≠ 0
    · have e0 : decide ((k : Int) < 64) = true := by simp; omega
      have e1 : ((t : Int) != 0) = true := by rw [bne_iff_ne]; omega
      have e2 : ¬ ((k : Int) = 0) := by omega
      obtain ⟨n', rfl⟩ : ∃ n', n = n' + 1 := ⟨n - 1, by omega⟩
      have hm := Fx.mul_le t x
      obtain ⟨u, hu⟩ : ∃ u, u = Fx.mul t x / k := ⟨_, rfl⟩
      have hu2 : u ≤ 18446744073709551615 := by
        have := Nat.div_le_self (Fx.mul t x) k
        omega
      have e3 : ((Fx.mul t x : Nat) : Int) / (k : Int) = (u : Int) := by rw [hu]; exact (Int.natCast_ediv _ _).symm
      have hadd := Fx.add_le s u
      have HS := Lib.hid (show Fx.ex x n' (k + 1) u (Fx.add s u) = Fx.ex x (n' + 1) k t s by rw [hu]; rfl)
      clear hu h0
      go_wp2_with (first
        | (go_at_call 21; refine (mul_any _ _ _ (by omega) (by omega)).mono ?_; rintro e w' ⟨rfl, rfl⟩)
        | (go_at_call 17; refine (add_any _ _ _ (by omega) (by omega)).mono ?_; rintro e w' ⟨rfl, rfl⟩))
      go_round
      case rel => exact ⟨Fx.add s u, u, k + 1, n', rfl, rfl, by go_num, by omega, by omega, by omega, by omega, by omega, HS.out.trans HE.out⟩
      case measure => simp [intOf]; omega
    · have HF : Hid (Fx.exp x = s) := by
        rcases Nat.lt_or_ge k 64 with h | h
        · have ht0 : t = 0 := by omega
          subst ht0
          exact HE.out.symm.trans (Fx.ex_zero x n k s hs)
        · obtain rfl : n = 0 := by omega
          exact HE.out.symm
      by_cases h1 : k < 64
      · have e0 : decide ((k : Int) < 64) = true := by simp; omega
        have e1 : ((t : Int) != 0) = false := by rw [bne_eq_false_iff_eq]; omega
        clear h0
        go_wp2_with fail
        go_ret
        exact ⟨ret_int (by rw [HF.out]), rfl⟩
      · have e0 : decide ((k : Int) < 64) = false := by simp; omega
        clear h0
        go_wp2_with fail
        go_ret
        exact ⟨ret_int (by rw [HF.out]), rfl⟩

theorem fall_any (x : Nat) (w : World) (hx : x ≤ 18446744073709551615) :
    Calls Tryd.prog 30 #[.int .u64 x] w (Ret (Fx.fall x) w) := by
  have he := Fx.exp_le x
  go_enter Tryd.func30, Tryd.ntmps30
  go_wp2_with fail
  refine (exp_any x _ hx).mono ?_
  rintro e w' ⟨rfl, rfl⟩
  go_wp2_with fail
  refine (quo_any 4611686018427387904 (Fx.exp x) _ (by omega) he).mono ?_
  rintro e w' ⟨rfl, n, rfl⟩
  go_wp2_with fail
  go_ret
  exact ⟨rfl, n, rfl⟩

set_option maxRecDepth 100000 in
theorem part_any (a b : Nat) (w : World) (ha : a ≤ 18446744073709551615) (hb : b ≤ 18446744073709551615) :
    Calls Tryd.prog 52 #[.int .u64 a, .int .u64 b] w (Ret (Fx.part a b) w) := by
  by_cases h : 18446744073709551615 < a + b
  · have e1 : decide (18446744073709551615 - (b : Int) < (a : Int)) = true := by simp; omega
    obtain ⟨c, hc⟩ : ∃ c, c = a / 2 := ⟨_, rfl⟩
    obtain ⟨d, hd⟩ : ∃ d, d = b / 2 := ⟨_, rfl⟩
    have e2 : (a : Int) / 2 = (c : Int) := by omega
    have e3 : (b : Int) / 2 = (d : Int) := by omega
    have hcd : c + d ≤ 18446744073709551615 := by omega
    have E := Lib.hid (show Fx.part a b = Fx.quo c (c + d) by unfold Fx.part; rw [if_pos h, hc, hd])
    clear hc hd h
    go_enter Tryd.func52, Tryd.ntmps52
    go_wp2_with fail
    refine (quo_any c (c + d) _ (by omega) (by omega)).mono ?_
    rintro e w' ⟨rfl, n, rfl⟩
    go_wp2_with fail
    go_ret
    exact ⟨ret_int (by rw [E.out]), n, rfl⟩
  · have e1 : decide (18446744073709551615 - (b : Int) < (a : Int)) = false := by simp; omega
    have E := Lib.hid (show Fx.part a b = Fx.quo a (a + b) by unfold Fx.part; rw [if_neg h])
    have hcd : a + b ≤ 18446744073709551615 := by omega
    clear h
    go_enter Tryd.func52, Tryd.ntmps52
    go_wp2_with fail
    refine (quo_any a (a + b) _ (by omega) (by omega)).mono ?_
    rintro e w' ⟨rfl, n, rfl⟩
    go_wp2_with fail
    go_ret
    exact ⟨ret_int (by rw [E.out]), n, rfl⟩
end Go.Proofs.YtkcecmofbppodaaDoor
