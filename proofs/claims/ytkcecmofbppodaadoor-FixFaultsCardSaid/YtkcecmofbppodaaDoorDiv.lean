/- math/bits.Div64 at this program: for hi < y it returns the quotient of the two words hi, lo by y (and some rest), and leaves the world but for what was drawn. -/
import Derived.Test.YtkcecmofbppodaaDoorBits
import Derived.Test.YtkcecmofbppodaaDoorNum
import Derived.LoopTactic
import Derived.BigQuiet
import Derived.Deep.QuietTactic
import Derived.Lib.Hide
import Derived.Deep.DeepCutAuto
import Derived.Deep.CutBlock
namespace Go.Proofs.YtkcecmofbppodaaDoor
open Go.RowKit
def lzPost (y : Nat) (w : World) (e : Ending) (w' : World) : Prop := ∃ s : Nat, s ≤ 63 ∧ 9223372036854775808 ≤ y * 2 ^ s ∧ y * 2 ^ s ≤ 18446744073709551615 ∧ e = .returned (.int .i64 s) ∧ w = w'
theorem lz_any (y : Nat) (w : World) (h : 1 ≤ y) (h1 : y ≤ 18446744073709551615) :
    Calls Tryd.prog 61 #[.int .u64 y] w (lzPost y w) := by
  obtain ⟨s, a, b, c, d⟩ := Num.lead y h h1
  refine (lz64_any _ _ (by omega) (by omega)).mono fun e w' hh => ⟨s, a, b, c, ?_, hh.2⟩
  rw [hh.1, Int.toNat_natCast, d]

def DivPost (q : Nat) (w : World) (e : Ending) (w' : World) : Prop := ∃ (r : Int) (n : Nat), e = .returned (.tuple #[.int .u64 q, .int .u64 r]) ∧ w' = w.drewN n

def Loop1 (u c f d : Nat) (a b : Value) : Prop := ∃ q r : Nat, a = .int .u64 q ∧ b = .int .u64 r ∧ r < 4294967296 ∧ Num.Digit u c f d q r

def Dig1 (u c f d : Nat) (w : World) (a _b : Value) (W : World) : Prop := ∃ q : Nat, a = .int .u64 q ∧ q ≤ 4294967297 ∧ Hid (q = (u * 4294967296 + d) / (c * 4294967296 + f)) ∧ w = W

set_option maxHeartbeats 1000000 in
set_option maxRecDepth 100000 in
theorem div64_two (hi lo y : Nat) (w : World) (hh : 1 ≤ hi) (hy : hi < y) (hl : lo ≤ 18446744073709551615) (hy2 : y ≤ 18446744073709551615) :
    Calls Tryd.prog 55 #[.int .u64 hi, .int .u64 lo, .int .u64 y] w (DivPost ((hi * 18446744073709551616 + lo) / y) w) := by
  have e0 : ((y : Int) == 0) = false := beq_eq_false_iff_ne.2 (by omega)
  have e2 : ((hi : Int) == 0) = false := beq_eq_false_iff_ne.2 (by omega)
  have e1 : decide (y ≤ hi) = false := by simp; omega
  go_enter Tryd.func55, Tryd.ntmps55
  go_wp2_with fail
  refine (lz_any _ _ (by omega) (by omega)).mono ?_
  rintro e w' ⟨s, hs, hz1, hz2, rfl, rfl⟩
  obtain ⟨u, v, eu, ev, hu, hv, huv⟩ := Num.prep hi lo y s hy hl hs hz2
  have HZ := Lib.hid (p := ∃ z, z = y * 2 ^ s) ⟨_, rfl⟩
  obtain ⟨z, hz⟩ := HZ.out
  clear HZ
  have ez : IntKind.u64.wrap ((y : Int) * 2 ^ s) = (z : Int) := by rw [Num.powC, Num.mulC, ← hz, Num.wrapN _ (by omega)]
  rw [← hz] at hz1 hz2 hu
  have HUV := Lib.hid huv; clear huv
  have HZ := Lib.hid hz; clear hz
  obtain ⟨c, hc⟩ : ∃ c, c = z / 4294967296 := ⟨_, rfl⟩
  obtain ⟨f, hf⟩ : ∃ f, f = z % 4294967296 := ⟨_, rfl⟩
  obtain ⟨d, hd⟩ : ∃ d, d = v / 4294967296 := ⟨_, rfl⟩
  obtain ⟨g, hg⟩ : ∃ g, g = v % 4294967296 := ⟨_, rfl⟩
  have e3 : (z : Int) / 4294967296 = (c : Int) := by omega
  have e4 : bits .and .u64 (z : Int) 4294967295 = (f : Int) := by rw [Num.maskN z (by omega), hf]
  have e5 : (v : Int) / 4294967296 = (d : Int) := by omega
  have e6 : bits .and .u64 (v : Int) 4294967295 = (g : Int) := by rw [Num.maskN v (by omega), hg]
  have hc1 : 2147483648 ≤ c := by omega
  have hc2 : c < 4294967296 := by omega
  have hf1 : f < 4294967296 := by omega
  have hd1 : d < 4294967296 := by omega
  have hg1 : g < 4294967296 := by omega
  have HZ2 := Lib.hid (show z = c * 4294967296 + f by omega)
  have HV := Lib.hid (show v = d * 4294967296 + g by omega)
  have hcn : ¬ ((c : Int) = 0) := by omega
  have hul : u ≤ 18446744073709551615 := by omega
  clear hc hf hd hg
  obtain ⟨q, r, e7, e8, hqr, hr⟩ := Num.guess u c hul (by omega)
  have D0 := Num.Digit.start u c f d q r (by rw [← HZ2.out]; exact hu) hf1 hc1 hd1 hqr hr
  have hqm := D0.most
  clear hqr
  go_upto_block 0 with fail
  go_cut [15, 16] from 67 to 85 (fun a b W => Dig1 u c f d w a b W)
  case first =>
    go_wp2_with fail
    go_loop [15, 16] (fun a b => Loop1 u c f d a b) (fun a _ => (intOf a).toNat)
    case atStart => exact ⟨q, r, rfl, rfl, by omega, D0⟩
    case round =>
      obtain ⟨q', r', rfl, rfl, hr', D⟩ := hrel
      clear e8 D0 hqm e7 hr e0 e1 e2 e3 e4 e5 e6 eu ev ez
      have hqm := D.most
      by_cases hA : 4294967296 ≤ q' ∨ 4294967296 * r' + d < q' * f
      · obtain ⟨hq1, D'⟩ := D.down (by rw [← HZ2.out]; exact hu) hd1 hA
        have HD := Lib.hid D'
        clear D D'
        have hsub : ((q' : Int) - 1) = ((q' - 1 : Nat) : Int) := by omega
        have HS := Lib.hid hsub; clear hsub
        by_cases hA1 : 4294967296 ≤ q'
        · have hA2 : decide (4294967296 ≤ (q' : Int)) = true := by simp; omega
          clear hA
          by_cases hB : 4294967296 ≤ r' + c
          · have hB2 : decide (4294967296 ≤ (r' : Int) + (c : Int)) = true := by simp; omega
            go_wp2_with fail
            go_meet
            exact ⟨q' - 1, by rw [HS.out], by omega, HD.out.broke (by omega) hf1 (by omega) hB, rfl⟩
          · have hB2 : decide (4294967296 ≤ (r' : Int) + (c : Int)) = false := by simp; omega
            go_wp2_with fail
            go_round
            case rel => exact ⟨q' - 1, r' + c, by rw [HS.out], by go_num, by omega, HD.out⟩
            case measure => simp [intOf]; omega
        · have hA2 : decide (4294967296 ≤ (q' : Int)) = false := by simp; omega
          have hp : 4294967296 * r' + d < q' * f := by omega
          have hpm : q' * f ≤ 18446744073709551615 := by
            have := Nat.mul_le_mul (show q' ≤ 4294967295 by omega) (show f ≤ 4294967295 by omega)
            omega
          obtain ⟨p, ep⟩ : ∃ p, p = q' * f := ⟨_, rfl⟩
          rw [← ep] at hp hpm
          have ep2 : IntKind.u64.wrap ((q' : Int) * (f : Int)) = (p : Int) := by rw [Num.mulC, ← ep, Num.wrapN _ (by omega)]
          clear hA ep
          have hp2 : decide (4294967296 * (r' : Int) + (d : Int) < (p : Int)) = true := by simp; omega
          by_cases hB : 4294967296 ≤ r' + c
          · have hB2 : decide (4294967296 ≤ (r' : Int) + (c : Int)) = true := by simp; omega
            go_wp2_with fail
            go_meet
            exact ⟨q' - 1, by rw [HS.out], by omega, HD.out.broke (by omega) hf1 (by omega) hB, rfl⟩
          · have hB2 : decide (4294967296 ≤ (r' : Int) + (c : Int)) = false := by simp; omega
            go_wp2_with fail
            go_round
            case rel => exact ⟨q' - 1, r' + c, by rw [HS.out], by go_num, by omega, HD.out⟩
            case measure => simp [intOf]; omega
      · have hA2 : decide (4294967296 ≤ (q' : Int)) = false := by simp; omega
        have hp : q' * f ≤ 4294967296 * r' + d := by omega
        have HD := Lib.hid (D.done (by omega) hp)
        have hpm : q' * f ≤ 18446744073709551615 := by
          have := Nat.mul_le_mul (show q' ≤ 4294967295 by omega) (show f ≤ 4294967295 by omega)
          omega
        obtain ⟨p, ep⟩ : ∃ p, p = q' * f := ⟨_, rfl⟩
        rw [← ep] at hp hpm
        have ep2 : IntKind.u64.wrap ((q' : Int) * (f : Int)) = (p : Int) := by rw [Num.mulC, ← ep, Num.wrapN _ (by omega)]
        clear hA ep D
        have hp2 : decide (4294967296 * (r' : Int) + (d : Int) < (p : Int)) = false := by simp; omega
        go_wp2_with fail
        go_meet
        exact ⟨q', rfl, by omega, HD.out, rfl⟩
  case rest =>
    obtain ⟨q1, rfl, hq1, HQ, rfl⟩ := hcut
    clear D0 hqm e7 e8 hr
    obtain ⟨t, et, ht, HT⟩ : ∃ t : Nat, IntKind.u64.wrap (IntKind.u64.wrap (IntKind.u64.wrap ((u : Int) * 4294967296) + (d : Int)) - IntKind.u64.wrap ((q1 : Int) * (z : Int))) = (t : Int) ∧ t < z ∧ Hid (u * 4294967296 + d = q1 * z + t) := by
      obtain ⟨t, a, b, c⟩ := Num.rest u d z q1 (by omega) hz2 (by rw [HQ.out, HZ2.out])
      exact ⟨t, a, b, c⟩
    have htl : t ≤ 18446744073709551615 := by omega
    obtain ⟨q, r, e7, e8, hqr, hr⟩ := Num.guess t c htl (by omega)
    have D0 := Num.Digit.start t c f g q r (by rw [← HZ2.out]; exact ht) hf1 hc1 hg1 hqr hr
    have hqm := D0.most
    clear hqr
    go_upto_block 2 with fail
    go_cut [18, 16] from 102 to 120 (fun a b W => Dig1 t c f g w a b W)
    case first =>
      go_wp2_with fail
      go_loop [18, 16] (fun a b => Loop1 t c f g a b) (fun a _ => (intOf a).toNat)
      case atStart => exact ⟨q, r, rfl, rfl, by omega, D0⟩
      case round =>
        obtain ⟨q', r', rfl, rfl, hr', D⟩ := hrel
        clear e8 D0 hqm e7 hr e0 e1 e2 e3 e4 e5 e6 eu ev ez
        have hqm := D.most
        by_cases hA : 4294967296 ≤ q' ∨ 4294967296 * r' + g < q' * f
        · obtain ⟨hq1, D'⟩ := D.down (by rw [← HZ2.out]; exact ht) hg1 hA
          have HD := Lib.hid D'
          clear D D'
          have hsub : ((q' : Int) - 1) = ((q' - 1 : Nat) : Int) := by omega
          have HS := Lib.hid hsub; clear hsub
          by_cases hA1 : 4294967296 ≤ q'
          · have hA2 : decide (4294967296 ≤ (q' : Int)) = true := by simp; omega
            clear hA
            by_cases hB : 4294967296 ≤ r' + c
            · have hB2 : decide (4294967296 ≤ (r' : Int) + (c : Int)) = true := by simp; omega
              go_wp2_with fail
              go_meet
              exact ⟨q' - 1, by rw [HS.out], by omega, HD.out.broke (by omega) hf1 (by omega) hB, rfl⟩
            · have hB2 : decide (4294967296 ≤ (r' : Int) + (c : Int)) = false := by simp; omega
              go_wp2_with fail
              go_round
              case rel => exact ⟨q' - 1, r' + c, by rw [HS.out], by go_num, by omega, HD.out⟩
              case measure => simp [intOf]; omega
          · have hA2 : decide (4294967296 ≤ (q' : Int)) = false := by simp; omega
            have hp : 4294967296 * r' + g < q' * f := by omega
            have hpm : q' * f ≤ 18446744073709551615 := by
              have := Nat.mul_le_mul (show q' ≤ 4294967295 by omega) (show f ≤ 4294967295 by omega)
              omega
            obtain ⟨p, ep⟩ : ∃ p, p = q' * f := ⟨_, rfl⟩
            rw [← ep] at hp hpm
            have ep2 : IntKind.u64.wrap ((q' : Int) * (f : Int)) = (p : Int) := by rw [Num.mulC, ← ep, Num.wrapN _ (by omega)]
            clear hA ep
            have hp2 : decide (4294967296 * (r' : Int) + (g : Int) < (p : Int)) = true := by simp; omega
            by_cases hB : 4294967296 ≤ r' + c
            · have hB2 : decide (4294967296 ≤ (r' : Int) + (c : Int)) = true := by simp; omega
              go_wp2_with fail
              go_meet
              exact ⟨q' - 1, by rw [HS.out], by omega, HD.out.broke (by omega) hf1 (by omega) hB, rfl⟩
            · have hB2 : decide (4294967296 ≤ (r' : Int) + (c : Int)) = false := by simp; omega
              go_wp2_with fail
              go_round
              case rel => exact ⟨q' - 1, r' + c, by rw [HS.out], by go_num, by omega, HD.out⟩
              case measure => simp [intOf]; omega
        · have hA2 : decide (4294967296 ≤ (q' : Int)) = false := by simp; omega
          have hp : q' * f ≤ 4294967296 * r' + g := by omega
          have HD := Lib.hid (D.done (by omega) hp)
          have hpm : q' * f ≤ 18446744073709551615 := by
            have := Nat.mul_le_mul (show q' ≤ 4294967295 by omega) (show f ≤ 4294967295 by omega)
            omega
          obtain ⟨p, ep⟩ : ∃ p, p = q' * f := ⟨_, rfl⟩
          rw [← ep] at hp hpm
          have ep2 : IntKind.u64.wrap ((q' : Int) * (f : Int)) = (p : Int) := by rw [Num.mulC, ← ep, Num.wrapN _ (by omega)]
          clear hA ep D
          have hp2 : decide (4294967296 * (r' : Int) + (g : Int) < (p : Int)) = false := by simp; omega
          go_wp2_with fail
          go_meet
          exact ⟨q', rfl, by omega, HD.out, rfl⟩
    case rest =>
      obtain ⟨q0, rfl, hq0, HQ0, rfl⟩ := hcut
      clear D0 hqm e7 e8 hr
      have HW := Lib.hid (Num.whole hi lo y s u v z d g t q1 q0 HZ.out.symm (by omega) HUV.out HV.out HT.out (by rw [HQ0.out, HZ2.out]))
      have ej := Num.join q1 q0 _ HW.out (Num.quo_lt hi lo y hy hl)
      go_wp2_with fail
      go_ret2
      exact ⟨_, 0, rfl, rfl⟩

set_option maxHeartbeats 1000000 in
theorem div64_one (lo y : Nat) (w : World) (hy : 0 < y) (hl : lo ≤ 18446744073709551615) (hy2 : y ≤ 18446744073709551615) :
    Calls Tryd.prog 55 #[.int .u64 0, .int .u64 lo, .int .u64 y] w (DivPost (lo / y) w) := by
  have e0 : ((y : Int) == 0) = false := beq_eq_false_iff_ne.2 (by omega)
  have e1 : decide ((y : Int) ≤ 0) = false := by simp; omega
  have e3 : ¬ ((y : Int) = 0) := by omega
  have e4 : IntKind.u64.wrap ((lo : Int) / (y : Int)) = ((lo / y : Nat) : Int) := by
    have := Nat.div_le_self lo y
    rw [← Int.natCast_ediv, Num.wrapN _ (by omega)]
  go_enter Tryd.func55, Tryd.ntmps55
  go_wp2_with fail
  go_quiet (fail)
  go_wp2_with fail
  go_ret2
  exact ⟨_, _, rfl, rfl⟩

theorem div64_any (hi lo y : Nat) (w : World) (hy : hi < y) (hl : lo ≤ 18446744073709551615) (hy2 : y ≤ 18446744073709551615) :
    Calls Tryd.prog 55 #[.int .u64 hi, .int .u64 lo, .int .u64 y] w (DivPost ((hi * 18446744073709551616 + lo) / y) w) := by
  rcases Nat.eq_zero_or_pos hi with rfl | h
  · have := div64_one lo y w (by omega) hl hy2
    simpa using this
  · exact div64_two hi lo y w h hy hl hy2
end Go.Proofs.YtkcecmofbppodaaDoor
