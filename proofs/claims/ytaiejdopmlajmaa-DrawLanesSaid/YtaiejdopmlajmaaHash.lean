/- The contracts of draw.Hash, draw.Sampled and of the reference's Hash, Sampled at this program: each is the plain function of Hs. -/
import Derived.Test.YtaiejdopmlajmaaChecked
import Derived.Test.YtaiejdopmlajmaaHs
import Derived.WalkKit
import Derived.IntWalk
import Derived.LoopTactic
import Derived.Lib.Hide
namespace Go.Proofs.Ytaiejdopmlajmaa
open Go.RowKit

theorem ret_int {k : IntKind} {a b : Int} (h : a = b) : Ending.returned (.int k a) = .returned (.int k b) := by rw [h]
theorem ret_bool {a b : Bool} (h : a = b) : Ending.returned (.bool a) = .returned (.bool b) := by rw [h]

theorem fold_any (h : Nat) (w : World) (hh : h ≤ 18446744073709551615) :
    Calls Try.prog 23 #[.int .u64 h] w fun e w' => e = .returned (.int .u64 (Hs.fold h : Nat)) ∧ w = w' := by
  have e1 := Hs.foldC hh
  go_enter Try.func23, Try.ntmps23
  go_wp2
  go_ret
  exact ⟨rfl, rfl⟩

def TmRel (x0 y0 : Nat) (a b p : Value) : Prop := ∃ x y z : Nat, a = .int .u64 x ∧ b = .int .u64 y ∧ p = .int .u64 z ∧ x ≤ 18446744073709551615 ∧ y ≤ 18446744073709551615 ∧ z ≤ 18446744073709551615 ∧ Hid ((z + x * y) % 18446744073709551616 = Hs.mulm x0 y0)

set_option maxHeartbeats 1000000 in
theorem times_any (x y : Nat) (w : World) (hx : x ≤ 18446744073709551615) (hy : y ≤ 18446744073709551615) :
    Calls Try.prog 24 #[.int .u64 x, .int .u64 y] w fun e w' => e = .returned (.int .u64 (Hs.mulm x y : Nat)) ∧ w = w' := by
  go_enter Try.func24, Try.ntmps24
  go_wp2_with fail
  go_loop [0, 1, 5] (fun a b p => TmRel x y a b p) (fun _ b _ => (intOf b).toNat)
  case atStart => exact ⟨x, y, 0, rfl, rfl, rfl, hx, hy, by omega, by show _ = _; rw [Nat.zero_add]; rfl⟩
  case round =>
    obtain ⟨x1, y1, z1, rfl, rfl, rfl, hx1, hy1, hz1, H⟩ := hrel
    by_cases h0 : 0 < y1
    · have e0 : decide (0 < y1) = true := by simpa using h0
      obtain ⟨m, hm⟩ : ∃ m, m = y1 / 2 := ⟨_, rfl⟩
      obtain ⟨d, hd⟩ : ∃ d, d = (x1 + x1) % 18446744073709551616 := ⟨_, rfl⟩
      have e1 : IntKind.u64.wrap ((x1 : Int) + (x1 : Int)) = (d : Int) := by rw [IntKind.wrap_u64]; omega
      have e2 : (y1 : Int) / 2 = (m : Int) := by omega
      have hm1 : m < y1 := by omega
      have hd1 : d ≤ 18446744073709551615 := by omega
      by_cases h1 : y1 % 2 = 1
      · have e3 : ((y1 : Int) % 2 == 1) = true := by simp; omega
        obtain ⟨s, hs⟩ : ∃ s, s = (z1 + x1) % 18446744073709551616 := ⟨_, rfl⟩
        have e4 : IntKind.u64.wrap ((z1 : Int) + (x1 : Int)) = (s : Int) := by rw [IntKind.wrap_u64]; omega
        have hs1 : s ≤ 18446744073709551615 := by omega
        have R := Lib.hid (show (s + d * m) % 18446744073709551616 = Hs.mulm x y by rw [hs, hd, Hs.dbl_odd z1 x1 y1 m (by omega)]; exact H.out)
        clear hs hd hm H
        go_wp2_with fail
        go_round
        case rel => exact ⟨d, m, s, rfl, rfl, rfl, hd1, by omega, hs1, R.out⟩
        case measure => simp [intOf]; omega
      · have e3 : ((y1 : Int) % 2 == 1) = false := by simp; omega
        have R := Lib.hid (show (z1 + d * m) % 18446744073709551616 = Hs.mulm x y by rw [hd, Hs.dbl_even z1 x1 y1 m (by omega)]; exact H.out)
        clear hd hm H
        go_wp2_with fail
        go_round
        case rel => exact ⟨d, m, z1, rfl, rfl, rfl, hd1, by omega, hz1, R.out⟩
        case measure => simp [intOf]; omega
    · have e0 : decide (0 < y1) = false := by simpa using h0
      have R := Lib.hid (show z1 = Hs.mulm x y by have := H.out; rw [show y1 = 0 by omega, Nat.mul_zero, Nat.add_zero] at this; rw [← this]; omega)
      clear H
      go_wp2_with fail
      go_ret
      exact ⟨ret_int (by rw [← R.out]), rfl⟩

theorem take_snoc (s : ByteArray) (k : Nat) (h : k < s.size) : s.data.toList.take (k + 1) = s.data.toList.take k ++ [s[k]] := by
  rw [List.take_succ_eq_append_getElem (by simpa using h)]; rfl
theorem u8_le (c : UInt8) : c.toNat ≤ 255 := by have := c.toNat_lt; omega

def HashPost (s : ByteArray) (w : World) (e : Ending) (w' : World) : Prop := e = .returned (.int .u64 (Hs.hash s.data.toList : Nat)) ∧ w = w'

set_option maxHeartbeats 1000000 in
theorem hash_any (s : ByteArray) (w : World) (hs : s.size ≤ 500) :
    Calls Try.prog 18 #[.string s] w (HashPost s w) := by
  go_enter Try.func18, Try.ntmps18
  go_wp2_with fail
  go_loop [3, 7] (fun h i => ∃ k : Nat, k ≤ s.size ∧ i = .int .i64 k ∧ h = .int .u64 (Hs.body (s.data.toList.take k) : Nat)) (fun _ i => s.size - (intOf i).toNat)
  case atStart => exact ⟨0, Nat.zero_le _, rfl, rfl⟩
  case round =>
    obtain ⟨k, hk, rfl, rfl⟩ := hrel
    have hb := Hs.body_le (s.data.toList.take k)
    by_cases hlt : k < s.size
    · have E := Lib.hid (show Hs.body (s.data.toList.take (k + 1)) = Hs.step (Hs.body (s.data.toList.take k)) s[k].toNat by rw [take_snoc s k hlt, Hs.body_snoc])
      have hc := u8_le s[k]
      obtain ⟨x, hx⟩ : ∃ x, x = Hs.body (s.data.toList.take k) ^^^ s[k].toNat := ⟨_, rfl⟩
      have e1 : bits .xor .u64 ((Hs.body (s.data.toList.take k) : Nat) : Int) ((s[k].toNat : Nat) : Int) = (x : Int) := by rw [hx]; exact Hs.xorC hb (by omega)
      have hx1 : x ≤ 18446744073709551615 := by rw [hx]; exact Hs.xor_le hb (by omega)
      have e2 : IntKind.u64.wrap ((x : Int) * 1099511628211) = ((Hs.mulm x 1099511628211 : Nat) : Int) := Hs.mulC x 1099511628211
      have E3 := Lib.hid (show Hs.body (s.data.toList.take (k + 1)) = Hs.mulm x 1099511628211 by rw [E.out, hx]; rfl)
      clear E hx
      go_wp2_with fail
      go_round
      case rel => exact ⟨k + 1, by omega, by go_num, by rw [E3.out]⟩
      case measure => simp [intOf]; omega
    · have E := Lib.hid (show Hs.body (s.data.toList.take k) = Hs.body s.data.toList by rw [List.take_of_length_le (by simp; omega)])
      obtain ⟨h, hh⟩ : ∃ h, h = Hs.body (s.data.toList.take k) := ⟨_, rfl⟩
      rw [← hh] at hb E ⊢
      clear hh
      have e2 : IntKind.u64.wrap (((Hs.fold h : Nat) : Int) * 18397679294719823053) = ((Hs.last h : Nat) : Int) := Hs.mulC (Hs.fold h) 18397679294719823053
      have hl := Hs.last_le h
      go_wp2_with fail
      refine (fold_any h _ hb).mono ?_
      rintro e w' ⟨rfl, rfl⟩
      go_wp2_with fail
      refine (fold_any (Hs.last h) _ hl).mono ?_
      rintro e w' ⟨rfl, rfl⟩
      go_wp2_with fail
      go_ret
      exact ⟨ret_int (by rw [Hs.hash, ← E.out]), rfl⟩

set_option maxHeartbeats 1000000 in
theorem refHash_any (s : ByteArray) (w : World) (hs : s.size ≤ 500) :
    Calls Try.prog 19 #[.string s] w (HashPost s w) := by
  go_enter Try.func19, Try.ntmps19
  go_wp2_with fail
  go_loop [3, 4] (fun h i => ∃ k : Nat, k ≤ s.size ∧ i = .int .i64 k ∧ h = .int .u64 (Hs.body (s.data.toList.take k) : Nat)) (fun _ i => s.size - (intOf i).toNat)
  case atStart => exact ⟨0, Nat.zero_le _, rfl, rfl⟩
  case round =>
    obtain ⟨k, hk, rfl, rfl⟩ := hrel
    have hb := Hs.body_le (s.data.toList.take k)
    by_cases hlt : k < s.size
    · have E := Lib.hid (show Hs.body (s.data.toList.take (k + 1)) = Hs.step (Hs.body (s.data.toList.take k)) s[k].toNat by rw [take_snoc s k hlt, Hs.body_snoc])
      have hc := u8_le s[k]
      obtain ⟨x, hx⟩ : ∃ x, x = Hs.body (s.data.toList.take k) ^^^ s[k].toNat := ⟨_, rfl⟩
      have e1 : bits .xor .u64 ((Hs.body (s.data.toList.take k) : Nat) : Int) ((s[k].toNat : Nat) : Int) = (x : Int) := by rw [hx]; exact Hs.xorC hb (by omega)
      have hx1 : x ≤ 18446744073709551615 := by rw [hx]; exact Hs.xor_le hb (by omega)
      have E3 := Lib.hid (show Hs.body (s.data.toList.take (k + 1)) = Hs.mulm x 1099511628211 by rw [E.out, hx]; rfl)
      clear E hx
      go_wp2_with fail
      refine (times_any x 1099511628211 _ hx1 (by omega)).mono ?_
      rintro e w' ⟨rfl, rfl⟩
      go_wp2_with fail
      go_round
      case rel => exact ⟨k + 1, by omega, by go_num, by rw [E3.out]⟩
      case measure => simp [intOf]; omega
    · have E := Lib.hid (show Hs.body (s.data.toList.take k) = Hs.body s.data.toList by rw [List.take_of_length_le (by simp; omega)])
      obtain ⟨h, hh⟩ : ∃ h, h = Hs.body (s.data.toList.take k) := ⟨_, rfl⟩
      rw [← hh] at hb E ⊢
      clear hh
      have e1 := Hs.foldC hb
      have hf := Hs.fold_le hb
      have hl := Hs.last_le h
      have e2 := Hs.foldC hl
      have E4 := Lib.hid (show Hs.mulm (Hs.fold h) 18397679294719823053 = Hs.last h from rfl)
      go_wp2_with fail
      refine (times_any (Hs.fold h) 18397679294719823053 _ hf (by omega)).mono ?_
      rw [E4.out]
      rintro e w' ⟨rfl, rfl⟩
      go_wp2_with fail
      go_ret
      exact ⟨ret_int (by rw [Hs.hash, ← E.out]), rfl⟩
end Go.Proofs.Ytaiejdopmlajmaa
