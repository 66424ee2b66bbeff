/- Package fix's answers and the reference's, each with its error or its code, in one form; Wraps over both. -/
import Derived.Test.YtkcecmofbppodaaDoorRefE
import Derived.Test.YtkcecmofbppodaaDoorAwake
namespace Go.Proofs.YtkcecmofbppodaaDoor
open Go.RowKit

/-- An error of that operation with that code: none and 0, or a fault that wraps ErrRange and 1. -/
def Er1 (w : World) (op : List UInt8) (v : Value) (code : Nat) : Prop := (v = .nilIface ∧ code = 0) ∨ (code = 1 ∧ ∃ g : Nat, v = .iface 62 (.pointer (some ⟨g, 0, none⟩)) ∧ g < w.heap.size ∧ w.cell? ⟨g, 0, none⟩ = some (.string ⟨op.toArray⟩) ∧ w.cell? ⟨g, 1, none⟩ = some (.string ⟨#[]⟩) ∧ w.cell? ⟨g, 2, none⟩ = some (.iface 47 (.int .i64 1)))
theorem Er1.below {w w' : World} {op : List UInt8} {v : Value} {code : Nat} (h : Er1 w op v code) (hb : Below w.heap.size w w') : Er1 w' op v code := by
  rcases h with h | ⟨hc, g, rfl, hg, k0, k1, k2⟩
  · exact Or.inl h
  · exact Or.inr ⟨hc, g, rfl, Nat.lt_of_lt_of_le hg hb.size, (hb.cell (p := ⟨g, 0, none⟩) hg).trans k0, (hb.cell (p := ⟨g, 1, none⟩) hg).trans k1, (hb.cell (p := ⟨g, 2, none⟩) hg).trans k2⟩
def FixRet (op : List UInt8) (q code : Nat) (w : World) (e : Ending) (w' : World) : Prop := ∃ ev, e = .returned (.tuple #[.int .u64 q, ev]) ∧ Er1 w' op ev code ∧ Below w.heap.size w w'
def RefRet (q code : Nat) (w : World) (e : Ending) (w' : World) : Prop := e = .returned (.tuple #[.int .u64 q, .int .i64 code]) ∧ Below w.heap.size w w'
theorem FixRet.good {op : List UInt8} {q : Nat} {w w' : World} {e : Ending} (h : Good q w e w') : FixRet op q 0 w e w' := ⟨.nilIface, h.1, Or.inl ⟨rfl, rfl⟩, h.2⟩
theorem FixRet.fault {op : List UInt8} {w w' : World} {e : Ending} (h : Faulty op w e w') : FixRet op 0 1 w e w' := by
  obtain ⟨g, he, hg, k0, k1, k2, hb⟩ := h
  exact ⟨_, he, Or.inr ⟨rfl, g, rfl, cell_lt k0, k0, k1, k2⟩, hb⟩
theorem wraps_any (op : List UInt8) (v : Value) (code : Nat) (w : World) (hl : Laid w) (h : Er1 w op v code) :
    Calls Tryd.prog 23 #[v, .string ⟨op.toArray⟩, .string ⟨#[]⟩, .int .i64 (code : Int)] w (RetB true w) := by
  rcases h with ⟨rfl, rfl⟩ | ⟨rfl, g, rfl, hg, k0, k1, k2⟩
  · exact (wraps_ok _ _ w).mono fun e w' h => ⟨h.1, h.2 ▸ Below.refl _ _⟩
  · exact wraps_fault g _ w hl hg k0 k1 k2

def dq (a b : Nat) : Nat := if b = 0 then 0 else Fx.quo a b
def dc (b : Nat) : Nat := if b = 0 then 1 else 0
def wq (m n : Int) : Nat := if m < 0 ∨ n < 1 then 0 else Fx.quo m.toNat n.toNat
def wc (m n : Int) : Nat := if m < 0 ∨ n < 1 then 1 else 0
def pq (a : Nat) (n : Int) : Nat := if n < 0 then 0 else Fx.pw a n.toNat 4611686018427387904
def pc (n : Int) : Nat := if n < 0 then 1 else 0
def sq (a b l : Nat) : Nat := if a = 0 ∧ b = 0 ∨ 2305843009213693952 < l then 0 else Fx.share a b l
def sc (a b l : Nat) : Nat := if a = 0 ∧ b = 0 ∨ 2305843009213693952 < l then 1 else 0

theorem fixDiv_any (a b : Nat) (w : World) (ha : a ≤ 18446744073709551615) (hb : b ≤ 18446744073709551615) :
    Calls Tryd.prog 13 #[.int .u64 a, .int .u64 b] w (FixRet [100, 105, 118] (dq a b) (dc b) w) := by
  by_cases h : b = 0
  · subst h
    exact (div_no a w ha).mono fun _ _ h => FixRet.fault h
  · rw [dq, dc, if_neg h, if_neg h]
    exact (div_yes a b w ha hb (by omega)).mono fun _ _ h => FixRet.good h
theorem fixWhole_any (m n : Int) (w : World) (hm : m ≤ 9223372036854775807) (hn : n ≤ 9223372036854775807) :
    Calls Tryd.prog 15 #[.int .i64 m, .int .i64 n] w (FixRet [119, 104, 111, 108, 101] (wq m n) (wc m n) w) := by
  by_cases h : m < 0 ∨ n < 1
  · rw [wq, wc, if_pos h, if_pos h]
    exact (whole_no m n w (by omega)).mono fun _ _ h => FixRet.fault h
  · rw [wq, wc, if_neg h, if_neg h]
    obtain ⟨a, rfl⟩ := Int.eq_ofNat_of_zero_le (show 0 ≤ m by omega)
    obtain ⟨b, rfl⟩ := Int.eq_ofNat_of_zero_le (show 0 ≤ n by omega)
    exact (whole_yes a b w (by omega) (by omega) (by omega)).mono fun _ _ h => FixRet.good h
theorem fixPow_any (a : Nat) (n : Int) (w : World) (ha : a ≤ 18446744073709551615) (hn : n ≤ 9223372036854775807) :
    Calls Tryd.prog 24 #[.int .u64 a, .int .i64 n] w (FixRet [112, 111, 119] (pq a n) (pc n) w) := by
  by_cases h : n < 0
  · rw [pq, pc, if_pos h, if_pos h]
    exact (powr_no a n w ha h).mono fun _ _ h => FixRet.fault h
  · rw [pq, pc, if_neg h, if_neg h]
    obtain ⟨b, rfl⟩ := Int.eq_ofNat_of_zero_le (show 0 ≤ n by omega)
    exact (powr_yes a b w ha (by omega)).mono fun _ _ h => FixRet.good h
theorem fixShare_any (a b l : Nat) (w : World) (ha : a ≤ 18446744073709551615) (hb : b ≤ 18446744073709551615) (hl : l ≤ 18446744073709551615) :
    Calls Tryd.prog 26 #[.int .u64 a, .int .u64 b, .int .u64 l] w (FixRet [115, 104, 97, 114, 101] (sq a b l) (sc a b l) w) := by
  by_cases h : a = 0 ∧ b = 0 ∨ 2305843009213693952 < l
  · rw [sq, sc, if_pos h, if_pos h]
    exact (share_no a b l w ha hb hl h).mono fun _ _ h => FixRet.fault h
  · rw [sq, sc, if_neg h, if_neg h]
    exact (share_yes a b l w ha hb (by omega) (by omega)).mono fun _ _ h => FixRet.good h

theorem refSub_any (a b : Nat) (w : World) (ha : a ≤ 18446744073709551615) (hb : b ≤ 18446744073709551615) :
    Calls Tryd.prog 20 #[.int .u64 a, .int .u64 b] w fun e w' => e = .returned (.int .u64 (a - b : Nat)) ∧ w = w' := by
  go_enter Tryd.func20, Tryd.ntmps20
  go_wp2
  all_goals
    go_ret
    refine ⟨ret_int ?_, rfl⟩
    omega
set_option maxHeartbeats 1000000 in
theorem refDiv_any (a b : Nat) (w : World) (ha : a ≤ 18446744073709551615) (hb : b ≤ 18446744073709551615) :
    Calls Tryd.prog 14 #[.int .u64 a, .int .u64 b] w (RefRet (dq a b) (dc b) w) := by
  by_cases h : b = 0
  · have e0 : ((b : Int) == 0) = true := beq_iff_eq.2 (by omega)
    rw [dq, dc, if_pos h, if_pos h]
    clear h
    go_enter Tryd.func14, Tryd.ntmps14
    go_wp2_with fail
    go_ret2
    exact ⟨rfl, Below.refl _ _⟩
  · have e0 : ((b : Int) == 0) = false := beq_eq_false_iff_ne.2 (by omega)
    rw [dq, dc, if_neg h, if_neg h]
    have hp : 0 < b := by omega
    clear h
    go_enter Tryd.func14, Tryd.ntmps14
    go_wp2_with fail
    refine (over_any a b _ ha hb hp).mono ?_
    rintro e w' ⟨rfl, hb'⟩
    go_wp2_with fail
    go_ret2
    exact ⟨rfl, hb'⟩
set_option maxHeartbeats 1000000 in
theorem refWhole_any (m n : Int) (w : World) (hm : m ≤ 9223372036854775807) (hn : n ≤ 9223372036854775807) :
    Calls Tryd.prog 16 #[.int .i64 m, .int .i64 n] w (RefRet (wq m n) (wc m n) w) := by
  by_cases h : m < 0 ∨ n < 1
  · rw [wq, wc, if_pos h, if_pos h]
    by_cases h1 : m < 0
    · have e0 : decide (m < 0) = true := by simpa using h1
      clear h
      go_enter Tryd.func16, Tryd.ntmps16
      go_wp2_with fail
      go_ret2
      exact ⟨rfl, Below.refl _ _⟩
    · have e0 : decide (m < 0) = false := by simpa using h1
      have e1 : decide (n < 1) = true := by simp; omega
      clear h
      go_enter Tryd.func16, Tryd.ntmps16
      go_wp2_with fail
      go_ret2
      exact ⟨rfl, Below.refl _ _⟩
  · rw [wq, wc, if_neg h, if_neg h]
    obtain ⟨a, rfl⟩ := Int.eq_ofNat_of_zero_le (show 0 ≤ m by omega)
    obtain ⟨b, rfl⟩ := Int.eq_ofNat_of_zero_le (show 0 ≤ n by omega)
    have e0 : decide ((a : Int) < 0) = false := by simp
    have e1 : decide ((b : Int) < 1) = false := by simp; omega
    have hp : 0 < b := by omega
    have C := fun W => Lib.hid (over_any a b W (by omega) (by omega) hp)
    clear h
    go_enter Tryd.func16, Tryd.ntmps16
    go_wp2_with fail
    refine (C _).out.mono ?_
    rintro e w' ⟨rfl, hb'⟩
    go_wp2_with fail
    go_ret2
    exact ⟨rfl, hb'⟩
end Go.Proofs.YtkcecmofbppodaaDoor
