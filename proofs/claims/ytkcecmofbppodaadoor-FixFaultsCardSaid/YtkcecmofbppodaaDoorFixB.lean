/- The contracts of package fix's functions that may answer with a fault, at this program: Div, Whole, Pow, Share. -/
import Derived.Test.YtkcecmofbppodaaDoorFixA
import Derived.Below
import Derived.Deep.RegionWith
namespace Go.Proofs.YtkcecmofbppodaaDoor
open Go.RowKit

theorem bdrew {B : Nat} {a w : World} (h : Below B a w) (n : Nat) : Below B a (w.drewN n) := ⟨h.os, h.tape, h.output, h.size, h.block⟩

/-- A number and no error; what was there is as it was. -/
def Good (v : Nat) (w : World) (e : Ending) (w' : World) : Prop := e = .returned (.tuple #[.int .u64 v, .nilIface]) ∧ Below w.heap.size w w'
/-- 0 and a fault of that operation that wraps ErrRange, in new memory. -/
def Faulty (op : List UInt8) (w : World) (e : Ending) (w' : World) : Prop := ∃ g : Nat, e = .returned (.tuple #[.int .u64 0, .iface 62 (.pointer (some ⟨g, 0, none⟩))]) ∧ w.heap.size ≤ g ∧ w'.cell? ⟨g, 0, none⟩ = some (.string ⟨op.toArray⟩) ∧ w'.cell? ⟨g, 1, none⟩ = some (.string ⟨#[]⟩) ∧ w'.cell? ⟨g, 2, none⟩ = some (.iface 47 (.int .i64 1)) ∧ Below w.heap.size w w'

set_option maxRecDepth 100000 in
theorem div_yes (a b : Nat) (w : World) (ha : a ≤ 18446744073709551615) (hb : b ≤ 18446744073709551615) (h0 : 0 < b) :
    Calls Tryd.prog 13 #[.int .u64 a, .int .u64 b] w (Good (Fx.quo a b) w) := by
  have e0 : ((b : Int) != 0) = true := by rw [bne_iff_ne]; omega
  go_enter Tryd.func13, Tryd.ntmps13
  go_wp2_with (first | (go_at_call 37; refine (quo_any a b _ (by omega) (by omega)).mono ?_; rintro e w' ⟨rfl, n, rfl⟩) | go_in)
  go_ret2
  exact ⟨rfl, bdrew (((Below.refl _ _).alloc (Nat.le_refl _) _).alloc (by simp) _) _⟩

set_option maxRecDepth 100000 in
theorem div_no (a : Nat) (w : World) (ha : a ≤ 18446744073709551615) :
    Calls Tryd.prog 13 #[.int .u64 a, .int .u64 0] w (Faulty [100, 105, 118] w) := by
  go_enter Tryd.func13, Tryd.ntmps13
  go_wp2
  go_ret2
  refine ⟨w.heap.size + 2, rfl, by omega, ?_, ?_, ?_, (((Below.refl _ _).alloc (Nat.le_refl _) _).alloc (by simp) _).alloc (by simp; omega) _⟩
  all_goals exact (World.cell?_alloc_at _ _ _ _ (by simp)).trans rfl

set_option maxRecDepth 100000 in
theorem whole_yes (a b : Nat) (w : World) (ha : a ≤ 9223372036854775807) (hb : b ≤ 9223372036854775807) (h0 : 0 < b) :
    Calls Tryd.prog 15 #[.int .i64 a, .int .i64 b] w (Good (Fx.quo a b) w) := by
  have e0 : decide (0 ≤ (a : Int)) = true := by simp
  have e1 : decide (0 < (b : Int)) = true := by simp; omega
  go_enter Tryd.func15, Tryd.ntmps15
  go_wp2_with (first | (go_at_call 37; refine (quo_any a b _ (by omega) (by omega)).mono ?_; rintro e w' ⟨rfl, n, rfl⟩) | go_in)
  go_ret2
  exact ⟨rfl, bdrew (((Below.refl _ _).alloc (Nat.le_refl _) _).alloc (by simp) _) _⟩

set_option maxRecDepth 100000 in
theorem whole_no (a b : Int) (w : World) (h : a < 0 ∨ b ≤ 0) :
    Calls Tryd.prog 15 #[.int .i64 a, .int .i64 b] w (Faulty [119, 104, 111, 108, 101] w) := by
  by_cases h1 : a < 0
  · have e0 : decide (0 ≤ a) = false := by simp; omega
    clear h
    go_enter Tryd.func15, Tryd.ntmps15
    go_wp2
    go_ret2
    refine ⟨w.heap.size + 2, rfl, by omega, ?_, ?_, ?_, (((Below.refl _ _).alloc (Nat.le_refl _) _).alloc (by simp) _).alloc (by simp; omega) _⟩
    all_goals exact (World.cell?_alloc_at _ _ _ _ (by simp)).trans rfl
  · have e0 : decide (0 ≤ a) = true := by simp; omega
    have e1 : decide (0 < b) = false := by simp; omega
    clear h
    go_enter Tryd.func15, Tryd.ntmps15
    go_wp2
    go_ret2
    refine ⟨w.heap.size + 2, rfl, by omega, ?_, ?_, ?_, (((Below.refl _ _).alloc (Nat.le_refl _) _).alloc (by simp) _).alloc (by simp; omega) _⟩
    all_goals exact (World.cell?_alloc_at _ _ _ _ (by simp)).trans rfl

set_option maxRecDepth 100000 in
theorem powr_yes (x n : Nat) (w : World) (hx : x ≤ 18446744073709551615) (hn : n ≤ 9223372036854775807) :
    Calls Tryd.prog 24 #[.int .u64 x, .int .i64 n] w (Good (Fx.pw x n 4611686018427387904) w) := by
  have e0 : decide (0 ≤ (n : Int)) = true := by simp
  go_enter Tryd.func24, Tryd.ntmps24
  go_wp2_with (first | (go_at_call 49; refine (pow_any x n _ (by omega) (by omega)).mono ?_; rintro e w' ⟨rfl, rfl⟩) | go_in)
  go_ret2
  exact ⟨rfl, ((Below.refl _ _).alloc (Nat.le_refl _) _).alloc (by simp) _⟩

set_option maxRecDepth 100000 in
theorem powr_no (x : Nat) (n : Int) (w : World) (hx : x ≤ 18446744073709551615) (hn : n < 0) :
    Calls Tryd.prog 24 #[.int .u64 x, .int .i64 n] w (Faulty [112, 111, 119] w) := by
  have e0 : decide (0 ≤ n) = false := by simp; omega
  go_enter Tryd.func24, Tryd.ntmps24
  go_wp2
  go_ret2
  refine ⟨w.heap.size + 2, rfl, by omega, ?_, ?_, ?_, (((Below.refl _ _).alloc (Nat.le_refl _) _).alloc (by simp) _).alloc (by simp; omega) _⟩
  all_goals exact (World.cell?_alloc_at _ _ _ _ (by simp)).trans rfl

end Go.Proofs.YtkcecmofbppodaaDoor
