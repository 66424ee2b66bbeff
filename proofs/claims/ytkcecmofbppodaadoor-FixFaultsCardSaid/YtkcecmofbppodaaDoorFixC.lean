/- The contract of fix.Share at this program: a share, or a fault. -/
import Derived.Test.YtkcecmofbppodaaDoorFixB
import Derived.Deep.QuietTactic
import Derived.BigQuiet
import Derived.Lib.MinMax
namespace Go.Proofs.YtkcecmofbppodaaDoor
open Go.RowKit

set_option maxRecDepth 100000 in
theorem share_no (a b l : Nat) (w : World) (ha : a ≤ 18446744073709551615) (hb : b ≤ 18446744073709551615) (hl : l ≤ 18446744073709551615) (h : a = 0 ∧ b = 0 ∨ 2305843009213693952 < l) :
    Calls Tryd.prog 26 #[.int .u64 a, .int .u64 b, .int .u64 l] w (Faulty [115, 104, 97, 114, 101] w) := by
  by_cases h1 : a = 0
  · subst h1
    by_cases h2 : b = 0
    · subst h2
      clear h
      go_enter Tryd.func26, Tryd.ntmps26
      go_wp2
      go_ret2
      refine ⟨w.heap.size + 3, rfl, by omega, ?_, ?_, ?_, ((((Below.refl _ _).alloc (Nat.le_refl _) _).alloc (by simp) _).alloc (by simp; omega) _).alloc (by simp; omega) _⟩
      all_goals exact (World.cell?_alloc_at _ _ _ _ (by simp)).trans rfl
    · have e1 : ((b : Int) != 0) = true := by rw [bne_iff_ne]; omega
      have e2 : decide ((l : Int) ≤ 2305843009213693952) = false := by simp; omega
      clear h
      go_enter Tryd.func26, Tryd.ntmps26
      go_wp2
      go_ret2
      refine ⟨w.heap.size + 3, rfl, by omega, ?_, ?_, ?_, ((((Below.refl _ _).alloc (Nat.le_refl _) _).alloc (by simp) _).alloc (by simp; omega) _).alloc (by simp; omega) _⟩
      all_goals exact (World.cell?_alloc_at _ _ _ _ (by simp)).trans rfl
  · have e1 : ((a : Int) != 0) = true := by rw [bne_iff_ne]; omega
    have e2 : decide ((l : Int) ≤ 2305843009213693952) = false := by simp; omega
    clear h
    go_enter Tryd.func26, Tryd.ntmps26
    go_wp2
    go_ret2
    refine ⟨w.heap.size + 3, rfl, by omega, ?_, ?_, ?_, ((((Below.refl _ _).alloc (Nat.le_refl _) _).alloc (by simp) _).alloc (by simp; omega) _).alloc (by simp; omega) _⟩
    all_goals exact (World.cell?_alloc_at _ _ _ _ (by simp)).trans rfl
theorem box3a (w : World) (x y z : Value) (t : TypeId) : (((w.alloc (.cells #[x] t)).alloc (.cells #[y] t)).alloc (.cells #[z] t)).cell? ⟨w.heap.size, 0, none⟩ = some x := by
  rw [World.cell?_alloc_lt _ _ ⟨w.heap.size, 0, none⟩ (by simp; omega), World.cell?_alloc_lt _ _ ⟨w.heap.size, 0, none⟩ (by simp), World.cell?_alloc_new]; rfl
theorem box3b (w : World) (x y z : Value) (t : TypeId) : (((w.alloc (.cells #[x] t)).alloc (.cells #[y] t)).alloc (.cells #[z] t)).cell? ⟨w.heap.size + 1, 0, none⟩ = some y := by
  rw [World.cell?_alloc_lt _ _ ⟨w.heap.size + 1, 0, none⟩ (by simp), World.cell?_alloc_at _ _ _ _ (by simp)]; rfl
theorem box3c (w : World) (x y z : Value) (t : TypeId) : (((w.alloc (.cells #[x] t)).alloc (.cells #[y] t)).alloc (.cells #[z] t)).cell? ⟨w.heap.size + 1 + 1, 0, none⟩ = some z := by
  rw [World.cell?_alloc_at _ _ _ _ (by simp)]; rfl

set_option maxRecDepth 100000 in
theorem share2_any (p q r : Addr) (a b l : Nat) (w : World) (ha : a ≤ 18446744073709551615) (hb : b ≤ 18446744073709551615) (hl : l ≤ 2305843009213693952)
    (hp : w.cell? p = some (.int .u64 a)) (hq : w.cell? q = some (.int .u64 b)) (hr : w.cell? r = some (.int .u64 l)) :
    Calls Tryd.prog 51 #[.pointer (some p), .pointer (some q), .pointer (some r)] w (Ret (Fx.share a b l) w) := by
  have E := Lib.hid (show min (max (Fx.part a b : Int) (l : Int)) (4611686018427387904 - (l : Int)) = ((Fx.share a b l : Nat) : Int) by unfold Fx.share; omega)
  go_enter Tryd.func51, Tryd.ntmps51
  go_wp2_with fail
  go_quiet ((go_at_call 52; exact Calls.quiet_of ((part_any a b _ ha hb).mono fun _ _ h => ⟨h.1, h.2⟩)))
  go_wp2_with fail
  go_ret
  exact ⟨ret_int (by rw [← E.out]), _, rfl⟩

set_option maxRecDepth 100000 in
theorem share_yes (a b l : Nat) (w : World) (ha : a ≤ 18446744073709551615) (hb : b ≤ 18446744073709551615) (hl : l ≤ 2305843009213693952) (h : 0 < a ∨ 0 < b) :
    Calls Tryd.prog 26 #[.int .u64 a, .int .u64 b, .int .u64 l] w (Good (Fx.share a b l) w) := by
  have e2 : decide ((l : Int) ≤ 2305843009213693952) = true := by simp; omega
  by_cases h1 : a = 0
  · subst h1
    have e1 : ((b : Int) != 0) = true := by rw [bne_iff_ne]; omega
    clear h
    go_enter Tryd.func26, Tryd.ntmps26
    go_wp2_with (first | (go_at_call 51; refine (share2_any _ _ _ _ b l _ (by omega) hb hl (box3a _ _ _ _ _) (box3b _ _ _ _ _) (box3c _ _ _ _ _)).mono ?_; rintro e w' ⟨rfl, n, rfl⟩) | go_in)
    go_ret2
    exact ⟨rfl, bdrew ((((Below.refl _ _).alloc (Nat.le_refl _) _).alloc (by simp) _).alloc (by simp; omega) _) _⟩
  · have e1 : ((a : Int) != 0) = true := by rw [bne_iff_ne]; omega
    clear h
    go_enter Tryd.func26, Tryd.ntmps26
    go_wp2_with (first | (go_at_call 51; refine (share2_any _ _ _ _ b l _ (by omega) hb hl (box3a _ _ _ _ _) (box3b _ _ _ _ _) (box3c _ _ _ _ _)).mono ?_; rintro e w' ⟨rfl, n, rfl⟩) | go_in)
    go_ret2
    exact ⟨rfl, bdrew ((((Below.refl _ _).alloc (Nat.le_refl _) _).alloc (by simp) _).alloc (by simp; omega) _) _⟩
end Go.Proofs.YtkcecmofbppodaaDoor
