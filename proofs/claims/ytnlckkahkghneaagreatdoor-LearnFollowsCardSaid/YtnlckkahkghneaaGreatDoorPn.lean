/- Package policy: a new policy of a kind, or the fault that there is none; the names. -/
import Derived.Test.YtnlckkahkghneaaGreatDoorPs
import Derived.Test.YtnlckkahkghneaaGreatDoorPn0
set_option maxRecDepth 20000
namespace Go.Proofs.YtnlckkahkghneaaGreatDoor
open Go.RowKit Sg

def CNew (k m : Nat) (w : World) (e : Ending) (w' : World) : Prop := ∃ c T, e = .returned (.tuple #[cI k c, .bool true]) ∧ KCa w' c T (KSt.start k m) 0 ∧ (∀ j, T j → w.heap.size ≤ j) ∧ Below w.heap.size w w'
theorem cacheOf_any (w : World) (k : Nat) (hk : k < 4) (z : Int) (hz : -9223372036854775808 ≤ z ∧ z ≤ 9223372036854775807) : Calls Tryz.prog 89 #[.int .i64 (k : Int), .int .i64 z] w (CNew k z.toNat w) := by
  rcases k with _ | _ | _ | _ | k
  · show Calls Tryz.prog 89 #[.int .i64 0, .int .i64 z] w _
    have U := Lib.hid (LR.new_ca w z hz)
    clear hk
    go_enter Tryz.func89, Tryz.ntmps89
    go_wp2_with (go_at_call 133; refine U.out.mono ?_; rintro e w1 ⟨c, T, rfl, h1, h2, h3⟩; have R := Lib.hid (And.intro h1 (And.intro h2 h3)); clear h1 h2 h3)
    go_ret2
    exact ⟨c, T, rfl, R.out.1, R.out.2.1, R.out.2.2⟩
  · show Calls Tryz.prog 89 #[.int .i64 1, .int .i64 z] w _
    have U := Lib.hid (LF.new_ca w z false hz)
    clear hk
    go_enter Tryz.func89, Tryz.ntmps89
    go_wp2_with (go_at_call 134; refine U.out.mono ?_; rintro e w1 ⟨c, T, rfl, h1, h2, h3⟩; have R := Lib.hid (And.intro h1 (And.intro h2 h3)); clear h1 h2 h3)
    go_ret2
    exact ⟨c, T, rfl, ⟨R.out.1, Nat.le_refl _⟩, R.out.2.1, R.out.2.2⟩
  · show Calls Tryz.prog 89 #[.int .i64 2, .int .i64 z] w _
    have U := Lib.hid (LF.new_ca w z true hz)
    clear hk
    go_enter Tryz.func89, Tryz.ntmps89
    go_wp2_with (go_at_call 134; refine U.out.mono ?_; rintro e w1 ⟨c, T, rfl, h1, h2, h3⟩; have R := Lib.hid (And.intro h1 (And.intro h2 h3)); clear h1 h2 h3)
    go_ret2
    exact ⟨c, T, rfl, ⟨R.out.1, Nat.le_refl _⟩, R.out.2.1, R.out.2.2⟩
  · show Calls Tryz.prog 89 #[.int .i64 3, .int .i64 z] w _
    have U := Lib.hid (SR.new_ca w z hz)
    clear hk
    go_enter Tryz.func89, Tryz.ntmps89
    go_wp2_with (go_at_call 135; refine U.out.mono ?_; rintro e w1 ⟨c, T, rfl, h1, h2, h3⟩; have R := Lib.hid (And.intro h1 (And.intro h2 h3)); clear h1 h2 h3)
    go_ret2
    exact ⟨c, T, rfl, R.out.1, R.out.2.1, R.out.2.2⟩
  · omega
theorem cacheOf_no (w : World) (k : Int) (hk : k < 0 ∨ 4 < k) (z : Int) : Calls Tryz.prog 89 #[.int .i64 k, .int .i64 z] w (fun e w' => e = .returned (.tuple #[.nilIface, .bool false]) ∧ w = w') := by
  have h0 : ¬ k = 0 := by omega
  have h1 : ¬ k = 1 := by omega
  have h2 : ¬ k = 2 := by omega
  have h3 : ¬ k = 3 := by omega
  have h4 : ¬ k = 4 := by omega
  clear hk
  go_enter Tryz.func89, Tryz.ntmps89
  go_wp2_with fail
  go_ret2
  exact ⟨rfl, rfl⟩
/-- A new policy. -/
def PNew (k m : Nat) (w : World) (e : Ending) (w' : World) : Prop := ∃ p U, e = .returned (.tuple #[.pointer (some ⟨p, 0, none⟩), .nilIface]) ∧ Pc w' p U (KSt.start k m) 0 ∧ (∀ j, U j → w.heap.size ≤ j) ∧ Below w.heap.size w w'
/-- None. -/
def PNo (n : Int) (w : World) (e : Ending) (w' : World) : Prop := ∃ v, e = .returned (.tuple #[.pointer none, v]) ∧ Flt w' ⟨#[112, 111, 108, 105, 99, 121]⟩ n v ∧ Below w.heap.size w w'
theorem new_p (w : World) (k : Nat) (hk : k < 4) (m : Nat) (hm : m ≤ 16777216) : Calls Tryz.prog 47 #[.int .i64 (k : Int), .int .i64 (m : Int)] w (PNew k m w) := by
  have V := cacheOf_any w k hk (m : Int) (by omega)
  rw [Int.toNat_natCast] at V
  have V := Lib.hid V
  have I := Lib.hid (fun w1 => show Calls Tryz.prog 90 #[.int .i64 (m : Int)] w1 (fun e w' => e = .returned (.bool true) ∧ w1 = w') by
    have := isRoom_any w1 (m : Int)
    rw [decide_eq_true (by omega), decide_eq_true (by omega)] at this
    exact this)
  have C := Lib.hid (fun w1 c => callsOf_any w1 k c)
  have K := Lib.hid (KSt.start_kind (show k < 5 by omega) m)
  go_enter Tryz.func47, Tryz.ntmps47
  go_wp2_with fail
  refine V.out.mono ?_
  rintro e w1 ⟨c, T, rfl, h1, h2, h3⟩
  have R := Lib.hid (And.intro h1 (And.intro h2 h3))
  clear h1 h2 h3
  go_wp2_with fail
  refine (I.out _).mono ?_
  rintro e w1 ⟨rfl, rfl⟩
  go_wp2_with fail
  refine (C.out _ _).mono ?_
  rintro e w2 ⟨rfl, hB⟩
  have HB := Lib.hid hB
  clear hB
  unfold fns fnA
  go_wp2_with fail
  go_ret2
  obtain ⟨h1, h2, h3⟩ := R.out
  obtain ⟨q1, q2, _, _⟩ := K.out
  have hs2 := HB.out.size
  have b3 := (Below.refl w2.heap.size w2).alloc (Nat.le_refl _) (.cells (pcells k m c) 154)
  have hb := HB.out.trans (b3.mono hs2)
  have hTl : ∀ j, T j → j < w1.heap.size := fun j hj => h1.lt hj
  refine ⟨w2.heap.size, fun j => j = w2.heap.size ∨ T j, rfl, ⟨c, T, rfl, h1.below hb, fun hj => ?_, ?_⟩, fun j hj => ?_, h3.trans (hb.mono h3.size)⟩
  · have := hTl _ hj; omega
  · rw [q1, q2]; exact heap_alloc_new _ _
  · have := h3.size
    rcases hj with rfl | hj
    · omega
    · exact h2 j hj
theorem new_kind (w : World) (z : Int) (hz : z < 0 ∨ 4 < z) (y : Int) : Calls Tryz.prog 47 #[.int .i64 z, .int .i64 y] w (PNo 7 w) := by
  have V := Lib.hid (cacheOf_no w z hz y)
  clear hz
  go_enter Tryz.func47, Tryz.ntmps47
  go_wp2_with fail
  refine V.out.mono ?_
  rintro e w1 ⟨rfl, rfl⟩
  go_wp2_with fail
  go_ret2
  exact ⟨_, rfl, ⟨_, rfl, by simp, heap_alloc_new _ _⟩, (Below.refl _ _).alloc (Nat.le_refl _) _⟩
theorem new_size (w : World) (k : Nat) (hk : k < 4) (y : Int) (hy : y < 0 ∨ 16777216 < y) (hr : -9223372036854775808 ≤ y ∧ y ≤ 9223372036854775807) : Calls Tryz.prog 47 #[.int .i64 (k : Int), .int .i64 y] w (PNo 1 w) := by
  have V := Lib.hid (cacheOf_any w k hk y hr)
  have I := Lib.hid (fun w1 => show Calls Tryz.prog 90 #[.int .i64 y] w1 (fun e w' => e = .returned (.bool false) ∧ w1 = w') by
    have := isRoom_any w1 y
    rw [show (decide (0 ≤ y) && decide (y ≤ 16777216)) = false by
      rcases hy with h | h
      · rw [decide_eq_false (by omega)]; rfl
      · rw [decide_eq_false (p := y ≤ 16777216) (by omega), Bool.and_false]] at this
    exact this)
  clear hk hy hr
  go_enter Tryz.func47, Tryz.ntmps47
  go_wp2_with fail
  refine V.out.mono ?_
  rintro e w1 ⟨c, T, rfl, h1, h2, h3⟩
  have HB := Lib.hid h3
  clear h1 h2 h3
  go_wp2_with fail
  refine (I.out _).mono ?_
  rintro e w1 ⟨rfl, rfl⟩
  go_wp2_with fail
  go_ret2
  exact ⟨_, rfl, ⟨_, rfl, by simp, heap_alloc_new _ _⟩, HB.out.alloc HB.out.size _⟩
end Go.Proofs.YtnlckkahkghneaaGreatDoor
