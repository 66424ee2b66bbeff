/- The contracts of the reference's rows of bits at this program: row, bit, whole, down. -/
import Derived.Test.YtkcecmofbppodaaDoorChecked
import Derived.Test.YtkcecmofbppodaaDoorRow
import Derived.WalkKit
import Derived.IntWalk
import Derived.Below
import Derived.LoopTactic
import Derived.Lib.Hide
import Derived.Laws.OwnMore
import Derived.OwnWalk
namespace Go.Proofs.YtkcecmofbppodaaDoor
open Go.RowKit

theorem infoInt : (Tryd.prog.info? 3).map (fun i => (i.zero, i.size, i.bytes)) = some (some (.int .i64 0), 1, 8) := by kernel_rfl
def ints (xs : List Nat) : List Value := xs.map fun n : Nat => Value.int .i64 (n : Int)
theorem ints_length (xs : List Nat) : (ints xs).length = xs.length := by simp [ints]
theorem ints_snoc (xs : List Nat) (b : Nat) : ints (xs ++ [b]) = ints xs ++ [.int .i64 (b : Int)] := by simp [ints]
theorem ints_get (xs : List Nat) (j : Nat) (h : j < xs.length) : (ints xs)[j]? = some (.int .i64 ((xs.getD j 0 : Nat) : Int)) := by
  simp [ints, List.getD_eq_getElem?_getD, List.getElem?_eq_getElem h]

/-- A slice of ints that reads as a row of numbers. -/
def Rd (w : World) (v : Value) (xs : List Nat) : Prop := xs.length ≤ 1000000 ∧
  ((xs = [] ∧ ∃ A c, v = .slice A 0 c) ∨
   ∃ g o c, v = .slice (some ⟨g, o, none⟩) xs.length c ∧ g < w.heap.size ∧ xs.length ≤ c ∧ c ≤ maxLen ∧ ∀ j, j < xs.length → w.cell? ⟨g, o + j, none⟩ = some (.int .i64 ((xs.getD j 0 : Nat) : Int)))
theorem Rd.below {w w' : World} {v : Value} {xs : List Nat} (h : Rd w v xs) {B : Nat} (hb : Below B w w') (hB : w.heap.size ≤ B) : Rd w' v xs := by
  refine ⟨h.1, ?_⟩
  rcases h.2 with h1 | ⟨g, o, c, e, hg, hc, hm, hx⟩
  · exact Or.inl h1
  · exact Or.inr ⟨g, o, c, e, Nat.lt_of_lt_of_le hg hb.size, hc, hm, fun j hj => (hb.cell (p := ⟨g, o + j, none⟩) (by show g < B; omega)).trans (hx j hj)⟩
theorem Rd.of_own {w : World} {base : Nat} {v : Value} {xs : List Nat} (h : w.ownsRow base 3 1 v xs.length (ints xs)) (hl : xs.length ≤ 1000000) : Rd w v xs := by
  refine ⟨hl, ?_⟩
  rcases h.2 with ⟨rfl, hn⟩ | ⟨g, cap, cur, rfl, hb, hh, hc, hm, hs, ht⟩
  · exact Or.inl ⟨List.eq_nil_of_length_eq_zero hn, none, 0, rfl⟩
  · refine Or.inr ⟨g, 0, cap, rfl, ?_, hc, hm, fun j hj => ?_⟩
    · exact (h.lt g rfl).2
    · rw [Nat.zero_add, h.cellAt j (by omega), ints_get xs j hj]

def RowPost (v : Nat) (w : World) (e : Ending) (w' : World) : Prop := ∃ r xs, e = .returned r ∧ w'.ownsRow w.heap.size 3 1 r xs.length (ints xs) ∧ Rw.Bits xs ∧ Rw.val xs = v ∧ xs.length ≤ 64 ∧ Below w.heap.size w w'
def RowRel (v : Nat) (w : World) (a s : Value) (W : World) : Prop := ∃ u xs, a = .int .u64 (u : Nat) ∧ u ≤ 18446744073709551615 ∧ W.ownsRow w.heap.size 3 1 s (List.length xs) (ints xs) ∧ Rw.Bits xs ∧ Rw.val xs + 2 ^ xs.length * u = v ∧ xs.length ≤ 64 ∧ u < 2 ^ (64 - xs.length) ∧ Below w.heap.size w W

theorem rel_row {v : Nat} {w W w1 : World} {s v' : Value} {u b m : Nat} {xs : List Nat} {o : Obj} (hu0 : 0 < u) (hb : b = u % 2) (hm : m = u / 2)
    (hown : W.ownsRow w.heap.size 3 1 s xs.length (ints xs)) (hbits : Rw.Bits xs) (hv : Rw.val xs + 2 ^ xs.length * u = v) (hl : xs.length ≤ 64) (hlt : u < 2 ^ (64 - xs.length)) (hB : Below w.heap.size w W)
    (hown' : w1.ownsRow w.heap.size 3 1 v' (xs.length + 1) (ints xs ++ [.int .i64 (b : Int)])) (hg : (W.alloc o).grownBy w1 s.ownBlock) :
    w1.ownsRow w.heap.size 3 1 v' (xs ++ [b]).length (ints (xs ++ [b])) ∧ Rw.Bits (xs ++ [b]) ∧ Rw.val (xs ++ [b]) + 2 ^ (xs ++ [b]).length * m = v ∧ (xs ++ [b]).length ≤ 64 ∧ m < 2 ^ (64 - (xs ++ [b]).length) ∧ Below w.heap.size w w1 := by
  have hl2 : xs.length ≤ 63 := by
    rcases Nat.lt_or_ge xs.length 64 with h | h
    · omega
    · rw [show 64 - xs.length = 0 by omega] at hlt; simp at hlt; omega
  refine ⟨?_, Rw.bits_snoc hbits (by omega), ?_, by simp; omega, ?_, (hB.alloc hB.size o).grown hg (by simp; have := hB.size; omega) (fun j hj => (hown.lt j hj).1)⟩
  · rw [ints_snoc, List.length_append]; exact hown'
  · rw [Rw.val_snoc, List.length_append, hb, hm, ← hv]
    exact (Rw.pow_two_step xs.length u (Rw.val xs)).symm
  · rw [hm, List.length_append]
    refine Rw.step_div u _ ?_
    rw [show 64 - (xs.length + [b].length) + 1 = 64 - xs.length by simp; omega]
    exact hlt

set_option maxHeartbeats 1000000 in
theorem row_any (v : Nat) (w : World) (hv : v ≤ 18446744073709551615) :
    Calls Tryd.prog 43 #[.int .u64 v] w (RowPost v w) := by
  obtain ⟨i0, hi, hz0, hz1, hz2⟩ := info_parts infoInt
  go_enter Tryd.func43, Tryd.ntmps43
  go_wp2_with fail
  go_loopw [0, 3] (fun a s W => RowRel v w a s W) (fun a _ _ => (intOf a).toNat)
  case atStart => exact ⟨v, [], rfl, hv, World.ownsRow_nil _ _ _ _, (fun b hb => absurd hb (by simp)), by simp [Rw.val], by simp, by simp; omega, Below.refl _ _⟩
  case round =>
    obtain ⟨u, xs, rfl, hu, hown, hbits, hval, hl, hlt, hB⟩ := hrel
    have HV := Lib.hid hval; clear hval
    have HL := Lib.hid hlt; clear hlt
    by_cases h0 : 0 < u
    · have e0 : decide (0 < u) = true := by simpa using h0
      obtain ⟨b, hb⟩ : ∃ b, b = u % 2 := ⟨_, rfl⟩
      obtain ⟨m, hm⟩ : ∃ m, m = u / 2 := ⟨_, rfl⟩
      have e1 : (u : Int) % 2 = (b : Int) := by omega
      have e2 : (u : Int) / 2 = (m : Int) := by omega
      have hb1 : b ≤ 1 := by omega
      have hm1 : m < u := by omega
      have HB := Lib.hid hb; clear hb
      have HM := Lib.hid hm; clear hm
      have hsz := hB.size
      go_wp2_with (at_builtin; refine wpList_append_own _ rfl _ _ 55 rfl w.heap.size 3 i0 (.int .i64 0) 1 8 Tryd.underlying55 hi hz0 hz1 hz2 rfl (by decide) _ _ _ rfl (hown.alloc _) ⟨wr.heap.size, 0, none⟩ 1 1 [.int .i64 (b : Int)] rfl rfl ?c1 ?c2 ?c3 ?c4 ?c5 ?_)
      case c1 =>
        intro j x hj
        match j, hj with
        | 0, hj => simp at hj; subst hj; simp [Addr.add]
      case c2 => intro x hx; simp at hx; subst hx; rfl
      case c3 => unfold maxLen; omega
      case c4 => omega
      case c5 => simp; omega
      intro v' w1 hown' hg _
      have R := Lib.hid (rel_row h0 HB.out HM.out hown hbits HV.out hl HL.out hB hown' hg)
      clear hown' hg hown hbits
      go_wp2_with fail
      go_roundw
      case rel => exact ⟨m, xs ++ [b], rfl, by omega, R.out⟩
      case measure => simp [intOf]; omega
    · have e0 : decide (0 < u) = false := by simpa using h0
      have E := Lib.hid (show Rw.val xs = v by have := HV.out; rw [show u = 0 by omega] at this; simpa using this)
      go_wp2_with fail
      go_ret
      exact ⟨_, xs, rfl, hown, hbits, E.out, hl, hB⟩

def bitAt (xs : List Nat) (i : Int) : Nat := if 0 ≤ i then xs.getD i.toNat 0 else 0
set_option maxHeartbeats 1000000 in
theorem bit_any (v : Value) (xs : List Nat) (i : Int) (w : World) (h : Rd w v xs) (hi : -1000000 ≤ i ∧ i ≤ 1000000) :
    Calls Tryd.prog 56 #[v, .int .i64 i] w fun e w' => e = .returned (.int .i64 ((bitAt xs i : Nat) : Int)) ∧ w = w' := by
  have hl := h.1
  by_cases h0 : i < 0
  · have e0 : decide (i < 0) = true := by simpa using h0
    have E := Lib.hid (show bitAt xs i = 0 by unfold bitAt; rw [if_neg (by omega)])
    clear hl
    have HH := Lib.hid h; clear h
    go_enter Tryd.func56, Tryd.ntmps56
    go_wp2_with fail
    go_ret
    exact ⟨congrArg (fun n : Nat => Ending.returned (.int .i64 (n : Int))) E.out.symm, rfl⟩
  · obtain ⟨k, rfl⟩ := Int.eq_ofNat_of_zero_le (show 0 ≤ i by omega)
    have e0 : decide ((k : Int) < 0) = false := by simp
    have E := Lib.hid (show bitAt xs k = xs.getD k 0 by unfold bitAt; rw [if_pos (by omega)]; rfl)
    rcases h.2 with ⟨rfl, A, c, rfl⟩ | ⟨g, o, c, rfl, hg, hc, hm, hx⟩
    · have e1 : decide (0 ≤ (k : Int)) = true := by simp
      go_enter Tryd.func56, Tryd.ntmps56
      go_wp2_with fail
      go_ret
      exact ⟨congrArg (fun n : Nat => Ending.returned (.int .i64 (n : Int))) (E.out.trans (by simp)).symm, rfl⟩
    · unfold maxLen at hm
      by_cases hk : k < xs.length
      · have e1 : decide (xs.length ≤ k) = false := by simp; omega
        have hxk := hx k hk
        clear hx
        obtain ⟨b, hb⟩ : ∃ b, b = xs.getD k 0 := ⟨_, rfl⟩
        rw [← hb] at hxk E
        clear hb
        go_enter Tryd.func56, Tryd.ntmps56
        go_wp2_with fail
        go_ret
        exact ⟨congrArg (fun n : Nat => Ending.returned (.int .i64 (n : Int))) E.out.symm, rfl⟩
      · have e1 : decide (xs.length ≤ k) = true := by simp; omega
        have E2 := Lib.hid (show xs.getD k 0 = 0 by rw [List.getD_eq_getElem?_getD, List.getElem?_eq_none (by omega)]; rfl)
        clear hx
        go_enter Tryd.func56, Tryd.ntmps56
        go_wp2_with fail
        go_ret
        exact ⟨congrArg (fun n : Nat => Ending.returned (.int .i64 (n : Int))) (E.out.trans E2.out).symm, rfl⟩
end Go.Proofs.YtkcecmofbppodaaDoor
