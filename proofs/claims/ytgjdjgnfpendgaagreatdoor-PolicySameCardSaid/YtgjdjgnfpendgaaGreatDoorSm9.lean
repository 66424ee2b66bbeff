/- Two policies side by side, a call of a script in a variable; the laws' Few. -/
import Derived.Test.YtgjdjgnfpendgaaGreatDoorAw9
import Derived.Test.YtgjdjgnfpendgaaGreatDoorRc9
set_option maxRecDepth 20000
namespace Go.Proofs.YtgjdjgnfpendgaaGreatDoor
open Go.RowKit Sg

structure Pr2 (w0 W : World) (p : Nat) (U : Nat → Prop) (s : KSt) (b : Nat) (p2 : Nat) (U2 : Nat → Prop) (s2 : KSt) (b2 : Nat) : Prop where
  one : PLive w0 W p U s b
  two : PLive w0 W p2 U2 s2 b2
  dis : ∀ k, U k → ¬ U2 k
section
variable {w0 W W' : World} {p p2 b b2 b' : Nat} {U U' U2 : Nat → Prop} {s s' s2 : KSt} {r : Value} {e : Ending}
theorem Pr2.below (h : Pr2 w0 W p U s b p2 U2 s2 b2) (hb : Below W.heap.size W W') : Pr2 w0 W' p U s b p2 U2 s2 b2 := ⟨h.one.below hb, h.two.below hb, h.dis⟩
theorem Pr2.op1 (h : Pr2 w0 W p U s b p2 U2 s2 b2) (hp : PPost r W p U s' b' e W') : e = .returned r ∧ ∃ U', Pr2 w0 W' p U' s' b' p2 U2 s2 b2 ∧ Went W W' U U' := by
  obtain ⟨he, U', h1, h2⟩ := h.one.op hp
  refine ⟨he, U', ⟨h1, ⟨h.two.ca.beside h2.turn (fun k hk hu => h.dis k hu hk), h1.bel, h.two.low⟩, fun k hk hu => ?_⟩, h2⟩
  rcases h2.new k hk with e | e
  · exact h.dis k e hu
  · have := h.two.lt k hu; omega
theorem Pr2.swap (h : Pr2 w0 W p U s b p2 U2 s2 b2) : Pr2 w0 W p2 U2 s2 b2 p U s b := ⟨h.two, h.one, fun k h2 h1 => h.dis k h1 h2⟩
theorem Pr2.op2 (h : Pr2 w0 W p U s b p2 U2 s2 b2) (hp : PPost r W p2 U2 s' b' e W') : e = .returned r ∧ ∃ U', Pr2 w0 W' p U s b p2 U' s' b' ∧ Went W W' U2 U' := by
  obtain ⟨he, U', h1, h2⟩ := h.swap.op1 hp
  exact ⟨he, U', h1.swap, h2⟩
end
/-- .. and a call of a script. -/
structure PA2 (w0 W : World) (p : Nat) (U : Nat → Prop) (s : KSt) (b : Nat) (p2 : Nat) (U2 : Nat → Prop) (s2 : KSt) (b2 : Nat) (ga : Nat) (kd : Int) (key : ByteArray) (nn : Int) : Prop where
  pr : Pr2 w0 W p U s b p2 U2 s2 b2
  act : W.heap[ga]? = some (.cells #[.int .i64 kd, .string key, .int .i64 nn] 47 (0, 0))
  a1 : ¬ U ga
  a2 : ¬ U2 ga
section
variable {w0 W W' : World} {p p2 b b2 b' ga : Nat} {U U' U2 : Nat → Prop} {s s' s2 : KSt} {r : Value} {e : Ending} {kd nn : Int} {key : ByteArray}
theorem PA2.lt (h : PA2 w0 W p U s b p2 U2 s2 b2 ga kd key nn) : ga < W.heap.size := (Array.getElem?_eq_some_iff.1 h.act).1
theorem PA2.below (h : PA2 w0 W p U s b p2 U2 s2 b2 ga kd key nn) (hb : Below W.heap.size W W') : PA2 w0 W' p U s b p2 U2 s2 b2 ga kd key nn := ⟨h.pr.below hb, (hb.block ga h.lt).trans h.act, h.a1, h.a2⟩
theorem PA2.made (h : Pr2 w0 W p U s b p2 U2 s2 b2) (kd : Int) (key : ByteArray) (nn : Int) : PA2 w0 (W.alloc (.cells #[.int .i64 kd, .string key, .int .i64 nn] 47)) p U s b p2 U2 s2 b2 W.heap.size kd key nn :=
  ⟨h.below ((Below.refl W.heap.size W).alloc (Nat.le_refl _) _), heap_alloc_new _ _, fun hk => by have := h.one.lt _ hk; omega, fun hk => by have := h.two.lt _ hk; omega⟩
theorem PA2.op1 (h : PA2 w0 W p U s b p2 U2 s2 b2 ga kd key nn) (hp : PPost r W p U s' b' e W') : e = .returned r ∧ ∃ U', PA2 w0 W' p U' s' b' p2 U2 s2 b2 ga kd key nn := by
  obtain ⟨he, U', h1, h2⟩ := h.pr.op1 hp
  have o := AR.went_out h2 h.lt h.a1
  exact ⟨he, U', h1, o.1.trans h.act, o.2, h.a2⟩
theorem PA2.op2 (h : PA2 w0 W p U s b p2 U2 s2 b2 ga kd key nn) (hp : PPost r W p2 U2 s' b' e W') : e = .returned r ∧ ∃ U', PA2 w0 W' p U s b p2 U' s' b' ga kd key nn := by
  obtain ⟨he, U', h1, h2⟩ := h.pr.op2 hp
  have o := AR.went_out h2 h.lt h.a2
  exact ⟨he, U', h1, o.1.trans h.act, h.a1, o.2⟩
theorem PA2.k (h : PA2 w0 W p U s b p2 U2 s2 b2 ga kd key nn) : W.cell? ⟨ga, 0, none⟩ = some (.int .i64 kd) ∧ W.cell? ⟨ga, 1, none⟩ = some (.string key) ∧ W.cell? ⟨ga, 2, none⟩ = some (.int .i64 nn) :=
  ⟨cell_of_row W _ 0 _ _ _ h.act, cell_of_row W _ 1 _ _ _ h.act, cell_of_row W _ 2 _ _ _ h.act⟩
end

/-- Few, told by what it leaves open alone. -/
def FewPost (n : Nat) (w : World) (e : Ending) (w' : World) : Prop := ∃ t : Bool, e = .returned (.bool t) ∧ w = w' ∧ (t = true → n ≤ 200)
theorem few_any (A : Option Addr) (n cc : Nat) (w : World) (S : Nat → ByteArray) (hn : n ≤ maxLen) (hS : ∀ i, i < n → (S i).size ≤ maxLen)
    (hc : 0 < n → ∃ g o, A = some ⟨g, o, none⟩ ∧ g < w.heap.size ∧ n ≤ cc ∧ cc ≤ maxLen ∧ ∀ i, i < n → w.cell? ⟨g, o + i * 3 + 1, none⟩ = some (.string (S i))) :
    Calls Tryz.prog 12 #[.slice A n cc] w (FewPost n w) := by
  have HC := Lib.hid hc
  have HS := Lib.hid hS
  unfold maxLen at hn
  clear hc hS
  go_enter Tryz.func12, Tryz.ntmps12
  go_wp2_with fail
  go_loop [3] (fun i => ∃ k : Nat, i = .int .i64 (k : Int) ∧ k ≤ n ∧ k ≤ 200) (fun i => n - (intOf i).toNat)
  case atStart => exact ⟨0, rfl, Nat.zero_le _, by omega⟩
  case round =>
    obtain ⟨k, rfl, hk, hk2⟩ := hrel
    by_cases hlt : k < n
    · have e0 : decide (k < n) = true := by simpa using hlt
      obtain ⟨g, o, rfl, hg, hc1, hc2, hcell⟩ := HC.out (by omega)
      have h1 := hcell k hlt
      have hsk := HS.out k hlt
      clear hcell
      unfold maxLen at hc2 hsk
      by_cases hb : k < 200
      · have e1 : decide (200 ≤ (k : Int)) = false := by simp; omega
        by_cases hbig : (S k).size ≤ 200
        · have e2 : decide (200 < ((S k).size : Int)) = false := by simp; omega
          go_wp2_with fail
          go_round
          case rel => exact ⟨k + 1, by go_num, by omega, by omega⟩
          case measure => simp [intOf]; omega
        · have e2 : decide (200 < ((S k).size : Int)) = true := by simp; omega
          go_wp2_with fail
          go_ret
          exact ⟨false, rfl, rfl, fun h => by cases h⟩
      · have e1 : decide (200 ≤ (k : Int)) = true := by simp; omega
        go_wp2_with fail
        go_ret
        exact ⟨false, rfl, rfl, fun h => by cases h⟩
    · have e0 : decide (k < n) = false := by simpa using hlt
      go_wp2_with fail
      go_ret
      exact ⟨true, rfl, rfl, fun _ => by omega⟩
/-- Behind so many calls of a script: both policies have the same. -/
def SmR (w0 : World) (p p2 n : Nat) (kd mo : Nat) (i : Value) (W : World) : Prop := ∃ (k : Nat) (U U2 : Nat → Prop) (st : KSt) (b : Nat), i = .int .i64 (k : Int) ∧ k ≤ n ∧ b ≤ k ∧ Pr2 w0 W p U st b p2 U2 st b
end Go.Proofs.YtgjdjgnfpendgaaGreatDoor
