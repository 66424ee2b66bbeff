/- A map from ints to ints that the call itself made, told by what it counts at each key. -/
import Derived.Test.YtaiejdopmlajmaaLits
import Derived.Maps.OwnOps
import Derived.Maps.OwnSet
namespace Go.Proofs.Ytaiejdopmlajmaa
open Go.RowKit Go.Maps

theorem lawI : Keyed Try.prog 3 := int_keyed Try.underlying3
theorem zeroI (w : World) : (zeroValue 3).run Try.prog w = .ok (.int .i64 0) w := by kernel_rfl
theorem i64_wf {z : Int} (h : -9223372036854775808 ≤ z ∧ z ≤ 9223372036854775807) : (Lit.int .i64 z).wf = true := by
  refine (Bool.and_eq_true _ _).mpr ⟨decide_eq_true h.1, decide_eq_true h.2⟩

/-- Block b is a map of at most n entries; at each key it reads what cnt says. -/
def Counts (w : World) (b n : Nat) (cnt : Int → Nat) : Prop := ∃ D : DataW Unit, w.ownsMap Try.prog 3 (plainElem Try.prog 3) b n D ∧ IsMap D ∧ ∀ z : Int, D.atKey (.int .i64 z) (.lit (.int .i64 0)) = .lit (.int .i64 (cnt z : Int))
def bump (cnt : Int → Nat) (z : Int) : Int → Nat := fun y => if y = z then cnt z + 1 else cnt y

theorem Counts.made (w : World) : Counts (w.alloc (.map #[] 0)) w.heap.size 0 (fun _ => 0) := ⟨.map [], World.ownsMap_made w _ _ _, isMap_empty, fun _ => rfl⟩
theorem Counts.kept {w w' : World} {b n : Nat} {cnt : Int → Nat} {row : Option Nat} (h : Counts w b n cnt) (hg : w.grownBy w' row) (hne : some b ≠ row) : Counts w' b n cnt := by
  obtain ⟨D, h1, h2⟩ := h
  exact ⟨D, h1.kept hg hne, h2⟩
theorem Counts.lt {w : World} {b n : Nat} {cnt : Int → Nat} (h : Counts w b n cnt) : b < w.heap.size := by
  obtain ⟨D, h1, _⟩ := h
  exact h1.lt
theorem Counts.mono {w : World} {b n m : Nat} {cnt : Int → Nat} (h : Counts w b n cnt) (hn : n ≤ m) : Counts w b m cnt := by
  obtain ⟨D, h1, h2⟩ := h
  exact ⟨D, h1.mono hn, h2⟩
theorem Counts.look {w : World} {b n : Nat} {cnt : Int → Nat} (h : Counts w b n cnt) {z : Int} (hz : -9223372036854775808 ≤ z ∧ z ≤ 9223372036854775807) :
    (Instr.lookup 29 (.map (some b)) (.int .i64 z) false).run Try.prog w = .ok (.int .i64 (cnt z : Int)) w := by
  obtain ⟨D, h1, _, h3⟩ := h
  obtain ⟨c, hrun, hat, _⟩ := h1.lookup_int lawI Try.underlying29 Try.underlying3 (zeroI w) (keyOf_int_mk Try.underlying3 (i64_wf hz))
  rw [h3 z] at hat
  injection hat with hat
  injection hat with _ hat
  rw [hrun, hat]
theorem Counts.store {w : World} {b n : Nat} {cnt : Int → Nat} (h : Counts w b n cnt) {z : Int} (hz : -9223372036854775808 ≤ z ∧ z ≤ 9223372036854775807) (hc : cnt z ≤ 1000000) (hn : n ≤ 1000000) :
    ∃ w', (Instr.mapUpdate 29 (.map (some b)) (.int .i64 z) (.int .i64 ((cnt z : Int) + 1))).run Try.prog w = .ok () w' ∧ Counts w' b (n + 1) (bump cnt z) ∧ w.grownBy w' (some b) := by
  obtain ⟨D, h1, h2, h3⟩ := h
  obtain ⟨w', hrun, hown, hg⟩ := h1.update lawI Try.underlying29 (by unfold maxLen; omega) (keyOf_int_mk Try.underlying3 (i64_wf hz)) (plainElem_int Try.underlying3 (i64_wf (z := (cnt z : Int) + 1) (by omega)))
  refine ⟨w', hrun, ⟨_, hown, h2.put _ _, fun y => ?_⟩, hg⟩
  unfold bump
  by_cases e : y = z
  · subst e
    rw [if_pos rfl, atKey_put_same h2 (show WideAt.IsKeyLit (.int .i64 y) from trivial)]
    rfl
  · rw [if_neg e, atKey_put_other (fun h => e (by injection h))]
    exact h3 y
end Go.Proofs.Ytaiejdopmlajmaa
