/- A map from ints to slices that the call itself made, told by the value at each key; a range over it. -/
import Derived.Test.YtaiejdopmlajmaaCounts
import Derived.Maps.RangeWalk
namespace Go.Proofs.Ytaiejdopmlajmaa
open Go.RowKit Go.Maps

theorem zeroS (w : World) : (zeroValue 25).run Try.prog w = .ok (.slice none 0 0) w := by kernel_rfl
/-- A slice reads as itself. -/
def rdS : Value → Option (DataW Value × List MemPlace)
  | .slice a n c => some (.held (.slice a n c), [])
  | _ => none
theorem rdS_inv {v : Value} {y : DataW Value × List MemPlace} (h : rdS v = some y) : y = (.held v, []) ∧ ∃ a n c, v = .slice a n c := by
  unfold rdS at h
  split at h
  · cases h; exact ⟨rfl, _, _, _, rfl⟩
  · cases h

/-- Block b is a map of at most n entries; at each key lies what val says (nil where there is none). -/
def Vals (w : World) (b n : Nat) (D : DataW Value) (val : Int → Value) : Prop := w.ownsMap Try.prog 3 rdS b n D ∧ IsMap D ∧ ∀ z : Int, D.atKey (.int .i64 z) (.held (.slice none 0 0)) = .held (val z)
def put (val : Int → Value) (z : Int) (v : Value) : Int → Value := fun y => if y = z then v else val y

theorem Vals.made (w : World) : Vals (w.alloc (.map #[] 0)) w.heap.size 0 (.map []) (fun _ => .slice none 0 0) := ⟨World.ownsMap_made w _ _ _, isMap_empty, fun _ => rfl⟩
theorem Vals.kept {w w' : World} {b n : Nat} {D : DataW Value} {val : Int → Value} {row : Option Nat} (h : Vals w b n D val) (hg : w.grownBy w' row) (hne : some b ≠ row) : Vals w' b n D val := ⟨h.1.kept hg hne, h.2⟩
theorem Vals.lt {w : World} {b n : Nat} {D : DataW Value} {val : Int → Value} (h : Vals w b n D val) : b < w.heap.size := h.1.lt
theorem Vals.look {w : World} {b n : Nat} {D : DataW Value} {val : Int → Value} (h : Vals w b n D val) {z : Int} (hz : -9223372036854775808 ≤ z ∧ z ≤ 9223372036854775807) :
    (Instr.lookup 45 (.map (some b)) (.int .i64 z) false).run Try.prog w = .ok (val z) w := by
  obtain ⟨v, ps, hrun, hv⟩ := h.1.lookup lawI Try.underlying45 (zeroS w) (zd := .held (.slice none 0 0)) (zp := []) rfl (keyOf_int_mk Try.underlying3 (i64_wf hz))
  obtain ⟨e, _⟩ := rdS_inv hv
  rw [h.2.2 z] at e
  injection e with e _
  injection e with e
  rw [hrun, e]
theorem Vals.store {w : World} {b n : Nat} {D : DataW Value} {val : Int → Value} (h : Vals w b n D val) {z : Int} (hz : -9223372036854775808 ≤ z ∧ z ≤ 9223372036854775807) (hn : n ≤ 1000000) (A : Option Addr) (m c : Nat) :
    ∃ w' D', (Instr.mapUpdate 45 (.map (some b)) (.int .i64 z) (.slice A m c)).run Try.prog w = .ok () w' ∧ Vals w' b (n + 1) D' (put val z (.slice A m c)) ∧ w.grownBy w' (some b) := by
  obtain ⟨w', hrun, hown, hg⟩ := h.1.update lawI Try.underlying45 (by unfold maxLen; omega) (keyOf_int_mk Try.underlying3 (i64_wf hz)) (val := .slice A m c) (d := .held (.slice A m c)) (ps := []) rfl
  refine ⟨w', _, hrun, ⟨hown, h.2.1.put _ _, fun y => ?_⟩, hg⟩
  unfold put
  by_cases e : y = z
  · subst e
    rw [if_pos rfl, atKey_put_same h.2.1 (show WideAt.IsKeyLit (.int .i64 y) from trivial)]
  · rw [if_neg e, atKey_put_other (fun h => e (by injection h))]
    exact h.2.2 y

/-- A range over it, under way. -/
def Ranging (w : World) (b r n : Nat) (D : DataW Value) (val : Int → Value) (left : Lit → Bool) (cnt : Nat) : Prop := w.ranges Try.prog 3 rdS b r n D left cnt ∧ ∀ z : Int, D.atKey (.int .i64 z) (.held (.slice none 0 0)) = .held (val z)
theorem Ranging.kept {w w' : World} {b r n cnt : Nat} {D : DataW Value} {val : Int → Value} {left : Lit → Bool} {row : Option Nat} (h : Ranging w b r n D val left cnt) (hg : w.grownBy w' row) (hb : some b ≠ row) (hr : some r ≠ row) : Ranging w' b r n D val left cnt := ⟨h.1.kept hg hb hr, h.2⟩
end Go.Proofs.Ytaiejdopmlajmaa
