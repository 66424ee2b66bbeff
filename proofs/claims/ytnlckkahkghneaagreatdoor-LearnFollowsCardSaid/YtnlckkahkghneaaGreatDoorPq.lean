/- A fault of package policy; the sizes that may be. -/
import Derived.Test.YtnlckkahkghneaaGreatDoorKw
import Derived.Test.YtnlckkahkghneaaGreatDoorErrc
set_option maxRecDepth 20000
namespace Go.Proofs.YtnlckkahkghneaaGreatDoor
open Go.RowKit Sg

/-- A fault of that Op that wraps that number. -/
def Flt (w : World) (s : ByteArray) (n : Int) (v : Value) : Prop :=
  ∃ g, v = .iface 95 (.pointer (some ⟨g, 0, none⟩)) ∧ g < w.heap.size ∧ w.heap[g]? = some (.cells #[.string s, .string ⟨#[]⟩, .iface 96 (.int .i64 n)] 98 (0, 0))
theorem Flt.below {w w' : World} {s : ByteArray} {n : Int} {v : Value} (h : Flt w s n v) (hb : Below w.heap.size w w') : Flt w' s n v := by
  obtain ⟨g, rfl, hg, hx⟩ := h
  exact ⟨g, rfl, Nat.lt_of_lt_of_le hg hb.size, (hb.block g hg).trans hx⟩
theorem Flt.wraps {w : World} {s : ByteArray} {n : Int} {v : Value} (h : Flt w s n v) (hn : n ≠ 0) (hl : Laid w) :
    Calls Tryz.prog 16 #[v, .string s, .string ⟨#[]⟩, .int .i64 n] w (fun e w' => e = .returned (.bool true) ∧ Below w.heap.size w w') := by
  obtain ⟨g, rfl, hg, hx⟩ := h
  exact wraps_code g s ⟨#[]⟩ n hn w hl hg (cell_of_row w _ 0 _ _ _ hx) (cell_of_row w _ 1 _ _ _ hx) (cell_of_row w _ 2 _ _ _ hx)

theorem isRoom_any (w : World) (z : Int) : Calls Tryz.prog 90 #[.int .i64 z] w (fun e w' => e = .returned (.bool (decide (0 ≤ z) && decide (z ≤ 16777216))) ∧ w = w') := by
  go_enter Tryz.func90, Tryz.ntmps90
  by_cases h0 : 0 ≤ z
  · by_cases h1 : z ≤ 16777216
    · rw [decide_eq_true h0, decide_eq_true h1]
      go_wp2_with fail
      go_ret
      exact ⟨rfl, rfl⟩
    · rw [decide_eq_true h0, decide_eq_false h1]
      go_wp2_with fail
      go_ret
      exact ⟨rfl, rfl⟩
  · rw [decide_eq_false h0]
    go_wp2_with fail
    go_ret
    exact ⟨rfl, rfl⟩

end Go.Proofs.YtnlckkahkghneaaGreatDoor
