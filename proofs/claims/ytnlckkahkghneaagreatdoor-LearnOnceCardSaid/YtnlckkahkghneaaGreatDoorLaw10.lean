/- What the laws of layer 10 share. -/
import Derived.Test.YtnlckkahkghneaaGreatDoorAw10
import Derived.Test.YtnlckkahkghneaaGreatDoorShapes9
import Derived.Test.YtnlckkahkghneaaGreatDoorShapes10
set_option maxRecDepth 20000
namespace Go.Proofs.YtnlckkahkghneaaGreatDoor.LE
open Go.RowKit Sg
theorem req_keep (s : St) (k : ByteArray) : (s.req k).six = s.six ∧ (s.req k).mo = s.mo := by
  by_cases hm : s.mo = 0
  · unfold St.req
    rw [if_pos hm]
    exact ⟨rfl, rfl⟩
  · cases hk : s.has k with
    | true => rw [req_hit hm hk, (window_same _).1, (window_same _).2.1]; exact ⟨rfl, rfl⟩
    | false =>
      rw [req_miss hm hk, (window_same _).1, (window_same _).2.1]
      exact ⟨(make_w s.tick k).2.1, (make_w s.tick k).2.2.1⟩
/-- A row of keys that came in. -/
def KRow (w : World) (A : Option Addr) (n cc : Nat) (S : Nat → ByteArray) : Prop :=
  (∀ i, i < n → (S i).size ≤ maxLen) ∧ (0 < n → ∃ g o, A = some ⟨g, o, none⟩ ∧ g < w.heap.size ∧ n ≤ cc ∧ cc ≤ maxLen ∧ ∀ i, i < n → w.cell? ⟨g, o + i, none⟩ = some (.string (S i)))
theorem kd_six {a : Int} (h : 5 ≤ a ∧ a ≤ 6) : ∃ six : Bool, ((if six then 6 else 5 : Nat) : Int) = a := by
  by_cases h6 : a = 6
  · exact ⟨true, by rw [if_pos rfl]; omega⟩
  · exact ⟨false, by rw [if_neg (by simp)]; omega⟩
end Go.Proofs.YtnlckkahkghneaaGreatDoor.LE
