/- What the texts of package draw stand on. -/
import Derived.Test.YtnlckkahkghneaaGreatDoorChecked
import Derived.WalkKit
import Derived.IntWalk
import Derived.LoopTactic
import Derived.Lib.Hide
namespace Go.Proofs.YtnlckkahkghneaaGreatDoor.DR
theorem ret_int {k : IntKind} {a b : Int} (h : a = b) : Ending.returned (.int k a) = .returned (.int k b) := by rw [h]
theorem ret_bool {a b : Bool} (h : a = b) : Ending.returned (.bool a) = .returned (.bool b) := by rw [h]
end Go.Proofs.YtnlckkahkghneaaGreatDoor.DR
