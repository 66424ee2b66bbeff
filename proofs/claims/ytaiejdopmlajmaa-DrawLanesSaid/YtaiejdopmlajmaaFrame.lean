/- What the rows of this seat share: the arguments' ranges and shapes. -/
import Derived.Test.YtaiejdopmlajmaaRows
import Derived.Test.YtaiejdopmlajmaaAlive
import Derived.ProofKit
import Derived.OpenShut
import Derived.ShutString
import Derived.ChangeOld
namespace Go.Proofs.Ytaiejdopmlajmaa
open Go.ChangeShapes Go.WideShapes Go.ChangeAt Go.RowKit

theorem own : ownKnob Try.prog.godebug = none := by kernel_rfl
theorem laidOut : laidOutB Try.prog = true := by kernel_rfl
theorem u64_nat {a : Int} (h : (Lit.int .u64 a).wf = true) : ∃ n : Nat, a = (n : Int) ∧ n ≤ 18446744073709551615 := by
  have h' : (0 : Int) ≤ a ∧ a ≤ 18446744073709551615 := by
    have := (Bool.and_eq_true _ _).mp h
    exact ⟨of_decide_eq_true this.1, of_decide_eq_true this.2⟩
  exact ⟨a.toNat, by omega, by omega⟩
theorem u8_nat {a : Int} (h : (Lit.int .u8 a).wf = true) : ∃ n : Nat, a = (n : Int) ∧ n ≤ 255 := by
  have h' : (0 : Int) ≤ a ∧ a ≤ 255 := by
    have := (Bool.and_eq_true _ _).mp h
    exact ⟨of_decide_eq_true this.1, of_decide_eq_true this.2⟩
  exact ⟨a.toNat, by omega, by omega⟩
theorem i64_rng {a : Int} (h : (Lit.int .i64 a).wf = true) : -9223372036854775808 ≤ a ∧ a ≤ 9223372036854775807 := by
  have := (Bool.and_eq_true _ _).mp h
  exact ⟨of_decide_eq_true this.1, of_decide_eq_true this.2⟩
end Go.Proofs.Ytaiejdopmlajmaa
