/-
  NARROWER THAN 'FOR EVERY INPUT', by the rows' own cells (each row's printed sentence says how): InstKeeps: laid · InstEnough: laid · InstOne: laid · InstDrains: laid · InstAdopts: laid · InstShrinks: laid · InstForgets: laid.
  DERIVED. THE GIVEN ROWS OF THIS SEAT. 7 by the template 'for every input the law returns true; each argument reads behind the call as it read before'; 0 by the template 'total and deterministic' (their statements: YtbbogjhapeogeaaGreatDoorTotals.lean).
  GIVEN WITH THE SEED: the statements are not yours to turn. If you find one false, say at which input.
  Laid BY PROGRAM, IN A SANDBOX (cutbox-rows.mjs): the forced cells as the released guide's own fill.sh prints them over the translation b7a6a408f5c8283c… (all of the seat's roots in one cut). By AI agents, Wed Nov 11 2026. No macro, syntax, notation, axiom, sorry.
-/
import Derived.Test.YtbbogjhapeogeaaGreatDoorChecked
import GoSem.Claim
import GoSem.ClaimJoined
import GoSem.ClaimMapViews
import Derived.JoinedTies
import Derived.KernelRfl
namespace Go.Proofs.YtbbogjhapeogeaaGreatDoor
/- THE CELL 'sum', in the pinned program and in every row, IS THE sha256 OF THE DUMP (.gsa) THAT YtbbogjhapeogeaaGreatDoorProg.lean LOADS. Nothing in Lean hashes anything: it is a label: what it is worth is what the hold of that sum in a sandbox is worth. -/
noncomputable def Tryz.pinned : Pinned := { name := "ytbbogjhapeogeaagreatdoor", sum := "b7a6a408f5c8283c9c60d6ff9270dd9c61ffd21fe4175d629cec3fff5c3cf332", checked := Tryz.checked }
namespace Rows
def none {H : Type} : Left H := { results := [], args := [] }

/- WHAT THE LISTED PACKAGE-LEVEL VARIABLES READ AS WHEN THE CALL BEGINS. Each datum BY PROGRAM (the guide's laid-datum.mjs) off the statement by which the dump's own 'gosem.cut.vars' lays the variable. In a bare row this is a premise. The card (YtbbogjhapeogeaaGreatDoorCards.lean) ties it to the program's text. -/
def laid_errors_errorType {H : Type} : DataW H := .iface "internal/reflectlite.rtype" (.agg [.ptr (.lit (.string [101, 114, 114, 111, 114]))])
def laid_cachewise_policy_names {H : Type} : DataW H := .agg [.lit (.string [76, 82, 85]), .lit (.string [76, 70, 85]), .lit (.string [67, 82, 45, 76, 70, 85]), .lit (.string [83, 82, 45, 76, 82, 85]), .lit (.string [65, 82, 67]), .lit (.string [76, 101, 67, 97, 82]), .lit (.string [67, 65, 67, 72, 69, 85, 83])]

/-- 'cachewiselaw11.InstKeeps': WHATEVER THE INPUT: true; the input reads as it did. -/
def instKeepsSpec : ChangeSpec := { name := "instKeeps", fn := fun _ => fun
  | [d1, d2, d3, d4] => { results := [.lit (.bool true)], args := [d1, d2, d3, d4] }
  | _ => none }
def instKeepsRow : OpenClaim := { program := "ytbbogjhapeogeaagreatdoor", sum := "b7a6a408f5c8283c9c60d6ff9270dd9c61ffd21fe4175d629cec3fff5c3cf332", func := "cachewise/cachewiselaw11.InstKeeps", spec := "instKeeps", inPlace := ["internal/reflectlite.ValueOf", "(internal/reflectlite.Value).Type", "(internal/reflectlite.Value).IsNil", "internal/reflectlite.TypeOf", "(internal/reflectlite.Value).Elem", "(internal/reflectlite.Value).Set"], unfollowed := true, recurses := true, named := ["math/bits.divideError", "math/bits.overflowError", "cachewise/policy.names", "errors.errorType"], apart := false, laid := [("errors.errorType", laid_errors_errorType), ("cachewise/policy.names", laid_cachewise_policy_names)] }
def InstKeepsSaid : Prop := instKeepsRow.holds Tryz.pinned (OpenSpec.ofChange instKeepsSpec)

/-- ITS FALSE NEIGHBOUR: 'it returns false'. Refute it at one input. -/
def instKeepsWrong : ChangeSpec := { name := "instKeeps", fn := fun _ => fun
  | [d1, d2, d3, d4] => { results := [.lit (.bool false)], args := [d1, d2, d3, d4] }
  | _ => none }
def InstKeepsWrongFalsely : Prop := instKeepsRow.holds Tryz.pinned (OpenSpec.ofChange instKeepsWrong)

/-- 'cachewiselaw11.InstEnough': WHATEVER THE INPUT: true; the input reads as it did. -/
def instEnoughSpec : ChangeSpec := { name := "instEnough", fn := fun _ => fun
  | [d1, d2, d3, d4] => { results := [.lit (.bool true)], args := [d1, d2, d3, d4] }
  | _ => none }
def instEnoughRow : OpenClaim := { program := "ytbbogjhapeogeaagreatdoor", sum := "b7a6a408f5c8283c9c60d6ff9270dd9c61ffd21fe4175d629cec3fff5c3cf332", func := "cachewise/cachewiselaw11.InstEnough", spec := "instEnough", inPlace := ["internal/reflectlite.ValueOf", "(internal/reflectlite.Value).Type", "(internal/reflectlite.Value).IsNil", "internal/reflectlite.TypeOf", "(internal/reflectlite.Value).Elem", "(internal/reflectlite.Value).Set"], unfollowed := true, recurses := true, named := ["math/bits.divideError", "math/bits.overflowError", "cachewise/policy.names", "errors.errorType"], apart := false, laid := [("errors.errorType", laid_errors_errorType), ("cachewise/policy.names", laid_cachewise_policy_names)] }
def InstEnoughSaid : Prop := instEnoughRow.holds Tryz.pinned (OpenSpec.ofChange instEnoughSpec)

/-- ITS FALSE NEIGHBOUR: 'it returns false'. Refute it at one input. -/
def instEnoughWrong : ChangeSpec := { name := "instEnough", fn := fun _ => fun
  | [d1, d2, d3, d4] => { results := [.lit (.bool false)], args := [d1, d2, d3, d4] }
  | _ => none }
def InstEnoughWrongFalsely : Prop := instEnoughRow.holds Tryz.pinned (OpenSpec.ofChange instEnoughWrong)

/-- 'cachewiselaw11.InstOne': WHATEVER THE INPUT: true; the input reads as it did. -/
def instOneSpec : ChangeSpec := { name := "instOne", fn := fun _ => fun
  | [d1, d2, d3] => { results := [.lit (.bool true)], args := [d1, d2, d3] }
  | _ => none }
def instOneRow : OpenClaim := { program := "ytbbogjhapeogeaagreatdoor", sum := "b7a6a408f5c8283c9c60d6ff9270dd9c61ffd21fe4175d629cec3fff5c3cf332", func := "cachewise/cachewiselaw11.InstOne", spec := "instOne", inPlace := ["internal/reflectlite.ValueOf", "(internal/reflectlite.Value).Type", "(internal/reflectlite.Value).IsNil", "internal/reflectlite.TypeOf", "(internal/reflectlite.Value).Elem", "(internal/reflectlite.Value).Set"], unfollowed := true, recurses := true, named := ["math/bits.divideError", "math/bits.overflowError", "cachewise/policy.names", "errors.errorType"], apart := false, laid := [("errors.errorType", laid_errors_errorType), ("cachewise/policy.names", laid_cachewise_policy_names)] }
def InstOneSaid : Prop := instOneRow.holds Tryz.pinned (OpenSpec.ofChange instOneSpec)

/-- ITS FALSE NEIGHBOUR: 'it returns false'. Refute it at one input. -/
def instOneWrong : ChangeSpec := { name := "instOne", fn := fun _ => fun
  | [d1, d2, d3] => { results := [.lit (.bool false)], args := [d1, d2, d3] }
  | _ => none }
def InstOneWrongFalsely : Prop := instOneRow.holds Tryz.pinned (OpenSpec.ofChange instOneWrong)

/-- 'cachewiselaw11.InstDrains': WHATEVER THE INPUT: true; the input reads as it did. -/
def instDrainsSpec : ChangeSpec := { name := "instDrains", fn := fun _ => fun
  | [d1, d2, d3, d4] => { results := [.lit (.bool true)], args := [d1, d2, d3, d4] }
  | _ => none }
def instDrainsRow : OpenClaim := { program := "ytbbogjhapeogeaagreatdoor", sum := "b7a6a408f5c8283c9c60d6ff9270dd9c61ffd21fe4175d629cec3fff5c3cf332", func := "cachewise/cachewiselaw11.InstDrains", spec := "instDrains", inPlace := ["internal/reflectlite.ValueOf", "(internal/reflectlite.Value).Type", "(internal/reflectlite.Value).IsNil", "internal/reflectlite.TypeOf", "(internal/reflectlite.Value).Elem", "(internal/reflectlite.Value).Set"], unfollowed := true, recurses := true, named := ["math/bits.divideError", "math/bits.overflowError", "cachewise/policy.names", "errors.errorType"], apart := false, laid := [("errors.errorType", laid_errors_errorType), ("cachewise/policy.names", laid_cachewise_policy_names)] }
def InstDrainsSaid : Prop := instDrainsRow.holds Tryz.pinned (OpenSpec.ofChange instDrainsSpec)

/-- ITS FALSE NEIGHBOUR: 'it returns false'. Refute it at one input. -/
def instDrainsWrong : ChangeSpec := { name := "instDrains", fn := fun _ => fun
  | [d1, d2, d3, d4] => { results := [.lit (.bool false)], args := [d1, d2, d3, d4] }
  | _ => none }
def InstDrainsWrongFalsely : Prop := instDrainsRow.holds Tryz.pinned (OpenSpec.ofChange instDrainsWrong)

/-- 'cachewiselaw11.InstAdopts': WHATEVER THE INPUT: true; the input reads as it did. -/
def instAdoptsSpec : ChangeSpec := { name := "instAdopts", fn := fun _ => fun
  | [d1, d2, d3, d4] => { results := [.lit (.bool true)], args := [d1, d2, d3, d4] }
  | _ => none }
def instAdoptsRow : OpenClaim := { program := "ytbbogjhapeogeaagreatdoor", sum := "b7a6a408f5c8283c9c60d6ff9270dd9c61ffd21fe4175d629cec3fff5c3cf332", func := "cachewise/cachewiselaw11.InstAdopts", spec := "instAdopts", inPlace := ["internal/reflectlite.ValueOf", "(internal/reflectlite.Value).Type", "(internal/reflectlite.Value).IsNil", "internal/reflectlite.TypeOf", "(internal/reflectlite.Value).Elem", "(internal/reflectlite.Value).Set"], unfollowed := true, recurses := true, named := ["math/bits.divideError", "math/bits.overflowError", "cachewise/policy.names", "errors.errorType"], apart := false, laid := [("errors.errorType", laid_errors_errorType), ("cachewise/policy.names", laid_cachewise_policy_names)] }
def InstAdoptsSaid : Prop := instAdoptsRow.holds Tryz.pinned (OpenSpec.ofChange instAdoptsSpec)

/-- ITS FALSE NEIGHBOUR: 'it returns false'. Refute it at one input. -/
def instAdoptsWrong : ChangeSpec := { name := "instAdopts", fn := fun _ => fun
  | [d1, d2, d3, d4] => { results := [.lit (.bool false)], args := [d1, d2, d3, d4] }
  | _ => none }
def InstAdoptsWrongFalsely : Prop := instAdoptsRow.holds Tryz.pinned (OpenSpec.ofChange instAdoptsWrong)

/-- 'cachewiselaw11.InstShrinks': WHATEVER THE INPUT: true; the input reads as it did. -/
def instShrinksSpec : ChangeSpec := { name := "instShrinks", fn := fun _ => fun
  | [d1, d2, d3, d4, d5] => { results := [.lit (.bool true)], args := [d1, d2, d3, d4, d5] }
  | _ => none }
def instShrinksRow : OpenClaim := { program := "ytbbogjhapeogeaagreatdoor", sum := "b7a6a408f5c8283c9c60d6ff9270dd9c61ffd21fe4175d629cec3fff5c3cf332", func := "cachewise/cachewiselaw11.InstShrinks", spec := "instShrinks", inPlace := ["internal/reflectlite.ValueOf", "(internal/reflectlite.Value).Type", "(internal/reflectlite.Value).IsNil", "internal/reflectlite.TypeOf", "(internal/reflectlite.Value).Elem", "(internal/reflectlite.Value).Set"], unfollowed := true, recurses := true, named := ["math/bits.divideError", "math/bits.overflowError", "cachewise/policy.names", "errors.errorType"], apart := false, laid := [("errors.errorType", laid_errors_errorType), ("cachewise/policy.names", laid_cachewise_policy_names)] }
def InstShrinksSaid : Prop := instShrinksRow.holds Tryz.pinned (OpenSpec.ofChange instShrinksSpec)

/-- ITS FALSE NEIGHBOUR: 'it returns false'. Refute it at one input. -/
def instShrinksWrong : ChangeSpec := { name := "instShrinks", fn := fun _ => fun
  | [d1, d2, d3, d4, d5] => { results := [.lit (.bool false)], args := [d1, d2, d3, d4, d5] }
  | _ => none }
def InstShrinksWrongFalsely : Prop := instShrinksRow.holds Tryz.pinned (OpenSpec.ofChange instShrinksWrong)

/-- 'cachewiselaw11.InstForgets': WHATEVER THE INPUT: true; the input reads as it did. -/
def instForgetsSpec : ChangeSpec := { name := "instForgets", fn := fun _ => fun
  | [d1, d2, d3, d4, d5] => { results := [.lit (.bool true)], args := [d1, d2, d3, d4, d5] }
  | _ => none }
def instForgetsRow : OpenClaim := { program := "ytbbogjhapeogeaagreatdoor", sum := "b7a6a408f5c8283c9c60d6ff9270dd9c61ffd21fe4175d629cec3fff5c3cf332", func := "cachewise/cachewiselaw11.InstForgets", spec := "instForgets", inPlace := ["internal/reflectlite.ValueOf", "(internal/reflectlite.Value).Type", "(internal/reflectlite.Value).IsNil", "internal/reflectlite.TypeOf", "(internal/reflectlite.Value).Elem", "(internal/reflectlite.Value).Set"], unfollowed := true, recurses := true, named := ["math/bits.divideError", "math/bits.overflowError", "cachewise/policy.names", "errors.errorType"], apart := false, laid := [("errors.errorType", laid_errors_errorType), ("cachewise/policy.names", laid_cachewise_policy_names)] }
def InstForgetsSaid : Prop := instForgetsRow.holds Tryz.pinned (OpenSpec.ofChange instForgetsSpec)

/-- ITS FALSE NEIGHBOUR: 'it returns false'. Refute it at one input. -/
def instForgetsWrong : ChangeSpec := { name := "instForgets", fn := fun _ => fun
  | [d1, d2, d3, d4, d5] => { results := [.lit (.bool false)], args := [d1, d2, d3, d4, d5] }
  | _ => none }
def InstForgetsWrongFalsely : Prop := instForgetsRow.holds Tryz.pinned (OpenSpec.ofChange instForgetsWrong)

/- THE SECOND FORM. 'bulk': how many values and letters a reading holds, each counted each time it is reached (what is shared counts as often as it is met; a slice's spare places count too). A statement '..UptoSaid' is the law's where the arguments, and the package variables that the reading takes, are together of bulk at most 1048576: NARROWER than '..Said'. Prove '..Said' where nothing that the law and all that it calls make is longer than what came in: it says more and counts as full. Else prove '..UptoSaid'. A law counts once. -/
mutual
def uptoBulk {H : Type} : DataW H → Nat
  | .lit (.string bytes) => bytes.length + 1
  | .lit _ => 1
  | .nil => 1
  | .ptr d => uptoBulk d + 1
  | .slice elems spare => uptoBulkAll elems + uptoBulkAll spare + 1
  | .agg parts => uptoBulkAll parts + 1
  | .iface _ d => uptoBulk d + 1
  | .map entries => uptoBulkEntries entries + 1
  | .held _ => 1
def uptoBulkAll {H : Type} : List (DataW H) → Nat
  | [] => 0
  | d :: r => uptoBulk d + uptoBulkAll r
def uptoBulkEntries {H : Type} : List (Lit × DataW H) → Nat
  | [] => 0
  | x :: r => uptoBulkEntry x + uptoBulkEntries r
def uptoBulkEntry {H : Type} : Lit × DataW H → Nat
  | (.string bytes, d) => bytes.length + uptoBulk d + 1
  | (_, d) => uptoBulk d + 1
 end
def uptoSmall : (H : Type) → List (DataW H) → Bool := fun _ ds => decide (uptoBulkAll ds ≤ 1048576)
def OpenSpec.upto (s : _root_.Go.ChangeSpec) : _root_.Go.OpenSpec := { _root_.Go.OpenSpec.ofChange s with cond := some uptoSmall }

/-- 'cachewiselaw11.InstKeeps', WHERE WHAT IT READS IS OF BULK AT MOST 1048576: true; the input reads as it did. -/
def instKeepsUptoRow : OpenClaim := { program := "ytbbogjhapeogeaagreatdoor", sum := "b7a6a408f5c8283c9c60d6ff9270dd9c61ffd21fe4175d629cec3fff5c3cf332", func := "cachewise/cachewiselaw11.InstKeeps", spec := "instKeeps", inPlace := ["internal/reflectlite.ValueOf", "(internal/reflectlite.Value).Type", "(internal/reflectlite.Value).IsNil", "internal/reflectlite.TypeOf", "(internal/reflectlite.Value).Elem", "(internal/reflectlite.Value).Set"], unfollowed := true, recurses := true, named := ["math/bits.divideError", "math/bits.overflowError", "cachewise/policy.names", "errors.errorType"], apart := false, laid := [("errors.errorType", laid_errors_errorType), ("cachewise/policy.names", laid_cachewise_policy_names)], narrowed := true }
def InstKeepsUptoSaid : Prop := instKeepsUptoRow.holds Tryz.pinned (OpenSpec.upto instKeepsSpec)

/-- 'cachewiselaw11.InstEnough', WHERE WHAT IT READS IS OF BULK AT MOST 1048576: true; the input reads as it did. -/
def instEnoughUptoRow : OpenClaim := { program := "ytbbogjhapeogeaagreatdoor", sum := "b7a6a408f5c8283c9c60d6ff9270dd9c61ffd21fe4175d629cec3fff5c3cf332", func := "cachewise/cachewiselaw11.InstEnough", spec := "instEnough", inPlace := ["internal/reflectlite.ValueOf", "(internal/reflectlite.Value).Type", "(internal/reflectlite.Value).IsNil", "internal/reflectlite.TypeOf", "(internal/reflectlite.Value).Elem", "(internal/reflectlite.Value).Set"], unfollowed := true, recurses := true, named := ["math/bits.divideError", "math/bits.overflowError", "cachewise/policy.names", "errors.errorType"], apart := false, laid := [("errors.errorType", laid_errors_errorType), ("cachewise/policy.names", laid_cachewise_policy_names)], narrowed := true }
def InstEnoughUptoSaid : Prop := instEnoughUptoRow.holds Tryz.pinned (OpenSpec.upto instEnoughSpec)

/-- 'cachewiselaw11.InstOne', WHERE WHAT IT READS IS OF BULK AT MOST 1048576: true; the input reads as it did. -/
def instOneUptoRow : OpenClaim := { program := "ytbbogjhapeogeaagreatdoor", sum := "b7a6a408f5c8283c9c60d6ff9270dd9c61ffd21fe4175d629cec3fff5c3cf332", func := "cachewise/cachewiselaw11.InstOne", spec := "instOne", inPlace := ["internal/reflectlite.ValueOf", "(internal/reflectlite.Value).Type", "(internal/reflectlite.Value).IsNil", "internal/reflectlite.TypeOf", "(internal/reflectlite.Value).Elem", "(internal/reflectlite.Value).Set"], unfollowed := true, recurses := true, named := ["math/bits.divideError", "math/bits.overflowError", "cachewise/policy.names", "errors.errorType"], apart := false, laid := [("errors.errorType", laid_errors_errorType), ("cachewise/policy.names", laid_cachewise_policy_names)], narrowed := true }
def InstOneUptoSaid : Prop := instOneUptoRow.holds Tryz.pinned (OpenSpec.upto instOneSpec)

/-- 'cachewiselaw11.InstDrains', WHERE WHAT IT READS IS OF BULK AT MOST 1048576: true; the input reads as it did. -/
def instDrainsUptoRow : OpenClaim := { program := "ytbbogjhapeogeaagreatdoor", sum := "b7a6a408f5c8283c9c60d6ff9270dd9c61ffd21fe4175d629cec3fff5c3cf332", func := "cachewise/cachewiselaw11.InstDrains", spec := "instDrains", inPlace := ["internal/reflectlite.ValueOf", "(internal/reflectlite.Value).Type", "(internal/reflectlite.Value).IsNil", "internal/reflectlite.TypeOf", "(internal/reflectlite.Value).Elem", "(internal/reflectlite.Value).Set"], unfollowed := true, recurses := true, named := ["math/bits.divideError", "math/bits.overflowError", "cachewise/policy.names", "errors.errorType"], apart := false, laid := [("errors.errorType", laid_errors_errorType), ("cachewise/policy.names", laid_cachewise_policy_names)], narrowed := true }
def InstDrainsUptoSaid : Prop := instDrainsUptoRow.holds Tryz.pinned (OpenSpec.upto instDrainsSpec)

/-- 'cachewiselaw11.InstAdopts', WHERE WHAT IT READS IS OF BULK AT MOST 1048576: true; the input reads as it did. -/
def instAdoptsUptoRow : OpenClaim := { program := "ytbbogjhapeogeaagreatdoor", sum := "b7a6a408f5c8283c9c60d6ff9270dd9c61ffd21fe4175d629cec3fff5c3cf332", func := "cachewise/cachewiselaw11.InstAdopts", spec := "instAdopts", inPlace := ["internal/reflectlite.ValueOf", "(internal/reflectlite.Value).Type", "(internal/reflectlite.Value).IsNil", "internal/reflectlite.TypeOf", "(internal/reflectlite.Value).Elem", "(internal/reflectlite.Value).Set"], unfollowed := true, recurses := true, named := ["math/bits.divideError", "math/bits.overflowError", "cachewise/policy.names", "errors.errorType"], apart := false, laid := [("errors.errorType", laid_errors_errorType), ("cachewise/policy.names", laid_cachewise_policy_names)], narrowed := true }
def InstAdoptsUptoSaid : Prop := instAdoptsUptoRow.holds Tryz.pinned (OpenSpec.upto instAdoptsSpec)

/-- 'cachewiselaw11.InstShrinks', WHERE WHAT IT READS IS OF BULK AT MOST 1048576: true; the input reads as it did. -/
def instShrinksUptoRow : OpenClaim := { program := "ytbbogjhapeogeaagreatdoor", sum := "b7a6a408f5c8283c9c60d6ff9270dd9c61ffd21fe4175d629cec3fff5c3cf332", func := "cachewise/cachewiselaw11.InstShrinks", spec := "instShrinks", inPlace := ["internal/reflectlite.ValueOf", "(internal/reflectlite.Value).Type", "(internal/reflectlite.Value).IsNil", "internal/reflectlite.TypeOf", "(internal/reflectlite.Value).Elem", "(internal/reflectlite.Value).Set"], unfollowed := true, recurses := true, named := ["math/bits.divideError", "math/bits.overflowError", "cachewise/policy.names", "errors.errorType"], apart := false, laid := [("errors.errorType", laid_errors_errorType), ("cachewise/policy.names", laid_cachewise_policy_names)], narrowed := true }
def InstShrinksUptoSaid : Prop := instShrinksUptoRow.holds Tryz.pinned (OpenSpec.upto instShrinksSpec)

/-- 'cachewiselaw11.InstForgets', WHERE WHAT IT READS IS OF BULK AT MOST 1048576: true; the input reads as it did. -/
def instForgetsUptoRow : OpenClaim := { program := "ytbbogjhapeogeaagreatdoor", sum := "b7a6a408f5c8283c9c60d6ff9270dd9c61ffd21fe4175d629cec3fff5c3cf332", func := "cachewise/cachewiselaw11.InstForgets", spec := "instForgets", inPlace := ["internal/reflectlite.ValueOf", "(internal/reflectlite.Value).Type", "(internal/reflectlite.Value).IsNil", "internal/reflectlite.TypeOf", "(internal/reflectlite.Value).Elem", "(internal/reflectlite.Value).Set"], unfollowed := true, recurses := true, named := ["math/bits.divideError", "math/bits.overflowError", "cachewise/policy.names", "errors.errorType"], apart := false, laid := [("errors.errorType", laid_errors_errorType), ("cachewise/policy.names", laid_cachewise_policy_names)], narrowed := true }
def InstForgetsUptoSaid : Prop := instForgetsUptoRow.holds Tryz.pinned (OpenSpec.upto instForgetsSpec)

end Rows
end Go.Proofs.YtbbogjhapeogeaaGreatDoor
