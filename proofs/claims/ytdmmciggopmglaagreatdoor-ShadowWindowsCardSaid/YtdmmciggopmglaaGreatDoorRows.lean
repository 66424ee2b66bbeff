/-
  NARROWER THAN 'FOR EVERY INPUT', by the rows' own cells (each row's printed sentence says how): ShadowSamples: laid · ShadowWindows: laid · ShadowIgnores: laid · ShadowResizes: laid · ShadowForgets: laid · ShadowDecays: laid.
  DERIVED. THE GIVEN ROWS OF THIS SEAT. 6 by the template 'for every input the law returns true; each argument reads behind the call as it read before'; 0 by the template 'total and deterministic' (their statements: YtdmmciggopmglaaGreatDoorTotals.lean).
  GIVEN WITH THE SEED: the statements are not yours to turn. If you find one false, say at which input.
  Laid BY PROGRAM, IN A SANDBOX (cutbox-rows.mjs): the forced cells as the released guide's own fill.sh prints them over the translation 6b475a1d6587001c… (all of the seat's roots in one cut). By AI agents, Wed Nov 11 2026. No macro, syntax, notation, axiom, sorry.
-/
import Derived.Test.YtdmmciggopmglaaGreatDoorChecked
import GoSem.Claim
import GoSem.ClaimJoined
import GoSem.ClaimMapViews
import Derived.JoinedTies
import Derived.KernelRfl
namespace Go.Proofs.YtdmmciggopmglaaGreatDoor
/- THE CELL 'sum', in the pinned program and in every row, IS THE sha256 OF THE DUMP (.gsa) THAT YtdmmciggopmglaaGreatDoorProg.lean LOADS. Nothing in Lean hashes anything: it is a label: what it is worth is what the hold of that sum in a sandbox is worth. -/
noncomputable def Tryz.pinned : Pinned := { name := "ytdmmciggopmglaagreatdoor", sum := "6b475a1d6587001cce2f027a0e4a2f4ac922d974697d2c40a7a0d691304810a5", checked := Tryz.checked }
namespace Rows
def none {H : Type} : Left H := { results := [], args := [] }

/- WHAT THE LISTED PACKAGE-LEVEL VARIABLES READ AS WHEN THE CALL BEGINS. Each datum BY PROGRAM (the guide's laid-datum.mjs) off the statement by which the dump's own 'gosem.cut.vars' lays the variable. In a bare row this is a premise. The card (YtdmmciggopmglaaGreatDoorCards.lean) ties it to the program's text. -/
def laid_errors_errorType {H : Type} : DataW H := .iface "internal/reflectlite.rtype" (.agg [.ptr (.lit (.string [101, 114, 114, 111, 114]))])
def laid_cachewise_policy_names {H : Type} : DataW H := .agg [.lit (.string [76, 82, 85]), .lit (.string [76, 70, 85]), .lit (.string [67, 82, 45, 76, 70, 85]), .lit (.string [83, 82, 45, 76, 82, 85]), .lit (.string [65, 82, 67]), .lit (.string [76, 101, 67, 97, 82]), .lit (.string [67, 65, 67, 72, 69, 85, 83])]

/-- 'cachewiselaw12.ShadowSamples': WHATEVER THE INPUT: true; the input reads as it did. -/
def shadowSamplesSpec : ChangeSpec := { name := "shadowSamples", fn := fun _ => fun
  | [d1, d2, d3, d4] => { results := [.lit (.bool true)], args := [d1, d2, d3, d4] }
  | _ => none }
def shadowSamplesRow : OpenClaim := { program := "ytdmmciggopmglaagreatdoor", sum := "6b475a1d6587001cce2f027a0e4a2f4ac922d974697d2c40a7a0d691304810a5", func := "cachewise/cachewiselaw12.ShadowSamples", spec := "shadowSamples", inPlace := ["internal/reflectlite.ValueOf", "(internal/reflectlite.Value).Type", "(internal/reflectlite.Value).IsNil", "internal/reflectlite.TypeOf", "(internal/reflectlite.Value).Elem", "(internal/reflectlite.Value).Set"], unfollowed := true, recurses := true, named := ["math/bits.divideError", "math/bits.overflowError", "cachewise/policy.names", "errors.errorType"], apart := false, laid := [("errors.errorType", laid_errors_errorType), ("cachewise/policy.names", laid_cachewise_policy_names)] }
def ShadowSamplesSaid : Prop := shadowSamplesRow.holds Tryz.pinned (OpenSpec.ofChange shadowSamplesSpec)

/-- ITS FALSE NEIGHBOUR: 'it returns false'. Refute it at one input. -/
def shadowSamplesWrong : ChangeSpec := { name := "shadowSamples", fn := fun _ => fun
  | [d1, d2, d3, d4] => { results := [.lit (.bool false)], args := [d1, d2, d3, d4] }
  | _ => none }
def ShadowSamplesWrongFalsely : Prop := shadowSamplesRow.holds Tryz.pinned (OpenSpec.ofChange shadowSamplesWrong)

/-- 'cachewiselaw12.ShadowWindows': WHATEVER THE INPUT: true; the input reads as it did. -/
def shadowWindowsSpec : ChangeSpec := { name := "shadowWindows", fn := fun _ => fun
  | [d1, d2, d3] => { results := [.lit (.bool true)], args := [d1, d2, d3] }
  | _ => none }
def shadowWindowsRow : OpenClaim := { program := "ytdmmciggopmglaagreatdoor", sum := "6b475a1d6587001cce2f027a0e4a2f4ac922d974697d2c40a7a0d691304810a5", func := "cachewise/cachewiselaw12.ShadowWindows", spec := "shadowWindows", inPlace := ["internal/reflectlite.ValueOf", "(internal/reflectlite.Value).Type", "(internal/reflectlite.Value).IsNil", "internal/reflectlite.TypeOf", "(internal/reflectlite.Value).Elem", "(internal/reflectlite.Value).Set"], unfollowed := true, recurses := true, named := ["math/bits.divideError", "math/bits.overflowError", "cachewise/policy.names", "errors.errorType"], apart := false, laid := [("errors.errorType", laid_errors_errorType), ("cachewise/policy.names", laid_cachewise_policy_names)] }
def ShadowWindowsSaid : Prop := shadowWindowsRow.holds Tryz.pinned (OpenSpec.ofChange shadowWindowsSpec)

/-- ITS FALSE NEIGHBOUR: 'it returns false'. Refute it at one input. -/
def shadowWindowsWrong : ChangeSpec := { name := "shadowWindows", fn := fun _ => fun
  | [d1, d2, d3] => { results := [.lit (.bool false)], args := [d1, d2, d3] }
  | _ => none }
def ShadowWindowsWrongFalsely : Prop := shadowWindowsRow.holds Tryz.pinned (OpenSpec.ofChange shadowWindowsWrong)

/-- 'cachewiselaw12.ShadowIgnores': WHATEVER THE INPUT: true; the input reads as it did. -/
def shadowIgnoresSpec : ChangeSpec := { name := "shadowIgnores", fn := fun _ => fun
  | [d1, d2] => { results := [.lit (.bool true)], args := [d1, d2] }
  | _ => none }
def shadowIgnoresRow : OpenClaim := { program := "ytdmmciggopmglaagreatdoor", sum := "6b475a1d6587001cce2f027a0e4a2f4ac922d974697d2c40a7a0d691304810a5", func := "cachewise/cachewiselaw12.ShadowIgnores", spec := "shadowIgnores", inPlace := ["internal/reflectlite.ValueOf", "(internal/reflectlite.Value).Type", "(internal/reflectlite.Value).IsNil", "internal/reflectlite.TypeOf", "(internal/reflectlite.Value).Elem", "(internal/reflectlite.Value).Set"], unfollowed := true, recurses := true, named := ["math/bits.divideError", "math/bits.overflowError", "cachewise/policy.names", "errors.errorType"], apart := false, laid := [("errors.errorType", laid_errors_errorType), ("cachewise/policy.names", laid_cachewise_policy_names)] }
def ShadowIgnoresSaid : Prop := shadowIgnoresRow.holds Tryz.pinned (OpenSpec.ofChange shadowIgnoresSpec)

/-- ITS FALSE NEIGHBOUR: 'it returns false'. Refute it at one input. -/
def shadowIgnoresWrong : ChangeSpec := { name := "shadowIgnores", fn := fun _ => fun
  | [d1, d2] => { results := [.lit (.bool false)], args := [d1, d2] }
  | _ => none }
def ShadowIgnoresWrongFalsely : Prop := shadowIgnoresRow.holds Tryz.pinned (OpenSpec.ofChange shadowIgnoresWrong)

/-- 'cachewiselaw12.ShadowResizes': WHATEVER THE INPUT: true; the input reads as it did. -/
def shadowResizesSpec : ChangeSpec := { name := "shadowResizes", fn := fun _ => fun
  | [d1, d2, d3, d4] => { results := [.lit (.bool true)], args := [d1, d2, d3, d4] }
  | _ => none }
def shadowResizesRow : OpenClaim := { program := "ytdmmciggopmglaagreatdoor", sum := "6b475a1d6587001cce2f027a0e4a2f4ac922d974697d2c40a7a0d691304810a5", func := "cachewise/cachewiselaw12.ShadowResizes", spec := "shadowResizes", inPlace := ["internal/reflectlite.ValueOf", "(internal/reflectlite.Value).Type", "(internal/reflectlite.Value).IsNil", "internal/reflectlite.TypeOf", "(internal/reflectlite.Value).Elem", "(internal/reflectlite.Value).Set"], unfollowed := true, recurses := true, named := ["math/bits.divideError", "math/bits.overflowError", "cachewise/policy.names", "errors.errorType"], apart := false, laid := [("errors.errorType", laid_errors_errorType), ("cachewise/policy.names", laid_cachewise_policy_names)] }
def ShadowResizesSaid : Prop := shadowResizesRow.holds Tryz.pinned (OpenSpec.ofChange shadowResizesSpec)

/-- ITS FALSE NEIGHBOUR: 'it returns false'. Refute it at one input. -/
def shadowResizesWrong : ChangeSpec := { name := "shadowResizes", fn := fun _ => fun
  | [d1, d2, d3, d4] => { results := [.lit (.bool false)], args := [d1, d2, d3, d4] }
  | _ => none }
def ShadowResizesWrongFalsely : Prop := shadowResizesRow.holds Tryz.pinned (OpenSpec.ofChange shadowResizesWrong)

/-- 'cachewiselaw12.ShadowForgets': WHATEVER THE INPUT: true; the input reads as it did. -/
def shadowForgetsSpec : ChangeSpec := { name := "shadowForgets", fn := fun _ => fun
  | [d1, d2, d3, d4] => { results := [.lit (.bool true)], args := [d1, d2, d3, d4] }
  | _ => none }
def shadowForgetsRow : OpenClaim := { program := "ytdmmciggopmglaagreatdoor", sum := "6b475a1d6587001cce2f027a0e4a2f4ac922d974697d2c40a7a0d691304810a5", func := "cachewise/cachewiselaw12.ShadowForgets", spec := "shadowForgets", inPlace := ["internal/reflectlite.ValueOf", "(internal/reflectlite.Value).Type", "(internal/reflectlite.Value).IsNil", "internal/reflectlite.TypeOf", "(internal/reflectlite.Value).Elem", "(internal/reflectlite.Value).Set"], unfollowed := true, recurses := true, named := ["math/bits.divideError", "math/bits.overflowError", "cachewise/policy.names", "errors.errorType"], apart := false, laid := [("errors.errorType", laid_errors_errorType), ("cachewise/policy.names", laid_cachewise_policy_names)] }
def ShadowForgetsSaid : Prop := shadowForgetsRow.holds Tryz.pinned (OpenSpec.ofChange shadowForgetsSpec)

/-- ITS FALSE NEIGHBOUR: 'it returns false'. Refute it at one input. -/
def shadowForgetsWrong : ChangeSpec := { name := "shadowForgets", fn := fun _ => fun
  | [d1, d2, d3, d4] => { results := [.lit (.bool false)], args := [d1, d2, d3, d4] }
  | _ => none }
def ShadowForgetsWrongFalsely : Prop := shadowForgetsRow.holds Tryz.pinned (OpenSpec.ofChange shadowForgetsWrong)

/-- 'cachewiselaw12.ShadowDecays': WHATEVER THE INPUT: true; the input reads as it did. -/
def shadowDecaysSpec : ChangeSpec := { name := "shadowDecays", fn := fun _ => fun
  | [d1, d2] => { results := [.lit (.bool true)], args := [d1, d2] }
  | _ => none }
def shadowDecaysRow : OpenClaim := { program := "ytdmmciggopmglaagreatdoor", sum := "6b475a1d6587001cce2f027a0e4a2f4ac922d974697d2c40a7a0d691304810a5", func := "cachewise/cachewiselaw12.ShadowDecays", spec := "shadowDecays", inPlace := ["internal/reflectlite.ValueOf", "(internal/reflectlite.Value).Type", "(internal/reflectlite.Value).IsNil", "internal/reflectlite.TypeOf", "(internal/reflectlite.Value).Elem", "(internal/reflectlite.Value).Set"], unfollowed := true, recurses := true, named := ["math/bits.divideError", "math/bits.overflowError", "cachewise/policy.names", "errors.errorType"], apart := false, laid := [("errors.errorType", laid_errors_errorType), ("cachewise/policy.names", laid_cachewise_policy_names)] }
def ShadowDecaysSaid : Prop := shadowDecaysRow.holds Tryz.pinned (OpenSpec.ofChange shadowDecaysSpec)

/-- ITS FALSE NEIGHBOUR: 'it returns false'. Refute it at one input. -/
def shadowDecaysWrong : ChangeSpec := { name := "shadowDecays", fn := fun _ => fun
  | [d1, d2] => { results := [.lit (.bool false)], args := [d1, d2] }
  | _ => none }
def ShadowDecaysWrongFalsely : Prop := shadowDecaysRow.holds Tryz.pinned (OpenSpec.ofChange shadowDecaysWrong)

/- THE SECOND FORM. 'bulk': how many values and letters a reading holds, each counted each time it is reached (what is shared counts as often as it is met; a slice's spare places count too). A statement '..UptoSaid' is the law's where the arguments, and the package variables that the reading takes, are together of bulk at most 1048576: NARROWER than '..Said'. Prove '..Said' where nothing that the law and all that it calls make is longer than what came in: it says more and counts as full. Else prove '..UptoSaid'. A law counts once. -/
mutual
def uptoBulk {H : Type} : DataW H → Nat
  | .lit (.string bytes) => bytes.length + 1
  | .lit _ => 1
  | .nil => 1
  | .ptr d => uptoBulk d + 1
  | .slice elems spare => uptoBulkAll elems + uptoBulkAll spare + 1
  | .agg parts => uptoBulkAll parts + 1
  | .iface _ d => uptoBulk d + 1
  | .map entries => uptoBulkEntries entries + 1
  | .held _ => 1
def uptoBulkAll {H : Type} : List (DataW H) → Nat
  | [] => 0
  | d :: r => uptoBulk d + uptoBulkAll r
def uptoBulkEntries {H : Type} : List (Lit × DataW H) → Nat
  | [] => 0
  | x :: r => uptoBulkEntry x + uptoBulkEntries r
def uptoBulkEntry {H : Type} : Lit × DataW H → Nat
  | (.string bytes, d) => bytes.length + uptoBulk d + 1
  | (_, d) => uptoBulk d + 1
 end
def uptoSmall : (H : Type) → List (DataW H) → Bool := fun _ ds => decide (uptoBulkAll ds ≤ 1048576)
def OpenSpec.upto (s : _root_.Go.ChangeSpec) : _root_.Go.OpenSpec := { _root_.Go.OpenSpec.ofChange s with cond := some uptoSmall }

/-- 'cachewiselaw12.ShadowSamples', WHERE WHAT IT READS IS OF BULK AT MOST 1048576: true; the input reads as it did. -/
def shadowSamplesUptoRow : OpenClaim := { program := "ytdmmciggopmglaagreatdoor", sum := "6b475a1d6587001cce2f027a0e4a2f4ac922d974697d2c40a7a0d691304810a5", func := "cachewise/cachewiselaw12.ShadowSamples", spec := "shadowSamples", inPlace := ["internal/reflectlite.ValueOf", "(internal/reflectlite.Value).Type", "(internal/reflectlite.Value).IsNil", "internal/reflectlite.TypeOf", "(internal/reflectlite.Value).Elem", "(internal/reflectlite.Value).Set"], unfollowed := true, recurses := true, named := ["math/bits.divideError", "math/bits.overflowError", "cachewise/policy.names", "errors.errorType"], apart := false, laid := [("errors.errorType", laid_errors_errorType), ("cachewise/policy.names", laid_cachewise_policy_names)], narrowed := true }
def ShadowSamplesUptoSaid : Prop := shadowSamplesUptoRow.holds Tryz.pinned (OpenSpec.upto shadowSamplesSpec)

/-- 'cachewiselaw12.ShadowWindows', WHERE WHAT IT READS IS OF BULK AT MOST 1048576: true; the input reads as it did. -/
def shadowWindowsUptoRow : OpenClaim := { program := "ytdmmciggopmglaagreatdoor", sum := "6b475a1d6587001cce2f027a0e4a2f4ac922d974697d2c40a7a0d691304810a5", func := "cachewise/cachewiselaw12.ShadowWindows", spec := "shadowWindows", inPlace := ["internal/reflectlite.ValueOf", "(internal/reflectlite.Value).Type", "(internal/reflectlite.Value).IsNil", "internal/reflectlite.TypeOf", "(internal/reflectlite.Value).Elem", "(internal/reflectlite.Value).Set"], unfollowed := true, recurses := true, named := ["math/bits.divideError", "math/bits.overflowError", "cachewise/policy.names", "errors.errorType"], apart := false, laid := [("errors.errorType", laid_errors_errorType), ("cachewise/policy.names", laid_cachewise_policy_names)], narrowed := true }
def ShadowWindowsUptoSaid : Prop := shadowWindowsUptoRow.holds Tryz.pinned (OpenSpec.upto shadowWindowsSpec)

/-- 'cachewiselaw12.ShadowIgnores', WHERE WHAT IT READS IS OF BULK AT MOST 1048576: true; the input reads as it did. -/
def shadowIgnoresUptoRow : OpenClaim := { program := "ytdmmciggopmglaagreatdoor", sum := "6b475a1d6587001cce2f027a0e4a2f4ac922d974697d2c40a7a0d691304810a5", func := "cachewise/cachewiselaw12.ShadowIgnores", spec := "shadowIgnores", inPlace := ["internal/reflectlite.ValueOf", "(internal/reflectlite.Value).Type", "(internal/reflectlite.Value).IsNil", "internal/reflectlite.TypeOf", "(internal/reflectlite.Value).Elem", "(internal/reflectlite.Value).Set"], unfollowed := true, recurses := true, named := ["math/bits.divideError", "math/bits.overflowError", "cachewise/policy.names", "errors.errorType"], apart := false, laid := [("errors.errorType", laid_errors_errorType), ("cachewise/policy.names", laid_cachewise_policy_names)], narrowed := true }
def ShadowIgnoresUptoSaid : Prop := shadowIgnoresUptoRow.holds Tryz.pinned (OpenSpec.upto shadowIgnoresSpec)

/-- 'cachewiselaw12.ShadowResizes', WHERE WHAT IT READS IS OF BULK AT MOST 1048576: true; the input reads as it did. -/
def shadowResizesUptoRow : OpenClaim := { program := "ytdmmciggopmglaagreatdoor", sum := "6b475a1d6587001cce2f027a0e4a2f4ac922d974697d2c40a7a0d691304810a5", func := "cachewise/cachewiselaw12.ShadowResizes", spec := "shadowResizes", inPlace := ["internal/reflectlite.ValueOf", "(internal/reflectlite.Value).Type", "(internal/reflectlite.Value).IsNil", "internal/reflectlite.TypeOf", "(internal/reflectlite.Value).Elem", "(internal/reflectlite.Value).Set"], unfollowed := true, recurses := true, named := ["math/bits.divideError", "math/bits.overflowError", "cachewise/policy.names", "errors.errorType"], apart := false, laid := [("errors.errorType", laid_errors_errorType), ("cachewise/policy.names", laid_cachewise_policy_names)], narrowed := true }
def ShadowResizesUptoSaid : Prop := shadowResizesUptoRow.holds Tryz.pinned (OpenSpec.upto shadowResizesSpec)

/-- 'cachewiselaw12.ShadowForgets', WHERE WHAT IT READS IS OF BULK AT MOST 1048576: true; the input reads as it did. -/
def shadowForgetsUptoRow : OpenClaim := { program := "ytdmmciggopmglaagreatdoor", sum := "6b475a1d6587001cce2f027a0e4a2f4ac922d974697d2c40a7a0d691304810a5", func := "cachewise/cachewiselaw12.ShadowForgets", spec := "shadowForgets", inPlace := ["internal/reflectlite.ValueOf", "(internal/reflectlite.Value).Type", "(internal/reflectlite.Value).IsNil", "internal/reflectlite.TypeOf", "(internal/reflectlite.Value).Elem", "(internal/reflectlite.Value).Set"], unfollowed := true, recurses := true, named := ["math/bits.divideError", "math/bits.overflowError", "cachewise/policy.names", "errors.errorType"], apart := false, laid := [("errors.errorType", laid_errors_errorType), ("cachewise/policy.names", laid_cachewise_policy_names)], narrowed := true }
def ShadowForgetsUptoSaid : Prop := shadowForgetsUptoRow.holds Tryz.pinned (OpenSpec.upto shadowForgetsSpec)

/-- 'cachewiselaw12.ShadowDecays', WHERE WHAT IT READS IS OF BULK AT MOST 1048576: true; the input reads as it did. -/
def shadowDecaysUptoRow : OpenClaim := { program := "ytdmmciggopmglaagreatdoor", sum := "6b475a1d6587001cce2f027a0e4a2f4ac922d974697d2c40a7a0d691304810a5", func := "cachewise/cachewiselaw12.ShadowDecays", spec := "shadowDecays", inPlace := ["internal/reflectlite.ValueOf", "(internal/reflectlite.Value).Type", "(internal/reflectlite.Value).IsNil", "internal/reflectlite.TypeOf", "(internal/reflectlite.Value).Elem", "(internal/reflectlite.Value).Set"], unfollowed := true, recurses := true, named := ["math/bits.divideError", "math/bits.overflowError", "cachewise/policy.names", "errors.errorType"], apart := false, laid := [("errors.errorType", laid_errors_errorType), ("cachewise/policy.names", laid_cachewise_policy_names)], narrowed := true }
def ShadowDecaysUptoSaid : Prop := shadowDecaysUptoRow.holds Tryz.pinned (OpenSpec.upto shadowDecaysSpec)

end Rows
end Go.Proofs.YtdmmciggopmglaaGreatDoor
