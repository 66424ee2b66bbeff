/-
  NARROWER THAN 'FOR EVERY INPUT', by the rows' own cells (each row's printed sentence says how): LearnPlays: laid · LearnBounds: laid · LearnRegrets: laid · LearnFollows: laid · LearnRates: laid · LearnForgets: laid · LearnSame: laid · LearnOnce: laid.
  DERIVED. THE GIVEN ROWS OF THIS SEAT. 8 by the template 'for every input the law returns true; each argument reads behind the call as it read before'; 0 by the template 'total and deterministic' (their statements: YtnlckkahkghneaaGreatDoorTotals.lean).
  GIVEN WITH THE SEED: the statements are not yours to turn. If you find one false, say at which input.
  Laid BY PROGRAM, IN A SANDBOX (cutbox-rows.mjs): the forced cells as the released guide's own fill.sh prints them over the translation 1d94ce0b433be65a… (all of the seat's roots in one cut). By AI agents, Wed Nov 11 2026. No macro, syntax, notation, axiom, sorry.
-/
import Derived.Test.YtnlckkahkghneaaGreatDoorChecked
import GoSem.Claim
import GoSem.ClaimJoined
import GoSem.ClaimMapViews
import Derived.JoinedTies
import Derived.KernelRfl
namespace Go.Proofs.YtnlckkahkghneaaGreatDoor
/- THE CELL 'sum', in the pinned program and in every row, IS THE sha256 OF THE DUMP (.gsa) THAT YtnlckkahkghneaaGreatDoorProg.lean LOADS. Nothing in Lean hashes anything: it is a label: what it is worth is what the hold of that sum in a sandbox is worth. -/
noncomputable def Tryz.pinned : Pinned := { name := "ytnlckkahkghneaagreatdoor", sum := "1d94ce0b433be65ac2b78ba9b3743ac02792b28063c8fadd35d46af6495bfaa0", checked := Tryz.checked }
namespace Rows
def none {H : Type} : Left H := { results := [], args := [] }

/- WHAT THE LISTED PACKAGE-LEVEL VARIABLES READ AS WHEN THE CALL BEGINS. Each datum BY PROGRAM (the guide's laid-datum.mjs) off the statement by which the dump's own 'gosem.cut.vars' lays the variable. In a bare row this is a premise. The card (YtnlckkahkghneaaGreatDoorCards.lean) ties it to the program's text. -/
def laid_errors_errorType {H : Type} : DataW H := .iface "internal/reflectlite.rtype" (.agg [.ptr (.lit (.string [101, 114, 114, 111, 114]))])

/-- 'cachewiselaw10.LearnPlays': WHATEVER THE INPUT: true; the input reads as it did. -/
def learnPlaysSpec : ChangeSpec := { name := "learnPlays", fn := fun _ => fun
  | [d1, d2, d3, d4] => { results := [.lit (.bool true)], args := [d1, d2, d3, d4] }
  | _ => none }
def learnPlaysRow : OpenClaim := { program := "ytnlckkahkghneaagreatdoor", sum := "1d94ce0b433be65ac2b78ba9b3743ac02792b28063c8fadd35d46af6495bfaa0", func := "cachewise/cachewiselaw10.LearnPlays", spec := "learnPlays", inPlace := ["internal/reflectlite.ValueOf", "(internal/reflectlite.Value).Type", "(internal/reflectlite.Value).IsNil", "internal/reflectlite.TypeOf", "(internal/reflectlite.Value).Elem", "(internal/reflectlite.Value).Set"], unfollowed := true, recurses := true, named := ["math/bits.divideError", "math/bits.overflowError", "errors.errorType"], apart := false, laid := [("errors.errorType", laid_errors_errorType)] }
def LearnPlaysSaid : Prop := learnPlaysRow.holds Tryz.pinned (OpenSpec.ofChange learnPlaysSpec)

/-- ITS FALSE NEIGHBOUR: 'it returns false'. Refute it at one input. -/
def learnPlaysWrong : ChangeSpec := { name := "learnPlays", fn := fun _ => fun
  | [d1, d2, d3, d4] => { results := [.lit (.bool false)], args := [d1, d2, d3, d4] }
  | _ => none }
def LearnPlaysWrongFalsely : Prop := learnPlaysRow.holds Tryz.pinned (OpenSpec.ofChange learnPlaysWrong)

/-- 'cachewiselaw10.LearnBounds': WHATEVER THE INPUT: true; the input reads as it did. -/
def learnBoundsSpec : ChangeSpec := { name := "learnBounds", fn := fun _ => fun
  | [d1, d2, d3, d4] => { results := [.lit (.bool true)], args := [d1, d2, d3, d4] }
  | _ => none }
def learnBoundsRow : OpenClaim := { program := "ytnlckkahkghneaagreatdoor", sum := "1d94ce0b433be65ac2b78ba9b3743ac02792b28063c8fadd35d46af6495bfaa0", func := "cachewise/cachewiselaw10.LearnBounds", spec := "learnBounds", inPlace := ["internal/reflectlite.ValueOf", "(internal/reflectlite.Value).Type", "(internal/reflectlite.Value).IsNil", "internal/reflectlite.TypeOf", "(internal/reflectlite.Value).Elem", "(internal/reflectlite.Value).Set"], unfollowed := true, recurses := true, named := ["math/bits.divideError", "math/bits.overflowError", "errors.errorType"], apart := false, laid := [("errors.errorType", laid_errors_errorType)] }
def LearnBoundsSaid : Prop := learnBoundsRow.holds Tryz.pinned (OpenSpec.ofChange learnBoundsSpec)

/-- ITS FALSE NEIGHBOUR: 'it returns false'. Refute it at one input. -/
def learnBoundsWrong : ChangeSpec := { name := "learnBounds", fn := fun _ => fun
  | [d1, d2, d3, d4] => { results := [.lit (.bool false)], args := [d1, d2, d3, d4] }
  | _ => none }
def LearnBoundsWrongFalsely : Prop := learnBoundsRow.holds Tryz.pinned (OpenSpec.ofChange learnBoundsWrong)

/-- 'cachewiselaw10.LearnRegrets': WHATEVER THE INPUT: true; the input reads as it did. -/
def learnRegretsSpec : ChangeSpec := { name := "learnRegrets", fn := fun _ => fun
  | [d1, d2, d3] => { results := [.lit (.bool true)], args := [d1, d2, d3] }
  | _ => none }
def learnRegretsRow : OpenClaim := { program := "ytnlckkahkghneaagreatdoor", sum := "1d94ce0b433be65ac2b78ba9b3743ac02792b28063c8fadd35d46af6495bfaa0", func := "cachewise/cachewiselaw10.LearnRegrets", spec := "learnRegrets", inPlace := ["internal/reflectlite.ValueOf", "(internal/reflectlite.Value).Type", "(internal/reflectlite.Value).IsNil", "internal/reflectlite.TypeOf", "(internal/reflectlite.Value).Elem", "(internal/reflectlite.Value).Set"], unfollowed := true, recurses := true, named := ["math/bits.divideError", "math/bits.overflowError", "errors.errorType"], apart := false, laid := [("errors.errorType", laid_errors_errorType)] }
def LearnRegretsSaid : Prop := learnRegretsRow.holds Tryz.pinned (OpenSpec.ofChange learnRegretsSpec)

/-- ITS FALSE NEIGHBOUR: 'it returns false'. Refute it at one input. -/
def learnRegretsWrong : ChangeSpec := { name := "learnRegrets", fn := fun _ => fun
  | [d1, d2, d3] => { results := [.lit (.bool false)], args := [d1, d2, d3] }
  | _ => none }
def LearnRegretsWrongFalsely : Prop := learnRegretsRow.holds Tryz.pinned (OpenSpec.ofChange learnRegretsWrong)

/-- 'cachewiselaw10.LearnFollows': WHATEVER THE INPUT: true; the input reads as it did. -/
def learnFollowsSpec : ChangeSpec := { name := "learnFollows", fn := fun _ => fun
  | [d1, d2] => { results := [.lit (.bool true)], args := [d1, d2] }
  | _ => none }
def learnFollowsRow : OpenClaim := { program := "ytnlckkahkghneaagreatdoor", sum := "1d94ce0b433be65ac2b78ba9b3743ac02792b28063c8fadd35d46af6495bfaa0", func := "cachewise/cachewiselaw10.LearnFollows", spec := "learnFollows", inPlace := ["internal/reflectlite.ValueOf", "(internal/reflectlite.Value).Type", "(internal/reflectlite.Value).IsNil", "internal/reflectlite.TypeOf", "(internal/reflectlite.Value).Elem", "(internal/reflectlite.Value).Set"], unfollowed := true, recurses := true, named := ["math/bits.divideError", "math/bits.overflowError", "errors.errorType"], apart := false, laid := [("errors.errorType", laid_errors_errorType)] }
def LearnFollowsSaid : Prop := learnFollowsRow.holds Tryz.pinned (OpenSpec.ofChange learnFollowsSpec)

/-- ITS FALSE NEIGHBOUR: 'it returns false'. Refute it at one input. -/
def learnFollowsWrong : ChangeSpec := { name := "learnFollows", fn := fun _ => fun
  | [d1, d2] => { results := [.lit (.bool false)], args := [d1, d2] }
  | _ => none }
def LearnFollowsWrongFalsely : Prop := learnFollowsRow.holds Tryz.pinned (OpenSpec.ofChange learnFollowsWrong)

/-- 'cachewiselaw10.LearnRates': WHATEVER THE INPUT: true; the input reads as it did. -/
def learnRatesSpec : ChangeSpec := { name := "learnRates", fn := fun _ => fun
  | [d1, d2, d3, d4] => { results := [.lit (.bool true)], args := [d1, d2, d3, d4] }
  | _ => none }
def learnRatesRow : OpenClaim := { program := "ytnlckkahkghneaagreatdoor", sum := "1d94ce0b433be65ac2b78ba9b3743ac02792b28063c8fadd35d46af6495bfaa0", func := "cachewise/cachewiselaw10.LearnRates", spec := "learnRates", inPlace := ["internal/reflectlite.ValueOf", "(internal/reflectlite.Value).Type", "(internal/reflectlite.Value).IsNil", "internal/reflectlite.TypeOf", "(internal/reflectlite.Value).Elem", "(internal/reflectlite.Value).Set"], unfollowed := true, recurses := true, named := ["math/bits.divideError", "math/bits.overflowError", "errors.errorType"], apart := false, laid := [("errors.errorType", laid_errors_errorType)] }
def LearnRatesSaid : Prop := learnRatesRow.holds Tryz.pinned (OpenSpec.ofChange learnRatesSpec)

/-- ITS FALSE NEIGHBOUR: 'it returns false'. Refute it at one input. -/
def learnRatesWrong : ChangeSpec := { name := "learnRates", fn := fun _ => fun
  | [d1, d2, d3, d4] => { results := [.lit (.bool false)], args := [d1, d2, d3, d4] }
  | _ => none }
def LearnRatesWrongFalsely : Prop := learnRatesRow.holds Tryz.pinned (OpenSpec.ofChange learnRatesWrong)

/-- 'cachewiselaw10.LearnForgets': WHATEVER THE INPUT: true; the input reads as it did. -/
def learnForgetsSpec : ChangeSpec := { name := "learnForgets", fn := fun _ => fun
  | [d1, d2, d3, d4, d5] => { results := [.lit (.bool true)], args := [d1, d2, d3, d4, d5] }
  | _ => none }
def learnForgetsRow : OpenClaim := { program := "ytnlckkahkghneaagreatdoor", sum := "1d94ce0b433be65ac2b78ba9b3743ac02792b28063c8fadd35d46af6495bfaa0", func := "cachewise/cachewiselaw10.LearnForgets", spec := "learnForgets", inPlace := ["internal/reflectlite.ValueOf", "(internal/reflectlite.Value).Type", "(internal/reflectlite.Value).IsNil", "internal/reflectlite.TypeOf", "(internal/reflectlite.Value).Elem", "(internal/reflectlite.Value).Set"], unfollowed := true, recurses := true, named := ["math/bits.divideError", "math/bits.overflowError", "errors.errorType"], apart := false, laid := [("errors.errorType", laid_errors_errorType)] }
def LearnForgetsSaid : Prop := learnForgetsRow.holds Tryz.pinned (OpenSpec.ofChange learnForgetsSpec)

/-- ITS FALSE NEIGHBOUR: 'it returns false'. Refute it at one input. -/
def learnForgetsWrong : ChangeSpec := { name := "learnForgets", fn := fun _ => fun
  | [d1, d2, d3, d4, d5] => { results := [.lit (.bool false)], args := [d1, d2, d3, d4, d5] }
  | _ => none }
def LearnForgetsWrongFalsely : Prop := learnForgetsRow.holds Tryz.pinned (OpenSpec.ofChange learnForgetsWrong)

/-- 'cachewiselaw10.LearnSame': WHATEVER THE INPUT: true; the input reads as it did. -/
def learnSameSpec : ChangeSpec := { name := "learnSame", fn := fun _ => fun
  | [d1, d2, d3, d4] => { results := [.lit (.bool true)], args := [d1, d2, d3, d4] }
  | _ => none }
def learnSameRow : OpenClaim := { program := "ytnlckkahkghneaagreatdoor", sum := "1d94ce0b433be65ac2b78ba9b3743ac02792b28063c8fadd35d46af6495bfaa0", func := "cachewise/cachewiselaw10.LearnSame", spec := "learnSame", inPlace := ["internal/reflectlite.ValueOf", "(internal/reflectlite.Value).Type", "(internal/reflectlite.Value).IsNil", "internal/reflectlite.TypeOf", "(internal/reflectlite.Value).Elem", "(internal/reflectlite.Value).Set"], unfollowed := true, recurses := true, named := ["math/bits.divideError", "math/bits.overflowError", "errors.errorType"], apart := false, laid := [("errors.errorType", laid_errors_errorType)] }
def LearnSameSaid : Prop := learnSameRow.holds Tryz.pinned (OpenSpec.ofChange learnSameSpec)

/-- ITS FALSE NEIGHBOUR: 'it returns false'. Refute it at one input. -/
def learnSameWrong : ChangeSpec := { name := "learnSame", fn := fun _ => fun
  | [d1, d2, d3, d4] => { results := [.lit (.bool false)], args := [d1, d2, d3, d4] }
  | _ => none }
def LearnSameWrongFalsely : Prop := learnSameRow.holds Tryz.pinned (OpenSpec.ofChange learnSameWrong)

/-- 'cachewiselaw10.LearnOnce': WHATEVER THE INPUT: true; the input reads as it did. -/
def learnOnceSpec : ChangeSpec := { name := "learnOnce", fn := fun _ => fun
  | [d1, d2, d3, d4] => { results := [.lit (.bool true)], args := [d1, d2, d3, d4] }
  | _ => none }
def learnOnceRow : OpenClaim := { program := "ytnlckkahkghneaagreatdoor", sum := "1d94ce0b433be65ac2b78ba9b3743ac02792b28063c8fadd35d46af6495bfaa0", func := "cachewise/cachewiselaw10.LearnOnce", spec := "learnOnce", inPlace := ["internal/reflectlite.ValueOf", "(internal/reflectlite.Value).Type", "(internal/reflectlite.Value).IsNil", "internal/reflectlite.TypeOf", "(internal/reflectlite.Value).Elem", "(internal/reflectlite.Value).Set"], unfollowed := true, recurses := true, named := ["math/bits.divideError", "math/bits.overflowError", "errors.errorType"], apart := false, laid := [("errors.errorType", laid_errors_errorType)] }
def LearnOnceSaid : Prop := learnOnceRow.holds Tryz.pinned (OpenSpec.ofChange learnOnceSpec)

/-- ITS FALSE NEIGHBOUR: 'it returns false'. Refute it at one input. -/
def learnOnceWrong : ChangeSpec := { name := "learnOnce", fn := fun _ => fun
  | [d1, d2, d3, d4] => { results := [.lit (.bool false)], args := [d1, d2, d3, d4] }
  | _ => none }
def LearnOnceWrongFalsely : Prop := learnOnceRow.holds Tryz.pinned (OpenSpec.ofChange learnOnceWrong)

/- THE SECOND FORM. 'bulk': how many values and letters a reading holds, each counted each time it is reached (what is shared counts as often as it is met; a slice's spare places count too). A statement '..UptoSaid' is the law's where the arguments, and the package variables that the reading takes, are together of bulk at most 1048576: NARROWER than '..Said'. Prove '..Said' where nothing that the law and all that it calls make is longer than what came in: it says more and counts as full. Else prove '..UptoSaid'. A law counts once. -/
mutual
def uptoBulk {H : Type} : DataW H → Nat
  | .lit (.string bytes) => bytes.length + 1
  | .lit _ => 1
  | .nil => 1
  | .ptr d => uptoBulk d + 1
  | .slice elems spare => uptoBulkAll elems + uptoBulkAll spare + 1
  | .agg parts => uptoBulkAll parts + 1
  | .iface _ d => uptoBulk d + 1
  | .map entries => uptoBulkEntries entries + 1
  | .held _ => 1
def uptoBulkAll {H : Type} : List (DataW H) → Nat
  | [] => 0
  | d :: r => uptoBulk d + uptoBulkAll r
def uptoBulkEntries {H : Type} : List (Lit × DataW H) → Nat
  | [] => 0
  | x :: r => uptoBulkEntry x + uptoBulkEntries r
def uptoBulkEntry {H : Type} : Lit × DataW H → Nat
  | (.string bytes, d) => bytes.length + uptoBulk d + 1
  | (_, d) => uptoBulk d + 1
 end
def uptoSmall : (H : Type) → List (DataW H) → Bool := fun _ ds => decide (uptoBulkAll ds ≤ 1048576)
def OpenSpec.upto (s : _root_.Go.ChangeSpec) : _root_.Go.OpenSpec := { _root_.Go.OpenSpec.ofChange s with cond := some uptoSmall }

/-- 'cachewiselaw10.LearnPlays', WHERE WHAT IT READS IS OF BULK AT MOST 1048576: true; the input reads as it did. -/
def learnPlaysUptoRow : OpenClaim := { program := "ytnlckkahkghneaagreatdoor", sum := "1d94ce0b433be65ac2b78ba9b3743ac02792b28063c8fadd35d46af6495bfaa0", func := "cachewise/cachewiselaw10.LearnPlays", spec := "learnPlays", inPlace := ["internal/reflectlite.ValueOf", "(internal/reflectlite.Value).Type", "(internal/reflectlite.Value).IsNil", "internal/reflectlite.TypeOf", "(internal/reflectlite.Value).Elem", "(internal/reflectlite.Value).Set"], unfollowed := true, recurses := true, named := ["math/bits.divideError", "math/bits.overflowError", "errors.errorType"], apart := false, laid := [("errors.errorType", laid_errors_errorType)], narrowed := true }
def LearnPlaysUptoSaid : Prop := learnPlaysUptoRow.holds Tryz.pinned (OpenSpec.upto learnPlaysSpec)

/-- 'cachewiselaw10.LearnBounds', WHERE WHAT IT READS IS OF BULK AT MOST 1048576: true; the input reads as it did. -/
def learnBoundsUptoRow : OpenClaim := { program := "ytnlckkahkghneaagreatdoor", sum := "1d94ce0b433be65ac2b78ba9b3743ac02792b28063c8fadd35d46af6495bfaa0", func := "cachewise/cachewiselaw10.LearnBounds", spec := "learnBounds", inPlace := ["internal/reflectlite.ValueOf", "(internal/reflectlite.Value).Type", "(internal/reflectlite.Value).IsNil", "internal/reflectlite.TypeOf", "(internal/reflectlite.Value).Elem", "(internal/reflectlite.Value).Set"], unfollowed := true, recurses := true, named := ["math/bits.divideError", "math/bits.overflowError", "errors.errorType"], apart := false, laid := [("errors.errorType", laid_errors_errorType)], narrowed := true }
def LearnBoundsUptoSaid : Prop := learnBoundsUptoRow.holds Tryz.pinned (OpenSpec.upto learnBoundsSpec)

/-- 'cachewiselaw10.LearnRegrets', WHERE WHAT IT READS IS OF BULK AT MOST 1048576: true; the input reads as it did. -/
def learnRegretsUptoRow : OpenClaim := { program := "ytnlckkahkghneaagreatdoor", sum := "1d94ce0b433be65ac2b78ba9b3743ac02792b28063c8fadd35d46af6495bfaa0", func := "cachewise/cachewiselaw10.LearnRegrets", spec := "learnRegrets", inPlace := ["internal/reflectlite.ValueOf", "(internal/reflectlite.Value).Type", "(internal/reflectlite.Value).IsNil", "internal/reflectlite.TypeOf", "(internal/reflectlite.Value).Elem", "(internal/reflectlite.Value).Set"], unfollowed := true, recurses := true, named := ["math/bits.divideError", "math/bits.overflowError", "errors.errorType"], apart := false, laid := [("errors.errorType", laid_errors_errorType)], narrowed := true }
def LearnRegretsUptoSaid : Prop := learnRegretsUptoRow.holds Tryz.pinned (OpenSpec.upto learnRegretsSpec)

/-- 'cachewiselaw10.LearnFollows', WHERE WHAT IT READS IS OF BULK AT MOST 1048576: true; the input reads as it did. -/
def learnFollowsUptoRow : OpenClaim := { program := "ytnlckkahkghneaagreatdoor", sum := "1d94ce0b433be65ac2b78ba9b3743ac02792b28063c8fadd35d46af6495bfaa0", func := "cachewise/cachewiselaw10.LearnFollows", spec := "learnFollows", inPlace := ["internal/reflectlite.ValueOf", "(internal/reflectlite.Value).Type", "(internal/reflectlite.Value).IsNil", "internal/reflectlite.TypeOf", "(internal/reflectlite.Value).Elem", "(internal/reflectlite.Value).Set"], unfollowed := true, recurses := true, named := ["math/bits.divideError", "math/bits.overflowError", "errors.errorType"], apart := false, laid := [("errors.errorType", laid_errors_errorType)], narrowed := true }
def LearnFollowsUptoSaid : Prop := learnFollowsUptoRow.holds Tryz.pinned (OpenSpec.upto learnFollowsSpec)

/-- 'cachewiselaw10.LearnRates', WHERE WHAT IT READS IS OF BULK AT MOST 1048576: true; the input reads as it did. -/
def learnRatesUptoRow : OpenClaim := { program := "ytnlckkahkghneaagreatdoor", sum := "1d94ce0b433be65ac2b78ba9b3743ac02792b28063c8fadd35d46af6495bfaa0", func := "cachewise/cachewiselaw10.LearnRates", spec := "learnRates", inPlace := ["internal/reflectlite.ValueOf", "(internal/reflectlite.Value).Type", "(internal/reflectlite.Value).IsNil", "internal/reflectlite.TypeOf", "(internal/reflectlite.Value).Elem", "(internal/reflectlite.Value).Set"], unfollowed := true, recurses := true, named := ["math/bits.divideError", "math/bits.overflowError", "errors.errorType"], apart := false, laid := [("errors.errorType", laid_errors_errorType)], narrowed := true }
def LearnRatesUptoSaid : Prop := learnRatesUptoRow.holds Tryz.pinned (OpenSpec.upto learnRatesSpec)

/-- 'cachewiselaw10.LearnForgets', WHERE WHAT IT READS IS OF BULK AT MOST 1048576: true; the input reads as it did. -/
def learnForgetsUptoRow : OpenClaim := { program := "ytnlckkahkghneaagreatdoor", sum := "1d94ce0b433be65ac2b78ba9b3743ac02792b28063c8fadd35d46af6495bfaa0", func := "cachewise/cachewiselaw10.LearnForgets", spec := "learnForgets", inPlace := ["internal/reflectlite.ValueOf", "(internal/reflectlite.Value).Type", "(internal/reflectlite.Value).IsNil", "internal/reflectlite.TypeOf", "(internal/reflectlite.Value).Elem", "(internal/reflectlite.Value).Set"], unfollowed := true, recurses := true, named := ["math/bits.divideError", "math/bits.overflowError", "errors.errorType"], apart := false, laid := [("errors.errorType", laid_errors_errorType)], narrowed := true }
def LearnForgetsUptoSaid : Prop := learnForgetsUptoRow.holds Tryz.pinned (OpenSpec.upto learnForgetsSpec)

/-- 'cachewiselaw10.LearnSame', WHERE WHAT IT READS IS OF BULK AT MOST 1048576: true; the input reads as it did. -/
def learnSameUptoRow : OpenClaim := { program := "ytnlckkahkghneaagreatdoor", sum := "1d94ce0b433be65ac2b78ba9b3743ac02792b28063c8fadd35d46af6495bfaa0", func := "cachewise/cachewiselaw10.LearnSame", spec := "learnSame", inPlace := ["internal/reflectlite.ValueOf", "(internal/reflectlite.Value).Type", "(internal/reflectlite.Value).IsNil", "internal/reflectlite.TypeOf", "(internal/reflectlite.Value).Elem", "(internal/reflectlite.Value).Set"], unfollowed := true, recurses := true, named := ["math/bits.divideError", "math/bits.overflowError", "errors.errorType"], apart := false, laid := [("errors.errorType", laid_errors_errorType)], narrowed := true }
def LearnSameUptoSaid : Prop := learnSameUptoRow.holds Tryz.pinned (OpenSpec.upto learnSameSpec)

/-- 'cachewiselaw10.LearnOnce', WHERE WHAT IT READS IS OF BULK AT MOST 1048576: true; the input reads as it did. -/
def learnOnceUptoRow : OpenClaim := { program := "ytnlckkahkghneaagreatdoor", sum := "1d94ce0b433be65ac2b78ba9b3743ac02792b28063c8fadd35d46af6495bfaa0", func := "cachewise/cachewiselaw10.LearnOnce", spec := "learnOnce", inPlace := ["internal/reflectlite.ValueOf", "(internal/reflectlite.Value).Type", "(internal/reflectlite.Value).IsNil", "internal/reflectlite.TypeOf", "(internal/reflectlite.Value).Elem", "(internal/reflectlite.Value).Set"], unfollowed := true, recurses := true, named := ["math/bits.divideError", "math/bits.overflowError", "errors.errorType"], apart := false, laid := [("errors.errorType", laid_errors_errorType)], narrowed := true }
def LearnOnceUptoSaid : Prop := learnOnceUptoRow.holds Tryz.pinned (OpenSpec.upto learnOnceSpec)

end Rows
end Go.Proofs.YtnlckkahkghneaaGreatDoor
