/-
  NARROWER THAN 'FOR EVERY INPUT', by the rows' own cells (each row's printed sentence says how): PolicyPlays: laid · PolicyNames: laid · PolicyKeeps: laid · PolicyForgets: laid · PolicyShrinks: laid · PolicyAdopts: laid · PolicyDrops: laid · PolicySame: laid.
  DERIVED. THE GIVEN ROWS OF THIS SEAT. 8 by the template 'for every input the law returns true; each argument reads behind the call as it read before'; 0 by the template 'total and deterministic' (their statements: YtgjdjgnfpendgaaGreatDoorTotals.lean).
  GIVEN WITH THE SEED: the statements are not yours to turn. If you find one false, say at which input.
  Laid BY PROGRAM, IN A SANDBOX (cutbox-rows.mjs): the forced cells as the released guide's own fill.sh prints them over the translation 9f2c46d931401dab… (all of the seat's roots in one cut). By AI agents, Wed Nov 11 2026. No macro, syntax, notation, axiom, sorry.
-/
import Derived.Test.YtgjdjgnfpendgaaGreatDoorChecked
import GoSem.Claim
import GoSem.ClaimJoined
import GoSem.ClaimMapViews
import Derived.JoinedTies
import Derived.KernelRfl
namespace Go.Proofs.YtgjdjgnfpendgaaGreatDoor
/- THE CELL 'sum', in the pinned program and in every row, IS THE sha256 OF THE DUMP (.gsa) THAT YtgjdjgnfpendgaaGreatDoorProg.lean LOADS. Nothing in Lean hashes anything: it is a label: what it is worth is what the hold of that sum in a sandbox is worth. -/
noncomputable def Tryz.pinned : Pinned := { name := "ytgjdjgnfpendgaagreatdoor", sum := "9f2c46d931401dab94c8bb75350ae4f853c7761e869279ef300a9d3a4f819176", checked := Tryz.checked }
namespace Rows
def none {H : Type} : Left H := { results := [], args := [] }

/- WHAT THE LISTED PACKAGE-LEVEL VARIABLES READ AS WHEN THE CALL BEGINS. Each datum BY PROGRAM (the guide's laid-datum.mjs) off the statement by which the dump's own 'gosem.cut.vars' lays the variable. In a bare row this is a premise. The card (YtgjdjgnfpendgaaGreatDoorCards.lean) ties it to the program's text. -/
def laid_errors_errorType {H : Type} : DataW H := .iface "internal/reflectlite.rtype" (.agg [.ptr (.lit (.string [101, 114, 114, 111, 114]))])
def laid_cachewise_policy_names {H : Type} : DataW H := .agg [.lit (.string [76, 82, 85]), .lit (.string [76, 70, 85]), .lit (.string [67, 82, 45, 76, 70, 85]), .lit (.string [83, 82, 45, 76, 82, 85]), .lit (.string [65, 82, 67]), .lit (.string [76, 101, 67, 97, 82]), .lit (.string [67, 65, 67, 72, 69, 85, 83])]

/-- 'cachewiselaw09.PolicyPlays': WHATEVER THE INPUT: true; the input reads as it did. -/
def policyPlaysSpec : ChangeSpec := { name := "policyPlays", fn := fun _ => fun
  | [d1, d2, d3] => { results := [.lit (.bool true)], args := [d1, d2, d3] }
  | _ => none }
def policyPlaysRow : OpenClaim := { program := "ytgjdjgnfpendgaagreatdoor", sum := "9f2c46d931401dab94c8bb75350ae4f853c7761e869279ef300a9d3a4f819176", func := "cachewise/cachewiselaw09.PolicyPlays", spec := "policyPlays", inPlace := ["internal/reflectlite.ValueOf", "(internal/reflectlite.Value).Type", "(internal/reflectlite.Value).IsNil", "internal/reflectlite.TypeOf", "(internal/reflectlite.Value).Elem", "(internal/reflectlite.Value).Set"], unfollowed := true, recurses := true, named := ["cachewise/policy.names", "errors.errorType"], apart := false, laid := [("errors.errorType", laid_errors_errorType), ("cachewise/policy.names", laid_cachewise_policy_names)] }
def PolicyPlaysSaid : Prop := policyPlaysRow.holds Tryz.pinned (OpenSpec.ofChange policyPlaysSpec)

/-- ITS FALSE NEIGHBOUR: 'it returns false'. Refute it at one input. -/
def policyPlaysWrong : ChangeSpec := { name := "policyPlays", fn := fun _ => fun
  | [d1, d2, d3] => { results := [.lit (.bool false)], args := [d1, d2, d3] }
  | _ => none }
def PolicyPlaysWrongFalsely : Prop := policyPlaysRow.holds Tryz.pinned (OpenSpec.ofChange policyPlaysWrong)

/-- 'cachewiselaw09.PolicyNames': WHATEVER THE INPUT: true; the input reads as it did. -/
def policyNamesSpec : ChangeSpec := { name := "policyNames", fn := fun _ => fun
  | [d1, d2] => { results := [.lit (.bool true)], args := [d1, d2] }
  | _ => none }
def policyNamesRow : OpenClaim := { program := "ytgjdjgnfpendgaagreatdoor", sum := "9f2c46d931401dab94c8bb75350ae4f853c7761e869279ef300a9d3a4f819176", func := "cachewise/cachewiselaw09.PolicyNames", spec := "policyNames", inPlace := ["internal/reflectlite.ValueOf", "(internal/reflectlite.Value).Type", "(internal/reflectlite.Value).IsNil", "internal/reflectlite.TypeOf", "(internal/reflectlite.Value).Elem", "(internal/reflectlite.Value).Set"], unfollowed := true, recurses := true, named := ["cachewise/policy.names", "errors.errorType"], apart := false, laid := [("errors.errorType", laid_errors_errorType), ("cachewise/policy.names", laid_cachewise_policy_names)] }
def PolicyNamesSaid : Prop := policyNamesRow.holds Tryz.pinned (OpenSpec.ofChange policyNamesSpec)

/-- ITS FALSE NEIGHBOUR: 'it returns false'. Refute it at one input. -/
def policyNamesWrong : ChangeSpec := { name := "policyNames", fn := fun _ => fun
  | [d1, d2] => { results := [.lit (.bool false)], args := [d1, d2] }
  | _ => none }
def PolicyNamesWrongFalsely : Prop := policyNamesRow.holds Tryz.pinned (OpenSpec.ofChange policyNamesWrong)

/-- 'cachewiselaw09.PolicyKeeps': WHATEVER THE INPUT: true; the input reads as it did. -/
def policyKeepsSpec : ChangeSpec := { name := "policyKeeps", fn := fun _ => fun
  | [d1, d2, d3] => { results := [.lit (.bool true)], args := [d1, d2, d3] }
  | _ => none }
def policyKeepsRow : OpenClaim := { program := "ytgjdjgnfpendgaagreatdoor", sum := "9f2c46d931401dab94c8bb75350ae4f853c7761e869279ef300a9d3a4f819176", func := "cachewise/cachewiselaw09.PolicyKeeps", spec := "policyKeeps", inPlace := ["internal/reflectlite.ValueOf", "(internal/reflectlite.Value).Type", "(internal/reflectlite.Value).IsNil", "internal/reflectlite.TypeOf", "(internal/reflectlite.Value).Elem", "(internal/reflectlite.Value).Set"], unfollowed := true, recurses := true, named := ["cachewise/policy.names", "errors.errorType"], apart := false, laid := [("errors.errorType", laid_errors_errorType), ("cachewise/policy.names", laid_cachewise_policy_names)] }
def PolicyKeepsSaid : Prop := policyKeepsRow.holds Tryz.pinned (OpenSpec.ofChange policyKeepsSpec)

/-- ITS FALSE NEIGHBOUR: 'it returns false'. Refute it at one input. -/
def policyKeepsWrong : ChangeSpec := { name := "policyKeeps", fn := fun _ => fun
  | [d1, d2, d3] => { results := [.lit (.bool false)], args := [d1, d2, d3] }
  | _ => none }
def PolicyKeepsWrongFalsely : Prop := policyKeepsRow.holds Tryz.pinned (OpenSpec.ofChange policyKeepsWrong)

/-- 'cachewiselaw09.PolicyForgets': WHATEVER THE INPUT: true; the input reads as it did. -/
def policyForgetsSpec : ChangeSpec := { name := "policyForgets", fn := fun _ => fun
  | [d1, d2, d3, d4] => { results := [.lit (.bool true)], args := [d1, d2, d3, d4] }
  | _ => none }
def policyForgetsRow : OpenClaim := { program := "ytgjdjgnfpendgaagreatdoor", sum := "9f2c46d931401dab94c8bb75350ae4f853c7761e869279ef300a9d3a4f819176", func := "cachewise/cachewiselaw09.PolicyForgets", spec := "policyForgets", inPlace := ["internal/reflectlite.ValueOf", "(internal/reflectlite.Value).Type", "(internal/reflectlite.Value).IsNil", "internal/reflectlite.TypeOf", "(internal/reflectlite.Value).Elem", "(internal/reflectlite.Value).Set"], unfollowed := true, recurses := true, named := ["cachewise/policy.names", "errors.errorType"], apart := false, laid := [("errors.errorType", laid_errors_errorType), ("cachewise/policy.names", laid_cachewise_policy_names)] }
def PolicyForgetsSaid : Prop := policyForgetsRow.holds Tryz.pinned (OpenSpec.ofChange policyForgetsSpec)

/-- ITS FALSE NEIGHBOUR: 'it returns false'. Refute it at one input. -/
def policyForgetsWrong : ChangeSpec := { name := "policyForgets", fn := fun _ => fun
  | [d1, d2, d3, d4] => { results := [.lit (.bool false)], args := [d1, d2, d3, d4] }
  | _ => none }
def PolicyForgetsWrongFalsely : Prop := policyForgetsRow.holds Tryz.pinned (OpenSpec.ofChange policyForgetsWrong)

/-- 'cachewiselaw09.PolicyShrinks': WHATEVER THE INPUT: true; the input reads as it did. -/
def policyShrinksSpec : ChangeSpec := { name := "policyShrinks", fn := fun _ => fun
  | [d1, d2, d3, d4] => { results := [.lit (.bool true)], args := [d1, d2, d3, d4] }
  | _ => none }
def policyShrinksRow : OpenClaim := { program := "ytgjdjgnfpendgaagreatdoor", sum := "9f2c46d931401dab94c8bb75350ae4f853c7761e869279ef300a9d3a4f819176", func := "cachewise/cachewiselaw09.PolicyShrinks", spec := "policyShrinks", inPlace := ["internal/reflectlite.ValueOf", "(internal/reflectlite.Value).Type", "(internal/reflectlite.Value).IsNil", "internal/reflectlite.TypeOf", "(internal/reflectlite.Value).Elem", "(internal/reflectlite.Value).Set"], unfollowed := true, recurses := true, named := ["cachewise/policy.names", "errors.errorType"], apart := false, laid := [("errors.errorType", laid_errors_errorType), ("cachewise/policy.names", laid_cachewise_policy_names)] }
def PolicyShrinksSaid : Prop := policyShrinksRow.holds Tryz.pinned (OpenSpec.ofChange policyShrinksSpec)

/-- ITS FALSE NEIGHBOUR: 'it returns false'. Refute it at one input. -/
def policyShrinksWrong : ChangeSpec := { name := "policyShrinks", fn := fun _ => fun
  | [d1, d2, d3, d4] => { results := [.lit (.bool false)], args := [d1, d2, d3, d4] }
  | _ => none }
def PolicyShrinksWrongFalsely : Prop := policyShrinksRow.holds Tryz.pinned (OpenSpec.ofChange policyShrinksWrong)

/-- 'cachewiselaw09.PolicyAdopts': WHATEVER THE INPUT: true; the input reads as it did. -/
def policyAdoptsSpec : ChangeSpec := { name := "policyAdopts", fn := fun _ => fun
  | [d1, d2, d3, d4] => { results := [.lit (.bool true)], args := [d1, d2, d3, d4] }
  | _ => none }
def policyAdoptsRow : OpenClaim := { program := "ytgjdjgnfpendgaagreatdoor", sum := "9f2c46d931401dab94c8bb75350ae4f853c7761e869279ef300a9d3a4f819176", func := "cachewise/cachewiselaw09.PolicyAdopts", spec := "policyAdopts", inPlace := ["internal/reflectlite.ValueOf", "(internal/reflectlite.Value).Type", "(internal/reflectlite.Value).IsNil", "internal/reflectlite.TypeOf", "(internal/reflectlite.Value).Elem", "(internal/reflectlite.Value).Set"], unfollowed := true, recurses := true, named := ["cachewise/policy.names", "errors.errorType"], apart := false, laid := [("errors.errorType", laid_errors_errorType), ("cachewise/policy.names", laid_cachewise_policy_names)] }
def PolicyAdoptsSaid : Prop := policyAdoptsRow.holds Tryz.pinned (OpenSpec.ofChange policyAdoptsSpec)

/-- ITS FALSE NEIGHBOUR: 'it returns false'. Refute it at one input. -/
def policyAdoptsWrong : ChangeSpec := { name := "policyAdopts", fn := fun _ => fun
  | [d1, d2, d3, d4] => { results := [.lit (.bool false)], args := [d1, d2, d3, d4] }
  | _ => none }
def PolicyAdoptsWrongFalsely : Prop := policyAdoptsRow.holds Tryz.pinned (OpenSpec.ofChange policyAdoptsWrong)

/-- 'cachewiselaw09.PolicyDrops': WHATEVER THE INPUT: true; the input reads as it did. -/
def policyDropsSpec : ChangeSpec := { name := "policyDrops", fn := fun _ => fun
  | [d1, d2, d3] => { results := [.lit (.bool true)], args := [d1, d2, d3] }
  | _ => none }
def policyDropsRow : OpenClaim := { program := "ytgjdjgnfpendgaagreatdoor", sum := "9f2c46d931401dab94c8bb75350ae4f853c7761e869279ef300a9d3a4f819176", func := "cachewise/cachewiselaw09.PolicyDrops", spec := "policyDrops", inPlace := ["internal/reflectlite.ValueOf", "(internal/reflectlite.Value).Type", "(internal/reflectlite.Value).IsNil", "internal/reflectlite.TypeOf", "(internal/reflectlite.Value).Elem", "(internal/reflectlite.Value).Set"], unfollowed := true, recurses := true, named := ["cachewise/policy.names", "errors.errorType"], apart := false, laid := [("errors.errorType", laid_errors_errorType), ("cachewise/policy.names", laid_cachewise_policy_names)] }
def PolicyDropsSaid : Prop := policyDropsRow.holds Tryz.pinned (OpenSpec.ofChange policyDropsSpec)

/-- ITS FALSE NEIGHBOUR: 'it returns false'. Refute it at one input. -/
def policyDropsWrong : ChangeSpec := { name := "policyDrops", fn := fun _ => fun
  | [d1, d2, d3] => { results := [.lit (.bool false)], args := [d1, d2, d3] }
  | _ => none }
def PolicyDropsWrongFalsely : Prop := policyDropsRow.holds Tryz.pinned (OpenSpec.ofChange policyDropsWrong)

/-- 'cachewiselaw09.PolicySame': WHATEVER THE INPUT: true; the input reads as it did. -/
def policySameSpec : ChangeSpec := { name := "policySame", fn := fun _ => fun
  | [d1, d2, d3] => { results := [.lit (.bool true)], args := [d1, d2, d3] }
  | _ => none }
def policySameRow : OpenClaim := { program := "ytgjdjgnfpendgaagreatdoor", sum := "9f2c46d931401dab94c8bb75350ae4f853c7761e869279ef300a9d3a4f819176", func := "cachewise/cachewiselaw09.PolicySame", spec := "policySame", inPlace := ["internal/reflectlite.ValueOf", "(internal/reflectlite.Value).Type", "(internal/reflectlite.Value).IsNil", "internal/reflectlite.TypeOf", "(internal/reflectlite.Value).Elem", "(internal/reflectlite.Value).Set"], unfollowed := true, recurses := true, named := ["cachewise/policy.names", "errors.errorType"], apart := false, laid := [("errors.errorType", laid_errors_errorType), ("cachewise/policy.names", laid_cachewise_policy_names)] }
def PolicySameSaid : Prop := policySameRow.holds Tryz.pinned (OpenSpec.ofChange policySameSpec)

/-- ITS FALSE NEIGHBOUR: 'it returns false'. Refute it at one input. -/
def policySameWrong : ChangeSpec := { name := "policySame", fn := fun _ => fun
  | [d1, d2, d3] => { results := [.lit (.bool false)], args := [d1, d2, d3] }
  | _ => none }
def PolicySameWrongFalsely : Prop := policySameRow.holds Tryz.pinned (OpenSpec.ofChange policySameWrong)

/- THE SECOND FORM. 'bulk': how many values and letters a reading holds, each counted each time it is reached (what is shared counts as often as it is met; a slice's spare places count too). A statement '..UptoSaid' is the law's where the arguments, and the package variables that the reading takes, are together of bulk at most 1048576: NARROWER than '..Said'. Prove '..Said' where nothing that the law and all that it calls make is longer than what came in: it says more and counts as full. Else prove '..UptoSaid'. A law counts once. -/
mutual
def uptoBulk {H : Type} : DataW H → Nat
  | .lit (.string bytes) => bytes.length + 1
  | .lit _ => 1
  | .nil => 1
  | .ptr d => uptoBulk d + 1
  | .slice elems spare => uptoBulkAll elems + uptoBulkAll spare + 1
  | .agg parts => uptoBulkAll parts + 1
  | .iface _ d => uptoBulk d + 1
  | .map entries => uptoBulkEntries entries + 1
  | .held _ => 1
def uptoBulkAll {H : Type} : List (DataW H) → Nat
  | [] => 0
  | d :: r => uptoBulk d + uptoBulkAll r
def uptoBulkEntries {H : Type} : List (Lit × DataW H) → Nat
  | [] => 0
  | x :: r => uptoBulkEntry x + uptoBulkEntries r
def uptoBulkEntry {H : Type} : Lit × DataW H → Nat
  | (.string bytes, d) => bytes.length + uptoBulk d + 1
  | (_, d) => uptoBulk d + 1
 end
def uptoSmall : (H : Type) → List (DataW H) → Bool := fun _ ds => decide (uptoBulkAll ds ≤ 1048576)
def OpenSpec.upto (s : _root_.Go.ChangeSpec) : _root_.Go.OpenSpec := { _root_.Go.OpenSpec.ofChange s with cond := some uptoSmall }

/-- 'cachewiselaw09.PolicyPlays', WHERE WHAT IT READS IS OF BULK AT MOST 1048576: true; the input reads as it did. -/
def policyPlaysUptoRow : OpenClaim := { program := "ytgjdjgnfpendgaagreatdoor", sum := "9f2c46d931401dab94c8bb75350ae4f853c7761e869279ef300a9d3a4f819176", func := "cachewise/cachewiselaw09.PolicyPlays", spec := "policyPlays", inPlace := ["internal/reflectlite.ValueOf", "(internal/reflectlite.Value).Type", "(internal/reflectlite.Value).IsNil", "internal/reflectlite.TypeOf", "(internal/reflectlite.Value).Elem", "(internal/reflectlite.Value).Set"], unfollowed := true, recurses := true, named := ["cachewise/policy.names", "errors.errorType"], apart := false, laid := [("errors.errorType", laid_errors_errorType), ("cachewise/policy.names", laid_cachewise_policy_names)], narrowed := true }
def PolicyPlaysUptoSaid : Prop := policyPlaysUptoRow.holds Tryz.pinned (OpenSpec.upto policyPlaysSpec)

/-- 'cachewiselaw09.PolicyNames', WHERE WHAT IT READS IS OF BULK AT MOST 1048576: true; the input reads as it did. -/
def policyNamesUptoRow : OpenClaim := { program := "ytgjdjgnfpendgaagreatdoor", sum := "9f2c46d931401dab94c8bb75350ae4f853c7761e869279ef300a9d3a4f819176", func := "cachewise/cachewiselaw09.PolicyNames", spec := "policyNames", inPlace := ["internal/reflectlite.ValueOf", "(internal/reflectlite.Value).Type", "(internal/reflectlite.Value).IsNil", "internal/reflectlite.TypeOf", "(internal/reflectlite.Value).Elem", "(internal/reflectlite.Value).Set"], unfollowed := true, recurses := true, named := ["cachewise/policy.names", "errors.errorType"], apart := false, laid := [("errors.errorType", laid_errors_errorType), ("cachewise/policy.names", laid_cachewise_policy_names)], narrowed := true }
def PolicyNamesUptoSaid : Prop := policyNamesUptoRow.holds Tryz.pinned (OpenSpec.upto policyNamesSpec)

/-- 'cachewiselaw09.PolicyKeeps', WHERE WHAT IT READS IS OF BULK AT MOST 1048576: true; the input reads as it did. -/
def policyKeepsUptoRow : OpenClaim := { program := "ytgjdjgnfpendgaagreatdoor", sum := "9f2c46d931401dab94c8bb75350ae4f853c7761e869279ef300a9d3a4f819176", func := "cachewise/cachewiselaw09.PolicyKeeps", spec := "policyKeeps", inPlace := ["internal/reflectlite.ValueOf", "(internal/reflectlite.Value).Type", "(internal/reflectlite.Value).IsNil", "internal/reflectlite.TypeOf", "(internal/reflectlite.Value).Elem", "(internal/reflectlite.Value).Set"], unfollowed := true, recurses := true, named := ["cachewise/policy.names", "errors.errorType"], apart := false, laid := [("errors.errorType", laid_errors_errorType), ("cachewise/policy.names", laid_cachewise_policy_names)], narrowed := true }
def PolicyKeepsUptoSaid : Prop := policyKeepsUptoRow.holds Tryz.pinned (OpenSpec.upto policyKeepsSpec)

/-- 'cachewiselaw09.PolicyForgets', WHERE WHAT IT READS IS OF BULK AT MOST 1048576: true; the input reads as it did. -/
def policyForgetsUptoRow : OpenClaim := { program := "ytgjdjgnfpendgaagreatdoor", sum := "9f2c46d931401dab94c8bb75350ae4f853c7761e869279ef300a9d3a4f819176", func := "cachewise/cachewiselaw09.PolicyForgets", spec := "policyForgets", inPlace := ["internal/reflectlite.ValueOf", "(internal/reflectlite.Value).Type", "(internal/reflectlite.Value).IsNil", "internal/reflectlite.TypeOf", "(internal/reflectlite.Value).Elem", "(internal/reflectlite.Value).Set"], unfollowed := true, recurses := true, named := ["cachewise/policy.names", "errors.errorType"], apart := false, laid := [("errors.errorType", laid_errors_errorType), ("cachewise/policy.names", laid_cachewise_policy_names)], narrowed := true }
def PolicyForgetsUptoSaid : Prop := policyForgetsUptoRow.holds Tryz.pinned (OpenSpec.upto policyForgetsSpec)

/-- 'cachewiselaw09.PolicyShrinks', WHERE WHAT IT READS IS OF BULK AT MOST 1048576: true; the input reads as it did. -/
def policyShrinksUptoRow : OpenClaim := { program := "ytgjdjgnfpendgaagreatdoor", sum := "9f2c46d931401dab94c8bb75350ae4f853c7761e869279ef300a9d3a4f819176", func := "cachewise/cachewiselaw09.PolicyShrinks", spec := "policyShrinks", inPlace := ["internal/reflectlite.ValueOf", "(internal/reflectlite.Value).Type", "(internal/reflectlite.Value).IsNil", "internal/reflectlite.TypeOf", "(internal/reflectlite.Value).Elem", "(internal/reflectlite.Value).Set"], unfollowed := true, recurses := true, named := ["cachewise/policy.names", "errors.errorType"], apart := false, laid := [("errors.errorType", laid_errors_errorType), ("cachewise/policy.names", laid_cachewise_policy_names)], narrowed := true }
def PolicyShrinksUptoSaid : Prop := policyShrinksUptoRow.holds Tryz.pinned (OpenSpec.upto policyShrinksSpec)

/-- 'cachewiselaw09.PolicyAdopts', WHERE WHAT IT READS IS OF BULK AT MOST 1048576: true; the input reads as it did. -/
def policyAdoptsUptoRow : OpenClaim := { program := "ytgjdjgnfpendgaagreatdoor", sum := "9f2c46d931401dab94c8bb75350ae4f853c7761e869279ef300a9d3a4f819176", func := "cachewise/cachewiselaw09.PolicyAdopts", spec := "policyAdopts", inPlace := ["internal/reflectlite.ValueOf", "(internal/reflectlite.Value).Type", "(internal/reflectlite.Value).IsNil", "internal/reflectlite.TypeOf", "(internal/reflectlite.Value).Elem", "(internal/reflectlite.Value).Set"], unfollowed := true, recurses := true, named := ["cachewise/policy.names", "errors.errorType"], apart := false, laid := [("errors.errorType", laid_errors_errorType), ("cachewise/policy.names", laid_cachewise_policy_names)], narrowed := true }
def PolicyAdoptsUptoSaid : Prop := policyAdoptsUptoRow.holds Tryz.pinned (OpenSpec.upto policyAdoptsSpec)

/-- 'cachewiselaw09.PolicyDrops', WHERE WHAT IT READS IS OF BULK AT MOST 1048576: true; the input reads as it did. -/
def policyDropsUptoRow : OpenClaim := { program := "ytgjdjgnfpendgaagreatdoor", sum := "9f2c46d931401dab94c8bb75350ae4f853c7761e869279ef300a9d3a4f819176", func := "cachewise/cachewiselaw09.PolicyDrops", spec := "policyDrops", inPlace := ["internal/reflectlite.ValueOf", "(internal/reflectlite.Value).Type", "(internal/reflectlite.Value).IsNil", "internal/reflectlite.TypeOf", "(internal/reflectlite.Value).Elem", "(internal/reflectlite.Value).Set"], unfollowed := true, recurses := true, named := ["cachewise/policy.names", "errors.errorType"], apart := false, laid := [("errors.errorType", laid_errors_errorType), ("cachewise/policy.names", laid_cachewise_policy_names)], narrowed := true }
def PolicyDropsUptoSaid : Prop := policyDropsUptoRow.holds Tryz.pinned (OpenSpec.upto policyDropsSpec)

/-- 'cachewiselaw09.PolicySame', WHERE WHAT IT READS IS OF BULK AT MOST 1048576: true; the input reads as it did. -/
def policySameUptoRow : OpenClaim := { program := "ytgjdjgnfpendgaagreatdoor", sum := "9f2c46d931401dab94c8bb75350ae4f853c7761e869279ef300a9d3a4f819176", func := "cachewise/cachewiselaw09.PolicySame", spec := "policySame", inPlace := ["internal/reflectlite.ValueOf", "(internal/reflectlite.Value).Type", "(internal/reflectlite.Value).IsNil", "internal/reflectlite.TypeOf", "(internal/reflectlite.Value).Elem", "(internal/reflectlite.Value).Set"], unfollowed := true, recurses := true, named := ["cachewise/policy.names", "errors.errorType"], apart := false, laid := [("errors.errorType", laid_errors_errorType), ("cachewise/policy.names", laid_cachewise_policy_names)], narrowed := true }
def PolicySameUptoSaid : Prop := policySameUptoRow.holds Tryz.pinned (OpenSpec.upto policySameSpec)

end Rows
end Go.Proofs.YtgjdjgnfpendgaaGreatDoor
