/-
  No cell of these rows narrows 'for every input' (looked for: loops, veiled, ifaces, maps, wideKeys, modest, calm, conditions, laid).
  DERIVED. THE GIVEN ROWS OF THIS SEAT. 5 by the template 'for every input the law returns true; each argument reads behind the call as it read before'; 0 by the template 'total and deterministic' (their statements: YtmnflcidcoejiaaTotals.lean).
  GIVEN WITH THE SEED: the statements are not yours to turn. If you find one false, say at which input.
  Laid BY PROGRAM, IN A SANDBOX (cutbox-rows.mjs): the forced cells as the released guide's own fill.sh prints them over the translation d6e1e1bf5109be95… (all of the seat's roots in one cut). By AI agents, Wed Nov 11 2026. No macro, syntax, notation, axiom, sorry.
-/
import Derived.Test.YtmnflcidcoejiaaChecked
import GoSem.Claim
import GoSem.ClaimJoined
import GoSem.ClaimMapViews
import Derived.JoinedTies
import Derived.KernelRfl
namespace Go.Proofs.Ytmnflcidcoejiaa
/- THE CELL 'sum', in the pinned program and in every row, IS THE sha256 OF THE DUMP (.gsa) THAT YtmnflcidcoejiaaProg.lean LOADS. Nothing in Lean hashes anything: it is a label: what it is worth is what the hold of that sum in a sandbox is worth. -/
noncomputable def Try.pinned : Pinned := { name := "ytmnflcidcoejiaa", sum := "d6e1e1bf5109be95e7b12b5be17630d2cd541e76bdd12a2fa9d388f687ad3446", checked := Try.checked }
namespace Rows
def none {H : Type} : Left H := { results := [], args := [] }

/-- 'cachewiselaw07.SrlruPlays': WHATEVER THE INPUT: true; the input reads as it did. -/
def srlruPlaysSpec : ChangeSpec := { name := "srlruPlays", fn := fun _ => fun
  | [d1, d2] => { results := [.lit (.bool true)], args := [d1, d2] }
  | _ => none }
def srlruPlaysRow : OpenClaim := { program := "ytmnflcidcoejiaa", sum := "d6e1e1bf5109be95e7b12b5be17630d2cd541e76bdd12a2fa9d388f687ad3446", func := "cachewise/cachewiselaw07.SrlruPlays", spec := "srlruPlays", unfollowed := true, recurses := true, apart := false }
def SrlruPlaysSaid : Prop := srlruPlaysRow.holds Try.pinned (OpenSpec.ofChange srlruPlaysSpec)

/-- ITS FALSE NEIGHBOUR: 'it returns false'. Refute it at one input. -/
def srlruPlaysWrong : ChangeSpec := { name := "srlruPlays", fn := fun _ => fun
  | [d1, d2] => { results := [.lit (.bool false)], args := [d1, d2] }
  | _ => none }
def SrlruPlaysWrongFalsely : Prop := srlruPlaysRow.holds Try.pinned (OpenSpec.ofChange srlruPlaysWrong)

/-- 'cachewiselaw07.SrlruScan': WHATEVER THE INPUT: true; the input reads as it did. -/
def srlruScanSpec : ChangeSpec := { name := "srlruScan", fn := fun _ => fun
  | [d1, d2, d3] => { results := [.lit (.bool true)], args := [d1, d2, d3] }
  | _ => none }
def srlruScanRow : OpenClaim := { program := "ytmnflcidcoejiaa", sum := "d6e1e1bf5109be95e7b12b5be17630d2cd541e76bdd12a2fa9d388f687ad3446", func := "cachewise/cachewiselaw07.SrlruScan", spec := "srlruScan", unfollowed := true, recurses := true, apart := false }
def SrlruScanSaid : Prop := srlruScanRow.holds Try.pinned (OpenSpec.ofChange srlruScanSpec)

/-- ITS FALSE NEIGHBOUR: 'it returns false'. Refute it at one input. -/
def srlruScanWrong : ChangeSpec := { name := "srlruScan", fn := fun _ => fun
  | [d1, d2, d3] => { results := [.lit (.bool false)], args := [d1, d2, d3] }
  | _ => none }
def SrlruScanWrongFalsely : Prop := srlruScanRow.holds Try.pinned (OpenSpec.ofChange srlruScanWrong)

/-- 'cachewiselaw07.SrlruTargets': WHATEVER THE INPUT: true; the input reads as it did. -/
def srlruTargetsSpec : ChangeSpec := { name := "srlruTargets", fn := fun _ => fun
  | [d1, d2] => { results := [.lit (.bool true)], args := [d1, d2] }
  | _ => none }
def srlruTargetsRow : OpenClaim := { program := "ytmnflcidcoejiaa", sum := "d6e1e1bf5109be95e7b12b5be17630d2cd541e76bdd12a2fa9d388f687ad3446", func := "cachewise/cachewiselaw07.SrlruTargets", spec := "srlruTargets", unfollowed := true, recurses := true, apart := false }
def SrlruTargetsSaid : Prop := srlruTargetsRow.holds Try.pinned (OpenSpec.ofChange srlruTargetsSpec)

/-- ITS FALSE NEIGHBOUR: 'it returns false'. Refute it at one input. -/
def srlruTargetsWrong : ChangeSpec := { name := "srlruTargets", fn := fun _ => fun
  | [d1, d2] => { results := [.lit (.bool false)], args := [d1, d2] }
  | _ => none }
def SrlruTargetsWrongFalsely : Prop := srlruTargetsRow.holds Try.pinned (OpenSpec.ofChange srlruTargetsWrong)

/-- 'cachewiselaw07.SrlruOnce': WHATEVER THE INPUT: true; the input reads as it did. -/
def srlruOnceSpec : ChangeSpec := { name := "srlruOnce", fn := fun _ => fun
  | [d1, d2] => { results := [.lit (.bool true)], args := [d1, d2] }
  | _ => none }
def srlruOnceRow : OpenClaim := { program := "ytmnflcidcoejiaa", sum := "d6e1e1bf5109be95e7b12b5be17630d2cd541e76bdd12a2fa9d388f687ad3446", func := "cachewise/cachewiselaw07.SrlruOnce", spec := "srlruOnce", unfollowed := true, recurses := true, apart := false }
def SrlruOnceSaid : Prop := srlruOnceRow.holds Try.pinned (OpenSpec.ofChange srlruOnceSpec)

/-- ITS FALSE NEIGHBOUR: 'it returns false'. Refute it at one input. -/
def srlruOnceWrong : ChangeSpec := { name := "srlruOnce", fn := fun _ => fun
  | [d1, d2] => { results := [.lit (.bool false)], args := [d1, d2] }
  | _ => none }
def SrlruOnceWrongFalsely : Prop := srlruOnceRow.holds Try.pinned (OpenSpec.ofChange srlruOnceWrong)

/-- 'cachewiselaw07.SrlruDrops': WHATEVER THE INPUT: true; the input reads as it did. -/
def srlruDropsSpec : ChangeSpec := { name := "srlruDrops", fn := fun _ => fun
  | [d1, d2, d3] => { results := [.lit (.bool true)], args := [d1, d2, d3] }
  | _ => none }
def srlruDropsRow : OpenClaim := { program := "ytmnflcidcoejiaa", sum := "d6e1e1bf5109be95e7b12b5be17630d2cd541e76bdd12a2fa9d388f687ad3446", func := "cachewise/cachewiselaw07.SrlruDrops", spec := "srlruDrops", unfollowed := true, recurses := true, apart := false }
def SrlruDropsSaid : Prop := srlruDropsRow.holds Try.pinned (OpenSpec.ofChange srlruDropsSpec)

/-- ITS FALSE NEIGHBOUR: 'it returns false'. Refute it at one input. -/
def srlruDropsWrong : ChangeSpec := { name := "srlruDrops", fn := fun _ => fun
  | [d1, d2, d3] => { results := [.lit (.bool false)], args := [d1, d2, d3] }
  | _ => none }
def SrlruDropsWrongFalsely : Prop := srlruDropsRow.holds Try.pinned (OpenSpec.ofChange srlruDropsWrong)

/- THE SECOND FORM. 'bulk': how many values and letters a reading holds, each counted each time it is reached (what is shared counts as often as it is met; a slice's spare places count too). A statement '..UptoSaid' is the law's where the arguments, and the package variables that the reading takes, are together of bulk at most 1048576: NARROWER than '..Said'. Prove '..Said' where nothing that the law and all that it calls make is longer than what came in: it says more and counts as full. Else prove '..UptoSaid'. A law counts once. -/
mutual
def uptoBulk {H : Type} : DataW H → Nat
  | .lit (.string bytes) => bytes.length + 1
  | .lit _ => 1
  | .nil => 1
  | .ptr d => uptoBulk d + 1
  | .slice elems spare => uptoBulkAll elems + uptoBulkAll spare + 1
  | .agg parts => uptoBulkAll parts + 1
  | .iface _ d => uptoBulk d + 1
  | .map entries => uptoBulkEntries entries + 1
  | .held _ => 1
def uptoBulkAll {H : Type} : List (DataW H) → Nat
  | [] => 0
  | d :: r => uptoBulk d + uptoBulkAll r
def uptoBulkEntries {H : Type} : List (Lit × DataW H) → Nat
  | [] => 0
  | x :: r => uptoBulkEntry x + uptoBulkEntries r
def uptoBulkEntry {H : Type} : Lit × DataW H → Nat
  | (.string bytes, d) => bytes.length + uptoBulk d + 1
  | (_, d) => uptoBulk d + 1
 end
def uptoSmall : (H : Type) → List (DataW H) → Bool := fun _ ds => decide (uptoBulkAll ds ≤ 1048576)
def OpenSpec.upto (s : _root_.Go.ChangeSpec) : _root_.Go.OpenSpec := { _root_.Go.OpenSpec.ofChange s with cond := some uptoSmall }

/-- 'cachewiselaw07.SrlruPlays', WHERE WHAT IT READS IS OF BULK AT MOST 1048576: true; the input reads as it did. -/
def srlruPlaysUptoRow : OpenClaim := { program := "ytmnflcidcoejiaa", sum := "d6e1e1bf5109be95e7b12b5be17630d2cd541e76bdd12a2fa9d388f687ad3446", func := "cachewise/cachewiselaw07.SrlruPlays", spec := "srlruPlays", unfollowed := true, recurses := true, apart := false, narrowed := true }
def SrlruPlaysUptoSaid : Prop := srlruPlaysUptoRow.holds Try.pinned (OpenSpec.upto srlruPlaysSpec)

/-- 'cachewiselaw07.SrlruScan', WHERE WHAT IT READS IS OF BULK AT MOST 1048576: true; the input reads as it did. -/
def srlruScanUptoRow : OpenClaim := { program := "ytmnflcidcoejiaa", sum := "d6e1e1bf5109be95e7b12b5be17630d2cd541e76bdd12a2fa9d388f687ad3446", func := "cachewise/cachewiselaw07.SrlruScan", spec := "srlruScan", unfollowed := true, recurses := true, apart := false, narrowed := true }
def SrlruScanUptoSaid : Prop := srlruScanUptoRow.holds Try.pinned (OpenSpec.upto srlruScanSpec)

/-- 'cachewiselaw07.SrlruTargets', WHERE WHAT IT READS IS OF BULK AT MOST 1048576: true; the input reads as it did. -/
def srlruTargetsUptoRow : OpenClaim := { program := "ytmnflcidcoejiaa", sum := "d6e1e1bf5109be95e7b12b5be17630d2cd541e76bdd12a2fa9d388f687ad3446", func := "cachewise/cachewiselaw07.SrlruTargets", spec := "srlruTargets", unfollowed := true, recurses := true, apart := false, narrowed := true }
def SrlruTargetsUptoSaid : Prop := srlruTargetsUptoRow.holds Try.pinned (OpenSpec.upto srlruTargetsSpec)

/-- 'cachewiselaw07.SrlruOnce', WHERE WHAT IT READS IS OF BULK AT MOST 1048576: true; the input reads as it did. -/
def srlruOnceUptoRow : OpenClaim := { program := "ytmnflcidcoejiaa", sum := "d6e1e1bf5109be95e7b12b5be17630d2cd541e76bdd12a2fa9d388f687ad3446", func := "cachewise/cachewiselaw07.SrlruOnce", spec := "srlruOnce", unfollowed := true, recurses := true, apart := false, narrowed := true }
def SrlruOnceUptoSaid : Prop := srlruOnceUptoRow.holds Try.pinned (OpenSpec.upto srlruOnceSpec)

/-- 'cachewiselaw07.SrlruDrops', WHERE WHAT IT READS IS OF BULK AT MOST 1048576: true; the input reads as it did. -/
def srlruDropsUptoRow : OpenClaim := { program := "ytmnflcidcoejiaa", sum := "d6e1e1bf5109be95e7b12b5be17630d2cd541e76bdd12a2fa9d388f687ad3446", func := "cachewise/cachewiselaw07.SrlruDrops", spec := "srlruDrops", unfollowed := true, recurses := true, apart := false, narrowed := true }
def SrlruDropsUptoSaid : Prop := srlruDropsUptoRow.holds Try.pinned (OpenSpec.upto srlruDropsSpec)

end Rows
end Go.Proofs.Ytmnflcidcoejiaa
