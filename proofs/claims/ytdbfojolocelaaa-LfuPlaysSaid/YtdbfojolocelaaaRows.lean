/-
  No cell of these rows narrows 'for every input' (looked for: loops, veiled, ifaces, maps, wideKeys, modest, calm, conditions, laid).
  DERIVED. THE GIVEN ROWS OF THIS SEAT. 5 by the template 'for every input the law returns true; each argument reads behind the call as it read before'; 0 by the template 'total and deterministic' (their statements: YtdbfojolocelaaaTotals.lean).
  GIVEN WITH THE SEED: the statements are not yours to turn. If you find one false, say at which input.
  Laid BY PROGRAM, IN A SANDBOX (cutbox-rows.mjs): the forced cells as the released guide's own fill.sh prints them over the translation 4b673499b0f4d00f… (all of the seat's roots in one cut). By AI agents, Wed Nov 11 2026. No macro, syntax, notation, axiom, sorry.
-/
import Derived.Test.YtdbfojolocelaaaChecked
import GoSem.Claim
import GoSem.ClaimJoined
import GoSem.ClaimMapViews
import Derived.JoinedTies
import Derived.KernelRfl
namespace Go.Proofs.Ytdbfojolocelaaa
/- THE CELL 'sum', in the pinned program and in every row, IS THE sha256 OF THE DUMP (.gsa) THAT YtdbfojolocelaaaProg.lean LOADS. Nothing in Lean hashes anything: it is a label: what it is worth is what the hold of that sum in a sandbox is worth. -/
noncomputable def Try.pinned : Pinned := { name := "ytdbfojolocelaaa", sum := "4b673499b0f4d00fe25be3f958e3ce8e51d998390a4348795fb22e4992c026c9", checked := Try.checked }
namespace Rows
def none {H : Type} : Left H := { results := [], args := [] }

/-- 'cachewiselaw06.LfuPlays': WHATEVER THE INPUT: true; the input reads as it did. -/
def lfuPlaysSpec : ChangeSpec := { name := "lfuPlays", fn := fun _ => fun
  | [d1, d2, d3] => { results := [.lit (.bool true)], args := [d1, d2, d3] }
  | _ => none }
def lfuPlaysRow : OpenClaim := { program := "ytdbfojolocelaaa", sum := "4b673499b0f4d00fe25be3f958e3ce8e51d998390a4348795fb22e4992c026c9", func := "cachewise/cachewiselaw06.LfuPlays", spec := "lfuPlays", unfollowed := true, recurses := true, apart := false }
def LfuPlaysSaid : Prop := lfuPlaysRow.holds Try.pinned (OpenSpec.ofChange lfuPlaysSpec)

/-- ITS FALSE NEIGHBOUR: 'it returns false'. Refute it at one input. -/
def lfuPlaysWrong : ChangeSpec := { name := "lfuPlays", fn := fun _ => fun
  | [d1, d2, d3] => { results := [.lit (.bool false)], args := [d1, d2, d3] }
  | _ => none }
def LfuPlaysWrongFalsely : Prop := lfuPlaysRow.holds Try.pinned (OpenSpec.ofChange lfuPlaysWrong)

/-- 'cachewiselaw06.LfuFewest': WHATEVER THE INPUT: true; the input reads as it did. -/
def lfuFewestSpec : ChangeSpec := { name := "lfuFewest", fn := fun _ => fun
  | [d1, d2, d3] => { results := [.lit (.bool true)], args := [d1, d2, d3] }
  | _ => none }
def lfuFewestRow : OpenClaim := { program := "ytdbfojolocelaaa", sum := "4b673499b0f4d00fe25be3f958e3ce8e51d998390a4348795fb22e4992c026c9", func := "cachewise/cachewiselaw06.LfuFewest", spec := "lfuFewest", unfollowed := true, recurses := true, apart := false }
def LfuFewestSaid : Prop := lfuFewestRow.holds Try.pinned (OpenSpec.ofChange lfuFewestSpec)

/-- ITS FALSE NEIGHBOUR: 'it returns false'. Refute it at one input. -/
def lfuFewestWrong : ChangeSpec := { name := "lfuFewest", fn := fun _ => fun
  | [d1, d2, d3] => { results := [.lit (.bool false)], args := [d1, d2, d3] }
  | _ => none }
def LfuFewestWrongFalsely : Prop := lfuFewestRow.holds Try.pinned (OpenSpec.ofChange lfuFewestWrong)

/-- 'cachewiselaw06.LfuOnce': WHATEVER THE INPUT: true; the input reads as it did. -/
def lfuOnceSpec : ChangeSpec := { name := "lfuOnce", fn := fun _ => fun
  | [d1, d2] => { results := [.lit (.bool true)], args := [d1, d2] }
  | _ => none }
def lfuOnceRow : OpenClaim := { program := "ytdbfojolocelaaa", sum := "4b673499b0f4d00fe25be3f958e3ce8e51d998390a4348795fb22e4992c026c9", func := "cachewise/cachewiselaw06.LfuOnce", spec := "lfuOnce", unfollowed := true, recurses := true, apart := false }
def LfuOnceSaid : Prop := lfuOnceRow.holds Try.pinned (OpenSpec.ofChange lfuOnceSpec)

/-- ITS FALSE NEIGHBOUR: 'it returns false'. Refute it at one input. -/
def lfuOnceWrong : ChangeSpec := { name := "lfuOnce", fn := fun _ => fun
  | [d1, d2] => { results := [.lit (.bool false)], args := [d1, d2] }
  | _ => none }
def LfuOnceWrongFalsely : Prop := lfuOnceRow.holds Try.pinned (OpenSpec.ofChange lfuOnceWrong)

/-- 'cachewiselaw06.LfuAdopts': WHATEVER THE INPUT: true; the input reads as it did. -/
def lfuAdoptsSpec : ChangeSpec := { name := "lfuAdopts", fn := fun _ => fun
  | [d1, d2, d3, d4] => { results := [.lit (.bool true)], args := [d1, d2, d3, d4] }
  | _ => none }
def lfuAdoptsRow : OpenClaim := { program := "ytdbfojolocelaaa", sum := "4b673499b0f4d00fe25be3f958e3ce8e51d998390a4348795fb22e4992c026c9", func := "cachewise/cachewiselaw06.LfuAdopts", spec := "lfuAdopts", unfollowed := true, recurses := true, apart := false }
def LfuAdoptsSaid : Prop := lfuAdoptsRow.holds Try.pinned (OpenSpec.ofChange lfuAdoptsSpec)

/-- ITS FALSE NEIGHBOUR: 'it returns false'. Refute it at one input. -/
def lfuAdoptsWrong : ChangeSpec := { name := "lfuAdopts", fn := fun _ => fun
  | [d1, d2, d3, d4] => { results := [.lit (.bool false)], args := [d1, d2, d3, d4] }
  | _ => none }
def LfuAdoptsWrongFalsely : Prop := lfuAdoptsRow.holds Try.pinned (OpenSpec.ofChange lfuAdoptsWrong)

/-- 'cachewiselaw06.LfuOrder': WHATEVER THE INPUT: true; the input reads as it did. -/
def lfuOrderSpec : ChangeSpec := { name := "lfuOrder", fn := fun _ => fun
  | [d1, d2, d3, d4] => { results := [.lit (.bool true)], args := [d1, d2, d3, d4] }
  | _ => none }
def lfuOrderRow : OpenClaim := { program := "ytdbfojolocelaaa", sum := "4b673499b0f4d00fe25be3f958e3ce8e51d998390a4348795fb22e4992c026c9", func := "cachewise/cachewiselaw06.LfuOrder", spec := "lfuOrder", unfollowed := true, recurses := true, apart := false }
def LfuOrderSaid : Prop := lfuOrderRow.holds Try.pinned (OpenSpec.ofChange lfuOrderSpec)

/-- ITS FALSE NEIGHBOUR: 'it returns false'. Refute it at one input. -/
def lfuOrderWrong : ChangeSpec := { name := "lfuOrder", fn := fun _ => fun
  | [d1, d2, d3, d4] => { results := [.lit (.bool false)], args := [d1, d2, d3, d4] }
  | _ => none }
def LfuOrderWrongFalsely : Prop := lfuOrderRow.holds Try.pinned (OpenSpec.ofChange lfuOrderWrong)

/- THE SECOND FORM. 'bulk': how many values and letters a reading holds, each counted each time it is reached (what is shared counts as often as it is met; a slice's spare places count too). A statement '..UptoSaid' is the law's where the arguments, and the package variables that the reading takes, are together of bulk at most 1048576: NARROWER than '..Said'. Prove '..Said' where nothing that the law and all that it calls make is longer than what came in: it says more and counts as full. Else prove '..UptoSaid'. A law counts once. -/
mutual
def uptoBulk {H : Type} : DataW H → Nat
  | .lit (.string bytes) => bytes.length + 1
  | .lit _ => 1
  | .nil => 1
  | .ptr d => uptoBulk d + 1
  | .slice elems spare => uptoBulkAll elems + uptoBulkAll spare + 1
  | .agg parts => uptoBulkAll parts + 1
  | .iface _ d => uptoBulk d + 1
  | .map entries => uptoBulkEntries entries + 1
  | .held _ => 1
def uptoBulkAll {H : Type} : List (DataW H) → Nat
  | [] => 0
  | d :: r => uptoBulk d + uptoBulkAll r
def uptoBulkEntries {H : Type} : List (Lit × DataW H) → Nat
  | [] => 0
  | x :: r => uptoBulkEntry x + uptoBulkEntries r
def uptoBulkEntry {H : Type} : Lit × DataW H → Nat
  | (.string bytes, d) => bytes.length + uptoBulk d + 1
  | (_, d) => uptoBulk d + 1
 end
def uptoSmall : (H : Type) → List (DataW H) → Bool := fun _ ds => decide (uptoBulkAll ds ≤ 1048576)
def OpenSpec.upto (s : _root_.Go.ChangeSpec) : _root_.Go.OpenSpec := { _root_.Go.OpenSpec.ofChange s with cond := some uptoSmall }

/-- 'cachewiselaw06.LfuPlays', WHERE WHAT IT READS IS OF BULK AT MOST 1048576: true; the input reads as it did. -/
def lfuPlaysUptoRow : OpenClaim := { program := "ytdbfojolocelaaa", sum := "4b673499b0f4d00fe25be3f958e3ce8e51d998390a4348795fb22e4992c026c9", func := "cachewise/cachewiselaw06.LfuPlays", spec := "lfuPlays", unfollowed := true, recurses := true, apart := false, narrowed := true }
def LfuPlaysUptoSaid : Prop := lfuPlaysUptoRow.holds Try.pinned (OpenSpec.upto lfuPlaysSpec)

/-- 'cachewiselaw06.LfuFewest', WHERE WHAT IT READS IS OF BULK AT MOST 1048576: true; the input reads as it did. -/
def lfuFewestUptoRow : OpenClaim := { program := "ytdbfojolocelaaa", sum := "4b673499b0f4d00fe25be3f958e3ce8e51d998390a4348795fb22e4992c026c9", func := "cachewise/cachewiselaw06.LfuFewest", spec := "lfuFewest", unfollowed := true, recurses := true, apart := false, narrowed := true }
def LfuFewestUptoSaid : Prop := lfuFewestUptoRow.holds Try.pinned (OpenSpec.upto lfuFewestSpec)

/-- 'cachewiselaw06.LfuOnce', WHERE WHAT IT READS IS OF BULK AT MOST 1048576: true; the input reads as it did. -/
def lfuOnceUptoRow : OpenClaim := { program := "ytdbfojolocelaaa", sum := "4b673499b0f4d00fe25be3f958e3ce8e51d998390a4348795fb22e4992c026c9", func := "cachewise/cachewiselaw06.LfuOnce", spec := "lfuOnce", unfollowed := true, recurses := true, apart := false, narrowed := true }
def LfuOnceUptoSaid : Prop := lfuOnceUptoRow.holds Try.pinned (OpenSpec.upto lfuOnceSpec)

/-- 'cachewiselaw06.LfuAdopts', WHERE WHAT IT READS IS OF BULK AT MOST 1048576: true; the input reads as it did. -/
def lfuAdoptsUptoRow : OpenClaim := { program := "ytdbfojolocelaaa", sum := "4b673499b0f4d00fe25be3f958e3ce8e51d998390a4348795fb22e4992c026c9", func := "cachewise/cachewiselaw06.LfuAdopts", spec := "lfuAdopts", unfollowed := true, recurses := true, apart := false, narrowed := true }
def LfuAdoptsUptoSaid : Prop := lfuAdoptsUptoRow.holds Try.pinned (OpenSpec.upto lfuAdoptsSpec)

/-- 'cachewiselaw06.LfuOrder', WHERE WHAT IT READS IS OF BULK AT MOST 1048576: true; the input reads as it did. -/
def lfuOrderUptoRow : OpenClaim := { program := "ytdbfojolocelaaa", sum := "4b673499b0f4d00fe25be3f958e3ce8e51d998390a4348795fb22e4992c026c9", func := "cachewise/cachewiselaw06.LfuOrder", spec := "lfuOrder", unfollowed := true, recurses := true, apart := false, narrowed := true }
def LfuOrderUptoSaid : Prop := lfuOrderUptoRow.holds Try.pinned (OpenSpec.upto lfuOrderSpec)

end Rows
end Go.Proofs.Ytdbfojolocelaaa
