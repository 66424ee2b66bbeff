/-
  No cell of these rows narrows 'for every input' (looked for: loops, veiled, ifaces, maps, wideKeys, modest, calm, conditions, laid).
  DERIVED. THE GIVEN ROWS OF THIS SEAT. 4 by the template 'for every input the law returns true; each argument reads behind the call as it read before'; 0 by the template 'total and deterministic' (their statements: YtlmbeiijijkjeaaTotals.lean).
  GIVEN WITH THE SEED: the statements are not yours to turn. If you find one false, say at which input.
  Laid BY PROGRAM, IN A SANDBOX (cutbox-rows.mjs): the forced cells as the released guide's own fill.sh prints them over the translation fcc28a605be84475… (all of the seat's roots in one cut). By AI agents, Wed Nov 11 2026. No macro, syntax, notation, axiom, sorry.
-/
import Derived.Test.YtlmbeiijijkjeaaChecked
import GoSem.Claim
import GoSem.ClaimJoined
import GoSem.ClaimMapViews
import Derived.JoinedTies
import Derived.KernelRfl
namespace Go.Proofs.Ytlmbeiijijkjeaa
/- THE CELL 'sum', in the pinned program and in every row, IS THE sha256 OF THE DUMP (.gsa) THAT YtlmbeiijijkjeaaProg.lean LOADS. Nothing in Lean hashes anything: it is a label: what it is worth is what the hold of that sum in a sandbox is worth. -/
noncomputable def Try.pinned : Pinned := { name := "ytlmbeiijijkjeaa", sum := "fcc28a605be84475816d0a4c8a0d14a5b7a4e0cb1e3ab8f9a66a5385365ae921", checked := Try.checked }
namespace Rows
def none {H : Type} : Left H := { results := [], args := [] }

/-- 'cachewiselaw08.ArcBounds': WHATEVER THE INPUT: true; the input reads as it did. -/
def arcBoundsSpec : ChangeSpec := { name := "arcBounds", fn := fun _ => fun
  | [d1, d2] => { results := [.lit (.bool true)], args := [d1, d2] }
  | _ => none }
def arcBoundsRow : OpenClaim := { program := "ytlmbeiijijkjeaa", sum := "fcc28a605be84475816d0a4c8a0d14a5b7a4e0cb1e3ab8f9a66a5385365ae921", func := "cachewise/cachewiselaw08.ArcBounds", spec := "arcBounds", unfollowed := true, recurses := true, apart := false }
def ArcBoundsSaid : Prop := arcBoundsRow.holds Try.pinned (OpenSpec.ofChange arcBoundsSpec)

/-- ITS FALSE NEIGHBOUR: 'it returns false'. Refute it at one input. -/
def arcBoundsWrong : ChangeSpec := { name := "arcBounds", fn := fun _ => fun
  | [d1, d2] => { results := [.lit (.bool false)], args := [d1, d2] }
  | _ => none }
def ArcBoundsWrongFalsely : Prop := arcBoundsRow.holds Try.pinned (OpenSpec.ofChange arcBoundsWrong)

/-- 'cachewiselaw08.ArcOnce': WHATEVER THE INPUT: true; the input reads as it did. -/
def arcOnceSpec : ChangeSpec := { name := "arcOnce", fn := fun _ => fun
  | [d1, d2] => { results := [.lit (.bool true)], args := [d1, d2] }
  | _ => none }
def arcOnceRow : OpenClaim := { program := "ytlmbeiijijkjeaa", sum := "fcc28a605be84475816d0a4c8a0d14a5b7a4e0cb1e3ab8f9a66a5385365ae921", func := "cachewise/cachewiselaw08.ArcOnce", spec := "arcOnce", unfollowed := true, recurses := true, apart := false }
def ArcOnceSaid : Prop := arcOnceRow.holds Try.pinned (OpenSpec.ofChange arcOnceSpec)

/-- ITS FALSE NEIGHBOUR: 'it returns false'. Refute it at one input. -/
def arcOnceWrong : ChangeSpec := { name := "arcOnce", fn := fun _ => fun
  | [d1, d2] => { results := [.lit (.bool false)], args := [d1, d2] }
  | _ => none }
def ArcOnceWrongFalsely : Prop := arcOnceRow.holds Try.pinned (OpenSpec.ofChange arcOnceWrong)

/-- 'cachewiselaw08.ArcComesBack': WHATEVER THE INPUT: true; the input reads as it did. -/
def arcComesBackSpec : ChangeSpec := { name := "arcComesBack", fn := fun _ => fun
  | [d1, d2, d3] => { results := [.lit (.bool true)], args := [d1, d2, d3] }
  | _ => none }
def arcComesBackRow : OpenClaim := { program := "ytlmbeiijijkjeaa", sum := "fcc28a605be84475816d0a4c8a0d14a5b7a4e0cb1e3ab8f9a66a5385365ae921", func := "cachewise/cachewiselaw08.ArcComesBack", spec := "arcComesBack", unfollowed := true, recurses := true, apart := false }
def ArcComesBackSaid : Prop := arcComesBackRow.holds Try.pinned (OpenSpec.ofChange arcComesBackSpec)

/-- ITS FALSE NEIGHBOUR: 'it returns false'. Refute it at one input. -/
def arcComesBackWrong : ChangeSpec := { name := "arcComesBack", fn := fun _ => fun
  | [d1, d2, d3] => { results := [.lit (.bool false)], args := [d1, d2, d3] }
  | _ => none }
def ArcComesBackWrongFalsely : Prop := arcComesBackRow.holds Try.pinned (OpenSpec.ofChange arcComesBackWrong)

/-- 'cachewiselaw08.ArcHits': WHATEVER THE INPUT: true; the input reads as it did. -/
def arcHitsSpec : ChangeSpec := { name := "arcHits", fn := fun _ => fun
  | [d1, d2, d3] => { results := [.lit (.bool true)], args := [d1, d2, d3] }
  | _ => none }
def arcHitsRow : OpenClaim := { program := "ytlmbeiijijkjeaa", sum := "fcc28a605be84475816d0a4c8a0d14a5b7a4e0cb1e3ab8f9a66a5385365ae921", func := "cachewise/cachewiselaw08.ArcHits", spec := "arcHits", unfollowed := true, recurses := true, apart := false }
def ArcHitsSaid : Prop := arcHitsRow.holds Try.pinned (OpenSpec.ofChange arcHitsSpec)

/-- ITS FALSE NEIGHBOUR: 'it returns false'. Refute it at one input. -/
def arcHitsWrong : ChangeSpec := { name := "arcHits", fn := fun _ => fun
  | [d1, d2, d3] => { results := [.lit (.bool false)], args := [d1, d2, d3] }
  | _ => none }
def ArcHitsWrongFalsely : Prop := arcHitsRow.holds Try.pinned (OpenSpec.ofChange arcHitsWrong)

/- THE SECOND FORM. 'bulk': how many values and letters a reading holds, each counted each time it is reached (what is shared counts as often as it is met; a slice's spare places count too). A statement '..UptoSaid' is the law's where the arguments, and the package variables that the reading takes, are together of bulk at most 1048576: NARROWER than '..Said'. Prove '..Said' where nothing that the law and all that it calls make is longer than what came in: it says more and counts as full. Else prove '..UptoSaid'. A law counts once. -/
mutual
def uptoBulk {H : Type} : DataW H → Nat
  | .lit (.string bytes) => bytes.length + 1
  | .lit _ => 1
  | .nil => 1
  | .ptr d => uptoBulk d + 1
  | .slice elems spare => uptoBulkAll elems + uptoBulkAll spare + 1
  | .agg parts => uptoBulkAll parts + 1
  | .iface _ d => uptoBulk d + 1
  | .map entries => uptoBulkEntries entries + 1
  | .held _ => 1
def uptoBulkAll {H : Type} : List (DataW H) → Nat
  | [] => 0
  | d :: r => uptoBulk d + uptoBulkAll r
def uptoBulkEntries {H : Type} : List (Lit × DataW H) → Nat
  | [] => 0
  | x :: r => uptoBulkEntry x + uptoBulkEntries r
def uptoBulkEntry {H : Type} : Lit × DataW H → Nat
  | (.string bytes, d) => bytes.length + uptoBulk d + 1
  | (_, d) => uptoBulk d + 1
 end
def uptoSmall : (H : Type) → List (DataW H) → Bool := fun _ ds => decide (uptoBulkAll ds ≤ 1048576)
def OpenSpec.upto (s : _root_.Go.ChangeSpec) : _root_.Go.OpenSpec := { _root_.Go.OpenSpec.ofChange s with cond := some uptoSmall }

/-- 'cachewiselaw08.ArcBounds', WHERE WHAT IT READS IS OF BULK AT MOST 1048576: true; the input reads as it did. -/
def arcBoundsUptoRow : OpenClaim := { program := "ytlmbeiijijkjeaa", sum := "fcc28a605be84475816d0a4c8a0d14a5b7a4e0cb1e3ab8f9a66a5385365ae921", func := "cachewise/cachewiselaw08.ArcBounds", spec := "arcBounds", unfollowed := true, recurses := true, apart := false, narrowed := true }
def ArcBoundsUptoSaid : Prop := arcBoundsUptoRow.holds Try.pinned (OpenSpec.upto arcBoundsSpec)

/-- 'cachewiselaw08.ArcOnce', WHERE WHAT IT READS IS OF BULK AT MOST 1048576: true; the input reads as it did. -/
def arcOnceUptoRow : OpenClaim := { program := "ytlmbeiijijkjeaa", sum := "fcc28a605be84475816d0a4c8a0d14a5b7a4e0cb1e3ab8f9a66a5385365ae921", func := "cachewise/cachewiselaw08.ArcOnce", spec := "arcOnce", unfollowed := true, recurses := true, apart := false, narrowed := true }
def ArcOnceUptoSaid : Prop := arcOnceUptoRow.holds Try.pinned (OpenSpec.upto arcOnceSpec)

/-- 'cachewiselaw08.ArcComesBack', WHERE WHAT IT READS IS OF BULK AT MOST 1048576: true; the input reads as it did. -/
def arcComesBackUptoRow : OpenClaim := { program := "ytlmbeiijijkjeaa", sum := "fcc28a605be84475816d0a4c8a0d14a5b7a4e0cb1e3ab8f9a66a5385365ae921", func := "cachewise/cachewiselaw08.ArcComesBack", spec := "arcComesBack", unfollowed := true, recurses := true, apart := false, narrowed := true }
def ArcComesBackUptoSaid : Prop := arcComesBackUptoRow.holds Try.pinned (OpenSpec.upto arcComesBackSpec)

/-- 'cachewiselaw08.ArcHits', WHERE WHAT IT READS IS OF BULK AT MOST 1048576: true; the input reads as it did. -/
def arcHitsUptoRow : OpenClaim := { program := "ytlmbeiijijkjeaa", sum := "fcc28a605be84475816d0a4c8a0d14a5b7a4e0cb1e3ab8f9a66a5385365ae921", func := "cachewise/cachewiselaw08.ArcHits", spec := "arcHits", unfollowed := true, recurses := true, apart := false, narrowed := true }
def ArcHitsUptoSaid : Prop := arcHitsUptoRow.holds Try.pinned (OpenSpec.upto arcHitsSpec)

end Rows
end Go.Proofs.Ytlmbeiijijkjeaa
