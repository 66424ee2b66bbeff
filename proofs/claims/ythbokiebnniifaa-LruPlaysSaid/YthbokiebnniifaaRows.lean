/-
  No cell of these rows narrows 'for every input' (looked for: loops, veiled, ifaces, maps, wideKeys, modest, calm, conditions, laid).
  DERIVED. THE GIVEN ROWS OF THIS SEAT. 6 by the template 'for every input the law returns true; each argument reads behind the call as it read before'; 0 by the template 'total and deterministic' (their statements: YthbokiebnniifaaTotals.lean).
  GIVEN WITH THE SEED: the statements are not yours to turn. If you find one false, say at which input.
  Laid BY PROGRAM, IN A SANDBOX (cutbox-rows.mjs): the forced cells as the released guide's own fill.sh prints them over the translation 01b75c6ea68617a4… (all of the seat's roots in one cut). By AI agents, Wed Nov 11 2026. No macro, syntax, notation, axiom, sorry.
-/
import Derived.Test.YthbokiebnniifaaChecked
import GoSem.Claim
import GoSem.ClaimJoined
import GoSem.ClaimMapViews
import Derived.JoinedTies
import Derived.KernelRfl
namespace Go.Proofs.Ythbokiebnniifaa
/- THE CELL 'sum', in the pinned program and in every row, IS THE sha256 OF THE DUMP (.gsa) THAT YthbokiebnniifaaProg.lean LOADS. Nothing in Lean hashes anything: it is a label: what it is worth is what the hold of that sum in a sandbox is worth. -/
noncomputable def Try.pinned : Pinned := { name := "ythbokiebnniifaa", sum := "01b75c6ea68617a4280dd0203be873759b2bc57af4a6cd2a95d34151c6e9d6dd", checked := Try.checked }
namespace Rows
def none {H : Type} : Left H := { results := [], args := [] }

/-- 'cachewiselaw05.LruPlays': WHATEVER THE INPUT: true; the input reads as it did. -/
def lruPlaysSpec : ChangeSpec := { name := "lruPlays", fn := fun _ => fun
  | [d1, d2] => { results := [.lit (.bool true)], args := [d1, d2] }
  | _ => none }
def lruPlaysRow : OpenClaim := { program := "ythbokiebnniifaa", sum := "01b75c6ea68617a4280dd0203be873759b2bc57af4a6cd2a95d34151c6e9d6dd", func := "cachewise/cachewiselaw05.LruPlays", spec := "lruPlays", unfollowed := true, recurses := true, apart := false }
def LruPlaysSaid : Prop := lruPlaysRow.holds Try.pinned (OpenSpec.ofChange lruPlaysSpec)

/-- ITS FALSE NEIGHBOUR: 'it returns false'. Refute it at one input. -/
def lruPlaysWrong : ChangeSpec := { name := "lruPlays", fn := fun _ => fun
  | [d1, d2] => { results := [.lit (.bool false)], args := [d1, d2] }
  | _ => none }
def LruPlaysWrongFalsely : Prop := lruPlaysRow.holds Try.pinned (OpenSpec.ofChange lruPlaysWrong)

/-- 'cachewiselaw05.LruStack': WHATEVER THE INPUT: true; the input reads as it did. -/
def lruStackSpec : ChangeSpec := { name := "lruStack", fn := fun _ => fun
  | [d1, d2, d3] => { results := [.lit (.bool true)], args := [d1, d2, d3] }
  | _ => none }
def lruStackRow : OpenClaim := { program := "ythbokiebnniifaa", sum := "01b75c6ea68617a4280dd0203be873759b2bc57af4a6cd2a95d34151c6e9d6dd", func := "cachewise/cachewiselaw05.LruStack", spec := "lruStack", unfollowed := true, recurses := true, apart := false }
def LruStackSaid : Prop := lruStackRow.holds Try.pinned (OpenSpec.ofChange lruStackSpec)

/-- ITS FALSE NEIGHBOUR: 'it returns false'. Refute it at one input. -/
def lruStackWrong : ChangeSpec := { name := "lruStack", fn := fun _ => fun
  | [d1, d2, d3] => { results := [.lit (.bool false)], args := [d1, d2, d3] }
  | _ => none }
def LruStackWrongFalsely : Prop := lruStackRow.holds Try.pinned (OpenSpec.ofChange lruStackWrong)

/-- 'cachewiselaw05.LruRecent': WHATEVER THE INPUT: true; the input reads as it did. -/
def lruRecentSpec : ChangeSpec := { name := "lruRecent", fn := fun _ => fun
  | [d1, d2] => { results := [.lit (.bool true)], args := [d1, d2] }
  | _ => none }
def lruRecentRow : OpenClaim := { program := "ythbokiebnniifaa", sum := "01b75c6ea68617a4280dd0203be873759b2bc57af4a6cd2a95d34151c6e9d6dd", func := "cachewise/cachewiselaw05.LruRecent", spec := "lruRecent", unfollowed := true, recurses := true, apart := false }
def LruRecentSaid : Prop := lruRecentRow.holds Try.pinned (OpenSpec.ofChange lruRecentSpec)

/-- ITS FALSE NEIGHBOUR: 'it returns false'. Refute it at one input. -/
def lruRecentWrong : ChangeSpec := { name := "lruRecent", fn := fun _ => fun
  | [d1, d2] => { results := [.lit (.bool false)], args := [d1, d2] }
  | _ => none }
def LruRecentWrongFalsely : Prop := lruRecentRow.holds Try.pinned (OpenSpec.ofChange lruRecentWrong)

/-- 'cachewiselaw05.LruResizes': WHATEVER THE INPUT: true; the input reads as it did. -/
def lruResizesSpec : ChangeSpec := { name := "lruResizes", fn := fun _ => fun
  | [d1, d2, d3] => { results := [.lit (.bool true)], args := [d1, d2, d3] }
  | _ => none }
def lruResizesRow : OpenClaim := { program := "ythbokiebnniifaa", sum := "01b75c6ea68617a4280dd0203be873759b2bc57af4a6cd2a95d34151c6e9d6dd", func := "cachewise/cachewiselaw05.LruResizes", spec := "lruResizes", unfollowed := true, recurses := true, apart := false }
def LruResizesSaid : Prop := lruResizesRow.holds Try.pinned (OpenSpec.ofChange lruResizesSpec)

/-- ITS FALSE NEIGHBOUR: 'it returns false'. Refute it at one input. -/
def lruResizesWrong : ChangeSpec := { name := "lruResizes", fn := fun _ => fun
  | [d1, d2, d3] => { results := [.lit (.bool false)], args := [d1, d2, d3] }
  | _ => none }
def LruResizesWrongFalsely : Prop := lruResizesRow.holds Try.pinned (OpenSpec.ofChange lruResizesWrong)

/-- 'cachewiselaw05.LruAdopts': WHATEVER THE INPUT: true; the input reads as it did. -/
def lruAdoptsSpec : ChangeSpec := { name := "lruAdopts", fn := fun _ => fun
  | [d1, d2, d3] => { results := [.lit (.bool true)], args := [d1, d2, d3] }
  | _ => none }
def lruAdoptsRow : OpenClaim := { program := "ythbokiebnniifaa", sum := "01b75c6ea68617a4280dd0203be873759b2bc57af4a6cd2a95d34151c6e9d6dd", func := "cachewise/cachewiselaw05.LruAdopts", spec := "lruAdopts", unfollowed := true, recurses := true, apart := false }
def LruAdoptsSaid : Prop := lruAdoptsRow.holds Try.pinned (OpenSpec.ofChange lruAdoptsSpec)

/-- ITS FALSE NEIGHBOUR: 'it returns false'. Refute it at one input. -/
def lruAdoptsWrong : ChangeSpec := { name := "lruAdopts", fn := fun _ => fun
  | [d1, d2, d3] => { results := [.lit (.bool false)], args := [d1, d2, d3] }
  | _ => none }
def LruAdoptsWrongFalsely : Prop := lruAdoptsRow.holds Try.pinned (OpenSpec.ofChange lruAdoptsWrong)

/-- 'cachewiselaw05.LruDrops': WHATEVER THE INPUT: true; the input reads as it did. -/
def lruDropsSpec : ChangeSpec := { name := "lruDrops", fn := fun _ => fun
  | [d1, d2, d3] => { results := [.lit (.bool true)], args := [d1, d2, d3] }
  | _ => none }
def lruDropsRow : OpenClaim := { program := "ythbokiebnniifaa", sum := "01b75c6ea68617a4280dd0203be873759b2bc57af4a6cd2a95d34151c6e9d6dd", func := "cachewise/cachewiselaw05.LruDrops", spec := "lruDrops", unfollowed := true, recurses := true, apart := false }
def LruDropsSaid : Prop := lruDropsRow.holds Try.pinned (OpenSpec.ofChange lruDropsSpec)

/-- ITS FALSE NEIGHBOUR: 'it returns false'. Refute it at one input. -/
def lruDropsWrong : ChangeSpec := { name := "lruDrops", fn := fun _ => fun
  | [d1, d2, d3] => { results := [.lit (.bool false)], args := [d1, d2, d3] }
  | _ => none }
def LruDropsWrongFalsely : Prop := lruDropsRow.holds Try.pinned (OpenSpec.ofChange lruDropsWrong)

/- THE SECOND FORM. 'bulk': how many values and letters a reading holds, each counted each time it is reached (what is shared counts as often as it is met; a slice's spare places count too). A statement '..UptoSaid' is the law's where the arguments, and the package variables that the reading takes, are together of bulk at most 1048576: NARROWER than '..Said'. Prove '..Said' where nothing that the law and all that it calls make is longer than what came in: it says more and counts as full. Else prove '..UptoSaid'. A law counts once. -/
mutual
def uptoBulk {H : Type} : DataW H → Nat
  | .lit (.string bytes) => bytes.length + 1
  | .lit _ => 1
  | .nil => 1
  | .ptr d => uptoBulk d + 1
  | .slice elems spare => uptoBulkAll elems + uptoBulkAll spare + 1
  | .agg parts => uptoBulkAll parts + 1
  | .iface _ d => uptoBulk d + 1
  | .map entries => uptoBulkEntries entries + 1
  | .held _ => 1
def uptoBulkAll {H : Type} : List (DataW H) → Nat
  | [] => 0
  | d :: r => uptoBulk d + uptoBulkAll r
def uptoBulkEntries {H : Type} : List (Lit × DataW H) → Nat
  | [] => 0
  | x :: r => uptoBulkEntry x + uptoBulkEntries r
def uptoBulkEntry {H : Type} : Lit × DataW H → Nat
  | (.string bytes, d) => bytes.length + uptoBulk d + 1
  | (_, d) => uptoBulk d + 1
 end
def uptoSmall : (H : Type) → List (DataW H) → Bool := fun _ ds => decide (uptoBulkAll ds ≤ 1048576)
def OpenSpec.upto (s : _root_.Go.ChangeSpec) : _root_.Go.OpenSpec := { _root_.Go.OpenSpec.ofChange s with cond := some uptoSmall }

/-- 'cachewiselaw05.LruPlays', WHERE WHAT IT READS IS OF BULK AT MOST 1048576: true; the input reads as it did. -/
def lruPlaysUptoRow : OpenClaim := { program := "ythbokiebnniifaa", sum := "01b75c6ea68617a4280dd0203be873759b2bc57af4a6cd2a95d34151c6e9d6dd", func := "cachewise/cachewiselaw05.LruPlays", spec := "lruPlays", unfollowed := true, recurses := true, apart := false, narrowed := true }
def LruPlaysUptoSaid : Prop := lruPlaysUptoRow.holds Try.pinned (OpenSpec.upto lruPlaysSpec)

/-- 'cachewiselaw05.LruStack', WHERE WHAT IT READS IS OF BULK AT MOST 1048576: true; the input reads as it did. -/
def lruStackUptoRow : OpenClaim := { program := "ythbokiebnniifaa", sum := "01b75c6ea68617a4280dd0203be873759b2bc57af4a6cd2a95d34151c6e9d6dd", func := "cachewise/cachewiselaw05.LruStack", spec := "lruStack", unfollowed := true, recurses := true, apart := false, narrowed := true }
def LruStackUptoSaid : Prop := lruStackUptoRow.holds Try.pinned (OpenSpec.upto lruStackSpec)

/-- 'cachewiselaw05.LruRecent', WHERE WHAT IT READS IS OF BULK AT MOST 1048576: true; the input reads as it did. -/
def lruRecentUptoRow : OpenClaim := { program := "ythbokiebnniifaa", sum := "01b75c6ea68617a4280dd0203be873759b2bc57af4a6cd2a95d34151c6e9d6dd", func := "cachewise/cachewiselaw05.LruRecent", spec := "lruRecent", unfollowed := true, recurses := true, apart := false, narrowed := true }
def LruRecentUptoSaid : Prop := lruRecentUptoRow.holds Try.pinned (OpenSpec.upto lruRecentSpec)

/-- 'cachewiselaw05.LruResizes', WHERE WHAT IT READS IS OF BULK AT MOST 1048576: true; the input reads as it did. -/
def lruResizesUptoRow : OpenClaim := { program := "ythbokiebnniifaa", sum := "01b75c6ea68617a4280dd0203be873759b2bc57af4a6cd2a95d34151c6e9d6dd", func := "cachewise/cachewiselaw05.LruResizes", spec := "lruResizes", unfollowed := true, recurses := true, apart := false, narrowed := true }
def LruResizesUptoSaid : Prop := lruResizesUptoRow.holds Try.pinned (OpenSpec.upto lruResizesSpec)

/-- 'cachewiselaw05.LruAdopts', WHERE WHAT IT READS IS OF BULK AT MOST 1048576: true; the input reads as it did. -/
def lruAdoptsUptoRow : OpenClaim := { program := "ythbokiebnniifaa", sum := "01b75c6ea68617a4280dd0203be873759b2bc57af4a6cd2a95d34151c6e9d6dd", func := "cachewise/cachewiselaw05.LruAdopts", spec := "lruAdopts", unfollowed := true, recurses := true, apart := false, narrowed := true }
def LruAdoptsUptoSaid : Prop := lruAdoptsUptoRow.holds Try.pinned (OpenSpec.upto lruAdoptsSpec)

/-- 'cachewiselaw05.LruDrops', WHERE WHAT IT READS IS OF BULK AT MOST 1048576: true; the input reads as it did. -/
def lruDropsUptoRow : OpenClaim := { program := "ythbokiebnniifaa", sum := "01b75c6ea68617a4280dd0203be873759b2bc57af4a6cd2a95d34151c6e9d6dd", func := "cachewise/cachewiselaw05.LruDrops", spec := "lruDrops", unfollowed := true, recurses := true, apart := false, narrowed := true }
def LruDropsUptoSaid : Prop := lruDropsUptoRow.holds Try.pinned (OpenSpec.upto lruDropsSpec)

end Rows
end Go.Proofs.Ythbokiebnniifaa
