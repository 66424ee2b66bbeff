/-
  DERIVED. GIVEN WITH THE SEED: THE CARDS: each row of YtnlckkahkghneaaGreatDoorRows.lean that lists a variable, with what it lists TIED to the program's text (the seventh form; the later family's looks); each row that meets fmt, with fmt's text TOLD by the authors' own Lean function (tested against real Go, not proved from fmt's source: count such statements apart). THE CARD IS WHAT COUNTS. Prove the row's statement (the work); the ties are given (YtnlckkahkghneaaGreatDoorTie.lean); close each card by the builder's one call (the guide's Derived/Test/ToyasCard.lean, 'card_holds'). Laid BY PROGRAM, IN A SANDBOX (cutbox-door.mjs). By AI agents, Wed Nov 11 2026. No macro, syntax, notation, axiom, sorry.
-/
import Derived.Test.YtnlckkahkghneaaGreatDoorRows
import GoSem.ClaimSeven
namespace Go.Proofs.YtnlckkahkghneaaGreatDoor
namespace Rows

/-- THE TIED CARD OF 'cachewiselaw10.LearnPlays'. -/
def learnPlaysCard : Claim7 := { stood := { row := learnPlaysRow, standIns := [], harness := (true, "4ff5cf33c3fbbad114a651b793449117626324858f479d4c2cd0257123a67daf"), looks := true }, kinds := [], alts := [], laidByText := true, laidKinds := [.handle], laidTests := true, laidLooks := .later }
def LearnPlaysCardSaid : Prop := Claim7.holds Tryz.pinned (.plain (OpenSpec.ofChange learnPlaysSpec)) learnPlaysCard

/-- THE TIED CARD OF 'cachewiselaw10.LearnBounds'. -/
def learnBoundsCard : Claim7 := { stood := { row := learnBoundsRow, standIns := [], harness := (true, "4ff5cf33c3fbbad114a651b793449117626324858f479d4c2cd0257123a67daf"), looks := true }, kinds := [], alts := [], laidByText := true, laidKinds := [.handle], laidTests := true, laidLooks := .later }
def LearnBoundsCardSaid : Prop := Claim7.holds Tryz.pinned (.plain (OpenSpec.ofChange learnBoundsSpec)) learnBoundsCard

/-- THE TIED CARD OF 'cachewiselaw10.LearnRegrets'. -/
def learnRegretsCard : Claim7 := { stood := { row := learnRegretsRow, standIns := [], harness := (true, "4ff5cf33c3fbbad114a651b793449117626324858f479d4c2cd0257123a67daf"), looks := true }, kinds := [], alts := [], laidByText := true, laidKinds := [.handle], laidTests := true, laidLooks := .later }
def LearnRegretsCardSaid : Prop := Claim7.holds Tryz.pinned (.plain (OpenSpec.ofChange learnRegretsSpec)) learnRegretsCard

/-- THE TIED CARD OF 'cachewiselaw10.LearnFollows'. -/
def learnFollowsCard : Claim7 := { stood := { row := learnFollowsRow, standIns := [], harness := (true, "4ff5cf33c3fbbad114a651b793449117626324858f479d4c2cd0257123a67daf"), looks := true }, kinds := [], alts := [], laidByText := true, laidKinds := [.handle], laidTests := true, laidLooks := .later }
def LearnFollowsCardSaid : Prop := Claim7.holds Tryz.pinned (.plain (OpenSpec.ofChange learnFollowsSpec)) learnFollowsCard

/-- THE TIED CARD OF 'cachewiselaw10.LearnRates'. -/
def learnRatesCard : Claim7 := { stood := { row := learnRatesRow, standIns := [], harness := (true, "4ff5cf33c3fbbad114a651b793449117626324858f479d4c2cd0257123a67daf"), looks := true }, kinds := [], alts := [], laidByText := true, laidKinds := [.handle], laidTests := true, laidLooks := .later }
def LearnRatesCardSaid : Prop := Claim7.holds Tryz.pinned (.plain (OpenSpec.ofChange learnRatesSpec)) learnRatesCard

/-- THE TIED CARD OF 'cachewiselaw10.LearnForgets'. -/
def learnForgetsCard : Claim7 := { stood := { row := learnForgetsRow, standIns := [], harness := (true, "4ff5cf33c3fbbad114a651b793449117626324858f479d4c2cd0257123a67daf"), looks := true }, kinds := [], alts := [], laidByText := true, laidKinds := [.handle], laidTests := true, laidLooks := .later }
def LearnForgetsCardSaid : Prop := Claim7.holds Tryz.pinned (.plain (OpenSpec.ofChange learnForgetsSpec)) learnForgetsCard

/-- THE TIED CARD OF 'cachewiselaw10.LearnSame'. -/
def learnSameCard : Claim7 := { stood := { row := learnSameRow, standIns := [], harness := (true, "4ff5cf33c3fbbad114a651b793449117626324858f479d4c2cd0257123a67daf"), looks := true }, kinds := [], alts := [], laidByText := true, laidKinds := [.handle], laidTests := true, laidLooks := .later }
def LearnSameCardSaid : Prop := Claim7.holds Tryz.pinned (.plain (OpenSpec.ofChange learnSameSpec)) learnSameCard

/-- THE TIED CARD OF 'cachewiselaw10.LearnOnce'. -/
def learnOnceCard : Claim7 := { stood := { row := learnOnceRow, standIns := [], harness := (true, "4ff5cf33c3fbbad114a651b793449117626324858f479d4c2cd0257123a67daf"), looks := true }, kinds := [], alts := [], laidByText := true, laidKinds := [.handle], laidTests := true, laidLooks := .later }
def LearnOnceCardSaid : Prop := Claim7.holds Tryz.pinned (.plain (OpenSpec.ofChange learnOnceSpec)) learnOnceCard

/-- THE SECOND FORM's CARD OF 'cachewiselaw10.LearnPlays'. -/
def learnPlaysUptoCard : Claim7 := { stood := { row := learnPlaysUptoRow, standIns := [], harness := (true, "4ff5cf33c3fbbad114a651b793449117626324858f479d4c2cd0257123a67daf"), looks := true }, kinds := [], alts := [], laidByText := true, laidKinds := [.handle], laidTests := true, laidLooks := .later }
def LearnPlaysUptoCardSaid : Prop := Claim7.holds Tryz.pinned (.plain (OpenSpec.upto learnPlaysSpec)) learnPlaysUptoCard

/-- THE SECOND FORM's CARD OF 'cachewiselaw10.LearnBounds'. -/
def learnBoundsUptoCard : Claim7 := { stood := { row := learnBoundsUptoRow, standIns := [], harness := (true, "4ff5cf33c3fbbad114a651b793449117626324858f479d4c2cd0257123a67daf"), looks := true }, kinds := [], alts := [], laidByText := true, laidKinds := [.handle], laidTests := true, laidLooks := .later }
def LearnBoundsUptoCardSaid : Prop := Claim7.holds Tryz.pinned (.plain (OpenSpec.upto learnBoundsSpec)) learnBoundsUptoCard

/-- THE SECOND FORM's CARD OF 'cachewiselaw10.LearnRegrets'. -/
def learnRegretsUptoCard : Claim7 := { stood := { row := learnRegretsUptoRow, standIns := [], harness := (true, "4ff5cf33c3fbbad114a651b793449117626324858f479d4c2cd0257123a67daf"), looks := true }, kinds := [], alts := [], laidByText := true, laidKinds := [.handle], laidTests := true, laidLooks := .later }
def LearnRegretsUptoCardSaid : Prop := Claim7.holds Tryz.pinned (.plain (OpenSpec.upto learnRegretsSpec)) learnRegretsUptoCard

/-- THE SECOND FORM's CARD OF 'cachewiselaw10.LearnFollows'. -/
def learnFollowsUptoCard : Claim7 := { stood := { row := learnFollowsUptoRow, standIns := [], harness := (true, "4ff5cf33c3fbbad114a651b793449117626324858f479d4c2cd0257123a67daf"), looks := true }, kinds := [], alts := [], laidByText := true, laidKinds := [.handle], laidTests := true, laidLooks := .later }
def LearnFollowsUptoCardSaid : Prop := Claim7.holds Tryz.pinned (.plain (OpenSpec.upto learnFollowsSpec)) learnFollowsUptoCard

/-- THE SECOND FORM's CARD OF 'cachewiselaw10.LearnRates'. -/
def learnRatesUptoCard : Claim7 := { stood := { row := learnRatesUptoRow, standIns := [], harness := (true, "4ff5cf33c3fbbad114a651b793449117626324858f479d4c2cd0257123a67daf"), looks := true }, kinds := [], alts := [], laidByText := true, laidKinds := [.handle], laidTests := true, laidLooks := .later }
def LearnRatesUptoCardSaid : Prop := Claim7.holds Tryz.pinned (.plain (OpenSpec.upto learnRatesSpec)) learnRatesUptoCard

/-- THE SECOND FORM's CARD OF 'cachewiselaw10.LearnForgets'. -/
def learnForgetsUptoCard : Claim7 := { stood := { row := learnForgetsUptoRow, standIns := [], harness := (true, "4ff5cf33c3fbbad114a651b793449117626324858f479d4c2cd0257123a67daf"), looks := true }, kinds := [], alts := [], laidByText := true, laidKinds := [.handle], laidTests := true, laidLooks := .later }
def LearnForgetsUptoCardSaid : Prop := Claim7.holds Tryz.pinned (.plain (OpenSpec.upto learnForgetsSpec)) learnForgetsUptoCard

/-- THE SECOND FORM's CARD OF 'cachewiselaw10.LearnSame'. -/
def learnSameUptoCard : Claim7 := { stood := { row := learnSameUptoRow, standIns := [], harness := (true, "4ff5cf33c3fbbad114a651b793449117626324858f479d4c2cd0257123a67daf"), looks := true }, kinds := [], alts := [], laidByText := true, laidKinds := [.handle], laidTests := true, laidLooks := .later }
def LearnSameUptoCardSaid : Prop := Claim7.holds Tryz.pinned (.plain (OpenSpec.upto learnSameSpec)) learnSameUptoCard

/-- THE SECOND FORM's CARD OF 'cachewiselaw10.LearnOnce'. -/
def learnOnceUptoCard : Claim7 := { stood := { row := learnOnceUptoRow, standIns := [], harness := (true, "4ff5cf33c3fbbad114a651b793449117626324858f479d4c2cd0257123a67daf"), looks := true }, kinds := [], alts := [], laidByText := true, laidKinds := [.handle], laidTests := true, laidLooks := .later }
def LearnOnceUptoCardSaid : Prop := Claim7.holds Tryz.pinned (.plain (OpenSpec.upto learnOnceSpec)) learnOnceUptoCard
end Rows
end Go.Proofs.YtnlckkahkghneaaGreatDoor
