/-
  DERIVED. GIVEN WITH THE SEED: THE CARDS: each row of YtgjdjgnfpendgaaGreatDoorRows.lean that lists a variable, with what it lists TIED to the program's text (the seventh form; the later family's looks); each row that meets fmt, with fmt's text TOLD by the authors' own Lean function (tested against real Go, not proved from fmt's source: count such statements apart). THE CARD IS WHAT COUNTS. Prove the row's statement (the work); the ties are given (YtgjdjgnfpendgaaGreatDoorTie.lean); close each card by the builder's one call (the guide's Derived/Test/ToyasCard.lean, 'card_holds'). Laid BY PROGRAM, IN A SANDBOX (cutbox-door.mjs). By AI agents, Wed Nov 11 2026. No macro, syntax, notation, axiom, sorry.
-/
import Derived.Test.YtgjdjgnfpendgaaGreatDoorRows
import GoSem.ClaimSeven
namespace Go.Proofs.YtgjdjgnfpendgaaGreatDoor
namespace Rows

/-- THE TIED CARD OF 'cachewiselaw09.PolicyPlays'. -/
def policyPlaysCard : Claim7 := { stood := { row := policyPlaysRow, standIns := [], harness := (true, "3db612e7d9894b108342cd0186c71525eaf1df94550b845003bc65ace7572010"), looks := true }, kinds := [], alts := [], laidByText := true, laidKinds := [.handle, .data], laidTests := true, laidLooks := .later }
def PolicyPlaysCardSaid : Prop := Claim7.holds Tryz.pinned (.plain (OpenSpec.ofChange policyPlaysSpec)) policyPlaysCard

/-- THE TIED CARD OF 'cachewiselaw09.PolicyNames'. -/
def policyNamesCard : Claim7 := { stood := { row := policyNamesRow, standIns := [], harness := (true, "3db612e7d9894b108342cd0186c71525eaf1df94550b845003bc65ace7572010"), looks := true }, kinds := [], alts := [], laidByText := true, laidKinds := [.handle, .data], laidTests := true, laidLooks := .later }
def PolicyNamesCardSaid : Prop := Claim7.holds Tryz.pinned (.plain (OpenSpec.ofChange policyNamesSpec)) policyNamesCard

/-- THE TIED CARD OF 'cachewiselaw09.PolicyKeeps'. -/
def policyKeepsCard : Claim7 := { stood := { row := policyKeepsRow, standIns := [], harness := (true, "3db612e7d9894b108342cd0186c71525eaf1df94550b845003bc65ace7572010"), looks := true }, kinds := [], alts := [], laidByText := true, laidKinds := [.handle, .data], laidTests := true, laidLooks := .later }
def PolicyKeepsCardSaid : Prop := Claim7.holds Tryz.pinned (.plain (OpenSpec.ofChange policyKeepsSpec)) policyKeepsCard

/-- THE TIED CARD OF 'cachewiselaw09.PolicyForgets'. -/
def policyForgetsCard : Claim7 := { stood := { row := policyForgetsRow, standIns := [], harness := (true, "3db612e7d9894b108342cd0186c71525eaf1df94550b845003bc65ace7572010"), looks := true }, kinds := [], alts := [], laidByText := true, laidKinds := [.handle, .data], laidTests := true, laidLooks := .later }
def PolicyForgetsCardSaid : Prop := Claim7.holds Tryz.pinned (.plain (OpenSpec.ofChange policyForgetsSpec)) policyForgetsCard

/-- THE TIED CARD OF 'cachewiselaw09.PolicyShrinks'. -/
def policyShrinksCard : Claim7 := { stood := { row := policyShrinksRow, standIns := [], harness := (true, "3db612e7d9894b108342cd0186c71525eaf1df94550b845003bc65ace7572010"), looks := true }, kinds := [], alts := [], laidByText := true, laidKinds := [.handle, .data], laidTests := true, laidLooks := .later }
def PolicyShrinksCardSaid : Prop := Claim7.holds Tryz.pinned (.plain (OpenSpec.ofChange policyShrinksSpec)) policyShrinksCard

/-- THE TIED CARD OF 'cachewiselaw09.PolicyAdopts'. -/
def policyAdoptsCard : Claim7 := { stood := { row := policyAdoptsRow, standIns := [], harness := (true, "3db612e7d9894b108342cd0186c71525eaf1df94550b845003bc65ace7572010"), looks := true }, kinds := [], alts := [], laidByText := true, laidKinds := [.handle, .data], laidTests := true, laidLooks := .later }
def PolicyAdoptsCardSaid : Prop := Claim7.holds Tryz.pinned (.plain (OpenSpec.ofChange policyAdoptsSpec)) policyAdoptsCard

/-- THE TIED CARD OF 'cachewiselaw09.PolicyDrops'. -/
def policyDropsCard : Claim7 := { stood := { row := policyDropsRow, standIns := [], harness := (true, "3db612e7d9894b108342cd0186c71525eaf1df94550b845003bc65ace7572010"), looks := true }, kinds := [], alts := [], laidByText := true, laidKinds := [.handle, .data], laidTests := true, laidLooks := .later }
def PolicyDropsCardSaid : Prop := Claim7.holds Tryz.pinned (.plain (OpenSpec.ofChange policyDropsSpec)) policyDropsCard

/-- THE TIED CARD OF 'cachewiselaw09.PolicySame'. -/
def policySameCard : Claim7 := { stood := { row := policySameRow, standIns := [], harness := (true, "3db612e7d9894b108342cd0186c71525eaf1df94550b845003bc65ace7572010"), looks := true }, kinds := [], alts := [], laidByText := true, laidKinds := [.handle, .data], laidTests := true, laidLooks := .later }
def PolicySameCardSaid : Prop := Claim7.holds Tryz.pinned (.plain (OpenSpec.ofChange policySameSpec)) policySameCard

/-- THE SECOND FORM's CARD OF 'cachewiselaw09.PolicyPlays'. -/
def policyPlaysUptoCard : Claim7 := { stood := { row := policyPlaysUptoRow, standIns := [], harness := (true, "3db612e7d9894b108342cd0186c71525eaf1df94550b845003bc65ace7572010"), looks := true }, kinds := [], alts := [], laidByText := true, laidKinds := [.handle, .data], laidTests := true, laidLooks := .later }
def PolicyPlaysUptoCardSaid : Prop := Claim7.holds Tryz.pinned (.plain (OpenSpec.upto policyPlaysSpec)) policyPlaysUptoCard

/-- THE SECOND FORM's CARD OF 'cachewiselaw09.PolicyNames'. -/
def policyNamesUptoCard : Claim7 := { stood := { row := policyNamesUptoRow, standIns := [], harness := (true, "3db612e7d9894b108342cd0186c71525eaf1df94550b845003bc65ace7572010"), looks := true }, kinds := [], alts := [], laidByText := true, laidKinds := [.handle, .data], laidTests := true, laidLooks := .later }
def PolicyNamesUptoCardSaid : Prop := Claim7.holds Tryz.pinned (.plain (OpenSpec.upto policyNamesSpec)) policyNamesUptoCard

/-- THE SECOND FORM's CARD OF 'cachewiselaw09.PolicyKeeps'. -/
def policyKeepsUptoCard : Claim7 := { stood := { row := policyKeepsUptoRow, standIns := [], harness := (true, "3db612e7d9894b108342cd0186c71525eaf1df94550b845003bc65ace7572010"), looks := true }, kinds := [], alts := [], laidByText := true, laidKinds := [.handle, .data], laidTests := true, laidLooks := .later }
def PolicyKeepsUptoCardSaid : Prop := Claim7.holds Tryz.pinned (.plain (OpenSpec.upto policyKeepsSpec)) policyKeepsUptoCard

/-- THE SECOND FORM's CARD OF 'cachewiselaw09.PolicyForgets'. -/
def policyForgetsUptoCard : Claim7 := { stood := { row := policyForgetsUptoRow, standIns := [], harness := (true, "3db612e7d9894b108342cd0186c71525eaf1df94550b845003bc65ace7572010"), looks := true }, kinds := [], alts := [], laidByText := true, laidKinds := [.handle, .data], laidTests := true, laidLooks := .later }
def PolicyForgetsUptoCardSaid : Prop := Claim7.holds Tryz.pinned (.plain (OpenSpec.upto policyForgetsSpec)) policyForgetsUptoCard

/-- THE SECOND FORM's CARD OF 'cachewiselaw09.PolicyShrinks'. -/
def policyShrinksUptoCard : Claim7 := { stood := { row := policyShrinksUptoRow, standIns := [], harness := (true, "3db612e7d9894b108342cd0186c71525eaf1df94550b845003bc65ace7572010"), looks := true }, kinds := [], alts := [], laidByText := true, laidKinds := [.handle, .data], laidTests := true, laidLooks := .later }
def PolicyShrinksUptoCardSaid : Prop := Claim7.holds Tryz.pinned (.plain (OpenSpec.upto policyShrinksSpec)) policyShrinksUptoCard

/-- THE SECOND FORM's CARD OF 'cachewiselaw09.PolicyAdopts'. -/
def policyAdoptsUptoCard : Claim7 := { stood := { row := policyAdoptsUptoRow, standIns := [], harness := (true, "3db612e7d9894b108342cd0186c71525eaf1df94550b845003bc65ace7572010"), looks := true }, kinds := [], alts := [], laidByText := true, laidKinds := [.handle, .data], laidTests := true, laidLooks := .later }
def PolicyAdoptsUptoCardSaid : Prop := Claim7.holds Tryz.pinned (.plain (OpenSpec.upto policyAdoptsSpec)) policyAdoptsUptoCard

/-- THE SECOND FORM's CARD OF 'cachewiselaw09.PolicyDrops'. -/
def policyDropsUptoCard : Claim7 := { stood := { row := policyDropsUptoRow, standIns := [], harness := (true, "3db612e7d9894b108342cd0186c71525eaf1df94550b845003bc65ace7572010"), looks := true }, kinds := [], alts := [], laidByText := true, laidKinds := [.handle, .data], laidTests := true, laidLooks := .later }
def PolicyDropsUptoCardSaid : Prop := Claim7.holds Tryz.pinned (.plain (OpenSpec.upto policyDropsSpec)) policyDropsUptoCard

/-- THE SECOND FORM's CARD OF 'cachewiselaw09.PolicySame'. -/
def policySameUptoCard : Claim7 := { stood := { row := policySameUptoRow, standIns := [], harness := (true, "3db612e7d9894b108342cd0186c71525eaf1df94550b845003bc65ace7572010"), looks := true }, kinds := [], alts := [], laidByText := true, laidKinds := [.handle, .data], laidTests := true, laidLooks := .later }
def PolicySameUptoCardSaid : Prop := Claim7.holds Tryz.pinned (.plain (OpenSpec.upto policySameSpec)) policySameUptoCard
end Rows
end Go.Proofs.YtgjdjgnfpendgaaGreatDoor
