/-
  DERIVED. GIVEN WITH THE SEED: THE CARDS: each row of YtdmmciggopmglaaGreatDoorRows.lean that lists a variable, with what it lists TIED to the program's text (the seventh form; the later family's looks); each row that meets fmt, with fmt's text TOLD by the authors' own Lean function (tested against real Go, not proved from fmt's source: count such statements apart). THE CARD IS WHAT COUNTS. Prove the row's statement (the work); the ties are given (YtdmmciggopmglaaGreatDoorTie.lean); close each card by the builder's one call (the guide's Derived/Test/ToyasCard.lean, 'card_holds'). Laid BY PROGRAM, IN A SANDBOX (cutbox-door.mjs). By AI agents, Wed Nov 11 2026. No macro, syntax, notation, axiom, sorry.
-/
import Derived.Test.YtdmmciggopmglaaGreatDoorRows
import GoSem.ClaimSeven
namespace Go.Proofs.YtdmmciggopmglaaGreatDoor
namespace Rows

/-- THE TIED CARD OF 'cachewiselaw12.ShadowSamples'. -/
def shadowSamplesCard : Claim7 := { stood := { row := shadowSamplesRow, standIns := [], harness := (true, "9c3681c341980ca23d34921fccca740c3700e4c122c77c419f1995d696d95862"), looks := true }, kinds := [], alts := [], laidByText := true, laidKinds := [.handle, .data], laidTests := true, laidLooks := .later }
def ShadowSamplesCardSaid : Prop := Claim7.holds Tryz.pinned (.plain (OpenSpec.ofChange shadowSamplesSpec)) shadowSamplesCard

/-- THE TIED CARD OF 'cachewiselaw12.ShadowWindows'. -/
def shadowWindowsCard : Claim7 := { stood := { row := shadowWindowsRow, standIns := [], harness := (true, "9c3681c341980ca23d34921fccca740c3700e4c122c77c419f1995d696d95862"), looks := true }, kinds := [], alts := [], laidByText := true, laidKinds := [.handle, .data], laidTests := true, laidLooks := .later }
def ShadowWindowsCardSaid : Prop := Claim7.holds Tryz.pinned (.plain (OpenSpec.ofChange shadowWindowsSpec)) shadowWindowsCard

/-- THE TIED CARD OF 'cachewiselaw12.ShadowIgnores'. -/
def shadowIgnoresCard : Claim7 := { stood := { row := shadowIgnoresRow, standIns := [], harness := (true, "9c3681c341980ca23d34921fccca740c3700e4c122c77c419f1995d696d95862"), looks := true }, kinds := [], alts := [], laidByText := true, laidKinds := [.handle, .data], laidTests := true, laidLooks := .later }
def ShadowIgnoresCardSaid : Prop := Claim7.holds Tryz.pinned (.plain (OpenSpec.ofChange shadowIgnoresSpec)) shadowIgnoresCard

/-- THE TIED CARD OF 'cachewiselaw12.ShadowResizes'. -/
def shadowResizesCard : Claim7 := { stood := { row := shadowResizesRow, standIns := [], harness := (true, "9c3681c341980ca23d34921fccca740c3700e4c122c77c419f1995d696d95862"), looks := true }, kinds := [], alts := [], laidByText := true, laidKinds := [.handle, .data], laidTests := true, laidLooks := .later }
def ShadowResizesCardSaid : Prop := Claim7.holds Tryz.pinned (.plain (OpenSpec.ofChange shadowResizesSpec)) shadowResizesCard

/-- THE TIED CARD OF 'cachewiselaw12.ShadowForgets'. -/
def shadowForgetsCard : Claim7 := { stood := { row := shadowForgetsRow, standIns := [], harness := (true, "9c3681c341980ca23d34921fccca740c3700e4c122c77c419f1995d696d95862"), looks := true }, kinds := [], alts := [], laidByText := true, laidKinds := [.handle, .data], laidTests := true, laidLooks := .later }
def ShadowForgetsCardSaid : Prop := Claim7.holds Tryz.pinned (.plain (OpenSpec.ofChange shadowForgetsSpec)) shadowForgetsCard

/-- THE TIED CARD OF 'cachewiselaw12.ShadowDecays'. -/
def shadowDecaysCard : Claim7 := { stood := { row := shadowDecaysRow, standIns := [], harness := (true, "9c3681c341980ca23d34921fccca740c3700e4c122c77c419f1995d696d95862"), looks := true }, kinds := [], alts := [], laidByText := true, laidKinds := [.handle, .data], laidTests := true, laidLooks := .later }
def ShadowDecaysCardSaid : Prop := Claim7.holds Tryz.pinned (.plain (OpenSpec.ofChange shadowDecaysSpec)) shadowDecaysCard

/-- THE SECOND FORM's CARD OF 'cachewiselaw12.ShadowSamples'. -/
def shadowSamplesUptoCard : Claim7 := { stood := { row := shadowSamplesUptoRow, standIns := [], harness := (true, "9c3681c341980ca23d34921fccca740c3700e4c122c77c419f1995d696d95862"), looks := true }, kinds := [], alts := [], laidByText := true, laidKinds := [.handle, .data], laidTests := true, laidLooks := .later }
def ShadowSamplesUptoCardSaid : Prop := Claim7.holds Tryz.pinned (.plain (OpenSpec.upto shadowSamplesSpec)) shadowSamplesUptoCard

/-- THE SECOND FORM's CARD OF 'cachewiselaw12.ShadowWindows'. -/
def shadowWindowsUptoCard : Claim7 := { stood := { row := shadowWindowsUptoRow, standIns := [], harness := (true, "9c3681c341980ca23d34921fccca740c3700e4c122c77c419f1995d696d95862"), looks := true }, kinds := [], alts := [], laidByText := true, laidKinds := [.handle, .data], laidTests := true, laidLooks := .later }
def ShadowWindowsUptoCardSaid : Prop := Claim7.holds Tryz.pinned (.plain (OpenSpec.upto shadowWindowsSpec)) shadowWindowsUptoCard

/-- THE SECOND FORM's CARD OF 'cachewiselaw12.ShadowIgnores'. -/
def shadowIgnoresUptoCard : Claim7 := { stood := { row := shadowIgnoresUptoRow, standIns := [], harness := (true, "9c3681c341980ca23d34921fccca740c3700e4c122c77c419f1995d696d95862"), looks := true }, kinds := [], alts := [], laidByText := true, laidKinds := [.handle, .data], laidTests := true, laidLooks := .later }
def ShadowIgnoresUptoCardSaid : Prop := Claim7.holds Tryz.pinned (.plain (OpenSpec.upto shadowIgnoresSpec)) shadowIgnoresUptoCard

/-- THE SECOND FORM's CARD OF 'cachewiselaw12.ShadowResizes'. -/
def shadowResizesUptoCard : Claim7 := { stood := { row := shadowResizesUptoRow, standIns := [], harness := (true, "9c3681c341980ca23d34921fccca740c3700e4c122c77c419f1995d696d95862"), looks := true }, kinds := [], alts := [], laidByText := true, laidKinds := [.handle, .data], laidTests := true, laidLooks := .later }
def ShadowResizesUptoCardSaid : Prop := Claim7.holds Tryz.pinned (.plain (OpenSpec.upto shadowResizesSpec)) shadowResizesUptoCard

/-- THE SECOND FORM's CARD OF 'cachewiselaw12.ShadowForgets'. -/
def shadowForgetsUptoCard : Claim7 := { stood := { row := shadowForgetsUptoRow, standIns := [], harness := (true, "9c3681c341980ca23d34921fccca740c3700e4c122c77c419f1995d696d95862"), looks := true }, kinds := [], alts := [], laidByText := true, laidKinds := [.handle, .data], laidTests := true, laidLooks := .later }
def ShadowForgetsUptoCardSaid : Prop := Claim7.holds Tryz.pinned (.plain (OpenSpec.upto shadowForgetsSpec)) shadowForgetsUptoCard

/-- THE SECOND FORM's CARD OF 'cachewiselaw12.ShadowDecays'. -/
def shadowDecaysUptoCard : Claim7 := { stood := { row := shadowDecaysUptoRow, standIns := [], harness := (true, "9c3681c341980ca23d34921fccca740c3700e4c122c77c419f1995d696d95862"), looks := true }, kinds := [], alts := [], laidByText := true, laidKinds := [.handle, .data], laidTests := true, laidLooks := .later }
def ShadowDecaysUptoCardSaid : Prop := Claim7.holds Tryz.pinned (.plain (OpenSpec.upto shadowDecaysSpec)) shadowDecaysUptoCard
end Rows
end Go.Proofs.YtdmmciggopmglaaGreatDoor
