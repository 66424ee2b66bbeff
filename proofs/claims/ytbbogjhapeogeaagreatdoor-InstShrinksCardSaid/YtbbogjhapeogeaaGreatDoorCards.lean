/-
  DERIVED. GIVEN WITH THE SEED: THE CARDS: each row of YtbbogjhapeogeaaGreatDoorRows.lean that lists a variable, with what it lists TIED to the program's text (the seventh form; the later family's looks); each row that meets fmt, with fmt's text TOLD by the authors' own Lean function (tested against real Go, not proved from fmt's source: count such statements apart). THE CARD IS WHAT COUNTS. Prove the row's statement (the work); the ties are given (YtbbogjhapeogeaaGreatDoorTie.lean); close each card by the builder's one call (the guide's Derived/Test/ToyasCard.lean, 'card_holds'). Laid BY PROGRAM, IN A SANDBOX (cutbox-door.mjs). By AI agents, Wed Nov 11 2026. No macro, syntax, notation, axiom, sorry.
-/
import Derived.Test.YtbbogjhapeogeaaGreatDoorRows
import GoSem.ClaimSeven
namespace Go.Proofs.YtbbogjhapeogeaaGreatDoor
namespace Rows

/-- THE TIED CARD OF 'cachewiselaw11.InstKeeps'. -/
def instKeepsCard : Claim7 := { stood := { row := instKeepsRow, standIns := [], harness := (true, "1a1a1bd9e29c559a40b23e7622cb12d1074830590320ee25bf4b55f5afb93b55"), looks := true }, kinds := [], alts := [], laidByText := true, laidKinds := [.handle, .data], laidTests := true, laidLooks := .later }
def InstKeepsCardSaid : Prop := Claim7.holds Tryz.pinned (.plain (OpenSpec.ofChange instKeepsSpec)) instKeepsCard

/-- THE TIED CARD OF 'cachewiselaw11.InstEnough'. -/
def instEnoughCard : Claim7 := { stood := { row := instEnoughRow, standIns := [], harness := (true, "1a1a1bd9e29c559a40b23e7622cb12d1074830590320ee25bf4b55f5afb93b55"), looks := true }, kinds := [], alts := [], laidByText := true, laidKinds := [.handle, .data], laidTests := true, laidLooks := .later }
def InstEnoughCardSaid : Prop := Claim7.holds Tryz.pinned (.plain (OpenSpec.ofChange instEnoughSpec)) instEnoughCard

/-- THE TIED CARD OF 'cachewiselaw11.InstOne'. -/
def instOneCard : Claim7 := { stood := { row := instOneRow, standIns := [], harness := (true, "1a1a1bd9e29c559a40b23e7622cb12d1074830590320ee25bf4b55f5afb93b55"), looks := true }, kinds := [], alts := [], laidByText := true, laidKinds := [.handle, .data], laidTests := true, laidLooks := .later }
def InstOneCardSaid : Prop := Claim7.holds Tryz.pinned (.plain (OpenSpec.ofChange instOneSpec)) instOneCard

/-- THE TIED CARD OF 'cachewiselaw11.InstDrains'. -/
def instDrainsCard : Claim7 := { stood := { row := instDrainsRow, standIns := [], harness := (true, "1a1a1bd9e29c559a40b23e7622cb12d1074830590320ee25bf4b55f5afb93b55"), looks := true }, kinds := [], alts := [], laidByText := true, laidKinds := [.handle, .data], laidTests := true, laidLooks := .later }
def InstDrainsCardSaid : Prop := Claim7.holds Tryz.pinned (.plain (OpenSpec.ofChange instDrainsSpec)) instDrainsCard

/-- THE TIED CARD OF 'cachewiselaw11.InstAdopts'. -/
def instAdoptsCard : Claim7 := { stood := { row := instAdoptsRow, standIns := [], harness := (true, "1a1a1bd9e29c559a40b23e7622cb12d1074830590320ee25bf4b55f5afb93b55"), looks := true }, kinds := [], alts := [], laidByText := true, laidKinds := [.handle, .data], laidTests := true, laidLooks := .later }
def InstAdoptsCardSaid : Prop := Claim7.holds Tryz.pinned (.plain (OpenSpec.ofChange instAdoptsSpec)) instAdoptsCard

/-- THE TIED CARD OF 'cachewiselaw11.InstShrinks'. -/
def instShrinksCard : Claim7 := { stood := { row := instShrinksRow, standIns := [], harness := (true, "1a1a1bd9e29c559a40b23e7622cb12d1074830590320ee25bf4b55f5afb93b55"), looks := true }, kinds := [], alts := [], laidByText := true, laidKinds := [.handle, .data], laidTests := true, laidLooks := .later }
def InstShrinksCardSaid : Prop := Claim7.holds Tryz.pinned (.plain (OpenSpec.ofChange instShrinksSpec)) instShrinksCard

/-- THE TIED CARD OF 'cachewiselaw11.InstForgets'. -/
def instForgetsCard : Claim7 := { stood := { row := instForgetsRow, standIns := [], harness := (true, "1a1a1bd9e29c559a40b23e7622cb12d1074830590320ee25bf4b55f5afb93b55"), looks := true }, kinds := [], alts := [], laidByText := true, laidKinds := [.handle, .data], laidTests := true, laidLooks := .later }
def InstForgetsCardSaid : Prop := Claim7.holds Tryz.pinned (.plain (OpenSpec.ofChange instForgetsSpec)) instForgetsCard

/-- THE SECOND FORM's CARD OF 'cachewiselaw11.InstKeeps'. -/
def instKeepsUptoCard : Claim7 := { stood := { row := instKeepsUptoRow, standIns := [], harness := (true, "1a1a1bd9e29c559a40b23e7622cb12d1074830590320ee25bf4b55f5afb93b55"), looks := true }, kinds := [], alts := [], laidByText := true, laidKinds := [.handle, .data], laidTests := true, laidLooks := .later }
def InstKeepsUptoCardSaid : Prop := Claim7.holds Tryz.pinned (.plain (OpenSpec.upto instKeepsSpec)) instKeepsUptoCard

/-- THE SECOND FORM's CARD OF 'cachewiselaw11.InstEnough'. -/
def instEnoughUptoCard : Claim7 := { stood := { row := instEnoughUptoRow, standIns := [], harness := (true, "1a1a1bd9e29c559a40b23e7622cb12d1074830590320ee25bf4b55f5afb93b55"), looks := true }, kinds := [], alts := [], laidByText := true, laidKinds := [.handle, .data], laidTests := true, laidLooks := .later }
def InstEnoughUptoCardSaid : Prop := Claim7.holds Tryz.pinned (.plain (OpenSpec.upto instEnoughSpec)) instEnoughUptoCard

/-- THE SECOND FORM's CARD OF 'cachewiselaw11.InstOne'. -/
def instOneUptoCard : Claim7 := { stood := { row := instOneUptoRow, standIns := [], harness := (true, "1a1a1bd9e29c559a40b23e7622cb12d1074830590320ee25bf4b55f5afb93b55"), looks := true }, kinds := [], alts := [], laidByText := true, laidKinds := [.handle, .data], laidTests := true, laidLooks := .later }
def InstOneUptoCardSaid : Prop := Claim7.holds Tryz.pinned (.plain (OpenSpec.upto instOneSpec)) instOneUptoCard

/-- THE SECOND FORM's CARD OF 'cachewiselaw11.InstDrains'. -/
def instDrainsUptoCard : Claim7 := { stood := { row := instDrainsUptoRow, standIns := [], harness := (true, "1a1a1bd9e29c559a40b23e7622cb12d1074830590320ee25bf4b55f5afb93b55"), looks := true }, kinds := [], alts := [], laidByText := true, laidKinds := [.handle, .data], laidTests := true, laidLooks := .later }
def InstDrainsUptoCardSaid : Prop := Claim7.holds Tryz.pinned (.plain (OpenSpec.upto instDrainsSpec)) instDrainsUptoCard

/-- THE SECOND FORM's CARD OF 'cachewiselaw11.InstAdopts'. -/
def instAdoptsUptoCard : Claim7 := { stood := { row := instAdoptsUptoRow, standIns := [], harness := (true, "1a1a1bd9e29c559a40b23e7622cb12d1074830590320ee25bf4b55f5afb93b55"), looks := true }, kinds := [], alts := [], laidByText := true, laidKinds := [.handle, .data], laidTests := true, laidLooks := .later }
def InstAdoptsUptoCardSaid : Prop := Claim7.holds Tryz.pinned (.plain (OpenSpec.upto instAdoptsSpec)) instAdoptsUptoCard

/-- THE SECOND FORM's CARD OF 'cachewiselaw11.InstShrinks'. -/
def instShrinksUptoCard : Claim7 := { stood := { row := instShrinksUptoRow, standIns := [], harness := (true, "1a1a1bd9e29c559a40b23e7622cb12d1074830590320ee25bf4b55f5afb93b55"), looks := true }, kinds := [], alts := [], laidByText := true, laidKinds := [.handle, .data], laidTests := true, laidLooks := .later }
def InstShrinksUptoCardSaid : Prop := Claim7.holds Tryz.pinned (.plain (OpenSpec.upto instShrinksSpec)) instShrinksUptoCard

/-- THE SECOND FORM's CARD OF 'cachewiselaw11.InstForgets'. -/
def instForgetsUptoCard : Claim7 := { stood := { row := instForgetsUptoRow, standIns := [], harness := (true, "1a1a1bd9e29c559a40b23e7622cb12d1074830590320ee25bf4b55f5afb93b55"), looks := true }, kinds := [], alts := [], laidByText := true, laidKinds := [.handle, .data], laidTests := true, laidLooks := .later }
def InstForgetsUptoCardSaid : Prop := Claim7.holds Tryz.pinned (.plain (OpenSpec.upto instForgetsSpec)) instForgetsUptoCard
end Rows
end Go.Proofs.YtbbogjhapeogeaaGreatDoor
