/- Errd InE, in one text. -/
import Derived.Test.YtdmmciggopmglaaGreatDoorErrc
import Derived.Test.YtdmmciggopmglaaGreatDoorYb
import Derived.Deep.RegionHeld3
import Derived.Deep.RegionLaw
import Derived.Deep.CutBlock
import Derived.Deep.DeepCutAuto
namespace Go.Proofs.YtdmmciggopmglaaGreatDoor.IN
open Go.RowKit Go.Extern.Stop Go.Stop Go.Extern
end Go.Proofs.YtdmmciggopmglaaGreatDoor.IN
set_option maxRecDepth 20000
namespace Go.Proofs.YtdmmciggopmglaaGreatDoor.IN
open Go.RowKit Sg
def RetB(b:Bool)(w:World)(e:Ending)(w':World):Prop:=e= .returned (.bool b)/\Below w.heap.size w w'
def sa:ByteArray:=⟨#[97]⟩
def sb:ByteArray:=⟨#[98]⟩
theorem no_lanes(w:World):DR.Lanes w w.heap.size (.slice none 0 0) []:=⟨by simp,Or.inl ⟨rfl,none,0,rfl⟩⟩
end Go.Proofs.YtdmmciggopmglaaGreatDoor.IN
