/- Victim of arc, and of a cache of any kind. -/
import Derived.Test.YtnlckkahkghneaaGreatDoorKn

namespace Go.Proofs.YtnlckkahkghneaaGreatDoor
open Go.RowKit Sg
def fVictim : Nat → Nat | 0 => 250 | 3 => 316 | 4 => 338 | _ => 264
theorem victim_k (w : World) (c : Nat) (T : Nat → Prop) (st : KSt) (b : Nat) (h : KCa w c T st b) : Calls Tryz.prog (fVictim st.kind) #[.pointer (some ⟨c, 0, none⟩)] w (Told (.tuple #[.string st.vic, .bool st.any]) w) := by
  cases st with
  | lr mo ks => exact (LR.victim_ca w c T mo ks b h).mono fun e w' q => told_same q
  | lf ch mo n L =>
    have := LF.victim_ca w c T mo ch L n h.1
    cases ch <;> exact this
  | sr s => exact (SR.victim_ca w c T s b h).mono fun e w' q => told_same q
  | ar _ => exact h.elim
end Go.Proofs.YtnlckkahkghneaaGreatDoor
