/- A cache asked for keys out of a slice that came in. -/
import Derived.Test.YtlmbeiijijkjeaaShapes8
import Derived.Deep.LoopGhost
namespace Go.Proofs.Ytlmbeiijijkjeaa
open Go.RowKit Sg

/-- What a cache of mo has behind the first i keys of what came in. -/
def stI (S : Nat → ByteArray) (mo : Nat) : Nat → St
  | 0 => St.start mo
  | i + 1 => (stI S mo i).req (S i)
theorem req_mo (s : St) (k : ByteArray) : (s.req k).mo = s.mo := by
  unfold St.req
  split
  · rfl
  split
  · rfl
  split
  · rfl
  split <;> rfl
theorem stI_mo (S : Nat → ByteArray) (mo : Nat) : ∀ i, (stI S mo i).mo = mo
  | 0 => rfl
  | i + 1 => (req_mo _ _).trans (stI_mo S mo i)
/-- A cache asked for the first k of the keys that came in. -/
def Fill (S : Nat → ByteArray) (n c mo : Nat) (w0 : World) (i : Value) (W : World) : Prop := ∃ (k : Nat) (T : Nat → Prop), i = .int .i64 (k : Int) ∧ k ≤ n ∧ Live w0 W c T (stI S mo k) k
theorem Fill.next {S : Nat → ByteArray} {n c mo k : Nat} {T : Nat → Prop} {w0 w w' : World} {r : Value} {e : Ending} (hk : k < n) (hL : Live w0 w c T (stI S mo k) k) (hp : CaPost r w c T ((stI S mo k).req (S k)) (k + 1) e w') : e = .returned r ∧ Fill S n c mo w0 (.int .i64 ((k + 1 : Nat) : Int)) w' := by
  obtain ⟨he, T', h1, _⟩ := hL.op hp
  exact ⟨he, k + 1, T', rfl, by omega, h1⟩
end Go.Proofs.Ytlmbeiijijkjeaa
