/- Two caches side by side. -/
import Derived.Test.YtdbfojolocelaaaLive6
namespace Go.Proofs.Ytdbfojolocelaaa
open Go.RowKit Ht HS Lf

structure Pair (w0 w : World) (a : Nat) (S : Nat → Prop) (mo : Nat) (ch : Bool) (L : List (Ent Key)) (n a2 : Nat) (S2 : Nat → Prop) (mo2 : Nat) (ch2 : Bool) (L2 : List (Ent Key)) (n2 : Nat) : Prop where
  one : Live w0 w a S mo ch L n
  two : Live w0 w a2 S2 mo2 ch2 L2 n2
  apart : ∀ k, S k → ¬ S2 k
section
variable {w0 w w' : World} {a a2 mo mo2 n n2 n' : Nat} {S S2 : Nat → Prop} {ch ch2 : Bool} {L L2 L' : List (Ent Key)} {r : Value} {e : Ending}
theorem Pair.below (p : Pair w0 w a S mo ch L n a2 S2 mo2 ch2 L2 n2) (hb : Below w.heap.size w w') : Pair w0 w' a S mo ch L n a2 S2 mo2 ch2 L2 n2 := ⟨p.one.below hb, p.two.below hb, p.apart⟩
theorem Pair.made (l : Live w0 w a S mo ch L n) (hc : Ca w' a2 S2 mo2 ch2 L2 n2) (hS : ∀ k, S2 k → w.heap.size ≤ k) (hb : Below w.heap.size w w') : Pair w0 w' a S mo ch L n a2 S2 mo2 ch2 L2 n2 :=
  ⟨l.below hb, Live.made l.bel hc hS hb, fun k h1 h2 => by have := l.lt k h1; have := hS k h2; omega⟩
theorem Pair.op1 (p : Pair w0 w a S mo ch L n a2 S2 mo2 ch2 L2 n2) (hp : CaPost r w a S mo ch L' n' e w') : e = .returned r ∧ ∃ S', Pair w0 w' a S' mo ch L' n' a2 S2 mo2 ch2 L2 n2 ∧ Went w w' S S' := by
  obtain ⟨he, S', h1, h2⟩ := p.one.op hp
  refine ⟨he, S', ⟨h1, ⟨p.two.ca.kept h2.turn (fun k h3 h4 => p.apart k h4 h3), h1.bel, p.two.low⟩, fun k h3 h4 => ?_⟩, h2⟩
  rcases h2.new k h3 with h | h
  · exact p.apart k h h4
  · have := p.two.lt k h4; omega
theorem Pair.op2 (p : Pair w0 w a S mo ch L n a2 S2 mo2 ch2 L2 n2) (hp : CaPost r w a2 S2 mo2 ch2 L' n' e w') : e = .returned r ∧ ∃ S', Pair w0 w' a S mo ch L n a2 S' mo2 ch2 L' n' ∧ Went w w' S2 S' := by
  obtain ⟨he, S', h1, h2⟩ := p.two.op hp
  refine ⟨he, S', ⟨⟨p.one.ca.kept h2.turn (fun k h3 h4 => p.apart k h3 h4), h1.bel, p.one.low⟩, h1, fun k h3 h4 => ?_⟩, h2⟩
  rcases h2.new k h4 with h | h
  · exact p.apart k h3 h
  · have := p.one.lt k h3; omega
end

end Go.Proofs.Ytdbfojolocelaaa
