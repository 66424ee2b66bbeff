/- Two caches side by side. -/
import Derived.Test.YthbokiebnniifaaRc
namespace Go.Proofs.Ythbokiebnniifaa
open Go.RowKit Sg

structure Pair (w0 w : World) (a : Nat) (S : Nat → Prop) (mo : Nat) (ks : List ByteArray) (b a2 : Nat) (S2 : Nat → Prop) (mo2 : Nat) (ks2 : List ByteArray) (b2 : Nat) : Prop where
  one : Live w0 w a S mo ks b
  two : Live w0 w a2 S2 mo2 ks2 b2
  apart : ∀ k, S k → ¬ S2 k
section
variable {w0 w w' : World} {a a2 mo mo2 b b2 b' : Nat} {S S2 S' : Nat → Prop} {ks ks2 ks' : List ByteArray} {r : Value} {e : Ending}
theorem Pair.below (p : Pair w0 w a S mo ks b a2 S2 mo2 ks2 b2) (hb : Below w.heap.size w w') : Pair w0 w' a S mo ks b a2 S2 mo2 ks2 b2 := ⟨p.one.below hb, p.two.below hb, p.apart⟩
theorem Pair.made (l : Live w0 w a S mo ks b) (hc : Ca w' a2 S2 mo2 ks2 b2) (hS : ∀ k, S2 k → w.heap.size ≤ k) (hb : Below w.heap.size w w') : Pair w0 w' a S mo ks b a2 S2 mo2 ks2 b2 :=
  ⟨l.below hb, Live.made l.bel hc hS hb, fun k h1 h2 => by have := l.lt k h1; have := hS k h2; omega⟩
theorem Pair.op1 (p : Pair w0 w a S mo ks b a2 S2 mo2 ks2 b2) (hp : CaPost r w a S mo ks' b' e w') : e = .returned r ∧ ∃ S', Pair w0 w' a S' mo ks' b' a2 S2 mo2 ks2 b2 ∧ Went w w' S S' := by
  obtain ⟨he, S', h1, h2⟩ := p.one.op hp
  refine ⟨he, S', ⟨h1, ⟨p.two.ca.kept h2.turn (fun k h3 h4 => p.apart k h4 h3), h1.bel, p.two.low⟩, fun k h3 h4 => ?_⟩, h2⟩
  rcases h2.new k h3 with h | h
  · exact p.apart k h h4
  · have := p.two.lt k h4; omega
theorem Pair.op2 (p : Pair w0 w a S mo ks b a2 S2 mo2 ks2 b2) (hp : CaPost r w a2 S2 mo2 ks' b' e w') : e = .returned r ∧ ∃ S', Pair w0 w' a S mo ks b a2 S' mo2 ks' b' ∧ Went w w' S2 S' := by
  obtain ⟨he, S', h1, h2⟩ := p.two.op hp
  refine ⟨he, S', ⟨⟨p.one.ca.kept h2.turn (fun k h3 h4 => p.apart k h3 h4), h1.bel, p.one.low⟩, h1, fun k h3 h4 => ?_⟩, h2⟩
  rcases h2.new k h4 with h | h
  · exact p.apart k h3 h
  · have := p.one.lt k h3; omega
end

/-- Two caches asked for the first k of the keys that came in. -/
def Fill2 (S : Nat → ByteArray) (n a mo a2 mo2 : Nat) (w0 : World) (i : Value) (W : World) : Prop := ∃ (k : Nat) (T T2 : Nat → Prop), i = .int .i64 (k : Int) ∧ k ≤ n ∧ Pair w0 W a T mo (resI S mo k) k a2 T2 mo2 (resI S mo2 k) k
end Go.Proofs.Ythbokiebnniifaa
