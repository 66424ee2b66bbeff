/- What each call of a cache of any kind does to its residents and ghosts, as plain lists (for layer 9: one form for all kinds). -/
import Derived.Test.YtnlckkahkghneaaGreatDoorGBas
namespace Go.Proofs.YtnlckkahkghneaaGreatDoor
open Sg

/-- A request. -/
structure ReqF (K K' : List ByteArray) (mo : Nat) (k : ByteArray) (h : Bool) (v : ByteArray) (o : Bool) : Prop where
  hitE : h = inn K k
  outE : o = (!inn K k && decide (mo ≤ K.length))
  vic : o = true → v ∈ K ∧ v ∉ K'
  non : o = false → v = ⟨#[]⟩
  has : k ∈ K'
  stay : ∀ x ∈ K, x ∈ K' ∨ (o = true ∧ x = v)
  old : ∀ x ∈ K', x ∈ K ∨ x = k
  len : K'.length = K.length + (if h || o then 0 else 1)
/-- A removal. -/
structure RmF (K K' G' : List ByteArray) (k : ByteArray) (was : Bool) : Prop where
  wasE : was = inn K k
  mem : ∀ x, x ∈ K' ↔ x ∈ K ∧ x ≠ k
  gho : k ∉ G'
  len : K'.length + (if was then 1 else 0) = K.length
/-- An adoption. -/
structure AdF (K K' G' : List ByteArray) (mo : Nat) (k : ByteArray) (ad : Bool) : Prop where
  adE : ad = (!inn K k && decide (K.length < mo))
  mem : ∀ x, x ∈ K' ↔ x ∈ K ∨ (ad = true ∧ x = k)
  gho : ad = true → k ∉ G'
  len : K'.length = K.length + (if ad then 1 else 0)
/-- A drop. -/
structure DrF (K K' G G' : List ByteArray) (v : ByteArray) (ok : Bool) : Prop where
  okE : ok = !K.isEmpty
  vic : ok = true → v ∈ K
  mem : ∀ x, x ∈ K' ↔ x ∈ K ∧ (ok = true → x ≠ v)
  gho : G' = G
  len : K'.length + (if ok then 1 else 0) = K.length
/-- A resize. -/
structure RsF (K K' : List ByteArray) (n : Nat) (out : List ByteArray) : Prop where
  num : out.length = K.length - n
  len : K'.length + out.length = K.length
  gone : ∀ x ∈ out, x ∈ K ∧ x ∉ K'
  stay : ∀ x ∈ K, x ∈ K' ∨ x ∈ out
  old : ∀ x ∈ K', x ∈ K
end Go.Proofs.YtnlckkahkghneaaGreatDoor
