/- A policy: its own block beside its cache's, and a policy of a walk's own. -/
import Derived.Test.YtnlckkahkghneaaGreatDoorKw
import Derived.Test.YtnlckkahkghneaaGreatDoorPm
namespace Go.Proofs.YtnlckkahkghneaaGreatDoor
open Go.RowKit Sg

/-- The cells of a policy of that kind and size, over the cache at c: its number, its size, ten method values. -/
def pcells (kind mo c : Nat) : Array Value := #[.int .i64 (kind : Int), .int .i64 (mo : Int), mV kind c "Has", mV kind c "Len", mV kind c "Request", mV kind c "Remove", mV kind c "Adopt", mV kind c "Victim", mV kind c "Drop", mV kind c "Resize", mV kind c "Keys", mV kind c "Ghosts"]
/-- A policy whose blocks are U. -/
def Pc (w : World) (p : Nat) (U : Nat → Prop) (st : KSt) (b : Nat) : Prop :=
  ∃ c T, U = (fun k => k = p ∨ T k) ∧ KCa w c T st b ∧ ¬ T p ∧ w.heap[p]? = some (.cells (pcells st.kind st.mo c) 154 (0, 0))
def PPost (v : Value) (w : World) (p : Nat) (U : Nat → Prop) (st : KSt) (b : Nat) (e : Ending) (w' : World) : Prop := e = .returned v ∧ ∃ U', Pc w' p U' st b ∧ Went w w' U U'
section
variable {w w' : World} {p c b b' : Nat} {T U U' : Nat → Prop} {st st' : KSt} {v : Value} {e : Ending}
theorem heap_lt {o : Obj} (h : w.heap[p]? = some o) : p < w.heap.size := (Array.getElem?_eq_some_iff.1 h).1
theorem Pc.lt (h : Pc w p U st b) {k : Nat} (hk : U k) : k < w.heap.size := by
  obtain ⟨c, T, rfl, hc, hn, hb⟩ := h
  rcases hk with rfl | hk
  · exact heap_lt hb
  · exact hc.lt hk
theorem Pc.below (h : Pc w p U st b) (hb : Below w.heap.size w w') : Pc w' p U st b := by
  obtain ⟨c, T, rfl, hc, hn, hx⟩ := h
  exact ⟨c, T, rfl, hc.below hb, hn, (hb.block p (heap_lt hx)).trans hx⟩
theorem Pc.mono (h : Pc w p U st b) (hb : b ≤ b') : Pc w p U st b' := by
  obtain ⟨c, T, rfl, hc, hn, hx⟩ := h
  exact ⟨c, T, rfl, hc.mono hb, hn, hx⟩
theorem Pc.ok (h : Pc w p U st b) : st.Ok := by obtain ⟨c, T, rfl, hc, _⟩ := h; exact hc.ok
theorem Pc.top (h : Pc w p U st b) : st.mo ≤ 9223372036854775807 := by obtain ⟨c, T, rfl, hc, _⟩ := h; exact hc.top
theorem Pc.small (h : Pc w p U st b) : ∀ x ∈ st.keys, x.size ≤ maxLen := by obtain ⟨c, T, rfl, hc, _⟩ := h; exact hc.small
/-- What a call of the cache leaves of the policy. -/
theorem KPost.pol (h : KPost v w c T st' b' e w') (hx : w.heap[p]? = some (.cells (pcells st.kind st.mo c) 154 (0, 0))) (hn : ¬ T p) (hk : st'.kind = st.kind) (hm : st'.mo = st.mo) :
    PPost v w p (fun k => k = p ∨ T k) st' b' e w' := by
  obtain ⟨he, T', hc, hW⟩ := h
  have hl := heap_lt hx
  refine ⟨he, fun k => k = p ∨ T' k, ⟨c, T', rfl, hc, fun ht => ?_, ?_⟩, fun k hk => ?_, ?_⟩
  · rcases hW.new p ht with h | h
    · exact hn h
    · omega
  · rw [hk, hm]; exact (hW.turn.block p hl hn).trans hx
  · rcases hk with rfl | hk
    · exact Or.inl (Or.inl rfl)
    · exact (hW.new k hk).imp Or.inr id
  · have t := hW.turn
    exact ⟨t.os, t.tape, t.output, t.size, fun k hk hu => t.block k hk fun ht => hu (Or.inr ht)⟩
/-- What is beside a policy stays. -/
theorem Pc.beside (h : Pc w p U st b) {X : Nat → Prop} (ht : Turn X w w') (hx : ∀ k, U k → ¬ X k) : Pc w' p U st b := by
  obtain ⟨c, T, rfl, hc, hn, hb⟩ := h
  refine ⟨c, T, rfl, ?_, hn, (ht.block p (heap_lt hb) (hx p (Or.inl rfl))).trans hb⟩
  have hd : ∀ k, T k → ¬ X k := fun k hk => hx k (Or.inr hk)
  cases st with
  | lr mo ks => exact LR.Ca.kept hc ht hd
  | lf ch mo n L => exact ⟨LF.Ca.kept hc.1 ⟨ht.os, ht.tape, ht.output, ht.size, ht.block⟩ hd, hc.2⟩
  | sr s => exact SR.Ca.beside hc ht hd
  | ar _ => exact hc.elim
end

/-- A policy that was made since w0; what was there then is as it was. -/
structure PLive (w0 w : World) (p : Nat) (U : Nat → Prop) (st : KSt) (b : Nat) : Prop where
  ca : Pc w p U st b
  bel : Below w0.heap.size w0 w
  low : ∀ k, U k → w0.heap.size ≤ k
/-- A slice of keys beside a policy. -/
def PMine (w : World) (U : Nat → Prop) (v : Value) (xs : List ByteArray) : Prop := ∃ g, Row w g v xs ∧ ¬ U g
section
variable {w0 w w' : World} {p b b' : Nat} {U U' : Nat → Prop} {st st' : KSt} {xs : List ByteArray} {r v : Value} {e : Ending}
theorem PLive.below (l : PLive w0 w p U st b) (hb : Below w.heap.size w w') : PLive w0 w' p U st b := ⟨l.ca.below hb, l.bel.trans (hb.mono l.bel.size), l.low⟩
theorem PLive.made (hb0 : Below w0.heap.size w0 w) (hc : Pc w' p U st b) (hT : ∀ k, U k → w.heap.size ≤ k) (hb : Below w.heap.size w w') : PLive w0 w' p U st b :=
  ⟨hc, hb0.trans (hb.mono hb0.size), fun k hk => Nat.le_trans hb0.size (hT k hk)⟩
theorem PLive.went (l : PLive w0 w p U st b) (hc : Pc w' p U' st' b') (hW : Went w w' U U') : PLive w0 w' p U' st' b' := by
  have hsz := l.bel.size
  exact ⟨hc, l.bel.trans (hW.turn.below l.low hsz), fun k hk => by rcases hW.new k hk with h | h; exact l.low k h; omega⟩
theorem PLive.op (l : PLive w0 w p U st b) (hp : PPost r w p U st' b' e w') : e = .returned r ∧ ∃ U', PLive w0 w' p U' st' b' ∧ Went w w' U U' := by
  obtain ⟨he, U', h1, h2⟩ := hp
  exact ⟨he, U', l.went h1 h2, h2⟩
theorem PLive.lt (l : PLive w0 w p U st b) : ∀ k, U k → k < w.heap.size := fun _ hk => l.ca.lt hk
theorem PMine.made (o : Own w' w.heap.size v xs) (hc : Pc w p U st b) : PMine w' U v xs := by
  obtain ⟨g, hg, hr⟩ := o.row
  exact ⟨g, hr, fun hk => by have := hc.lt hk; omega⟩
theorem PMine.below (m : PMine w U v xs) (hb : Below w.heap.size w w') : PMine w' U v xs := by
  obtain ⟨g, hr, hn⟩ := m
  exact ⟨g, hr.below hb, hn⟩
theorem PMine.went (m : PMine w U v xs) (ht : Went w w' U U') (hl : ∀ k, U' k → k < w'.heap.size) : PMine w' U' v xs := by
  obtain ⟨g, hr, hn⟩ := m
  by_cases hx : xs = []
  · subst hx
    obtain ⟨A, cc, rfl⟩ := hr.shape
    exact ⟨w'.heap.size, Row.nil _ _ _ _, fun hk => by have := hl _ hk; omega⟩
  · have hlt := hr.lt hx
    exact ⟨g, hr.same ht.turn.size (fun _ => ht.turn.block g hlt hn), (AR.went_out ht hlt hn).2⟩
theorem PMine.shape (m : PMine w U v xs) : ∃ A c, v = .slice A xs.length c := by
  obtain ⟨g, r, _⟩ := m
  exact r.shape
theorem PMine.row (m : PMine w U v xs) : ∃ g, Row w g v xs := by
  obtain ⟨g, r, _⟩ := m
  exact ⟨g, r⟩
/-- A slice that Resize has made. -/
theorem PMine.of (o : Own w w0.heap.size v xs) (hv : ∀ g, v.ownBlock = some g → ¬ U g) (hl : ∀ k, U k → k < w.heap.size) : PMine w U v xs := by
  by_cases hx : xs = []
  · subst hx
    obtain ⟨A, cc, rfl⟩ := o.row.choose_spec.2.shape
    exact ⟨w.heap.size, Row.nil _ _ _ _, fun hk => by have := hl _ hk; omega⟩
  · obtain ⟨g, hg, hr⟩ := o.row
    refine ⟨g, hr, hv g ?_⟩
    rcases hr.2.2 with ⟨h, _⟩ | ⟨o, c, rfl, _⟩
    · exact absurd h hx
    · rfl
end
end Go.Proofs.YtnlckkahkghneaaGreatDoor
