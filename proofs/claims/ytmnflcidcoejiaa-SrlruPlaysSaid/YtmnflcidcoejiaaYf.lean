/- The contracts of promote, and of cutTo at any closure that keeps to memory of its own. -/
import Derived.Test.YtmnflcidcoejiaaYe
namespace Go.Proofs.Ytmnflcidcoejiaa
open Go.RowKit Sg

theorem cb_start {w : World} {i : Ix} {S : Sx} {mo t : Nat} {N A G : List ByteArray} {f : Told} {b : Nat} (r : Raw w i S mo t N A G f b) :
    CB (w.alloc (.cells #[.pointer (some ⟨i.c, 0, none⟩)] 25)) w.heap.size i ∧ ¬ blk i S w.heap.size ∧ Raw (w.alloc (.cells #[.pointer (some ⟨i.c, 0, none⟩)] 25)) i S mo t N A G f b ∧ Below w.heap.size w (w.alloc (.cells #[.pointer (some ⟨i.c, 0, none⟩)] 25)) := by
  have hb := (Below.refl w.heap.size w).alloc (Nat.le_refl _) (.cells #[.pointer (some ⟨i.c, 0, none⟩)] 25)
  exact ⟨heap_alloc_new _ _, fun h => by have := r.lt h; omega, r.below hb, hb⟩

def mx (t : Nat) : Nat := max t 1
theorem mx_max (t : Nat) : ((mx t : Nat) : Int) = max (t : Int) 1 := by unfold mx; omega
/-- A key that stands nowhere comes to A's front, told as old; then to demote. -/
def PromPost (w : World) (i : Ix) (S : Sx) (mo t : Nat) (N A G : List ByteArray) (f : Told) (b : Nat) (key : ByteArray) (e : Ending) (w' : World) : Prop :=
  RPost (.tuple #[]) w i S mo t ((key :: A).drop (mx t) ++ N) ((key :: A).take (mx t)) G (tput f key) (b + 1) e w'

/-! cutTo. -/
/-- What a closure that is handed who went keeps: K tells whom it was handed, and its blocks. -/
structure Side (F : FuncId) (p : Addr) (K : List ByteArray → (Nat → Prop) → World → Prop) : Prop where
  enter : ∀ args w, (callFunc F args).run Try.prog w = .ok (.enter F args) w
  lt : ∀ vs X W, K vs X W → ∀ k, X k → k < W.heap.size
  same : ∀ vs X W W', K vs X W → W.heap.size ≤ W'.heap.size → (∀ k, X k → W'.heap[k]? = W.heap[k]?) → K vs X W'
  call : ∀ vs X W x, K vs X W → vs.length ≤ 1000 → x.size ≤ maxLen → Calls Try.prog F #[.string x, .pointer (some p)] W (fun e W' => e = .returned (.tuple #[]) ∧ ∃ X', K (vs ++ [x]) X' W' ∧ Went W W' X X')
def both (i : Ix) (S : Sx) (X : Nat → Prop) : Nat → Prop := fun k => blk i S k ∨ X k
/-- Two things side by side, and the cache's pointer in a variable. -/
structure Duo (w W : World) (i : Ix) (S S' : Sx) (X X' : Nat → Prop) (cb : Nat) : Prop where
  went : Went w W (both i S X) (both i S' X')
  dis : ∀ k, X' k → ¬ blk i S' k
  box : CB W cb i
  out : ¬ both i S' X' cb
theorem Duo.cache {w W W2 : World} {i : Ix} {S S' S2 : Sx} {X X' : Nat → Prop} {cb : Nat} (d : Duo w W i S S' X X' cb) (hx : ∀ k, X' k → k < W.heap.size) (hW : Went W W2 (blk i S') (blk i S2)) :
    Duo w W2 i S S2 X X' cb ∧ ∀ k, X' k → W2.heap[k]? = W.heap[k]? := by
  have o := fun k (hk : X' k) => went_out hW (hx k hk) (d.dis k hk)
  have oc := went_out hW d.box.lt (fun h => d.out (Or.inl h))
  have hw : Went W W2 (both i S' X') (both i S2 X') := by
    refine ⟨fun k hk => ?_, hW.turn.wide fun k _ h => Or.inl h⟩
    rcases hk with h | h
    · rcases hW.new k h with h | h
      · exact Or.inl (Or.inl h)
      · exact Or.inr h
    · exact Or.inl (Or.inr h)
  exact ⟨⟨d.went.trans hw, fun k hk => (o k hk).2, oc.1.trans d.box, fun h => by rcases h with h | h; exact oc.2 h; exact d.out (Or.inr h)⟩, fun k hk => (o k hk).1⟩
theorem Duo.side {w W W2 : World} {i : Ix} {S S' : Sx} {X X' X2 : Nat → Prop} {cb : Nat} (d : Duo w W i S S' X X' cb) (hb : ∀ k, blk i S' k → k < W.heap.size) (hW : Went W W2 X' X2) :
    Duo w W2 i S S' X X2 cb ∧ ∀ k, blk i S' k → W2.heap[k]? = W.heap[k]? := by
  have o := fun k (hk : blk i S' k) => went_out hW (hb k hk) (fun h => d.dis k h hk)
  have oc := went_out hW d.box.lt (fun h => d.out (Or.inr h))
  have hw : Went W W2 (both i S' X') (both i S' X2) := by
    refine ⟨fun k hk => ?_, hW.turn.wide fun k _ h => Or.inr h⟩
    rcases hk with h | h
    · exact Or.inl (Or.inl h)
    · rcases hW.new k h with h | h
      · exact Or.inl (Or.inr h)
      · exact Or.inr h
  exact ⟨⟨d.went.trans hw, fun k hk h => (o k h).2 hk, oc.1.trans d.box, fun h => by rcases h with h | h; exact d.out (Or.inl h); exact oc.2 h⟩, fun k hk => (o k hk).1⟩

/-- With j gone. -/
structure CAt (w W : World) (i : Ix) (S S' : Sx) (X X' : Nat → Prop) (K : List ByteArray → (Nat → Prop) → World → Prop) (cb mo t : Nat) (N A G : List ByteArray) (f : Told) (b j : Nat) : Prop where
  duo : Duo w W i S S' X X' cb
  raw : Raw W i S' mo t (N.take (N.length - j)) (A.take (A.length + N.length - j)) ((A ++ N).drop (A.length + N.length - j) ++ G) f b
  side : K ((A ++ N).reverse.take j) X' W
theorem gone_step {N A : List ByteArray} {j : Nat} (hj : j < A.length + N.length) :
    lastKey (A.take (A.length + N.length - j) ++ N.take (N.length - j)) = (A ++ N).getD (A.length + N.length - (j + 1)) ⟨#[]⟩ ∧ anyKey (A.take (A.length + N.length - j) ++ N.take (N.length - j)) = true ∧
    (N.take (N.length - j)).dropLast = N.take (N.length - (j + 1)) ∧ dA (N.take (N.length - j)) (A.take (A.length + N.length - j)) = A.take (A.length + N.length - (j + 1)) := by
  have e1 : A.take (A.length + N.length - j) ++ N.take (N.length - j) = (A ++ N).take (A.length + N.length - (j + 1) + 1) := by
    rw [List.take_append, show A.length + N.length - (j + 1) + 1 = A.length + N.length - j by omega]
    congr 2; omega
  have hl : A.length + N.length - (j + 1) < (A ++ N).length := by rw [List.length_append]; omega
  have e2 := take_last hl
  refine ⟨by rw [e1]; exact e2.1, by rw [e1]; exact e2.2.1, ?_, ?_⟩
  · rw [List.dropLast_eq_take, List.take_take, List.length_take]
    congr 1; omega
  · unfold dA
    by_cases h : N.length ≤ j
    · rw [if_pos (by rw [show N.length - j = 0 by omega]; rfl), List.dropLast_eq_take, List.take_take, List.length_take]
      congr 1; omega
    · rw [if_neg (fun h2 => by have := congrArg List.length h2; rw [List.length_take, List.length_nil] at this; omega)]
      rw [List.take_of_length_le (by omega), List.take_of_length_le (by omega)]
theorem gone_row {L : List ByteArray} {j : Nat} (hj : j < L.length) : L.drop (L.length - (j + 1)) = L.getD (L.length - (j + 1)) ⟨#[]⟩ :: L.drop (L.length - j) ∧ L.reverse.take (j + 1) = L.reverse.take j ++ [L.getD (L.length - (j + 1)) ⟨#[]⟩] := by
  constructor
  · rw [drop_cons (by omega), show L.length - (j + 1) + 1 = L.length - j by omega]
  · have hl : j < L.reverse.length := by rw [List.length_reverse]; exact hj
    rw [take_snoc L.reverse j ⟨#[]⟩ hl, List.getD_eq_getElem?_getD, List.getD_eq_getElem?_getD, List.getElem?_reverse hj, show L.length - 1 - j = L.length - (j + 1) by omega]
/-- What cutTo leaves: n gone, the ghosts cut. -/
def CuPost (w : World) (i : Ix) (S : Sx) (X : Nat → Prop) (K : List ByteArray → (Nat → Prop) → World → Prop) (mo t : Nat) (N A G : List ByteArray) (f : Told) (b n : Nat) (e : Ending) (w' : World) : Prop :=
  e = .returned (.tuple #[]) ∧ ∃ S' X', Raw w' i S' mo t (N.take (N.length - n)) (A.take (A.length + N.length - n)) (((A ++ N).drop (A.length + N.length - n) ++ G).take mo) (tcut f (((A ++ N).drop (A.length + N.length - n) ++ G).drop mo)) b ∧
    K ((A ++ N).reverse.take n) X' w' ∧ Went w w' (both i S X) (both i S' X') ∧ ∀ k, X' k → ¬ blk i S' k
end Go.Proofs.Ytmnflcidcoejiaa
