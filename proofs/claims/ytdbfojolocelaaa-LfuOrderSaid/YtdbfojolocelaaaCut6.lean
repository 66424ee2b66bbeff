/- A row without its first ones, or its last ones, as a slice of it. -/
import Derived.Test.YtdbfojolocelaaaRc6
namespace Go.Proofs.Ytdbfojolocelaaa
open Go.RowKit Ht HS Lf

theorem sizeStr (w : World) : (sizeOf 9).run Try.prog w = .ok 1 w := by kernel_rfl
theorem elemStr : Try.prog.underlying 47 = some (.slice (Try.prog.elem 47)) := by kernel_rfl
theorem elemStr1 : Try.prog.elem 47 = 9 := by kernel_rfl

/-- 'l[p:]'. -/
theorem row_from {w : World} {g : Nat} {A : Option Addr} {n c : Nat} {xs : List ByteArray} (h : Row w g (.slice A n c) xs) (hn : xs.length = n) {p : Nat} (hp : p ≤ n) :
    ∃ A', (∀ W : World, (Instr.sliceAt 47 (.slice A n c) (some (.int .i64 (p : Int))) none none).run Try.prog W = .ok (.slice A' (n - p) (c - p)) W) ∧
      (∀ W : World, (Instr.slice 47 (.slice A n c) (some (.int .i64 (p : Int))) none none).run Try.prog W = .ok (.slice A' (n - p) (c - p)) W) ∧ Row w g (.slice A' (n - p) (c - p)) (xs.drop p) := by
  have hrun : ∀ W : World, (Instr.slice 47 (.slice A n c) (some (.int .i64 (p : Int))) none none).run Try.prog W = .ok (.slice (if c = p then A else A.map (·.add (p * 1))) (n - p) (c - p)) W := fun W => by
    rw [run_slice_l W _ _ _ _ elemStr .i64 (p : Int) (by omega) (by omega), elemStr1, sizeStr]
    rfl
  refine ⟨if c = p then A else A.map (·.add (p * 1)), fun W => (run_sliceAt_slice W _ _ _ _ _ elemStr).trans (hrun W), hrun, ?_⟩
  have hd : (xs.drop p).length = n - p := by rw [List.length_drop, hn]
  refine ⟨by rw [hd]; have := h.1; omega, fun x hx => h.2.1 x (List.drop_subset _ _ hx), ?_⟩
  by_cases h0 : n - p = 0
  · rw [h0]
    exact Or.inl ⟨List.eq_nil_of_length_eq_zero (by rw [hd, h0]), _, _, rfl⟩
  · rcases h.2.2 with ⟨rfl, _⟩ | ⟨o, c', e, h1, h2, h3, h4⟩
    · simp at hn; omega
    · obtain ⟨rfl, rfl⟩ : A = some ⟨g, o, none⟩ ∧ c = c' := by
        injection e with a1 a2 a3
        exact ⟨a1, a3⟩
      have hcp : c ≠ p := by omega
      rw [if_neg hcp]
      refine Or.inr ⟨o + p, c - p, ?_, h1, by omega, by omega, fun j hj => ?_⟩
      · rw [hd]
        show Value.slice (some (Addr.add ⟨g, o, none⟩ (p * 1))) _ _ = _
        rw [show Addr.add ⟨g, o, none⟩ (p * 1) = ⟨g, o + p, none⟩ by unfold Addr.add; split <;> simp_all]
      · rw [hd] at hj
        have := h4 (p + j) (by omega)
        rw [← Nat.add_assoc] at this
        rw [this, List.getD_eq_getElem?_getD, List.getD_eq_getElem?_getD, List.getElem?_drop]
/-- 'l[:p]'. -/
theorem row_to {w : World} {g : Nat} {A : Option Addr} {n c : Nat} {xs : List ByteArray} (h : Row w g (.slice A n c) xs) (hn : xs.length = n) {p : Nat} (hp : p ≤ n) :
    ∃ A', (∀ W : World, (Instr.sliceAt 47 (.slice A n c) none (some (.int .i64 (p : Int))) none).run Try.prog W = .ok (.slice A' p c) W) ∧
      (∀ W : World, (Instr.slice 47 (.slice A n c) none (some (.int .i64 (p : Int))) none).run Try.prog W = .ok (.slice A' p c) W) ∧ Row w g (.slice A' p c) (xs.take p) := by
  have hdd : (xs.take p).length = p := by rw [List.length_take, hn]; omega
  by_cases h0 : p = 0
  · subst h0
    have hrun : ∀ W : World, (Instr.slice 47 (.slice A n c) none (some (.int .i64 ((0 : Nat) : Int))) none).run Try.prog W = .ok (.slice (if c = 0 then A else A.map (·.add (0 * 1))) 0 c) W := fun W => by
      rw [run_slice_h W _ _ _ _ elemStr .i64 ((0 : Nat) : Int) (by omega) (by omega), elemStr1, sizeStr]
      rfl
    refine ⟨_, fun W => (run_sliceAt_slice W _ _ _ _ _ elemStr).trans (hrun W), hrun, ?_⟩
    rw [List.take_zero]
    exact Row.nil _ _ _ _
  · rcases h.2.2 with ⟨rfl, _⟩ | ⟨o, c', e, h1, h2, h3, h4⟩
    · simp at hn; omega
    · obtain ⟨rfl, rfl⟩ : A = some ⟨g, o, none⟩ ∧ c = c' := by
        injection e with a1 a2 a3
        exact ⟨a1, a3⟩
      have hrun : ∀ W : World, (Instr.slice 47 (.slice (some ⟨g, o, none⟩) n c) none (some (.int .i64 (p : Int))) none).run Try.prog W = .ok (.slice (some ⟨g, o, none⟩) p c) W := fun W => by
        rw [run_slice_h W _ _ _ _ elemStr .i64 (p : Int) (by omega) (by omega), elemStr1, sizeStr]
        show Result.ok (sliced _ 0 _ _ _) _ = _
        unfold sliced
        rw [if_neg (by omega)]
        simp [Addr.add]
      refine ⟨_, fun W => (run_sliceAt_slice W _ _ _ _ _ elemStr).trans (hrun W), hrun, by rw [hdd]; have := h.1; omega, fun x hx => h.2.1 x (List.take_subset _ _ hx), Or.inr ⟨o, c, by rw [hdd], h1, by omega, h3, fun j hj => ?_⟩⟩
      rw [hdd] at hj
      rw [h4 j (by omega), List.getD_eq_getElem?_getD, List.getD_eq_getElem?_getD, List.getElem?_take, if_pos hj]

/-- The second of two caches made smaller, or greater. -/
theorem Pair.res {w0 w w' : World} {a a2 mo mo2 n n2 m : Nat} {S S2 : Nat → Prop} {ch ch2 : Bool} {L L2 : List (Ent Key)} {e : Ending} (p : Pair w0 w a S mo ch L n a2 S2 mo2 ch2 L2 n2) (hp : ResPost w a2 S2 m ch2 L2 n2 e w') :
    ∃ v S', e = .returned v ∧ Own w' w.heap.size v ((keysL L2).take (L2.length - m)) ∧ Pair w0 w' a S mo ch L n a2 S' m ch2 (L2.drop (L2.length - m)) n2 ∧ Went w w' S2 S' ∧ (∀ g, v.ownBlock = some g → ¬ S' g) := by
  obtain ⟨v, S', he, hO, hC, hn, hT, hv⟩ := hp
  have hsz := p.two.bel.size
  have hb := p.two.bel.trans (hT.below p.two.low hsz)
  refine ⟨v, S', he, hO, ⟨⟨p.one.ca.kept hT (fun k h3 h4 => p.apart k h3 h4), hb, p.one.low⟩, ⟨hC, hb, fun k hk => by rcases hn k hk with h | h; exact p.two.low k h; omega⟩, fun k h3 h4 => ?_⟩, ⟨hn, hT⟩, hv⟩
  rcases hn k h4 with h | h
  · exact p.apart k h3 h
  · have := p.one.lt k h3; omega

/-- Keys stand by times. -/
theorem ord_getD {R : List (Ent Key)} {n i : Nat} (o : Once R n) (s : Srt R) (h : i + 1 < R.length) : tms R ((keysL R).getD i ⟨#[]⟩) ≤ tms R ((keysL R).getD (i + 1) ⟨#[]⟩) := by
  obtain ⟨x, _, hx, ex⟩ := drop_some (L := R) (j := i) (by omega)
  obtain ⟨y, _, hy, ey⟩ := drop_some (L := R) (j := i + 1) h
  rw [ex, ey, tms_mem o hx, tms_mem o hy]
  have h1 := drop_some (L := R) (j := i) (by omega)
  have ex' : R[i]? = some x := by
    obtain ⟨x', e1, _, _⟩ := drop_some (L := R) (j := i) (by omega)
    have hgx : R[i] = x := o.uniq (List.getElem_mem (by omega)) hx (by
      rw [← ex, List.getD_eq_getElem?_getD, keysL, List.getElem?_map, List.getElem?_eq_getElem (by omega)]; rfl)
    rw [List.getElem?_eq_getElem (by omega), hgx]
  have ey' : R[i + 1]? = some y := by
    have hgy : R[i + 1] = y := o.uniq (List.getElem_mem h) hy (by
      rw [← ey, List.getD_eq_getElem?_getD, keysL, List.getElem?_map, List.getElem?_eq_getElem h]; rfl)
    rw [List.getElem?_eq_getElem h, hgy]
  have hp := List.pairwise_iff_getElem.1 (srt_one s) i (i + 1) (by omega) h (by omega)
  rw [List.getElem?_eq_getElem (by omega)] at ex' ey'
  injection ex' with ex'
  injection ey' with ey'
  rw [ex', ey'] at hp
  exact hp
theorem hd_drop {R : List (Ent Key)} {i : Nat} (h : i < R.length) : hdK (R.drop i) = (keysL R).getD i ⟨#[]⟩ ∧ (!(R.drop i).isEmpty) = true ∧ (R.drop i).tail = R.drop (i + 1) := by
  obtain ⟨x, e, _, ex⟩ := drop_some (L := R) (j := i) h
  rw [e, ex]
  exact ⟨rfl, rfl, rfl⟩
theorem keys_drop (R : List (Ent Key)) (p : Nat) : keysL (R.drop p) = (keysL R).drop p := by unfold keysL; rw [List.map_drop]
end Go.Proofs.Ytdbfojolocelaaa
