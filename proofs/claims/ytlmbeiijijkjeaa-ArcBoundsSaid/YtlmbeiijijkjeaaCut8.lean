/- A row without its first ones, or its last ones, as a slice of it. -/
import Derived.Test.YtlmbeiijijkjeaaRc8
import Derived.Deep.RegionHeld3
namespace Go.Proofs.Ytlmbeiijijkjeaa
open Go.RowKit Sg

theorem sizeStr (w : World) : (sizeOf 9).run Try.prog w = .ok 1 w := by kernel_rfl
theorem elemStr : Try.prog.underlying 35 = some (.slice (Try.prog.elem 35)) := by kernel_rfl
theorem elemStr1 : Try.prog.elem 35 = 9 := by kernel_rfl

/-- 'l[p:]'. -/
theorem row_from {w : World} {g : Nat} {A : Option Addr} {n c : Nat} {xs : List ByteArray} (h : Row w g (.slice A n c) xs) (hn : xs.length = n) {p : Nat} (hp : p ≤ n) :
    ∃ A', (∀ W : World, (Instr.sliceAt 35 (.slice A n c) (some (.int .i64 (p : Int))) none none).run Try.prog W = .ok (.slice A' (n - p) (c - p)) W) ∧
      (∀ W : World, (Instr.slice 35 (.slice A n c) (some (.int .i64 (p : Int))) none none).run Try.prog W = .ok (.slice A' (n - p) (c - p)) W) ∧ Row w g (.slice A' (n - p) (c - p)) (xs.drop p) := by
  have hrun : ∀ W : World, (Instr.slice 35 (.slice A n c) (some (.int .i64 (p : Int))) none none).run Try.prog W = .ok (.slice (if c = p then A else A.map (·.add (p * 1))) (n - p) (c - p)) W := fun W => by
    rw [run_slice_l W _ _ _ _ elemStr .i64 (p : Int) (by omega) (by omega), elemStr1, sizeStr]
    rfl
  refine ⟨if c = p then A else A.map (·.add (p * 1)), fun W => (run_sliceAt_slice W _ _ _ _ _ elemStr).trans (hrun W), hrun, ?_⟩
  have hd : (xs.drop p).length = n - p := by rw [List.length_drop, hn]
  refine ⟨by rw [hd]; have := h.1; omega, fun x hx => h.2.1 x (List.drop_subset _ _ hx), ?_⟩
  by_cases h0 : n - p = 0
  · rw [h0]
    exact Or.inl ⟨List.eq_nil_of_length_eq_zero (by rw [hd, h0]), _, _, rfl⟩
  · rcases h.2.2 with ⟨rfl, _⟩ | ⟨o, c', e, h1, h2, h3, h4⟩
    · simp at hn; omega
    · obtain ⟨rfl, rfl⟩ : A = some ⟨g, o, none⟩ ∧ c = c' := by
        injection e with a1 a2 a3
        exact ⟨a1, a3⟩
      have hcp : c ≠ p := by omega
      rw [if_neg hcp]
      refine Or.inr ⟨o + p, c - p, ?_, h1, by omega, by omega, fun j hj => ?_⟩
      · rw [hd]
        show Value.slice (some (Addr.add ⟨g, o, none⟩ (p * 1))) _ _ = _
        rw [show Addr.add ⟨g, o, none⟩ (p * 1) = ⟨g, o + p, none⟩ by unfold Addr.add; split <;> simp_all]
      · rw [hd] at hj
        have := h4 (p + j) (by omega)
        rw [← Nat.add_assoc] at this
        rw [this, List.getD_eq_getElem?_getD, List.getD_eq_getElem?_getD, List.getElem?_drop]
/-- 'l[:p]'. -/
theorem row_to {w : World} {g : Nat} {A : Option Addr} {n c : Nat} {xs : List ByteArray} (h : Row w g (.slice A n c) xs) (hn : xs.length = n) {p : Nat} (hp : p ≤ n) :
    ∃ A', (∀ W : World, (Instr.sliceAt 35 (.slice A n c) none (some (.int .i64 (p : Int))) none).run Try.prog W = .ok (.slice A' p c) W) ∧
      (∀ W : World, (Instr.slice 35 (.slice A n c) none (some (.int .i64 (p : Int))) none).run Try.prog W = .ok (.slice A' p c) W) ∧ Row w g (.slice A' p c) (xs.take p) := by
  have hdd : (xs.take p).length = p := by rw [List.length_take, hn]; omega
  by_cases h0 : p = 0
  · subst h0
    have hrun : ∀ W : World, (Instr.slice 35 (.slice A n c) none (some (.int .i64 ((0 : Nat) : Int))) none).run Try.prog W = .ok (.slice (if c = 0 then A else A.map (·.add (0 * 1))) 0 c) W := fun W => by
      rw [run_slice_h W _ _ _ _ elemStr .i64 ((0 : Nat) : Int) (by omega) (by omega), elemStr1, sizeStr]
      rfl
    refine ⟨_, fun W => (run_sliceAt_slice W _ _ _ _ _ elemStr).trans (hrun W), hrun, ?_⟩
    rw [List.take_zero]
    exact Row.nil _ _ _ _
  · rcases h.2.2 with ⟨rfl, _⟩ | ⟨o, c', e, h1, h2, h3, h4⟩
    · simp at hn; omega
    · obtain ⟨rfl, rfl⟩ : A = some ⟨g, o, none⟩ ∧ c = c' := by
        injection e with a1 a2 a3
        exact ⟨a1, a3⟩
      have hrun : ∀ W : World, (Instr.slice 35 (.slice (some ⟨g, o, none⟩) n c) none (some (.int .i64 (p : Int))) none).run Try.prog W = .ok (.slice (some ⟨g, o, none⟩) p c) W := fun W => by
        rw [run_slice_h W _ _ _ _ elemStr .i64 (p : Int) (by omega) (by omega), elemStr1, sizeStr]
        show Result.ok (sliced _ 0 _ _ _) _ = _
        unfold sliced
        rw [if_neg (by omega)]
        simp [Addr.add]
      refine ⟨_, fun W => (run_sliceAt_slice W _ _ _ _ _ elemStr).trans (hrun W), hrun, by rw [hdd]; have := h.1; omega, fun x hx => h.2.1 x (List.take_subset _ _ hx), Or.inr ⟨o, c, by rw [hdd], h1, by omega, h3, fun j hj => ?_⟩⟩
      rw [hdd] at hj
      rw [h4 j (by omega), List.getD_eq_getElem?_getD, List.getD_eq_getElem?_getD, List.getElem?_take, if_pos hj]


/-- A row of the call's own that is appended to, beside a cache. -/
structure Keep (w : World) (T : Nat → Prop) (base : Nat) (v : Value) (xs : List ByteArray) : Prop where
  own : Own w base v xs
  out : ∀ g, v.ownBlock = some g → ¬ T g
  low : base ≤ w.heap.size
section
variable {w0 w w' : World} {T T' : Nat → Prop} {base c b : Nat} {v : Value} {xs : List ByteArray} {s : St}
theorem Keep.below (k : Keep w T base v xs) (hb : Below w.heap.size w w') : Keep w' T base v xs := ⟨k.own.below hb, k.out, Nat.le_trans k.low hb.size⟩
theorem Keep.went (k : Keep w T base v xs) (hW : Went w w' T T') : Keep w' T' base v xs :=
  ⟨k.own.same fun g hg => hW.turn.block g (k.own.lt hg).1 (k.out g hg), fun g hg => (went_out hW (k.own.lt hg).1 (k.out g hg)).2, Nat.le_trans k.low hW.turn.size⟩
theorem Keep.app (k : Keep w T base v xs) (l : Live w0 w c T s b) (h0 : w0.heap.size ≤ base) (x : ByteArray) (hx : x.size ≤ maxLen) (hl : xs.length ≤ 1999) :
    ∃ (A : Option Addr) (cap : Nat) (w2 : World), (Builtin.append_ #[35, 35] 35 #[v, .slice (some ⟨w.heap.size, 0, none⟩) 1 1]).run Try.prog (w.alloc (.cells #[.string x] 9)) = .ok (.slice A (xs.length + 1) cap) w2 ∧
      Keep w2 T base (.slice A (xs.length + 1) cap) (xs ++ [x]) ∧ Live w0 w2 c T s b ∧ Turn (fun k => v.ownBlock = some k) w w2 := by
  obtain ⟨A, cap, w2, hrun, hO, hg, hloc⟩ := app_at k.own x hx hl k.low
  have hT : Turn (fun k => v.ownBlock = some k) w w2 := ⟨hg.os, hg.tape, hg.output, hg.size, fun i hi hn => hg.block i hi fun e => hn e.symm⟩
  refine ⟨A, cap, w2, hrun, ⟨hO, fun g hg' => ?_, Nat.le_trans k.low hg.size⟩, ⟨l.ca.beside hT fun i hi e => k.out i e hi, ?_, l.low⟩, hT⟩
  · rcases hloc g hg' with h | h
    · exact k.out g h
    · exact fun hk => by have := l.lt g hk; omega
  · exact l.bel.trans (hT.below (fun i e => Nat.le_trans h0 (k.own.lt e).2) l.bel.size)
end
theorem refSame_self (w : World) (g g' : Nat) (v u : Value) (xs : List ByteArray) (h : Row w g v xs) (k : Row w g' u xs) : Calls Try.prog 22 #[v, u] w (SamePost true w) := by
  have := refSame_any w g g' v u xs xs h k
  rw [decide_eq_true rfl] at this
  exact this
end Go.Proofs.Ytlmbeiijijkjeaa
