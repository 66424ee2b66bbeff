/- The state that DrawLanes goes through: the tape, what each lane told, one row a lane. -/
import Derived.Test.YtaiejdopmlajmaaVals
import Derived.Test.YtaiejdopmlajmaaRefs
import Derived.Test.YtaiejdopmlajmaaPlaysA
namespace Go.Proofs.Ytaiejdopmlajmaa
open Go.RowKit Go.Maps

def ans (ys : List Nat) (k : Nat) : List Nat := (List.range k).map fun j => ys.getD j 0
theorem ans_length (ys : List Nat) (k : Nat) : (ans ys k).length = k := by simp [ans]
theorem ans_snoc (ys : List Nat) (k : Nat) : ans ys (k + 1) = ans ys k ++ [ys.getD k 0] := by simp [ans, List.range_succ]
theorem ans_get (ys : List Nat) (k j : Nat) (h : j < k) : (uints (ans ys k))[j]? = some (.int .u64 ((ys.getD j 0 : Nat) : Int)) := by
  simp [uints, ans, h]
theorem uints_snoc (xs : List Nat) (b : Nat) : uints (xs ++ [b]) = uints xs ++ [.int .u64 (b : Int)] := by simp [uints]

structure Told (L : List (List Nat)) (bm base : Nat) (w W : World) (k B E : Nat) (T : List (List Nat)) (D : DataW Value) (val : Int → Value) (cnt : Int → Nat) : Prop where
  tape : Tape W B E T
  left : ∀ z, lget T z = (lget L z).drop (cnt z)
  map : Vals W bm k D val
  rows : ∀ z, W.ownsRow base 28 1 (val z) (cnt z) (uints (ans (lget L z) (cnt z)))
  apart : ∀ y z, y ≠ z → (val y).ownBlock = none ∨ (val y).ownBlock ≠ (val z).ownBlock
  le : ∀ z, cnt z ≤ k
  below : Below w.heap.size w W
  lo : w.heap.size ≤ B
  hi : E ≤ bm
  mid : bm < base
  room : base ≤ W.heap.size

variable {L T : List (List Nat)} {bm base k B E : Nat} {w W : World} {D : DataW Value} {val : Int → Value} {cnt : Int → Nat}

theorem Told.drewn (h : Told L bm base w W k B E T D val cnt) : Told L bm base w W.drew k B E T D val cnt :=
  ⟨h.tape.same (Nat.le_refl _) (fun _ _ _ => rfl), h.left, h.map.kept (row := none) ⟨rfl, rfl, rfl, Nat.le_refl _, fun _ _ _ => rfl⟩ (by simp), fun z => (h.rows z).drew, h.apart, h.le, h.below.drew, h.lo, h.hi, h.mid, h.room⟩
theorem Told.head (h : Told L bm base w W k B E T D val cnt) (z : Int) : (lget T z).headD 0 = lat L z (cnt z) := by
  rw [h.left z, lat, List.headD_eq_head?_getD, List.head?_drop, List.getD_eq_getElem?_getD]

theorem none_or {v : Value} {row : Option Nat} (h : ∀ g, v.ownBlock = some g → row ≠ some g) : v.ownBlock = none ∨ v.ownBlock ≠ row := by
  rcases e : v.ownBlock with _ | g
  · exact Or.inl rfl
  · exact Or.inr (fun e' => h g e e'.symm)

/-- One more told: the append and the store, whatever the order of the look-up. -/
theorem told_step {w2 : World} {z : Int} (h : Told L bm base w W k B E T D val cnt) (hz : -9223372036854775808 ≤ z ∧ z ≤ 9223372036854775807) (hk : k ≤ 1000) (hT : Tape w2 B E (adv T z)) (hg : W.grownBy w2 (some B)) :
    ∃ A c w3 w4 D', (Builtin.append_ #[25, 25] 25 #[val z, .slice (some ⟨w2.heap.size, 0, none⟩) 1 1]).run Try.prog (w2.alloc (.cells #[.int .u64 (lat L z (cnt z) : Int)] 28)) = .ok (.slice A (cnt z + 1) c) w3 ∧
      (Instr.mapUpdate 45 (.map (some bm)) (.int .i64 z) (.slice A (cnt z + 1) c)).run Try.prog w3 = .ok () w4 ∧
      Below w.heap.size w w3 ∧ Told L bm base w w4 (k + 1) B E (adv T z) D' (put val z (.slice A (cnt z + 1) c)) (bump cnt z) ∧
      (Instr.lookup 45 (.map (some bm)) (.int .i64 z) false).run Try.prog w2 = .ok (val z) w2 ∧
      (Instr.lookup 45 (.map (some bm)) (.int .i64 z) false).run Try.prog (w2.alloc (.cells #[.int .u64 (lat L z (cnt z) : Int)] 28)) = .ok (val z) (w2.alloc (.cells #[.int .u64 (lat L z (cnt z) : Int)] 28)) := by
  obtain ⟨i0, hi, hz0, hz1, hz2⟩ := info_parts infoU
  have hle := h.le z
  have hmid := h.mid
  have hhi := h.hi
  have htl := hT.lt
  have m2 : Vals w2 bm k D val := h.map.kept hg (fun e => by have e' : bm = B := Option.some.inj e; omega)
  have m3 : Vals (w2.alloc (.cells #[.int .u64 (lat L z (cnt z) : Int)] 28)) bm k D val := m2.kept (World.grownBy_alloc w2 _ none) (by simp)
  have r2 : ∀ y, w2.ownsRow base 28 1 (val y) (cnt y) (uints (ans (lget L y) (cnt y))) := fun y => (h.rows y).kept hg (none_or fun g e e' => by have := (h.rows y).lt g e; cases e'; omega)
  have hroom : base ≤ w2.heap.size := Nat.le_trans h.room hg.size
  obtain ⟨v', w3, ra, ro, rg, _, rl⟩ := run_append_own_at (P := Try.prog) (w2.alloc (.cells #[.int .u64 (lat L z (cnt z) : Int)] 28)) base 25 25 28 i0 (.int .u64 0) 1 8 Try.underlying25 hi hz0 hz1 hz2 rfl (by decide)
    (val z) (cnt z) _ ((r2 z).alloc _) ⟨w2.heap.size, 0, none⟩ 1 1 [.int .u64 (lat L z (cnt z) : Int)] rfl (cell_one_new w2 _ _) (fun u hu => by simp at hu; subst hu; rfl) (by unfold maxLen; omega) (by omega) (by simp; omega)
  have g3 : w2.grownBy w3 (val z).ownBlock := (World.grownBy_alloc w2 _ _).trans rg
  have hs3 : w2.heap.size + 1 ≤ w3.heap.size := by have := rg.size; simpa using this
  have hb3 : ∀ g, (val z).ownBlock = some g → base ≤ g ∧ g < w2.heap.size := fun g e => (r2 z).lt g e
  obtain ⟨A, c, rfl⟩ : ∃ A c, v' = .slice A (cnt z + 1) c := by
    rcases ro.2 with ⟨_, h0⟩ | ⟨g, cap, cur, e, _⟩
    · omega
    · exact ⟨_, cap, e⟩
  have m4 : Vals w3 bm k D val := m3.kept rg (fun e => by have := hb3 bm e.symm; omega)
  obtain ⟨w4, D', ru, mv, gu⟩ := m4.store hz (by omega) A (cnt z + 1) c
  have b2 : Below w.heap.size w w2 := h.below.grown hg h.below.size (fun j hj => by cases hj; exact h.lo)
  have hlo := h.lo
  have b3 : Below w.heap.size w w3 := b2.grown g3 b2.size (fun j hj => by have := hb3 j hj; omega)
  refine ⟨A, c, w3, w4, D', ra, ru, b3, ?_, m2.look hz, m3.look hz⟩
  have r3 : ∀ y, y ≠ z → w3.ownsRow base 28 1 (val y) (cnt y) (uints (ans (lget L y) (cnt y))) := fun y hy => (r2 y).kept g3 (h.apart y z hy)
  have ro3 : w3.ownsRow base 28 1 (.slice A (cnt z + 1) c) (cnt z + 1) (uints (ans (lget L z) (cnt z + 1))) := by
    rw [ans_snoc, uints_snoc]; exact ro
  have r4 : ∀ y, w4.ownsRow base 28 1 (put val z (.slice A (cnt z + 1) c) y) (bump cnt z y) (uints (ans (lget L y) (bump cnt z y))) := fun y => by
    unfold put bump
    by_cases e : y = z
    · subst e
      rw [if_pos rfl, if_pos rfl]
      exact ro3.kept gu (none_or fun g e e' => by have := ro3.lt g e; cases e'; omega)
    · rw [if_neg e, if_neg e]
      exact (r3 y e).kept gu (none_or fun g e1 e' => by have := (r3 y e).lt g e1; cases e'; omega)
  have hnew : ∀ y, y ≠ z → (val y).ownBlock = none ∨ (val y).ownBlock ≠ (Value.slice A (cnt z + 1) c).ownBlock := fun y hy => by
    rcases rl with rl | rl
    · rw [rl]; exact h.apart y z hy
    · rw [rl]
      exact none_or fun g e e' => by have h1 := (r2 y).lt g e; have h2 : (w2.alloc (.cells #[.int .u64 (lat L z (cnt z) : Int)] 28)).heap.size = w2.heap.size + 1 := by simp
                                     have e2 := Option.some.inj e'; omega
  refine ⟨?_, fun y => ?_, mv, r4, fun x y hxy => ?_, fun y => ?_, ?_, h.lo, h.hi, h.mid, ?_⟩
  · have t3 : Tape w3 B E (adv T z) := hT.same g3.size fun j _ j2 => g3.block j (by omega) (fun e => by have := hb3 j e.symm; omega)
    exact t3.same gu.size fun j _ j2 => gu.block j (by omega) (fun e => by have e' : j = bm := Option.some.inj e; omega)
  · rw [lget_adv, bump]
    split
    · rename_i e; subst e; rw [h.left y, List.tail_drop]
    · exact h.left y
  · unfold put
    by_cases ex : x = z
    · subst ex
      rw [if_pos rfl, if_neg (fun e => hxy e.symm)]
      rcases hnew y (fun e => hxy e.symm) with h1 | h1
      · rw [h1]
        cases (Value.slice A (cnt x + 1) c).ownBlock with
        | none => exact Or.inl rfl
        | some g => exact Or.inr (by simp)
      · exact Or.inr (fun e => h1 e.symm)
    · rw [if_neg ex]
      by_cases ey : y = z
      · rw [if_pos ey]; exact hnew x ex
      · rw [if_neg ey]; exact h.apart x y hxy
  · unfold bump
    have := h.le y
    split <;> omega
  · exact b3.grown gu b3.size (fun j hj => by cases hj; omega)
  · have := gu.size; omega

/-- An append whose run is known, as a step of a region that draws its order. -/
theorem step_append_run {P : Program} {ops : Array Oper} {o : Oper} {a : Act} {w : World} {K : Act → World → Prop} {Q : Exit → Act → World → Prop} {E : Prop} (hgd : o.guard = none) (s x : Operand) (t : TypeId)
    (ho : o.op = .call { callee := .builtin .append, args := #[s, x], argTypes := #[t, t] }) (v u v' : Value) (w' : World) (hs : a.eval s = v) (hx : a.eval x = u) (hr : (Builtin.append_ #[t, t] o.type #[v, u]).run P w = .ok v' w')
    (h : K (a.put o.dst v') w') : if Region.wanted o (yielded ops a.tmps) = true then Oper.wp P o a w K Q else E := by
  have hw : Region.wanted o (yielded ops a.tmps) = true := by simp [Region.wanted, hgd]
  rw [if_pos hw]
  unfold Oper.wp execOp
  simp only [ho, resolve, invoke, builtin, Sem.run_bind, Sem.run_pure, Result.andThen_ok, List.map_toArray, List.map_cons, List.map_nil, hs, hx, hr]
  exact h

/-- While the map is ranged over by the iterator in block r. -/
structure LnS (L : List (List Nat)) (bm base r : Nat) (w W : World) (B E : Nat) (T : List (List Nat)) (val : Int → Value) (cnt : Int → Nat) : Prop where
  tape : Tape W B E T
  left : ∀ z, lget T z = (lget L z).drop (cnt z)
  rows : ∀ z, W.ownsRow base 28 1 (val z) (cnt z) (uints (ans (lget L z) (cnt z)))
  below : Below w.heap.size w W
  lo : w.heap.size ≤ B
  hi : E ≤ bm
  mid : bm < base
  top : ∀ z g, (val z).ownBlock = some g → g < r
  rr : base ≤ r
theorem Told.ranged {W' : World} (h : Told L bm base w W k B E T D val cnt) (hg : W.grownBy W' none) : LnS L bm base W.heap.size w W' B E T val cnt :=
  ⟨h.tape.same hg.size fun j _ j2 => hg.block j (by have := h.tape.lt; omega) (by simp), h.left, fun z => (h.rows z).kept hg (none_or fun _ _ e => by cases e), h.below.grown hg h.below.size (fun j hj => by cases hj), h.lo, h.hi, h.mid, fun z g e => ((h.rows z).lt g e).2, h.room⟩
theorem LnS.kept {r : Nat} {W' : World} {row : Option Nat} (h : LnS L bm base r w W B E T val cnt) (hg : W.grownBy W' row) (hr : ∀ j, row = some j → r ≤ j) : LnS L bm base r w W' B E T val cnt := by
  have h1 := h.hi
  have h2 := h.mid
  have h3 := h.rr
  have h4 := h.lo
  have h5 := h.tape.lt
  refine ⟨h.tape.same hg.size fun j _ j2 => hg.block j (by omega) (fun e => by have := hr j e.symm; omega), h.left, fun z => (h.rows z).kept hg (none_or fun g e e' => by have := hr g e'; have := h.top z g e; omega), h.below.grown hg h.below.size (fun j hj => by have := hr j hj; omega), h.lo, h.hi, h.mid, h.top, h.rr⟩
theorem below_grown {W W' : World} (h : Below W.heap.size W W') : W.grownBy W' none := ⟨h.os, h.tape, h.output, h.size, fun j hj _ => h.block j hj⟩
theorem grown_drew (W : World) : W.grownBy W.drew none := ⟨rfl, rfl, rfl, Nat.le_refl _, fun _ _ _ => rfl⟩

/-- A tape of its own beside, asked at one lane alone. -/
def Own (L : List (List Nat)) (C F : Nat) (x : Int) (j : Nat) (W : World) : Prop := ∃ T', Tape W C F T' ∧ lget T' x = (lget L x).drop j
theorem Own.next {C F j : Nat} {x : Int} (h : Own L C F x j W) :
    Calls Try.prog 12 #[.pointer (some ⟨C + 1, 0, none⟩), .int .i64 x] W fun e W' => e = .returned (.int .u64 ((lat L x j : Nat) : Int)) ∧ Own L C F x (j + 1) W' ∧ W.grownBy W' (some C) := by
  obtain ⟨T', h1, h2⟩ := h
  refine (next_any W C F T' x h1).mono fun e W' ⟨k1, k2, k3⟩ => ⟨?_, ⟨_, k2, ?_⟩, k3⟩
  · rw [k1, h2, lat, List.headD_eq_head?_getD, List.head?_drop, List.getD_eq_getElem?_getD]
  · rw [lget_adv, if_pos rfl, h2, List.tail_drop]
theorem Own.left {C F j : Nat} {x : Int} (h : Own L C F x j W) :
    Calls Try.prog 16 #[.pointer (some ⟨C + 1, 0, none⟩), .int .i64 x] W (LeftPost ((lget L x).length - j) W) := by
  obtain ⟨T', h1, h2⟩ := h
  have := left_any W C F T' x h1
  rw [h2, List.length_drop] at this
  exact this
theorem Own.drewn {C F j : Nat} {x : Int} (h : Own L C F x j W) : Own L C F x j W.drew := by
  obtain ⟨T', h1, h2⟩ := h
  exact ⟨T', h1.same (Nat.le_refl _) (fun _ _ _ => rfl), h2⟩
theorem LnS.leftAt {r : Nat} (h : LnS L bm base r w W B E T val cnt) (x : Int) :
    Calls Try.prog 16 #[.pointer (some ⟨B + 1, 0, none⟩), .int .i64 x] W (LeftPost ((lget L x).length - cnt x) W) := by
  have := left_any W B E T x h.tape
  rw [h.left x, List.length_drop] at this
  exact this
end Go.Proofs.Ytaiejdopmlajmaa
