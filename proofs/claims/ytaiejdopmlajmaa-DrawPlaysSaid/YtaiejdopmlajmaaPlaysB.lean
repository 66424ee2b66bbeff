/- The state that DrawPlays goes through: the tape, what was taken of each lane, the block of the call at hand. -/
import Derived.Test.YtaiejdopmlajmaaCounts
import Derived.Test.YtaiejdopmlajmaaRefs
import Derived.Deep.QuietTactic
namespace Go.Proofs.Ytaiejdopmlajmaa
open Go.RowKit

structure PlS (L : List (List Nat)) (bm : Nat) (w W : World) (k B E : Nat) (T : List (List Nat)) (cnt : Int → Nat) : Prop where
  tape : Tape W B E T
  left : ∀ z, lget T z = (lget L z).drop (cnt z)
  map : Counts W bm k cnt
  le : ∀ z, cnt z ≤ k
  below : Below w.heap.size w W
  lo : w.heap.size ≤ B
  apart : E ≤ bm ∨ bm < B
  mlo : w.heap.size ≤ bm

variable {L T : List (List Nat)} {bm k B E : Nat} {w W : World} {cnt : Int → Nat}

theorem heap_drewN (w : World) (n : Nat) : (w.drewN n).heap = w.heap := rfl
theorem grown_drewN' (w : World) (n : Nat) (row : Option Nat) : w.grownBy (w.drewN n) row := ⟨rfl, rfl, rfl, Nat.le_refl _, fun _ _ _ => rfl⟩

theorem PlS.drewN (h : PlS L bm w W k B E T cnt) (n : Nat) : PlS L bm w (W.drewN n) k B E T cnt :=
  ⟨h.tape.same (Nat.le_refl _) (fun _ _ _ => rfl), h.left, h.map.kept (grown_drewN' W n none) (by simp), h.le, ⟨h.below.os, h.below.tape, h.below.output, h.below.size, h.below.block⟩, h.lo, h.apart, h.mlo⟩
theorem PlS.drewn (h : PlS L bm w W k B E T cnt) : PlS L bm w W.drew k B E T cnt :=
  ⟨h.tape.same (Nat.le_refl _) (fun _ _ _ => rfl), h.left, h.map.kept (row := none) ⟨rfl, rfl, rfl, Nat.le_refl _, fun _ _ _ => rfl⟩ (by simp), h.le, h.below.drew, h.lo, h.apart, h.mlo⟩
theorem PlS.alloc (h : PlS L bm w W k B E T cnt) (o : Obj) : PlS L bm w (W.alloc o) k B E T cnt :=
  ⟨h.tape.below ((Below.refl _ _).alloc (Nat.le_refl _) o), h.left, h.map.kept (World.grownBy_alloc W o none) (by simp), h.le, h.below.alloc h.below.size o, h.lo, h.apart, h.mlo⟩
theorem PlS.mono (h : PlS L bm w W k B E T cnt) {m : Nat} (hm : k ≤ m) : PlS L bm w W m B E T cnt :=
  ⟨h.tape, h.left, h.map.mono hm, fun z => Nat.le_trans (h.le z) hm, h.below, h.lo, h.apart, h.mlo⟩

theorem PlS.head (h : PlS L bm w W k B E T cnt) (z : Int) : (lget T z).headD 0 = lat L z (cnt z) := by
  rw [h.left z, lat, List.headD_eq_head?_getD, List.head?_drop, List.getD_eq_getElem?_getD]
theorem PlS.length (h : PlS L bm w W k B E T cnt) (z : Int) : (lget T z).length = (lget L z).length - cnt z := by
  rw [h.left z, List.length_drop]
theorem PlS.mapNe (h : PlS L bm w W k B E T cnt) : bm ≠ B := by
  have := h.tape.lt
  rcases h.apart with h1 | h1 <;> omega

/-- Behind a draw, ahead of the count. -/
structure PlN (L : List (List Nat)) (bm : Nat) (w W : World) (k B E : Nat) (T : List (List Nat)) (cnt : Int → Nat) (z : Int) : Prop where
  tape : Tape W B E (adv T z)
  left : ∀ y, lget (adv T z) y = (lget L y).drop (bump cnt z y)
  map : Counts W bm k cnt
  le : ∀ y, cnt y ≤ k
  below : Below w.heap.size w W
  lo : w.heap.size ≤ B
  apart : E ≤ bm ∨ bm < B
  mlo : w.heap.size ≤ bm
theorem PlS.drawn {W' : World} {z : Int} (h : PlS L bm w W k B E T cnt) (hT : Tape W' B E (adv T z)) (hg : W.grownBy W' (some B)) : PlN L bm w W' k B E T cnt z := by
  refine ⟨hT, fun y => ?_, h.map.kept hg (fun e => h.mapNe (Option.some.inj e)), h.le, h.below.grown hg h.below.size (fun j hj => by cases hj; exact h.lo), h.lo, h.apart, h.mlo⟩
  rw [lget_adv, bump]
  split
  · rename_i e; subst e; rw [h.left y, List.tail_drop]
  · exact h.left y
theorem PlN.counted {W' : World} {z : Int} (h : PlN L bm w W k B E T cnt z) (hm : Counts W' bm (k + 1) (bump cnt z)) (hg : W.grownBy W' (some bm)) : PlS L bm w W' (k + 1) B E (adv T z) (bump cnt z) := by
  have ht := h.tape.lt
  refine ⟨h.tape.same hg.size (fun j j1 j2 => hg.block j (by omega) (fun e => ?_)), h.left, hm, fun y => ?_, h.below.grown hg h.below.size (fun j hj => by cases hj; exact h.mlo), h.lo, h.apart, h.mlo⟩
  · have e' : j = bm := Option.some.inj e
    rcases h.apart with h1 | h1 <;> omega
  · unfold bump
    have := h.le y
    have := h.le z
    split <;> omega
theorem PlS.copied {W1 W2 W3 : World} {C F D G : Nat} {T' : List (List Nat)} (h : PlS L bm w W k B E T cnt) (b1 : Below W.heap.size W W1) (hC : W.heap.size ≤ C) (g2 : W1.grownBy W2 (some C)) (hW : W1.heap.size ≤ W2.heap.size) (b3 : Below W2.heap.size W2 W3)
    (hD : W2.heap.size ≤ D) (hT : Tape W3 D G T) (_hF : Tape W1 C F T') : PlS L bm w W3 k D G T cnt ∧ Tape W2 B E T := by
  have hm := h.map.lt
  have hs1 := b1.size
  have hT1 := h.tape.below b1
  have hT2 : Tape W2 B E T := hT1.kept g2 (Or.inr (by have := h.tape.lt; omega))
  have m1 : Counts W1 bm k cnt := h.map.kept (row := none) ⟨b1.os, b1.tape, b1.output, b1.size, fun j hj _ => b1.block j hj⟩ (by simp)
  have m2 : Counts W2 bm k cnt := m1.kept g2 (fun e => by have e' : bm = C := Option.some.inj e; omega)
  have m3 : Counts W3 bm k cnt := m2.kept (row := none) ⟨b3.os, b3.tape, b3.output, b3.size, fun j hj _ => b3.block j hj⟩ (by simp)
  have hb := h.below
  have hbs := hb.size
  refine ⟨⟨hT, h.left, m3, h.le, ((hb.trans (b1.mono hbs)).grown g2 (by omega) (fun j hj => by cases hj; omega)).trans (b3.mono (by omega)), by omega, Or.inr (by omega), h.mlo⟩, hT2⟩

/-- The block of the call at hand. -/
def AB (W : World) (ab : Nat) (a z : Int) (f : Nat) : Prop := W.heap[ab]? = some (.cells #[.int .i64 a, .int .i64 z, .int .u64 (f : Int)] 32 (0, 0))
theorem AB.c0 {W : World} {ab : Nat} {a z : Int} {f : Nat} (h : AB W ab a z f) : W.cell? ⟨ab, 0, none⟩ = some (.int .i64 a) := cell_of_row W _ 0 _ _ _ h
theorem AB.c1 {W : World} {ab : Nat} {a z : Int} {f : Nat} (h : AB W ab a z f) : W.cell? ⟨ab, 1, none⟩ = some (.int .i64 z) := cell_of_row W _ 1 _ _ _ h
theorem AB.c2 {W : World} {ab : Nat} {a z : Int} {f : Nat} (h : AB W ab a z f) : W.cell? ⟨ab, 2, none⟩ = some (.int .u64 (f : Int)) := cell_of_row W _ 2 _ _ _ h
theorem AB.lt {W : World} {ab : Nat} {a z : Int} {f : Nat} (h : AB W ab a z f) : ab < W.heap.size := (Array.getElem?_eq_some_iff.1 h).1
theorem AB.kept {W W' : World} {ab : Nat} {a z : Int} {f : Nat} {row : Option Nat} (h : AB W ab a z f) (hg : W.grownBy W' row) (hne : some ab ≠ row) : AB W' ab a z f := (hg.block ab h.lt hne).trans h
theorem AB.below {W W' : World} {ab : Nat} {a z : Int} {f : Nat} (h : AB W ab a z f) (hb : Below W.heap.size W W') : AB W' ab a z f := (hb.block ab h.lt).trans h

theorem AB.drewn {W : World} {ab : Nat} {a z : Int} {f : Nat} (h : AB W ab a z f) : AB W.drew ab a z f := h
theorem leftQ {W : World} (h : PlS L bm w W k B E T cnt) (z : Int) (n : Nat) :
    Calls Try.prog 16 #[.pointer (some ⟨B + 1, 0, none⟩), .int .i64 z] (W.drewN n) fun e w' => e = .returned (.int .i64 (((lget L z).length - cnt z : Nat) : Int)) ∧ w' = W.drewN n :=
  (left_at z _ (h.drewN n).tape rfl).mono fun e w' ⟨h1, h2⟩ => ⟨by rw [h1, h.length z], h2.symm⟩
theorem refLeftQ {W : World} {v : Value} {hi : Nat} (h : Lanes W hi v L) (z : Int) (c : Nat) (hc : c ≤ 1000000) (n : Nat) :
    Calls Try.prog 17 #[v, .int .i64 z, .int .i64 (c : Int)] (W.drewN n) fun e w' => e = .returned (.int .i64 (((lget L z).length - c : Nat) : Int)) ∧ w' = W.drewN n :=
  (refLeft_any (W.drewN n) hi v L z c (h.same (w' := W.drewN n) fun _ _ => rfl) hc).mono fun _ _ ⟨h1, h2⟩ => ⟨h1, h2.symm⟩

/-- All that the end of a round asks. -/
structure PlE (L : List (List Nat)) (v : Value) (bm : Nat) (w W : World) (k B E : Nat) (T : List (List Nat)) (cnt : Int → Nat) (ab : Nat) (a z : Int) (f : Nat) : Prop where
  st : PlS L bm w W k B E T cnt
  ab : AB W ab a z f
  lanes : Lanes W w.heap.size v L
theorem PlE.of {v : Value} {ab : Nat} {a z : Int} {f : Nat} (h : PlS L bm w W k B E T cnt) (ha : AB W ab a z f) (hl : Lanes w w.heap.size v L) : PlE L v bm w W k B E T cnt ab a z f := ⟨h, ha, hl.same fun j hj => h.below.block j hj⟩
theorem PlE.look {v : Value} {ab : Nat} {a z : Int} {f : Nat} (h : PlE L v bm w W k B E T cnt ab a z f) (hz : -9223372036854775808 ≤ z ∧ z ≤ 9223372036854775807) (n : Nat) :
    (Instr.lookup 29 (.map (some bm)) (.int .i64 z) false).run Try.prog (W.drewN n) = .ok (.int .i64 (cnt z : Int)) (W.drewN n) := (h.st.drewN n).map.look hz
end Go.Proofs.Ytaiejdopmlajmaa
