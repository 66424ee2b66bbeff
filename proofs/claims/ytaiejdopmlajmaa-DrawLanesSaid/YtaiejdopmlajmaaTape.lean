/- Slices of numbers that read as a list; a tape in memory: its row of lanes, its own block, the lanes' blocks, from one block number up to another. -/
import Derived.Test.YtaiejdopmlajmaaHash
import Derived.Below
import Derived.Laws.OwnMore
import Derived.Laws.CopyOwn
import Derived.OwnWalk
namespace Go.Proofs.Ytaiejdopmlajmaa
open Go.RowKit

theorem infoU : (Try.prog.info? 28).map (fun i => (i.zero, i.size, i.bytes)) = some (some (.int .u64 0), 1, 8) := by kernel_rfl
theorem infoS : (Try.prog.info? 25).map (fun i => (i.zero, i.size, i.bytes)) = some (some (.slice none 0 0), 1, 24) := by kernel_rfl

/-- A slice of numbers that reads as a list; its block lies from lo up to hi. -/
def Lane (w : World) (lo hi : Nat) (v : Value) (xs : List Nat) : Prop :=
  xs.length ≤ 1000 ∧ (∀ x ∈ xs, x ≤ 18446744073709551615) ∧
  ((xs = [] ∧ ∃ A c, v = .slice A 0 c) ∨
   ∃ g o c, v = .slice (some ⟨g, o, none⟩) xs.length c ∧ lo ≤ g ∧ g < hi ∧ xs.length ≤ c ∧ c ≤ maxLen ∧ ∀ j, j < xs.length → w.cell? ⟨g, o + j, none⟩ = some (.int .u64 ((xs.getD j 0 : Nat) : Int)))
theorem Lane.shape {w : World} {lo hi : Nat} {v : Value} {xs : List Nat} (h : Lane w lo hi v xs) : ∃ A c, v = .slice A xs.length c := by
  rcases h.2.2 with ⟨rfl, A, c, e⟩ | ⟨g, o, c, e, _⟩
  · exact ⟨A, c, e⟩
  · exact ⟨_, c, e⟩
theorem Lane.same {w w' : World} {lo hi : Nat} {v : Value} {xs : List Nat} (h : Lane w lo hi v xs) (hb : ∀ k, lo ≤ k → k < hi → w'.heap[k]? = w.heap[k]?) : Lane w' lo hi v xs := by
  refine ⟨h.1, h.2.1, ?_⟩
  rcases h.2.2 with h1 | ⟨g, o, c, e, h1, h2, h3, h4, h5⟩
  · exact Or.inl h1
  · exact Or.inr ⟨g, o, c, e, h1, h2, h3, h4, fun j hj => (World.cell?_of_block (a := ⟨g, o + j, none⟩) (hb g h1 h2)).trans (h5 j hj)⟩
theorem Lane.wide {w : World} {lo hi lo' hi' : Nat} {v : Value} {xs : List Nat} (h : Lane w lo hi v xs) (h1 : lo' ≤ lo) (h2 : hi ≤ hi') : Lane w lo' hi' v xs := by
  refine ⟨h.1, h.2.1, ?_⟩
  rcases h.2.2 with h3 | ⟨g, o, c, e, h3, h4, h5⟩
  · exact Or.inl h3
  · exact Or.inr ⟨g, o, c, e, by omega, by omega, h5⟩
theorem Lane.nil (w : World) (lo hi : Nat) (A : Option Addr) (c : Nat) : Lane w lo hi (.slice A 0 c) [] := ⟨by simp, by simp, Or.inl ⟨rfl, A, c, rfl⟩⟩

/-- A slice of such slices. -/
def Lanes (w : World) (hi : Nat) (v : Value) (L : List (List Nat)) : Prop :=
  L.length ≤ 1000 ∧ ((L = [] ∧ ∃ A c, v = .slice A 0 c) ∨
   ∃ g o c, v = .slice (some ⟨g, o, none⟩) L.length c ∧ g < hi ∧ L.length ≤ c ∧ c ≤ maxLen ∧ ∀ i, i < L.length → ∃ u, w.cell? ⟨g, o + i, none⟩ = some u ∧ Lane w 0 hi u (L.getD i []))
theorem Lanes.shape {w : World} {hi : Nat} {v : Value} {L : List (List Nat)} (h : Lanes w hi v L) : ∃ A c, v = .slice A L.length c := by
  rcases h.2 with ⟨rfl, A, c, e⟩ | ⟨g, o, c, e, _⟩
  · exact ⟨A, c, e⟩
  · exact ⟨_, c, e⟩
theorem Lanes.same {w w' : World} {hi : Nat} {v : Value} {L : List (List Nat)} (h : Lanes w hi v L) (hb : ∀ k, k < hi → w'.heap[k]? = w.heap[k]?) : Lanes w' hi v L := by
  refine ⟨h.1, ?_⟩
  rcases h.2 with h1 | ⟨g, o, c, e, h1, h2, h3, h4⟩
  · exact Or.inl h1
  · refine Or.inr ⟨g, o, c, e, h1, h2, h3, fun i hi' => ?_⟩
    obtain ⟨u, k1, k2⟩ := h4 i hi'
    exact ⟨u, (World.cell?_of_block (a := ⟨g, o + i, none⟩) (hb g h1)).trans k1, k2.same fun k _ hk => hb k hk⟩
theorem Lanes.wide {w : World} {hi hi' : Nat} {v : Value} {L : List (List Nat)} (h : Lanes w hi v L) (h2 : hi ≤ hi') : Lanes w hi' v L := by
  refine ⟨h.1, ?_⟩
  rcases h.2 with h3 | ⟨g, o, c, e, h3, h4, h5, h6⟩
  · exact Or.inl h3
  · refine Or.inr ⟨g, o, c, e, by omega, h4, h5, fun i hi' => ?_⟩
    obtain ⟨u, k1, k2⟩ := h6 i hi'
    exact ⟨u, k1, k2.wide (Nat.le_refl _) h2⟩

/-- A tape: block B its row of lanes, block B + 1 itself, the lanes' blocks behind, all below E. -/
def Tape (w : World) (B E : Nat) (L : List (List Nat)) : Prop :=
  B + 2 ≤ E ∧ E ≤ w.heap.size ∧ L.length ≤ 1000 ∧ ∃ vs : List Value, vs.length = L.length ∧ w.heap[B]? = some (.cells vs.toArray 25 (0, 0)) ∧
    w.heap[B + 1]? = some (.cells #[.slice (some ⟨B, 0, none⟩) L.length L.length] 50 (0, 0)) ∧ ∀ i, i < L.length → Lane w (B + 2) E (vs.getD i undef) (L.getD i [])
theorem Tape.same {w w' : World} {B E : Nat} {L : List (List Nat)} (h : Tape w B E L) (hs : w.heap.size ≤ w'.heap.size) (hb : ∀ k, B ≤ k → k < E → w'.heap[k]? = w.heap[k]?) : Tape w' B E L := by
  obtain ⟨h1, h2, h3, vs, h4, h5, h6, h7⟩ := h
  exact ⟨h1, by omega, h3, vs, h4, (hb B (by omega) (by omega)).trans h5, (hb (B + 1) (by omega) (by omega)).trans h6, fun i hi => (h7 i hi).same fun k k1 k2 => hb k (by omega) k2⟩

/-- Of a lane's number: what is left there (nothing where there is none). -/
def lget (L : List (List Nat)) (lane : Int) : List Nat := if 0 ≤ lane then L.getD lane.toNat [] else []
/-- The tape behind one draw. -/
def adv (L : List (List Nat)) (lane : Int) : List (List Nat) := if 0 ≤ lane then L.set lane.toNat (lget L lane).tail else L
theorem adv_length (L : List (List Nat)) (lane : Int) : (adv L lane).length = L.length := by unfold adv; split <;> simp
theorem lget_out {L : List (List Nat)} {lane : Int} (h : lane < 0 ∨ (L.length : Int) ≤ lane) : lget L lane = [] := by
  unfold lget
  split
  · rw [List.getD_eq_getElem?_getD, List.getElem?_eq_none (by omega)]; rfl
  · rfl
theorem lget_nat (L : List (List Nat)) (i : Nat) : lget L (i : Int) = L.getD i [] := by unfold lget; rw [if_pos (by omega)]; rfl
theorem lget_adv (L : List (List Nat)) (lane k : Int) : lget (adv L lane) k = if k = lane then (lget L lane).tail else lget L k := by
  by_cases h0 : 0 ≤ lane
  · obtain ⟨i, rfl⟩ := Int.eq_ofNat_of_zero_le h0
    rw [adv, if_pos h0, Int.toNat_natCast]
    by_cases hk : 0 ≤ k
    · obtain ⟨j, rfl⟩ := Int.eq_ofNat_of_zero_le hk
      rw [lget_nat, lget_nat, lget_nat]
      by_cases e : j = i
      · subst e
        rw [if_pos rfl]
        by_cases hj : j < L.length
        · rw [List.getD_eq_getElem?_getD, List.getElem?_set_self hj]; rfl
        · rw [List.getD_eq_getElem?_getD, List.getD_eq_getElem?_getD, List.getElem?_eq_none (by simp; omega), List.getElem?_eq_none (by omega)]; rfl
      · rw [if_neg (by omega), List.getD_eq_getElem?_getD, List.getElem?_set_ne (by omega), ← List.getD_eq_getElem?_getD]
    · rw [if_neg (by omega), lget_out (Or.inl (by omega)), lget_out (Or.inl (by omega))]
  · rw [adv, if_neg h0]
    split
    · rename_i e; subst e; rw [lget_out (Or.inl (by omega))]; rfl
    · rfl

def zerosU (m : Nat) : Array Value := (List.replicate m (Value.int .u64 0)).toArray
def zerosS (m : Nat) : Array Value := (List.replicate m (Value.slice none 0 0)).toArray
theorem mkU (W : World) (m : Nat) (hm : m ≤ 1000) : (Instr.makeSlice 25 (.int .i64 (m : Int)) (.int .i64 (m : Int))).run Try.prog W = .ok (.slice (some ⟨W.heap.size, 0, none⟩) m m) (W.alloc (.cells (zerosU m) 28)) := by
  obtain ⟨i0, hi, hz0, hz1, hz2⟩ := info_parts infoU
  have h := run_make (P := Try.prog) W 25 28 i0 (.int .u64 0) Try.underlying25 hi hz0 .i64 .i64 m m (by omega) (by omega) (by rw [hz2]; omega) (by omega)
  rw [h, hz1, Int.toNat_natCast, Nat.mul_one]
  have e : madeCells (Value.int IntKind.u64 0).cells m = zerosU m := by
    apply Array.toList_inj.1
    rw [show (Value.int IntKind.u64 0).cells = #[Value.int IntKind.u64 0] from rfl, toList_madeCells_one]; rfl
  rw [e]
theorem mkS (W : World) (m : Nat) (hm : m ≤ 1000) : (Instr.makeSlice 22 (.int .i64 (m : Int)) (.int .i64 (m : Int))).run Try.prog W = .ok (.slice (some ⟨W.heap.size, 0, none⟩) m m) (W.alloc (.cells (zerosS m) 25)) := by
  obtain ⟨i0, hi, hz0, hz1, hz2⟩ := info_parts infoS
  have h := run_make (P := Try.prog) W 22 25 i0 (.slice none 0 0) Try.underlying22 hi hz0 .i64 .i64 m m (by omega) (by omega) (by rw [hz2]; omega) (by omega)
  rw [h, hz1, Int.toNat_natCast, Nat.mul_one]
  have e : madeCells (Value.slice none 0 0).cells m = zerosS m := by
    apply Array.toList_inj.1
    rw [show (Value.slice none 0 0).cells = #[Value.slice none 0 0] from rfl, toList_madeCells_one]; rfl
  rw [e]
end Go.Proofs.Ytaiejdopmlajmaa
