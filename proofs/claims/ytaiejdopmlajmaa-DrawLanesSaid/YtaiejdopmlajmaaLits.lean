/- Tapes of lanes that a law lays by itself; a tape's calls told by their plain answers. -/
import Derived.Test.YtaiejdopmlajmaaOps
namespace Go.Proofs.Ytaiejdopmlajmaa
open Go.RowKit

theorem Tape.kept {w w' : World} {B E : Nat} {L : List (List Nat)} {C : Nat} (h : Tape w B E L) (hg : w.grownBy w' (some C)) (hc : C < B ∨ E ≤ C) : Tape w' B E L :=
  h.same hg.size fun k k1 k2 => hg.block k (by have := h.2.1; omega) (by simp; omega)
theorem Tape.below {w w' : World} {B E : Nat} {L : List (List Nat)} (h : Tape w B E L) (hb : Below w.heap.size w w') : Tape w' B E L :=
  h.same hb.size fun k _ k2 => hb.block k (by have := h.2.1; omega)
theorem Tape.lt {w : World} {B E : Nat} {L : List (List Nat)} (h : Tape w B E L) : B + 2 ≤ E ∧ E ≤ w.heap.size := ⟨h.1, h.2.1⟩

/-- A new tape in memory of its own. -/
def NewE (L : List (List Nat)) (w : World) (e : Ending) (w' : World) : Prop := ∃ B, e = .returned (.pointer (some ⟨B + 1, 0, none⟩)) ∧ Tape w' B w'.heap.size L ∧ w.heap.size ≤ B ∧ Below w.heap.size w w'
theorem newE_of {L : List (List Nat)} {w : World} {e : Ending} {w' : World} (h : NewPost L w e w') : NewE L w e w' := ⟨w.heap.size, h.1, h.2.1, Nat.le_refl _, h.2.2⟩
theorem newE_any (v : Value) (L : List (List Nat)) (w : World) (hL : Lanes w w.heap.size v L) : Calls Try.prog 10 #[v] w (NewE L w) := (new_any v L w hL).mono fun _ _ h => newE_of h
theorem copyE_any (w : World) (B E : Nat) (L : List (List Nat)) (h : Tape w B E L) : Calls Try.prog 15 #[.pointer (some ⟨B + 1, 0, none⟩)] w (NewE L w) := (copy_any w B E L h).mono fun _ _ h => newE_of h

theorem one_lanes (W : World) (v : Value) (xs : List Nat) (h : Lane W 0 W.heap.size v xs) :
    Lanes (W.alloc (.cells #[v] 25)) (W.alloc (.cells #[v] 25)).heap.size (.slice (some ⟨W.heap.size, 0, none⟩) 1 1) [xs] := by
  refine ⟨by simp, Or.inr ⟨W.heap.size, 0, 1, rfl, by simp, by simp, by unfold maxLen; omega, fun i hi => ?_⟩⟩
  obtain rfl : i = 0 := by simpa using hi
  refine ⟨v, cell_of_row _ _ 0 _ _ _ (heap_alloc_new W _), ?_⟩
  exact (h.same fun k _ hk => Below.heap_alloc _ _ _ hk).wide (Nat.le_refl _) (by simp)
theorem one_lane (W : World) (a : Int) (ha : 0 ≤ a ∧ a ≤ 18446744073709551615) : Lane (W.alloc (.cells #[.int .u64 a] 28)) 0 (W.alloc (.cells #[.int .u64 a] 28)).heap.size (.slice (some ⟨W.heap.size, 0, none⟩) 1 1) [a.toNat] := by
  refine ⟨by simp, by simp; omega, Or.inr ⟨W.heap.size, 0, 1, rfl, Nat.zero_le _, by simp, by simp, by unfold maxLen; omega, fun j hj => ?_⟩⟩
  obtain rfl : j = 0 := by simpa using hj
  rw [cell_of_row _ _ (0 + 0) _ _ _ (heap_alloc_new W _)]
  simp; omega
theorem two_lane (W : World) (a b : Int) (ha : 0 ≤ a ∧ a ≤ 18446744073709551615) (hb : 0 ≤ b ∧ b ≤ 18446744073709551615) :
    Lane (W.alloc (.cells #[.int .u64 a, .int .u64 b] 28)) 0 (W.alloc (.cells #[.int .u64 a, .int .u64 b] 28)).heap.size (.slice (some ⟨W.heap.size, 0, none⟩) 2 2) [a.toNat, b.toNat] := by
  refine ⟨by simp, by simp; omega, Or.inr ⟨W.heap.size, 0, 2, rfl, Nat.zero_le _, by simp, by simp, by unfold maxLen; omega, fun j hj => ?_⟩⟩
  rw [cell_of_row _ _ (0 + j) _ _ _ (heap_alloc_new W _)]
  have hj' : j < 2 := by simpa using hj
  rcases j with _ | _ | j
  · simp; omega
  · simp; omega
  · omega
theorem new_two (w : World) (a b : Int) (ha : 0 ≤ a ∧ a ≤ 18446744073709551615) (hb : 0 ≤ b ∧ b ≤ 18446744073709551615) :
    Calls Try.prog 10 #[.slice (some ⟨w.heap.size + 1, 0, none⟩) 1 1] ((w.alloc (.cells #[.int .u64 a, .int .u64 b] 28)).alloc (.cells #[.slice (some ⟨w.heap.size, 0, none⟩) 2 2] 25)) (NewE [[a.toNat, b.toNat]] w) := by
  have h := newE_any _ _ _ (one_lanes _ _ _ (two_lane w a b ha hb))
  rw [show (w.alloc (.cells #[.int .u64 a, .int .u64 b] 28)).heap.size = w.heap.size + 1 by simp] at h
  refine h.mono fun e w' ⟨B, h1, h2, h3, h4⟩ => ⟨B, h1, h2, by simp at h3; omega, (((Below.refl _ _).alloc (Nat.le_refl _) _).alloc (by simp) _).trans (h4.mono (by simp; omega))⟩
theorem new_one (w : World) (a : Int) (ha : 0 ≤ a ∧ a ≤ 18446744073709551615) :
    Calls Try.prog 10 #[.slice (some ⟨w.heap.size + 1, 0, none⟩) 1 1] ((w.alloc (.cells #[.int .u64 a] 28)).alloc (.cells #[.slice (some ⟨w.heap.size, 0, none⟩) 1 1] 25)) (NewE [[a.toNat]] w) := by
  have h := newE_any _ _ _ (one_lanes _ _ _ (one_lane w a ha))
  rw [show (w.alloc (.cells #[.int .u64 a] 28)).heap.size = w.heap.size + 1 by simp] at h
  refine h.mono fun e w' ⟨B, h1, h2, h3, h4⟩ => ⟨B, h1, h2, by simp at h3; omega, (((Below.refl _ _).alloc (Nat.le_refl _) _).alloc (by simp) _).trans (h4.mono (by simp; omega))⟩

def NextAt (w : World) (B E : Nat) (n : Int) (L : List (List Nat)) (e : Ending) (w' : World) : Prop := e = .returned (.int .u64 n) ∧ Tape w' B E L ∧ w.grownBy w' (some B)
theorem next_at {w : World} {B E : Nat} {L : List (List Nat)} (lane : Int) (n : Int) (L' : List (List Nat)) (h : Tape w B E L) (hn : (((lget L lane).headD 0 : Nat) : Int) = n) (hL : adv L lane = L') :
    Calls Try.prog 12 #[.pointer (some ⟨B + 1, 0, none⟩), .int .i64 lane] w (NextAt w B E n L') := by
  subst hn; subst hL
  exact next_any w B E L lane h
def PickAt (w : World) (B E : Nat) (b : Bool) (L : List (List Nat)) (e : Ending) (w' : World) : Prop := e = .returned (.bool b) ∧ Tape w' B E L ∧ w.grownBy w' (some B)
theorem pick_at {w : World} {B E : Nat} {L : List (List Nat)} (lane : Int) (W : Int) (b : Bool) (L' : List (List Nat)) (h : Tape w B E L) (hW : 0 ≤ W) (hb : pickB ((lget L lane).headD 0) W.toNat = b) (hL : adv L lane = L') :
    Calls Try.prog 13 #[.pointer (some ⟨B + 1, 0, none⟩), .int .i64 lane, .int .u64 W] w (PickAt w B E b L') := by
  obtain ⟨n, rfl⟩ := Int.eq_ofNat_of_zero_le hW
  subst hb; subst hL
  exact pick_any w B E L lane n h
def LeftAt (w : World) (n : Int) (e : Ending) (w' : World) : Prop := e = .returned (.int .i64 n) ∧ w = w'
theorem left_at {w : World} {B E : Nat} {L : List (List Nat)} (lane : Int) (n : Int) (h : Tape w B E L) (hn : (((lget L lane).length : Nat) : Int) = n) :
    Calls Try.prog 16 #[.pointer (some ⟨B + 1, 0, none⟩), .int .i64 lane] w (LeftAt w n) := by
  subst hn
  exact left_any w B E L lane h
end Go.Proofs.Ytaiejdopmlajmaa
