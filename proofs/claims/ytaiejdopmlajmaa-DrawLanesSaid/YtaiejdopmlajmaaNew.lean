/- The contract of draw.New at this program: a tape of its own blocks that reads as the lanes read; what was there is as it was. -/
import Derived.Test.YtaiejdopmlajmaaTape
import Derived.RegionTactic
import Derived.BigRegion
namespace Go.Proofs.Ytaiejdopmlajmaa
open Go.RowKit

def NewRel (L : List (List Nat)) (w : World) (i : Value) (W : World) : Prop := ∃ (k : Nat) (vs : List Value), i = .int .i64 (k : Int) ∧ k ≤ L.length ∧ vs.length = L.length ∧ W.heap[w.heap.size]? = some (.cells vs.toArray 25 (0, 0)) ∧
    W.heap[w.heap.size + 1]? = some (.cells #[.slice (some ⟨w.heap.size, 0, none⟩) L.length L.length] 50 (0, 0)) ∧ (∀ i, i < k → Lane W (w.heap.size + 2) W.heap.size (vs.getD i undef) (L.getD i [])) ∧ Below w.heap.size w W ∧ w.heap.size + 2 ≤ W.heap.size

def NewPost (L : List (List Nat)) (w : World) (e : Ending) (w' : World) : Prop := e = .returned (.pointer (some ⟨w.heap.size + 1, 0, none⟩)) ∧ Tape w' w.heap.size w'.heap.size L ∧ Below w.heap.size w w'

theorem new_start (L : List (List Nat)) (w : World) (hn : L.length ≤ 1000) : NewRel L w (.int .i64 0) ((w.alloc (.cells (zerosS L.length) 25)).alloc (.cells #[.slice (some ⟨w.heap.size, 0, none⟩) L.length L.length] 50)) := by
  refine ⟨0, List.replicate L.length (.slice none 0 0), rfl, by omega, by simp, ?_, ?_, fun i hi => by omega, ((Below.refl _ _).alloc (Nat.le_refl _) _).alloc (by simp) _, by simp⟩
  · rw [Below.heap_alloc _ _ _ (by simp), heap_alloc_new]; rfl
  · have := heap_alloc_new (w.alloc (.cells (zerosS L.length) 25)) (.cells #[.slice (some ⟨w.heap.size, 0, none⟩) L.length L.length] 50)
    rw [show (w.alloc (.cells (zerosS L.length) 25)).heap.size = w.heap.size + 1 by simp] at this
    exact this

/-- What the store of a new lane leaves. -/
structure NewMid (w wr w2 : World) (vs : List Value) (n k m : Nat) : Prop where
  row : w2.heap[w.heap.size]? = some (.cells (vs.set k (.slice (some ⟨wr.heap.size, 0, none⟩) m m)).toArray 25 (0, 0))
  own : w2.heap[w.heap.size + 1]? = some (.cells #[.slice (some ⟨w.heap.size, 0, none⟩) n n] 50 (0, 0))
  lane : w2.heap[wr.heap.size]? = some (.cells (List.replicate m (Value.int .u64 0)).toArray 28 (0, 0))
  size : w2.heap.size = wr.heap.size + 1
  old : ∀ j, j < wr.heap.size → j ≠ w.heap.size → w2.heap[j]? = wr.heap[j]?
  below : Below w.heap.size w w2

theorem new_mid {w wr : World} {vs : List Value} {n k m : Nat} (hB : wr.heap[w.heap.size]? = some (.cells vs.toArray 25 (0, 0)))
    (hB1 : wr.heap[w.heap.size + 1]? = some (.cells #[.slice (some ⟨w.heap.size, 0, none⟩) n n] 50 (0, 0))) (hsz : w.heap.size + 2 ≤ wr.heap.size) (hbel : Below w.heap.size w wr) :
    NewMid w wr ((wr.setCell ⟨w.heap.size, k, none⟩ (.slice (some ⟨wr.heap.size, 0, none⟩) m m)).alloc (.cells (zerosU m) 28)).drew vs n k m := by
  have hs : (wr.setCell ⟨w.heap.size, k, none⟩ (.slice (some ⟨wr.heap.size, 0, none⟩) m m)).heap.size = wr.heap.size := by simp [World.setCell]
  have hold : ∀ j, j < wr.heap.size → j ≠ w.heap.size → ((wr.setCell ⟨w.heap.size, k, none⟩ (.slice (some ⟨wr.heap.size, 0, none⟩) m m)).alloc (.cells (zerosU m) 28)).heap[j]? = wr.heap[j]? := by
    intro j hj hne
    rw [Below.heap_alloc _ _ _ (by rw [hs]; exact hj), heap_setCell_other _ _ _ _ hne]
  refine ⟨?_, (hold _ (by omega) (by omega)).trans hB1, ?_, by show (World.alloc _ _).heap.size = _; simp [World.setCell], hold, ?_⟩
  · show (World.alloc _ _).heap[_]? = _
    rw [Below.heap_alloc _ _ _ (by rw [hs]; omega), heap_setCell_same _ _ _ _ _ _ hB]
    simp
  · have := heap_alloc_new (wr.setCell ⟨w.heap.size, k, none⟩ (.slice (some ⟨wr.heap.size, 0, none⟩) m m)) (.cells (zerosU m) 28)
    rw [hs] at this
    exact this
  · exact ((hbel.setCell (by simp) _).alloc (by rw [hs]; omega) _).drew

theorem infoU1 : (Try.prog.info? 28).map (·.size) = some 1 := by kernel_rfl
theorem lane_src {w : World} {lo hi : Nat} {A : Option Addr} {c : Nat} {xs : List Nat} (h : Lane w lo hi (.slice A xs.length c) xs) (h0 : 0 < xs.length) :
    ∃ ad, A = some ad ∧ ∀ j v, (xs.map fun x : Nat => Value.int .u64 (x : Int))[j]? = some v → w.cell? (ad.add j) = some v := by
  rcases h.2.2 with ⟨h1, _⟩ | ⟨g, o, c', e, _, _, _, _, h5⟩
  · rw [h1] at h0; simp at h0
  · obtain rfl : A = some ⟨g, o, none⟩ := by injection e
    refine ⟨_, rfl, fun j v hj => ?_⟩
    by_cases hl : j < xs.length
    · rw [show Addr.add ⟨g, o, none⟩ j = ⟨g, o + j, none⟩ by simp [Addr.add], h5 j hl]
      simp [hl] at hj
      rw [← hj, List.getD_eq_getElem?_getD, List.getElem?_eq_getElem hl]; rfl
    · simp [List.getElem?_eq_none (show xs.length ≤ j by omega)] at hj

theorem copy_run (w : World) (g : Nat) (A : Option Addr) (c : Nat) (xs : List Nat) (hg : w.heap[g]? = some (.cells (List.replicate xs.length (Value.int .u64 0)).toArray 28 (0, 0)))
    (hsrc : 0 < xs.length → ∃ ad, A = some ad ∧ ∀ j v, (xs.map fun x : Nat => Value.int .u64 (x : Int))[j]? = some v → w.cell? (ad.add j) = some v) :
    ∃ w', (Builtin.copy_ #[25, 25] 3 #[.slice (some ⟨g, 0, none⟩) xs.length xs.length, .slice A xs.length c]).run Try.prog w = .ok (.int .i64 (xs.length : Int)) w' ∧
      w'.heap[g]? = some (.cells (splice (List.replicate xs.length (Value.int .u64 0)) 0 (xs.map fun x : Nat => Value.int .u64 (x : Int))).toArray 28 (0, 0)) ∧ Below g w w' := by
  by_cases h0 : xs.length = 0
  · obtain rfl : xs = [] := List.eq_nil_of_length_eq_zero h0
    exact ⟨w, run_copy_none (P := Try.prog) w 25 25 3 28 _ _ _ _ _ _ Try.underlying25 infoU1 (by simp), by simpa [splice] using hg, Below.refl _ _⟩
  · obtain ⟨ad, rfl, hs⟩ := hsrc (by omega)
    have hrun := run_copy_row (P := Try.prog) w 25 25 3 28 g 0 xs.length xs.length ad xs.length c _ 28 (xs.map fun x : Nat => Value.int .u64 (x : Int)) Try.underlying25 infoU1 hg (by simp) hs (by simp) (by simp [Value.oneCell'])
    rw [List.length_map] at hrun
    refine ⟨_, hrun, ?_, below_setRow (Below.refl _ _) (Nat.le_refl _) _⟩
    exact (by simpa [splice] using setRow_heap w g _ _ 28 _ hg)

theorem splice_whole {α : Type} (cur cs : List α) (h : cs.length = cur.length) : splice cur 0 cs = cs := by simp [splice, h]

/-- What the copy of a lane's numbers leaves: the relation at the next lane. -/
theorem new_next {L : List (List Nat)} {w wr w2 w3 : World} {vs : List Value} {k : Nat} {xs : List Nat} (hk : k < L.length) (hvs : vs.length = L.length) (hx : xs = L.getD k []) (hl : xs.length ≤ 1000) (hb : ∀ x ∈ xs, x ≤ 18446744073709551615)
    (hlanes : ∀ i, i < k → Lane wr (w.heap.size + 2) wr.heap.size (vs.getD i undef) (L.getD i [])) (hsz : w.heap.size + 2 ≤ wr.heap.size) (M : NewMid w wr w2 vs L.length k xs.length)
    (hrow : w3.heap[wr.heap.size]? = some (.cells (splice (List.replicate xs.length (Value.int .u64 0)) 0 (xs.map fun x : Nat => Value.int .u64 (x : Int))).toArray 28 (0, 0))) (hB3 : Below wr.heap.size w2 w3) :
    NewRel L w (.int .i64 ((k + 1 : Nat) : Int)) w3 := by
  have hs3 := hB3.size
  rw [M.size] at hs3
  have hold : ∀ j, j < wr.heap.size → w3.heap[j]? = w2.heap[j]? := hB3.block
  refine ⟨k + 1, vs.set k (.slice (some ⟨wr.heap.size, 0, none⟩) xs.length xs.length), rfl, by omega, by rw [List.length_set]; exact hvs, (hold _ (by omega)).trans M.row, (hold _ (by omega)).trans M.own, ?_, M.below.trans (hB3.mono (by omega)), by omega⟩
  intro i hi
  by_cases e : i = k
  · subst e
    rw [List.getD_eq_getElem?_getD, List.getElem?_set_self (by omega), ← hx]
    refine ⟨hl, hb, Or.inr ⟨wr.heap.size, 0, xs.length, rfl, hsz, by omega, Nat.le_refl _, by unfold maxLen; omega, fun j hj => ?_⟩⟩
    rw [Nat.zero_add, cell_of_row w3 _ j _ _ _ hrow, splice_whole _ _ (by simp)]
    simp [hj, List.getD_eq_getElem?_getD]
  · rw [List.getD_eq_getElem?_getD, List.getElem?_set_ne (by omega), ← List.getD_eq_getElem?_getD]
    exact ((hlanes i (by omega)).same (w' := w3) fun j j1 j2 => (hold j j2).trans (M.old j j2 (by omega))).wide (Nat.le_refl _) (by omega)

set_option maxHeartbeats 2000000 in
theorem new_any (v : Value) (L : List (List Nat)) (w : World) (hL : Lanes w w.heap.size v L) :
    Calls Try.prog 10 #[v] w (NewPost L w) := by
  obtain ⟨A, c, rfl⟩ := hL.shape
  have hn := hL.1
  have hm1 := mkS w L.length hn
  have HL := Lib.hid hL; clear hL
  go_enter Try.func10, Try.ntmps10
  go_wp2_with fail
  clear hm1
  go_loopw [13] (fun i W => NewRel L w i W) (fun i _ => L.length - (intOf i).toNat)
  case atStart => exact new_start L w hn
  case round =>
    obtain ⟨k, vs, rfl, hk, hvs, hB, hB1, hlanes, hbel, hsz⟩ := hrel
    have HLn := Lib.hid hlanes; clear hlanes
    have HVS := Lib.hid hvs; clear hvs
    have HB := Lib.hid hB; clear hB
    have HB1 := Lib.hid hB1; clear hB1
    by_cases hlt : k < L.length
    · have e0 : decide (k < L.length) = true := by simpa using hlt
      rcases HL.out.2 with ⟨h, _⟩ | ⟨g, o, c', e, hg, hc, hmx, hcell⟩
      · rw [h] at hlt; simp at hlt
      obtain ⟨rfl, rfl⟩ : A = some ⟨g, o, none⟩ ∧ c = c' := by injection e with e1 _ e2; exact ⟨e1, e2⟩
      clear e
      unfold maxLen at hmx
      obtain ⟨u, hu, hlane⟩ := hcell k hlt
      clear hcell
      obtain ⟨A2, c2, rfl⟩ := hlane.shape
      obtain ⟨xs, hxs⟩ : ∃ xs, xs = L.getD k [] := ⟨_, rfl⟩
      rw [← hxs] at hlane hu
      have HXS := Lib.hid hxs; clear hxs
      have hm := hlane.1
      have HLane := Lib.hid hlane; clear hlane
      have hc1 : wr.cell? ⟨g, o + k, none⟩ = some (.slice A2 xs.length c2) := (hbel.cell (p := ⟨g, o + k, none⟩) hg).trans hu
      clear hu
      have hc2 : wr.cell? ⟨w.heap.size + 1, 0, none⟩ = some (.slice (some ⟨w.heap.size, 0, none⟩) L.length L.length) := cell_of_row wr _ 0 _ _ _ HB1.out
      have hc3 : wr.cell? ⟨w.heap.size, k, none⟩ = some (vs.getD k undef) := by
        rw [cell_of_row wr _ k _ _ _ HB.out, List.getElem?_toArray, List.getD_eq_getElem?_getD, List.getElem?_eq_getElem (by rw [HVS.out]; exact hlt)]; rfl
      have hf : wr.frozen? ⟨w.heap.size, k, none⟩ = false := frozen_of_row wr _ k _ _ HB.out
      have hmk := fun W => mkU W xs.length hm
      have hz : w.heap.size + 1 < wr.heap.size := by omega
      have hz0 : w.heap.size < wr.heap.size := by omega
      go_wp2_with fail
      go_region
      have M := Lib.hid (new_mid (k := k) (m := xs.length) HB.out HB1.out hsz hbel)
      clear hc1 hc2 hc3 hf hmk
      generalize ((wr.setCell ⟨w.heap.size, k, none⟩ (.slice (some ⟨wr.heap.size, 0, none⟩) xs.length xs.length)).alloc (.cells (zerosU xs.length) 28)).drew = w2 at M ⊢
      have hc2 : w2.cell? ⟨w.heap.size + 1, 0, none⟩ = some (.slice (some ⟨w.heap.size, 0, none⟩) L.length L.length) := cell_of_row w2 _ 0 _ _ _ M.out.own
      have hc3 : w2.cell? ⟨w.heap.size, k, none⟩ = some (.slice (some ⟨wr.heap.size, 0, none⟩) xs.length xs.length) := by
        rw [cell_of_row w2 _ k _ _ _ M.out.row, List.getElem?_toArray, List.getElem?_set_self (by rw [HVS.out]; exact hlt)]
      have SRC := Lib.hid (lane_src (HLane.out.same fun j _ hj => M.out.below.block j hj))
      obtain ⟨w3, hcp, hrow3, hB3⟩ := copy_run w2 wr.heap.size A2 c2 xs M.out.lane SRC.out
      have R := Lib.hid (new_next hlt HVS.out HXS.out hm HLane.out.2.1 HLn.out hsz M.out hrow3 hB3)
      clear hrow3 hB3
      go_wp2_with fail
      go_roundw
      case rel => exact R.out
      case measure => simp [intOf]; omega
    · have e0 : decide (k < L.length) = false := by simpa using hlt
      go_wp2_with fail
      go_ret
      refine ⟨rfl, ⟨by omega, by omega, hn, vs, HVS.out, HB.out, HB1.out, fun i hi => HLn.out i (by omega)⟩, hbel⟩
end Go.Proofs.Ytaiejdopmlajmaa
