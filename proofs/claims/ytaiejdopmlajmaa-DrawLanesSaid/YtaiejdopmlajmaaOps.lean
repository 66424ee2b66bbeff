/- The contracts of a tape's rest, Next, Left, Pick and Copy, and of the reference's Pick, at this program. -/
import Derived.Test.YtaiejdopmlajmaaNew
namespace Go.Proofs.Ytaiejdopmlajmaa
open Go.RowKit

theorem Tape.cells {w : World} {B E : Nat} {L : List (List Nat)} (h : Tape w B E L) : w.cell? ⟨B + 1, 0, none⟩ = some (.slice (some ⟨B, 0, none⟩) L.length L.length) := by
  obtain ⟨_, _, _, vs, _, _, h6, _⟩ := h
  exact cell_of_row w _ 0 _ _ _ h6
theorem Tape.lane {w : World} {B E : Nat} {L : List (List Nat)} (h : Tape w B E L) (i : Nat) (hi : i < L.length) : ∃ v, w.cell? ⟨B, i, none⟩ = some v ∧ Lane w (B + 2) E v (L.getD i []) := by
  obtain ⟨_, _, _, vs, h4, h5, _, h7⟩ := h
  refine ⟨vs.getD i undef, ?_, h7 i hi⟩
  rw [cell_of_row w _ i _ _ _ h5, List.getElem?_toArray, List.getD_eq_getElem?_getD, List.getElem?_eq_getElem (by omega)]; rfl
theorem Tape.free {w : World} {B E : Nat} {L : List (List Nat)} (h : Tape w B E L) (i : Nat) : w.frozen? ⟨B, i, none⟩ = false := by
  obtain ⟨_, _, _, vs, _, h5, _⟩ := h
  exact frozen_of_row w _ i _ _ h5
theorem Tape.lanes {w : World} {B E : Nat} {L : List (List Nat)} (h : Tape w B E L) : Lanes w w.heap.size (.slice (some ⟨B, 0, none⟩) L.length L.length) L := by
  have h1 := h.1
  have h2 := h.2.1
  have h3 := h.2.2.1
  refine ⟨h3, Or.inr ⟨B, 0, L.length, rfl, by omega, Nat.le_refl _, by unfold maxLen; omega, fun i hi => ?_⟩⟩
  obtain ⟨v, k1, k2⟩ := h.lane i hi
  exact ⟨v, by rw [Nat.zero_add]; exact k1, k2.wide (Nat.zero_le _) h2⟩

def RestPost (w : World) (B E : Nat) (xs : List Nat) (e : Ending) (w' : World) : Prop := ∃ v, e = .returned v ∧ Lane w (B + 2) E v xs ∧ w = w'

set_option maxHeartbeats 1000000 in
theorem rest_any (w : World) (B E : Nat) (L : List (List Nat)) (lane : Int) (h : Tape w B E L) :
    Calls Try.prog 22 #[.pointer (some ⟨B + 1, 0, none⟩), .int .i64 lane] w (RestPost w B E (lget L lane)) := by
  have hc := h.cells
  have hn := h.2.2.1
  have HT := Lib.hid h; clear h
  by_cases h0 : lane < 0
  · have e0 : decide (lane < 0) = true := by simpa using h0
    have E0 := Lib.hid (lget_out (L := L) (Or.inl h0))
    go_enter Try.func22, Try.ntmps22
    go_wp2_with fail
    go_ret
    exact ⟨_, rfl, by rw [E0.out]; exact Lane.nil _ _ _ _ _, rfl⟩
  · obtain ⟨i, rfl⟩ := Int.eq_ofNat_of_zero_le (show 0 ≤ lane by omega)
    have e0 : decide ((i : Int) < 0) = false := by simp
    by_cases hi : i < L.length
    · have e1 : decide (L.length ≤ i) = false := by simp; omega
      obtain ⟨v, hv, hl⟩ := HT.out.lane i hi
      have HLn := Lib.hid (show Lane w (B + 2) E v (lget L (i : Int)) by rw [lget_nat]; exact hl)
      clear hl h0
      go_enter Try.func22, Try.ntmps22
      go_wp2_with fail
      go_ret
      exact ⟨_, rfl, HLn.out, rfl⟩
    · have e1 : decide (L.length ≤ i) = true := by simp; omega
      have E0 := Lib.hid (lget_out (L := L) (lane := (i : Int)) (Or.inr (by omega)))
      go_enter Try.func22, Try.ntmps22
      go_wp2_with fail
      go_ret
      exact ⟨_, rfl, by rw [E0.out]; exact Lane.nil _ _ _ _ _, rfl⟩

def LeftPost (n : Nat) (w : World) (e : Ending) (w' : World) : Prop := e = .returned (.int .i64 (n : Int)) ∧ w = w'
theorem left_any (w : World) (B E : Nat) (L : List (List Nat)) (lane : Int) (h : Tape w B E L) :
    Calls Try.prog 16 #[.pointer (some ⟨B + 1, 0, none⟩), .int .i64 lane] w (LeftPost (lget L lane).length w) := by
  have R := Lib.hid (rest_any w B E L lane h)
  clear h
  go_enter Try.func16, Try.ntmps16
  go_wp2_with fail
  refine R.out.mono ?_
  rintro e w' ⟨v, rfl, hl, rfl⟩
  obtain ⟨A, c, rfl⟩ := hl.shape
  clear hl
  go_wp2_with fail
  go_ret
  exact ⟨rfl, rfl⟩

theorem adv_nil {L : List (List Nat)} {lane : Int} (h : lget L lane = []) : adv L lane = L := by
  unfold adv
  split
  · obtain ⟨i, rfl⟩ := Int.eq_ofNat_of_zero_le (show 0 ≤ lane by assumption)
    rw [h, Int.toNat_natCast]
    rw [lget_nat] at h
    apply List.ext_getElem?
    intro j
    by_cases e : i = j
    · subst e
      by_cases hi : i < L.length
      · rw [List.getElem?_set_self hi, List.getElem?_eq_getElem hi]
        rw [List.getD_eq_getElem?_getD, List.getElem?_eq_getElem hi] at h
        simpa using h.symm
      · rw [List.getElem?_eq_none (by simp; omega), List.getElem?_eq_none (by omega)]
    · rw [List.getElem?_set_ne e]
  · rfl

def NextPost (w : World) (B E : Nat) (L : List (List Nat)) (lane : Int) (e : Ending) (w' : World) : Prop :=
  e = .returned (.int .u64 (((lget L lane).headD 0 : Nat) : Int)) ∧ Tape w' B E (adv L lane) ∧ w.grownBy w' (some B)

/-- A lane's slice moved on by one. -/
theorem Lane.moved {w : World} {lo hi g o c m : Nat} {xs : List Nat} (h : Lane w lo hi (.slice (some ⟨g, o, none⟩) (m + 1) c) xs) (hm : xs.length = m + 1) :
    Lane w lo hi (.slice (some (if c = 1 then ⟨g, o, none⟩ else ⟨g, o + 1, none⟩)) m (c - 1)) xs.tail := by
  have ht : xs.tail.length = m := by rw [List.length_tail]; omega
  refine ⟨by have := h.1; omega, fun x hx => h.2.1 x (List.mem_of_mem_tail hx), ?_⟩
  rcases h.2.2 with ⟨h1, _⟩ | ⟨g', o', c', e, h1, h2, h3, h4, h5⟩
  · rw [h1] at hm; simp at hm
  · obtain ⟨rfl, rfl, rfl⟩ : g = g' ∧ o = o' ∧ c = c' := by
      simp only [Value.slice.injEq, Option.some.injEq, Addr.mk.injEq, and_true] at e; exact ⟨e.1.1, e.1.2, e.2.2⟩
    by_cases hc : c = 1
    · have h0 : m = 0 := by omega
      subst h0
      exact Or.inl ⟨List.eq_nil_of_length_eq_zero ht, _, _, rfl⟩
    · rw [if_neg hc]
      refine Or.inr ⟨g, o + 1, c - 1, by rw [ht], h1, h2, by omega, by omega, fun j hj => ?_⟩
      rw [Nat.add_assoc, Nat.add_comm 1 j, h5 (j + 1) (by omega)]
      congr 3
      rw [List.getD_eq_getElem?_getD, List.getD_eq_getElem?_getD, List.getElem?_tail]

theorem Tape.stored {w : World} {B E : Nat} {L : List (List Nat)} (h : Tape w B E L) (i : Nat) (hi : i < L.length) (v : Value) (xs : List Nat) (hv : Lane w (B + 2) E v xs) :
    Tape (w.setCell ⟨B, i, none⟩ v).drew B E (L.set i xs) ∧ w.grownBy (w.setCell ⟨B, i, none⟩ v).drew (some B) := by
  obtain ⟨h1, h2, h3, vs, h4, h5, h6, h7⟩ := h
  have hs : (w.setCell ⟨B, i, none⟩ v).heap.size = w.heap.size := by simp [World.setCell]
  have ho : ∀ k, k ≠ B → (w.setCell ⟨B, i, none⟩ v).heap[k]? = w.heap[k]? := fun k hk => heap_setCell_other _ _ _ _ hk
  refine ⟨⟨h1, by show E ≤ (w.setCell ⟨B, i, none⟩ v).heap.size; rw [hs]; exact h2, by rw [List.length_set]; exact h3, vs.set i v, by rw [List.length_set, List.length_set]; exact h4, ?_, ?_, ?_⟩, ⟨rfl, rfl, rfl, by show _ ≤ (w.setCell ⟨B, i, none⟩ v).heap.size; rw [hs]; exact Nat.le_refl _, fun k _ hk => ho k (fun e => hk (by rw [e]))⟩⟩
  · show (w.setCell _ _).heap[_]? = _
    rw [heap_setCell_same _ _ _ _ _ _ h5]; simp
  · rw [List.length_set]; exact (ho _ (by omega)).trans h6
  · intro j hj
    rw [List.length_set] at hj
    have key : ∀ {u ys}, Lane w (B + 2) E u ys → Lane (w.setCell ⟨B, i, none⟩ v).drew (B + 2) E u ys := fun hu => hu.same fun k k1 _ => ho k (by omega)
    by_cases e : i = j
    · subst e
      rw [List.getD_eq_getElem?_getD, List.getD_eq_getElem?_getD, List.getElem?_set_self (by omega), List.getElem?_set_self hi]
      exact key hv
    · rw [List.getD_eq_getElem?_getD, List.getD_eq_getElem?_getD, List.getElem?_set_ne e, List.getElem?_set_ne e, ← List.getD_eq_getElem?_getD, ← List.getD_eq_getElem?_getD]
      exact key (h7 j hj)

set_option maxHeartbeats 1000000 in
theorem next_any (w : World) (B E : Nat) (L : List (List Nat)) (lane : Int) (h : Tape w B E L) :
    Calls Try.prog 12 #[.pointer (some ⟨B + 1, 0, none⟩), .int .i64 lane] w (NextPost w B E L lane) := by
  have R := Lib.hid (rest_any w B E L lane h)
  have HT := Lib.hid h
  obtain ⟨xs, hxs⟩ : ∃ xs, xs = lget L lane := ⟨_, rfl⟩
  rw [← hxs] at R
  have HX := Lib.hid hxs
  rcases xs with _ | ⟨x, xs⟩
  · have E1 := Lib.hid (adv_nil hxs.symm)
    clear h hxs
    go_enter Try.func12, Try.ntmps12
    go_wp2_with fail
    refine R.out.mono ?_
    rintro e w' ⟨v, rfl, hl, rfl⟩
    obtain ⟨A, c, rfl⟩ := hl.shape
    clear hl
    go_wp2_with fail
    go_ret
    exact ⟨by rw [← HX.out]; rfl, by rw [E1.out]; exact HT.out, World.grownBy.refl _ _⟩
  · have hlane : 0 ≤ lane ∧ lane < (L.length : Int) := by
      rcases Int.lt_or_le lane 0 with h1 | h1
      · rw [lget_out (Or.inl h1)] at hxs; simp at hxs
      · rcases Int.lt_or_le lane (L.length : Int) with h2 | h2
        · exact ⟨h1, h2⟩
        · rw [lget_out (Or.inr h2)] at hxs; simp at hxs
    obtain ⟨i, rfl⟩ := Int.eq_ofNat_of_zero_le hlane.1
    have hi : i < L.length := by omega
    have hn := h.2.2.1
    have hc := h.cells
    obtain ⟨u, hu, _⟩ := h.lane i hi
    have hf := h.free i
    clear h hxs
    go_enter Try.func12, Try.ntmps12
    go_wp2_with fail
    refine R.out.mono ?_
    rintro e w' ⟨v, rfl, hl, rfl⟩
    have HLn := Lib.hid hl
    rcases hl.2.2 with ⟨h1, _⟩ | ⟨g, o, c, rfl, h1, h2, h3, h4, h5⟩
    · cases h1
    have hx0 : w.cell? ⟨g, o, none⟩ = some (.int .u64 (x : Int)) := by have := h5 0 (by simp); simpa using this
    rw [List.length_cons] at h3
    have hlen := hl.1
    rw [List.length_cons] at hlen
    have S := Lib.hid (HT.out.stored i hi _ _ (hl.moved (m := xs.length) rfl))
    rw [show (x :: xs : List Nat).tail = xs from rfl] at S
    have AD := Lib.hid (show adv L (i : Int) = L.set i xs by rw [adv, if_pos (by omega), ← HX.out, Int.toNat_natCast]; rfl)
    have HD := Lib.hid (show (lget L (i : Int)).headD 0 = x by rw [← HX.out]; rfl)
    clear h5 hl
    unfold maxLen at h4
    rw [List.length_cons]
    have hcx : ∀ u, (w.setCell ⟨B, i, none⟩ u).drew.cell? ⟨g, o, none⟩ = some (.int .u64 (x : Int)) := fun u =>
      (World.cell?_of_block (w := w) (w' := (w.setCell ⟨B, i, none⟩ u).drew) (a := ⟨g, o, none⟩) (heap_setCell_other w ⟨B, i, none⟩ g u (show g ≠ B by omega))).trans hx0
    have e1 : ((xs.length : Int) + 1 == 0) = false := by simp; omega
    have hc1 : 1 ≤ c := by omega
    by_cases hc0 : c = 1
    · subst hc0
      rw [if_pos rfl] at S
      have hz : xs.length = 0 := by omega
      obtain rfl : xs = [] := List.eq_nil_of_length_eq_zero hz
      go_wp2_with fail
      go_region
      have hx1 := hcx (.slice (some ⟨g, o, none⟩) 0 0)
      clear hcx hz hc hu hf hx0
      have S2 := Lib.hid (show Tape (w.setCell ⟨B, i, none⟩ (.slice (some ⟨g, o, none⟩) 0 0)).drew B E (L.set i []) ∧ w.grownBy (w.setCell ⟨B, i, none⟩ (.slice (some ⟨g, o, none⟩) 0 0)).drew (some B) from S.out)
      clear S
      generalize (w.setCell ⟨B, i, none⟩ (.slice (some ⟨g, o, none⟩) 0 0)).drew = w2 at hx1 S2 ⊢
      go_wp2_with fail
      go_ret
      exact ⟨ret_int (by rw [HD.out]), by rw [AD.out]; exact S2.out.1, S2.out.2⟩
    · rw [if_neg hc0] at S
      have hc2 : ¬ c = 1 := hc0
      go_wp2_with fail
      go_region
      have hx1 := hcx (.slice (some ⟨g, o + 1, none⟩) xs.length (c - 1))
      clear hcx hc hu hf hx0
      generalize (w.setCell ⟨B, i, none⟩ (.slice (some ⟨g, o + 1, none⟩) xs.length (c - 1))).drew = w2 at hx1 S ⊢
      go_wp2_with fail
      go_ret
      exact ⟨ret_int (by rw [HD.out]), by rw [AD.out]; exact S.out.1, S.out.2⟩

def pickB (n : Nat) (W : Nat) : Bool := decide (n / 4 < W)
def PickPost (w : World) (B E : Nat) (L : List (List Nat)) (lane : Int) (W : Nat) (e : Ending) (w' : World) : Prop :=
  e = .returned (.bool (pickB ((lget L lane).headD 0) W)) ∧ Tape w' B E (adv L lane) ∧ w.grownBy w' (some B)

theorem Tape.bound {w : World} {B E : Nat} {L : List (List Nat)} (h : Tape w B E L) (lane : Int) : (lget L lane).headD 0 ≤ 18446744073709551615 ∧ (lget L lane).length ≤ 1000 := by
  by_cases h0 : lane < 0 ∨ (L.length : Int) ≤ lane
  · rw [lget_out h0]; simp
  · obtain ⟨i, rfl⟩ := Int.eq_ofNat_of_zero_le (show 0 ≤ lane by omega)
    obtain ⟨v, _, hl⟩ := h.lane i (by omega)
    rw [lget_nat]
    refine ⟨?_, hl.1⟩
    cases hx : L.getD i [] with
    | nil => simp
    | cons x xs => exact hl.2.1 x (by rw [hx]; simp)

theorem pick_any (w : World) (B E : Nat) (L : List (List Nat)) (lane : Int) (W : Nat) (h : Tape w B E L) :
    Calls Try.prog 13 #[.pointer (some ⟨B + 1, 0, none⟩), .int .i64 lane, .int .u64 (W : Int)] w (PickPost w B E L lane W) := by
  have R := Lib.hid (next_any w B E L lane h)
  have hb := (h.bound lane).1
  obtain ⟨n, hn⟩ : ∃ n, n = (lget L lane).headD 0 := ⟨_, rfl⟩
  rw [← hn] at hb
  have HN := Lib.hid hn
  clear h hn
  go_enter Try.func13, Try.ntmps13
  go_wp2_with fail
  refine R.out.mono ?_
  rintro e w' ⟨rfl, ht, hg⟩
  rw [← HN.out]
  have T := Lib.hid (And.intro ht hg); clear ht hg
  go_wp2_with fail
  go_ret
  exact ⟨ret_bool (by rw [← HN.out, pickB, Bool.eq_iff_iff]; simp only [decide_eq_true_iff]; omega), T.out.1, T.out.2⟩

theorem refPick_any (w : World) (n W : Nat) (hn : n ≤ 18446744073709551615) :
    Calls Try.prog 14 #[.int .u64 (n : Int), .int .u64 (W : Int)] w fun e w' => e = .returned (.bool (pickB n W)) ∧ w = w' := by
  go_enter Try.func14, Try.ntmps14
  go_wp2_with fail
  go_ret
  exact ⟨ret_bool (by rw [pickB, Bool.eq_iff_iff]; simp only [decide_eq_true_iff]; omega), rfl⟩

theorem copy_any (w : World) (B E : Nat) (L : List (List Nat)) (h : Tape w B E L) :
    Calls Try.prog 15 #[.pointer (some ⟨B + 1, 0, none⟩)] w (NewPost L w) := by
  have hc := h.cells
  have R := Lib.hid (new_any _ L w h.lanes)
  clear h
  go_enter Try.func15, Try.ntmps15
  go_wp2_with fail
  refine R.out.mono ?_
  rintro e w' ⟨rfl, ht, hg⟩
  have T := Lib.hid (And.intro ht hg); clear ht hg
  go_wp2_with fail
  go_ret
  exact ⟨rfl, T.out.1, T.out.2⟩
end Go.Proofs.Ytaiejdopmlajmaa
