/- The contracts of the reference's Next and Left at this program. -/
import Derived.Test.YtaiejdopmlajmaaLits
namespace Go.Proofs.Ytaiejdopmlajmaa
open Go.RowKit

theorem lget_at {w : World} {hi : Nat} {v : Value} {L : List (List Nat)} (h : Lanes w hi v L) {i : Nat} (hi' : i < L.length) :
    ∃ g o c, v = .slice (some ⟨g, o, none⟩) L.length c ∧ L.length ≤ c ∧ c ≤ 9223372036854775807 ∧ ∃ u, w.cell? ⟨g, o + i, none⟩ = some u ∧ Lane w 0 hi u (lget L (i : Int)) := by
  rcases h.2 with ⟨h1, _⟩ | ⟨g, o, c, e, _, h2, h3, h4⟩
  · rw [h1] at hi'; simp at hi'
  · obtain ⟨u, k1, k2⟩ := h4 i hi'
    refine ⟨g, o, c, e, h2, by unfold maxLen at h3; omega, u, k1, by rw [lget_nat]; exact k2⟩

/-- The number of a lane at a place. -/
def lat (L : List (List Nat)) (lane : Int) (k : Nat) : Nat := (lget L lane).getD k 0
def RNext (n : Nat) (w : World) (e : Ending) (w' : World) : Prop := e = .returned (.int .u64 (n : Int)) ∧ w = w'

set_option maxHeartbeats 1000000 in
theorem refNext_any (w : World) (hi : Nat) (v : Value) (L : List (List Nat)) (lane : Int) (k : Nat) (h : Lanes w hi v L) :
    Calls Try.prog 11 #[v, .int .i64 lane, .int .i64 (k : Int)] w (RNext (lat L lane k) w) := by
  have hn := h.1
  have HL := Lib.hid h; clear h
  by_cases h0 : lane < 0
  · have e0 : decide (lane < 0) = true := by simpa using h0
    have E0 := Lib.hid (lget_out (L := L) (Or.inl h0))
    obtain ⟨A, c, rfl⟩ := HL.out.shape
    go_enter Try.func11, Try.ntmps11
    go_wp2_with fail
    go_ret
    exact ⟨ret_int (by rw [lat, E0.out]; simp), rfl⟩
  · obtain ⟨i, rfl⟩ := Int.eq_ofNat_of_zero_le (show 0 ≤ lane by omega)
    have e0 : decide ((i : Int) < 0) = false := by simp
    by_cases hl : i < L.length
    · have e1 : decide (L.length ≤ i) = false := by simp; omega
      obtain ⟨g, o, c, rfl, h2, h3, u, hu, hlane⟩ := lget_at HL.out hl
      obtain ⟨xs, hxs⟩ : ∃ xs, xs = lget L (i : Int) := ⟨_, rfl⟩
      rw [← hxs] at hlane
      have HX := Lib.hid hxs; clear hxs
      have hx1 := hlane.1
      obtain ⟨A2, c2, rfl⟩ := hlane.shape
      by_cases hkx : k < xs.length
      · have e2 : decide (xs.length ≤ k) = false := by simp; omega
        rcases hlane.2.2 with ⟨h4, _⟩ | ⟨g2, o2, c3, e4, _, _, h7, h8, h9⟩
        · rw [h4] at hkx; simp at hkx
        obtain ⟨rfl, rfl⟩ : A2 = some ⟨g2, o2, none⟩ ∧ c2 = c3 := by injection e4 with e5 _ e6; exact ⟨e5, e6⟩
        have hv := h9 k hkx
        obtain ⟨y, hy⟩ : ∃ y, y = xs.getD k 0 := ⟨_, rfl⟩
        rw [← hy] at hv
        have HY := Lib.hid hy
        unfold maxLen at h8
        clear h9 e4 hy hlane
        go_enter Try.func11, Try.ntmps11
        go_wp2_with fail
        go_ret
        exact ⟨ret_int (by rw [lat, ← HX.out, ← HY.out]), rfl⟩
      · have e2 : decide (xs.length ≤ k) = true := by simp; omega
        have E0 := Lib.hid (show xs.getD k 0 = 0 by rw [List.getD_eq_getElem?_getD, List.getElem?_eq_none (by omega)]; rfl)
        clear hlane
        go_enter Try.func11, Try.ntmps11
        go_wp2_with fail
        go_ret
        exact ⟨ret_int (by rw [lat, ← HX.out, E0.out]; rfl), rfl⟩
    · have e1 : decide (L.length ≤ i) = true := by simp; omega
      have E0 := Lib.hid (lget_out (L := L) (lane := (i : Int)) (Or.inr (by omega)))
      obtain ⟨A, c, rfl⟩ := HL.out.shape
      go_enter Try.func11, Try.ntmps11
      go_wp2_with fail
      go_ret
      exact ⟨ret_int (by rw [lat, E0.out]; simp), rfl⟩

set_option maxHeartbeats 1000000 in
theorem refLeft_any (w : World) (hi : Nat) (v : Value) (L : List (List Nat)) (lane : Int) (k : Nat) (h : Lanes w hi v L) (hk : k ≤ 1000000) :
    Calls Try.prog 17 #[v, .int .i64 lane, .int .i64 (k : Int)] w (LeftPost ((lget L lane).length - k) w) := by
  have hn := h.1
  have HL := Lib.hid h; clear h
  by_cases h0 : lane < 0
  · have e0 : decide (lane < 0) = true := by simpa using h0
    have E0 := Lib.hid (lget_out (L := L) (Or.inl h0))
    obtain ⟨A, c, rfl⟩ := HL.out.shape
    go_enter Try.func17, Try.ntmps17
    go_wp2_with fail
    go_ret
    exact ⟨ret_int (by rw [E0.out]; simp), rfl⟩
  · obtain ⟨i, rfl⟩ := Int.eq_ofNat_of_zero_le (show 0 ≤ lane by omega)
    have e0 : decide ((i : Int) < 0) = false := by simp
    by_cases hl : i < L.length
    · have e1 : decide (L.length ≤ i) = false := by simp; omega
      obtain ⟨g, o, c, rfl, h2, h3, u, hu, hlane⟩ := lget_at HL.out hl
      obtain ⟨xs, hxs⟩ : ∃ xs, xs = lget L (i : Int) := ⟨_, rfl⟩
      rw [← hxs] at hlane
      have HX := Lib.hid hxs; clear hxs
      have hx1 := hlane.1
      obtain ⟨A2, c2, rfl⟩ := hlane.shape
      clear hlane
      by_cases hkx : k < xs.length
      · have e2 : decide (xs.length ≤ k) = false := by simp; omega
        go_enter Try.func17, Try.ntmps17
        go_wp2_with fail
        go_ret
        exact ⟨ret_int (by rw [← HX.out]; omega), rfl⟩
      · have e2 : decide (xs.length ≤ k) = true := by simp; omega
        go_enter Try.func17, Try.ntmps17
        go_wp2_with fail
        go_ret
        exact ⟨ret_int (by rw [← HX.out]; omega), rfl⟩
    · have e1 : decide (L.length ≤ i) = true := by simp; omega
      have E0 := Lib.hid (lget_out (L := L) (lane := (i : Int)) (Or.inr (by omega)))
      obtain ⟨A, c, rfl⟩ := HL.out.shape
      go_enter Try.func17, Try.ntmps17
      go_wp2_with fail
      go_ret
      exact ⟨ret_int (by rw [E0.out]; simp), rfl⟩
end Go.Proofs.Ytaiejdopmlajmaa
