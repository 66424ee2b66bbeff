/- The contract of the reference's Same. -/
import Derived.Test.YtlmbeiijijkjeaaRefb
import Derived.Deep.Draws
namespace Go.Proofs.Ytlmbeiijijkjeaa
open Go.RowKit Sg

def SamePost (b : Bool) (w : World) (e : Ending) (w' : World) : Prop := e = .returned (.bool b) ∧ ∃ n, w' = w.drewN n
def SameRel (xs ys : List ByteArray) (w : World) (i : Value) (W : World) : Prop := ∃ k n : Nat, i = .int .i64 (k : Int) ∧ k ≤ xs.length ∧ xs.take k = ys.take k ∧ W = w.drewN n

theorem same_diff (w : World) (g g' : Nat) (v u : Value) (xs ys : List ByteArray) (h : Row w g v xs) (k : Row w g' u ys) (hne : xs.length ≠ ys.length) :
    Calls Try.prog 22 #[v, u] w (SamePost (decide (xs = ys)) w) := by
  obtain ⟨A, c, rfl⟩ := h.shape
  obtain ⟨B, d, rfl⟩ := k.shape
  have E := Lib.hid (show decide (xs = ys) = false by simp; exact fun e => hne (by rw [e]))
  have e0 : ((xs.length : Int) != (ys.length : Int)) = true := by simp; omega
  have e1 : (xs.length != ys.length) = true := by simpa using hne
  clear h k hne
  go_enter Try.func22, Try.ntmps22
  go_wp2_with fail
  go_ret
  exact ⟨ret_bool E.out.symm, 0, rfl⟩

set_option maxHeartbeats 1000000 in
theorem same_like (w : World) (g g' : Nat) (v u : Value) (xs ys : List ByteArray) (h : Row w g v xs) (k : Row w g' u ys) (he : xs.length = ys.length) :
    Calls Try.prog 22 #[v, u] w (SamePost (decide (xs = ys)) w) := by
  obtain ⟨A, c, rfl⟩ := h.shape
  obtain ⟨B, d, rfl⟩ := k.shape
  rw [← he] at k ⊢
  have hl := h.1
  have HX := Lib.hid h
  have HY := Lib.hid k
  have HE := Lib.hid he
  clear h k he
  go_enter Try.func22, Try.ntmps22
  go_wp2_with fail
  go_loopw [5] (fun i W => SameRel xs ys w i W) (fun i _ => xs.length - (intOf i).toNat)
  case atStart => exact ⟨0, 0, rfl, Nat.zero_le _, rfl, rfl⟩
  case round =>
    obtain ⟨k, n, rfl, hk, heq, rfl⟩ := hrel
    have HQ := Lib.hid heq
    clear heq
    by_cases hlt : k < xs.length
    · have e0 : decide (k < xs.length) = true := by simpa using hlt
      obtain ⟨o, rfl, hg, hc, hc1, hc2⟩ := HX.out.at hlt
      obtain ⟨o', rfl, hg', hd, hd1, hd2⟩ := HY.out.at (k := k) (by rw [← HE.out]; exact hlt)
      rw [← HE.out] at hd1
      unfold maxLen at hc2 hd2
      have h1 := take_snoc xs k ⟨#[]⟩ hlt
      have h2 := take_snoc ys k ⟨#[]⟩ (by rw [← HE.out]; exact hlt)
      have hlt' : k < ys.length := by rw [← HE.out]; exact hlt
      have hx1 : xs[k]? = some (xs.getD k ⟨#[]⟩) := by rw [List.getD_eq_getElem?_getD, List.getElem?_eq_getElem hlt]; rfl
      have hy1 : ys[k]? = some (ys.getD k ⟨#[]⟩) := by rw [List.getD_eq_getElem?_getD, List.getElem?_eq_getElem hlt']; rfl
      generalize xs.getD k ⟨#[]⟩ = x at hc h1 hx1
      generalize ys.getD k ⟨#[]⟩ = y at hd h2 hy1
      by_cases hxy : x = y
      · subst hxy
        have HQ2 := Lib.hid (show xs.take (k + 1) = ys.take (k + 1) by rw [h1, h2, HQ.out])
        have e1 := beqS_yes (rfl : x = x)
        clear h1 h2 hx1 hy1 hlt' HQ
        go_wp2_with fail
        go_quiet (fail)
        go_wp2_with fail
        go_roundw
        case rel => exact ⟨k + 1, _, by go_num, by omega, HQ2.out, rfl⟩
        case measure => simp [intOf]; omega
      · have E := Lib.hid (show decide (xs = ys) = false by simp only [decide_eq_false_iff_not]; intro e; rw [e, hy1] at hx1; exact hxy (by injection hx1 with e; exact e.symm))
        have e1 := beqS_no hxy
        clear h1 h2 hx1 hy1 hlt' HQ hxy
        go_wp2_with fail
        go_quiet (fail)
        go_wp2_with fail
        go_ret
        exact ⟨ret_bool E.out.symm, _, World.drewN_drewN _ _ _⟩
    · have e0 : decide (k < xs.length) = false := by simpa using hlt
      have E := Lib.hid (show decide (xs = ys) = true by
        have := HQ.out
        have he := HE.out
        rw [List.take_of_length_le (by omega), List.take_of_length_le (by omega)] at this
        simpa using this)
      clear HQ
      go_wp2_with fail
      go_ret
      exact ⟨ret_bool E.out.symm, _, rfl⟩

theorem refSame_any (w : World) (g g' : Nat) (v u : Value) (xs ys : List ByteArray) (h : Row w g v xs) (k : Row w g' u ys) :
    Calls Try.prog 22 #[v, u] w (SamePost (decide (xs = ys)) w) := by
  by_cases he : xs.length = ys.length
  · exact same_like w g g' v u xs ys h k he
  · exact same_diff w g g' v u xs ys h k he
end Go.Proofs.Ytlmbeiijijkjeaa
