/- The contracts of the reference's whole, down and plus at this program. -/
import Derived.Test.YtkcecmofbppodaaDoorRefA
namespace Go.Proofs.YtkcecmofbppodaaDoor
open Go.RowKit

theorem Rd.shape {w : World} {v : Value} {xs : List Nat} (h : Rd w v xs) : ∃ A c, v = .slice A xs.length c := by
  rcases h.2 with ⟨rfl, A, c, rfl⟩ | ⟨g, o, c, rfl, _⟩
  · exact ⟨A, c, rfl⟩
  · exact ⟨_, c, rfl⟩

def WhRel (xs : List Nat) (a i : Value) : Prop := ∃ (z : Int) (k t : Nat), i = .int .i64 z ∧ z + 1 = (k : Int) ∧ k ≤ xs.length ∧ a = .int .u64 (t : Int) ∧ t ≤ 18446744073709551615 ∧ t = Rw.val (xs.drop k) ∧ Rw.val (xs.drop (max k 64)) = 0

theorem wh_step {xs : List Nat} {m t b : Nat} (hb : b = xs.getD m 0) (ht : t = Rw.val (xs.drop (m + 1))) : Rw.val (xs.drop m) = b + 2 * t := by rw [Rw.val_drop_succ, hb, ht]
theorem wh_high {xs : List Nat} {m t b : Nat} (hb : b = 0) (hm : 64 ≤ m) (hs : Rw.val (xs.drop m) = b + 2 * t) (ht : t = Rw.val (xs.drop (m + 1))) (h0 : Rw.val (xs.drop (max (m + 1) 64)) = 0) : t = Rw.val (xs.drop m) ∧ Rw.val (xs.drop (max m 64)) = 0 := by
  rw [show max (m + 1) 64 = m + 1 by omega, ← ht] at h0
  rw [show max m 64 = m by omega, hs, h0]
  omega
theorem wh_low {xs : List Nat} {m t b : Nat} (hx : Rw.Bits xs) (hm : m < 64) (hs : Rw.val (xs.drop m) = b + 2 * t) (h0 : Rw.val (xs.drop (max (m + 1) 64)) = 0) : t * 2 + b ≤ 18446744073709551615 ∧ t * 2 + b = Rw.val (xs.drop m) ∧ Rw.val (xs.drop (max m 64)) = 0 := by
  rw [show max (m + 1) 64 = 64 by omega] at h0
  have := Rw.low_lt (k := m) hx h0
  rw [show max m 64 = 64 by omega, h0]
  omega

set_option maxHeartbeats 2000000 in
set_option maxRecDepth 100000 in
theorem whole_row (v : Value) (xs : List Nat) (w : World) (h : Rd w v xs) (hx : Rw.Bits xs) :
    Calls Tryd.prog 41 #[v] w fun e w' => e = .returned (.int .u64 (Rw.cap xs : Nat)) ∧ w = w' := by
  have hl := h.1
  obtain ⟨A, c, rfl⟩ := h.shape
  have HR := Lib.hid h
  clear h
  go_enter Tryd.func41, Tryd.ntmps41
  go_wp2_with fail
  go_loop [3, 4] (fun a i => WhRel xs a i) (fun _ i => (intOf i + 1).toNat)
  case atStart => exact ⟨_, xs.length, 0, rfl, by omega, Nat.le_refl _, rfl, by omega, by rw [List.drop_length]; rfl, by rw [List.drop_eq_nil_of_le (by omega)]; rfl⟩
  case round =>
    obtain ⟨z, k, t, rfl, hz, hk, rfl, ht, hv, h0⟩ := hrel
    have HV := Lib.hid hv; clear hv
    have H0 := Lib.hid h0; clear h0
    by_cases hz0 : 0 ≤ z
    · obtain ⟨m, rfl⟩ := Int.eq_ofNat_of_zero_le hz0
      obtain rfl : k = m + 1 := by omega
      clear hz
      have e0 : decide (0 ≤ (m : Int)) = true := by simp
      rcases HR.out.2 with ⟨h1, _⟩ | ⟨g, o, c', e, hg, hc, hm, hcell⟩
      · exfalso; rw [h1] at hk; simp at hk
      · have hxm := hcell m (by omega)
        clear hcell
        unfold maxLen at hm
        obtain ⟨rfl, rfl⟩ : A = some ⟨g, o, none⟩ ∧ c = c' := by injection e with e1 _ e2; exact ⟨e1, e2⟩
        clear e
        obtain ⟨b, hb⟩ : ∃ b, b = xs.getD m 0 := ⟨_, rfl⟩
        have hb1 : b ≤ 1 := by rw [hb]; exact Rw.bits_get hx m
        rw [← hb] at hxm
        have HS := Lib.hid (wh_step hb HV.out)
        by_cases h1 : b = 1
        · have e1 : ((b : Int) == 1) = true := beq_iff_eq.2 (by omega)
          by_cases h63 : 63 < m
          · have e2 : decide (63 < (m : Int)) = true := by simp; omega
            have E := Lib.hid (Rw.cap_high (k := m) hx (by omega) (by rw [← hb]; exact h1))
            clear hb h1
            go_wp2_with fail
            go_ret
            exact ⟨congrArg (fun n : Nat => Ending.returned (.int .u64 (n : Int))) E.out.symm, rfl⟩
          · have e2 : decide (63 < (m : Int)) = false := by simp; omega
            have e3 : decide ((m : Int) < 64) = true := by simp; omega
            obtain ⟨q1, q2, q3⟩ := wh_low hx (by omega) HS.out H0.out
            have Q2 := Lib.hid q2; clear q2
            have Q3 := Lib.hid q3; clear q3
            clear hb h1
            go_wp2_with fail
            go_round
            case rel => exact ⟨_, m, t * 2 + b, rfl, by omega, by omega, by go_num, q1, Q2.out, Q3.out⟩
            case measure => simp [intOf]
        · have e1 : ((b : Int) == 1) = false := beq_eq_false_iff_ne.2 (by omega)
          by_cases h64 : m < 64
          · have e3 : decide ((m : Int) < 64) = true := by simp; omega
            obtain ⟨q1, q2, q3⟩ := wh_low hx (by omega) HS.out H0.out
            have Q2 := Lib.hid q2; clear q2
            have Q3 := Lib.hid q3; clear q3
            clear hb h1
            go_wp2_with fail
            go_round
            case rel => exact ⟨_, m, t * 2 + b, rfl, by omega, by omega, by go_num, q1, Q2.out, Q3.out⟩
            case measure => simp [intOf]
          · have e3 : decide ((m : Int) < 64) = false := by simp; omega
            have Q := Lib.hid (wh_high (by omega) (by omega) HS.out HV.out H0.out)
            clear hb h1
            go_wp2_with fail
            go_round
            case rel => exact ⟨_, m, t, rfl, by omega, by omega, rfl, by omega, Q.out.1, Q.out.2⟩
            case measure => simp [intOf]
    · have e0 : decide (0 ≤ z) = false := by simpa using hz0
      have E := Lib.hid (show Rw.cap xs = t by
        have e1 := H0.out
        rw [show max k 64 = 64 by omega] at e1
        have e2 := HV.out
        rw [show k = 0 by omega, List.drop_zero] at e2
        rw [Rw.cap_low hx e1, e2])
      go_wp2_with fail
      go_ret
      exact ⟨congrArg (fun n : Nat => Ending.returned (.int .u64 (n : Int))) E.out.symm, rfl⟩

def DownPost (xs : List Nat) (w : World) (e : Ending) (w' : World) : Prop := ∃ r, e = .returned r ∧ Rd w r (xs.drop 62) ∧ w = w'
set_option maxHeartbeats 1000000 in
theorem down_any (v : Value) (xs : List Nat) (w : World) (h : Rd w v xs) :
    Calls Tryd.prog 45 #[v, .int .i64 62] w (DownPost xs w) := by
  have hl := h.1
  by_cases h62 : xs.length ≤ 62
  · obtain ⟨A, c, rfl⟩ := h.shape
    have e0 : decide ((xs.length : Int) ≤ 62) = true := by simp; omega
    have HR := Lib.hid (show Rd w (.slice none 0 0) (xs.drop 62) by
      rw [List.drop_eq_nil_of_le h62]
      exact ⟨by simp, Or.inl ⟨rfl, _, _, rfl⟩⟩)
    clear h
    go_enter Tryd.func45, Tryd.ntmps45
    go_wp2_with fail
    go_ret
    exact ⟨_, rfl, HR.out, rfl⟩
  · have e0 : decide ((xs.length : Int) ≤ 62) = false := by simp; omega
    rcases h.2 with ⟨h1, _⟩ | ⟨g, o, c, rfl, hg, hc, hm, hcell⟩
    · exfalso; rw [h1] at h62; simp at h62
    · unfold maxLen at hm
      have HC := Lib.hid hcell; clear hcell
      clear h
      go_enter Tryd.func45, Tryd.ntmps45
      go_wp2_with fail
      go_ret
      refine ⟨_, rfl, ?_, rfl⟩
      refine ⟨by simp; omega, Or.inr ⟨g, o + 62, c - 62, ?_, hg, by simp; omega, by unfold maxLen; omega, fun j hj => ?_⟩⟩
      · rw [List.length_drop]; rfl
      · rw [List.length_drop] at hj
        have := HC.out (62 + j) (by omega)
        rw [← Nat.add_assoc] at this
        rw [this, List.getD_eq_getElem?_getD, List.getD_eq_getElem?_getD, List.getElem?_drop]
end Go.Proofs.YtkcecmofbppodaaDoor
