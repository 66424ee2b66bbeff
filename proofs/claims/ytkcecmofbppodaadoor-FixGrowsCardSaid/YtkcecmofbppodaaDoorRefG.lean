/- The contracts of the reference's Pow, Exp, Fall and Share at this program. -/
import Derived.Test.YtkcecmofbppodaaDoorRefF
import Derived.Test.YtkcecmofbppodaaDoorFxc
namespace Go.Proofs.YtkcecmofbppodaaDoor
open Go.RowKit

/-- The power, along the row of its exponent's bits. -/
def pwL (x : Nat) : List Nat → Nat → Nat
  | [], p => p
  | d :: l, p => pwL (Fx.mul x x) l (if d = 1 then Fx.mul p x else p)
theorem pwL_zeros (x : Nat) : ∀ (l : List Nat) (p : Nat), Rw.Bits l → Rw.val l = 0 → pwL x l p = p := by
  intro l
  induction l generalizing x with
  | nil => intro p _ _; rfl
  | cons d l ih =>
    intro p hb hv
    have hd : d = 0 ∧ Rw.val l = 0 := by simp only [Rw.val] at hv; omega
    rw [pwL, if_neg (by omega)]
    exact ih _ p hb.cons.2 hd.2
theorem pwL_pw : ∀ (l : List Nat) (x p : Nat), Rw.Bits l → pwL x l p = Fx.pw x (Rw.val l) p := by
  intro l
  induction l with
  | nil => intro x p _; rw [Rw.val, Fx.pw_zero]; rfl
  | cons d l ih =>
    intro x p hb
    have h1 := hb.cons
    by_cases h0 : Rw.val (d :: l) = 0
    · rw [pwL_zeros x (d :: l) p hb h0, h0, Fx.pw_zero]
    · rw [Fx.pw_step x _ p h0, pwL, ih _ _ h1.2]
      have e1 : Rw.val (d :: l) / 2 = Rw.val l := by simp only [Rw.val]; omega
      have e2 : Rw.val (d :: l) % 2 = d := by simp only [Rw.val]; omega
      rw [e1, e2]

def PoRel (xs : List Nat) (x p : Nat) (w1 : World) (a s i : Value) (W : World) : Prop := ∃ (k x' p' : Nat), a = .int .u64 (x' : Int) ∧ s = .int .u64 (p' : Int) ∧ i = .int .i64 (k : Int) ∧ k ≤ xs.length ∧ x' ≤ 18446744073709551615 ∧ p' ≤ 18446744073709551615 ∧ pwL x' (xs.drop k) p' = pwL x xs p ∧ Below w1.heap.size w1 W

set_option maxHeartbeats 2000000 in
set_option maxRecDepth 100000 in
theorem refPow_any (x : Nat) (n : Int) (w : World) (hx : x ≤ 18446744073709551615) (hn : n ≤ 9223372036854775807) :
    Calls Tryd.prog 25 #[.int .u64 x, .int .i64 n] w (RefRet (pq x n) (pc n) w) := by
  by_cases h : n < 0
  · rw [pq, pc, if_pos h, if_pos h]
    have e0 : decide (n < 0) = true := by simpa using h
    go_enter Tryd.func25, Tryd.ntmps25
    go_wp2_with fail
    go_ret2
    exact ⟨rfl, Below.refl _ _⟩
  · rw [pq, pc, if_neg h, if_neg h]
    obtain ⟨m, rfl⟩ := Int.eq_ofNat_of_zero_le (show 0 ≤ n by omega)
    have e0 : decide ((m : Int) < 0) = false := by simp
    rw [Int.toNat_natCast]
    have hm : m ≤ 9223372036854775807 := by omega
    have C := fun W => Lib.hid (row_any m W (by omega))
    clear h
    go_enter Tryd.func25, Tryd.ntmps25
    go_wp2_with fail
    refine (C _).out.mono ?_
    rintro e w1 ⟨r1, xs, rfl, hown1, hxb, vx, lx, hb1⟩
    have R1 := Lib.hid (Rd.of_own hown1 (by omega)); clear hown1
    have VX := Lib.hid vx; clear vx
    have B1 := Lib.hid hb1; clear hb1
    obtain ⟨A, c2, rfl⟩ := R1.out.shape
    go_wp2_with fail
    go_loopw [0, 7, 8] (fun a s i W => PoRel xs x 4611686018427387904 w1 a s i W) (fun _ _ i _ => xs.length - (intOf i).toNat)
    case atStart => exact ⟨0, x, 4611686018427387904, rfl, rfl, rfl, by omega, hx, by omega, by rw [List.drop_zero], Below.refl _ _⟩
    case round =>
      obtain ⟨k, x', p', rfl, rfl, rfl, hk, hx', hp', hv, hB⟩ := hrel
      have HV := Lib.hid hv; clear hv
      have hm1 := Fx.mul_le x' x'
      have hm2 := Fx.mul_le p' x'
      by_cases hlt : k < xs.length
      · have e0 : decide (k < xs.length) = true := by simpa using hlt
        rcases (R1.out.below hB (Nat.le_refl _)).2 with ⟨h1, _⟩ | ⟨g, o, c', e, hg, hc, hmx, hcell⟩
        · exfalso; rw [h1] at hlt; simp at hlt
        · have hxk := hcell k hlt
          clear hcell
          unfold maxLen at hmx
          obtain ⟨rfl, rfl⟩ : A = some ⟨g, o, none⟩ ∧ c2 = c' := by injection e with e1 _ e2; exact ⟨e1, e2⟩
          clear e
          obtain ⟨d, hd⟩ : ∃ d, d = xs.getD k 0 := ⟨_, rfl⟩
          have hd1 : d ≤ 1 := by rw [hd]; exact Rw.bits_get hxb k
          rw [← hd] at hxk
          have HS := Lib.hid (show pwL x' (xs.drop k) p' = pwL (Fx.mul x' x') (xs.drop (k + 1)) (if d = 1 then Fx.mul p' x' else p') by
            rw [List.drop_eq_getElem_cons hlt, pwL, hd, List.getD_eq_getElem?_getD, List.getElem?_eq_getElem hlt]; rfl)
          clear hd
          by_cases h1 : d = 1
          · have e1 : ((d : Int) == 1) = true := beq_iff_eq.2 (by omega)
            have HT := Lib.hid (show pwL (Fx.mul x' x') (xs.drop (k + 1)) (Fx.mul p' x') = pwL x xs 4611686018427387904 by rw [← HV.out, HS.out, if_pos h1])
            clear h1
            go_wp2_with fail
            refine (refMul_any p' x' _ hp' hx').mono ?_
            rintro e w2 ⟨rfl, hb2⟩
            have B2 := Lib.hid (hB.trans (hb2.mono hB.size)); clear hb2
            go_wp2_with fail
            refine (refMul_any x' x' _ hx' hx').mono ?_
            rintro e w3 ⟨rfl, hb3⟩
            have B3 := Lib.hid (B2.out.trans (hb3.mono B2.out.size)); clear hb3
            go_wp2_with fail
            go_roundw
            case rel => exact ⟨k + 1, Fx.mul x' x', Fx.mul p' x', rfl, rfl, by go_num, by omega, hm1, hm2, HT.out, B3.out⟩
            case measure => simp [intOf]; omega
          · have e1 : ((d : Int) == 1) = false := beq_eq_false_iff_ne.2 (by omega)
            have HT := Lib.hid (show pwL (Fx.mul x' x') (xs.drop (k + 1)) p' = pwL x xs 4611686018427387904 by rw [← HV.out, HS.out, if_neg h1])
            clear h1
            go_wp2_with fail
            refine (refMul_any x' x' _ hx' hx').mono ?_
            rintro e w3 ⟨rfl, hb3⟩
            have B3 := Lib.hid (hB.trans (hb3.mono hB.size)); clear hb3
            go_wp2_with fail
            go_roundw
            case rel => exact ⟨k + 1, Fx.mul x' x', p', rfl, rfl, by go_num, by omega, hm1, hp', HT.out, B3.out⟩
            case measure => simp [intOf]; omega
      · have e0 : decide (k < xs.length) = false := by simpa using hlt
        have E := Lib.hid (show p' = Fx.pw x m 4611686018427387904 by
          have h1 := HV.out
          rw [List.drop_eq_nil_of_le (by omega), pwL_pw xs x _ hxb, VX.out] at h1
          exact h1)
        have BF := Lib.hid (B1.out.trans (hB.mono B1.out.size))
        go_wp2_with fail
        go_ret2
        exact ⟨by rw [← E.out]; rfl, BF.out⟩
end Go.Proofs.YtkcecmofbppodaaDoor
