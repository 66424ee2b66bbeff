/- the reference of layer 1: Row RefA RefB RefC RefD RefE RefF RefG RefH. -/
import Derived.Test.YtnlckkahkghneaaGreatDoorChecked
import Derived.WalkKit
import Derived.IntWalk
import Derived.Below
import Derived.LoopTactic
import Derived.Lib.Hide
import Derived.Laws.OwnMore
import Derived.OwnWalk
import Derived.Test.YtnlckkahkghneaaGreatDoorGFn
import Derived.Deep.RegionLaw
import Derived.Deep.DeepCutAuto
import Derived.Test.YtnlckkahkghneaaGreatDoorGFx
set_option maxRecDepth 20000
namespace Go.Proofs.YtnlckkahkghneaaGreatDoor.FX.Rw

def val : List Nat → Nat
  | [] => 0
  | b :: l => b + 2 * val l
def Bits (l : List Nat) : Prop := ∀ b ∈ l, b ≤ 1

theorem Bits.cons {b : Nat} {l : List Nat} (h : Bits (b :: l)) : b ≤ 1 ∧ Bits l := ⟨h b (by simp), fun x hx => h x (by simp [hx])⟩
theorem bits_snoc {l : List Nat} {b : Nat} (h : Bits l) (hb : b ≤ 1) : Bits (l ++ [b]) := by
  intro x hx
  rcases List.mem_append.1 hx with h1 | h1
  · exact h x h1
  · rw [List.mem_singleton.1 h1]; exact hb
theorem bits_append {l m : List Nat} (h : Bits l) (k : Bits m) : Bits (l ++ m) := by
  intro x hx
  rcases List.mem_append.1 hx with h1 | h1
  · exact h x h1
  · exact k x h1
theorem val_append : ∀ (l m : List Nat), val (l ++ m) = val l + 2 ^ l.length * val m
  | [], m => by simp [val]
  | b :: l, m => by
    simp only [List.cons_append, val, val_append l m, List.length_cons, Nat.pow_succ]
    rw [Nat.mul_right_comm, Nat.mul_comm (2 ^ l.length * val m) 2]
    omega
theorem val_snoc (l : List Nat) (b : Nat) : val (l ++ [b]) = val l + 2 ^ l.length * b := by rw [val_append]; simp [val]
theorem val_zeros : ∀ n, val (List.replicate n 0) = 0
  | 0 => rfl
  | n + 1 => by rw [List.replicate_succ, val, val_zeros n]
theorem bits_zeros (n : Nat) : Bits (List.replicate n 0) := by
  intro b hb
  rw [(List.mem_replicate.1 hb).2]
  omega
theorem bits_get {l : List Nat} (h : Bits l) (k : Nat) : l.getD k 0 ≤ 1 := by
  rw [List.getD_eq_getElem?_getD]
  rcases Nat.lt_or_ge k l.length with hk | hk
  · rw [List.getElem?_eq_getElem hk]; exact h _ (List.getElem_mem hk)
  · rw [List.getElem?_eq_none hk]; simp
theorem val_drop_succ (l : List Nat) (k : Nat) : val (l.drop k) = l.getD k 0 + 2 * val (l.drop (k + 1)) := by
  rcases Nat.lt_or_ge k l.length with hk | hk
  · rw [List.drop_eq_getElem_cons hk, val, List.getD_eq_getElem?_getD, List.getElem?_eq_getElem hk]; rfl
  · rw [List.drop_eq_nil_of_le hk, List.drop_eq_nil_of_le (by omega), List.getD_eq_getElem?_getD, List.getElem?_eq_none hk]; simp [val]
theorem val_drop_div : ∀ (k : Nat) {l : List Nat}, Bits l → val (l.drop k) = val l / 2 ^ k
  | 0, l, _ => by simp
  | k + 1, [], _ => by simp [val]
  | k + 1, b :: l, h => by
    have h1 := h.cons
    rw [List.drop_succ_cons, val_drop_div k h1.2, Nat.pow_succ, Nat.mul_comm (2 ^ k) 2, ← Nat.div_div_eq_div_mul, val]
    congr 1
    omega

/-- The row of a number. -/
theorem step_div (v n : Nat) (h : v < 2 ^ (n + 1)) : v / 2 < 2 ^ n := by rw [Nat.pow_succ] at h; omega
theorem pow_two_step (k v s : Nat) : s + 2 ^ k * v = (s + 2 ^ k * (v % 2)) + 2 ^ (k + 1) * (v / 2) := by
  have e : v = v % 2 + 2 * (v / 2) := by omega
  rw [Nat.pow_succ, Nat.mul_assoc, Nat.add_assoc, ← Nat.mul_add, ← e]

/-- What a row stands for, or the most. -/
def cap (l : List Nat) : Nat := if 18446744073709551615 < val l then 18446744073709551615 else val l
theorem cap_high {l : List Nat} {k : Nat} (hl : Bits l) (hk : 64 ≤ k) (h : l.getD k 0 = 1) : cap l = 18446744073709551615 := by
  have h1 := val_drop_succ l k
  have h2 := val_drop_div k hl
  have h3 : 1 ≤ val l / 2 ^ k := by omega
  have h4 : 2 ^ k ≤ val l := by
    rcases Nat.lt_or_ge (val l) (2 ^ k) with h | h
    · rw [Nat.div_eq_of_lt h] at h3; omega
    · exact h
  have h5 : 2 ^ 64 ≤ 2 ^ k := Nat.pow_le_pow_right (by omega) hk
  unfold cap
  rw [if_pos (by omega)]
theorem cap_low {l : List Nat} (hl : Bits l) (h : val (l.drop 64) = 0) : cap l = val l := by
  rw [val_drop_div 64 hl] at h
  have : val l < 2 ^ 64 := by
    rcases Nat.lt_or_ge (val l) (2 ^ 64) with h1 | h1
    · exact h1
    · have := Nat.div_pos h1 (Nat.two_pow_pos 64)
      omega
  unfold cap
  rw [if_neg (by omega)]
theorem low_lt {l : List Nat} {k : Nat} (hl : Bits l) (h : val (l.drop 64) = 0) : val (l.drop k) ≤ 18446744073709551615 := by
  rw [val_drop_div 64 hl] at h
  rw [val_drop_div k hl]
  have : val l < 2 ^ 64 := by
    rcases Nat.lt_or_ge (val l) (2 ^ 64) with h1 | h1
    · exact h1
    · have := Nat.div_pos h1 (Nat.two_pow_pos 64)
      omega
  have := Nat.div_le_self (val l) (2 ^ k)
  omega
end Go.Proofs.YtnlckkahkghneaaGreatDoor.FX.Rw
namespace Go.Proofs.YtnlckkahkghneaaGreatDoor.FX
open Go.RowKit

theorem infoInt : (Tryz.prog.info? 3).map (fun i => (i.zero, i.size, i.bytes)) = some (some (.int .i64 0), 1, 8) := by kernel_rfl
def ints (xs : List Nat) : List Value := xs.map fun n : Nat => Value.int .i64 (n : Int)
theorem ints_snoc (xs : List Nat) (b : Nat) : ints (xs ++ [b]) = ints xs ++ [.int .i64 (b : Int)] := by simp [ints]
theorem ints_get (xs : List Nat) (j : Nat) (h : j < xs.length) : (ints xs)[j]? = some (.int .i64 ((xs.getD j 0 : Nat) : Int)) := by
  simp [ints, List.getD_eq_getElem?_getD, List.getElem?_eq_getElem h]

/-- A slice of ints that reads as a row of numbers. -/
def Rd (w : World) (v : Value) (xs : List Nat) : Prop := xs.length ≤ 1000000 ∧
  ((xs = [] ∧ ∃ A c, v = .slice A 0 c) ∨
   ∃ g o c, v = .slice (some ⟨g, o, none⟩) xs.length c ∧ g < w.heap.size ∧ xs.length ≤ c ∧ c ≤ maxLen ∧ ∀ j, j < xs.length → w.cell? ⟨g, o + j, none⟩ = some (.int .i64 ((xs.getD j 0 : Nat) : Int)))
theorem Rd.below {w w' : World} {v : Value} {xs : List Nat} (h : Rd w v xs) {B : Nat} (hb : Below B w w') (hB : w.heap.size ≤ B) : Rd w' v xs := by
  refine ⟨h.1, ?_⟩
  rcases h.2 with h1 | ⟨g, o, c, e, hg, hc, hm, hx⟩
  · exact Or.inl h1
  · exact Or.inr ⟨g, o, c, e, Nat.lt_of_lt_of_le hg hb.size, hc, hm, fun j hj => (hb.cell (p := ⟨g, o + j, none⟩) (by show g < B; omega)).trans (hx j hj)⟩
theorem Rd.of_own {w : World} {base : Nat} {v : Value} {xs : List Nat} (h : w.ownsRow base 3 1 v xs.length (ints xs)) (hl : xs.length ≤ 1000000) : Rd w v xs := by
  refine ⟨hl, ?_⟩
  rcases h.2 with ⟨rfl, hn⟩ | ⟨g, cap, cur, rfl, hb, hh, hc, hm, hs, ht⟩
  · exact Or.inl ⟨List.eq_nil_of_length_eq_zero hn, none, 0, rfl⟩
  · refine Or.inr ⟨g, 0, cap, rfl, ?_, hc, hm, fun j hj => ?_⟩
    · exact (h.lt g rfl).2
    · rw [Nat.zero_add, h.cellAt j (by omega), ints_get xs j hj]

def RowPost (v : Nat) (w : World) (e : Ending) (w' : World) : Prop := ∃ r xs, e = .returned r ∧ w'.ownsRow w.heap.size 3 1 r xs.length (ints xs) ∧ Rw.Bits xs ∧ Rw.val xs = v ∧ xs.length ≤ 64 ∧ Below w.heap.size w w'
def RowRel (v : Nat) (w : World) (a s : Value) (W : World) : Prop := ∃ u xs, a = .int .u64 (u : Nat) ∧ u ≤ 18446744073709551615 ∧ W.ownsRow w.heap.size 3 1 s (List.length xs) (ints xs) ∧ Rw.Bits xs ∧ Rw.val xs + 2 ^ xs.length * u = v ∧ xs.length ≤ 64 ∧ u < 2 ^ (64 - xs.length) ∧ Below w.heap.size w W

theorem rel_row {v : Nat} {w W w1 : World} {s v' : Value} {u b m : Nat} {xs : List Nat} {o : Obj} (hu0 : 0 < u) (hb : b = u % 2) (hm : m = u / 2)
    (hown : W.ownsRow w.heap.size 3 1 s xs.length (ints xs)) (hbits : Rw.Bits xs) (hv : Rw.val xs + 2 ^ xs.length * u = v) (hl : xs.length ≤ 64) (hlt : u < 2 ^ (64 - xs.length)) (hB : Below w.heap.size w W)
    (hown' : w1.ownsRow w.heap.size 3 1 v' (xs.length + 1) (ints xs ++ [.int .i64 (b : Int)])) (hg : (W.alloc o).grownBy w1 s.ownBlock) :
    w1.ownsRow w.heap.size 3 1 v' (xs ++ [b]).length (ints (xs ++ [b])) ∧ Rw.Bits (xs ++ [b]) ∧ Rw.val (xs ++ [b]) + 2 ^ (xs ++ [b]).length * m = v ∧ (xs ++ [b]).length ≤ 64 ∧ m < 2 ^ (64 - (xs ++ [b]).length) ∧ Below w.heap.size w w1 := by
  have hl2 : xs.length ≤ 63 := by
    rcases Nat.lt_or_ge xs.length 64 with h | h
    · omega
    · rw [show 64 - xs.length = 0 by omega] at hlt; simp at hlt; omega
  refine ⟨?_, Rw.bits_snoc hbits (by omega), ?_, by simp; omega, ?_, (hB.alloc hB.size o).grown hg (by simp; have := hB.size; omega) (fun j hj => (hown.lt j hj).1)⟩
  · rw [ints_snoc, List.length_append]; exact hown'
  · rw [Rw.val_snoc, List.length_append, hb, hm, ← hv]
    exact (Rw.pow_two_step xs.length u (Rw.val xs)).symm
  · rw [hm, List.length_append]
    refine Rw.step_div u _ ?_
    rw [show 64 - (xs.length + [b].length) + 1 = 64 - xs.length by simp; omega]
    exact hlt

set_option maxHeartbeats 1000000 in
theorem row_any (v : Nat) (w : World) (hv : v ≤ 18446744073709551615) :
    Calls Tryz.prog 130 #[.int .u64 v] w (RowPost v w) := by
  obtain ⟨i0, hi, hz0, hz1, hz2⟩ := info_parts infoInt
  go_enter Tryz.func130, Tryz.ntmps130
  go_wp2_with fail
  go_loopw [0, 3] (fun a s W => RowRel v w a s W) (fun a _ _ => (intOf a).toNat)
  case atStart => exact ⟨v, [], rfl, hv, World.ownsRow_nil _ _ _ _, (fun b hb => absurd hb (by simp)), by simp [Rw.val], by simp, by simp; omega, Below.refl _ _⟩
  case round =>
    obtain ⟨u, xs, rfl, hu, hown, hbits, hval, hl, hlt, hB⟩ := hrel
    have HV := Lib.hid hval; clear hval
    have HL := Lib.hid hlt; clear hlt
    by_cases h0 : 0 < u
    · have e0 : decide (0 < u) = true := by simpa using h0
      obtain ⟨b, hb⟩ : ∃ b, b = u % 2 := ⟨_, rfl⟩
      obtain ⟨m, hm⟩ : ∃ m, m = u / 2 := ⟨_, rfl⟩
      have e1 : (u : Int) % 2 = (b : Int) := by omega
      have e2 : (u : Int) / 2 = (m : Int) := by omega
      have hb1 : b ≤ 1 := by omega
      have hm1 : m < u := by omega
      have HB := Lib.hid hb; clear hb
      have HM := Lib.hid hm; clear hm
      have hsz := hB.size
      go_wp2_with (at_builtin; refine wpList_append_own _ rfl _ _ 210 rfl w.heap.size 3 i0 (.int .i64 0) 1 8 Tryz.underlying210 hi hz0 hz1 hz2 rfl (by decide) _ _ _ rfl (hown.alloc _) ⟨wr.heap.size, 0, none⟩ 1 1 [.int .i64 (b : Int)] rfl rfl ?c1 ?c2 ?c3 ?c4 ?c5 ?_)
      case c1 =>
        intro j x hj
        match j, hj with
        | 0, hj => simp at hj; subst hj; simp [Addr.add]
      case c2 => intro x hx; simp at hx; subst hx; rfl
      case c3 => unfold maxLen; omega
      case c4 => omega
      case c5 => simp; omega
      intro v' w1 hown' hg _
      have R := Lib.hid (rel_row h0 HB.out HM.out hown hbits HV.out hl HL.out hB hown' hg)
      clear hown' hg hown hbits
      go_wp2_with fail
      go_roundw
      case rel => exact ⟨m, xs ++ [b], rfl, by omega, R.out⟩
      case measure => simp [intOf]; omega
    · have e0 : decide (0 < u) = false := by simpa using h0
      have E := Lib.hid (show Rw.val xs = v by have := HV.out; rw [show u = 0 by omega] at this; simpa using this)
      go_wp2_with fail
      go_ret
      exact ⟨_, xs, rfl, hown, hbits, E.out, hl, hB⟩

end Go.Proofs.YtnlckkahkghneaaGreatDoor.FX
namespace Go.Proofs.YtnlckkahkghneaaGreatDoor.FX
open Go.RowKit

theorem Rd.shape {w : World} {v : Value} {xs : List Nat} (h : Rd w v xs) : ∃ A c, v = .slice A xs.length c := by
  rcases h.2 with ⟨rfl, A, c, rfl⟩ | ⟨g, o, c, rfl, _⟩
  · exact ⟨A, c, rfl⟩
  · exact ⟨_, c, rfl⟩

def WhRel (xs : List Nat) (a i : Value) : Prop := ∃ (z : Int) (k t : Nat), i = .int .i64 z ∧ z + 1 = (k : Int) ∧ k ≤ xs.length ∧ a = .int .u64 (t : Int) ∧ t ≤ 18446744073709551615 ∧ t = Rw.val (xs.drop k) ∧ Rw.val (xs.drop (max k 64)) = 0

theorem wh_step {xs : List Nat} {m t b : Nat} (hb : b = xs.getD m 0) (ht : t = Rw.val (xs.drop (m + 1))) : Rw.val (xs.drop m) = b + 2 * t := by rw [Rw.val_drop_succ, hb, ht]
theorem wh_high {xs : List Nat} {m t b : Nat} (hb : b = 0) (hm : 64 ≤ m) (hs : Rw.val (xs.drop m) = b + 2 * t) (ht : t = Rw.val (xs.drop (m + 1))) (h0 : Rw.val (xs.drop (max (m + 1) 64)) = 0) : t = Rw.val (xs.drop m) ∧ Rw.val (xs.drop (max m 64)) = 0 := by
  rw [show max (m + 1) 64 = m + 1 by omega, ← ht] at h0
  rw [show max m 64 = m by omega, hs, h0]
  omega
theorem wh_low {xs : List Nat} {m t b : Nat} (hx : Rw.Bits xs) (hm : m < 64) (hs : Rw.val (xs.drop m) = b + 2 * t) (h0 : Rw.val (xs.drop (max (m + 1) 64)) = 0) : t * 2 + b ≤ 18446744073709551615 ∧ t * 2 + b = Rw.val (xs.drop m) ∧ Rw.val (xs.drop (max m 64)) = 0 := by
  rw [show max (m + 1) 64 = 64 by omega] at h0
  have := Rw.low_lt (k := m) hx h0
  rw [show max m 64 = 64 by omega, h0]
  omega

set_option maxHeartbeats 2000000 in
set_option maxRecDepth 100000 in
theorem whole_row (v : Value) (xs : List Nat) (w : World) (h : Rd w v xs) (hx : Rw.Bits xs) :
    Calls Tryz.prog 131 #[v] w fun e w' => e = .returned (.int .u64 (Rw.cap xs : Nat)) ∧ w = w' := by
  have hl := h.1
  obtain ⟨A, c, rfl⟩ := h.shape
  have HR := Lib.hid h
  clear h
  go_enter Tryz.func131, Tryz.ntmps131
  go_wp2_with fail
  go_loop [3, 4] (fun a i => WhRel xs a i) (fun _ i => (intOf i + 1).toNat)
  case atStart => exact ⟨_, xs.length, 0, rfl, by omega, Nat.le_refl _, rfl, by omega, by rw [List.drop_length]; rfl, by rw [List.drop_eq_nil_of_le (by omega)]; rfl⟩
  case round =>
    obtain ⟨z, k, t, rfl, hz, hk, rfl, ht, hv, h0⟩ := hrel
    have HV := Lib.hid hv; clear hv
    have H0 := Lib.hid h0; clear h0
    by_cases hz0 : 0 ≤ z
    · obtain ⟨m, rfl⟩ := Int.eq_ofNat_of_zero_le hz0
      obtain rfl : k = m + 1 := by omega
      clear hz
      have e0 : decide (0 ≤ (m : Int)) = true := by simp
      rcases HR.out.2 with ⟨h1, _⟩ | ⟨g, o, c', e, hg, hc, hm, hcell⟩
      · exfalso; rw [h1] at hk; simp at hk
      · have hxm := hcell m (by omega)
        clear hcell
        unfold maxLen at hm
        obtain ⟨rfl, rfl⟩ : A = some ⟨g, o, none⟩ ∧ c = c' := by injection e with e1 _ e2; exact ⟨e1, e2⟩
        clear e
        obtain ⟨b, hb⟩ : ∃ b, b = xs.getD m 0 := ⟨_, rfl⟩
        have hb1 : b ≤ 1 := by rw [hb]; exact Rw.bits_get hx m
        rw [← hb] at hxm
        have HS := Lib.hid (wh_step hb HV.out)
        by_cases h1 : b = 1
        · have e1 : ((b : Int) == 1) = true := beq_iff_eq.2 (by omega)
          by_cases h63 : 63 < m
          · have e2 : decide (63 < (m : Int)) = true := by simp; omega
            have E := Lib.hid (Rw.cap_high (k := m) hx (by omega) (by rw [← hb]; exact h1))
            clear hb h1
            go_wp2_with fail
            go_ret
            exact ⟨congrArg (fun n : Nat => Ending.returned (.int .u64 (n : Int))) E.out.symm, rfl⟩
          · have e2 : decide (63 < (m : Int)) = false := by simp; omega
            have e3 : decide ((m : Int) < 64) = true := by simp; omega
            obtain ⟨q1, q2, q3⟩ := wh_low hx (by omega) HS.out H0.out
            have Q2 := Lib.hid q2; clear q2
            have Q3 := Lib.hid q3; clear q3
            clear hb h1
            go_wp2_with fail
            go_round
            case rel => exact ⟨_, m, t * 2 + b, rfl, by omega, by omega, by go_num, q1, Q2.out, Q3.out⟩
            case measure => simp [intOf]
        · have e1 : ((b : Int) == 1) = false := beq_eq_false_iff_ne.2 (by omega)
          by_cases h64 : m < 64
          · have e3 : decide ((m : Int) < 64) = true := by simp; omega
            obtain ⟨q1, q2, q3⟩ := wh_low hx (by omega) HS.out H0.out
            have Q2 := Lib.hid q2; clear q2
            have Q3 := Lib.hid q3; clear q3
            clear hb h1
            go_wp2_with fail
            go_round
            case rel => exact ⟨_, m, t * 2 + b, rfl, by omega, by omega, by go_num, q1, Q2.out, Q3.out⟩
            case measure => simp [intOf]
          · have e3 : decide ((m : Int) < 64) = false := by simp; omega
            have Q := Lib.hid (wh_high (by omega) (by omega) HS.out HV.out H0.out)
            clear hb h1
            go_wp2_with fail
            go_round
            case rel => exact ⟨_, m, t, rfl, by omega, by omega, rfl, by omega, Q.out.1, Q.out.2⟩
            case measure => simp [intOf]
    · have e0 : decide (0 ≤ z) = false := by simpa using hz0
      have E := Lib.hid (show Rw.cap xs = t by
        have e1 := H0.out
        rw [show max k 64 = 64 by omega] at e1
        have e2 := HV.out
        rw [show k = 0 by omega, List.drop_zero] at e2
        rw [Rw.cap_low hx e1, e2])
      go_wp2_with fail
      go_ret
      exact ⟨congrArg (fun n : Nat => Ending.returned (.int .u64 (n : Int))) E.out.symm, rfl⟩

end Go.Proofs.YtnlckkahkghneaaGreatDoor.FX
namespace Go.Proofs.YtnlckkahkghneaaGreatDoor.FX
open Go.RowKit

end Go.Proofs.YtnlckkahkghneaaGreatDoor.FX
namespace Go.Proofs.YtnlckkahkghneaaGreatDoor.FX
open Go.RowKit

def RetN (v : Nat) (w : World) (e : Ending) (w' : World) : Prop := e = .returned (.int .u64 v) ∧ Below w.heap.size w w'

end Go.Proofs.YtnlckkahkghneaaGreatDoor.FX
namespace Go.Proofs.YtnlckkahkghneaaGreatDoor.FX
open Go.RowKit

def LRow (a : Nat) (w : World) (v : Value) (W : World) : Prop := ∃ xs, W.ownsRow w.heap.size 3 1 v (62 + xs.length) (ints (List.replicate 62 0 ++ xs)) ∧ Rw.Bits xs ∧ Rw.val xs = a ∧ xs.length ≤ 64 ∧ Below w.heap.size w W

def zeros62 : Array Value := (List.replicate 62 (Value.int .i64 0)).toArray
theorem make62 (W : World) : (Instr.makeSlice 210 (.int .i64 62) (.int .i64 62)).run Tryz.prog W = .ok (.slice (some ⟨W.heap.size, 0, none⟩) 62 62) (W.alloc (.cells zeros62 3)) := by kernel_rfl

theorem own_below {w w' : World} {base n : Nat} {e : TypeId} {v : Value} {xs : List Value} (h : w.ownsRow base e 1 v n xs) (hb : Below w.heap.size w w') : w'.ownsRow base e 1 v n xs := by
  refine ⟨h.1, ?_⟩
  rcases h.2 with h1 | ⟨g, cap, cur, rfl, hg, hh, r⟩
  · exact Or.inl h1
  · exact Or.inr ⟨g, cap, cur, rfl, hg, (hb.block g (h.lt g rfl).2).trans hh, r⟩
theorem own_base {w : World} {base base' n : Nat} {e : TypeId} {v : Value} {xs : List Value} (h : w.ownsRow base e 1 v n xs) (hb : base' ≤ base) : w.ownsRow base' e 1 v n xs := by
  refine ⟨h.1, ?_⟩
  rcases h.2 with h1 | ⟨g, cap, cur, rfl, hg, r⟩
  · exact Or.inl h1
  · exact Or.inr ⟨g, cap, cur, rfl, Nat.le_trans hb hg, r⟩
theorem ints_zeros (n : Nat) : ints (List.replicate n 0) = List.replicate n (Value.int .i64 0) := by simp [ints]
theorem zeros_own (W : World) : (W.alloc (.cells zeros62 3)).ownsRow W.heap.size 3 1 (.slice (some ⟨W.heap.size, 0, none⟩) 62 62) (List.replicate 62 (0 : Nat)).length (ints (List.replicate 62 0)) := by
  rw [ints_zeros, List.length_replicate]
  have h := World.ownsRow_lit (base := W.heap.size) (e := 3) (size := 1) W (List.replicate 62 (Value.int .i64 0)).toArray 62 (Nat.le_refl _) (by unfold maxLen; omega) (by simp)
  exact h

theorem step_rows {ops : Array Oper} {o : Oper} {a : Act} {w : World} {K : Act → World → Prop} {Q : Exit → Act → World → Prop} {E : Prop} (hgd : o.guard = none) (s x : Operand)
    (ho : o.op = .call { callee := .builtin .append, args := #[s, x], argTypes := #[210, 210] }) (base base' : Nat) (v r : Value) (xs ys : List Nat) (hs : a.eval s = v) (hx : a.eval x = r)
    (hown : w.ownsRow base 3 1 v xs.length (ints xs)) (hr : w.ownsRow base' 3 1 r ys.length (ints ys)) (hl : xs.length + ys.length ≤ 1000000) (hbase : base ≤ w.heap.size)
    (h : ∀ v' w', w'.ownsRow base 3 1 v' (xs.length + ys.length) (ints xs ++ ints ys) → w.grownBy w' v.ownBlock → K (a.put o.dst v') w') :
    if Region.wanted o (yielded ops a.tmps) = true then Oper.wp Tryz.prog o a w K Q else E := by
  have hw : Region.wanted o (yielded ops a.tmps) = true := by simp [Region.wanted, hgd]
  rw [if_pos hw]
  obtain ⟨i0, hi, hz0, hz1, hz2⟩ := info_parts infoInt
  rcases hr.2 with ⟨rfl, hn⟩ | ⟨g, cap, cur, rfl, _⟩
  · have hy : ys = [] := List.eq_nil_of_length_eq_zero hn
    subst hy
    have hrun := run_append_owned_none (P := Tryz.prog) (w := w) base 210 o.type 3 i0 1 Tryz.underlying210 hi v xs.length (ints xs) hown
    have hk := h v w (by simpa [ints] using hown) (World.grownBy.refl w _)
    unfold Oper.wp
    simp [execOp, ho, resolve, invoke, builtin, hs, hx, hrun, Result.andThen]
    exact hk
  · refine wp_append_own w s x 210 ho base 3 i0 (.int .i64 0) 1 8 Tryz.underlying210 hi hz0 hz1 hz2 rfl (by decide) v xs.length (ints xs) hs hown ⟨g, 0, none⟩ ys.length cap (ints ys) hx (by simp [ints]) (hr.cells rfl) ?_ (by unfold maxLen; omega) (by omega) hbase (fun v' w' h2 h3 _ => h v' w' h2 h3)
    intro u hu
    obtain ⟨n, _, rfl⟩ := List.mem_map.1 hu
    rfl

theorem lrowA {a : Nat} {w w1 w2 : World} {r1 v' : Value} {xs : List Nat} (R : w1.ownsRow (w.alloc (.cells zeros62 3)).drew.heap.size 3 1 r1 xs.length (ints xs) ∧ Rw.Bits xs ∧ Rw.val xs = a ∧ xs.length ≤ 64 ∧ Below (w.alloc (.cells zeros62 3)).drew.heap.size (w.alloc (.cells zeros62 3)).drew w1)
    (S : w2.ownsRow w.heap.size 3 1 v' ((List.replicate 62 (0 : Nat)).length + xs.length) (ints (List.replicate 62 0) ++ ints xs) ∧ w1.grownBy w2 (Value.ownBlock (.slice (some ⟨w.heap.size, 0, none⟩) 62 62))) : LRow a w v' w2 := by
  obtain ⟨_, h2, h3, h4, h5⟩ := R
  have hb : Below w.heap.size w w1 := (((Below.refl _ _).alloc (Nat.le_refl _) _).drew).trans (h5.mono (by simp))
  refine ⟨xs, ?_, h2, h3, h4, hb.grown S.2 hb.size (fun k hk => ?_)⟩
  · have := S.1
    rw [List.length_replicate] at this
    simpa [ints] using this
  · simp [Value.ownBlock] at hk; omega
theorem lrowB {a : Nat} {w w1 w2 : World} {r1 v' : Value} {xs : List Nat} (R : w1.ownsRow w.drew.heap.size 3 1 r1 xs.length (ints xs) ∧ Rw.Bits xs ∧ Rw.val xs = a ∧ xs.length ≤ 64 ∧ Below w.drew.heap.size w.drew w1)
    (S : w2.ownsRow w.heap.size 3 1 v' ((List.replicate 62 (0 : Nat)).length + xs.length) (ints (List.replicate 62 0) ++ ints xs) ∧ (w1.alloc (.cells zeros62 3)).grownBy w2 (Value.ownBlock (.slice (some ⟨w1.heap.size, 0, none⟩) 62 62))) : LRow a w v' w2 := by
  obtain ⟨_, h2, h3, h4, h5⟩ := R
  have hb : Below w.heap.size w w1 := ((Below.refl _ _).drew).trans h5
  refine ⟨xs, ?_, h2, h3, h4, (hb.alloc hb.size _).grown S.2 (by have := hb.size; simp; omega) (fun k hk => ?_)⟩
  · have := S.1
    rw [List.length_replicate] at this
    simpa [ints] using this
  · simp [Value.ownBlock] at hk
    have := hb.size
    omega

namespace Rw
theorem val_shift (xs : List Nat) : val (List.replicate 62 0 ++ xs) = val xs * 4611686018427387904 := by
  rw [val_append, val_zeros, List.length_replicate, Nat.zero_add, Nat.mul_comm]
theorem drop_set (qs : List Nat) (m : Nat) (h : m < qs.length) : val ((qs.set m 1).drop m) = 1 + 2 * val (qs.drop (m + 1)) := by
  rw [val_drop_succ, List.drop_set_of_lt (by omega), List.getD_eq_getElem?_getD, List.getElem?_set_self h]
  rfl
theorem bits_set {qs : List Nat} (h : Bits qs) (m : Nat) : Bits (qs.set m 1) := by
  intro b hb
  rcases List.mem_or_eq_of_mem_set hb with h1 | h1
  · exact h b h1
  · omega
theorem zero_set {qs : List Nat} {m : Nat} (h : ∀ j, j < m + 1 → qs.getD j 0 = 0) : ∀ j, j < m → (qs.set m 1).getD j 0 = 0 := by
  intro j hj
  rw [List.getD_eq_getElem?_getD, List.getElem?_set_ne (by omega), ← List.getD_eq_getElem?_getD]
  exact h j (by omega)
/-- One digit of the long division. -/
theorem div_step {L qs : List Nat} {m R b d T : Nat} (hd : d = L.getD m 0) (hT : T = 2 * R + d) (hv : val (L.drop (m + 1)) = val (qs.drop (m + 1)) * b + R) : val (L.drop m) = 2 * val (qs.drop (m + 1)) * b + T := by
  rw [val_drop_succ, ← hd, hv, hT, Nat.mul_assoc]
  omega
theorem div_took {x T b : Nat} (h : b ≤ T) : 2 * x * b + T = (1 + 2 * x) * b + (T - b) := by
  rw [Nat.add_mul, Nat.one_mul]
  omega
theorem quo_cap {qs : List Nat} {a b R : Nat} (hb : 0 < b) (hR : R < b) (h : a * 4611686018427387904 = val qs * b + R) : cap qs = Fx.quo a b := by
  have hq : val qs = a * 4611686018427387904 / b := by
    rw [h, Nat.mul_comm, Nat.mul_add_div hb, Nat.div_eq_of_lt hR, Nat.add_zero]
  unfold cap Fx.quo
  rw [← hq]
  by_cases h1 : b ≤ a / 4
  · rw [if_pos h1, if_pos]
    have h2 : 18446744073709551616 ≤ val qs := by
      rw [hq, Nat.le_div_iff_mul_le hb]
      omega
    omega
  · rw [if_neg h1, if_neg]
    have h2 : val qs < 18446744073709551616 := by
      rw [hq, Nat.div_lt_iff_lt_mul hb]
      omega
    omega
end Rw

def OvRel (L : List Nat) (b : Nat) (w3 : World) (qv : Value) (r i : Value) (W : World) : Prop := ∃ (z : Int) (k R : Nat) (qs : List Nat), i = .int .i64 z ∧ z + 1 = (k : Int) ∧ k ≤ L.length ∧ r = .int .u64 (R : Int) ∧ R < b ∧
  W.ownsRow w3.heap.size 3 1 qv qs.length (ints qs) ∧ qs.length = L.length ∧ Rw.Bits qs ∧ (∀ j, j < k → qs.getD j 0 = 0) ∧ Rw.val (L.drop k) = Rw.val (qs.drop k) * b + R ∧ Below w3.heap.size w3 W

theorem rel_took {L qs : List Nat} {b m R d T r2 : Nat} {w3 W : World} {cap : Nat} (hd : d = L.getD m 0) (hT : T = 2 * R + d) (hr : r2 = T - b) (hbT : b ≤ T) (hm : m < L.length)
    (hown : W.ownsRow w3.heap.size 3 1 (.slice (some ⟨w3.heap.size, 0, none⟩) L.length cap) L.length (ints qs)) (hql : qs.length = L.length) (hqb : Rw.Bits qs) (hq0 : ∀ j, j < m + 1 → qs.getD j 0 = 0)
    (hv : Rw.val (L.drop (m + 1)) = Rw.val (qs.drop (m + 1)) * b + R) (hB : Below w3.heap.size w3 W) :
    (W.setCell ⟨w3.heap.size, m, none⟩ (.int .i64 1)).ownsRow w3.heap.size 3 1 (.slice (some ⟨w3.heap.size, 0, none⟩) L.length cap) (qs.set m 1).length (ints (qs.set m 1)) ∧ (qs.set m 1).length = L.length ∧ Rw.Bits (qs.set m 1) ∧
      (∀ j, j < m → (qs.set m 1).getD j 0 = 0) ∧ Rw.val (L.drop m) = Rw.val ((qs.set m 1).drop m) * b + r2 ∧ Below w3.heap.size w3 (W.setCell ⟨w3.heap.size, m, none⟩ (.int .i64 1)) := by
  refine ⟨?_, by rw [List.length_set]; exact hql, Rw.bits_set hqb m, Rw.zero_set hq0, ?_, hB.setCell (Nat.le_refl _) _⟩
  · have h := (hown.stored m (.int .i64 1)).1
    rw [List.length_set, hql]
    have e : ints (qs.set m 1) = (ints qs).set m (.int .i64 1) := by unfold ints; rw [List.map_set]; rfl
    rw [e]
    exact h
  · rw [Rw.div_step hd hT hv, Rw.drop_set qs m (by omega), hr]
    exact Rw.div_took hbT
theorem rel_left {L qs : List Nat} {b m R d T : Nat} (hd : d = L.getD m 0) (hT : T = 2 * R + d) (hq0 : ∀ j, j < m + 1 → qs.getD j 0 = 0)
    (hv : Rw.val (L.drop (m + 1)) = Rw.val (qs.drop (m + 1)) * b + R) :
    (∀ j, j < m → qs.getD j 0 = 0) ∧ Rw.val (L.drop m) = Rw.val (qs.drop m) * b + T := by
  refine ⟨fun j hj => hq0 j (by omega), ?_⟩
  rw [Rw.div_step hd hT hv, Rw.val_drop_succ qs m, hq0 m (by omega), Nat.zero_add]

set_option maxHeartbeats 4000000 in
set_option maxRecDepth 100000 in
theorem over_any (a b : Nat) (w : World) (ha : a ≤ 18446744073709551615) (hb : b ≤ 18446744073709551615) (h0 : 0 < b) :
    Calls Tryz.prog 87 #[.int .u64 a, .int .u64 b] w (RetN (Fx.quo a b) w) := by
  obtain ⟨i0, hi, hz0, hz1, hz2⟩ := info_parts infoInt
  have hmk := make62
  go_enter Tryz.func87, Tryz.ntmps87
  go_upto_region 1 with fail
  go_cut [5] (fun v W => LRow a w v W)
  case first =>
    go_region_law (first
      | (go_simp; refine (row_any a _ ha).mono ?_; rintro e w1 ⟨r1, xs, rfl, hown1, hx, vx, lx, hb1⟩; have R := Lib.hid (And.intro hown1 (And.intro hx (And.intro vx (And.intro lx hb1)))); clear hown1 hx vx lx hb1)
      | (refine step_rows rfl (.tmp 10) (.tmp 12) rfl w.heap.size _ _ _ (List.replicate 62 0) _ rfl rfl (own_below (zeros_own w.drew) R.out.2.2.2.2) R.out.1 (by have := R.out.2.2.2.1; simp; omega) (by have := R.out.2.2.2.2.size; simp at this; omega) ?_; intro v' w2 hown2 hg2; have S := Lib.hid (And.intro hown2 hg2); clear hown2 hg2)
      | (refine step_rows rfl (.tmp 10) (.tmp 12) rfl w.heap.size _ _ _ (List.replicate 62 0) _ rfl rfl (own_base (zeros_own w1) (by have := R.out.2.2.2.2.size; simpa using this)) (R.out.1.alloc _) (by have := R.out.2.2.2.1; simp; omega) (by have := R.out.2.2.2.2.size; simp at this; simp; omega) ?_; intro v' w2 hown2 hg2; have S := Lib.hid (And.intro hown2 hg2); clear hown2 hg2))
    all_goals
      go_wp2_with fail
      go_meet
      first | exact lrowA R.out S.out | exact lrowB R.out S.out
  case rest =>
    clear hmk
    obtain ⟨xs, hown, hx, vx, lx, hb3⟩ := hcut
    have B3 := Lib.hid hb3; clear hb3
    obtain ⟨L, hL⟩ : ∃ L, L = List.replicate 62 0 ++ xs := ⟨_, rfl⟩
    have hLl : L.length = 62 + xs.length := by rw [hL, List.length_append, List.length_replicate]
    have hLb : Rw.Bits L := by rw [hL]; exact Rw.bits_append (Rw.bits_zeros 62) hx
    have VL := Lib.hid (show Rw.val L = a * 4611686018427387904 by rw [hL, Rw.val_shift, vx])
    rw [← hL, ← hLl] at hown
    have hn : L.length ≤ 126 := by omega
    have hn2 : 62 ≤ L.length := by omega
    clear hL hLl vx lx hx
    have RL := Lib.hid (Rd.of_own hown (by omega))
    clear hown
    obtain ⟨A, c, rfl⟩ := RL.out.shape
    go_wp2_with (at_make; refine wpList_make_full _ rfl (.tmp 15) (.tmp 15) 210 rfl wc.heap.size 3 i0 (.int .i64 0) 1 Tryz.underlying210 hi hz0 hz1 .i64 .i64 _ _ L.length rfl rfl rfl rfl (by rw [hz2]; omega) (by unfold maxLen; omega) (Nat.le_refl _) ?_; intro w4 hown4 hg4; have S4 := Lib.hid (And.intro hown4 hg4); clear hown4 hg4)
    have hown4 : w4.ownsRow wc.heap.size 3 1 (.slice (some ⟨wc.heap.size, 0, none⟩) L.length L.length) (List.replicate L.length (0 : Nat)).length (ints (List.replicate L.length 0)) := by
      have := S4.out.1
      rw [Nat.mul_one, show (Value.int IntKind.i64 0).cells = #[Value.int IntKind.i64 0] from rfl, toList_madeCells_one] at this
      rw [ints_zeros, List.length_replicate]
      exact this
    have B4 := Lib.hid ((Below.refl wc.heap.size wc).grown S4.out.2 (Nat.le_refl _) (fun k hk => by cases hk))
    have O4 := Lib.hid hown4; clear hown4 S4
    go_loopw [7, 8] (fun r i W => OvRel L b wc (.slice (some ⟨wc.heap.size, 0, none⟩) L.length L.length) r i W) (fun _ i _ => (intOf i + 1).toNat)
    case atStart =>
      refine ⟨_, L.length, 0, List.replicate L.length 0, rfl, by omega, Nat.le_refl _, rfl, h0, O4.out, by rw [List.length_replicate], Rw.bits_zeros _, ?_, ?_, B4.out⟩
      · intro j _
        rw [List.getD_eq_getElem?_getD, List.getElem?_replicate]
        split <;> rfl
      · rw [List.drop_length, List.drop_eq_nil_of_le (by rw [List.length_replicate]; exact Nat.le_refl _)]
        simp [Rw.val]
    case round =>
      clear B4 O4 hi hz0 hz1 hz2
      obtain ⟨z, k, R, qs, rfl, hz, hk, rfl, hR, hown, hql, hqb, hq0, hv, hB⟩ := hrel
      have HV := Lib.hid hv; clear hv
      have HQ0 := Lib.hid hq0; clear hq0
      rw [hql] at hown
      have HQL := Lib.hid hql; clear hql
      by_cases hz0 : 0 ≤ z
      · obtain ⟨m, rfl⟩ := Int.eq_ofNat_of_zero_le hz0
        obtain rfl : k = m + 1 := by omega
        clear hz
        have e0 : decide (0 ≤ (m : Int)) = true := by simp
        rcases (RL.out.below hB (Nat.le_refl _)).2 with ⟨h1, _⟩ | ⟨g, o, c', e, hg, hc, hmx, hcell⟩
        · exfalso; rw [h1] at hn2; simp at hn2
        · have hxm := hcell m (by omega)
          clear hcell
          unfold maxLen at hmx
          obtain ⟨rfl, rfl⟩ : A = some ⟨g, o, none⟩ ∧ c = c' := by injection e with e1 _ e2; exact ⟨e1, e2⟩
          clear e
          obtain ⟨d, hd⟩ : ∃ d, d = L.getD m 0 := ⟨_, rfl⟩
          have hd1 : d ≤ 1 := by rw [hd]; exact Rw.bits_get hLb m
          rw [← hd] at hxm
          obtain ⟨T, hT⟩ : ∃ T, T = 2 * R + d := ⟨_, rfl⟩
          have hqc : wr.cell? ⟨wc.heap.size, m, none⟩ = some (.int .i64 0) := by
            rw [hown.cellAt m (by omega), ints_get qs m (by rw [HQL.out]; omega), HQ0.out m (by omega)]; rfl
          have hqf := hown.frozenAt m
          by_cases hh : 9223372036854775808 ≤ R
          · obtain ⟨r1, hr1⟩ : ∃ r1, r1 = T - 18446744073709551616 := ⟨_, rfl⟩
            obtain ⟨r2, hr2⟩ : ∃ r2, r2 = T - b := ⟨_, rfl⟩
            have e1 : (R : Int) / 9223372036854775808 = 1 := by omega
            have e2 : IntKind.u64.wrap (IntKind.u64.wrap ((R : Int) * 2) + (d : Int)) = (r1 : Int) := by simp only [IntKind.wrap_u64]; omega
            have e3 : IntKind.u64.wrap ((r1 : Int) - (b : Int)) = (r2 : Int) := by simp only [IntKind.wrap_u64]; omega
            have hr3 : r2 < b := by omega
            have Q := Lib.hid (rel_took hd hT hr2 (by omega) (by omega) hown HQL.out hqb HQ0.out HV.out hB)
            clear hd hT hr1 hr2 hown hqb
            go_wp2_with fail
            go_roundw
            case rel => exact ⟨_, m, r2, qs.set m 1, rfl, by omega, by omega, rfl, hr3, Q.out⟩
            case measure => simp [intOf]
          · have e1 : (R : Int) / 9223372036854775808 = 0 := by omega
            have e2 : (R : Int) * 2 + (d : Int) = (T : Int) := by omega
            have hR2 : R ≤ 9223372036854775807 := by omega
            by_cases hbT : b ≤ T
            · obtain ⟨r2, hr2⟩ : ∃ r2, r2 = T - b := ⟨_, rfl⟩
              have e3 : (T : Int) - (b : Int) = (r2 : Int) := by omega
              have e4 : decide (b ≤ T) = true := by simpa using hbT
              have hr3 : r2 < b := by omega
              have hT2 : T ≤ 18446744073709551615 := by omega
              have Q := Lib.hid (rel_took hd hT hr2 (by omega) (by omega) hown HQL.out hqb HQ0.out HV.out hB)
              clear hd hT hr2 hown hqb
              go_wp2_with fail
              go_roundw
              case rel => exact ⟨_, m, r2, qs.set m 1, rfl, by omega, by omega, rfl, hr3, Q.out⟩
              case measure => simp [intOf]
            · have e4 : decide (b ≤ T) = false := by simpa using hbT
              have hT2 : T ≤ 18446744073709551615 := by omega
              have Q := Lib.hid (rel_left hd hT HQ0.out HV.out)
              have O := Lib.hid hown; clear hown
              clear hd hT
              go_wp2_with fail
              go_roundw
              case rel => exact ⟨_, m, T, qs, rfl, by omega, by omega, rfl, by omega, by rw [HQL.out]; exact O.out, HQL.out, hqb, Q.out.1, Q.out.2, hB⟩
              case measure => simp [intOf]
      · have e0 : decide (0 ≤ z) = false := by simpa using hz0
        have E := Lib.hid (Rw.quo_cap (qs := qs) (a := a) h0 hR (by
          have h1 := HV.out
          rw [show k = 0 by omega, List.drop_zero, List.drop_zero, VL.out] at h1
          exact h1))
        have C := Lib.hid (whole_row _ qs _ (Rd.of_own (by rw [HQL.out]; exact hown) (by rw [HQL.out]; omega)) hqb)
        rw [E.out] at C
        have BF := Lib.hid (B3.out.trans (hB.mono B3.out.size))
        clear hown
        go_wp2_with fail
        refine C.out.mono ?_
        rintro e w5 ⟨rfl, rfl⟩
        go_wp2_with fail
        go_ret
        exact ⟨rfl, BF.out⟩
end Go.Proofs.YtnlckkahkghneaaGreatDoor.FX
namespace Go.Proofs.YtnlckkahkghneaaGreatDoor.FX
open Go.RowKit

def RefRet (q code : Nat) (w : World) (e : Ending) (w' : World) : Prop := e = .returned (.tuple #[.int .u64 q, .int .i64 code]) ∧ Below w.heap.size w w'
def wq (m n : Int) : Nat := if m < 0 ∨ n < 1 then 0 else Fx.quo m.toNat n.toNat
def wc (m n : Int) : Nat := if m < 0 ∨ n < 1 then 1 else 0
set_option maxHeartbeats 1000000 in
theorem refWhole_any (m n : Int) (w : World) (hm : m ≤ 9223372036854775807) (hn : n ≤ 9223372036854775807) :
    Calls Tryz.prog 42 #[.int .i64 m, .int .i64 n] w (RefRet (wq m n) (wc m n) w) := by
  by_cases h : m < 0 ∨ n < 1
  · rw [wq, wc, if_pos h, if_pos h]
    by_cases h1 : m < 0
    · have e0 : decide (m < 0) = true := by simpa using h1
      clear h
      go_enter Tryz.func42, Tryz.ntmps42
      go_wp2_with fail
      go_ret2
      exact ⟨rfl, Below.refl _ _⟩
    · have e0 : decide (m < 0) = false := by simpa using h1
      have e1 : decide (n < 1) = true := by simp; omega
      clear h
      go_enter Tryz.func42, Tryz.ntmps42
      go_wp2_with fail
      go_ret2
      exact ⟨rfl, Below.refl _ _⟩
  · rw [wq, wc, if_neg h, if_neg h]
    obtain ⟨a, rfl⟩ := Int.eq_ofNat_of_zero_le (show 0 ≤ m by omega)
    obtain ⟨b, rfl⟩ := Int.eq_ofNat_of_zero_le (show 0 ≤ n by omega)
    have e0 : decide ((a : Int) < 0) = false := by simp
    have e1 : decide ((b : Int) < 1) = false := by simp; omega
    have hp : 0 < b := by omega
    have C := fun W => Lib.hid (over_any a b W (by omega) (by omega) hp)
    clear h
    go_enter Tryz.func42, Tryz.ntmps42
    go_wp2_with fail
    refine (C _).out.mono ?_
    rintro e w' ⟨rfl, hb'⟩
    go_wp2_with fail
    go_ret2
    exact ⟨rfl, hb'⟩
end Go.Proofs.YtnlckkahkghneaaGreatDoor.FX
namespace Go.Proofs.YtnlckkahkghneaaGreatDoor.FX
open Go.RowKit

end Go.Proofs.YtnlckkahkghneaaGreatDoor.FX
namespace Go.Proofs.YtnlckkahkghneaaGreatDoor.FX
open Go.RowKit

end Go.Proofs.YtnlckkahkghneaaGreatDoor.FX
