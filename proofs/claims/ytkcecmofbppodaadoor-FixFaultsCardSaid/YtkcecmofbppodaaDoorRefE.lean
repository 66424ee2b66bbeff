/- The contracts of the reference's quotient at this program: over, Div, Whole. -/
import Derived.Test.YtkcecmofbppodaaDoorRefD
import Derived.Deep.RegionLaw
import Derived.Deep.DeepCutAuto
namespace Go.Proofs.YtkcecmofbppodaaDoor
open Go.RowKit

def LRow (a : Nat) (w : World) (v : Value) (W : World) : Prop := ∃ xs, W.ownsRow w.heap.size 3 1 v (62 + xs.length) (ints (List.replicate 62 0 ++ xs)) ∧ Rw.Bits xs ∧ Rw.val xs = a ∧ xs.length ≤ 64 ∧ Below w.heap.size w W

def zeros62 : Array Value := (List.replicate 62 (Value.int .i64 0)).toArray
theorem make62 (W : World) : (Instr.makeSlice 55 (.int .i64 62) (.int .i64 62)).run Tryd.prog W = .ok (.slice (some ⟨W.heap.size, 0, none⟩) 62 62) (W.alloc (.cells zeros62 3)) := by kernel_rfl

theorem own_below {w w' : World} {base n : Nat} {e : TypeId} {v : Value} {xs : List Value} (h : w.ownsRow base e 1 v n xs) (hb : Below w.heap.size w w') : w'.ownsRow base e 1 v n xs := by
  refine ⟨h.1, ?_⟩
  rcases h.2 with h1 | ⟨g, cap, cur, rfl, hg, hh, r⟩
  · exact Or.inl h1
  · exact Or.inr ⟨g, cap, cur, rfl, hg, (hb.block g (h.lt g rfl).2).trans hh, r⟩
theorem own_base {w : World} {base base' n : Nat} {e : TypeId} {v : Value} {xs : List Value} (h : w.ownsRow base e 1 v n xs) (hb : base' ≤ base) : w.ownsRow base' e 1 v n xs := by
  refine ⟨h.1, ?_⟩
  rcases h.2 with h1 | ⟨g, cap, cur, rfl, hg, r⟩
  · exact Or.inl h1
  · exact Or.inr ⟨g, cap, cur, rfl, Nat.le_trans hb hg, r⟩
theorem ints_zeros (n : Nat) : ints (List.replicate n 0) = List.replicate n (Value.int .i64 0) := by simp [ints]
theorem zeros_own (W : World) : (W.alloc (.cells zeros62 3)).ownsRow W.heap.size 3 1 (.slice (some ⟨W.heap.size, 0, none⟩) 62 62) (List.replicate 62 (0 : Nat)).length (ints (List.replicate 62 0)) := by
  rw [ints_zeros, List.length_replicate]
  have h := World.ownsRow_lit (base := W.heap.size) (e := 3) (size := 1) W (List.replicate 62 (Value.int .i64 0)).toArray 62 (Nat.le_refl _) (by unfold maxLen; omega) (by simp)
  exact h

theorem step_rows {ops : Array Oper} {o : Oper} {a : Act} {w : World} {K : Act → World → Prop} {Q : Exit → Act → World → Prop} {E : Prop} (hgd : o.guard = none) (s x : Operand)
    (ho : o.op = .call { callee := .builtin .append, args := #[s, x], argTypes := #[55, 55] }) (base base' : Nat) (v r : Value) (xs ys : List Nat) (hs : a.eval s = v) (hx : a.eval x = r)
    (hown : w.ownsRow base 3 1 v xs.length (ints xs)) (hr : w.ownsRow base' 3 1 r ys.length (ints ys)) (hl : xs.length + ys.length ≤ 1000000) (hbase : base ≤ w.heap.size)
    (h : ∀ v' w', w'.ownsRow base 3 1 v' (xs.length + ys.length) (ints xs ++ ints ys) → w.grownBy w' v.ownBlock → K (a.put o.dst v') w') :
    if Region.wanted o (yielded ops a.tmps) = true then Oper.wp Tryd.prog o a w K Q else E := by
  have hw : Region.wanted o (yielded ops a.tmps) = true := by simp [Region.wanted, hgd]
  rw [if_pos hw]
  obtain ⟨i0, hi, hz0, hz1, hz2⟩ := info_parts infoInt
  rcases hr.2 with ⟨rfl, hn⟩ | ⟨g, cap, cur, rfl, _⟩
  · have hy : ys = [] := List.eq_nil_of_length_eq_zero hn
    subst hy
    have hrun := run_append_owned_none (P := Tryd.prog) (w := w) base 55 o.type 3 i0 1 Tryd.underlying55 hi v xs.length (ints xs) hown
    have hk := h v w (by simpa [ints] using hown) (World.grownBy.refl w _)
    unfold Oper.wp
    simp [execOp, ho, resolve, invoke, builtin, hs, hx, hrun, Result.andThen]
    exact hk
  · refine wp_append_own w s x 55 ho base 3 i0 (.int .i64 0) 1 8 Tryd.underlying55 hi hz0 hz1 hz2 rfl (by decide) v xs.length (ints xs) hs hown ⟨g, 0, none⟩ ys.length cap (ints ys) hx (by simp [ints]) (hr.cells rfl) ?_ (by unfold maxLen; omega) (by omega) hbase (fun v' w' h2 h3 _ => h v' w' h2 h3)
    intro u hu
    obtain ⟨n, _, rfl⟩ := List.mem_map.1 hu
    rfl

theorem lrowA {a : Nat} {w w1 w2 : World} {r1 v' : Value} {xs : List Nat} (R : w1.ownsRow (w.alloc (.cells zeros62 3)).drew.heap.size 3 1 r1 xs.length (ints xs) ∧ Rw.Bits xs ∧ Rw.val xs = a ∧ xs.length ≤ 64 ∧ Below (w.alloc (.cells zeros62 3)).drew.heap.size (w.alloc (.cells zeros62 3)).drew w1)
    (S : w2.ownsRow w.heap.size 3 1 v' ((List.replicate 62 (0 : Nat)).length + xs.length) (ints (List.replicate 62 0) ++ ints xs) ∧ w1.grownBy w2 (Value.ownBlock (.slice (some ⟨w.heap.size, 0, none⟩) 62 62))) : LRow a w v' w2 := by
  obtain ⟨_, h2, h3, h4, h5⟩ := R
  have hb : Below w.heap.size w w1 := (((Below.refl _ _).alloc (Nat.le_refl _) _).drew).trans (h5.mono (by simp))
  refine ⟨xs, ?_, h2, h3, h4, hb.grown S.2 hb.size (fun k hk => ?_)⟩
  · have := S.1
    rw [List.length_replicate] at this
    simpa [ints] using this
  · simp [Value.ownBlock] at hk; omega
theorem lrowB {a : Nat} {w w1 w2 : World} {r1 v' : Value} {xs : List Nat} (R : w1.ownsRow w.drew.heap.size 3 1 r1 xs.length (ints xs) ∧ Rw.Bits xs ∧ Rw.val xs = a ∧ xs.length ≤ 64 ∧ Below w.drew.heap.size w.drew w1)
    (S : w2.ownsRow w.heap.size 3 1 v' ((List.replicate 62 (0 : Nat)).length + xs.length) (ints (List.replicate 62 0) ++ ints xs) ∧ (w1.alloc (.cells zeros62 3)).grownBy w2 (Value.ownBlock (.slice (some ⟨w1.heap.size, 0, none⟩) 62 62))) : LRow a w v' w2 := by
  obtain ⟨_, h2, h3, h4, h5⟩ := R
  have hb : Below w.heap.size w w1 := ((Below.refl _ _).drew).trans h5
  refine ⟨xs, ?_, h2, h3, h4, (hb.alloc hb.size _).grown S.2 (by have := hb.size; simp; omega) (fun k hk => ?_)⟩
  · have := S.1
    rw [List.length_replicate] at this
    simpa [ints] using this
  · simp [Value.ownBlock] at hk
    have := hb.size
    omega

namespace Rw
theorem val_shift (xs : List Nat) : val (List.replicate 62 0 ++ xs) = val xs * 4611686018427387904 := by
  rw [val_append, val_zeros, List.length_replicate, Nat.zero_add, Nat.mul_comm]
theorem drop_set (qs : List Nat) (m : Nat) (h : m < qs.length) : val ((qs.set m 1).drop m) = 1 + 2 * val (qs.drop (m + 1)) := by
  rw [val_drop_succ, List.drop_set_of_lt (by omega), List.getD_eq_getElem?_getD, List.getElem?_set_self h]
  rfl
theorem bits_set {qs : List Nat} (h : Bits qs) (m : Nat) : Bits (qs.set m 1) := by
  intro b hb
  rcases List.mem_or_eq_of_mem_set hb with h1 | h1
  · exact h b h1
  · omega
theorem zero_set {qs : List Nat} {m : Nat} (h : ∀ j, j < m + 1 → qs.getD j 0 = 0) : ∀ j, j < m → (qs.set m 1).getD j 0 = 0 := by
  intro j hj
  rw [List.getD_eq_getElem?_getD, List.getElem?_set_ne (by omega), ← List.getD_eq_getElem?_getD]
  exact h j (by omega)
/-- One digit of the long division. -/
theorem div_step {L qs : List Nat} {m R b d T : Nat} (hd : d = L.getD m 0) (hT : T = 2 * R + d) (hv : val (L.drop (m + 1)) = val (qs.drop (m + 1)) * b + R) : val (L.drop m) = 2 * val (qs.drop (m + 1)) * b + T := by
  rw [val_drop_succ, ← hd, hv, hT, Nat.mul_assoc]
  omega
theorem div_took {x T b : Nat} (h : b ≤ T) : 2 * x * b + T = (1 + 2 * x) * b + (T - b) := by
  rw [Nat.add_mul, Nat.one_mul]
  omega
theorem quo_cap {qs : List Nat} {a b R : Nat} (hb : 0 < b) (hR : R < b) (h : a * 4611686018427387904 = val qs * b + R) : cap qs = Fx.quo a b := by
  have hq : val qs = a * 4611686018427387904 / b := by
    rw [h, Nat.mul_comm, Nat.mul_add_div hb, Nat.div_eq_of_lt hR, Nat.add_zero]
  unfold cap Fx.quo
  rw [← hq]
  by_cases h1 : b ≤ a / 4
  · rw [if_pos h1, if_pos]
    have h2 : 18446744073709551616 ≤ val qs := by
      rw [hq, Nat.le_div_iff_mul_le hb]
      omega
    omega
  · rw [if_neg h1, if_neg]
    have h2 : val qs < 18446744073709551616 := by
      rw [hq, Nat.div_lt_iff_lt_mul hb]
      omega
    omega
end Rw

def OvRel (L : List Nat) (b : Nat) (w3 : World) (qv : Value) (r i : Value) (W : World) : Prop := ∃ (z : Int) (k R : Nat) (qs : List Nat), i = .int .i64 z ∧ z + 1 = (k : Int) ∧ k ≤ L.length ∧ r = .int .u64 (R : Int) ∧ R < b ∧
  W.ownsRow w3.heap.size 3 1 qv qs.length (ints qs) ∧ qs.length = L.length ∧ Rw.Bits qs ∧ (∀ j, j < k → qs.getD j 0 = 0) ∧ Rw.val (L.drop k) = Rw.val (qs.drop k) * b + R ∧ Below w3.heap.size w3 W

theorem rel_took {L qs : List Nat} {b m R d T r2 : Nat} {w3 W : World} {cap : Nat} (hd : d = L.getD m 0) (hT : T = 2 * R + d) (hr : r2 = T - b) (hbT : b ≤ T) (hm : m < L.length)
    (hown : W.ownsRow w3.heap.size 3 1 (.slice (some ⟨w3.heap.size, 0, none⟩) L.length cap) L.length (ints qs)) (hql : qs.length = L.length) (hqb : Rw.Bits qs) (hq0 : ∀ j, j < m + 1 → qs.getD j 0 = 0)
    (hv : Rw.val (L.drop (m + 1)) = Rw.val (qs.drop (m + 1)) * b + R) (hB : Below w3.heap.size w3 W) :
    (W.setCell ⟨w3.heap.size, m, none⟩ (.int .i64 1)).ownsRow w3.heap.size 3 1 (.slice (some ⟨w3.heap.size, 0, none⟩) L.length cap) (qs.set m 1).length (ints (qs.set m 1)) ∧ (qs.set m 1).length = L.length ∧ Rw.Bits (qs.set m 1) ∧
      (∀ j, j < m → (qs.set m 1).getD j 0 = 0) ∧ Rw.val (L.drop m) = Rw.val ((qs.set m 1).drop m) * b + r2 ∧ Below w3.heap.size w3 (W.setCell ⟨w3.heap.size, m, none⟩ (.int .i64 1)) := by
  refine ⟨?_, by rw [List.length_set]; exact hql, Rw.bits_set hqb m, Rw.zero_set hq0, ?_, hB.setCell (Nat.le_refl _) _⟩
  · have h := (hown.stored m (.int .i64 1)).1
    rw [List.length_set, hql]
    have e : ints (qs.set m 1) = (ints qs).set m (.int .i64 1) := by unfold ints; rw [List.map_set]; rfl
    rw [e]
    exact h
  · rw [Rw.div_step hd hT hv, Rw.drop_set qs m (by omega), hr]
    exact Rw.div_took hbT
theorem rel_left {L qs : List Nat} {b m R d T : Nat} (hd : d = L.getD m 0) (hT : T = 2 * R + d) (hq0 : ∀ j, j < m + 1 → qs.getD j 0 = 0)
    (hv : Rw.val (L.drop (m + 1)) = Rw.val (qs.drop (m + 1)) * b + R) :
    (∀ j, j < m → qs.getD j 0 = 0) ∧ Rw.val (L.drop m) = Rw.val (qs.drop m) * b + T := by
  refine ⟨fun j hj => hq0 j (by omega), ?_⟩
  rw [Rw.div_step hd hT hv, Rw.val_drop_succ qs m, hq0 m (by omega), Nat.zero_add]

set_option maxHeartbeats 4000000 in
set_option maxRecDepth 100000 in
theorem over_any (a b : Nat) (w : World) (ha : a ≤ 18446744073709551615) (hb : b ≤ 18446744073709551615) (h0 : 0 < b) :
    Calls Tryd.prog 38 #[.int .u64 a, .int .u64 b] w (RetN (Fx.quo a b) w) := by
  obtain ⟨i0, hi, hz0, hz1, hz2⟩ := info_parts infoInt
  have hmk := make62
  go_enter Tryd.func38, Tryd.ntmps38
  go_upto_region 1 with fail
  go_cut [5] (fun v W => LRow a w v W)
  case first =>
    go_region_law (first
      | (go_simp; refine (row_any a _ ha).mono ?_; rintro e w1 ⟨r1, xs, rfl, hown1, hx, vx, lx, hb1⟩; have R := Lib.hid (And.intro hown1 (And.intro hx (And.intro vx (And.intro lx hb1)))); clear hown1 hx vx lx hb1)
      | (refine step_rows rfl (.tmp 10) (.tmp 12) rfl w.heap.size _ _ _ (List.replicate 62 0) _ rfl rfl (own_below (zeros_own w.drew) R.out.2.2.2.2) R.out.1 (by have := R.out.2.2.2.1; simp; omega) (by have := R.out.2.2.2.2.size; simp at this; omega) ?_; intro v' w2 hown2 hg2; have S := Lib.hid (And.intro hown2 hg2); clear hown2 hg2)
      | (refine step_rows rfl (.tmp 10) (.tmp 12) rfl w.heap.size _ _ _ (List.replicate 62 0) _ rfl rfl (own_base (zeros_own w1) (by have := R.out.2.2.2.2.size; simpa using this)) (R.out.1.alloc _) (by have := R.out.2.2.2.1; simp; omega) (by have := R.out.2.2.2.2.size; simp at this; simp; omega) ?_; intro v' w2 hown2 hg2; have S := Lib.hid (And.intro hown2 hg2); clear hown2 hg2))
    all_goals
      go_wp2_with fail
      go_meet
      first | exact lrowA R.out S.out | exact lrowB R.out S.out
  case rest =>
    clear hmk
    obtain ⟨xs, hown, hx, vx, lx, hb3⟩ := hcut
    have B3 := Lib.hid hb3; clear hb3
    obtain ⟨L, hL⟩ : ∃ L, L = List.replicate 62 0 ++ xs := ⟨_, rfl⟩
    have hLl : L.length = 62 + xs.length := by rw [hL, List.length_append, List.length_replicate]
    have hLb : Rw.Bits L := by rw [hL]; exact Rw.bits_append (Rw.bits_zeros 62) hx
    have VL := Lib.hid (show Rw.val L = a * 4611686018427387904 by rw [hL, Rw.val_shift, vx])
    rw [← hL, ← hLl] at hown
    have hn : L.length ≤ 126 := by omega
    have hn2 : 62 ≤ L.length := by omega
    clear hL hLl vx lx hx
    have RL := Lib.hid (Rd.of_own hown (by omega))
    clear hown
    obtain ⟨A, c, rfl⟩ := RL.out.shape
    go_wp2_with (at_make; refine wpList_make_full _ rfl (.tmp 15) (.tmp 15) 55 rfl wc.heap.size 3 i0 (.int .i64 0) 1 Tryd.underlying55 hi hz0 hz1 .i64 .i64 _ _ L.length rfl rfl rfl rfl (by rw [hz2]; omega) (by unfold maxLen; omega) (Nat.le_refl _) ?_; intro w4 hown4 hg4; have S4 := Lib.hid (And.intro hown4 hg4); clear hown4 hg4)
    have hown4 : w4.ownsRow wc.heap.size 3 1 (.slice (some ⟨wc.heap.size, 0, none⟩) L.length L.length) (List.replicate L.length (0 : Nat)).length (ints (List.replicate L.length 0)) := by
      have := S4.out.1
      rw [Nat.mul_one, show (Value.int IntKind.i64 0).cells = #[Value.int IntKind.i64 0] from rfl, toList_madeCells_one] at this
      rw [ints_zeros, List.length_replicate]
      exact this
    have B4 := Lib.hid ((Below.refl wc.heap.size wc).grown S4.out.2 (Nat.le_refl _) (fun k hk => by cases hk))
    have O4 := Lib.hid hown4; clear hown4 S4
    go_loopw [7, 8] (fun r i W => OvRel L b wc (.slice (some ⟨wc.heap.size, 0, none⟩) L.length L.length) r i W) (fun _ i _ => (intOf i + 1).toNat)
    case atStart =>
      refine ⟨_, L.length, 0, List.replicate L.length 0, rfl, by omega, Nat.le_refl _, rfl, h0, O4.out, by rw [List.length_replicate], Rw.bits_zeros _, ?_, ?_, B4.out⟩
      · intro j _
        rw [List.getD_eq_getElem?_getD, List.getElem?_replicate]
        split <;> rfl
      · rw [List.drop_length, List.drop_eq_nil_of_le (by rw [List.length_replicate]; exact Nat.le_refl _)]
        simp [Rw.val]
    case round =>
      clear B4 O4 hi hz0 hz1 hz2
      obtain ⟨z, k, R, qs, rfl, hz, hk, rfl, hR, hown, hql, hqb, hq0, hv, hB⟩ := hrel
      have HV := Lib.hid hv; clear hv
      have HQ0 := Lib.hid hq0; clear hq0
      rw [hql] at hown
      have HQL := Lib.hid hql; clear hql
      by_cases hz0 : 0 ≤ z
      · obtain ⟨m, rfl⟩ := Int.eq_ofNat_of_zero_le hz0
        obtain rfl : k = m + 1 := by omega
        clear hz
        have e0 : decide (0 ≤ (m : Int)) = true := by simp
        rcases (RL.out.below hB (Nat.le_refl _)).2 with ⟨h1, _⟩ | ⟨g, o, c', e, hg, hc, hmx, hcell⟩
        · exfalso; rw [h1] at hn2; simp at hn2
        · have hxm := hcell m (by omega)
          clear hcell
          unfold maxLen at hmx
          obtain ⟨rfl, rfl⟩ : A = some ⟨g, o, none⟩ ∧ c = c' := by injection e with e1 _ e2; exact ⟨e1, e2⟩
          clear e
          obtain ⟨d, hd⟩ : ∃ d, d = L.getD m 0 := ⟨_, rfl⟩
          have hd1 : d ≤ 1 := by rw [hd]; exact Rw.bits_get hLb m
          rw [← hd] at hxm
          obtain ⟨T, hT⟩ : ∃ T, T = 2 * R + d := ⟨_, rfl⟩
          have hqc : wr.cell? ⟨wc.heap.size, m, none⟩ = some (.int .i64 0) := by
            rw [hown.cellAt m (by omega), ints_get qs m (by rw [HQL.out]; omega), HQ0.out m (by omega)]; rfl
          have hqf := hown.frozenAt m
          by_cases hh : 9223372036854775808 ≤ R
          · obtain ⟨r1, hr1⟩ : ∃ r1, r1 = T - 18446744073709551616 := ⟨_, rfl⟩
            obtain ⟨r2, hr2⟩ : ∃ r2, r2 = T - b := ⟨_, rfl⟩
            have e1 : (R : Int) / 9223372036854775808 = 1 := by omega
            have e2 : IntKind.u64.wrap (IntKind.u64.wrap ((R : Int) * 2) + (d : Int)) = (r1 : Int) := by simp only [IntKind.wrap_u64]; omega
            have e3 : IntKind.u64.wrap ((r1 : Int) - (b : Int)) = (r2 : Int) := by simp only [IntKind.wrap_u64]; omega
            have hr3 : r2 < b := by omega
            have Q := Lib.hid (rel_took hd hT hr2 (by omega) (by omega) hown HQL.out hqb HQ0.out HV.out hB)
            clear hd hT hr1 hr2 hown hqb
            go_wp2_with fail
            go_roundw
            case rel => exact ⟨_, m, r2, qs.set m 1, rfl, by omega, by omega, rfl, hr3, Q.out⟩
            case measure => simp [intOf]
          · have e1 : (R : Int) / 9223372036854775808 = 0 := by omega
            have e2 : (R : Int) * 2 + (d : Int) = (T : Int) := by omega
            have hR2 : R ≤ 9223372036854775807 := by omega
            by_cases hbT : b ≤ T
            · obtain ⟨r2, hr2⟩ : ∃ r2, r2 = T - b := ⟨_, rfl⟩
              have e3 : (T : Int) - (b : Int) = (r2 : Int) := by omega
              have e4 : decide (b ≤ T) = true := by simpa using hbT
              have hr3 : r2 < b := by omega
              have hT2 : T ≤ 18446744073709551615 := by omega
              have Q := Lib.hid (rel_took hd hT hr2 (by omega) (by omega) hown HQL.out hqb HQ0.out HV.out hB)
              clear hd hT hr2 hown hqb
              go_wp2_with fail
              go_roundw
              case rel => exact ⟨_, m, r2, qs.set m 1, rfl, by omega, by omega, rfl, hr3, Q.out⟩
              case measure => simp [intOf]
            · have e4 : decide (b ≤ T) = false := by simpa using hbT
              have hT2 : T ≤ 18446744073709551615 := by omega
              have Q := Lib.hid (rel_left hd hT HQ0.out HV.out)
              have O := Lib.hid hown; clear hown
              clear hd hT
              go_wp2_with fail
              go_roundw
              case rel => exact ⟨_, m, T, qs, rfl, by omega, by omega, rfl, by omega, by rw [HQL.out]; exact O.out, HQL.out, hqb, Q.out.1, Q.out.2, hB⟩
              case measure => simp [intOf]
      · have e0 : decide (0 ≤ z) = false := by simpa using hz0
        have E := Lib.hid (Rw.quo_cap (qs := qs) (a := a) h0 hR (by
          have h1 := HV.out
          rw [show k = 0 by omega, List.drop_zero, List.drop_zero, VL.out] at h1
          exact h1))
        have C := Lib.hid (whole_row _ qs _ (Rd.of_own (by rw [HQL.out]; exact hown) (by rw [HQL.out]; omega)) hqb)
        rw [E.out] at C
        have BF := Lib.hid (B3.out.trans (hB.mono B3.out.size))
        clear hown
        go_wp2_with fail
        refine C.out.mono ?_
        rintro e w5 ⟨rfl, rfl⟩
        go_wp2_with fail
        go_ret
        exact ⟨rfl, BF.out⟩
end Go.Proofs.YtkcecmofbppodaaDoor
