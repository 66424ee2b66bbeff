/- The contracts of the reference's Remove, Victim, Drop. -/
import Derived.Test.YtdbfojolocelaaaZb
namespace Go.Proofs.Ytdbfojolocelaaa
open Go.RowKit Ht HS Lf

theorem OwnZ.mono {w : World} {base base' : Nat} {v : Value} {L : List (Ent Key)} (h : OwnZ w base v L) (hb : base' ≤ base) : OwnZ w base' v L := by
  refine ⟨⟨h.1.1, ?_⟩, h.2⟩
  rcases h.1.2 with h1 | ⟨g, cap, cur, e, h1, h2⟩
  · exact Or.inl h1
  · exact Or.inr ⟨g, cap, cur, e, by omega, h2⟩
/-- The variables of a call under way: the cache, and the result. -/
structure Rw (w W : World) (p0 p1 mo : Nat) (ch : Bool) (v : Value) : Prop where
  c : CBox W p0 mo ch v
  r1 : CBox W p1 0 false (.slice none 0 0)
  bel : Below w.heap.size w W
  ne : p0 ≠ p1 ∧ p1 ≠ p0
  low : w.heap.size ≤ p0 ∧ w.heap.size ≤ p1
abbrev rw0 (w : World) (mo : Nat) (ch : Bool) (v : Value) : World := (w.alloc (cObj mo ch v)).alloc cZero
theorem rw_start (w : World) (mo : Nat) (ch : Bool) (v : Value) : Rw w (rw0 w mo ch v) w.heap.size (w.heap.size + 1) mo ch v := by
  have a1 : (w.alloc (cObj mo ch v)).heap.size = w.heap.size + 1 := by simp
  have b1 := heap_alloc_new w (cObj mo ch v)
  have b2 := heap_alloc_new (w.alloc (cObj mo ch v)) cZero
  rw [a1] at b2
  refine ⟨?_, b2, ?_, by omega, by omega⟩
  · exact (Below.heap_alloc _ _ _ (by omega)).trans b1
  · exact ((Below.refl _ _).alloc (Nat.le_refl _) _).alloc (by omega) _
section
variable {w W W' : World} {p0 p1 mo : Nat} {ch : Bool} {v : Value}
theorem Rw.setL (r : Rw w W p0 p1 mo ch v) (u : Value) : Rw w (W.setCell ⟨p0, 2, none⟩ u) p0 p1 mo ch u := ⟨r.c.setL u, r.r1.other r.ne.2 _, r.bel.setCell (p := ⟨p0, 2, none⟩) r.low.1 _, r.ne, r.low⟩
theorem Rw.setM (r : Rw w W p0 p1 mo ch v) (m : Nat) : Rw w (W.setCell ⟨p0, 0, none⟩ (.int .i64 (m : Int))) p0 p1 m ch v := ⟨r.c.setM m, r.r1.other r.ne.2 _, r.bel.setCell (p := ⟨p0, 0, none⟩) r.low.1 _, r.ne, r.low⟩
theorem Rw.below (r : Rw w W p0 p1 mo ch v) (hb : Below W.heap.size W W') : Rw w W' p0 p1 mo ch v := ⟨r.c.below hb, r.r1.below hb, r.bel.trans (hb.mono r.bel.size), r.ne, r.low⟩
/-- The cache is written anew, all of it. -/
theorem Rw.all (r : Rw w W p0 p1 mo ch v) (m : Nat) (b : Bool) (u : Value) : Rw w (((W.setCell ⟨p0, 0, none⟩ (.int .i64 (m : Int))).setCell ⟨p0, 1, none⟩ (.bool b)).setCell ⟨p0, 2, none⟩ u) p0 p1 m b u :=
  ⟨r.c.put m b u, ((r.r1.other r.ne.2 _).other r.ne.2 _).other r.ne.2 _, ((r.bel.setCell (p := ⟨p0, 0, none⟩) r.low.1 _).setCell (p := ⟨p0, 1, none⟩) r.low.1 _).setCell (p := ⟨p0, 2, none⟩) r.low.1 _, r.ne, r.low⟩
theorem Rw.out (r : Rw w W p0 p1 mo ch v) : CBox (((W.setCell ⟨p1, 0, none⟩ (.int .i64 (mo : Int))).setCell ⟨p1, 1, none⟩ (.bool ch)).setCell ⟨p1, 2, none⟩ v) p1 mo ch v ∧ Below w.heap.size w (((W.setCell ⟨p1, 0, none⟩ (.int .i64 (mo : Int))).setCell ⟨p1, 1, none⟩ (.bool ch)).setCell ⟨p1, 2, none⟩ v) :=
  ⟨r.r1.put mo ch v, ((r.bel.setCell (p := ⟨p1, 0, none⟩) r.low.2 _).setCell (p := ⟨p1, 1, none⟩) r.low.2 _).setCell (p := ⟨p1, 2, none⟩) r.low.2 _⟩
end

/-- What a call that hands a cache back leaves. -/
def ZPost (mo : Nat) (ch : Bool) (B : List (Ent Key)) (w : World) (e : Ending) (w' : World) : Prop := ∃ A m c, e = .returned (.agg #[.int .i64 (mo : Int), .bool ch, .slice A m c]) ∧ OwnZ w' w.heap.size (.slice A m c) B ∧ Below w.heap.size w w'

def RemZ (B : List (Ent Key)) (key : Key) (w w1 : World) (p0 p1 mo : Nat) (ch : Bool) (u v i : Value) (W : World) : Prop := ∃ k : Nat, i = .int .i64 (k : Int) ∧ k ≤ B.length ∧ OwnZ W w1.heap.size v (rem (B.take k) key) ∧ Rw w W p0 p1 mo ch u ∧ Below w1.heap.size w1 W
theorem rem_take {B : List (Ent Key)} {key : Key} {k : Nat} {x : Ent Key} (h : B[k]? = some x) : rem (B.take (k + 1)) key = if x.key = key then rem (B.take k) key else rem (B.take k) key ++ [x] := by
  obtain ⟨hk, hx⟩ := List.getElem?_eq_some_iff.1 h
  rw [List.take_succ_eq_append_getElem hk, hx]
  unfold rem
  rw [List.filter_append]
  split
  · rename_i h; simp [h]
  · rename_i h; simp [h]

set_option maxHeartbeats 2000000 in
set_option maxRecDepth 100000 in
theorem rremove_any (w : World) (g mo : Nat) (ch : Bool) (A : Option Addr) (m c : Nat) (B : List (Ent Key)) (key : Key) (h : ZRow w g (.slice A m c) B) (hm : B.length = m) (hl : m ≤ 1900) :
    Calls Try.prog 16 #[.agg #[.int .i64 (mo : Int), .bool ch, .slice A m c], .string key] w (ZPost mo ch (rem B key) w) := by
  have X0 := rw_start w mo ch (.slice A m c)
  obtain ⟨w1, hw1⟩ : ∃ w1, rw0 w mo ch (.slice A m c) = w1 := ⟨_, rfl⟩
  obtain ⟨p0, hp0⟩ : ∃ p, w.heap.size = p := ⟨_, rfl⟩
  obtain ⟨p1, hp1⟩ : ∃ p, p0 + 1 = p := ⟨_, rfl⟩
  have HR := Lib.hid (h.below X0.bel)
  rw [hw1] at X0 HR
  rw [hp0, hp1] at X0
  have RW := Lib.hid X0
  have HM := Lib.hid hm
  have HP := Lib.hid (show p0 < w1.heap.size ∧ p1 < w1.heap.size from ⟨X0.c.lt, X0.r1.lt⟩)
  have HG := Lib.hid h
  have HP0 := Lib.hid hp0
  clear h hm X0
  go_enter Try.func16, Try.ntmps16
  go_wp2_with fail
  clear hw1 hp0 hp1
  go_loopw [5, 6] (fun v i W => RemZ B key w w1 p0 p1 mo ch (.slice A m c) v i W) (fun _ i _ => m - (intOf i).toNat)
  case atStart => exact ⟨0, rfl, Nat.zero_le _, ownZ_nil _ _, RW.out, Below.refl _ _⟩
  case round =>
    obtain ⟨k, rfl, hk, hown, hrw, hbel⟩ := hrel
    rw [HM.out] at hk
    have hsz := hbel.size
    obtain ⟨k0, k1, k2⟩ := hrw.c.c
    by_cases hlt : k < m
    · have e0 : decide (k < m) = true := by simpa using hlt
      obtain ⟨x, hx⟩ : ∃ x, B[k]? = some x := ⟨_, List.getElem?_eq_getElem (by rw [HM.out]; exact hlt)⟩
      obtain ⟨o, rfl, hg, hc1, hc2, m0, m1⟩ := HR.out.at hx
      rw [HM.out] at hc1
      have m0 := (hbel.cell (p := ⟨g, o + k * 2, none⟩) hg).trans m0
      have m1 := (hbel.cell (p := ⟨g, o + k * 2 + 1, none⟩) hg).trans m1
      have hsn := rem_take (key := key) hx
      have hsmall := HR.out.2.1 x (List.mem_of_getElem? hx)
      unfold maxLen at hc2
      have hle : (rem (B.take k) key).length ≤ 1900 := by have := Lf.rem_le (B.take k) key; rw [List.length_take] at this; omega
      clear hx
      by_cases hxk : x.key = key
      · have e1 := beqS_yes hxk
        rw [if_pos hxk] at hsn
        have HS := Lib.hid hsn
        have HO := Lib.hid hown
        have HW := Lib.hid hrw
        have HB := Lib.hid hbel
        clear hsn hxk hown hrw hbel hsmall
        go_wp2_with fail
        go_roundw
        case rel => exact ⟨k + 1, by go_num, by rw [HM.out]; omega, by rw [HS.out]; exact HO.out, HW.out, HB.out⟩
        case measure => simp [intOf]; omega
      · have e1 := beqS_no hxk
        rw [if_neg hxk] at hsn
        have HS := Lib.hid hsn
        obtain ⟨A2, cap2, w2, hrun, hown2, hg2⟩ := app_z hown x hsmall (by omega) hsz
        have HRUN := Lib.hid hrun
        have hb3 : Below w1.heap.size wr w2 := (Below.refl _ _).grown hg2 hsz (fun j hj => (hown.lt hj).2)
        have hlt2 := HP.out
        have HW := Lib.hid (show Rw w w2 p0 p1 mo ch (.slice (some ⟨g, o, none⟩) m c) from ⟨(hb3.block p0 hlt2.1).trans hrw.c, (hb3.block p1 hlt2.2).trans hrw.r1, hrw.bel.trans (hb3.mono RW.out.bel.size), hrw.ne, hrw.low⟩)
        have HB := Lib.hid (hbel.trans hb3)
        have HO := Lib.hid hown2
        obtain ⟨Ao, co, hv⟩ := hown.len
        clear hrun hown2 hg2 hsn hxk hb3 hlt2 hsmall hown hrw hbel
        subst hv
        go_wp2_with (at_builtin; refine wpList_append_run rfl _ _ _ rfl _ _ _ _ rfl rfl HRUN.out ?_)
        go_roundw
        case rel => exact ⟨k + 1, by go_num, by rw [HM.out]; omega, by rw [HS.out]; exact HO.out, HW.out, HB.out⟩
        case measure => simp [intOf]; omega
    · have e0 : decide (k < m) = false := by simpa using hlt
      obtain rfl : k = m := by omega
      rw [List.take_of_length_le (by rw [HM.out]; exact Nat.le_refl _)] at hown
      obtain ⟨Ao, co, rfl⟩ := hown.len
      have F := (hrw.setL (.slice Ao (rem B key).length co)).out
      have HF := Lib.hid F
      obtain ⟨f0, f1, f2⟩ := hrw.c.f
      obtain ⟨r0, r1, r2⟩ := hrw.r1.c
      obtain ⟨q0, q1, q2⟩ := hrw.r1.f
      obtain ⟨n1, n2⟩ := hrw.ne
      have HO := Lib.hid hown
      have HB := Lib.hid hbel
      have HSZ := Lib.hid RW.out.bel.size
      clear F hown hrw hbel RW
      generalize (rem B key).length = l at *
      go_wp2_with fail
      refine bodyPost_ret (results_c rfl _ _ _ ⟨p1, 0, none⟩ _ rfl (load_c HF.out.1)) rfl ?_
      refine ⟨_, _, _, rfl, (HO.out.same fun gg hgg => ?_).mono HSZ.out, HF.out.2⟩
      have hlo := (HO.out.lt hgg).2
      have hp := HP.out
      rw [Below.heap_setCell _ _ _ _ (by show gg ≠ p1; omega), Below.heap_setCell _ _ _ _ (by show gg ≠ p1; omega), Below.heap_setCell _ _ _ _ (by show gg ≠ p1; omega), Below.heap_setCell _ _ _ _ (by show gg ≠ p0; omega)]

/-- Where Victim stands. -/
def VicZ (ch : Bool) (B : List (Ent Key)) (w1 : World) (b i : Value) (W : World) : Prop := ∃ (k q : Nat) (z : Int), b = .int .i64 z ∧ i = .int .i64 (k : Int) ∧ k ≤ B.length ∧ W = w1.drewN q ∧ ((k = 0 ∧ z = -1) ∨ ∃ (bi : Nat) (y : Ent Key), z = (bi : Int) ∧ bi < k ∧ B[bi]? = some y ∧ bst ch (B.take k) = some y)
theorem bst_take {ch : Bool} {B : List (Ent Key)} {k : Nat} {x : Ent Key} (h : B[k]? = some x) : bst ch (B.take (k + 1)) = stepB ch (bst ch (B.take k)) x := by
  obtain ⟨hk, hx⟩ := List.getElem?_eq_some_iff.1 h
  rw [List.take_succ_eq_append_getElem hk, hx, bst_snoc]

set_option maxHeartbeats 4000000 in
set_option maxRecDepth 100000 in
theorem rvictim_any (w : World) (g mo : Nat) (ch : Bool) (A : Option Addr) (m c : Nat) (L B : List (Ent Key)) (n : Nat) (h : ZRow w g (.slice A m c) B) (hm : B.length = m) (y : By ch L B n) :
    Calls Try.prog 25 #[.agg #[.int .i64 (mo : Int), .bool ch, .slice A m c]] w (ValBelow (.tuple #[.string (hdK L), .bool (!L.isEmpty)]) w) := by
  have X0 := bx_start w mo ch (.slice A m c)
  have hl := h.1
  have HR := Lib.hid (h.below X0.bel)
  obtain ⟨w1, hw1⟩ : ∃ w1, w.alloc (cObj mo ch (.slice A m c)) = w1 := ⟨_, rfl⟩
  obtain ⟨bx, hbx⟩ : ∃ bx, w.heap.size = bx := ⟨_, rfl⟩
  have HB := Lib.hid (show Below w.heap.size w w1 from hw1 ▸ X0.bel)
  rw [hw1, hbx] at X0
  rw [hw1] at HR
  have K := Lib.hid X0.c
  have HM := Lib.hid hm
  have HY := Lib.hid y.bst
  rw [hm] at hl
  clear h X0 hm y
  go_enter Try.func25, Try.ntmps25
  go_wp2_with fail
  clear hw1 hbx
  go_loopw [4, 5] (fun b i W => VicZ ch B w1 b i W) (fun _ i _ => m - (intOf i).toNat)
  case atStart => exact ⟨0, 0, -1, rfl, rfl, Nat.zero_le _, rfl, Or.inl ⟨rfl, rfl⟩⟩
  case round =>
    obtain ⟨k, q, z, rfl, rfl, hk, hW, hst⟩ := hrel
    rw [HM.out] at hk
    have k1 : wr.cell? ⟨bx, 1, none⟩ = some (.bool ch) := by rw [hW]; exact K.out.c.2.1
    have k2 : wr.cell? ⟨bx, 2, none⟩ = some (.slice A m c) := by rw [hW]; exact K.out.c.2.2
    have HRW : ZRow wr g (.slice A m c) B := by rw [hW]; exact HR.out.below (below_drewN _ _)
    have HBW := Lib.hid (show Below w.heap.size w wr by rw [hW]; exact HB.out.trans ((below_drewN _ _).mono HB.out.size))
    have HW := Lib.hid hW
    clear hW
    by_cases hlt : k < m
    · have e0 : decide (k < m) = true := by simpa using hlt
      obtain ⟨x, hx⟩ : ∃ x, B[k]? = some x := ⟨_, List.getElem?_eq_getElem (by rw [HM.out]; exact hlt)⟩
      obtain ⟨o, rfl, hg, hc1, hc2, m0, m1⟩ := HRW.at hx
      rw [HM.out] at hc1
      unfold maxLen at hc2
      have BT := Lib.hid (bst_take (ch := ch) hx)
      have XX := Lib.hid hx
      clear hx m0
      generalize hxo : x.one = xo at m1
      have HXO := Lib.hid hxo
      clear hxo
      rcases hst with ⟨rfl, hz⟩ | ⟨bi, yy, rfl, hbi, hyb, hb⟩
      · have e1 : decide (z < 0) = true := by rw [hz]; rfl
        clear hz HRW
        go_wp2_with fail
        go_quiet (fail)
        go_wp2_with fail
        go_roundw
        case rel => exact ⟨0 + 1, _, _, rfl, by go_num, by rw [HM.out]; omega, by rw [HW.out]; exact World.drewN_drewN _ _ _, Or.inr ⟨0, x, rfl, by omega, XX.out, by rw [BT.out]; rfl⟩⟩
        case measure => simp [intOf]; omega
      · have e1 : decide ((bi : Int) < 0) = false := by simp
        obtain ⟨o', ho', _, _, _, _, m2⟩ := HRW.at hyb
        obtain rfl : o = o' := by injection ho' with ho'; injection ho'
        generalize hyo : yy.one = yo at m2
        have HYO := Lib.hid hyo
        have HYB := Lib.hid hyb
        have HBB := Lib.hid hb
        have i1 : (bi : Int) < (m : Int) := by omega
        have i2 : bi < m := by omega
        have i3 : (0 : Int) ≤ (bi : Int) := by omega
        clear HRW ho' hyo hyb hb
        by_cases hc : xo < yo ∨ (ch = true ∧ xo = yo)
        · have NB := Lib.hid (show bst ch (B.take (k + 1)) = some x by rw [BT.out, HBB.out]; unfold stepB; simp only; rw [if_pos (by rw [HXO.out, HYO.out]; exact hc)])
          by_cases hlo : xo < yo
          · have e2 : decide (xo < yo) = true := by simpa using hlo
            clear hc hlo
            go_wp2_with fail
            go_quiet (fail)
            go_wp2_with fail
            go_roundw
            case rel => exact ⟨k + 1, _, _, rfl, by go_num, by rw [HM.out]; omega, by rw [HW.out]; exact World.drewN_drewN _ _ _, Or.inr ⟨k, x, rfl, by omega, XX.out, NB.out⟩⟩
            case measure => simp [intOf]; omega
          · have e2 : decide (xo < yo) = false := by simpa using hlo
            obtain ⟨rfl, hxy⟩ : ch = true ∧ xo = yo := by rcases hc with h | h; exact absurd h hlo; exact h
            subst hxy
            clear hc hlo
            go_wp2_with fail
            go_quiet (fail)
            go_wp2_with fail
            go_roundw
            case rel => exact ⟨k + 1, _, _, rfl, by go_num, by rw [HM.out]; omega, by rw [HW.out]; exact World.drewN_drewN _ _ _, Or.inr ⟨k, x, rfl, by omega, XX.out, NB.out⟩⟩
            case measure => simp [intOf]; omega
        · have NB := Lib.hid (show bst ch (B.take (k + 1)) = some yy by rw [BT.out, HBB.out]; unfold stepB; simp only; rw [if_neg (by rw [HXO.out, HYO.out]; exact hc)])
          have e2 : decide (xo < yo) = false := by simp only [decide_eq_false_iff_not]; exact fun h => hc (Or.inl h)
          cases ch with
          | false =>
            clear hc
            go_wp2_with fail
            go_quiet (fail)
            go_wp2_with fail
            go_roundw
            case rel => exact ⟨k + 1, _, _, rfl, by go_num, by rw [HM.out]; omega, by rw [HW.out]; exact World.drewN_drewN _ _ _, Or.inr ⟨bi, yy, rfl, by omega, HYB.out, NB.out⟩⟩
            case measure => simp [intOf]; omega
          | true =>
            have e3 : (xo == yo) = false := by simp only [beq_eq_false_iff_ne]; exact fun h => hc (Or.inr ⟨rfl, h⟩)
            clear hc
            go_wp2_with fail
            go_quiet (fail)
            go_wp2_with fail
            go_roundw
            case rel => exact ⟨k + 1, _, _, rfl, by go_num, by rw [HM.out]; omega, by rw [HW.out]; exact World.drewN_drewN _ _ _, Or.inr ⟨bi, yy, rfl, by omega, HYB.out, NB.out⟩⟩
            case measure => simp [intOf]; omega
    · have e0 : decide (k < m) = false := by simpa using hlt
      obtain rfl : k = m := by omega
      rcases hst with ⟨rfl, hz⟩ | ⟨bi, yy, rfl, hbi, hyb, hb⟩
      · have e1 : decide (z < 0) = true := by rw [hz]; rfl
        have HL : L = [] := by
          have hB : B = [] := List.eq_nil_of_length_eq_zero HM.out
          have := HY.out
          rw [hB] at this
          cases L with
          | nil => rfl
          | cons a L => cases this
        subst HL
        clear hz HRW
        go_wp2_with fail
        go_ret2
        exact ⟨rfl, HBW.out⟩
      · have e1 : decide ((bi : Int) < 0) = false := by simp
        obtain ⟨o, rfl, hg, hc1, hc2, m0, m1⟩ := HRW.at hyb
        rw [List.take_of_length_le (by rw [HM.out]; exact Nat.le_refl _), HY.out] at hb
        have HL : hdK L = yy.key ∧ (!L.isEmpty) = true := by
          cases L with
          | nil => cases hb
          | cons a L => cases hb; exact ⟨rfl, rfl⟩
        have HLL := Lib.hid HL
        rw [HM.out] at hc1
        unfold maxLen at hc2
        clear HRW hyb hb HL
        go_wp2_with fail
        go_ret2
        refine ⟨?_, HBW.out⟩
        rw [HLL.out.1, HLL.out.2]
        rfl
end Go.Proofs.Ytdbfojolocelaaa
