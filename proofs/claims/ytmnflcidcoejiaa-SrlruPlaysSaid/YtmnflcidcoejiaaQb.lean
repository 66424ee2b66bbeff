/- The contracts of the reference's find, without, front; its cache in a variable. -/
import Derived.Test.YtmnflcidcoejiaaQa
namespace Go.Proofs.Ytmnflcidcoejiaa
open Go.RowKit Sg

theorem fk_first {L : List KE} {key : ByteArray} {i : Nat} {x : KE} (hx : L[i]? = some x) (hk : x.s = key) (hb : ∀ j e, j < i → L[j]? = some e → e.s ≠ key) : fk L key = x ∧ isK L key = true := by
  have h : L.find? (fun e => decide (e.s = key)) = some x := by
    rw [List.find?_eq_some_iff_getElem]
    obtain ⟨hi, he⟩ := List.getElem?_eq_some_iff.1 hx
    refine ⟨by simpa using hk, i, hi, he, fun j hj => ?_⟩
    have := hb j L[j] hj (List.getElem?_eq_getElem (by omega))
    simpa using this
  refine ⟨by unfold fk; rw [h]; rfl, ?_⟩
  unfold isK
  rw [List.any_eq_true]
  exact ⟨x, List.mem_of_getElem? hx, by simpa using hk⟩
theorem fk_none {L : List KE} {key : ByteArray} (h : ∀ e ∈ L, e.s ≠ key) : fk L key = ⟨⟨#[]⟩, false, false⟩ ∧ isK L key = false := by
  have h1 : L.find? (fun e => decide (e.s = key)) = none := by
    rw [List.find?_eq_none]
    intro e he
    simpa using h e he
  refine ⟨by unfold fk; rw [h1]; rfl, ?_⟩
  unfold isK
  rw [List.any_eq_false]
  intro e he
  simpa using h e he
theorem KW.mem {w : World} {P : Nat → Prop} {r : Sl} {L : List KE} (h : KW w P r L) {i : Nat} (hi : i < r.n) : ∃ x, L[i]? = some x ∧ x ∈ L := by
  have : i < L.length := by rw [h.len]; exact hi
  exact ⟨L[i], List.getElem?_eq_getElem this, List.getElem_mem this⟩

set_option maxHeartbeats 1000000 in
theorem find_any (w : World) (P : Nat → Prop) (r : Sl) (L : List KE) (key : ByteArray) (h : KW w P r L) :
    Calls Try.prog 36 #[.slice r.A r.n r.c, .string key] w (ValB (.tuple #[(fk L key).v, .bool (isK L key)]) w) := by
  obtain ⟨A, n, c⟩ := r
  have hb := (Below.refl w.heap.size w).alloc (Nat.le_refl _) (.cells #[.string ⟨#[]⟩, .bool false, .bool false] 68)
  have HR := Lib.hid (h.below hb)
  have HB := Lib.hid hb
  have K0 := Lib.hid (show KBox (w.alloc (.cells #[.string ⟨#[]⟩, .bool false, .bool false] 68)) w.heap.size ⟨⟨#[]⟩, false, false⟩ from heap_alloc_new _ _)
  have hl := h.le
  have hln := h.len
  simp only at hln ⊢
  rw [hln] at hl
  have HLN := Lib.hid hln
  clear h hb hln
  go_enter Try.func36, Try.ntmps36
  go_wp2_with fail
  obtain ⟨w1, hw1⟩ : ∃ w1, w.alloc (.cells #[.string ⟨#[]⟩, .bool false, .bool false] 68) = w1 := ⟨_, rfl⟩
  obtain ⟨p, hp⟩ : ∃ p, w.heap.size = p := ⟨_, rfl⟩
  have HP := Lib.hid hp
  rw [hw1] at HR HB K0 ⊢
  rw [hp] at K0 ⊢
  clear hw1 hp
  go_loopg [6] n (fun q iz W => ∃ i, q + i = n ∧ iz = .int .i64 (i : Int) ∧ W = w1 ∧ ∀ j e, j < i → L[j]? = some e → e.s ≠ key)
  case atStart => exact ⟨0, by omega, rfl, rfl, fun j e hj => by omega⟩
  case round =>
    obtain ⟨i, hgi, rfl, rfl, hno⟩ := hrel
    have NO := Lib.hid hno
    have GI := Lib.hid hgi
    clear hno hgi
    obtain ⟨f0, f1, f2⟩ := K0.out.f
    obtain ⟨k0, k1, k2⟩ := K0.out.c
    by_cases hi : i < n
    · have e0 : decide (i < n) = true := by simpa using hi
      obtain ⟨x, hx, _⟩ := HR.out.mem (i := i) hi
      obtain ⟨g, o, _, hA, hg, hc1, hc2, m0, m1, m2⟩ := HR.out.at hx
      simp only at hA hc1 hc2
      subst hA
      unfold maxLen at hc2
      have XX := Lib.hid hx
      clear hx
      by_cases hk : x.s = key
      · have e1 := beqS_yes hk
        have FF := Lib.hid (fk_first XX.out hk NO.out)
        have K1 := Lib.hid (K0.out.put x)
        clear hk
        go_wp2_with fail
        (try simp only [Exit.inBlock, Exit.then])
        refine bodyPost_ret (results_ct rfl _ _ _ ⟨p, 0, none⟩ _ rfl (load_k K1.out)) rfl ?_
        rw [FF.out.1, FF.out.2]
        exact ⟨rfl, ((HB.out.setCell (p := ⟨p, 0, none⟩) (HP.out ▸ Nat.le_refl _) _).setCell (p := ⟨p, 1, none⟩) (HP.out ▸ Nat.le_refl _) _).setCell (p := ⟨p, 2, none⟩) (HP.out ▸ Nat.le_refl _) _⟩
      · have e1 := beqS_no hk
        have NK := Lib.hid hk
        clear hk
        go_wp2_with fail
        go_roundg (n - (i + 1))
        case measure => have := GI.out; omega
        case rel =>
          refine ⟨i + 1, by omega, rfl, rfl, fun j e hj he => ?_⟩
          by_cases hji : j = i
          · subst hji; rw [XX.out] at he; cases he; exact NK.out
          · exact NO.out j e (by omega) he
    · have e0 : decide (i < n) = false := by simpa using hi
      have FF := Lib.hid (fk_none (L := L) (key := key) fun e he hk => by
        obtain ⟨j, hj, rfl⟩ := List.mem_iff_getElem.1 he
        exact NO.out j _ (by have := GI.out; have := HLN.out; omega) (List.getElem?_eq_getElem hj) hk)
      have K1 := Lib.hid (K0.out.put ⟨⟨#[]⟩, false, false⟩)
      go_wp2_with fail
      (try simp only [Exit.inBlock, Exit.then])
      refine bodyPost_ret (results_ct rfl _ _ _ ⟨p, 0, none⟩ _ rfl (load_k K1.out)) rfl ?_
      rw [FF.out.1, FF.out.2]
      exact ⟨rfl, ((HB.out.setCell (p := ⟨p, 0, none⟩) (HP.out ▸ Nat.le_refl _) _).setCell (p := ⟨p, 1, none⟩) (HP.out ▸ Nat.le_refl _) _).setCell (p := ⟨p, 2, none⟩) (HP.out ▸ Nat.le_refl _) _⟩

/-- What a call that makes a row leaves. -/
def RowB (w : World) (P : Nat → Prop) (L : List KE) (e : Ending) (w' : World) : Prop := ∃ r : Sl, e = .returned (.slice r.A r.n r.c) ∧ KW w' P r L ∧ Below w.heap.size w w'
theorem wo_snoc (xs : List KE) (x : KE) (key : ByteArray) : wo (xs ++ [x]) key = if x.s = key then wo xs key else wo xs key ++ [x] := by
  unfold wo
  rw [List.filter_append]
  split
  · rename_i h; simp [h]
  · rename_i h; simp [h]
def WoR (L : List KE) (key : ByteArray) (w : World) (v i : Value) (W : World) : Prop := ∃ k : Nat, i = .int .i64 (k : Int) ∧ k ≤ L.length ∧ OwnK W w.heap.size v (wo (L.take k) key) ∧ Below w.heap.size w W

set_option maxHeartbeats 1000000 in
theorem without_any (w : World) (P : Nat → Prop) (r : Sl) (L : List KE) (key : ByteArray) (h : KW w P r L) (hl : L.length ≤ 1900) (hP : ∀ k, w.heap.size ≤ k → P k) :
    Calls Try.prog 38 #[.slice r.A r.n r.c, .string key] w (RowB w P (wo L key)) := by
  obtain ⟨A, n, c⟩ := r
  have hln := h.len
  simp only at hln ⊢
  have HH := Lib.hid h
  have HP := Lib.hid hP
  subst hln
  clear h hP
  go_enter Try.func38, Try.ntmps38
  go_wp2_with fail
  go_loopw [5, 6] (fun v i W => WoR L key w v i W) (fun _ i _ => L.length - (intOf i).toNat)
  case atStart => exact ⟨0, rfl, Nat.zero_le _, ownK_nil _ _, Below.refl _ _⟩
  case round =>
    obtain ⟨k, rfl, hk, hown, hbel⟩ := hrel
    have hsz := hbel.size
    by_cases hlt : k < L.length
    · have e0 : decide (k < L.length) = true := by simpa using hlt
      have hx := List.getElem?_eq_getElem hlt
      obtain ⟨g, o, _, hA, hg, hc1, hc2, m0, m1, m2⟩ := (HH.out.below hbel).at hx
      simp only at hA hc1 hc2
      subst hA
      unfold maxLen at hc2
      have hsn := wo_snoc (L.take k) L[k] key
      rw [← List.take_succ_eq_append_getElem hlt] at hsn
      have hsmall := HH.out.small _ (List.getElem_mem hlt)
      generalize L[k] = x at m0 m1 m2 hsn hsmall hx
      have hle : (wo (L.take k) key).length ≤ 1900 := by have := wo_le (L.take k) key; rw [List.length_take] at this; omega
      by_cases hxk : x.s = key
      · have e1 := beqS_yes hxk
        rw [if_pos hxk] at hsn
        have HS := Lib.hid hsn
        have HO := Lib.hid hown
        clear hsn hxk hown hx
        go_wp2_with fail
        go_roundw
        case rel => exact ⟨k + 1, by go_num, by omega, by rw [HS.out]; exact HO.out, hbel⟩
        case measure => simp [intOf]; omega
      · have e1 := beqS_no hxk
        rw [if_neg hxk] at hsn
        have HS := Lib.hid hsn
        obtain ⟨A2, c2, w2, hrun, hown2, hg2⟩ := app_k hown x hsmall (by omega) hsz
        have hbel2 := hbel.grown hg2 hsz (fun k hk => (hown.1.lt k hk).1)
        have HRUN := Lib.hid hrun
        have HOWN := Lib.hid hown2
        have HB := Lib.hid hbel2
        obtain ⟨Av, cv, rfl⟩ := hown.len
        clear hsn hxk hown hrun hown2 hbel2 hg2 hx
        go_wp2_with (at_builtin; refine wpList_append_run rfl _ _ _ rfl _ _ _ _ rfl rfl HRUN.out ?_)
        go_roundw
        case rel => exact ⟨k + 1, by go_num, by omega, by rw [HS.out]; exact HOWN.out, HB.out⟩
        case measure => simp [intOf]; omega
    · have e0 : decide (k < L.length) = false := by simpa using hlt
      have HO := Lib.hid hown
      clear hown
      go_wp2_with fail
      go_ret
      have := HO.out
      rw [List.take_of_length_le (by omega)] at this
      obtain ⟨r, rfl, hr⟩ := this.row HP.out
      exact ⟨r, rfl, hr, hbel⟩

theorem front_k (w : World) (P : Nat → Prop) (r : Sl) (L : List KE) (x : KE) (h : KW w P r L) (hl : L.length ≤ 1900) (hx : x.s.size ≤ maxLen) (hP : ∀ k, w.heap.size ≤ k → P k) :
    Calls Try.prog 37 #[.slice r.A r.n r.c, .agg #[.string x.s, .bool x.o, .bool x.d]] w (RowB w P (x :: L)) := by
  obtain ⟨A, n, c⟩ := r
  have hln := h.len
  have s1 : (w.alloc (.cells #[.string x.s, .bool x.o, .bool x.d] 68)).heap.size = w.heap.size + 1 := by simp
  have hb1 := (Below.refl w.heap.size w).alloc (Nat.le_refl _) (.cells #[.string x.s, .bool x.o, .bool x.d] 68)
  have hb2 := hb1.alloc (by omega) (.cells #[.string x.s, .bool x.o, .bool x.d] 68)
  have O1 := ownK_one (w.alloc (.cells #[.string x.s, .bool x.o, .bool x.d] 68)) x hx
  obtain ⟨v', w2, hrun, hown, hg⟩ := app_ks O1 (h.below hb2) (by simp; omega) (by simp)
  rw [s1] at hrun hown hg
  have HRUN := Lib.hid hrun
  have HB := Lib.hid (show Below w.heap.size w w2 from hb2.grown hg (by have := hb2.size; omega) (fun k hk => by simp [Value.ownBlock] at hk; omega))
  have F := Lib.hid (hown.row (P := P) fun k hk => hP k (by omega))
  have K := heap_alloc_new w (.cells #[.string x.s, .bool x.o, .bool x.d] 68)
  simp only at hln hrun ⊢
  clear h O1 hrun hown hg hb1 hb2 K
  go_enter Try.func37, Try.ntmps37
  go_wp2_with (at_builtin; refine wpList_append_run rfl _ _ _ rfl _ _ _ _ rfl rfl HRUN.out ?_)
  go_ret
  obtain ⟨r, rfl, hr⟩ := F.out
  exact ⟨r, rfl, hr, HB.out⟩

/-! The reference's cache in a variable. -/
def RB (w : World) (p mo t : Nat) (n a g : Sl) : Prop := w.heap[p]? = some (.cells #[.int .i64 (mo : Int), .int .i64 (t : Int), .slice n.A n.n n.c, .slice a.A a.n a.c, .slice g.A g.n g.c] 29 (0, 0))
abbrev rObj (mo t : Nat) (n a g : Sl) : Obj := .cells #[.int .i64 (mo : Int), .int .i64 (t : Int), .slice n.A n.n n.c, .slice a.A a.n a.c, .slice g.A g.n g.c] 29
abbrev rZero : Obj := .cells #[.int .i64 0, .int .i64 0, .slice none 0 0, .slice none 0 0, .slice none 0 0] 29
abbrev rAgg (mo t : Nat) (n a g : Sl) : Value := .agg #[.int .i64 (mo : Int), .int .i64 (t : Int), .slice n.A n.n n.c, .slice a.A a.n a.c, .slice g.A g.n g.c]
section
variable {w w' : World} {p mo t : Nat} {n a g : Sl}
theorem RB.lt (k : RB w p mo t n a g) : p < w.heap.size := (Array.getElem?_eq_some_iff.1 k).1
theorem RB.c (k : RB w p mo t n a g) : w.cell? ⟨p, 0, none⟩ = some (.int .i64 (mo : Int)) ∧ w.cell? ⟨p, 1, none⟩ = some (.int .i64 (t : Int)) ∧ w.cell? ⟨p, 2, none⟩ = some (.slice n.A n.n n.c) ∧ w.cell? ⟨p, 3, none⟩ = some (.slice a.A a.n a.c) ∧ w.cell? ⟨p, 4, none⟩ = some (.slice g.A g.n g.c) :=
  ⟨cell_of_row w _ 0 _ _ _ k, cell_of_row w _ 1 _ _ _ k, cell_of_row w _ 2 _ _ _ k, cell_of_row w _ 3 _ _ _ k, cell_of_row w _ 4 _ _ _ k⟩
theorem RB.f (k : RB w p mo t n a g) : w.frozen? ⟨p, 0, none⟩ = false ∧ w.frozen? ⟨p, 1, none⟩ = false ∧ w.frozen? ⟨p, 2, none⟩ = false ∧ w.frozen? ⟨p, 3, none⟩ = false ∧ w.frozen? ⟨p, 4, none⟩ = false :=
  ⟨frozen_of_row w _ 0 _ _ k, frozen_of_row w _ 1 _ _ k, frozen_of_row w _ 2 _ _ k, frozen_of_row w _ 3 _ _ k, frozen_of_row w _ 4 _ _ k⟩
theorem RB.below (k : RB w p mo t n a g) (hb : Below w.heap.size w w') : RB w' p mo t n a g := (hb.block p k.lt).trans k
theorem RB.other (k : RB w p mo t n a g) {q : Addr} (hq : p ≠ q.block) (u : Value) : RB (w.setCell q u) p mo t n a g := (Below.heap_setCell _ _ _ _ hq).trans k
theorem RB.setM (k : RB w p mo t n a g) (m : Nat) : RB (w.setCell ⟨p, 0, none⟩ (.int .i64 (m : Int))) p m t n a g := by
  unfold RB at *
  rw [heap_setCell_same _ _ _ _ _ _ k]; rfl
theorem RB.setT (k : RB w p mo t n a g) (m : Nat) : RB (w.setCell ⟨p, 1, none⟩ (.int .i64 (m : Int))) p mo m n a g := by
  unfold RB at *
  rw [heap_setCell_same _ _ _ _ _ _ k]; rfl
theorem RB.setN (k : RB w p mo t n a g) (r : Sl) : RB (w.setCell ⟨p, 2, none⟩ (.slice r.A r.n r.c)) p mo t r a g := by
  unfold RB at *
  rw [heap_setCell_same _ _ _ _ _ _ k]; rfl
theorem RB.setA (k : RB w p mo t n a g) (r : Sl) : RB (w.setCell ⟨p, 3, none⟩ (.slice r.A r.n r.c)) p mo t n r g := by
  unfold RB at *
  rw [heap_setCell_same _ _ _ _ _ _ k]; rfl
theorem RB.setG (k : RB w p mo t n a g) (r : Sl) : RB (w.setCell ⟨p, 4, none⟩ (.slice r.A r.n r.c)) p mo t n a r := by
  unfold RB at *
  rw [heap_setCell_same _ _ _ _ _ _ k]; rfl
abbrev put5 (w : World) (p mo t : Nat) (n a g : Sl) : World := ((((w.setCell ⟨p, 0, none⟩ (.int .i64 (mo : Int))).setCell ⟨p, 1, none⟩ (.int .i64 (t : Int))).setCell ⟨p, 2, none⟩ (.slice n.A n.n n.c)).setCell ⟨p, 3, none⟩ (.slice a.A a.n a.c)).setCell ⟨p, 4, none⟩ (.slice g.A g.n g.c)
theorem RB.put {mo' t' : Nat} {n' a' g' : Sl} (k : RB w p mo t n a g) : RB (put5 w p mo' t' n' a' g') p mo' t' n' a' g' := ((((k.setM mo').setT t').setN n').setA a').setG g'
theorem load_r (k : RB w p mo t n a g) : (loadVar 29 ⟨p, 0, none⟩).run Try.prog w = .ok (rAgg mo t n a g) w := by
  obtain ⟨k0, k1, k2, k3, k4⟩ := k.c
  unfold loadVar
  go_simp
end
end Go.Proofs.Ytmnflcidcoejiaa
