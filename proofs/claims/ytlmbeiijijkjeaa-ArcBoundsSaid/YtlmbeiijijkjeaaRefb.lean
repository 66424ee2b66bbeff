/- The contracts of the reference's Remove, Front, Back, Last, Pop, Same. -/
import Derived.Test.YtlmbeiijijkjeaaRefs3
namespace Go.Proofs.Ytlmbeiijijkjeaa
open Go.RowKit Sg

theorem Own.nil (w : World) (base : Nat) : Own w base (.slice none 0 0) [] := ⟨World.ownsRow_nil _ _ _ _, by simp, by simp⟩
theorem Own.kept {w w' : World} {base : Nat} {v : Value} {xs : List ByteArray} {r : Option Nat} (h : Own w base v xs) (hg : w.grownBy w' r) (hne : v.ownBlock = none ∨ v.ownBlock ≠ r) : Own w' base v xs := ⟨h.1.kept hg hne, h.2⟩
theorem Own.mono {w : World} {base base' : Nat} {v : Value} {xs : List ByteArray} (h : Own w base v xs) (hb : base' ≤ base) : Own w base' v xs := by
  refine ⟨⟨h.1.1, ?_⟩, h.2⟩
  rcases h.1.2 with h1 | ⟨g, cap, cur, e, h1, h2⟩
  · exact Or.inl h1
  · exact Or.inr ⟨g, cap, cur, e, by omega, h2⟩

def RemRel (xs : List ByteArray) (key : ByteArray) (w : World) (v i : Value) (W : World) : Prop := ∃ k : Nat, i = .int .i64 (k : Int) ∧ k ≤ xs.length ∧ Own W w.heap.size v (rem (xs.take k) key) ∧ Below w.heap.size w W
theorem rem_snoc (xs : List ByteArray) (x key : ByteArray) : rem (xs ++ [x]) key = if x = key then rem xs key else rem xs key ++ [x] := by
  unfold rem
  rw [List.filter_append]
  split
  · rename_i h; simp [h]
  · rename_i h; simp [h]

set_option maxHeartbeats 1000000 in
theorem refRemove_any (w : World) (g : Nat) (v : Value) (xs : List ByteArray) (key : ByteArray) (h : Row w g v xs) (hl : xs.length ≤ 1900) :
    Calls Try.prog 23 #[v, .string key] w (RowPost (rem xs key) w) := by
  obtain ⟨A, c, rfl⟩ := h.shape
  have HH := Lib.hid h; clear h
  go_enter Try.func23, Try.ntmps23
  go_wp2_with fail
  go_loopw [5, 6] (fun v i W => RemRel xs key w v i W) (fun _ i _ => xs.length - (intOf i).toNat)
  case atStart => exact ⟨0, rfl, Nat.zero_le _, Own.nil _ _, Below.refl _ _⟩
  case round =>
    obtain ⟨k, rfl, hk, hown, hbel⟩ := hrel
    have hsz := hbel.size
    by_cases hlt : k < xs.length
    · have e0 : decide (k < xs.length) = true := by simpa using hlt
      obtain ⟨o, rfl, hg, hc, hc1, hc2⟩ := HH.out.at hlt
      have hcW := (hbel.cell (p := ⟨g, o + k, none⟩) hg).trans hc
      unfold maxLen at hc2
      have hsn := rem_snoc (xs.take k) (xs.getD k ⟨#[]⟩) key
      rw [← take_snoc xs k ⟨#[]⟩ hlt] at hsn
      have hmem : xs.getD k ⟨#[]⟩ ∈ xs := by rw [List.getD_eq_getElem?_getD, List.getElem?_eq_getElem hlt]; exact List.getElem_mem hlt
      have hsmall := HH.out.2.1 _ hmem
      generalize xs.getD k ⟨#[]⟩ = x at hc hcW hsn hmem hsmall
      have hle : (rem (xs.take k) key).length ≤ 1900 := by have := rem_le (xs.take k) key; rw [List.length_take] at this; omega
      by_cases hx : x = key
      · have e1 := beqS_yes hx
        rw [if_pos hx] at hsn
        have HS := Lib.hid hsn
        have HO := Lib.hid hown
        clear hsn hx hmem hc hown
        go_wp2_with fail
        go_roundw
        case rel => exact ⟨k + 1, by go_num, by omega, by rw [HS.out]; exact HO.out, hbel⟩
        case measure => simp [intOf]; omega
      · have e1 := beqS_no hx
        rw [if_neg hx] at hsn
        have HS := Lib.hid hsn
        obtain ⟨g', cap', w2, hrun, hown2, hg2⟩ := app_str hown x hsmall (by omega) hsz
        have hbel2 := hbel.grown hg2 hsz (fun k hk => (hown.1.lt k hk).1)
        have HRUN := Lib.hid hrun
        have HOWN := Lib.hid hown2
        have HB := Lib.hid hbel2
        obtain ⟨Av, cv, rfl⟩ := hown.len
        clear hsn hx hmem hc hown hrun hown2 hbel2 hg2
        go_wp2_with (at_builtin; refine wpList_append_run rfl _ _ _ rfl _ _ _ _ rfl rfl HRUN.out ?_)
        go_roundw
        case rel => exact ⟨k + 1, by go_num, by omega, by rw [HS.out]; exact HOWN.out, HB.out⟩
        case measure => simp [intOf]; omega
    · have e0 : decide (k < xs.length) = false := by simpa using hlt
      have HO := Lib.hid hown
      clear hown
      go_wp2_with fail
      go_ret
      refine ⟨_, rfl, ?_, hbel⟩
      have := HO.out
      rw [List.take_of_length_le (by omega)] at this
      exact this

/-- 'append(xs, ys...)', both of the call's own. -/
theorem app_all {w : World} {base b2 : Nat} {v u : Value} {xs ys : List ByteArray} (h : Own w base v xs) (k : Own w b2 u ys) (hl : xs.length + ys.length ≤ 2000) (hb : base ≤ w.heap.size) :
    ∃ (v' : Value) (w2 : World), (Builtin.append_ #[35, 35] 35 #[v, u]).run Try.prog w = .ok v' w2 ∧ Own w2 base v' (xs ++ ys) ∧ w.grownBy w2 v.ownBlock := by
  obtain ⟨i0, hi, hz0, hz1, hz2⟩ := info_parts infoStr
  have hsm : ∀ y ∈ xs ++ ys, y.size ≤ maxLen := fun y hy => by
    rcases List.mem_append.1 hy with h1 | h1
    · exact h.2.2 y h1
    · exact k.2.2 y h1
  rcases k.1.2 with ⟨rfl, h0⟩ | ⟨g, cap, cur, rfl, k1, k2, k3, k4, k5, k6⟩
  · obtain rfl : ys = [] := List.eq_nil_of_length_eq_zero h0
    refine ⟨v, w, ?_, by rw [List.append_nil]; exact h, ⟨rfl, rfl, rfl, Nat.le_refl _, fun _ _ _ => rfl⟩⟩
    rcases h.1.2 with ⟨rfl, _⟩ | ⟨g, cap, cur, rfl, _, _, h3, _⟩
    · simp [Builtin.append_, run_underlying Try.underlying35, sizeOf, typeInfo, hi, Builtin.lenOf, Builtin.firstCells, storeCells, loadCells, loadCellsFrom]
    · simp [Builtin.append_, run_underlying Try.underlying35, sizeOf, typeInfo, hi, Builtin.lenOf, Builtin.firstCells, storeCells, loadCells, loadCellsFrom, h3]
  · obtain ⟨v', w2, hrun, hown2, hg, hnil, hloc⟩ := run_append_own_at (P := Try.prog) w base 35 35 9 i0 _ 1 16
      Try.underlying35 hi hz0 hz1 hz2 rfl (by decide) _ _ _ h.1 ⟨g, 0, none⟩ ys.length cap (ys.map Value.string) (by simp) (k.1.cells (g := g) rfl) (by intro u hu; obtain ⟨x, _, rfl⟩ := List.mem_map.1 hu; rfl) (by unfold maxLen; omega) (by omega) hb
    refine ⟨v', w2, hrun, ⟨?_, by rw [List.length_append]; omega, hsm⟩, hg⟩
    rw [List.map_append, List.length_append]; exact hown2

theorem own_one (w : World) (x : ByteArray) (hx : x.size ≤ maxLen) : Own (w.alloc (.cells #[.string x] 9)) w.heap.size (.slice (some ⟨w.heap.size, 0, none⟩) 1 1) [x] :=
  ⟨⟨rfl, Or.inr ⟨w.heap.size, 1, _, rfl, Nat.le_refl _, heap_alloc_new w _, Nat.le_refl _, by unfold maxLen; omega, rfl, rfl⟩⟩, by simp, by simpa using hx⟩

/-- What Pop leaves: a row in the same block. -/
def CutPost (g : Nat) (xs : List ByteArray) (w : World) (e : Ending) (w' : World) : Prop := ∃ v, e = .returned v ∧ Row w g v xs ∧ w = w'
theorem Row.cut {w : World} {g o c n : Nat} {xs : List ByteArray} (h : Row w g (.slice (some ⟨g, o, none⟩) xs.length c) xs) (hn : n ≤ xs.length) : Row w g (.slice (some ⟨g, o, none⟩) n c) (xs.take n) := by
  have ht : (xs.take n).length = n := by rw [List.length_take]; omega
  refine ⟨by have := h.1; omega, fun x hx => h.2.1 x (List.mem_of_mem_take hx), ?_⟩
  rcases h.2.2 with ⟨rfl, _⟩ | ⟨o', c', e, h1, h2, h3, h4⟩
  · obtain rfl : n = 0 := by simpa using hn
    exact Or.inl ⟨by simp, _, _, rfl⟩
  · injection e with e1 e2 e3
    obtain rfl : o = o' := by simpa using e1
    subst e3
    refine Or.inr ⟨o, c, by rw [ht], h1, by omega, h3, fun j hj => ?_⟩
    rw [h4 j (by omega), List.getD_eq_getElem?_getD, List.getD_eq_getElem?_getD, List.getElem?_take, if_pos (by omega)]
end Go.Proofs.Ytlmbeiijijkjeaa
