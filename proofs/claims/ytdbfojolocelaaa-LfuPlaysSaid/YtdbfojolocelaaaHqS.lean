/- The contract of a heap's Order. -/
import Derived.Test.YtdbfojolocelaaaHoS
import Derived.Test.YtdbfojolocelaaaHpS
namespace Go.Proofs.Ytdbfojolocelaaa
namespace HS
open Go.RowKit Ht Go.Maps Go.WideMaps

/-- The keys of the first i blocks are written. -/
structure OrdR (w w2 : World) (E : Nat → Ent Key) (B : List Nat) (i : Nat) (W : World) : Prop where
  mem : ∃ arr : Array Value, W.heap[w2.heap.size]? = some (.cells arr 9 (0, 0)) ∧ arr.size = B.length ∧ ∀ j, j < i → arr[j]? = some (.string (E (tg B j)).key)
  bel : Below w2.heap.size w2 W
def OrdG (w w2 : World) (E : Nat → Ent Key) (B : List Nat) (n g : Nat) (z : Value) (W : World) : Prop := ∃ i, g + i = n ∧ z = .int .i64 (i : Int) ∧ OrdR w w2 E B i W

theorem made_size (z : Value) (m : Nat) : (madeCells #[z] m).size = m := by simp [madeCells]

set_option maxHeartbeats 2000000 in
set_option maxRecDepth 100000 in
theorem order_any (w : World) (h : Nat) (S : Nat → Prop) (L : List (Ent Key)) (c : Nat) (s : HS w h S L c) :
    Calls Try.prog 42 #[.pointer (some ⟨h, 0, none⟩)] w (RowPost (L.map (·.key)) w) := by
  obtain ⟨M, v, T, E, f, st, rfl⟩ := s
  have c1 := st.hold.c1
  have CL := Lib.hid (clone_any w v T st.hold.tree st.hold.top)
  have SO := Lib.hid (fun w1 rv hR hb => sort_any w w1 h M v T E f L c rv st hR hb)
  have ST := Lib.hid st
  clear st
  go_enter Try.func42, Try.ntmps42
  go_wp2_with fail
  refine CL.out.mono ?_
  rintro e w1 ⟨rv, rfl, hR, hb⟩
  have SR := Lib.hid (SO.out w1 rv hR hb)
  clear c1 hR hb SO CL
  go_wp2_with fail
  refine SR.out.mono ?_
  rintro e w2 ⟨rfl, B, hBL, hBT, hR, hb⟩
  obtain ⟨a, cap, rfl, hc, hm, hrow⟩ := hR
  have hBl : B.length ≤ 1000 := by
    have h1 : B.length = L.length := by rw [← hBL]; simp
    rw [h1, ST.out.len]; exact ST.out.hold.top
  have hmk := mkK w2 B.length (by omega)
  have HROW := Lib.hid hrow
  have HB := Lib.hid hb
  have HBL := Lib.hid hBL
  have HBT := Lib.hid hBT
  have hcell := fun j (hj : j < B.length) => show w2.cell? ⟨tg B j, 0, none⟩ = some (.string (E (tg B j)).key) from by
    obtain ⟨i, hi, he⟩ := mem_tg (hBT _ (tg_mem hj))
    have h1 := ST.out.hold.i0 hi
    have h2 := ST.out.hold.ilt hi
    rw [he] at h1 h2
    exact (hb.cell (p := ⟨tg B j, 0, none⟩) h2).trans h1
  have HC := Lib.hid hcell
  have hsz := hb.size
  obtain ⟨n, hn⟩ : ∃ n, B.length = n := ⟨_, rfl⟩
  have HN := Lib.hid hn
  rw [hn] at hmk hc hBl ⊢
  unfold maxLen at hm
  clear hrow hb hBL hBT hcell SR hn
  go_wp2_with fail
  clear hmk
  go_loopg [19] n (fun g z W => OrdG w w2 E B n g z W)
  case atStart =>
    refine ⟨0, by omega, rfl, ⟨⟨_, heap_alloc_new _ _, ?_, fun j hj => by omega⟩, (Below.refl _ _).alloc (Nat.le_refl _) _⟩⟩
    rw [made_size]; exact HN.out.symm
  case round =>
    obtain ⟨i, hgi, rfl, hO⟩ := hrel
    have HO := Lib.hid hO
    have HG := Lib.hid hgi
    clear hO
    by_cases hi : i < n
    · have e0 : decide (i < n) = true := by simpa using hi
      obtain ⟨g, rfl, hg1, hg2, hgc⟩ := HROW.out (by have := HN.out; omega)
      have r1 := (HO.out.bel.cell (p := ⟨g, i, none⟩) hg2).trans (hgc i (by have := HN.out; omega)).1
      have hlt := cell_lt (HC.out i (by have := HN.out; omega))
      have r2 := (HO.out.bel.cell (p := ⟨tg B i, 0, none⟩) hlt).trans (HC.out i (by have := HN.out; omega))
      obtain ⟨arr, k1, k2, k3⟩ := HO.out.mem
      have k2' : arr.size = n := k2.trans HN.out
      have r3 : wr.cell? ⟨w2.heap.size, i, none⟩ = some arr[i] := (cell_of_row wr _ _ _ _ _ k1).trans (Array.getElem?_eq_getElem (by omega))
      have f3 : wr.frozen? ⟨w2.heap.size, i, none⟩ = false := frozen_of_row wr _ _ _ _ k1
      have R := Lib.hid (show OrdR w w2 E B (i + 1) (wr.setCell ⟨w2.heap.size, i, none⟩ (.string (E (tg B i)).key)) from by
        refine ⟨⟨_, heap_setCell_same _ _ _ _ _ _ k1, by simpa using k2, fun j hj => ?_⟩, HO.out.bel.setCell (p := ⟨w2.heap.size, i, none⟩) (Nat.le_refl _) _⟩
        by_cases e : j = i
        · subst e; rw [Array.getElem?_setIfInBounds_self_of_lt (by omega)]
        · rw [Array.getElem?_setIfInBounds_ne (by omega)]; exact k3 j (by omega))
      generalize (E (tg B i)).key = key at r2 R
      generalize tg B i = x at r1 r2
      generalize arr[i] = old at r3
      clear hgc hlt k1 k2 k3 hgi
      go_wp2_with fail
      go_roundg (n - (i + 1))
      case measure => have := HG.out; omega
      case rel => exact ⟨i + 1, by omega, rfl, R.out⟩
    · have e0 : decide (i < n) = false := by simpa using hi
      obtain rfl : i = n := by have := HG.out; omega
      clear hgi
      go_wp2_with fail
      go_ret
      obtain ⟨arr, k1, k2, k3⟩ := HO.out.mem
      refine ⟨_, rfl, ⟨?_, ?_, ?_⟩, HB.out.trans (HO.out.bel.mono hsz)⟩
      · have hl : (L.map (·.key)).length = i := by rw [← HBL.out]; simpa using HN.out
        rw [hl]
        refine ⟨by rw [List.length_map, hl]; omega, Or.inr ⟨w2.heap.size, i, arr, rfl, hsz, k1, Nat.le_refl _, by unfold maxLen; omega, by rw [k2, HN.out]; omega, ?_⟩⟩
        apply List.ext_getElem?
        intro j
        rw [List.getElem?_take, ← HBL.out, List.map_map, List.map_map, List.getElem?_map]
        by_cases hj : j < i
        · rw [if_pos (by omega), Array.getElem?_toList, k3 j hj, tg_get (by have := HN.out; omega)]; rfl
        · rw [if_neg (by omega), List.getElem?_eq_none (by have := HN.out; omega)]; rfl
      · rw [List.length_map, ST.out.len]; have := ST.out.hold.top; omega
      · intro x hx
        obtain ⟨e, he, rfl⟩ := List.mem_map.1 hx
        exact ST.out.ok e he
end HS
end Go.Proofs.Ytdbfojolocelaaa
