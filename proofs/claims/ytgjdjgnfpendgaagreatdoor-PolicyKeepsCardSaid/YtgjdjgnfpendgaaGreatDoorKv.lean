/- Victim of arc, and of a cache of any kind. -/
import Derived.Test.YtgjdjgnfpendgaaGreatDoorKn
namespace Go.Proofs.YtgjdjgnfpendgaaGreatDoor.AR
open Go.RowKit Sg
set_option maxHeartbeats 1000000 in
theorem victimW (w : World) (i : Ix) (S : Sx) (mo p : Nat) (R : Rw4) (b : Nat) (r : Raw w i S mo p R b) : Calls Tryz.prog 243 #[.pointer (some ⟨i.c, 0, none⟩)] w (Stl (.tuple #[.string (lastKey (R (lv R p false))), .bool (anyKey (R (lv R p false)))]) w) := by
  have C := Lib.hid (show ∀ w1, Below w.heap.size w w1 → w1.cell? ⟨i.c, 2, none⟩ = some (.pointer (some ⟨i.r 0, 0, none⟩)) ∧ w1.cell? ⟨i.c, 3, none⟩ = some (.pointer (some ⟨i.r 1, 0, none⟩)) from fun w1 h => ⟨(r.below h).cells.2.2.1, (r.below h).cells.2.2.2.1⟩)
  obtain ⟨_, _, c2, c3, _⟩ := r.cells
  have U := leavingW w.drew i S mo p R b (r.below (below_drewN w 1)) false
  have V := fun (w1 : World) (h : Below w.heap.size w w1) (k : Nat) (hk : k < 4) => ls_last w1 (i.r k) (S k) (R k) b ((r.below h).ls k hk)
  have BD := Lib.hid (show ∀ w1, Below w.drew.heap.size w.drew w1 → Below w.heap.size w w1 from fun w1 h => (below_drewN w 1).trans h)
  rcases lv_two R p false with hl | hl
  · rw [hl] at U ⊢
    have U := Lib.hid (show Calls Tryz.prog 247 #[.pointer (some ⟨i.c, 0, none⟩), .bool false] w.drew (Stl (.int .i64 0) w.drew) from U)
    have V := Lib.hid (fun w1 h => V w1 h 0 (by omega))
    generalize lastKey (R 0) = x at *
    generalize anyKey (R 0) = q at *
    clear r hl
    go_enter Tryz.func243, Tryz.ntmps243
    go_wp2_with fail
    go_region_held3 (fun w' => w'.cell? ⟨i.c, 2, none⟩ = some (.pointer (some ⟨i.r 0, 0, none⟩)) ∧ w'.cell? ⟨i.c, 3, none⟩ = some (.pointer (some ⟨i.r 1, 0, none⟩))) (first | (with_reducible exact ⟨y2, y3⟩) | (with_reducible exact ⟨c2, c3⟩) | go_keep)
      (first
        | (go_at_call 247; refine U.out.mono ?_; rintro e w1 ⟨rfl, hB1⟩; obtain ⟨y2, y3⟩ := C.out w1 (BD.out w1 hB1); have B1 := Lib.hid (BD.out w1 hB1); clear hB1 U)
        | (go_at_call 153; refine (V.out w1 B1.out).mono ?_; rintro e w2 ⟨rfl, rfl⟩; clear V))
    go_wp2_with fail
    go_ret2
    exact ⟨rfl, B1.out⟩
  · rw [hl] at U ⊢
    have U := Lib.hid (show Calls Tryz.prog 247 #[.pointer (some ⟨i.c, 0, none⟩), .bool false] w.drew (Stl (.int .i64 1) w.drew) from U)
    have V := Lib.hid (fun w1 h => V w1 h 1 (by omega))
    generalize lastKey (R 1) = x at *
    generalize anyKey (R 1) = q at *
    clear r hl
    go_enter Tryz.func243, Tryz.ntmps243
    go_wp2_with fail
    go_region_held3 (fun w' => w'.cell? ⟨i.c, 2, none⟩ = some (.pointer (some ⟨i.r 0, 0, none⟩)) ∧ w'.cell? ⟨i.c, 3, none⟩ = some (.pointer (some ⟨i.r 1, 0, none⟩))) (first | (with_reducible exact ⟨y2, y3⟩) | (with_reducible exact ⟨c2, c3⟩) | go_keep)
      (first
        | (go_at_call 247; refine U.out.mono ?_; rintro e w1 ⟨rfl, hB1⟩; obtain ⟨y2, y3⟩ := C.out w1 (BD.out w1 hB1); have B1 := Lib.hid (BD.out w1 hB1); clear hB1 U)
        | (go_at_call 153; refine (V.out w1 B1.out).mono ?_; rintro e w2 ⟨rfl, rfl⟩; clear V))
    go_wp2_with fail
    go_ret2
    exact ⟨rfl, B1.out⟩
theorem victim_ca (w : World) (c : Nat) (T : Nat → Prop) (s : St) (b : Nat) (h : Ca w c T s b) : Calls Tryz.prog 243 #[.pointer (some ⟨c, 0, none⟩)] w (Stl (.tuple #[.string (lastKey (s.R (lv s.R s.p false))), .bool (anyKey (s.R (lv s.R s.p false)))]) w) := by
  obtain ⟨i, S, rfl, rfl, hR, hp⟩ := h
  exact victimW w i S _ _ _ b hR
end Go.Proofs.YtgjdjgnfpendgaaGreatDoor.AR
namespace Go.Proofs.YtgjdjgnfpendgaaGreatDoor
open Go.RowKit Sg
def fVictim : Nat → Nat | 0 => 142 | 3 => 221 | 4 => 243 | _ => 168
theorem victim_k (w : World) (c : Nat) (T : Nat → Prop) (st : KSt) (b : Nat) (h : KCa w c T st b) : Calls Tryz.prog (fVictim st.kind) #[.pointer (some ⟨c, 0, none⟩)] w (Told (.tuple #[.string st.vic, .bool st.any]) w) := by
  cases st with
  | lr mo ks => exact (LR.victim_ca w c T mo ks b h).mono fun e w' q => told_same q
  | lf ch mo n L =>
    have := LF.victim_ca w c T mo ch L n h.1
    cases ch <;> exact this
  | sr s => exact (SR.victim_ca w c T s b h).mono fun e w' q => told_same q
  | ar s => exact AR.victim_ca w c T s b h
end Go.Proofs.YtgjdjgnfpendgaaGreatDoor
