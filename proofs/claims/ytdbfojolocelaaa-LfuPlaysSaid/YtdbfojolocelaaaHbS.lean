/- The contract of an item's ahead. -/
import Derived.Test.YtdbfojolocelaaaHaS
import Derived.Deep.QuietTactic
import Derived.BigQuiet
import Derived.Deep.RegionHeld3
namespace Go.Proofs.Ytdbfojolocelaaa
namespace HS
open Go.RowKit Ht Go.Maps Go.WideMaps

/-- What is read of an item. -/
def Seen (w : World) (x : Nat) (a : Ent Key) : Prop := w.cell? ⟨x, 1, none⟩ = some (.int .i64 a.one) ∧ w.cell? ⟨x, 2, none⟩ = some (.int .i64 a.two) ∧ w.cell? ⟨x, 3, none⟩ = some (.int .i64 (a.set : Int))
theorem Holds.seen {w : World} {h M c : Nat} {v : Value} {T : List Nat} {E : Nat → Ent Key} (H : Holds w h M v T E c) {i : Nat} (hi : i < T.length) : Seen w (tg T i) (E (tg T i)) := ⟨H.i1 hi, H.i2 hi, H.i3 hi⟩

set_option maxHeartbeats 1000000 in
set_option maxRecDepth 100000 in
theorem ahead_any (w : World) (x y : Nat) (a b : Ent Key) (hx : Seen w x a) (hy : Seen w y b) :
    Calls Try.prog 51 #[.pointer (some ⟨x, 0, none⟩), .pointer (some ⟨y, 0, none⟩)] w (BoolGrw (decide (lt a b)) w) := by
  obtain ⟨x1, x2, x3⟩ := hx
  obtain ⟨y1, y2, y3⟩ := hy
  obtain ⟨ka, a1, a2, a3⟩ := a
  obtain ⟨kb, b1, b2, b3⟩ := b
  have hq := fun w => neqR w a1 a2 b1 b2
  have hg := guardR
  have mixed : Try.prog.follows .mixedOrders = true := by kernel_rfl
  by_cases he : a1 = b1 ∧ a2 = b2
  · have HL := Lib.hid (show decide (lt (⟨ka, a1, a2, a3⟩ : Ent Key) ⟨kb, b1, b2, b3⟩) = decide (a3 < b3) by rw [decide_eq_decide]; unfold lt; simp only; omega)
    have e0 : (!(decide (a1 = b1) && decide (a2 = b2))) = false := by simp [he]
    rw [e0] at hq
    clear he e0
    simp only at x1 x2 x3 y1 y2 y3
    go_enter Try.func51, Try.ntmps51
    go_wp2_with fail
    go_quiet (fail)
    go_wp2_with fail
    go_quiet (fail)
    go_wp2_with fail
    go_ret
    exact ⟨ret_bool HL.out.symm, ((Grw.refl w).drewN _).drewN _⟩
  · have HL := Lib.hid (show decide (lt (⟨ka, a1, a2, a3⟩ : Ent Key) ⟨kb, b1, b2, b3⟩) = rless a1 a2 b1 b2 by unfold rless; split <;> (rw [decide_eq_decide]; unfold lt; simp only; omega))
    have e0 : (!(decide (a1 = b1) && decide (a2 = b2))) = true := by
      by_cases h1 : a1 = b1
      · have h2 : ¬ a2 = b2 := fun h => he ⟨h1, h⟩
        simp [h2]
      · simp [h1]
    rw [e0] at hq
    clear he e0
    simp only at x1 x2 x3 y1 y2 y3
    go_enter Try.func51, Try.ntmps51
    go_wp2_with fail
    go_quiet (fail)
    go_wp2_with fail
    have y1' : (w.drewN nq).cell? ⟨y, 1, none⟩ = some (.int .i64 b1) := y1
    have y2' : (w.drewN nq).cell? ⟨y, 2, none⟩ = some (.int .i64 b2) := y2
    have x1' : (w.drewN nq).cell? ⟨x, 1, none⟩ = some (.int .i64 a1) := x1
    have x2' : (w.drewN nq).cell? ⟨x, 2, none⟩ = some (.int .i64 a2) := x2
    have G1 := Lib.hid ((Grw.refl w).drewN nq)
    clear x1 x2 y1 y2 x3 y3
    generalize w.drewN nq = w1 at *
    go_region_held3 (fun w' => w'.cell? ⟨x, 1, none⟩ = some (.int .i64 a1) ∧ w'.cell? ⟨x, 2, none⟩ = some (.int .i64 a2) ∧ w'.cell? ⟨y, 1, none⟩ = some (.int .i64 b1) ∧ w'.cell? ⟨y, 2, none⟩ = some (.int .i64 b2)) (first | (exact ⟨‹_›, ‹_›, ‹_›, ‹_›⟩) | go_keep)
      (first
        | (go_at_call 58; refine (less_any _ a1 a2 b1 b2).mono ?_; rintro e w2 ⟨rfl, hG⟩; have z1 := hG.cell (show w1.drew.cell? ⟨x, 1, none⟩ = some (.int .i64 a1) from x1'); have z2 := hG.cell (show w1.drew.cell? ⟨x, 2, none⟩ = some (.int .i64 a2) from x2'); have z3 := hG.cell (show w1.drew.cell? ⟨y, 1, none⟩ = some (.int .i64 b1) from y1'); have z4 := hG.cell (show w1.drew.cell? ⟨y, 2, none⟩ = some (.int .i64 b2) from y2'); have G2 := Lib.hid hG; clear hG))
    go_wp2_with fail
    go_ret
    exact ⟨ret_bool HL.out.symm, Grw.trans G1.out (Grw.trans (Grw.drew (Grw.refl _)) G2.out)⟩
end HS
end Go.Proofs.Ytdbfojolocelaaa
