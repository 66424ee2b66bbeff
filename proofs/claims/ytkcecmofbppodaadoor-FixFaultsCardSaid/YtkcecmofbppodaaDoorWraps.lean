/- The laws' own helper Wraps at this program: true of no error and code 0; true of a fault of package fix with its operation, no key and ErrRange. -/
import Derived.Test.YtkcecmofbppodaaDoorErrb
import Derived.Test.YtkcecmofbppodaaDoorFixC
namespace Go.Proofs.YtkcecmofbppodaaDoor
open Go.RowKit

theorem wraps_ok (s t : ByteArray) (w : World) :
    Calls Tryd.prog 23 #[.nilIface, .string s, .string t, .int .i64 0] w fun e w' => e = .returned (.bool true) ∧ w = w' := by
  go_enter Tryd.func23, Tryd.ntmps23
  go_wp2
  go_ret
  exact ⟨rfl, rfl⟩

def RetB (b : Bool) (w : World) (e : Ending) (w' : World) : Prop := e = .returned (.bool b) ∧ Below w.heap.size w w'

set_option maxHeartbeats 1000000 in
theorem wraps_fault (g : Nat) (s : ByteArray) (w : World) (hl : Laid w) (hg : g < w.heap.size) (h0 : w.cell? ⟨g, 0, none⟩ = some (.string s)) (h1 : w.cell? ⟨g, 1, none⟩ = some (.string ⟨#[]⟩)) (h2 : w.cell? ⟨g, 2, none⟩ = some (.iface 47 (.int .i64 1))) :
    Calls Tryd.prog 23 #[.iface 62 (.pointer (some ⟨g, 0, none⟩)), .string s, .string ⟨#[]⟩, .int .i64 1] w (RetB true w) := by
  have hb1 : Below w.heap.size w (w.alloc (.cells #[.pointer none] 62)) := (Below.refl _ _).alloc (Nat.le_refl _) _
  have hl1 : Laid (w.alloc (.cells #[.pointer none] 62)) := hl.below hb1 (Nat.le_refl _)
  go_enter Tryd.func23, Tryd.ntmps23
  go_wp2_with fail
  refine (as_hit ⟨g, 0, none⟩ ⟨w.heap.size, 0, none⟩ (.pointer none) _ hl1 (by simp) (by simp)).mono ?_
  rintro e w' ⟨rfl, hw⟩
  have hb : Below w.heap.size w w' := by
    rw [hw]
    exact (((((hb1.alloc (by simp) _).alloc (by simp; omega) _).alloc (by simp; omega) _).alloc (by simp; omega) _)).setCell (by simp) _
  have hf : w'.cell? ⟨w.heap.size, 0, none⟩ = some (.pointer (some ⟨g, 0, none⟩)) := by
    rw [hw]
    refine World.cell?_setCell_same' _ _ _ ?_
    rw [World.cell?_alloc_lt _ _ ⟨w.heap.size, 0, none⟩ (by simp; omega), World.cell?_alloc_lt _ _ ⟨w.heap.size, 0, none⟩ (by simp; omega), World.cell?_alloc_lt _ _ ⟨w.heap.size, 0, none⟩ (by simp; omega), World.cell?_alloc_lt _ _ ⟨w.heap.size, 0, none⟩ (by simp), World.cell?_alloc_new]
    rfl
  have k0 : w'.cell? ⟨g, 0, none⟩ = some (.string s) := by rw [hb.cell (p := ⟨g, 0, none⟩) hg]; exact h0
  have k1 : w'.cell? ⟨g, 1, none⟩ = some (.string ⟨#[]⟩) := by rw [hb.cell (p := ⟨g, 1, none⟩) hg]; exact h1
  have k2 : w'.cell? ⟨g, 2, none⟩ = some (.iface 47 (.int .i64 1)) := by rw [hb.cell (p := ⟨g, 2, none⟩) hg]; exact h2
  clear hw h0 h1 h2 hl1 hb1
  have HB := Lib.hid hb; clear hb
  go_wp2_with (go_at_call 32; refine (is_yes g _ k2).mono ?_; rintro e w'' ⟨rfl, rfl⟩)
  go_ret
  exact ⟨rfl, HB.out⟩
end Go.Proofs.YtkcecmofbppodaaDoor
