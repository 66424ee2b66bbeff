/- The calls of a policy: each enters the method value that stands in its struct. -/
import Derived.Test.YtnlckkahkghneaaGreatDoorPc
import Derived.Test.YtnlckkahkghneaaGreatDoorPq
set_option maxRecDepth 20000
namespace Go.Proofs.YtnlckkahkghneaaGreatDoor
open Go.RowKit Sg
theorem KSt.kind_lt (st : KSt) : st.kind < 5 := by
  cases st with
  | lf ch _ _ _ =>
    cases ch with
    | false => exact (by decide : (1 : Nat) < 5)
    | true => exact (by decide : (2 : Nat) < 5)
  | lr _ _ => exact (by decide : (0 : Nat) < 5)
  | sr _ => exact (by decide : (3 : Nat) < 5)
  | ar _ => exact (by decide : (4 : Nat) < 5)
theorem atHas {k : Nat} (hk : k < 5) (w : World) (p c : Nat) (key : ByteArray) (Q : Value → World → Prop) (h2 : w.cell? ⟨p, 2, none⟩ = some (mV k c "Has")) (U : Calls Tryz.prog (fHas k) #[.pointer (some ⟨c, 0, none⟩), .string key] w (fun e w' => ∃ v, e = .returned v ∧ Q v w')) :
    Calls Tryz.prog 85 #[.pointer (some ⟨p, 0, none⟩), .string key] w (fun e w' => ∃ v, e = .returned v ∧ Q v w') := by
  have me := meHas hk ⟨c, 0, none⟩
  have na := naHas hk ⟨c, 0, none⟩
  have cf := cfHas hk
  have U := Lib.hid U
  unfold mV cI at h2
  generalize fHas k = fn at *
  generalize tC k = tn at *
  clear hk
  go_enter Tryz.func85, Tryz.ntmps85
  go_wp2_with fail
  refine U.out.mono ?_
  rintro e w1 ⟨v, rfl, hQ⟩
  go_wp2_with fail
  go_ret
  exact ⟨v, rfl, hQ⟩
theorem atLen {k : Nat} (hk : k < 5) (w : World) (p c : Nat) (Q : Value → World → Prop) (h2 : w.cell? ⟨p, 3, none⟩ = some (mV k c "Len")) (U : Calls Tryz.prog (fLen k) #[.pointer (some ⟨c, 0, none⟩)] w (fun e w' => ∃ v, e = .returned v ∧ Q v w')) :
    Calls Tryz.prog 84 #[.pointer (some ⟨p, 0, none⟩)] w (fun e w' => ∃ v, e = .returned v ∧ Q v w') := by
  have me := meLen hk ⟨c, 0, none⟩
  have na := naLen hk ⟨c, 0, none⟩
  have cf := cfLen hk
  have U := Lib.hid U
  unfold mV cI at h2
  generalize fLen k = fn at *
  generalize tC k = tn at *
  clear hk
  go_enter Tryz.func84, Tryz.ntmps84
  go_wp2_with fail
  refine U.out.mono ?_
  rintro e w1 ⟨v, rfl, hQ⟩
  go_wp2_with fail
  go_ret
  exact ⟨v, rfl, hQ⟩
theorem atRemove {k : Nat} (hk : k < 5) (w : World) (p c : Nat) (key : ByteArray) (Q : Value → World → Prop) (h2 : w.cell? ⟨p, 5, none⟩ = some (mV k c "Remove")) (U : Calls Tryz.prog (fRemove k) #[.pointer (some ⟨c, 0, none⟩), .string key] w (fun e w' => ∃ v, e = .returned v ∧ Q v w')) :
    Calls Tryz.prog 71 #[.pointer (some ⟨p, 0, none⟩), .string key] w (fun e w' => ∃ v, e = .returned v ∧ Q v w') := by
  have me := meRemove hk ⟨c, 0, none⟩
  have na := naRemove hk ⟨c, 0, none⟩
  have cf := cfRemove hk
  have U := Lib.hid U
  unfold mV cI at h2
  generalize fRemove k = fn at *
  generalize tC k = tn at *
  clear hk
  go_enter Tryz.func71, Tryz.ntmps71
  go_wp2_with fail
  refine U.out.mono ?_
  rintro e w1 ⟨v, rfl, hQ⟩
  go_wp2_with fail
  go_ret
  exact ⟨v, rfl, hQ⟩
theorem atAdopt {k : Nat} (hk : k < 5) (w : World) (p c : Nat) (key : ByteArray) (Q : Value → World → Prop) (h2 : w.cell? ⟨p, 6, none⟩ = some (mV k c "Adopt")) (U : Calls Tryz.prog (fAdopt k) #[.pointer (some ⟨c, 0, none⟩), .string key] w (fun e w' => ∃ v, e = .returned v ∧ Q v w')) :
    Calls Tryz.prog 76 #[.pointer (some ⟨p, 0, none⟩), .string key] w (fun e w' => ∃ v, e = .returned v ∧ Q v w') := by
  have me := meAdopt hk ⟨c, 0, none⟩
  have na := naAdopt hk ⟨c, 0, none⟩
  have cf := cfAdopt hk
  have U := Lib.hid U
  unfold mV cI at h2
  generalize fAdopt k = fn at *
  generalize tC k = tn at *
  clear hk
  go_enter Tryz.func76, Tryz.ntmps76
  go_wp2_with fail
  refine U.out.mono ?_
  rintro e w1 ⟨v, rfl, hQ⟩
  go_wp2_with fail
  go_ret
  exact ⟨v, rfl, hQ⟩
theorem atVictim {k : Nat} (hk : k < 5) (w : World) (p c : Nat) (s : ByteArray) (o : Bool) (Q : World → Prop) (h2 : w.cell? ⟨p, 7, none⟩ = some (mV k c "Victim")) (U : Calls Tryz.prog (fVictim k) #[.pointer (some ⟨c, 0, none⟩)] w (fun e w' => e = .returned (.tuple #[.string s, .bool o]) ∧ Q w')) :
    Calls Tryz.prog 81 #[.pointer (some ⟨p, 0, none⟩)] w (fun e w' => e = .returned (.tuple #[.string s, .bool o]) ∧ Q w') := by
  have me := meVictim hk ⟨c, 0, none⟩
  have na := naVictim hk ⟨c, 0, none⟩
  have cf := cfVictim hk
  have U := Lib.hid U
  unfold mV cI at h2
  generalize fVictim k = fn at *
  generalize tC k = tn at *
  clear hk
  go_enter Tryz.func81, Tryz.ntmps81
  go_wp2_with fail
  refine U.out.mono ?_
  rintro e w1 ⟨rfl, hQ⟩
  go_wp2_with fail
  go_ret2
  exact ⟨rfl, hQ⟩
theorem atDrop {k : Nat} (hk : k < 5) (w : World) (p c : Nat) (s : ByteArray) (o : Bool) (Q : World → Prop) (h2 : w.cell? ⟨p, 8, none⟩ = some (mV k c "Drop")) (U : Calls Tryz.prog (fDrop k) #[.pointer (some ⟨c, 0, none⟩)] w (fun e w' => e = .returned (.tuple #[.string s, .bool o]) ∧ Q w')) :
    Calls Tryz.prog 233 #[.pointer (some ⟨p, 0, none⟩)] w (fun e w' => e = .returned (.tuple #[.string s, .bool o]) ∧ Q w') := by
  have me := meDrop hk ⟨c, 0, none⟩
  have na := naDrop hk ⟨c, 0, none⟩
  have cf := cfDrop hk
  have U := Lib.hid U
  unfold mV cI at h2
  generalize fDrop k = fn at *
  generalize tC k = tn at *
  clear hk
  go_enter Tryz.func233, Tryz.ntmps233
  go_wp2_with fail
  refine U.out.mono ?_
  rintro e w1 ⟨rfl, hQ⟩
  go_wp2_with fail
  go_ret2
  exact ⟨rfl, hQ⟩
theorem atKeys {k : Nat} (hk : k < 5) (w : World) (p c : Nat) (Q : Value → World → Prop) (h2 : w.cell? ⟨p, 10, none⟩ = some (mV k c "Keys")) (U : Calls Tryz.prog (fKeys k) #[.pointer (some ⟨c, 0, none⟩)] w (fun e w' => ∃ v, e = .returned v ∧ Q v w')) :
    Calls Tryz.prog 83 #[.pointer (some ⟨p, 0, none⟩)] w (fun e w' => ∃ v, e = .returned v ∧ Q v w') := by
  have me := meKeys hk ⟨c, 0, none⟩
  have na := naKeys hk ⟨c, 0, none⟩
  have cf := cfKeys hk
  have U := Lib.hid U
  unfold mV cI at h2
  generalize fKeys k = fn at *
  generalize tC k = tn at *
  clear hk
  go_enter Tryz.func83, Tryz.ntmps83
  go_wp2_with fail
  refine U.out.mono ?_
  rintro e w1 ⟨v, rfl, hQ⟩
  go_wp2_with fail
  go_ret
  exact ⟨v, rfl, hQ⟩
theorem atGhosts {k : Nat} (hk : k < 5) (w : World) (p c : Nat) (Q : Value → World → Prop) (h2 : w.cell? ⟨p, 11, none⟩ = some (mV k c "Ghosts")) (U : Calls Tryz.prog (fGhosts k) #[.pointer (some ⟨c, 0, none⟩)] w (fun e w' => ∃ v, e = .returned v ∧ Q v w')) :
    Calls Tryz.prog 234 #[.pointer (some ⟨p, 0, none⟩)] w (fun e w' => ∃ v, e = .returned v ∧ Q v w') := by
  have me := meGhosts hk ⟨c, 0, none⟩
  have na := naGhosts hk ⟨c, 0, none⟩
  have cf := cfGhosts hk
  have U := Lib.hid U
  unfold mV cI at h2
  generalize fGhosts k = fn at *
  generalize tC k = tn at *
  clear hk
  go_enter Tryz.func234, Tryz.ntmps234
  go_wp2_with fail
  refine U.out.mono ?_
  rintro e w1 ⟨v, rfl, hQ⟩
  go_wp2_with fail
  go_ret
  exact ⟨v, rfl, hQ⟩
theorem atResize {k : Nat} (hk : k < 5) (w : World) (p c : Nat) (n : Nat) (mo : Nat) (hn : n ≤ 16777216) (Q : Value → World → Prop) (h1 : w.cell? ⟨p, 1, none⟩ = some (.int .i64 (mo : Int))) (f1 : w.frozen? ⟨p, 1, none⟩ = false)
    (h2 : (w.setCell ⟨p, 1, none⟩ (.int .i64 (n : Int))).cell? ⟨p, 9, none⟩ = some (mV k c "Resize"))
    (U : Calls Tryz.prog (fResize k) #[.pointer (some ⟨c, 0, none⟩), .int .i64 (n : Int)] (w.setCell ⟨p, 1, none⟩ (.int .i64 (n : Int))) (fun e w' => ∃ v, e = .returned v ∧ Q v w')) :
    Calls Tryz.prog 78 #[.pointer (some ⟨p, 0, none⟩), .int .i64 (n : Int)] w (fun e w' => ∃ v, e = .returned (.tuple #[v, .nilIface]) ∧ Q v w') := by
  have V := isRoom_any w (n : Int)
  rw [decide_eq_true (by omega), decide_eq_true (by omega)] at V
  have V := Lib.hid V
  have me := meResize hk ⟨c, 0, none⟩
  have na := naResize hk ⟨c, 0, none⟩
  have cf := cfResize hk
  have U := Lib.hid U
  unfold mV cI at h2
  generalize fResize k = fn at *
  generalize tC k = tn at *
  clear hk
  go_enter Tryz.func78, Tryz.ntmps78
  go_wp2_with fail
  refine V.out.mono ?_
  rintro e w1 ⟨rfl, rfl⟩
  go_wp2_with fail
  refine U.out.mono ?_
  rintro e w1 ⟨v, rfl, hQ⟩
  go_wp2_with fail
  go_ret2
  exact ⟨v, rfl, hQ⟩
theorem noResize (w : World) (p : Nat) (z : Int) (hz : z < 0 ∨ 16777216 < z) :
    Calls Tryz.prog 78 #[.pointer (some ⟨p, 0, none⟩), .int .i64 z] w (fun e w' => ∃ v, e = .returned (.tuple #[.slice none 0 0, v]) ∧ Flt w' ⟨#[114, 101, 115, 105, 122, 101]⟩ 1 v ∧ Below w.heap.size w w') := by
  have V := isRoom_any w z
  rw [show (decide (0 ≤ z) && decide (z ≤ 16777216)) = false by
    rcases hz with h | h
    · rw [decide_eq_false (by omega)]; rfl
    · rw [decide_eq_false (p := z ≤ 16777216) (by omega), Bool.and_false]] at V
  have V := Lib.hid V
  clear hz
  go_enter Tryz.func78, Tryz.ntmps78
  go_wp2_with fail
  refine V.out.mono ?_
  rintro e w1 ⟨rfl, rfl⟩
  go_wp2_with fail
  go_ret2
  exact ⟨_, rfl, ⟨_, rfl, by simp, heap_alloc_new _ _⟩, (Below.refl _ _).alloc (Nat.le_refl _) _⟩
end Go.Proofs.YtnlckkahkghneaaGreatDoor
