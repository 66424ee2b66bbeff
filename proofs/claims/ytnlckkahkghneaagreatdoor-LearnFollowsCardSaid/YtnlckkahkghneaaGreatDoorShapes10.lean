/- Arguments that are slices of numbers (beside slices of calls, slices of strings). -/
import Derived.Test.YtnlckkahkghneaaGreatDoorShapes9
import Derived.Test.YtnlckkahkghneaaGreatDoorGDr
import Derived.Deep.Slices
import Derived.Deep.Strs
import Derived.OpenShut
set_option maxRecDepth 20000
namespace Go.Proofs.YtnlckkahkghneaaGreatDoor
open Go.ChangeShapes Go.WideShapes Go.ChangeAt Go.RowKit Go.Deep
/-- A slice of numbers that came in: where it is not too long it reads as a list. -/
def CameR (W : World) (v : Value) : Prop := ∃ A n c, v = .slice A n c ∧ n ≤ maxLen ∧ (n ≤ 1000 → ∃ xs : List Nat, xs.length = n ∧ DR.Lane W 0 W.heap.size v xs)
theorem u64_nat {a : Int} (h : (Lit.int .u64 a).wf = true) : ∃ n : Nat, a = (n : Int) ∧ n ≤ 18446744073709551615 := by
  have h' : (0 : Int) ≤ a ∧ a ≤ 18446744073709551615 := by
    have := (Bool.and_eq_true _ _).mp h
    exact ⟨of_decide_eq_true this.1, of_decide_eq_true this.2⟩
  exact ⟨a.toNat, by omega, by omega⟩
theorem cellsU : Tryz.prog.cellsOf 47 = 1 := by kernel_rfl
section
variable {H : Type} {enc : TypeId × Value → H} {W : World}
theorem came_r {base fuel : Nat} {spare : Nat → Bool} {held : Bool} {cs : List Value} {x : DataW H × List MemPlace} (h : DataW.trod enc Tryz.prog W base spare held fuel 22 cs = some x) : ∃ v, cs = [v] ∧ CameR W v := by
  rcases open_ints Tryz.underlying22 Tryz.underlying47 cellsU h with ⟨hcs, _⟩ | ⟨a, len, cap, zs, hcs, _, hl, hm, hz, _, hcell, hwz⟩
  · exact ⟨_, hcs, none, 0, 0, rfl, by unfold maxLen; omega, fun _ => ⟨[], rfl, DR.Lane.nil _ _ _ _ _⟩⟩
  · refine ⟨_, hcs, some a, len, cap, rfl, by omega, fun hlen => ?_⟩
    have hzl : len ≤ zs.length := by rw [hz]; split <;> omega
    rcases Nat.eq_zero_or_pos len with h0 | h0
    · subst h0; exact ⟨[], rfl, DR.Lane.nil _ _ _ _ _⟩
    · obtain ⟨g, o, rfl, hc⟩ := ints_at hcell (by omega)
      have hlt : g < W.heap.size := World.block_lt_of_cell? W ⟨g, o + 0, none⟩ (hc 0 (by omega))
      have hxl : ((zs.take len).map Int.toNat).length = len := by simp; omega
      have key : ∀ n ∈ zs, ((n.toNat : Nat) : Int) = n ∧ n.toNat ≤ 18446744073709551615 := fun n hn => by
        obtain ⟨m, rfl, hm⟩ := u64_nat (hwz n hn)
        exact ⟨by simp, by simpa using hm⟩
      refine ⟨(zs.take len).map Int.toNat, hxl, by omega, ?_, Or.inr ⟨g, o, cap, by rw [hxl], Nat.zero_le _, hlt, by omega, hm, fun j hj => ?_⟩⟩
      · intro x hx
        obtain ⟨n, hn, rfl⟩ := List.mem_map.1 hx
        exact (key n (List.mem_of_mem_take hn)).2
      · rw [hxl] at hj
        have hjz : j < zs.length := by omega
        rw [hc j hjz, List.getD_eq_getElem?_getD, List.getD_eq_getElem?_getD, List.getElem?_map, List.getElem?_take, if_pos hj, List.getElem?_eq_getElem hjz]
        simp only [Option.getD_some, Option.map_some]
        rw [(key _ (List.getElem_mem hjz)).1]
theorem open_r {base0 : Nat} {v : Value} {d : DataW H} {p : List MemPlace} (_hv : Value.okWide Tryz.prog W .any base0 22 v) (h : DataW.Trod enc Tryz.prog W 0 (fun _ => true) true 22 v d p) : CameR W v := by
  obtain ⟨A, n, c, rfl⟩ := okWide_slice Tryz.underlying22 _hv
  obtain ⟨fuel, hf⟩ := h
  obtain ⟨u, hu, hc⟩ := came_r hf
  simp [Value.cells] at hu
  subst hu
  exact hc
end
/-- What a law reads of such a slice: a list, where it is not too long. -/
theorem pick_lane {W : World} {v : Value} (h : CameR W v) : ∃ A n c, v = .slice A n c ∧ n ≤ maxLen ∧ ∃ xs : List Nat, n ≤ 300 → xs.length = n ∧ DR.Lane W 0 W.heap.size v xs := by
  obtain ⟨A, n, c, rfl, hn, hr⟩ := h
  by_cases h3 : n ≤ 300
  · obtain ⟨xs, h1, h2⟩ := hr (by omega)
    exact ⟨A, n, c, rfl, hn, xs, fun _ => ⟨h1, h2⟩⟩
  · exact ⟨A, n, c, rfl, hn, [], fun h => absurd h h3⟩
end Go.Proofs.YtnlckkahkghneaaGreatDoor
