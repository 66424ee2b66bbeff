/- What an argument that is a slice is told to be: of numbers; of such slices; of ints. -/
import Derived.Test.YtaiejdopmlajmaaFrame
import Derived.Deep.Slices
namespace Go.Proofs.Ytaiejdopmlajmaa
open Go.ChangeShapes Go.WideShapes Go.ChangeAt Go.RowKit Go.Deep

/-- A slice of numbers that came in: where it is not too long it reads as a list. -/
def CameR (W : World) (v : Value) : Prop := ∃ A n c, v = .slice A n c ∧ n ≤ maxLen ∧ (n ≤ 1000 → ∃ xs : List Nat, xs.length = n ∧ Lane W 0 W.heap.size v xs)

theorem cellsU : Try.prog.cellsOf 28 = 1 := by kernel_rfl
theorem cellsS : Try.prog.cellsOf 25 = 1 := by kernel_rfl
theorem cellsI : Try.prog.cellsOf 3 = 1 := by kernel_rfl

section
variable {H : Type} {enc : TypeId × Value → H} {W : World}
theorem came_r {base fuel : Nat} {spare : Nat → Bool} {held : Bool} {cs : List Value} {x : DataW H × List MemPlace} (h : DataW.trod enc Try.prog W base spare held fuel 25 cs = some x) : ∃ v, cs = [v] ∧ CameR W v := by
  rcases open_ints Try.underlying25 Try.underlying28 cellsU h with ⟨hcs, _⟩ | ⟨a, len, cap, zs, hcs, _, hl, hm, hz, _, hcell, hwz⟩
  · exact ⟨_, hcs, none, 0, 0, rfl, by unfold maxLen; omega, fun _ => ⟨[], rfl, Lane.nil _ _ _ _ _⟩⟩
  · refine ⟨_, hcs, some a, len, cap, rfl, by omega, fun hlen => ?_⟩
    have hzl : len ≤ zs.length := by rw [hz]; split <;> omega
    rcases Nat.eq_zero_or_pos len with h0 | h0
    · subst h0; exact ⟨[], rfl, Lane.nil _ _ _ _ _⟩
    · obtain ⟨g, o, rfl, hc⟩ := ints_at hcell (by omega)
      have hlt : g < W.heap.size := World.block_lt_of_cell? W ⟨g, o + 0, none⟩ (hc 0 (by omega))
      have hxl : ((zs.take len).map Int.toNat).length = len := by simp; omega
      have key : ∀ n ∈ zs, ((n.toNat : Nat) : Int) = n ∧ n.toNat ≤ 18446744073709551615 := fun n hn => by
        obtain ⟨m, rfl, hm⟩ := u64_nat (hwz n hn)
        exact ⟨by simp, by simpa using hm⟩
      refine ⟨(zs.take len).map Int.toNat, hxl, by omega, ?_, Or.inr ⟨g, o, cap, by rw [hxl], Nat.zero_le _, hlt, by omega, hm, fun j hj => ?_⟩⟩
      · intro x hx
        obtain ⟨n, hn, rfl⟩ := List.mem_map.1 hx
        exact (key n (List.mem_of_mem_take hn)).2
      · rw [hxl] at hj
        have hjz : j < zs.length := by omega
        rw [hc j hjz, List.getD_eq_getElem?_getD, List.getD_eq_getElem?_getD, List.getElem?_map, List.getElem?_take, if_pos hj, List.getElem?_eq_getElem hjz]
        simp only [Option.getD_some, Option.map_some]
        rw [(key _ (List.getElem_mem hjz)).1]

theorem open_r {base0 : Nat} {v : Value} {d : DataW H} {p : List MemPlace} (_hv : Value.okWide Try.prog W .any base0 25 v) (h : DataW.Trod enc Try.prog W 0 (fun _ => true) true 25 v d p) : CameR W v := by
  obtain ⟨A, n, c, rfl⟩ := okWide_slice Try.underlying25 _hv
  obtain ⟨fuel, hf⟩ := h
  obtain ⟨u, hu, hc⟩ := came_r hf
  simp [Value.cells] at hu
  subst hu
  exact hc
end
end Go.Proofs.Ytaiejdopmlajmaa
