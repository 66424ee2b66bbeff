/- What an argument that is a slice is told to be: of numbers; of such slices; of ints. -/
import Derived.Test.YtaiejdopmlajmaaFrame
import Derived.Deep.Slices
import Derived.Deep.Strs
namespace Go.Proofs.Ytaiejdopmlajmaa
open Go.ChangeShapes Go.WideShapes Go.ChangeAt Go.RowKit Go.Deep

/-- A slice of numbers that came in: where it is not too long it reads as a list. -/
def CameR (W : World) (v : Value) : Prop := ∃ A n c, v = .slice A n c ∧ n ≤ maxLen ∧ (n ≤ 1000 → ∃ xs : List Nat, xs.length = n ∧ Lane W 0 W.heap.size v xs)

theorem cellsU : Try.prog.cellsOf 28 = 1 := by kernel_rfl
theorem cellsS : Try.prog.cellsOf 25 = 1 := by kernel_rfl
theorem cellsI : Try.prog.cellsOf 3 = 1 := by kernel_rfl

section
variable {H : Type} {enc : TypeId × Value → H} {W : World}
theorem came_r {base fuel : Nat} {spare : Nat → Bool} {held : Bool} {cs : List Value} {x : DataW H × List MemPlace} (h : DataW.trod enc Try.prog W base spare held fuel 25 cs = some x) : ∃ v, cs = [v] ∧ CameR W v := by
  rcases open_ints Try.underlying25 Try.underlying28 cellsU h with ⟨hcs, _⟩ | ⟨a, len, cap, zs, hcs, _, hl, hm, hz, _, hcell, hwz⟩
  · exact ⟨_, hcs, none, 0, 0, rfl, by unfold maxLen; omega, fun _ => ⟨[], rfl, Lane.nil _ _ _ _ _⟩⟩
  · refine ⟨_, hcs, some a, len, cap, rfl, by omega, fun hlen => ?_⟩
    have hzl : len ≤ zs.length := by rw [hz]; split <;> omega
    rcases Nat.eq_zero_or_pos len with h0 | h0
    · subst h0; exact ⟨[], rfl, Lane.nil _ _ _ _ _⟩
    · obtain ⟨g, o, rfl, hc⟩ := ints_at hcell (by omega)
      have hlt : g < W.heap.size := World.block_lt_of_cell? W ⟨g, o + 0, none⟩ (hc 0 (by omega))
      have hxl : ((zs.take len).map Int.toNat).length = len := by simp; omega
      have key : ∀ n ∈ zs, ((n.toNat : Nat) : Int) = n ∧ n.toNat ≤ 18446744073709551615 := fun n hn => by
        obtain ⟨m, rfl, hm⟩ := u64_nat (hwz n hn)
        exact ⟨by simp, by simpa using hm⟩
      refine ⟨(zs.take len).map Int.toNat, hxl, by omega, ?_, Or.inr ⟨g, o, cap, by rw [hxl], Nat.zero_le _, hlt, by omega, hm, fun j hj => ?_⟩⟩
      · intro x hx
        obtain ⟨n, hn, rfl⟩ := List.mem_map.1 hx
        exact (key n (List.mem_of_mem_take hn)).2
      · rw [hxl] at hj
        have hjz : j < zs.length := by omega
        rw [hc j hjz, List.getD_eq_getElem?_getD, List.getD_eq_getElem?_getD, List.getElem?_map, List.getElem?_take, if_pos hj, List.getElem?_eq_getElem hjz]
        simp only [Option.getD_some, Option.map_some]
        rw [(key _ (List.getElem_mem hjz)).1]

theorem open_r {base0 : Nat} {v : Value} {d : DataW H} {p : List MemPlace} (_hv : Value.okWide Try.prog W .any base0 25 v) (h : DataW.Trod enc Try.prog W 0 (fun _ => true) true 25 v d p) : CameR W v := by
  obtain ⟨A, n, c, rfl⟩ := okWide_slice Try.underlying25 _hv
  obtain ⟨fuel, hf⟩ := h
  obtain ⟨u, hu, hc⟩ := came_r hf
  simp [Value.cells] at hu
  subst hu
  exact hc

/-- An address at which a plain cell lies. -/
theorem addr_plain {a : Addr} {v : Value} (h : W.cell? a = some v) : ∃ g o, a = ⟨g, o, none⟩ ∧ g < W.heap.size := by
  obtain ⟨g, o, spot⟩ := a
  obtain rfl : spot = none := World.cell?_spot h
  exact ⟨g, o, rfl, World.block_lt_of_cell? W _ h⟩
theorem add_at (g o i : Nat) : Addr.add ⟨g, o, none⟩ i = ⟨g, o + i, none⟩ := by
  unfold Addr.add
  split
  · rename_i h; rw [h]; rfl
  · rfl

/-- A slice of slices of numbers that came in. -/
def CameRR (W : World) (v : Value) : Prop := ∃ A n c, v = .slice A n c ∧ n ≤ maxLen ∧ ∃ V : Nat → Value, (∀ i, i < n → CameR W (V i)) ∧
  (0 < n → ∃ g o, A = some ⟨g, o, none⟩ ∧ g < W.heap.size ∧ n ≤ c ∧ c ≤ maxLen ∧ ∀ i, i < n → W.cell? ⟨g, o + i, none⟩ = some (V i))
theorem open_R {base0 : Nat} {v : Value} {d : DataW H} {p : List MemPlace} (hv : Value.okWide Try.prog W .any base0 22 v) (h : DataW.Trod enc Try.prog W 0 (fun _ => true) true 22 v d p) : CameRR W v := by
  obtain ⟨A, n, c, rfl⟩ := okWide_slice Try.underlying22 hv
  obtain ⟨fuel, hf⟩ := h
  rcases open_slice1 Try.underlying22 cellsS hf with ⟨hcs, _⟩ | ⟨a, len, cap, m, k, V, D, Pl, hcs, _, hl, hm, hmm, _, hx⟩
  · simp [Value.cells] at hcs
    obtain ⟨rfl, rfl, rfl⟩ := hcs
    exact ⟨none, 0, 0, rfl, by unfold maxLen; omega, fun _ => undef, fun i hi => by omega, fun h => by omega⟩
  · simp [Value.cells] at hcs
    obtain ⟨rfl, rfl, rfl⟩ := hcs
    have hnm : n ≤ m := by rw [hmm]; split <;> omega
    refine ⟨some a, n, c, rfl, by omega, V, fun i hi => ?_, fun h0 => ?_⟩
    · obtain ⟨u, hu, hr⟩ := came_r (hx i (by omega)).2
      obtain rfl : V i = u := by simpa using hu
      exact hr
    · have h1 := (hx 0 (by omega)).1
      rw [show a.add 0 = a from rfl] at h1
      obtain ⟨g, o, rfl, hg⟩ := addr_plain h1
      exact ⟨g, o, rfl, hg, hl, hm, fun i hi => by rw [← add_at]; exact (hx i (by omega)).1⟩

/-- A slice of at most 300 elements. -/
def Short (v : Value) : Prop := ∃ A m c, v = .slice A m c ∧ m ≤ 300
theorem pick_lane {v : Value} (h : CameR W v) : ∃ xs : List Nat, Short v → Lane W 0 W.heap.size v xs ∧ xs.length ≤ 300 := by
  obtain ⟨A, n, c, rfl, _, hr⟩ := h
  by_cases hn : n ≤ 300
  · obtain ⟨xs, hx, hl⟩ := hr (by omega)
    exact ⟨xs, fun _ => ⟨hl, by omega⟩⟩
  · refine ⟨[], fun ⟨A', m, c', e, hm⟩ => ?_⟩
    injection e with _ e
    omega
theorem pick_lanes {n : Nat} {V : Nat → Value} (hV : ∀ i, i < n → CameR W (V i)) : ∃ f : Nat → List Nat, ∀ i, i < n → Short (V i) → Lane W 0 W.heap.size (V i) (f i) ∧ (f i).length ≤ 300 :=
  choose_lt fun i hi => pick_lane (hV i hi)
def allOf (f : Nat → List Nat) (n : Nat) : List (List Nat) := (List.range n).map f
theorem allOf_length (f : Nat → List Nat) (n : Nat) : (allOf f n).length = n := by simp [allOf]
theorem allOf_get (f : Nat → List Nat) {n i : Nat} (hi : i < n) : (allOf f n).getD i [] = f i := by rw [List.getD_eq_getElem?_getD]; simp [allOf, hi]

/-- Where all of them are short it reads as a list of lists. -/
theorem lanes_of {v : Value} {A : Option Addr} {n c : Nat} {V : Nat → Value} {f : Nat → List Nat} (hv : v = .slice A n c) (hn : n ≤ 1000) (hf : ∀ i, i < n → Lane W 0 W.heap.size (V i) (f i))
    (hc : 0 < n → ∃ g o, A = some ⟨g, o, none⟩ ∧ g < W.heap.size ∧ n ≤ c ∧ c ≤ maxLen ∧ ∀ i, i < n → W.cell? ⟨g, o + i, none⟩ = some (V i)) : Lanes W W.heap.size v (allOf f n) := by
  refine ⟨by rw [allOf_length]; exact hn, ?_⟩
  rcases Nat.eq_zero_or_pos n with h0 | h0
  · subst h0; exact Or.inl ⟨rfl, A, c, hv⟩
  · obtain ⟨g, o, rfl, h1, h2, h3, h4⟩ := hc h0
    rw [allOf_length]
    exact Or.inr ⟨g, o, c, hv, h1, h2, h3, fun i hi => ⟨V i, h4 i hi, by rw [allOf_get f hi]; exact hf i hi⟩⟩

/-- A slice of ints that came in. -/
def CameN (W : World) (v : Value) : Prop := ∃ A n c, v = .slice A n c ∧ n ≤ maxLen ∧ ∃ Z : Nat → Int, (∀ i, i < n → -9223372036854775808 ≤ Z i ∧ Z i ≤ 9223372036854775807) ∧
  (0 < n → ∃ g o, A = some ⟨g, o, none⟩ ∧ g < W.heap.size ∧ n ≤ c ∧ c ≤ maxLen ∧ ∀ i, i < n → W.cell? ⟨g, o + i, none⟩ = some (.int .i64 (Z i)))
theorem open_n {base0 : Nat} {v : Value} {d : DataW H} {p : List MemPlace} (hv : Value.okWide Try.prog W .any base0 44 v) (h : DataW.Trod enc Try.prog W 0 (fun _ => true) true 44 v d p) : CameN W v := by
  obtain ⟨A, n, c, rfl⟩ := okWide_slice Try.underlying44 hv
  obtain ⟨fuel, hf⟩ := h
  rcases open_ints Try.underlying44 Try.underlying3 cellsI hf with ⟨hcs, _⟩ | ⟨a, len, cap, zs, hcs, _, hl, hm, hz, _, hcell, hwz⟩
  · simp [Value.cells] at hcs
    obtain ⟨rfl, rfl, rfl⟩ := hcs
    exact ⟨none, 0, 0, rfl, by unfold maxLen; omega, fun _ => 0, fun i hi => by omega, fun h => by omega⟩
  · simp [Value.cells] at hcs
    obtain ⟨rfl, rfl, rfl⟩ := hcs
    have hzl : n ≤ zs.length := by rw [hz]; split <;> omega
    refine ⟨some a, n, c, rfl, by omega, fun i => zs.getD i 0, fun i hi => ?_, fun h0 => ?_⟩
    · have hi' : i < zs.length := by omega
      have : zs.getD i 0 = zs[i] := by rw [List.getD_eq_getElem?_getD, List.getElem?_eq_getElem hi']; rfl
      show -9223372036854775808 ≤ zs.getD i 0 ∧ zs.getD i 0 ≤ 9223372036854775807
      rw [this]
      exact i64_rng (hwz _ (List.getElem_mem hi'))
    · obtain ⟨g, o, rfl, hc⟩ := ints_at hcell (by omega)
      exact ⟨g, o, rfl, World.block_lt_of_cell? W ⟨g, o + 0, none⟩ (hc 0 (by omega)), hl, hm, fun i hi => hc i (by omega)⟩

theorem cellsAct : Try.prog.cellsOf 32 = 3 := by kernel_rfl
theorem cellsFix : Try.prog.cellsOf 30 = 1 := by kernel_rfl
/-- A slice of calls that came in: each is three cells. -/
def CameA (W : World) (v : Value) : Prop := ∃ A n c, v = .slice A n c ∧ n ≤ maxLen ∧ ∃ K Z : Nat → Int, ∃ F : Nat → Nat, (∀ i, i < n → (-9223372036854775808 ≤ K i ∧ K i ≤ 9223372036854775807) ∧ (-9223372036854775808 ≤ Z i ∧ Z i ≤ 9223372036854775807) ∧ F i ≤ 18446744073709551615) ∧
  (0 < n → ∃ g o, A = some ⟨g, o, none⟩ ∧ g < W.heap.size ∧ n ≤ c ∧ c ≤ maxLen ∧ ∀ i, i < n → W.cell? ⟨g, o + i * 3, none⟩ = some (.int .i64 (K i)) ∧ W.cell? ⟨g, o + i * 3 + 1, none⟩ = some (.int .i64 (Z i)) ∧ W.cell? ⟨g, o + i * 3 + 2, none⟩ = some (.int .u64 (F i : Int)))
theorem act_cells {base fuel : Nat} {spare : Nat → Bool} {held : Bool} {cs : List Value} {x : DataW H × List MemPlace} (h : DataW.trod enc Try.prog W base spare held fuel 32 cs = some x) :
    ∃ (k z : Int) (f : Nat), cs = [.int .i64 k, .int .i64 z, .int .u64 (f : Int)] ∧ (-9223372036854775808 ≤ k ∧ k ≤ 9223372036854775807) ∧ (-9223372036854775808 ≤ z ∧ z ≤ 9223372036854775807) ∧ f ≤ 18446744073709551615 := by
  obtain ⟨y0, y1, y2, n, _, hl, h0, h1, h2⟩ := trod_struct3 Try.underlying32 h
  rw [cellsAct] at hl
  match cs, hl with
  | [c0, c1, c2], _ =>
    have h0' : DataW.trod enc Try.prog W base spare held n 3 [c0] = some y0 := by simpa [cellsI] using h0
    have h1' : DataW.trod enc Try.prog W base spare held n 3 [c1] = some y1 := by simpa [cellsI] using h1
    have h2' : DataW.trod enc Try.prog W base spare held n 30 [c2] = some y2 := by simpa [cellsFix] using h2
    obtain ⟨k, e0, _, w0⟩ := DataW.trod_int Try.underlying3 h0'
    obtain ⟨z, e1, _, w1⟩ := DataW.trod_int Try.underlying3 h1'
    obtain ⟨f, e2, _, w2⟩ := DataW.trod_int Try.underlying30 h2'
    obtain ⟨f, rfl, hf⟩ := u64_nat w2
    simp at e0 e1 e2
    subst e0 e1 e2
    exact ⟨k, z, f, rfl, i64_rng w0, i64_rng w1, hf⟩
theorem open_a {base0 : Nat} {v : Value} {d : DataW H} {p : List MemPlace} (hv : Value.okWide Try.prog W .any base0 23 v) (h : DataW.Trod enc Try.prog W 0 (fun _ => true) true 23 v d p) : CameA W v := by
  obtain ⟨A, n, c, rfl⟩ := okWide_slice Try.underlying23 hv
  obtain ⟨fuel, hf⟩ := h
  rcases open_slice Try.underlying23 hf with ⟨hcs, _⟩ | ⟨a, len, cap, m, k, D, Pl, hcs, _, hl, hm, hmm, _, hx⟩
  · simp [Value.cells] at hcs
    obtain ⟨rfl, rfl, rfl⟩ := hcs
    exact ⟨none, 0, 0, rfl, by unfold maxLen; omega, fun _ => 0, fun _ => 0, fun _ => 0, fun i hi => by omega, fun h => by omega⟩
  · simp [Value.cells] at hcs
    obtain ⟨rfl, rfl, rfl⟩ := hcs
    have hnm : n ≤ m := by rw [hmm]; split <;> omega
    have key : ∀ i, i < n → ∃ q : Int × Int × Nat, ((-9223372036854775808 ≤ q.1 ∧ q.1 ≤ 9223372036854775807) ∧ (-9223372036854775808 ≤ q.2.1 ∧ q.2.1 ≤ 9223372036854775807) ∧ q.2.2 ≤ 18446744073709551615) ∧
        W.cell? (a.add (i * 3)) = some (.int .i64 q.1) ∧ W.cell? (a.add (i * 3 + 1)) = some (.int .i64 q.2.1) ∧ W.cell? (a.add (i * 3 + 2)) = some (.int .u64 (q.2.2 : Int)) := by
      intro i hi
      obtain ⟨cs, hc, ht⟩ := hx i (by omega)
      rw [cellsAct] at hc
      obtain ⟨k, z, f, rfl, h1, h2, h3⟩ := act_cells ht
      obtain ⟨_, _, hat⟩ := World.cells?_some hc
      refine ⟨(k, z, f), ⟨h1, h2, h3⟩, ?_, ?_, ?_⟩
      · have := hat 0 (by omega); rw [add_add] at this; simpa using this
      · have := hat 1 (by omega); rw [add_add] at this; simpa using this
      · have := hat 2 (by omega); rw [add_add] at this; simpa using this
    obtain ⟨q, hq⟩ := choose_lt key
    refine ⟨some a, n, c, rfl, by omega, fun i => (q i).1, fun i => (q i).2.1, fun i => (q i).2.2, fun i hi => (hq i hi).1, fun h0 => ?_⟩
    have h1 := (hq 0 h0).2.1
    rw [show a.add (0 * 3) = a from rfl] at h1
    obtain ⟨g, o, rfl, hg⟩ := addr_plain h1
    refine ⟨g, o, rfl, hg, hl, hm, fun i hi => ?_⟩
    have := (hq i hi).2
    rw [add_at, add_at, add_at] at this
    exact this
end
end Go.Proofs.Ytaiejdopmlajmaa
