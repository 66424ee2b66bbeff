/- What the rows of this seat share: the arguments' ranges and shapes: slices of calls (three cells each), slices of strings. -/
import Derived.Test.YtnlckkahkghneaaGreatDoorRows
import Derived.Test.YtnlckkahkghneaaGreatDoorLiftb
import Derived.Test.YtnlckkahkghneaaGreatDoorGBas
import Derived.ProofKit
import Derived.OpenShut
import Derived.ShutString
import Derived.ChangeOld
import Derived.Deep.Slices
import Derived.Deep.Strs
import Derived.SliceStrings
set_option maxRecDepth 20000
namespace Go.Proofs.YtnlckkahkghneaaGreatDoor
open Go.ChangeShapes Go.WideShapes Go.ChangeAt Go.RowKit Go.Deep

theorem laidOut : laidOutB Tryz.prog = true := by kernel_rfl
theorem u8_nat {a : Int} (h : (Lit.int .u8 a).wf = true) : ∃ n : Nat, a = (n : Int) ∧ n ≤ 255 := by
  have h' : (0 : Int) ≤ a ∧ a ≤ 255 := by
    have := (Bool.and_eq_true _ _).mp h
    exact ⟨of_decide_eq_true this.1, of_decide_eq_true this.2⟩
  exact ⟨a.toNat, by omega, by omega⟩
theorem i64_rng {a : Int} (h : (Lit.int .i64 a).wf = true) : -9223372036854775808 ≤ a ∧ a ≤ 9223372036854775807 := by
  have := (Bool.and_eq_true _ _).mp h
  exact ⟨of_decide_eq_true this.1, of_decide_eq_true this.2⟩
theorem cellsI : Tryz.prog.cellsOf 3 = 1 := by kernel_rfl
theorem cellsStr : Tryz.prog.cellsOf 9 = 1 := by kernel_rfl
theorem cellsAct : Tryz.prog.cellsOf 55 = 3 := by kernel_rfl

section
variable {H : Type} {enc : TypeId × Value → H} {W : World}
/-- An address at which a plain cell lies. -/
theorem addr_plain {a : Addr} {v : Value} (h : W.cell? a = some v) : ∃ g o, a = ⟨g, o, none⟩ ∧ g < W.heap.size := by
  obtain ⟨g, o, spot⟩ := a
  obtain rfl : spot = none := World.cell?_spot h
  exact ⟨g, o, rfl, World.block_lt_of_cell? W _ h⟩
theorem add_at (g o i : Nat) : Addr.add ⟨g, o, none⟩ i = ⟨g, o + i, none⟩ := by
  unfold Addr.add
  split
  · rename_i h; rw [h]; rfl
  · rfl

/-- A slice of calls that came in: each is three cells. -/
def CameA (W : World) (v : Value) : Prop := ∃ A n c, v = .slice A n c ∧ n ≤ maxLen ∧ ∃ (K : Nat → Int) (S : Nat → ByteArray) (N : Nat → Int), (∀ i, i < n → (-9223372036854775808 ≤ N i ∧ N i ≤ 9223372036854775807) ∧ (S i).size ≤ maxLen) ∧
  (0 < n → ∃ g o, A = some ⟨g, o, none⟩ ∧ g < W.heap.size ∧ n ≤ c ∧ c ≤ maxLen ∧ ∀ i, i < n → W.cell? ⟨g, o + i * 3, none⟩ = some (.int .i64 (K i)) ∧ W.cell? ⟨g, o + i * 3 + 1, none⟩ = some (.string (S i)) ∧ W.cell? ⟨g, o + i * 3 + 2, none⟩ = some (.int .i64 (N i)))
theorem act_cells {base fuel : Nat} {spare : Nat → Bool} {held : Bool} {cs : List Value} {x : DataW H × List MemPlace} (h : DataW.trod enc Tryz.prog W base spare held fuel 55 cs = some x) :
    ∃ (k : Int) (s : ByteArray) (a : Int), cs = [.int .i64 k, .string s, .int .i64 a] ∧ (-9223372036854775808 ≤ a ∧ a ≤ 9223372036854775807) ∧ s.size ≤ maxLen := by
  obtain ⟨y0, y1, y2, n, _, hl, h0, h1, h2⟩ := trod_struct3 Tryz.underlying55 h
  rw [cellsAct] at hl
  match cs, hl with
  | [c0, c1, c2], _ =>
    have h0' : DataW.trod enc Tryz.prog W base spare held n 3 [c0] = some y0 := by simpa [cellsI] using h0
    have h1' : DataW.trod enc Tryz.prog W base spare held n 9 [c1] = some y1 := by simpa [cellsI, cellsStr] using h1
    have h2' : DataW.trod enc Tryz.prog W base spare held n 3 [c2] = some y2 := by simpa [cellsI, cellsStr] using h2
    obtain ⟨k, e0, _, _⟩ := DataW.trod_int Tryz.underlying3 h0'
    obtain ⟨s, e1, _, w1⟩ := DataW.trod_string Tryz.underlying9 h1'
    obtain ⟨a, e2, _, w2⟩ := DataW.trod_int Tryz.underlying3 h2'
    simp at e0 e1 e2
    subst e0 e1 e2
    exact ⟨k, s, a, rfl, i64_rng w2, w1⟩
instance : Inhabited (Int × ByteArray × Int) := ⟨(0, ⟨#[]⟩, 0)⟩
theorem open_a {base0 : Nat} {v : Value} {d : DataW H} {p : List MemPlace} (hv : Value.okWide Tryz.prog W .any base0 23 v) (h : DataW.Trod enc Tryz.prog W 0 (fun _ => true) true 23 v d p) : CameA W v := by
  obtain ⟨A, n, c, rfl⟩ := okWide_slice Tryz.underlying23 hv
  obtain ⟨fuel, hf⟩ := h
  rcases open_slice Tryz.underlying23 hf with ⟨hcs, _⟩ | ⟨a, len, cap, m, k, D, Pl, hcs, _, hl, hm, hmm, _, hx⟩
  · simp [Value.cells] at hcs
    obtain ⟨rfl, rfl, rfl⟩ := hcs
    exact ⟨none, 0, 0, rfl, by unfold maxLen; omega, fun _ => 0, fun _ => ⟨#[]⟩, fun _ => 0, fun i hi => by omega, fun h => by omega⟩
  · simp [Value.cells] at hcs
    obtain ⟨rfl, rfl, rfl⟩ := hcs
    have hnm : n ≤ m := by rw [hmm]; split <;> omega
    have key : ∀ i, i < n → ∃ q : Int × ByteArray × Int, ((-9223372036854775808 ≤ q.2.2 ∧ q.2.2 ≤ 9223372036854775807) ∧ q.2.1.size ≤ maxLen) ∧
        W.cell? (a.add (i * 3)) = some (.int .i64 q.1) ∧ W.cell? (a.add (i * 3 + 1)) = some (.string q.2.1) ∧ W.cell? (a.add (i * 3 + 2)) = some (.int .i64 q.2.2) := by
      intro i hi
      obtain ⟨cs, hc, ht⟩ := hx i (by omega)
      rw [cellsAct] at hc
      obtain ⟨k, s, r, rfl, h1, h2⟩ := act_cells ht
      obtain ⟨_, _, hat⟩ := World.cells?_some hc
      refine ⟨(k, s, r), ⟨h1, h2⟩, ?_, ?_, ?_⟩
      · have := hat 0 (by omega); rw [add_add] at this; simpa using this
      · have := hat 1 (by omega); rw [add_add] at this; simpa using this
      · have := hat 2 (by omega); rw [add_add] at this; simpa using this
    obtain ⟨q, hq⟩ := choose_lt key
    refine ⟨some a, n, c, rfl, by omega, fun i => (q i).1, fun i => (q i).2.1, fun i => (q i).2.2, fun i hi => (hq i hi).1, fun h0 => ?_⟩
    have h1 := (hq 0 h0).2.1
    rw [show a.add (0 * 3) = a from rfl] at h1
    obtain ⟨g, o, rfl, hg⟩ := addr_plain h1
    refine ⟨g, o, rfl, hg, hl, hm, fun i hi => ?_⟩
    have := (hq i hi).2
    rw [add_at, add_at, add_at] at this
    exact this

/-- A slice of strings that came in. -/
def CameS (W : World) (v : Value) : Prop := ∃ A n c, v = .slice A n c ∧ n ≤ maxLen ∧ ∃ S : Nat → ByteArray, (∀ i, i < n → (S i).size ≤ maxLen) ∧
  (0 < n → ∃ g o, A = some ⟨g, o, none⟩ ∧ g < W.heap.size ∧ n ≤ c ∧ c ≤ maxLen ∧ ∀ i, i < n → W.cell? ⟨g, o + i, none⟩ = some (.string (S i)))
theorem open_z {base0 : Nat} {v : Value} {d : DataW H} {p : List MemPlace} (hv : Value.okWide Tryz.prog W .any base0 33 v) (h : DataW.Trod enc Tryz.prog W 0 (fun _ => true) true 33 v d p) : CameS W v := by
  obtain ⟨A, n, c, rfl⟩ := okWide_slice Tryz.underlying33 hv
  obtain ⟨fuel, hf⟩ := h
  rcases open_strings Tryz.underlying33 Tryz.underlying9 cellsStr hf with ⟨hcs, _⟩ | ⟨a, len, cap, ss, hcs, _, hl, hm, hz, _, hcell, hws⟩
  · simp [Value.cells] at hcs
    obtain ⟨rfl, rfl, rfl⟩ := hcs
    exact ⟨none, 0, 0, rfl, by unfold maxLen; omega, fun _ => ⟨#[]⟩, fun i hi => by omega, fun h => by omega⟩
  · simp [Value.cells] at hcs
    obtain ⟨rfl, rfl, rfl⟩ := hcs
    have hzl : n ≤ ss.length := by rw [hz]; split <;> omega
    refine ⟨some a, n, c, rfl, by omega, fun i => ss.getD i ByteArray.empty, fun i hi => ?_, fun h0 => ?_⟩
    · have hi' : i < ss.length := by omega
      show (ss.getD i ByteArray.empty).size ≤ maxLen
      rw [List.getD_eq_getElem?_getD, List.getElem?_eq_getElem hi']
      exact hws _ (List.getElem_mem hi')
    · have h1 := hcell 0 (by omega)
      rw [show a.add 0 = a from rfl] at h1
      obtain ⟨g, o, rfl, hg⟩ := addr_plain h1
      exact ⟨g, o, rfl, hg, hl, hm, fun i hi => by rw [← add_at]; exact hcell i (by omega)⟩
end
end Go.Proofs.YtnlckkahkghneaaGreatDoor
