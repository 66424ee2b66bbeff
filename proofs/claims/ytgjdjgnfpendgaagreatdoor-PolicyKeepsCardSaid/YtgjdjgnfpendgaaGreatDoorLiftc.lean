/- What the rows of this seat share: the two listed variables' cells (errors.errorType; the policies' names), a world that meets the rows' condition. -/
import Derived.Test.YtgjdjgnfpendgaaGreatDoorRows
import Derived.Test.YtgjdjgnfpendgaaGreatDoorErrc
import Derived.ChangeSame
import Derived.ChangeVars
import Derived.JoinedOf
import Derived.RowKit
import Derived.ProofKit
import Derived.OpenShut
import Derived.RowKitTokens
import Derived.LaidLaws
import Derived.LaidHandle
import Derived.LaidSub
import Derived.Stop.Joined
namespace Go.Proofs.YtgjdjgnfpendgaaGreatDoor
open Go.ChangeShapes Go.WideShapes Go.ChangeAt Go.RowKit

theorem own : ownKnob Tryz.prog.godebug = none := by kernel_rfl
theorem gEt : Tryz.prog.globalNamed "errors.errorType" = some 1 := by kernel_rfl
theorem gRt : (Tryz.prog.cutTypes.find? (·.1 == "internal/reflectlite.rtype")).map (·.2) = some 203 := by kernel_rfl
theorem oneRow : ((List.range 315).filter fun t => Tryz.prog.rowNamed t [101, 114, 114, 111, 114]) = [27] := by kernel_rfl
theorem nTypes : Tryz.prog.types.size = 315 := by kernel_rfl

theorem gNm : Tryz.prog.globalNamed "cachewise/policy.names" = some 0 := by kernel_rfl
theorem tNm : (Tryz.prog.globals[0]?).map (·.type) = some 142 := by kernel_rfl
theorem cellsNm : Tryz.prog.cellsOf 9 = 1 := by kernel_rfl

/-- A kind's name. -/
def nameOf : Nat → ByteArray
  | 0 => ⟨#[76, 82, 85]⟩
  | 1 => ⟨#[76, 70, 85]⟩
  | 2 => ⟨#[67, 82, 45, 76, 70, 85]⟩
  | 3 => ⟨#[83, 82, 45, 76, 82, 85]⟩
  | 4 => ⟨#[65, 82, 67]⟩
  | 5 => ⟨#[76, 101, 67, 97, 82]⟩
  | _ => ⟨#[67, 65, 67, 72, 69, 85, 83]⟩
/-- The names stand in their array. -/
def Named (w : World) : Prop := ∀ k, k < 7 → w.cell? ⟨0, k, none⟩ = some (.string (nameOf k))
theorem Named.lt {w : World} (h : Named w) : 0 < w.heap.size := World.block_lt_of_cell? w _ (h 0 (by omega))
theorem Named.below {w w' : World} {B : Nat} (h : Named w) (hb : Below B w w') (hB : w.heap.size ≤ B) : Named w' := fun k hk => by
  rw [hb.cell (p := ⟨0, k, none⟩) (Nat.lt_of_lt_of_le h.lt hB)]
  exact h k hk
/-- The list that every row of this seat bears. -/
def seatLaid : List (String × DataW Unit) := [("errors.errorType", Rows.laid_errors_errorType), ("cachewise/policy.names", Rows.laid_cachewise_policy_names)]
def namesD : List (DataW Unit) := [.lit (.string [76, 82, 85]), .lit (.string [76, 70, 85]), .lit (.string [67, 82, 45, 76, 70, 85]), .lit (.string [83, 82, 45, 76, 82, 85]), .lit (.string [65, 82, 67]), .lit (.string [76, 101, 67, 97, 82]), .lit (.string [67, 65, 67, 72, 69, 85, 83])]
theorem namesD_get : ∀ k, k < 7 → namesD[k]? = some (.lit (.string (nameOf k).data.toList)) := by
  intro k hk
  rcases k with _ | _ | _ | _ | _ | _ | _ | k
  · rfl
  · rfl
  · rfl
  · rfl
  · rfl
  · rfl
  · rfl
  · omega

theorem laid_of {W : World} (h : laidMetH Tryz.prog seatLaid W) : Laid W ∧ Named W := by
  have h' : laidMet Tryz.prog [("cachewise/policy.names", Rows.laid_cachewise_policy_names)] W ∧ handlesMet Tryz.prog [("errors.errorType", Rows.laid_errors_errorType)] W := h
  refine ⟨?_, ?_⟩
  · obtain ⟨name, u, ty, e1, e2, e3, e4, e5⟩ := h'.2 _ (List.mem_singleton.2 rfl)
    have en : name = [101, 114, 114, 111, 114] := (Option.some.inj e1).symm
    subst en
    obtain rfl := Option.some.inj (gRt.symm.trans e2)
    have hm : ty ∈ (List.range 315).filter fun t => Tryz.prog.rowNamed t [101, 114, 114, 111, 114] := List.mem_filter.2 ⟨List.mem_range.2 (by rw [← nTypes]; exact e3), e4⟩
    rw [oneRow] at hm
    obtain rfl := List.mem_singleton.1 hm
    have hh : typeHandle Tryz.prog 27 = .pointer (some ⟨2, 27, none⟩) := by kernel_rfl
    rw [hh] at e5
    show W.cell? _ = _
    simpa using World.var?_cell gEt e5 0
  · obtain ⟨ps, ⟨g, t, cs, f, p, q, hg, ht, hv, hd, _, _⟩, _, _⟩ := h'.1
    obtain rfl := Option.some.inj (gNm.symm.trans hg)
    obtain rfl := Option.some.inj (tNm.symm.trans ht)
    obtain ⟨xs, m, rfl, hx, hlen, hn, hel⟩ := DataW.trod_array Tryz.underlying142 hd
    have hx1 : xs.map (·.1) = namesD := by
      have := (Prod.mk.inj hx).1
      exact (DataW.agg.inj (show DataW.agg namesD = DataW.agg (xs.map (·.1)) from this)).symm
    intro k hk
    have he := hel k hk
    rw [cellsNm, Nat.mul_one] at he
    have hk' : k < xs.length := by rw [hn]; exact hk
    rw [List.getElem?_eq_getElem hk'] at he
    obtain ⟨s, e1, e2, _⟩ := DataW.trod_string Tryz.underlying9 he
    have h1 : (xs.map (·.1))[k]? = some (.lit (.string s.data.toList)) := by
      rw [List.getElem?_map, List.getElem?_eq_getElem hk', e2]; rfl
    rw [hx1, namesD_get k hk] at h1
    have h2 : (nameOf k).data.toList = s.data.toList := Lit.string.inj (DataW.lit.inj (Option.some.inj h1))
    have h3 : s = nameOf k := by
      generalize nameOf k = y at h2
      obtain ⟨⟨a⟩⟩ := s
      obtain ⟨⟨b⟩⟩ := y
      have h4 : b = a := h2
      rw [h4]
    have h5 : cs[k]? = some (.string s) := by
      have : (cs.toList.drop k).take 1 = [.string s] := e1
      have h6 : ((cs.toList.drop k).take 1)[0]? = some (.string s) := by rw [this]; rfl
      rw [List.getElem?_take_of_lt (by omega), List.getElem?_drop] at h6
      simpa using h6
    have h7 := World.var?_cell hg hv k
    rw [h3] at h5
    simpa [h5] using h7

def layEt : Obj → Obj
  | .cells _ t frozen => .cells #[.iface 203 (.agg #[.pointer (some ⟨2, 27, none⟩)])] t frozen
  | o => o
def layNm : Obj → Obj
  | .cells _ t frozen => .cells #[.string ⟨#[76, 82, 85]⟩, .string ⟨#[76, 70, 85]⟩, .string ⟨#[67, 82, 45, 76, 70, 85]⟩, .string ⟨#[83, 82, 45, 76, 82, 85]⟩, .string ⟨#[65, 82, 67]⟩, .string ⟨#[76, 101, 67, 97, 82]⟩, .string ⟨#[67, 65, 67, 72, 69, 85, 83]⟩] t frozen
  | o => o
/-- A world that meets the condition: the settled one, the variables' cells laid. -/
noncomputable def laidWorld (os : Os) : World :=
  { World.holding Tryz.prog os ⟨#[], #[], []⟩ with heap := ((World.holding Tryz.prog os ⟨#[], #[], []⟩).heap.modify 1 layEt).modify 0 layNm }
theorem laidWorld_met (os : Os) (args : Array Value) : laidMetH Tryz.prog seatLaid ((laidWorld os).forCall (fun _ _ => 0) ⟨#[], args, []⟩).memory :=
  laidMetH_of_parts (laidMet_of_run' 8 (by kernel_rfl) (by kernel_rfl)) (by kernel_rfl)

end Go.Proofs.YtgjdjgnfpendgaaGreatDoor
