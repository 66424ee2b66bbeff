/- A map from strings to ints that the program keeps in a field: told by the place at each key, and how many there are. -/
import Derived.Test.YtlmbeiijijkjeaaAr
import Derived.Maps.OwnSet
namespace Go.Proofs.Ytlmbeiijijkjeaa
open Go.RowKit Go.Maps Go.WideMaps

theorem lawS : Keyed Try.prog 9 := string_keyed Try.underlying9
theorem zeroI (w : World) : (zeroValue 3).run Try.prog w = .ok (.int .i64 0) w := by kernel_rfl
theorem i64_wf {z : Int} (h : -9223372036854775808 ≤ z ∧ z ≤ 9223372036854775807) : (Lit.int .i64 z).wf = true := by
  refine (Bool.and_eq_true _ _).mpr ⟨decide_eq_true h.1, decide_eq_true h.2⟩
theorem str_ne {s t : ByteArray} (h : s ≠ t) : (Lit.string s.data.toList) ≠ .string t.data.toList := by
  intro e
  injection e with e
  exact h (ByteArray.ext (Array.toList_inj.1 e))
theorem owns_size {H : Type} {P : Program} {k : TypeId} {R : Value → Option (DataW H × List MemPlace)} {w : World} {b n : Nat} {D : DataW H} (h : w.ownsMap P k R b n D) : w.ownsMap P k R b (Maps.size D) D := by
  obtain ⟨es, clock, hb, F, _, rfl⟩ := h
  exact ⟨es, clock, hb, F, by simp [Maps.size, length_sorted], rfl⟩
theorem owns_same {H : Type} {P : Program} {k : TypeId} {R : Value → Option (DataW H × List MemPlace)} {w w' : World} {b n : Nat} {D : DataW H} (h : w.ownsMap P k R b n D) (hs : w'.heap[b]? = w.heap[b]?) : w'.ownsMap P k R b n D := by
  obtain ⟨es, clock, hb, r⟩ := h
  exact ⟨es, clock, hs.trans hb, r⟩
theorem owns_clear {H : Type} {P : Program} {k t e : TypeId} {R : Value → Option (DataW H × List MemPlace)} {w : World} {b n : Nat} {D : DataW H} (h : w.ownsMap P k R b n D) (ht : P.underlying t = some (.map k e)) (ty : TypeId) :
    ∃ w', (Builtin.clear_ #[t] ty #[.map (some b)]).run P w = .ok (.tuple #[]) w' ∧ w'.ownsMap P k R b 0 (.map []) ∧ w.grownBy w' (some b) := by
  obtain ⟨es, clock, hb, _⟩ := h
  refine ⟨ChangeMaps.setBlock w b (.map #[] clock), ?_, ⟨#[], clock, ChangeMaps.heap_setBlock_same hb _, ⟨by simp, MapKept.stamped_empty _, by simp⟩, Nat.le_refl _, rfl⟩, ⟨rfl, rfl, rfl, by simp [ChangeMaps.setBlock], fun i _ hi => ChangeMaps.heap_setBlock_other hb _ (fun e => hi (by rw [e]))⟩⟩
  simp [Builtin.clear_, run_underlying ht, MapKept.run_getObj_map hb, MapKept.run_setObj_map _ hb, Result.andThen]
  rfl

def fput (f : ByteArray → Option Nat) (s : ByteArray) (v : Nat) : ByteArray → Option Nat := fun t => if t = s then some v else f t
def fdel (f : ByteArray → Option Nat) (s : ByteArray) : ByteArray → Option Nat := fun t => if t = s then none else f t
/-- Block b is a map of n entries; at each key it reads what f says. -/
def Mp (w : World) (b : Nat) (f : ByteArray → Option Nat) (n : Nat) : Prop := ∃ D : DataW Unit, w.ownsMap Try.prog 9 (plainElem Try.prog 3) b n D ∧ Maps.size D = n ∧
  ∀ s : ByteArray, Maps.has D (.string s.data.toList) = (f s).isSome ∧ D.atKey (.string s.data.toList) (.lit (.int .i64 0)) = .lit (.int .i64 (((f s).getD 0 : Nat) : Int))
section
variable {w : World} {b n : Nat} {f : ByteArray → Option Nat}
theorem Mp.made (w : World) : Mp (w.alloc (.map #[] 0)) w.heap.size (fun _ => none) 0 := ⟨.map [], World.ownsMap_made w _ _ _, rfl, fun _ => ⟨rfl, rfl⟩⟩
theorem Mp.same {w' : World} (h : Mp w b f n) (hs : w'.heap[b]? = w.heap[b]?) : Mp w' b f n := by
  obtain ⟨D, h1, h2⟩ := h
  exact ⟨D, owns_same h1 hs, h2⟩
theorem Mp.lt (h : Mp w b f n) : b < w.heap.size := by
  obtain ⟨D, h1, _⟩ := h
  exact h1.lt
theorem Mp.congr {g : ByteArray → Option Nat} (h : Mp w b f n) (hg : ∀ s, g s = f s) : Mp w b g n := by
  obtain rfl : g = f := funext hg
  exact h
theorem Mp.look (h : Mp w b f n) {s : ByteArray} (hs : s.size ≤ maxLen) :
    (Instr.lookup 61 (.map (some b)) (.string s) true).run Try.prog w = .ok (.tuple #[.int .i64 (((f s).getD 0 : Nat) : Int), .bool (f s).isSome]) w := by
  obtain ⟨D, h1, _, h3⟩ := h
  obtain ⟨v, ps, hrun, hv⟩ := h1.look_ok lawS Try.underlying61 (zeroI w) (plainElem_int Try.underlying3 (i64_wf (by omega))) (keyOf_string_mk Try.underlying9 hs)
  obtain ⟨c, rfl, hc, _⟩ := plainElem_int_inv Try.underlying3 hv
  have hc := congrArg Prod.fst hc
  simp only [(h3 s).2] at hc
  injection hc with hc
  injection hc with _ hc
  rw [hrun, (h3 s).1, hc]
theorem Mp.len (h : Mp w b f n) (ty : TypeId) : (Builtin.len_ #[61] ty #[.map (some b)]).run Try.prog w = .ok (.int .i64 (n : Int)) w := by
  obtain ⟨D, h1, h2, _⟩ := h
  rw [h1.len Try.underlying61 ty, h2]
theorem Mp.store (h : Mp w b f n) {s : ByteArray} (hs : s.size ≤ maxLen) (hn : n ≤ 1000000) (hf : f s = none) {v : Nat} (hv : v ≤ 1000000) :
    ∃ w', (Instr.mapUpdate 61 (.map (some b)) (.string s) (.int .i64 (v : Int))).run Try.prog w = .ok () w' ∧ Mp w' b (fput f s v) (n + 1) ∧ w.grownBy w' (some b) := by
  obtain ⟨D, h1, h2, h3⟩ := h
  obtain ⟨w', hrun, hown, hg⟩ := h1.update lawS Try.underlying61 (by unfold maxLen; omega) (keyOf_string_mk Try.underlying9 hs) (plainElem_int Try.underlying3 (i64_wf (z := (v : Int)) (by omega)))
  have hk : WideAt.IsKeyLit (.string s.data.toList) := trivial
  refine ⟨w', hrun, ⟨_, hown, ?_, fun t => ?_⟩, hg⟩
  · rw [size_put (h1.tidy lawS), (h3 s).1, hf, h2]; rfl
  · unfold fput
    by_cases e : t = s
    · subst e
      rw [if_pos rfl, has_put_same h1.isMap hk, atKey_put_same h1.isMap hk]
      exact ⟨rfl, rfl⟩
    · rw [if_neg e, has_put_other (str_ne e), atKey_put_other (str_ne e)]
      exact h3 t
theorem Mp.drop (h : Mp w b f (n + 1)) {s : ByteArray} (hs : s.size ≤ maxLen) (hf : (f s).isSome = true) (ty : TypeId) :
    ∃ w', (Builtin.delete_ #[61, 9] ty #[.map (some b), .string s]).run Try.prog w = .ok (.tuple #[]) w' ∧ Mp w' b (fdel f s) n ∧ w.grownBy w' (some b) := by
  obtain ⟨D, h1, h2, h3⟩ := h
  obtain ⟨w', hrun, hown, hg⟩ := h1.drop lawS Try.underlying61 (keyOf_string_mk Try.underlying9 hs) ty
  have hsz : Maps.size (D.del (.string s.data.toList)) = n := by
    have := size_del (k := .string s.data.toList) (h1.tidy lawS)
    rw [(h3 s).1, hf, h2] at this
    simpa using this
  refine ⟨w', hrun, ⟨_, hsz ▸ owns_size hown, hsz, fun t => ?_⟩, hg.grown⟩
  unfold fdel
  by_cases e : t = s
  · subst e
    rw [if_pos rfl, has_del_same, atKey_del_same]
    exact ⟨rfl, rfl⟩
  · rw [if_neg e, has_del_other (str_ne e), atKey_del_other (str_ne e)]
    exact h3 t
theorem Mp.clear (h : Mp w b f n) (ty : TypeId) : ∃ w', (Builtin.clear_ #[61] ty #[.map (some b)]).run Try.prog w = .ok (.tuple #[]) w' ∧ Mp w' b (fun _ => none) 0 ∧ w.grownBy w' (some b) := by
  obtain ⟨D, h1, _⟩ := h
  obtain ⟨w', hrun, hown, hg⟩ := owns_clear h1 Try.underlying61 ty
  exact ⟨w', hrun, ⟨_, hown, rfl, fun _ => ⟨rfl, rfl⟩⟩, hg⟩
end
end Go.Proofs.Ytlmbeiijijkjeaa
