/- A map from strings to ints that a law makes, told by what it reads at each key; beside a cache, with a row of keys. -/
import Derived.Test.YtdbfojolocelaaaRc6
namespace Go.Proofs.Ytdbfojolocelaaa
open Go.RowKit Ht HS Lf Go.Maps Go.WideMaps

theorem zeroI (w : World) : (zeroValue 3).run Try.prog w = .ok (.int .i64 0) w := by kernel_rfl
/-- Block b is a map of at most m entries; at each key it reads what f says. -/
def CntM (w : World) (b m : Nat) (f : ByteArray → Int) : Prop := ∃ D : DataW Unit, w.ownsMap Try.prog 9 (plainElem Try.prog 3) b m D ∧ IsMap D ∧ ∀ s : ByteArray, D.atKey (.string s.data.toList) (.lit (.int .i64 0)) = .lit (.int .i64 (f s))
def upd1 (f : ByteArray → Int) (s : ByteArray) (z : Int) : ByteArray → Int := fun y => if y = s then z else f y
section
variable {w w' : World} {b m : Nat} {f : ByteArray → Int}
theorem CntM.made (w : World) : CntM (w.alloc (.map #[] 0)) w.heap.size 0 (fun _ => 0) := ⟨.map [], World.ownsMap_made w _ _ _, isMap_empty, fun _ => rfl⟩
theorem CntM.lt (h : CntM w b m f) : b < w.heap.size := by
  obtain ⟨D, h1, _⟩ := h
  exact h1.lt
theorem CntM.obj (h : CntM w b m f) : ∃ es c, w.heap[b]? = some (.map es c) := by
  obtain ⟨D, ⟨es, clock, hb, _⟩, _⟩ := h
  exact ⟨es, clock, hb⟩
theorem CntM.same (h : CntM w b m f) (hs : w'.heap[b]? = w.heap[b]?) : CntM w' b m f := by
  obtain ⟨D, h1, h2⟩ := h
  exact ⟨D, owns_same h1 hs, h2⟩
set_option maxRecDepth 100000 in
theorem CntM.look (h : CntM w b m f) {s : ByteArray} (hs : s.size ≤ maxLen) : (Instr.lookup 58 (.map (some b)) (.string s) false).run Try.prog w = .ok (.int .i64 (f s)) w := by
  obtain ⟨D, h1, _, h3⟩ := h
  obtain ⟨c, hrun, hat, _⟩ := h1.lookup_int lawK Try.underlying58 Try.underlying3 (zeroI w) (keyOf_string_mk Try.underlying9 hs)
  rw [h3 s] at hat
  injection hat with hat
  injection hat with _ hat
  rw [hrun, hat]
set_option maxRecDepth 100000 in
theorem CntM.store (h : CntM w b m f) {s : ByteArray} (hs : s.size ≤ maxLen) {z : Int} (hz : -9223372036854775808 ≤ z ∧ z ≤ 9223372036854775807) (hm : m ≤ 100000) :
    ∃ w', (Instr.mapUpdate 58 (.map (some b)) (.string s) (.int .i64 z)).run Try.prog w = .ok () w' ∧ CntM w' b (m + 1) (upd1 f s z) ∧ w.grownBy w' (some b) := by
  obtain ⟨D, h1, h2, h3⟩ := h
  obtain ⟨w', hrun, hown, hg⟩ := h1.update lawK Try.underlying58 (by unfold maxLen; omega) (keyOf_string_mk Try.underlying9 hs) (plainElem_int Try.underlying3 (i64_wf hz))
  refine ⟨w', hrun, ⟨_, hown, h2.put _ _, fun y => ?_⟩, hg⟩
  unfold upd1
  by_cases e : y = s
  · subst e
    rw [if_pos rfl, atKey_put_same h2 (show WideAt.IsKeyLit (.string y.data.toList) from trivial)]
  · rw [if_neg e, atKey_put_other (str_ne e)]
    exact h3 y
end

/-- A cache, a row of keys and a map, side by side. -/
structure Fw (w0 W : World) (c : Nat) (T : Nat → Prop) (mo : Nat) (ch : Bool) (L : List (Ent Key)) (n : Nat) (v : Value) (xs : List ByteArray) (b m : Nat) (f : ByteArray → Int) : Prop where
  live : Live w0 W c T mo ch L n
  row : Mine W T v xs
  map : CntM W b m f
  bT : ¬ T b
  b0 : w0.heap.size ≤ b
section
variable {w0 W W' : World} {c mo n n' b m : Nat} {T : Nat → Prop} {ch : Bool} {L L' : List (Ent Key)} {v r : Value} {xs : List ByteArray} {f : ByteArray → Int} {e : Ending}
theorem Fw.below (q : Fw w0 W c T mo ch L n v xs b m f) (hb : Below W.heap.size W W') : Fw w0 W' c T mo ch L n v xs b m f :=
  ⟨q.live.below hb, q.row.below hb, q.map.same (hb.block b q.map.lt), q.bT, q.b0⟩
theorem Fw.op (q : Fw w0 W c T mo ch L n v xs b m f) (hp : CaPost r W c T mo ch L' n' e W') : e = .returned r ∧ ∃ T', Fw w0 W' c T' mo ch L' n' v xs b m f := by
  obtain ⟨he, T', h1, h2⟩ := q.live.op hp
  refine ⟨he, T', h1, q.row.went h2 h1.lt, q.map.same (h2.turn.block b q.map.lt q.bT), fun hk => ?_, q.b0⟩
  rcases h2.new b hk with h | h
  · exact q.bT h
  · have := q.map.lt; omega
theorem Fw.store (q : Fw w0 W c T mo ch L n v xs b m f) {s : ByteArray} (hs : s.size ≤ maxLen) {z : Int} (hz : -9223372036854775808 ≤ z ∧ z ≤ 9223372036854775807) (hm : m ≤ 100000) :
    ∃ w', (Instr.mapUpdate 58 (.map (some b)) (.string s) (.int .i64 z)).run Try.prog W = .ok () w' ∧ Fw w0 w' c T mo ch L n v xs b (m + 1) (upd1 f s z) := by
  obtain ⟨w', hrun, hM, hg⟩ := q.map.store hs hz hm
  have ht : Turn (fun k => k = b) W w' := ⟨hg.os, hg.tape, hg.output, hg.size, fun k hk hn => hg.block k hk (fun e => hn (by injection e))⟩
  refine ⟨w', hrun, ⟨q.live.ca.kept ht (fun k hk e => q.bT (by have e : k = b := e; exact e ▸ hk)), q.live.bel.trans (ht.below (fun k hk => by have hk : k = b := hk; subst hk; exact q.b0) q.live.bel.size), q.live.low⟩, ?_, hM, q.bT, q.b0⟩
  obtain ⟨g, hr, hn⟩ := q.row
  by_cases hx : xs = []
  · subst hx
    obtain ⟨A, cc, rfl⟩ := hr.shape
    exact ⟨g, Row.nil _ _ _ _, hn⟩
  · have hlt := hr.lt hx
    refine ⟨g, hr.same ht.size (fun _ => ht.block g hlt (fun e => ?_)), hn⟩
    have e : g = b := e
    subst e
    obtain ⟨es, cl, ho⟩ := q.map.obj
    obtain ⟨A, cc, rfl⟩ := hr.shape
    obtain ⟨o, _, _, hc, _⟩ := hr.at (k := 0) (List.length_pos_iff.2 hx)
    simp [World.cell?, ho] at hc
/-- How often the first j of the residents' keys were asked for. -/
def preT (L : List (Ent Key)) (j : Nat) : ByteArray → Int := fun y => if inn ((keysL L).take j) y = true then tms L y else 0
theorem preT_zero (L : List (Ent Key)) : preT L 0 = fun _ => 0 := by funext y; simp [preT, inn]
theorem preT_succ {L : List (Ent Key)} {j : Nat} (h : j < L.length) : upd1 (preT L j) ((keysL L).getD j ⟨#[]⟩) (tms L ((keysL L).getD j ⟨#[]⟩)) = preT L (j + 1) := by
  funext y
  unfold upd1 preT
  rw [take_snoc (keysL L) j ⟨#[]⟩ (by rw [keysL_len]; exact h), inn_snoc]
  generalize (keysL L).getD j ⟨#[]⟩ = x
  by_cases e : y = x
  · subst e; simp
  · rw [if_neg e, decide_eq_false (fun h => e h.symm), Bool.or_false]
theorem inn_keys (L : List (Ent Key)) (y : ByteArray) : inn (keysL L) y = isIn L y := by
  rw [Bool.eq_iff_iff, inn_iff, isIn_iff]
  unfold keysL
  rw [List.mem_map]
theorem preT_all (L : List (Ent Key)) : preT L L.length = tms L := by
  funext y
  unfold preT
  rw [List.take_of_length_le (by rw [keysL_len]; exact Nat.le_refl _), inn_keys]
  split
  · rfl
  · rename_i h
    rw [tms_no (by simpa using h)]
end
end Go.Proofs.Ytdbfojolocelaaa
