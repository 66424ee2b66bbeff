/- A map from strings to bools that a law makes, and stores true into; rows of strings that a law makes; both beside a heap. -/
import Derived.Test.YtfjbancceodhhaaPlain4
namespace Go.Proofs.Ytfjbancceodhhaa
open Go.RowKit Ht HS Go.Maps Go.WideMaps

theorem zeroB (w : World) : (zeroValue 4).run Try.prog w = .ok (.bool false) w := by kernel_rfl
theorem plainElem_bool_inv {H : Type} {P : Program} {e : TypeId} (he : P.underlying e = some .bool) {v : Value} {z : DataW H × List MemPlace} (h : plainElem P e v = some z) : ∃ a, v = .bool a ∧ z = (.lit (.bool a), []) := by
  unfold plainElem at h
  rw [he] at h
  cases v <;> simp at h
  subst h
  exact ⟨_, rfl, rfl⟩

def inn (Z : List ByteArray) (s : ByteArray) : Bool := Z.any fun x => decide (x = s)
theorem inn_iff {Z : List ByteArray} {s : ByteArray} : inn Z s = true ↔ s ∈ Z := by simp [inn]
theorem inn_no {Z : List ByteArray} {s : ByteArray} (h : s ∉ Z) : inn Z s = false := by
  cases hi : inn Z s with
  | false => rfl
  | true => exact absurd (inn_iff.1 hi) h
theorem inn_snoc (Z : List ByteArray) (s t : ByteArray) : inn (Z ++ [s]) t = (inn Z t || decide (s = t)) := by simp [inn]
/-- Block b is the set of the keys of Z. -/
def SeenM (w : World) (b : Nat) (Z : List ByteArray) : Prop := ∃ D : DataW Unit, w.ownsMap Try.prog 9 (plainElem Try.prog 4) b Z.length D ∧ Maps.size D = Z.length ∧
  ∀ s : ByteArray, Maps.has D (.string s.data.toList) = inn Z s ∧ D.atKey (.string s.data.toList) (.lit (.bool false)) = .lit (.bool (inn Z s))
section
variable {w : World} {b : Nat} {Z : List ByteArray}
theorem SeenM.made (w : World) : SeenM (w.alloc (.map #[] 0)) w.heap.size [] := ⟨.map [], World.ownsMap_made w _ _ _, rfl, fun _ => ⟨rfl, rfl⟩⟩
theorem SeenM.lt (h : SeenM w b Z) : b < w.heap.size := by
  obtain ⟨D, h1, _⟩ := h
  exact h1.lt
theorem SeenM.obj (h : SeenM w b Z) : ∃ es c, w.heap[b]? = some (.map es c) := by
  obtain ⟨D, ⟨es, clock, hb, _⟩, _⟩ := h
  exact ⟨es, clock, hb⟩
theorem SeenM.same {w' : World} (h : SeenM w b Z) (hs : w'.heap[b]? = w.heap[b]?) : SeenM w' b Z := by
  obtain ⟨D, h1, h2⟩ := h
  exact ⟨D, owns_same h1 hs, h2⟩
theorem SeenM.look (h : SeenM w b Z) {s : ByteArray} (hs : s.size ≤ maxLen) : (Instr.lookup 51 (.map (some b)) (.string s) false).run Try.prog w = .ok (.bool (inn Z s)) w := by
  obtain ⟨D, h1, _, h3⟩ := h
  obtain ⟨v, ps, hrun, hv⟩ := h1.lookup lawK Try.underlying51 (zeroB w) (plainElem_bool Try.underlying4 false) (keyOf_string_mk Try.underlying9 hs)
  obtain ⟨c, rfl, hc⟩ := plainElem_bool_inv Try.underlying4 hv
  have hc := congrArg Prod.fst hc
  simp only [(h3 s).2] at hc
  rw [hrun, Lit.bool.inj (DataW.lit.inj hc)]
theorem SeenM.store (h : SeenM w b Z) {s : ByteArray} (hs : s.size ≤ maxLen) (hn : Z.length ≤ 100000) (hz : s ∉ Z) :
    ∃ w', (Instr.mapUpdate 51 (.map (some b)) (.string s) (.bool true)).run Try.prog w = .ok () w' ∧ SeenM w' b (Z ++ [s]) ∧ w.grownBy w' (some b) := by
  obtain ⟨D, h1, h2, h3⟩ := h
  obtain ⟨w', hrun, hown, hg⟩ := h1.update lawK Try.underlying51 (by unfold maxLen; omega) (keyOf_string_mk Try.underlying9 hs) (plainElem_bool Try.underlying4 true)
  have hk : WideAt.IsKeyLit (.string s.data.toList) := trivial
  have hsz : Maps.size (D.put (.string s.data.toList) (.lit (.bool true))) = (Z ++ [s]).length := by
    rw [size_put (h1.tidy lawK), (h3 s).1, inn_no hz, h2]; simp
  refine ⟨w', hrun, ⟨_, hsz ▸ owns_size hown, hsz, fun t => ?_⟩, hg⟩
  by_cases e : t = s
  · subst e
    rw [has_put_same h1.isMap hk, atKey_put_same h1.isMap hk, inn_snoc]
    simp
  · rw [has_put_other (str_ne e), atKey_put_other (str_ne e)]
    rw [inn_snoc, decide_eq_false (fun h => e h.symm), Bool.or_false]
    exact h3 t
end

theorem infoStr : (Try.prog.info? 9).map (fun i => (i.zero, i.size, i.bytes)) = some (some (.string ⟨#[]⟩), 1, 16) := by kernel_rfl
/-- 'append(xs, x)'. -/
theorem app_str {w : World} {base : Nat} {v : Value} {xs : List ByteArray} (h : Own w base v xs) (x : ByteArray) (hx : x.size ≤ maxLen) (hl : xs.length ≤ 1999) (hb : base ≤ w.heap.size) :
    ∃ (g cap : Nat) (w2 : World), (Builtin.append_ #[47, 47] 47 #[v, .slice (some ⟨w.heap.size, 0, none⟩) 1 1]).run Try.prog (w.alloc (.cells #[.string x] 9)) = .ok (.slice (some ⟨g, 0, none⟩) (xs.length + 1) cap) w2 ∧
      Own w2 base (.slice (some ⟨g, 0, none⟩) (xs.length + 1) cap) (xs ++ [x]) ∧ w.grownBy w2 v.ownBlock ∧ (v.ownBlock = some g ∨ w.heap.size ≤ g) := by
  obtain ⟨i0, hi, hz0, hz1, hz2⟩ := info_parts infoStr
  obtain ⟨v', w2, hrun, hown2, hg, hnil, hloc⟩ := run_append_own_at (P := Try.prog) (w.alloc (.cells #[.string x] 9)) base 47 47 9 i0 _ 1 16
    Try.underlying47 hi hz0 hz1 hz2 rfl (by decide) _ _ _ (h.1.alloc _) ⟨w.heap.size, 0, none⟩ 1 1 [.string x] rfl (cell_one_new _ _ _) (by simp [Value.oneCell']) (by unfold maxLen; omega) (by omega) (by simp; omega)
  have hown3 := hown2
  rcases hown2.2 with ⟨_, h0⟩ | ⟨g, cap, cur, rfl, _⟩
  · omega
  refine ⟨g, cap, w2, hrun, ⟨?_, by rw [List.length_append]; simp only [List.length_cons, List.length_nil]; omega, fun y hy => ?_⟩, (World.grownBy_alloc w _ _).trans hg, ?_⟩
  · rw [List.map_append, List.length_append]; exact hown3
  · rcases List.mem_append.1 hy with h1 | h1
    · exact h.2.2 y h1
    · rw [List.mem_singleton.1 h1]; exact hx
  · rcases hloc with h1 | h1
    · left; rw [← h1]; rfl
    · right
      have : some g = some ((w.alloc (.cells #[.string x] 9)).heap.size) := h1
      injection this with this
      rw [this]; simp
theorem own_nil (w : World) (base : Nat) : Own w base (.slice none 0 0) [] := ⟨⟨rfl, Or.inl ⟨rfl, rfl⟩⟩, by simp, by simp⟩
theorem HS.Own.obj {w : World} {base g : Nat} {v : Value} {xs : List Key} (o : Own w base v xs) (hg : v.ownBlock = some g) : ∃ arr, w.heap[g]? = some (.cells arr 9 (0, 0)) := by
  rcases o.1.2 with ⟨rfl, _⟩ | ⟨g', cap, arr, rfl, hb, h2, h3⟩
  · cases hg
  · cases hg; exact ⟨arr, h2⟩

/-- A heap, a row of strings, a set and a rank, side by side. -/
structure Side (w0 W : World) (h b bx : Nat) (S : Nat → Prop) (L : List (Ent Key)) (c : Nat) (v : Value) (xs Z : List ByteArray) (r1 r2 : Int) : Prop where
  live : Live w0 W h S L c
  row : Own W w0.heap.size v xs
  rowS : ∀ g, v.ownBlock = some g → ¬ S g
  seen : SeenM W b Z
  seenS : ¬ S b
  seen0 : w0.heap.size ≤ b
  box : Box W S bx r1 r2
section
variable {w0 W W' : World} {h b bx c c' : Nat} {S : Nat → Prop} {L L' : List (Ent Key)} {v : Value} {xs Z : List ByteArray} {r1 r2 : Int} {r : Value} {e : Ending}
theorem Side.below (s : Side w0 W h b bx S L c v xs Z r1 r2) (hb : Below W.heap.size W W') : Side w0 W' h b bx S L c v xs Z r1 r2 :=
  ⟨s.live.below hb, s.row.same (fun g hg => hb.block g (s.row.lt hg).1), s.rowS, s.seen.same (hb.block b s.seen.lt), s.seenS, s.seen0, s.box.below hb⟩
theorem Side.op (s : Side w0 W h b bx S L c v xs Z r1 r2) (hp : OpPost r W h S L' c' e W') : e = .returned r ∧ ∃ S', Side w0 W' h b bx S' L' c' v xs Z r1 r2 := by
  obtain ⟨he, S', h1, h2, h3⟩ := s.live.op hp
  refine ⟨he, S', h1, s.row.same (fun g hg => h3.block g (s.row.lt hg).1 (s.rowS g hg)), fun g hg hS => ?_, s.seen.same (h3.block b s.seen.lt s.seenS), fun hS => ?_, s.seen0, s.box.turn h3 h2⟩
  · rcases h2 g hS with h | h
    · exact s.rowS g hg h
    · have := (s.row.lt hg).1; omega
  · rcases h2 b hS with h | h
    · exact s.seenS h
    · have := s.seen.lt; omega
theorem Side.rowMap (s : Side w0 W h b bx S L c v xs Z r1 r2) : v.ownBlock ≠ some b := fun he => by
  obtain ⟨arr, h1⟩ := s.row.obj he
  obtain ⟨es, c', h2⟩ := s.seen.obj
  rw [h1] at h2; cases h2
theorem Side.rowBox (s : Side w0 W h b bx S L c v xs Z r1 r2) : v.ownBlock ≠ some bx := fun he => by
  obtain ⟨arr, h1⟩ := s.row.obj he
  exact cells_ne h1 s.box.1 (by decide) rfl
theorem Side.mapBox (s : Side w0 W h b bx S L c v xs Z r1 r2) : b ≠ bx := fun he => by
  obtain ⟨es, c', h2⟩ := s.seen.obj
  rw [he, s.box.1] at h2; cases h2
theorem Side.push (s : Side w0 W h b bx S L c v xs Z r1 r2) (x : ByteArray) (hx : x.size ≤ maxLen) (hl : xs.length ≤ 1999) :
    ∃ (g cap : Nat) (w2 : World), (Builtin.append_ #[47, 47] 47 #[v, .slice (some ⟨W.heap.size, 0, none⟩) 1 1]).run Try.prog (W.alloc (.cells #[.string x] 9)) = .ok (.slice (some ⟨g, 0, none⟩) (xs.length + 1) cap) w2 ∧
      Side w0 w2 h b bx S L c (.slice (some ⟨g, 0, none⟩) (xs.length + 1) cap) (xs ++ [x]) Z r1 r2 ∧ Below w0.heap.size W w2 := by
  obtain ⟨g, cap, w2, h1, h2, h3, h4⟩ := app_str s.row x hx hl s.live.bel.size
  have hbel : Below w0.heap.size W w2 := (Below.refl w0.heap.size W).grown h3 s.live.bel.size (fun k hk => (s.row.lt hk).2)
  refine ⟨g, cap, w2, h1, ⟨⟨s.live.hs.same (fun k hk => h3.block k (s.live.hs.lt hk) (fun e => s.rowS k e.symm hk)), s.live.bel.trans hbel, s.live.low⟩, h2, fun g' hg' hS => ?_, s.seen.same (h3.block b s.seen.lt (fun e => s.rowMap e.symm)), s.seenS, s.seen0,
    ⟨(h3.block bx s.box.lt (fun e => s.rowBox e.symm)).trans s.box.1, s.box.2⟩⟩, hbel⟩
  cases hg'
  rcases h4 with h4 | h4
  · exact s.rowS _ h4 hS
  · have hS' : S g := hS
    have := s.live.hs.lt hS'; omega
theorem Side.mark (s : Side w0 W h b bx S L c v xs Z r1 r2) {x : ByteArray} (hx : x.size ≤ maxLen) (hl : Z.length ≤ 100000) (hz : x ∉ Z) :
    ∃ w2, (Instr.mapUpdate 51 (.map (some b)) (.string x) (.bool true)).run Try.prog W = .ok () w2 ∧ Side w0 w2 h b bx S L c v xs (Z ++ [x]) r1 r2 ∧ Below w0.heap.size W w2 := by
  obtain ⟨w2, h1, h2, h3⟩ := s.seen.store hx hl hz
  have hbel : Below w0.heap.size W w2 := (Below.refl w0.heap.size W).grown h3 s.live.bel.size (fun k hk => by cases hk; exact s.seen0)
  exact ⟨w2, h1, ⟨⟨s.live.hs.same (fun k hk => h3.block k (s.live.hs.lt hk) (fun e => by injection e with e; exact s.seenS (e ▸ hk))), s.live.bel.trans hbel, s.live.low⟩, s.row.same (fun g hg => h3.block g (s.row.lt hg).1 (fun e => by injection e with e; exact s.rowMap (e ▸ hg))), s.rowS, h2, s.seenS, s.seen0,
    ⟨(h3.block bx s.box.lt (fun e => by injection e with e; exact s.mapBox e.symm)).trans s.box.1, s.box.2⟩⟩, hbel⟩
end
end Go.Proofs.Ytfjbancceodhhaa
