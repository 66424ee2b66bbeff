/- The reference's row of residents in memory; the contracts of its New, Times, Remove, Victim. -/
import Derived.Test.YtdbfojolocelaaaZa
import Derived.Test.YtdbfojolocelaaaTwo6
namespace Go.Proofs.Ytdbfojolocelaaa
open Go.RowKit Ht HS Lf

/-- A slice of residents that reads as a row of entries; its cells lie in block g. -/
def ZRow (w : World) (g : Nat) (v : Value) (L : List (Ent Key)) : Prop :=
  L.length ≤ 2000 ∧ (∀ e ∈ L, e.key.size ≤ maxLen) ∧ ((L = [] ∧ ∃ A c, v = .slice A 0 c) ∨ ∃ o c, v = .slice (some ⟨g, o, none⟩) L.length c ∧ g < w.heap.size ∧ L.length ≤ c ∧ c ≤ maxLen ∧
    ∀ j x, L[j]? = some x → w.cell? ⟨g, o + j * 2, none⟩ = some (.string x.key) ∧ w.cell? ⟨g, o + j * 2 + 1, none⟩ = some (.int .i64 x.one))
section
variable {w w' : World} {g : Nat} {v : Value} {L : List (Ent Key)}
theorem ZRow.shape (h : ZRow w g v L) : ∃ A c, v = .slice A L.length c := by
  rcases h.2.2 with ⟨rfl, A, c, e⟩ | ⟨o, c, e, _⟩
  · exact ⟨A, c, e⟩
  · exact ⟨_, c, e⟩
theorem ZRow.same (h : ZRow w g v L) (hs : w.heap.size ≤ w'.heap.size) (hb : g < w.heap.size → w'.heap[g]? = w.heap[g]?) : ZRow w' g v L := by
  refine ⟨h.1, h.2.1, ?_⟩
  rcases h.2.2 with h1 | ⟨o, c, e, h1, h2, h3, h4⟩
  · exact Or.inl h1
  · refine Or.inr ⟨o, c, e, by omega, h2, h3, fun j x hj => ?_⟩
    obtain ⟨q1, q2⟩ := h4 j x hj
    exact ⟨(World.cell?_of_block (a := ⟨g, o + j * 2, none⟩) (hb h1)).trans q1, (World.cell?_of_block (a := ⟨g, o + j * 2 + 1, none⟩) (hb h1)).trans q2⟩
theorem ZRow.below (h : ZRow w g v L) (hb : Below w.heap.size w w') : ZRow w' g v L := h.same hb.size fun hg => hb.block g hg
theorem ZRow.nil (w : World) (g : Nat) (A : Option Addr) (c : Nat) : ZRow w g (.slice A 0 c) [] := ⟨by simp, by simp, Or.inl ⟨rfl, A, c, rfl⟩⟩
theorem ZRow.lt (h : ZRow w g v L) (hx : L ≠ []) : g < w.heap.size := by
  rcases h.2.2 with ⟨h, _⟩ | ⟨o, c, e, h1, _⟩
  · exact absurd h hx
  · exact h1
theorem ZRow.at {A : Option Addr} {m c : Nat} (h : ZRow w g (.slice A m c) L) {j : Nat} {x : Ent Key} (hj : L[j]? = some x) : ∃ o, A = some ⟨g, o, none⟩ ∧ g < w.heap.size ∧ L.length ≤ c ∧ c ≤ maxLen ∧ w.cell? ⟨g, o + j * 2, none⟩ = some (.string x.key) ∧ w.cell? ⟨g, o + j * 2 + 1, none⟩ = some (.int .i64 x.one) := by
  rcases h.2.2 with ⟨rfl, _⟩ | ⟨o, c', e, h1, h2, h3, h4⟩
  · simp at hj
  · injection e with e1 e2 e3
    subst e3
    exact ⟨o, e1, h1, h2, h3, h4 j x hj⟩
theorem ZRow.set {q : Addr} (r : ZRow w g v L) (hq : g ≠ q.block) (u : Value) : ZRow (w.setCell q u) g v L := r.same (by simp [World.setCell]) (fun _ => Below.heap_setCell _ _ _ _ hq)
end

/-- The cells of residents. -/
def cellsZ (L : List (Ent Key)) : List Value := L.flatMap fun e => [.string e.key, .int .i64 e.one]
theorem cellsZ_len (L : List (Ent Key)) : (cellsZ L).length = L.length * 2 := by
  induction L with
  | nil => rfl
  | cons x L ih => simp [cellsZ] at ih ⊢; omega
theorem cellsZ_get : ∀ (L : List (Ent Key)) (j : Nat) (x : Ent Key), L[j]? = some x → (cellsZ L)[j * 2]? = some (.string x.key) ∧ (cellsZ L)[j * 2 + 1]? = some (.int .i64 x.one)
  | [], j, x, h => by simp at h
  | y :: L, 0, x, h => by
    simp at h; subst h
    exact ⟨rfl, rfl⟩
  | y :: L, j + 1, x, h => by
    have h' : L[j]? = some x := by simpa using h
    obtain ⟨q1, q2⟩ := cellsZ_get L j x h'
    have e : cellsZ (y :: L) = [.string y.key, .int .i64 y.one] ++ cellsZ L := rfl
    rw [e]
    refine ⟨?_, ?_⟩
    · rw [List.getElem?_append_right (by simp; omega)]; rw [show (j + 1) * 2 - [Value.string y.key, .int .i64 y.one].length = j * 2 by simp; omega]; exact q1
    · rw [List.getElem?_append_right (by simp; omega)]; rw [show (j + 1) * 2 + 1 - [Value.string y.key, .int .i64 y.one].length = j * 2 + 1 by simp; omega]; exact q2
theorem cellsZ_app (L M : List (Ent Key)) : cellsZ (L ++ M) = cellsZ L ++ cellsZ M := by simp [cellsZ]
theorem cellsZ_one (L : List (Ent Key)) : ∀ u ∈ cellsZ L, u.oneCell' = true := by
  intro u hu
  unfold cellsZ at hu
  obtain ⟨e, _, he⟩ := List.mem_flatMap.1 hu
  simp at he
  rcases he with rfl | rfl <;> rfl
/-- A slice of residents of the call's own. -/
def OwnZ (w : World) (base : Nat) (v : Value) (L : List (Ent Key)) : Prop := w.ownsRow base 71 2 v L.length (cellsZ L) ∧ L.length ≤ 2000 ∧ ∀ e ∈ L, e.key.size ≤ maxLen
theorem OwnZ.row {w : World} {base : Nat} {v : Value} {L : List (Ent Key)} (h : OwnZ w base v L) : ∃ g, base ≤ g ∧ ZRow w g v L := by
  obtain ⟨h1, h2, h3⟩ := h
  have h1' := h1
  rcases h1.2 with ⟨rfl, h0⟩ | ⟨g, cap, cur, rfl, hb, hg, hn, hm, hs, ht⟩
  · obtain rfl : L = [] := List.eq_nil_of_length_eq_zero h0
    exact ⟨base, Nat.le_refl _, ZRow.nil _ _ _ _⟩
  · refine ⟨g, hb, h2, h3, Or.inr ⟨0, cap, rfl, (Array.getElem?_eq_some_iff.1 hg).1, hn, hm, fun j x hj => ?_⟩⟩
    obtain ⟨q1, q2⟩ := cellsZ_get L j x hj
    have key : ∀ m u, (cellsZ L)[m]? = some u → w.cell? ⟨g, 0 + m, none⟩ = some u := fun m u hm => by
      have := h1'.cells (g := g) rfl m u hm
      rw [show (⟨g, 0, none⟩ : Addr).add m = ⟨g, 0 + m, none⟩ by unfold Addr.add; split <;> simp_all] at this
      exact this
    exact ⟨key _ _ q1, key _ _ q2⟩
theorem OwnZ.len {w : World} {base : Nat} {v : Value} {L : List (Ent Key)} (h : OwnZ w base v L) : ∃ A c, v = .slice A L.length c := by
  rcases h.1.2 with ⟨rfl, h0⟩ | ⟨g, cap, cur, rfl, _⟩
  · exact ⟨none, 0, by rw [h0]⟩
  · exact ⟨_, _, rfl⟩
theorem ownZ_nil (w : World) (base : Nat) : OwnZ w base (.slice none 0 0) [] := ⟨⟨rfl, Or.inl ⟨rfl, rfl⟩⟩, by simp, by simp⟩
theorem infoZ : (Try.prog.info? 71).map (fun i => (i.zero, i.size, i.bytes)) = some (some (.agg #[.string ⟨#[]⟩, .int .i64 0]), 2, 24) := by kernel_rfl
theorem OwnZ.lt {w : World} {base g : Nat} {v : Value} {L : List (Ent Key)} (h : OwnZ w base v L) (hg : v.ownBlock = some g) : g < w.heap.size ∧ base ≤ g := by
  rcases h.1.2 with ⟨rfl, _⟩ | ⟨g', cap, arr, rfl, hb, h2, h3⟩
  · cases hg
  · cases hg; exact ⟨(Array.getElem?_eq_some_iff.1 h2).1, hb⟩
theorem OwnZ.same {w w' : World} {base : Nat} {v : Value} {L : List (Ent Key)} (o : OwnZ w base v L) (hs : ∀ g, v.ownBlock = some g → w'.heap[g]? = w.heap[g]?) : OwnZ w' base v L := by
  refine ⟨⟨o.1.1, ?_⟩, o.2⟩
  rcases o.1.2 with h1 | ⟨g, cap, arr, rfl, hb, h2, h3⟩
  · exact Or.inl h1
  · exact Or.inr ⟨g, cap, arr, rfl, hb, (hs g rfl).trans h2, h3⟩
theorem OwnZ.obj {w : World} {base g : Nat} {v : Value} {L : List (Ent Key)} (q : OwnZ w base v L) (hg : v.ownBlock = some g) : ∃ arr, w.heap[g]? = some (.cells arr 71 (0, 0)) := by
  rcases q.1.2 with ⟨rfl, _⟩ | ⟨g', cap, arr, rfl, hb, h2, h3⟩
  · cases hg
  · cases hg; exact ⟨arr, h2⟩
/-- 'append(l, x)'. -/
theorem app_z {w : World} {base : Nat} {v : Value} {L : List (Ent Key)} (h : OwnZ w base v L) (x : Ent Key) (hx : x.key.size ≤ maxLen) (hl : L.length ≤ 1999) (hb : base ≤ w.heap.size) :
    ∃ (A : Option Addr) (c : Nat) (w2 : World), (Builtin.append_ #[27, 27] 27 #[v, .slice (some ⟨w.heap.size, 0, none⟩) 1 1]).run Try.prog (w.alloc (.cells #[.string x.key, .int .i64 x.one] 71)) = .ok (.slice A (L.length + 1) c) w2 ∧
      OwnZ w2 base (.slice A (L.length + 1) c) (L ++ [x]) ∧ w.grownBy w2 v.ownBlock := by
  obtain ⟨i0, hi, hz0, hz1, hz2⟩ := info_parts infoZ
  obtain ⟨v', w2, hrun, hown2, hg, hnil, hloc⟩ := run_append_own_at (P := Try.prog) (w.alloc (.cells #[.string x.key, .int .i64 x.one] 71)) base 27 27 71 i0 _ 2 24
    Try.underlying27 hi hz0 hz1 hz2 rfl (by decide) _ _ _ (h.1.alloc _) ⟨w.heap.size, 0, none⟩ 1 1 (cellsZ [x]) rfl (fun j u hj => by
      rw [show (⟨w.heap.size, 0, none⟩ : Addr).add j = ⟨w.heap.size, j, none⟩ by unfold Addr.add; split <;> simp_all, cell_of_row _ _ _ _ _ _ (heap_alloc_new w _)]
      simpa [cellsZ] using hj) (cellsZ_one [x]) (by unfold maxLen; omega) (by omega) (by simp; omega)
  have hown3 := hown2
  rcases hown2.2 with ⟨_, h0⟩ | ⟨g, cap, cur, rfl, _⟩
  · omega
  refine ⟨_, cap, w2, hrun, ⟨?_, by rw [List.length_append]; simp only [List.length_cons, List.length_nil]; omega, fun e he => ?_⟩, (World.grownBy_alloc w _ _).trans hg⟩
  · rw [cellsZ_app, List.length_append]; exact hown3
  · rcases List.mem_append.1 he with h1 | h1
    · exact h.2.2 e h1
    · rw [List.mem_singleton.1 h1]; exact hx

/-- The reference's cache in a variable. -/
def CBox (w : World) (p mo : Nat) (ch : Bool) (v : Value) : Prop := w.heap[p]? = some (.cells #[.int .i64 (mo : Int), .bool ch, v] 29 (0, 0))
abbrev cObj (mo : Nat) (ch : Bool) (v : Value) : Obj := .cells #[.int .i64 (mo : Int), .bool ch, v] 29
abbrev cZero : Obj := .cells #[.int .i64 0, .bool false, .slice none 0 0] 29
abbrev cAgg (mo : Nat) (ch : Bool) (v : Value) : Value := .agg #[.int .i64 (mo : Int), .bool ch, v]
section
variable {w w' : World} {p mo : Nat} {ch : Bool} {v : Value}
theorem CBox.lt (k : CBox w p mo ch v) : p < w.heap.size := (Array.getElem?_eq_some_iff.1 k).1
theorem CBox.c (k : CBox w p mo ch v) : w.cell? ⟨p, 0, none⟩ = some (.int .i64 (mo : Int)) ∧ w.cell? ⟨p, 1, none⟩ = some (.bool ch) ∧ w.cell? ⟨p, 2, none⟩ = some v := ⟨cell_of_row w _ 0 _ _ _ k, cell_of_row w _ 1 _ _ _ k, cell_of_row w _ 2 _ _ _ k⟩
theorem CBox.f (k : CBox w p mo ch v) : w.frozen? ⟨p, 0, none⟩ = false ∧ w.frozen? ⟨p, 1, none⟩ = false ∧ w.frozen? ⟨p, 2, none⟩ = false := ⟨frozen_of_row w _ 0 _ _ k, frozen_of_row w _ 1 _ _ k, frozen_of_row w _ 2 _ _ k⟩
theorem CBox.below (k : CBox w p mo ch v) (hb : Below w.heap.size w w') : CBox w' p mo ch v := (hb.block p k.lt).trans k
theorem CBox.other (k : CBox w p mo ch v) {q : Addr} (hq : p ≠ q.block) (u : Value) : CBox (w.setCell q u) p mo ch v := (Below.heap_setCell _ _ _ _ hq).trans k
theorem CBox.setL (k : CBox w p mo ch v) (u : Value) : CBox (w.setCell ⟨p, 2, none⟩ u) p mo ch u := by
  unfold CBox at *
  rw [heap_setCell_same _ _ _ _ _ _ k]; rfl
theorem CBox.setM (k : CBox w p mo ch v) (m : Nat) : CBox (w.setCell ⟨p, 0, none⟩ (.int .i64 (m : Int))) p m ch v := by
  unfold CBox at *
  rw [heap_setCell_same _ _ _ _ _ _ k]; rfl
theorem CBox.setC (k : CBox w p mo ch v) (b : Bool) : CBox (w.setCell ⟨p, 1, none⟩ (.bool b)) p mo b v := by
  unfold CBox at *
  rw [heap_setCell_same _ _ _ _ _ _ k]; rfl
theorem CBox.put (k : CBox w p mo ch v) (m : Nat) (b : Bool) (u : Value) : CBox (((w.setCell ⟨p, 0, none⟩ (.int .i64 (m : Int))).setCell ⟨p, 1, none⟩ (.bool b)).setCell ⟨p, 2, none⟩ u) p m b u := ((k.setM m).setC b).setL u
end
theorem load_c {w : World} {p mo n c : Nat} {ch : Bool} {A : Option Addr} (k : CBox w p mo ch (.slice A n c)) : (loadVar 29 ⟨p, 0, none⟩).run Try.prog w = .ok (.agg #[.int .i64 (mo : Int), .bool ch, .slice A n c]) w := by
  obtain ⟨k0, k1, k2⟩ := k.c
  unfold loadVar
  go_simp

def RNew (mo : Nat) (ch : Bool) (w : World) (e : Ending) (w' : World) : Prop := e = .returned (cAgg mo ch (.slice none 0 0)) ∧ Below w.heap.size w w'
theorem rnew_pos (w : World) (n : Nat) (ch : Bool) (hz : n ≤ 9223372036854775807) : Calls Try.prog 11 #[.int .i64 (n : Int), .bool ch] w (RNew n ch w) := by
  have k := heap_alloc_new w (cObj n ch (.slice none 0 0))
  have h0 : ¬ ((n : Int) < 0) := by omega
  have K := Lib.hid (show CBox _ _ n ch (.slice none 0 0) from k)
  clear k
  go_enter Try.func11, Try.ntmps11
  go_wp2_with fail
  refine bodyPost_ret (results_c rfl _ _ _ ⟨w.heap.size, 0, none⟩ _ rfl (load_c K.out)) rfl ?_
  exact ⟨rfl, (Below.refl _ _).alloc (Nat.le_refl _) _⟩
theorem rnew_neg (w : World) (z : Int) (ch : Bool) (hz : -9223372036854775808 ≤ z) (h0 : z < 0) : Calls Try.prog 11 #[.int .i64 z, .bool ch] w (RNew 0 ch w) := by
  have k := heap_alloc_new w (cObj 0 ch (.slice none 0 0))
  have e0 : decide (z < 0) = true := by simpa using h0
  have K := Lib.hid (show CBox _ _ 0 ch (.slice none 0 0) from k)
  clear k
  go_enter Try.func11, Try.ntmps11
  go_wp2_with fail
  refine bodyPost_ret (results_c rfl _ _ _ ⟨w.heap.size, 0, none⟩ _ rfl (load_c K.out)) rfl ?_
  exact ⟨rfl, (Below.refl _ _).alloc (Nat.le_refl _) _⟩
theorem rnew_any (w : World) (z : Int) (ch : Bool) (hz : -9223372036854775808 ≤ z ∧ z ≤ 9223372036854775807) : Calls Try.prog 11 #[.int .i64 z, .bool ch] w (RNew z.toNat ch w) := by
  by_cases h0 : z < 0
  · rw [show z.toNat = 0 by omega]; exact rnew_neg w z ch hz.1 h0
  · obtain ⟨n, rfl⟩ : ∃ n : Nat, z = (n : Int) := ⟨z.toNat, by omega⟩
    exact rnew_pos w n ch (by omega)

/-- The box of an argument. -/
structure Bx (w W : World) (p mo : Nat) (ch : Bool) (v : Value) : Prop where
  c : CBox W p mo ch v
  bel : Below w.heap.size w W
  low : w.heap.size ≤ p
theorem bx_start (w : World) (mo : Nat) (ch : Bool) (v : Value) : Bx w (w.alloc (cObj mo ch v)) w.heap.size mo ch v := ⟨heap_alloc_new _ _, (Below.refl _ _).alloc (Nat.le_refl _) _, Nat.le_refl _⟩
theorem find_first {L : List (Ent Key)} {key : Key} {i : Nat} {x : Ent Key} (hx : L[i]? = some x) (hk : x.key = key) (hb : ∀ j e, j < i → L[j]? = some e → e.key ≠ key) : find L key = some x := by
  unfold find
  rw [List.find?_eq_some_iff_getElem]
  obtain ⟨hi, he⟩ := List.getElem?_eq_some_iff.1 hx
  refine ⟨by simpa using hk, i, hi, he, fun j hj => ?_⟩
  have := hb j L[j] hj (List.getElem?_eq_getElem (by omega))
  simpa using this

set_option maxHeartbeats 1000000 in
set_option maxRecDepth 100000 in
theorem rtimes_any (w : World) (g mo : Nat) (ch : Bool) (A : Option Addr) (m c : Nat) (B : List (Ent Key)) (key : Key) (h : ZRow w g (.slice A m c) B) (hm : B.length = m) :
    Calls Try.prog 15 #[.agg #[.int .i64 (mo : Int), .bool ch, .slice A m c], .string key] w (ValBelow (.int .i64 (tms B key)) w) := by
  have X0 := bx_start w mo ch (.slice A m c)
  have hl := h.1
  have HR := Lib.hid (h.below X0.bel)
  obtain ⟨w1, hw1⟩ : ∃ w1, w.alloc (cObj mo ch (.slice A m c)) = w1 := ⟨_, rfl⟩
  obtain ⟨bx, hbx⟩ : ∃ bx, w.heap.size = bx := ⟨_, rfl⟩
  have HB := Lib.hid (show Below w.heap.size w w1 from hw1 ▸ X0.bel)
  rw [hw1, hbx] at X0
  rw [hw1] at HR
  obtain ⟨k0, k1, k2⟩ := X0.c.c
  have HM := Lib.hid hm
  rw [hm] at hl
  clear h X0 hm
  go_enter Try.func15, Try.ntmps15
  go_wp2_with fail
  clear hw1 hbx
  go_loopg [5] m (fun q iz W => ∃ i, q + i = m ∧ iz = .int .i64 (i : Int) ∧ W = w1 ∧ ∀ j e, j < i → B[j]? = some e → e.key ≠ key)
  case atStart => exact ⟨0, by omega, rfl, rfl, fun j e hj => by omega⟩
  case round =>
    obtain ⟨i, hgi, rfl, rfl, hno⟩ := hrel
    have NO := Lib.hid hno
    have GI := Lib.hid hgi
    clear hno hgi
    by_cases hi : i < m
    · have e0 : decide (i < m) = true := by simpa using hi
      obtain ⟨x, hx⟩ : ∃ x, B[i]? = some x := ⟨_, List.getElem?_eq_getElem (by rw [HM.out]; exact hi)⟩
      obtain ⟨o, rfl, hg, hc1, hc2, m0, m1⟩ := HR.out.at hx
      rw [HM.out] at hc1
      unfold maxLen at hc2
      have XX := Lib.hid hx
      clear hx
      by_cases hk : x.key = key
      · have e1 := beqS_yes hk
        have FF := Lib.hid (show tms B key = x.one by unfold tms; rw [find_first XX.out hk NO.out]; rfl)
        clear hk
        go_wp2_with fail
        go_ret
        exact ⟨ret_int FF.out.symm, HB.out⟩
      · have e1 := beqS_no hk
        have NK := Lib.hid hk
        clear hk
        go_wp2_with fail
        go_roundg (m - (i + 1))
        case measure => have := GI.out; omega
        case rel =>
          refine ⟨i + 1, by omega, rfl, rfl, fun j e hj he => ?_⟩
          by_cases hji : j = i
          · subst hji; rw [XX.out] at he; cases he; exact NK.out
          · exact NO.out j e (by omega) he
    · have e0 : decide (i < m) = false := by simpa using hi
      have FF := Lib.hid (show tms B key = 0 from tms_no (isIn_no.2 fun e he hk => by
        obtain ⟨j, hj, rfl⟩ := List.mem_iff_getElem.1 he
        exact NO.out j _ (by have := GI.out; have := HM.out; omega) (List.getElem?_eq_getElem hj) hk))
      go_wp2_with fail
      go_ret
      exact ⟨ret_int FF.out.symm, HB.out⟩
end Go.Proofs.Ytdbfojolocelaaa
