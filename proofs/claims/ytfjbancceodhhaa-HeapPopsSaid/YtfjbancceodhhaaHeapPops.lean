/- 'cachewiselaw04.HeapPops' returns true for every row of calls and every three ranks, and leaves what was there as it was. No condition. -/
import Derived.Test.YtfjbancceodhhaaSeen4
namespace Go.Proofs.Ytfjbancceodhhaa
open Go.ChangeShapes Go.WideShapes Go.ChangeAt Go.RowKit Ht HS

/-- Three ranks in variables. -/
structure Bx3 (w : World) (A B C : Nat) (a1 a2 b1 b2 c1 c2 : Int) : Prop where
  a1 : w.cell? ⟨A, 0, none⟩ = some (.int .i64 a1)
  a2 : w.cell? ⟨A, 1, none⟩ = some (.int .i64 a2)
  b1 : w.cell? ⟨B, 0, none⟩ = some (.int .i64 b1)
  b2 : w.cell? ⟨B, 1, none⟩ = some (.int .i64 b2)
  c1 : w.cell? ⟨C, 0, none⟩ = some (.int .i64 c1)
  c2 : w.cell? ⟨C, 1, none⟩ = some (.int .i64 c2)
theorem Bx3.below {w w' : World} {A B C : Nat} {a1 a2 b1 b2 c1 c2 : Int} (x : Bx3 w A B C a1 a2 b1 b2 c1 c2) (hb : Below w.heap.size w w') : Bx3 w' A B C a1 a2 b1 b2 c1 c2 :=
  ⟨(hb.cell (cell_lt x.a1)).trans x.a1, (hb.cell (cell_lt x.a2)).trans x.a2, (hb.cell (cell_lt x.b1)).trans x.b1, (hb.cell (cell_lt x.b2)).trans x.b2, (hb.cell (cell_lt x.c1)).trans x.c1, (hb.cell (cell_lt x.c2)).trans x.c2⟩
theorem rless_iff {a b c d : Int} : rless a b c d = true ↔ a < c ∨ (a = c ∧ b < d) := by
  unfold rless
  by_cases h : a = c
  · subst h; simp
  · rw [if_neg h]; simp [h]
theorem rless_not {a b c d : Int} : rless a b c d = false ↔ ¬ (a < c ∨ (a = c ∧ b < d)) := by rw [← rless_iff]; simp
theorem rless_self (a b : Int) : rless a b a b = false := rless_not.2 (by omega)
theorem rless_asymm {a b c d : Int} (h : rless a b c d = true) : rless c d a b = false := rless_not.2 (by have := rless_iff.1 h; omega)
theorem rless_trans {a b c d e f : Int} (h : rless a b c d = true) (k : rless c d e f = true) : rless a b e f = true := rless_iff.2 (by have := rless_iff.1 h; have := rless_iff.1 k; omega)
theorem rless_tot {a b c d : Int} (h : rless a b c d = false) (k : rless c d a b = false) : a = c ∧ b = d := by have := rless_not.1 h; have := rless_not.1 k; omega
theorem lt_rless {x y : Ent Key} (h : lt x y) : rless y.one y.two x.one x.two = false := by
  unfold rless
  rcases h with h | ⟨h, h2 | ⟨h2, _⟩⟩
  · rw [if_neg (by omega)]; simp; omega
  · rw [if_pos h.symm]; simp; omega
  · rw [if_pos h.symm]; simp; omega

/-- What the first test comes to. -/
def Tst (w0 : World) (z : Value) (W : World) : Prop := z = .bool false ∧ Below w0.heap.size w0 W

theorem Side.rebox {w0 W : World} {h b bx c : Nat} {S : Nat → Prop} {L : List (Ent Key)} {v : Value} {xs Z : List ByteArray} {r1 r2 : Int} (s : Side w0 W h b bx S L c v xs Z r1 r2) (hbx : w0.heap.size ≤ bx) (q1 q2 : Int) :
    Side w0 ((W.setCell ⟨bx, 0, none⟩ (.int .i64 q1)).setCell ⟨bx, 1, none⟩ (.int .i64 q2)) h b bx S L c v xs Z q1 q2 := by
  have hk : ∀ k, k ≠ bx → ((W.setCell ⟨bx, 0, none⟩ (.int .i64 q1)).setCell ⟨bx, 1, none⟩ (.int .i64 q2)).heap[k]? = W.heap[k]? := fun k h => by rw [heap_setCell_other _ _ _ _ h, heap_setCell_other _ _ _ _ h]
  refine ⟨⟨s.live.hs.same (fun k hS => hk k (fun e => s.box.2 (e ▸ hS))), (s.live.bel.setCell (p := ⟨bx, 0, none⟩) hbx _).setCell (p := ⟨bx, 1, none⟩) hbx _, s.live.low⟩, s.row.same (fun g hg => hk g (fun e => s.rowBox (e ▸ hg))), s.rowS, s.seen.same (hk b s.mapBox), s.seenS, s.seen0, ⟨?_, s.box.2⟩⟩
  rw [heap_setCell_same _ _ _ _ _ _ (heap_setCell_same _ _ _ _ _ _ s.box.1)]; rfl

theorem Side.op2 {w0 W W' : World} {h b bx c c' : Nat} {S : Nat → Prop} {L L' : List (Ent Key)} {v : Value} {xs Z : List ByteArray} {r1 r2 : Int} {r : Value} {e : Ending} (s : Side w0 W h b bx S L c v xs Z r1 r2) (hp : OpPost r W h S L' c' e W') :
    e = .returned r ∧ ∃ S', Side w0 W' h b bx S' L' c' v xs Z r1 r2 ∧ (∀ k, S' k → S k ∨ W.heap.size ≤ k) ∧ Turn S W W' := by
  obtain ⟨he, S', h1, h2, h3⟩ := s.live.op hp
  refine ⟨he, S', ⟨h1, s.row.same (fun g hg => h3.block g (s.row.lt hg).1 (s.rowS g hg)), fun g hg hS => ?_, s.seen.same (h3.block b s.seen.lt s.seenS), fun hS => ?_, s.seen0, s.box.turn h3 h2⟩, h2, h3⟩
  · rcases h2 g hS with h | h
    · exact s.rowS g hg h
    · have := (s.row.lt hg).1; omega
  · rcases h2 b hS with h | h
    · exact s.seenS h
    · have := s.seen.lt; omega
theorem Side.mark2 {w0 W : World} {h b bx c : Nat} {S : Nat → Prop} {L : List (Ent Key)} {v : Value} {xs Z : List ByteArray} {r1 r2 : Int} (s : Side w0 W h b bx S L c v xs Z r1 r2) {x : ByteArray} (hx : x.size ≤ maxLen) (hl : Z.length ≤ 100000) (hz : x ∉ Z) {br : Nat} {q1 q2 : Int} (hb : Box W S br q1 q2) :
    ∃ w2, (Instr.mapUpdate 51 (.map (some b)) (.string x) (.bool true)).run Try.prog W = .ok () w2 ∧ Side w0 w2 h b bx S L c v xs (Z ++ [x]) r1 r2 ∧ Box w2 S br q1 q2 := by
  obtain ⟨w2, h1, h2, h3⟩ := s.seen.store hx hl hz
  have hbel : Below w0.heap.size W w2 := (Below.refl w0.heap.size W).grown h3 s.live.bel.size (fun k hk => by cases hk; exact s.seen0)
  have hne : b ≠ br := fun he => by
    obtain ⟨es, c', h2⟩ := s.seen.obj
    rw [he, hb.1] at h2; cases h2
  exact ⟨w2, h1, ⟨⟨s.live.hs.same (fun k hk => h3.block k (s.live.hs.lt hk) (fun e => by injection e with e; exact s.seenS (e ▸ hk))), s.live.bel.trans hbel, s.live.low⟩, s.row.same (fun g hg => h3.block g (s.row.lt hg).1 (fun e => by injection e with e; exact s.rowMap (e ▸ hg))), s.rowS, h2, s.seenS, s.seen0,
    ⟨(h3.block bx s.box.lt (fun e => by injection e with e; exact s.mapBox e.symm)).trans s.box.1, s.box.2⟩⟩, ⟨(h3.block br hb.lt (fun e => by injection e with e; exact hne e.symm)).trans hb.1, hb.2⟩⟩

/-- A heap filled by calls of Set and Remove. -/
def FillP (n h : Nat) (w0 : World) (g : Nat) (i : Value) (W : World) : Prop := ∃ (k : Nat) (S : Nat → Prop) (L : List (Ent Key)), g + k = n ∧ i = .int .i64 (k : Int) ∧ L.length ≤ k ∧ Live w0 W h S L k

/-- The loop that pops. -/
def PopR (L : List (Ent Key)) (h b bx c : Nat) (w0 : World) (v : Value) (g : Nat) (iz : Value) (W : World) : Prop :=
  ∃ i S r1 r2, g + i = L.length ∧ iz = .int .i64 (i : Int) ∧ Side w0 W h b bx S (L.drop i) c v (keysOf L) ((keysOf L).take i) r1 r2 ∧ (∀ e, 0 < i → L[i - 1]? = some e → r1 = e.one ∧ r2 = e.two)

set_option maxHeartbeats 4000000 in
set_option maxRecDepth 100000 in
theorem pops_main (A : Option Addr) (n c : Nat) (w : World) (K : Nat → Int) (S : Nat → ByteArray) (R1 R2 : Nat → Int) (a1 a2 b1 b2 d1 d2 : Int) (hn : n ≤ 200) (hS : ∀ i, i < n → (S i).size ≤ maxLen)
    (hc : 0 < n → ∃ g o, A = some ⟨g, o, none⟩ ∧ g < w.heap.size ∧ n ≤ c ∧ c ≤ maxLen ∧ ∀ i, i < n → w.cell? ⟨g, o + i * 4, none⟩ = some (.int .i64 (K i)) ∧ w.cell? ⟨g, o + i * 4 + 1, none⟩ = some (.string (S i)) ∧ w.cell? ⟨g, o + i * 4 + 2, none⟩ = some (.int .i64 (R1 i)) ∧ w.cell? ⟨g, o + i * 4 + 3, none⟩ = some (.int .i64 (R2 i))) :
    Calls Try.prog 4 #[.slice A n c, .agg #[.int .i64 a1, .int .i64 a2], .agg #[.int .i64 b1, .int .i64 b2], .agg #[.int .i64 d1, .int .i64 d2]] w (RetB true w) := by
  have e0 : decide (200 < (n : Int)) = false := by simp; omega
  have mixed : Try.prog.follows .mixedOrders = true := by kernel_rfl
  have hmm := @run_makeMap Try.prog
  have hg := guardR
  have HC := Lib.hid hc
  have HZ := Lib.hid hS
  clear hc hS
  go_enter Try.func4, Try.ntmps4
  go_wp2_with fail
  have hA : (((w.alloc (.cells #[.int .i64 a1, .int .i64 a2] 28)).alloc (.cells #[.int .i64 b1, .int .i64 b2] 28)).alloc (.cells #[.int .i64 d1, .int .i64 d2] 28)).heap.size = w.heap.size + 1 + 1 + 1 := by simp
  have hs1 : (w.alloc (.cells #[.int .i64 a1, .int .i64 a2] 28)).heap.size = w.heap.size + 1 := by simp
  have hs2 : ((w.alloc (.cells #[.int .i64 a1, .int .i64 a2] 28)).alloc (.cells #[.int .i64 b1, .int .i64 b2] 28)).heap.size = w.heap.size + 1 + 1 := by simp
  have k3 := heap_alloc_new ((w.alloc (.cells #[.int .i64 a1, .int .i64 a2] 28)).alloc (.cells #[.int .i64 b1, .int .i64 b2] 28)) (.cells #[.int .i64 d1, .int .i64 d2] 28)
  rw [hs2] at k3
  have k2 : (((w.alloc (.cells #[.int .i64 a1, .int .i64 a2] 28)).alloc (.cells #[.int .i64 b1, .int .i64 b2] 28)).alloc (.cells #[.int .i64 d1, .int .i64 d2] 28)).heap[w.heap.size + 1]? = some (.cells #[.int .i64 b1, .int .i64 b2] 28 (0, 0)) := by
    rw [Below.heap_alloc _ _ _ (by rw [hs2]; omega), ← hs1]; exact heap_alloc_new _ _
  have k1 : (((w.alloc (.cells #[.int .i64 a1, .int .i64 a2] 28)).alloc (.cells #[.int .i64 b1, .int .i64 b2] 28)).alloc (.cells #[.int .i64 d1, .int .i64 d2] 28)).heap[w.heap.size]? = some (.cells #[.int .i64 a1, .int .i64 a2] 28 (0, 0)) := by
    rw [Below.heap_alloc _ _ _ (by rw [hs2]; omega), Below.heap_alloc _ _ _ (by rw [hs1]; omega)]; exact heap_alloc_new _ _
  have BB := Lib.hid (show Below w.heap.size w (((w.alloc (.cells #[.int .i64 a1, .int .i64 a2] 28)).alloc (.cells #[.int .i64 b1, .int .i64 b2] 28)).alloc (.cells #[.int .i64 d1, .int .i64 d2] 28)) from (((Below.refl _ _).alloc (Nat.le_refl _) _).alloc (by rw [hs1]; omega) _).alloc (by rw [hs2]; omega) _)
  clear hA hs1 hs2
  generalize ((w.alloc (.cells #[.int .i64 a1, .int .i64 a2] 28)).alloc (.cells #[.int .i64 b1, .int .i64 b2] 28)).alloc (.cells #[.int .i64 d1, .int .i64 d2] 28) = wx at k1 k2 k3 BB ⊢
  have X := Lib.hid (show Bx3 wx w.heap.size (w.heap.size + 1) (w.heap.size + 1 + 1) a1 a2 b1 b2 d1 d2 from ⟨cell_of_row wx _ 0 _ _ _ k1, cell_of_row wx _ 1 _ _ _ k1, cell_of_row wx _ 0 _ _ _ k2, cell_of_row wx _ 1 _ _ _ k2, cell_of_row wx _ 0 _ _ _ k3, cell_of_row wx _ 1 _ _ _ k3⟩)
  clear k1 k2 k3
  generalize w.heap.size + 1 + 1 = C3 at X ⊢
  generalize w.heap.size + 1 = C2 at X ⊢
  generalize hC1 : w.heap.size = C1 at X ⊢
  refine (awake_any _).mono ?_
  rintro e w2 ⟨rfl, hb0⟩
  have Y := X.out.below hb0
  have Z := BB.out.trans (hb0.mono BB.out.size)
  clear hb0 X BB
  have X := Lib.hid Y
  have BB := Lib.hid Z
  clear Y Z
  have x1 := X.out.a1
  have x2 := X.out.a2
  have x3 := X.out.b1
  have x4 := X.out.b2
  have x5 := X.out.c1
  have x6 := X.out.c2
  clear hC1
  have hqn := fun w => neqR w a1 a2 b1 b2
  go_upto_region 5 with fail
  go_cut [71] (fun z W => Tst w z W)
  case first =>
    as_aux_lemma =>
    have raa := rless_self a1 a2
    cases hab : rless a1 a2 b1 b2 with
    | true =>
      have hba := rless_asymm hab
      cases hbd : rless b1 b2 d1 d2 with
      | true =>
        have had := rless_trans hab hbd
        go_wp2_with fail
        refine (less_any _ a1 a2 a1 a2).mono ?_
        rintro e w3 ⟨rfl, hG⟩
        have Y := X.out.below hG.below
        have Z := BB.out.trans (hG.below.mono BB.out.size)
        clear x1 x2 x3 x4 x5 x6 hG X BB
        have X := Lib.hid Y
        have BB := Lib.hid Z
        clear Y Z
        have x1 := X.out.a1
        have x2 := X.out.a2
        have x3 := X.out.b1
        have x4 := X.out.b2
        have x5 := X.out.c1
        have x6 := X.out.c2
        go_wp2_with fail
        refine (less_any _ a1 a2 b1 b2).mono ?_
        rintro e w3 ⟨rfl, hG⟩
        have Y := X.out.below hG.below
        have Z := BB.out.trans (hG.below.mono BB.out.size)
        clear x1 x2 x3 x4 x5 x6 hG X BB
        have X := Lib.hid Y
        have BB := Lib.hid Z
        clear Y Z
        have x1 := X.out.a1
        have x2 := X.out.a2
        have x3 := X.out.b1
        have x4 := X.out.b2
        have x5 := X.out.c1
        have x6 := X.out.c2
        go_wp2_with fail
        refine (less_any _ b1 b2 a1 a2).mono ?_
        rintro e w3 ⟨rfl, hG⟩
        have Y := X.out.below hG.below
        have Z := BB.out.trans (hG.below.mono BB.out.size)
        clear x1 x2 x3 x4 x5 x6 hG X BB
        have X := Lib.hid Y
        have BB := Lib.hid Z
        clear Y Z
        have x1 := X.out.a1
        have x2 := X.out.a2
        have x3 := X.out.b1
        have x4 := X.out.b2
        have x5 := X.out.c1
        have x6 := X.out.c2
        go_wp2_with fail
        refine (less_any _ a1 a2 b1 b2).mono ?_
        rintro e w3 ⟨rfl, hG⟩
        have Y := X.out.below hG.below
        have Z := BB.out.trans (hG.below.mono BB.out.size)
        clear x1 x2 x3 x4 x5 x6 hG X BB
        have X := Lib.hid Y
        have BB := Lib.hid Z
        clear Y Z
        have x1 := X.out.a1
        have x2 := X.out.a2
        have x3 := X.out.b1
        have x4 := X.out.b2
        have x5 := X.out.c1
        have x6 := X.out.c2
        go_wp2_with fail
        refine (less_any _ b1 b2 d1 d2).mono ?_
        rintro e w3 ⟨rfl, hG⟩
        have Y := X.out.below hG.below
        have Z := BB.out.trans (hG.below.mono BB.out.size)
        clear x1 x2 x3 x4 x5 x6 hG X BB
        have X := Lib.hid Y
        have BB := Lib.hid Z
        clear Y Z
        have x1 := X.out.a1
        have x2 := X.out.a2
        have x3 := X.out.b1
        have x4 := X.out.b2
        have x5 := X.out.c1
        have x6 := X.out.c2
        go_wp2_with fail
        refine (less_any _ a1 a2 d1 d2).mono ?_
        rintro e w3 ⟨rfl, hG⟩
        have Y := X.out.below hG.below
        have Z := BB.out.trans (hG.below.mono BB.out.size)
        clear x1 x2 x3 x4 x5 x6 hG X BB
        have X := Lib.hid Y
        have BB := Lib.hid Z
        clear Y Z
        have x1 := X.out.a1
        have x2 := X.out.a2
        have x3 := X.out.b1
        have x4 := X.out.b2
        have x5 := X.out.c1
        have x6 := X.out.c2
        go_wp2_with fail
        refine (less_any _ a1 a2 b1 b2).mono ?_
        rintro e w3 ⟨rfl, hG⟩
        have Y := X.out.below hG.below
        have Z := BB.out.trans (hG.below.mono BB.out.size)
        clear x1 x2 x3 x4 x5 x6 hG X BB
        have X := Lib.hid Y
        have BB := Lib.hid Z
        clear Y Z
        have x1 := X.out.a1
        have x2 := X.out.a2
        have x3 := X.out.b1
        have x4 := X.out.b2
        have x5 := X.out.c1
        have x6 := X.out.c2
        go_wp2_with fail
        go_meet
        exact ⟨rfl, BB.out⟩
      | false =>
        go_wp2_with fail
        refine (less_any _ a1 a2 a1 a2).mono ?_
        rintro e w3 ⟨rfl, hG⟩
        have Y := X.out.below hG.below
        have Z := BB.out.trans (hG.below.mono BB.out.size)
        clear x1 x2 x3 x4 x5 x6 hG X BB
        have X := Lib.hid Y
        have BB := Lib.hid Z
        clear Y Z
        have x1 := X.out.a1
        have x2 := X.out.a2
        have x3 := X.out.b1
        have x4 := X.out.b2
        have x5 := X.out.c1
        have x6 := X.out.c2
        go_wp2_with fail
        refine (less_any _ a1 a2 b1 b2).mono ?_
        rintro e w3 ⟨rfl, hG⟩
        have Y := X.out.below hG.below
        have Z := BB.out.trans (hG.below.mono BB.out.size)
        clear x1 x2 x3 x4 x5 x6 hG X BB
        have X := Lib.hid Y
        have BB := Lib.hid Z
        clear Y Z
        have x1 := X.out.a1
        have x2 := X.out.a2
        have x3 := X.out.b1
        have x4 := X.out.b2
        have x5 := X.out.c1
        have x6 := X.out.c2
        go_wp2_with fail
        refine (less_any _ b1 b2 a1 a2).mono ?_
        rintro e w3 ⟨rfl, hG⟩
        have Y := X.out.below hG.below
        have Z := BB.out.trans (hG.below.mono BB.out.size)
        clear x1 x2 x3 x4 x5 x6 hG X BB
        have X := Lib.hid Y
        have BB := Lib.hid Z
        clear Y Z
        have x1 := X.out.a1
        have x2 := X.out.a2
        have x3 := X.out.b1
        have x4 := X.out.b2
        have x5 := X.out.c1
        have x6 := X.out.c2
        go_wp2_with fail
        refine (less_any _ a1 a2 b1 b2).mono ?_
        rintro e w3 ⟨rfl, hG⟩
        have Y := X.out.below hG.below
        have Z := BB.out.trans (hG.below.mono BB.out.size)
        clear x1 x2 x3 x4 x5 x6 hG X BB
        have X := Lib.hid Y
        have BB := Lib.hid Z
        clear Y Z
        have x1 := X.out.a1
        have x2 := X.out.a2
        have x3 := X.out.b1
        have x4 := X.out.b2
        have x5 := X.out.c1
        have x6 := X.out.c2
        go_wp2_with fail
        refine (less_any _ b1 b2 d1 d2).mono ?_
        rintro e w3 ⟨rfl, hG⟩
        have Y := X.out.below hG.below
        have Z := BB.out.trans (hG.below.mono BB.out.size)
        clear x1 x2 x3 x4 x5 x6 hG X BB
        have X := Lib.hid Y
        have BB := Lib.hid Z
        clear Y Z
        have x1 := X.out.a1
        have x2 := X.out.a2
        have x3 := X.out.b1
        have x4 := X.out.b2
        have x5 := X.out.c1
        have x6 := X.out.c2
        go_wp2_with fail
        refine (less_any _ a1 a2 b1 b2).mono ?_
        rintro e w3 ⟨rfl, hG⟩
        have Y := X.out.below hG.below
        have Z := BB.out.trans (hG.below.mono BB.out.size)
        clear x1 x2 x3 x4 x5 x6 hG X BB
        have X := Lib.hid Y
        have BB := Lib.hid Z
        clear Y Z
        have x1 := X.out.a1
        have x2 := X.out.a2
        have x3 := X.out.b1
        have x4 := X.out.b2
        have x5 := X.out.c1
        have x6 := X.out.c2
        go_wp2_with fail
        go_meet
        exact ⟨rfl, BB.out⟩
    | false =>
      cases hba : rless b1 b2 a1 a2 with
      | true =>
        go_wp2_with fail
        refine (less_any _ a1 a2 a1 a2).mono ?_
        rintro e w3 ⟨rfl, hG⟩
        have Y := X.out.below hG.below
        have Z := BB.out.trans (hG.below.mono BB.out.size)
        clear x1 x2 x3 x4 x5 x6 hG X BB
        have X := Lib.hid Y
        have BB := Lib.hid Z
        clear Y Z
        have x1 := X.out.a1
        have x2 := X.out.a2
        have x3 := X.out.b1
        have x4 := X.out.b2
        have x5 := X.out.c1
        have x6 := X.out.c2
        go_wp2_with fail
        refine (less_any _ a1 a2 b1 b2).mono ?_
        rintro e w3 ⟨rfl, hG⟩
        have Y := X.out.below hG.below
        have Z := BB.out.trans (hG.below.mono BB.out.size)
        clear x1 x2 x3 x4 x5 x6 hG X BB
        have X := Lib.hid Y
        have BB := Lib.hid Z
        clear Y Z
        have x1 := X.out.a1
        have x2 := X.out.a2
        have x3 := X.out.b1
        have x4 := X.out.b2
        have x5 := X.out.c1
        have x6 := X.out.c2
        go_wp2_with fail
        refine (less_any _ a1 a2 b1 b2).mono ?_
        rintro e w3 ⟨rfl, hG⟩
        have Y := X.out.below hG.below
        have Z := BB.out.trans (hG.below.mono BB.out.size)
        clear x1 x2 x3 x4 x5 x6 hG X BB
        have X := Lib.hid Y
        have BB := Lib.hid Z
        clear Y Z
        have x1 := X.out.a1
        have x2 := X.out.a2
        have x3 := X.out.b1
        have x4 := X.out.b2
        have x5 := X.out.c1
        have x6 := X.out.c2
        go_wp2_with fail
        refine (less_any _ a1 a2 b1 b2).mono ?_
        rintro e w3 ⟨rfl, hG⟩
        have Y := X.out.below hG.below
        have Z := BB.out.trans (hG.below.mono BB.out.size)
        clear x1 x2 x3 x4 x5 x6 hG X BB
        have X := Lib.hid Y
        have BB := Lib.hid Z
        clear Y Z
        have x1 := X.out.a1
        have x2 := X.out.a2
        have x3 := X.out.b1
        have x4 := X.out.b2
        have x5 := X.out.c1
        have x6 := X.out.c2
        go_wp2_with fail
        refine (less_any _ b1 b2 a1 a2).mono ?_
        rintro e w3 ⟨rfl, hG⟩
        have Y := X.out.below hG.below
        have Z := BB.out.trans (hG.below.mono BB.out.size)
        clear x1 x2 x3 x4 x5 x6 hG X BB
        have X := Lib.hid Y
        have BB := Lib.hid Z
        clear Y Z
        have x1 := X.out.a1
        have x2 := X.out.a2
        have x3 := X.out.b1
        have x4 := X.out.b2
        have x5 := X.out.c1
        have x6 := X.out.c2
        go_wp2_with fail
        go_meet
        exact ⟨rfl, BB.out⟩
      | false =>
        obtain ⟨q1, q2⟩ := rless_tot hab hba
        have hq0 : (!(decide (a1 = b1) && decide (a2 = b2))) = false := by simp [q1, q2]
        rw [hq0] at hqn
        clear q1 q2 hq0
        go_wp2_with fail
        refine (less_any _ a1 a2 a1 a2).mono ?_
        rintro e w3 ⟨rfl, hG⟩
        have Y := X.out.below hG.below
        have Z := BB.out.trans (hG.below.mono BB.out.size)
        clear x1 x2 x3 x4 x5 x6 hG X BB
        have X := Lib.hid Y
        have BB := Lib.hid Z
        clear Y Z
        have x1 := X.out.a1
        have x2 := X.out.a2
        have x3 := X.out.b1
        have x4 := X.out.b2
        have x5 := X.out.c1
        have x6 := X.out.c2
        go_wp2_with fail
        refine (less_any _ a1 a2 b1 b2).mono ?_
        rintro e w3 ⟨rfl, hG⟩
        have Y := X.out.below hG.below
        have Z := BB.out.trans (hG.below.mono BB.out.size)
        clear x1 x2 x3 x4 x5 x6 hG X BB
        have X := Lib.hid Y
        have BB := Lib.hid Z
        clear Y Z
        have x1 := X.out.a1
        have x2 := X.out.a2
        have x3 := X.out.b1
        have x4 := X.out.b2
        have x5 := X.out.c1
        have x6 := X.out.c2
        go_wp2_with fail
        refine (less_any _ a1 a2 b1 b2).mono ?_
        rintro e w3 ⟨rfl, hG⟩
        have Y := X.out.below hG.below
        have Z := BB.out.trans (hG.below.mono BB.out.size)
        clear x1 x2 x3 x4 x5 x6 hG X BB
        have X := Lib.hid Y
        have BB := Lib.hid Z
        clear Y Z
        have x1 := X.out.a1
        have x2 := X.out.a2
        have x3 := X.out.b1
        have x4 := X.out.b2
        have x5 := X.out.c1
        have x6 := X.out.c2
        go_wp2_with fail
        refine (less_any _ a1 a2 b1 b2).mono ?_
        rintro e w3 ⟨rfl, hG⟩
        have Y := X.out.below hG.below
        have Z := BB.out.trans (hG.below.mono BB.out.size)
        clear x1 x2 x3 x4 x5 x6 hG X BB
        have X := Lib.hid Y
        have BB := Lib.hid Z
        clear Y Z
        have x1 := X.out.a1
        have x2 := X.out.a2
        have x3 := X.out.b1
        have x4 := X.out.b2
        have x5 := X.out.c1
        have x6 := X.out.c2
        go_wp2_with fail
        refine (less_any _ b1 b2 a1 a2).mono ?_
        rintro e w3 ⟨rfl, hG⟩
        have Y := X.out.below hG.below
        have Z := BB.out.trans (hG.below.mono BB.out.size)
        clear x1 x2 x3 x4 x5 x6 hG X BB
        have X := Lib.hid Y
        have BB := Lib.hid Z
        clear Y Z
        have x1 := X.out.a1
        have x2 := X.out.a2
        have x3 := X.out.b1
        have x4 := X.out.b2
        have x5 := X.out.c1
        have x6 := X.out.c2
        go_wp2_with fail
        go_meet
        exact ⟨rfl, BB.out⟩
  case rest =>
    as_aux_lemma =>
    clear hqn x1 x2 x3 x4 x5 x6 X BB
    obtain ⟨rfl, hB0⟩ := hcut
    have BB := Lib.hid hB0
    clear hB0
    go_wp2_with fail
    refine (new_any wc).mono ?_
    rintro e w1 ⟨h, S0, rfl, hH, hS0, hB⟩
    have L1 := Lib.hid (Live.made BB.out hH hS0 hB)
    clear hH hS0 hB BB
    go_wp2_with fail
    clear e0
    go_loopg [10] n (fun g i W => FillP n h w g i W)
    case atStart => exact ⟨0, S0, [], by omega, rfl, Nat.le_refl _, L1.out⟩
    case round =>
      obtain ⟨k, S1, L, hgk, rfl, hxl, hL⟩ := hrel
      have HL := Lib.hid hL
      have HG := Lib.hid hgk
      clear hL L1
      by_cases hlt : k < n
      · have e0 : decide (k < n) = true := by simpa using hlt
        obtain ⟨g, o, rfl, hgl, hc1, hc2, hcell⟩ := HC.out (by omega)
        obtain ⟨q0, q1, q2, q3⟩ := hcell k hlt
        have h1 := (HL.out.bel.cell (p := ⟨g, o + k * 4 + 1, none⟩) hgl).trans q1
        have h2 := (HL.out.bel.cell (p := ⟨g, o + k * 4 + 2, none⟩) hgl).trans q2
        have h3 := (HL.out.bel.cell (p := ⟨g, o + k * 4 + 3, none⟩) hgl).trans q3
        have hsk := HZ.out k hlt
        have Q := Lib.hid (And.intro q0 q1)
        clear hcell q0 q1 q2 q3 hgk
        unfold maxLen at hc2
        go_wp2_with fail
        go_still_tail 11, mixed
        go_wp2_with fail
        refine (set_any wr.drew h S1 L k (S k) (R1 k) (R2 k) HL.out.hs.drew hsk (by omega) (by omega)).mono ?_
        intro e w2 hp
        obtain ⟨rfl, S2, L2, hL2, _, hl2⟩ := Fill.step hxl HL.out (below_drew wr) hp
        have R := Lib.hid (And.intro hL2 hl2)
        have j0 := (hL2.bel.cell (p := ⟨g, o + k * 4, none⟩) hgl).trans Q.out.1
        have j1 := (hL2.bel.cell (p := ⟨g, o + k * 4 + 1, none⟩) hgl).trans Q.out.2
        clear hp hL2 hl2 h1 h2 h3
        by_cases hk1 : K k = 1
        · rw [hk1] at j0
          clear hk1
          go_wp2_with fail
          refine (remove_any w2 h S2 L2 (k + 1) (S k) R.out.1.hs hsk).mono ?_
          intro e w3 hp
          obtain ⟨rfl, S3, hL3, _, _⟩ := R.out.1.op hp
          have R3 := Lib.hid hL3
          clear hp hL3 j0 j1
          go_wp2_with fail
          go_roundg (n - (k + 1))
          case measure => have := HG.out; omega
          case rel => exact ⟨k + 1, S3, _, by omega, rfl, Nat.le_trans (rem_len_le _ _) R.out.2, R3.out⟩
        · have e1 : (K k == 1) = false := by simpa using hk1
          clear hk1
          go_wp2_with fail
          go_roundg (n - (k + 1))
          case measure => have := HG.out; omega
          case rel => exact ⟨k + 1, S2, L2, by omega, rfl, R.out.2, R.out.1⟩
      · have e0 : decide (k < n) = false := by simpa using hlt
        have hkn : k ≤ 200 := by omega
        clear hgk
        go_wp2_with fail
        refine (order_any wr h S1 L k HL.out.hs).mono ?_
        rintro e w2 ⟨v, rfl, hO, hB⟩
        have hs0 := HL.out.bel.size
        have L2 := Lib.hid (HL.out.below hB)
        have O2 := Lib.hid (show Own w2 w.heap.size v (keysOf L) from ⟨⟨hO.1.1, by
          rcases hO.1.2 with q | ⟨g, cap, arr, q1, q2, q3⟩
          · exact Or.inl q
          · exact Or.inr ⟨g, cap, arr, q1, by omega, q3⟩⟩, hO.2⟩)
        have N2 := Lib.hid (show ∀ g, v.ownBlock = some g → ¬ S1 g from fun g hg hS => by have := HL.out.hs.lt hS; have := (hO.lt hg).2; omega)
        have hs2 := L2.out.bel.size
        have SD := Lib.hid (show Side w ((w2.alloc (.map #[] 0)).alloc (.cells #[.int .i64 0, .int .i64 0] 28 (0, 0))) h w2.heap.size (w2.heap.size + 1) S1 L k v (keysOf L) [] 0 0 from by
          have hz : (w2.alloc (.map #[] 0)).heap.size = w2.heap.size + 1 := by simp
          have bl1 : Below w2.heap.size w2 ((w2.alloc (.map #[] 0)).alloc (.cells #[.int .i64 0, .int .i64 0] 28 (0, 0))) := ((Below.refl _ _).alloc (Nat.le_refl _) _).alloc (by rw [hz]; omega) _
          refine ⟨L2.out.below bl1, O2.out.same (fun g hg => bl1.block g (O2.out.lt hg).1), N2.out, (SeenM.made w2).same (Below.heap_alloc _ _ _ (by rw [hz]; omega)), fun hS => ?_, hs2, ⟨by rw [← hz]; exact heap_alloc_new _ _, fun hS => ?_⟩⟩
          · have := L2.out.hs.lt hS; omega
          · have := L2.out.hs.lt hS; omega)
        have hbx : w.heap.size ≤ w2.heap.size + 1 := by omega
        have ND := Lib.hid (show (keysOf L).Nodup from HL.out.hs.once.keys)
        have SR := Lib.hid HL.out.hs.srt
        have KO := Lib.hid HL.out.hs.ok
        have ON := Lib.hid HL.out.hs.once
        have LL := Lib.hid (show L.length ≤ 200 by omega)
        clear hO hB HL L2 O2 N2 hs0 hs2 e0 hxl
        obtain ⟨Av, cv, rfl⟩ := SD.out.row.len
        have KL := Lib.hid (keys_len L)
        rw [KL.out] at SD ⊢
        go_wp2_with fail
        generalize (w2.alloc (.map #[] 0)).alloc (.cells #[.int .i64 0, .int .i64 0] 28 (0, 0)) = w3 at SD ⊢
        generalize w2.heap.size + 1 = bx at SD hbx ⊢
        generalize w2.heap.size = b at SD ⊢
        clear hmm
        obtain ⟨n1, hn1⟩ : ∃ n1, L.length = n1 := ⟨_, rfl⟩
        have N1 := Lib.hid hn1
        rw [hn1] at SD ⊢
        have hn1' : n1 ≤ 200 := hn1 ▸ LL.out
        clear hn1
        go_loopg [14] n1 (fun g iz W => PopR L h b bx k w (.slice Av n1 cv) g iz W)
        case atStart => exact ⟨0, S1, 0, 0, by rw [N1.out]; omega, rfl, SD.out, fun e h0 => by omega⟩
        case round =>
          obtain ⟨i, S2, r1, r2, hgi, rfl, hSd, hlast⟩ := hrel
          have SD2 := Lib.hid hSd
          have LA := Lib.hid hlast
          have G2 := Lib.hid hgi
          clear hSd hlast hgi SD
          by_cases hi : i < n1
          · have e0 : decide (i < n1) = true := by simpa using hi
            have hiL : i < L.length := by rw [N1.out]; exact hi
            obtain ⟨x, hx⟩ : ∃ x, L[i]? = some x := ⟨_, List.getElem?_eq_getElem hiL⟩
            have hdrop : L.drop i = x :: L.drop (i + 1) := by
              rw [List.drop_eq_getElem_cons hiL]
              congr 1
              have := List.getElem?_eq_getElem hiL
              rw [hx] at this
              exact (Option.some.inj this).symm
            have hkx : (keysOf L)[i]? = some x.key := by unfold keysOf; rw [List.getElem?_map, hx]; rfl
            obtain ⟨g, cap, hv, hg1, hcc1, hcc2, m1⟩ := SD2.out.row.at hkx
            have hgS : ¬ S2 g := SD2.out.rowS g (by rw [hv]; rfl)
            injection hv with hv1 hvn hv2
            clear hvn
            subst hv1
            subst hv2
            rw [KL.out, N1.out] at hcc1
            unfold maxLen at hcc2
            have hxm : x ∈ L := List.mem_of_getElem? hx
            have hkok : kok x.key := KO.out x hxm
            have hs1 := SD2.out.live.hs
            rw [hdrop] at hs1
            have RK := Lib.hid (rank_any wr h S2 _ k x.key hs1 hkok)
            rw [hs1.once.find (e := x) List.mem_cons_self] at RK
            have hnot : x.key ∉ (keysOf L).take i := fun hm => by
              obtain ⟨j, hj, he⟩ := List.mem_iff_getElem.1 hm
              rw [List.length_take] at hj
              have hji : j < i := by omega
              have hkl : i < (keysOf L).length := by rw [KL.out]; exact hiL
              have := List.pairwise_iff_getElem.1 ND.out j i (by omega) hkl hji
              rw [List.getElem_take] at he
              have e2 := List.getElem?_eq_getElem hkl
              rw [hkx] at e2
              exact this (he.trans (Option.some.inj e2))
            have PK := Lib.hid (fun w' (l : HS.HS w' h S2 (x :: L.drop (i + 1)) k) => show Calls Try.prog 15 #[.pointer (some ⟨h, 0, none⟩)] w' (OpPost (.tuple #[.string x.key, .bool true]) w' h S2 (L.drop (i + 1)) k) from pop_any w' h S2 _ k l)
            have HX := Lib.hid hx
            have HD := Lib.hid hdrop
            have HK := Lib.hid hkx
            have HNO := Lib.hid hnot
            have NL := Lib.hid (show 0 < i → rless x.one x.two r1 r2 = false from fun h0 => by
              obtain ⟨y, hy⟩ : ∃ y, L[i - 1]? = some y := ⟨_, List.getElem?_eq_getElem (by omega)⟩
              obtain ⟨q1, q2⟩ := LA.out y h0 hy
              rw [q1, q2]
              have q := List.pairwise_iff_getElem.1 SR.out (i - 1) i (by omega) hiL (by omega)
              rw [List.getElem?_eq_getElem (by omega)] at hy
              rw [List.getElem?_eq_getElem hiL] at hx
              rw [Option.some.inj hy, Option.some.inj hx] at q
              exact lt_rless q)
            clear hs1 hx hdrop hkx hnot hxm hgS hiL hg1
            unfold rankV at RK
            go_wp2_with fail
            refine RK.out.mono ?_
            rintro e w4 ⟨rfl, hB4⟩
            have hsz4 := hB4.size
            have SD4 := Lib.hid (SD2.out.below (hB4.alloc hsz4 (.cells #[.int .i64 x.one, .int .i64 x.two] 28 (0, 0))))
            have X4 := Lib.hid (Box.made SD2.out.live.hs hsz4 x.one x.two)
            clear hB4 hsz4 RK m1
            go_wp2_with fail
            generalize w4.alloc (.cells #[.int .i64 x.one, .int .i64 x.two] 28 (0, 0)) = w5 at SD4 X4 ⊢
            generalize w4.heap.size = br at X4 ⊢
            refine (PK.out w5 (by have := SD4.out.live.hs; rw [HD.out] at this; exact this)).mono ?_
            intro e w6 hp
            obtain ⟨rfl, S6, hS6, s6, t6⟩ := SD4.out.op2 hp
            have SD6 := Lib.hid hS6
            have X6 := Lib.hid (X4.out.turn t6 s6)
            clear hp hS6 s6 t6 SD4 X4
            have m6 := (SD6.out.row.at HK.out)
            obtain ⟨g', cap', hv', hg', _, _, m6⟩ := m6
            have hgg : g = g' := by
              injection hv' with hv' _ _
              injection hv' with hv'
              injection hv' with hv'
            rw [← hgg] at m6
            have lk := SD6.out.seen.look (s := x.key) hkok
            rw [inn_no HNO.out] at lk
            clear hv' hgg hg'
            have y0 := X6.out.c0
            have y1 := X6.out.c1
            have l0 := SD6.out.box.c0
            have l1 := SD6.out.box.c1
            have hTK := Lib.hid (show (keysOf L).take (i + 1) = (keysOf L).take i ++ [x.key] by rw [List.take_add_one, HK.out]; rfl)
            by_cases hz : i = 0
            · have ez : decide (0 < i) = false := by simp; omega
              obtain ⟨w8, hup, hS8, hX8⟩ := SD6.out.mark2 (x := x.key) hkok (by rw [List.length_take]; omega) HNO.out X6.out
              have z0 := hX8.c0
              have z1 := hX8.c1
              have v0 := hS8.box.c0
              have v1 := hS8.box.c1
              have f0 : w8.frozen? ⟨bx, 0, none⟩ = false := frozen_of_row w8 _ 0 _ _ hS8.box.1
              have f1 : w8.frozen? ⟨bx, 1, none⟩ = false := frozen_of_row w8 _ 1 _ _ hS8.box.1
              have R := Lib.hid (hS8.rebox hbx x.one x.two)
              clear hS8 hX8 hz SD6 X6 PK
              go_wp2_with fail
              go_roundg (n1 - (i + 1))
              case measure => have := G2.out; have := N1.out; omega
              case rel =>
                refine ⟨i + 1, S6, _, _, by rw [N1.out]; omega, rfl, by rw [hTK.out]; exact R.out, fun e _ he => ?_⟩
                rw [Nat.add_sub_cancel, HX.out] at he
                cases he
                exact ⟨rfl, rfl⟩
            · have ez : decide (0 < i) = true := by simp; omega
              have LS := Lib.hid (less_any w6 x.one x.two r1 r2)
              rw [NL.out (by omega)] at LS
              clear hz PK
              go_wp2_with fail
              refine LS.out.mono ?_
              rintro e w7 ⟨rfl, hG7⟩
              have SD7 := SD6.out.below hG7.below
              have X7 := X6.out.below hG7.below
              obtain ⟨w8, hup, hS8, hX8⟩ := SD7.mark2 (x := x.key) hkok (by rw [List.length_take]; omega) HNO.out X7
              have z0 := hX8.c0
              have z1 := hX8.c1
              have v0 := hS8.box.c0
              have v1 := hS8.box.c1
              have f0 : w8.frozen? ⟨bx, 0, none⟩ = false := frozen_of_row w8 _ 0 _ _ hS8.box.1
              have f1 : w8.frozen? ⟨bx, 1, none⟩ = false := frozen_of_row w8 _ 1 _ _ hS8.box.1
              have R := Lib.hid (hS8.rebox hbx x.one x.two)
              clear hS8 hX8 SD6 X6 SD7 X7 hG7 y0 y1 l0 l1 m6 lk
              go_wp2_with fail
              go_roundg (n1 - (i + 1))
              case measure => have := G2.out; have := N1.out; omega
              case rel =>
                refine ⟨i + 1, S6, _, _, by rw [N1.out]; omega, rfl, by rw [hTK.out]; exact R.out, fun e _ he => ?_⟩
                rw [Nat.add_sub_cancel, HX.out] at he
                cases he
                exact ⟨rfl, rfl⟩
          · have e0 : decide (i < n1) = false := by simpa using hi
            obtain rfl : i = n1 := by have := G2.out; have := N1.out; omega
            have hs9 := SD2.out.live.hs
            have hnil : L.drop i = [] := List.drop_eq_nil_of_le (by rw [N1.out]; exact Nat.le_refl _)
            rw [hnil] at hs9
            have PP := Lib.hid (show Calls Try.prog 15 #[.pointer (some ⟨h, 0, none⟩)] wr (OpPost (.tuple #[.string ⟨#[]⟩, .bool false]) wr h S2 [] k) from pop_any wr h S2 [] k hs9)
            have L9 := Lib.hid (Live.mk hs9 SD2.out.live.bel SD2.out.live.low)
            clear hs9 hnil
            go_wp2_with fail
            refine PP.out.mono ?_
            intro e w8 hp
            obtain ⟨rfl, S8, hL8, _, _⟩ := L9.out.op hp
            have L8 := Lib.hid hL8
            have LE := Lib.hid (show Calls Try.prog 18 #[.pointer (some ⟨h, 0, none⟩)] w8 (IntPost 0 w8) from len_any w8 h S8 [] k hL8.hs)
            clear hp hL8
            go_wp2_with fail
            refine LE.out.mono ?_
            rintro e w9 ⟨rfl, rfl⟩
            go_wp2_with fail
            go_ret
            exact ⟨rfl, L8.out.bel⟩

set_option maxRecDepth 100000 in
theorem walk_heapPops (v0 v1 v2 v3 : Value) (w : World) (w0 : CameA w v0) (w1 : CameK v1) (w2 : CameK v2) (w3 : CameK v3) : Calls Try.prog 4 #[v0, v1, v2, v3] w (RetB true w) := by
  obtain ⟨A, n, c, rfl, hn, K, S, R1, R2, hr, hc⟩ := w0
  obtain ⟨a1, a2, rfl⟩ := w1
  obtain ⟨b1, b2, rfl⟩ := w2
  obtain ⟨d1, d2, rfl⟩ := w3
  by_cases hbig : n ≤ 200
  · exact pops_main A n c w K S R1 R2 a1 a2 b1 b2 d1 d2 hbig hr hc
  · have e0 : decide (200 < (n : Int)) = true := by simp; omega
    unfold maxLen at hn
    clear hr hc
    go_enter Try.func4, Try.ntmps4
    go_wp2_with fail
    refine (awake_any _).mono ?_
    rintro e w0 ⟨rfl, hb0⟩
    go_wp2_with fail
    go_ret
    refine ⟨rfl, Below.trans ?_ (hb0.mono (by simp; omega))⟩
    exact (((Below.refl w.heap.size w).alloc (Nat.le_refl _) _).alloc (by simp) _).alloc (by simp; omega) _

namespace LHeapPops
set_option maxRecDepth 100000 in
theorem lifted (os : Os) (started : os.Started) (H : Type) (enc : TypeId × Value → H) :
    ReturnsInHanded {} Try.checked os 4 .any (Rows.heapPopsSpec.pre6 enc Try.prog Try.f4 Rows.heapPopsRow.domain false) (Rows.heapPopsSpec.post enc Try.prog Try.f4 false true false false) := by
  refine returnsInHanded_of_change (C := Try.checked) own started (by kernel_rfl) Try.func4
    (ChangeSpec.witness6 (enc := enc) (C := Try.checked) false ⟨#[], #[.slice none 0 0, .agg #[.int .i64 0, .int .i64 0], .agg #[.int .i64 0, .int .i64 0], .agg #[.int .i64 0, .int .i64 0]], []⟩ 8 (by kernel_rfl) (by kernel_rfl) (by kernel_rfl) (by kernel_rfl)) ?_
  intro W base args ds gs before hval0 hW _ _
  have hval : ∀ (j : Nat) t v, Try.f4.params[j]? = some t → args[j]? = some v → Value.okWide Try.prog W .any base t v := hval0
  have hW' := hW
  obtain ⟨p, q, hA0, hV, rfl, hfz, hnd⟩ := hW
  have hA : DataW.TrodAll enc Try.prog W 0 (fun _ => true) true Try.f4.params.toList args.toList ds p := hA0
  rw [Try.params4] at hA hval
  obtain ⟨v0, vs0, d0, ds0, p0, q0, hargs, rfl, rfl, h0, r0⟩ := trodAll_cons hA
  obtain ⟨v1, vs1, d1, ds1, p1, q1, rfl, rfl, rfl, h1, r1⟩ := trodAll_cons r0
  obtain ⟨v2, vs2, d2, ds2, p2, q2, rfl, rfl, rfl, h2, r2⟩ := trodAll_cons r1
  obtain ⟨v3, vs3, d3, ds3, p3, q3, rfl, rfl, rfl, h3, r3⟩ := trodAll_cons r2
  obtain ⟨rfl, rfl, rfl⟩ := trodAll_nil r3
  obtain rfl : args = #[v0, v1, v2, v3] := by cases args; simp_all
  obtain ⟨rfl, rfl⟩ := trodVars_none hV
  have k0 := h0
  have lt0 : ∀ x ∈ p0, x.block < W.heap.size := by obtain ⟨m, hm⟩ := k0; exact DataW.trod_lt m _ _ _ hm
  have w0 := open_a (hval 0 22 v0 rfl rfl) h0
  have k1 := h1
  have lt1 : ∀ x ∈ p1, x.block < W.heap.size := by obtain ⟨m, hm⟩ := k1; exact DataW.trod_lt m _ _ _ hm
  have w1 := open_k (hval 1 28 v1 rfl rfl) h1
  have k2 := h2
  have lt2 : ∀ x ∈ p2, x.block < W.heap.size := by obtain ⟨m, hm⟩ := k2; exact DataW.trod_lt m _ _ _ hm
  have w2 := open_k (hval 2 28 v2 rfl rfl) h2
  have k3 := h3
  have lt3 : ∀ x ∈ p3, x.block < W.heap.size := by obtain ⟨m, hm⟩ := k3; exact DataW.trod_lt m _ _ _ hm
  have w3 := open_k (hval 3 28 v3 rfl rfl) h3
  clear hA0 hval0
  refine (walk_heapPops v0 v1 v2 v3 W w0 w1 w2 w3).mono fun e W' ⟨he, bel⟩ => ?_
  subst he
  exact ⟨_, rfl, _, _, _, [], _, [], hW', trodAll_mk1 (shut_bool Try.underlying4 _), (trodAll_cons_mk (Below.trod laidOut (by kernel_rfl) (of_decide_eq_true (by kernel_rfl)) k0 bel lt0) (trodAll_cons_mk (Below.trod laidOut (by kernel_rfl) (of_decide_eq_true (by kernel_rfl)) k1 bel lt1) (trodAll_cons_mk (Below.trod laidOut (by kernel_rfl) (of_decide_eq_true (by kernel_rfl)) k2 bel lt2) (trodAll_cons_mk (Below.trod laidOut (by kernel_rfl) (of_decide_eq_true (by kernel_rfl)) k3 bel lt3) trodAll_mk0)))), rfl, bel.frame _, fun h => by cases h⟩

theorem said : Rows.HeapPopsSaid :=
  OpenClaim.holds_of_wide 4 Try.f4 rfl rfl rfl rfl rfl rfl rfl ⟨rfl, rfl, rfl, rfl, rfl⟩ rfl rfl rfl rfl rfl (by kernel_rfl) Try.func4 (by kernel_rfl)
    (of_decide_eq_true (by kernel_rfl)) (by unfold Func.isWrapper; rw [if_neg (of_decide_eq_false (by kernel_rfl))]; exact ⟨rfl, rfl⟩)
    (fun os started H enc _ => lifted os started H enc)
#print axioms said
end LHeapPops
end Go.Proofs.Ytfjbancceodhhaa
