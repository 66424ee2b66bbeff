/- The contracts of a heap's calls but Set and Order: New, Len, Rank, Remove, Least, Pop. -/
import Derived.Test.YtdbfojolocelaaaHmS
import Derived.Test.YtdbfojolocelaaaHr
namespace Go.Proofs.Ytdbfojolocelaaa
namespace HS
open Go.RowKit Ht Go.Maps Go.WideMaps

def NewPost (w : World) (e : Ending) (w' : World) : Prop := ∃ h S, e = .returned (.pointer (some ⟨h, 0, none⟩)) ∧ HS w' h S [] 0 ∧ (∀ k, S k → w.heap.size ≤ k) ∧ Below w.heap.size w w'

theorem new_any (w : World) : Calls Try.prog 33 #[] w (NewPost w) := by
  have hmm := @run_makeMap Try.prog
  go_enter Try.func33, Try.ntmps33
  go_wp2_with fail
  go_ret
  clear hmm
  have m1 := Mp.made w
  have hs : (w.alloc (.map #[] 0)).heap.size = w.heap.size + 1 := by simp
  have b2 := heap_alloc_new (w.alloc (.map #[] 0)) (heapOf w.heap.size (.slice none 0 0) 0)
  rw [hs] at b2
  refine ⟨w.heap.size + 1, Blk (w.heap.size + 1) w.heap.size (.slice none 0 0) [], rfl, ⟨w.heap.size, .slice none 0 0, [], fun _ => ⟨⟨#[]⟩, 0, 0, 0⟩, fun _ => none, ⟨⟨b2, Or.inl ⟨rfl, rfl⟩, fun i hi => absurd hi (by simp), by simp, by omega⟩, m1.same (Below.heap_alloc _ _ _ (by rw [hs]; omega)), fun k b => by simp, List.Perm.refl _, List.Pairwise.nil, ⟨List.nodup_nil, List.nodup_nil, by simp⟩, fun i _ hi => absurd hi (by simp), by simp⟩, rfl⟩, ?_, ?_⟩
  · rintro k (rfl | rfl | hk | hk)
    · omega
    · exact Nat.le_refl _
    · cases hk
    · cases hk
  · exact ((Below.refl _ _).alloc (Nat.le_refl _) _).alloc (by rw [hs]; omega) _

theorem len_any (w : World) (h : Nat) (S : Nat → Prop) (L : List (Ent Key)) (c : Nat) (s : HS w h S L c) :
    Calls Try.prog 43 #[.pointer (some ⟨h, 0, none⟩)] w (IntPost (L.length : Int) w) := by
  obtain ⟨M, v, T, E, f, st, rfl⟩ := s
  have c1 := st.hold.c1
  obtain ⟨a, cap, hv⟩ := st.hold.tlen
  rw [hv, ← st.len] at c1
  clear st hv
  go_enter Try.func43, Try.ntmps43
  go_wp2_with fail
  go_ret
  exact ⟨rfl, rfl⟩

/-- What two stores leave of a variable of two cells. -/
theorem two_stored {w : World} {b : Nat} {x y : Value} {t : TypeId} (hb : w.heap[b]? = some (.cells #[x, y] t (0, 0))) (u v : Value) :
    ((w.setCell ⟨b, 0, none⟩ u).setCell ⟨b, 1, none⟩ v).cell? ⟨b, 0, none⟩ = some u ∧ ((w.setCell ⟨b, 0, none⟩ u).setCell ⟨b, 1, none⟩ v).cell? ⟨b, 1, none⟩ = some v := by
  have h1 := heap_setCell_same _ b 1 _ _ v (heap_setCell_same _ b 0 _ _ u hb)
  exact ⟨cell_of_row _ _ 0 _ _ _ h1, cell_of_row _ _ 1 _ _ _ h1⟩
/-- A rank and whether there is one, as they are handed back. -/
def rankV (o : Option (Ent Key)) : Value := match o with
  | some e => .tuple #[.agg #[.int .i64 e.one, .int .i64 e.two], .bool true]
  | none => .tuple #[.agg #[.int .i64 0, .int .i64 0], .bool false]
def ValBelow (r : Value) (w : World) (e : Ending) (w' : World) : Prop := e = .returned r ∧ Below w.heap.size w w'

set_option maxHeartbeats 1000000 in
theorem rank_any (w : World) (h : Nat) (S : Nat → Prop) (L : List (Ent Key)) (c : Nat) (k : Key) (s : HS w h S L c) (hk : kok k) :
    Calls Try.prog 44 #[.pointer (some ⟨h, 0, none⟩), .string k] w (ValBelow (rankV (find L k)) w) := by
  obtain ⟨M, v, T, E, f, st, rfl⟩ := s
  have hlook := st.look k
  have hhlt := st.hold.hlt
  cases hf : f k with
  | none =>
    rw [hf] at hlook
    rw [← hlook]
    obtain ⟨w1, hw1⟩ : ∃ w1, w.alloc (.cells #[.int .i64 0, .int .i64 0] 73 (0, 0)) = w1 := ⟨_, rfl⟩
    have B1 := Lib.hid ((Below.refl w.heap.size w).alloc (Nat.le_refl _) (.cells #[.int .i64 0, .int .i64 0] 73 (0, 0)))
    have BX := heap_alloc_new w (.cells #[.int .i64 0, .int .i64 0] 73 (0, 0))
    have st1 := st.same (w' := w.alloc (.cells #[.int .i64 0, .int .i64 0] 73 (0, 0))) (fun k hk => Below.heap_alloc _ _ _ (st.hold.blt st.mp hk))
    have FI := Lib.hid (find_any _ h M T.length f k st1.hold.c0 st1.mp hk)
    rw [hf, hw1] at FI
    rw [hw1] at B1 BX
    obtain ⟨bx, hbx⟩ : ∃ bx, w.heap.size = bx := ⟨_, rfl⟩
    rw [hbx] at BX
    have x0 : w1.cell? ⟨bx, 0, none⟩ = some (.int .i64 0) := cell_of_row w1 _ 0 _ _ _ BX
    have x1 : w1.cell? ⟨bx, 1, none⟩ = some (.int .i64 0) := cell_of_row w1 _ 1 _ _ _ BX
    have g0 : w1.frozen? ⟨bx, 0, none⟩ = false := frozen_of_row w1 _ 0 _ _ BX
    have g1 : w1.frozen? ⟨bx, 1, none⟩ = false := frozen_of_row w1 _ 1 _ _ BX
    have HBX := Lib.hid hbx
    have LR := Lib.hid (loadR _ bx _ _ (two_stored BX (.int .i64 0) (.int .i64 0)).1 (two_stored BX (.int .i64 0) (.int .i64 0)).2)
    clear st st1 hlook hf BX
    go_enter Try.func44, Try.ntmps44
    go_wp2_with fail
    refine FI.out.mono ?_
    rintro e W ⟨rfl, rfl⟩
    clear hw1 hbx
    unfold optr
    go_wp2_with fail
    refine bodyPost_ret (results_cell1 rfl _ _ _ ⟨bx, 0, none⟩ _ rfl LR.out) rfl ?_
    refine ⟨rfl, ?_⟩
    exact (B1.out.setCell (p := ⟨bx, 0, none⟩) (Nat.le_of_eq HBX.out) _).setCell (p := ⟨bx, 1, none⟩) (Nat.le_of_eq HBX.out) _
  | some b =>
    rw [hf, Option.map_some] at hlook
    rw [← hlook]
    obtain ⟨w1, hw1⟩ : ∃ w1, w.alloc (.cells #[.int .i64 0, .int .i64 0] 73 (0, 0)) = w1 := ⟨_, rfl⟩
    have B1 := Lib.hid ((Below.refl w.heap.size w).alloc (Nat.le_refl _) (.cells #[.int .i64 0, .int .i64 0] 73 (0, 0)))
    have BX := heap_alloc_new w (.cells #[.int .i64 0, .int .i64 0] 73 (0, 0))
    have st1 := st.same (w' := w.alloc (.cells #[.int .i64 0, .int .i64 0] 73 (0, 0))) (fun k hk => Below.heap_alloc _ _ _ (st.hold.blt st.mp hk))
    have FI := Lib.hid (find_any _ h M T.length f k st1.hold.c0 st1.mp hk)
    obtain ⟨hb, _⟩ := (st.spot k b).1 hf
    obtain ⟨i, hi, rfl⟩ := mem_tg hb
    have y1 := st1.hold.i1 hi
    have y2 := st1.hold.i2 hi
    rw [hf, hw1] at FI
    rw [hw1] at B1 BX y1 y2
    obtain ⟨bx, hbx⟩ : ∃ bx, w.heap.size = bx := ⟨_, rfl⟩
    have hne : tg T i ≠ bx := by have := st.hold.ilt hi; omega
    rw [hbx] at BX
    have x0 : w1.cell? ⟨bx, 0, none⟩ = some (.int .i64 0) := cell_of_row w1 _ 0 _ _ _ BX
    have x1 : w1.cell? ⟨bx, 1, none⟩ = some (.int .i64 0) := cell_of_row w1 _ 1 _ _ _ BX
    have g0 : w1.frozen? ⟨bx, 0, none⟩ = false := frozen_of_row w1 _ 0 _ _ BX
    have g1 : w1.frozen? ⟨bx, 1, none⟩ = false := frozen_of_row w1 _ 1 _ _ BX
    have HBX := Lib.hid hbx
    clear st st1 hlook hf hb
    generalize tg T i = x at *
    generalize E x = e at *
    have LR := Lib.hid (loadR _ bx _ _ (two_stored BX (.int .i64 e.one) (.int .i64 e.two)).1 (two_stored BX (.int .i64 e.one) (.int .i64 e.two)).2)
    clear BX
    go_enter Try.func44, Try.ntmps44
    go_wp2_with fail
    refine FI.out.mono ?_
    rintro e W ⟨rfl, rfl⟩
    clear hw1 hbx
    unfold optr
    go_wp2_with fail
    refine bodyPost_ret (results_cell1 rfl _ _ _ ⟨bx, 0, none⟩ _ rfl LR.out) rfl ?_
    refine ⟨rfl, ?_⟩
    exact (B1.out.setCell (p := ⟨bx, 0, none⟩) (Nat.le_of_eq HBX.out) _).setCell (p := ⟨bx, 1, none⟩) (Nat.le_of_eq HBX.out) _

set_option maxHeartbeats 1000000 in
theorem remove_any (w : World) (h : Nat) (S : Nat → Prop) (L : List (Ent Key)) (c : Nat) (k : Key) (s : HS w h S L c) (hk : kok k) :
    Calls Try.prog 38 #[.pointer (some ⟨h, 0, none⟩), .string k] w (OpPost (.bool (find L k).isSome) w h S (rem L k) c) := by
  have s0 := s
  obtain ⟨M, v, T, E, f, st, rfl⟩ := s
  have hlook := st.look k
  have FI := Lib.hid (find_any _ h M T.length f k st.hold.c0 st.mp hk)
  cases hf : f k with
  | none =>
    rw [hf] at hlook FI
    have hno : rem L k = L := rem_none (find_none (by rw [← hlook]; rfl))
    rw [← hlook, hno]
    have S0 := Lib.hid s0
    clear st hlook hf hno s0
    go_enter Try.func38, Try.ntmps38
    go_wp2_with fail
    refine FI.out.mono ?_
    rintro e W ⟨rfl, rfl⟩
    unfold optr
    go_wp2_with fail
    go_ret
    exact ⟨rfl, _, S0.out, fun _ h => Or.inl h, Turn.refl _ _⟩
  | some b =>
    rw [hf] at FI
    rw [hf, Option.map_some] at hlook
    rw [← hlook]
    obtain ⟨hb, hkb⟩ := (st.spot k b).1 hf
    obtain ⟨p, hp, hpb⟩ := mem_tg hb
    have TO := Lib.hid (takeOff_any w h M v T E f L c b p st hp hpb)
    rw [hkb] at TO
    clear st hlook hf hb hkb s0 hp hpb
    go_enter Try.func38, Try.ntmps38
    go_wp2_with fail
    refine FI.out.mono ?_
    rintro e W ⟨rfl, rfl⟩
    unfold optr
    go_wp2_with fail
    refine TO.out.mono ?_
    rintro e W ⟨rfl, hr⟩
    have HR := Lib.hid hr
    clear hr
    go_wp2_with fail
    go_ret
    exact ⟨rfl, HR.out⟩

/-- The first key, its rank, and whether there is one. -/
def leastV (L : List (Ent Key)) : Value := match L with
  | e :: _ => .tuple #[.string e.key, .agg #[.int .i64 e.one, .int .i64 e.two], .bool true]
  | [] => .tuple #[.string ⟨#[]⟩, .agg #[.int .i64 0, .int .i64 0], .bool false]
/-- The tree's root is the first. -/
theorem St.root {w : World} {h M c : Nat} {v : Value} {T : List Nat} {E : Nat → Ent Key} {f : Key → Option Nat} {L : List (Ent Key)} (s : St w h M v T E f L c) (hT : 0 < T.length) : ∃ L', L = E (tg T 0) :: L' := by
  have hm : E (tg T 0) ∈ L := s.mem (tg_mem hT)
  cases L with
  | nil => cases hm
  | cons x L' =>
    rcases List.mem_cons.1 hm with e | hm'
    · exact ⟨L', by rw [e]⟩
    · have h1 := (List.pairwise_cons.1 s.srt).1 _ hm'
      have hx : x ∈ x :: L' := List.mem_cons_self
      obtain ⟨b, hb, rfl⟩ := List.mem_map.1 (s.perm.mem_iff.1 hx)
      obtain ⟨i, hi, rfl⟩ := mem_tg hb
      by_cases h0 : i = 0
      · subst h0; exact absurd h1 (lt.irrefl _)
      · exact absurd (s.hp.root i (by omega) hi) h1.asymm

set_option maxHeartbeats 2000000 in
set_option maxRecDepth 100000 in
theorem least_any (w : World) (h : Nat) (S : Nat → Prop) (L : List (Ent Key)) (c : Nat) (s : HS w h S L c) :
    Calls Try.prog 41 #[.pointer (some ⟨h, 0, none⟩)] w (ValBelow (leastV L) w) := by
  obtain ⟨M, v, T, E, f, st, rfl⟩ := s
  have B1 := Lib.hid ((Below.refl w.heap.size w).alloc (Nat.le_refl _) (.cells #[.int .i64 0, .int .i64 0] 73 (0, 0)))
  have BX := heap_alloc_new w (.cells #[.int .i64 0, .int .i64 0] 73 (0, 0))
  have st1 := st.same (w' := w.alloc (.cells #[.int .i64 0, .int .i64 0] 73 (0, 0))) (fun k hk => Below.heap_alloc _ _ _ (st.hold.blt st.mp hk))
  have hhlt := st.hold.hlt
  obtain ⟨w1, hw1⟩ : ∃ w1, w.alloc (.cells #[.int .i64 0, .int .i64 0] 73 (0, 0)) = w1 := ⟨_, rfl⟩
  rw [hw1] at B1 BX st1
  obtain ⟨bx, hbx⟩ : ∃ bx, w.heap.size = bx := ⟨_, rfl⟩
  have HBX := Lib.hid hbx
  rw [hbx] at BX
  have x0 : w1.cell? ⟨bx, 0, none⟩ = some (.int .i64 0) := cell_of_row w1 _ 0 _ _ _ BX
  have x1 : w1.cell? ⟨bx, 1, none⟩ = some (.int .i64 0) := cell_of_row w1 _ 1 _ _ _ BX
  have g0 : w1.frozen? ⟨bx, 0, none⟩ = false := frozen_of_row w1 _ 0 _ _ BX
  have g1 : w1.frozen? ⟨bx, 1, none⟩ = false := frozen_of_row w1 _ 1 _ _ BX
  have c1 := st1.hold.c1
  have hnbh : h ≠ bx := by omega
  by_cases hT : T.length = 0
  · have hL : L = [] := List.eq_nil_of_length_eq_zero (by rw [st.len]; exact hT)
    subst hL
    have LR := Lib.hid (loadR _ bx _ _ (two_stored BX (.int .i64 0) (.int .i64 0)).1 (two_stored BX (.int .i64 0) (.int .i64 0)).2)
    obtain ⟨a, cap, hv⟩ := st.hold.tlen
    rw [hv, hT] at c1
    clear st st1 BX hT hv hnbh
    go_enter Try.func41, Try.ntmps41
    go_wp2_with fail
    refine bodyPost_ret (results_cell2 rfl _ _ _ ⟨bx, 0, none⟩ _ rfl LR.out) rfl ?_
    refine ⟨rfl, ?_⟩
    exact (B1.out.setCell (p := ⟨bx, 0, none⟩) (Nat.le_of_eq HBX.out) _).setCell (p := ⟨bx, 1, none⟩) (Nat.le_of_eq HBX.out) _
  · obtain ⟨L', rfl⟩ := st.root (by omega)
    obtain ⟨tb, cap, rfl, hc1, hc2, arr, h2, h3, h6⟩ := st1.hold.at (by omega)
    have t0 : w1.cell? ⟨tb, 0, none⟩ = some (.pointer (some ⟨tg T 0, 0, none⟩)) := (cell_of_row w1 _ _ _ _ _ h2).trans (h6 0 (by omega))
    have y0 := st1.hold.i0 (i := 0) (by omega)
    have y1 := st1.hold.i1 (i := 0) (by omega)
    have y2 := st1.hold.i2 (i := 0) (by omega)
    have hne : tg T 0 ≠ bx := by have := st.hold.ilt (i := 0) (by omega); omega
    have hnt : tb ≠ bx := cells_ne h2 BX (by decide)
    obtain ⟨n, hn⟩ : ∃ n, T.length = n + 1 := ⟨T.length - 1, by omega⟩
    have ht := st.hold.top
    rw [hn] at c1 hc1 ht
    have LR := Lib.hid (loadR (((w1.setCell ⟨bx, 0, none⟩ (.int .i64 (E (tg T 0)).one)).setCell ⟨bx, 1, none⟩ (.int .i64 (E (tg T 0)).two)).drew) bx _ _ (two_stored BX (.int .i64 (E (tg T 0)).one) (.int .i64 (E (tg T 0)).two)).1 (two_stored BX (.int .i64 (E (tg T 0)).one) (.int .i64 (E (tg T 0)).two)).2)
    unfold maxLen at hc2
    have el : ((n : Int) + 1 == 0) = false := by simp; omega
    clear st st1 BX hT h2 h3 h6 hn
    generalize tg T 0 = x at *
    generalize E x = e at *
    go_enter Try.func41, Try.ntmps41
    go_wp2_with fail
    clear hw1 hbx
    go_region
    go_wp2_with fail
    refine bodyPost_ret (results_cell2 rfl _ _ _ ⟨bx, 0, none⟩ _ rfl LR.out) rfl ?_
    refine ⟨rfl, ?_⟩
    exact ((B1.out.setCell (p := ⟨bx, 0, none⟩) (Nat.le_of_eq HBX.out) _).setCell (p := ⟨bx, 1, none⟩) (Nat.le_of_eq HBX.out) _).drew

/-- The key that is taken off, and whether there is one. -/
def popV (L : List (Ent Key)) : Value := match L with
  | e :: _ => .tuple #[.string e.key, .bool true]
  | [] => .tuple #[.string ⟨#[]⟩, .bool false]

set_option maxHeartbeats 2000000 in
set_option maxRecDepth 100000 in
theorem pop_any (w : World) (h : Nat) (S : Nat → Prop) (L : List (Ent Key)) (c : Nat) (s : HS w h S L c) :
    Calls Try.prog 39 #[.pointer (some ⟨h, 0, none⟩)] w (OpPost (popV L) w h S L.tail c) := by
  have LE := Lib.hid (least_any w h S L c s)
  have S0 := Lib.hid s
  cases L with
  | nil =>
    clear s
    unfold leastV at LE
    go_enter Try.func39, Try.ntmps39
    go_wp2_with fail
    refine LE.out.mono ?_
    rintro e w1 ⟨rfl, hB⟩
    have HB := Lib.hid hB
    have hsz := hB.size
    clear hB
    go_wp2_with fail
    go_ret2
    exact OpPost.before (HB.out.alloc hsz _) ⟨rfl, S, S0.out.below (HB.out.alloc hsz _), fun _ h => Or.inl h, Turn.refl _ _⟩
  | cons e L =>
    clear s
    unfold leastV at LE
    go_enter Try.func39, Try.ntmps39
    go_wp2_with fail
    refine LE.out.mono ?_
    rintro e' w1 ⟨rfl, hB⟩
    have hsz := hB.size
    have B2 := Lib.hid (hB.alloc hsz (.cells #[.int .i64 e.one, .int .i64 e.two] 73 (0, 0)))
    clear hB
    have s2 := S0.out.below B2.out
    obtain ⟨w2, hw2⟩ : ∃ w2, w1.alloc (.cells #[.int .i64 e.one, .int .i64 e.two] 73 (0, 0)) = w2 := ⟨_, rfl⟩
    rw [hw2] at B2 s2
    obtain ⟨M, v, T, E, f, st, rfl⟩ := s2
    have hT : 0 < T.length := by rw [← st.len]; simp
    obtain ⟨L', hL'⟩ := st.root hT
    have he : e = E (tg T 0) := by injection hL'
    obtain ⟨tb, cap, rfl, hc1, hc2, arr, h2, h3, h6⟩ := st.hold.at hT
    have t0 : _ = some (Value.pointer (some ⟨tg T 0, 0, none⟩)) := (cell_of_row _ tb 0 _ _ _ h2).trans (h6 0 hT)
    have c1 := st.hold.c1
    have ht := st.hold.top
    have TO := Lib.hid (takeOff_any _ h M _ T E f _ c (tg T 0) 0 st hT rfl)
    rw [← he, st.once.rem_cons] at TO
    obtain ⟨n, hn⟩ : ∃ n, T.length = n + 1 := ⟨T.length - 1, by omega⟩
    have HN := Lib.hid hn
    rw [hn] at c1 hc1 ht
    unfold maxLen at hc2
    clear st h2 h3 h6 hL' he hT
    generalize tg T 0 = x at *
    go_wp2_with fail
    clear hw2
    refine TO.out.mono ?_
    rintro e' w3 ⟨rfl, hr⟩
    have HR := Lib.hid hr
    clear hr
    go_wp2_with fail
    go_ret2
    refine OpPost.before B2.out ⟨rfl, HR.out⟩
end HS
end Go.Proofs.Ytdbfojolocelaaa
