/- 'cachewiselaw04.HeapTies' returns true for every row of keys, every key and every rank, and leaves what was there as it was. No condition. -/
import Derived.Test.YtfjbancceodhhaaSeen4
namespace Go.Proofs.Ytfjbancceodhhaa
open Go.ChangeShapes Go.WideShapes Go.ChangeAt Go.RowKit Ht HS
open Go.ChangeMaps (open_string shut_string)

def SameR (L : List (Ent Key)) (r1 r2 : Int) : Prop := ∀ x ∈ L, x.one = r1 ∧ x.two = r2
theorem ins_last (k : Key) (r1 r2 : Int) (c : Nat) : ∀ L : List (Ent Key), SameR L r1 r2 → (∀ x ∈ L, x.set ≤ c) → ins ⟨k, r1, r2, c + 1⟩ L = L ++ [⟨k, r1, r2, c + 1⟩]
  | [], _, _ => rfl
  | x :: xs, h1, h2 => by
    have hx := h1 x List.mem_cons_self
    have hl : lt x ⟨k, r1, r2, c + 1⟩ := Or.inr ⟨hx.1, Or.inr ⟨hx.2, Nat.lt_succ_of_le (h2 x List.mem_cons_self)⟩⟩
    show (if lt x ⟨k, r1, r2, c + 1⟩ then x :: ins ⟨k, r1, r2, c + 1⟩ xs else _) = _
    rw [if_pos hl, ins_last k r1 r2 c xs (fun y hy => h1 y (List.mem_cons_of_mem _ hy)) (fun y hy => h2 y (List.mem_cons_of_mem _ hy))]
    rfl
/-- What the heap has beside the row of keys. -/
structure Tied (L : List (Ent Key)) (xs : List Key) (again : Key) (r1 r2 : Int) (c : Nat) : Prop where
  once : Once L c
  same : SameR L r1 r2
  keys : keysOf (rem L again) = xs
  no : again ∉ xs
theorem Tied.fresh {L : List (Ent Key)} {xs : List Key} {again k : Key} {r1 r2 : Int} {c : Nat} (t : Tied L xs again r1 r2 c) (hk : k ∉ xs) (hne : k ≠ again) :
    ins ⟨k, r1, r2, c + 1⟩ (rem L k) = L ++ [⟨k, r1, r2, c + 1⟩] ∧ Tied (L ++ [⟨k, r1, r2, c + 1⟩]) (xs ++ [k]) again r1 r2 (c + 1) := by
  have hno : ∀ e ∈ L, e.key ≠ k := fun e he hek => hk (by rw [← t.keys]; exact List.mem_map.2 ⟨e, mem_rem.2 ⟨he, hek ▸ hne⟩, hek⟩)
  have h1 : ins ⟨k, r1, r2, c + 1⟩ (rem L k) = L ++ [⟨k, r1, r2, c + 1⟩] := by rw [rem_none hno]; exact ins_last k r1 r2 c L t.same t.once.le
  refine ⟨h1, ⟨?_, fun x hx => ?_, ?_, fun hm => ?_⟩⟩
  · rw [← h1, rem_none hno]; exact t.once.put k r1 r2 hno
  · rcases List.mem_append.1 hx with hx | hx
    · exact t.same x hx
    · rw [List.mem_singleton.1 hx]; exact ⟨rfl, rfl⟩
  · have : rem (L ++ [⟨k, r1, r2, c + 1⟩]) again = rem L again ++ [⟨k, r1, r2, c + 1⟩] := by
      unfold rem; rw [List.filter_append]; simp [hne]
    rw [this, keysOf, List.map_append]
    show keysOf (rem L again) ++ [k] = _
    rw [t.keys]
  · rcases List.mem_append.1 hm with hm | hm
    · exact t.no hm
    · exact hne (List.mem_singleton.1 hm).symm
theorem Tied.anew {L : List (Ent Key)} {xs : List Key} {again : Key} {r1 r2 : Int} {c : Nat} (t : Tied L xs again r1 r2 c) :
    ins ⟨again, r1, r2, c + 1⟩ (rem L again) = rem L again ++ [⟨again, r1, r2, c + 1⟩] ∧ Tied (rem L again ++ [⟨again, r1, r2, c + 1⟩]) xs again r1 r2 (c + 1) := by
  have h1 : ins ⟨again, r1, r2, c + 1⟩ (rem L again) = rem L again ++ [⟨again, r1, r2, c + 1⟩] := ins_last again r1 r2 c _ (fun x hx => t.same x (mem_rem.1 hx).1) (fun x hx => t.once.le x (mem_rem.1 hx).1)
  refine ⟨h1, ⟨?_, fun x hx => ?_, ?_, t.no⟩⟩
  · rw [← h1]; exact (t.once.rem again).put again r1 r2 (fun e he => (mem_rem.1 he).2)
  · rcases List.mem_append.1 hx with hx | hx
    · exact t.same x (mem_rem.1 hx).1
    · rw [List.mem_singleton.1 hx]; exact ⟨rfl, rfl⟩
  · have : rem (rem L again ++ [⟨again, r1, r2, c + 1⟩]) again = rem L again := by
      unfold rem; rw [List.filter_append]; simp [List.filter_filter]
    rw [this]; exact t.keys

/-- The loop's state. -/
def TieR (n h b bx : Nat) (w0 : World) (again : Key) (r1 r2 : Int) (g : Nat) (v iz : Value) (W : World) : Prop :=
  ∃ i S L c xs, g + i = n ∧ iz = .int .i64 (i : Int) ∧ xs.length ≤ i ∧ c ≤ 2 * i ∧ L.length ≤ i + 1 ∧ Side w0 W h b bx S L c v xs xs r1 r2 ∧ Tied L xs again r1 r2 c
/-- .. behind the first test. -/
def TieM (i h b bx : Nat) (w0 : World) (again : Key) (r1 r2 : Int) (v : Value) (W : World) : Prop :=
  ∃ S L c xs, xs.length ≤ i + 1 ∧ c ≤ 2 * i + 1 ∧ L.length ≤ i + 2 ∧ Side w0 W h b bx S L c v xs xs r1 r2 ∧ Tied L xs again r1 r2 c
theorem Tied.len {L : List (Ent Key)} {xs : List Key} {again : Key} {r1 r2 : Int} {c : Nat} (t : Tied L xs again r1 r2 c) : L.length ≤ xs.length + 1 := by
  rw [← t.keys, keys_len]
  have : L.length ≤ (rem L again).length + 1 := by
    cases hf : find L again with
    | none => rw [rem_none (find_none hf)]; omega
    | some e =>
      obtain ⟨h1, h2⟩ := find_some hf
      obtain ⟨A, B, rfl⟩ := List.append_of_mem h1
      have ho := t.once.perm (List.perm_middle (a := e) (l₁ := A) (l₂ := B))
      have hr := ho.rem_cons
      rw [h2] at hr
      have hp : (rem (A ++ e :: B) again).Perm (A ++ B) := by
        have := (List.perm_middle (a := e) (l₁ := A) (l₂ := B)).filter (fun e => decide (e.key ≠ again))
        unfold rem at hr ⊢
        rw [hr] at this
        exact this
      rw [hp.length_eq]; simp; omega
  exact this

/-- Two rows held against each other. -/
def TieE (xs : List Key) (S : Nat → Prop) (w0 : World) (v v2 : Value) (g : Nat) (iz : Value) (W : World) : Prop := ∃ i, g + i = xs.length ∧ iz = .int .i64 (i : Int) ∧ Below w0.heap.size w0 W ∧ Mine W S v xs ∧ Mine W S v2 xs

set_option maxHeartbeats 4000000 in
set_option maxRecDepth 100000 in
theorem ties_main (A : Option Addr) (n c : Nat) (w : World) (S : Nat → ByteArray) (again : ByteArray) (r1 r2 : Int) (hag : again.size ≤ maxLen) (hn : n ≤ 100) (hS : ∀ i, i < n → (S i).size ≤ maxLen)
    (hc : 0 < n → ∃ g o, A = some ⟨g, o, none⟩ ∧ g < w.heap.size ∧ n ≤ c ∧ c ≤ maxLen ∧ ∀ i, i < n → w.cell? ⟨g, o + i, none⟩ = some (.string (S i))) :
    Calls Try.prog 5 #[.slice A n c, .string again, .agg #[.int .i64 r1, .int .i64 r2]] w (RetB true w) := by
  have e0 : decide (100 < (n : Int)) = false := by simp; omega
  have mixed : Try.prog.follows .mixedOrders = true := by kernel_rfl
  have hmm := @run_makeMap Try.prog
  have HC := Lib.hid hc
  have HS := Lib.hid hS
  have B1 := Lib.hid ((Below.refl w.heap.size w).alloc (Nat.le_refl _) (.cells #[.int .i64 r1, .int .i64 r2] 28 (0, 0)))
  have BX := Lib.hid (heap_alloc_new w (.cells #[.int .i64 r1, .int .i64 r2] 28 (0, 0)))
  have hsz1 : (w.alloc (.cells #[.int .i64 r1, .int .i64 r2] 28 (0, 0))).heap.size = w.heap.size + 1 := by simp
  obtain ⟨wx, hwx⟩ : ∃ w1, w.alloc (.cells #[.int .i64 r1, .int .i64 r2] 28 (0, 0)) = w1 := ⟨_, rfl⟩
  obtain ⟨bx, hbx⟩ : ∃ bx, w.heap.size = bx := ⟨_, rfl⟩
  rw [hwx] at B1 BX hsz1
  rw [hbx] at BX hsz1
  have HSZ := Lib.hid hsz1
  clear hc hS hsz1
  go_enter Try.func5, Try.ntmps5
  go_wp2_with fail
  clear hwx hbx
  refine (awake_any _).mono ?_
  rintro e w0 ⟨rfl, hb0⟩
  have b0 := Lib.hid hb0; clear hb0
  go_wp2_with fail
  refine (new_any w0).mono ?_
  rintro e w1 ⟨h, S0, rfl, hH, hS0, hB⟩
  have hs01 := b0.out.size
  have L1 := Lib.hid (Live.made (B1.out.trans (b0.out.mono B1.out.size)) hH hS0 hB)
  have X1 := Lib.hid (show Box w1 S0 bx r1 r2 from ⟨(hB.block bx (by have := HSZ.out; omega)).trans ((b0.out.block bx (by have := HSZ.out; omega)).trans BX.out), fun hS => by have := hS0 bx hS; have := HSZ.out; omega⟩)
  have hs1 := L1.out.bel.size
  have SI := Lib.hid (show Side w (w1.alloc (.map #[] 0)) h w1.heap.size bx S0 [] 0 (.slice none 0 0) [] [] r1 r2 from
    ⟨L1.out.below ((Below.refl _ _).alloc (Nat.le_refl _) _), own_nil _ _, (fun g hg => by cases hg), SeenM.made w1, (fun hS => by have := L1.out.hs.lt hS; omega), hs1, X1.out.below ((Below.refl _ _).alloc (Nat.le_refl _) _)⟩)
  clear hH hS0 hB hs01 hs1 L1 X1 b0 B1 BX HSZ
  go_wp2_with fail
  clear e0 hmm
  generalize w1.alloc (.map #[] 0) = w2 at SI ⊢
  generalize w1.heap.size = b at SI ⊢
  go_loopg [8, 10] n (fun g v i W => TieR n h b bx w again r1 r2 g v i W)
  case atStart => exact ⟨0, S0, [], 0, [], by omega, rfl, Nat.le_refl _, by omega, by simp, SI.out, ⟨⟨List.nodup_nil, List.nodup_nil, by simp⟩, (by intro x hx; cases hx), rfl, by simp⟩⟩
  case round =>
    obtain ⟨i, S1, L, c1, xs, hgi, rfl, hxl, hcl, hLl, hSd, hTd⟩ := hrel
    have SD := Lib.hid hSd
    have TD := Lib.hid hTd
    have HG := Lib.hid hgi
    clear hSd hTd SI
    by_cases hlt : i < n
    · have e0 : decide (i < n) = true := by simpa using hlt
      obtain ⟨g, o, rfl, hg, hc1, hc2, hcell⟩ := HC.out (by omega)
      have hcl0 := hcell i hlt
      have h1 := (SD.out.live.bel.cell (p := ⟨g, o + i, none⟩) hg).trans hcl0
      have hsk := HS.out i hlt
      generalize S i = x at hcl0 h1 hsk
      have HCL := Lib.hid hcl0
      clear hcell hgi hcl0
      unfold maxLen at hc2
      have lk := SD.out.seen.look hsk
      have y0 := SD.out.box.c0
      have y1 := SD.out.box.c1
      by_cases hna : x = again
      · have ea := beqS_yes hna
        have hnx : x ∉ xs := hna ▸ TD.out.no
        rw [inn_no hnx] at lk
        clear hnx hna y0 y1
        have D := SD
        have TT := TD
        by_cases hz : i = 0
        · have ez : ((i : Int) == 0) = true := by simp; omega
          clear hz
          have x0 := D.out.box.c0
          have x1 := D.out.box.c1
          go_wp2_with fail
          refine (set_any wr h S1 L c1 again r1 r2 D.out.live.hs hag (by omega) (by omega)).mono ?_
          intro e w9 hp
          rw [TT.out.anew.1] at hp
          obtain ⟨rfl, S9, hS9⟩ := D.out.op hp
          have R := Lib.hid hS9
          have RT := Lib.hid TT.out.anew.2
          clear hp hS9 x0 x1
          go_wp2_with fail
          go_roundg (n - (i + 1))
          case measure => have := HG.out; omega
          case rel =>
            have hll := RT.out.len
            exact ⟨i + 1, S9, _, _, _, by omega, rfl, by omega, by omega, by omega, R.out, RT.out⟩
        · have ez : ((i : Int) == 0) = false := by simp; omega
          clear hz
          go_wp2_with fail
          go_roundg (n - (i + 1))
          case measure => have := HG.out; omega
          case rel =>
            have hll := TT.out.len
            exact ⟨i + 1, S1, _, _, _, by omega, rfl, by omega, by omega, by omega, D.out, TT.out⟩
      · have ea := beqS_no hna
        by_cases hnx : x ∈ xs
        · rw [inn_iff.2 hnx] at lk
          have ez : ((i : Int) == 0) = false := by
            have : 0 < xs.length := List.length_pos_of_mem hnx
            simp; omega
          clear hnx hna y0 y1
          have D := SD
          have TT := TD
          go_wp2_with fail
          go_roundg (n - (i + 1))
          case measure => have := HG.out; omega
          case rel =>
            have hll := TT.out.len
            exact ⟨i + 1, S1, _, _, _, by omega, rfl, by omega, by omega, by omega, D.out, TT.out⟩
        · rw [inn_no hnx] at lk
          by_cases hz : i = 0
          · have ez : ((i : Int) == 0) = true := by simp; omega
            clear hz
            go_wp2_with fail
            go_still_tail 6, mixed
            go_wp2_with fail
            refine (set_any wr.drew h S1 L c1 x r1 r2 SD.out.live.hs.drew hsk (by omega) (by omega)).mono ?_
            intro e w3 hp
            rw [(TD.out.fresh hnx hna).1] at hp
            obtain ⟨rfl, S3, hS3⟩ := (SD.out.below (below_drew wr)).op hp
            have TF := Lib.hid (TD.out.fresh hnx hna).2
            obtain ⟨g4, cap4, w4, hrun, hS4, _⟩ := hS3.push x hsk (by omega)
            obtain ⟨w5, hup, hS5, _⟩ := hS4.mark hsk (by omega) hnx
            have h3 := (hS3.live.bel.cell (p := ⟨g, o + i, none⟩) hg).trans HCL.out
            have h4 := (hS4.live.bel.cell (p := ⟨g, o + i, none⟩) hg).trans HCL.out
            obtain ⟨Av, cv, rfl⟩ := hS3.row.len
            have HRUN := Lib.hid hrun
            have D := Lib.hid hS5
            have x0 := hS5.box.c0
            have x1 := hS5.box.c1
            clear hp hS3 hrun hS4 hS5 h1 lk y0 y1
            go_wp2_with (at_builtin; refine wpList_append_run rfl _ _ _ rfl _ _ _ _ rfl rfl HRUN.out ?_)
            have TT := TF
            clear hnx hna ea
            refine (set_any w5 h S3 _ _ again r1 r2 D.out.live.hs hag (by rw [List.length_append]; simp; omega) (by omega)).mono ?_
            intro e w9 hp
            rw [TT.out.anew.1] at hp
            obtain ⟨rfl, S9, hS9⟩ := D.out.op hp
            have R := Lib.hid hS9
            have RT := Lib.hid TT.out.anew.2
            clear hp hS9 x0 x1
            go_wp2_with fail
            go_roundg (n - (i + 1))
            case measure => have := HG.out; omega
            case rel =>
              have hll := RT.out.len
              exact ⟨i + 1, S9, _, _, _, by omega, rfl, by (rw [List.length_append]; simp; omega), by omega, by (simp only [List.length_append, List.length_cons, List.length_nil] at hll ⊢; omega), R.out, RT.out⟩
          · have ez : ((i : Int) == 0) = false := by simp; omega
            go_wp2_with fail
            go_still_tail 6, mixed
            go_wp2_with fail
            refine (set_any wr.drew h S1 L c1 x r1 r2 SD.out.live.hs.drew hsk (by omega) (by omega)).mono ?_
            intro e w3 hp
            rw [(TD.out.fresh hnx hna).1] at hp
            obtain ⟨rfl, S3, hS3⟩ := (SD.out.below (below_drew wr)).op hp
            have TF := Lib.hid (TD.out.fresh hnx hna).2
            obtain ⟨g4, cap4, w4, hrun, hS4, _⟩ := hS3.push x hsk (by omega)
            obtain ⟨w5, hup, hS5, _⟩ := hS4.mark hsk (by omega) hnx
            have h3 := (hS3.live.bel.cell (p := ⟨g, o + i, none⟩) hg).trans HCL.out
            have h4 := (hS4.live.bel.cell (p := ⟨g, o + i, none⟩) hg).trans HCL.out
            obtain ⟨Av, cv, rfl⟩ := hS3.row.len
            have HRUN := Lib.hid hrun
            have D := Lib.hid hS5
            clear hp hS3 hrun hS4 hS5 h1 lk y0 y1
            go_wp2_with (at_builtin; refine wpList_append_run rfl _ _ _ rfl _ _ _ _ rfl rfl HRUN.out ?_)
            have TT := TF
            clear hnx hna ea hz
            go_wp2_with fail
            go_roundg (n - (i + 1))
            case measure => have := HG.out; omega
            case rel =>
              have hll := TT.out.len
              exact ⟨i + 1, S3, _, _, _, by omega, rfl, by (rw [List.length_append]; simp; omega), by omega, by (simp only [List.length_append, List.length_cons, List.length_nil] at hll ⊢; omega), D.out, TT.out⟩
    · have e0 : decide (i < n) = false := by simpa using hlt
      have y0 := SD.out.box.c0
      have y1 := SD.out.box.c1
      clear hgi
      go_wp2_with fail
      refine (set_any wr h S1 L c1 again r1 r2 SD.out.live.hs hag (by have := HG.out; omega) (by have := HG.out; omega)).mono ?_
      intro e w3 hp
      rw [TD.out.anew.1] at hp
      obtain ⟨rfl, S3, hS3⟩ := SD.out.op hp
      obtain ⟨g4, cap4, w4, hrun, hS4, _⟩ := hS3.push again hag (by have := HG.out; omega)
      obtain ⟨Av, cv, rfl⟩ := hS3.row.len
      have HRUN := Lib.hid hrun
      have D := Lib.hid hS4
      have KK := Lib.hid (show keysOf (rem L again ++ [⟨again, r1, r2, c1 + 1⟩]) = xs ++ [again] by
        have := TD.out.keys
        unfold keysOf at this ⊢
        rw [List.map_append, this]; rfl)
      clear hp hS3 hrun hS4 y0 y1
      go_wp2_with (at_builtin; refine wpList_append_run rfl _ _ _ rfl _ _ _ _ rfl rfl HRUN.out ?_)
      refine (order_any w4 h S3 _ _ D.out.live.hs).mono ?_
      rintro e w5 ⟨v5, rfl, hO, hB⟩
      have M5 := Lib.hid (show Mine w5 S3 v5 (xs ++ [again]) from KK.out ▸ Mine.of hO D.out.live.hs)
      have D5 := D.out.below hB
      have N5 := Lib.hid (show Mine w5 S3 (.slice (some ⟨g4, 0, none⟩) (xs.length + 1) cap4) (xs ++ [again]) from ⟨_, D5.row, D5.rowS⟩)
      have B5 := Lib.hid D5.live.bel
      clear hO hB D5 D KK
      have hyl : (xs ++ [again]).length = xs.length + 1 := by simp
      obtain ⟨ys, hys⟩ : ∃ ys, xs ++ [again] = ys := ⟨_, rfl⟩
      rw [hys] at M5 N5 hyl
      obtain ⟨n5, hn5⟩ : ∃ n5, ys.length = n5 := ⟨_, rfl⟩
      rw [← hyl] at N5 ⊢
      obtain ⟨A5, c5, rfl⟩ := M5.out.len
      have N := Lib.hid hn5
      have h5 : n5 ≤ 1000 := by have := HG.out; omega
      rw [hn5]
      clear hys hyl hn5 hxl hcl hLl e0
      go_wp2_with fail
      go_loopg [12] n5 (fun g i W => TieE ys S3 w (.slice A5 ys.length c5) (.slice (some ⟨g4, 0, none⟩) ys.length cap4) g i W)
      case atStart => exact ⟨0, by rw [N.out]; omega, rfl, B5.out, M5.out, N5.out⟩
      case round =>
        obtain ⟨j, hgj, rfl, hB, hM, hN⟩ := hrel
        have B6 := Lib.hid hB
        have M6 := Lib.hid hM
        have N6 := Lib.hid hN
        have G6 := Lib.hid hgj
        clear hB hM hN hgj
        by_cases hj : j < n5
        · have e0 : decide (j < n5) = true := by simpa using hj
          obtain ⟨x, hx⟩ : ∃ x, ys[j]? = some x := ⟨_, List.getElem?_eq_getElem (by rw [N.out]; exact hj)⟩
          obtain ⟨g1, cp1, hv1, hg1, _, hc1, hc2, m1⟩ := M6.out.at hx
          injection hv1 with hv1 _ hv2
          subst hv1
          subst hv2
          obtain ⟨g2, cp2, hv1, hg2, _, hc3, hc4, m2⟩ := N6.out.at hx
          injection hv1 with hv1 _ hv2
          injection hv1 with hv1
          injection hv1 with hv1
          subst hv1
          subst hv2
          rw [N.out] at hc1 hc3
          unfold maxLen at hc2 hc4
          clear hx
          go_wp2_with fail
          go_quiet (fail)
          go_wp2_with fail
          go_roundg (n5 - (j + 1))
          case measure => have := G6.out; have := N.out; omega
          case rel => exact ⟨j + 1, by rw [N.out]; omega, rfl, B6.out.trans ((below_drewN _ _).mono B6.out.size), M6.out.below (below_drewN _ _), N6.out.below (below_drewN _ _)⟩
        · have e0 : decide (j < n5) = false := by simpa using hj
          go_wp2_with fail
          go_ret
          exact ⟨rfl, B6.out⟩

theorem walk_heapTies (v0 : Value) (again : ByteArray) (v2 : Value) (w : World) (w0 : CameS w v0) (hag : again.size ≤ maxLen) (w2 : CameK v2) : Calls Try.prog 5 #[v0, .string again, v2] w (RetB true w) := by
  obtain ⟨A, n, c, rfl, hn, S, hr, hc⟩ := w0
  obtain ⟨r1, r2, rfl⟩ := w2
  by_cases hbig : n ≤ 100
  · exact ties_main A n c w S again r1 r2 hag hbig hr hc
  · have e0 : decide (100 < (n : Int)) = true := by simp; omega
    unfold maxLen at hn
    clear hr hc
    go_enter Try.func5, Try.ntmps5
    go_wp2_with fail
    refine (awake_any _).mono ?_
    rintro e w0 ⟨rfl, hb0⟩
    go_wp2_with fail
    go_ret
    exact ⟨rfl, ((Below.refl w.heap.size w).alloc (Nat.le_refl _) _).trans (hb0.mono (by simp))⟩

namespace LHeapTies
set_option maxRecDepth 100000 in
theorem lifted (os : Os) (started : os.Started) (H : Type) (enc : TypeId × Value → H) :
    ReturnsInHanded {} Try.checked os 5 .any (Rows.heapTiesSpec.pre6 enc Try.prog Try.f5 Rows.heapTiesRow.domain false) (Rows.heapTiesSpec.post enc Try.prog Try.f5 false true false false) := by
  refine returnsInHanded_of_change (C := Try.checked) own started (by kernel_rfl) Try.func5
    (ChangeSpec.witness6 (enc := enc) (C := Try.checked) false ⟨#[], #[.slice none 0 0, .string ByteArray.empty, .agg #[.int .i64 0, .int .i64 0]], []⟩ 8 (by kernel_rfl) (by kernel_rfl) (by kernel_rfl) (by kernel_rfl)) ?_
  intro W base args ds gs before hval0 hW _ _
  have hval : ∀ (j : Nat) t v, Try.f5.params[j]? = some t → args[j]? = some v → Value.okWide Try.prog W .any base t v := hval0
  have hW' := hW
  obtain ⟨p, q, hA0, hV, rfl, hfz, hnd⟩ := hW
  have hA : DataW.TrodAll enc Try.prog W 0 (fun _ => true) true Try.f5.params.toList args.toList ds p := hA0
  rw [Try.params5] at hA hval
  obtain ⟨v0, vs0, d0, ds0, p0, q0, hargs, rfl, rfl, h0, r0⟩ := trodAll_cons hA
  obtain ⟨v1, vs1, d1, ds1, p1, q1, rfl, rfl, rfl, h1, r1⟩ := trodAll_cons r0
  obtain ⟨v2, vs2, d2, ds2, p2, q2, rfl, rfl, rfl, h2, r2⟩ := trodAll_cons r1
  obtain ⟨rfl, rfl, rfl⟩ := trodAll_nil r2
  obtain rfl : args = #[v0, v1, v2] := by cases args; simp_all
  obtain ⟨rfl, rfl⟩ := trodVars_none hV
  have k0 := h0
  have lt0 : ∀ x ∈ p0, x.block < W.heap.size := by obtain ⟨m, hm⟩ := k0; exact DataW.trod_lt m _ _ _ hm
  have w0 := open_z (hval 0 47 v0 rfl rfl) h0
  obtain ⟨a1, rfl, rfl, rfl, w1⟩ := open_string Try.underlying9 (hval 1 9 v1 rfl rfl) h1
  have k2 := h2
  have lt2 : ∀ x ∈ p2, x.block < W.heap.size := by obtain ⟨m, hm⟩ := k2; exact DataW.trod_lt m _ _ _ hm
  have w2 := open_k (hval 2 28 v2 rfl rfl) h2
  clear hA0 hval0
  refine (walk_heapTies v0 a1 v2 W w0 w1 w2).mono fun e W' ⟨he, bel⟩ => ?_
  subst he
  exact ⟨_, rfl, _, _, _, [], _, [], hW', trodAll_mk1 (shut_bool Try.underlying4 _), (trodAll_cons_mk (Below.trod laidOut (by kernel_rfl) (of_decide_eq_true (by kernel_rfl)) k0 bel lt0) (trodAll_cons_mk (shut_string Try.underlying9 w1) (trodAll_cons_mk (Below.trod laidOut (by kernel_rfl) (of_decide_eq_true (by kernel_rfl)) k2 bel lt2) trodAll_mk0))), rfl, bel.frame _, fun h => by cases h⟩

theorem said : Rows.HeapTiesSaid :=
  OpenClaim.holds_of_wide 5 Try.f5 rfl rfl rfl rfl rfl rfl rfl ⟨rfl, rfl, rfl, rfl, rfl⟩ rfl rfl rfl rfl rfl (by kernel_rfl) Try.func5 (by kernel_rfl)
    (of_decide_eq_true (by kernel_rfl)) (by unfold Func.isWrapper; rw [if_neg (of_decide_eq_false (by kernel_rfl))]; exact ⟨rfl, rfl⟩)
    (fun os started H enc _ => lifted os started H enc)
#print axioms said
end LHeapTies
end Go.Proofs.Ytfjbancceodhhaa
