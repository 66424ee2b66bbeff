/- 'cachewiselaw10.LearnSame' returns true for every kind, every size, every lane and every row of calls, and leaves what was there as it was. The listed variables read as the program's text lays them. -/
import Derived.Test.YtnlckkahkghneaaGreatDoorLz10
import Derived.Test.YtnlckkahkghneaaGreatDoorCards
import Derived.Test.YtnlckkahkghneaaGreatDoorTie
import Derived.SevenTiedAt
import Derived.Deep.DeepCutAuto
import Derived.Deep.CutBlock
import Derived.Deep.RegionHeld3
set_option maxRecDepth 20000
namespace Go.Proofs.YtnlckkahkghneaaGreatDoor.LE
open Go.ChangeShapes Go.WideShapes Go.ChangeAt Go.RowKit Sg
def SmR (w0 : World) (p p2 n : Nat) (i : Value) (W : World) : Prop := ∃ (k : Nat) (U U2 : Nat → Prop) (st : St) (b : Nat), i = .int .i64 (k : Int) ∧ k ≤ n ∧ b ≤ 4 * k ∧ Pr2 w0 W p U st b p2 U2 st b
set_option maxHeartbeats 8000000 in
set_option maxRecDepth 100000 in
theorem learnSame_main (six : Bool) (kd : Int) (mo : Nat) (vs : List Nat) (Al : Option Addr) (cl : Nat) (A : Option Addr) (n cc : Nat) (w : World) (K : Nat → Int) (S : Nat → ByteArray) (N : Nat → Int) (hkd : ((if six then 6 else 5 : Nat) : Int) = kd) (hmo : mo ≤ 1000) (hn : n ≤ maxLen) (hvl : vs.length ≤ 300)
    (hv : DR.Lane w 0 w.heap.size (.slice Al vs.length cl) vs) (hS : ∀ i, i < n → (-9223372036854775808 ≤ N i ∧ N i ≤ 9223372036854775807) ∧ (S i).size ≤ maxLen)
    (hc : 0 < n → ∃ g o, A = some ⟨g, o, none⟩ ∧ g < w.heap.size ∧ n ≤ cc ∧ cc ≤ maxLen ∧ ∀ i, i < n → w.cell? ⟨g, o + i * 3, none⟩ = some (.int .i64 (K i)) ∧ w.cell? ⟨g, o + i * 3 + 1, none⟩ = some (.string (S i)) ∧ w.cell? ⟨g, o + i * 3 + 2, none⟩ = some (.int .i64 (N i))) (hl : Laid w) :
    Calls Tryz.prog 9 #[.int .i64 kd, .int .i64 (mo : Int), .slice Al vs.length cl, .slice A n cc] w (RetB true w) := by
  have AW := Lib.hid (awake_any w hl)
  have MD := Lib.hid (fun (w1 : World) (hb : Below w.heap.size w w1) => show Calls Tryz.prog 41 #[.int .i64 kd, .int .i64 (mo : Int), .slice Al vs.length cl] w1 (LNew six mo vs w1) from by
    have := made_l w1 six mo _ vs (by omega) (DR.Lane.wide (hv.same fun k _ hk => hb.block k hk) (Nat.le_refl _) hb.size)
    rw [hkd] at this
    exact this)
  have g34 := fun (w : World) => LR.guard34 (w := w)
  have q34 := fun (w : World) (a : Bool) (s : ByteArray) (b : Bool) => LR.neq34 (w := w) (a := a) (s := s) (b := b)
  have hk56 : kd = 5 ∧ six = false ∨ kd = 6 ∧ six = true := by
    cases six with
    | true => exact Or.inr ⟨by rw [← hkd]; rfl, rfl⟩
    | false => exact Or.inl ⟨by rw [← hkd]; rfl, rfl⟩
  have g1 : decide (300 < (vs.length : Int)) = false := decide_eq_false (by omega)
  have g2 : decide (kd < 5) = false := decide_eq_false (by omega)
  have g3 : decide (6 < kd) = false := decide_eq_false (by omega)
  have g4 : decide ((mo : Int) < 0) = false := decide_eq_false (by omega)
  have g5 : decide (1000 < (mo : Int)) = false := decide_eq_false (by omega)
  have HC := Lib.hid hc
  have HS := Lib.hid hS
  have HN := Lib.hid hn
  generalize hvn : vs.length = vn at *
  clear hc hS hl hv hkd hk56 hn hvn
  go_enter Tryz.func9, Tryz.ntmps9
  go_wp2_with fail
  refine AW.out.mono ?_
  rintro e w0 ⟨rfl, hb0⟩
  have b0 := Lib.hid hb0; clear hb0
  go_wp2_with fail
  refine (few_any A n cc w0 S HN.out (fun i hi => (HS.out i hi).2) (fun h => by
    obtain ⟨g, o, h1, h2, h3, h4, h5⟩ := HC.out h
    exact ⟨g, o, h1, Nat.lt_of_lt_of_le h2 b0.out.size, h3, h4, fun i hi => (b0.out.cell (p := ⟨g, o + i * 3 + 1, none⟩) h2).trans (h5 i hi).2.1⟩)).mono ?_
  rintro e w0' ⟨t, rfl, rfl, ht⟩
  cases t with
  | false =>
    go_wp2_with fail
    go_ret
    exact ⟨rfl, b0.out⟩
  | true =>
  have hn := ht rfl
  clear ht
  go_wp2_with fail
  refine (MD.out w0 b0.out).mono ?_
  rintro e w1 ⟨p, U1, rfl, hC, hT, hB⟩
  have L1 := Lib.hid (LL.made b0.out hC hT hB)
  clear hC hT hB b0
  go_wp2_with fail
  refine (MD.out w1 L1.out.bel).mono ?_
  rintro e w2 ⟨p2, U2, rfl, hC, hT, hB⟩
  have L2 := Lib.hid (show Pr2 w w2 p U1 (St.start six mo vs) 0 p2 U2 (St.start six mo vs) 0 from ⟨L1.out.below hB, LL.made L1.out.bel hC hT hB, fun k h1 h2 => by have := L1.out.lt k h1; have := hT k h2; omega⟩)
  clear hC hT hB L1 MD
  go_wp2_with fail
  clear g1 g2 g3 g4 g5
  go_loopw [11] (fun i W => SmR w p p2 n i W) (fun i _ => n - (intOf i).toNat)
  case atStart => exact ⟨0, U1, U2, St.start six mo vs, 0, rfl, Nat.zero_le _, Nat.le_refl _, L2.out⟩
  case round =>
    obtain ⟨k, U, U2, st, b, rfl, hk, hbk, hL⟩ := hrel
    have HL := Lib.hid hL
    clear hL L2
    by_cases hlt : k < n
    · have e0 : decide (k < n) = true := by simpa using hlt
      obtain ⟨g, o, rfl, hg, hc1, hc2, hcell⟩ := HC.out (by omega)
      have hc3 := hcell k hlt
      have h1 := (HL.out.one.bel.cell (p := ⟨g, o + k * 3, none⟩) hg).trans hc3.1
      have h2 := (HL.out.one.bel.cell (p := ⟨g, o + k * 3 + 1, none⟩) hg).trans hc3.2.1
      have h3 := (HL.out.one.bel.cell (p := ⟨g, o + k * 3 + 2, none⟩) hg).trans hc3.2.2
      have hsk := (HS.out k hlt).2
      clear hcell hc3
      unfold maxLen at hc2
      have S2 := Lib.hid (PA2.made HL.out (K k) (S k) (N k))
      have HSK := Lib.hid hsk
      clear hsk
      go_upto_region 12 with fail
      clear h1 h2 h3 HL
      generalize wr.alloc (.cells #[.int .i64 (K k), .string (S k), .int .i64 (N k)] 55) = w6 at S2 ⊢
      generalize wr.heap.size = ga at S2 ⊢
      have S6 := S2
      clear S2
      generalize S k = key at S6 HSK ⊢
      generalize K k = kk at S6 ⊢
      generalize N k = nn at S6 ⊢
      obtain ⟨d0, d1, d2⟩ := S6.out.k
      by_cases k0 : kk = 0
      · subst k0
        clear d1 d2
        have TE : st.step key = .agg #[.bool (st.has key), .string (st.vicV key), .bool (st.outB key)] := rfl
        obtain ⟨t1, h1⟩ : ∃ x, x = (st.has key) := ⟨_, rfl⟩
        obtain ⟨t2, h2⟩ : ∃ x, x = (st.vicV key) := ⟨_, rfl⟩
        obtain ⟨t3, h3⟩ : ∃ x, x = (st.outB key) := ⟨_, rfl⟩
        rw [← h1, ← h2, ← h3] at TE
        have TE := Lib.hid TE
        clear h1 h2 h3
        have D6 := Lib.hid (S6.out.below (show Below w6.heap.size w6 w6.drew from ⟨rfl, rfl, rfl, Nat.le_refl _, fun _ _ => rfl⟩))
        obtain ⟨d0, d1, d2⟩ := S6.out.k
        have U1 := (show Calls Tryz.prog 18 #[.pointer (some ⟨p, 0, none⟩), .string key] w6.drew (LCP (.agg #[.bool t1, .string t2, .bool t3]) w6.drew p U (st.req key) (b + 4)) from by have := request_l w6.drew p U st b D6.out.pr.one.ca key HSK.out (by omega); rw [TE.out] at this; exact this)
        have U1 := Lib.hid U1
        have V2 := Lib.hid (fun (W : World) (h : LC W p2 U2 st b) => show Calls Tryz.prog 18 #[.pointer (some ⟨p2, 0, none⟩), .string key] W (LCP (.agg #[.bool t1, .string t2, .bool t3]) W p2 U2 (st.req key) (b + 4)) from by have := request_l W p2 U2 st b h key HSK.out (by omega); rw [TE.out] at this; exact this)
        go_wp2_with fail
        refine wp_region_noPanic ?_
        refine wp_region_held_drew (S := fun w' => w'.cell? ⟨ga, 1, none⟩ = some (.string key)) (by kernel_rfl) ?_ (fun hHeld => ?_)
        · exact d1
        clear d0 d1 d2
        refine wpAnyH_take (i := 0) (oi := { dst := some 67, op := Go.Op.move (Go.Operand.tmp 9), type := 26, pos := "law.go:325", after := #[], guard := none }) (v := ?_) rfl (by kernel_rfl) (by kernel_rfl) (by kernel_rfl) (fun _ _ _ h => h) (Or.inl ⟨by rfl, ?_⟩) (by assumption) ?_
        rotate_left
        · (intro w hSw; (try dsimp only at hSw); go_simp; (try with_reducible rfl))
        (try simp only [Act.put, List.setIfInBounds_toArray, List.set_cons_zero, List.set_cons_succ])
        refine wpAnyH_take (i := 1) (oi := { dst := some 68, op := Go.Op.fieldAddr 55 (Go.Operand.tmp 12) 1, type := 0, pos := "law.go:325", after := #[], guard := none }) (v := ?_) rfl (by kernel_rfl) (by kernel_rfl) (by kernel_rfl) (fun _ _ _ h => h) (Or.inl ⟨by rfl, ?_⟩) (by assumption) ?_
        rotate_left
        · (intro w hSw; (try dsimp only at hSw); go_simp; (try with_reducible rfl))
        (try simp only [Act.put, List.setIfInBounds_toArray, List.set_cons_zero, List.set_cons_succ])
        refine wpAnyH_take (i := 2) (oi := { dst := some 69, op := Go.Op.load 9 (Go.Operand.tmp 68), type := 9, pos := "law.go:325", after := #[{ on := 1, ground := Go.Ground.data }], guard := none }) (v := ?_) rfl (by kernel_rfl) (by kernel_rfl) (by kernel_rfl) (fun _ _ _ h => h) (Or.inl ⟨by rfl, ?_⟩) (by assumption) ?_
        rotate_left
        · (intro w hSw; (try dsimp only at hSw); go_simp; (try with_reducible rfl))
        (try simp only [Act.put, List.setIfInBounds_toArray, List.set_cons_zero, List.set_cons_succ])
        refine wpAnyH_take (i := 4) (oi := { dst := some 71, op := Go.Op.move (Go.Operand.tmp 10), type := 26, pos := "law.go:325", after := #[], guard := none }) (v := ?_) rfl (by kernel_rfl) (by kernel_rfl) (by kernel_rfl) (fun _ _ _ h => h) (Or.inl ⟨by rfl, ?_⟩) (by assumption) ?_
        rotate_left
        · (intro w hSw; (try dsimp only at hSw); go_simp; (try with_reducible rfl))
        (try simp only [Act.put, List.setIfInBounds_toArray, List.set_cons_zero, List.set_cons_succ])
        refine wpAnyH_take (i := 5) (oi := { dst := some 72, op := Go.Op.fieldAddr 55 (Go.Operand.tmp 12) 1, type := 0, pos := "law.go:325", after := #[], guard := none }) (v := ?_) rfl (by kernel_rfl) (by kernel_rfl) (by kernel_rfl) (fun _ _ _ h => h) (Or.inl ⟨by rfl, ?_⟩) (by assumption) ?_
        rotate_left
        · (intro w hSw; (try dsimp only at hSw); go_simp; (try with_reducible rfl))
        (try simp only [Act.put, List.setIfInBounds_toArray, List.set_cons_zero, List.set_cons_succ])
        refine wpAnyH_take (i := 6) (oi := { dst := some 73, op := Go.Op.load 9 (Go.Operand.tmp 72), type := 9, pos := "law.go:325", after := #[{ on := 5, ground := Go.Ground.data }], guard := none }) (v := ?_) rfl (by kernel_rfl) (by kernel_rfl) (by kernel_rfl) (fun _ _ _ h => h) (Or.inl ⟨by rfl, ?_⟩) (by assumption) ?_
        rotate_left
        · (intro w hSw; (try dsimp only at hSw); go_simp; (try with_reducible rfl))
        (try simp only [Act.put, List.setIfInBounds_toArray, List.set_cons_zero, List.set_cons_succ])
        refine wpAnyH_ready (rs := [3]) (by kernel_rfl) (by simp) ?_
        refine AllReadyH.cons (o := { dst := some 70, op := Go.Op.call { callee := Go.Callee.value (Go.Operand.func 18), args := #[Go.Operand.tmp 67, Go.Operand.tmp 69], argTypes := #[26, 9] }, type := 57, pos := "law.go:325", after := #[{ on := 0, ground := Go.Ground.data }, { on := 2, ground := Go.Ground.data }], guard := none }) rfl (fun K hK => ?_) AllReadyH.nil
        go_simp
        refine U1.out.mono ?_
        intro e w7 hp
        obtain ⟨rfl, U7, h7⟩ := D6.out.op1 hp
        have S7 := Lib.hid h7
        clear hp h7 U1
        go_wp2_with fail
        refine hK.out _ _ ?_ (fun hHeld => ?_)
        · exact S7.out.k.2.1
        clear hK K
        (try simp only [Act.put, List.setIfInBounds_toArray, List.set_cons_zero, List.set_cons_succ])
        refine wpAnyH_ready (rs := [7]) (by kernel_rfl) (by simp) ?_
        refine AllReadyH.cons (o := { dst := some 74, op := Go.Op.call { callee := Go.Callee.value (Go.Operand.func 18), args := #[Go.Operand.tmp 71, Go.Operand.tmp 73], argTypes := #[26, 9] }, type := 57, pos := "law.go:325", after := #[{ on := 4, ground := Go.Ground.data }, { on := 6, ground := Go.Ground.data }, { on := 3, ground := Go.Ground.chain }], guard := none }) rfl (fun K hK => ?_) AllReadyH.nil
        go_simp
        refine (V2.out _ S7.out.pr.two.ca).mono ?_
        intro e w8 hp
        obtain ⟨rfl, U8, h8⟩ := S7.out.op2 hp
        have S8 := Lib.hid h8
        clear hp h8
        go_wp2_with fail
        refine hK.out _ _ ?_ (fun hHeld => ?_)
        · exact S8.out.k.2.1
        clear hK K
        (try simp only [Act.put, List.setIfInBounds_toArray, List.set_cons_zero, List.set_cons_succ])
        refine wpAnyH_take (i := 8) (oi := { dst := some 75, op := Go.Op.binOp Go.BinOp.neq 57 (Go.Operand.tmp 70) (Go.Operand.tmp 74) 57, type := 4, pos := "law.go:325", after := #[{ on := 3, ground := Go.Ground.data }, { on := 7, ground := Go.Ground.data }], guard := none }) (v := ?_) rfl (by kernel_rfl) (by kernel_rfl) (by kernel_rfl) (fun _ _ _ h => h) (Or.inl ⟨by rfl, ?_⟩) (by assumption) ?_
        rotate_left
        · (intro w hSw; (try dsimp only at hSw); go_simp; (try with_reducible rfl))
        (try simp only [Act.put, List.setIfInBounds_toArray, List.set_cons_zero, List.set_cons_succ])
        refine wpAnyH_done (by kernel_rfl) ?_ _
        refine NoPanic.normal ?_
        clear V2
        have C2 := Lib.hid (fun (W : World) (hB : Below w8.heap.size w8 W) => (S8.out.below hB).pr)
        have B0 := Lib.hid (Below.refl w8.heap.size w8)
        obtain ⟨st9, hst9⟩ : ∃ x, x = st.req key := ⟨_, rfl⟩
        rw [← hst9] at C2
        clear hst9
        obtain ⟨sw, hsw⟩ : ∃ x, x = st9.w := ⟨_, rfl⟩
        obtain ⟨sr, hsr⟩ : ∃ x, x = st9.rate := ⟨_, rfl⟩
        have WV := Lib.hid (show ∀ W, Below w8.heap.size w8 W → Calls Tryz.prog 39 #[.pointer (some ⟨p, 0, none⟩)] W (Told (.int .u64 (sw : Int)) W) ∧ Calls Tryz.prog 39 #[.pointer (some ⟨p2, 0, none⟩)] W (Told (.int .u64 (sw : Int)) W) from fun W hB => by rw [hsw]; exact ⟨weight_l W p _ st9 _ (C2.out W hB).one.ca, weight_l W p2 _ st9 _ (C2.out W hB).two.ca⟩)
        have RV := Lib.hid (show ∀ W, Below w8.heap.size w8 W → Calls Tryz.prog 40 #[.pointer (some ⟨p, 0, none⟩)] W (Told (.int .u64 (sr : Int)) W) ∧ Calls Tryz.prog 40 #[.pointer (some ⟨p2, 0, none⟩)] W (Told (.int .u64 (sr : Int)) W) from fun W hB => by rw [hsr]; exact ⟨rate_l W p _ st9 _ (C2.out W hB).one.ca, rate_l W p2 _ st9 _ (C2.out W hB).two.ca⟩)
        have KV := Lib.hid (fun (W : World) (hB : Below w8.heap.size w8 W) => And.intro (keys_l W p _ st9 _ (C2.out W hB).one.ca) (keys_l W p2 _ st9 _ (C2.out W hB).two.ca))
        have GV := Lib.hid (fun (W : World) (hB : Below w8.heap.size w8 W) => And.intro (ghosts_l W p _ st9 _ (C2.out W hB).one.ca) (ghosts_l W p2 _ st9 _ (C2.out W hB).two.ca))
        have z1 : ((sw : Int) == (sw : Int)) = true := by simp
        have z2 : ((sr : Int) == (sr : Int)) = true := by simp
        clear hsw hsr
        go_wp2_with fail
        refine (WV.out _ B0.out).1.mono ?_
        rintro e q1 ⟨rfl, hB⟩
        have B1 := Lib.hid (B0.out.trans (hB.mono B0.out.size))
        clear hB
        go_wp2_with fail
        refine (WV.out _ B1.out).2.mono ?_
        rintro e q2 ⟨rfl, hB⟩
        have B2 := Lib.hid (B1.out.trans (hB.mono B1.out.size))
        clear hB
        go_wp2_with fail
        refine (RV.out _ B2.out).1.mono ?_
        rintro e q3 ⟨rfl, hB⟩
        have B3 := Lib.hid (B2.out.trans (hB.mono B2.out.size))
        clear hB
        go_wp2_with fail
        refine (RV.out _ B3.out).2.mono ?_
        rintro e q4 ⟨rfl, hB⟩
        have B4 := Lib.hid (B3.out.trans (hB.mono B3.out.size))
        clear hB
        go_wp2_with fail
        refine (KV.out _ B4.out).1.mono ?_
        rintro e q5 ⟨v5, rfl, hO, hB⟩
        have B5 := Lib.hid (B4.out.trans (hB.mono B4.out.size))
        obtain ⟨g5, _, hr5⟩ := hO.row
        have M5 := Lib.hid hr5
        clear hB hO hr5
        go_wp2_with fail
        refine (KV.out _ B5.out).2.mono ?_
        rintro e q6 ⟨v6, rfl, hO, hB⟩
        have B6 := Lib.hid (B5.out.trans (hB.mono B5.out.size))
        obtain ⟨g6, _, hr6⟩ := hO.row
        have U6 := refSame_any q6 g5 g6 v5 v6 _ _ (M5.out.below hB) hr6
        rw [decide_eq_true rfl] at U6
        have U6 := Lib.hid U6
        clear hB hO hr6 M5
        go_wp2_with fail
        refine U6.out.mono ?_
        rintro e q7 ⟨rfl, n7, hn7⟩
        have B7 := Lib.hid (B6.out.trans ((show Below q6.heap.size q6 q7 from hn7 ▸ FX.bdrew (Below.refl _ _) n7).mono B6.out.size))
        clear U6 hn7
        go_wp2_with fail
        refine (GV.out _ B7.out).1.mono ?_
        rintro e q8 ⟨v8, rfl, hO, hB⟩
        have B8 := Lib.hid (B7.out.trans (hB.mono B7.out.size))
        obtain ⟨g8, _, hr8⟩ := hO.row
        have M8 := Lib.hid hr8
        clear hB hO hr8
        go_wp2_with fail
        refine (GV.out _ B8.out).2.mono ?_
        rintro e q9 ⟨v9, rfl, hO, hB⟩
        have B9 := Lib.hid (B8.out.trans (hB.mono B8.out.size))
        obtain ⟨g9, _, hr9⟩ := hO.row
        have U9 := refSame_any q9 g8 g9 v8 v9 _ _ (M8.out.below hB) hr9
        rw [decide_eq_true rfl] at U9
        have U9 := Lib.hid U9
        clear hB hO hr9 M8
        go_wp2_with fail
        refine U9.out.mono ?_
        rintro e q10 ⟨rfl, n10, hn10⟩
        have B10 := Lib.hid (B9.out.trans ((show Below q9.heap.size q9 q10 from hn10 ▸ FX.bdrew (Below.refl _ _) n10).mono B9.out.size))
        clear U9 hn10
        go_wp2_with fail
        go_roundw
        case rel => exact ⟨k + 1, _, _, st9, b + 4, by go_num, by omega, by omega, C2.out _ B10.out⟩
        case measure => simp [intOf]; omega
      by_cases k1 : kk = 1
      · subst k1
        clear k0 d1 d2
        obtain ⟨hv1, hv⟩ : ∃ x, st.has key = x := ⟨_, rfl⟩
        have HV := Lib.hid hv
        clear hv
        have D6 := Lib.hid (S6.out.below (show Below w6.heap.size w6 w6.drew from ⟨rfl, rfl, rfl, Nat.le_refl _, fun _ _ => rfl⟩))
        obtain ⟨d0, d1, d2⟩ := S6.out.k
        have U1 := (show Calls Tryz.prog 19 #[.pointer (some ⟨p, 0, none⟩), .string key] w6.drew (LCP (.bool hv1) w6.drew p U (st.rm key) (b)) from by have := remove_l w6.drew p U st b D6.out.pr.one.ca key HSK.out; rw [HV.out] at this; exact this)
        have U1 := Lib.hid U1
        have V2 := Lib.hid (fun (W : World) (h : LC W p2 U2 st b) => show Calls Tryz.prog 19 #[.pointer (some ⟨p2, 0, none⟩), .string key] W (LCP (.bool hv1) W p2 U2 (st.rm key) (b)) from by have := remove_l W p2 U2 st b h key HSK.out; rw [HV.out] at this; exact this)
        go_wp2_with fail
        refine wp_region_noPanic ?_
        refine wp_region_held_drew (S := fun w' => w'.cell? ⟨ga, 1, none⟩ = some (.string key)) (by kernel_rfl) ?_ (fun hHeld => ?_)
        · exact d1
        clear d0 d1 d2
        refine wpAnyH_take (i := 0) (oi := { dst := some 78, op := Go.Op.move (Go.Operand.tmp 9), type := 26, pos := "law.go:329", after := #[], guard := none }) (v := ?_) rfl (by kernel_rfl) (by kernel_rfl) (by kernel_rfl) (fun _ _ _ h => h) (Or.inl ⟨by rfl, ?_⟩) (by assumption) ?_
        rotate_left
        · (intro w hSw; (try dsimp only at hSw); go_simp; (try with_reducible rfl))
        (try simp only [Act.put, List.setIfInBounds_toArray, List.set_cons_zero, List.set_cons_succ])
        refine wpAnyH_take (i := 1) (oi := { dst := some 79, op := Go.Op.fieldAddr 55 (Go.Operand.tmp 12) 1, type := 0, pos := "law.go:329", after := #[], guard := none }) (v := ?_) rfl (by kernel_rfl) (by kernel_rfl) (by kernel_rfl) (fun _ _ _ h => h) (Or.inl ⟨by rfl, ?_⟩) (by assumption) ?_
        rotate_left
        · (intro w hSw; (try dsimp only at hSw); go_simp; (try with_reducible rfl))
        (try simp only [Act.put, List.setIfInBounds_toArray, List.set_cons_zero, List.set_cons_succ])
        refine wpAnyH_take (i := 2) (oi := { dst := some 80, op := Go.Op.load 9 (Go.Operand.tmp 79), type := 9, pos := "law.go:329", after := #[{ on := 1, ground := Go.Ground.data }], guard := none }) (v := ?_) rfl (by kernel_rfl) (by kernel_rfl) (by kernel_rfl) (fun _ _ _ h => h) (Or.inl ⟨by rfl, ?_⟩) (by assumption) ?_
        rotate_left
        · (intro w hSw; (try dsimp only at hSw); go_simp; (try with_reducible rfl))
        (try simp only [Act.put, List.setIfInBounds_toArray, List.set_cons_zero, List.set_cons_succ])
        refine wpAnyH_take (i := 4) (oi := { dst := some 82, op := Go.Op.move (Go.Operand.tmp 10), type := 26, pos := "law.go:329", after := #[], guard := none }) (v := ?_) rfl (by kernel_rfl) (by kernel_rfl) (by kernel_rfl) (fun _ _ _ h => h) (Or.inl ⟨by rfl, ?_⟩) (by assumption) ?_
        rotate_left
        · (intro w hSw; (try dsimp only at hSw); go_simp; (try with_reducible rfl))
        (try simp only [Act.put, List.setIfInBounds_toArray, List.set_cons_zero, List.set_cons_succ])
        refine wpAnyH_take (i := 5) (oi := { dst := some 83, op := Go.Op.fieldAddr 55 (Go.Operand.tmp 12) 1, type := 0, pos := "law.go:329", after := #[], guard := none }) (v := ?_) rfl (by kernel_rfl) (by kernel_rfl) (by kernel_rfl) (fun _ _ _ h => h) (Or.inl ⟨by rfl, ?_⟩) (by assumption) ?_
        rotate_left
        · (intro w hSw; (try dsimp only at hSw); go_simp; (try with_reducible rfl))
        (try simp only [Act.put, List.setIfInBounds_toArray, List.set_cons_zero, List.set_cons_succ])
        refine wpAnyH_take (i := 6) (oi := { dst := some 84, op := Go.Op.load 9 (Go.Operand.tmp 83), type := 9, pos := "law.go:329", after := #[{ on := 5, ground := Go.Ground.data }], guard := none }) (v := ?_) rfl (by kernel_rfl) (by kernel_rfl) (by kernel_rfl) (fun _ _ _ h => h) (Or.inl ⟨by rfl, ?_⟩) (by assumption) ?_
        rotate_left
        · (intro w hSw; (try dsimp only at hSw); go_simp; (try with_reducible rfl))
        (try simp only [Act.put, List.setIfInBounds_toArray, List.set_cons_zero, List.set_cons_succ])
        refine wpAnyH_ready (rs := [3]) (by kernel_rfl) (by simp) ?_
        refine AllReadyH.cons (o := { dst := some 81, op := Go.Op.call { callee := Go.Callee.value (Go.Operand.func 19), args := #[Go.Operand.tmp 78, Go.Operand.tmp 80], argTypes := #[26, 9] }, type := 4, pos := "law.go:329", after := #[{ on := 0, ground := Go.Ground.data }, { on := 2, ground := Go.Ground.data }], guard := none }) rfl (fun K hK => ?_) AllReadyH.nil
        go_simp
        refine U1.out.mono ?_
        intro e w7 hp
        obtain ⟨rfl, U7, h7⟩ := D6.out.op1 hp
        have S7 := Lib.hid h7
        clear hp h7 U1
        go_wp2_with fail
        refine hK.out _ _ ?_ (fun hHeld => ?_)
        · exact S7.out.k.2.1
        clear hK K
        (try simp only [Act.put, List.setIfInBounds_toArray, List.set_cons_zero, List.set_cons_succ])
        refine wpAnyH_ready (rs := [7]) (by kernel_rfl) (by simp) ?_
        refine AllReadyH.cons (o := { dst := some 85, op := Go.Op.call { callee := Go.Callee.value (Go.Operand.func 19), args := #[Go.Operand.tmp 82, Go.Operand.tmp 84], argTypes := #[26, 9] }, type := 4, pos := "law.go:329", after := #[{ on := 4, ground := Go.Ground.data }, { on := 6, ground := Go.Ground.data }, { on := 3, ground := Go.Ground.chain }], guard := none }) rfl (fun K hK => ?_) AllReadyH.nil
        go_simp
        refine (V2.out _ S7.out.pr.two.ca).mono ?_
        intro e w8 hp
        obtain ⟨rfl, U8, h8⟩ := S7.out.op2 hp
        have S8 := Lib.hid h8
        clear hp h8
        go_wp2_with fail
        refine hK.out _ _ ?_ (fun hHeld => ?_)
        · exact S8.out.k.2.1
        clear hK K
        (try simp only [Act.put, List.setIfInBounds_toArray, List.set_cons_zero, List.set_cons_succ])
        refine wpAnyH_take (i := 8) (oi := { dst := some 86, op := Go.Op.binOp Go.BinOp.neq 4 (Go.Operand.tmp 81) (Go.Operand.tmp 85) 4, type := 4, pos := "law.go:329", after := #[{ on := 3, ground := Go.Ground.data }, { on := 7, ground := Go.Ground.data }], guard := none }) (v := ?_) rfl (by kernel_rfl) (by kernel_rfl) (by kernel_rfl) (fun _ _ _ h => h) (Or.inl ⟨by rfl, ?_⟩) (by assumption) ?_
        rotate_left
        · (intro w hSw; (try dsimp only at hSw); go_simp; (try with_reducible rfl))
        (try simp only [Act.put, List.setIfInBounds_toArray, List.set_cons_zero, List.set_cons_succ])
        refine wpAnyH_done (by kernel_rfl) ?_ _
        refine NoPanic.normal ?_
        clear V2
        have C2 := Lib.hid (fun (W : World) (hB : Below w8.heap.size w8 W) => (S8.out.below hB).pr)
        have B0 := Lib.hid (Below.refl w8.heap.size w8)
        obtain ⟨st9, hst9⟩ : ∃ x, x = st.rm key := ⟨_, rfl⟩
        rw [← hst9] at C2
        clear hst9
        obtain ⟨sw, hsw⟩ : ∃ x, x = st9.w := ⟨_, rfl⟩
        obtain ⟨sr, hsr⟩ : ∃ x, x = st9.rate := ⟨_, rfl⟩
        have WV := Lib.hid (show ∀ W, Below w8.heap.size w8 W → Calls Tryz.prog 39 #[.pointer (some ⟨p, 0, none⟩)] W (Told (.int .u64 (sw : Int)) W) ∧ Calls Tryz.prog 39 #[.pointer (some ⟨p2, 0, none⟩)] W (Told (.int .u64 (sw : Int)) W) from fun W hB => by rw [hsw]; exact ⟨weight_l W p _ st9 _ (C2.out W hB).one.ca, weight_l W p2 _ st9 _ (C2.out W hB).two.ca⟩)
        have RV := Lib.hid (show ∀ W, Below w8.heap.size w8 W → Calls Tryz.prog 40 #[.pointer (some ⟨p, 0, none⟩)] W (Told (.int .u64 (sr : Int)) W) ∧ Calls Tryz.prog 40 #[.pointer (some ⟨p2, 0, none⟩)] W (Told (.int .u64 (sr : Int)) W) from fun W hB => by rw [hsr]; exact ⟨rate_l W p _ st9 _ (C2.out W hB).one.ca, rate_l W p2 _ st9 _ (C2.out W hB).two.ca⟩)
        have KV := Lib.hid (fun (W : World) (hB : Below w8.heap.size w8 W) => And.intro (keys_l W p _ st9 _ (C2.out W hB).one.ca) (keys_l W p2 _ st9 _ (C2.out W hB).two.ca))
        have GV := Lib.hid (fun (W : World) (hB : Below w8.heap.size w8 W) => And.intro (ghosts_l W p _ st9 _ (C2.out W hB).one.ca) (ghosts_l W p2 _ st9 _ (C2.out W hB).two.ca))
        have z1 : ((sw : Int) == (sw : Int)) = true := by simp
        have z2 : ((sr : Int) == (sr : Int)) = true := by simp
        clear hsw hsr
        go_wp2_with fail
        refine (WV.out _ B0.out).1.mono ?_
        rintro e q1 ⟨rfl, hB⟩
        have B1 := Lib.hid (B0.out.trans (hB.mono B0.out.size))
        clear hB
        go_wp2_with fail
        refine (WV.out _ B1.out).2.mono ?_
        rintro e q2 ⟨rfl, hB⟩
        have B2 := Lib.hid (B1.out.trans (hB.mono B1.out.size))
        clear hB
        go_wp2_with fail
        refine (RV.out _ B2.out).1.mono ?_
        rintro e q3 ⟨rfl, hB⟩
        have B3 := Lib.hid (B2.out.trans (hB.mono B2.out.size))
        clear hB
        go_wp2_with fail
        refine (RV.out _ B3.out).2.mono ?_
        rintro e q4 ⟨rfl, hB⟩
        have B4 := Lib.hid (B3.out.trans (hB.mono B3.out.size))
        clear hB
        go_wp2_with fail
        refine (KV.out _ B4.out).1.mono ?_
        rintro e q5 ⟨v5, rfl, hO, hB⟩
        have B5 := Lib.hid (B4.out.trans (hB.mono B4.out.size))
        obtain ⟨g5, _, hr5⟩ := hO.row
        have M5 := Lib.hid hr5
        clear hB hO hr5
        go_wp2_with fail
        refine (KV.out _ B5.out).2.mono ?_
        rintro e q6 ⟨v6, rfl, hO, hB⟩
        have B6 := Lib.hid (B5.out.trans (hB.mono B5.out.size))
        obtain ⟨g6, _, hr6⟩ := hO.row
        have U6 := refSame_any q6 g5 g6 v5 v6 _ _ (M5.out.below hB) hr6
        rw [decide_eq_true rfl] at U6
        have U6 := Lib.hid U6
        clear hB hO hr6 M5
        go_wp2_with fail
        refine U6.out.mono ?_
        rintro e q7 ⟨rfl, n7, hn7⟩
        have B7 := Lib.hid (B6.out.trans ((show Below q6.heap.size q6 q7 from hn7 ▸ FX.bdrew (Below.refl _ _) n7).mono B6.out.size))
        clear U6 hn7
        go_wp2_with fail
        refine (GV.out _ B7.out).1.mono ?_
        rintro e q8 ⟨v8, rfl, hO, hB⟩
        have B8 := Lib.hid (B7.out.trans (hB.mono B7.out.size))
        obtain ⟨g8, _, hr8⟩ := hO.row
        have M8 := Lib.hid hr8
        clear hB hO hr8
        go_wp2_with fail
        refine (GV.out _ B8.out).2.mono ?_
        rintro e q9 ⟨v9, rfl, hO, hB⟩
        have B9 := Lib.hid (B8.out.trans (hB.mono B8.out.size))
        obtain ⟨g9, _, hr9⟩ := hO.row
        have U9 := refSame_any q9 g8 g9 v8 v9 _ _ (M8.out.below hB) hr9
        rw [decide_eq_true rfl] at U9
        have U9 := Lib.hid U9
        clear hB hO hr9 M8
        go_wp2_with fail
        refine U9.out.mono ?_
        rintro e q10 ⟨rfl, n10, hn10⟩
        have B10 := Lib.hid (B9.out.trans ((show Below q9.heap.size q9 q10 from hn10 ▸ FX.bdrew (Below.refl _ _) n10).mono B9.out.size))
        clear U9 hn10
        go_wp2_with fail
        go_roundw
        case rel => exact ⟨k + 1, _, _, st9, b, by go_num, by omega, by omega, C2.out _ B10.out⟩
        case measure => simp [intOf]; omega
      by_cases k2 : kk = 2
      · subst k2
        clear k0 k1 d1 d2
        obtain ⟨hv1, hv⟩ : ∃ x, st.adB key = x := ⟨_, rfl⟩
        have HV := Lib.hid hv
        clear hv
        have D6 := Lib.hid (S6.out.below (show Below w6.heap.size w6 w6.drew from ⟨rfl, rfl, rfl, Nat.le_refl _, fun _ _ => rfl⟩))
        obtain ⟨d0, d1, d2⟩ := S6.out.k
        have U1 := (show Calls Tryz.prog 23 #[.pointer (some ⟨p, 0, none⟩), .string key] w6.drew (LCP (.bool hv1) w6.drew p U (adP st key) (b + 1)) from by have := adopt_l w6.drew p U st b D6.out.pr.one.ca key HSK.out (by omega); rw [HV.out] at this; exact this)
        have U1 := Lib.hid U1
        have V2 := Lib.hid (fun (W : World) (h : LC W p2 U2 st b) => show Calls Tryz.prog 23 #[.pointer (some ⟨p2, 0, none⟩), .string key] W (LCP (.bool hv1) W p2 U2 (adP st key) (b + 1)) from by have := adopt_l W p2 U2 st b h key HSK.out (by omega); rw [HV.out] at this; exact this)
        go_wp2_with fail
        refine wp_region_noPanic ?_
        refine wp_region_held_drew (S := fun w' => w'.cell? ⟨ga, 1, none⟩ = some (.string key)) (by kernel_rfl) ?_ (fun hHeld => ?_)
        · exact d1
        clear d0 d1 d2
        refine wpAnyH_take (i := 0) (oi := { dst := some 89, op := Go.Op.move (Go.Operand.tmp 9), type := 26, pos := "law.go:333", after := #[], guard := none }) (v := ?_) rfl (by kernel_rfl) (by kernel_rfl) (by kernel_rfl) (fun _ _ _ h => h) (Or.inl ⟨by rfl, ?_⟩) (by assumption) ?_
        rotate_left
        · (intro w hSw; (try dsimp only at hSw); go_simp; (try with_reducible rfl))
        (try simp only [Act.put, List.setIfInBounds_toArray, List.set_cons_zero, List.set_cons_succ])
        refine wpAnyH_take (i := 1) (oi := { dst := some 90, op := Go.Op.fieldAddr 55 (Go.Operand.tmp 12) 1, type := 0, pos := "law.go:333", after := #[], guard := none }) (v := ?_) rfl (by kernel_rfl) (by kernel_rfl) (by kernel_rfl) (fun _ _ _ h => h) (Or.inl ⟨by rfl, ?_⟩) (by assumption) ?_
        rotate_left
        · (intro w hSw; (try dsimp only at hSw); go_simp; (try with_reducible rfl))
        (try simp only [Act.put, List.setIfInBounds_toArray, List.set_cons_zero, List.set_cons_succ])
        refine wpAnyH_take (i := 2) (oi := { dst := some 91, op := Go.Op.load 9 (Go.Operand.tmp 90), type := 9, pos := "law.go:333", after := #[{ on := 1, ground := Go.Ground.data }], guard := none }) (v := ?_) rfl (by kernel_rfl) (by kernel_rfl) (by kernel_rfl) (fun _ _ _ h => h) (Or.inl ⟨by rfl, ?_⟩) (by assumption) ?_
        rotate_left
        · (intro w hSw; (try dsimp only at hSw); go_simp; (try with_reducible rfl))
        (try simp only [Act.put, List.setIfInBounds_toArray, List.set_cons_zero, List.set_cons_succ])
        refine wpAnyH_take (i := 4) (oi := { dst := some 93, op := Go.Op.move (Go.Operand.tmp 10), type := 26, pos := "law.go:333", after := #[], guard := none }) (v := ?_) rfl (by kernel_rfl) (by kernel_rfl) (by kernel_rfl) (fun _ _ _ h => h) (Or.inl ⟨by rfl, ?_⟩) (by assumption) ?_
        rotate_left
        · (intro w hSw; (try dsimp only at hSw); go_simp; (try with_reducible rfl))
        (try simp only [Act.put, List.setIfInBounds_toArray, List.set_cons_zero, List.set_cons_succ])
        refine wpAnyH_take (i := 5) (oi := { dst := some 94, op := Go.Op.fieldAddr 55 (Go.Operand.tmp 12) 1, type := 0, pos := "law.go:333", after := #[], guard := none }) (v := ?_) rfl (by kernel_rfl) (by kernel_rfl) (by kernel_rfl) (fun _ _ _ h => h) (Or.inl ⟨by rfl, ?_⟩) (by assumption) ?_
        rotate_left
        · (intro w hSw; (try dsimp only at hSw); go_simp; (try with_reducible rfl))
        (try simp only [Act.put, List.setIfInBounds_toArray, List.set_cons_zero, List.set_cons_succ])
        refine wpAnyH_take (i := 6) (oi := { dst := some 95, op := Go.Op.load 9 (Go.Operand.tmp 94), type := 9, pos := "law.go:333", after := #[{ on := 5, ground := Go.Ground.data }], guard := none }) (v := ?_) rfl (by kernel_rfl) (by kernel_rfl) (by kernel_rfl) (fun _ _ _ h => h) (Or.inl ⟨by rfl, ?_⟩) (by assumption) ?_
        rotate_left
        · (intro w hSw; (try dsimp only at hSw); go_simp; (try with_reducible rfl))
        (try simp only [Act.put, List.setIfInBounds_toArray, List.set_cons_zero, List.set_cons_succ])
        refine wpAnyH_ready (rs := [3]) (by kernel_rfl) (by simp) ?_
        refine AllReadyH.cons (o := { dst := some 92, op := Go.Op.call { callee := Go.Callee.value (Go.Operand.func 23), args := #[Go.Operand.tmp 89, Go.Operand.tmp 91], argTypes := #[26, 9] }, type := 4, pos := "law.go:333", after := #[{ on := 0, ground := Go.Ground.data }, { on := 2, ground := Go.Ground.data }], guard := none }) rfl (fun K hK => ?_) AllReadyH.nil
        go_simp
        refine U1.out.mono ?_
        intro e w7 hp
        obtain ⟨rfl, U7, h7⟩ := D6.out.op1 hp
        have S7 := Lib.hid h7
        clear hp h7 U1
        go_wp2_with fail
        refine hK.out _ _ ?_ (fun hHeld => ?_)
        · exact S7.out.k.2.1
        clear hK K
        (try simp only [Act.put, List.setIfInBounds_toArray, List.set_cons_zero, List.set_cons_succ])
        refine wpAnyH_ready (rs := [7]) (by kernel_rfl) (by simp) ?_
        refine AllReadyH.cons (o := { dst := some 96, op := Go.Op.call { callee := Go.Callee.value (Go.Operand.func 23), args := #[Go.Operand.tmp 93, Go.Operand.tmp 95], argTypes := #[26, 9] }, type := 4, pos := "law.go:333", after := #[{ on := 4, ground := Go.Ground.data }, { on := 6, ground := Go.Ground.data }, { on := 3, ground := Go.Ground.chain }], guard := none }) rfl (fun K hK => ?_) AllReadyH.nil
        go_simp
        refine (V2.out _ S7.out.pr.two.ca).mono ?_
        intro e w8 hp
        obtain ⟨rfl, U8, h8⟩ := S7.out.op2 hp
        have S8 := Lib.hid h8
        clear hp h8
        go_wp2_with fail
        refine hK.out _ _ ?_ (fun hHeld => ?_)
        · exact S8.out.k.2.1
        clear hK K
        (try simp only [Act.put, List.setIfInBounds_toArray, List.set_cons_zero, List.set_cons_succ])
        refine wpAnyH_take (i := 8) (oi := { dst := some 97, op := Go.Op.binOp Go.BinOp.neq 4 (Go.Operand.tmp 92) (Go.Operand.tmp 96) 4, type := 4, pos := "law.go:333", after := #[{ on := 3, ground := Go.Ground.data }, { on := 7, ground := Go.Ground.data }], guard := none }) (v := ?_) rfl (by kernel_rfl) (by kernel_rfl) (by kernel_rfl) (fun _ _ _ h => h) (Or.inl ⟨by rfl, ?_⟩) (by assumption) ?_
        rotate_left
        · (intro w hSw; (try dsimp only at hSw); go_simp; (try with_reducible rfl))
        (try simp only [Act.put, List.setIfInBounds_toArray, List.set_cons_zero, List.set_cons_succ])
        refine wpAnyH_done (by kernel_rfl) ?_ _
        refine NoPanic.normal ?_
        clear V2
        have C2 := Lib.hid (fun (W : World) (hB : Below w8.heap.size w8 W) => (S8.out.below hB).pr)
        have B0 := Lib.hid (Below.refl w8.heap.size w8)
        obtain ⟨st9, hst9⟩ : ∃ x, x = adP st key := ⟨_, rfl⟩
        rw [← hst9] at C2
        clear hst9
        obtain ⟨sw, hsw⟩ : ∃ x, x = st9.w := ⟨_, rfl⟩
        obtain ⟨sr, hsr⟩ : ∃ x, x = st9.rate := ⟨_, rfl⟩
        have WV := Lib.hid (show ∀ W, Below w8.heap.size w8 W → Calls Tryz.prog 39 #[.pointer (some ⟨p, 0, none⟩)] W (Told (.int .u64 (sw : Int)) W) ∧ Calls Tryz.prog 39 #[.pointer (some ⟨p2, 0, none⟩)] W (Told (.int .u64 (sw : Int)) W) from fun W hB => by rw [hsw]; exact ⟨weight_l W p _ st9 _ (C2.out W hB).one.ca, weight_l W p2 _ st9 _ (C2.out W hB).two.ca⟩)
        have RV := Lib.hid (show ∀ W, Below w8.heap.size w8 W → Calls Tryz.prog 40 #[.pointer (some ⟨p, 0, none⟩)] W (Told (.int .u64 (sr : Int)) W) ∧ Calls Tryz.prog 40 #[.pointer (some ⟨p2, 0, none⟩)] W (Told (.int .u64 (sr : Int)) W) from fun W hB => by rw [hsr]; exact ⟨rate_l W p _ st9 _ (C2.out W hB).one.ca, rate_l W p2 _ st9 _ (C2.out W hB).two.ca⟩)
        have KV := Lib.hid (fun (W : World) (hB : Below w8.heap.size w8 W) => And.intro (keys_l W p _ st9 _ (C2.out W hB).one.ca) (keys_l W p2 _ st9 _ (C2.out W hB).two.ca))
        have GV := Lib.hid (fun (W : World) (hB : Below w8.heap.size w8 W) => And.intro (ghosts_l W p _ st9 _ (C2.out W hB).one.ca) (ghosts_l W p2 _ st9 _ (C2.out W hB).two.ca))
        have z1 : ((sw : Int) == (sw : Int)) = true := by simp
        have z2 : ((sr : Int) == (sr : Int)) = true := by simp
        clear hsw hsr
        go_wp2_with fail
        refine (WV.out _ B0.out).1.mono ?_
        rintro e q1 ⟨rfl, hB⟩
        have B1 := Lib.hid (B0.out.trans (hB.mono B0.out.size))
        clear hB
        go_wp2_with fail
        refine (WV.out _ B1.out).2.mono ?_
        rintro e q2 ⟨rfl, hB⟩
        have B2 := Lib.hid (B1.out.trans (hB.mono B1.out.size))
        clear hB
        go_wp2_with fail
        refine (RV.out _ B2.out).1.mono ?_
        rintro e q3 ⟨rfl, hB⟩
        have B3 := Lib.hid (B2.out.trans (hB.mono B2.out.size))
        clear hB
        go_wp2_with fail
        refine (RV.out _ B3.out).2.mono ?_
        rintro e q4 ⟨rfl, hB⟩
        have B4 := Lib.hid (B3.out.trans (hB.mono B3.out.size))
        clear hB
        go_wp2_with fail
        refine (KV.out _ B4.out).1.mono ?_
        rintro e q5 ⟨v5, rfl, hO, hB⟩
        have B5 := Lib.hid (B4.out.trans (hB.mono B4.out.size))
        obtain ⟨g5, _, hr5⟩ := hO.row
        have M5 := Lib.hid hr5
        clear hB hO hr5
        go_wp2_with fail
        refine (KV.out _ B5.out).2.mono ?_
        rintro e q6 ⟨v6, rfl, hO, hB⟩
        have B6 := Lib.hid (B5.out.trans (hB.mono B5.out.size))
        obtain ⟨g6, _, hr6⟩ := hO.row
        have U6 := refSame_any q6 g5 g6 v5 v6 _ _ (M5.out.below hB) hr6
        rw [decide_eq_true rfl] at U6
        have U6 := Lib.hid U6
        clear hB hO hr6 M5
        go_wp2_with fail
        refine U6.out.mono ?_
        rintro e q7 ⟨rfl, n7, hn7⟩
        have B7 := Lib.hid (B6.out.trans ((show Below q6.heap.size q6 q7 from hn7 ▸ FX.bdrew (Below.refl _ _) n7).mono B6.out.size))
        clear U6 hn7
        go_wp2_with fail
        refine (GV.out _ B7.out).1.mono ?_
        rintro e q8 ⟨v8, rfl, hO, hB⟩
        have B8 := Lib.hid (B7.out.trans (hB.mono B7.out.size))
        obtain ⟨g8, _, hr8⟩ := hO.row
        have M8 := Lib.hid hr8
        clear hB hO hr8
        go_wp2_with fail
        refine (GV.out _ B8.out).2.mono ?_
        rintro e q9 ⟨v9, rfl, hO, hB⟩
        have B9 := Lib.hid (B8.out.trans (hB.mono B8.out.size))
        obtain ⟨g9, _, hr9⟩ := hO.row
        have U9 := refSame_any q9 g8 g9 v8 v9 _ _ (M8.out.below hB) hr9
        rw [decide_eq_true rfl] at U9
        have U9 := Lib.hid U9
        clear hB hO hr9 M8
        go_wp2_with fail
        refine U9.out.mono ?_
        rintro e q10 ⟨rfl, n10, hn10⟩
        have B10 := Lib.hid (B9.out.trans ((show Below q9.heap.size q9 q10 from hn10 ▸ FX.bdrew (Below.refl _ _) n10).mono B9.out.size))
        clear U9 hn10
        go_wp2_with fail
        go_roundw
        case rel => exact ⟨k + 1, _, _, st9, b + 1, by go_num, by omega, by omega, C2.out _ B10.out⟩
        case measure => simp [intOf]; omega
      have C2 := Lib.hid (fun (W : World) (hB : Below w6.heap.size w6 W) => (S6.out.below hB).pr)
      have B0 := Lib.hid (Below.refl w6.heap.size w6)
      obtain ⟨st9, hst9⟩ : ∃ x, x = st := ⟨_, rfl⟩
      rw [← hst9] at C2
      clear hst9
      obtain ⟨sw, hsw⟩ : ∃ x, x = st9.w := ⟨_, rfl⟩
      obtain ⟨sr, hsr⟩ : ∃ x, x = st9.rate := ⟨_, rfl⟩
      have WV := Lib.hid (show ∀ W, Below w6.heap.size w6 W → Calls Tryz.prog 39 #[.pointer (some ⟨p, 0, none⟩)] W (Told (.int .u64 (sw : Int)) W) ∧ Calls Tryz.prog 39 #[.pointer (some ⟨p2, 0, none⟩)] W (Told (.int .u64 (sw : Int)) W) from fun W hB => by rw [hsw]; exact ⟨weight_l W p _ st9 _ (C2.out W hB).one.ca, weight_l W p2 _ st9 _ (C2.out W hB).two.ca⟩)
      have RV := Lib.hid (show ∀ W, Below w6.heap.size w6 W → Calls Tryz.prog 40 #[.pointer (some ⟨p, 0, none⟩)] W (Told (.int .u64 (sr : Int)) W) ∧ Calls Tryz.prog 40 #[.pointer (some ⟨p2, 0, none⟩)] W (Told (.int .u64 (sr : Int)) W) from fun W hB => by rw [hsr]; exact ⟨rate_l W p _ st9 _ (C2.out W hB).one.ca, rate_l W p2 _ st9 _ (C2.out W hB).two.ca⟩)
      have KV := Lib.hid (fun (W : World) (hB : Below w6.heap.size w6 W) => And.intro (keys_l W p _ st9 _ (C2.out W hB).one.ca) (keys_l W p2 _ st9 _ (C2.out W hB).two.ca))
      have GV := Lib.hid (fun (W : World) (hB : Below w6.heap.size w6 W) => And.intro (ghosts_l W p _ st9 _ (C2.out W hB).one.ca) (ghosts_l W p2 _ st9 _ (C2.out W hB).two.ca))
      have z1 : ((sw : Int) == (sw : Int)) = true := by simp
      have z2 : ((sr : Int) == (sr : Int)) = true := by simp
      clear hsw hsr
      go_wp2_with fail
      refine (WV.out _ B0.out).1.mono ?_
      rintro e q1 ⟨rfl, hB⟩
      have B1 := Lib.hid (B0.out.trans (hB.mono B0.out.size))
      clear hB
      go_wp2_with fail
      refine (WV.out _ B1.out).2.mono ?_
      rintro e q2 ⟨rfl, hB⟩
      have B2 := Lib.hid (B1.out.trans (hB.mono B1.out.size))
      clear hB
      go_wp2_with fail
      refine (RV.out _ B2.out).1.mono ?_
      rintro e q3 ⟨rfl, hB⟩
      have B3 := Lib.hid (B2.out.trans (hB.mono B2.out.size))
      clear hB
      go_wp2_with fail
      refine (RV.out _ B3.out).2.mono ?_
      rintro e q4 ⟨rfl, hB⟩
      have B4 := Lib.hid (B3.out.trans (hB.mono B3.out.size))
      clear hB
      go_wp2_with fail
      refine (KV.out _ B4.out).1.mono ?_
      rintro e q5 ⟨v5, rfl, hO, hB⟩
      have B5 := Lib.hid (B4.out.trans (hB.mono B4.out.size))
      obtain ⟨g5, _, hr5⟩ := hO.row
      have M5 := Lib.hid hr5
      clear hB hO hr5
      go_wp2_with fail
      refine (KV.out _ B5.out).2.mono ?_
      rintro e q6 ⟨v6, rfl, hO, hB⟩
      have B6 := Lib.hid (B5.out.trans (hB.mono B5.out.size))
      obtain ⟨g6, _, hr6⟩ := hO.row
      have U6 := refSame_any q6 g5 g6 v5 v6 _ _ (M5.out.below hB) hr6
      rw [decide_eq_true rfl] at U6
      have U6 := Lib.hid U6
      clear hB hO hr6 M5
      go_wp2_with fail
      refine U6.out.mono ?_
      rintro e q7 ⟨rfl, n7, hn7⟩
      have B7 := Lib.hid (B6.out.trans ((show Below q6.heap.size q6 q7 from hn7 ▸ FX.bdrew (Below.refl _ _) n7).mono B6.out.size))
      clear U6 hn7
      go_wp2_with fail
      refine (GV.out _ B7.out).1.mono ?_
      rintro e q8 ⟨v8, rfl, hO, hB⟩
      have B8 := Lib.hid (B7.out.trans (hB.mono B7.out.size))
      obtain ⟨g8, _, hr8⟩ := hO.row
      have M8 := Lib.hid hr8
      clear hB hO hr8
      go_wp2_with fail
      refine (GV.out _ B8.out).2.mono ?_
      rintro e q9 ⟨v9, rfl, hO, hB⟩
      have B9 := Lib.hid (B8.out.trans (hB.mono B8.out.size))
      obtain ⟨g9, _, hr9⟩ := hO.row
      have U9 := refSame_any q9 g8 g9 v8 v9 _ _ (M8.out.below hB) hr9
      rw [decide_eq_true rfl] at U9
      have U9 := Lib.hid U9
      clear hB hO hr9 M8
      go_wp2_with fail
      refine U9.out.mono ?_
      rintro e q10 ⟨rfl, n10, hn10⟩
      have B10 := Lib.hid (B9.out.trans ((show Below q9.heap.size q9 q10 from hn10 ▸ FX.bdrew (Below.refl _ _) n10).mono B9.out.size))
      clear U9 hn10
      go_wp2_with fail
      go_roundw
      case rel => exact ⟨k + 1, _, _, st9, b, by go_num, by omega, by omega, C2.out _ B10.out⟩
      case measure => simp [intOf]; omega
    · have e0 : decide (k < n) = false := by simpa using hlt
      go_wp2_with fail
      go_ret
      exact ⟨rfl, HL.out.one.bel⟩
end Go.Proofs.YtnlckkahkghneaaGreatDoor.LE
namespace Go.Proofs.YtnlckkahkghneaaGreatDoor
open Go.ChangeShapes Go.WideShapes Go.ChangeAt Go.RowKit Sg
open Go.ChangeMaps (open_string shut_string)
theorem walk_learnSame (a0 a1 : Int) (v2 v3 : Value) (w : World) (w0 : (Lit.int .i64 a0).wf = true) (w1 : (Lit.int .i64 a1).wf = true) (wr : CameR w v2) (wk : CameA w v3) (hl : Laid w) : Calls Tryz.prog 9 #[.int .i64 a0, .int .i64 a1, v2, v3] w (LE.RetB true w) := by
  obtain ⟨A, n, c, rfl, hn, K, S, N, hr, hc⟩ := wk
  obtain ⟨Al, nl, cl, rfl, hnl, vs, hvs⟩ := pick_lane wr
  have hz0 := i64_rng w0
  have hz1 := i64_rng w1
  by_cases hok : ¬ 300 < (nl : Int) ∧ ¬ a0 < 5 ∧ ¬ 6 < a0 ∧ ¬ a1 < 0 ∧ ¬ 1000 < a1
  · obtain ⟨q0, q1, q2, q3, q4⟩ := hok
    obtain ⟨mo, rfl⟩ : ∃ m : Nat, a1 = (m : Int) := ⟨a1.toNat, by omega⟩
    obtain ⟨six, hsix⟩ := LE.kd_six (a := a0) (by omega)
    obtain ⟨hv1, hv2⟩ := hvs (by omega)
    subst hv1
    exact LE.learnSame_main six a0 mo vs Al cl A n c w K S N hsix (by omega) hn (by omega) hv2 hr hc hl
  · have PW := Lib.hid (show (decide (300 < (nl : Int)) = true) ∨ (decide (300 < (nl : Int)) = false ∧ decide (a0 < 5) = true) ∨ (decide (300 < (nl : Int)) = false ∧ decide (a0 < 5) = false ∧ decide (6 < a0) = true) ∨ (decide (300 < (nl : Int)) = false ∧ decide (a0 < 5) = false ∧ decide (6 < a0) = false ∧ decide (a1 < 0) = true) ∨ (decide (300 < (nl : Int)) = false ∧ decide (a0 < 5) = false ∧ decide (6 < a0) = false ∧ decide (a1 < 0) = false ∧ decide (1000 < a1) = true) from by
      simp only [decide_eq_true_eq, decide_eq_false_iff_not]; omega)
    have AW := Lib.hid (LE.awake_any w hl)
    have HC := Lib.hid hc
    have HN := Lib.hid hn
    have HR := Lib.hid hr
    unfold maxLen at hnl
    clear hc w0 w1 hok hn hr hl hz0 hz1 hvs wr
    rcases PW.out with e0 | ⟨e0, e1⟩ | ⟨e0, e1, e2⟩ | ⟨e0, e1, e2, e3⟩ | ⟨e0, e1, e2, e3, e4⟩
    all_goals
      clear PW
      go_enter Tryz.func9, Tryz.ntmps9
      go_wp2_with fail
      refine AW.out.mono ?_
      rintro e w0 ⟨rfl, hb0⟩
      have b0 := Lib.hid hb0; clear hb0
      go_wp2_with fail
      refine (LE.few_any A n c w0 S HN.out (fun i hi => (HR.out i hi).2) (fun h => by
        obtain ⟨g, o, h1, h2, h3, h4, h5⟩ := HC.out h
        exact ⟨g, o, h1, Nat.lt_of_lt_of_le h2 b0.out.size, h3, h4, fun i hi => (b0.out.cell (p := ⟨g, o + i * 3 + 1, none⟩) h2).trans (h5 i hi).2.1⟩)).mono ?_
      rintro e w0' ⟨t, rfl, rfl, ht⟩
      cases t with
      | false =>
        go_wp2_with fail
        go_ret
        exact ⟨rfl, b0.out⟩
      | true =>
        go_wp2_with fail
        go_ret
        exact ⟨rfl, b0.out⟩

namespace LLearnSame
set_option maxRecDepth 100000 in
theorem lifted (os : Os) (started : os.Started) (H : Type) (enc : TypeId × Value → H) :
    ReturnsInHanded {} Tryz.checked os 9 .any (fun w args => (Rows.learnSameSpec.pre enc Tryz.prog Tryz.f9 [] false w args ∧ laidMetH Tryz.prog seatLaid w) ∧ sizedMet enc Tryz.prog Tryz.f9 (OpenSpec.ofChange Rows.learnSameSpec) false w args)
      (Rows.learnSameSpec.post enc Tryz.prog Tryz.f9 false true false false) := by
  refine returnsInHanded_of_change_and (C := Tryz.checked) (X := fun w _ => laidMetH Tryz.prog seatLaid w) (fun _ _ _ hh h => h.of_heap hh) own started (by kernel_rfl) Tryz.func9
    (ChangeSpec.witness_at (enc := enc) (C := Tryz.checked) (os := os) (X := fun w _ => laidMetH Tryz.prog seatLaid w) false (laidWorld os) #[.int .i64 0, .int .i64 0, .slice none 0 0, .slice none 0 0] 8 rfl (by kernel_rfl) (by kernel_rfl) (by kernel_rfl) (by kernel_rfl) (by kernel_rfl) (laidWorld_met os _)) ?_
  intro W base args ds gs before hval0 hW _ _ hL _
  have hval : ∀ (j : Nat) t v, Tryz.f9.params[j]? = some t → args[j]? = some v → Value.okWide Tryz.prog W .any base t v := hval0
  have hW' := hW
  obtain ⟨p, q, hA0, hV, rfl, hfz, hnd⟩ := hW
  have hA : DataW.TrodAll enc Tryz.prog W 0 (fun _ => true) true Tryz.f9.params.toList args.toList ds p := hA0
  rw [Tryz.params9] at hA hval
  obtain ⟨v0, vs0, d0, ds0, p0, q0, hargs, rfl, rfl, h0, r0⟩ := trodAll_cons hA
  obtain ⟨v1, vs1, d1, ds1, p1, q1, rfl, rfl, rfl, h1, r1⟩ := trodAll_cons r0
  obtain ⟨v2, vs2, d2, ds2, p2, q2, rfl, rfl, rfl, h2, r2⟩ := trodAll_cons r1
  obtain ⟨v3, vs3, d3, ds3, p3, q3, rfl, rfl, rfl, h3, r3⟩ := trodAll_cons r2
  obtain ⟨rfl, rfl, rfl⟩ := trodAll_nil r3
  obtain rfl : args = #[v0, v1, v2, v3] := by cases args; simp_all
  obtain ⟨rfl, rfl⟩ := trodVars_none hV
  obtain ⟨a0, rfl, rfl, rfl, w0⟩ := open_int Tryz.underlying3 (hval 0 3 v0 rfl rfl) h0
  obtain ⟨a1, rfl, rfl, rfl, w1⟩ := open_int Tryz.underlying3 (hval 1 3 v1 rfl rfl) h1
  have k2 := h2
  have lt2 : ∀ x ∈ p2, x.block < W.heap.size := by obtain ⟨m, hm⟩ := k2; exact DataW.trod_lt m _ _ _ hm
  have w2 := open_r (hval 2 22 v2 rfl rfl) h2
  have k3 := h3
  have lt3 : ∀ x ∈ p3, x.block < W.heap.size := by obtain ⟨m, hm⟩ := k3; exact DataW.trod_lt m _ _ _ hm
  have w3 := open_a (hval 3 23 v3 rfl rfl) h3
  clear hA0 hval0
  refine (walk_learnSame a0 a1 v2 v3 W w0 w1 w2 w3 (laid_of hL)).mono fun e W' ⟨he, bel⟩ => ?_
  subst he
  exact ⟨_, rfl, _, _, _, [], _, [], hW', trodAll_mk1 (shut_bool Tryz.underlying4 _), (trodAll_cons_mk (shut_int Tryz.underlying3 w0) (trodAll_cons_mk (shut_int Tryz.underlying3 w1) (trodAll_cons_mk (Below.trod laidOut (by kernel_rfl) (of_decide_eq_true (by kernel_rfl)) k2 bel lt2) (trodAll_cons_mk (Below.trod laidOut (by kernel_rfl) (of_decide_eq_true (by kernel_rfl)) k3 bel lt3) trodAll_mk0)))), rfl, bel.frame _, fun h => by cases h⟩

theorem band {x y : Bool} (h : x = true) (k : y = true) : (x && y) = true := by rw [h, k]; rfl
set_option maxRecDepth 100000
theorem cj0 : (Rows.learnSameRow.wf (OpenSpec.ofChange Rows.learnSameSpec)) = true := by kernel_rfl
theorem cj1 : (laidOutB Tryz.pinned.checked.prog) = true := by kernel_rfl
theorem cj2 : (mapsRowed Tryz.pinned.checked.prog) = true := by kernel_rfl
theorem cj9 : (Rows.learnSameRow.inPlace == Tryz.pinned.checked.prog.inPlace 9) = true := by kernel_rfl
theorem cj10 : (Rows.learnSameRow.unfollowed == Tryz.pinned.checked.prog.unfollowed 9) = true := by kernel_rfl
theorem cj11 : (Rows.learnSameRow.recurses == Tryz.pinned.checked.prog.recurses 9) = true := by kernel_rfl
theorem cj12 : (Rows.learnSameRow.named == Tryz.pinned.checked.prog.varsNamed 9) = true := by kernel_rfl
theorem cj22 : (Rows.learnSameRow.plainKeys == Tryz.pinned.checked.prog.plainKeys) = true := by kernel_rfl
theorem cj24 : (Tryz.pinned.checked.prog.stopsHeard) = true := by kernel_rfl
theorem cj25 : (Tryz.pinned.checked.prog.mayEnter) = true := by kernel_rfl
theorem cj26 : (Rows.learnSameRow.lifted == Tryz.pinned.checked.prog.liftsFinal) = true := by kernel_rfl
theorem cj27 : (Tryz.pinned.checked.prog.make == some Rows.learnSameRow.make) = true := by kernel_rfl
theorem closed : joinedFacts Tryz.pinned.checked.prog 9 Tryz.f9 Rows.learnSameSpec Rows.learnSameRow = true := by
  unfold joinedFacts
  exact band (band (band (band (band (band (band (band (band (band (band (band (band (band (band (band (band (band (band (band (band (band (band (band (band (band (band (band (band (band (band (cj0) cj1) cj2) (by kernel_rfl)) (by kernel_rfl)) (by kernel_rfl)) (by kernel_rfl)) (by kernel_rfl)) (by kernel_rfl)) cj9) cj10) cj11) cj12) (by kernel_rfl)) (by kernel_rfl)) (by kernel_rfl)) (by kernel_rfl)) (by kernel_rfl)) (by kernel_rfl)) (by kernel_rfl)) (by kernel_rfl)) (by kernel_rfl)) cj22) (by kernel_rfl)) cj24) cj25) cj26) cj27) (by kernel_rfl)) (by kernel_rfl)) (by kernel_rfl)) (by kernel_rfl)
theorem fnm : Tryz.pinned.checked.prog.funcNamed "cachewise/cachewiselaw10.LearnSame" = some 9 := by kernel_rfl
theorem isIn : Tryz.f9.isInstance Tryz.pinned.checked.prog Rows.learnSameRow.origin Rows.learnSameRow.targs := of_decide_eq_true (by kernel_rfl)
theorem isWr : Tryz.f9.isWrapper Tryz.pinned.checked.prog Rows.learnSameRow.wrapper Rows.learnSameRow.mainSum := by unfold Func.isWrapper; rw [if_neg (of_decide_eq_false (by kernel_rfl))]; exact ⟨rfl, rfl⟩
theorem said : Rows.LearnSameSaid :=
  OpenClaim.holds_of_wide 9 Tryz.f9 rfl rfl rfl rfl rfl rfl rfl ⟨rfl, rfl, rfl, rfl, rfl⟩ rfl rfl rfl rfl rfl fnm Tryz.func9 closed isIn isWr
    (fun os started H enc _ => lifted os started H enc)

theorem hwT : Rows.learnSameRow.wfByText (OpenSpec.ofChange Rows.learnSameSpec) = true := by kernel_rfl
theorem mnI : Tryz.pinned.checked.prog.mainIs = some (Rows.learnSameCard.stood.harness.1, Rows.learnSameCard.stood.harness.2.toList) := by kernel_rfl
theorem lkT : Rows.learnSameCard.stood.looks = Tryz.pinned.checked.prog.looks [] := by kernel_rfl
theorem gsB : false = Rows.learnSameRow.goesBy Tryz.pinned.checked.prog := by kernel_rfl
theorem sia : Tryz.prog.wantsStandIn 23 = false := by kernel_rfl
theorem sii : Tryz.prog.wantsStandIn 3 = false := by kernel_rfl
theorem sir : Tryz.prog.wantsStandIn 22 = false := by kernel_rfl
theorem card : Rows.LearnSameCardSaid :=
  Claim7.holds_tied_plain_at .later [] _ _ _ _ said (fun _ h => by cases h) hwT (fun _ h => by cases h) learnSame_row_tie rfl ⟨rfl, rfl⟩ mnI rfl
    (fun f fn hf hfn => by
      obtain rfl : f = 9 := Option.some.inj (fnm.symm.trans hf) |>.symm
      obtain rfl : fn = Tryz.f9 := (Option.some.inj (Tryz.func9.symm.trans hfn)).symm
      refine ⟨lkT, fun j t ht => ?_⟩
      rw [Tryz.params9] at ht
      rcases j with _ | _ | _ | _ | j
      · obtain rfl : t = 3 := by simpa using ht.symm
        exact sii
      · obtain rfl : t = 3 := by simpa using ht.symm
        exact sii
      · obtain rfl : t = 22 := by simpa using ht.symm
        exact sir
      · obtain rfl : t = 23 := by simpa using ht.symm
        exact sia
      · simp at ht)
    gsB
#print axioms card
end LLearnSame
end Go.Proofs.YtnlckkahkghneaaGreatDoor
