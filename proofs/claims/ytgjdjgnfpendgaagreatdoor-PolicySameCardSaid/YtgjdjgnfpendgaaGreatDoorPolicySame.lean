/- 'cachewiselaw09.PolicySame' returns true for every kind, every size and every row of calls, and leaves what was there as it was. The listed variables read as the program's text lays them. -/
import Derived.Test.YtgjdjgnfpendgaaGreatDoorSm9
import Derived.Test.YtgjdjgnfpendgaaGreatDoorShapes9
import Derived.Test.YtgjdjgnfpendgaaGreatDoorCards
import Derived.Test.YtgjdjgnfpendgaaGreatDoorTie
import Derived.SevenTiedAt
import Derived.Deep.DeepCutAuto
import Derived.Deep.CutBlock
set_option maxRecDepth 20000
namespace Go.Proofs.YtgjdjgnfpendgaaGreatDoor
open Go.ChangeShapes Go.WideShapes Go.ChangeAt Go.RowKit Sg
open Go.ChangeMaps (open_string shut_string)

set_option maxHeartbeats 8000000 in
set_option maxRecDepth 100000 in
theorem policySame_main (kd mo : Nat) (A : Option Addr) (n cc : Nat) (w : World) (K : Nat → Int) (S : Nat → ByteArray) (N : Nat → Int) (hkd : kd < 5) (hmo : mo ≤ 1000) (hn : n ≤ maxLen) (hS : ∀ i, i < n → (-9223372036854775808 ≤ N i ∧ N i ≤ 9223372036854775807) ∧ (S i).size ≤ maxLen)
    (hc : 0 < n → ∃ g o, A = some ⟨g, o, none⟩ ∧ g < w.heap.size ∧ n ≤ cc ∧ cc ≤ maxLen ∧ ∀ i, i < n → w.cell? ⟨g, o + i * 3, none⟩ = some (.int .i64 (K i)) ∧ w.cell? ⟨g, o + i * 3 + 1, none⟩ = some (.string (S i)) ∧ w.cell? ⟨g, o + i * 3 + 2, none⟩ = some (.int .i64 (N i))) (hl : Laid w ∧ Named w) :
    Calls Tryz.prog 10 #[.int .i64 (kd : Int), .int .i64 (mo : Int), .slice A n cc] w (RetB true w) := by
  have AW := Lib.hid (awake_any w hl)
  have NW := Lib.hid (fun w1 => new_p w1 kd hkd mo (by omega))
  have g1 : decide ((kd : Int) < 0) = false := decide_eq_false (by omega)
  have g2 : decide (4 < (kd : Int)) = false := decide_eq_false (by omega)
  have g3 : decide ((mo : Int) < 0) = false := decide_eq_false (by omega)
  have g4 : decide (1000 < (mo : Int)) = false := decide_eq_false (by omega)
  have HC := Lib.hid hc
  have HS := Lib.hid hS
  have HN := Lib.hid hn
  have g34 := fun (w : World) => AR.guard34 (w := w)
  have q34 := fun (w : World) (a : Bool) (s : ByteArray) (b : Bool) => AR.neq34 (w := w) (a := a) (s := s) (b := b)
  clear hc hS hl hkd hn
  go_enter Tryz.func10, Tryz.ntmps10
  go_wp2_with fail
  refine AW.out.mono ?_
  rintro e w0 ⟨rfl, hb0⟩
  have b0 := Lib.hid hb0; clear hb0
  go_wp2_with fail
  refine (few_any A n cc w0 S HN.out (fun i hi => (HS.out i hi).2) (fun h => by
    obtain ⟨g, o, h1, h2, h3, h4, h5⟩ := HC.out h
    exact ⟨g, o, h1, Nat.lt_of_lt_of_le h2 b0.out.size, h3, h4, fun i hi => (b0.out.cell (p := ⟨g, o + i * 3 + 1, none⟩) h2).trans (h5 i hi).2.1⟩)).mono ?_
  rintro e w0' ⟨t, rfl, rfl, ht⟩
  cases t with
  | false =>
    go_wp2_with fail
    go_ret
    exact ⟨rfl, b0.out⟩
  | true =>
  have hn := ht rfl
  clear ht
  go_wp2_with fail
  refine (NW.out w0).mono ?_
  rintro e w1 ⟨p, U1, rfl, hC, hT, hB⟩
  have L1 := Lib.hid (PLive.made b0.out hC hT hB)
  clear hC hT hB b0
  go_wp2_with fail
  refine (NW.out w1).mono ?_
  rintro e w2 ⟨p2, U2, rfl, hC, hT, hB⟩
  have L2 := Lib.hid (show Pr2 w w2 p U1 (KSt.start kd mo) 0 p2 U2 (KSt.start kd mo) 0 from ⟨L1.out.below hB, PLive.made L1.out.bel hC hT hB, fun k h1 h2 => by have := L1.out.lt k h1; have := hT k h2; omega⟩)
  clear hC hT hB L1
  go_wp2_with fail
  clear g1 g2 g3 g4
  go_loopw [11] (fun i W => SmR w p p2 n kd mo i W) (fun i _ => n - (intOf i).toNat)
  case atStart => exact ⟨0, U1, U2, KSt.start kd mo, 0, rfl, Nat.zero_le _, Nat.le_refl _, L2.out⟩
  case round =>
    obtain ⟨k, U, U2, st, b, rfl, hk, hbk, hL⟩ := hrel
    have HL := Lib.hid hL
    clear hL L2
    by_cases hlt : k < n
    · have e0 : decide (k < n) = true := by simpa using hlt
      obtain ⟨g, o, rfl, hg, hc1, hc2, hcell⟩ := HC.out (by omega)
      have hc3 := hcell k hlt
      have h1 := (HL.out.one.bel.cell (p := ⟨g, o + k * 3, none⟩) hg).trans hc3.1
      have h2 := (HL.out.one.bel.cell (p := ⟨g, o + k * 3 + 1, none⟩) hg).trans hc3.2.1
      have h3 := (HL.out.one.bel.cell (p := ⟨g, o + k * 3 + 2, none⟩) hg).trans hc3.2.2
      have hsk := (HS.out k hlt).2
      clear hcell hc3
      unfold maxLen at hc2
      have S2 := Lib.hid (PA2.made HL.out (K k) (S k) (N k))
      have HSK := Lib.hid hsk
      clear hsk
      go_upto_region 13 with fail
      clear h1 h2 h3 HL
      generalize wr.alloc (.cells #[.int .i64 (K k), .string (S k), .int .i64 (N k)] 47) = w2 at S2 ⊢
      generalize wr.heap.size = ga at S2 ⊢
      generalize S k = key at S2 HSK ⊢
      generalize K k = kk at S2 ⊢
      generalize N k = nn at S2 ⊢
      go_wp2_with fail
      refine (keys_p w2 p U st b S2.out.pr.one.ca).mono ?_
      rintro e w3 ⟨v3, rfl, _, hB⟩
      have S3 := Lib.hid (S2.out.below hB)
      clear hB S2
      go_wp2_with fail
      refine (ghosts_p w3 p U st b S3.out.pr.one.ca).mono ?_
      rintro e w4 ⟨v4, rfl, _, hB⟩
      have S4 := Lib.hid (S3.out.below hB)
      clear hB S3
      go_wp2_with fail
      refine (victim_p w4 p U st b S4.out.pr.one.ca).mono ?_
      rintro e w5 ⟨rfl, hB⟩
      have S5 := Lib.hid (S4.out.below hB)
      clear hB S4
      obtain ⟨d0, d1, d2⟩ := S5.out.k
      generalize (.tuple #[.string st.vic, .bool st.any] : Value) = tv
      go_wp2_with fail
      refine (has_p w5 p U st b key S5.out.pr.one.ca HSK.out).mono ?_
      rintro e w6 ⟨rfl, hB⟩
      have S6 := Lib.hid (S5.out.below hB)
      clear hB S5 d0 d1 d2
      generalize (.bool (st.has key) : Value) = tb
      by_cases k0 : kk = 0
      · subst k0
        have TE : st.step key = .agg #[.bool (st.tell key).1, .string (st.tell key).2.1, .bool (st.tell key).2.2] := rfl
        obtain ⟨t1, h1⟩ : ∃ x, x = (st.tell key).1 := ⟨_, rfl⟩
        obtain ⟨t2, h2⟩ : ∃ x, x = (st.tell key).2.1 := ⟨_, rfl⟩
        obtain ⟨t3, h3⟩ : ∃ x, x = (st.tell key).2.2 := ⟨_, rfl⟩
        rw [← h1, ← h2, ← h3] at TE
        have TE := Lib.hid TE
        clear h1 h2 h3
        have D6 := Lib.hid (S6.out.below (show Below w6.heap.size w6 w6.drew from ⟨rfl, rfl, rfl, Nat.le_refl _, fun _ _ => rfl⟩))
        obtain ⟨d0, d1, d2⟩ := S6.out.k
        have U1 := (show Calls Tryz.prog 17 #[.pointer (some ⟨p, 0, none⟩), .string key] w6.drew (PPost (.agg #[.bool t1, .string t2, .bool t3]) w6.drew p U (st.req key) (b + 1)) from by have := request_p w6.drew p U st b key D6.out.pr.one.ca HSK.out (by omega); rw [TE.out] at this; exact this)
        have U1 := Lib.hid U1
        have V2 := Lib.hid (fun (W : World) (h : Pc W p2 U2 st b) => show Calls Tryz.prog 17 #[.pointer (some ⟨p2, 0, none⟩), .string key] W (PPost (.agg #[.bool t1, .string t2, .bool t3]) W p2 U2 (st.req key) (b + 1)) from by have := request_p W p2 U2 st b key h HSK.out (by omega); rw [TE.out] at this; exact this)
        go_wp2_with fail
        refine wp_region_noPanic ?_
        refine wp_region_held_drew (S := fun w' => w'.cell? ⟨ga, 1, none⟩ = some (.string key)) (by kernel_rfl) ?_ (fun hHeld => ?_)
        · exact d1
        clear d0 d1 d2
        refine wpAnyH_take (i := 0) (oi := { dst := some 88, op := Go.Op.move (Go.Operand.tmp 7), type := 25, pos := "law.go:297", after := #[], guard := none }) (v := ?_) rfl (by kernel_rfl) (by kernel_rfl) (by kernel_rfl) (fun _ _ _ h => h) (Or.inl ⟨by rfl, ?_⟩) (by assumption) ?_
        rotate_left
        · (intro w hSw; (try dsimp only at hSw); go_simp; (try with_reducible rfl))
        (try simp only [Act.put, List.setIfInBounds_toArray, List.set_cons_zero, List.set_cons_succ])
        refine wpAnyH_take (i := 1) (oi := { dst := some 89, op := Go.Op.fieldAddr 47 (Go.Operand.tmp 12) 1, type := 0, pos := "law.go:297", after := #[], guard := none }) (v := ?_) rfl (by kernel_rfl) (by kernel_rfl) (by kernel_rfl) (fun _ _ _ h => h) (Or.inl ⟨by rfl, ?_⟩) (by assumption) ?_
        rotate_left
        · (intro w hSw; (try dsimp only at hSw); go_simp; (try with_reducible rfl))
        (try simp only [Act.put, List.setIfInBounds_toArray, List.set_cons_zero, List.set_cons_succ])
        refine wpAnyH_take (i := 2) (oi := { dst := some 90, op := Go.Op.load 9 (Go.Operand.tmp 89), type := 9, pos := "law.go:297", after := #[{ on := 1, ground := Go.Ground.data }], guard := none }) (v := ?_) rfl (by kernel_rfl) (by kernel_rfl) (by kernel_rfl) (fun _ _ _ h => h) (Or.inl ⟨by rfl, ?_⟩) (by assumption) ?_
        rotate_left
        · (intro w hSw; (try dsimp only at hSw); go_simp; (try with_reducible rfl))
        (try simp only [Act.put, List.setIfInBounds_toArray, List.set_cons_zero, List.set_cons_succ])
        refine wpAnyH_take (i := 4) (oi := { dst := some 92, op := Go.Op.move (Go.Operand.tmp 9), type := 25, pos := "law.go:297", after := #[], guard := none }) (v := ?_) rfl (by kernel_rfl) (by kernel_rfl) (by kernel_rfl) (fun _ _ _ h => h) (Or.inl ⟨by rfl, ?_⟩) (by assumption) ?_
        rotate_left
        · (intro w hSw; (try dsimp only at hSw); go_simp; (try with_reducible rfl))
        (try simp only [Act.put, List.setIfInBounds_toArray, List.set_cons_zero, List.set_cons_succ])
        refine wpAnyH_take (i := 5) (oi := { dst := some 93, op := Go.Op.fieldAddr 47 (Go.Operand.tmp 12) 1, type := 0, pos := "law.go:297", after := #[], guard := none }) (v := ?_) rfl (by kernel_rfl) (by kernel_rfl) (by kernel_rfl) (fun _ _ _ h => h) (Or.inl ⟨by rfl, ?_⟩) (by assumption) ?_
        rotate_left
        · (intro w hSw; (try dsimp only at hSw); go_simp; (try with_reducible rfl))
        (try simp only [Act.put, List.setIfInBounds_toArray, List.set_cons_zero, List.set_cons_succ])
        refine wpAnyH_take (i := 6) (oi := { dst := some 94, op := Go.Op.load 9 (Go.Operand.tmp 93), type := 9, pos := "law.go:297", after := #[{ on := 5, ground := Go.Ground.data }], guard := none }) (v := ?_) rfl (by kernel_rfl) (by kernel_rfl) (by kernel_rfl) (fun _ _ _ h => h) (Or.inl ⟨by rfl, ?_⟩) (by assumption) ?_
        rotate_left
        · (intro w hSw; (try dsimp only at hSw); go_simp; (try with_reducible rfl))
        (try simp only [Act.put, List.setIfInBounds_toArray, List.set_cons_zero, List.set_cons_succ])
        refine wpAnyH_ready (rs := [3]) (by kernel_rfl) (by simp) ?_
        refine AllReadyH.cons (o := { dst := some 91, op := Go.Op.call { callee := Go.Callee.value (Go.Operand.func 17), args := #[Go.Operand.tmp 88, Go.Operand.tmp 90], argTypes := #[25, 9] }, type := 49, pos := "law.go:297", after := #[{ on := 0, ground := Go.Ground.data }, { on := 2, ground := Go.Ground.data }], guard := none }) rfl (fun K hK => ?_) AllReadyH.nil
        go_simp
        refine U1.out.mono ?_
        intro e w7 hp
        obtain ⟨rfl, U7, h7⟩ := D6.out.op1 hp
        have S7 := Lib.hid h7
        clear hp h7 U1
        go_wp2_with fail
        refine hK.out _ _ ?_ (fun hHeld => ?_)
        · exact S7.out.k.2.1
        clear hK K
        (try simp only [Act.put, List.setIfInBounds_toArray, List.set_cons_zero, List.set_cons_succ])
        refine wpAnyH_ready (rs := [7]) (by kernel_rfl) (by simp) ?_
        refine AllReadyH.cons (o := { dst := some 95, op := Go.Op.call { callee := Go.Callee.value (Go.Operand.func 17), args := #[Go.Operand.tmp 92, Go.Operand.tmp 94], argTypes := #[25, 9] }, type := 49, pos := "law.go:297", after := #[{ on := 4, ground := Go.Ground.data }, { on := 6, ground := Go.Ground.data }, { on := 3, ground := Go.Ground.chain }], guard := none }) rfl (fun K hK => ?_) AllReadyH.nil
        go_simp
        refine (V2.out _ S7.out.pr.two.ca).mono ?_
        intro e w8 hp
        obtain ⟨rfl, U8, h8⟩ := S7.out.op2 hp
        have S8 := Lib.hid h8
        clear hp h8
        go_wp2_with fail
        refine hK.out _ _ ?_ (fun hHeld => ?_)
        · exact S8.out.k.2.1
        clear hK K
        (try simp only [Act.put, List.setIfInBounds_toArray, List.set_cons_zero, List.set_cons_succ])
        refine wpAnyH_take (i := 8) (oi := { dst := some 96, op := Go.Op.binOp Go.BinOp.neq 49 (Go.Operand.tmp 91) (Go.Operand.tmp 95) 49, type := 4, pos := "law.go:297", after := #[{ on := 3, ground := Go.Ground.data }, { on := 7, ground := Go.Ground.data }], guard := none }) (v := ?_) rfl (by kernel_rfl) (by kernel_rfl) (by kernel_rfl) (fun _ _ _ h => h) (Or.inl ⟨by rfl, ?_⟩) (by assumption) ?_
        rotate_left
        · (intro w hSw; (try dsimp only at hSw); go_simp; (try with_reducible rfl))
        (try simp only [Act.put, List.setIfInBounds_toArray, List.set_cons_zero, List.set_cons_succ])
        refine wpAnyH_done (by kernel_rfl) ?_ _
        refine NoPanic.normal ?_
        go_wp2_with fail
        go_roundw
        case rel => exact ⟨k + 1, U7, U8, st.req key, b + 1, by go_num, by omega, by omega, S8.out.pr⟩
        case measure => simp [intOf]; omega
      by_cases k1 : kk = 1
      · subst k1
        clear k0
        obtain ⟨hv1, hv⟩ : ∃ x, st.has key = x := ⟨_, rfl⟩
        have HV := Lib.hid hv
        clear hv
        have D6 := Lib.hid (S6.out.below (show Below w6.heap.size w6 w6.drew from ⟨rfl, rfl, rfl, Nat.le_refl _, fun _ _ => rfl⟩))
        obtain ⟨d0, d1, d2⟩ := S6.out.k
        have U1 := (show Calls Tryz.prog 18 #[.pointer (some ⟨p, 0, none⟩), .string key] w6.drew (PPost (.bool hv1) w6.drew p U (st.rm key) (b)) from by have := remove_p w6.drew p U st b key D6.out.pr.one.ca HSK.out; rw [HV.out] at this; exact this)
        have U1 := Lib.hid U1
        have V2 := Lib.hid (fun (W : World) (h : Pc W p2 U2 st b) => show Calls Tryz.prog 18 #[.pointer (some ⟨p2, 0, none⟩), .string key] W (PPost (.bool hv1) W p2 U2 (st.rm key) (b)) from by have := remove_p W p2 U2 st b key h HSK.out; rw [HV.out] at this; exact this)
        go_wp2_with fail
        refine wp_region_noPanic ?_
        refine wp_region_held_drew (S := fun w' => w'.cell? ⟨ga, 1, none⟩ = some (.string key)) (by kernel_rfl) ?_ (fun hHeld => ?_)
        · exact d1
        clear d0 d1 d2
        refine wpAnyH_take (i := 0) (oi := { dst := some 99, op := Go.Op.move (Go.Operand.tmp 7), type := 25, pos := "law.go:301", after := #[], guard := none }) (v := ?_) rfl (by kernel_rfl) (by kernel_rfl) (by kernel_rfl) (fun _ _ _ h => h) (Or.inl ⟨by rfl, ?_⟩) (by assumption) ?_
        rotate_left
        · (intro w hSw; (try dsimp only at hSw); go_simp; (try with_reducible rfl))
        (try simp only [Act.put, List.setIfInBounds_toArray, List.set_cons_zero, List.set_cons_succ])
        refine wpAnyH_take (i := 1) (oi := { dst := some 100, op := Go.Op.fieldAddr 47 (Go.Operand.tmp 12) 1, type := 0, pos := "law.go:301", after := #[], guard := none }) (v := ?_) rfl (by kernel_rfl) (by kernel_rfl) (by kernel_rfl) (fun _ _ _ h => h) (Or.inl ⟨by rfl, ?_⟩) (by assumption) ?_
        rotate_left
        · (intro w hSw; (try dsimp only at hSw); go_simp; (try with_reducible rfl))
        (try simp only [Act.put, List.setIfInBounds_toArray, List.set_cons_zero, List.set_cons_succ])
        refine wpAnyH_take (i := 2) (oi := { dst := some 101, op := Go.Op.load 9 (Go.Operand.tmp 100), type := 9, pos := "law.go:301", after := #[{ on := 1, ground := Go.Ground.data }], guard := none }) (v := ?_) rfl (by kernel_rfl) (by kernel_rfl) (by kernel_rfl) (fun _ _ _ h => h) (Or.inl ⟨by rfl, ?_⟩) (by assumption) ?_
        rotate_left
        · (intro w hSw; (try dsimp only at hSw); go_simp; (try with_reducible rfl))
        (try simp only [Act.put, List.setIfInBounds_toArray, List.set_cons_zero, List.set_cons_succ])
        refine wpAnyH_take (i := 4) (oi := { dst := some 103, op := Go.Op.move (Go.Operand.tmp 9), type := 25, pos := "law.go:301", after := #[], guard := none }) (v := ?_) rfl (by kernel_rfl) (by kernel_rfl) (by kernel_rfl) (fun _ _ _ h => h) (Or.inl ⟨by rfl, ?_⟩) (by assumption) ?_
        rotate_left
        · (intro w hSw; (try dsimp only at hSw); go_simp; (try with_reducible rfl))
        (try simp only [Act.put, List.setIfInBounds_toArray, List.set_cons_zero, List.set_cons_succ])
        refine wpAnyH_take (i := 5) (oi := { dst := some 104, op := Go.Op.fieldAddr 47 (Go.Operand.tmp 12) 1, type := 0, pos := "law.go:301", after := #[], guard := none }) (v := ?_) rfl (by kernel_rfl) (by kernel_rfl) (by kernel_rfl) (fun _ _ _ h => h) (Or.inl ⟨by rfl, ?_⟩) (by assumption) ?_
        rotate_left
        · (intro w hSw; (try dsimp only at hSw); go_simp; (try with_reducible rfl))
        (try simp only [Act.put, List.setIfInBounds_toArray, List.set_cons_zero, List.set_cons_succ])
        refine wpAnyH_take (i := 6) (oi := { dst := some 105, op := Go.Op.load 9 (Go.Operand.tmp 104), type := 9, pos := "law.go:301", after := #[{ on := 5, ground := Go.Ground.data }], guard := none }) (v := ?_) rfl (by kernel_rfl) (by kernel_rfl) (by kernel_rfl) (fun _ _ _ h => h) (Or.inl ⟨by rfl, ?_⟩) (by assumption) ?_
        rotate_left
        · (intro w hSw; (try dsimp only at hSw); go_simp; (try with_reducible rfl))
        (try simp only [Act.put, List.setIfInBounds_toArray, List.set_cons_zero, List.set_cons_succ])
        refine wpAnyH_ready (rs := [3]) (by kernel_rfl) (by simp) ?_
        refine AllReadyH.cons (o := { dst := some 102, op := Go.Op.call { callee := Go.Callee.value (Go.Operand.func 18), args := #[Go.Operand.tmp 99, Go.Operand.tmp 101], argTypes := #[25, 9] }, type := 4, pos := "law.go:301", after := #[{ on := 0, ground := Go.Ground.data }, { on := 2, ground := Go.Ground.data }], guard := none }) rfl (fun K hK => ?_) AllReadyH.nil
        go_simp
        refine U1.out.mono ?_
        intro e w7 hp
        obtain ⟨rfl, U7, h7⟩ := D6.out.op1 hp
        have S7 := Lib.hid h7
        clear hp h7 U1
        go_wp2_with fail
        refine hK.out _ _ ?_ (fun hHeld => ?_)
        · exact S7.out.k.2.1
        clear hK K
        (try simp only [Act.put, List.setIfInBounds_toArray, List.set_cons_zero, List.set_cons_succ])
        refine wpAnyH_ready (rs := [7]) (by kernel_rfl) (by simp) ?_
        refine AllReadyH.cons (o := { dst := some 106, op := Go.Op.call { callee := Go.Callee.value (Go.Operand.func 18), args := #[Go.Operand.tmp 103, Go.Operand.tmp 105], argTypes := #[25, 9] }, type := 4, pos := "law.go:301", after := #[{ on := 4, ground := Go.Ground.data }, { on := 6, ground := Go.Ground.data }, { on := 3, ground := Go.Ground.chain }], guard := none }) rfl (fun K hK => ?_) AllReadyH.nil
        go_simp
        refine (V2.out _ S7.out.pr.two.ca).mono ?_
        intro e w8 hp
        obtain ⟨rfl, U8, h8⟩ := S7.out.op2 hp
        have S8 := Lib.hid h8
        clear hp h8
        go_wp2_with fail
        refine hK.out _ _ ?_ (fun hHeld => ?_)
        · exact S8.out.k.2.1
        clear hK K
        (try simp only [Act.put, List.setIfInBounds_toArray, List.set_cons_zero, List.set_cons_succ])
        refine wpAnyH_take (i := 8) (oi := { dst := some 107, op := Go.Op.binOp Go.BinOp.neq 4 (Go.Operand.tmp 102) (Go.Operand.tmp 106) 4, type := 4, pos := "law.go:301", after := #[{ on := 3, ground := Go.Ground.data }, { on := 7, ground := Go.Ground.data }], guard := none }) (v := ?_) rfl (by kernel_rfl) (by kernel_rfl) (by kernel_rfl) (fun _ _ _ h => h) (Or.inl ⟨by rfl, ?_⟩) (by assumption) ?_
        rotate_left
        · (intro w hSw; (try dsimp only at hSw); go_simp; (try with_reducible rfl))
        (try simp only [Act.put, List.setIfInBounds_toArray, List.set_cons_zero, List.set_cons_succ])
        refine wpAnyH_done (by kernel_rfl) ?_ _
        refine NoPanic.normal ?_
        go_wp2_with fail
        go_roundw
        case rel => exact ⟨k + 1, U7, U8, st.rm key, b, by go_num, by omega, by omega, S8.out.pr⟩
        case measure => simp [intOf]; omega
      by_cases k2 : kk = 2
      · subst k2
        clear k0 k1
        obtain ⟨hv1, hv⟩ : ∃ x, st.adB key = x := ⟨_, rfl⟩
        have HV := Lib.hid hv
        clear hv
        have D6 := Lib.hid (S6.out.below (show Below w6.heap.size w6 w6.drew from ⟨rfl, rfl, rfl, Nat.le_refl _, fun _ _ => rfl⟩))
        obtain ⟨d0, d1, d2⟩ := S6.out.k
        have U1 := (show Calls Tryz.prog 22 #[.pointer (some ⟨p, 0, none⟩), .string key] w6.drew (PPost (.bool hv1) w6.drew p U (st.ad key) (b + 1)) from by have := adopt_p w6.drew p U st b key D6.out.pr.one.ca HSK.out (by omega); rw [HV.out] at this; exact this)
        have U1 := Lib.hid U1
        have V2 := Lib.hid (fun (W : World) (h : Pc W p2 U2 st b) => show Calls Tryz.prog 22 #[.pointer (some ⟨p2, 0, none⟩), .string key] W (PPost (.bool hv1) W p2 U2 (st.ad key) (b + 1)) from by have := adopt_p W p2 U2 st b key h HSK.out (by omega); rw [HV.out] at this; exact this)
        go_wp2_with fail
        refine wp_region_noPanic ?_
        refine wp_region_held_drew (S := fun w' => w'.cell? ⟨ga, 1, none⟩ = some (.string key)) (by kernel_rfl) ?_ (fun hHeld => ?_)
        · exact d1
        clear d0 d1 d2
        refine wpAnyH_take (i := 0) (oi := { dst := some 110, op := Go.Op.move (Go.Operand.tmp 7), type := 25, pos := "law.go:305", after := #[], guard := none }) (v := ?_) rfl (by kernel_rfl) (by kernel_rfl) (by kernel_rfl) (fun _ _ _ h => h) (Or.inl ⟨by rfl, ?_⟩) (by assumption) ?_
        rotate_left
        · (intro w hSw; (try dsimp only at hSw); go_simp; (try with_reducible rfl))
        (try simp only [Act.put, List.setIfInBounds_toArray, List.set_cons_zero, List.set_cons_succ])
        refine wpAnyH_take (i := 1) (oi := { dst := some 111, op := Go.Op.fieldAddr 47 (Go.Operand.tmp 12) 1, type := 0, pos := "law.go:305", after := #[], guard := none }) (v := ?_) rfl (by kernel_rfl) (by kernel_rfl) (by kernel_rfl) (fun _ _ _ h => h) (Or.inl ⟨by rfl, ?_⟩) (by assumption) ?_
        rotate_left
        · (intro w hSw; (try dsimp only at hSw); go_simp; (try with_reducible rfl))
        (try simp only [Act.put, List.setIfInBounds_toArray, List.set_cons_zero, List.set_cons_succ])
        refine wpAnyH_take (i := 2) (oi := { dst := some 112, op := Go.Op.load 9 (Go.Operand.tmp 111), type := 9, pos := "law.go:305", after := #[{ on := 1, ground := Go.Ground.data }], guard := none }) (v := ?_) rfl (by kernel_rfl) (by kernel_rfl) (by kernel_rfl) (fun _ _ _ h => h) (Or.inl ⟨by rfl, ?_⟩) (by assumption) ?_
        rotate_left
        · (intro w hSw; (try dsimp only at hSw); go_simp; (try with_reducible rfl))
        (try simp only [Act.put, List.setIfInBounds_toArray, List.set_cons_zero, List.set_cons_succ])
        refine wpAnyH_take (i := 4) (oi := { dst := some 114, op := Go.Op.move (Go.Operand.tmp 9), type := 25, pos := "law.go:305", after := #[], guard := none }) (v := ?_) rfl (by kernel_rfl) (by kernel_rfl) (by kernel_rfl) (fun _ _ _ h => h) (Or.inl ⟨by rfl, ?_⟩) (by assumption) ?_
        rotate_left
        · (intro w hSw; (try dsimp only at hSw); go_simp; (try with_reducible rfl))
        (try simp only [Act.put, List.setIfInBounds_toArray, List.set_cons_zero, List.set_cons_succ])
        refine wpAnyH_take (i := 5) (oi := { dst := some 115, op := Go.Op.fieldAddr 47 (Go.Operand.tmp 12) 1, type := 0, pos := "law.go:305", after := #[], guard := none }) (v := ?_) rfl (by kernel_rfl) (by kernel_rfl) (by kernel_rfl) (fun _ _ _ h => h) (Or.inl ⟨by rfl, ?_⟩) (by assumption) ?_
        rotate_left
        · (intro w hSw; (try dsimp only at hSw); go_simp; (try with_reducible rfl))
        (try simp only [Act.put, List.setIfInBounds_toArray, List.set_cons_zero, List.set_cons_succ])
        refine wpAnyH_take (i := 6) (oi := { dst := some 116, op := Go.Op.load 9 (Go.Operand.tmp 115), type := 9, pos := "law.go:305", after := #[{ on := 5, ground := Go.Ground.data }], guard := none }) (v := ?_) rfl (by kernel_rfl) (by kernel_rfl) (by kernel_rfl) (fun _ _ _ h => h) (Or.inl ⟨by rfl, ?_⟩) (by assumption) ?_
        rotate_left
        · (intro w hSw; (try dsimp only at hSw); go_simp; (try with_reducible rfl))
        (try simp only [Act.put, List.setIfInBounds_toArray, List.set_cons_zero, List.set_cons_succ])
        refine wpAnyH_ready (rs := [3]) (by kernel_rfl) (by simp) ?_
        refine AllReadyH.cons (o := { dst := some 113, op := Go.Op.call { callee := Go.Callee.value (Go.Operand.func 22), args := #[Go.Operand.tmp 110, Go.Operand.tmp 112], argTypes := #[25, 9] }, type := 4, pos := "law.go:305", after := #[{ on := 0, ground := Go.Ground.data }, { on := 2, ground := Go.Ground.data }], guard := none }) rfl (fun K hK => ?_) AllReadyH.nil
        go_simp
        refine U1.out.mono ?_
        intro e w7 hp
        obtain ⟨rfl, U7, h7⟩ := D6.out.op1 hp
        have S7 := Lib.hid h7
        clear hp h7 U1
        go_wp2_with fail
        refine hK.out _ _ ?_ (fun hHeld => ?_)
        · exact S7.out.k.2.1
        clear hK K
        (try simp only [Act.put, List.setIfInBounds_toArray, List.set_cons_zero, List.set_cons_succ])
        refine wpAnyH_ready (rs := [7]) (by kernel_rfl) (by simp) ?_
        refine AllReadyH.cons (o := { dst := some 117, op := Go.Op.call { callee := Go.Callee.value (Go.Operand.func 22), args := #[Go.Operand.tmp 114, Go.Operand.tmp 116], argTypes := #[25, 9] }, type := 4, pos := "law.go:305", after := #[{ on := 4, ground := Go.Ground.data }, { on := 6, ground := Go.Ground.data }, { on := 3, ground := Go.Ground.chain }], guard := none }) rfl (fun K hK => ?_) AllReadyH.nil
        go_simp
        refine (V2.out _ S7.out.pr.two.ca).mono ?_
        intro e w8 hp
        obtain ⟨rfl, U8, h8⟩ := S7.out.op2 hp
        have S8 := Lib.hid h8
        clear hp h8
        go_wp2_with fail
        refine hK.out _ _ ?_ (fun hHeld => ?_)
        · exact S8.out.k.2.1
        clear hK K
        (try simp only [Act.put, List.setIfInBounds_toArray, List.set_cons_zero, List.set_cons_succ])
        refine wpAnyH_take (i := 8) (oi := { dst := some 118, op := Go.Op.binOp Go.BinOp.neq 4 (Go.Operand.tmp 113) (Go.Operand.tmp 117) 4, type := 4, pos := "law.go:305", after := #[{ on := 3, ground := Go.Ground.data }, { on := 7, ground := Go.Ground.data }], guard := none }) (v := ?_) rfl (by kernel_rfl) (by kernel_rfl) (by kernel_rfl) (fun _ _ _ h => h) (Or.inl ⟨by rfl, ?_⟩) (by assumption) ?_
        rotate_left
        · (intro w hSw; (try dsimp only at hSw); go_simp; (try with_reducible rfl))
        (try simp only [Act.put, List.setIfInBounds_toArray, List.set_cons_zero, List.set_cons_succ])
        refine wpAnyH_done (by kernel_rfl) ?_ _
        refine NoPanic.normal ?_
        go_wp2_with fail
        go_roundw
        case rel => exact ⟨k + 1, U7, U8, st.ad key, b + 1, by go_num, by omega, by omega, S8.out.pr⟩
        case measure => simp [intOf]; omega
      by_cases k3 : kk = 3
      · subst k3
        clear k0 k1 k2
        obtain ⟨vk, hv⟩ : ∃ x, st.vic = x := ⟨_, rfl⟩
        obtain ⟨va, hw⟩ : ∃ x, st.any = x := ⟨_, rfl⟩
        have HV := Lib.hid (And.intro hv hw)
        clear hv hw
        obtain ⟨d0, d1, d2⟩ := S6.out.k
        have U1 := (show Calls Tryz.prog 23 #[.pointer (some ⟨p, 0, none⟩)] w6 (PPost (.tuple #[.string vk, .bool va]) w6 p U st.dr b) from by have := drop_p w6 p U st b S6.out.pr.one.ca; rw [HV.out.1, HV.out.2] at this; exact this)
        have U1 := Lib.hid U1
        go_wp2_with fail
        refine U1.out.mono ?_
        intro e w7 hp
        obtain ⟨rfl, U7, h7⟩ := S6.out.op1 hp
        have S7 := Lib.hid h7
        clear hp h7 U1 d0 d1 d2
        obtain ⟨d0, d1, d2⟩ := S7.out.k
        have U2' := (show Calls Tryz.prog 23 #[.pointer (some ⟨p2, 0, none⟩)] w7 (PPost (.tuple #[.string vk, .bool va]) w7 p2 U2 st.dr b) from by have := drop_p w7 p2 U2 st b S7.out.pr.two.ca; rw [HV.out.1, HV.out.2] at this; exact this)
        have U2' := Lib.hid U2'
        go_wp2_with fail
        refine U2'.out.mono ?_
        intro e w8 hp
        obtain ⟨rfl, U8, h8⟩ := S7.out.op2 hp
        have S8 := Lib.hid h8
        clear hp h8 U2' S7 d0 d1 d2
        go_wp2_with fail
        go_roundw
        case rel => exact ⟨k + 1, U7, U8, st.dr, b, by go_num, by omega, by omega, S8.out.pr⟩
        case measure => simp [intOf]; omega
      obtain ⟨d0, d1, d2⟩ := S6.out.k
      go_wp2_with fail
      go_roundw
      case rel => exact ⟨k + 1, U, U2, st, b, by go_num, by omega, by omega, S6.out.pr⟩
      case measure => simp [intOf]; omega
    · have e0 : decide (k < n) = false := by simpa using hlt
      go_wp2_with fail
      refine (keys_p wr p U st b HL.out.one.ca).mono ?_
      rintro e w3 ⟨v3, rfl, hO3, hB⟩
      have L3 := Lib.hid (HL.out.below hB)
      have M3 := Lib.hid (PMine.made hO3 HL.out.one.ca)
      clear hB HL hO3
      go_wp2_with fail
      refine (keys_p w3 p2 U2 st b L3.out.two.ca).mono ?_
      rintro e w4 ⟨v4, rfl, hO4, hB⟩
      have L4 := Lib.hid (L3.out.below hB)
      obtain ⟨g3, hr3⟩ := (M3.out.below hB).row
      obtain ⟨g4, _, hr4⟩ := hO4.row
      have V5 := refSame_any w4 g3 g4 v3 v4 _ _ hr3 hr4
      rw [decide_eq_true rfl] at V5
      have V5 := Lib.hid V5
      clear hB L3 M3 hr3 hr4 hO4
      go_wp2_with fail
      refine V5.out.mono ?_
      rintro e w5 ⟨rfl, n5, hn5⟩
      have L5 := Lib.hid (L4.out.below (hn5 ▸ AR.below_drewN w4 n5))
      clear V5 L4 hn5
      go_wp2_with fail
      refine (ghosts_p w5 p U st b L5.out.one.ca).mono ?_
      rintro e w6 ⟨v6, rfl, hO6, hB⟩
      have L6 := Lib.hid (L5.out.below hB)
      have M6 := Lib.hid (PMine.made hO6 L5.out.one.ca)
      clear hB L5 hO6
      go_wp2_with fail
      refine (ghosts_p w6 p2 U2 st b L6.out.two.ca).mono ?_
      rintro e w7 ⟨v7, rfl, hO7, hB⟩
      have L7 := Lib.hid (L6.out.below hB)
      obtain ⟨g6, hr6⟩ := (M6.out.below hB).row
      obtain ⟨g7, _, hr7⟩ := hO7.row
      have V8 := refSame_any w7 g6 g7 v6 v7 _ _ hr6 hr7
      rw [decide_eq_true rfl] at V8
      have V8 := Lib.hid V8
      clear hB L6 M6 hr6 hr7 hO7
      go_wp2_with fail
      refine V8.out.mono ?_
      rintro e w8 ⟨rfl, n8, hn8⟩
      have L8 := Lib.hid (L7.out.below (hn8 ▸ AR.below_drewN w7 n8))
      clear V8 L7 hn8
      go_wp2_with fail
      go_ret
      exact ⟨rfl, L8.out.one.bel⟩

theorem walk_policySame (a0 a1 : Int) (v2 : Value) (w : World) (w0 : (Lit.int .i64 a0).wf = true) (w1 : (Lit.int .i64 a1).wf = true) (wk : CameA w v2) (hl : Laid w ∧ Named w) : Calls Tryz.prog 10 #[.int .i64 a0, .int .i64 a1, v2] w (RetB true w) := by
  obtain ⟨A, n, c, rfl, hn, K, S, N, hr, hc⟩ := wk
  have hz0 := i64_rng w0
  have hz1 := i64_rng w1
  by_cases hok : 0 ≤ a0 ∧ a0 ≤ 4 ∧ 0 ≤ a1 ∧ a1 ≤ 1000
  · obtain ⟨q0, q1, q2, q3⟩ := hok
    obtain ⟨kd, rfl⟩ : ∃ m : Nat, a0 = (m : Int) := ⟨a0.toNat, by omega⟩
    obtain ⟨mo, rfl⟩ : ∃ m : Nat, a1 = (m : Int) := ⟨a1.toNat, by omega⟩
    exact policySame_main kd mo A n c w K S N (by omega) (by omega) hn hr hc hl
  · have PW := Lib.hid (show (decide (a0 < 0) = true) ∨ (decide (a0 < 0) = false ∧ decide (4 < a0) = true) ∨ (decide (a0 < 0) = false ∧ decide (4 < a0) = false ∧ decide (a1 < 0) = true) ∨ (decide (a0 < 0) = false ∧ decide (4 < a0) = false ∧ decide (a1 < 0) = false ∧ decide (1000 < a1) = true) from by
      simp only [decide_eq_true_eq, decide_eq_false_iff_not]; omega)
    have AW := Lib.hid (awake_any w hl)
    have HC := Lib.hid hc
    have HN := Lib.hid hn
    have HR := Lib.hid hr
    clear hc w0 w1 hok hn hr hl hz0 hz1
    rcases PW.out with e0 | ⟨e0, e1⟩ | ⟨e0, e1, e2⟩ | ⟨e0, e1, e2, e3⟩
    all_goals
      clear PW
      go_enter Tryz.func10, Tryz.ntmps10
      go_wp2_with fail
      refine AW.out.mono ?_
      rintro e w0 ⟨rfl, hb0⟩
      have b0 := Lib.hid hb0; clear hb0
      go_wp2_with fail
      refine (few_any A n c w0 S HN.out (fun i hi => (HR.out i hi).2) (fun h => by
        obtain ⟨g, o, h1, h2, h3, h4, h5⟩ := HC.out h
        exact ⟨g, o, h1, Nat.lt_of_lt_of_le h2 b0.out.size, h3, h4, fun i hi => (b0.out.cell (p := ⟨g, o + i * 3 + 1, none⟩) h2).trans (h5 i hi).2.1⟩)).mono ?_
      rintro e w0' ⟨t, rfl, rfl, ht⟩
      cases t with
      | false =>
        go_wp2_with fail
        go_ret
        exact ⟨rfl, b0.out⟩
      | true =>
        go_wp2_with fail
        go_ret
        exact ⟨rfl, b0.out⟩

namespace LPolicySame
set_option maxRecDepth 100000 in
theorem lifted (os : Os) (started : os.Started) (H : Type) (enc : TypeId × Value → H) :
    ReturnsInHanded {} Tryz.checked os 10 .any (fun w args => (Rows.policySameSpec.pre enc Tryz.prog Tryz.f10 [] false w args ∧ laidMetH Tryz.prog seatLaid w) ∧ sizedMet enc Tryz.prog Tryz.f10 (OpenSpec.ofChange Rows.policySameSpec) false w args)
      (Rows.policySameSpec.post enc Tryz.prog Tryz.f10 false true false false) := by
  refine returnsInHanded_of_change_and (C := Tryz.checked) (X := fun w _ => laidMetH Tryz.prog seatLaid w) (fun _ _ _ hh h => h.of_heap hh) own started (by kernel_rfl) Tryz.func10
    (ChangeSpec.witness_at (enc := enc) (C := Tryz.checked) (os := os) (X := fun w _ => laidMetH Tryz.prog seatLaid w) false (laidWorld os) #[.int .i64 0, .int .i64 0, .slice none 0 0] 8 rfl (by kernel_rfl) (by kernel_rfl) (by kernel_rfl) (by kernel_rfl) (by kernel_rfl) (laidWorld_met os _)) ?_
  intro W base args ds gs before hval0 hW _ _ hL _
  have hval : ∀ (j : Nat) t v, Tryz.f10.params[j]? = some t → args[j]? = some v → Value.okWide Tryz.prog W .any base t v := hval0
  have hW' := hW
  obtain ⟨p, q, hA0, hV, rfl, hfz, hnd⟩ := hW
  have hA : DataW.TrodAll enc Tryz.prog W 0 (fun _ => true) true Tryz.f10.params.toList args.toList ds p := hA0
  rw [Tryz.params10] at hA hval
  obtain ⟨v0, vs0, d0, ds0, p0, q0, hargs, rfl, rfl, h0, r0⟩ := trodAll_cons hA
  obtain ⟨v1, vs1, d1, ds1, p1, q1, rfl, rfl, rfl, h1, r1⟩ := trodAll_cons r0
  obtain ⟨v2, vs2, d2, ds2, p2, q2, rfl, rfl, rfl, h2, r2⟩ := trodAll_cons r1
  obtain ⟨rfl, rfl, rfl⟩ := trodAll_nil r2
  obtain rfl : args = #[v0, v1, v2] := by cases args; simp_all
  obtain ⟨rfl, rfl⟩ := trodVars_none hV
  obtain ⟨a0, rfl, rfl, rfl, w0⟩ := open_int Tryz.underlying3 (hval 0 3 v0 rfl rfl) h0
  obtain ⟨a1, rfl, rfl, rfl, w1⟩ := open_int Tryz.underlying3 (hval 1 3 v1 rfl rfl) h1
  have k2 := h2
  have lt2 : ∀ x ∈ p2, x.block < W.heap.size := by obtain ⟨m, hm⟩ := k2; exact DataW.trod_lt m _ _ _ hm
  have w2 := open_a (hval 2 22 v2 rfl rfl) h2
  clear hA0 hval0
  refine (walk_policySame a0 a1 v2 W w0 w1 w2 (laid_of hL)).mono fun e W' ⟨he, bel⟩ => ?_
  subst he
  exact ⟨_, rfl, _, _, _, [], _, [], hW', trodAll_mk1 (shut_bool Tryz.underlying4 _), (trodAll_cons_mk (shut_int Tryz.underlying3 w0) (trodAll_cons_mk (shut_int Tryz.underlying3 w1) (trodAll_cons_mk (Below.trod laidOut (by kernel_rfl) (of_decide_eq_true (by kernel_rfl)) k2 bel lt2) trodAll_mk0))), rfl, bel.frame _, fun h => by cases h⟩

theorem said : Rows.PolicySameSaid :=
  OpenClaim.holds_of_wide 10 Tryz.f10 rfl rfl rfl rfl rfl rfl rfl ⟨rfl, rfl, rfl, rfl, rfl⟩ rfl rfl rfl rfl rfl (by kernel_rfl) Tryz.func10 (by kernel_rfl)
    (of_decide_eq_true (by kernel_rfl)) (by unfold Func.isWrapper; rw [if_neg (of_decide_eq_false (by kernel_rfl))]; exact ⟨rfl, rfl⟩)
    (fun os started H enc _ => lifted os started H enc)

theorem card : Rows.PolicySameCardSaid :=
  Claim7.holds_tied_plain_at .later [] _ _ _ _ said (fun _ h => by cases h) (by kernel_rfl) (fun _ h => by cases h) policySame_row_tie rfl ⟨rfl, rfl⟩ (by kernel_rfl) rfl
    (fun f fn hf hfn => by
      obtain rfl : f = 10 := Option.some.inj ((show Tryz.prog.funcNamed "cachewise/cachewiselaw09.PolicySame" = some 10 by kernel_rfl).symm.trans hf) |>.symm
      obtain rfl : fn = Tryz.f10 := (Option.some.inj (Tryz.func10.symm.trans hfn)).symm
      refine ⟨by kernel_rfl, fun j t ht => ?_⟩
      rw [Tryz.params10] at ht
      rcases j with _ | _ | _ | j
      · obtain rfl : t = 3 := by simpa using ht.symm
        exact (show Tryz.prog.wantsStandIn 3 = false by kernel_rfl)
      · obtain rfl : t = 3 := by simpa using ht.symm
        exact (show Tryz.prog.wantsStandIn 3 = false by kernel_rfl)
      · obtain rfl : t = 22 := by simpa using ht.symm
        exact (show Tryz.prog.wantsStandIn 22 = false by kernel_rfl)
      · simp at ht)
    (by kernel_rfl)
#print axioms card
end LPolicySame
end Go.Proofs.YtgjdjgnfpendgaaGreatDoor
