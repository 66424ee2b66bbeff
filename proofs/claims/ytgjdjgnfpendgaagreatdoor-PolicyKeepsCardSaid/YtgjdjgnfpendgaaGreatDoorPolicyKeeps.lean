/- 'cachewiselaw09.PolicyKeeps' returns true for every kind, every size and every row of keys, and leaves what was there as it was. The listed variables read as the program's text lays them. -/
import Derived.Test.YtgjdjgnfpendgaaGreatDoorAw9
import Derived.Test.YtgjdjgnfpendgaaGreatDoorRc9
import Derived.Test.YtgjdjgnfpendgaaGreatDoorShapes9
import Derived.Test.YtgjdjgnfpendgaaGreatDoorCards
import Derived.Test.YtgjdjgnfpendgaaGreatDoorTie
import Derived.SevenTiedAt
import Derived.Deep.DeepCutAuto
import Derived.Deep.CutBlock

set_option maxRecDepth 20000
namespace Go.Proofs.YtgjdjgnfpendgaaGreatDoor
open Go.ChangeShapes Go.WideShapes Go.ChangeAt Go.RowKit Sg
open Go.ChangeMaps (open_string shut_string)

/-- Behind a request: the policy, what it had ahead of it, and the step. -/
def KpR (t : KSt) (rx : Value) (xs : List ByteArray) (U : Nat → Prop) (p b : Nat) (B : List (Nat × Bool × ByteArray × Bool)) (w0 : World) (n : Nat) (z : Value) (W : World) : Prop := ∃ (i : Nat), z = .int .i64 (i : Int) ∧ i ≤ n ∧ PLive w0 W p U t b ∧ PMine W U rx xs ∧ AR.Boxes W U B
set_option maxHeartbeats 4000000 in
set_option maxRecDepth 100000 in
theorem policyKeeps_main (kd mo : Nat) (A : Option Addr) (n cc : Nat) (w : World) (S : Nat → ByteArray) (hkd : kd < 5) (hlo : 1 ≤ mo) (hmo : mo ≤ 1000) (hn : n ≤ 200) (hS : ∀ i, i < n → (S i).size ≤ maxLen)
    (hc : 0 < n → ∃ g o, A = some ⟨g, o, none⟩ ∧ g < w.heap.size ∧ n ≤ cc ∧ cc ≤ maxLen ∧ ∀ i, i < n → w.cell? ⟨g, o + i, none⟩ = some (.string (S i))) (hl : Laid w ∧ Named w) :
    Calls Tryz.prog 5 #[.int .i64 (kd : Int), .int .i64 (mo : Int), .slice A n cc] w (RetB true w) := by
  have AW := Lib.hid (awake_any w hl)
  have NW := Lib.hid (fun w1 => new_p w1 kd hkd mo (by omega))
  have HKD := Lib.hid hkd
  have g0 : decide (200 < (n : Int)) = false := decide_eq_false (by omega)
  have g1 : decide ((kd : Int) < 0) = false := decide_eq_false (by omega)
  have g2 : decide (4 < (kd : Int)) = false := decide_eq_false (by omega)
  have g3 : decide ((mo : Int) < 1) = false := decide_eq_false (by omega)
  have g4 : decide (1000 < (mo : Int)) = false := decide_eq_false (by omega)
  have HC := Lib.hid hc
  have HS := Lib.hid hS
  have HL := Lib.hid hlo
  have HM := Lib.hid hmo
  clear hc hS hl hkd hlo
  go_enter Tryz.func5, Tryz.ntmps5
  go_wp2_with fail
  refine AW.out.mono ?_
  rintro e w0 ⟨rfl, hb0⟩
  have b0 := Lib.hid hb0; clear hb0
  go_wp2_with fail
  refine (NW.out w0).mono ?_
  rintro e w1 ⟨p, U1, rfl, hC, hT, hB⟩
  have L1 := Lib.hid (PLive.made b0.out hC hT hB)
  clear hC hT hB b0
  go_wp2_with fail
  clear g0 g1 g2 g3 g4
  go_loopw [9] (fun i W => PFill S n p kd mo w i W) (fun i _ => n - (intOf i).toNat)
  case atStart => exact ⟨0, U1, rfl, Nat.zero_le _, L1.out, fun x hx => by rw [show (pst S kd mo 0).keys = [] from (KSt.start_kind HKD.out mo).2.2.1] at hx; cases hx⟩
  case round =>
    obtain ⟨k, U, rfl, hk, hL, hold⟩ := hrel
    have HL2 := Lib.hid hL
    have HO := Lib.hid hold
    clear hL hold L1
    by_cases hlt : k < n
    · have e0 : decide (k < n) = true := by simpa using hlt
      obtain ⟨g, o, rfl, hg, hc1, hc2, hcell⟩ := HC.out (by omega)
      have h1 := (HL2.out.bel.cell (p := ⟨g, o + k, none⟩) hg).trans (hcell k hlt)
      have hsk := HS.out k hlt
      have HCELL := Lib.hid hcell
      clear hcell
      unfold maxLen at hc2
      have HSK := Lib.hid hsk
      have hst := pst_mo S HKD.out mo k
      have hmo2 : (pst S kd mo k).mo = mo := hst
      obtain ⟨st, hst2⟩ : ∃ s, s = pst S kd mo k := ⟨_, rfl⟩
      rw [← hst2] at HL2 hmo2
      have HST := Lib.hid hst2
      have HMO := Lib.hid hmo2
      have hcell0 := HC.out (by omega)
      clear hst hst2 hmo2 h1
      obtain ⟨q, hq⟩ : ∃ q, q = st.keys.length := ⟨_, rfl⟩
      have hqm := KSt.le HL2.out.ca.ok
      rw [HMO.out, ← hq] at hqm
      have HQM := Lib.hid hqm
      have HQ := Lib.hid hq
      have RQ := KSt.req_f HL2.out.ca.ok (by rw [HMO.out]; exact Nat.ne_of_gt HL.out) (S k)
      rw [HMO.out] at RQ
      have RQ := Lib.hid RQ
      have V := Lib.hid (keys_p wr p U st k HL2.out.ca)
      have hkey0 := (HL2.out.bel.cell (p := ⟨g, o + k, none⟩) hg).trans (HCELL.out k hlt)
      have hq1 : q ≤ 1000 := by omega
      clear hq hqm hcell0
      unfold maxLen at hsk
      by_cases hbig : (S k).size ≤ 200
      · have e1 : decide (200 < ((S k).size : Int)) = false := decide_eq_false (by omega)
        go_wp2_with fail
        refine V.out.mono ?_
        rintro e w2 ⟨v2, rfl, hO, hB⟩
        obtain ⟨A2, c2, rfl⟩ := hO.len
        have M2 := Lib.hid (PMine.made hO HL2.out.ca)
        have L2 := Lib.hid (HL2.out.below hB)
        rw [← HQ.out] at M2 ⊢
        clear hB V HL2 hO e0 e1 hkey0
        cases hin : inn st.keys (S k) with
        | true =>
          have HIN := Lib.hid hin
          have HC3 := Lib.hid (show q ≤ mo from HQM.out)
          clear hin
          have hx1 : (st.tell (S k)).1 = true := RQ.out.hitE.trans HIN.out
          have hx3 : (st.tell (S k)).2.2 = false := by rw [RQ.out.outE, HIN.out, ← HQ.out]; rfl
          have hx2 : (st.tell (S k)).2.1 = ⟨#[]⟩ := RQ.out.non hx3
          have HX := Lib.hid (And.intro hx1 (And.intro hx2 hx3))
          have W3 := request_p w2 p U st k (S k) L2.out.ca HSK.out (by omega)
          unfold KSt.step at W3
          rw [hx1, hx3, hx2] at W3
          have W3 := Lib.hid W3
          have hkey := (L2.out.bel.cell (p := ⟨g, o + k, none⟩) hg).trans (HCELL.out k hlt)
          clear hx1 hx2 hx3
          go_wp2_with fail
          refine W3.out.mono ?_
          intro e w3 hp
          obtain ⟨rfl, U3, hL3, hW3⟩ := L2.out.op hp
          have X4 := Lib.hid (box_new9 (w := w3) (T := U3) (L := []) (by intro q hq; cases hq) hL3.lt true false ⟨#[]⟩)
          have M3 := M2.out.went hW3 hL3.lt
          have M4 := Lib.hid (M3.below ((Below.refl _ _).alloc (Nat.le_refl _) (.cells #[.bool true, .string ⟨#[]⟩, .bool false] 49)))
          have L4 := Lib.hid (hL3.below ((Below.refl _ _).alloc (Nat.le_refl _) (.cells #[.bool true, .string ⟨#[]⟩, .bool false] 49)))
          have HHAS := Lib.hid (show (st.req (S k)).has (S k) = true from inn_iff.2 RQ.out.has)
          have hlen := RQ.out.len
          rw [HX.out.1, HX.out.2.2, ← HQ.out] at hlen
          have HLEN := Lib.hid (show (st.req (S k)).keys.length = q from hlen)
          have HSTAY := Lib.hid (show ∀ x ∈ st.keys, x ∈ (st.req (S k)).keys ∨ (false = true ∧ x = ⟨#[]⟩) from fun x hx => by
            have := RQ.out.stay x hx
            rw [HX.out.2.2, HX.out.2.1] at this
            exact this)
          have HKO := Lib.hid (show st.req (S k) = pst S kd mo (k + 1) from by rw [HST.out]; rfl)
          have HOO := Lib.hid (show ∀ x ∈ (st.req (S k)).keys, ∃ j, j < k + 1 ∧ x = S j from fun x hx => by
            rcases KSt.req_old L2.out.ca.ok (S k) x hx with h | h
            · obtain ⟨j, hj, e⟩ := HO.out x (by rw [← HST.out]; exact h)
              exact ⟨j, by omega, e⟩
            · exact ⟨k, by omega, h⟩)
          clear hp hL3 hW3 M3 L2 M2 hkey W3 hlen HX RQ HO HST
          go_upto_region 15 with fail
          generalize w3.heap.size = nb at *
          generalize w3.alloc (.cells #[.bool true, .string ⟨#[]⟩, .bool false] 49) = w4 at *
          generalize st.req (S k) = sx at *
          go_wp2_with fail
          refine (keys_p w4 p U3 sx (k + 1) L4.out.ca).mono ?_
          rintro e w5 ⟨v5, rfl, hO5, hB⟩
          obtain ⟨A5, c5, rfl⟩ := hO5.len
          rw [HLEN.out]
          have L5 := Lib.hid (L4.out.below hB)
          have M5 := Lib.hid (M4.out.below hB)
          have X5 := Lib.hid (X4.out.went (Went.below hB))
          have hkey := (L5.out.bel.cell (p := ⟨g, o + k, none⟩) hg).trans (HCELL.out k hlt)
          have hbx := Lib.hid (X5.out (nb, true, ⟨#[]⟩, false) (by simp)).1
          obtain ⟨x1, x2, x3, _, _⟩ := hbx.out.cells
          simp only at x1 x2 x3
          clear hB hO5 L4 M4 X4
          go_wp2_with fail
          refine Calls.mono (show Calls Tryz.prog 34 #[.slice A2 q c2, .string (S k)] w5 (BoolPost true w5) from by
            obtain ⟨g, hr⟩ := M5.out.row
            have := refHas_any w5 g _ _ (S k) hr
            rw [HIN.out] at this
            exact this) ?_
          rintro e w6 ⟨rfl, rfl⟩
          go_wp2_with fail
          refine Calls.mono (show Calls Tryz.prog 33 #[.pointer (some ⟨p, 0, none⟩), .string (S k)] w5 (Told (.bool true) w5) from by
            have := has_p w5 p U3 sx (k + 1) (S k) L5.out.ca HSK.out
            rw [HHAS.out] at this
            exact this) ?_
          rintro e w6 ⟨rfl, hB⟩
          have L6 := Lib.hid (L5.out.below hB)
          have M6 := Lib.hid (M5.out.below hB)
          have X6 := Lib.hid (X5.out.went (Went.below hB))
          clear x1 x2 x3 hbx
          have hbx := Lib.hid (X6.out (nb, true, ⟨#[]⟩, false) (by simp)).1
          obtain ⟨x1, x2, x3, _, _⟩ := hbx.out.cells
          simp only at x1 x2 x3
          clear hB L5 M5 X5 hkey
          go_wp2_with fail
          clear x1 x2 x3 hbx
          go_loopw [14] (fun i W => KpR sx (.slice A2 q c2) st.keys U3 p (k + 1) [(nb, true, ⟨#[]⟩, false)] w q i W) (fun i _ => q - (intOf i).toNat)
          case atStart => exact ⟨0, rfl, Nat.zero_le _, L6.out, M6.out, X6.out⟩
          case round =>
            obtain ⟨i, rfl, hi, hL, hM, hX⟩ := hrel
            have L8 := Lib.hid hL
            have M8 := Lib.hid hM
            have X8 := Lib.hid hX
            clear hL hM hX L6 M6 X6
            by_cases hlt2 : i < q
            · have e0 : decide (i < q) = true := by simpa using hlt2
              obtain ⟨g2, hr⟩ := M8.out.row
              have hiq : i < st.keys.length := by rw [← HQ.out]; exact hlt2
              obtain ⟨o2, rfl, hg2, hcell2, hc12, hc22⟩ := hr.at hiq
              have hmem : st.keys.getD i ⟨#[]⟩ ∈ st.keys := by rw [List.getD_eq_getElem?_getD, List.getElem?_eq_getElem hiq]; exact List.getElem_mem hiq
              have hsz := hr.2.1 _ hmem
              have hst := HSTAY.out _ hmem
              generalize st.keys.getD i ⟨#[]⟩ = y at *
              have W9 := fun (W : World) (h : Below wr.heap.size wr W) => has_p W p U3 sx (k + 1) y (L8.out.ca.below h) hsz
              have D0 := Lib.hid (show Below wr.heap.size wr wr.drew from ⟨rfl, rfl, rfl, Nat.le_refl _, fun _ _ => rfl⟩)
              have FF := Lib.hid (show ∀ W, Below wr.heap.size wr W → W.cell? ⟨g2, o2 + i, none⟩ = some (.string y) ∧ W.cell? ⟨nb, 1, none⟩ = some (.string ⟨#[]⟩) ∧ W.cell? ⟨nb, 2, none⟩ = some (.bool false) from fun W h => by
                obtain ⟨_, b2, b3, _, _⟩ := (X8.out.went (Went.below h) (nb, true, ⟨#[]⟩, false) (by simp)).1.cells
                exact ⟨(h.cell (p := ⟨g2, o2 + i, none⟩) hg2).trans hcell2, b2, b3⟩)
              rw [← HQ.out] at hc12
              unfold maxLen at hc22 hsz
              have HST2 := Lib.hid hst
              clear hr hmem hiq hst
              have hyt : sx.has y = true := by
                rcases HST2.out with h | h
                · exact inn_iff.2 h
                · cases h.1
              rw [hyt] at W9
              have W9 := Lib.hid W9
              clear hyt
              go_wp2_with fail
              refine wp_region_noPanic ?_
              refine wp_region_held_drew (S := fun w' => w'.cell? ⟨g2, o2 + i, none⟩ = some (.string y) ∧ w'.cell? ⟨nb, 1, none⟩ = some (.string ⟨#[]⟩) ∧ w'.cell? ⟨nb, 2, none⟩ = some (.bool false)) (by kernel_rfl) ?_ (fun hHeld => ?_)
              · exact FF.out wr (Below.refl _ _)
              refine wpAnyH_take (i := 0) (oi := { dst := some 136, op := Go.Op.move (Go.Operand.tmp 7), type := 25, pos := "law.go:127", after := #[], guard := none }) (v := ?_) rfl (by kernel_rfl) (by kernel_rfl) (by kernel_rfl) (fun _ _ _ h => h) (Or.inl ⟨by rfl, ?_⟩) (by assumption) ?_
              rotate_left
              · (intro w hSw; (try dsimp only at hSw); go_simp; (try with_reducible rfl))
              (try simp only [Act.put, List.setIfInBounds_toArray, List.set_cons_zero, List.set_cons_succ])
              refine wpAnyH_take (i := 1) (oi := { dst := some 137, op := Go.Op.move (Go.Operand.tmp 10), type := 30, pos := "law.go:127", after := #[], guard := none }) (v := ?_) rfl (by kernel_rfl) (by kernel_rfl) (by kernel_rfl) (fun _ _ _ h => h) (Or.inl ⟨by rfl, ?_⟩) (by assumption) ?_
              rotate_left
              · (intro w hSw; (try dsimp only at hSw); go_simp; (try with_reducible rfl))
              (try simp only [Act.put, List.setIfInBounds_toArray, List.set_cons_zero, List.set_cons_succ])
              refine wpAnyH_take (i := 2) (oi := { dst := some 138, op := Go.Op.move (Go.Operand.tmp 14), type := 3, pos := "law.go:127", after := #[], guard := none }) (v := ?_) rfl (by kernel_rfl) (by kernel_rfl) (by kernel_rfl) (fun _ _ _ h => h) (Or.inl ⟨by rfl, ?_⟩) (by assumption) ?_
              rotate_left
              · (intro w hSw; (try dsimp only at hSw); go_simp; (try with_reducible rfl))
              (try simp only [Act.put, List.setIfInBounds_toArray, List.set_cons_zero, List.set_cons_succ])
              refine wpAnyH_take (i := 3) (oi := { dst := some 139, op := Go.Op.indexAddr 30 (Go.Operand.tmp 137) (Go.Operand.tmp 138), type := 0, pos := "law.go:127", after := #[{ on := 1, ground := Go.Ground.data }, { on := 2, ground := Go.Ground.data }], guard := none }) (v := ?_) rfl (by kernel_rfl) (by kernel_rfl) (by kernel_rfl) (fun _ _ _ h => h) (Or.inl ⟨by rfl, ?_⟩) (by assumption) ?_
              rotate_left
              · (intro w hSw; (try dsimp only at hSw); go_simp; (try with_reducible rfl))
              (try simp only [Act.put, List.setIfInBounds_toArray, List.set_cons_zero, List.set_cons_succ])
              refine wpAnyH_take (i := 4) (oi := { dst := some 140, op := Go.Op.load 9 (Go.Operand.tmp 139), type := 9, pos := "law.go:127", after := #[{ on := 3, ground := Go.Ground.data }], guard := none }) (v := ?_) rfl (by kernel_rfl) (by kernel_rfl) (by kernel_rfl) (fun _ _ _ h => h) (Or.inl ⟨by rfl, ?_⟩) (by assumption) ?_
              rotate_left
              · (intro w hSw; (try dsimp only at hSw); go_simp; (try with_reducible rfl))
              (try simp only [Act.put, List.setIfInBounds_toArray, List.set_cons_zero, List.set_cons_succ])
              refine wpAnyH_ready (rs := [5]) (by kernel_rfl) (by simp) ?_
              refine AllReadyH.cons (o := { dst := some 141, op := Go.Op.call { callee := Go.Callee.value (Go.Operand.func 33), args := #[Go.Operand.tmp 136, Go.Operand.tmp 140], argTypes := #[25, 9] }, type := 4, pos := "law.go:127", after := #[{ on := 0, ground := Go.Ground.data }, { on := 4, ground := Go.Ground.data }], guard := none }) rfl (fun K hK => ?_) AllReadyH.nil
              go_simp
              refine (W9.out _ D0.out).mono ?_
              rintro e w9 ⟨rfl, hB⟩
              have B9 := Lib.hid (show Below wr.heap.size wr w9 from D0.out.trans (hB.mono D0.out.size))
              clear hB
              go_wp2_with fail
              refine hK.out _ _ ?_ (fun hHeld => ?_)
              · exact FF.out w9 B9.out
              clear hK K
              (try simp only [Act.put, List.setIfInBounds_toArray, List.set_cons_zero, List.set_cons_succ])
              refine wpAnyH_take (i := 6) (oi := { dst := some 142, op := Go.Op.unOp Go.UnOp.not 4 (Go.Operand.tmp 141), type := 4, pos := "law.go:127", after := #[{ on := 5, ground := Go.Ground.data }], guard := none }) (v := ?_) rfl (by kernel_rfl) (by kernel_rfl) (by kernel_rfl) (fun _ _ _ h => h) (Or.inl ⟨by rfl, ?_⟩) (by assumption) ?_
              rotate_left
              · (intro w hSw; (try dsimp only at hSw); go_simp; (try with_reducible rfl))
              (try simp only [Act.put, List.setIfInBounds_toArray, List.set_cons_zero, List.set_cons_succ])
              refine wpAnyH_take (i := 7) (oi := { dst := some 143, op := Go.Op.move (Go.Operand.tmp 142), type := 4, pos := "law.go:127", after := #[{ on := 6, ground := Go.Ground.data }, { on := 5, ground := Go.Ground.chain }], guard := none }) (v := ?_) rfl (by kernel_rfl) (by kernel_rfl) (by kernel_rfl) (fun _ _ _ h => h) (Or.inl ⟨by rfl, ?_⟩) (by assumption) ?_
              rotate_left
              · (intro w hSw; (try dsimp only at hSw); go_simp; (try with_reducible rfl))
              (try simp only [Act.put, List.setIfInBounds_toArray, List.set_cons_zero, List.set_cons_succ])
              refine wpAnyH_take (i := 8) (oi := { dst := some 144, op := Go.Op.fieldAddr 49 (Go.Operand.tmp 11) 2, type := 0, pos := "law.go:127", after := #[{ on := 7, ground := Go.Ground.guard }], guard := some (7, true) }) (v := undef) rfl (by kernel_rfl) (by kernel_rfl) (by kernel_rfl) (fun _ _ _ h => h) (Or.inr ⟨by rfl, rfl⟩) (by assumption) ?_
              (try simp only [Act.put, List.setIfInBounds_toArray, List.set_cons_zero, List.set_cons_succ])
              refine wpAnyH_take (i := 9) (oi := { dst := some 145, op := Go.Op.load 4 (Go.Operand.tmp 144), type := 4, pos := "law.go:127", after := #[{ on := 8, ground := Go.Ground.data }, { on := 7, ground := Go.Ground.guard }], guard := some (7, true) }) (v := undef) rfl (by kernel_rfl) (by kernel_rfl) (by kernel_rfl) (fun _ _ _ h => h) (Or.inr ⟨by rfl, rfl⟩) (by assumption) ?_
              (try simp only [Act.put, List.setIfInBounds_toArray, List.set_cons_zero, List.set_cons_succ])
              refine wpAnyH_take (i := 10) (oi := { dst := some 146, op := Go.Op.unOp Go.UnOp.not 4 (Go.Operand.tmp 145), type := 4, pos := "law.go:127", after := #[{ on := 9, ground := Go.Ground.data }, { on := 7, ground := Go.Ground.guard }], guard := some (7, true) }) (v := undef) rfl (by kernel_rfl) (by kernel_rfl) (by kernel_rfl) (fun _ _ _ h => h) (Or.inr ⟨by rfl, rfl⟩) (by assumption) ?_
              (try simp only [Act.put, List.setIfInBounds_toArray, List.set_cons_zero, List.set_cons_succ])
              refine wpAnyH_take (i := 11) (oi := { dst := some 147, op := Go.Op.move (Go.Operand.tmp 146), type := 4, pos := "law.go:127", after := #[{ on := 10, ground := Go.Ground.data }, { on := 7, ground := Go.Ground.chain }, { on := 7, ground := Go.Ground.guard }], guard := some (7, true) }) (v := undef) rfl (by kernel_rfl) (by kernel_rfl) (by kernel_rfl) (fun _ _ _ h => h) (Or.inr ⟨by rfl, rfl⟩) (by assumption) ?_
              (try simp only [Act.put, List.setIfInBounds_toArray, List.set_cons_zero, List.set_cons_succ])
              refine wpAnyH_take (i := 12) (oi := { dst := some 148, op := Go.Op.move (Go.Operand.tmp 10), type := 30, pos := "law.go:127", after := #[{ on := 11, ground := Go.Ground.guard }], guard := some (11, false) }) (v := undef) rfl (by kernel_rfl) (by kernel_rfl) (by kernel_rfl) (fun _ _ _ h => h) (Or.inr ⟨by rfl, rfl⟩) (by assumption) ?_
              (try simp only [Act.put, List.setIfInBounds_toArray, List.set_cons_zero, List.set_cons_succ])
              refine wpAnyH_take (i := 13) (oi := { dst := some 149, op := Go.Op.move (Go.Operand.tmp 14), type := 3, pos := "law.go:127", after := #[{ on := 11, ground := Go.Ground.guard }], guard := some (11, false) }) (v := undef) rfl (by kernel_rfl) (by kernel_rfl) (by kernel_rfl) (fun _ _ _ h => h) (Or.inr ⟨by rfl, rfl⟩) (by assumption) ?_
              (try simp only [Act.put, List.setIfInBounds_toArray, List.set_cons_zero, List.set_cons_succ])
              refine wpAnyH_take (i := 14) (oi := { dst := some 150, op := Go.Op.indexAddr 30 (Go.Operand.tmp 148) (Go.Operand.tmp 149), type := 0, pos := "law.go:127", after := #[{ on := 12, ground := Go.Ground.data }, { on := 13, ground := Go.Ground.data }, { on := 11, ground := Go.Ground.guard }], guard := some (11, false) }) (v := undef) rfl (by kernel_rfl) (by kernel_rfl) (by kernel_rfl) (fun _ _ _ h => h) (Or.inr ⟨by rfl, rfl⟩) (by assumption) ?_
              (try simp only [Act.put, List.setIfInBounds_toArray, List.set_cons_zero, List.set_cons_succ])
              refine wpAnyH_take (i := 15) (oi := { dst := some 151, op := Go.Op.load 9 (Go.Operand.tmp 150), type := 9, pos := "law.go:127", after := #[{ on := 14, ground := Go.Ground.data }, { on := 11, ground := Go.Ground.guard }], guard := some (11, false) }) (v := undef) rfl (by kernel_rfl) (by kernel_rfl) (by kernel_rfl) (fun _ _ _ h => h) (Or.inr ⟨by rfl, rfl⟩) (by assumption) ?_
              (try simp only [Act.put, List.setIfInBounds_toArray, List.set_cons_zero, List.set_cons_succ])
              refine wpAnyH_take (i := 16) (oi := { dst := some 152, op := Go.Op.fieldAddr 49 (Go.Operand.tmp 11) 1, type := 0, pos := "law.go:127", after := #[{ on := 11, ground := Go.Ground.guard }], guard := some (11, false) }) (v := undef) rfl (by kernel_rfl) (by kernel_rfl) (by kernel_rfl) (fun _ _ _ h => h) (Or.inr ⟨by rfl, rfl⟩) (by assumption) ?_
              (try simp only [Act.put, List.setIfInBounds_toArray, List.set_cons_zero, List.set_cons_succ])
              refine wpAnyH_take (i := 17) (oi := { dst := some 153, op := Go.Op.load 9 (Go.Operand.tmp 152), type := 9, pos := "law.go:127", after := #[{ on := 16, ground := Go.Ground.data }, { on := 11, ground := Go.Ground.guard }], guard := some (11, false) }) (v := undef) rfl (by kernel_rfl) (by kernel_rfl) (by kernel_rfl) (fun _ _ _ h => h) (Or.inr ⟨by rfl, rfl⟩) (by assumption) ?_
              (try simp only [Act.put, List.setIfInBounds_toArray, List.set_cons_zero, List.set_cons_succ])
              refine wpAnyH_take (i := 18) (oi := { dst := some 154, op := Go.Op.binOp Go.BinOp.neq 9 (Go.Operand.tmp 151) (Go.Operand.tmp 153) 9, type := 4, pos := "law.go:127", after := #[{ on := 15, ground := Go.Ground.data }, { on := 17, ground := Go.Ground.data }, { on := 11, ground := Go.Ground.guard }], guard := some (11, false) }) (v := undef) rfl (by kernel_rfl) (by kernel_rfl) (by kernel_rfl) (fun _ _ _ h => h) (Or.inr ⟨by rfl, rfl⟩) (by assumption) ?_
              (try simp only [Act.put, List.setIfInBounds_toArray, List.set_cons_zero, List.set_cons_succ])
              refine wpAnyH_take (i := 19) (oi := { dst := some 155, op := Go.Op.pick (Go.Operand.tmp 147) (Go.Operand.const (Go.Value.bool true)) (Go.Operand.tmp 154), type := 4, pos := "law.go:127", after := #[{ on := 11, ground := Go.Ground.data }, { on := 18, ground := Go.Ground.data }, { on := 7, ground := Go.Ground.guard }], guard := some (7, true) }) (v := undef) rfl (by kernel_rfl) (by kernel_rfl) (by kernel_rfl) (fun _ _ _ h => h) (Or.inr ⟨by rfl, rfl⟩) (by assumption) ?_
              (try simp only [Act.put, List.setIfInBounds_toArray, List.set_cons_zero, List.set_cons_succ])
              refine wpAnyH_take (i := 20) (oi := { dst := some 156, op := Go.Op.pick (Go.Operand.tmp 143) (Go.Operand.tmp 155) (Go.Operand.const (Go.Value.bool false)), type := 4, pos := "law.go:127", after := #[{ on := 7, ground := Go.Ground.data }, { on := 19, ground := Go.Ground.data }], guard := none }) (v := ?_) rfl (by kernel_rfl) (by kernel_rfl) (by kernel_rfl) (fun _ _ _ h => h) (Or.inl ⟨by rfl, ?_⟩) (by assumption) ?_
              rotate_left
              · (intro w hSw; (try dsimp only at hSw); go_simp; (try with_reducible rfl))
              (try simp only [Act.put, List.setIfInBounds_toArray, List.set_cons_zero, List.set_cons_succ])
              refine wpAnyH_done (by kernel_rfl) ?_ _
              refine NoPanic.normal ?_
              have L9 := Lib.hid (L8.out.below B9.out)
              have M9 := Lib.hid (M8.out.below B9.out)
              have X9 := Lib.hid (X8.out.went (Went.below B9.out))
              clear W9 L8 M8 X8 FF D0
              go_wp2_with fail
              go_roundw
              case rel => exact ⟨i + 1, by go_num, by omega, L9.out, M9.out, X9.out⟩
              case measure => simp [intOf]; omega
            · have e0 : decide (i < q) = false := by simpa using hlt2
              have hbx := Lib.hid (X8.out (nb, true, ⟨#[]⟩, false) (by simp)).1
              obtain ⟨x1, x2, x3, _, _⟩ := hbx.out.cells
              simp only at x1 x2 x3
              go_wp2_with fail
              refine Calls.mono (show Calls Tryz.prog 32 #[.pointer (some ⟨p, 0, none⟩)] wr (Told (.int .i64 ((q : Nat) : Int)) wr) from by
                have := len_p wr p U3 sx (k + 1) L8.out.ca
                rw [HLEN.out] at this
                exact this) ?_
              rintro e w9 ⟨rfl, hB⟩
              have L9 := Lib.hid (L8.out.below hB)
              have hqm2 : ¬ ((mo : Int) < ((q : Nat) : Int)) := by have := HC3.out; have := HQM.out; omega
              clear hB L8 M8 X8
              go_wp2_with fail
              go_roundw
              case rel => exact ⟨k + 1, U3, by go_num, by omega, by rw [← HKO.out]; exact L9.out, by rw [← HKO.out]; exact HOO.out⟩
              case measure => simp [intOf]; omega
        | false =>
          have HIN := Lib.hid hin
          clear hin
          by_cases hroom : q < mo
          · have HC3 := Lib.hid hroom
            have hne : ¬ ((q : Int) = (mo : Int)) := by omega
            clear hroom
            have hx1 : (st.tell (S k)).1 = false := RQ.out.hitE.trans HIN.out
            have hx3 : (st.tell (S k)).2.2 = false := by rw [RQ.out.outE, HIN.out, ← HQ.out]; rw [decide_eq_false (by have := HC3.out; omega)]; rfl
            have hx2 : (st.tell (S k)).2.1 = ⟨#[]⟩ := RQ.out.non hx3
            have HX := Lib.hid (And.intro hx1 (And.intro hx2 hx3))
            have W3 := request_p w2 p U st k (S k) L2.out.ca HSK.out (by omega)
            unfold KSt.step at W3
            rw [hx1, hx3, hx2] at W3
            have W3 := Lib.hid W3
            have hkey := (L2.out.bel.cell (p := ⟨g, o + k, none⟩) hg).trans (HCELL.out k hlt)
            clear hx1 hx2 hx3
            go_wp2_with fail
            refine W3.out.mono ?_
            intro e w3 hp
            obtain ⟨rfl, U3, hL3, hW3⟩ := L2.out.op hp
            have X4 := Lib.hid (box_new9 (w := w3) (T := U3) (L := []) (by intro q hq; cases hq) hL3.lt false false ⟨#[]⟩)
            have M3 := M2.out.went hW3 hL3.lt
            have M4 := Lib.hid (M3.below ((Below.refl _ _).alloc (Nat.le_refl _) (.cells #[.bool false, .string ⟨#[]⟩, .bool false] 49)))
            have L4 := Lib.hid (hL3.below ((Below.refl _ _).alloc (Nat.le_refl _) (.cells #[.bool false, .string ⟨#[]⟩, .bool false] 49)))
            have HHAS := Lib.hid (show (st.req (S k)).has (S k) = true from inn_iff.2 RQ.out.has)
            have hlen := RQ.out.len
            rw [HX.out.1, HX.out.2.2, ← HQ.out] at hlen
            obtain ⟨q9, hq9⟩ : ∃ x, x = q + 1 := ⟨_, rfl⟩
            rw [show q + (if (false || false) = true then 0 else 1) = q9 from hq9.symm] at hlen
            have hq9e : (q9 : Int) = (q : Int) + 1 := by omega
            clear hq9
            have HLEN := Lib.hid (show (st.req (S k)).keys.length = q9 from hlen)
            have HSTAY := Lib.hid (show ∀ x ∈ st.keys, x ∈ (st.req (S k)).keys ∨ (false = true ∧ x = ⟨#[]⟩) from fun x hx => by
              have := RQ.out.stay x hx
              rw [HX.out.2.2, HX.out.2.1] at this
              exact this)
            have HKO := Lib.hid (show st.req (S k) = pst S kd mo (k + 1) from by rw [HST.out]; rfl)
            have HOO := Lib.hid (show ∀ x ∈ (st.req (S k)).keys, ∃ j, j < k + 1 ∧ x = S j from fun x hx => by
              rcases KSt.req_old L2.out.ca.ok (S k) x hx with h | h
              · obtain ⟨j, hj, e⟩ := HO.out x (by rw [← HST.out]; exact h)
                exact ⟨j, by omega, e⟩
              · exact ⟨k, by omega, h⟩)
            clear hp hL3 hW3 M3 L2 M2 hkey W3 hlen HX RQ HO HST
            go_upto_region 15 with fail
            generalize w3.heap.size = nb at *
            generalize w3.alloc (.cells #[.bool false, .string ⟨#[]⟩, .bool false] 49) = w4 at *
            generalize st.req (S k) = sx at *
            go_wp2_with fail
            refine (keys_p w4 p U3 sx (k + 1) L4.out.ca).mono ?_
            rintro e w5 ⟨v5, rfl, hO5, hB⟩
            obtain ⟨A5, c5, rfl⟩ := hO5.len
            rw [HLEN.out]
            have L5 := Lib.hid (L4.out.below hB)
            have M5 := Lib.hid (M4.out.below hB)
            have X5 := Lib.hid (X4.out.went (Went.below hB))
            have hkey := (L5.out.bel.cell (p := ⟨g, o + k, none⟩) hg).trans (HCELL.out k hlt)
            have hbx := Lib.hid (X5.out (nb, false, ⟨#[]⟩, false) (by simp)).1
            obtain ⟨x1, x2, x3, _, _⟩ := hbx.out.cells
            simp only at x1 x2 x3
            clear hB hO5 L4 M4 X4
            go_wp2_with fail
            refine Calls.mono (show Calls Tryz.prog 34 #[.slice A2 q c2, .string (S k)] w5 (BoolPost false w5) from by
              obtain ⟨g, hr⟩ := M5.out.row
              have := refHas_any w5 g _ _ (S k) hr
              rw [HIN.out] at this
              exact this) ?_
            rintro e w6 ⟨rfl, rfl⟩
            go_wp2_with fail
            refine Calls.mono (show Calls Tryz.prog 33 #[.pointer (some ⟨p, 0, none⟩), .string (S k)] w5 (Told (.bool true) w5) from by
              have := has_p w5 p U3 sx (k + 1) (S k) L5.out.ca HSK.out
              rw [HHAS.out] at this
              exact this) ?_
            rintro e w6 ⟨rfl, hB⟩
            have L6 := Lib.hid (L5.out.below hB)
            have M6 := Lib.hid (M5.out.below hB)
            have X6 := Lib.hid (X5.out.went (Went.below hB))
            clear x1 x2 x3 hbx
            have hbx := Lib.hid (X6.out (nb, false, ⟨#[]⟩, false) (by simp)).1
            obtain ⟨x1, x2, x3, _, _⟩ := hbx.out.cells
            simp only at x1 x2 x3
            clear hB L5 M5 X5 hkey
            go_wp2_with fail
            have hb1 : ((q : Int) == (mo : Int)) = false := by simpa using hne
            have hb2 : decide ((q : Int) = (mo : Int)) = false := decide_eq_false hne
            have hb3 : decide (q = mo) = false := decide_eq_false (by omega)
            have hb4 : (q == mo) = false := by simpa using hb3
            (try rw [hb1])
            (try rw [hb2])
            (try rw [hb3])
            (try rw [hb4])
            clear hb1 hb2 hb3 hb4 hne
            clear x1 x2 x3 hbx
            go_loopw [14] (fun i W => KpR sx (.slice A2 q c2) st.keys U3 p (k + 1) [(nb, false, ⟨#[]⟩, false)] w q i W) (fun i _ => q - (intOf i).toNat)
            case atStart => exact ⟨0, rfl, Nat.zero_le _, L6.out, M6.out, X6.out⟩
            case round =>
              obtain ⟨i, rfl, hi, hL, hM, hX⟩ := hrel
              have L8 := Lib.hid hL
              have M8 := Lib.hid hM
              have X8 := Lib.hid hX
              clear hL hM hX L6 M6 X6
              by_cases hlt2 : i < q
              · have e0 : decide (i < q) = true := by simpa using hlt2
                obtain ⟨g2, hr⟩ := M8.out.row
                have hiq : i < st.keys.length := by rw [← HQ.out]; exact hlt2
                obtain ⟨o2, rfl, hg2, hcell2, hc12, hc22⟩ := hr.at hiq
                have hmem : st.keys.getD i ⟨#[]⟩ ∈ st.keys := by rw [List.getD_eq_getElem?_getD, List.getElem?_eq_getElem hiq]; exact List.getElem_mem hiq
                have hsz := hr.2.1 _ hmem
                have hst := HSTAY.out _ hmem
                generalize st.keys.getD i ⟨#[]⟩ = y at *
                have W9 := fun (W : World) (h : Below wr.heap.size wr W) => has_p W p U3 sx (k + 1) y (L8.out.ca.below h) hsz
                have D0 := Lib.hid (show Below wr.heap.size wr wr.drew from ⟨rfl, rfl, rfl, Nat.le_refl _, fun _ _ => rfl⟩)
                have FF := Lib.hid (show ∀ W, Below wr.heap.size wr W → W.cell? ⟨g2, o2 + i, none⟩ = some (.string y) ∧ W.cell? ⟨nb, 1, none⟩ = some (.string ⟨#[]⟩) ∧ W.cell? ⟨nb, 2, none⟩ = some (.bool false) from fun W h => by
                  obtain ⟨_, b2, b3, _, _⟩ := (X8.out.went (Went.below h) (nb, false, ⟨#[]⟩, false) (by simp)).1.cells
                  exact ⟨(h.cell (p := ⟨g2, o2 + i, none⟩) hg2).trans hcell2, b2, b3⟩)
                rw [← HQ.out] at hc12
                unfold maxLen at hc22 hsz
                have HST2 := Lib.hid hst
                clear hr hmem hiq hst
                have hyt : sx.has y = true := by
                  rcases HST2.out with h | h
                  · exact inn_iff.2 h
                  · cases h.1
                rw [hyt] at W9
                have W9 := Lib.hid W9
                clear hyt
                go_wp2_with fail
                refine wp_region_noPanic ?_
                refine wp_region_held_drew (S := fun w' => w'.cell? ⟨g2, o2 + i, none⟩ = some (.string y) ∧ w'.cell? ⟨nb, 1, none⟩ = some (.string ⟨#[]⟩) ∧ w'.cell? ⟨nb, 2, none⟩ = some (.bool false)) (by kernel_rfl) ?_ (fun hHeld => ?_)
                · exact FF.out wr (Below.refl _ _)
                refine wpAnyH_take (i := 0) (oi := { dst := some 136, op := Go.Op.move (Go.Operand.tmp 7), type := 25, pos := "law.go:127", after := #[], guard := none }) (v := ?_) rfl (by kernel_rfl) (by kernel_rfl) (by kernel_rfl) (fun _ _ _ h => h) (Or.inl ⟨by rfl, ?_⟩) (by assumption) ?_
                rotate_left
                · (intro w hSw; (try dsimp only at hSw); go_simp; (try with_reducible rfl))
                (try simp only [Act.put, List.setIfInBounds_toArray, List.set_cons_zero, List.set_cons_succ])
                refine wpAnyH_take (i := 1) (oi := { dst := some 137, op := Go.Op.move (Go.Operand.tmp 10), type := 30, pos := "law.go:127", after := #[], guard := none }) (v := ?_) rfl (by kernel_rfl) (by kernel_rfl) (by kernel_rfl) (fun _ _ _ h => h) (Or.inl ⟨by rfl, ?_⟩) (by assumption) ?_
                rotate_left
                · (intro w hSw; (try dsimp only at hSw); go_simp; (try with_reducible rfl))
                (try simp only [Act.put, List.setIfInBounds_toArray, List.set_cons_zero, List.set_cons_succ])
                refine wpAnyH_take (i := 2) (oi := { dst := some 138, op := Go.Op.move (Go.Operand.tmp 14), type := 3, pos := "law.go:127", after := #[], guard := none }) (v := ?_) rfl (by kernel_rfl) (by kernel_rfl) (by kernel_rfl) (fun _ _ _ h => h) (Or.inl ⟨by rfl, ?_⟩) (by assumption) ?_
                rotate_left
                · (intro w hSw; (try dsimp only at hSw); go_simp; (try with_reducible rfl))
                (try simp only [Act.put, List.setIfInBounds_toArray, List.set_cons_zero, List.set_cons_succ])
                refine wpAnyH_take (i := 3) (oi := { dst := some 139, op := Go.Op.indexAddr 30 (Go.Operand.tmp 137) (Go.Operand.tmp 138), type := 0, pos := "law.go:127", after := #[{ on := 1, ground := Go.Ground.data }, { on := 2, ground := Go.Ground.data }], guard := none }) (v := ?_) rfl (by kernel_rfl) (by kernel_rfl) (by kernel_rfl) (fun _ _ _ h => h) (Or.inl ⟨by rfl, ?_⟩) (by assumption) ?_
                rotate_left
                · (intro w hSw; (try dsimp only at hSw); go_simp; (try with_reducible rfl))
                (try simp only [Act.put, List.setIfInBounds_toArray, List.set_cons_zero, List.set_cons_succ])
                refine wpAnyH_take (i := 4) (oi := { dst := some 140, op := Go.Op.load 9 (Go.Operand.tmp 139), type := 9, pos := "law.go:127", after := #[{ on := 3, ground := Go.Ground.data }], guard := none }) (v := ?_) rfl (by kernel_rfl) (by kernel_rfl) (by kernel_rfl) (fun _ _ _ h => h) (Or.inl ⟨by rfl, ?_⟩) (by assumption) ?_
                rotate_left
                · (intro w hSw; (try dsimp only at hSw); go_simp; (try with_reducible rfl))
                (try simp only [Act.put, List.setIfInBounds_toArray, List.set_cons_zero, List.set_cons_succ])
                refine wpAnyH_ready (rs := [5]) (by kernel_rfl) (by simp) ?_
                refine AllReadyH.cons (o := { dst := some 141, op := Go.Op.call { callee := Go.Callee.value (Go.Operand.func 33), args := #[Go.Operand.tmp 136, Go.Operand.tmp 140], argTypes := #[25, 9] }, type := 4, pos := "law.go:127", after := #[{ on := 0, ground := Go.Ground.data }, { on := 4, ground := Go.Ground.data }], guard := none }) rfl (fun K hK => ?_) AllReadyH.nil
                go_simp
                refine (W9.out _ D0.out).mono ?_
                rintro e w9 ⟨rfl, hB⟩
                have B9 := Lib.hid (show Below wr.heap.size wr w9 from D0.out.trans (hB.mono D0.out.size))
                clear hB
                go_wp2_with fail
                refine hK.out _ _ ?_ (fun hHeld => ?_)
                · exact FF.out w9 B9.out
                clear hK K
                (try simp only [Act.put, List.setIfInBounds_toArray, List.set_cons_zero, List.set_cons_succ])
                refine wpAnyH_take (i := 6) (oi := { dst := some 142, op := Go.Op.unOp Go.UnOp.not 4 (Go.Operand.tmp 141), type := 4, pos := "law.go:127", after := #[{ on := 5, ground := Go.Ground.data }], guard := none }) (v := ?_) rfl (by kernel_rfl) (by kernel_rfl) (by kernel_rfl) (fun _ _ _ h => h) (Or.inl ⟨by rfl, ?_⟩) (by assumption) ?_
                rotate_left
                · (intro w hSw; (try dsimp only at hSw); go_simp; (try with_reducible rfl))
                (try simp only [Act.put, List.setIfInBounds_toArray, List.set_cons_zero, List.set_cons_succ])
                refine wpAnyH_take (i := 7) (oi := { dst := some 143, op := Go.Op.move (Go.Operand.tmp 142), type := 4, pos := "law.go:127", after := #[{ on := 6, ground := Go.Ground.data }, { on := 5, ground := Go.Ground.chain }], guard := none }) (v := ?_) rfl (by kernel_rfl) (by kernel_rfl) (by kernel_rfl) (fun _ _ _ h => h) (Or.inl ⟨by rfl, ?_⟩) (by assumption) ?_
                rotate_left
                · (intro w hSw; (try dsimp only at hSw); go_simp; (try with_reducible rfl))
                (try simp only [Act.put, List.setIfInBounds_toArray, List.set_cons_zero, List.set_cons_succ])
                refine wpAnyH_take (i := 8) (oi := { dst := some 144, op := Go.Op.fieldAddr 49 (Go.Operand.tmp 11) 2, type := 0, pos := "law.go:127", after := #[{ on := 7, ground := Go.Ground.guard }], guard := some (7, true) }) (v := undef) rfl (by kernel_rfl) (by kernel_rfl) (by kernel_rfl) (fun _ _ _ h => h) (Or.inr ⟨by rfl, rfl⟩) (by assumption) ?_
                (try simp only [Act.put, List.setIfInBounds_toArray, List.set_cons_zero, List.set_cons_succ])
                refine wpAnyH_take (i := 9) (oi := { dst := some 145, op := Go.Op.load 4 (Go.Operand.tmp 144), type := 4, pos := "law.go:127", after := #[{ on := 8, ground := Go.Ground.data }, { on := 7, ground := Go.Ground.guard }], guard := some (7, true) }) (v := undef) rfl (by kernel_rfl) (by kernel_rfl) (by kernel_rfl) (fun _ _ _ h => h) (Or.inr ⟨by rfl, rfl⟩) (by assumption) ?_
                (try simp only [Act.put, List.setIfInBounds_toArray, List.set_cons_zero, List.set_cons_succ])
                refine wpAnyH_take (i := 10) (oi := { dst := some 146, op := Go.Op.unOp Go.UnOp.not 4 (Go.Operand.tmp 145), type := 4, pos := "law.go:127", after := #[{ on := 9, ground := Go.Ground.data }, { on := 7, ground := Go.Ground.guard }], guard := some (7, true) }) (v := undef) rfl (by kernel_rfl) (by kernel_rfl) (by kernel_rfl) (fun _ _ _ h => h) (Or.inr ⟨by rfl, rfl⟩) (by assumption) ?_
                (try simp only [Act.put, List.setIfInBounds_toArray, List.set_cons_zero, List.set_cons_succ])
                refine wpAnyH_take (i := 11) (oi := { dst := some 147, op := Go.Op.move (Go.Operand.tmp 146), type := 4, pos := "law.go:127", after := #[{ on := 10, ground := Go.Ground.data }, { on := 7, ground := Go.Ground.chain }, { on := 7, ground := Go.Ground.guard }], guard := some (7, true) }) (v := undef) rfl (by kernel_rfl) (by kernel_rfl) (by kernel_rfl) (fun _ _ _ h => h) (Or.inr ⟨by rfl, rfl⟩) (by assumption) ?_
                (try simp only [Act.put, List.setIfInBounds_toArray, List.set_cons_zero, List.set_cons_succ])
                refine wpAnyH_take (i := 12) (oi := { dst := some 148, op := Go.Op.move (Go.Operand.tmp 10), type := 30, pos := "law.go:127", after := #[{ on := 11, ground := Go.Ground.guard }], guard := some (11, false) }) (v := undef) rfl (by kernel_rfl) (by kernel_rfl) (by kernel_rfl) (fun _ _ _ h => h) (Or.inr ⟨by rfl, rfl⟩) (by assumption) ?_
                (try simp only [Act.put, List.setIfInBounds_toArray, List.set_cons_zero, List.set_cons_succ])
                refine wpAnyH_take (i := 13) (oi := { dst := some 149, op := Go.Op.move (Go.Operand.tmp 14), type := 3, pos := "law.go:127", after := #[{ on := 11, ground := Go.Ground.guard }], guard := some (11, false) }) (v := undef) rfl (by kernel_rfl) (by kernel_rfl) (by kernel_rfl) (fun _ _ _ h => h) (Or.inr ⟨by rfl, rfl⟩) (by assumption) ?_
                (try simp only [Act.put, List.setIfInBounds_toArray, List.set_cons_zero, List.set_cons_succ])
                refine wpAnyH_take (i := 14) (oi := { dst := some 150, op := Go.Op.indexAddr 30 (Go.Operand.tmp 148) (Go.Operand.tmp 149), type := 0, pos := "law.go:127", after := #[{ on := 12, ground := Go.Ground.data }, { on := 13, ground := Go.Ground.data }, { on := 11, ground := Go.Ground.guard }], guard := some (11, false) }) (v := undef) rfl (by kernel_rfl) (by kernel_rfl) (by kernel_rfl) (fun _ _ _ h => h) (Or.inr ⟨by rfl, rfl⟩) (by assumption) ?_
                (try simp only [Act.put, List.setIfInBounds_toArray, List.set_cons_zero, List.set_cons_succ])
                refine wpAnyH_take (i := 15) (oi := { dst := some 151, op := Go.Op.load 9 (Go.Operand.tmp 150), type := 9, pos := "law.go:127", after := #[{ on := 14, ground := Go.Ground.data }, { on := 11, ground := Go.Ground.guard }], guard := some (11, false) }) (v := undef) rfl (by kernel_rfl) (by kernel_rfl) (by kernel_rfl) (fun _ _ _ h => h) (Or.inr ⟨by rfl, rfl⟩) (by assumption) ?_
                (try simp only [Act.put, List.setIfInBounds_toArray, List.set_cons_zero, List.set_cons_succ])
                refine wpAnyH_take (i := 16) (oi := { dst := some 152, op := Go.Op.fieldAddr 49 (Go.Operand.tmp 11) 1, type := 0, pos := "law.go:127", after := #[{ on := 11, ground := Go.Ground.guard }], guard := some (11, false) }) (v := undef) rfl (by kernel_rfl) (by kernel_rfl) (by kernel_rfl) (fun _ _ _ h => h) (Or.inr ⟨by rfl, rfl⟩) (by assumption) ?_
                (try simp only [Act.put, List.setIfInBounds_toArray, List.set_cons_zero, List.set_cons_succ])
                refine wpAnyH_take (i := 17) (oi := { dst := some 153, op := Go.Op.load 9 (Go.Operand.tmp 152), type := 9, pos := "law.go:127", after := #[{ on := 16, ground := Go.Ground.data }, { on := 11, ground := Go.Ground.guard }], guard := some (11, false) }) (v := undef) rfl (by kernel_rfl) (by kernel_rfl) (by kernel_rfl) (fun _ _ _ h => h) (Or.inr ⟨by rfl, rfl⟩) (by assumption) ?_
                (try simp only [Act.put, List.setIfInBounds_toArray, List.set_cons_zero, List.set_cons_succ])
                refine wpAnyH_take (i := 18) (oi := { dst := some 154, op := Go.Op.binOp Go.BinOp.neq 9 (Go.Operand.tmp 151) (Go.Operand.tmp 153) 9, type := 4, pos := "law.go:127", after := #[{ on := 15, ground := Go.Ground.data }, { on := 17, ground := Go.Ground.data }, { on := 11, ground := Go.Ground.guard }], guard := some (11, false) }) (v := undef) rfl (by kernel_rfl) (by kernel_rfl) (by kernel_rfl) (fun _ _ _ h => h) (Or.inr ⟨by rfl, rfl⟩) (by assumption) ?_
                (try simp only [Act.put, List.setIfInBounds_toArray, List.set_cons_zero, List.set_cons_succ])
                refine wpAnyH_take (i := 19) (oi := { dst := some 155, op := Go.Op.pick (Go.Operand.tmp 147) (Go.Operand.const (Go.Value.bool true)) (Go.Operand.tmp 154), type := 4, pos := "law.go:127", after := #[{ on := 11, ground := Go.Ground.data }, { on := 18, ground := Go.Ground.data }, { on := 7, ground := Go.Ground.guard }], guard := some (7, true) }) (v := undef) rfl (by kernel_rfl) (by kernel_rfl) (by kernel_rfl) (fun _ _ _ h => h) (Or.inr ⟨by rfl, rfl⟩) (by assumption) ?_
                (try simp only [Act.put, List.setIfInBounds_toArray, List.set_cons_zero, List.set_cons_succ])
                refine wpAnyH_take (i := 20) (oi := { dst := some 156, op := Go.Op.pick (Go.Operand.tmp 143) (Go.Operand.tmp 155) (Go.Operand.const (Go.Value.bool false)), type := 4, pos := "law.go:127", after := #[{ on := 7, ground := Go.Ground.data }, { on := 19, ground := Go.Ground.data }], guard := none }) (v := ?_) rfl (by kernel_rfl) (by kernel_rfl) (by kernel_rfl) (fun _ _ _ h => h) (Or.inl ⟨by rfl, ?_⟩) (by assumption) ?_
                rotate_left
                · (intro w hSw; (try dsimp only at hSw); go_simp; (try with_reducible rfl))
                (try simp only [Act.put, List.setIfInBounds_toArray, List.set_cons_zero, List.set_cons_succ])
                refine wpAnyH_done (by kernel_rfl) ?_ _
                refine NoPanic.normal ?_
                have L9 := Lib.hid (L8.out.below B9.out)
                have M9 := Lib.hid (M8.out.below B9.out)
                have X9 := Lib.hid (X8.out.went (Went.below B9.out))
                clear W9 L8 M8 X8 FF D0
                go_wp2_with fail
                go_roundw
                case rel => exact ⟨i + 1, by go_num, by omega, L9.out, M9.out, X9.out⟩
                case measure => simp [intOf]; omega
              · have e0 : decide (i < q) = false := by simpa using hlt2
                have hbx := Lib.hid (X8.out (nb, false, ⟨#[]⟩, false) (by simp)).1
                obtain ⟨x1, x2, x3, _, _⟩ := hbx.out.cells
                simp only at x1 x2 x3
                go_wp2_with fail
                refine Calls.mono (show Calls Tryz.prog 32 #[.pointer (some ⟨p, 0, none⟩)] wr (Told (.int .i64 ((q9 : Nat) : Int)) wr) from by
                  have := len_p wr p U3 sx (k + 1) L8.out.ca
                  rw [HLEN.out] at this
                  exact this) ?_
                rintro e w9 ⟨rfl, hB⟩
                have L9 := Lib.hid (L8.out.below hB)
                have hqm2 : ¬ ((mo : Int) < ((q9 : Nat) : Int)) := by have := HC3.out; have := HQM.out; omega
                clear hB L8 M8 X8
                go_wp2_with fail
                go_roundw
                case rel => exact ⟨k + 1, U3, by go_num, by omega, by rw [← HKO.out]; exact L9.out, by rw [← HKO.out]; exact HOO.out⟩
                case measure => simp [intOf]; omega
          · have hqe : q = mo := by have := HQM.out; omega
            have HC3 := Lib.hid hqe
            have hne : (q : Int) = (mo : Int) := by omega
            clear hroom hqe
            have hx1 : (st.tell (S k)).1 = false := RQ.out.hitE.trans HIN.out
            have hx3 : (st.tell (S k)).2.2 = true := by rw [RQ.out.outE, HIN.out, ← HQ.out]; rw [decide_eq_true (by have := HC3.out; omega)]; rfl
            obtain ⟨vk, hx2⟩ : ∃ v, (st.tell (S k)).2.1 = v := ⟨_, rfl⟩
            obtain ⟨hv1, hv2⟩ := RQ.out.vic hx3
            rw [hx2] at hv1 hv2
            have HV1 := Lib.hid hv1
            have HV2 := Lib.hid hv2
            clear hv1 hv2
            have HX := Lib.hid (And.intro hx1 (And.intro hx2 hx3))
            have W3 := request_p w2 p U st k (S k) L2.out.ca HSK.out (by omega)
            unfold KSt.step at W3
            rw [hx1, hx3, hx2] at W3
            have W3 := Lib.hid W3
            have hkey := (L2.out.bel.cell (p := ⟨g, o + k, none⟩) hg).trans (HCELL.out k hlt)
            clear hx1 hx2 hx3
            go_wp2_with fail
            refine W3.out.mono ?_
            intro e w3 hp
            obtain ⟨rfl, U3, hL3, hW3⟩ := L2.out.op hp
            have X4 := Lib.hid (box_new9 (w := w3) (T := U3) (L := []) (by intro q hq; cases hq) hL3.lt false true vk)
            have M3 := M2.out.went hW3 hL3.lt
            have M4 := Lib.hid (M3.below ((Below.refl _ _).alloc (Nat.le_refl _) (.cells #[.bool false, .string vk, .bool true] 49)))
            have L4 := Lib.hid (hL3.below ((Below.refl _ _).alloc (Nat.le_refl _) (.cells #[.bool false, .string vk, .bool true] 49)))
            have HHAS := Lib.hid (show (st.req (S k)).has (S k) = true from inn_iff.2 RQ.out.has)
            have hlen := RQ.out.len
            rw [HX.out.1, HX.out.2.2, ← HQ.out] at hlen
            have HLEN := Lib.hid (show (st.req (S k)).keys.length = q from hlen)
            have HSTAY := Lib.hid (show ∀ x ∈ st.keys, x ∈ (st.req (S k)).keys ∨ (true = true ∧ x = vk) from fun x hx => by
              have := RQ.out.stay x hx
              rw [HX.out.2.2, HX.out.2.1] at this
              exact this)
            have HKO := Lib.hid (show st.req (S k) = pst S kd mo (k + 1) from by rw [HST.out]; rfl)
            have HOO := Lib.hid (show ∀ x ∈ (st.req (S k)).keys, ∃ j, j < k + 1 ∧ x = S j from fun x hx => by
              rcases KSt.req_old L2.out.ca.ok (S k) x hx with h | h
              · obtain ⟨j, hj, e⟩ := HO.out x (by rw [← HST.out]; exact h)
                exact ⟨j, by omega, e⟩
              · exact ⟨k, by omega, h⟩)
            have HNOV := Lib.hid (show (st.req (S k)).has vk = false from inn_no.2 HV2.out)
            have HINV := Lib.hid (show inn st.keys vk = true from inn_iff.2 HV1.out)
            have HVS := Lib.hid (show vk.size ≤ maxLen from by obtain ⟨g, hr⟩ := M4.out.row; exact hr.2.1 _ HV1.out)
            clear hp hL3 hW3 M3 L2 M2 hkey W3 hlen HX RQ HO HST
            go_upto_region 15 with fail
            generalize w3.heap.size = nb at *
            generalize w3.alloc (.cells #[.bool false, .string vk, .bool true] 49) = w4 at *
            generalize st.req (S k) = sx at *
            go_wp2_with fail
            refine (keys_p w4 p U3 sx (k + 1) L4.out.ca).mono ?_
            rintro e w5 ⟨v5, rfl, hO5, hB⟩
            obtain ⟨A5, c5, rfl⟩ := hO5.len
            rw [HLEN.out]
            have L5 := Lib.hid (L4.out.below hB)
            have M5 := Lib.hid (M4.out.below hB)
            have X5 := Lib.hid (X4.out.went (Went.below hB))
            have hkey := (L5.out.bel.cell (p := ⟨g, o + k, none⟩) hg).trans (HCELL.out k hlt)
            have hbx := Lib.hid (X5.out (nb, false, vk, true) (by simp)).1
            obtain ⟨x1, x2, x3, _, _⟩ := hbx.out.cells
            simp only at x1 x2 x3
            clear hB hO5 L4 M4 X4
            go_wp2_with fail
            refine Calls.mono (show Calls Tryz.prog 34 #[.slice A2 q c2, .string (S k)] w5 (BoolPost false w5) from by
              obtain ⟨g, hr⟩ := M5.out.row
              have := refHas_any w5 g _ _ (S k) hr
              rw [HIN.out] at this
              exact this) ?_
            rintro e w6 ⟨rfl, rfl⟩
            go_wp2_with fail
            refine Calls.mono (show Calls Tryz.prog 33 #[.pointer (some ⟨p, 0, none⟩), .string (S k)] w5 (Told (.bool true) w5) from by
              have := has_p w5 p U3 sx (k + 1) (S k) L5.out.ca HSK.out
              rw [HHAS.out] at this
              exact this) ?_
            rintro e w6 ⟨rfl, hB⟩
            have L6 := Lib.hid (L5.out.below hB)
            have M6 := Lib.hid (M5.out.below hB)
            have X6 := Lib.hid (X5.out.went (Went.below hB))
            clear x1 x2 x3 hbx
            have hbx := Lib.hid (X6.out (nb, false, vk, true) (by simp)).1
            obtain ⟨x1, x2, x3, _, _⟩ := hbx.out.cells
            simp only at x1 x2 x3
            clear hB L5 M5 X5 hkey
            go_wp2_with fail
            refine Calls.mono (show Calls Tryz.prog 33 #[.pointer (some ⟨p, 0, none⟩), .string vk] w6 (Told (.bool false) w6) from by
              have := has_p w6 p U3 sx (k + 1) vk L6.out.ca HVS.out
              rw [HNOV.out] at this
              exact this) ?_
            rintro e w7 ⟨rfl, hB⟩
            have L7 := Lib.hid (L6.out.below hB)
            have M7 := Lib.hid (M6.out.below hB)
            have X7 := Lib.hid (X6.out.went (Went.below hB))
            clear x1 x2 x3 hbx
            have hbx := Lib.hid (X7.out (nb, false, vk, true) (by simp)).1
            obtain ⟨x1, x2, x3, _, _⟩ := hbx.out.cells
            simp only at x1 x2 x3
            clear hB L6 M6 X6
            go_wp2_with fail
            refine Calls.mono (show Calls Tryz.prog 34 #[.slice A2 q c2, .string vk] w7 (BoolPost true w7) from by
              obtain ⟨g, hr⟩ := M7.out.row
              have := refHas_any w7 g _ _ vk hr
              rw [HINV.out] at this
              exact this) ?_
            rintro e w8 ⟨rfl, rfl⟩
            go_wp2_with fail
            clear x1 x2 x3 hbx
            go_loopw [14] (fun i W => KpR sx (.slice A2 q c2) st.keys U3 p (k + 1) [(nb, false, vk, true)] w q i W) (fun i _ => q - (intOf i).toNat)
            case atStart => exact ⟨0, rfl, Nat.zero_le _, L7.out, M7.out, X7.out⟩
            case round =>
              obtain ⟨i, rfl, hi, hL, hM, hX⟩ := hrel
              have L8 := Lib.hid hL
              have M8 := Lib.hid hM
              have X8 := Lib.hid hX
              clear hL hM hX L7 M7 X7
              by_cases hlt2 : i < q
              · have e0 : decide (i < q) = true := by simpa using hlt2
                obtain ⟨g2, hr⟩ := M8.out.row
                have hiq : i < st.keys.length := by rw [← HQ.out]; exact hlt2
                obtain ⟨o2, rfl, hg2, hcell2, hc12, hc22⟩ := hr.at hiq
                have hmem : st.keys.getD i ⟨#[]⟩ ∈ st.keys := by rw [List.getD_eq_getElem?_getD, List.getElem?_eq_getElem hiq]; exact List.getElem_mem hiq
                have hsz := hr.2.1 _ hmem
                have hst := HSTAY.out _ hmem
                generalize st.keys.getD i ⟨#[]⟩ = y at *
                have W9 := fun (W : World) (h : Below wr.heap.size wr W) => has_p W p U3 sx (k + 1) y (L8.out.ca.below h) hsz
                have D0 := Lib.hid (show Below wr.heap.size wr wr.drew from ⟨rfl, rfl, rfl, Nat.le_refl _, fun _ _ => rfl⟩)
                have FF := Lib.hid (show ∀ W, Below wr.heap.size wr W → W.cell? ⟨g2, o2 + i, none⟩ = some (.string y) ∧ W.cell? ⟨nb, 1, none⟩ = some (.string vk) ∧ W.cell? ⟨nb, 2, none⟩ = some (.bool true) from fun W h => by
                  obtain ⟨_, b2, b3, _, _⟩ := (X8.out.went (Went.below h) (nb, false, vk, true) (by simp)).1.cells
                  exact ⟨(h.cell (p := ⟨g2, o2 + i, none⟩) hg2).trans hcell2, b2, b3⟩)
                rw [← HQ.out] at hc12
                unfold maxLen at hc22 hsz
                have HST2 := Lib.hid hst
                clear hr hmem hiq hst
                cases hyt : sx.has y with
                | true =>
                  rw [hyt] at W9
                  have W9 := Lib.hid W9
                  clear hyt
                  go_wp2_with fail
                  refine wp_region_noPanic ?_
                  refine wp_region_held_drew (S := fun w' => w'.cell? ⟨g2, o2 + i, none⟩ = some (.string y) ∧ w'.cell? ⟨nb, 1, none⟩ = some (.string vk) ∧ w'.cell? ⟨nb, 2, none⟩ = some (.bool true)) (by kernel_rfl) ?_ (fun hHeld => ?_)
                  · exact FF.out wr (Below.refl _ _)
                  refine wpAnyH_take (i := 0) (oi := { dst := some 136, op := Go.Op.move (Go.Operand.tmp 7), type := 25, pos := "law.go:127", after := #[], guard := none }) (v := ?_) rfl (by kernel_rfl) (by kernel_rfl) (by kernel_rfl) (fun _ _ _ h => h) (Or.inl ⟨by rfl, ?_⟩) (by assumption) ?_
                  rotate_left
                  · (intro w hSw; (try dsimp only at hSw); go_simp; (try with_reducible rfl))
                  (try simp only [Act.put, List.setIfInBounds_toArray, List.set_cons_zero, List.set_cons_succ])
                  refine wpAnyH_take (i := 1) (oi := { dst := some 137, op := Go.Op.move (Go.Operand.tmp 10), type := 30, pos := "law.go:127", after := #[], guard := none }) (v := ?_) rfl (by kernel_rfl) (by kernel_rfl) (by kernel_rfl) (fun _ _ _ h => h) (Or.inl ⟨by rfl, ?_⟩) (by assumption) ?_
                  rotate_left
                  · (intro w hSw; (try dsimp only at hSw); go_simp; (try with_reducible rfl))
                  (try simp only [Act.put, List.setIfInBounds_toArray, List.set_cons_zero, List.set_cons_succ])
                  refine wpAnyH_take (i := 2) (oi := { dst := some 138, op := Go.Op.move (Go.Operand.tmp 14), type := 3, pos := "law.go:127", after := #[], guard := none }) (v := ?_) rfl (by kernel_rfl) (by kernel_rfl) (by kernel_rfl) (fun _ _ _ h => h) (Or.inl ⟨by rfl, ?_⟩) (by assumption) ?_
                  rotate_left
                  · (intro w hSw; (try dsimp only at hSw); go_simp; (try with_reducible rfl))
                  (try simp only [Act.put, List.setIfInBounds_toArray, List.set_cons_zero, List.set_cons_succ])
                  refine wpAnyH_take (i := 3) (oi := { dst := some 139, op := Go.Op.indexAddr 30 (Go.Operand.tmp 137) (Go.Operand.tmp 138), type := 0, pos := "law.go:127", after := #[{ on := 1, ground := Go.Ground.data }, { on := 2, ground := Go.Ground.data }], guard := none }) (v := ?_) rfl (by kernel_rfl) (by kernel_rfl) (by kernel_rfl) (fun _ _ _ h => h) (Or.inl ⟨by rfl, ?_⟩) (by assumption) ?_
                  rotate_left
                  · (intro w hSw; (try dsimp only at hSw); go_simp; (try with_reducible rfl))
                  (try simp only [Act.put, List.setIfInBounds_toArray, List.set_cons_zero, List.set_cons_succ])
                  refine wpAnyH_take (i := 4) (oi := { dst := some 140, op := Go.Op.load 9 (Go.Operand.tmp 139), type := 9, pos := "law.go:127", after := #[{ on := 3, ground := Go.Ground.data }], guard := none }) (v := ?_) rfl (by kernel_rfl) (by kernel_rfl) (by kernel_rfl) (fun _ _ _ h => h) (Or.inl ⟨by rfl, ?_⟩) (by assumption) ?_
                  rotate_left
                  · (intro w hSw; (try dsimp only at hSw); go_simp; (try with_reducible rfl))
                  (try simp only [Act.put, List.setIfInBounds_toArray, List.set_cons_zero, List.set_cons_succ])
                  refine wpAnyH_ready (rs := [5]) (by kernel_rfl) (by simp) ?_
                  refine AllReadyH.cons (o := { dst := some 141, op := Go.Op.call { callee := Go.Callee.value (Go.Operand.func 33), args := #[Go.Operand.tmp 136, Go.Operand.tmp 140], argTypes := #[25, 9] }, type := 4, pos := "law.go:127", after := #[{ on := 0, ground := Go.Ground.data }, { on := 4, ground := Go.Ground.data }], guard := none }) rfl (fun K hK => ?_) AllReadyH.nil
                  go_simp
                  refine (W9.out _ D0.out).mono ?_
                  rintro e w9 ⟨rfl, hB⟩
                  have B9 := Lib.hid (show Below wr.heap.size wr w9 from D0.out.trans (hB.mono D0.out.size))
                  clear hB
                  go_wp2_with fail
                  refine hK.out _ _ ?_ (fun hHeld => ?_)
                  · exact FF.out w9 B9.out
                  clear hK K
                  (try simp only [Act.put, List.setIfInBounds_toArray, List.set_cons_zero, List.set_cons_succ])
                  refine wpAnyH_take (i := 6) (oi := { dst := some 142, op := Go.Op.unOp Go.UnOp.not 4 (Go.Operand.tmp 141), type := 4, pos := "law.go:127", after := #[{ on := 5, ground := Go.Ground.data }], guard := none }) (v := ?_) rfl (by kernel_rfl) (by kernel_rfl) (by kernel_rfl) (fun _ _ _ h => h) (Or.inl ⟨by rfl, ?_⟩) (by assumption) ?_
                  rotate_left
                  · (intro w hSw; (try dsimp only at hSw); go_simp; (try with_reducible rfl))
                  (try simp only [Act.put, List.setIfInBounds_toArray, List.set_cons_zero, List.set_cons_succ])
                  refine wpAnyH_take (i := 7) (oi := { dst := some 143, op := Go.Op.move (Go.Operand.tmp 142), type := 4, pos := "law.go:127", after := #[{ on := 6, ground := Go.Ground.data }, { on := 5, ground := Go.Ground.chain }], guard := none }) (v := ?_) rfl (by kernel_rfl) (by kernel_rfl) (by kernel_rfl) (fun _ _ _ h => h) (Or.inl ⟨by rfl, ?_⟩) (by assumption) ?_
                  rotate_left
                  · (intro w hSw; (try dsimp only at hSw); go_simp; (try with_reducible rfl))
                  (try simp only [Act.put, List.setIfInBounds_toArray, List.set_cons_zero, List.set_cons_succ])
                  refine wpAnyH_take (i := 8) (oi := { dst := some 144, op := Go.Op.fieldAddr 49 (Go.Operand.tmp 11) 2, type := 0, pos := "law.go:127", after := #[{ on := 7, ground := Go.Ground.guard }], guard := some (7, true) }) (v := undef) rfl (by kernel_rfl) (by kernel_rfl) (by kernel_rfl) (fun _ _ _ h => h) (Or.inr ⟨by rfl, rfl⟩) (by assumption) ?_
                  (try simp only [Act.put, List.setIfInBounds_toArray, List.set_cons_zero, List.set_cons_succ])
                  refine wpAnyH_take (i := 9) (oi := { dst := some 145, op := Go.Op.load 4 (Go.Operand.tmp 144), type := 4, pos := "law.go:127", after := #[{ on := 8, ground := Go.Ground.data }, { on := 7, ground := Go.Ground.guard }], guard := some (7, true) }) (v := undef) rfl (by kernel_rfl) (by kernel_rfl) (by kernel_rfl) (fun _ _ _ h => h) (Or.inr ⟨by rfl, rfl⟩) (by assumption) ?_
                  (try simp only [Act.put, List.setIfInBounds_toArray, List.set_cons_zero, List.set_cons_succ])
                  refine wpAnyH_take (i := 10) (oi := { dst := some 146, op := Go.Op.unOp Go.UnOp.not 4 (Go.Operand.tmp 145), type := 4, pos := "law.go:127", after := #[{ on := 9, ground := Go.Ground.data }, { on := 7, ground := Go.Ground.guard }], guard := some (7, true) }) (v := undef) rfl (by kernel_rfl) (by kernel_rfl) (by kernel_rfl) (fun _ _ _ h => h) (Or.inr ⟨by rfl, rfl⟩) (by assumption) ?_
                  (try simp only [Act.put, List.setIfInBounds_toArray, List.set_cons_zero, List.set_cons_succ])
                  refine wpAnyH_take (i := 11) (oi := { dst := some 147, op := Go.Op.move (Go.Operand.tmp 146), type := 4, pos := "law.go:127", after := #[{ on := 10, ground := Go.Ground.data }, { on := 7, ground := Go.Ground.chain }, { on := 7, ground := Go.Ground.guard }], guard := some (7, true) }) (v := undef) rfl (by kernel_rfl) (by kernel_rfl) (by kernel_rfl) (fun _ _ _ h => h) (Or.inr ⟨by rfl, rfl⟩) (by assumption) ?_
                  (try simp only [Act.put, List.setIfInBounds_toArray, List.set_cons_zero, List.set_cons_succ])
                  refine wpAnyH_take (i := 12) (oi := { dst := some 148, op := Go.Op.move (Go.Operand.tmp 10), type := 30, pos := "law.go:127", after := #[{ on := 11, ground := Go.Ground.guard }], guard := some (11, false) }) (v := undef) rfl (by kernel_rfl) (by kernel_rfl) (by kernel_rfl) (fun _ _ _ h => h) (Or.inr ⟨by rfl, rfl⟩) (by assumption) ?_
                  (try simp only [Act.put, List.setIfInBounds_toArray, List.set_cons_zero, List.set_cons_succ])
                  refine wpAnyH_take (i := 13) (oi := { dst := some 149, op := Go.Op.move (Go.Operand.tmp 14), type := 3, pos := "law.go:127", after := #[{ on := 11, ground := Go.Ground.guard }], guard := some (11, false) }) (v := undef) rfl (by kernel_rfl) (by kernel_rfl) (by kernel_rfl) (fun _ _ _ h => h) (Or.inr ⟨by rfl, rfl⟩) (by assumption) ?_
                  (try simp only [Act.put, List.setIfInBounds_toArray, List.set_cons_zero, List.set_cons_succ])
                  refine wpAnyH_take (i := 14) (oi := { dst := some 150, op := Go.Op.indexAddr 30 (Go.Operand.tmp 148) (Go.Operand.tmp 149), type := 0, pos := "law.go:127", after := #[{ on := 12, ground := Go.Ground.data }, { on := 13, ground := Go.Ground.data }, { on := 11, ground := Go.Ground.guard }], guard := some (11, false) }) (v := undef) rfl (by kernel_rfl) (by kernel_rfl) (by kernel_rfl) (fun _ _ _ h => h) (Or.inr ⟨by rfl, rfl⟩) (by assumption) ?_
                  (try simp only [Act.put, List.setIfInBounds_toArray, List.set_cons_zero, List.set_cons_succ])
                  refine wpAnyH_take (i := 15) (oi := { dst := some 151, op := Go.Op.load 9 (Go.Operand.tmp 150), type := 9, pos := "law.go:127", after := #[{ on := 14, ground := Go.Ground.data }, { on := 11, ground := Go.Ground.guard }], guard := some (11, false) }) (v := undef) rfl (by kernel_rfl) (by kernel_rfl) (by kernel_rfl) (fun _ _ _ h => h) (Or.inr ⟨by rfl, rfl⟩) (by assumption) ?_
                  (try simp only [Act.put, List.setIfInBounds_toArray, List.set_cons_zero, List.set_cons_succ])
                  refine wpAnyH_take (i := 16) (oi := { dst := some 152, op := Go.Op.fieldAddr 49 (Go.Operand.tmp 11) 1, type := 0, pos := "law.go:127", after := #[{ on := 11, ground := Go.Ground.guard }], guard := some (11, false) }) (v := undef) rfl (by kernel_rfl) (by kernel_rfl) (by kernel_rfl) (fun _ _ _ h => h) (Or.inr ⟨by rfl, rfl⟩) (by assumption) ?_
                  (try simp only [Act.put, List.setIfInBounds_toArray, List.set_cons_zero, List.set_cons_succ])
                  refine wpAnyH_take (i := 17) (oi := { dst := some 153, op := Go.Op.load 9 (Go.Operand.tmp 152), type := 9, pos := "law.go:127", after := #[{ on := 16, ground := Go.Ground.data }, { on := 11, ground := Go.Ground.guard }], guard := some (11, false) }) (v := undef) rfl (by kernel_rfl) (by kernel_rfl) (by kernel_rfl) (fun _ _ _ h => h) (Or.inr ⟨by rfl, rfl⟩) (by assumption) ?_
                  (try simp only [Act.put, List.setIfInBounds_toArray, List.set_cons_zero, List.set_cons_succ])
                  refine wpAnyH_take (i := 18) (oi := { dst := some 154, op := Go.Op.binOp Go.BinOp.neq 9 (Go.Operand.tmp 151) (Go.Operand.tmp 153) 9, type := 4, pos := "law.go:127", after := #[{ on := 15, ground := Go.Ground.data }, { on := 17, ground := Go.Ground.data }, { on := 11, ground := Go.Ground.guard }], guard := some (11, false) }) (v := undef) rfl (by kernel_rfl) (by kernel_rfl) (by kernel_rfl) (fun _ _ _ h => h) (Or.inr ⟨by rfl, rfl⟩) (by assumption) ?_
                  (try simp only [Act.put, List.setIfInBounds_toArray, List.set_cons_zero, List.set_cons_succ])
                  refine wpAnyH_take (i := 19) (oi := { dst := some 155, op := Go.Op.pick (Go.Operand.tmp 147) (Go.Operand.const (Go.Value.bool true)) (Go.Operand.tmp 154), type := 4, pos := "law.go:127", after := #[{ on := 11, ground := Go.Ground.data }, { on := 18, ground := Go.Ground.data }, { on := 7, ground := Go.Ground.guard }], guard := some (7, true) }) (v := undef) rfl (by kernel_rfl) (by kernel_rfl) (by kernel_rfl) (fun _ _ _ h => h) (Or.inr ⟨by rfl, rfl⟩) (by assumption) ?_
                  (try simp only [Act.put, List.setIfInBounds_toArray, List.set_cons_zero, List.set_cons_succ])
                  refine wpAnyH_take (i := 20) (oi := { dst := some 156, op := Go.Op.pick (Go.Operand.tmp 143) (Go.Operand.tmp 155) (Go.Operand.const (Go.Value.bool false)), type := 4, pos := "law.go:127", after := #[{ on := 7, ground := Go.Ground.data }, { on := 19, ground := Go.Ground.data }], guard := none }) (v := ?_) rfl (by kernel_rfl) (by kernel_rfl) (by kernel_rfl) (fun _ _ _ h => h) (Or.inl ⟨by rfl, ?_⟩) (by assumption) ?_
                  rotate_left
                  · (intro w hSw; (try dsimp only at hSw); go_simp; (try with_reducible rfl))
                  (try simp only [Act.put, List.setIfInBounds_toArray, List.set_cons_zero, List.set_cons_succ])
                  refine wpAnyH_done (by kernel_rfl) ?_ _
                  refine NoPanic.normal ?_
                  have L9 := Lib.hid (L8.out.below B9.out)
                  have M9 := Lib.hid (M8.out.below B9.out)
                  have X9 := Lib.hid (X8.out.went (Went.below B9.out))
                  clear W9 L8 M8 X8 FF D0
                  go_wp2_with fail
                  go_roundw
                  case rel => exact ⟨i + 1, by go_num, by omega, L9.out, M9.out, X9.out⟩
                  case measure => simp [intOf]; omega
                | false =>
                  obtain rfl : y = vk := by
                    rcases HST2.out with h | h
                    · rw [show sx.has y = true from inn_iff.2 h] at hyt; cases hyt
                    · exact h.2
                  rw [hyt] at W9
                  have W9 := Lib.hid W9
                  clear hyt
                  go_wp2_with fail
                  refine wp_region_noPanic ?_
                  refine wp_region_held_drew (S := fun w' => w'.cell? ⟨g2, o2 + i, none⟩ = some (.string y) ∧ w'.cell? ⟨nb, 1, none⟩ = some (.string y) ∧ w'.cell? ⟨nb, 2, none⟩ = some (.bool true)) (by kernel_rfl) ?_ (fun hHeld => ?_)
                  · exact FF.out wr (Below.refl _ _)
                  refine wpAnyH_take (i := 0) (oi := { dst := some 136, op := Go.Op.move (Go.Operand.tmp 7), type := 25, pos := "law.go:127", after := #[], guard := none }) (v := ?_) rfl (by kernel_rfl) (by kernel_rfl) (by kernel_rfl) (fun _ _ _ h => h) (Or.inl ⟨by rfl, ?_⟩) (by assumption) ?_
                  rotate_left
                  · (intro w hSw; (try dsimp only at hSw); go_simp; (try with_reducible rfl))
                  (try simp only [Act.put, List.setIfInBounds_toArray, List.set_cons_zero, List.set_cons_succ])
                  refine wpAnyH_take (i := 1) (oi := { dst := some 137, op := Go.Op.move (Go.Operand.tmp 10), type := 30, pos := "law.go:127", after := #[], guard := none }) (v := ?_) rfl (by kernel_rfl) (by kernel_rfl) (by kernel_rfl) (fun _ _ _ h => h) (Or.inl ⟨by rfl, ?_⟩) (by assumption) ?_
                  rotate_left
                  · (intro w hSw; (try dsimp only at hSw); go_simp; (try with_reducible rfl))
                  (try simp only [Act.put, List.setIfInBounds_toArray, List.set_cons_zero, List.set_cons_succ])
                  refine wpAnyH_take (i := 2) (oi := { dst := some 138, op := Go.Op.move (Go.Operand.tmp 14), type := 3, pos := "law.go:127", after := #[], guard := none }) (v := ?_) rfl (by kernel_rfl) (by kernel_rfl) (by kernel_rfl) (fun _ _ _ h => h) (Or.inl ⟨by rfl, ?_⟩) (by assumption) ?_
                  rotate_left
                  · (intro w hSw; (try dsimp only at hSw); go_simp; (try with_reducible rfl))
                  (try simp only [Act.put, List.setIfInBounds_toArray, List.set_cons_zero, List.set_cons_succ])
                  refine wpAnyH_take (i := 3) (oi := { dst := some 139, op := Go.Op.indexAddr 30 (Go.Operand.tmp 137) (Go.Operand.tmp 138), type := 0, pos := "law.go:127", after := #[{ on := 1, ground := Go.Ground.data }, { on := 2, ground := Go.Ground.data }], guard := none }) (v := ?_) rfl (by kernel_rfl) (by kernel_rfl) (by kernel_rfl) (fun _ _ _ h => h) (Or.inl ⟨by rfl, ?_⟩) (by assumption) ?_
                  rotate_left
                  · (intro w hSw; (try dsimp only at hSw); go_simp; (try with_reducible rfl))
                  (try simp only [Act.put, List.setIfInBounds_toArray, List.set_cons_zero, List.set_cons_succ])
                  refine wpAnyH_take (i := 4) (oi := { dst := some 140, op := Go.Op.load 9 (Go.Operand.tmp 139), type := 9, pos := "law.go:127", after := #[{ on := 3, ground := Go.Ground.data }], guard := none }) (v := ?_) rfl (by kernel_rfl) (by kernel_rfl) (by kernel_rfl) (fun _ _ _ h => h) (Or.inl ⟨by rfl, ?_⟩) (by assumption) ?_
                  rotate_left
                  · (intro w hSw; (try dsimp only at hSw); go_simp; (try with_reducible rfl))
                  (try simp only [Act.put, List.setIfInBounds_toArray, List.set_cons_zero, List.set_cons_succ])
                  refine wpAnyH_ready (rs := [5]) (by kernel_rfl) (by simp) ?_
                  refine AllReadyH.cons (o := { dst := some 141, op := Go.Op.call { callee := Go.Callee.value (Go.Operand.func 33), args := #[Go.Operand.tmp 136, Go.Operand.tmp 140], argTypes := #[25, 9] }, type := 4, pos := "law.go:127", after := #[{ on := 0, ground := Go.Ground.data }, { on := 4, ground := Go.Ground.data }], guard := none }) rfl (fun K hK => ?_) AllReadyH.nil
                  go_simp
                  refine (W9.out _ D0.out).mono ?_
                  rintro e w9 ⟨rfl, hB⟩
                  have B9 := Lib.hid (show Below wr.heap.size wr w9 from D0.out.trans (hB.mono D0.out.size))
                  clear hB
                  go_wp2_with fail
                  refine hK.out _ _ ?_ (fun hHeld => ?_)
                  · exact FF.out w9 B9.out
                  clear hK K
                  (try simp only [Act.put, List.setIfInBounds_toArray, List.set_cons_zero, List.set_cons_succ])
                  refine wpAnyH_take (i := 6) (oi := { dst := some 142, op := Go.Op.unOp Go.UnOp.not 4 (Go.Operand.tmp 141), type := 4, pos := "law.go:127", after := #[{ on := 5, ground := Go.Ground.data }], guard := none }) (v := ?_) rfl (by kernel_rfl) (by kernel_rfl) (by kernel_rfl) (fun _ _ _ h => h) (Or.inl ⟨by rfl, ?_⟩) (by assumption) ?_
                  rotate_left
                  · (intro w hSw; (try dsimp only at hSw); go_simp; (try with_reducible rfl))
                  (try simp only [Act.put, List.setIfInBounds_toArray, List.set_cons_zero, List.set_cons_succ])
                  refine wpAnyH_take (i := 7) (oi := { dst := some 143, op := Go.Op.move (Go.Operand.tmp 142), type := 4, pos := "law.go:127", after := #[{ on := 6, ground := Go.Ground.data }, { on := 5, ground := Go.Ground.chain }], guard := none }) (v := ?_) rfl (by kernel_rfl) (by kernel_rfl) (by kernel_rfl) (fun _ _ _ h => h) (Or.inl ⟨by rfl, ?_⟩) (by assumption) ?_
                  rotate_left
                  · (intro w hSw; (try dsimp only at hSw); go_simp; (try with_reducible rfl))
                  (try simp only [Act.put, List.setIfInBounds_toArray, List.set_cons_zero, List.set_cons_succ])
                  refine wpAnyH_take (i := 8) (oi := { dst := some 144, op := Go.Op.fieldAddr 49 (Go.Operand.tmp 11) 2, type := 0, pos := "law.go:127", after := #[{ on := 7, ground := Go.Ground.guard }], guard := some (7, true) }) (v := ?_) rfl (by kernel_rfl) (by kernel_rfl) (by kernel_rfl) (fun _ _ _ h => h) (Or.inl ⟨by rfl, ?_⟩) (by assumption) ?_
                  rotate_left
                  · (intro w hSw; (try dsimp only at hSw); go_simp; (try with_reducible rfl))
                  (try simp only [Act.put, List.setIfInBounds_toArray, List.set_cons_zero, List.set_cons_succ])
                  refine wpAnyH_take (i := 9) (oi := { dst := some 145, op := Go.Op.load 4 (Go.Operand.tmp 144), type := 4, pos := "law.go:127", after := #[{ on := 8, ground := Go.Ground.data }, { on := 7, ground := Go.Ground.guard }], guard := some (7, true) }) (v := ?_) rfl (by kernel_rfl) (by kernel_rfl) (by kernel_rfl) (fun _ _ _ h => h) (Or.inl ⟨by rfl, ?_⟩) (by assumption) ?_
                  rotate_left
                  · (intro w hSw; (try dsimp only at hSw); go_simp; (try with_reducible rfl))
                  (try simp only [Act.put, List.setIfInBounds_toArray, List.set_cons_zero, List.set_cons_succ])
                  refine wpAnyH_take (i := 10) (oi := { dst := some 146, op := Go.Op.unOp Go.UnOp.not 4 (Go.Operand.tmp 145), type := 4, pos := "law.go:127", after := #[{ on := 9, ground := Go.Ground.data }, { on := 7, ground := Go.Ground.guard }], guard := some (7, true) }) (v := ?_) rfl (by kernel_rfl) (by kernel_rfl) (by kernel_rfl) (fun _ _ _ h => h) (Or.inl ⟨by rfl, ?_⟩) (by assumption) ?_
                  rotate_left
                  · (intro w hSw; (try dsimp only at hSw); go_simp; (try with_reducible rfl))
                  (try simp only [Act.put, List.setIfInBounds_toArray, List.set_cons_zero, List.set_cons_succ])
                  refine wpAnyH_take (i := 11) (oi := { dst := some 147, op := Go.Op.move (Go.Operand.tmp 146), type := 4, pos := "law.go:127", after := #[{ on := 10, ground := Go.Ground.data }, { on := 7, ground := Go.Ground.chain }, { on := 7, ground := Go.Ground.guard }], guard := some (7, true) }) (v := ?_) rfl (by kernel_rfl) (by kernel_rfl) (by kernel_rfl) (fun _ _ _ h => h) (Or.inl ⟨by rfl, ?_⟩) (by assumption) ?_
                  rotate_left
                  · (intro w hSw; (try dsimp only at hSw); go_simp; (try with_reducible rfl))
                  (try simp only [Act.put, List.setIfInBounds_toArray, List.set_cons_zero, List.set_cons_succ])
                  refine wpAnyH_take (i := 12) (oi := { dst := some 148, op := Go.Op.move (Go.Operand.tmp 10), type := 30, pos := "law.go:127", after := #[{ on := 11, ground := Go.Ground.guard }], guard := some (11, false) }) (v := ?_) rfl (by kernel_rfl) (by kernel_rfl) (by kernel_rfl) (fun _ _ _ h => h) (Or.inl ⟨by rfl, ?_⟩) (by assumption) ?_
                  rotate_left
                  · (intro w hSw; (try dsimp only at hSw); go_simp; (try with_reducible rfl))
                  (try simp only [Act.put, List.setIfInBounds_toArray, List.set_cons_zero, List.set_cons_succ])
                  refine wpAnyH_take (i := 13) (oi := { dst := some 149, op := Go.Op.move (Go.Operand.tmp 14), type := 3, pos := "law.go:127", after := #[{ on := 11, ground := Go.Ground.guard }], guard := some (11, false) }) (v := ?_) rfl (by kernel_rfl) (by kernel_rfl) (by kernel_rfl) (fun _ _ _ h => h) (Or.inl ⟨by rfl, ?_⟩) (by assumption) ?_
                  rotate_left
                  · (intro w hSw; (try dsimp only at hSw); go_simp; (try with_reducible rfl))
                  (try simp only [Act.put, List.setIfInBounds_toArray, List.set_cons_zero, List.set_cons_succ])
                  refine wpAnyH_take (i := 14) (oi := { dst := some 150, op := Go.Op.indexAddr 30 (Go.Operand.tmp 148) (Go.Operand.tmp 149), type := 0, pos := "law.go:127", after := #[{ on := 12, ground := Go.Ground.data }, { on := 13, ground := Go.Ground.data }, { on := 11, ground := Go.Ground.guard }], guard := some (11, false) }) (v := ?_) rfl (by kernel_rfl) (by kernel_rfl) (by kernel_rfl) (fun _ _ _ h => h) (Or.inl ⟨by rfl, ?_⟩) (by assumption) ?_
                  rotate_left
                  · (intro w hSw; (try dsimp only at hSw); go_simp; (try with_reducible rfl))
                  (try simp only [Act.put, List.setIfInBounds_toArray, List.set_cons_zero, List.set_cons_succ])
                  refine wpAnyH_take (i := 15) (oi := { dst := some 151, op := Go.Op.load 9 (Go.Operand.tmp 150), type := 9, pos := "law.go:127", after := #[{ on := 14, ground := Go.Ground.data }, { on := 11, ground := Go.Ground.guard }], guard := some (11, false) }) (v := ?_) rfl (by kernel_rfl) (by kernel_rfl) (by kernel_rfl) (fun _ _ _ h => h) (Or.inl ⟨by rfl, ?_⟩) (by assumption) ?_
                  rotate_left
                  · (intro w hSw; (try dsimp only at hSw); go_simp; (try with_reducible rfl))
                  (try simp only [Act.put, List.setIfInBounds_toArray, List.set_cons_zero, List.set_cons_succ])
                  refine wpAnyH_take (i := 16) (oi := { dst := some 152, op := Go.Op.fieldAddr 49 (Go.Operand.tmp 11) 1, type := 0, pos := "law.go:127", after := #[{ on := 11, ground := Go.Ground.guard }], guard := some (11, false) }) (v := ?_) rfl (by kernel_rfl) (by kernel_rfl) (by kernel_rfl) (fun _ _ _ h => h) (Or.inl ⟨by rfl, ?_⟩) (by assumption) ?_
                  rotate_left
                  · (intro w hSw; (try dsimp only at hSw); go_simp; (try with_reducible rfl))
                  (try simp only [Act.put, List.setIfInBounds_toArray, List.set_cons_zero, List.set_cons_succ])
                  refine wpAnyH_take (i := 17) (oi := { dst := some 153, op := Go.Op.load 9 (Go.Operand.tmp 152), type := 9, pos := "law.go:127", after := #[{ on := 16, ground := Go.Ground.data }, { on := 11, ground := Go.Ground.guard }], guard := some (11, false) }) (v := ?_) rfl (by kernel_rfl) (by kernel_rfl) (by kernel_rfl) (fun _ _ _ h => h) (Or.inl ⟨by rfl, ?_⟩) (by assumption) ?_
                  rotate_left
                  · (intro w hSw; (try dsimp only at hSw); go_simp; (try with_reducible rfl))
                  (try simp only [Act.put, List.setIfInBounds_toArray, List.set_cons_zero, List.set_cons_succ])
                  refine wpAnyH_take (i := 18) (oi := { dst := some 154, op := Go.Op.binOp Go.BinOp.neq 9 (Go.Operand.tmp 151) (Go.Operand.tmp 153) 9, type := 4, pos := "law.go:127", after := #[{ on := 15, ground := Go.Ground.data }, { on := 17, ground := Go.Ground.data }, { on := 11, ground := Go.Ground.guard }], guard := some (11, false) }) (v := ?_) rfl (by kernel_rfl) (by kernel_rfl) (by kernel_rfl) (fun _ _ _ h => h) (Or.inl ⟨by rfl, ?_⟩) (by assumption) ?_
                  rotate_left
                  · (intro w hSw; (try dsimp only at hSw); go_simp; (try with_reducible rfl))
                  (try simp only [Act.put, List.setIfInBounds_toArray, List.set_cons_zero, List.set_cons_succ])
                  refine wpAnyH_take (i := 19) (oi := { dst := some 155, op := Go.Op.pick (Go.Operand.tmp 147) (Go.Operand.const (Go.Value.bool true)) (Go.Operand.tmp 154), type := 4, pos := "law.go:127", after := #[{ on := 11, ground := Go.Ground.data }, { on := 18, ground := Go.Ground.data }, { on := 7, ground := Go.Ground.guard }], guard := some (7, true) }) (v := ?_) rfl (by kernel_rfl) (by kernel_rfl) (by kernel_rfl) (fun _ _ _ h => h) (Or.inl ⟨by rfl, ?_⟩) (by assumption) ?_
                  rotate_left
                  · (intro w hSw; (try dsimp only at hSw); go_simp; (try with_reducible rfl))
                  (try simp only [Act.put, List.setIfInBounds_toArray, List.set_cons_zero, List.set_cons_succ])
                  refine wpAnyH_take (i := 20) (oi := { dst := some 156, op := Go.Op.pick (Go.Operand.tmp 143) (Go.Operand.tmp 155) (Go.Operand.const (Go.Value.bool false)), type := 4, pos := "law.go:127", after := #[{ on := 7, ground := Go.Ground.data }, { on := 19, ground := Go.Ground.data }], guard := none }) (v := ?_) rfl (by kernel_rfl) (by kernel_rfl) (by kernel_rfl) (fun _ _ _ h => h) (Or.inl ⟨by rfl, ?_⟩) (by assumption) ?_
                  rotate_left
                  · (intro w hSw; (try dsimp only at hSw); go_simp; (try with_reducible rfl))
                  (try simp only [Act.put, List.setIfInBounds_toArray, List.set_cons_zero, List.set_cons_succ])
                  refine wpAnyH_done (by kernel_rfl) ?_ _
                  refine NoPanic.normal ?_
                  have L9 := Lib.hid (L8.out.below B9.out)
                  have M9 := Lib.hid (M8.out.below B9.out)
                  have X9 := Lib.hid (X8.out.went (Went.below B9.out))
                  clear W9 L8 M8 X8 FF D0
                  go_wp2_with fail
                  go_roundw
                  case rel => exact ⟨i + 1, by go_num, by omega, L9.out, M9.out, X9.out⟩
                  case measure => simp [intOf]; omega
              · have e0 : decide (i < q) = false := by simpa using hlt2
                have hbx := Lib.hid (X8.out (nb, false, vk, true) (by simp)).1
                obtain ⟨x1, x2, x3, _, _⟩ := hbx.out.cells
                simp only at x1 x2 x3
                go_wp2_with fail
                refine Calls.mono (show Calls Tryz.prog 32 #[.pointer (some ⟨p, 0, none⟩)] wr (Told (.int .i64 ((q : Nat) : Int)) wr) from by
                  have := len_p wr p U3 sx (k + 1) L8.out.ca
                  rw [HLEN.out] at this
                  exact this) ?_
                rintro e w9 ⟨rfl, hB⟩
                have L9 := Lib.hid (L8.out.below hB)
                have hqm2 : ¬ ((mo : Int) < ((q : Nat) : Int)) := by have := HC3.out; have := HQM.out; omega
                clear hB L8 M8 X8
                go_wp2_with fail
                go_roundw
                case rel => exact ⟨k + 1, U3, by go_num, by omega, by rw [← HKO.out]; exact L9.out, by rw [← HKO.out]; exact HOO.out⟩
                case measure => simp [intOf]; omega
      · have e1 : decide (200 < ((S k).size : Int)) = true := decide_eq_true (by omega)
        go_wp2_with fail
        go_ret
        exact ⟨rfl, HL2.out.bel⟩
    · have e0 : decide (k < n) = false := by simpa using hlt
      obtain rfl : k = n := by omega
      go_wp2_with fail
      go_ret
      exact ⟨rfl, HL2.out.bel⟩

theorem walk_policyKeeps (a0 a1 : Int) (v2 : Value) (w : World) (w0 : (Lit.int .i64 a0).wf = true) (w1 : (Lit.int .i64 a1).wf = true) (wk : CameS w v2) (hl : Laid w ∧ Named w) : Calls Tryz.prog 5 #[.int .i64 a0, .int .i64 a1, v2] w (RetB true w) := by
  obtain ⟨A, n, c, rfl, hn, S, hr, hc⟩ := wk
  have hz0 := i64_rng w0
  have hz1 := i64_rng w1
  by_cases hok : 0 ≤ a0 ∧ a0 ≤ 4 ∧ 1 ≤ a1 ∧ a1 ≤ 1000 ∧ n ≤ 200
  · obtain ⟨q0, q1, q2, q3, q4⟩ := hok
    obtain ⟨kd, rfl⟩ : ∃ m : Nat, a0 = (m : Int) := ⟨a0.toNat, by omega⟩
    obtain ⟨mo, rfl⟩ : ∃ m : Nat, a1 = (m : Int) := ⟨a1.toNat, by omega⟩
    exact policyKeeps_main kd mo A n c w S (by omega) (by omega) (by omega) (by omega) hr hc hl
  · have PW := Lib.hid (show (decide (a0 < 0) = true) ∨ (decide (a0 < 0) = false ∧ decide (4 < a0) = true) ∨ (decide (a0 < 0) = false ∧ decide (4 < a0) = false ∧ decide (a1 < 1) = true) ∨ (decide (a0 < 0) = false ∧ decide (4 < a0) = false ∧ decide (a1 < 1) = false ∧ decide (1000 < a1) = true) ∨ (decide (a0 < 0) = false ∧ decide (4 < a0) = false ∧ decide (a1 < 1) = false ∧ decide (1000 < a1) = false ∧ decide (200 < (n : Int)) = true) from by
      simp only [decide_eq_true_eq, decide_eq_false_iff_not]; omega)
    have AW := Lib.hid (awake_any w hl)
    unfold maxLen at hn
    clear hr hc w0 w1 hok hl hz0 hz1
    rcases PW.out with e0 | ⟨e0, e1⟩ | ⟨e0, e1, e2⟩ | ⟨e0, e1, e2, e3⟩ | ⟨e0, e1, e2, e3, e4⟩
    all_goals
      clear PW
      go_enter Tryz.func5, Tryz.ntmps5
      go_wp2_with fail
      refine AW.out.mono ?_
      rintro e w0 ⟨rfl, hb0⟩
      go_wp2_with fail
      go_ret
      exact ⟨rfl, hb0⟩
namespace LPolicyKeeps
set_option maxRecDepth 100000 in
theorem lifted (os : Os) (started : os.Started) (H : Type) (enc : TypeId × Value → H) :
    ReturnsInHanded {} Tryz.checked os 5 .any (fun w args => (Rows.policyKeepsSpec.pre enc Tryz.prog Tryz.f5 [] false w args ∧ laidMetH Tryz.prog seatLaid w) ∧ sizedMet enc Tryz.prog Tryz.f5 (OpenSpec.ofChange Rows.policyKeepsSpec) false w args)
      (Rows.policyKeepsSpec.post enc Tryz.prog Tryz.f5 false true false false) := by
  refine returnsInHanded_of_change_and (C := Tryz.checked) (X := fun w _ => laidMetH Tryz.prog seatLaid w) (fun _ _ _ hh h => h.of_heap hh) own started (by kernel_rfl) Tryz.func5
    (ChangeSpec.witness_at (enc := enc) (C := Tryz.checked) (os := os) (X := fun w _ => laidMetH Tryz.prog seatLaid w) false (laidWorld os) #[.int .i64 0, .int .i64 0, .slice none 0 0] 8 rfl (by kernel_rfl) (by kernel_rfl) (by kernel_rfl) (by kernel_rfl) (by kernel_rfl) (laidWorld_met os _)) ?_
  intro W base args ds gs before hval0 hW _ _ hL _
  have hval : ∀ (j : Nat) t v, Tryz.f5.params[j]? = some t → args[j]? = some v → Value.okWide Tryz.prog W .any base t v := hval0
  have hW' := hW
  obtain ⟨p, q, hA0, hV, rfl, hfz, hnd⟩ := hW
  have hA : DataW.TrodAll enc Tryz.prog W 0 (fun _ => true) true Tryz.f5.params.toList args.toList ds p := hA0
  rw [Tryz.params5] at hA hval
  obtain ⟨v0, vs0, d0, ds0, p0, q0, hargs, rfl, rfl, h0, r0⟩ := trodAll_cons hA
  obtain ⟨v1, vs1, d1, ds1, p1, q1, rfl, rfl, rfl, h1, r1⟩ := trodAll_cons r0
  obtain ⟨v2, vs2, d2, ds2, p2, q2, rfl, rfl, rfl, h2, r2⟩ := trodAll_cons r1
  obtain ⟨rfl, rfl, rfl⟩ := trodAll_nil r2
  obtain rfl : args = #[v0, v1, v2] := by cases args; simp_all
  obtain ⟨rfl, rfl⟩ := trodVars_none hV
  obtain ⟨a0, rfl, rfl, rfl, w0⟩ := open_int Tryz.underlying3 (hval 0 3 v0 rfl rfl) h0
  obtain ⟨a1, rfl, rfl, rfl, w1⟩ := open_int Tryz.underlying3 (hval 1 3 v1 rfl rfl) h1
  have k2 := h2
  have lt2 : ∀ x ∈ p2, x.block < W.heap.size := by obtain ⟨m, hm⟩ := k2; exact DataW.trod_lt m _ _ _ hm
  have w2 := open_z (hval 2 30 v2 rfl rfl) h2
  clear hA0 hval0
  refine (walk_policyKeeps a0 a1 v2 W w0 w1 w2 (laid_of hL)).mono fun e W' ⟨he, bel⟩ => ?_
  subst he
  exact ⟨_, rfl, _, _, _, [], _, [], hW', trodAll_mk1 (shut_bool Tryz.underlying4 _), (trodAll_cons_mk (shut_int Tryz.underlying3 w0) (trodAll_cons_mk (shut_int Tryz.underlying3 w1) (trodAll_cons_mk (Below.trod laidOut (by kernel_rfl) (of_decide_eq_true (by kernel_rfl)) k2 bel lt2) trodAll_mk0))), rfl, bel.frame _, fun h => by cases h⟩

theorem said : Rows.PolicyKeepsSaid :=
  OpenClaim.holds_of_wide 5 Tryz.f5 rfl rfl rfl rfl rfl rfl rfl ⟨rfl, rfl, rfl, rfl, rfl⟩ rfl rfl rfl rfl rfl (by kernel_rfl) Tryz.func5 (by kernel_rfl)
    (of_decide_eq_true (by kernel_rfl)) (by unfold Func.isWrapper; rw [if_neg (of_decide_eq_false (by kernel_rfl))]; exact ⟨rfl, rfl⟩)
    (fun os started H enc _ => lifted os started H enc)

theorem card : Rows.PolicyKeepsCardSaid :=
  Claim7.holds_tied_plain_at .later [] _ _ _ _ said (fun _ h => by cases h) (by kernel_rfl) (fun _ h => by cases h) policyKeeps_row_tie rfl ⟨rfl, rfl⟩ (by kernel_rfl) rfl
    (fun f fn hf hfn => by
      obtain rfl : f = 5 := Option.some.inj ((show Tryz.prog.funcNamed "cachewise/cachewiselaw09.PolicyKeeps" = some 5 by kernel_rfl).symm.trans hf) |>.symm
      obtain rfl : fn = Tryz.f5 := (Option.some.inj (Tryz.func5.symm.trans hfn)).symm
      refine ⟨by kernel_rfl, fun j t ht => ?_⟩
      rw [Tryz.params5] at ht
      rcases j with _ | _ | _ | j
      · obtain rfl : t = 3 := by simpa using ht.symm
        exact (show Tryz.prog.wantsStandIn 3 = false by kernel_rfl)
      · obtain rfl : t = 3 := by simpa using ht.symm
        exact (show Tryz.prog.wantsStandIn 3 = false by kernel_rfl)
      · obtain rfl : t = 30 := by simpa using ht.symm
        exact (show Tryz.prog.wantsStandIn 30 = false by kernel_rfl)
      · simp at ht)
    (by kernel_rfl)
#print axioms card
end LPolicyKeeps
end Go.Proofs.YtgjdjgnfpendgaaGreatDoor
