/- 'cachewiselaw09.PolicyForgets' returns true for every kind, every size and every row of keys, and leaves what was there as it was. The listed variables read as the program's text lays them. -/
import Derived.Test.YtgjdjgnfpendgaaGreatDoorAw9
import Derived.Test.YtgjdjgnfpendgaaGreatDoorRc9
import Derived.Test.YtgjdjgnfpendgaaGreatDoorShapes9
import Derived.Test.YtgjdjgnfpendgaaGreatDoorCards
import Derived.Test.YtgjdjgnfpendgaaGreatDoorTie
import Derived.SevenTiedAt
import Derived.Deep.DeepCutAuto
import Derived.Deep.CutBlock

set_option maxRecDepth 20000
namespace Go.Proofs.YtgjdjgnfpendgaaGreatDoor
open Go.ChangeShapes Go.WideShapes Go.ChangeAt Go.RowKit Sg
open Go.ChangeMaps (open_string shut_string)


set_option maxHeartbeats 4000000 in
set_option maxRecDepth 100000 in
theorem policyForgets_main (kd mo : Nat) (A : Option Addr) (n cc : Nat) (key : ByteArray) (w : World) (S : Nat → ByteArray) (hkd : kd < 5) (hlo : 1 ≤ mo) (hmo : mo ≤ 1000) (hn : n ≤ 200) (hkey : key.size ≤ 200) (hS : ∀ i, i < n → (S i).size ≤ maxLen)
    (hc : 0 < n → ∃ g o, A = some ⟨g, o, none⟩ ∧ g < w.heap.size ∧ n ≤ cc ∧ cc ≤ maxLen ∧ ∀ i, i < n → w.cell? ⟨g, o + i, none⟩ = some (.string (S i))) (hl : Laid w ∧ Named w) :
    Calls Tryz.prog 6 #[.int .i64 (kd : Int), .int .i64 (mo : Int), .slice A n cc, .string key] w (RetB true w) := by
  have AW := Lib.hid (awake_any w hl)
  have NW := Lib.hid (fun w1 => new_p w1 kd hkd mo (by omega))
  have HKD := Lib.hid hkd
  have g0 : decide (200 < (n : Int)) = false := decide_eq_false (by omega)
  have g1 : decide ((kd : Int) < 0) = false := decide_eq_false (by omega)
  have g2 : decide (4 < (kd : Int)) = false := decide_eq_false (by omega)
  have g3 : decide ((mo : Int) < 1) = false := decide_eq_false (by omega)
  have g4 : decide (1000 < (mo : Int)) = false := decide_eq_false (by omega)
  have g5 : decide (200 < (key.size : Int)) = false := decide_eq_false (by omega)
  have hks : key.size ≤ maxLen := by unfold maxLen; omega
  have HC := Lib.hid hc
  have HS := Lib.hid hS
  have HL := Lib.hid hlo
  have HM := Lib.hid hmo
  clear hc hS hl hkd hlo
  have HK := Lib.hid hks
  clear hks
  go_enter Tryz.func6, Tryz.ntmps6
  go_wp2_with fail
  refine AW.out.mono ?_
  rintro e w0 ⟨rfl, hb0⟩
  have b0 := Lib.hid hb0; clear hb0
  go_wp2_with fail
  refine (NW.out w0).mono ?_
  rintro e w1 ⟨p, U1, rfl, hC, hT, hB⟩
  have L1 := Lib.hid (PLive.made b0.out hC hT hB)
  clear hC hT hB b0
  go_wp2_with fail
  clear g0 g1 g2 g3 g4 g5
  go_loopw [11] (fun i W => PFill S n p kd mo w i W) (fun i _ => n - (intOf i).toNat)
  case atStart => exact ⟨0, U1, rfl, Nat.zero_le _, L1.out, fun x hx => by rw [show (pst S kd mo 0).keys = [] from (KSt.start_kind HKD.out mo).2.2.1] at hx; cases hx⟩
  case round =>
    obtain ⟨k, U, rfl, hk, hL, hold⟩ := hrel
    have HL2 := Lib.hid hL
    have HO := Lib.hid hold
    clear hL hold L1
    by_cases hlt : k < n
    · have e0 : decide (k < n) = true := by simpa using hlt
      obtain ⟨g, o, rfl, hg, hc1, hc2, hcell⟩ := HC.out (by omega)
      have h1 := (HL2.out.bel.cell (p := ⟨g, o + k, none⟩) hg).trans (hcell k hlt)
      have hsk := HS.out k hlt
      clear hcell
      unfold maxLen at hc2
      have U := Lib.hid (request_p wr p _ _ k (S k) HL2.out.ca hsk (by omega))
      unfold maxLen at hsk
      by_cases hbig : (S k).size ≤ 200
      · have e1 : decide (200 < ((S k).size : Int)) = false := decide_eq_false (by omega)
        go_wp2_with fail
        refine U.out.mono ?_
        intro e w2 hp
        obtain ⟨rfl, hF⟩ := PFill.next hlt HL2.out HO.out hp
        have R := Lib.hid hF
        clear hp hF U
        unfold KSt.step
        go_wp2_with fail
        go_roundw
        case rel => exact R.out
        case measure => simp [intOf]; omega
      · have e1 : decide (200 < ((S k).size : Int)) = true := decide_eq_true (by omega)
        go_wp2_with fail
        go_ret
        exact ⟨rfl, HL2.out.bel⟩
    · have e0 : decide (k < n) = false := by simpa using hlt
      obtain rfl : k = n := by omega
      have hst := pst_mo S HKD.out mo k
      have HMO := Lib.hid hst
      clear hst HO
      generalize pst S kd mo k = st at *
      have V := Lib.hid (len_p wr p U st k HL2.out.ca)
      obtain ⟨q, hq⟩ : ∃ q, q = st.keys.length := ⟨_, rfl⟩
      have hqm : q ≤ mo := by have := KSt.le HL2.out.ca.ok; rw [HMO.out] at this; omega
      rw [← hq] at V
      have HQ := Lib.hid hq
      clear hq
      go_wp2_with fail
      refine V.out.mono ?_
      rintro e w2 ⟨rfl, hB⟩
      have L2 := Lib.hid (HL2.out.below hB)
      have RF := Lib.hid (KSt.rm_f HL2.out.ca.ok key)
      have W2 := Lib.hid (remove_p w2 p U st k key L2.out.ca HK.out)
      clear hB V HL2 e0
      obtain ⟨was, hwas⟩ : ∃ x, x = st.has key := ⟨_, rfl⟩
      rw [← hwas] at RF W2
      have HW := Lib.hid hwas
      clear hwas
      go_wp2_with fail
      refine W2.out.mono ?_
      intro e w3 hp
      obtain ⟨rfl, U3, hL3, hW3⟩ := L2.out.op hp
      have L3 := Lib.hid hL3
      have HM3 := Lib.hid (show (st.rm key).mo = mo by rw [KSt.mo_rm]; exact HMO.out)
      clear hp hL3 hW3 W2 L2 HMO
      have hlen := RF.out.len
      have hnk : (st.rm key).has key = false := by
        unfold KSt.has
        exact inn_no.2 fun h => ((RF.out.mem key).1 h).2 rfl
      have hng : inn (st.rm key).ghosts key = false := inn_no.2 RF.out.gho
      rw [← HQ.out] at hlen
      clear RF HW HQ
      generalize st.rm key = s3 at *
      have NK := Lib.hid hnk
      have NG := Lib.hid hng
      have HLEN := Lib.hid hlen
      clear hnk hng hlen
      cases was with
      | true =>
        have hm : s3.keys.length + 1 = q := HLEN.out
        obtain ⟨m, hm2⟩ : ∃ m, m = s3.keys.length := ⟨_, rfl⟩
        have HM2 := Lib.hid hm2
        obtain rfl : q = m + 1 := by omega
        have hmm : m + 1 ≤ 1000 := by omega
        have LE := Lib.hid hqm
        clear hm hm2 HLEN hqm
        go_wp2_with fail
        refine Calls.mono (show Calls Tryz.prog 33 #[.pointer (some ⟨p, 0, none⟩), .string key] w3 (Told (.bool false) w3) from by
          have := has_p w3 p U3 s3 k key L3.out.ca HK.out
          rw [NK.out] at this
          exact this) ?_
        rintro e w4 ⟨rfl, hB⟩
        have L4 := Lib.hid (L3.out.below hB)
        clear hB L3
        go_wp2_with fail
        refine Calls.mono (ghosts_p w4 p U3 s3 k L4.out.ca) ?_
        rintro e w5 ⟨v5, rfl, hO, hB⟩
        obtain ⟨A5, c5, rfl⟩ := hO.len
        have L5 := Lib.hid (L4.out.below hB)
        obtain ⟨g5, _, hr5⟩ := hO.row
        have V5 := refHas_any w5 g5 _ _ key hr5
        rw [NG.out] at V5
        have V5 := Lib.hid V5
        clear hB L4 hO hr5
        go_wp2_with fail
        refine V5.out.mono ?_
        rintro e w6 ⟨rfl, rfl⟩
        clear V5
        go_wp2_with fail
        refine Calls.mono (keys_p w5 p U3 s3 k L5.out.ca) ?_
        rintro e w7 ⟨v7, rfl, hO, hB⟩
        obtain ⟨A7, c7, rfl⟩ := hO.len
        have L7 := Lib.hid (L5.out.below hB)
        obtain ⟨g7, _, hr7⟩ := hO.row
        have V7 := refHas_any w7 g7 _ _ key hr7
        rw [show inn s3.keys key = false from NK.out] at V7
        have V7 := Lib.hid V7
        clear hB L5 hO hr7
        go_wp2_with fail
        refine V7.out.mono ?_
        rintro e w8 ⟨rfl, rfl⟩
        have RF := Lib.hid (KSt.rm_f L7.out.ca.ok key)
        clear V7
        go_wp2_with fail
        refine Calls.mono (show Calls Tryz.prog 18 #[.pointer (some ⟨p, 0, none⟩), .string key] w7 (PPost (.bool false) w7 p U3 (s3.rm key) k) from by
          have := remove_p w7 p U3 s3 k key L7.out.ca HK.out
          rw [NK.out] at this
          exact this) ?_
        intro e w9 hp
        obtain ⟨rfl, U9, hL9, hW9⟩ := L7.out.op hp
        have L9 := Lib.hid hL9
        have hm9 : (s3.rm key).mo = mo := by rw [KSt.mo_rm]; exact HM3.out
        have HM9 := Lib.hid hm9
        have kl := RF.out.len
        rw [NK.out, if_neg (by decide), Nat.add_zero] at kl
        have KL9 := Lib.hid kl
        have kn : (s3.rm key).has key = false := by
          unfold KSt.has
          exact inn_no.2 fun h => ((RF.out.mem key).1 h).2 rfl
        have NK9 := Lib.hid kn
        clear hp hL9 hW9 L7 HM3 hm9 kl kn RF
        generalize s3.rm key = s9 at *
        go_wp2_with fail
        refine Calls.mono (show Calls Tryz.prog 32 #[.pointer (some ⟨p, 0, none⟩)] w9 (Told (.int .i64 (m : Int)) w9) from by
          have := len_p w9 p U9 s9 k L9.out.ca
          rw [KL9.out, ← HM2.out] at this
          exact this) ?_
        rintro e wa ⟨rfl, hB⟩
        have La := Lib.hid (L9.out.below hB)
        clear hB L9
        go_wp2_with fail
        have RQ := KSt.req_f La.out.ca.ok (by rw [HM9.out]; exact Nat.ne_of_gt HL.out) key
        have hx : (s9.tell key).1 = false := RQ.hitE.trans NK9.out
        have hin : (s9.req key).has key = true := inn_iff.2 RQ.has
        have ho := RQ.outE
        rw [show inn s9.keys key = false from NK9.out, HM9.out, KL9.out, ← HM2.out] at ho
        have HO := Lib.hid ho
        have HIN := Lib.hid hin
        have U10 := request_p wa p U9 s9 k key La.out.ca HK.out (by omega)
        unfold KSt.step at U10
        rw [hx] at U10
        obtain ⟨y, hy⟩ : ∃ y, y = (s9.tell key).2.1 := ⟨_, rfl⟩
        rw [← hy, show (s9.tell key).2.2 = false from by rw [HO.out, decide_eq_false (by have := LE.out; omega)]; rfl] at U10
        have U10 := Lib.hid U10
        clear RQ hx hin ho hy NK9 KL9 HM9
        refine U10.out.mono ?_
        intro e wb hp
        obtain ⟨rfl, Ub, hLb, hWb⟩ := La.out.op hp
        have Lb := Lib.hid (hLb.below ((Below.refl _ _).alloc (Nat.le_refl _) (.cells #[.bool false, .string y, .bool false] 49)))
        have hbx : AR.Box (wb.alloc (.cells #[.bool false, .string y, .bool false] 49)) wb.heap.size false y false := heap_alloc_new _ _
        obtain ⟨x1, x2, x3, _, _⟩ := hbx.cells
        clear hp hLb hWb La U10 hbx
        generalize s9.req key = sb at *
        go_upto_region 19 with fail
        generalize wb.heap.size = nb at *
        generalize wb.alloc (.cells #[.bool false, .string y, .bool false] 49) = wc at *
        go_wp2_with fail
        refine Calls.mono (show Calls Tryz.prog 33 #[.pointer (some ⟨p, 0, none⟩), .string key] wc (Told (.bool true) wc) from by
          have := has_p wc p Ub sb (k + 1) key Lb.out.ca HK.out
          rw [HIN.out] at this
          exact this) ?_
        rintro e wd ⟨rfl, hB⟩
        have Ld := Lib.hid (Lb.out.below hB)
        have x3 := (hB.cell (p := ⟨nb, 2, none⟩) (World.block_lt_of_cell? _ _ x3)).trans x3
        clear hB Lb x1 x2
        go_wp2_with fail
        go_ret
        exact ⟨rfl, Ld.out.bel⟩
      | false =>
        have hm : s3.keys.length = q := HLEN.out
        obtain ⟨m, hm2⟩ : ∃ m, m = s3.keys.length := ⟨_, rfl⟩
        have HM2 := Lib.hid hm2
        obtain rfl : q = m := by omega
        have LE := Lib.hid hqm
        clear hm hm2 HLEN hqm
        go_wp2_with fail
        refine Calls.mono (show Calls Tryz.prog 33 #[.pointer (some ⟨p, 0, none⟩), .string key] w3 (Told (.bool false) w3) from by
          have := has_p w3 p U3 s3 k key L3.out.ca HK.out
          rw [NK.out] at this
          exact this) ?_
        rintro e w4 ⟨rfl, hB⟩
        have L4 := Lib.hid (L3.out.below hB)
        clear hB L3
        go_wp2_with fail
        refine Calls.mono (ghosts_p w4 p U3 s3 k L4.out.ca) ?_
        rintro e w5 ⟨v5, rfl, hO, hB⟩
        obtain ⟨A5, c5, rfl⟩ := hO.len
        have L5 := Lib.hid (L4.out.below hB)
        obtain ⟨g5, _, hr5⟩ := hO.row
        have V5 := refHas_any w5 g5 _ _ key hr5
        rw [NG.out] at V5
        have V5 := Lib.hid V5
        clear hB L4 hO hr5
        go_wp2_with fail
        refine V5.out.mono ?_
        rintro e w6 ⟨rfl, rfl⟩
        clear V5
        go_wp2_with fail
        refine Calls.mono (keys_p w5 p U3 s3 k L5.out.ca) ?_
        rintro e w7 ⟨v7, rfl, hO, hB⟩
        obtain ⟨A7, c7, rfl⟩ := hO.len
        have L7 := Lib.hid (L5.out.below hB)
        obtain ⟨g7, _, hr7⟩ := hO.row
        have V7 := refHas_any w7 g7 _ _ key hr7
        rw [show inn s3.keys key = false from NK.out] at V7
        have V7 := Lib.hid V7
        clear hB L5 hO hr7
        go_wp2_with fail
        refine V7.out.mono ?_
        rintro e w8 ⟨rfl, rfl⟩
        have RF := Lib.hid (KSt.rm_f L7.out.ca.ok key)
        clear V7
        go_wp2_with fail
        refine Calls.mono (show Calls Tryz.prog 18 #[.pointer (some ⟨p, 0, none⟩), .string key] w7 (PPost (.bool false) w7 p U3 (s3.rm key) k) from by
          have := remove_p w7 p U3 s3 k key L7.out.ca HK.out
          rw [NK.out] at this
          exact this) ?_
        intro e w9 hp
        obtain ⟨rfl, U9, hL9, hW9⟩ := L7.out.op hp
        have L9 := Lib.hid hL9
        have hm9 : (s3.rm key).mo = mo := by rw [KSt.mo_rm]; exact HM3.out
        have HM9 := Lib.hid hm9
        have kl := RF.out.len
        rw [NK.out, if_neg (by decide), Nat.add_zero] at kl
        have KL9 := Lib.hid kl
        have kn : (s3.rm key).has key = false := by
          unfold KSt.has
          exact inn_no.2 fun h => ((RF.out.mem key).1 h).2 rfl
        have NK9 := Lib.hid kn
        clear hp hL9 hW9 L7 HM3 hm9 kl kn RF
        generalize s3.rm key = s9 at *
        go_wp2_with fail
        refine Calls.mono (show Calls Tryz.prog 32 #[.pointer (some ⟨p, 0, none⟩)] w9 (Told (.int .i64 (q : Int)) w9) from by
          have := len_p w9 p U9 s9 k L9.out.ca
          rw [KL9.out, ← HM2.out] at this
          exact this) ?_
        rintro e wa ⟨rfl, hB⟩
        have La := Lib.hid (L9.out.below hB)
        clear hB L9
        go_wp2_with fail
        have RQ := KSt.req_f La.out.ca.ok (by rw [HM9.out]; exact Nat.ne_of_gt HL.out) key
        have hx : (s9.tell key).1 = false := RQ.hitE.trans NK9.out
        have hin : (s9.req key).has key = true := inn_iff.2 RQ.has
        have ho := RQ.outE
        rw [show inn s9.keys key = false from NK9.out, HM9.out, KL9.out, ← HM2.out] at ho
        have HO := Lib.hid ho
        have HIN := Lib.hid hin
        have U10 := request_p wa p U9 s9 k key La.out.ca HK.out (by omega)
        unfold KSt.step at U10
        rw [hx] at U10
        obtain ⟨y, hy⟩ : ∃ y, y = (s9.tell key).2.1 := ⟨_, rfl⟩
        rw [← hy, show (s9.tell key).2.2 = decide (mo ≤ q) from by rw [HO.out]; simp] at U10
        have U10 := Lib.hid U10
        clear RQ hx hin ho hy NK9 KL9 HM9
        refine U10.out.mono ?_
        intro e wb hp
        obtain ⟨rfl, Ub, hLb, hWb⟩ := La.out.op hp
        have Lb := Lib.hid (hLb.below ((Below.refl _ _).alloc (Nat.le_refl _) (.cells #[.bool false, .string y, .bool (decide (mo ≤ q))] 49)))
        have hbx : AR.Box (wb.alloc (.cells #[.bool false, .string y, .bool (decide (mo ≤ q))] 49)) wb.heap.size false y (decide (mo ≤ q)) := heap_alloc_new _ _
        obtain ⟨x1, x2, x3, _, _⟩ := hbx.cells
        clear hp hLb hWb La U10 hbx
        generalize s9.req key = sb at *
        go_upto_region 19 with fail
        generalize wb.heap.size = nb at *
        generalize wb.alloc (.cells #[.bool false, .string y, .bool (decide (mo ≤ q))] 49) = wc at *
        go_wp2_with fail
        refine Calls.mono (show Calls Tryz.prog 33 #[.pointer (some ⟨p, 0, none⟩), .string key] wc (Told (.bool true) wc) from by
          have := has_p wc p Ub sb (k + 1) key Lb.out.ca HK.out
          rw [HIN.out] at this
          exact this) ?_
        rintro e wd ⟨rfl, hB⟩
        have Ld := Lib.hid (Lb.out.below hB)
        have x3 := (hB.cell (p := ⟨nb, 2, none⟩) (World.block_lt_of_cell? _ _ x3)).trans x3
        clear hB Lb x1 x2
        go_wp2_with fail
        go_ret
        exact ⟨by
          have hle := LE.out
          by_cases h : mo ≤ q
          · obtain rfl : q = mo := by omega
            simp
          · have h2 : ¬ q = mo := by omega
            simp [h]; omega, Ld.out.bel⟩

theorem walk_policyForgets (a0 a1 : Int) (v2 : Value) (a3 : ByteArray) (w : World) (w0 : (Lit.int .i64 a0).wf = true) (w1 : (Lit.int .i64 a1).wf = true) (wk : CameS w v2) (w3 : a3.size ≤ maxLen) (hl : Laid w ∧ Named w) : Calls Tryz.prog 6 #[.int .i64 a0, .int .i64 a1, v2, .string a3] w (RetB true w) := by
  obtain ⟨A, n, c, rfl, hn, S, hr, hc⟩ := wk
  have hz0 := i64_rng w0
  have hz1 := i64_rng w1
  by_cases hok : 0 ≤ a0 ∧ a0 ≤ 4 ∧ 1 ≤ a1 ∧ a1 ≤ 1000 ∧ n ≤ 200 ∧ a3.size ≤ 200
  · obtain ⟨q0, q1, q2, q3, q4, q5⟩ := hok
    obtain ⟨kd, rfl⟩ : ∃ m : Nat, a0 = (m : Int) := ⟨a0.toNat, by omega⟩
    obtain ⟨mo, rfl⟩ : ∃ m : Nat, a1 = (m : Int) := ⟨a1.toNat, by omega⟩
    exact policyForgets_main kd mo A n c a3 w S (by omega) (by omega) (by omega) (by omega) (by omega) hr hc hl
  · have PW := Lib.hid (show (decide (a0 < 0) = true) ∨ (decide (a0 < 0) = false ∧ decide (4 < a0) = true) ∨ (decide (a0 < 0) = false ∧ decide (4 < a0) = false ∧ decide (a1 < 1) = true) ∨ (decide (a0 < 0) = false ∧ decide (4 < a0) = false ∧ decide (a1 < 1) = false ∧ decide (1000 < a1) = true) ∨ (decide (a0 < 0) = false ∧ decide (4 < a0) = false ∧ decide (a1 < 1) = false ∧ decide (1000 < a1) = false ∧ decide (200 < (n : Int)) = true) ∨ (decide (a0 < 0) = false ∧ decide (4 < a0) = false ∧ decide (a1 < 1) = false ∧ decide (1000 < a1) = false ∧ decide (200 < (n : Int)) = false ∧ decide (200 < (a3.size : Int)) = true) from by
      simp only [decide_eq_true_eq, decide_eq_false_iff_not]; omega)
    have AW := Lib.hid (awake_any w hl)
    unfold maxLen at hn w3
    clear hr hc w0 w1 hok hl hz0 hz1
    rcases PW.out with e0 | ⟨e0, e1⟩ | ⟨e0, e1, e2⟩ | ⟨e0, e1, e2, e3⟩ | ⟨e0, e1, e2, e3, e4⟩ | ⟨e0, e1, e2, e3, e4, e5⟩
    all_goals
      clear PW
      go_enter Tryz.func6, Tryz.ntmps6
      go_wp2_with fail
      refine AW.out.mono ?_
      rintro e w0 ⟨rfl, hb0⟩
      go_wp2_with fail
      go_ret
      exact ⟨rfl, hb0⟩
namespace LPolicyForgets
set_option maxRecDepth 100000 in
theorem lifted (os : Os) (started : os.Started) (H : Type) (enc : TypeId × Value → H) :
    ReturnsInHanded {} Tryz.checked os 6 .any (fun w args => (Rows.policyForgetsSpec.pre enc Tryz.prog Tryz.f6 [] false w args ∧ laidMetH Tryz.prog seatLaid w) ∧ sizedMet enc Tryz.prog Tryz.f6 (OpenSpec.ofChange Rows.policyForgetsSpec) false w args)
      (Rows.policyForgetsSpec.post enc Tryz.prog Tryz.f6 false true false false) := by
  refine returnsInHanded_of_change_and (C := Tryz.checked) (X := fun w _ => laidMetH Tryz.prog seatLaid w) (fun _ _ _ hh h => h.of_heap hh) own started (by kernel_rfl) Tryz.func6
    (ChangeSpec.witness_at (enc := enc) (C := Tryz.checked) (os := os) (X := fun w _ => laidMetH Tryz.prog seatLaid w) false (laidWorld os) #[.int .i64 0, .int .i64 0, .slice none 0 0, .string ByteArray.empty] 8 rfl (by kernel_rfl) (by kernel_rfl) (by kernel_rfl) (by kernel_rfl) (by kernel_rfl) (laidWorld_met os _)) ?_
  intro W base args ds gs before hval0 hW _ _ hL _
  have hval : ∀ (j : Nat) t v, Tryz.f6.params[j]? = some t → args[j]? = some v → Value.okWide Tryz.prog W .any base t v := hval0
  have hW' := hW
  obtain ⟨p, q, hA0, hV, rfl, hfz, hnd⟩ := hW
  have hA : DataW.TrodAll enc Tryz.prog W 0 (fun _ => true) true Tryz.f6.params.toList args.toList ds p := hA0
  rw [Tryz.params6] at hA hval
  obtain ⟨v0, vs0, d0, ds0, p0, q0, hargs, rfl, rfl, h0, r0⟩ := trodAll_cons hA
  obtain ⟨v1, vs1, d1, ds1, p1, q1, rfl, rfl, rfl, h1, r1⟩ := trodAll_cons r0
  obtain ⟨v2, vs2, d2, ds2, p2, q2, rfl, rfl, rfl, h2, r2⟩ := trodAll_cons r1
  obtain ⟨v3, vs3, d3, ds3, p3, q3, rfl, rfl, rfl, h3, r3⟩ := trodAll_cons r2
  obtain ⟨rfl, rfl, rfl⟩ := trodAll_nil r3
  obtain rfl : args = #[v0, v1, v2, v3] := by cases args; simp_all
  obtain ⟨rfl, rfl⟩ := trodVars_none hV
  obtain ⟨a0, rfl, rfl, rfl, w0⟩ := open_int Tryz.underlying3 (hval 0 3 v0 rfl rfl) h0
  obtain ⟨a1, rfl, rfl, rfl, w1⟩ := open_int Tryz.underlying3 (hval 1 3 v1 rfl rfl) h1
  have k2 := h2
  have lt2 : ∀ x ∈ p2, x.block < W.heap.size := by obtain ⟨m, hm⟩ := k2; exact DataW.trod_lt m _ _ _ hm
  have w2 := open_z (hval 2 30 v2 rfl rfl) h2
  obtain ⟨a3, rfl, rfl, rfl, w3⟩ := open_string Tryz.underlying9 (hval 3 9 v3 rfl rfl) h3
  clear hA0 hval0
  refine (walk_policyForgets a0 a1 v2 a3 W w0 w1 w2 w3 (laid_of hL)).mono fun e W' ⟨he, bel⟩ => ?_
  subst he
  exact ⟨_, rfl, _, _, _, [], _, [], hW', trodAll_mk1 (shut_bool Tryz.underlying4 _), (trodAll_cons_mk (shut_int Tryz.underlying3 w0) (trodAll_cons_mk (shut_int Tryz.underlying3 w1) (trodAll_cons_mk (Below.trod laidOut (by kernel_rfl) (of_decide_eq_true (by kernel_rfl)) k2 bel lt2) (trodAll_cons_mk (shut_string Tryz.underlying9 w3) trodAll_mk0)))), rfl, bel.frame _, fun h => by cases h⟩

theorem said : Rows.PolicyForgetsSaid :=
  OpenClaim.holds_of_wide 6 Tryz.f6 rfl rfl rfl rfl rfl rfl rfl ⟨rfl, rfl, rfl, rfl, rfl⟩ rfl rfl rfl rfl rfl (by kernel_rfl) Tryz.func6 (by kernel_rfl)
    (of_decide_eq_true (by kernel_rfl)) (by unfold Func.isWrapper; rw [if_neg (of_decide_eq_false (by kernel_rfl))]; exact ⟨rfl, rfl⟩)
    (fun os started H enc _ => lifted os started H enc)

theorem card : Rows.PolicyForgetsCardSaid :=
  Claim7.holds_tied_plain_at .later [] _ _ _ _ said (fun _ h => by cases h) (by kernel_rfl) (fun _ h => by cases h) policyForgets_row_tie rfl ⟨rfl, rfl⟩ (by kernel_rfl) rfl
    (fun f fn hf hfn => by
      obtain rfl : f = 6 := Option.some.inj ((show Tryz.prog.funcNamed "cachewise/cachewiselaw09.PolicyForgets" = some 6 by kernel_rfl).symm.trans hf) |>.symm
      obtain rfl : fn = Tryz.f6 := (Option.some.inj (Tryz.func6.symm.trans hfn)).symm
      refine ⟨by kernel_rfl, fun j t ht => ?_⟩
      rw [Tryz.params6] at ht
      rcases j with _ | _ | _ | _ | j
      · obtain rfl : t = 3 := by simpa using ht.symm
        exact (show Tryz.prog.wantsStandIn 3 = false by kernel_rfl)
      · obtain rfl : t = 3 := by simpa using ht.symm
        exact (show Tryz.prog.wantsStandIn 3 = false by kernel_rfl)
      · obtain rfl : t = 30 := by simpa using ht.symm
        exact (show Tryz.prog.wantsStandIn 30 = false by kernel_rfl)
      · obtain rfl : t = 9 := by simpa using ht.symm
        exact (show Tryz.prog.wantsStandIn 9 = false by kernel_rfl)
      · simp at ht)
    (by kernel_rfl)
#print axioms card
end LPolicyForgets
end Go.Proofs.YtgjdjgnfpendgaaGreatDoor
