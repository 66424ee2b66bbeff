/- 'cachewiselaw09.PolicyAdopts' returns true for every kind, every size and every row of keys, and leaves what was there as it was. The listed variables read as the program's text lays them. -/
import Derived.Test.YtgjdjgnfpendgaaGreatDoorAw9
import Derived.Test.YtgjdjgnfpendgaaGreatDoorRc9
import Derived.Test.YtgjdjgnfpendgaaGreatDoorShapes9
import Derived.Test.YtgjdjgnfpendgaaGreatDoorCards
import Derived.Test.YtgjdjgnfpendgaaGreatDoorTie
import Derived.SevenTiedAt
import Derived.Deep.DeepCutAuto
import Derived.Deep.CutBlock

set_option maxRecDepth 20000
namespace Go.Proofs.YtgjdjgnfpendgaaGreatDoor
open Go.ChangeShapes Go.WideShapes Go.ChangeAt Go.RowKit Sg
open Go.ChangeMaps (open_string shut_string)

/-- All that a row has is resident, as far as i. -/
def AdR (st : KSt) (row : Value) (xs : List ByteArray) (U : Nat → Prop) (p b : Nat) (w0 : World) (n : Nat) (z : Value) (W : World) : Prop := ∃ (i : Nat), z = .int .i64 (i : Int) ∧ i ≤ n ∧ PLive w0 W p U st b ∧ PMine W U row xs
set_option maxHeartbeats 4000000 in
set_option maxRecDepth 100000 in
theorem policyAdopts_main (kd mo : Nat) (A : Option Addr) (n cc : Nat) (key : ByteArray) (w : World) (S : Nat → ByteArray) (hkd : kd < 5) (hlo : 0 ≤ mo) (hmo : mo ≤ 1000) (hn : n ≤ 200) (hkey : key.size ≤ 200) (hS : ∀ i, i < n → (S i).size ≤ maxLen)
    (hc : 0 < n → ∃ g o, A = some ⟨g, o, none⟩ ∧ g < w.heap.size ∧ n ≤ cc ∧ cc ≤ maxLen ∧ ∀ i, i < n → w.cell? ⟨g, o + i, none⟩ = some (.string (S i))) (hl : Laid w ∧ Named w) :
    Calls Tryz.prog 8 #[.int .i64 (kd : Int), .int .i64 (mo : Int), .slice A n cc, .string key] w (RetB true w) := by
  have AW := Lib.hid (awake_any w hl)
  have NW := Lib.hid (fun w1 => new_p w1 kd hkd mo (by omega))
  have HKD := Lib.hid hkd
  have g0 : decide (200 < (n : Int)) = false := decide_eq_false (by omega)
  have g1 : decide ((kd : Int) < 0) = false := decide_eq_false (by omega)
  have g2 : decide (4 < (kd : Int)) = false := decide_eq_false (by omega)
  have g3 : decide ((mo : Int) < 0) = false := decide_eq_false (by omega)
  have g4 : decide (1000 < (mo : Int)) = false := decide_eq_false (by omega)
  have g5 : decide (200 < (key.size : Int)) = false := decide_eq_false (by omega)
  have hks : key.size ≤ maxLen := by unfold maxLen; omega
  have HC := Lib.hid hc
  have HS := Lib.hid hS
  have HL := Lib.hid hlo
  have HM := Lib.hid hmo
  clear hc hS hl hkd hlo
  have HK := Lib.hid hks
  clear hks
  go_enter Tryz.func8, Tryz.ntmps8
  go_wp2_with fail
  refine AW.out.mono ?_
  rintro e w0 ⟨rfl, hb0⟩
  have b0 := Lib.hid hb0; clear hb0
  go_wp2_with fail
  refine (NW.out w0).mono ?_
  rintro e w1 ⟨p, U1, rfl, hC, hT, hB⟩
  have L1 := Lib.hid (PLive.made b0.out hC hT hB)
  clear hC hT hB b0
  go_wp2_with fail
  clear g0 g1 g2 g3 g4 g5
  go_loopw [11] (fun i W => AFill S n p kd mo w i W) (fun i _ => n - (intOf i).toNat)
  case atStart => exact ⟨0, U1, rfl, Nat.zero_le _, L1.out⟩
  case round =>
    obtain ⟨k, U, rfl, hk, hL⟩ := hrel
    have HL2 := Lib.hid hL
    clear hL L1
    by_cases hlt : k < n
    · have e0 : decide (k < n) = true := by simpa using hlt
      obtain ⟨g, o, rfl, hg, hc1, hc2, hcell⟩ := HC.out (by omega)
      have h1 := (HL2.out.bel.cell (p := ⟨g, o + k, none⟩) hg).trans (hcell k hlt)
      have hsk := HS.out k hlt
      clear hcell
      unfold maxLen at hc2
      have U := Lib.hid (request_p wr p _ _ k (S k) HL2.out.ca hsk (by omega))
      have V := Lib.hid (remove_p wr p _ _ k (S k) HL2.out.ca hsk)
      unfold maxLen at hsk
      by_cases hbig : (S k).size ≤ 200
      · have e1 : decide (200 < ((S k).size : Int)) = false := decide_eq_false (by omega)
        obtain ⟨r3, hr3⟩ : ∃ r, r = k % 3 := ⟨_, rfl⟩
        have R3 := Lib.hid hr3
        have ht : Int.tmod (k : Int) 3 = (r3 : Int) := by rw [hr3]; exact (Int.ofNat_tmod k 3).symm
        clear hr3
        by_cases h3 : r3 = 2
        · subst h3
          go_wp2_with fail
          refine V.out.mono ?_
          intro e w2 hp
          obtain ⟨rfl, hF⟩ := AFill.next hlt HL2.out (show (pstA S kd mo k).rm (S k) = pstA S kd mo (k + 1) by show _ = if k % 3 = 2 then _ else _; rw [if_pos R3.out.symm]) (Nat.le_succ k) hp
          have R := Lib.hid hF
          clear hp hF U V
          go_wp2_with fail
          go_roundw
          case rel => exact R.out
          case measure => simp [intOf]; omega
        · have h4 : ¬ (r3 : Int) = 2 := by omega
          go_wp2_with fail
          refine U.out.mono ?_
          intro e w2 hp
          obtain ⟨rfl, hF⟩ := AFill.next hlt HL2.out (show (pstA S kd mo k).req (S k) = pstA S kd mo (k + 1) by show _ = if k % 3 = 2 then _ else _; rw [if_neg (by rw [← R3.out]; exact h3)]) (Nat.le_refl (k + 1)) hp
          have R := Lib.hid hF
          clear hp hF U V
          unfold KSt.step
          go_wp2_with fail
          go_roundw
          case rel => exact R.out
          case measure => simp [intOf]; omega
      · have e1 : decide (200 < ((S k).size : Int)) = true := decide_eq_true (by omega)
        go_wp2_with fail
        go_ret
        exact ⟨rfl, HL2.out.bel⟩
    · have e0 : decide (k < n) = false := by simpa using hlt
      obtain rfl : k = n := by omega
      have hst := pstA_mo S HKD.out mo k
      have HMO := Lib.hid hst
      clear hst
      generalize pstA S kd mo k = st at *
      have V := Lib.hid (keys_p wr p U st k HL2.out.ca)
      obtain ⟨q, hq⟩ : ∃ q, q = st.keys.length := ⟨_, rfl⟩
      have hqm : q ≤ mo := by have := KSt.le HL2.out.ca.ok; rw [HMO.out] at this; omega
      have HQ := Lib.hid hq
      clear hq
      go_wp2_with fail
      refine V.out.mono ?_
      rintro e w2 ⟨v2, rfl, hO, hB⟩
      obtain ⟨A2, c2, rfl⟩ := hO.len
      have M2 := Lib.hid (PMine.made hO HL2.out.ca)
      have L2 := Lib.hid (HL2.out.below hB)
      rw [← HQ.out] at M2 ⊢
      clear hB V HL2 e0 hO
      obtain ⟨th, hth⟩ : ∃ x, x = st.has key := ⟨_, rfl⟩
      have AF := KSt.ad_f L2.out.ca.ok key
      have W3 := has_p w2 p U st k key L2.out.ca HK.out
      have had : st.adB key = (!th && decide (q < mo)) := by rw [hth, HQ.out, ← HMO.out]; rfl
      rw [had] at AF
      rw [← hth] at W3
      have W3 := Lib.hid W3
      have HT := Lib.hid hth
      have AF := Lib.hid AF
      have AD := Lib.hid had
      clear hth had
      cases th with
      | true =>
        rw [show (!true && decide (q < mo)) = false from rfl] at AF AD
        go_wp2_with fail
        refine W3.out.mono ?_
        rintro e w3 ⟨rfl, hB⟩
        have M3 := Lib.hid (M2.out.below hB)
        have L3 := Lib.hid (L2.out.below hB)
        have W4 := adopt_p w3 p U st k key L3.out.ca HK.out (by omega)
        rw [AD.out] at W4
        have W4 := Lib.hid W4
        clear hB W3 L2 M2
        go_wp2_with fail
        refine W4.out.mono ?_
        intro e w4 hp
        obtain ⟨rfl, U4, hL4, hW4⟩ := L3.out.op hp
        have L4 := Lib.hid hL4
        have M4 := Lib.hid (M3.out.went hW4 hL4.lt)
        have hh : (st.ad key).has key = true := by
          unfold KSt.has
          exact inn_iff.2 ((AF.out.mem key).2 (Or.inl (inn_iff.1 HT.out.symm)))
        have HH := Lib.hid hh
        have MEM := Lib.hid (fun x hx => (AF.out.mem x).2 (Or.inl hx))
        have hlen := AF.out.len
        rw [← HQ.out] at hlen
        have HLEN := Lib.hid hlen
        have GH := Lib.hid AF.out.gho
        clear hp hL4 hW4 L3 M3 W4 hh hlen AF AD HT HMO
        have XS := Lib.hid (show ∀ x ∈ st.keys, x.size ≤ maxLen from by obtain ⟨g, hr⟩ := M4.out.row; exact hr.2.1)
        generalize st.ad key = s4 at *
        go_wp2_with fail
        refine Calls.mono (show Calls Tryz.prog 33 #[.pointer (some ⟨p, 0, none⟩), .string key] w4 (Told (.bool true) w4) from by
          have := has_p w4 p U4 s4 (k + 1) key L4.out.ca HK.out
          rw [HH.out] at this
          exact this) ?_
        rintro e w5 ⟨rfl, hB⟩
        have L5 := Lib.hid (L4.out.below hB)
        have M5 := Lib.hid (M4.out.below hB)
        clear hB L4 M4
        go_wp2_with fail
        clear GH HH
        go_loopw [15] (fun i W => AdR s4 (.slice A2 q c2) st.keys U4 p (k + 1) w q i W) (fun i _ => q - (intOf i).toNat)
        case atStart => exact ⟨0, rfl, Nat.zero_le _, L5.out, M5.out⟩
        case round =>
          obtain ⟨i, rfl, hi, hL, hM⟩ := hrel
          have L7 := Lib.hid hL
          have M7 := Lib.hid hM
          clear hL hM L5 M5
          by_cases hlt2 : i < q
          · have e0 : decide (i < q) = true := by simpa using hlt2
            obtain ⟨g, hr⟩ := M7.out.row
            have hiq : i < st.keys.length := by rw [← HQ.out]; exact hlt2
            obtain ⟨o, rfl, hg, hcell, hc1, hc2⟩ := hr.at hiq
            have hx := M7.out
            have hmem : st.keys.getD i ⟨#[]⟩ ∈ st.keys := by rw [List.getD_eq_getElem?_getD, List.getElem?_eq_getElem hiq]; exact List.getElem_mem hiq
            have hsz := XS.out _ hmem
            have hin : s4.has (st.keys.getD i ⟨#[]⟩) = true := inn_iff.2 (MEM.out _ hmem)
            generalize st.keys.getD i ⟨#[]⟩ = y at *
            have W8 := has_p wr p U4 s4 (k + 1) y L7.out.ca hsz
            rw [hin] at W8
            have W8 := Lib.hid W8
            rw [← HQ.out] at hc1
            unfold maxLen at hc2 hsz
            have MM := Lib.hid hx
            clear hx hr hmem hin hiq M7
            go_wp2_with fail
            refine W8.out.mono ?_
            rintro e w8 ⟨rfl, hB⟩
            have L8 := Lib.hid (L7.out.below hB)
            have M8 := Lib.hid (MM.out.below hB)
            clear hB W8
            go_wp2_with fail
            go_roundw
            case rel => exact ⟨i + 1, by go_num, by omega, L8.out, M8.out⟩
            case measure => simp [intOf]; omega
          · have e0 : decide (i < q) = false := by simpa using hlt2
            have W9 := len_p wr p U4 s4 (k + 1) L7.out.ca
            rw [HLEN.out, if_neg (by decide), Nat.add_zero] at W9
            have W9 := Lib.hid W9
            go_wp2_with fail
            refine W9.out.mono ?_
            rintro e w9 ⟨rfl, hB⟩
            have L9 := Lib.hid (L7.out.below hB)
            clear hB W9
            go_wp2_with fail
            go_ret
            exact ⟨rfl, L9.out.bel⟩
      | false =>
        by_cases hroom : q < mo
        · have er : decide (q < mo) = true := decide_eq_true hroom
          rw [show (!false && decide (q < mo)) = true by rw [er]; rfl] at AF AD
          go_wp2_with fail
          refine W3.out.mono ?_
          rintro e w3 ⟨rfl, hB⟩
          have M3 := Lib.hid (M2.out.below hB)
          have L3 := Lib.hid (L2.out.below hB)
          have W4 := adopt_p w3 p U st k key L3.out.ca HK.out (by omega)
          rw [AD.out] at W4
          have W4 := Lib.hid W4
          clear hB W3 L2 M2
          go_wp2_with fail
          refine W4.out.mono ?_
          intro e w4 hp
          obtain ⟨rfl, U4, hL4, hW4⟩ := L3.out.op hp
          have L4 := Lib.hid hL4
          have M4 := Lib.hid (M3.out.went hW4 hL4.lt)
          have hh : (st.ad key).has key = true := by
            unfold KSt.has
            exact inn_iff.2 ((AF.out.mem key).2 (Or.inr ⟨rfl, rfl⟩))
          have HH := Lib.hid hh
          have MEM := Lib.hid (fun x hx => (AF.out.mem x).2 (Or.inl hx))
          have hlen := AF.out.len
          rw [← HQ.out] at hlen
          have HLEN := Lib.hid hlen
          have GH := Lib.hid AF.out.gho
          clear hp hL4 hW4 L3 M3 W4 hh hlen AF AD HT HMO
          have XS := Lib.hid (show ∀ x ∈ st.keys, x.size ≤ maxLen from by obtain ⟨g, hr⟩ := M4.out.row; exact hr.2.1)
          generalize st.ad key = s4 at *
          go_wp2_with fail
          refine Calls.mono (show Calls Tryz.prog 33 #[.pointer (some ⟨p, 0, none⟩), .string key] w4 (Told (.bool true) w4) from by
            have := has_p w4 p U4 s4 (k + 1) key L4.out.ca HK.out
            rw [HH.out] at this
            exact this) ?_
          rintro e w5 ⟨rfl, hB⟩
          have L5 := Lib.hid (L4.out.below hB)
          have M5 := Lib.hid (M4.out.below hB)
          clear hB L4 M4
          go_wp2_with fail
          refine Calls.mono (ghosts_p w5 p U4 s4 (k + 1) L5.out.ca) ?_
          rintro e w6 ⟨v6, rfl, hO, hB⟩
          obtain ⟨A6, c6, rfl⟩ := hO.len
          have L6 := Lib.hid (L5.out.below hB)
          have M6 := Lib.hid (M5.out.below hB)
          obtain ⟨g6, _, hr6⟩ := hO.row
          have V6 := refHas_any w6 g6 _ _ key hr6
          rw [show inn s4.ghosts key = false from inn_no.2 (GH.out (by trivial))] at V6
          have V6 := Lib.hid V6
          clear hB L5 M5 hO hr6
          go_wp2_with fail
          refine V6.out.mono ?_
          rintro e w7 ⟨rfl, rfl⟩
          clear V6
          go_wp2_with fail
          clear GH HH
          go_loopw [15] (fun i W => AdR s4 (.slice A2 q c2) st.keys U4 p (k + 1) w q i W) (fun i _ => q - (intOf i).toNat)
          case atStart => exact ⟨0, rfl, Nat.zero_le _, L6.out, M6.out⟩
          case round =>
            obtain ⟨i, rfl, hi, hL, hM⟩ := hrel
            have L7 := Lib.hid hL
            have M7 := Lib.hid hM
            clear hL hM L6 M6
            by_cases hlt2 : i < q
            · have e0 : decide (i < q) = true := by simpa using hlt2
              obtain ⟨g, hr⟩ := M7.out.row
              have hiq : i < st.keys.length := by rw [← HQ.out]; exact hlt2
              obtain ⟨o, rfl, hg, hcell, hc1, hc2⟩ := hr.at hiq
              have hx := M7.out
              have hmem : st.keys.getD i ⟨#[]⟩ ∈ st.keys := by rw [List.getD_eq_getElem?_getD, List.getElem?_eq_getElem hiq]; exact List.getElem_mem hiq
              have hsz := XS.out _ hmem
              have hin : s4.has (st.keys.getD i ⟨#[]⟩) = true := inn_iff.2 (MEM.out _ hmem)
              generalize st.keys.getD i ⟨#[]⟩ = y at *
              have W8 := has_p wr p U4 s4 (k + 1) y L7.out.ca hsz
              rw [hin] at W8
              have W8 := Lib.hid W8
              rw [← HQ.out] at hc1
              unfold maxLen at hc2 hsz
              have MM := Lib.hid hx
              clear hx hr hmem hin hiq M7
              go_wp2_with fail
              refine W8.out.mono ?_
              rintro e w8 ⟨rfl, hB⟩
              have L8 := Lib.hid (L7.out.below hB)
              have M8 := Lib.hid (MM.out.below hB)
              clear hB W8
              go_wp2_with fail
              go_roundw
              case rel => exact ⟨i + 1, by go_num, by omega, L8.out, M8.out⟩
              case measure => simp [intOf]; omega
            · have e0 : decide (i < q) = false := by simpa using hlt2
              have W9 := len_p wr p U4 s4 (k + 1) L7.out.ca
              rw [HLEN.out, if_pos (by trivial)] at W9
              have W9 := Lib.hid W9
              go_wp2_with fail
              refine W9.out.mono ?_
              rintro e w9 ⟨rfl, hB⟩
              have L9 := Lib.hid (L7.out.below hB)
              clear hB W9
              go_wp2_with fail
              go_ret
              exact ⟨rfl, L9.out.bel⟩
        · have er : decide (q < mo) = false := decide_eq_false hroom
          rw [show (!false && decide (q < mo)) = false by rw [er]; rfl] at AF AD
          go_wp2_with fail
          refine W3.out.mono ?_
          rintro e w3 ⟨rfl, hB⟩
          have M3 := Lib.hid (M2.out.below hB)
          have L3 := Lib.hid (L2.out.below hB)
          have W4 := adopt_p w3 p U st k key L3.out.ca HK.out (by omega)
          rw [AD.out] at W4
          have W4 := Lib.hid W4
          clear hB W3 L2 M2
          go_wp2_with fail
          refine W4.out.mono ?_
          intro e w4 hp
          obtain ⟨rfl, U4, hL4, hW4⟩ := L3.out.op hp
          have L4 := Lib.hid hL4
          have M4 := Lib.hid (M3.out.went hW4 hL4.lt)
          have hh : (st.ad key).has key = false := by
            unfold KSt.has
            exact inn_no.2 fun h => ((AF.out.mem key).1 h).elim (fun h => by have := HT.out; rw [show st.has key = true from inn_iff.2 h] at this; cases this) (fun h => by cases h.1)
          have HH := Lib.hid hh
          have MEM := Lib.hid (fun x hx => (AF.out.mem x).2 (Or.inl hx))
          have hlen := AF.out.len
          rw [← HQ.out] at hlen
          have HLEN := Lib.hid hlen
          have GH := Lib.hid AF.out.gho
          clear hp hL4 hW4 L3 M3 W4 hh hlen AF AD HT HMO
          have XS := Lib.hid (show ∀ x ∈ st.keys, x.size ≤ maxLen from by obtain ⟨g, hr⟩ := M4.out.row; exact hr.2.1)
          generalize st.ad key = s4 at *
          go_wp2_with fail
          refine Calls.mono (show Calls Tryz.prog 33 #[.pointer (some ⟨p, 0, none⟩), .string key] w4 (Told (.bool false) w4) from by
            have := has_p w4 p U4 s4 (k + 1) key L4.out.ca HK.out
            rw [HH.out] at this
            exact this) ?_
          rintro e w5 ⟨rfl, hB⟩
          have L5 := Lib.hid (L4.out.below hB)
          have M5 := Lib.hid (M4.out.below hB)
          clear hB L4 M4
          go_wp2_with fail
          clear GH HH
          go_loopw [15] (fun i W => AdR s4 (.slice A2 q c2) st.keys U4 p (k + 1) w q i W) (fun i _ => q - (intOf i).toNat)
          case atStart => exact ⟨0, rfl, Nat.zero_le _, L5.out, M5.out⟩
          case round =>
            obtain ⟨i, rfl, hi, hL, hM⟩ := hrel
            have L7 := Lib.hid hL
            have M7 := Lib.hid hM
            clear hL hM L5 M5
            by_cases hlt2 : i < q
            · have e0 : decide (i < q) = true := by simpa using hlt2
              obtain ⟨g, hr⟩ := M7.out.row
              have hiq : i < st.keys.length := by rw [← HQ.out]; exact hlt2
              obtain ⟨o, rfl, hg, hcell, hc1, hc2⟩ := hr.at hiq
              have hx := M7.out
              have hmem : st.keys.getD i ⟨#[]⟩ ∈ st.keys := by rw [List.getD_eq_getElem?_getD, List.getElem?_eq_getElem hiq]; exact List.getElem_mem hiq
              have hsz := XS.out _ hmem
              have hin : s4.has (st.keys.getD i ⟨#[]⟩) = true := inn_iff.2 (MEM.out _ hmem)
              generalize st.keys.getD i ⟨#[]⟩ = y at *
              have W8 := has_p wr p U4 s4 (k + 1) y L7.out.ca hsz
              rw [hin] at W8
              have W8 := Lib.hid W8
              rw [← HQ.out] at hc1
              unfold maxLen at hc2 hsz
              have MM := Lib.hid hx
              clear hx hr hmem hin hiq M7
              go_wp2_with fail
              refine W8.out.mono ?_
              rintro e w8 ⟨rfl, hB⟩
              have L8 := Lib.hid (L7.out.below hB)
              have M8 := Lib.hid (MM.out.below hB)
              clear hB W8
              go_wp2_with fail
              go_roundw
              case rel => exact ⟨i + 1, by go_num, by omega, L8.out, M8.out⟩
              case measure => simp [intOf]; omega
            · have e0 : decide (i < q) = false := by simpa using hlt2
              have W9 := len_p wr p U4 s4 (k + 1) L7.out.ca
              rw [HLEN.out, if_neg (by decide), Nat.add_zero] at W9
              have W9 := Lib.hid W9
              go_wp2_with fail
              refine W9.out.mono ?_
              rintro e w9 ⟨rfl, hB⟩
              have L9 := Lib.hid (L7.out.below hB)
              clear hB W9
              go_wp2_with fail
              go_ret
              exact ⟨rfl, L9.out.bel⟩

theorem walk_policyAdopts (a0 a1 : Int) (v2 : Value) (a3 : ByteArray) (w : World) (w0 : (Lit.int .i64 a0).wf = true) (w1 : (Lit.int .i64 a1).wf = true) (wk : CameS w v2) (w3 : a3.size ≤ maxLen) (hl : Laid w ∧ Named w) : Calls Tryz.prog 8 #[.int .i64 a0, .int .i64 a1, v2, .string a3] w (RetB true w) := by
  obtain ⟨A, n, c, rfl, hn, S, hr, hc⟩ := wk
  have hz0 := i64_rng w0
  have hz1 := i64_rng w1
  by_cases hok : 0 ≤ a0 ∧ a0 ≤ 4 ∧ 0 ≤ a1 ∧ a1 ≤ 1000 ∧ n ≤ 200 ∧ a3.size ≤ 200
  · obtain ⟨q0, q1, q2, q3, q4, q5⟩ := hok
    obtain ⟨kd, rfl⟩ : ∃ m : Nat, a0 = (m : Int) := ⟨a0.toNat, by omega⟩
    obtain ⟨mo, rfl⟩ : ∃ m : Nat, a1 = (m : Int) := ⟨a1.toNat, by omega⟩
    exact policyAdopts_main kd mo A n c a3 w S (by omega) (by omega) (by omega) (by omega) (by omega) hr hc hl
  · have PW := Lib.hid (show (decide (a0 < 0) = true) ∨ (decide (a0 < 0) = false ∧ decide (4 < a0) = true) ∨ (decide (a0 < 0) = false ∧ decide (4 < a0) = false ∧ decide (a1 < 0) = true) ∨ (decide (a0 < 0) = false ∧ decide (4 < a0) = false ∧ decide (a1 < 0) = false ∧ decide (1000 < a1) = true) ∨ (decide (a0 < 0) = false ∧ decide (4 < a0) = false ∧ decide (a1 < 0) = false ∧ decide (1000 < a1) = false ∧ decide (200 < (n : Int)) = true) ∨ (decide (a0 < 0) = false ∧ decide (4 < a0) = false ∧ decide (a1 < 0) = false ∧ decide (1000 < a1) = false ∧ decide (200 < (n : Int)) = false ∧ decide (200 < (a3.size : Int)) = true) from by
      simp only [decide_eq_true_eq, decide_eq_false_iff_not]; omega)
    have AW := Lib.hid (awake_any w hl)
    unfold maxLen at hn w3
    clear hr hc w0 w1 hok hl hz0 hz1
    rcases PW.out with e0 | ⟨e0, e1⟩ | ⟨e0, e1, e2⟩ | ⟨e0, e1, e2, e3⟩ | ⟨e0, e1, e2, e3, e4⟩ | ⟨e0, e1, e2, e3, e4, e5⟩
    all_goals
      clear PW
      go_enter Tryz.func8, Tryz.ntmps8
      go_wp2_with fail
      refine AW.out.mono ?_
      rintro e w0 ⟨rfl, hb0⟩
      go_wp2_with fail
      go_ret
      exact ⟨rfl, hb0⟩
namespace LPolicyAdopts
set_option maxRecDepth 100000 in
theorem lifted (os : Os) (started : os.Started) (H : Type) (enc : TypeId × Value → H) :
    ReturnsInHanded {} Tryz.checked os 8 .any (fun w args => (Rows.policyAdoptsSpec.pre enc Tryz.prog Tryz.f8 [] false w args ∧ laidMetH Tryz.prog seatLaid w) ∧ sizedMet enc Tryz.prog Tryz.f8 (OpenSpec.ofChange Rows.policyAdoptsSpec) false w args)
      (Rows.policyAdoptsSpec.post enc Tryz.prog Tryz.f8 false true false false) := by
  refine returnsInHanded_of_change_and (C := Tryz.checked) (X := fun w _ => laidMetH Tryz.prog seatLaid w) (fun _ _ _ hh h => h.of_heap hh) own started (by kernel_rfl) Tryz.func8
    (ChangeSpec.witness_at (enc := enc) (C := Tryz.checked) (os := os) (X := fun w _ => laidMetH Tryz.prog seatLaid w) false (laidWorld os) #[.int .i64 0, .int .i64 0, .slice none 0 0, .string ByteArray.empty] 8 rfl (by kernel_rfl) (by kernel_rfl) (by kernel_rfl) (by kernel_rfl) (by kernel_rfl) (laidWorld_met os _)) ?_
  intro W base args ds gs before hval0 hW _ _ hL _
  have hval : ∀ (j : Nat) t v, Tryz.f8.params[j]? = some t → args[j]? = some v → Value.okWide Tryz.prog W .any base t v := hval0
  have hW' := hW
  obtain ⟨p, q, hA0, hV, rfl, hfz, hnd⟩ := hW
  have hA : DataW.TrodAll enc Tryz.prog W 0 (fun _ => true) true Tryz.f8.params.toList args.toList ds p := hA0
  rw [Tryz.params8] at hA hval
  obtain ⟨v0, vs0, d0, ds0, p0, q0, hargs, rfl, rfl, h0, r0⟩ := trodAll_cons hA
  obtain ⟨v1, vs1, d1, ds1, p1, q1, rfl, rfl, rfl, h1, r1⟩ := trodAll_cons r0
  obtain ⟨v2, vs2, d2, ds2, p2, q2, rfl, rfl, rfl, h2, r2⟩ := trodAll_cons r1
  obtain ⟨v3, vs3, d3, ds3, p3, q3, rfl, rfl, rfl, h3, r3⟩ := trodAll_cons r2
  obtain ⟨rfl, rfl, rfl⟩ := trodAll_nil r3
  obtain rfl : args = #[v0, v1, v2, v3] := by cases args; simp_all
  obtain ⟨rfl, rfl⟩ := trodVars_none hV
  obtain ⟨a0, rfl, rfl, rfl, w0⟩ := open_int Tryz.underlying3 (hval 0 3 v0 rfl rfl) h0
  obtain ⟨a1, rfl, rfl, rfl, w1⟩ := open_int Tryz.underlying3 (hval 1 3 v1 rfl rfl) h1
  have k2 := h2
  have lt2 : ∀ x ∈ p2, x.block < W.heap.size := by obtain ⟨m, hm⟩ := k2; exact DataW.trod_lt m _ _ _ hm
  have w2 := open_z (hval 2 30 v2 rfl rfl) h2
  obtain ⟨a3, rfl, rfl, rfl, w3⟩ := open_string Tryz.underlying9 (hval 3 9 v3 rfl rfl) h3
  clear hA0 hval0
  refine (walk_policyAdopts a0 a1 v2 a3 W w0 w1 w2 w3 (laid_of hL)).mono fun e W' ⟨he, bel⟩ => ?_
  subst he
  exact ⟨_, rfl, _, _, _, [], _, [], hW', trodAll_mk1 (shut_bool Tryz.underlying4 _), (trodAll_cons_mk (shut_int Tryz.underlying3 w0) (trodAll_cons_mk (shut_int Tryz.underlying3 w1) (trodAll_cons_mk (Below.trod laidOut (by kernel_rfl) (of_decide_eq_true (by kernel_rfl)) k2 bel lt2) (trodAll_cons_mk (shut_string Tryz.underlying9 w3) trodAll_mk0)))), rfl, bel.frame _, fun h => by cases h⟩

theorem said : Rows.PolicyAdoptsSaid :=
  OpenClaim.holds_of_wide 8 Tryz.f8 rfl rfl rfl rfl rfl rfl rfl ⟨rfl, rfl, rfl, rfl, rfl⟩ rfl rfl rfl rfl rfl (by kernel_rfl) Tryz.func8 (by kernel_rfl)
    (of_decide_eq_true (by kernel_rfl)) (by unfold Func.isWrapper; rw [if_neg (of_decide_eq_false (by kernel_rfl))]; exact ⟨rfl, rfl⟩)
    (fun os started H enc _ => lifted os started H enc)

theorem card : Rows.PolicyAdoptsCardSaid :=
  Claim7.holds_tied_plain_at .later [] _ _ _ _ said (fun _ h => by cases h) (by kernel_rfl) (fun _ h => by cases h) policyAdopts_row_tie rfl ⟨rfl, rfl⟩ (by kernel_rfl) rfl
    (fun f fn hf hfn => by
      obtain rfl : f = 8 := Option.some.inj ((show Tryz.prog.funcNamed "cachewise/cachewiselaw09.PolicyAdopts" = some 8 by kernel_rfl).symm.trans hf) |>.symm
      obtain rfl : fn = Tryz.f8 := (Option.some.inj (Tryz.func8.symm.trans hfn)).symm
      refine ⟨by kernel_rfl, fun j t ht => ?_⟩
      rw [Tryz.params8] at ht
      rcases j with _ | _ | _ | _ | j
      · obtain rfl : t = 3 := by simpa using ht.symm
        exact (show Tryz.prog.wantsStandIn 3 = false by kernel_rfl)
      · obtain rfl : t = 3 := by simpa using ht.symm
        exact (show Tryz.prog.wantsStandIn 3 = false by kernel_rfl)
      · obtain rfl : t = 30 := by simpa using ht.symm
        exact (show Tryz.prog.wantsStandIn 30 = false by kernel_rfl)
      · obtain rfl : t = 9 := by simpa using ht.symm
        exact (show Tryz.prog.wantsStandIn 9 = false by kernel_rfl)
      · simp at ht)
    (by kernel_rfl)
#print axioms card
end LPolicyAdopts
end Go.Proofs.YtgjdjgnfpendgaaGreatDoor
