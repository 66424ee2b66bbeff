/- 'cachewiselaw09.PolicyShrinks' returns true for every kind, every size and every row of keys, and leaves what was there as it was. The listed variables read as the program's text lays them. -/
import Derived.Test.YtgjdjgnfpendgaaGreatDoorAw9
import Derived.Test.YtgjdjgnfpendgaaGreatDoorRc9
import Derived.Test.YtgjdjgnfpendgaaGreatDoorShapes9
import Derived.Test.YtgjdjgnfpendgaaGreatDoorCards
import Derived.Test.YtgjdjgnfpendgaaGreatDoorTie
import Derived.SevenTiedAt
import Derived.Deep.DeepCutAuto
import Derived.Deep.CutBlock

set_option maxRecDepth 20000
namespace Go.Proofs.YtgjdjgnfpendgaaGreatDoor
open Go.ChangeShapes Go.WideShapes Go.ChangeAt Go.RowKit Sg
open Go.ChangeMaps (open_string shut_string)

/-- As PFill; and none of the keys is long. -/
def ShF (S : Nat → ByteArray) (n p kind mo : Nat) (w0 : World) (i : Value) (W : World) : Prop :=
  ∃ (k : Nat) (U : Nat → Prop), i = .int .i64 (k : Int) ∧ k ≤ n ∧ PLive w0 W p U (pst S kind mo k) k ∧ (∀ x ∈ (pst S kind mo k).keys, ∃ j, j < k ∧ x = S j) ∧ ∀ j, j < k → (S j).size ≤ 20
theorem ShF.of {S : Nat → ByteArray} {n p kind mo k : Nat} {w0 W : World} (h : PFill S n p kind mo w0 (.int .i64 ((k + 1 : Nat) : Int)) W) (hs : ∀ j, j < k → (S j).size ≤ 20) (hk : (S k).size ≤ 20) : ShF S n p kind mo w0 (.int .i64 ((k + 1 : Nat) : Int)) W := by
  obtain ⟨k', U, e, h1, h2, h3⟩ := h
  have e2 : ((k + 1 : Nat) : Int) = (k' : Int) := (Value.int.inj e).2
  obtain rfl : k' = k + 1 := by omega
  exact ⟨k + 1, U, rfl, h1, h2, h3, fun j hj => by
    by_cases h : j < k
    · exact hs j h
    · obtain rfl : j = k := by omega
      exact hk⟩
/-- Behind the resize: the policy, what it had, who went. -/
def ShR (t : KSt) (rx ry : Value) (xs ys : List ByteArray) (U : Nat → Prop) (p b : Nat) (w0 : World) (n : Nat) (z : Value) (W : World) : Prop := ∃ (i : Nat), z = .int .i64 (i : Int) ∧ i ≤ n ∧ PLive w0 W p U t b ∧ PMine W U rx xs ∧ PMine W U ry ys
def oneKey : ByteArray := ⟨#[111, 110, 101, 32, 116, 104, 97, 116, 32, 110, 111, 98, 111, 100, 121, 32, 97, 115, 107, 101, 100, 32, 102, 111, 114]⟩
set_option maxHeartbeats 4000000 in
set_option maxRecDepth 100000 in
theorem policyShrinks_main (kd mo : Nat) (less : Nat) (A : Option Addr) (n cc : Nat) (w : World) (S : Nat → ByteArray) (hkd : kd < 5) (hlo : 1 ≤ mo) (hmo : mo ≤ 1000) (hless : less ≤ 1000) (hn : n ≤ 200) (hS : ∀ i, i < n → (S i).size ≤ maxLen)
    (hc : 0 < n → ∃ g o, A = some ⟨g, o, none⟩ ∧ g < w.heap.size ∧ n ≤ cc ∧ cc ≤ maxLen ∧ ∀ i, i < n → w.cell? ⟨g, o + i, none⟩ = some (.string (S i))) (hl : Laid w ∧ Named w) :
    Calls Tryz.prog 7 #[.int .i64 (kd : Int), .int .i64 (mo : Int), .int .i64 (less : Int), .slice A n cc] w (RetB true w) := by
  have AW := Lib.hid (awake_any w hl)
  have NW := Lib.hid (fun w1 => new_p w1 kd hkd mo (by omega))
  have HKD := Lib.hid hkd
  have g0 : decide (200 < (n : Int)) = false := decide_eq_false (by omega)
  have g1 : decide ((kd : Int) < 0) = false := decide_eq_false (by omega)
  have g2 : decide (4 < (kd : Int)) = false := decide_eq_false (by omega)
  have g3 : decide ((mo : Int) < 1) = false := decide_eq_false (by omega)
  have g4 : decide (1000 < (mo : Int)) = false := decide_eq_false (by omega)
  have g6 : decide ((less : Int) < 0) = false := decide_eq_false (by omega)
  have g7 : decide (1000 < (less : Int)) = false := decide_eq_false (by omega)
  have HC := Lib.hid hc
  have HS := Lib.hid hS
  have HL := Lib.hid hlo
  have HM := Lib.hid hmo
  clear hc hS hl hkd hlo
  go_enter Tryz.func7, Tryz.ntmps7
  go_wp2_with fail
  refine AW.out.mono ?_
  rintro e w0 ⟨rfl, hb0⟩
  have b0 := Lib.hid hb0; clear hb0
  go_wp2_with fail
  refine (NW.out w0).mono ?_
  rintro e w1 ⟨p, U1, rfl, hC, hT, hB⟩
  have L1 := Lib.hid (PLive.made b0.out hC hT hB)
  clear hC hT hB b0
  go_wp2_with fail
  clear g0 g1 g2 g3 g4 g6 g7
  go_loopw [11] (fun i W => ShF S n p kd mo w i W) (fun i _ => n - (intOf i).toNat)
  case atStart => exact ⟨0, U1, rfl, Nat.zero_le _, L1.out, (fun x hx => by rw [show (pst S kd mo 0).keys = [] from (KSt.start_kind HKD.out mo).2.2.1] at hx; cases hx), fun j hj => absurd hj (Nat.not_lt_zero j)⟩
  case round =>
    obtain ⟨k, U, rfl, hk, hL, hold, hsz⟩ := hrel
    have HSZ := Lib.hid hsz
    clear hsz
    have HL2 := Lib.hid hL
    have HO := Lib.hid hold
    clear hL hold L1
    by_cases hlt : k < n
    · have e0 : decide (k < n) = true := by simpa using hlt
      obtain ⟨g, o, rfl, hg, hc1, hc2, hcell⟩ := HC.out (by omega)
      have h1 := (HL2.out.bel.cell (p := ⟨g, o + k, none⟩) hg).trans (hcell k hlt)
      have hsk := HS.out k hlt
      clear hcell
      unfold maxLen at hc2
      have U := Lib.hid (request_p wr p _ _ k (S k) HL2.out.ca hsk (by omega))
      unfold maxLen at hsk
      by_cases hbig : (S k).size ≤ 20
      · have e1 : decide (20 < ((S k).size : Int)) = false := decide_eq_false (by omega)
        go_wp2_with fail
        refine U.out.mono ?_
        intro e w2 hp
        obtain ⟨rfl, hF⟩ := PFill.next hlt HL2.out HO.out hp
        have BG := Lib.hid hbig
        have R := Lib.hid hF
        clear hp hF U
        unfold KSt.step
        go_wp2_with fail
        go_roundw
        case rel => exact ShF.of R.out HSZ.out BG.out
        case measure => simp [intOf]; omega
      · have e1 : decide (20 < ((S k).size : Int)) = true := decide_eq_true (by omega)
        go_wp2_with fail
        go_ret
        exact ⟨rfl, HL2.out.bel⟩
    · have e0 : decide (k < n) = false := by simpa using hlt
      obtain rfl : k = n := by omega
      have hst := pst_mo S HKD.out mo k
      have HMO := Lib.hid hst
      have hno : (pst S kd mo k).has oneKey = false := inn_no.2 fun h => by
        obtain ⟨j, hj, e⟩ := HO.out _ h
        have h2 := HSZ.out j hj
        rw [← e] at h2
        exact absurd h2 (by decide)
      have HNO := Lib.hid hno
      clear hst HO HSZ hno
      generalize pst S kd mo k = st at *
      have V := Lib.hid (keys_p wr p U st k HL2.out.ca)
      obtain ⟨q, hq⟩ : ∃ q, q = st.keys.length := ⟨_, rfl⟩
      have HQ := Lib.hid hq
      clear hq
      go_wp2_with fail
      refine V.out.mono ?_
      rintro e w2 ⟨v2, rfl, hO, hB⟩
      obtain ⟨A2, c2, rfl⟩ := hO.len
      have M2 := Lib.hid (PMine.made hO HL2.out.ca)
      have L2 := Lib.hid (HL2.out.below hB)
      rw [← HQ.out] at M2 ⊢
      have hq1 : q ≤ 2000 := by obtain ⟨g, hr⟩ := M2.out.row; have := hr.1; rw [← HQ.out] at this; exact this
      have RS := Lib.hid (KSt.rs_f L2.out.ca.ok less)
      have W3 := Lib.hid (resize_p w2 p U st k less L2.out.ca (by omega) (by omega))
      clear hB V HL2 e0 hO
      go_wp2_with fail
      refine W3.out.mono ?_
      rintro e w3 ⟨v3, U3, rfl, hO, hC3, hW3, hv3⟩
      obtain ⟨A3, c3, rfl⟩ := hO.len
      have L3 := Lib.hid (L2.out.went hC3 hW3)
      have M3 := Lib.hid (M2.out.went hW3 (fun j hj => hC3.lt hj))
      have G3 := Lib.hid (PMine.of hO hv3 (fun j hj => hC3.lt hj))
      have h1 := RS.out.num
      have h2 := RS.out.len
      rw [← HQ.out] at h1 h2
      obtain ⟨d, hd⟩ : ∃ x, x = (st.gone less).length := ⟨_, rfl⟩
      rw [← hd] at h1 h2
      rw [← hd]
      rw [← hd] at G3
      have HD := Lib.hid hd
      obtain ⟨m, hm⟩ : ∃ x, x = (st.rs less).keys.length := ⟨_, rfl⟩
      rw [← hm] at h2
      have HMM := Lib.hid hm
      have hm3 : (st.rs less).mo = less := KSt.mo_rs st less
      have HM3 := Lib.hid hm3
      have hno3 : (st.rs less).has oneKey = false := inn_no.2 fun h => by
        have := HNO.out
        rw [show st.has oneKey = true from inn_iff.2 (RS.out.old _ h)] at this
        cases this
      have HNO3 := Lib.hid hno3
      have GO := Lib.hid RS.out.gone
      have ST := Lib.hid RS.out.stay
      have XS := Lib.hid (show ∀ x ∈ st.keys, x.size ≤ maxLen from by obtain ⟨g, hr⟩ := M3.out.row; exact hr.2.1)
      have H12 := Lib.hid (And.intro h1 h2)
      clear hO hC3 hW3 hv3 hd hm hm3 hno3 W3 L2 M2 HNO RS HMO h1 h2
      generalize st.rs less = t at *
      generalize st.gone less = ys at *
      generalize hxs : st.keys = xs at *
      clear hxs st
      by_cases hle : q ≤ less
      · have hd0 : d = 0 := by have := H12.out.1; omega
        obtain rfl : m = q := by have := H12.out.2; omega
        clear H12
        have HLE := Lib.hid hle
        have hmx : max 0 ((m : Int) - (less : Int)) = (d : Int) := by omega
        have hmd : (m : Int) - (d : Int) = (m : Int) := by omega
        have HD0 := Lib.hid hd0
        have hd2 : d ≤ 2000 := by omega
        clear hle hd0
        go_wp2_with fail
        refine Calls.mono (show Calls Tryz.prog 37 #[.pointer (some ⟨p, 0, none⟩)] w3 (Told (.int .i64 (less : Int)) w3) from by
          have := most_p w3 p U3 t k L3.out.ca
          rw [HM3.out] at this
          exact this) ?_
        rintro e w4 ⟨rfl, hB⟩
        have L4 := Lib.hid (L3.out.below hB)
        have M4 := Lib.hid (M3.out.below hB)
        have G4 := Lib.hid (G3.out.below hB)
        clear hB L3 M3 G3
        go_wp2_with fail
        refine Calls.mono (show Calls Tryz.prog 32 #[.pointer (some ⟨p, 0, none⟩)] w4 (Told (.int .i64 (m : Int)) w4) from by
          have := len_p w4 p U3 t k L4.out.ca
          rw [← HMM.out] at this
          exact this) ?_
        rintro e w5 ⟨rfl, hB⟩
        have L5 := Lib.hid (L4.out.below hB)
        have M5 := Lib.hid (M4.out.below hB)
        have G5 := Lib.hid (G4.out.below hB)
        clear hB L4 M4 G4
        go_wp2_with fail
        go_loopw [15] (fun i W => ShR t (.slice A2 (m) c2) (.slice A3 d c3) xs ys U3 p k w d i W) (fun i _ => d - (intOf i).toNat)
        case atStart => exact ⟨0, rfl, Nat.zero_le _, L5.out, M5.out, G5.out⟩
        case round =>
          obtain ⟨i, rfl, hi, hL, hM, hG⟩ := hrel
          have L7 := Lib.hid hL
          have M7 := Lib.hid hM
          have G7 := Lib.hid hG
          clear hL hM hG L5 M5 G5
          by_cases hlt2 : i < d
          · have e0 : decide (i < d) = true := by simpa using hlt2
            obtain ⟨g, hr⟩ := G7.out.row
            have hiq : i < ys.length := by rw [← HD.out]; exact hlt2
            obtain ⟨o, rfl, hg, hcell, hc1, hc2⟩ := hr.at hiq
            have hmem : ys.getD i ⟨#[]⟩ ∈ ys := by rw [List.getD_eq_getElem?_getD, List.getElem?_eq_getElem hiq]; exact List.getElem_mem hiq
            obtain ⟨hx1, hx2⟩ := GO.out _ hmem
            have hsz := XS.out _ hx1
            have hin : inn xs (ys.getD i ⟨#[]⟩) = true := inn_iff.2 hx1
            have hnn : t.has (ys.getD i ⟨#[]⟩) = false := inn_no.2 hx2
            generalize ys.getD i ⟨#[]⟩ = y at *
            have W8 := has_p wr p U3 t k y L7.out.ca hsz
            rw [hnn] at W8
            have W8 := Lib.hid W8
            have HIN := Lib.hid hin
            rw [← HD.out] at hc1
            unfold maxLen at hc2 hsz
            clear hr hmem hin hnn hiq hx1 hx2
            go_wp2_with fail
            refine W8.out.mono ?_
            rintro e w8 ⟨rfl, hB⟩
            have L8 := Lib.hid (L7.out.below hB)
            have M8 := Lib.hid (M7.out.below hB)
            have G8 := Lib.hid (G7.out.below hB)
            have hcell := (hB.cell (p := ⟨g, o + i, none⟩) hg).trans hcell
            clear hB W8 L7 M7 G7
            go_wp2_with fail
            refine Calls.mono (show Calls Tryz.prog 34 #[.slice A2 (m) c2, .string y] w8 (BoolPost true w8) from by
              obtain ⟨g, hr⟩ := M8.out.row
              have := refHas_any w8 g _ _ y hr
              rw [HIN.out] at this
              exact this) ?_
            rintro e w9 ⟨rfl, rfl⟩
            go_wp2_with fail
            go_roundw
            case rel => exact ⟨i + 1, by go_num, by omega, L8.out, M8.out, G8.out⟩
            case measure => simp [intOf]; omega
          · have e0 : decide (i < d) = false := by simpa using hlt2
            go_wp2_with fail
            clear e0 hlt2 hi
            go_loopw [16] (fun i W => ShR t (.slice A2 (m) c2) (.slice A3 d c3) xs ys U3 p k w (m) i W) (fun i _ => (m) - (intOf i).toNat)
            case atStart => exact ⟨0, rfl, Nat.zero_le _, L7.out, M7.out, G7.out⟩
            case round =>
              obtain ⟨i, rfl, hi, hL, hM, hG⟩ := hrel
              have L8 := Lib.hid hL
              have M8 := Lib.hid hM
              have G8 := Lib.hid hG
              clear hL hM hG L7 M7 G7
              by_cases hlt2 : i < m
              · have e0 : decide (i < m) = true := by simpa using hlt2
                obtain ⟨g, hr⟩ := M8.out.row
                have hiq : i < xs.length := by rw [← HQ.out]; exact hlt2
                obtain ⟨o, rfl, hg, hcell, hc1, hc2⟩ := hr.at hiq
                have hmem : xs.getD i ⟨#[]⟩ ∈ xs := by rw [List.getD_eq_getElem?_getD, List.getElem?_eq_getElem hiq]; exact List.getElem_mem hiq
                have hsz := XS.out _ hmem
                have hst := ST.out _ hmem
                generalize xs.getD i ⟨#[]⟩ = y at *
                have W9 := has_p wr p U3 t k y L8.out.ca hsz
                rw [← HQ.out] at hc1
                unfold maxLen at hc2 hsz
                have HST := Lib.hid hst
                clear hr hmem hiq hst
                cases hyt : t.has y with
                | true =>
                  rw [hyt] at W9
                  have W9 := Lib.hid W9
                  clear hyt
                  go_wp2_with fail
                  refine W9.out.mono ?_
                  rintro e w9 ⟨rfl, hB⟩
                  have L9 := Lib.hid (L8.out.below hB)
                  have M9 := Lib.hid (M8.out.below hB)
                  have G9 := Lib.hid (G8.out.below hB)
                  clear hB W9 L8 M8 G8
                  go_wp2_with fail
                  go_roundw
                  case rel => exact ⟨i + 1, by go_num, by omega, L9.out, M9.out, G9.out⟩
                  case measure => simp [intOf]; omega
                | false =>
                  rw [hyt] at W9
                  have W9 := Lib.hid W9
                  have hyy : inn ys y = true := by
                    rcases HST.out with h | h
                    · rw [show t.has y = true from inn_iff.2 h] at hyt; cases hyt
                    · exact inn_iff.2 h
                  have HYY := Lib.hid hyy
                  clear hyt hyy
                  go_wp2_with fail
                  refine W9.out.mono ?_
                  rintro e w9 ⟨rfl, hB⟩
                  have L9 := Lib.hid (L8.out.below hB)
                  have M9 := Lib.hid (M8.out.below hB)
                  have G9 := Lib.hid (G8.out.below hB)
                  have hcell := (hB.cell (p := ⟨g, o + i, none⟩) hg).trans hcell
                  clear hB W9 L8 M8 G8
                  go_wp2_with fail
                  refine Calls.mono (show Calls Tryz.prog 34 #[.slice A3 d c3, .string y] w9 (BoolPost true w9) from by
                    obtain ⟨g, hr⟩ := G9.out.row
                    have := refHas_any w9 g _ _ y hr
                    rw [HYY.out] at this
                    exact this) ?_
                  rintro e wa ⟨rfl, rfl⟩
                  go_wp2_with fail
                  go_roundw
                  case rel => exact ⟨i + 1, by go_num, by omega, L9.out, M9.out, G9.out⟩
                  case measure => simp [intOf]; omega
              · have e0 : decide (i < m) = false := by simpa using hlt2
                have AF := KSt.ad_f L8.out.ca.ok oneKey
                have W9 := adopt_p wr p U3 t k oneKey L8.out.ca (by decide) (by omega)
                have had : t.adB oneKey = decide (m < less) := by
                  show (!t.has oneKey && decide (t.keys.length < t.mo)) = _
                  rw [HNO3.out, HM3.out, ← HMM.out]; rfl
                have hal := AF.len
                rw [had, ← HMM.out] at hal
                rw [had] at W9
                have W9 := Lib.hid W9
                have HAL := Lib.hid hal
                clear AF had hal
                by_cases hlm : m < less
                · have er : decide (m < less) = true := decide_eq_true hlm
                  rw [show (decide (m < less)) = true from er] at W9 HAL
                  go_wp2_with fail
                  refine Calls.mono (show Calls Tryz.prog 22 #[.pointer (some ⟨p, 0, none⟩), .string ⟨#[111, 110, 101, 32, 116, 104, 97, 116, 32, 110, 111, 98, 111, 100, 121, 32, 97, 115, 107, 101, 100, 32, 102, 111, 114]⟩] wr (PPost (.bool true) wr p U3 (t.ad oneKey) (k + 1)) from W9.out) ?_
                  intro e w9 hp
                  obtain ⟨rfl, U9, hL9, hW9⟩ := L8.out.op hp
                  have L9 := Lib.hid hL9
                  have hl9 : (t.ad oneKey).keys.length = m + 1 := by rw [HAL.out]; rfl
                  have HL9 := Lib.hid hl9
                  clear hp hL9 hW9 L8 W9 hl9 er
                  generalize t.ad oneKey = t2 at *
                  go_wp2_with fail
                  refine Calls.mono (show Calls Tryz.prog 32 #[.pointer (some ⟨p, 0, none⟩)] w9 (Told (.int .i64 ((m + 1 : Nat) : Int)) w9) from by
                    have := len_p w9 p U9 t2 (k + 1) L9.out.ca
                    rw [HL9.out] at this
                    exact this) ?_
                  rintro e wa ⟨rfl, hB⟩
                  have La := Lib.hid (L9.out.below hB)
                  clear hB L9
                  go_wp2_with fail
                  go_ret
                  exact ⟨by first | rfl | (have hd0 := HD0.out; simp [hd0]; done) | (have hd0 := HD0.out; simp [hd0]; omega) | (simp; omega), La.out.bel⟩
                · have hlq : m = less := by have := HLE.out; omega
                  have er : decide (m < less) = false := decide_eq_false hlm
                  rw [show (decide (m < less)) = false from er] at W9 HAL
                  go_wp2_with fail
                  refine Calls.mono (show Calls Tryz.prog 22 #[.pointer (some ⟨p, 0, none⟩), .string ⟨#[111, 110, 101, 32, 116, 104, 97, 116, 32, 110, 111, 98, 111, 100, 121, 32, 97, 115, 107, 101, 100, 32, 102, 111, 114]⟩] wr (PPost (.bool false) wr p U3 (t.ad oneKey) (k + 1)) from W9.out) ?_
                  intro e w9 hp
                  obtain ⟨rfl, U9, hL9, hW9⟩ := L8.out.op hp
                  have L9 := Lib.hid hL9
                  have hl9 : (t.ad oneKey).keys.length = m := by rw [HAL.out]; rfl
                  have HL9 := Lib.hid hl9
                  clear hp hL9 hW9 L8 W9 hl9 er
                  generalize t.ad oneKey = t2 at *
                  go_wp2_with fail
                  refine Calls.mono (show Calls Tryz.prog 32 #[.pointer (some ⟨p, 0, none⟩)] w9 (Told (.int .i64 ((m : Nat) : Int)) w9) from by
                    have := len_p w9 p U9 t2 (k + 1) L9.out.ca
                    rw [HL9.out] at this
                    exact this) ?_
                  rintro e wa ⟨rfl, hB⟩
                  have La := Lib.hid (L9.out.below hB)
                  clear hB L9
                  go_wp2_with fail
                  go_ret
                  exact ⟨by first | rfl | (have hd0 := HD0.out; simp [hd0]; done) | (have hd0 := HD0.out; simp [hd0]; omega) | (simp; omega), La.out.bel⟩
      · obtain rfl : m = less := by have := H12.out; omega
        have hmx : max 0 ((q : Int) - (m : Int)) = (d : Int) := by have := H12.out; omega
        have hmd : (q : Int) - (d : Int) = (m : Int) := by have := H12.out; omega
        have hd2 : d ≤ 2000 := by have := H12.out; omega
        clear H12 hle
        go_wp2_with fail
        refine Calls.mono (show Calls Tryz.prog 37 #[.pointer (some ⟨p, 0, none⟩)] w3 (Told (.int .i64 (m : Int)) w3) from by
          have := most_p w3 p U3 t k L3.out.ca
          rw [HM3.out] at this
          exact this) ?_
        rintro e w4 ⟨rfl, hB⟩
        have L4 := Lib.hid (L3.out.below hB)
        have M4 := Lib.hid (M3.out.below hB)
        have G4 := Lib.hid (G3.out.below hB)
        clear hB L3 M3 G3
        go_wp2_with fail
        refine Calls.mono (show Calls Tryz.prog 32 #[.pointer (some ⟨p, 0, none⟩)] w4 (Told (.int .i64 (m : Int)) w4) from by
          have := len_p w4 p U3 t k L4.out.ca
          rw [← HMM.out] at this
          exact this) ?_
        rintro e w5 ⟨rfl, hB⟩
        have L5 := Lib.hid (L4.out.below hB)
        have M5 := Lib.hid (M4.out.below hB)
        have G5 := Lib.hid (G4.out.below hB)
        clear hB L4 M4 G4
        go_wp2_with fail
        go_loopw [15] (fun i W => ShR t (.slice A2 q c2) (.slice A3 d c3) xs ys U3 p k w d i W) (fun i _ => d - (intOf i).toNat)
        case atStart => exact ⟨0, rfl, Nat.zero_le _, L5.out, M5.out, G5.out⟩
        case round =>
          obtain ⟨i, rfl, hi, hL, hM, hG⟩ := hrel
          have L7 := Lib.hid hL
          have M7 := Lib.hid hM
          have G7 := Lib.hid hG
          clear hL hM hG L5 M5 G5
          by_cases hlt2 : i < d
          · have e0 : decide (i < d) = true := by simpa using hlt2
            obtain ⟨g, hr⟩ := G7.out.row
            have hiq : i < ys.length := by rw [← HD.out]; exact hlt2
            obtain ⟨o, rfl, hg, hcell, hc1, hc2⟩ := hr.at hiq
            have hmem : ys.getD i ⟨#[]⟩ ∈ ys := by rw [List.getD_eq_getElem?_getD, List.getElem?_eq_getElem hiq]; exact List.getElem_mem hiq
            obtain ⟨hx1, hx2⟩ := GO.out _ hmem
            have hsz := XS.out _ hx1
            have hin : inn xs (ys.getD i ⟨#[]⟩) = true := inn_iff.2 hx1
            have hnn : t.has (ys.getD i ⟨#[]⟩) = false := inn_no.2 hx2
            generalize ys.getD i ⟨#[]⟩ = y at *
            have W8 := has_p wr p U3 t k y L7.out.ca hsz
            rw [hnn] at W8
            have W8 := Lib.hid W8
            have HIN := Lib.hid hin
            rw [← HD.out] at hc1
            unfold maxLen at hc2 hsz
            clear hr hmem hin hnn hiq hx1 hx2
            go_wp2_with fail
            refine W8.out.mono ?_
            rintro e w8 ⟨rfl, hB⟩
            have L8 := Lib.hid (L7.out.below hB)
            have M8 := Lib.hid (M7.out.below hB)
            have G8 := Lib.hid (G7.out.below hB)
            have hcell := (hB.cell (p := ⟨g, o + i, none⟩) hg).trans hcell
            clear hB W8 L7 M7 G7
            go_wp2_with fail
            refine Calls.mono (show Calls Tryz.prog 34 #[.slice A2 q c2, .string y] w8 (BoolPost true w8) from by
              obtain ⟨g, hr⟩ := M8.out.row
              have := refHas_any w8 g _ _ y hr
              rw [HIN.out] at this
              exact this) ?_
            rintro e w9 ⟨rfl, rfl⟩
            go_wp2_with fail
            go_roundw
            case rel => exact ⟨i + 1, by go_num, by omega, L8.out, M8.out, G8.out⟩
            case measure => simp [intOf]; omega
          · have e0 : decide (i < d) = false := by simpa using hlt2
            go_wp2_with fail
            clear e0 hlt2 hi
            go_loopw [16] (fun i W => ShR t (.slice A2 q c2) (.slice A3 d c3) xs ys U3 p k w q i W) (fun i _ => q - (intOf i).toNat)
            case atStart => exact ⟨0, rfl, Nat.zero_le _, L7.out, M7.out, G7.out⟩
            case round =>
              obtain ⟨i, rfl, hi, hL, hM, hG⟩ := hrel
              have L8 := Lib.hid hL
              have M8 := Lib.hid hM
              have G8 := Lib.hid hG
              clear hL hM hG L7 M7 G7
              by_cases hlt2 : i < q
              · have e0 : decide (i < q) = true := by simpa using hlt2
                obtain ⟨g, hr⟩ := M8.out.row
                have hiq : i < xs.length := by rw [← HQ.out]; exact hlt2
                obtain ⟨o, rfl, hg, hcell, hc1, hc2⟩ := hr.at hiq
                have hmem : xs.getD i ⟨#[]⟩ ∈ xs := by rw [List.getD_eq_getElem?_getD, List.getElem?_eq_getElem hiq]; exact List.getElem_mem hiq
                have hsz := XS.out _ hmem
                have hst := ST.out _ hmem
                generalize xs.getD i ⟨#[]⟩ = y at *
                have W9 := has_p wr p U3 t k y L8.out.ca hsz
                rw [← HQ.out] at hc1
                unfold maxLen at hc2 hsz
                have HST := Lib.hid hst
                clear hr hmem hiq hst
                cases hyt : t.has y with
                | true =>
                  rw [hyt] at W9
                  have W9 := Lib.hid W9
                  clear hyt
                  go_wp2_with fail
                  refine W9.out.mono ?_
                  rintro e w9 ⟨rfl, hB⟩
                  have L9 := Lib.hid (L8.out.below hB)
                  have M9 := Lib.hid (M8.out.below hB)
                  have G9 := Lib.hid (G8.out.below hB)
                  clear hB W9 L8 M8 G8
                  go_wp2_with fail
                  go_roundw
                  case rel => exact ⟨i + 1, by go_num, by omega, L9.out, M9.out, G9.out⟩
                  case measure => simp [intOf]; omega
                | false =>
                  rw [hyt] at W9
                  have W9 := Lib.hid W9
                  have hyy : inn ys y = true := by
                    rcases HST.out with h | h
                    · rw [show t.has y = true from inn_iff.2 h] at hyt; cases hyt
                    · exact inn_iff.2 h
                  have HYY := Lib.hid hyy
                  clear hyt hyy
                  go_wp2_with fail
                  refine W9.out.mono ?_
                  rintro e w9 ⟨rfl, hB⟩
                  have L9 := Lib.hid (L8.out.below hB)
                  have M9 := Lib.hid (M8.out.below hB)
                  have G9 := Lib.hid (G8.out.below hB)
                  have hcell := (hB.cell (p := ⟨g, o + i, none⟩) hg).trans hcell
                  clear hB W9 L8 M8 G8
                  go_wp2_with fail
                  refine Calls.mono (show Calls Tryz.prog 34 #[.slice A3 d c3, .string y] w9 (BoolPost true w9) from by
                    obtain ⟨g, hr⟩ := G9.out.row
                    have := refHas_any w9 g _ _ y hr
                    rw [HYY.out] at this
                    exact this) ?_
                  rintro e wa ⟨rfl, rfl⟩
                  go_wp2_with fail
                  go_roundw
                  case rel => exact ⟨i + 1, by go_num, by omega, L9.out, M9.out, G9.out⟩
                  case measure => simp [intOf]; omega
              · have e0 : decide (i < q) = false := by simpa using hlt2
                have AF := KSt.ad_f L8.out.ca.ok oneKey
                have W9 := adopt_p wr p U3 t k oneKey L8.out.ca (by decide) (by omega)
                have had : t.adB oneKey = decide (m < m) := by
                  show (!t.has oneKey && decide (t.keys.length < t.mo)) = _
                  rw [HNO3.out, HM3.out, ← HMM.out]; rfl
                have hal := AF.len
                rw [had, ← HMM.out] at hal
                rw [had] at W9
                have W9 := Lib.hid W9
                have HAL := Lib.hid hal
                clear AF had hal
                have er : decide (m < m) = false := decide_eq_false (by omega)
                rw [show (decide (m < m)) = false from er] at W9 HAL
                go_wp2_with fail
                refine Calls.mono (show Calls Tryz.prog 22 #[.pointer (some ⟨p, 0, none⟩), .string ⟨#[111, 110, 101, 32, 116, 104, 97, 116, 32, 110, 111, 98, 111, 100, 121, 32, 97, 115, 107, 101, 100, 32, 102, 111, 114]⟩] wr (PPost (.bool false) wr p U3 (t.ad oneKey) (k + 1)) from W9.out) ?_
                intro e w9 hp
                obtain ⟨rfl, U9, hL9, hW9⟩ := L8.out.op hp
                have L9 := Lib.hid hL9
                have hl9 : (t.ad oneKey).keys.length = m := by rw [HAL.out]; rfl
                have HL9 := Lib.hid hl9
                clear hp hL9 hW9 L8 W9 hl9 er
                generalize t.ad oneKey = t2 at *
                go_wp2_with fail
                refine Calls.mono (show Calls Tryz.prog 32 #[.pointer (some ⟨p, 0, none⟩)] w9 (Told (.int .i64 ((m : Nat) : Int)) w9) from by
                  have := len_p w9 p U9 t2 (k + 1) L9.out.ca
                  rw [HL9.out] at this
                  exact this) ?_
                rintro e wa ⟨rfl, hB⟩
                have La := Lib.hid (L9.out.below hB)
                clear hB L9
                go_wp2_with fail
                go_ret
                exact ⟨by first | rfl | (have hd0 := HD0.out; simp [hd0]; done) | (have hd0 := HD0.out; simp [hd0]; omega) | (simp; omega), La.out.bel⟩

theorem walk_policyShrinks (a0 a1 : Int) (a2 : Int) (v3 : Value) (w : World) (w0 : (Lit.int .i64 a0).wf = true) (w1 : (Lit.int .i64 a1).wf = true) (w2 : (Lit.int .i64 a2).wf = true) (wk : CameS w v3) (hl : Laid w ∧ Named w) : Calls Tryz.prog 7 #[.int .i64 a0, .int .i64 a1, .int .i64 a2, v3] w (RetB true w) := by
  obtain ⟨A, n, c, rfl, hn, S, hr, hc⟩ := wk
  have hz0 := i64_rng w0
  have hz1 := i64_rng w1
  have hz2 := i64_rng w2
  by_cases hok : 0 ≤ a0 ∧ a0 ≤ 4 ∧ 1 ≤ a1 ∧ a1 ≤ 1000 ∧ 0 ≤ a2 ∧ a2 ≤ 1000 ∧ n ≤ 200
  · obtain ⟨q0, q1, q2, q3, q4, q5, q6⟩ := hok
    obtain ⟨kd, rfl⟩ : ∃ m : Nat, a0 = (m : Int) := ⟨a0.toNat, by omega⟩
    obtain ⟨mo, rfl⟩ : ∃ m : Nat, a1 = (m : Int) := ⟨a1.toNat, by omega⟩
    obtain ⟨le, rfl⟩ : ∃ m : Nat, a2 = (m : Int) := ⟨a2.toNat, by omega⟩
    exact policyShrinks_main kd mo le A n c w S (by omega) (by omega) (by omega) (by omega) (by omega) hr hc hl
  · have PW := Lib.hid (show (decide (a0 < 0) = true) ∨ (decide (a0 < 0) = false ∧ decide (4 < a0) = true) ∨ (decide (a0 < 0) = false ∧ decide (4 < a0) = false ∧ decide (a1 < 1) = true) ∨ (decide (a0 < 0) = false ∧ decide (4 < a0) = false ∧ decide (a1 < 1) = false ∧ decide (1000 < a1) = true) ∨ (decide (a0 < 0) = false ∧ decide (4 < a0) = false ∧ decide (a1 < 1) = false ∧ decide (1000 < a1) = false ∧ decide (a2 < 0) = true) ∨ (decide (a0 < 0) = false ∧ decide (4 < a0) = false ∧ decide (a1 < 1) = false ∧ decide (1000 < a1) = false ∧ decide (a2 < 0) = false ∧ decide (1000 < a2) = true) ∨ (decide (a0 < 0) = false ∧ decide (4 < a0) = false ∧ decide (a1 < 1) = false ∧ decide (1000 < a1) = false ∧ decide (a2 < 0) = false ∧ decide (1000 < a2) = false ∧ decide (200 < (n : Int)) = true) from by
      simp only [decide_eq_true_eq, decide_eq_false_iff_not]; omega)
    have AW := Lib.hid (awake_any w hl)
    unfold maxLen at hn
    clear hr hc w0 w1 w2 hok hl hz0 hz1 hz2
    rcases PW.out with e0 | ⟨e0, e1⟩ | ⟨e0, e1, e2⟩ | ⟨e0, e1, e2, e3⟩ | ⟨e0, e1, e2, e3, e4⟩ | ⟨e0, e1, e2, e3, e4, e5⟩ | ⟨e0, e1, e2, e3, e4, e5, e6⟩
    all_goals
      clear PW
      go_enter Tryz.func7, Tryz.ntmps7
      go_wp2_with fail
      refine AW.out.mono ?_
      rintro e w0 ⟨rfl, hb0⟩
      go_wp2_with fail
      go_ret
      exact ⟨rfl, hb0⟩
namespace LPolicyShrinks
set_option maxRecDepth 100000 in
theorem lifted (os : Os) (started : os.Started) (H : Type) (enc : TypeId × Value → H) :
    ReturnsInHanded {} Tryz.checked os 7 .any (fun w args => (Rows.policyShrinksSpec.pre enc Tryz.prog Tryz.f7 [] false w args ∧ laidMetH Tryz.prog seatLaid w) ∧ sizedMet enc Tryz.prog Tryz.f7 (OpenSpec.ofChange Rows.policyShrinksSpec) false w args)
      (Rows.policyShrinksSpec.post enc Tryz.prog Tryz.f7 false true false false) := by
  refine returnsInHanded_of_change_and (C := Tryz.checked) (X := fun w _ => laidMetH Tryz.prog seatLaid w) (fun _ _ _ hh h => h.of_heap hh) own started (by kernel_rfl) Tryz.func7
    (ChangeSpec.witness_at (enc := enc) (C := Tryz.checked) (os := os) (X := fun w _ => laidMetH Tryz.prog seatLaid w) false (laidWorld os) #[.int .i64 0, .int .i64 0, .int .i64 0, .slice none 0 0] 8 rfl (by kernel_rfl) (by kernel_rfl) (by kernel_rfl) (by kernel_rfl) (by kernel_rfl) (laidWorld_met os _)) ?_
  intro W base args ds gs before hval0 hW _ _ hL _
  have hval : ∀ (j : Nat) t v, Tryz.f7.params[j]? = some t → args[j]? = some v → Value.okWide Tryz.prog W .any base t v := hval0
  have hW' := hW
  obtain ⟨p, q, hA0, hV, rfl, hfz, hnd⟩ := hW
  have hA : DataW.TrodAll enc Tryz.prog W 0 (fun _ => true) true Tryz.f7.params.toList args.toList ds p := hA0
  rw [Tryz.params7] at hA hval
  obtain ⟨v0, vs0, d0, ds0, p0, q0, hargs, rfl, rfl, h0, r0⟩ := trodAll_cons hA
  obtain ⟨v1, vs1, d1, ds1, p1, q1, rfl, rfl, rfl, h1, r1⟩ := trodAll_cons r0
  obtain ⟨v2, vs2, d2, ds2, p2, q2, rfl, rfl, rfl, h2, r2⟩ := trodAll_cons r1
  obtain ⟨v3, vs3, d3, ds3, p3, q3, rfl, rfl, rfl, h3, r3⟩ := trodAll_cons r2
  obtain ⟨rfl, rfl, rfl⟩ := trodAll_nil r3
  obtain rfl : args = #[v0, v1, v2, v3] := by cases args; simp_all
  obtain ⟨rfl, rfl⟩ := trodVars_none hV
  obtain ⟨a0, rfl, rfl, rfl, w0⟩ := open_int Tryz.underlying3 (hval 0 3 v0 rfl rfl) h0
  obtain ⟨a1, rfl, rfl, rfl, w1⟩ := open_int Tryz.underlying3 (hval 1 3 v1 rfl rfl) h1
  obtain ⟨a2, rfl, rfl, rfl, w2⟩ := open_int Tryz.underlying3 (hval 2 3 v2 rfl rfl) h2
  have k3 := h3
  have lt3 : ∀ x ∈ p3, x.block < W.heap.size := by obtain ⟨m, hm⟩ := k3; exact DataW.trod_lt m _ _ _ hm
  have w3 := open_z (hval 3 30 v3 rfl rfl) h3
  clear hA0 hval0
  refine (walk_policyShrinks a0 a1 a2 v3 W w0 w1 w2 w3 (laid_of hL)).mono fun e W' ⟨he, bel⟩ => ?_
  subst he
  exact ⟨_, rfl, _, _, _, [], _, [], hW', trodAll_mk1 (shut_bool Tryz.underlying4 _), (trodAll_cons_mk (shut_int Tryz.underlying3 w0) (trodAll_cons_mk (shut_int Tryz.underlying3 w1) (trodAll_cons_mk (shut_int Tryz.underlying3 w2) (trodAll_cons_mk (Below.trod laidOut (by kernel_rfl) (of_decide_eq_true (by kernel_rfl)) k3 bel lt3) trodAll_mk0)))), rfl, bel.frame _, fun h => by cases h⟩

theorem said : Rows.PolicyShrinksSaid :=
  OpenClaim.holds_of_wide 7 Tryz.f7 rfl rfl rfl rfl rfl rfl rfl ⟨rfl, rfl, rfl, rfl, rfl⟩ rfl rfl rfl rfl rfl (by kernel_rfl) Tryz.func7 (by kernel_rfl)
    (of_decide_eq_true (by kernel_rfl)) (by unfold Func.isWrapper; rw [if_neg (of_decide_eq_false (by kernel_rfl))]; exact ⟨rfl, rfl⟩)
    (fun os started H enc _ => lifted os started H enc)

theorem card : Rows.PolicyShrinksCardSaid :=
  Claim7.holds_tied_plain_at .later [] _ _ _ _ said (fun _ h => by cases h) (by kernel_rfl) (fun _ h => by cases h) policyShrinks_row_tie rfl ⟨rfl, rfl⟩ (by kernel_rfl) rfl
    (fun f fn hf hfn => by
      obtain rfl : f = 7 := Option.some.inj ((show Tryz.prog.funcNamed "cachewise/cachewiselaw09.PolicyShrinks" = some 7 by kernel_rfl).symm.trans hf) |>.symm
      obtain rfl : fn = Tryz.f7 := (Option.some.inj (Tryz.func7.symm.trans hfn)).symm
      refine ⟨by kernel_rfl, fun j t ht => ?_⟩
      rw [Tryz.params7] at ht
      rcases j with _ | _ | _ | _ | j
      · obtain rfl : t = 3 := by simpa using ht.symm
        exact (show Tryz.prog.wantsStandIn 3 = false by kernel_rfl)
      · obtain rfl : t = 3 := by simpa using ht.symm
        exact (show Tryz.prog.wantsStandIn 3 = false by kernel_rfl)
      · obtain rfl : t = 3 := by simpa using ht.symm
        exact (show Tryz.prog.wantsStandIn 3 = false by kernel_rfl)
      · obtain rfl : t = 30 := by simpa using ht.symm
        exact (show Tryz.prog.wantsStandIn 30 = false by kernel_rfl)
      · simp at ht)
    (by kernel_rfl)
#print axioms card
end LPolicyShrinks
end Go.Proofs.YtgjdjgnfpendgaaGreatDoor
