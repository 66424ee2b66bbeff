/- 'cachewiselaw09.PolicyDrops' returns true for every kind, every size and every row of keys, and leaves what was there as it was. The listed variables read as the program's text lays them. -/
import Derived.Test.YtgjdjgnfpendgaaGreatDoorAw9
import Derived.Test.YtgjdjgnfpendgaaGreatDoorRc9
import Derived.Test.YtgjdjgnfpendgaaGreatDoorShapes9
import Derived.Test.YtgjdjgnfpendgaaGreatDoorCards
import Derived.Test.YtgjdjgnfpendgaaGreatDoorTie
import Derived.SevenTiedAt
import Derived.Deep.DeepCutAuto
import Derived.Deep.CutBlock

set_option maxRecDepth 20000
namespace Go.Proofs.YtgjdjgnfpendgaaGreatDoor
open Go.ChangeShapes Go.WideShapes Go.ChangeAt Go.RowKit Sg
open Go.ChangeMaps (open_string shut_string)

/-- Behind i drops: the policy, and the rows that were told ahead of them. -/
def DrR (s : KSt) (rl rg : Value) (L G : List ByteArray) (p b : Nat) (w0 : World) (n : Nat) (z : Value) (W : World) : Prop := ∃ (i : Nat) (U : Nat → Prop) (t : KSt), z = .int .i64 (i : Int) ∧ i ≤ n ∧ PLive w0 W p U t b ∧ Drp s t i ∧ PMine W U rl L ∧ PMine W U rg G
set_option maxHeartbeats 4000000 in
set_option maxRecDepth 100000 in
theorem policyDrops_main (kd mo : Nat) (A : Option Addr) (n cc : Nat) (w : World) (S : Nat → ByteArray) (hkd : kd < 5) (hlo : 0 ≤ mo) (hmo : mo ≤ 1000) (hn : n ≤ 200) (hS : ∀ i, i < n → (S i).size ≤ maxLen)
    (hc : 0 < n → ∃ g o, A = some ⟨g, o, none⟩ ∧ g < w.heap.size ∧ n ≤ cc ∧ cc ≤ maxLen ∧ ∀ i, i < n → w.cell? ⟨g, o + i, none⟩ = some (.string (S i))) (hl : Laid w ∧ Named w) :
    Calls Tryz.prog 9 #[.int .i64 (kd : Int), .int .i64 (mo : Int), .slice A n cc] w (RetB true w) := by
  have AW := Lib.hid (awake_any w hl)
  have NW := Lib.hid (fun w1 => new_p w1 kd hkd mo (by omega))
  have HKD := Lib.hid hkd
  have g0 : decide (200 < (n : Int)) = false := decide_eq_false (by omega)
  have g1 : decide ((kd : Int) < 0) = false := decide_eq_false (by omega)
  have g2 : decide (4 < (kd : Int)) = false := decide_eq_false (by omega)
  have g3 : decide ((mo : Int) < 0) = false := decide_eq_false (by omega)
  have g4 : decide (1000 < (mo : Int)) = false := decide_eq_false (by omega)
  have HC := Lib.hid hc
  have HS := Lib.hid hS
  have HL := Lib.hid hlo
  have HM := Lib.hid hmo
  clear hc hS hl hkd hlo
  go_enter Tryz.func9, Tryz.ntmps9
  go_wp2_with fail
  refine AW.out.mono ?_
  rintro e w0 ⟨rfl, hb0⟩
  have b0 := Lib.hid hb0; clear hb0
  go_wp2_with fail
  refine (NW.out w0).mono ?_
  rintro e w1 ⟨p, U1, rfl, hC, hT, hB⟩
  have L1 := Lib.hid (PLive.made b0.out hC hT hB)
  clear hC hT hB b0
  go_wp2_with fail
  clear g0 g1 g2 g3 g4
  go_loopw [9] (fun i W => PFill S n p kd mo w i W) (fun i _ => n - (intOf i).toNat)
  case atStart => exact ⟨0, U1, rfl, Nat.zero_le _, L1.out, fun x hx => by rw [show (pst S kd mo 0).keys = [] from (KSt.start_kind HKD.out mo).2.2.1] at hx; cases hx⟩
  case round =>
    obtain ⟨k, U, rfl, hk, hL, hold⟩ := hrel
    have HL2 := Lib.hid hL
    have HO := Lib.hid hold
    clear hL hold L1
    by_cases hlt : k < n
    · have e0 : decide (k < n) = true := by simpa using hlt
      obtain ⟨g, o, rfl, hg, hc1, hc2, hcell⟩ := HC.out (by omega)
      have h1 := (HL2.out.bel.cell (p := ⟨g, o + k, none⟩) hg).trans (hcell k hlt)
      have hsk := HS.out k hlt
      clear hcell
      unfold maxLen at hc2
      have U := Lib.hid (request_p wr p _ _ k (S k) HL2.out.ca hsk (by omega))
      unfold maxLen at hsk
      by_cases hbig : (S k).size ≤ 200
      · have e1 : decide (200 < ((S k).size : Int)) = false := decide_eq_false (by omega)
        go_wp2_with fail
        refine U.out.mono ?_
        intro e w2 hp
        obtain ⟨rfl, hF⟩ := PFill.next hlt HL2.out HO.out hp
        have R := Lib.hid hF
        clear hp hF U
        unfold KSt.step
        go_wp2_with fail
        go_roundw
        case rel => exact R.out
        case measure => simp [intOf]; omega
      · have e1 : decide (200 < ((S k).size : Int)) = true := decide_eq_true (by omega)
        go_wp2_with fail
        go_ret
        exact ⟨rfl, HL2.out.bel⟩
    · have e0 : decide (k < n) = false := by simpa using hlt
      obtain rfl : k = n := by omega
      clear HO
      generalize pst S kd mo k = st at *
      have V := Lib.hid (keys_p wr p U st k HL2.out.ca)
      obtain ⟨q, hq⟩ : ∃ q, q = st.keys.length := ⟨_, rfl⟩
      have HQ := Lib.hid hq
      clear hq
      go_wp2_with fail
      refine V.out.mono ?_
      rintro e w2 ⟨v2, rfl, hO, hB⟩
      obtain ⟨A2, c2, rfl⟩ := hO.len
      have M2 := Lib.hid (PMine.made hO HL2.out.ca)
      have L2 := Lib.hid (HL2.out.below hB)
      rw [← HQ.out] at M2 ⊢
      have hq1 : q ≤ 2000 := by obtain ⟨g, hr⟩ := M2.out.row; have := hr.1; rw [← HQ.out] at this; exact this
      clear hB V HL2 e0 hO
      go_wp2_with fail
      refine (ghosts_p w2 p U st k L2.out.ca).mono ?_
      rintro e w3 ⟨v3, rfl, hO, hB⟩
      obtain ⟨A3, c3, rfl⟩ := hO.len
      have G3 := Lib.hid (PMine.made hO L2.out.ca)
      have M3 := Lib.hid (M2.out.below hB)
      have L3 := Lib.hid (L2.out.below hB)
      obtain ⟨gn, hgn⟩ : ∃ x, x = st.ghosts.length := ⟨_, rfl⟩
      have HGN := Lib.hid hgn
      rw [← hgn] at G3 ⊢
      clear hB L2 M2 hO hgn
      go_wp2_with fail
      go_loopw [12] (fun i W => DrR st (.slice A2 q c2) (.slice A3 gn c3) st.keys st.ghosts p k w q i W) (fun i _ => q - (intOf i).toNat)
      case atStart => exact ⟨0, U, st, rfl, Nat.zero_le _, L3.out, Drp.refl st, M3.out, G3.out⟩
      case round =>
        obtain ⟨i, U4, t, rfl, hi, hL, hD, hM, hG⟩ := hrel
        have L4 := Lib.hid hL
        have D4 := Lib.hid hD
        have M4 := Lib.hid hM
        have G4 := Lib.hid hG
        clear hL hD hM hG L3 M3 G3
        by_cases hlt2 : i < q
        · have e0 : decide (i < q) = true := by simpa using hlt2
          obtain ⟨dn, da, dm, dx⟩ := D4.out.next L4.out.ca.ok (by rw [← HQ.out]; exact hlt2)
          have DN := Lib.hid dn
          have hvs : t.vic.size ≤ maxLen := by obtain ⟨g, hr⟩ := M4.out.row; exact hr.2.1 _ dm
          have W5 := victim_p wr p U4 t k L4.out.ca
          rw [da] at W5
          have W5 := Lib.hid W5
          have hdl := dn.len
          rw [← HQ.out] at hdl
          have hin : inn st.keys t.vic = true := inn_iff.2 dm
          have hno : t.dr.has t.vic = false := inn_no.2 dx
          have HIN := Lib.hid hin
          have HNO := Lib.hid hno
          have HVS := Lib.hid hvs
          have HDA := Lib.hid da
          obtain ⟨m, hm⟩ : ∃ m, m = t.dr.keys.length := ⟨_, rfl⟩
          have HMQ := Lib.hid hm
          have hmq : m + (i + 1) = q := by omega
          obtain ⟨vk, hvk⟩ : ∃ x, x = t.vic := ⟨_, rfl⟩
          have HVK := Lib.hid hvk
          rw [← hvk] at W5
          clear dn da dm dx hdl hin hno hvs hm hvk
          go_wp2_with fail
          refine W5.out.mono ?_
          rintro e w5 ⟨rfl, hB⟩
          have L5 := Lib.hid (L4.out.below hB)
          have M5 := Lib.hid (M4.out.below hB)
          have G5 := Lib.hid (G4.out.below hB)
          have W6 := drop_p w5 p U4 t k L5.out.ca
          rw [HDA.out, ← HVK.out] at W6
          have W6 := Lib.hid W6
          clear hB W5 L4 M4 G4
          go_wp2_with fail
          refine W6.out.mono ?_
          intro e w6 hp
          obtain ⟨rfl, U6, hL6, hW6⟩ := L5.out.op hp
          have L6 := Lib.hid hL6
          have M6 := Lib.hid (M5.out.went hW6 hL6.lt)
          have G6 := Lib.hid (G5.out.went hW6 hL6.lt)
          clear hp hL6 hW6 W6 L5 M5 G5
          go_wp2_with fail
          refine Calls.mono (show Calls Tryz.prog 33 #[.pointer (some ⟨p, 0, none⟩), .string vk] w6 (Told (.bool false) w6) from by
            have := has_p w6 p U6 t.dr k vk L6.out.ca (by rw [HVK.out]; exact HVS.out)
            rw [HVK.out, HNO.out, ← HVK.out] at this
            exact this) ?_
          rintro e w7 ⟨rfl, hB⟩
          have L7 := Lib.hid (L6.out.below hB)
          have M7 := Lib.hid (M6.out.below hB)
          have G7 := Lib.hid (G6.out.below hB)
          clear hB L6 M6 G6
          go_wp2_with fail
          refine Calls.mono (show Calls Tryz.prog 34 #[.slice A2 q c2, .string vk] w7 (BoolPost true w7) from by
            obtain ⟨g, hr⟩ := M7.out.row
            have := refHas_any w7 g _ _ vk hr
            rw [HVK.out, HIN.out, ← HVK.out] at this
            exact this) ?_
          rintro e w8 ⟨rfl, rfl⟩
          go_wp2_with fail
          refine Calls.mono (show Calls Tryz.prog 32 #[.pointer (some ⟨p, 0, none⟩)] w7 (Told (.int .i64 (m : Int)) w7) from by
            have := len_p w7 p U6 t.dr k L7.out.ca
            rw [← HMQ.out] at this
            exact this) ?_
          rintro e w8 ⟨rfl, hB⟩
          have L8 := Lib.hid (L7.out.below hB)
          have M8 := Lib.hid (M7.out.below hB)
          have G8 := Lib.hid (G7.out.below hB)
          clear hB L7 M7 G7
          have hw : ¬ ((m : Int) ≠ (q : Int) - (i : Int) - 1) := by omega
          go_wp2_with fail
          go_roundw
          case rel => exact ⟨i + 1, U6, t.dr, by go_num, by omega, L8.out, DN.out, M8.out, G8.out⟩
          case measure => simp [intOf]; omega
        · have e0 : decide (i < q) = false := by simpa using hlt2
          obtain rfl : i = q := by omega
          have W5 := Lib.hid (drop_p wr p U4 t k L4.out.ca)
          go_wp2_with fail
          refine W5.out.mono ?_
          intro e w5 hp
          obtain ⟨rfl, U5, hL5, hW5⟩ := L4.out.op hp
          have L5 := Lib.hid hL5
          have G5 := Lib.hid (G4.out.went hW5 hL5.lt)
          obtain ⟨a1, a2, a3⟩ := Drp.last (s := st) (t := t) (by rw [← HQ.out]; exact D4.out) L4.out.ca.ok hL5.ca.ok
          rw [a1]
          have W6 := victim_p w5 p U5 t.dr k L5.out.ca
          rw [a2] at W6
          have W6 := Lib.hid W6
          have A3' := Lib.hid a3
          clear hp hL5 hW5 W5 a1 a2 a3 L4 G4
          generalize t.dr = t2 at *
          generalize t.vic = vk at *
          go_wp2_with fail
          refine W6.out.mono ?_
          rintro e w6 ⟨rfl, hB⟩
          have L6 := Lib.hid (L5.out.below hB)
          have G6 := Lib.hid (G5.out.below hB)
          clear hB W6 L5 G5
          go_wp2_with fail
          refine (ghosts_p w6 p U5 t2 k L6.out.ca).mono ?_
          rintro e w7 ⟨v7, rfl, hO, hB⟩
          obtain ⟨A7, c7, rfl⟩ := hO.len
          have L7 := Lib.hid (L6.out.below hB)
          obtain ⟨g7, _, hr7⟩ := hO.row
          obtain ⟨g6, hr6⟩ := (G6.out.below hB).row
          have V7 := refSame_any w7 g7 g6 _ _ _ _ hr7 hr6
          rw [A3'.out, decide_eq_true rfl, ← HGN.out] at V7
          have V7 := Lib.hid V7
          rw [show t2.ghosts.length = gn by rw [A3'.out]; exact HGN.out.symm]
          clear hB L6 G6 hO hr7 hr6
          go_wp2_with fail
          refine V7.out.mono ?_
          rintro e w8 ⟨rfl, nd, rfl⟩
          have L8 := Lib.hid (L7.out.below (AR.below_drewN _ nd))
          clear V7 L7
          go_wp2_with fail
          go_ret
          exact ⟨rfl, L8.out.bel⟩

theorem walk_policyDrops (a0 a1 : Int) (v2 : Value) (w : World) (w0 : (Lit.int .i64 a0).wf = true) (w1 : (Lit.int .i64 a1).wf = true) (wk : CameS w v2) (hl : Laid w ∧ Named w) : Calls Tryz.prog 9 #[.int .i64 a0, .int .i64 a1, v2] w (RetB true w) := by
  obtain ⟨A, n, c, rfl, hn, S, hr, hc⟩ := wk
  have hz0 := i64_rng w0
  have hz1 := i64_rng w1
  by_cases hok : 0 ≤ a0 ∧ a0 ≤ 4 ∧ 0 ≤ a1 ∧ a1 ≤ 1000 ∧ n ≤ 200
  · obtain ⟨q0, q1, q2, q3, q4⟩ := hok
    obtain ⟨kd, rfl⟩ : ∃ m : Nat, a0 = (m : Int) := ⟨a0.toNat, by omega⟩
    obtain ⟨mo, rfl⟩ : ∃ m : Nat, a1 = (m : Int) := ⟨a1.toNat, by omega⟩
    exact policyDrops_main kd mo A n c w S (by omega) (by omega) (by omega) (by omega) hr hc hl
  · have PW := Lib.hid (show (decide (a0 < 0) = true) ∨ (decide (a0 < 0) = false ∧ decide (4 < a0) = true) ∨ (decide (a0 < 0) = false ∧ decide (4 < a0) = false ∧ decide (a1 < 0) = true) ∨ (decide (a0 < 0) = false ∧ decide (4 < a0) = false ∧ decide (a1 < 0) = false ∧ decide (1000 < a1) = true) ∨ (decide (a0 < 0) = false ∧ decide (4 < a0) = false ∧ decide (a1 < 0) = false ∧ decide (1000 < a1) = false ∧ decide (200 < (n : Int)) = true) from by
      simp only [decide_eq_true_eq, decide_eq_false_iff_not]; omega)
    have AW := Lib.hid (awake_any w hl)
    unfold maxLen at hn
    clear hr hc w0 w1 hok hl hz0 hz1
    rcases PW.out with e0 | ⟨e0, e1⟩ | ⟨e0, e1, e2⟩ | ⟨e0, e1, e2, e3⟩ | ⟨e0, e1, e2, e3, e4⟩
    all_goals
      clear PW
      go_enter Tryz.func9, Tryz.ntmps9
      go_wp2_with fail
      refine AW.out.mono ?_
      rintro e w0 ⟨rfl, hb0⟩
      go_wp2_with fail
      go_ret
      exact ⟨rfl, hb0⟩
namespace LPolicyDrops
set_option maxRecDepth 100000 in
theorem lifted (os : Os) (started : os.Started) (H : Type) (enc : TypeId × Value → H) :
    ReturnsInHanded {} Tryz.checked os 9 .any (fun w args => (Rows.policyDropsSpec.pre enc Tryz.prog Tryz.f9 [] false w args ∧ laidMetH Tryz.prog seatLaid w) ∧ sizedMet enc Tryz.prog Tryz.f9 (OpenSpec.ofChange Rows.policyDropsSpec) false w args)
      (Rows.policyDropsSpec.post enc Tryz.prog Tryz.f9 false true false false) := by
  refine returnsInHanded_of_change_and (C := Tryz.checked) (X := fun w _ => laidMetH Tryz.prog seatLaid w) (fun _ _ _ hh h => h.of_heap hh) own started (by kernel_rfl) Tryz.func9
    (ChangeSpec.witness_at (enc := enc) (C := Tryz.checked) (os := os) (X := fun w _ => laidMetH Tryz.prog seatLaid w) false (laidWorld os) #[.int .i64 0, .int .i64 0, .slice none 0 0] 8 rfl (by kernel_rfl) (by kernel_rfl) (by kernel_rfl) (by kernel_rfl) (by kernel_rfl) (laidWorld_met os _)) ?_
  intro W base args ds gs before hval0 hW _ _ hL _
  have hval : ∀ (j : Nat) t v, Tryz.f9.params[j]? = some t → args[j]? = some v → Value.okWide Tryz.prog W .any base t v := hval0
  have hW' := hW
  obtain ⟨p, q, hA0, hV, rfl, hfz, hnd⟩ := hW
  have hA : DataW.TrodAll enc Tryz.prog W 0 (fun _ => true) true Tryz.f9.params.toList args.toList ds p := hA0
  rw [Tryz.params9] at hA hval
  obtain ⟨v0, vs0, d0, ds0, p0, q0, hargs, rfl, rfl, h0, r0⟩ := trodAll_cons hA
  obtain ⟨v1, vs1, d1, ds1, p1, q1, rfl, rfl, rfl, h1, r1⟩ := trodAll_cons r0
  obtain ⟨v2, vs2, d2, ds2, p2, q2, rfl, rfl, rfl, h2, r2⟩ := trodAll_cons r1
  obtain ⟨rfl, rfl, rfl⟩ := trodAll_nil r2
  obtain rfl : args = #[v0, v1, v2] := by cases args; simp_all
  obtain ⟨rfl, rfl⟩ := trodVars_none hV
  obtain ⟨a0, rfl, rfl, rfl, w0⟩ := open_int Tryz.underlying3 (hval 0 3 v0 rfl rfl) h0
  obtain ⟨a1, rfl, rfl, rfl, w1⟩ := open_int Tryz.underlying3 (hval 1 3 v1 rfl rfl) h1
  have k2 := h2
  have lt2 : ∀ x ∈ p2, x.block < W.heap.size := by obtain ⟨m, hm⟩ := k2; exact DataW.trod_lt m _ _ _ hm
  have w2 := open_z (hval 2 30 v2 rfl rfl) h2
  clear hA0 hval0
  refine (walk_policyDrops a0 a1 v2 W w0 w1 w2 (laid_of hL)).mono fun e W' ⟨he, bel⟩ => ?_
  subst he
  exact ⟨_, rfl, _, _, _, [], _, [], hW', trodAll_mk1 (shut_bool Tryz.underlying4 _), (trodAll_cons_mk (shut_int Tryz.underlying3 w0) (trodAll_cons_mk (shut_int Tryz.underlying3 w1) (trodAll_cons_mk (Below.trod laidOut (by kernel_rfl) (of_decide_eq_true (by kernel_rfl)) k2 bel lt2) trodAll_mk0))), rfl, bel.frame _, fun h => by cases h⟩

theorem said : Rows.PolicyDropsSaid :=
  OpenClaim.holds_of_wide 9 Tryz.f9 rfl rfl rfl rfl rfl rfl rfl ⟨rfl, rfl, rfl, rfl, rfl⟩ rfl rfl rfl rfl rfl (by kernel_rfl) Tryz.func9 (by kernel_rfl)
    (of_decide_eq_true (by kernel_rfl)) (by unfold Func.isWrapper; rw [if_neg (of_decide_eq_false (by kernel_rfl))]; exact ⟨rfl, rfl⟩)
    (fun os started H enc _ => lifted os started H enc)

theorem card : Rows.PolicyDropsCardSaid :=
  Claim7.holds_tied_plain_at .later [] _ _ _ _ said (fun _ h => by cases h) (by kernel_rfl) (fun _ h => by cases h) policyDrops_row_tie rfl ⟨rfl, rfl⟩ (by kernel_rfl) rfl
    (fun f fn hf hfn => by
      obtain rfl : f = 9 := Option.some.inj ((show Tryz.prog.funcNamed "cachewise/cachewiselaw09.PolicyDrops" = some 9 by kernel_rfl).symm.trans hf) |>.symm
      obtain rfl : fn = Tryz.f9 := (Option.some.inj (Tryz.func9.symm.trans hfn)).symm
      refine ⟨by kernel_rfl, fun j t ht => ?_⟩
      rw [Tryz.params9] at ht
      rcases j with _ | _ | _ | j
      · obtain rfl : t = 3 := by simpa using ht.symm
        exact (show Tryz.prog.wantsStandIn 3 = false by kernel_rfl)
      · obtain rfl : t = 3 := by simpa using ht.symm
        exact (show Tryz.prog.wantsStandIn 3 = false by kernel_rfl)
      · obtain rfl : t = 30 := by simpa using ht.symm
        exact (show Tryz.prog.wantsStandIn 30 = false by kernel_rfl)
      · simp at ht)
    (by kernel_rfl)
#print axioms card
end LPolicyDrops
end Go.Proofs.YtgjdjgnfpendgaaGreatDoor
