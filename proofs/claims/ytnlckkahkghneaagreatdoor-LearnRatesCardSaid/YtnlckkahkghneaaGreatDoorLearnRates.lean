/- 'cachewiselaw10.LearnRates' returns true for every kind, every size, every lane and every row of keys, and leaves what was there as it was. The listed variables read as the program's text lays them. -/
import Derived.Test.YtnlckkahkghneaaGreatDoorLaw10
import Derived.Test.YtnlckkahkghneaaGreatDoorCards
import Derived.Test.YtnlckkahkghneaaGreatDoorTie
import Derived.SevenTiedAt
import Derived.Deep.DeepCutAuto
import Derived.Deep.CutBlock

set_option maxRecDepth 20000
namespace Go.Proofs.YtnlckkahkghneaaGreatDoor.LE
open Go.ChangeShapes Go.WideShapes Go.ChangeAt Go.RowKit Sg

/-- Where k keys were asked for. -/
def RtR (w0 : World) (l mo n r0 : Nat) (six : Bool) (i : Value) (W : World) : Prop := ∃ (k : Nat) (T : Nat → Prop) (s : St), i = .int .i64 (k : Int) ∧ k ≤ n ∧ LL w0 W l T s (4 * k) ∧ s.mo = mo ∧ s.six = six ∧ (six = true → Win s k) ∧ (six = false → s.rate = r0)
set_option maxHeartbeats 4000000 in
set_option maxRecDepth 100000 in
theorem learnRates_main (six : Bool) (kd : Int) (mo : Nat) (vs : List Nat) (Al : Option Addr) (cl : Nat) (A : Option Addr) (n cc : Nat) (w : World) (S : Nat → ByteArray) (hkd : ((if six then 6 else 5 : Nat) : Int) = kd) (hlo : 1 ≤ mo) (hmo : mo ≤ 1000) (hn : n ≤ 200) (hvl : vs.length ≤ 300)
    (hv : DR.Lane w 0 w.heap.size (.slice Al vs.length cl) vs) (hk : KRow w A n cc S) (hl : Laid w) :
    Calls Tryz.prog 7 #[.int .i64 kd, .int .i64 (mo : Int), .slice Al vs.length cl, .slice A n cc] w (RetB true w) := by
  have AW := Lib.hid (awake_any w hl)
  have MD := Lib.hid (fun (w1 : World) (hb : Below w.heap.size w w1) => show Calls Tryz.prog 41 #[.int .i64 kd, .int .i64 (mo : Int), .slice Al vs.length cl] w1 (LNew six mo vs w1) from by
    have := made_l w1 six mo _ vs (by omega) (DR.Lane.wide (hv.same fun k _ hk => hb.block k hk) (Nat.le_refl _) hb.size)
    rw [hkd] at this
    exact this)
  have hk56 : kd = 5 ∧ six = false ∨ kd = 6 ∧ six = true := by
    cases six with
    | true => exact Or.inr ⟨by rw [← hkd]; rfl, rfl⟩
    | false => exact Or.inl ⟨by rw [← hkd]; rfl, rfl⟩
  have K56 := Lib.hid hk56
  have g0 : decide (200 < (n : Int)) = false := decide_eq_false (by omega)
  have g1 : decide (300 < (vs.length : Int)) = false := decide_eq_false (by omega)
  have g2 : decide (kd < 5) = false := decide_eq_false (by omega)
  have g3 : decide (6 < kd) = false := decide_eq_false (by omega)
  have g4 : decide ((mo : Int) < 1) = false := decide_eq_false (by omega)
  have g5 : decide (1000 < (mo : Int)) = false := decide_eq_false (by omega)
  have KR := Lib.hid hk
  have LO := Lib.hid hlo
  have HM := Lib.hid hmo
  have HN := Lib.hid hn
  generalize hvn : vs.length = vn at *
  clear hk hl hv hkd hk56 hlo hvn
  go_enter Tryz.func7, Tryz.ntmps7
  go_wp2_with fail
  refine AW.out.mono ?_
  rintro e w0 ⟨rfl, hb0⟩
  have b0 := Lib.hid hb0; clear hb0
  go_wp2_with fail
  refine (MD.out w0 b0.out).mono ?_
  rintro e w1 ⟨l, T, rfl, hC, hT, hB⟩
  have L1 := Lib.hid (LL.made b0.out hC hT hB)
  clear hC hT hB b0 MD AW
  go_wp2_with fail
  refine (rate_l w1 l T _ 0 L1.out.ca).mono ?_
  rintro e w2 ⟨rfl, hB⟩
  have L2 := Lib.hid (L1.out.below hB)
  clear hB L1
  obtain ⟨r0, hr0⟩ : ∃ r, r = (St.start six mo vs).rate := ⟨_, rfl⟩
  rw [← hr0]
  have R0 := Lib.hid hr0
  clear g0 g1 g2 g3 g4 g5 hr0
  go_wp2_with fail
  go_loopw [11] (fun i W => RtR w l mo n r0 six i W) (fun i _ => n - (intOf i).toNat)
  case atStart => exact ⟨0, T, St.start six mo vs, rfl, Nat.zero_le _, L2.out, rfl, rfl, fun _ => win_start six mo vs, fun _ => R0.out.symm⟩
  case round =>
    obtain ⟨k, T, s, rfl, hk, hL, hm, h6, hw, hr⟩ := hrel
    have HL := Lib.hid hL
    have SM := Lib.hid hm
    have S6 := Lib.hid h6
    have SW := Lib.hid hw
    have SR := Lib.hid hr
    clear hL L2 hm h6 hw hr
    by_cases hlt : k < n
    · have e0 : decide (k < n) = true := by simpa using hlt
      have hn2 := HN.out
      obtain ⟨g, o, rfl, hg, hc1, hc2, hcell⟩ := KR.out.2 (by omega)
      have h1 := (HL.out.bel.cell (p := ⟨g, o + k, none⟩) hg).trans (hcell k hlt)
      have hsk := KR.out.1 k hlt
      have HC := Lib.hid (hcell k hlt)
      have HSK := Lib.hid hsk
      clear hcell
      unfold maxLen at hc2 hsk
      by_cases hbig : (S k).size ≤ 200
      · have e1 : decide (200 < ((S k).size : Int)) = false := decide_eq_false (by omega)
        have hkey := h1
        obtain ⟨bf, hbf⟩ : ∃ r, r = s.rate := ⟨_, rfl⟩
        have VB := rate_l wr l T s _ HL.out.ca
        rw [← hbf] at VB
        have VB := Lib.hid VB
        have HBF := Lib.hid hbf
        clear hbf
        go_wp2_with fail
        refine VB.out.mono ?_
        rintro e w3 ⟨rfl, hB⟩
        have L3 := Lib.hid (HL.out.below hB)
        have h3 := (L3.out.bel.cell (p := ⟨g, o + k, none⟩) hg).trans HC.out
        clear hB HL h1 hkey e0 e1
        clear VB
        go_wp2_with fail
        refine (request_l w3 l T s _ L3.out.ca (S k) HSK.out (by omega)).mono ?_
        intro e w4 hp
        obtain ⟨rfl, T4, hL4, _⟩ := L3.out.op hp
        have L4 := Lib.hid (show LL w w4 l T4 (s.req (S k)) (4 * (k + 1)) from hL4)
        have OK := Lib.hid L3.out.ca.ok
        clear hp hL4 L3 h3
        generalize s.step (S k) = sv
        go_wp2_with fail
        refine (rate_l w4 l T4 _ _ L4.out.ca).mono ?_
        rintro e w5 ⟨rfl, hB⟩
        have L5 := Lib.hid (L4.out.below hB)
        clear hB L4
        have hm0 : s.mo ≠ 0 := by rw [SM.out]; have := LO.out; omega
        have NX := Lib.hid (show (s.req (S k)).mo = mo ∧ (s.req (S k)).six = six ∧ (six = true → Win (s.req (S k)) (k + 1)) ∧ (six = false → (s.req (S k)).rate = r0) from
          ⟨(req_keep s _).2.trans SM.out, (req_keep s _).1.trans S6.out, fun h => (req_win OK.out (S6.out.trans h) hm0 (SW.out h) _).1, fun h => (req_rate5 (S6.out.trans h) _).trans (SR.out h)⟩)
        have RW := Lib.hid (show six = true → ((k + 1) % mo ≠ 0 → (s.req (S k)).rate = bf) ∧ (k + 1 = mo → (s.req (S k)).rate = bf) ∧ ((k + 1) / mo < 11 → bf - bf / 4 ≤ (s.req (S k)).rate ∧ (s.req (S k)).rate ≤ bf + bf / 4) from fun h => by
          have := (req_win OK.out (S6.out.trans h) hm0 (SW.out h) (S k)).2
          rw [SM.out, ← HBF.out] at this
          exact this)
        have RF := Lib.hid (show six = false → bf = r0 ∧ (s.req (S k)).rate = r0 from fun h => ⟨by rw [HBF.out]; exact SR.out h, NX.out.2.2.2 h⟩)
        have hbl : bf ≤ 4611686018427387904 := by rw [HBF.out]; exact OK.out.rh
        clear OK SM S6 SW SR HBF hm0
        generalize s.req (S k) = s2 at *
        obtain ⟨rr, hrr⟩ : ∃ r, r = s2.rate := ⟨_, rfl⟩
        rw [← hrr] at RW RF ⊢
        have hmp := LO.out
        have hm1000 := HM.out
        have e5 : ((mo : Int) == 0) = false := by simp; omega
        have e6 : (mo == 0) = false := by simp; omega
        have e7 : (mo : Int) ≠ 0 := by omega
        obtain ⟨j, hj⟩ : ∃ j, j = (k + 1) % mo := ⟨_, rfl⟩
        obtain ⟨q, hq⟩ : ∃ q, q = (k + 1) / mo := ⟨_, rfl⟩
        have hjm : j < mo := by rw [hj]; exact Nat.mod_lt _ (by omega)
        have hqk : q ≤ k + 1 := by rw [hq]; exact Nat.div_le_self _ _
        have e8 : IntKind.i64.wrap ((k : Int) + 1) = (k : Int) + 1 := IntWalk.i64_in _ (by omega)
        have e9 : ((k : Int) + 1).tmod (mo : Int) = (j : Int) := by rw [hj, Int.tmod_eq_emod_of_nonneg (by omega)]; rfl
        have e10 : IntKind.i64.wrap (j : Int) = (j : Int) := IntWalk.i64_in _ (by omega)
        have e11 : ((k : Int) + 1).tdiv (mo : Int) = (q : Int) := by rw [hq, Int.tdiv_eq_ediv_of_nonneg (by omega)]; rfl
        have e12 : IntKind.i64.wrap (q : Int) = (q : Int) := IntWalk.i64_in _ (by omega)
        rw [← hj, ← hq] at RW
        have hjk : k + 1 = mo → j = 0 := fun h => by rw [hj, h]; exact Nat.mod_self _
        obtain ⟨q4, hq4⟩ : ∃ q4 : Nat, q4 = bf / 4 := ⟨_, rfl⟩
        rw [← hq4] at RW
        have hq1 : (bf : Int) / 4 = (q4 : Int) := by omega
        have hw0 : IntKind.u64.wrap (q4 : Int) = (q4 : Int) := IntWalk.u64_in _ (by omega)
        have hw1 : IntKind.u64.wrap ((bf : Int) - (q4 : Int)) = (bf : Int) - (q4 : Int) := IntWalk.u64_in _ (by omega)
        have hw2 : IntKind.u64.wrap ((bf : Int) + (q4 : Int)) = (bf : Int) + (q4 : Int) := IntWalk.u64_in _ (by omega)
        have HQ := Lib.hid hq4
        have FIN := Lib.hid (show k + 1 ≤ n ∧ LL w w5 l T4 s2 (4 * (k + 1)) ∧ s2.mo = mo ∧ s2.six = six ∧ (six = true → Win s2 (k + 1)) ∧ (six = false → s2.rate = r0) from ⟨by omega, L5.out, NX.out⟩)
        have rk : (j = 0 ∧ k + 1 = mo) ∨ (j = 0 ∧ k + 1 ≠ mo) ∨ (j ≠ 0 ∧ k + 1 ≠ mo) := by omega
        have RK := Lib.hid rk
        have QK := Lib.hid (show q < 11 ∨ ¬ q < 11 from by omega)
        have SAME := Lib.hid (show (six = false ∨ j ≠ 0 ∨ k + 1 = mo) → rr = bf from fun h => by
          cases hs : six with
          | false => exact (RF.out hs).2.trans (RF.out hs).1.symm
          | true => rcases h with h | h | h
                    · rw [hs] at h; cases h
                    · exact (RW.out hs).1 h
                    · exact (RW.out hs).2.1 h)
        have INN := Lib.hid (show q < 11 → bf - q4 ≤ rr ∧ rr ≤ bf + q4 from fun h => by
          cases hs : six with
          | false => have := (RF.out hs).2.trans (RF.out hs).1.symm; omega
          | true => exact (RW.out hs).2.2 h)
        have NS := Lib.hid (show six = false → rr = r0 from fun h => (RF.out h).2)
        clear RW RF NX L5 hj hq hqk hjk rk hrr hq4 hjm
        clear hbl
        have z1 : ((rr : Int) == (rr : Int)) = true := by simp
        rcases K56.out with ⟨hkd, hsx⟩ | ⟨hkd, hsx⟩ <;> rcases RK.out with ⟨hj, hkm⟩ | ⟨hj, hkm⟩ | ⟨hj, hkm⟩ <;> rcases QK.out with hq | hq
        all_goals
          have f1 : ((j : Int) == 0) = decide (j = 0) := by by_cases h : j = 0 <;> simp [h]
          have f2 : (((k : Int) + 1) == (mo : Int)) = decide (k + 1 = mo) := by rw [Bool.eq_iff_iff]; simp; omega
          have f3 : (k + 1 == mo) = decide (k + 1 = mo) := by rw [Bool.eq_iff_iff]; simp
          have f5 : decide ((q : Int) < 11) = decide (q < 11) := by rw [Bool.eq_iff_iff]; simp; omega
          have f4 : decide (q < 11) = decide (q < 11) := rfl
          first | rw [decide_eq_true hj] at f1 | rw [decide_eq_false hj] at f1
          first | rw [decide_eq_true hkm] at f2 f3 | rw [decide_eq_false hkm] at f2 f3
          first | rw [decide_eq_true hq] at f5 | rw [decide_eq_false hq] at f5
          first | (have f4 : decide (q < 11) = true := decide_eq_true hq) | (have f4 : decide (q < 11) = false := decide_eq_false hq)
          have f6 : q < 11 → decide (bf + q4 < rr) = false := fun h => decide_eq_false (by have := INN.out h; omega)
          have f7 : q < 11 → decide ((bf : Int) + (q4 : Int) < (rr : Int)) = false := fun h => decide_eq_false (by have := INN.out h; omega)
          have f8 : q < 11 → decide ((rr : Int) < (bf : Int) - (q4 : Int)) = false := fun h => decide_eq_false (by have := INN.out h; have := HQ.out; omega)
          try
            replace f6 := f6 hq
            replace f7 := f7 hq
            replace f8 := f8 hq
          have HJ := Lib.hid hj
          have HKM := Lib.hid hkm
          have HQQ := Lib.hid hq
          clear hj hkm hq
          subst hkd
          try
            have hs1 := NS.out hsx
            have hs2 := SAME.out (Or.inl hsx)
            subst hs1
            subst hs2
          try
            have hs2 := SAME.out (Or.inr (Or.inl HJ.out))
            subst hs2
          try
            have hs2 := SAME.out (Or.inr (Or.inr HKM.out))
            subst hs2
          go_wp2_with fail
          go_roundw
          case rel => exact ⟨k + 1, T4, s2, by go_num, FIN.out⟩
          case measure => simp [intOf]; omega
      · have e1 : decide (200 < ((S k).size : Int)) = true := decide_eq_true (by omega)
        go_wp2_with fail
        go_ret
        exact ⟨rfl, HL.out.bel⟩
    · have e0 : decide (k < n) = false := by simpa using hlt
      go_wp2_with fail
      go_ret
      exact ⟨rfl, HL.out.bel⟩
end Go.Proofs.YtnlckkahkghneaaGreatDoor.LE
namespace Go.Proofs.YtnlckkahkghneaaGreatDoor
open Go.ChangeShapes Go.WideShapes Go.ChangeAt Go.RowKit Sg
open Go.ChangeMaps (open_string shut_string)
theorem walk_learnRates (a0 : Int) (a1 : Int) (v2 : Value) (v3 : Value) (w : World) (w0 : (Lit.int .i64 a0).wf = true) (w1 : (Lit.int .i64 a1).wf = true) (wr : CameR w v2) (wk : CameS w v3) (hl : Laid w) : Calls Tryz.prog 7 #[.int .i64 a0, .int .i64 a1, v2, v3] w (LE.RetB true w) := by
  obtain ⟨A, n, c, rfl, hn, S, hr, hc⟩ := wk
  obtain ⟨Al, nl, cl, rfl, hnl, vs, hvs⟩ := pick_lane wr
  have hz0 := i64_rng w0
  have hz1 := i64_rng w1
  by_cases hok : ¬ 200 < (n : Int) ∧ ¬ 300 < (nl : Int) ∧ ¬ a0 < 5 ∧ ¬ 6 < a0 ∧ ¬ a1 < 1 ∧ ¬ 1000 < a1
  · obtain ⟨q0, q1, q2, q3, q4, q5⟩ := hok
    obtain ⟨mo, rfl⟩ : ∃ m : Nat, a1 = (m : Int) := ⟨a1.toNat, by omega⟩
    obtain ⟨six, hsix⟩ := LE.kd_six (a := a0) (by omega)
    obtain ⟨hv1, hv2⟩ := hvs (by omega)
    subst hv1
    exact LE.learnRates_main six a0 mo vs Al cl A n c w S hsix (by omega) (by omega) (by omega) (by omega) hv2 ⟨hr, hc⟩ hl
  · have PW := Lib.hid (show (decide (200 < (n : Int)) = true) ∨ (decide (200 < (n : Int)) = false ∧ decide (300 < (nl : Int)) = true) ∨ (decide (200 < (n : Int)) = false ∧ decide (300 < (nl : Int)) = false ∧ decide (a0 < 5) = true) ∨ (decide (200 < (n : Int)) = false ∧ decide (300 < (nl : Int)) = false ∧ decide (a0 < 5) = false ∧ decide (6 < a0) = true) ∨ (decide (200 < (n : Int)) = false ∧ decide (300 < (nl : Int)) = false ∧ decide (a0 < 5) = false ∧ decide (6 < a0) = false ∧ decide (a1 < 1) = true) ∨ (decide (200 < (n : Int)) = false ∧ decide (300 < (nl : Int)) = false ∧ decide (a0 < 5) = false ∧ decide (6 < a0) = false ∧ decide (a1 < 1) = false ∧ decide (1000 < a1) = true) from by
      simp only [decide_eq_true_eq, decide_eq_false_iff_not]; omega)
    have AW := Lib.hid (LE.awake_any w hl)
    unfold maxLen at hn hnl
    clear hr hc hok hl w0 hz0 w1 hz1 hvs wr
    rcases PW.out with e0 | ⟨e0, e1⟩ | ⟨e0, e1, e2⟩ | ⟨e0, e1, e2, e3⟩ | ⟨e0, e1, e2, e3, e4⟩ | ⟨e0, e1, e2, e3, e4, e5⟩
    all_goals
      clear PW
      go_enter Tryz.func7, Tryz.ntmps7
      go_wp2_with fail
      refine AW.out.mono ?_
      rintro e w0 ⟨rfl, hb0⟩
      go_wp2_with fail
      go_ret
      exact ⟨rfl, hb0⟩

namespace LLearnRates
set_option maxRecDepth 100000 in
theorem lifted (os : Os) (started : os.Started) (H : Type) (enc : TypeId × Value → H) :
    ReturnsInHanded {} Tryz.checked os 7 .any (fun w args => (Rows.learnRatesSpec.pre enc Tryz.prog Tryz.f7 [] false w args ∧ laidMetH Tryz.prog seatLaid w) ∧ sizedMet enc Tryz.prog Tryz.f7 (OpenSpec.ofChange Rows.learnRatesSpec) false w args)
      (Rows.learnRatesSpec.post enc Tryz.prog Tryz.f7 false true false false) := by
  refine returnsInHanded_of_change_and (C := Tryz.checked) (X := fun w _ => laidMetH Tryz.prog seatLaid w) (fun _ _ _ hh h => h.of_heap hh) own started (by kernel_rfl) Tryz.func7
    (ChangeSpec.witness_at (enc := enc) (C := Tryz.checked) (os := os) (X := fun w _ => laidMetH Tryz.prog seatLaid w) false (laidWorld os) #[.int .i64 0, .int .i64 0, .slice none 0 0, .slice none 0 0] 8 rfl (by kernel_rfl) (by kernel_rfl) (by kernel_rfl) (by kernel_rfl) (by kernel_rfl) (laidWorld_met os _)) ?_
  intro W base args ds gs before hval0 hW _ _ hL _
  have hval : ∀ (j : Nat) t v, Tryz.f7.params[j]? = some t → args[j]? = some v → Value.okWide Tryz.prog W .any base t v := hval0
  have hW' := hW
  obtain ⟨p, q, hA0, hV, rfl, hfz, hnd⟩ := hW
  have hA : DataW.TrodAll enc Tryz.prog W 0 (fun _ => true) true Tryz.f7.params.toList args.toList ds p := hA0
  rw [Tryz.params7] at hA hval
  obtain ⟨v0, vs0, d0, ds0, p0, q0, hargs, rfl, rfl, h0, r0⟩ := trodAll_cons hA
  obtain ⟨v1, vs1, d1, ds1, p1, q1, rfl, rfl, rfl, h1, r1⟩ := trodAll_cons r0
  obtain ⟨v2, vs2, d2, ds2, p2, q2, rfl, rfl, rfl, h2, r2⟩ := trodAll_cons r1
  obtain ⟨v3, vs3, d3, ds3, p3, q3, rfl, rfl, rfl, h3, r3⟩ := trodAll_cons r2
  obtain ⟨rfl, rfl, rfl⟩ := trodAll_nil r3
  obtain rfl : args = #[v0, v1, v2, v3] := by cases args; simp_all
  obtain ⟨rfl, rfl⟩ := trodVars_none hV
  obtain ⟨a0, rfl, rfl, rfl, w0⟩ := open_int Tryz.underlying3 (hval 0 3 v0 rfl rfl) h0
  obtain ⟨a1, rfl, rfl, rfl, w1⟩ := open_int Tryz.underlying3 (hval 1 3 v1 rfl rfl) h1
  have k2 := h2
  have lt2 : ∀ x ∈ p2, x.block < W.heap.size := by obtain ⟨m, hm⟩ := k2; exact DataW.trod_lt m _ _ _ hm
  have w2 := open_r (hval 2 22 v2 rfl rfl) h2
  have k3 := h3
  have lt3 : ∀ x ∈ p3, x.block < W.heap.size := by obtain ⟨m, hm⟩ := k3; exact DataW.trod_lt m _ _ _ hm
  have w3 := open_z (hval 3 33 v3 rfl rfl) h3
  clear hA0 hval0
  refine (walk_learnRates a0 a1 v2 v3 W w0 w1 w2 w3 (laid_of hL)).mono fun e W' ⟨he, bel⟩ => ?_
  subst he
  exact ⟨_, rfl, _, _, _, [], _, [], hW', trodAll_mk1 (shut_bool Tryz.underlying4 _), (trodAll_cons_mk (shut_int Tryz.underlying3 w0) (trodAll_cons_mk (shut_int Tryz.underlying3 w1) (trodAll_cons_mk (Below.trod laidOut (by kernel_rfl) (of_decide_eq_true (by kernel_rfl)) k2 bel lt2) (trodAll_cons_mk (Below.trod laidOut (by kernel_rfl) (of_decide_eq_true (by kernel_rfl)) k3 bel lt3) trodAll_mk0)))), rfl, bel.frame _, fun h => by cases h⟩

theorem band {x y : Bool} (h : x = true) (k : y = true) : (x && y) = true := by rw [h, k]; rfl
set_option maxRecDepth 100000
theorem cj0 : (Rows.learnRatesRow.wf (OpenSpec.ofChange Rows.learnRatesSpec)) = true := by kernel_rfl
theorem cj1 : (laidOutB Tryz.pinned.checked.prog) = true := by kernel_rfl
theorem cj2 : (mapsRowed Tryz.pinned.checked.prog) = true := by kernel_rfl
theorem cj9 : (Rows.learnRatesRow.inPlace == Tryz.pinned.checked.prog.inPlace 7) = true := by kernel_rfl
theorem cj10 : (Rows.learnRatesRow.unfollowed == Tryz.pinned.checked.prog.unfollowed 7) = true := by kernel_rfl
theorem cj11 : (Rows.learnRatesRow.recurses == Tryz.pinned.checked.prog.recurses 7) = true := by kernel_rfl
theorem cj12 : (Rows.learnRatesRow.named == Tryz.pinned.checked.prog.varsNamed 7) = true := by kernel_rfl
theorem cj22 : (Rows.learnRatesRow.plainKeys == Tryz.pinned.checked.prog.plainKeys) = true := by kernel_rfl
theorem cj24 : (Tryz.pinned.checked.prog.stopsHeard) = true := by kernel_rfl
theorem cj25 : (Tryz.pinned.checked.prog.mayEnter) = true := by kernel_rfl
theorem cj26 : (Rows.learnRatesRow.lifted == Tryz.pinned.checked.prog.liftsFinal) = true := by kernel_rfl
theorem cj27 : (Tryz.pinned.checked.prog.make == some Rows.learnRatesRow.make) = true := by kernel_rfl
theorem closed : joinedFacts Tryz.pinned.checked.prog 7 Tryz.f7 Rows.learnRatesSpec Rows.learnRatesRow = true := by
  unfold joinedFacts
  exact band (band (band (band (band (band (band (band (band (band (band (band (band (band (band (band (band (band (band (band (band (band (band (band (band (band (band (band (band (band (band (cj0) cj1) cj2) (by kernel_rfl)) (by kernel_rfl)) (by kernel_rfl)) (by kernel_rfl)) (by kernel_rfl)) (by kernel_rfl)) cj9) cj10) cj11) cj12) (by kernel_rfl)) (by kernel_rfl)) (by kernel_rfl)) (by kernel_rfl)) (by kernel_rfl)) (by kernel_rfl)) (by kernel_rfl)) (by kernel_rfl)) (by kernel_rfl)) cj22) (by kernel_rfl)) cj24) cj25) cj26) cj27) (by kernel_rfl)) (by kernel_rfl)) (by kernel_rfl)) (by kernel_rfl)
theorem fnm : Tryz.pinned.checked.prog.funcNamed "cachewise/cachewiselaw10.LearnRates" = some 7 := by kernel_rfl
theorem isIn : Tryz.f7.isInstance Tryz.pinned.checked.prog Rows.learnRatesRow.origin Rows.learnRatesRow.targs := of_decide_eq_true (by kernel_rfl)
theorem isWr : Tryz.f7.isWrapper Tryz.pinned.checked.prog Rows.learnRatesRow.wrapper Rows.learnRatesRow.mainSum := by unfold Func.isWrapper; rw [if_neg (of_decide_eq_false (by kernel_rfl))]; exact ⟨rfl, rfl⟩
theorem said : Rows.LearnRatesSaid :=
  OpenClaim.holds_of_wide 7 Tryz.f7 rfl rfl rfl rfl rfl rfl rfl ⟨rfl, rfl, rfl, rfl, rfl⟩ rfl rfl rfl rfl rfl fnm Tryz.func7 closed isIn isWr
    (fun os started H enc _ => lifted os started H enc)

theorem hwT : Rows.learnRatesRow.wfByText (OpenSpec.ofChange Rows.learnRatesSpec) = true := by kernel_rfl
theorem mnI : Tryz.pinned.checked.prog.mainIs = some (Rows.learnRatesCard.stood.harness.1, Rows.learnRatesCard.stood.harness.2.toList) := by kernel_rfl
theorem lkT : Rows.learnRatesCard.stood.looks = Tryz.pinned.checked.prog.looks [] := by kernel_rfl
theorem gsB : false = Rows.learnRatesRow.goesBy Tryz.pinned.checked.prog := by kernel_rfl
theorem sii : Tryz.prog.wantsStandIn 3 = false := by kernel_rfl
theorem sir : Tryz.prog.wantsStandIn 22 = false := by kernel_rfl
theorem siz : Tryz.prog.wantsStandIn 33 = false := by kernel_rfl
theorem card : Rows.LearnRatesCardSaid :=
  Claim7.holds_tied_plain_at .later [] _ _ _ _ said (fun _ h => by cases h) hwT (fun _ h => by cases h) learnRates_row_tie rfl ⟨rfl, rfl⟩ mnI rfl
    (fun f fn hf hfn => by
      obtain rfl : f = 7 := Option.some.inj (fnm.symm.trans hf) |>.symm
      obtain rfl : fn = Tryz.f7 := (Option.some.inj (Tryz.func7.symm.trans hfn)).symm
      refine ⟨lkT, fun j t ht => ?_⟩
      rw [Tryz.params7] at ht
      rcases j with _ | _ | _ | _ | j
      · obtain rfl : t = 3 := by simpa using ht.symm
        exact sii
      · obtain rfl : t = 3 := by simpa using ht.symm
        exact sii
      · obtain rfl : t = 22 := by simpa using ht.symm
        exact sir
      · obtain rfl : t = 33 := by simpa using ht.symm
        exact siz
      · simp at ht)
    gsB
#print axioms card
end LLearnRates
end Go.Proofs.YtnlckkahkghneaaGreatDoor
