/- 'cachewiselaw10.LearnOnce' returns true for every kind, every size, every lane and every row of keys, and leaves what was there as it was. The listed variables read as the program's text lays them. -/
import Derived.Test.YtnlckkahkghneaaGreatDoorOn10
import Derived.Test.YtnlckkahkghneaaGreatDoorCards
import Derived.Test.YtnlckkahkghneaaGreatDoorTie
import Derived.SevenTiedAt
import Derived.Deep.DeepCutAuto
import Derived.Deep.CutBlock

set_option maxRecDepth 20000
namespace Go.Proofs.YtnlckkahkghneaaGreatDoor.LE
open Go.ChangeShapes Go.WideShapes Go.ChangeAt Go.RowKit Sg

def OnR (w0 : World) (l mo n : Nat) (v i : Value) (W : World) : Prop := ∃ (k : Nat) (T : Nat → Prop) (s : St) (xs : List ByteArray), i = .int .i64 (k : Int) ∧ k ≤ n ∧ xs.length ≤ k ∧ LR2 w0 W l T s (4 * k) v xs ∧ On s mo xs
set_option maxHeartbeats 4000000 in
set_option maxRecDepth 100000 in
theorem learnOnce_main (six : Bool) (kd : Int) (mo : Nat) (vs : List Nat) (Al : Option Addr) (cl : Nat) (A : Option Addr) (n cc : Nat) (w : World) (S : Nat → ByteArray) (hkd : ((if six then 6 else 5 : Nat) : Int) = kd) (hlo : 1 ≤ mo) (hmo : mo ≤ 1000) (hn : n ≤ 200) (hvl : vs.length ≤ 300)
    (hv : DR.Lane w 0 w.heap.size (.slice Al vs.length cl) vs) (hk : KRow w A n cc S) (hl : Laid w) :
    Calls Tryz.prog 10 #[.int .i64 kd, .int .i64 (mo : Int), .slice Al vs.length cl, .slice A n cc] w (RetB true w) := by
  have AW := Lib.hid (awake_any w hl)
  have MD := Lib.hid (fun (w1 : World) (hb : Below w.heap.size w w1) => show Calls Tryz.prog 41 #[.int .i64 kd, .int .i64 (mo : Int), .slice Al vs.length cl] w1 (LNew six mo vs w1) from by
    have := made_l w1 six mo _ vs (by omega) (DR.Lane.wide (hv.same fun k _ hk => hb.block k hk) (Nat.le_refl _) hb.size)
    rw [hkd] at this
    exact this)
  have hk56 : kd = 5 ∧ six = false ∨ kd = 6 ∧ six = true := by
    cases six with
    | true => exact Or.inr ⟨by rw [← hkd]; rfl, rfl⟩
    | false => exact Or.inl ⟨by rw [← hkd]; rfl, rfl⟩
  have g0 : decide (200 < (n : Int)) = false := decide_eq_false (by omega)
  have g1 : decide (300 < (vs.length : Int)) = false := decide_eq_false (by omega)
  have g2 : decide (kd < 5) = false := decide_eq_false (by omega)
  have g3 : decide (6 < kd) = false := decide_eq_false (by omega)
  have g4 : decide ((mo : Int) < 1) = false := decide_eq_false (by omega)
  have g5 : decide (1000 < (mo : Int)) = false := decide_eq_false (by omega)
  have KR := Lib.hid hk
  have LO := Lib.hid hlo
  have HM := Lib.hid hmo
  have HN := Lib.hid hn
  generalize hvn : vs.length = vn at *
  clear hk hl hv hkd hk56 hlo hvn
  go_enter Tryz.func10, Tryz.ntmps10
  go_wp2_with fail
  refine AW.out.mono ?_
  rintro e w0 ⟨rfl, hb0⟩
  have b0 := Lib.hid hb0; clear hb0
  go_wp2_with fail
  refine (MD.out w0 b0.out).mono ?_
  rintro e w1 ⟨l, T, rfl, hC, hT, hB⟩
  have L1 := Lib.hid (LL.made b0.out hC hT hB)
  clear hC hT hB b0 MD AW
  go_wp2_with fail
  clear g0 g1 g2 g3 g4 g5
  go_loopw [10, 11] (fun v i W => OnR w l mo n v i W) (fun _ i _ => n - (intOf i).toNat)
  case atStart => exact ⟨0, T, St.start six mo vs, [], rfl, Nat.zero_le _, Nat.le_refl _, ⟨L1.out, Own.nil _ _, fun g hg => (by cases hg)⟩, On.start six mo vs⟩
  case round =>
    obtain ⟨k, T, s, xs, rfl, hk, hxk, hL, hI⟩ := hrel
    have HL := Lib.hid hL
    have HI := Lib.hid hI
    obtain ⟨Av, cv, rfl⟩ := hL.own.len
    obtain ⟨gr, hR⟩ := hL.rowOf
    clear hL hI L1
    have hn2 := HN.out
    by_cases hlt : k < n
    · have e0 : decide (k < n) = true := by simpa using hlt
      obtain ⟨g, o, rfl, hg, hc1, hc2, hcell⟩ := KR.out.2 (by omega)
      have h1 := (HL.out.lv.bel.cell (p := ⟨g, o + k, none⟩) hg).trans (hcell k hlt)
      have hsk := KR.out.1 k hlt
      have HCELL := Lib.hid (hcell k hlt)
      have HSK := Lib.hid hsk
      clear hcell
      unfold maxLen at hc2 hsk
      have U := refHas_any wr gr _ _ (S k) hR
      by_cases hbig : (S k).size ≤ 200
      · have e1 : decide (200 < ((S k).size : Int)) = false := decide_eq_false (by omega)
        cases hin : inn xs (S k) with
        | true =>
          rw [hin] at U
          have U := Lib.hid U
          clear hin hR
          go_wp2_with fail
          refine U.out.mono ?_
          rintro e wr ⟨rfl, rfl⟩
          have L2 := Lib.hid (show LR2 w wr l T s (4 * (k + 1)) _ xs from ⟨⟨HL.out.lv.ca.mono (by omega), HL.out.lv.bel, HL.out.lv.low⟩, HL.out.own, HL.out.out⟩)
          go_wp2_with fail
          go_roundw
          case rel => exact ⟨k + 1, T, s, xs, by go_num, by omega, by omega, L2.out, HI.out⟩
          case measure => simp [intOf]; omega
        | false =>
          rw [hin] at U
          have U := Lib.hid U
          obtain ⟨A2, c2, w2, hrun, hL2⟩ := HL.out.app (S k) HSK.out (by omega)
          obtain ⟨xl, hxl⟩ : ∃ m, m = xs.length + 1 := ⟨_, rfl⟩
          rw [← hxl] at hrun hL2
          have RUN := Lib.hid hrun
          have L2 := Lib.hid hL2
          have h2 := (hL2.lv.bel.cell (p := ⟨g, o + k, none⟩) hg).trans HCELL.out
          have hm1 := LO.out
          obtain ⟨q1, q2, q3⟩ := On.req hL2.lv.ca.ok HI.out hm1 (inn_no.1 hin)
          have Q3 := Lib.hid q3
          have R := request_l w2 l T s _ hL2.lv.ca (S k) HSK.out (by omega)
          unfold St.step at R
          rw [q1, q2, ← hxl] at R
          have hxl2 : (xs ++ [S k]).length = xl := by rw [List.length_append, hxl]; rfl
          have HXL := Lib.hid hxl
          have HXL2 := Lib.hid hxl2
          generalize s.vicV (S k) = vk at R
          have R := Lib.hid R
          clear hin hR hrun hL2 q1 q2 q3 hxl hxl2
          go_wp2_with fail
          refine U.out.mono ?_
          rintro e wr ⟨rfl, rfl⟩
          go_wp2_with (at_builtin; refine wpList_append_run rfl _ _ _ rfl _ _ _ _ rfl rfl RUN.out ?_)
          refine R.out.mono ?_
          intro e w3 hp
          obtain ⟨rfl, T3, hL3, _⟩ := L2.out.op hp
          have L4 := Lib.hid (show LR2 w _ l T3 (s.req (S k)) (4 * (k + 1)) _ (xs ++ [S k]) from hL3.below ((Below.refl w3.heap.size w3).alloc (Nat.le_refl _) (.cells #[.bool false, .string vk, .bool (decide (mo < xl))] 57)))
          have B4 := Lib.hid (show LR.Box (w3.alloc (.cells #[.bool false, .string vk, .bool (decide (mo < xl))] 57)) w3.heap.size false vk (decide (mo < xl)) from heap_alloc_new _ _)
          clear hp hL3 R L2 U RUN h1 h2 HL HI
          go_upto_region 17 with fail
          generalize w3.alloc (.cells #[.bool false, .string vk, .bool (decide (mo < xl))] 57) = w4 at L4 B4 ⊢
          generalize w3.heap.size = sb at B4 ⊢
          generalize s.req (S k) = s2 at *
          obtain ⟨b1, _, b3, _, _⟩ := B4.out.cells
          obtain ⟨kl, hkl⟩ : ∃ m, m = s2.keys.length := ⟨_, rfl⟩
          obtain ⟨gl, hgl⟩ : ∃ m, m = s2.ghosts.length := ⟨_, rfl⟩
          have j1 := Q3.out.len
          have j2 := Q3.out.glo
          have j3 := Q3.out.ghi
          rw [HXL2.out, ← hkl] at j1
          rw [HXL2.out, ← hkl, ← hgl] at j2 j3
          have HKL := Lib.hid hkl
          have HGL := Lib.hid hgl.symm
          obtain ⟨d, hd⟩ : ∃ d, d = xl - kl := ⟨_, rfl⟩
          obtain ⟨m, hm⟩ : ∃ m, m = min mo d := ⟨_, rfl⟩
          have hxx := HXL.out
          have hmm := HM.out
          have hw1 : IntKind.i64.wrap ((xl : Int) - (kl : Int)) = (d : Int) := by rw [IntWalk.i64_in _ (by omega)]; omega
          have hw2 : min (mo : Int) (d : Int) = (m : Int) := by omega
          have f1 : decide ((d : Int) < (gl : Int)) = false := decide_eq_false (by omega)
          have f2 : decide (d < gl) = false := decide_eq_false (by omega)
          have f3 : decide ((gl : Int) < (m : Int)) = false := decide_eq_false (by omega)
          have f4 : decide (gl < m) = false := decide_eq_false (by omega)
          have hglb : gl ≤ 2000 := by omega
          have hxlb : xl ≤ 300 := by omega
          have VL := Lib.hid (show ∀ W, Below w4.heap.size w4 W → Calls Tryz.prog 33 #[.pointer (some ⟨l, 0, none⟩)] W (Told (.int .i64 (kl : Int)) W) from fun W hB => by
            have := len_l W l T3 s2 _ (L4.out.below hB).lv.ca
            rw [← HKL.out] at this
            exact this)
          have VW := Lib.hid (show ∀ W, Below w4.heap.size w4 W → Calls Tryz.prog 39 #[.pointer (some ⟨l, 0, none⟩)] W (Told (.int .u64 2305843009213693952) W) from fun W hB => by
            have := weight_l W l T3 s2 _ (L4.out.below hB).lv.ca
            rw [Q3.out.w] at this
            exact this)
          have VG := Lib.hid (fun (W : World) (hB : Below w4.heap.size w4 W) => ghosts_l W l T3 s2 _ (L4.out.below hB).lv.ca)
          have B0 := Lib.hid (Below.refl w4.heap.size w4)
          clear hkl hgl hd hm j1 j2 j3 hxx hmm
          have ho : mo < xl ∨ ¬ mo < xl := by omega
          have HO := Lib.hid ho
          clear ho
          have e5 : decide (mo < xl) = decide ((mo : Int) < (xl : Int)) := by rw [Bool.eq_iff_iff]; simp
          rcases HO.out with ho | ho
          all_goals
            first
            | have e6 : decide (mo < xl) = true := decide_eq_true ho
            | have e6 : decide (mo < xl) = false := decide_eq_false ho
            have e7 := e5.symm.trans e6
            rw [e6] at b3
            clear e5 ho
            go_wp2_with fail
            refine (VW.out _ B0.out).mono ?_
            rintro e w5 ⟨rfl, hB⟩
            have B1 := Lib.hid (B0.out.trans (hB.mono B0.out.size))
            clear hB b1 b3
            go_wp2_with fail
            refine (VG.out _ B1.out).mono ?_
            rintro e w6 ⟨v6, rfl, hO, hB⟩
            obtain ⟨A6, c6, rfl⟩ := hO.len
            have B2 := Lib.hid (B1.out.trans (hB.mono B1.out.size))
            clear hB hO
            rw [HGL.out]
            go_wp2_with fail
            refine (VL.out _ B2.out).mono ?_
            rintro e w7 ⟨rfl, hB⟩
            have B3 := Lib.hid (B2.out.trans (hB.mono B2.out.size))
            clear hB
            go_wp2_with fail
            refine (VG.out _ B3.out).mono ?_
            rintro e w8 ⟨v8, rfl, hO, hB⟩
            obtain ⟨A8, c8, rfl⟩ := hO.len
            have B5 := Lib.hid (B3.out.trans (hB.mono B3.out.size))
            clear hB hO
            rw [HGL.out]
            go_wp2_with fail
            refine (VL.out _ B5.out).mono ?_
            rintro e w9 ⟨rfl, hB⟩
            have B6 := Lib.hid (B5.out.trans (hB.mono B5.out.size))
            have L9 := Lib.hid (L4.out.below B6.out)
            clear hB
            go_wp2_with fail
            go_roundw
            case rel => exact ⟨k + 1, T3, s2, xs ++ [S k], by go_num, by omega, by rw [HXL2.out, HXL.out]; omega, L9.out, Q3.out⟩
            case measure => simp [intOf]; omega
      · have e1 : decide (200 < ((S k).size : Int)) = true := decide_eq_true (by omega)
        go_wp2_with fail
        go_ret
        exact ⟨rfl, HL.out.lv.bel⟩
    · have e0 : decide (k < n) = false := by simpa using hlt
      obtain ⟨kl, hkl⟩ : ∃ m, m = s.keys.length := ⟨_, rfl⟩
      obtain ⟨xl, hxl⟩ : ∃ m, m = xs.length := ⟨_, rfl⟩
      have j1 := HI.out.len
      rw [← hkl, ← hxl] at j1
      have hw2 : min (mo : Int) (xl : Int) = (kl : Int) := by omega
      have VL := len_l wr l T s _ HL.out.lv.ca
      rw [← hkl] at VL
      have VL := Lib.hid VL
      have z1 : ((kl : Int) == (kl : Int)) = true := by simp
      rw [← hxl]
      clear hkl hxl j1 hR
      go_wp2_with fail
      refine VL.out.mono ?_
      rintro e w2 ⟨rfl, hB⟩
      have L2 := Lib.hid (HL.out.lv.below hB)
      clear hB
      go_wp2_with fail
      go_ret
      exact ⟨rfl, L2.out.bel⟩
end Go.Proofs.YtnlckkahkghneaaGreatDoor.LE
namespace Go.Proofs.YtnlckkahkghneaaGreatDoor
open Go.ChangeShapes Go.WideShapes Go.ChangeAt Go.RowKit Sg
open Go.ChangeMaps (open_string shut_string)
theorem walk_learnOnce (a0 : Int) (a1 : Int) (v2 : Value) (v3 : Value) (w : World) (w0 : (Lit.int .i64 a0).wf = true) (w1 : (Lit.int .i64 a1).wf = true) (wr : CameR w v2) (wk : CameS w v3) (hl : Laid w) : Calls Tryz.prog 10 #[.int .i64 a0, .int .i64 a1, v2, v3] w (LE.RetB true w) := by
  obtain ⟨A, n, c, rfl, hn, S, hr, hc⟩ := wk
  obtain ⟨Al, nl, cl, rfl, hnl, vs, hvs⟩ := pick_lane wr
  have hz0 := i64_rng w0
  have hz1 := i64_rng w1
  by_cases hok : ¬ 200 < (n : Int) ∧ ¬ 300 < (nl : Int) ∧ ¬ a0 < 5 ∧ ¬ 6 < a0 ∧ ¬ a1 < 1 ∧ ¬ 1000 < a1
  · obtain ⟨q0, q1, q2, q3, q4, q5⟩ := hok
    obtain ⟨mo, rfl⟩ : ∃ m : Nat, a1 = (m : Int) := ⟨a1.toNat, by omega⟩
    obtain ⟨six, hsix⟩ := LE.kd_six (a := a0) (by omega)
    obtain ⟨hv1, hv2⟩ := hvs (by omega)
    subst hv1
    exact LE.learnOnce_main six a0 mo vs Al cl A n c w S hsix (by omega) (by omega) (by omega) (by omega) hv2 ⟨hr, hc⟩ hl
  · have PW := Lib.hid (show (decide (200 < (n : Int)) = true) ∨ (decide (200 < (n : Int)) = false ∧ decide (300 < (nl : Int)) = true) ∨ (decide (200 < (n : Int)) = false ∧ decide (300 < (nl : Int)) = false ∧ decide (a0 < 5) = true) ∨ (decide (200 < (n : Int)) = false ∧ decide (300 < (nl : Int)) = false ∧ decide (a0 < 5) = false ∧ decide (6 < a0) = true) ∨ (decide (200 < (n : Int)) = false ∧ decide (300 < (nl : Int)) = false ∧ decide (a0 < 5) = false ∧ decide (6 < a0) = false ∧ decide (a1 < 1) = true) ∨ (decide (200 < (n : Int)) = false ∧ decide (300 < (nl : Int)) = false ∧ decide (a0 < 5) = false ∧ decide (6 < a0) = false ∧ decide (a1 < 1) = false ∧ decide (1000 < a1) = true) from by
      simp only [decide_eq_true_eq, decide_eq_false_iff_not]; omega)
    have AW := Lib.hid (LE.awake_any w hl)
    unfold maxLen at hn hnl
    clear hr hc hok hl w0 hz0 w1 hz1 hvs wr
    rcases PW.out with e0 | ⟨e0, e1⟩ | ⟨e0, e1, e2⟩ | ⟨e0, e1, e2, e3⟩ | ⟨e0, e1, e2, e3, e4⟩ | ⟨e0, e1, e2, e3, e4, e5⟩
    all_goals
      clear PW
      go_enter Tryz.func10, Tryz.ntmps10
      go_wp2_with fail
      refine AW.out.mono ?_
      rintro e w0 ⟨rfl, hb0⟩
      go_wp2_with fail
      go_ret
      exact ⟨rfl, hb0⟩

namespace LLearnOnce
set_option maxRecDepth 100000 in
theorem lifted (os : Os) (started : os.Started) (H : Type) (enc : TypeId × Value → H) :
    ReturnsInHanded {} Tryz.checked os 10 .any (fun w args => (Rows.learnOnceSpec.pre enc Tryz.prog Tryz.f10 [] false w args ∧ laidMetH Tryz.prog seatLaid w) ∧ sizedMet enc Tryz.prog Tryz.f10 (OpenSpec.ofChange Rows.learnOnceSpec) false w args)
      (Rows.learnOnceSpec.post enc Tryz.prog Tryz.f10 false true false false) := by
  refine returnsInHanded_of_change_and (C := Tryz.checked) (X := fun w _ => laidMetH Tryz.prog seatLaid w) (fun _ _ _ hh h => h.of_heap hh) own started (by kernel_rfl) Tryz.func10
    (ChangeSpec.witness_at (enc := enc) (C := Tryz.checked) (os := os) (X := fun w _ => laidMetH Tryz.prog seatLaid w) false (laidWorld os) #[.int .i64 0, .int .i64 0, .slice none 0 0, .slice none 0 0] 8 rfl (by kernel_rfl) (by kernel_rfl) (by kernel_rfl) (by kernel_rfl) (by kernel_rfl) (laidWorld_met os _)) ?_
  intro W base args ds gs before hval0 hW _ _ hL _
  have hval : ∀ (j : Nat) t v, Tryz.f10.params[j]? = some t → args[j]? = some v → Value.okWide Tryz.prog W .any base t v := hval0
  have hW' := hW
  obtain ⟨p, q, hA0, hV, rfl, hfz, hnd⟩ := hW
  have hA : DataW.TrodAll enc Tryz.prog W 0 (fun _ => true) true Tryz.f10.params.toList args.toList ds p := hA0
  rw [Tryz.params10] at hA hval
  obtain ⟨v0, vs0, d0, ds0, p0, q0, hargs, rfl, rfl, h0, r0⟩ := trodAll_cons hA
  obtain ⟨v1, vs1, d1, ds1, p1, q1, rfl, rfl, rfl, h1, r1⟩ := trodAll_cons r0
  obtain ⟨v2, vs2, d2, ds2, p2, q2, rfl, rfl, rfl, h2, r2⟩ := trodAll_cons r1
  obtain ⟨v3, vs3, d3, ds3, p3, q3, rfl, rfl, rfl, h3, r3⟩ := trodAll_cons r2
  obtain ⟨rfl, rfl, rfl⟩ := trodAll_nil r3
  obtain rfl : args = #[v0, v1, v2, v3] := by cases args; simp_all
  obtain ⟨rfl, rfl⟩ := trodVars_none hV
  obtain ⟨a0, rfl, rfl, rfl, w0⟩ := open_int Tryz.underlying3 (hval 0 3 v0 rfl rfl) h0
  obtain ⟨a1, rfl, rfl, rfl, w1⟩ := open_int Tryz.underlying3 (hval 1 3 v1 rfl rfl) h1
  have k2 := h2
  have lt2 : ∀ x ∈ p2, x.block < W.heap.size := by obtain ⟨m, hm⟩ := k2; exact DataW.trod_lt m _ _ _ hm
  have w2 := open_r (hval 2 22 v2 rfl rfl) h2
  have k3 := h3
  have lt3 : ∀ x ∈ p3, x.block < W.heap.size := by obtain ⟨m, hm⟩ := k3; exact DataW.trod_lt m _ _ _ hm
  have w3 := open_z (hval 3 33 v3 rfl rfl) h3
  clear hA0 hval0
  refine (walk_learnOnce a0 a1 v2 v3 W w0 w1 w2 w3 (laid_of hL)).mono fun e W' ⟨he, bel⟩ => ?_
  subst he
  exact ⟨_, rfl, _, _, _, [], _, [], hW', trodAll_mk1 (shut_bool Tryz.underlying4 _), (trodAll_cons_mk (shut_int Tryz.underlying3 w0) (trodAll_cons_mk (shut_int Tryz.underlying3 w1) (trodAll_cons_mk (Below.trod laidOut (by kernel_rfl) (of_decide_eq_true (by kernel_rfl)) k2 bel lt2) (trodAll_cons_mk (Below.trod laidOut (by kernel_rfl) (of_decide_eq_true (by kernel_rfl)) k3 bel lt3) trodAll_mk0)))), rfl, bel.frame _, fun h => by cases h⟩

theorem band {x y : Bool} (h : x = true) (k : y = true) : (x && y) = true := by rw [h, k]; rfl
set_option maxRecDepth 100000
theorem cj0 : (Rows.learnOnceRow.wf (OpenSpec.ofChange Rows.learnOnceSpec)) = true := by kernel_rfl
theorem cj1 : (laidOutB Tryz.pinned.checked.prog) = true := by kernel_rfl
theorem cj2 : (mapsRowed Tryz.pinned.checked.prog) = true := by kernel_rfl
theorem cj9 : (Rows.learnOnceRow.inPlace == Tryz.pinned.checked.prog.inPlace 10) = true := by kernel_rfl
theorem cj10 : (Rows.learnOnceRow.unfollowed == Tryz.pinned.checked.prog.unfollowed 10) = true := by kernel_rfl
theorem cj11 : (Rows.learnOnceRow.recurses == Tryz.pinned.checked.prog.recurses 10) = true := by kernel_rfl
theorem cj12 : (Rows.learnOnceRow.named == Tryz.pinned.checked.prog.varsNamed 10) = true := by kernel_rfl
theorem cj22 : (Rows.learnOnceRow.plainKeys == Tryz.pinned.checked.prog.plainKeys) = true := by kernel_rfl
theorem cj24 : (Tryz.pinned.checked.prog.stopsHeard) = true := by kernel_rfl
theorem cj25 : (Tryz.pinned.checked.prog.mayEnter) = true := by kernel_rfl
theorem cj26 : (Rows.learnOnceRow.lifted == Tryz.pinned.checked.prog.liftsFinal) = true := by kernel_rfl
theorem cj27 : (Tryz.pinned.checked.prog.make == some Rows.learnOnceRow.make) = true := by kernel_rfl
theorem closed : joinedFacts Tryz.pinned.checked.prog 10 Tryz.f10 Rows.learnOnceSpec Rows.learnOnceRow = true := by
  unfold joinedFacts
  exact band (band (band (band (band (band (band (band (band (band (band (band (band (band (band (band (band (band (band (band (band (band (band (band (band (band (band (band (band (band (band (cj0) cj1) cj2) (by kernel_rfl)) (by kernel_rfl)) (by kernel_rfl)) (by kernel_rfl)) (by kernel_rfl)) (by kernel_rfl)) cj9) cj10) cj11) cj12) (by kernel_rfl)) (by kernel_rfl)) (by kernel_rfl)) (by kernel_rfl)) (by kernel_rfl)) (by kernel_rfl)) (by kernel_rfl)) (by kernel_rfl)) (by kernel_rfl)) cj22) (by kernel_rfl)) cj24) cj25) cj26) cj27) (by kernel_rfl)) (by kernel_rfl)) (by kernel_rfl)) (by kernel_rfl)
theorem fnm : Tryz.pinned.checked.prog.funcNamed "cachewise/cachewiselaw10.LearnOnce" = some 10 := by kernel_rfl
theorem isIn : Tryz.f10.isInstance Tryz.pinned.checked.prog Rows.learnOnceRow.origin Rows.learnOnceRow.targs := of_decide_eq_true (by kernel_rfl)
theorem isWr : Tryz.f10.isWrapper Tryz.pinned.checked.prog Rows.learnOnceRow.wrapper Rows.learnOnceRow.mainSum := by unfold Func.isWrapper; rw [if_neg (of_decide_eq_false (by kernel_rfl))]; exact ⟨rfl, rfl⟩
theorem said : Rows.LearnOnceSaid :=
  OpenClaim.holds_of_wide 10 Tryz.f10 rfl rfl rfl rfl rfl rfl rfl ⟨rfl, rfl, rfl, rfl, rfl⟩ rfl rfl rfl rfl rfl fnm Tryz.func10 closed isIn isWr
    (fun os started H enc _ => lifted os started H enc)

theorem hwT : Rows.learnOnceRow.wfByText (OpenSpec.ofChange Rows.learnOnceSpec) = true := by kernel_rfl
theorem mnI : Tryz.pinned.checked.prog.mainIs = some (Rows.learnOnceCard.stood.harness.1, Rows.learnOnceCard.stood.harness.2.toList) := by kernel_rfl
theorem lkT : Rows.learnOnceCard.stood.looks = Tryz.pinned.checked.prog.looks [] := by kernel_rfl
theorem gsB : false = Rows.learnOnceRow.goesBy Tryz.pinned.checked.prog := by kernel_rfl
theorem sii : Tryz.prog.wantsStandIn 3 = false := by kernel_rfl
theorem sir : Tryz.prog.wantsStandIn 22 = false := by kernel_rfl
theorem siz : Tryz.prog.wantsStandIn 33 = false := by kernel_rfl
theorem card : Rows.LearnOnceCardSaid :=
  Claim7.holds_tied_plain_at .later [] _ _ _ _ said (fun _ h => by cases h) hwT (fun _ h => by cases h) learnOnce_row_tie rfl ⟨rfl, rfl⟩ mnI rfl
    (fun f fn hf hfn => by
      obtain rfl : f = 10 := Option.some.inj (fnm.symm.trans hf) |>.symm
      obtain rfl : fn = Tryz.f10 := (Option.some.inj (Tryz.func10.symm.trans hfn)).symm
      refine ⟨lkT, fun j t ht => ?_⟩
      rw [Tryz.params10] at ht
      rcases j with _ | _ | _ | _ | j
      · obtain rfl : t = 3 := by simpa using ht.symm
        exact sii
      · obtain rfl : t = 3 := by simpa using ht.symm
        exact sii
      · obtain rfl : t = 22 := by simpa using ht.symm
        exact sir
      · obtain rfl : t = 33 := by simpa using ht.symm
        exact siz
      · simp at ht)
    gsB
#print axioms card
end LLearnOnce
end Go.Proofs.YtnlckkahkghneaaGreatDoor
