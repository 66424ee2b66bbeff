/- 'cachewiselaw08.ArcBounds' returns true for every size and every row of calls, and leaves what was there as it was. No condition. -/
import Derived.Test.YtlmbeiijijkjeaaWo
import Derived.Deep.LoopGhost
import Derived.Deep.DeepCutAuto
import Derived.Deep.CutBlock
namespace Go.Proofs.Ytlmbeiijijkjeaa
open Go.ChangeShapes Go.WideShapes Go.ChangeAt Go.RowKit Sg

def BdR (n c : Nat) (w0 : World) (g : Nat) (m i : Value) (W : World) : Prop := ∃ (k mo : Nat) (T : Nat → Prop) (s : St), g = n - k ∧ m = .int .i64 (mo : Int) ∧ i = .int .i64 (k : Int) ∧ k ≤ n ∧ Live w0 W c T s k ∧ s.mo = mo ∧ mo ≤ 1000
def BdM (k c : Nat) (w0 : World) (m : Value) (W : World) : Prop := ∃ (mo : Nat) (T : Nat → Prop) (s : St), m = .int .i64 (mo : Int) ∧ Live w0 W c T s (k + 1) ∧ s.mo = mo ∧ mo ≤ 1000
def BdS (c : Nat) (T : Nat → Prop) (s : St) (b g mb : Nat) (v : Value) (ys : List ByteArray) (w0 : World) (gi : Nat) (z : Value) (W : World) : Prop := ∃ k : Nat, gi + k = ys.length ∧ z = .int .i64 (k : Int) ∧ Bnd w0 W c T s b g mb v ys k

set_option maxHeartbeats 8000000 in
set_option maxRecDepth 100000 in
theorem bounds_main (mo : Nat) (A : Option Addr) (n cc : Nat) (w : World) (K : Nat → Int) (S : Nat → ByteArray) (N : Nat → Int) (hmo : mo ≤ 1000) (hn : n ≤ maxLen) (hS : ∀ i, i < n → (-9223372036854775808 ≤ N i ∧ N i ≤ 9223372036854775807) ∧ (S i).size ≤ maxLen)
    (hc : 0 < n → ∃ g o, A = some ⟨g, o, none⟩ ∧ g < w.heap.size ∧ n ≤ cc ∧ cc ≤ maxLen ∧ ∀ i, i < n → w.cell? ⟨g, o + i * 3, none⟩ = some (.int .i64 (K i)) ∧ w.cell? ⟨g, o + i * 3 + 1, none⟩ = some (.string (S i)) ∧ w.cell? ⟨g, o + i * 3 + 2, none⟩ = some (.int .i64 (N i))) :
    Calls Try.prog 3 #[.int .i64 (mo : Int), .slice A n cc] w (RetB true w) := by
  have e0 : decide ((mo : Int) < 0) = false := by simp
  have e3 : decide (1000 < (mo : Int)) = false := by simp; omega
  have HC := Lib.hid hc
  have HS := Lib.hid hS
  have HN := Lib.hid hn
  clear hc hS hn
  go_enter Try.func3, Try.ntmps3
  go_wp2_with fail
  refine (awake_any _).mono ?_
  rintro e w0 ⟨rfl, hb0⟩
  have b0 := Lib.hid hb0; clear hb0
  go_wp2_with fail
  refine (few_any A n cc w0 S HN.out (fun i hi => (HS.out i hi).2) (fun h => by
    obtain ⟨g, o, h1, h2, h3, h4, h5⟩ := HC.out h
    exact ⟨g, o, h1, Nat.lt_of_lt_of_le h2 b0.out.size, h3, h4, fun i hi => (b0.out.cell (p := ⟨g, o + i * 3 + 1, none⟩) h2).trans (h5 i hi).2.1⟩)).mono ?_
  rintro e w0 ⟨t, rfl, rfl, ht⟩
  cases t with
  | false =>
    go_wp2_with fail
    go_ret
    exact ⟨rfl, b0.out⟩
  | true =>
  have hn := ht rfl
  clear ht
  go_wp2_with fail
  refine (show Calls Try.prog 9 #[.int .i64 (mo : Int)] w0 (NewS (St.start mo) w0) from new_ca w0 (mo : Int) (by omega)).mono ?_
  rintro e w1 ⟨c, T1, rfl, hC, hT, hB⟩
  have L1 := Lib.hid (Live.made b0.out hC hT hB)
  have HMO := Lib.hid hmo
  clear hC hT hB b0 e0 e3 hmo
  go_wp2_with fail
  go_loopg [0, 6] n (fun g m i W => BdR n c w g m i W)
  case atStart => exact ⟨0, mo, T1, _, by omega, rfl, rfl, Nat.zero_le _, L1.out, rfl, HMO.out⟩
  case round =>
    obtain ⟨k, mo, T, s, hgk, rfl, rfl, hk, hL, hm, hmo⟩ := hrel
    have HGK := Lib.hid hgk
    have HL := Lib.hid hL
    have HM := Lib.hid hm
    clear hgk hL L1 hm
    by_cases hlt : k < n
    · have e0 : decide (k < n) = true := by simpa using hlt
      obtain ⟨g, o, rfl, hg, hc1, hc2, hcell⟩ := HC.out (by omega)
      have hc3 := hcell k hlt
      have h1 := (HL.out.bel.cell (p := ⟨g, o + k * 3, none⟩) hg).trans hc3.1
      have h2 := (HL.out.bel.cell (p := ⟨g, o + k * 3 + 1, none⟩) hg).trans hc3.2.1
      have h3 := (HL.out.bel.cell (p := ⟨g, o + k * 3 + 2, none⟩) hg).trans hc3.2.2
      have hsk := (HS.out k hlt).2
      have hnr := (HS.out k hlt).1
      clear hcell hc3
      unfold maxLen at hc2
      have S2 := Lib.hid (TA.made HL.out (K k) (S k) (N k))
      go_upto_block 2 with fail
      clear h1 h2 h3
      generalize wr.alloc (.cells #[.int .i64 (K k), .string (S k), .int .i64 (N k)] 28) = w2 at S2 ⊢
      generalize wr.heap.size = ga at S2 ⊢
      generalize S k = key at S2 hsk ⊢
      generalize K k = kd at S2 ⊢
      generalize N k = nn at S2 hnr ⊢
      go_cut [0] (fun v W => BdM k c w v W)
      case first =>
        obtain ⟨d0, d1, d2⟩ := S2.out.k
        have htot := S2.out.live.ca.tot
        have hok := Lib.hid S2.out.live.ca.ok
        clear HL
        have HMO := Lib.hid hmo
        cases c0 : (kd == 0) with
        | true =>
          have U := request_ca w2 c T s k key S2.out.live.ca hsk (by omega)
          have HRM := Lib.hid (show (s.req key).mo = mo from (req_mo s key).trans HM.out)
          by_cases hm0 : mo = 0
          · have e4 : decide (0 < (mo : Int)) = false := by simp; omega
            have e5 : decide (0 < mo) = false := by simp; omega
            rw [zero_step hok.out (by rw [HM.out]; exact hm0)] at U
            have U := Lib.hid U
            clear hm0 hmo
            go_wp2_with fail
            refine U.out.mono ?_
            intro e w3 hp
            obtain ⟨rfl, T3, h3⟩ := S2.out.op hp
            have hb := (Below.refl w3.heap.size w3).alloc (Nat.le_refl _) (sObj false ⟨#[]⟩ false)
            have S4 := Lib.hid (h3.below hb)
            have B4 := Lib.hid (show Box (w3.alloc (sObj false ⟨#[]⟩ false)) w3.heap.size false ⟨#[]⟩ false from heap_alloc_new _ _)
            clear hp h3 hb d0 d1 d2 S2 U
            go_upto_region 15 with fail
            generalize w3.alloc (sObj false ⟨#[]⟩ false) = w4 at S4 B4 ⊢
            generalize w3.heap.size = sb at B4 ⊢
            obtain ⟨q0, q1, q2, _, _⟩ := B4.out.cells
            obtain ⟨d0, d1, d2⟩ := S4.out.k
            go_wp2_with fail
            go_meet
            exact ⟨mo, T3, _, rfl, S4.out.live, HRM.out, HMO.out⟩
          · have e4 : decide (0 < (mo : Int)) = true := by simp; omega
            have e5 : decide (0 < mo) = true := by simp; omega
            have hms : s.mo ≠ 0 := by rw [HM.out]; exact hm0
            have HH := Lib.hid (req_in (s := s) hms key)
            unfold St.step at U
            cases ho : (!(s.vs key).isEmpty) with
            | false =>
              rw [ho] at U
              generalize hit s.R key = th at U
              generalize vicOf (s.vs key) = tv at U
              generalize s.req key = s2 at U HRM HH
              have U := Lib.hid U
              clear ho hm0 hmo hms
              go_wp2_with fail
              refine U.out.mono ?_
              intro e w3 hp
              obtain ⟨rfl, T3, h3⟩ := S2.out.op hp
              have hb := (Below.refl w3.heap.size w3).alloc (Nat.le_refl _) (sObj th tv false)
              have S4 := Lib.hid (h3.below hb)
              have B4 := Lib.hid (show Box (w3.alloc (sObj th tv false)) w3.heap.size th tv false from heap_alloc_new _ _)
              clear hp h3 hb d0 d1 d2 S2 U
              go_upto_region 15 with fail
              generalize w3.alloc (sObj th tv false) = w4 at S4 B4 ⊢
              generalize w3.heap.size = sb at B4 ⊢
              have V := Lib.hid (HH.out ▸ has_ca w4 c T3 s2 (k + 1) key S4.out.live.ca hsk : Calls Try.prog 11 #[.pointer (some ⟨c, 0, none⟩), .string key] w4 (BoolPost true w4))
              obtain ⟨q0, q1, q2, _, _⟩ := B4.out.cells
              obtain ⟨d0, d1, d2⟩ := S4.out.k
              cases th with
              | true =>
                go_wp2_with fail
                refine V.out.mono ?_
                rintro e w4 ⟨rfl, rfl⟩
                go_wp2_with fail
                go_meet
                exact ⟨mo, T3, _, rfl, S4.out.live, HRM.out, HMO.out⟩
              | false =>
                go_wp2_with fail
                refine V.out.mono ?_
                rintro e w4 ⟨rfl, rfl⟩
                go_wp2_with fail
                go_meet
                exact ⟨mo, T3, _, rfl, S4.out.live, HRM.out, HMO.out⟩
            | true =>
              obtain ⟨hh, hvn⟩ := vic_gone hok.out hms ho
              rw [ho, hh] at U
              have hvs : (vicOf (s.vs key)).size ≤ maxLen := vic_small S2.out.live.ca hms ho
              generalize vicOf (s.vs key) = tv at U hvn hvs
              generalize s.req key = s2 at U HRM HH hvn
              have HVN := Lib.hid hvn
              have U := Lib.hid U
              clear ho hm0 hmo hms hh hvn
              go_wp2_with fail
              refine U.out.mono ?_
              intro e w3 hp
              obtain ⟨rfl, T3, h3⟩ := S2.out.op hp
              have hb := (Below.refl w3.heap.size w3).alloc (Nat.le_refl _) (sObj false tv true)
              have S4 := Lib.hid (h3.below hb)
              have B4 := Lib.hid (show Box (w3.alloc (sObj false tv true)) w3.heap.size false tv true from heap_alloc_new _ _)
              clear hp h3 hb d0 d1 d2 S2 U
              go_upto_region 15 with fail
              generalize w3.alloc (sObj false tv true) = w4 at S4 B4 ⊢
              generalize w3.heap.size = sb at B4 ⊢
              have V1 := Lib.hid (HH.out ▸ has_ca w4 c T3 s2 (k + 1) key S4.out.live.ca hsk : Calls Try.prog 11 #[.pointer (some ⟨c, 0, none⟩), .string key] w4 (BoolPost true w4))
              have V2 := Lib.hid (HVN.out ▸ has_ca w4 c T3 s2 (k + 1) tv S4.out.live.ca hvs : Calls Try.prog 11 #[.pointer (some ⟨c, 0, none⟩), .string tv] w4 (BoolPost false w4))
              obtain ⟨q0, q1, q2, _, _⟩ := B4.out.cells
              obtain ⟨d0, d1, d2⟩ := S4.out.k
              go_wp2_with fail
              refine V2.out.mono ?_
              rintro e w4 ⟨rfl, rfl⟩
              go_wp2_with fail
              refine V1.out.mono ?_
              rintro e w4 ⟨rfl, rfl⟩
              go_wp2_with fail
              go_meet
              exact ⟨mo, T3, _, rfl, S4.out.live, HRM.out, HMO.out⟩
        | false =>
        clear hmo
        cases c1 : (kd == 1) with
        | true =>
          have U := Lib.hid (remove_ca w2 c T s k key S2.out.live.ca hsk)
          go_wp2_with fail
          refine U.out.mono ?_
          intro e w3 hp
          obtain ⟨rfl, T3, h3⟩ := S2.out.op hp
          have S3 := Lib.hid h3
          clear hp h3 d0 d1 d2 U S2
          obtain ⟨d0, d1, d2⟩ := S3.out.k
          have V1 := Lib.hid (rm_hit s.R key ▸ has_ca w3 c T3 (s.rm key) k key S3.out.live.ca hsk : Calls Try.prog 11 #[.pointer (some ⟨c, 0, none⟩), .string key] w3 (BoolPost false w3))
          go_wp2_with fail
          refine V1.out.mono ?_
          rintro e w4 ⟨rfl, rfl⟩
          go_wp2_with fail
          go_meet
          exact ⟨mo, T3, _, rfl, (S3.out.mono (Nat.le_succ k)).live, HM.out, HMO.out⟩
        | false =>
        cases c2 : (kd == 2) with
        | true =>
          have U := Lib.hid (adopt_ca w2 c T s k key S2.out.live.ca hsk (by omega))
          go_wp2_with fail
          refine U.out.mono ?_
          intro e w3 hp
          obtain ⟨rfl, T3, h3⟩ := S2.out.op hp
          have S3 := Lib.hid h3
          clear hp h3 d0 d1 d2 U S2
          go_wp2_with fail
          go_meet
          exact ⟨mo, T3, _, rfl, S3.out.live, (ad_mo s key).trans HM.out, HMO.out⟩
        | false =>
        cases c3 : (kd == 3) with
        | true =>
          have U := Lib.hid (drop_ca w2 c T s k S2.out.live.ca)
          go_wp2_with fail
          refine U.out.mono ?_
          intro e w3 hp
          obtain ⟨rfl, T3, h3⟩ := S2.out.op hp
          have S3 := Lib.hid h3
          clear hp h3 d0 d1 d2 U S2
          go_wp2_with fail
          go_meet
          exact ⟨mo, T3, _, rfl, (S3.out.mono (Nat.le_succ k)).live, HM.out, HMO.out⟩
        | false =>
        cases c4 : (kd == 4) with
        | true =>
          by_cases hr : 0 ≤ nn ∧ nn ≤ 1000
          · obtain ⟨m2, rfl⟩ : ∃ m : Nat, nn = (m : Int) := ⟨nn.toNat, by omega⟩
            have hm2 : m2 ≤ 1000 := by omega
            have f1 : decide ((m2 : Int) < 0) = false := by simp
            have f2 : decide (1000 < (m2 : Int)) = false := by simp; omega
            have U := Lib.hid (resize_ca w2 c T s k S2.out.live.ca (m2 : Int) hnr (by omega))
            have HM2 := Lib.hid hm2
            clear hr hm2 hnr
            go_wp2_with fail
            refine U.out.mono ?_
            rintro e w3 ⟨v3, T3, rfl, hO, hC, hW, _⟩
            have S3 := Lib.hid (S2.out.went hC hW)
            clear hO hC hW d0 d1 d2 U S2
            go_wp2_with fail
            go_meet
            exact ⟨m2, T3, _, rfl, (S3.out.mono (Nat.le_succ k)).live, rfl, HM2.out⟩
          · have hr2 : nn < 0 ∨ (0 ≤ nn ∧ 1000 < nn) := by omega
            have LL := Lib.hid (S2.out.mono (Nat.le_succ k)).live
            rcases hr2 with hr2 | ⟨hr2, hr3⟩
            · have f1 : decide (nn < 0) = true := by simpa using hr2
              clear hr hr2 hnr
              go_wp2_with fail
              go_roundg (n - (k + 1))
              case measure => have := HGK.out; omega
              case rel => exact ⟨k + 1, mo, T, s, rfl, rfl, by go_num, by omega, LL.out, HM.out, HMO.out⟩
            · have f1 : decide (nn < 0) = false := by simp; omega
              have f2 : decide (1000 < nn) = true := by simpa using hr3
              clear hr hr2 hr3 hnr
              go_wp2_with fail
              go_roundg (n - (k + 1))
              case measure => have := HGK.out; omega
              case rel => exact ⟨k + 1, mo, T, s, rfl, rfl, by go_num, by omega, LL.out, HM.out, HMO.out⟩
        | false =>
          clear d0 d1 d2
          go_wp2_with fail
          go_meet
          exact ⟨mo, T, s, rfl, (S2.out.mono (Nat.le_succ k)).live, HM.out, HMO.out⟩
      case rest =>
        clear S2 HL HM hmo
        obtain ⟨mo, T, s, rfl, hL, hm, hmo⟩ := hcut
        have L3 := Lib.hid hL
        have HM := Lib.hid hm
        have hok := Lib.hid hL.ca.ok
        have htot := hL.ca.tot
        have ALL := Lib.hid (all_nodup hok.out)
        have AHT := Lib.hid (fun j hj => all_hit hok.out (j := j) hj)
        have hyl : (keysL s.R ++ ghL s.R).length ≤ 1000 := by rw [all_len]; omega
        have HGL := Lib.hid (gh_len hok.out)
        obtain ⟨q, hq⟩ : ∃ q, q = lenR s.R := ⟨_, rfl⟩
        have hqm : q ≤ mo := by rw [hq, ← hm]; exact hok.out.le
        obtain ⟨p, hp⟩ : ∃ p, p = s.p := ⟨_, rfl⟩
        have hpm : p ≤ mo := by rw [hp, ← hm]; exact hok.out.pl
        obtain ⟨y, hy⟩ : ∃ y, y = (ghL s.R).length := ⟨_, rfl⟩
        have hym : y ≤ 2 * mo := by rw [hy, ← hm]; exact HGL.out
        have VL := Lib.hid (show ∀ W, Live w W c T s (k + 1) → Calls Try.prog 18 #[.pointer (some ⟨c, 0, none⟩)] W (Stl (.int .i64 (q : Int)) W) from fun W h => hq ▸ len_ca W c T s (k + 1) h.ca)
        have VS := Lib.hid (show ∀ W, Live w W c T s (k + 1) → Calls Try.prog 19 #[.pointer (some ⟨c, 0, none⟩)] W (IntPost (p : Int) W) from fun W h => hp ▸ share_ca W c T s (k + 1) h.ca)
        have VG := Lib.hid (show ∀ W, Live w W c T s (k + 1) → Calls Try.prog 17 #[.pointer (some ⟨c, 0, none⟩)] W (RowPost (ghL s.R) W) from fun W h => ghosts_ca W c T s (k + 1) h.ca)
        rw [← hq] at AHT
        have HY := Lib.hid hy.symm
        have HMO := Lib.hid hmo
        have HQM := Lib.hid hqm
        have HPM := Lib.hid hpm
        have HYM := Lib.hid hym
        have h4 : (keysL s.R).length + (ghL s.R).length ≤ 2000 := by rw [List.length_append] at hyl; omega
        clear hL hm hq hp hy hqm hpm hym hmo htot
        go_wp2_with fail
        refine (show Calls Try.prog 16 #[.pointer (some ⟨c, 0, none⟩)] wc (RowPost (keysL s.R) wc) from keys_ca wc c T s (k + 1) L3.out.ca).mono ?_
        rintro e w4 ⟨v4, rfl, hO4, hB4⟩
        have L4 := Lib.hid (L3.out.below hB4)
        have O4 := Lib.hid hO4
        have hs4 := hB4.size
        clear hO4
        go_wp2_with fail
        refine (VG.out w4 L4.out).mono ?_
        rintro e w5 ⟨v5, rfl, hO5, hB5⟩
        obtain ⟨v6, w6, hrun, hO6, hg6⟩ := app_all (O4.out.below hB5) hO5 h4 (Nat.le_trans hs4 hB5.size)
        have RUN := Lib.hid hrun
        have L5 := Lib.hid (L4.out.below hB5)
        have hb6 : Below wc.heap.size w5 w6 := (Below.refl _ w5).grown hg6 (Nat.le_trans hs4 hB5.size) (fun k hk => ((O4.out.below hB5).1.lt k hk).1)
        have hlow : ∀ j, T j → j < wc.heap.size := fun j hj => L3.out.lt j hj
        have hT6 : Turn (fun j => v4.ownBlock = some j) w5 w6 := ⟨hg6.os, hg6.tape, hg6.output, hg6.size, fun i hi hne => hg6.block i hi (fun e => hne (by simpa using e.symm))⟩
        have L6 := Lib.hid (show Live w w6 c T s (k + 1) from ⟨L5.out.ca.beside hT6 (fun j hj e => by have h1 := ((O4.out.below hB5).1.lt j e).1; have h2 := hlow j hj; omega), L5.out.bel.trans (hT6.below (fun j e => by have h1 := ((O4.out.below hB5).1.lt j e).1; have h2 := L3.out.bel.size; omega) L5.out.bel.size), L5.out.low⟩)
        obtain ⟨g6, hg6w, hR6⟩ := hO6.row
        have HGT := Lib.hid (show ¬ T g6 from fun h => by have := hlow g6 h; omega)
        have R6 := Lib.hid hR6
        obtain ⟨A6, c6, rfl⟩ := hO6.len
        obtain ⟨ys, hys⟩ : ∃ ys, ys = keysL s.R ++ ghL s.R := ⟨_, rfl⟩
        rw [← hys] at ALL AHT hyl R6 RUN
        obtain ⟨x, hx⟩ : ∃ x, x = ys.length := ⟨_, rfl⟩
        rw [← hx] at hyl R6 RUN
        have HX := Lib.hid hx.symm
        have hmk := @run_makeMap Try.prog
        have hb7 := (Below.refl w6.heap.size w6).alloc (Nat.le_refl _) (.map #[] 0)
        have N7 := Lib.hid (show Bnd w (w6.alloc (.map #[] 0)) c T s (k + 1) g6 w6.heap.size (.slice A6 x c6) ys 0 from
          ⟨L6.out.below hb7, R6.out.below hb7, Seen.made w6, fun hx0 e => by have := R6.out.lt hx0; omega, fun h => by have := L6.out.lt _ h; omega, L6.out.bel.size⟩)
        clear hO5 hB5 hrun hO6 hg6 hb6 hT6 hR6 hB4 O4 L3 L4 L5 hs4 hys hx hb7 L6 R6 hlow hg6w
        go_wp2_with (at_builtin; refine wpList_append_run rfl _ _ _ rfl _ _ _ _ rfl rfl RUN.out ?_)
        generalize w6.heap.size = mb at N7 ⊢
        generalize w6.alloc (.map #[] 0) = w7 at N7 ⊢
        clear RUN hmk h4
        go_loopg [11] x (fun gi z W => BdS c T s (k + 1) g6 mb (.slice A6 x c6) ys w gi z W)
        case atStart => exact ⟨0, by rw [HX.out]; rfl, rfl, N7.out⟩
        case round =>
          obtain ⟨j, hj, rfl, hBd⟩ := hrel
          have NB := Lib.hid hBd
          rw [HX.out] at hj
          have HJ := Lib.hid hj
          clear hBd hj N7
          by_cases hjx : j < x
          · have f0 : decide (j < x) = true := by simpa using hjx
            obtain ⟨o6, rfl, hg8, hc8, hc9, hc10⟩ := NB.out.row.at (k := j) (by rw [HX.out]; exact hjx)
            have hxs : (ys.getD j ⟨#[]⟩).size ≤ maxLen := NB.out.row.2.1 _ (getD_in (by rw [HX.out]; exact hjx))
            have hlk := NB.out.seen.look hxs
            rw [(take_add ALL.out (by rw [HX.out]; exact hjx)).1] at hlk
            have V := has_ca wr c T s (k + 1) (ys.getD j ⟨#[]⟩) NB.out.live.ca hxs
            rw [AHT.out j (by rw [HX.out]; exact hjx)] at V
            have STO := Lib.hid (fun (W : World) (h : Bnd w W c T s (k + 1) g6 mb (.slice (some ⟨g6, o6, none⟩) x c6) ys j) => h.store ALL.out (by rw [HX.out]; exact hjx) rfl hxs (by rw [HX.out]; exact hyl))
            generalize ys.getD j ⟨#[]⟩ = xk at hc8 hlk V STO hxs
            rw [HX.out] at hc9
            unfold maxLen at hc10
            by_cases hjq : j < q
            · have f1 : decide (j < q) = true := by simpa using hjq
              rw [f1] at V
              have V := Lib.hid V
              clear hxs hjq
              go_wp2_with fail
              refine V.out.mono ?_
              rintro e w8 ⟨rfl, rfl⟩
              go_wp2_with fail
              refine (VL.out _ NB.out.live).mono ?_
              rintro e w8 ⟨rfl, hB8⟩
              have N8 := Lib.hid (NB.out.below hB8)
              have hc11 := (hB8.cell (p := ⟨g6, o6 + j, none⟩) hg8).trans hc8
              obtain ⟨w9, hrun9, hN9⟩ := STO.out w8 N8.out
              have N9 := Lib.hid hN9
              clear hB8 hN9 hc8 hlk V STO N8
              go_wp2_with fail
              go_roundg (x - (j + 1))
              case measure => have := HJ.out; omega
              case rel => exact ⟨j + 1, by rw [HX.out]; omega, by go_num, N9.out⟩
            · have f1 : decide (j < q) = false := by simpa using hjq
              rw [f1] at V
              have V := Lib.hid V
              clear hxs hjq
              go_wp2_with fail
              refine V.out.mono ?_
              rintro e w8 ⟨rfl, rfl⟩
              go_wp2_with fail
              refine (VL.out _ NB.out.live).mono ?_
              rintro e w8 ⟨rfl, hB8⟩
              have N8 := Lib.hid (NB.out.below hB8)
              have hc11 := (hB8.cell (p := ⟨g6, o6 + j, none⟩) hg8).trans hc8
              obtain ⟨w9, hrun9, hN9⟩ := STO.out w8 N8.out
              have N9 := Lib.hid hN9
              clear hB8 hN9 hc8 hlk V STO N8
              go_wp2_with fail
              go_roundg (x - (j + 1))
              case measure => have := HJ.out; omega
              case rel => exact ⟨j + 1, by rw [HX.out]; omega, by go_num, N9.out⟩
          · have f0 : decide (j < x) = false := by simpa using hjx
            have LR := Lib.hid NB.out.live
            have hqm := HQM.out
            have hpm := HPM.out
            have hym := HYM.out
            have hmo := HMO.out
            obtain ⟨d, hd⟩ : ∃ d, d = 2 * mo := ⟨_, rfl⟩
            have f1 : decide (mo < q) = false := by simp; omega
            have f2 : IntKind.i64.wrap (2 * (mo : Int)) = (d : Int) := by rw [IntWalk.i64_in _ (by omega)]; omega
            have f3 : decide (d < y) = false := by simp; omega
            have f4 : decide (mo < p) = false := by simp; omega
            have f5 : decide ((p : Int) < 0) = false := by simp
            clear hqm hpm hym hmo hd NB
            go_wp2_with fail
            refine (VL.out _ LR.out).mono ?_
            rintro e w8 ⟨rfl, hB8⟩
            have L8 := Lib.hid (LR.out.below hB8)
            clear hB8 LR
            go_wp2_with fail
            refine (VG.out _ L8.out).mono ?_
            rintro e w9 ⟨v9, rfl, hO9, hB9⟩
            obtain ⟨A9, c9, rfl⟩ := hO9.len
            rw [HY.out]
            have L9 := Lib.hid (L8.out.below hB9)
            clear hB9 hO9 L8
            go_wp2_with fail
            refine (VS.out _ L9.out).mono ?_
            rintro e w9 ⟨rfl, rfl⟩
            go_wp2_with fail
            refine (VS.out _ L9.out).mono ?_
            rintro e w9 ⟨rfl, rfl⟩
            go_wp2_with fail
            go_roundg (n - (k + 1))
            case measure => have := HGK.out; omega
            case rel => exact ⟨k + 1, mo, T, s, rfl, rfl, by go_num, by omega, L9.out, HM.out, HMO.out⟩
    · have e0 : decide (k < n) = false := by simpa using hlt
      go_wp2_with fail
      go_ret
      exact ⟨rfl, HL.out.bel⟩

set_option maxRecDepth 100000 in
theorem walk_arcBounds (a0 : Int) (v1 : Value) (w : World) (w0 : (Lit.int .i64 a0).wf = true) (w1 : CameA w v1) : Calls Try.prog 3 #[.int .i64 a0, v1] w (RetB true w) := by
  obtain ⟨A, n, c, rfl, hn, K, S, N, hr, hc⟩ := w1
  have hz := i64_rng w0
  by_cases hok : 0 ≤ a0 ∧ a0 ≤ 1000
  · obtain ⟨mo, rfl⟩ : ∃ m : Nat, a0 = (m : Int) := ⟨a0.toNat, by omega⟩
    exact bounds_main mo A n c w K S N (by omega) hn hr hc
  · have P := Lib.hid (show decide (a0 < 0) = true ∨ (decide (a0 < 0) = false ∧ decide (1000 < a0) = true) by
      simp only [decide_eq_true_eq, decide_eq_false_iff_not]; omega)
    have HC := Lib.hid hc
    have HN := Lib.hid hn
    have HR := Lib.hid hr
    clear hc w0 hok hn hr
    rcases P.out with e0 | ⟨e0, e1⟩
    all_goals
      go_enter Try.func3, Try.ntmps3
      go_wp2_with fail
      refine (awake_any _).mono ?_
      rintro e w0 ⟨rfl, hb0⟩
      have b0 := Lib.hid hb0; clear hb0
      go_wp2_with fail
      refine (few_any A n c w0 S HN.out (fun i hi => (HR.out i hi).2) (fun h => by
        obtain ⟨g, o, h1, h2, h3, h4, h5⟩ := HC.out h
        exact ⟨g, o, h1, Nat.lt_of_lt_of_le h2 b0.out.size, h3, h4, fun i hi => (b0.out.cell (p := ⟨g, o + i * 3 + 1, none⟩) h2).trans (h5 i hi).2.1⟩)).mono ?_
      rintro e w0 ⟨t, rfl, rfl, ht⟩
      cases t with
      | false =>
        go_wp2_with fail
        go_ret
        exact ⟨rfl, b0.out⟩
      | true =>
        go_wp2_with fail
        go_ret
        exact ⟨rfl, b0.out⟩

namespace LArcBounds
set_option maxRecDepth 100000 in
theorem lifted (os : Os) (started : os.Started) (H : Type) (enc : TypeId × Value → H) :
    ReturnsInHanded {} Try.checked os 3 .any (Rows.arcBoundsSpec.pre6 enc Try.prog Try.f3 Rows.arcBoundsRow.domain false) (Rows.arcBoundsSpec.post enc Try.prog Try.f3 false true false false) := by
  refine returnsInHanded_of_change (C := Try.checked) own started (by kernel_rfl) Try.func3
    (ChangeSpec.witness6 (enc := enc) (C := Try.checked) false ⟨#[], #[.int .i64 0, .slice none 0 0], []⟩ 8 (by kernel_rfl) (by kernel_rfl) (by kernel_rfl) (by kernel_rfl)) ?_
  intro W base args ds gs before hval0 hW _ _
  have hval : ∀ (j : Nat) t v, Try.f3.params[j]? = some t → args[j]? = some v → Value.okWide Try.prog W .any base t v := hval0
  have hW' := hW
  obtain ⟨p, q, hA0, hV, rfl, hfz, hnd⟩ := hW
  have hA : DataW.TrodAll enc Try.prog W 0 (fun _ => true) true Try.f3.params.toList args.toList ds p := hA0
  rw [Try.params3] at hA hval
  obtain ⟨v0, vs0, d0, ds0, p0, q0, hargs, rfl, rfl, h0, r0⟩ := trodAll_cons hA
  obtain ⟨v1, vs1, d1, ds1, p1, q1, rfl, rfl, rfl, h1, r1⟩ := trodAll_cons r0
  obtain ⟨rfl, rfl, rfl⟩ := trodAll_nil r1
  obtain rfl : args = #[v0, v1] := by cases args; simp_all
  obtain ⟨rfl, rfl⟩ := trodVars_none hV
  obtain ⟨a0, rfl, rfl, rfl, w0⟩ := open_int Try.underlying3 (hval 0 3 v0 rfl rfl) h0
  have k1 := h1
  have lt1 : ∀ x ∈ p1, x.block < W.heap.size := by obtain ⟨m, hm⟩ := k1; exact DataW.trod_lt m _ _ _ hm
  have w1 := open_a (hval 1 22 v1 rfl rfl) h1
  clear hA0 hval0
  refine (walk_arcBounds a0 v1 W w0 w1).mono fun e W' ⟨he, bel⟩ => ?_
  subst he
  exact ⟨_, rfl, _, _, _, [], _, [], hW', trodAll_mk1 (shut_bool Try.underlying4 _), (trodAll_cons_mk (shut_int Try.underlying3 w0) (trodAll_cons_mk (Below.trod laidOut (by kernel_rfl) (of_decide_eq_true (by kernel_rfl)) k1 bel lt1) trodAll_mk0)), rfl, bel.frame _, fun h => by cases h⟩

theorem said : Rows.ArcBoundsSaid :=
  OpenClaim.holds_of_wide 3 Try.f3 rfl rfl rfl rfl rfl rfl rfl ⟨rfl, rfl, rfl, rfl, rfl⟩ rfl rfl rfl rfl rfl (by kernel_rfl) Try.func3 (by kernel_rfl)
    (of_decide_eq_true (by kernel_rfl)) (by unfold Func.isWrapper; rw [if_neg (of_decide_eq_false (by kernel_rfl))]; exact ⟨rfl, rfl⟩)
    (fun os started H enc _ => lifted os started H enc)
#print axioms said
end LArcBounds
end Go.Proofs.Ytlmbeiijijkjeaa
