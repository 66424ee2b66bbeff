/- 'cachewiselaw08.ArcHits' returns true for every size, every row of keys and every number, and leaves what was there as it was. No condition. -/
import Derived.Test.YtlmbeiijijkjeaaWm
import Derived.Deep.DeepCutAuto
import Derived.Deep.CutBlock
namespace Go.Proofs.Ytlmbeiijijkjeaa
open Go.ChangeShapes Go.WideShapes Go.ChangeAt Go.RowKit Sg

set_option maxHeartbeats 4000000 in
set_option maxRecDepth 100000 in
theorem hits_main (mo wh : Nat) (A : Option Addr) (n cc : Nat) (w : World) (S : Nat → ByteArray) (h1m : 1 ≤ mo) (hmo : mo ≤ 1000) (hwh : wh ≤ 9223372036854775807) (hn : n ≤ 200) (hS : ∀ i, i < n → (S i).size ≤ maxLen)
    (hc : 0 < n → ∃ g o, A = some ⟨g, o, none⟩ ∧ g < w.heap.size ∧ n ≤ cc ∧ cc ≤ maxLen ∧ ∀ i, i < n → w.cell? ⟨g, o + i, none⟩ = some (.string (S i))) :
    Calls Try.prog 6 #[.int .i64 (mo : Int), .slice A n cc, .int .i64 (wh : Int)] w (RetB true w) := by
  have e0 : decide (200 < (n : Int)) = false := by simp; omega
  have e2 : decide ((mo : Int) < 1) = false := by simp; omega
  have e3 : decide (1000 < (mo : Int)) = false := by simp; omega
  have e4 : decide ((wh : Int) < 0) = false := by simp
  have HC := Lib.hid hc
  have HS := Lib.hid hS
  clear hc hS
  go_enter Try.func6, Try.ntmps6
  go_wp2_with fail
  refine (awake_any _).mono ?_
  rintro e w0 ⟨rfl, hb0⟩
  have b0 := Lib.hid hb0; clear hb0
  go_wp2_with fail
  refine (show Calls Try.prog 9 #[.int .i64 (mo : Int)] w0 (NewS (St.start mo) w0) from new_ca w0 (mo : Int) (by omega)).mono ?_
  rintro e w1 ⟨c, T1, rfl, hC, hT, hB⟩
  have L1 := Lib.hid (Live.made b0.out hC hT hB)
  clear hC hT hB b0
  go_wp2_with fail
  clear e0 e2 e3 e4
  go_loopw [8] (fun i W => Fill S n c mo w i W) (fun i _ => n - (intOf i).toNat)
  case atStart => exact ⟨0, T1, rfl, Nat.zero_le _, L1.out⟩
  case round =>
    obtain ⟨k, T, rfl, hk, hL⟩ := hrel
    have HL := Lib.hid hL
    clear hL L1
    by_cases hlt : k < n
    · have e0 : decide (k < n) = true := by simpa using hlt
      obtain ⟨g, o, rfl, hg, hc1, hc2, hcell⟩ := HC.out (by omega)
      have h1 := (HL.out.bel.cell (p := ⟨g, o + k, none⟩) hg).trans (hcell k hlt)
      have hsk := HS.out k hlt
      clear hcell
      unfold maxLen at hc2
      have U := Lib.hid (request_ca wr c T (stI S mo k) k (S k) HL.out.ca hsk (by omega))
      unfold maxLen at hsk
      by_cases hbig : (S k).size ≤ 200
      · have e1 : decide (200 < ((S k).size : Int)) = false := by simp; omega
        go_wp2_with fail
        refine U.out.mono ?_
        intro e w2 hp
        obtain ⟨rfl, hF⟩ := Fill.next hlt HL.out hp
        have F := Lib.hid hF
        clear hp hF U HL
        unfold St.step
        go_wp2_with fail
        go_roundw
        case rel =>
          obtain ⟨k2, T2, h1, h2, h3⟩ := F.out
          exact ⟨k2, T2, by rw [← h1]; go_num, h2, h3⟩
        case measure => simp [intOf]; omega
      · have e1 : decide (200 < ((S k).size : Int)) = true := by simp; omega
        go_wp2_with fail
        go_ret
        exact ⟨rfl, HL.out.bel⟩
    · have e0 : decide (k < n) = false := by simpa using hlt
      obtain rfl : k = n := by omega
      have hms : (stI S mo k).mo ≠ 0 := by rw [stI_mo]; omega
      have HM := Lib.hid hms
      have HP := Lib.hid (fun (h : 0 < k) => stI_pos S mo h1m k h)
      have HZ := Lib.hid (show k = 0 → lenR (stI S mo k).R = 0 from fun h => by subst h; rfl)
      clear hms
      generalize stI S mo k = s at *
      have OK := Lib.hid HL.out.ca.ok
      have htot := HL.out.ca.tot
      have hlt2 : lenR s.R ≤ totR s.R := by unfold lenR totR; omega
      go_wp2_with fail
      refine (keys_ca wr c T s k HL.out.ca).mono ?_
      rintro e w2 ⟨v2, rfl, hO, hB⟩
      obtain ⟨Al, cl, rfl⟩ := hO.len
      have L2 := Lib.hid (HL.out.below hB)
      have M2 := Lib.hid (show Mine w2 T _ (keysL s.R) from Mine.made hO HL.out.ca)
      obtain ⟨x, hx⟩ : ∃ x, x = lenR s.R := ⟨_, rfl⟩
      have hxl : (s.R 1 ++ s.R 0).reverse.length = x := by rw [hx]; exact keysL_len s.R
      have hx2 : x ≤ 200 := by omega
      rw [hxl] at M2 ⊢
      have HX := Lib.hid (show (keysL s.R).length = x from hxl)
      rw [← hx] at HP HZ
      clear hO hB HL hxl hx htot hlt2
      by_cases h0 : k = 0
      · have hx0 := HZ.out h0
        subst h0
        obtain rfl : x = 0 := hx0
        go_wp2_with fail
        go_ret
        exact ⟨rfl, L2.out.bel⟩
      · have hxp : 0 < x := HP.out (by omega)
        have e5 : ((x : Int) == 0) = false := by simp; omega
        have e6 : (x == 0) = false := by simp; omega
        have e7 : (x : Int) ≠ 0 := by omega
        have e8 : x ≠ 0 := by omega
        obtain ⟨j, hj⟩ : ∃ j, j = wh % x := ⟨_, rfl⟩
        have hjx : j < x := by rw [hj]; exact Nat.mod_lt _ hxp
        have e9 : (wh : Int).tmod (x : Int) = (j : Int) := by rw [hj, Int.tmod_eq_emod_of_nonneg (by omega)]; rfl
        have e10 : IntKind.i64.wrap (j : Int) = (j : Int) := IntWalk.i64_in _ (by omega)
        obtain ⟨gl, hRow, hgl⟩ := M2.out
        obtain ⟨ol, hAl, hg2, hc3, hc4, hc5⟩ := hRow.at (k := j) (by rw [HX.out]; exact hjx)
        have hkm := getD_in (xs := keysL s.R) (j := j) (by rw [HX.out]; exact hjx)
        obtain ⟨key, hkey⟩ : ∃ key, key = (keysL s.R).getD j ⟨#[]⟩ := ⟨_, rfl⟩
        rw [← hkey] at hc3 hkm
        have hhit := keysL_mem.1 hkm
        have hks : key.size ≤ maxLen := by
          rcases hit_iff.1 hhit with h | h
          · exact L2.out.ca.small 0 (by omega) key h
          · exact L2.out.ca.small 1 (by omega) key h
        have HH := Lib.hid hhit
        rw [hAl] at M2 ⊢
        rw [HX.out] at hc4
        unfold maxLen at hc5
        clear hRow hgl hkm hkey hhit hj hAl HZ HP
        go_wp2_with fail
        refine (ghosts_ca w2 c T s k L2.out.ca).mono ?_
        rintro e w3 ⟨v3, rfl, hO, hB⟩
        have L3 := Lib.hid (L2.out.below hB)
        have M3 := Lib.hid (M2.out.below hB)
        have G3 := Lib.hid (show Mine w3 T v3 (ghL s.R) from Mine.made hO L2.out.ca)
        clear hO hB L2 M2 hc3
        go_wp2_with fail
        refine (share_ca w3 c T s k L3.out.ca).mono ?_
        rintro e w3 ⟨rfl, rfl⟩
        go_wp2_with fail
        refine (sizes_ca w3 c T s k L3.out.ca).mono ?_
        rintro e w4 ⟨rfl, hB⟩
        have L4 := Lib.hid (L3.out.below hB)
        have M4 := Lib.hid (M3.out.below hB)
        have G4 := Lib.hid (G3.out.below hB)
        clear hB L3 M3 G3
        have HCT := Lib.hid (hit_counts OK.out HH.out)
        have HN := Lib.hid (show (s.R 0).length + (s.R 1).length = x by have := HX.out; rw [keysL_len] at this; exact this)
        have HG := Lib.hid (hit_ghosts OK.out HH.out)
        have HQ := Lib.hid (hit_req HM.out HH.out)
        have HTOT := Lib.hid L4.out.ca.tot
        obtain ⟨p, hp⟩ : ∃ p, p = s.p := ⟨_, rfl⟩
        obtain ⟨n0, h0'⟩ : ∃ n, n = (s.R 0).length := ⟨_, rfl⟩
        obtain ⟨n1, h1'⟩ : ∃ n, n = (s.R 1).length := ⟨_, rfl⟩
        obtain ⟨n2, h2'⟩ : ∃ n, n = (s.R 2).length := ⟨_, rfl⟩
        obtain ⟨n3, h3'⟩ : ∃ n, n = (s.R 3).length := ⟨_, rfl⟩
        rw [← h0', ← h1'] at HN HCT
        rw [← hp, ← h0', ← h1', ← h2', ← h3']
        have HPP := Lib.hid hp
        have b5 := (Below.refl w4.heap.size w4).alloc (Nat.le_refl _) (.cells #[.int .i64 (n0 : Int), .int .i64 (n1 : Int), .int .i64 (n2 : Int), .int .i64 (n3 : Int)] 42)
        have L5 := Lib.hid (L4.out.below b5)
        have M5 := Lib.hid (M4.out.below b5)
        have G5 := Lib.hid (G4.out.below b5)
        have Z5 := Lib.hid (Four.made w4 L4.out.lt n0 n1 n2 n3)
        clear b5 L4 M4 G4 hp h0' h1' h2' h3'
        go_upto_region 21 with fail
        generalize w4.alloc (.cells #[.int .i64 (n0 : Int), .int .i64 (n1 : Int), .int .i64 (n2 : Int), .int .i64 (n3 : Int)] 42) = w5 at L5 M5 G5 Z5 ⊢
        generalize w4.heap.size = zb at Z5 ⊢
        have R := request_ca w5 c T s k key L5.out.ca hks (by omega)
        rw [HQ.out.1, HQ.out.2] at R
        have R := Lib.hid R
        go_wp2_with fail
        refine R.out.mono ?_
        intro e w6 hp
        obtain ⟨rfl, T6, hL6, hW6⟩ := L5.out.op hp
        have b6 := (Below.refl w6.heap.size w6).alloc (Nat.le_refl _) (sObj true ⟨#[]⟩ false)
        have L6 := Lib.hid (hL6.below b6)
        have M6 := Lib.hid ((M5.out.went hW6 hL6.lt).below b6)
        have G6 := Lib.hid ((G5.out.went hW6 hL6.lt).below b6)
        have Z6 := Lib.hid ((Z5.out.went hW6).below b6)
        have X6 := Lib.hid (Bx.made w6 hL6.lt true false ⟨#[]⟩)
        clear hp hL6 hW6 b6 R L5 M5 G5 Z5
        go_upto_region 22 with fail
        generalize w6.alloc (sObj true ⟨#[]⟩ false) = w7 at L6 M6 G6 Z6 X6 ⊢
        generalize w6.heap.size = sb at X6 ⊢
        have HK1 := Lib.hid (last_put s.R key)
        have HK2 := Lib.hid (keysL_pos s.R key)
        have HK3 := Lib.hid (rem_keys s.R key)
        generalize putR s.R key 1 = R' at L6 HK1 HK2 HK3 HG HCT
        have V := Lib.hid (show Calls Try.prog 16 #[.pointer (some ⟨c, 0, none⟩)] w7 (RowPost (keysL R') w7) from keys_ca w7 c T6 _ (k + 1) L6.out.ca)
        go_wp2_with fail
        refine V.out.mono ?_
        rintro e w8 ⟨v8, rfl, hO, hB⟩
        obtain ⟨A8, c8, rfl⟩ := hO.len
        have K8 := Lib.hid (Mine.made hO L6.out.ca)
        have L8 := Lib.hid (L6.out.below hB)
        have M8 := Lib.hid (M6.out.below hB)
        have G8 := Lib.hid (G6.out.below hB)
        have Z8 := Lib.hid (Z6.out.below hB)
        have X8 := Lib.hid (X6.out.below hB)
        clear hO hB L6 M6 G6 Z6 X6 V
        obtain ⟨y, hy⟩ : ∃ y, y = (keysL R').length := ⟨_, rfl⟩
        have HY := Lib.hid hy.symm
        rw [← hy] at K8 HK1 HK2 ⊢
        have hyt : y ≤ 201 := by
          have h1 := L8.out.ca.tot
          have h2 : lenR R' ≤ totR R' := by unfold lenR totR; omega
          have h3 : totR R' ≤ k + 1 := h1
          rw [keysL_len] at hy
          omega
        clear hy
        go_wp2_with fail
        refine (sizes_ca w8 c T6 _ (k + 1) L8.out.ca).mono ?_
        rintro e w9 ⟨rfl, hB⟩
        have L9 := Lib.hid (L8.out.below hB)
        have M9 := Lib.hid (M8.out.below hB)
        have K9 := Lib.hid (K8.out.below hB)
        have G9 := Lib.hid (G8.out.below hB)
        have Z9 := Lib.hid (Z8.out.below hB)
        have X9 := Lib.hid (X8.out.below hB)
        clear hB L8 M8 K8 G8 Z8 X8
        obtain ⟨y0, y0e⟩ : ∃ n, n = (R' 0).length := ⟨_, rfl⟩
        obtain ⟨y1, y1e⟩ : ∃ n, n = (R' 1).length := ⟨_, rfl⟩
        obtain ⟨y2, y2e⟩ : ∃ n, n = (R' 2).length := ⟨_, rfl⟩
        obtain ⟨y3, y3e⟩ : ∃ n, n = (R' 3).length := ⟨_, rfl⟩
        rw [← y0e, ← y1e] at HCT
        have b10 := (Below.refl w9.heap.size w9).alloc (Nat.le_refl _) (.cells #[.int .i64 (y0 : Int), .int .i64 (y1 : Int), .int .i64 (y2 : Int), .int .i64 (y3 : Int)] 42)
        have La := Lib.hid (L9.out.below b10)
        have Ma := Lib.hid (M9.out.below b10)
        have Ka := Lib.hid (K9.out.below b10)
        have Ga := Lib.hid (G9.out.below b10)
        have Za := Lib.hid (Z9.out.below b10)
        have Xa := Lib.hid (X9.out.below b10)
        have Ya := Lib.hid (Four.made w9 L9.out.lt y0 y1 y2 y3)
        clear b10 L9 M9 K9 G9 Z9 X9
        rw [← y0e, ← y1e, ← y2e, ← y3e]
        clear y0e y1e y2e y3e
        go_upto_region 24 with fail
        generalize w9.alloc (.cells #[.int .i64 (y0 : Int), .int .i64 (y1 : Int), .int .i64 (y2 : Int), .int .i64 (y3 : Int)] 42) = wa at La Ma Ka Ga Za Xa Ya ⊢
        generalize w9.heap.size = yb at Ya ⊢
        obtain ⟨x0, x1, x2, _, _⟩ := Xa.out.box.cells
        obtain ⟨y', hy'⟩ : ∃ y', y' = y - 1 := ⟨_, rfl⟩
        have hyp := HK2.out
        have hyw : IntKind.i64.wrap ((y : Int) - 1) = (y' : Int) := by rw [IntWalk.i64_in _ (by omega)]; omega
        have hyy : y' < y := by omega
        obtain ⟨gk, hRk, hgk⟩ := Ka.out
        have hRk2 := Lib.hid hRk
        obtain ⟨ok, hA8, hg8, hc8, hc9, hc10⟩ := hRk.at (k := y') (by rw [HY.out]; exact hyy)
        have hlast := HK1.out
        rw [← hy'] at hlast
        rw [hlast] at hc8
        rw [HY.out] at hc9
        have U1 := Lib.hid (refRemove_any wa gk _ _ key hRk2.out (by rw [HY.out]; omega))
        rw [hA8] at U1 ⊢
        have e11 := beqS_yes (rfl : key = key)
        have g34 := guard34
        have q34 := eq34
        unfold maxLen at hc10
        clear hRk hgk hlast hy' hyp hA8 hRk2 Ka
        go_wp2_with fail
        refine U1.out.mono ?_
        rintro e wb ⟨vb, rfl, hO, hB⟩
        obtain ⟨gb, _, hRb⟩ := hO.row
        have Lb := Lib.hid (La.out.below hB)
        have Mb := Lib.hid (Ma.out.below hB)
        have Gb := Lib.hid (Ga.out.below hB)
        have Zb := Lib.hid (Za.out.below hB)
        have Yb := Lib.hid (Ya.out.below hB)
        have RB := Lib.hid hRb
        clear hO hB hRb La Ma Ga Za Ya Xa x0 x1 x2 hc8 U1 g34 q34
        obtain ⟨gm, hRm, _⟩ := Mb.out
        have U2 := Lib.hid (refRemove_any wb gm _ _ key hRm (by rw [HX.out]; omega))
        clear hRm
        go_wp2_with fail
        refine U2.out.mono ?_
        rintro e wc ⟨vc, rfl, hO, hB⟩
        obtain ⟨gc, _, hRc⟩ := hO.row
        have Lc := Lib.hid (Lb.out.below hB)
        have Gc := Lib.hid (Gb.out.below hB)
        have Zc := Lib.hid (Zb.out.below hB)
        have Yc := Lib.hid (Yb.out.below hB)
        have hRb := RB.out.below hB
        rw [HK3.out] at hRb
        have U3 := Lib.hid (refSame_self wc gb gc _ _ _ hRb hRc)
        clear hO hB hRb hRc Lb Mb Gb Zb Yb RB U2
        go_wp2_with fail
        refine U3.out.mono ?_
        rintro e wd ⟨rfl, nd, hw⟩
        have bd : Below wc.heap.size wc wd := hw ▸ below_drewN wc nd
        have Ld := Lib.hid (Lc.out.below bd)
        have Gd := Lib.hid (Gc.out.below bd)
        have Zd := Lib.hid (Zc.out.below bd)
        have Yd := Lib.hid (Yc.out.below bd)
        clear hw bd Lc Gc Zc Yc U3
        have U4 := Lib.hid (show Calls Try.prog 17 #[.pointer (some ⟨c, 0, none⟩)] wd (RowPost (ghL R') wd) from ghosts_ca wd c T6 _ (k + 1) Ld.out.ca)
        go_wp2_with fail
        refine U4.out.mono ?_
        rintro e we ⟨ve, rfl, hO, hB⟩
        obtain ⟨ge, _, hRe⟩ := hO.row
        have Le := Lib.hid (Ld.out.below hB)
        have Ge := Lib.hid (Gd.out.below hB)
        have Ze := Lib.hid (Zd.out.below hB)
        have Ye := Lib.hid (Yd.out.below hB)
        rw [HG.out] at hRe
        obtain ⟨gg, hRg, _⟩ := Ge.out
        have U5 := Lib.hid (refSame_self we ge gg _ _ _ hRe hRg)
        clear hO hB hRe hRg Ld Gd Zd Yd U4
        go_wp2_with fail
        refine U5.out.mono ?_
        rintro e wf ⟨rfl, nf, hw⟩
        have bf : Below we.heap.size we wf := hw ▸ below_drewN we nf
        have Lf := Lib.hid (Le.out.below bf)
        have Zf := Lib.hid (Ze.out.below bf)
        have Yf := Lib.hid (Ye.out.below bf)
        clear hw bf Le Ge Ze Ye U5
        have U6 := Lib.hid (show Calls Try.prog 19 #[.pointer (some ⟨c, 0, none⟩)] wf (IntPost (p : Int) wf) from by
          have := share_ca wf c T6 _ (k + 1) Lf.out.ca
          rw [show (⟨s.mo, s.p, R'⟩ : St).p = p from HPP.out.symm] at this
          exact this)
        obtain ⟨z0, z1, _, _⟩ := Zf.out.cells
        obtain ⟨u0, u1, _, _⟩ := Yf.out.cells
        have hcc := HCT.out
        have hnn := HN.out
        have w1' : IntKind.i64.wrap ((y0 : Int) + (y1 : Int)) = (x : Int) := by rw [IntWalk.i64_in _ (by omega)]; omega
        have w2' : IntKind.i64.wrap ((n0 : Int) + (n1 : Int)) = (x : Int) := by rw [IntWalk.i64_in _ (by omega)]; omega
        have e12 : decide (y0 ≤ n0) = true := by simp; omega
        clear hcc hnn Zf Yf
        go_wp2_with fail
        refine U6.out.mono ?_
        rintro e wg ⟨rfl, rfl⟩
        go_wp2_with fail
        go_ret
        exact ⟨rfl, Lf.out.bel⟩

theorem walk_arcHits (a0 : Int) (v1 : Value) (a2 : Int) (w : World) (w0 : (Lit.int .i64 a0).wf = true) (w1 : CameS w v1) (w2 : (Lit.int .i64 a2).wf = true) : Calls Try.prog 6 #[.int .i64 a0, v1, .int .i64 a2] w (RetB true w) := by
  obtain ⟨A, n, c, rfl, hn, S, hr, hc⟩ := w1
  have hz := i64_rng w0
  have hz2 := i64_rng w2
  by_cases hok : n ≤ 200 ∧ 1 ≤ a0 ∧ a0 ≤ 1000 ∧ 0 ≤ a2
  · obtain ⟨h1, h3, h4, h5⟩ := hok
    obtain ⟨mo, rfl⟩ : ∃ m : Nat, a0 = (m : Int) := ⟨a0.toNat, by omega⟩
    obtain ⟨wh, rfl⟩ : ∃ m : Nat, a2 = (m : Int) := ⟨a2.toNat, by omega⟩
    exact hits_main mo wh A n c w S (by omega) (by omega) (by omega) h1 hr hc
  · have P := Lib.hid (show (decide (200 < (n : Int)) = true) ∨ (decide (200 < (n : Int)) = false ∧ decide (a0 < 1) = true) ∨ (decide (200 < (n : Int)) = false ∧ decide (a0 < 1) = false ∧ decide (1000 < a0) = true) ∨ (decide (200 < (n : Int)) = false ∧ decide (a0 < 1) = false ∧ decide (1000 < a0) = false ∧ decide (a2 < 0) = true) by
      simp only [decide_eq_true_eq, decide_eq_false_iff_not]; omega)
    unfold maxLen at hn
    clear hr hc w0 w2 hok
    rcases P.out with e0 | ⟨e0, e1⟩ | ⟨e0, e1, e2⟩ | ⟨e0, e1, e2, e3⟩
    all_goals
      go_enter Try.func6, Try.ntmps6
      go_wp2_with fail
      refine (awake_any _).mono ?_
      rintro e w0 ⟨rfl, hb0⟩
      go_wp2_with fail
      go_ret
      exact ⟨rfl, hb0⟩

namespace LArcHits
set_option maxRecDepth 100000 in
theorem lifted (os : Os) (started : os.Started) (H : Type) (enc : TypeId × Value → H) :
    ReturnsInHanded {} Try.checked os 6 .any (Rows.arcHitsSpec.pre6 enc Try.prog Try.f6 Rows.arcHitsRow.domain false) (Rows.arcHitsSpec.post enc Try.prog Try.f6 false true false false) := by
  refine returnsInHanded_of_change (C := Try.checked) own started (by kernel_rfl) Try.func6
    (ChangeSpec.witness6 (enc := enc) (C := Try.checked) false ⟨#[], #[.int .i64 0, .slice none 0 0, .int .i64 0], []⟩ 8 (by kernel_rfl) (by kernel_rfl) (by kernel_rfl) (by kernel_rfl)) ?_
  intro W base args ds gs before hval0 hW _ _
  have hval : ∀ (j : Nat) t v, Try.f6.params[j]? = some t → args[j]? = some v → Value.okWide Try.prog W .any base t v := hval0
  have hW' := hW
  obtain ⟨p, q, hA0, hV, rfl, hfz, hnd⟩ := hW
  have hA : DataW.TrodAll enc Try.prog W 0 (fun _ => true) true Try.f6.params.toList args.toList ds p := hA0
  rw [Try.params6] at hA hval
  obtain ⟨v0, vs0, d0, ds0, p0, q0, hargs, rfl, rfl, h0, r0⟩ := trodAll_cons hA
  obtain ⟨v1, vs1, d1, ds1, p1, q1, rfl, rfl, rfl, h1, r1⟩ := trodAll_cons r0
  obtain ⟨v2, vs2, d2, ds2, p2, q2, rfl, rfl, rfl, h2, r2⟩ := trodAll_cons r1
  obtain ⟨rfl, rfl, rfl⟩ := trodAll_nil r2
  obtain rfl : args = #[v0, v1, v2] := by cases args; simp_all
  obtain ⟨rfl, rfl⟩ := trodVars_none hV
  obtain ⟨a0, rfl, rfl, rfl, w0⟩ := open_int Try.underlying3 (hval 0 3 v0 rfl rfl) h0
  have k1 := h1
  have lt1 : ∀ x ∈ p1, x.block < W.heap.size := by obtain ⟨m, hm⟩ := k1; exact DataW.trod_lt m _ _ _ hm
  have w1 := open_z (hval 1 35 v1 rfl rfl) h1
  obtain ⟨a2, rfl, rfl, rfl, w2⟩ := open_int Try.underlying3 (hval 2 3 v2 rfl rfl) h2
  clear hA0 hval0
  refine (walk_arcHits a0 v1 a2 W w0 w1 w2).mono fun e W' ⟨he, bel⟩ => ?_
  subst he
  exact ⟨_, rfl, _, _, _, [], _, [], hW', trodAll_mk1 (shut_bool Try.underlying4 _), (trodAll_cons_mk (shut_int Try.underlying3 w0) (trodAll_cons_mk (Below.trod laidOut (by kernel_rfl) (of_decide_eq_true (by kernel_rfl)) k1 bel lt1) (trodAll_cons_mk (shut_int Try.underlying3 w2) trodAll_mk0))), rfl, bel.frame _, fun h => by cases h⟩

theorem said : Rows.ArcHitsSaid :=
  OpenClaim.holds_of_wide 6 Try.f6 rfl rfl rfl rfl rfl rfl rfl ⟨rfl, rfl, rfl, rfl, rfl⟩ rfl rfl rfl rfl rfl (by kernel_rfl) Try.func6 (by kernel_rfl)
    (of_decide_eq_true (by kernel_rfl)) (by unfold Func.isWrapper; rw [if_neg (of_decide_eq_false (by kernel_rfl))]; exact ⟨rfl, rfl⟩)
    (fun os started H enc _ => lifted os started H enc)
#print axioms said
end LArcHits
end Go.Proofs.Ytlmbeiijijkjeaa
