/- 'cachewiselaw10.LearnBounds' returns true for every kind, every size, every lane and every row of calls, and leaves what was there as it was. The listed variables read as the program's text lays them. -/
import Derived.Test.YtnlckkahkghneaaGreatDoorLz10
import Derived.Test.YtnlckkahkghneaaGreatDoorGFr
import Derived.Test.YtnlckkahkghneaaGreatDoorCards
import Derived.Test.YtnlckkahkghneaaGreatDoorTie
import Derived.SevenTiedAt
import Derived.Deep.DeepCutAuto
import Derived.Deep.CutBlock
import Derived.Deep.RegionHeld3
set_option maxRecDepth 20000
namespace Go.Proofs.YtnlckkahkghneaaGreatDoor.LE
open Go.ChangeShapes Go.WideShapes Go.ChangeAt Go.RowKit Sg
theorem whole_lit (w : World) (m n : Int) (q : Nat) (hm : m ≤ 1000) (hn : n ≤ 1000) (hq : FX.wq m n = q) : Calls Tryz.prog 42 #[.int .i64 m, .int .i64 n] w (fun e w' => ∃ c, e = .returned (.tuple #[.int .u64 (q : Int), c]) ∧ Below w.heap.size w w') := by
  subst hq
  refine (FX.refWhole_any m n w (by omega) (by omega)).mono ?_
  rintro e w' ⟨rfl, hB⟩
  exact ⟨_, rfl, hB⟩
def BdR (w0 : World) (l n mo : Nat) (six : Bool) (i : Value) (W : World) : Prop := ∃ (k : Nat) (T : Nat → Prop) (s : St) (b : Nat), i = .int .i64 (k : Int) ∧ k ≤ n ∧ b ≤ 4 * k ∧ LL w0 W l T s b ∧ s.mo = mo ∧ s.six = six
def BdS (w0 : World) (l k mo : Nat) (six : Bool) (W : World) : Prop := ∃ (T : Nat → Prop) (s : St) (b : Nat), b ≤ 4 * (k + 1) ∧ LL w0 W l T s b ∧ s.mo = mo ∧ s.six = six
def GoR (w0 : World) (l c mb gr j0 : Nat) (T : Nat → Prop) (s : St) (v : Value) (xs : List ByteArray) (i : Value) (W : World) : Prop := ∃ j : Nat, i = .int .i64 (j : Int) ∧ j ≤ j0 ∧ LBR w0 W l T s c mb gr v xs j
set_option maxHeartbeats 8000000 in
set_option maxRecDepth 100000 in
theorem learnBounds_main (six : Bool) (kd : Int) (mo : Nat) (vs : List Nat) (Al : Option Addr) (cl : Nat) (A : Option Addr) (n cc : Nat) (w : World) (K : Nat → Int) (S : Nat → ByteArray) (N : Nat → Int) (hkd : ((if six then 6 else 5 : Nat) : Int) = kd) (hmo : mo ≤ 1000) (hn : n ≤ maxLen) (hvl : vs.length ≤ 300)
    (hv : DR.Lane w 0 w.heap.size (.slice Al vs.length cl) vs) (hS : ∀ i, i < n → (-9223372036854775808 ≤ N i ∧ N i ≤ 9223372036854775807) ∧ (S i).size ≤ maxLen)
    (hc : 0 < n → ∃ g o, A = some ⟨g, o, none⟩ ∧ g < w.heap.size ∧ n ≤ cc ∧ cc ≤ maxLen ∧ ∀ i, i < n → w.cell? ⟨g, o + i * 3, none⟩ = some (.int .i64 (K i)) ∧ w.cell? ⟨g, o + i * 3 + 1, none⟩ = some (.string (S i)) ∧ w.cell? ⟨g, o + i * 3 + 2, none⟩ = some (.int .i64 (N i))) (hl : Laid w) :
    Calls Tryz.prog 4 #[.int .i64 kd, .int .i64 (mo : Int), .slice Al vs.length cl, .slice A n cc] w (RetB true w) := by
  have AW := Lib.hid (awake_any w hl)
  have MD := Lib.hid (fun (w1 : World) (hb : Below w.heap.size w w1) => show Calls Tryz.prog 41 #[.int .i64 kd, .int .i64 (mo : Int), .slice Al vs.length cl] w1 (LNew six mo vs w1) from by
    have := made_l w1 six mo _ vs (by omega) (DR.Lane.wide (hv.same fun k _ hk => hb.block k hk) (Nat.le_refl _) hb.size)
    rw [hkd] at this
    exact this)
  have g34 := fun (w : World) => LR.guard34 (w := w)
  have q34 := fun (w : World) (a : Bool) (s : ByteArray) (b : Bool) => LR.neq34 (w := w) (a := a) (s := s) (b := b)
  have hk56 : kd = 5 ∧ six = false ∨ kd = 6 ∧ six = true := by
    cases six with
    | true => exact Or.inr ⟨by rw [← hkd]; rfl, rfl⟩
    | false => exact Or.inl ⟨by rw [← hkd]; rfl, rfl⟩
  have g1 : decide (300 < (vs.length : Int)) = false := decide_eq_false (by omega)
  have g2 : decide (kd < 5) = false := decide_eq_false (by omega)
  have g3 : decide (6 < kd) = false := decide_eq_false (by omega)
  have g4 : decide ((mo : Int) < 0) = false := decide_eq_false (by omega)
  have g5 : decide (1000 < (mo : Int)) = false := decide_eq_false (by omega)
  have HC := Lib.hid hc
  have HS := Lib.hid hS
  have HN := Lib.hid hn
  generalize hvn : vs.length = vn at *
  have K56 := Lib.hid hk56
  clear hc hS hl hv hkd hk56 hn hvn
  go_enter Tryz.func4, Tryz.ntmps4
  go_wp2_with fail
  refine AW.out.mono ?_
  rintro e w0 ⟨rfl, hb0⟩
  have b0 := Lib.hid hb0; clear hb0
  go_wp2_with fail
  refine (few_any A n cc w0 S HN.out (fun i hi => (HS.out i hi).2) (fun h => by
    obtain ⟨g, o, h1, h2, h3, h4, h5⟩ := HC.out h
    exact ⟨g, o, h1, Nat.lt_of_lt_of_le h2 b0.out.size, h3, h4, fun i hi => (b0.out.cell (p := ⟨g, o + i * 3 + 1, none⟩) h2).trans (h5 i hi).2.1⟩)).mono ?_
  rintro e w0' ⟨t, rfl, rfl, ht⟩
  cases t with
  | false =>
    go_wp2_with fail
    go_ret
    exact ⟨rfl, b0.out⟩
  | true =>
  have hn := ht rfl
  clear ht
  go_wp2_with fail
  refine (MD.out w0 b0.out).mono ?_
  rintro e w1 ⟨p, U1, rfl, hC, hT, hB⟩
  have L1 := Lib.hid (LL.made b0.out hC hT hB)
  clear hC hT hB b0 MD
  go_wp2_with fail
  clear g1 g2 g3 g4 g5
  refine (whole_lit w1 1 100 46116860184273879 (by omega) (by omega) (by decide)).mono ?_
  rintro e w2 ⟨c2, rfl, hB⟩
  have L2 := Lib.hid (L1.out.below hB)
  clear hB L1
  go_wp2_with fail
  refine (whole_lit w2 1 1000 4611686018427387 (by omega) (by omega) (by decide)).mono ?_
  rintro e w3 ⟨c3, rfl, hB⟩
  have L3 := Lib.hid (L2.out.below hB)
  clear hB L2
  go_wp2_with fail
  obtain ⟨r0, hr0⟩ : ∃ r, FX.wq 45 100 = r := ⟨_, rfl⟩
  have W3 := Lib.hid (whole_lit w3 45 100 r0 (by omega) (by omega) hr0)
  have R0 := Lib.hid (show Fx.quo 45 100 = r0 from (start_val.trans (show FX.wq 45 100 = 2075258708292324556 from by decide).symm).trans hr0)
  clear hr0
  refine W3.out.mono ?_
  rintro e w4 ⟨c4, rfl, hB⟩
  have L4 := Lib.hid (L3.out.below hB)
  clear hB L3 W3
  go_wp2_with fail
  go_loopw [16] (fun i W => BdR w p n mo six i W) (fun i _ => n - (intOf i).toNat)
  case atStart => exact ⟨0, U1, St.start six mo vs, 0, rfl, Nat.zero_le _, Nat.le_refl _, L4.out, rfl, rfl⟩
  case round =>
    obtain ⟨k, U1, st, b, rfl, hk, hbk, hL, hsm, hs6⟩ := hrel
    have HL := Lib.hid hL
    have SM := Lib.hid (And.intro hsm hs6)
    clear hL L4 hsm hs6
    by_cases hlt : k < n
    · have e0 : decide (k < n) = true := by simpa using hlt
      obtain ⟨g, o, rfl, hg, hc1, hc2, hcell⟩ := HC.out (by omega)
      have hc3 := hcell k hlt
      have h1 := (HL.out.bel.cell (p := ⟨g, o + k * 3, none⟩) hg).trans hc3.1
      have h2 := (HL.out.bel.cell (p := ⟨g, o + k * 3 + 1, none⟩) hg).trans hc3.2.1
      have h3 := (HL.out.bel.cell (p := ⟨g, o + k * 3 + 2, none⟩) hg).trans hc3.2.2
      have hsk := (HS.out k hlt).2
      clear hcell hc3
      unfold maxLen at hc2
      have SL := Lib.hid (HL.out.below ((Below.refl wr.heap.size wr).alloc (Nat.le_refl _) (.cells #[.int .i64 (K k), .string (S k), .int .i64 (N k)] 55)))
      have SA := Lib.hid (show (wr.alloc (.cells #[.int .i64 (K k), .string (S k), .int .i64 (N k)] 55)).heap[wr.heap.size]? = some (.cells #[.int .i64 (K k), .string (S k), .int .i64 (N k)] 55 (0, 0)) ∧ wr.heap.size < (wr.alloc (.cells #[.int .i64 (K k), .string (S k), .int .i64 (N k)] 55)).heap.size ∧ ¬ U1 wr.heap.size from ⟨heap_alloc_new _ _, by simp, fun e => by have := HL.out.lt _ e; omega⟩)
      have HSK := Lib.hid hsk
      clear hsk
      go_upto_block 2 with fail
      clear h1 h2 h3 HL
      generalize wr.alloc (.cells #[.int .i64 (K k), .string (S k), .int .i64 (N k)] 55) = w6 at SL SA ⊢
      generalize wr.heap.size = ga at SA ⊢
      generalize S k = key at SA HSK ⊢
      generalize K k = kk at SA ⊢
      generalize N k = nn at SA ⊢
      have d0 : w6.cell? ⟨ga, 0, none⟩ = some (.int .i64 kk) := cell_of_row _ _ 0 _ _ _ SA.out.1
      have d1 : w6.cell? ⟨ga, 1, none⟩ = some (.string key) := cell_of_row _ _ 1 _ _ _ SA.out.1
      go_cut [] (fun W => BdS w p k mo six W)
      case rest =>
        clear d0 d1 SL SA
        obtain ⟨T9, s9, b9, hb9, hL9, hk9⟩ := hcut
        have SL9 := Lib.hid hL9
        have NX := Lib.hid (show s9.mo = mo ∧ s9.six = six from hk9)
        have BB := Lib.hid hb9
        clear hL9 hk9 hb9
        go_wp2_with fail
        refine (ghosts_l _ p _ s9 _ SL9.out.ca).mono ?_
        rintro e q1 ⟨v1, rfl, hO, hB⟩
        obtain ⟨A1, c1, rfl⟩ := hO.len
        obtain ⟨g1, _, hr1⟩ := hO.row
        have LG := Lib.hid (SL9.out.below hB)
        have OK := Lib.hid LG.out.ca.ok
        have hgl := gho_len OK.out
        rw [NX.out.1] at hgl
        have GS := Lib.hid (show ∀ x ∈ s9.ghosts, x.size ≤ maxLen ∧ s9.has x = false from fun x hx => ⟨LG.out.ca.smallG x hx, gho_no OK.out hx⟩)
        have GN := Lib.hid (show s9.ghosts.Nodup from OK.out.nd)
        have LX := Lib.hid (LBR.made LG.out hr1)
        have h2 := @run_makeMap Tryz.prog
        clear hB hO hr1 SL9
        generalize hxs : s9.ghosts = xs at *
        obtain ⟨gl, hgl2⟩ : ∃ m, m = xs.length := ⟨_, rfl⟩
        rw [← hgl2] at hgl ⊢
        have HGL := Lib.hid hgl2
        clear hgl2 hxs
        go_upto_region 30 with fail
        clear h2
        generalize q1.alloc (.map #[] 0) = q2 at LX ⊢
        generalize q1.heap.size = mb at LX ⊢
        go_wp2_with fail
        go_loopw [21] (fun i W => GoR w p b9 mb g1 gl _ s9 (.slice A1 gl c1) xs i W) (fun i _ => gl - (intOf i).toNat)
        case atStart => exact ⟨0, rfl, Nat.zero_le _, by rw [HGL.out]; exact LX.out⟩
        case round =>
          obtain ⟨j, rfl, hj, hJ⟩ := hrel
          have LJ := Lib.hid hJ
          clear hJ LX LG
          by_cases hlt2 : j < gl
          · have e0 : decide (j < gl) = true := by simpa using hlt2
            have hjx : j < xs.length := by rw [← HGL.out]; exact hlt2
            obtain ⟨o1, hA1, hg1, hcl, hc3, hc4⟩ := LJ.out.row.at hjx
            subst hA1
            rw [← HGL.out] at hc3
            have hmem : xs.getD j ⟨#[]⟩ ∈ xs := by rw [List.getD_eq_getElem?_getD, List.getElem?_eq_getElem hjx]; exact List.getElem_mem hjx
            obtain ⟨hs1, hs2⟩ := GS.out _ hmem
            have hno := take_new GN.out hjx
            obtain ⟨y, hy⟩ : ∃ y, y = xs.getD j ⟨#[]⟩ := ⟨_, rfl⟩
            rw [← hy] at hs1 hs2 hno hcl
            have HY := Lib.hid (And.intro hy hjx)
            have HS1 := Lib.hid hs1
            have UH := has_l wr p _ s9 _ LJ.out.lb.lv.ca y hs1
            rw [hs2] at UH
            have UH := Lib.hid UH
            have HNO := Lib.hid hno
            have CL := Lib.hid hcl
            unfold maxLen at hc4 hs1
            clear hmem hjx hs2 hy hno
            go_wp2_with fail
            refine UH.out.mono ?_
            rintro e q3 ⟨rfl, hB⟩
            have L3 := Lib.hid (LJ.out.below hB)
            have hcl3 := (hB.cell (p := ⟨g1, o1 + j, none⟩) hg1).trans CL.out
            have LK := L3.out.lb.map.look HS1.out
            try simp only at LK
            rw [HNO.out] at LK
            obtain ⟨q4, hrun, hS⟩ := L3.out.store HY.out.2 HY.out.1 HS1.out (by omega)
            have L4 := Lib.hid hS
            clear hB UH LJ hS hcl
            go_wp2_with fail
            go_roundw
            case rel => exact ⟨j + 1, by go_num, by omega, L4.out⟩
            case measure => simp [intOf]; omega
          · have e0 : decide (j < gl) = false := by simpa using hlt2
            have C9 := Lib.hid (fun (W : World) (hB : Below wr.heap.size wr W) => LJ.out.lb.lv.below hB)
            have B0 := Lib.hid (Below.refl wr.heap.size wr)
            obtain ⟨sw, hsw⟩ : ∃ x, x = s9.w := ⟨_, rfl⟩
            obtain ⟨sr, hsr⟩ : ∃ x, x = s9.rate := ⟨_, rfl⟩
            obtain ⟨kl, hkl⟩ : ∃ x, x = s9.keys.length := ⟨_, rfl⟩
            have b1 := OK.out.wl
            have b2 := OK.out.wh
            have b3 := OK.out.rl
            have b4 := OK.out.rh
            have b5 : s9.keys.length ≤ s9.mo := OK.out.le
            have b6 : six = false → s9.rate = Fx.quo 45 100 := fun h => OK.out.r5 (NX.out.2.trans h)
            rw [← hsw] at b1 b2
            rw [← hsr] at b3 b4 b6
            rw [← hkl, NX.out.1] at b5
            rw [least_val] at b1 b2
            rw [slow_val] at b3
            rw [R0.out] at b6
            unfold one at b2 b4
            have f1 : decide ((sw : Int) < 46116860184273879) = false := decide_eq_false (by omega)
            have f2 : decide (4565569158243114025 < (sw : Int)) = false := decide_eq_false (by omega)
            have f3 : decide ((sr : Int) < 4611686018427387) = false := decide_eq_false (by omega)
            have f4 : decide (4611686018427387904 < (sr : Int)) = false := decide_eq_false (by omega)
            have f1' : decide (sw < 46116860184273879) = false := decide_eq_false (by omega)
            have f2' : decide (4565569158243114025 < sw) = false := decide_eq_false (by omega)
            have f3' : decide (sr < 4611686018427387) = false := decide_eq_false (by omega)
            have f4' : decide (4611686018427387904 < sr) = false := decide_eq_false (by omega)
            have f5 : decide ((mo : Int) < (kl : Int)) = false := decide_eq_false (by omega)
            obtain ⟨tm, htm⟩ : ∃ t : Nat, t = 2 * mo := ⟨_, rfl⟩
            have f6 : decide ((tm : Int) < (gl : Int)) = false := decide_eq_false (by omega)
            have f8 : decide (tm < gl) = false := decide_eq_false (by omega)
            have f9 : decide (mo < kl) = false := decide_eq_false (by omega)
            have f7 : IntKind.i64.wrap (2 * (mo : Int)) = (tm : Int) := by rw [IntWalk.i64_in _ (by omega)]; omega
            have hq : IntKind.u64.wrap (4611686018427387904 - 46116860184273879) = 4565569158243114025 := by decide
            have WV := Lib.hid (show ∀ W, Below wr.heap.size wr W → Calls Tryz.prog 39 #[.pointer (some ⟨p, 0, none⟩)] W (Told (.int .u64 (sw : Int)) W) from fun W hB => by rw [hsw]; exact weight_l W p _ s9 _ (C9.out W hB).ca)
            have RV := Lib.hid (show ∀ W, Below wr.heap.size wr W → Calls Tryz.prog 40 #[.pointer (some ⟨p, 0, none⟩)] W (Told (.int .u64 (sr : Int)) W) from fun W hB => by rw [hsr]; exact rate_l W p _ s9 _ (C9.out W hB).ca)
            have KV := Lib.hid (show ∀ W, Below wr.heap.size wr W → Calls Tryz.prog 33 #[.pointer (some ⟨p, 0, none⟩)] W (Told (.int .i64 (kl : Int)) W) from fun W hB => by rw [hkl]; exact len_l W p _ s9 _ (C9.out W hB).ca)
            have B6 := Lib.hid b6
            clear hsw hsr hkl b1 b2 b3 b4 b5 b6 htm hgl
            rcases K56.out with ⟨hk5, hs5⟩ | ⟨hk5, hs5⟩
            all_goals
              try
                have hr5 := B6.out hs5
                subst hr5
              subst hk5
              go_wp2_with fail
              refine (WV.out _ B0.out).mono ?_
              rintro e r1 ⟨rfl, hB⟩
              have B1 := Lib.hid (B0.out.trans (hB.mono B0.out.size))
              clear hB
              go_wp2_with fail
              refine (WV.out _ B1.out).mono ?_
              rintro e r2 ⟨rfl, hB⟩
              have B2 := Lib.hid (B1.out.trans (hB.mono B1.out.size))
              clear hB
              go_wp2_with fail
              refine (RV.out _ B2.out).mono ?_
              rintro e r3 ⟨rfl, hB⟩
              have B3 := Lib.hid (B2.out.trans (hB.mono B2.out.size))
              clear hB
              go_wp2_with fail
              refine (RV.out _ B3.out).mono ?_
              rintro e r4 ⟨rfl, hB⟩
              have B4 := Lib.hid (B3.out.trans (hB.mono B3.out.size))
              clear hB
              go_wp2_with fail
              refine (KV.out _ B4.out).mono ?_
              rintro e r5 ⟨rfl, hB⟩
              have B5 := Lib.hid (B4.out.trans (hB.mono B4.out.size))
              clear hB
              go_wp2_with fail
              first
              | (refine (RV.out _ B5.out).mono ?_
                 rintro e r6 ⟨rfl, hB⟩
                 have B7 := Lib.hid (B5.out.trans (hB.mono B5.out.size))
                 clear hB
                 go_wp2_with fail
                 go_roundw
                 case rel => exact ⟨k + 1, _, s9, b9, by go_num, by omega, BB.out, C9.out _ B7.out, NX.out⟩
                 case measure => simp [intOf]; omega)
              | (go_roundw
                 case rel => exact ⟨k + 1, _, s9, b9, by go_num, by omega, BB.out, C9.out _ B5.out, NX.out⟩
                 case measure => simp [intOf]; omega)
      by_cases k0 : kk = 0
      · as_aux_lemma =>
          subst k0
          have hok := SL.out.ca.ok
          obtain ⟨r1, r2, r3⟩ := req_bd hok key
          rw [SM.out.1] at r2
          have U := request_l w6 p U1 st b SL.out.ca key HSK.out (by omega)
          have KPR := req_keep st key
          rw [SM.out.1, SM.out.2] at KPR
          unfold St.step at U
          have VS := Lib.hid (show st.outB key = true → (st.vicV key).size ≤ maxLen from fun e => SL.out.ca.small _ (r3 e).2)
          obtain ⟨hit, hh⟩ : ∃ x, x = st.has key := ⟨_, rfl⟩
          obtain ⟨out, ho⟩ : ∃ x, x = st.outB key := ⟨_, rfl⟩
          obtain ⟨vk, hvk⟩ : ∃ x, x = st.vicV key := ⟨_, rfl⟩
          rw [← hh, ← ho, ← hvk] at U
          rw [← hh, ← ho] at r1
          rw [← ho, ← hvk] at r3
          rw [← ho, ← hvk] at VS
          have U := Lib.hid U
          have R2 := Lib.hid r2
          have R3 := Lib.hid r3
          have KPR := Lib.hid (And.intro KPR.2 KPR.1)
          have ways : (hit = true ∧ out = false) ∨ (hit = false ∧ out = false) ∨ (hit = false ∧ out = true) := by
            cases hit with
            | true => exact Or.inl ⟨rfl, r1 rfl⟩
            | false => cases out with
                       | true => exact Or.inr (Or.inr ⟨rfl, rfl⟩)
                       | false => exact Or.inr (Or.inl ⟨rfl, rfl⟩)
          have WAYS := Lib.hid ways
          clear hok r1 r2 r3 hh ho hvk ways
          go_wp2_with fail
          refine U.out.mono ?_
          intro e w7 hp
          obtain ⟨rfl, U7, h7, hW7⟩ := SL.out.op hp
          have L8 := Lib.hid (h7.below ((Below.refl w7.heap.size w7).alloc (Nat.le_refl _) (.cells #[.bool hit, .string vk, .bool out] 57)))
          have B8 := Lib.hid (show LR.Box (w7.alloc (.cells #[.bool hit, .string vk, .bool out] 57)) w7.heap.size hit vk out from heap_alloc_new _ _)
          have A8 := Lib.hid (went_out10 hW7 SA.out.2.1 SA.out.2.2)
          have C8 := Lib.hid (show (w7.alloc (.cells #[.bool hit, .string vk, .bool out] 57)).cell? ⟨ga, 1, none⟩ = some (.string key) from by
            have e1 : (w7.alloc (.cells #[.bool hit, .string vk, .bool out] 57)).heap[ga]? = w6.heap[ga]? := (Below.heap_alloc _ _ _ (Nat.lt_of_lt_of_le SA.out.2.1 hW7.turn.size)).trans A8.out.1
            exact cell_of_row _ _ 1 _ _ _ (e1.trans SA.out.1))
          clear hp h7 hW7 U SL d0 A8
          go_upto_region 18 with fail
          generalize w7.alloc (.cells #[.bool hit, .string vk, .bool out] 57) = w8 at L8 B8 C8 ⊢
          generalize w7.heap.size = sb at B8 ⊢
          generalize st.req key = s8 at *
          obtain ⟨x1, x2, x3, _, _⟩ := B8.out.cells
          have x4 := C8.out
          have hmz : mo = 0 ∨ 0 < mo := by omega
          have HMZ := Lib.hid hmz
          clear hmz
          rcases HMZ.out with hz | hz
          all_goals
            first
            | have e5 : decide (0 < mo) = false := decide_eq_false (by omega)
            | have e5 : decide (0 < mo) = true := decide_eq_true hz
            have e6 : decide ((0 : Int) < (mo : Int)) = decide (0 < mo) := by rw [Bool.eq_iff_iff]; simp
            rw [e5] at e6
            have HZ := Lib.hid hz
            clear hz
            rcases WAYS.out with ⟨rfl, rfl⟩ | ⟨rfl, rfl⟩ | ⟨rfl, rfl⟩
            all_goals
              go_wp2_with fail
              try
                have VH := has_l w8 p _ s8 _ L8.out.ca key HSK.out
                rw [R2.out (by have := HZ.out; omega)] at VH
                have VH := Lib.hid VH
                refine VH.out.mono ?_
                rintro e w9 ⟨rfl, hB⟩
                have L8 := Lib.hid (L8.out.below hB)
                replace x1 := (hB.cell (p := ⟨sb, 0, none⟩) (World.block_lt_of_cell? _ _ x1)).trans x1
                replace x2 := (hB.cell (p := ⟨sb, 1, none⟩) (World.block_lt_of_cell? _ _ x2)).trans x2
                replace x3 := (hB.cell (p := ⟨sb, 2, none⟩) (World.block_lt_of_cell? _ _ x3)).trans x3
                clear hB VH
                go_wp2_with fail
              try
                have VH := has_l _ p _ s8 _ L8.out.ca vk (VS.out (by first | rfl | trivial))
                rw [(R3.out (by first | rfl | trivial)).1] at VH
                have VH := Lib.hid VH
                refine VH.out.mono ?_
                rintro e wa ⟨rfl, hB⟩
                have L8 := Lib.hid (L8.out.below hB)
                clear hB VH
                go_wp2_with fail
              have SL9 := Lib.hid (show LL w _ p U7 s8 (b + 4) from L8.out)
              clear x1 x2 x3 x4 L8 B8 C8 SA
              try go_wp2_with fail
              go_meet
              exact ⟨_, s8, (b + 4), by omega, SL9.out, KPR.out⟩
      by_cases k1 : kk = 1
      · as_aux_lemma =>
          subst k1
          clear k0
          have U := Lib.hid (remove_l w6 p U1 st b SL.out.ca key HSK.out)
          have RH := Lib.hid (rm_has SL.out.ca.ok key)
          have CK := Lib.hid (show ∀ W T', Went w6 W U1 T' → W.cell? ⟨ga, 1, none⟩ = some (.string key) from fun W T' hW => cell_of_row _ _ 1 _ _ _ ((went_out10 hW SA.out.2.1 SA.out.2.2).1.trans SA.out.1))
          go_wp2_with fail
          refine U.out.mono ?_
          intro e w7 hp
          obtain ⟨rfl, U7, h7, hW7⟩ := SL.out.op hp
          have L7 := Lib.hid h7
          have d7 := CK.out w7 U7 hW7
          have VH := has_l w7 p _ _ _ L7.out.ca key HSK.out
          rw [RH.out] at VH
          have VH := Lib.hid VH
          clear hp h7 hW7 U SL d0 d1
          go_wp2_with fail
          refine VH.out.mono ?_
          rintro e w8 ⟨rfl, hB⟩
          have SL9 := Lib.hid (L7.out.below hB)
          clear hB VH L7 d7 SA CK RH
          try go_wp2_with fail
          go_meet
          exact ⟨_, (st.rm key), b, by omega, SL9.out, SM.out⟩
      by_cases k2 : kk = 2
      · as_aux_lemma =>
          subst k2
          clear k0 k1
          have U := Lib.hid (adopt_l w6 p U1 st b SL.out.ca key HSK.out (by omega))
          go_wp2_with fail
          refine U.out.mono ?_
          intro e w7 hp
          obtain ⟨rfl, U7, h7, hW7⟩ := SL.out.op hp
          have SL9 := Lib.hid h7
          clear hp h7 hW7 U SL d0 d1 SA
          try go_wp2_with fail
          go_meet
          exact ⟨_, (adP st key), (b + 1), by omega, SL9.out, ⟨(keep_ad st key).2.trans SM.out.1, (keep_ad st key).1.trans SM.out.2⟩⟩
      by_cases k3 : kk = 3
      · as_aux_lemma =>
          subst k3
          clear k0 k1 k2
          have U := Lib.hid (drop_l w6 p U1 st b SL.out.ca)
          go_wp2_with fail
          refine U.out.mono ?_
          intro e w7 hp
          obtain ⟨rfl, U7, h7, hW7⟩ := SL.out.op hp
          have SL9 := Lib.hid h7
          clear hp h7 hW7 U SL d0 d1 SA
          generalize (.tuple #[.string st.vic, .bool st.any] : Value) = tv
          try go_wp2_with fail
          go_meet
          exact ⟨_, st.dr, b, by omega, SL9.out, ⟨(keep_dr st).2.trans SM.out.1, (keep_dr st).1.trans SM.out.2⟩⟩
      have SL9 := SL
      clear SL d1 SA
      try go_wp2_with fail
      go_meet
      exact ⟨_, st, b, by omega, SL9.out, SM.out⟩
    · have e0 : decide (k < n) = false := by simpa using hlt
      go_wp2_with fail
      go_ret
      exact ⟨rfl, HL.out.bel⟩
end Go.Proofs.YtnlckkahkghneaaGreatDoor.LE
namespace Go.Proofs.YtnlckkahkghneaaGreatDoor
open Go.ChangeShapes Go.WideShapes Go.ChangeAt Go.RowKit Sg
open Go.ChangeMaps (open_string shut_string)
theorem walk_learnBounds (a0 a1 : Int) (v2 v3 : Value) (w : World) (w0 : (Lit.int .i64 a0).wf = true) (w1 : (Lit.int .i64 a1).wf = true) (wr : CameR w v2) (wk : CameA w v3) (hl : Laid w) : Calls Tryz.prog 4 #[.int .i64 a0, .int .i64 a1, v2, v3] w (LE.RetB true w) := by
  obtain ⟨A, n, c, rfl, hn, K, S, N, hr, hc⟩ := wk
  obtain ⟨Al, nl, cl, rfl, hnl, vs, hvs⟩ := pick_lane wr
  have hz0 := i64_rng w0
  have hz1 := i64_rng w1
  by_cases hok : ¬ 300 < (nl : Int) ∧ ¬ a0 < 5 ∧ ¬ 6 < a0 ∧ ¬ a1 < 0 ∧ ¬ 1000 < a1
  · obtain ⟨q0, q1, q2, q3, q4⟩ := hok
    obtain ⟨mo, rfl⟩ : ∃ m : Nat, a1 = (m : Int) := ⟨a1.toNat, by omega⟩
    obtain ⟨six, hsix⟩ := LE.kd_six (a := a0) (by omega)
    obtain ⟨hv1, hv2⟩ := hvs (by omega)
    subst hv1
    exact LE.learnBounds_main six a0 mo vs Al cl A n c w K S N hsix (by omega) hn (by omega) hv2 hr hc hl
  · have PW := Lib.hid (show (decide (300 < (nl : Int)) = true) ∨ (decide (300 < (nl : Int)) = false ∧ decide (a0 < 5) = true) ∨ (decide (300 < (nl : Int)) = false ∧ decide (a0 < 5) = false ∧ decide (6 < a0) = true) ∨ (decide (300 < (nl : Int)) = false ∧ decide (a0 < 5) = false ∧ decide (6 < a0) = false ∧ decide (a1 < 0) = true) ∨ (decide (300 < (nl : Int)) = false ∧ decide (a0 < 5) = false ∧ decide (6 < a0) = false ∧ decide (a1 < 0) = false ∧ decide (1000 < a1) = true) from by
      simp only [decide_eq_true_eq, decide_eq_false_iff_not]; omega)
    have AW := Lib.hid (LE.awake_any w hl)
    have HC := Lib.hid hc
    have HN := Lib.hid hn
    have HR := Lib.hid hr
    unfold maxLen at hnl
    clear hc w0 w1 hok hn hr hl hz0 hz1 hvs wr
    rcases PW.out with e0 | ⟨e0, e1⟩ | ⟨e0, e1, e2⟩ | ⟨e0, e1, e2, e3⟩ | ⟨e0, e1, e2, e3, e4⟩
    all_goals
      clear PW
      go_enter Tryz.func4, Tryz.ntmps4
      go_wp2_with fail
      refine AW.out.mono ?_
      rintro e w0 ⟨rfl, hb0⟩
      have b0 := Lib.hid hb0; clear hb0
      go_wp2_with fail
      refine (LE.few_any A n c w0 S HN.out (fun i hi => (HR.out i hi).2) (fun h => by
        obtain ⟨g, o, h1, h2, h3, h4, h5⟩ := HC.out h
        exact ⟨g, o, h1, Nat.lt_of_lt_of_le h2 b0.out.size, h3, h4, fun i hi => (b0.out.cell (p := ⟨g, o + i * 3 + 1, none⟩) h2).trans (h5 i hi).2.1⟩)).mono ?_
      rintro e w0' ⟨t, rfl, rfl, ht⟩
      cases t with
      | false =>
        go_wp2_with fail
        go_ret
        exact ⟨rfl, b0.out⟩
      | true =>
        go_wp2_with fail
        go_ret
        exact ⟨rfl, b0.out⟩

namespace LLearnBounds
set_option maxRecDepth 100000 in
theorem lifted (os : Os) (started : os.Started) (H : Type) (enc : TypeId × Value → H) :
    ReturnsInHanded {} Tryz.checked os 4 .any (fun w args => (Rows.learnBoundsSpec.pre enc Tryz.prog Tryz.f4 [] false w args ∧ laidMetH Tryz.prog seatLaid w) ∧ sizedMet enc Tryz.prog Tryz.f4 (OpenSpec.ofChange Rows.learnBoundsSpec) false w args)
      (Rows.learnBoundsSpec.post enc Tryz.prog Tryz.f4 false true false false) := by
  refine returnsInHanded_of_change_and (C := Tryz.checked) (X := fun w _ => laidMetH Tryz.prog seatLaid w) (fun _ _ _ hh h => h.of_heap hh) own started (by kernel_rfl) Tryz.func4
    (ChangeSpec.witness_at (enc := enc) (C := Tryz.checked) (os := os) (X := fun w _ => laidMetH Tryz.prog seatLaid w) false (laidWorld os) #[.int .i64 0, .int .i64 0, .slice none 0 0, .slice none 0 0] 8 rfl (by kernel_rfl) (by kernel_rfl) (by kernel_rfl) (by kernel_rfl) (by kernel_rfl) (laidWorld_met os _)) ?_
  intro W base args ds gs before hval0 hW _ _ hL _
  have hval : ∀ (j : Nat) t v, Tryz.f4.params[j]? = some t → args[j]? = some v → Value.okWide Tryz.prog W .any base t v := hval0
  have hW' := hW
  obtain ⟨p, q, hA0, hV, rfl, hfz, hnd⟩ := hW
  have hA : DataW.TrodAll enc Tryz.prog W 0 (fun _ => true) true Tryz.f4.params.toList args.toList ds p := hA0
  rw [Tryz.params4] at hA hval
  obtain ⟨v0, vs0, d0, ds0, p0, q0, hargs, rfl, rfl, h0, r0⟩ := trodAll_cons hA
  obtain ⟨v1, vs1, d1, ds1, p1, q1, rfl, rfl, rfl, h1, r1⟩ := trodAll_cons r0
  obtain ⟨v2, vs2, d2, ds2, p2, q2, rfl, rfl, rfl, h2, r2⟩ := trodAll_cons r1
  obtain ⟨v3, vs3, d3, ds3, p3, q3, rfl, rfl, rfl, h3, r3⟩ := trodAll_cons r2
  obtain ⟨rfl, rfl, rfl⟩ := trodAll_nil r3
  obtain rfl : args = #[v0, v1, v2, v3] := by cases args; simp_all
  obtain ⟨rfl, rfl⟩ := trodVars_none hV
  obtain ⟨a0, rfl, rfl, rfl, w0⟩ := open_int Tryz.underlying3 (hval 0 3 v0 rfl rfl) h0
  obtain ⟨a1, rfl, rfl, rfl, w1⟩ := open_int Tryz.underlying3 (hval 1 3 v1 rfl rfl) h1
  have k2 := h2
  have lt2 : ∀ x ∈ p2, x.block < W.heap.size := by obtain ⟨m, hm⟩ := k2; exact DataW.trod_lt m _ _ _ hm
  have w2 := open_r (hval 2 22 v2 rfl rfl) h2
  have k3 := h3
  have lt3 : ∀ x ∈ p3, x.block < W.heap.size := by obtain ⟨m, hm⟩ := k3; exact DataW.trod_lt m _ _ _ hm
  have w3 := open_a (hval 3 23 v3 rfl rfl) h3
  clear hA0 hval0
  refine (walk_learnBounds a0 a1 v2 v3 W w0 w1 w2 w3 (laid_of hL)).mono fun e W' ⟨he, bel⟩ => ?_
  subst he
  exact ⟨_, rfl, _, _, _, [], _, [], hW', trodAll_mk1 (shut_bool Tryz.underlying4 _), (trodAll_cons_mk (shut_int Tryz.underlying3 w0) (trodAll_cons_mk (shut_int Tryz.underlying3 w1) (trodAll_cons_mk (Below.trod laidOut (by kernel_rfl) (of_decide_eq_true (by kernel_rfl)) k2 bel lt2) (trodAll_cons_mk (Below.trod laidOut (by kernel_rfl) (of_decide_eq_true (by kernel_rfl)) k3 bel lt3) trodAll_mk0)))), rfl, bel.frame _, fun h => by cases h⟩

theorem band {x y : Bool} (h : x = true) (k : y = true) : (x && y) = true := by rw [h, k]; rfl
set_option maxRecDepth 100000
theorem cj0 : (Rows.learnBoundsRow.wf (OpenSpec.ofChange Rows.learnBoundsSpec)) = true := by kernel_rfl
theorem cj1 : (laidOutB Tryz.pinned.checked.prog) = true := by kernel_rfl
theorem cj2 : (mapsRowed Tryz.pinned.checked.prog) = true := by kernel_rfl
theorem cj9 : (Rows.learnBoundsRow.inPlace == Tryz.pinned.checked.prog.inPlace 4) = true := by kernel_rfl
theorem cj10 : (Rows.learnBoundsRow.unfollowed == Tryz.pinned.checked.prog.unfollowed 4) = true := by kernel_rfl
theorem cj11 : (Rows.learnBoundsRow.recurses == Tryz.pinned.checked.prog.recurses 4) = true := by kernel_rfl
theorem cj12 : (Rows.learnBoundsRow.named == Tryz.pinned.checked.prog.varsNamed 4) = true := by kernel_rfl
theorem cj22 : (Rows.learnBoundsRow.plainKeys == Tryz.pinned.checked.prog.plainKeys) = true := by kernel_rfl
theorem cj24 : (Tryz.pinned.checked.prog.stopsHeard) = true := by kernel_rfl
theorem cj25 : (Tryz.pinned.checked.prog.mayEnter) = true := by kernel_rfl
theorem cj26 : (Rows.learnBoundsRow.lifted == Tryz.pinned.checked.prog.liftsFinal) = true := by kernel_rfl
theorem cj27 : (Tryz.pinned.checked.prog.make == some Rows.learnBoundsRow.make) = true := by kernel_rfl
theorem closed : joinedFacts Tryz.pinned.checked.prog 4 Tryz.f4 Rows.learnBoundsSpec Rows.learnBoundsRow = true := by
  unfold joinedFacts
  exact band (band (band (band (band (band (band (band (band (band (band (band (band (band (band (band (band (band (band (band (band (band (band (band (band (band (band (band (band (band (band (cj0) cj1) cj2) (by kernel_rfl)) (by kernel_rfl)) (by kernel_rfl)) (by kernel_rfl)) (by kernel_rfl)) (by kernel_rfl)) cj9) cj10) cj11) cj12) (by kernel_rfl)) (by kernel_rfl)) (by kernel_rfl)) (by kernel_rfl)) (by kernel_rfl)) (by kernel_rfl)) (by kernel_rfl)) (by kernel_rfl)) (by kernel_rfl)) cj22) (by kernel_rfl)) cj24) cj25) cj26) cj27) (by kernel_rfl)) (by kernel_rfl)) (by kernel_rfl)) (by kernel_rfl)
theorem fnm : Tryz.pinned.checked.prog.funcNamed "cachewise/cachewiselaw10.LearnBounds" = some 4 := by kernel_rfl
theorem isIn : Tryz.f4.isInstance Tryz.pinned.checked.prog Rows.learnBoundsRow.origin Rows.learnBoundsRow.targs := of_decide_eq_true (by kernel_rfl)
theorem isWr : Tryz.f4.isWrapper Tryz.pinned.checked.prog Rows.learnBoundsRow.wrapper Rows.learnBoundsRow.mainSum := by unfold Func.isWrapper; rw [if_neg (of_decide_eq_false (by kernel_rfl))]; exact ⟨rfl, rfl⟩
theorem said : Rows.LearnBoundsSaid :=
  OpenClaim.holds_of_wide 4 Tryz.f4 rfl rfl rfl rfl rfl rfl rfl ⟨rfl, rfl, rfl, rfl, rfl⟩ rfl rfl rfl rfl rfl fnm Tryz.func4 closed isIn isWr
    (fun os started H enc _ => lifted os started H enc)

theorem hwT : Rows.learnBoundsRow.wfByText (OpenSpec.ofChange Rows.learnBoundsSpec) = true := by kernel_rfl
theorem mnI : Tryz.pinned.checked.prog.mainIs = some (Rows.learnBoundsCard.stood.harness.1, Rows.learnBoundsCard.stood.harness.2.toList) := by kernel_rfl
theorem lkT : Rows.learnBoundsCard.stood.looks = Tryz.pinned.checked.prog.looks [] := by kernel_rfl
theorem gsB : false = Rows.learnBoundsRow.goesBy Tryz.pinned.checked.prog := by kernel_rfl
theorem sia : Tryz.prog.wantsStandIn 23 = false := by kernel_rfl
theorem sii : Tryz.prog.wantsStandIn 3 = false := by kernel_rfl
theorem sir : Tryz.prog.wantsStandIn 22 = false := by kernel_rfl
theorem card : Rows.LearnBoundsCardSaid :=
  Claim7.holds_tied_plain_at .later [] _ _ _ _ said (fun _ h => by cases h) hwT (fun _ h => by cases h) learnBounds_row_tie rfl ⟨rfl, rfl⟩ mnI rfl
    (fun f fn hf hfn => by
      obtain rfl : f = 4 := Option.some.inj (fnm.symm.trans hf) |>.symm
      obtain rfl : fn = Tryz.f4 := (Option.some.inj (Tryz.func4.symm.trans hfn)).symm
      refine ⟨lkT, fun j t ht => ?_⟩
      rw [Tryz.params4] at ht
      rcases j with _ | _ | _ | _ | j
      · obtain rfl : t = 3 := by simpa using ht.symm
        exact sii
      · obtain rfl : t = 3 := by simpa using ht.symm
        exact sii
      · obtain rfl : t = 22 := by simpa using ht.symm
        exact sir
      · obtain rfl : t = 23 := by simpa using ht.symm
        exact sia
      · simp at ht)
    gsB
#print axioms card
end LLearnBounds
end Go.Proofs.YtnlckkahkghneaaGreatDoor
