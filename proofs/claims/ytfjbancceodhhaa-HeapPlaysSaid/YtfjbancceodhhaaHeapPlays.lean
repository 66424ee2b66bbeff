/- 'cachewiselaw04.HeapPlays' returns true for every row of calls, and leaves what was there as it was. No condition. -/
import Derived.Test.YtfjbancceodhhaaPlay4
import Derived.Test.YtfjbancceodhhaaRef4b
namespace Go.Proofs.Ytfjbancceodhhaa
open Go.ChangeShapes Go.WideShapes Go.ChangeAt Go.RowKit Ht HS

theorem leastV_is (M : List (Ent Key)) : ∃ (k : Key) (l1 l2 : Int) (b : Bool), leastV M = .tuple #[.string k, .agg #[.int .i64 l1, .int .i64 l2], .bool b] ∧ ((M = [] ∧ b = false) ∨ ∃ x M1, M = x :: M1 ∧ k = x.key ∧ l1 = x.one ∧ l2 = x.two ∧ b = true) := by
  cases M with
  | nil => exact ⟨⟨#[]⟩, 0, 0, false, rfl, Or.inl ⟨rfl, rfl⟩⟩
  | cons x M => exact ⟨x.key, x.one, x.two, true, rfl, Or.inr ⟨x, M, rfl, rfl, rfl, rfl, rfl⟩⟩
theorem hs_drewN {w : World} {h c : Nat} {S : Nat → Prop} {L : List (Ent Key)} (s : HS w h S L c) (m : Nat) : HS (w.drewN m) h S L c := s.same fun _ _ => rfl
/-- The loop's state. -/
def PlR (n h : Nat) (w0 : World) (g : Nat) (v iz : Value) (W : World) : Prop := ∃ i S L c, g + i = n ∧ iz = .int .i64 (i : Int) ∧ L.length ≤ i ∧ c ≤ i ∧ Live w0 W h S L c ∧ RMine W S v L
/-- .. behind the switch. -/
def PlM (i h ga : Nat) (w0 : World) (kd : Int) (key : Key) (r1 r2 : Int) (v : Value) (W : World) : Prop := ∃ S L c, L.length ≤ i + 1 ∧ c ≤ i + 1 ∧ PlB w0 W h ga S L c v L kd key r1 r2
/-- .. while the rows are held against each other. -/
def PlE (L : List (Ent Key)) (h ga c : Nat) (w0 : World) (S : Nat → Prop) (v v2 : Value) (kd : Int) (key : Key) (r1 r2 : Int) (g : Nat) (jz : Value) (W : World) : Prop :=
  ∃ j, g + j = L.length ∧ jz = .int .i64 (j : Int) ∧ PlB w0 W h ga S L c v L kd key r1 r2 ∧ Mine W S v2 (keysOf L)

set_option maxHeartbeats 8000000 in
set_option maxRecDepth 100000 in
theorem plays_main (A : Option Addr) (n c : Nat) (w : World) (K : Nat → Int) (S : Nat → ByteArray) (R1 R2 : Nat → Int) (hn : n ≤ 200) (hS : ∀ i, i < n → (S i).size ≤ maxLen)
    (hc : 0 < n → ∃ g o, A = some ⟨g, o, none⟩ ∧ g < w.heap.size ∧ n ≤ c ∧ c ≤ maxLen ∧ ∀ i, i < n → w.cell? ⟨g, o + i * 4, none⟩ = some (.int .i64 (K i)) ∧ w.cell? ⟨g, o + i * 4 + 1, none⟩ = some (.string (S i)) ∧ w.cell? ⟨g, o + i * 4 + 2, none⟩ = some (.int .i64 (R1 i)) ∧ w.cell? ⟨g, o + i * 4 + 3, none⟩ = some (.int .i64 (R2 i))) :
    Calls Try.prog 3 #[.slice A n c] w (RetB true w) := by
  have e0 : decide (200 < (n : Int)) = false := by simp; omega
  have HC := Lib.hid hc
  have HZ := Lib.hid hS
  clear hc hS
  go_enter Try.func3, Try.ntmps3
  go_wp2_with fail
  refine (awake_any _).mono ?_
  rintro e w0 ⟨rfl, hb0⟩
  have b0 := Lib.hid hb0; clear hb0
  go_wp2_with fail
  refine (new_any w0).mono ?_
  rintro e w1 ⟨h, S0, rfl, hH, hS0, hB⟩
  have L1 := Lib.hid (Live.made b0.out hH hS0 hB)
  clear hH hS0 hB b0
  go_wp2_with fail
  clear e0
  go_loopg [4, 5] n (fun g v iz W => PlR n h w g v iz W)
  case atStart => exact ⟨0, S0, [], 0, by omega, rfl, Nat.le_refl _, Nat.le_refl _, L1.out, RMine.nil L1.out.hs _ _⟩
  case round =>
    obtain ⟨i, S1, L, c1, hgi, rfl, hLl, hcl, hL, hR⟩ := hrel
    have HL := Lib.hid hL
    have HR := Lib.hid hR
    have HG := Lib.hid hgi
    clear hL hR hgi L1
    by_cases hlt : i < n
    · have e0 : decide (i < n) = true := by simpa using hlt
      obtain ⟨g, o, rfl, hg, hc1, hc2, hcell⟩ := HC.out (by omega)
      obtain ⟨q0, q1, q2, q3⟩ := hcell i hlt
      have h0 := (HL.out.bel.cell (p := ⟨g, o + i * 4, none⟩) hg).trans q0
      have h1 := (HL.out.bel.cell (p := ⟨g, o + i * 4 + 1, none⟩) hg).trans q1
      have h2 := (HL.out.bel.cell (p := ⟨g, o + i * 4 + 2, none⟩) hg).trans q2
      have h3 := (HL.out.bel.cell (p := ⟨g, o + i * 4 + 3, none⟩) hg).trans q3
      have hsk := HZ.out i hlt
      clear hcell q0 q1 q2 q3
      unfold maxLen at hc2
      generalize S i = key at h1 hsk
      generalize K i = kd at h0
      generalize R1 i = r1 at h2
      generalize R2 i = r2 at h3
      have P1 := Lib.hid (show PlB w (wr.alloc (.cells #[.int .i64 kd, .string key, .int .i64 r1, .int .i64 r2] 30 (0, 0))) h wr.heap.size S1 L c1 u4 L kd key r1 r2 from
        ⟨HL.out.below ((Below.refl _ _).alloc (Nat.le_refl _) _), HR.out.below ((Below.refl _ _).alloc (Nat.le_refl _) _), heap_alloc_new _ _, fun hS => by have := HL.out.hs.lt hS; omega⟩)
      by_cases hkl : key.size ≤ 1000
      · have e1 : decide (1000 < (key.size : Int)) = false := by simp; omega
        go_upto_region 15 with fail
        clear h0 h1 h2 h3 e1
        generalize wr.alloc (.cells #[.int .i64 kd, .string key, .int .i64 r1, .int .i64 r2] 30 (0, 0)) = w2 at P1 ⊢
        generalize wr.heap.size = ga at P1 ⊢
        generalize u4 = v at P1 ⊢
        have k1 := P1.out.k1
        obtain ⟨g', hrr, _⟩ := P1.out.row
        have FI := Lib.hid (refFind_any w2 g' v L key hrr)
        obtain ⟨q1, hq1⟩ : ∃ r, ((find L key).map (·.one)).getD 0 = r := ⟨_, rfl⟩
        obtain ⟨q2, hq2⟩ : ∃ r, ((find L key).map (·.two)).getD 0 = r := ⟨_, rfl⟩
        obtain ⟨th, hth⟩ : ∃ b, (find L key).isSome = b := ⟨_, rfl⟩
        have TH := Lib.hid hth
        rw [rankV_is, hq1, hq2, hth] at FI
        obtain ⟨Av, cv, rfl⟩ := hrr.shape
        clear hrr hq1 hq2 hth
        go_wp2_with fail
        refine FI.out.mono ?_
        rintro e w3 ⟨rfl, hB3⟩
        have P3 := Lib.hid (P1.out.below (hB3.alloc hB3.size (.cells #[.int .i64 q1, .int .i64 q2] 31 (0, 0))))
        have kz := P3.out.k0
        clear hB3 k1 FI
        go_upto_block 2 with fail
        clear kz
        generalize w3.alloc (.cells #[.int .i64 q1, .int .i64 q2] 31 (0, 0)) = w4 at P3 ⊢
        go_cut [4] (fun v W => PlM i h ga w kd key r1 r2 v W)
        case first =>
          as_aux_lemma =>
          have k0 := P3.out.k0
          have k1 := P3.out.k1
          have k2 := P3.out.k2
          have k3 := P3.out.k3
          cases c0 : (kd == 0) with
          | true =>
            go_wp2_with fail
            refine (set_any w4 h S1 L c1 key r1 r2 P3.out.live.hs hsk (by omega) (by omega)).mono ?_
            intro e w5 hp
            obtain ⟨rfl, S5, hP5⟩ := P3.out.op hp
            have P5 := Lib.hid hP5
            obtain ⟨g5, hr5, _⟩ := hP5.row
            have RS := Lib.hid (refSet_any w5 g5 _ L key r1 r2 c1 hr5 (by omega) HL.out.hs.srt HL.out.hs.once.le hsk)
            have j1 := hP5.k1
            have j2 := hP5.k2
            have j3 := hP5.k3
            clear hp hP5 hr5 k0 k1 k2 k3
            go_wp2_with fail
            refine RS.out.mono ?_
            rintro e w6 ⟨v6, rfl, hO6, hB6⟩
            have P6 := Lib.hid (P5.out.made hO6 hB6)
            clear hO6 hB6 j1 j2 j3 RS
            go_wp2_with fail
            go_meet
            have hrl := rem_len_le L key
            exact ⟨S5, _, c1 + 1, by rw [ins_len]; omega, by omega, P6.out⟩
          | false =>
          cases c1' : (kd == 1) with
          | true =>
            have RM := Lib.hid (remove_any w4 h S1 L c1 key P3.out.live.hs hsk)
            rw [TH.out] at RM
            go_wp2_with fail
            refine RM.out.mono ?_
            intro e w5 hp
            obtain ⟨rfl, S5, hP5⟩ := P3.out.op hp
            have P5 := Lib.hid hP5
            obtain ⟨g5, hr5, _⟩ := hP5.row
            have RS := Lib.hid (refRemove_any w5 g5 _ L key hr5 (by omega))
            have j1 := hP5.k1
            clear hp hP5 hr5 k0 k1 k2 k3 RM
            go_wp2_with fail
            refine RS.out.mono ?_
            rintro e w6 ⟨v6, rfl, hO6, hB6⟩
            have P6 := Lib.hid (P5.out.made hO6 hB6)
            clear hO6 hB6 j1 RS
            go_wp2_with fail
            go_meet
            have hrl := rem_len_le L key
            exact ⟨S5, _, c1, by omega, by omega, P6.out⟩
          | false =>
          cases c2' : (kd == 2) with
          | true =>
            cases L with
            | nil =>
              have PO := Lib.hid (show Calls Try.prog 15 #[.pointer (some ⟨h, 0, none⟩)] w4 (OpPost (.tuple #[.string ⟨#[]⟩, .bool false]) w4 h S1 [] c1) from pop_any w4 h S1 [] c1 P3.out.live.hs)
              go_wp2_with fail
              refine PO.out.mono ?_
              intro e w5 hp
              obtain ⟨rfl, S5, hP5⟩ := P3.out.op hp
              have P5 := Lib.hid hP5
              clear hp hP5 k0 k1 k2 k3 PO
              go_wp2_with fail
              go_meet
              exact ⟨S5, [], c1, by simp, by omega, P5.out⟩
            | cons x L =>
              have PO := Lib.hid (show Calls Try.prog 15 #[.pointer (some ⟨h, 0, none⟩)] w4 (OpPost (.tuple #[.string x.key, .bool true]) w4 h S1 L c1) from pop_any w4 h S1 (x :: L) c1 P3.out.live.hs)
              go_wp2_with fail
              refine PO.out.mono ?_
              intro e w5 hp
              obtain ⟨rfl, S5, hP5⟩ := P3.out.op hp
              have P5 := Lib.hid hP5
              obtain ⟨g5, o5, c5, hv5, hg5, hc5, hc6, m0, m1, m2⟩ := hP5.row.at (j := 0) (x := x) rfl
              injection hv5 with hv1 hvn hv2
              clear hvn
              subst hv1
              subst hv2
              have hl1 : (x :: L).length = L.length + 1 := rfl
              rw [hl1] at P5 hc5 hLl ⊢
              rw [Nat.zero_mul, Nat.add_zero] at m0
              have LL := Lib.hid hLl
              obtain ⟨m, hm⟩ : ∃ m, L.length = m := ⟨_, rfl⟩
              have HM := Lib.hid hm
              rw [hm] at hc5 hLl ⊢
              unfold maxLen at hc6
              have e5 : decide (0 < m + 1) = true := by simp
              have T5 := Lib.hid (show PlB w w5 h ga S5 L c1 (.slice (if cv = 1 then some ⟨g5, o5, none⟩ else some ⟨g5, o5 + 3, none⟩) m (cv - 1)) L kd key r1 r2 from
                ⟨P5.out.live, by rw [← HM.out]; exact P5.out.row.tail, P5.out.box, P5.out.boxS⟩)
              clear hp hP5 k0 k1 k2 k3 PO m1 m2 hl1 hm
              generalize x.key = xk at m0 ⊢
              go_wp2_with fail
              all_goals go_meet
              all_goals have t5 := T5.out
              all_goals first
                | (have e9 : cv = 1 := by omega
                   rw [if_pos e9, show cv - 1 = 0 by omega] at t5
                   exact ⟨S5, L, c1, by have := LL.out; omega, by omega, t5⟩)
                | (have e9 : ¬ cv = 1 := by omega
                   rw [if_neg e9] at t5
                   exact ⟨S5, L, c1, by have := LL.out; omega, by omega, t5⟩)
          | false =>
            go_wp2_with fail
            go_meet
            exact ⟨S1, L, c1, by omega, by omega, P3.out⟩
        case rest =>
          as_aux_lemma =>
          obtain ⟨S5, M, c5, hM5, hc5, hP5⟩ := hcut
          have P5 := Lib.hid hP5
          have H5 := Lib.hid (And.intro hM5 hc5)
          clear hP5 P3 P1 HL HR TH hcl hLl
          generalize u4 = v5 at P5 ⊢
          obtain ⟨A5, cc5, hv5⟩ := P5.out.row.shape
          subst hv5
          have RK := Lib.hid (rank_any wc h S5 M c5 key P5.out.live.hs hsk)
          obtain ⟨q3, hq3⟩ : ∃ r, ((find M key).map (·.one)).getD 0 = r := ⟨_, rfl⟩
          obtain ⟨q4, hq4⟩ : ∃ r, ((find M key).map (·.two)).getD 0 = r := ⟨_, rfl⟩
          obtain ⟨tb, htb⟩ : ∃ b, (find M key).isSome = b := ⟨_, rfl⟩
          have QQ := Lib.hid (And.intro hq3 (And.intro hq4 htb))
          rw [rankV_is, hq3, hq4, htb] at RK
          have j1 := P5.out.k1
          clear hq3 hq4 htb
          go_wp2_with fail
          refine RK.out.mono ?_
          rintro e w6 ⟨rfl, hB6⟩
          have P6 := Lib.hid (P5.out.below (hB6.alloc hB6.size (.cells #[.int .i64 q3, .int .i64 q4] 28 (0, 0))))
          have X6 := Lib.hid (Box.made P5.out.live.hs hB6.size q3 q4)
          clear hB6 j1 RK P5
          have j1 := P6.out.k1
          obtain ⟨g6, hr6, _⟩ := P6.out.row
          have FI := Lib.hid (refFind_any _ g6 _ M key hr6)
          rw [rankV_is, QQ.out.1, QQ.out.2.1, QQ.out.2.2] at FI
          clear hr6
          generalize hw7 : w6.alloc (.cells #[.int .i64 q3, .int .i64 q4] 28 (0, 0)) = w7 at P6 X6 j1 FI
          go_wp2_with fail
          clear hw7
          generalize w6.heap.size = b11 at X6 ⊢
          refine FI.out.mono ?_
          rintro e w8 ⟨rfl, hB8⟩
          have P8 := Lib.hid (P6.out.below (hB8.alloc hB8.size (.cells #[.int .i64 q3, .int .i64 q4] 31 (0, 0))))
          have X8 := Lib.hid (X6.out.below (hB8.alloc hB8.size (.cells #[.int .i64 q3, .int .i64 q4] 31 (0, 0))))
          have Y8 := Lib.hid (heap_alloc_new w8 (.cells #[.int .i64 q3, .int .i64 q4] 31 (0, 0)))
          clear hB8 j1 FI P6 X6
          generalize hw9 : w8.alloc (.cells #[.int .i64 q3, .int .i64 q4] 31 (0, 0)) = w9 at P8 X8 Y8
          have LS := Lib.hid (least_any w9 h S5 M c5 P8.out.live.hs)
          obtain ⟨k0, l1, l2, an, hlv, hcs⟩ := leastV_is M
          rw [hlv] at LS
          have CS := Lib.hid hcs
          clear hlv hcs
          go_wp2_with fail
          clear hw9
          generalize w8.heap.size = b13 at Y8 ⊢
          refine LS.out.mono ?_
          rintro e wa ⟨rfl, hBa⟩
          have Pb := Lib.hid (P8.out.below (hBa.alloc hBa.size (.cells #[.int .i64 l1, .int .i64 l2] 28 (0, 0))))
          have Xb := Lib.hid (X8.out.below (hBa.alloc hBa.size (.cells #[.int .i64 l1, .int .i64 l2] 28 (0, 0))))
          have Yb := Lib.hid (((hBa.alloc hBa.size (.cells #[.int .i64 l1, .int .i64 l2] 28 (0, 0))).block b13 (Array.getElem?_eq_some_iff.1 Y8.out).1).trans Y8.out)
          have Zb := Lib.hid (Box.made P8.out.live.hs hBa.size l1 l2)
          clear hBa LS P8 X8 Y8
          go_upto_region 33 with fail
          generalize wa.alloc (.cells #[.int .i64 l1, .int .i64 l2] 28 (0, 0)) = wb at Pb Xb Yb Zb ⊢
          generalize wa.heap.size = b16 at Zb ⊢
          go_cut [171] (fun z W => z = .bool false ∧ PlB w W h ga S5 M c5 (.slice A5 M.length cc5) M kd key r1 r2)
          case first =>
            as_aux_lemma =>
            have x0 := Xb.out.c0
            have x1 := Xb.out.c1
            have y0 : wb.cell? ⟨b13, 0, none⟩ = some (.int .i64 q3) := cell_of_row wb _ 0 _ _ _ Yb.out
            have y1 : wb.cell? ⟨b13, 1, none⟩ = some (.int .i64 q4) := cell_of_row wb _ 1 _ _ _ Yb.out
            have z0 := Zb.out.c0
            have z1 := Zb.out.c1
            have hq := fun w => neqR31_same w q3 q4
            have hg31 := guardR31
            have LN := Lib.hid (fun m => len_any (wb.drewN m) h S5 M c5 (hs_drewN Pb.out.live.hs m))
            rcases CS.out with ⟨rfl, rfl⟩ | ⟨x, M1, rfl, rfl, rfl, rfl, rfl⟩
            · have L0 := Lib.hid (show ∀ m, Calls Try.prog 18 #[.pointer (some ⟨h, 0, none⟩)] (wb.drewN m) (fun e w' => e = .returned (.int .i64 0) ∧ w' = wb.drewN m) from fun m => (LN.out m).mono fun _ _ h => ⟨h.1, h.2.symm⟩)
              clear LN
              go_wp2_with fail
              go_quiet ((go_at_call 18; exact Calls.quiet_of_same (L0.out _)))
              go_wp2_with fail
              go_meet
              exact ⟨rfl, Pb.out.below (below_drewN _ _)⟩
            · obtain ⟨g5, o5, c6, hv5, hg5, hc6, hc7, m0, m1, m2⟩ := Pb.out.row.at (j := 0) (x := x) rfl
              injection hv5 with hv1 hvn hv2
              clear hvn
              subst hv1
              subst hv2
              have hq2 := fun w => neqR31_same w x.one x.two
              have hl1 : (x :: M1).length = M1.length + 1 := rfl
              rw [hl1] at hc6 LN Pb ⊢
              rw [Nat.zero_mul, Nat.add_zero] at m0 m1 m2
              unfold maxLen at hc7
              have hm1 : M1.length ≤ 300 := by simp at hM5; omega
              obtain ⟨m, hm⟩ : ∃ m, M1.length = m := ⟨_, rfl⟩
              rw [hm] at hc6 LN Pb hm1 ⊢
              have e5 : decide (0 < m + 1) = true := by simp
              have L0 := Lib.hid (show ∀ k, Calls Try.prog 18 #[.pointer (some ⟨h, 0, none⟩)] (wb.drewN k) (fun e w' => e = .returned (.int .i64 ((m + 1 : Nat) : Int)) ∧ w' = wb.drewN k) from fun k => (LN.out k).mono fun _ _ h => ⟨h.1, h.2.symm⟩)
              have HM := Lib.hid (show (x :: M1).length = m + 1 by rw [hl1, hm])
              clear hl1 hm hM5 LN
              go_wp2_with fail
              go_quiet ((go_at_call 18; exact Calls.quiet_of_same (L0.out _)))
              go_wp2_with fail
              rw [← HM.out]
              rw [← HM.out] at Pb
              go_meet
              exact ⟨rfl, Pb.out.below (below_drewN _ _)⟩
          case rest =>
            as_aux_lemma =>
            obtain ⟨rfl, hPc⟩ := hcut
            have PC := Lib.hid hPc
            clear hPc Pb Xb Yb Zb CS QQ
            go_wp2_with fail
            refine (order_any wc h S5 M c5 PC.out.live.hs).mono ?_
            rintro e wd ⟨v2, rfl, hO, hB⟩
            have N7 := Lib.hid (show Mine wd S5 v2 (keysOf M) from Mine.of hO PC.out.live.hs)
            have D7 := Lib.hid (PC.out.below hB)
            clear hO hB PC
            have hlen : (keysOf M).length = M.length := keys_len M
            obtain ⟨a2, cc2, rfl⟩ := N7.out.len
            obtain ⟨n1, hn1⟩ : ∃ n, M.length = n := ⟨_, rfl⟩
            have N1 := Lib.hid hn1
            have N2 := Lib.hid (hlen.trans hn1)
            have hx1 : n1 ≤ 1000 := by omega
            rw [hlen, hn1]
            clear hlen hn1 hM5 hc5
            go_wp2_with fail
            go_loopg [19] n1 (fun g jz W => PlE M h ga c5 w S5 (.slice A5 M.length cc5) (.slice a2 (keysOf M).length cc2) kd key r1 r2 g jz W)
            case atStart => exact ⟨0, by rw [N1.out]; omega, rfl, D7.out, N7.out⟩
            case round =>
              obtain ⟨j, hgj, rfl, hP, hN⟩ := hrel
              have P8 := Lib.hid hP
              have N8 := Lib.hid hN
              have G8 := Lib.hid hgj
              clear hP hN hgj
              by_cases hj : j < n1
              · have e0 : decide (j < n1) = true := by simpa using hj
                obtain ⟨x, hx⟩ : ∃ x, M[j]? = some x := ⟨_, List.getElem?_eq_getElem (by rw [N1.out]; exact hj)⟩
                have hx2 : (keysOf M)[j]? = some x.key := by simp [keysOf, hx]
                obtain ⟨g1, cp1, hv1, hg1, _, hd1, hd2, m1⟩ := N8.out.at hx2
                injection hv1 with hv1 _ hv2
                subst hv1
                subst hv2
                obtain ⟨g2, o2, cp2, hv1, hg2, hd3, hd4, m2, m3, m4⟩ := P8.out.row.at hx
                injection hv1 with hv1 _ hv2
                subst hv1
                subst hv2
                rw [N2.out] at hd1
                rw [N1.out] at hd3
                unfold maxLen at hd2 hd4
                clear hx hx2 m3 m4
                generalize x.key = xk at m1 m2
                go_wp2_with fail
                go_quiet (fail)
                go_wp2_with fail
                go_roundg (n1 - (j + 1))
                case measure => have := G8.out; have := N1.out; omega
                case rel => exact ⟨j + 1, by rw [N1.out]; omega, rfl, P8.out.below (below_drewN _ _), N8.out.below (below_drewN _ _)⟩
              · have e0 : decide (j < n1) = false := by simpa using hj
                go_wp2_with fail
                go_roundg (n - (i + 1))
                case measure => have := HG.out; omega
                case rel =>
                  refine ⟨i + 1, S5, M, c5, by omega, rfl, H5.out.1, H5.out.2, P8.out.live, ?_⟩
                  have hr := P8.out.row
                  rw [N1.out] at hr
                  exact hr
      · have e1 : decide (1000 < (key.size : Int)) = true := by simp; omega
        go_wp2_with fail
        go_ret
        exact ⟨rfl, P1.out.live.bel⟩
    · have e0 : decide (i < n) = false := by simpa using hlt
      go_wp2_with fail
      go_ret
      exact ⟨rfl, HL.out.bel⟩

set_option maxRecDepth 100000 in
theorem walk_heapPlays (v0 : Value) (w : World) (w0 : CameA w v0) : Calls Try.prog 3 #[v0] w (RetB true w) := by
  obtain ⟨A, n, c, rfl, hn, K, S, R1, R2, hr, hc⟩ := w0
  by_cases hbig : n ≤ 200
  · exact plays_main A n c w K S R1 R2 hbig hr hc
  · have e0 : decide (200 < (n : Int)) = true := by simp; omega
    unfold maxLen at hn
    clear hr hc
    go_enter Try.func3, Try.ntmps3
    go_wp2_with fail
    refine (awake_any _).mono ?_
    rintro e w0 ⟨rfl, hb0⟩
    go_wp2_with fail
    go_ret
    exact ⟨rfl, hb0⟩
namespace LHeapPlays
set_option maxRecDepth 100000 in
theorem lifted (os : Os) (started : os.Started) (H : Type) (enc : TypeId × Value → H) :
    ReturnsInHanded {} Try.checked os 3 .any (Rows.heapPlaysSpec.pre6 enc Try.prog Try.f3 Rows.heapPlaysRow.domain false) (Rows.heapPlaysSpec.post enc Try.prog Try.f3 false true false false) := by
  refine returnsInHanded_of_change (C := Try.checked) own started (by kernel_rfl) Try.func3
    (ChangeSpec.witness6 (enc := enc) (C := Try.checked) false ⟨#[], #[.slice none 0 0], []⟩ 8 (by kernel_rfl) (by kernel_rfl) (by kernel_rfl) (by kernel_rfl)) ?_
  intro W base args ds gs before hval0 hW _ _
  have hval : ∀ (j : Nat) t v, Try.f3.params[j]? = some t → args[j]? = some v → Value.okWide Try.prog W .any base t v := hval0
  have hW' := hW
  obtain ⟨p, q, hA0, hV, rfl, hfz, hnd⟩ := hW
  have hA : DataW.TrodAll enc Try.prog W 0 (fun _ => true) true Try.f3.params.toList args.toList ds p := hA0
  rw [Try.params3] at hA hval
  obtain ⟨v0, vs0, d0, ds0, p0, q0, hargs, rfl, rfl, h0, r0⟩ := trodAll_cons hA
  obtain ⟨rfl, rfl, rfl⟩ := trodAll_nil r0
  obtain rfl : args = #[v0] := by cases args; simp_all
  obtain ⟨rfl, rfl⟩ := trodVars_none hV
  have k0 := h0
  have lt0 : ∀ x ∈ p0, x.block < W.heap.size := by obtain ⟨m, hm⟩ := k0; exact DataW.trod_lt m _ _ _ hm
  have w0 := open_a (hval 0 22 v0 rfl rfl) h0
  clear hA0 hval0
  refine (walk_heapPlays v0 W w0).mono fun e W' ⟨he, bel⟩ => ?_
  subst he
  exact ⟨_, rfl, _, _, _, [], _, [], hW', trodAll_mk1 (shut_bool Try.underlying4 _), (trodAll_cons_mk (Below.trod laidOut (by kernel_rfl) (of_decide_eq_true (by kernel_rfl)) k0 bel lt0) trodAll_mk0), rfl, bel.frame _, fun h => by cases h⟩

theorem said : Rows.HeapPlaysSaid :=
  OpenClaim.holds_of_wide 3 Try.f3 rfl rfl rfl rfl rfl rfl rfl ⟨rfl, rfl, rfl, rfl, rfl⟩ rfl rfl rfl rfl rfl (by kernel_rfl) Try.func3 (by kernel_rfl)
    (of_decide_eq_true (by kernel_rfl)) (by unfold Func.isWrapper; rw [if_neg (of_decide_eq_false (by kernel_rfl))]; exact ⟨rfl, rfl⟩)
    (fun os started H enc _ => lifted os started H enc)
#print axioms said
end LHeapPlays
end Go.Proofs.Ytfjbancceodhhaa
