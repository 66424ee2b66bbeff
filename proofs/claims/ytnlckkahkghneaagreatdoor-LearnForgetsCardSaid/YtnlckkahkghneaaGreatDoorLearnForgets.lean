/- 'cachewiselaw10.LearnForgets' returns true for every kind, every size, every lane, every row of keys and every lesser size, and leaves what was there as it was. The listed variables read as the program's text lays them. -/
import Derived.Test.YtnlckkahkghneaaGreatDoorLz11
import Derived.Test.YtnlckkahkghneaaGreatDoorCards
import Derived.Test.YtnlckkahkghneaaGreatDoorTie
import Derived.SevenTiedAt
import Derived.Deep.DeepCutAuto
import Derived.Deep.CutBlock

set_option maxRecDepth 20000
namespace Go.Proofs.YtnlckkahkghneaaGreatDoor.LE
open Go.ChangeShapes Go.WideShapes Go.ChangeAt Go.RowKit Sg

set_option maxHeartbeats 8000000 in
set_option maxRecDepth 100000 in
theorem learnForgets_main (six : Bool) (kd : Int) (mo le : Nat) (vs : List Nat) (Al : Option Addr) (cl : Nat) (A : Option Addr) (n cc : Nat) (w : World) (S : Nat → ByteArray) (hkd : ((if six then 6 else 5 : Nat) : Int) = kd) (hlo : 1 ≤ mo) (hmo : mo ≤ 1000) (hle : le ≤ 1000) (hn0 : 0 < n) (hn : n ≤ 200) (hvl : vs.length ≤ 300)
    (hv : DR.Lane w 0 w.heap.size (.slice Al vs.length cl) vs) (hk : KRow w A n cc S) (hl : Laid w) :
    Calls Tryz.prog 8 #[.int .i64 kd, .int .i64 (mo : Int), .slice Al vs.length cl, .slice A n cc, .int .i64 (le : Int)] w (RetB true w) := by
  have AW := Lib.hid (awake_any w hl)
  have MD := Lib.hid (fun (w1 : World) (hb : Below w.heap.size w w1) => show Calls Tryz.prog 41 #[.int .i64 kd, .int .i64 (mo : Int), .slice Al vs.length cl] w1 (LNew six mo vs w1) from by
    have := made_l w1 six mo _ vs (by omega) (DR.Lane.wide (hv.same fun k _ hk => hb.block k hk) (Nat.le_refl _) hb.size)
    rw [hkd] at this
    exact this)
  have hk56 : kd = 5 ∨ kd = 6 := by
    cases six with
    | true => exact Or.inr (by rw [← hkd]; rfl)
    | false => exact Or.inl (by rw [← hkd]; rfl)
  have g0 : decide (200 < (n : Int)) = false := decide_eq_false (by omega)
  have g0' : ((n : Int) == 0) = false := by rw [beq_eq_false_iff_ne]; omega
  have g0'' : (n == 0) = false := by rw [beq_eq_false_iff_ne]; omega
  have g1 : decide (300 < (vs.length : Int)) = false := decide_eq_false (by omega)
  have g2 : decide (kd < 5) = false := decide_eq_false (by omega)
  have g3 : decide (6 < kd) = false := decide_eq_false (by omega)
  have g4 : decide ((mo : Int) < 1) = false := decide_eq_false (by omega)
  have g5 : decide (1000 < (mo : Int)) = false := decide_eq_false (by omega)
  have g6 : decide ((le : Int) < 0) = false := decide_eq_false (by omega)
  have g7 : decide (1000 < (le : Int)) = false := decide_eq_false (by omega)
  have KR := Lib.hid hk
  have LO := Lib.hid hlo
  have HN := Lib.hid (And.intro hn0 hn)
  generalize hvn : vs.length = vn at *
  clear hk hl hv hkd hk56 hlo hvn
  go_enter Tryz.func8, Tryz.ntmps8
  go_wp2_with fail
  refine AW.out.mono ?_
  rintro e w0 ⟨rfl, hb0⟩
  have b0 := Lib.hid hb0; clear hb0
  go_wp2_with fail
  refine (MD.out w0 b0.out).mono ?_
  rintro e w1 ⟨l, T, rfl, hC, hT, hB⟩
  have L1 := Lib.hid (LL.made b0.out hC hT hB)
  clear hC hT hB b0 MD AW
  go_wp2_with fail
  clear g0 g0' g0'' g1 g2 g3 g4 g5 g6 g7
  go_loopw [12] (fun i W => FkR w l mo n i W) (fun i _ => n - (intOf i).toNat)
  case atStart => exact ⟨0, T, St.start six mo vs, rfl, Nat.zero_le _, L1.out, rfl⟩
  case round =>
    obtain ⟨k, T, s, rfl, hk, hL, hm⟩ := hrel
    have HL := Lib.hid hL
    have SM := Lib.hid hm
    clear hL L1 hm
    by_cases hlt : k < n
    · have e0 : decide (k < n) = true := by simpa using hlt
      have hn2 := HN.out.2
      obtain ⟨g, o, rfl, hg, hc1, hc2, hcell⟩ := KR.out.2 (by omega)
      have h1 := (HL.out.bel.cell (p := ⟨g, o + k, none⟩) hg).trans (hcell k hlt)
      have hsk := KR.out.1 k hlt
      have HSK := Lib.hid hsk
      clear hcell
      unfold maxLen at hc2 hsk
      by_cases hbig : (S k).size ≤ 200
      · have e1 : decide (200 < ((S k).size : Int)) = false := decide_eq_false (by omega)
        have UR := Lib.hid (request_l wr l T s _ HL.out.ca (S k) HSK.out (by omega))
        go_wp2_with fail
        refine UR.out.mono ?_
        intro e w4 hp
        obtain ⟨rfl, T4, hL4, _⟩ := HL.out.op hp
        have FIN := Lib.hid (show FkR w l mo n (.int .i64 ((k : Int) + 1)) w4 from ⟨k + 1, T4, s.req (S k), by go_num, by omega, hL4, (req_keep s _).2.trans SM.out⟩)
        clear hp hL4 UR HL
        generalize s.step (S k) = sv
        go_wp2_with fail
        go_roundw
        case rel => exact FIN.out
        case measure => simp [intOf]; omega
      · have e1 : decide (200 < ((S k).size : Int)) = true := decide_eq_true (by omega)
        go_wp2_with fail
        go_ret
        exact ⟨rfl, HL.out.bel⟩
    · have e0 : decide (k < n) = false := by simpa using hlt
      obtain rfl : k = n := by omega
      obtain ⟨g, o, rfl, hg, hc1, hc2, hcell⟩ := KR.out.2 (by omega)
      have h0 := (HL.out.bel.cell (p := ⟨g, o + 0, none⟩) hg).trans (hcell 0 (by omega))
      have h0' : wr.cell? ⟨g, o, none⟩ = some (.string (S 0)) := h0
      have HSK := Lib.hid (KR.out.1 0 (by omega))
      have hsk := HSK.out
      clear hcell
      unfold maxLen at hc2 hsk
      generalize S 0 = key at *
      obtain ⟨was, hwas⟩ : ∃ x, x = s.has key := ⟨_, rfl⟩
      obtain ⟨n1, hn1⟩ : ∃ x, x = s.keys.length := ⟨_, rfl⟩
      have OK0 := Lib.hid HL.out.ca.ok
      have hn1m : n1 ≤ mo := by rw [hn1, ← SM.out]; exact OK0.out.le
      have V1 := has_l wr l T s _ HL.out.ca key HSK.out
      rw [← hwas] at V1
      replace V1 := Lib.hid V1
      have HW := Lib.hid (And.intro hwas hn1)
      clear hwas hn1
      have hn2 := HN.out
      have z0 : decide ((0 : Int) < (k : Int)) = true := decide_eq_true (by omega)
      go_wp2_with fail
      refine V1.out.mono ?_
      rintro e w2 ⟨rfl, hB⟩
      have L2 := Lib.hid (HL.out.below hB)
      clear hB V1 HL h0 h0'
      go_wp2_with fail
      refine Calls.mono (show Calls Tryz.prog 33 #[.pointer (some ⟨l, 0, none⟩)] w2 (Told (.int .i64 (n1 : Int)) w2) from by
        have := len_l w2 l T s _ L2.out.ca
        rw [← HW.out.2] at this
        exact this) ?_
      rintro e w3 ⟨rfl, hB⟩
      have L3 := Lib.hid (L2.out.below hB)
      clear hB L2
      have R := remove_l w3 l T s _ L3.out.ca key HSK.out
      rw [← HW.out.1] at R
      replace R := Lib.hid R
      have FR := fg_rm OK0.out key
      have MO1 := Lib.hid (show (s.rm key).mo = mo from SM.out)
      rw [← HW.out.1, ← HW.out.2] at FR
      replace FR := Lib.hid FR
      obtain ⟨n2, hn2'⟩ : ∃ x, x = (s.rm key).keys.length := ⟨_, rfl⟩
      have N2 := Lib.hid hn2'
      clear hn2' OK0
      go_wp2_with fail
      refine R.out.mono ?_
      intro e w4 hp
      obtain ⟨rfl, T4, hL4, _⟩ := L3.out.op hp
      have L4 := Lib.hid hL4
      clear hp hL4 L3 R HW SM
      generalize s.rm key = s1 at *
      have fr3 := FR.out.2.2.1
      have fr4 := FR.out.2.2.2
      rw [← N2.out] at fr3 fr4
      have W2 := Lib.hid (show was = false ∨ (was = true ∧ n2 + 1 = n1) from by
        cases was with
        | false => exact Or.inl rfl
        | true => exact Or.inr ⟨rfl, fr3 rfl⟩)
      have VA := has_l w4 l T4 s1 _ L4.out.ca key HSK.out
      rw [FR.out.1] at VA
      replace VA := Lib.hid VA
      have HGF := Lib.hid FR.out.2.1
      have HAF := Lib.hid FR.out.1
      clear fr3 FR
      obtain ⟨room, hroom⟩ : ∃ x, x = decide ((n2 : Int) < (mo : Int)) := ⟨_, rfl⟩
      have hroom2 : decide (n2 < mo) = room := by rw [hroom, Bool.eq_iff_iff]; simp
      replace hroom := hroom.symm
      go_wp2_with fail
      refine VA.out.mono ?_
      rintro e w5 ⟨rfl, hB⟩
      have L5 := Lib.hid (L4.out.below hB)
      clear hB VA L4
      go_wp2_with fail
      refine (ghosts_l w5 l _ s1 _ L5.out.ca).mono ?_
      rintro e w6 ⟨vg, rfl, hO, hB⟩
      have L6 := Lib.hid (L5.out.below hB)
      obtain ⟨gg, _, hRg⟩ := hO.row
      have VH := Lib.hid (HGF.out ▸ refHas_any w6 gg vg _ key hRg : Calls Tryz.prog 35 #[vg, .string key] w6 (BoolPost false w6))
      clear hO hB hRg L5
      go_wp2_with fail
      refine VH.out.mono ?_
      rintro e wx ⟨rfl, rfl⟩
      clear VH
      rcases W2.out with rfl | ⟨rfl, hnn⟩
      all_goals
        try
          have hw1 : IntKind.i64.wrap ((n1 : Int) - 1) = (n2 : Int) := by rw [IntWalk.i64_in _ (by omega)]; omega
        try
          have hw2 : (n1 : Int) - 1 = (n2 : Int) := by omega
        clear W2
        go_wp2_with fail
        refine Calls.mono (show Calls Tryz.prog 33 #[.pointer (some ⟨l, 0, none⟩)] w6 (Told (.int .i64 (n2 : Int)) w6) from by
          have := len_l w6 l T4 s1 _ L6.out.ca
          rw [← N2.out] at this
          exact this) ?_
        rintro e w7 ⟨rfl, hB⟩
        have L7 := Lib.hid (L6.out.below hB)
        clear hB L6
        go_wp2_with fail
        try
          refine Calls.mono (show Calls Tryz.prog 33 #[.pointer (some ⟨l, 0, none⟩)] w7 (Told (.int .i64 (n2 : Int)) w7) from by
            have := len_l w7 l T4 s1 _ L7.out.ca
            rw [← N2.out] at this
            exact this) ?_
          rintro e w7' ⟨rfl, hB⟩
          have L7 := Lib.hid (L7.out.below hB)
          clear hB
          go_wp2_with fail
        have FA := fg_ad L7.out.ca.ok HAF.out HGF.out
        rw [MO1.out, ← N2.out, hroom2] at FA
        have UA := adopt_l _ l T4 s1 _ L7.out.ca key HSK.out (by omega)
        rw [FA.1] at UA
        replace UA := Lib.hid UA
        have HA2 := Lib.hid (FA.2.1.trans FA.1)
        have HG2 := Lib.hid FA.2.2
        have MO2 := Lib.hid (show (adP s1 key).mo = mo from (keep_ad s1 key).2.trans MO1.out)
        clear FA HGF HAF N2 MO1
        refine UA.out.mono ?_
        intro e w8 hp
        obtain ⟨rfl, T8, hL8, _⟩ := L7.out.op hp
        have L8 := Lib.hid hL8
        clear hp hL8 L7 UA
        generalize adP s1 key = s2 at *
        have VB := has_l w8 l T8 s2 _ L8.out.ca key HSK.out
        rw [HA2.out] at VB
        replace VB := Lib.hid VB
        go_wp2_with fail
        refine VB.out.mono ?_
        rintro e w9 ⟨rfl, hB⟩
        have L9 := Lib.hid (L8.out.below hB)
        clear hB VB L8 HA2
        go_wp2_with fail
        refine (ghosts_l w9 l _ s2 _ L9.out.ca).mono ?_
        rintro e wa ⟨vg, rfl, hO, hB⟩
        have La := Lib.hid (L9.out.below hB)
        obtain ⟨gg, _, hRg⟩ := hO.row
        have VH := Lib.hid (HG2.out ▸ refHas_any wa gg vg _ key hRg : Calls Tryz.prog 35 #[vg, .string key] wa (BoolPost false wa))
        clear hO hB hRg L9
        go_wp2_with fail
        refine VH.out.mono ?_
        rintro e wx ⟨rfl, rfl⟩
        clear VH
        go_wp2_with fail
        clear HG2
        obtain ⟨q, hq⟩ : ∃ x, x = s2.keys.length := ⟨_, rfl⟩
        have hq1 : q ≤ mo := by rw [hq, ← MO2.out]; exact La.out.ca.ok.le
        refine (keys_l wa l T8 s2 _ La.out.ca).mono ?_
        rintro e wb ⟨vb, rfl, hO, hB⟩
        obtain ⟨A2, c2, rfl⟩ := hO.len
        have M2 := Lib.hid (LL.mine hO La.out.ca)
        have Lb := Lib.hid (La.out.below hB)
        rw [← hq] at M2 ⊢
        have FZ := Lib.hid (fg_rs Lb.out.ca.ok le Lb.out.ca.small)
        have UZ := Lib.hid (resize_l wb l T8 s2 _ le Lb.out.ca (by omega) (by omega) (by have h : s2.A.keys.length = q := hq.symm; omega))
        have HQ := Lib.hid hq
        clear hO hB La hq
        go_wp2_with fail
        refine UZ.out.mono ?_
        intro e wc hp
        obtain ⟨A3, c3, Tc, rfl, hA⟩ := FgA.made Lb.out M2.out hp
        have A4 := Lib.hid hA
        clear hp hA UZ Lb M2 MO2
        generalize s2.rs le = t at *
        generalize s2.gone le = ys at *
        generalize s2.keys = xs at *
        obtain ⟨d, hd⟩ : ∃ x, x = ys.length := ⟨_, rfl⟩
        rw [← hd] at A4 ⊢
        obtain ⟨m, hm⟩ : ∃ x, x = t.keys.length := ⟨_, rfl⟩
        obtain ⟨gl, hgl⟩ : ∃ x, x = t.ghosts.length := ⟨_, rfl⟩
        have f1 := FZ.out.num
        have f2 := FZ.out.len
        have f3 := FZ.out.gho
        rw [← hd, ← HQ.out] at f1 f2
        rw [← hm] at f2
        rw [← hgl] at f3
        have HD := Lib.hid (And.intro hd (And.intro hm hgl))
        obtain ⟨tm, htm⟩ : ∃ x : Nat, x = 2 * le := ⟨_, rfl⟩
        have hmx : max 0 ((q : Int) - (le : Int)) = (d : Int) := by omega
        have hmd : (q : Int) - (d : Int) = (m : Int) := by omega
        have hw1 : IntKind.i64.wrap (2 * (le : Int)) = (tm : Int) := by rw [IntWalk.i64_in _ (by omega)]; omega
        have hg1 : decide ((tm : Int) < (gl : Int)) = false := decide_eq_false (by omega)
        have hg2 : decide (tm < gl) = false := decide_eq_false (by omega)
        have hd2 : d ≤ 1000 := by omega
        have hm2 : m ≤ 1000 := by omega
        clear hd hm hgl f1 f2 f3 htm
        go_wp2_with fail
        refine Calls.mono (show Calls Tryz.prog 33 #[.pointer (some ⟨l, 0, none⟩)] wc (Told (.int .i64 (m : Int)) wc) from by
          have := len_l wc l Tc t _ A4.out.lv.ca
          rw [← HD.out.2.1] at this
          exact this) ?_
        rintro e wd ⟨rfl, hB⟩
        have A5 := Lib.hid (A4.out.below hB)
        clear hB A4
        go_wp2_with fail
        refine Calls.mono (show Calls Tryz.prog 38 #[.pointer (some ⟨l, 0, none⟩)] wd (Told (.int .i64 (le : Int)) wd) from by
          have := most_l wd l Tc t _ A5.out.lv.ca
          rw [FZ.out.mo] at this
          exact this) ?_
        rintro e we ⟨rfl, hB⟩
        have A6 := Lib.hid (A5.out.below hB)
        clear hB A5
        go_wp2_with fail
        refine (ghosts_l we l Tc t _ A6.out.lv.ca).mono ?_
        rintro e wf ⟨vf, rfl, hO, hB⟩
        obtain ⟨Ag, cg, rfl⟩ := hO.len
        have A7 := Lib.hid (A6.out.below hB)
        rw [← HD.out.2.2]
        clear hO hB A6
        go_wp2_with fail
        clear hmx hmd hw1 hg1 hg2
        go_loopw [20] (fun i W => FgR w l Tc t (4 * k + 1) (.slice A2 q c2) xs (.slice A3 d c3) ys d i W) (fun i _ => d - (intOf i).toNat)
        case atStart => exact ⟨0, rfl, Nat.zero_le _, A7.out⟩
        case round =>
          obtain ⟨j, rfl, hj, hA⟩ := hrel
          have A8 := Lib.hid hA
          clear hA A7
          by_cases hlt2 : j < d
          · have e0 : decide (j < d) = true := by simpa using hlt2
            obtain ⟨g9, hr⟩ := A8.out.out.row
            have hjx : j < ys.length := by rw [← HD.out.1]; exact hlt2
            obtain ⟨o9, rfl, hg9, hcl, hc3, hc4⟩ := hr.at hjx
            have hmem : ys.getD j ⟨#[]⟩ ∈ ys := by rw [List.getD_eq_getElem?_getD, List.getElem?_eq_getElem hjx]; exact List.getElem_mem hjx
            obtain ⟨x1, x2, x3, x4⟩ := FZ.out.each _ hmem
            rw [← HD.out.1] at hc3
            generalize ys.getD j ⟨#[]⟩ = y at *
            have D0 := Lib.hid (show Below wr.heap.size wr wr.drew from ⟨rfl, rfl, rfl, Nat.le_refl _, fun _ _ => rfl⟩)
            have FF := Lib.hid (show ∀ W, Below wr.heap.size wr W → W.cell? ⟨g9, o9 + j, none⟩ = some (.string y) from fun W hB => (hB.cell (p := ⟨g9, o9 + j, none⟩) hg9).trans hcl)
            have VHS := Lib.hid (show ∀ W, Below wr.heap.size wr W → Calls Tryz.prog 34 #[.pointer (some ⟨l, 0, none⟩), .string y] W (Told (.bool false) W) from fun W hB => by
              have := has_l W l Tc t _ (A8.out.below hB).lv.ca y x4
              rw [x1] at this
              exact this)
            have VAL := Lib.hid (show ∀ W, Below wr.heap.size wr W → Calls Tryz.prog 35 #[.slice A2 q c2, .string y] W (BoolPost true W) from fun W hB => by
              obtain ⟨g, hr⟩ := (A8.out.below hB).all.row
              have := refHas_any W g _ _ y hr
              rw [x2] at this
              exact this)
            have VG := Lib.hid (fun (W : World) (hB : Below wr.heap.size wr W) => ghosts_l W l Tc t _ (A8.out.below hB).lv.ca)
            have HG3 := Lib.hid x3
            unfold maxLen at hc4 x4
            clear hr hjx hmem x1 x2 x3 hcl
            go_wp2_with fail
            refine wp_region_noPanic ?_
            refine wp_region_held_drew (S := fun W => W.cell? ⟨g9, o9 + j, none⟩ = some (.string y)) (by kernel_rfl) ?_ (fun hHeld => ?_)
            · exact FF.out _ D0.out
            refine wpAnyH_take (i := 0) (oi := { dst := some 190, op := Go.Op.move (Go.Operand.tmp 11), type := 26, pos := "law.go:302", after := #[], guard := none }) (v := ?_) rfl (by kernel_rfl) (by kernel_rfl) (by kernel_rfl) (fun _ _ _ h => h) (Or.inl ⟨by rfl, ?_⟩) (by assumption) ?_
            rotate_left
            · (intro w hSw; (try dsimp only at hSw); go_simp; (try with_reducible rfl))
            (try simp only [Act.put, List.setIfInBounds_toArray, List.set_cons_zero, List.set_cons_succ])
            refine wpAnyH_take (i := 1) (oi := { dst := some 191, op := Go.Op.move (Go.Operand.tmp 18), type := 33, pos := "law.go:302", after := #[], guard := none }) (v := ?_) rfl (by kernel_rfl) (by kernel_rfl) (by kernel_rfl) (fun _ _ _ h => h) (Or.inl ⟨by rfl, ?_⟩) (by assumption) ?_
            rotate_left
            · (intro w hSw; (try dsimp only at hSw); go_simp; (try with_reducible rfl))
            (try simp only [Act.put, List.setIfInBounds_toArray, List.set_cons_zero, List.set_cons_succ])
            refine wpAnyH_take (i := 2) (oi := { dst := some 192, op := Go.Op.move (Go.Operand.tmp 20), type := 3, pos := "law.go:302", after := #[], guard := none }) (v := ?_) rfl (by kernel_rfl) (by kernel_rfl) (by kernel_rfl) (fun _ _ _ h => h) (Or.inl ⟨by rfl, ?_⟩) (by assumption) ?_
            rotate_left
            · (intro w hSw; (try dsimp only at hSw); go_simp; (try with_reducible rfl))
            (try simp only [Act.put, List.setIfInBounds_toArray, List.set_cons_zero, List.set_cons_succ])
            refine wpAnyH_take (i := 3) (oi := { dst := some 193, op := Go.Op.indexAddr 33 (Go.Operand.tmp 191) (Go.Operand.tmp 192), type := 0, pos := "law.go:302", after := #[{ on := 1, ground := Go.Ground.data }, { on := 2, ground := Go.Ground.data }], guard := none }) (v := ?_) rfl (by kernel_rfl) (by kernel_rfl) (by kernel_rfl) (fun _ _ _ h => h) (Or.inl ⟨by rfl, ?_⟩) (by assumption) ?_
            rotate_left
            · (intro w hSw; (try dsimp only at hSw); go_simp; (try with_reducible rfl))
            (try simp only [Act.put, List.setIfInBounds_toArray, List.set_cons_zero, List.set_cons_succ])
            refine wpAnyH_take (i := 4) (oi := { dst := some 194, op := Go.Op.load 9 (Go.Operand.tmp 193), type := 9, pos := "law.go:302", after := #[{ on := 3, ground := Go.Ground.data }], guard := none }) (v := ?_) rfl (by kernel_rfl) (by kernel_rfl) (by kernel_rfl) (fun _ _ _ h => h) (Or.inl ⟨by rfl, ?_⟩) (by assumption) ?_
            rotate_left
            · (intro w hSw; (try dsimp only at hSw); go_simp; (try with_reducible rfl))
            (try simp only [Act.put, List.setIfInBounds_toArray, List.set_cons_zero, List.set_cons_succ])
            refine wpAnyH_ready (rs := [5]) (by kernel_rfl) (by simp) ?_
            refine AllReadyH.cons (o := { dst := some 195, op := Go.Op.call { callee := Go.Callee.value (Go.Operand.func 34), args := #[Go.Operand.tmp 190, Go.Operand.tmp 194], argTypes := #[26, 9] }, type := 4, pos := "law.go:302", after := #[{ on := 0, ground := Go.Ground.data }, { on := 4, ground := Go.Ground.data }], guard := none }) rfl (fun K hK => ?_) AllReadyH.nil
            go_simp
            refine (VHS.out _ D0.out).mono ?_
            rintro e wa ⟨rfl, hB⟩
            have B1 := Lib.hid (D0.out.trans (hB.mono D0.out.size))
            clear hB
            go_wp2_with fail
            refine hK.out _ _ ?_ (fun hHeld => ?_)
            · exact FF.out wa B1.out
            clear hK K
            (try simp only [Act.put, List.setIfInBounds_toArray, List.set_cons_zero, List.set_cons_succ])
            refine wpAnyH_take (i := 6) (oi := { dst := some 196, op := Go.Op.move (Go.Operand.tmp 195), type := 4, pos := "law.go:302", after := #[{ on := 5, ground := Go.Ground.data }, { on := 5, ground := Go.Ground.chain }], guard := none }) (v := ?_) rfl (by kernel_rfl) (by kernel_rfl) (by kernel_rfl) (fun _ _ _ h => h) (Or.inl ⟨by rfl, ?_⟩) (by assumption) ?_
            rotate_left
            · (intro w hSw; (try dsimp only at hSw); go_simp; (try with_reducible rfl))
            (try simp only [Act.put, List.setIfInBounds_toArray, List.set_cons_zero, List.set_cons_succ])
            refine wpAnyH_take (i := 7) (oi := { dst := some 197, op := Go.Op.move (Go.Operand.tmp 17), type := 33, pos := "law.go:302", after := #[{ on := 6, ground := Go.Ground.guard }], guard := some (6, false) }) (v := ?_) rfl (by kernel_rfl) (by kernel_rfl) (by kernel_rfl) (fun _ _ _ h => h) (Or.inl ⟨by rfl, ?_⟩) (by assumption) ?_
            rotate_left
            · (intro w hSw; (try dsimp only at hSw); go_simp; (try with_reducible rfl))
            (try simp only [Act.put, List.setIfInBounds_toArray, List.set_cons_zero, List.set_cons_succ])
            refine wpAnyH_take (i := 8) (oi := { dst := some 198, op := Go.Op.move (Go.Operand.tmp 18), type := 33, pos := "law.go:302", after := #[{ on := 6, ground := Go.Ground.guard }], guard := some (6, false) }) (v := ?_) rfl (by kernel_rfl) (by kernel_rfl) (by kernel_rfl) (fun _ _ _ h => h) (Or.inl ⟨by rfl, ?_⟩) (by assumption) ?_
            rotate_left
            · (intro w hSw; (try dsimp only at hSw); go_simp; (try with_reducible rfl))
            (try simp only [Act.put, List.setIfInBounds_toArray, List.set_cons_zero, List.set_cons_succ])
            refine wpAnyH_take (i := 9) (oi := { dst := some 199, op := Go.Op.move (Go.Operand.tmp 20), type := 3, pos := "law.go:302", after := #[{ on := 6, ground := Go.Ground.guard }], guard := some (6, false) }) (v := ?_) rfl (by kernel_rfl) (by kernel_rfl) (by kernel_rfl) (fun _ _ _ h => h) (Or.inl ⟨by rfl, ?_⟩) (by assumption) ?_
            rotate_left
            · (intro w hSw; (try dsimp only at hSw); go_simp; (try with_reducible rfl))
            (try simp only [Act.put, List.setIfInBounds_toArray, List.set_cons_zero, List.set_cons_succ])
            refine wpAnyH_take (i := 10) (oi := { dst := some 200, op := Go.Op.indexAddr 33 (Go.Operand.tmp 198) (Go.Operand.tmp 199), type := 0, pos := "law.go:302", after := #[{ on := 8, ground := Go.Ground.data }, { on := 9, ground := Go.Ground.data }, { on := 6, ground := Go.Ground.guard }], guard := some (6, false) }) (v := ?_) rfl (by kernel_rfl) (by kernel_rfl) (by kernel_rfl) (fun _ _ _ h => h) (Or.inl ⟨by rfl, ?_⟩) (by assumption) ?_
            rotate_left
            · (intro w hSw; (try dsimp only at hSw); go_simp; (try with_reducible rfl))
            (try simp only [Act.put, List.setIfInBounds_toArray, List.set_cons_zero, List.set_cons_succ])
            refine wpAnyH_take (i := 11) (oi := { dst := some 201, op := Go.Op.load 9 (Go.Operand.tmp 200), type := 9, pos := "law.go:302", after := #[{ on := 10, ground := Go.Ground.data }, { on := 6, ground := Go.Ground.guard }], guard := some (6, false) }) (v := ?_) rfl (by kernel_rfl) (by kernel_rfl) (by kernel_rfl) (fun _ _ _ h => h) (Or.inl ⟨by rfl, ?_⟩) (by assumption) ?_
            rotate_left
            · (intro w hSw; (try dsimp only at hSw); go_simp; (try with_reducible rfl))
            (try simp only [Act.put, List.setIfInBounds_toArray, List.set_cons_zero, List.set_cons_succ])
            refine wpAnyH_ready (rs := [12]) (by kernel_rfl) (by simp) ?_
            refine AllReadyH.cons (o := { dst := some 202, op := Go.Op.call { callee := Go.Callee.value (Go.Operand.func 35), args := #[Go.Operand.tmp 197, Go.Operand.tmp 201], argTypes := #[33, 9] }, type := 4, pos := "law.go:302", after := #[{ on := 7, ground := Go.Ground.data }, { on := 11, ground := Go.Ground.data }, { on := 6, ground := Go.Ground.chain }, { on := 6, ground := Go.Ground.guard }], guard := some (6, false) }) rfl (fun K hK => ?_) AllReadyH.nil
            go_simp
            refine (VAL.out _ B1.out).mono ?_
            rintro e wx ⟨rfl, rfl⟩
            go_wp2_with fail
            refine hK.out _ _ ?_ (fun hHeld => ?_)
            · exact hHeld
            clear hK K
            (try simp only [Act.put, List.setIfInBounds_toArray, List.set_cons_zero, List.set_cons_succ])
            refine wpAnyH_take (i := 13) (oi := { dst := some 203, op := Go.Op.unOp Go.UnOp.not 4 (Go.Operand.tmp 202), type := 4, pos := "law.go:302", after := #[{ on := 12, ground := Go.Ground.data }, { on := 6, ground := Go.Ground.guard }], guard := some (6, false) }) (v := ?_) rfl (by kernel_rfl) (by kernel_rfl) (by kernel_rfl) (fun _ _ _ h => h) (Or.inl ⟨by rfl, ?_⟩) (by assumption) ?_
            rotate_left
            · (intro w hSw; (try dsimp only at hSw); go_simp; (try with_reducible rfl))
            (try simp only [Act.put, List.setIfInBounds_toArray, List.set_cons_zero, List.set_cons_succ])
            refine wpAnyH_take (i := 14) (oi := { dst := some 204, op := Go.Op.pick (Go.Operand.tmp 196) (Go.Operand.const (Go.Value.bool true)) (Go.Operand.tmp 203), type := 4, pos := "law.go:302", after := #[{ on := 6, ground := Go.Ground.data }, { on := 13, ground := Go.Ground.data }], guard := none }) (v := ?_) rfl (by kernel_rfl) (by kernel_rfl) (by kernel_rfl) (fun _ _ _ h => h) (Or.inl ⟨by rfl, ?_⟩) (by assumption) ?_
            rotate_left
            · (intro w hSw; (try dsimp only at hSw); go_simp; (try with_reducible rfl))
            (try simp only [Act.put, List.setIfInBounds_toArray, List.set_cons_zero, List.set_cons_succ])
            refine wpAnyH_take (i := 15) (oi := { dst := some 205, op := Go.Op.move (Go.Operand.tmp 204), type := 4, pos := "law.go:302", after := #[{ on := 14, ground := Go.Ground.data }, { on := 12, ground := Go.Ground.chain }], guard := none }) (v := ?_) rfl (by kernel_rfl) (by kernel_rfl) (by kernel_rfl) (fun _ _ _ h => h) (Or.inl ⟨by rfl, ?_⟩) (by assumption) ?_
            rotate_left
            · (intro w hSw; (try dsimp only at hSw); go_simp; (try with_reducible rfl))
            (try simp only [Act.put, List.setIfInBounds_toArray, List.set_cons_zero, List.set_cons_succ])
            refine wpAnyH_take (i := 16) (oi := { dst := some 206, op := Go.Op.move (Go.Operand.tmp 11), type := 26, pos := "law.go:302", after := #[{ on := 15, ground := Go.Ground.guard }], guard := some (15, false) }) (v := ?_) rfl (by kernel_rfl) (by kernel_rfl) (by kernel_rfl) (fun _ _ _ h => h) (Or.inl ⟨by rfl, ?_⟩) (by assumption) ?_
            rotate_left
            · (intro w hSw; (try dsimp only at hSw); go_simp; (try with_reducible rfl))
            (try simp only [Act.put, List.setIfInBounds_toArray, List.set_cons_zero, List.set_cons_succ])
            refine wpAnyH_take (i := 18) (oi := { dst := some 208, op := Go.Op.move (Go.Operand.tmp 18), type := 33, pos := "law.go:302", after := #[{ on := 15, ground := Go.Ground.guard }], guard := some (15, false) }) (v := ?_) rfl (by kernel_rfl) (by kernel_rfl) (by kernel_rfl) (fun _ _ _ h => h) (Or.inl ⟨by rfl, ?_⟩) (by assumption) ?_
            rotate_left
            · (intro w hSw; (try dsimp only at hSw); go_simp; (try with_reducible rfl))
            (try simp only [Act.put, List.setIfInBounds_toArray, List.set_cons_zero, List.set_cons_succ])
            refine wpAnyH_take (i := 19) (oi := { dst := some 209, op := Go.Op.move (Go.Operand.tmp 20), type := 3, pos := "law.go:302", after := #[{ on := 15, ground := Go.Ground.guard }], guard := some (15, false) }) (v := ?_) rfl (by kernel_rfl) (by kernel_rfl) (by kernel_rfl) (fun _ _ _ h => h) (Or.inl ⟨by rfl, ?_⟩) (by assumption) ?_
            rotate_left
            · (intro w hSw; (try dsimp only at hSw); go_simp; (try with_reducible rfl))
            (try simp only [Act.put, List.setIfInBounds_toArray, List.set_cons_zero, List.set_cons_succ])
            refine wpAnyH_take (i := 20) (oi := { dst := some 210, op := Go.Op.indexAddr 33 (Go.Operand.tmp 208) (Go.Operand.tmp 209), type := 0, pos := "law.go:302", after := #[{ on := 18, ground := Go.Ground.data }, { on := 19, ground := Go.Ground.data }, { on := 15, ground := Go.Ground.guard }], guard := some (15, false) }) (v := ?_) rfl (by kernel_rfl) (by kernel_rfl) (by kernel_rfl) (fun _ _ _ h => h) (Or.inl ⟨by rfl, ?_⟩) (by assumption) ?_
            rotate_left
            · (intro w hSw; (try dsimp only at hSw); go_simp; (try with_reducible rfl))
            (try simp only [Act.put, List.setIfInBounds_toArray, List.set_cons_zero, List.set_cons_succ])
            refine wpAnyH_take (i := 21) (oi := { dst := some 211, op := Go.Op.load 9 (Go.Operand.tmp 210), type := 9, pos := "law.go:302", after := #[{ on := 20, ground := Go.Ground.data }, { on := 15, ground := Go.Ground.guard }], guard := some (15, false) }) (v := ?_) rfl (by kernel_rfl) (by kernel_rfl) (by kernel_rfl) (fun _ _ _ h => h) (Or.inl ⟨by rfl, ?_⟩) (by assumption) ?_
            rotate_left
            · (intro w hSw; (try dsimp only at hSw); go_simp; (try with_reducible rfl))
            (try simp only [Act.put, List.setIfInBounds_toArray, List.set_cons_zero, List.set_cons_succ])
            refine wpAnyH_ready (rs := [17]) (by kernel_rfl) (by simp) ?_
            refine AllReadyH.cons (o := { dst := some 207, op := Go.Op.call { callee := Go.Callee.value (Go.Operand.func 36), args := #[Go.Operand.tmp 206], argTypes := #[26] }, type := 33, pos := "law.go:302", after := #[{ on := 16, ground := Go.Ground.data }, { on := 15, ground := Go.Ground.chain }, { on := 15, ground := Go.Ground.guard }], guard := some (15, false) }) rfl (fun K hK => ?_) AllReadyH.nil
            go_simp
            refine (VG.out _ B1.out).mono ?_
            rintro e wb ⟨vb, rfl, hO, hB⟩
            have B2 := Lib.hid (B1.out.trans (hB.mono B1.out.size))
            obtain ⟨gb, _, hRb⟩ := hO.row
            have V3 := Lib.hid (HG3.out ▸ refHas_any wb gb vb _ y hRb : Calls Tryz.prog 35 #[vb, .string y] wb (BoolPost false wb))
            clear hO hB hRb
            go_wp2_with fail
            refine hK.out _ _ ?_ (fun hHeld => ?_)
            · exact FF.out wb B2.out
            clear hK K
            (try simp only [Act.put, List.setIfInBounds_toArray, List.set_cons_zero, List.set_cons_succ])
            refine wpAnyH_ready (rs := [22]) (by kernel_rfl) (by simp) ?_
            refine AllReadyH.cons (o := { dst := some 212, op := Go.Op.call { callee := Go.Callee.value (Go.Operand.func 35), args := #[Go.Operand.tmp 207, Go.Operand.tmp 211], argTypes := #[33, 9] }, type := 4, pos := "law.go:302", after := #[{ on := 17, ground := Go.Ground.data }, { on := 21, ground := Go.Ground.data }, { on := 17, ground := Go.Ground.chain }, { on := 15, ground := Go.Ground.guard }], guard := some (15, false) }) rfl (fun K hK => ?_) AllReadyH.nil
            go_simp
            refine V3.out.mono ?_
            rintro e wx ⟨rfl, rfl⟩
            go_wp2_with fail
            refine hK.out _ _ ?_ (fun hHeld => ?_)
            · exact hHeld
            clear hK K
            (try simp only [Act.put, List.setIfInBounds_toArray, List.set_cons_zero, List.set_cons_succ])
            refine wpAnyH_take (i := 23) (oi := { dst := some 213, op := Go.Op.pick (Go.Operand.tmp 205) (Go.Operand.const (Go.Value.bool true)) (Go.Operand.tmp 212), type := 4, pos := "law.go:302", after := #[{ on := 15, ground := Go.Ground.data }, { on := 22, ground := Go.Ground.data }], guard := none }) (v := ?_) rfl (by kernel_rfl) (by kernel_rfl) (by kernel_rfl) (fun _ _ _ h => h) (Or.inl ⟨by rfl, ?_⟩) (by assumption) ?_
            rotate_left
            · (intro w hSw; (try dsimp only at hSw); go_simp; (try with_reducible rfl))
            (try simp only [Act.put, List.setIfInBounds_toArray, List.set_cons_zero, List.set_cons_succ])
            refine wpAnyH_done (by kernel_rfl) ?_ _
            refine NoPanic.normal ?_
            have FIN := Lib.hid (A8.out.below B2.out)
            clear VHS VAL VG FF V3 D0 hHeld A8
            go_wp2_with fail
            go_roundw
            case rel => exact ⟨j + 1, by go_num, by omega, FIN.out⟩
            case measure => simp [intOf]; omega
          · have e0 : decide (j < d) = false := by simpa using hlt2
            go_wp2_with fail
            go_ret
            exact ⟨rfl, A8.out.lv.bel⟩
end Go.Proofs.YtnlckkahkghneaaGreatDoor.LE
namespace Go.Proofs.YtnlckkahkghneaaGreatDoor
open Go.ChangeShapes Go.WideShapes Go.ChangeAt Go.RowKit Sg
open Go.ChangeMaps (open_string shut_string)
theorem walk_learnForgets (a0 a1 : Int) (v2 v3 : Value) (a4 : Int) (w : World) (w0 : (Lit.int .i64 a0).wf = true) (w1 : (Lit.int .i64 a1).wf = true) (wr : CameR w v2) (wk : CameS w v3) (w4 : (Lit.int .i64 a4).wf = true) (hl : Laid w) : Calls Tryz.prog 8 #[.int .i64 a0, .int .i64 a1, v2, v3, .int .i64 a4] w (LE.RetB true w) := by
  obtain ⟨A, n, c, rfl, hn, S, hr, hc⟩ := wk
  obtain ⟨Al, nl, cl, rfl, hnl, vs, hvs⟩ := pick_lane wr
  have hz0 := i64_rng w0
  have hz1 := i64_rng w1
  have hz4 := i64_rng w4
  by_cases hok : ¬ 200 < (n : Int) ∧ ¬ (n : Int) = 0 ∧ ¬ 300 < (nl : Int) ∧ ¬ a0 < 5 ∧ ¬ 6 < a0 ∧ ¬ a1 < 1 ∧ ¬ 1000 < a1 ∧ ¬ a4 < 0 ∧ ¬ 1000 < a4
  · obtain ⟨q0, q1, q2, q3, q4, q5, q6, q7, q8⟩ := hok
    obtain ⟨mo, rfl⟩ : ∃ m : Nat, a1 = (m : Int) := ⟨a1.toNat, by omega⟩
    obtain ⟨le, rfl⟩ : ∃ m : Nat, a4 = (m : Int) := ⟨a4.toNat, by omega⟩
    obtain ⟨six, hsix⟩ := LE.kd_six (a := a0) (by omega)
    obtain ⟨hv1, hv2⟩ := hvs (by omega)
    subst hv1
    exact LE.learnForgets_main six a0 mo le vs Al cl A n c w S hsix (by omega) (by omega) (by omega) (by omega) (by omega) (by omega) hv2 ⟨hr, hc⟩ hl
  · have PW := Lib.hid (show (decide (200 < (n : Int)) = true) ∨ (decide (200 < (n : Int)) = false ∧ ((n : Int) == 0) = true) ∨ (decide (200 < (n : Int)) = false ∧ ((n : Int) == 0) = false ∧ decide (300 < (nl : Int)) = true) ∨ (decide (200 < (n : Int)) = false ∧ ((n : Int) == 0) = false ∧ decide (300 < (nl : Int)) = false ∧ decide (a0 < 5) = true) ∨ (decide (200 < (n : Int)) = false ∧ ((n : Int) == 0) = false ∧ decide (300 < (nl : Int)) = false ∧ decide (a0 < 5) = false ∧ decide (6 < a0) = true) ∨ (decide (200 < (n : Int)) = false ∧ ((n : Int) == 0) = false ∧ decide (300 < (nl : Int)) = false ∧ decide (a0 < 5) = false ∧ decide (6 < a0) = false ∧ decide (a1 < 1) = true) ∨ (decide (200 < (n : Int)) = false ∧ ((n : Int) == 0) = false ∧ decide (300 < (nl : Int)) = false ∧ decide (a0 < 5) = false ∧ decide (6 < a0) = false ∧ decide (a1 < 1) = false ∧ decide (1000 < a1) = true) ∨ (decide (200 < (n : Int)) = false ∧ ((n : Int) == 0) = false ∧ decide (300 < (nl : Int)) = false ∧ decide (a0 < 5) = false ∧ decide (6 < a0) = false ∧ decide (a1 < 1) = false ∧ decide (1000 < a1) = false ∧ decide (a4 < 0) = true) ∨ (decide (200 < (n : Int)) = false ∧ ((n : Int) == 0) = false ∧ decide (300 < (nl : Int)) = false ∧ decide (a0 < 5) = false ∧ decide (6 < a0) = false ∧ decide (a1 < 1) = false ∧ decide (1000 < a1) = false ∧ decide (a4 < 0) = false ∧ decide (1000 < a4) = true) from by
      by_cases p0 : decide (200 < (n : Int)) = true
      · exact Or.inl p0
      rw [Bool.not_eq_true] at p0
      by_cases p1 : ((n : Int) == 0) = true
      · exact Or.inr (Or.inl ⟨p0, p1⟩)
      rw [Bool.not_eq_true] at p1
      by_cases p2 : decide (300 < (nl : Int)) = true
      · exact Or.inr (Or.inr (Or.inl ⟨p0, p1, p2⟩))
      rw [Bool.not_eq_true] at p2
      by_cases p3 : decide (a0 < 5) = true
      · exact Or.inr (Or.inr (Or.inr (Or.inl ⟨p0, p1, p2, p3⟩)))
      rw [Bool.not_eq_true] at p3
      by_cases p4 : decide (6 < a0) = true
      · exact Or.inr (Or.inr (Or.inr (Or.inr (Or.inl ⟨p0, p1, p2, p3, p4⟩))))
      rw [Bool.not_eq_true] at p4
      by_cases p5 : decide (a1 < 1) = true
      · exact Or.inr (Or.inr (Or.inr (Or.inr (Or.inr (Or.inl ⟨p0, p1, p2, p3, p4, p5⟩)))))
      rw [Bool.not_eq_true] at p5
      by_cases p6 : decide (1000 < a1) = true
      · exact Or.inr (Or.inr (Or.inr (Or.inr (Or.inr (Or.inr (Or.inl ⟨p0, p1, p2, p3, p4, p5, p6⟩))))))
      rw [Bool.not_eq_true] at p6
      by_cases p7 : decide (a4 < 0) = true
      · exact Or.inr (Or.inr (Or.inr (Or.inr (Or.inr (Or.inr (Or.inr (Or.inl ⟨p0, p1, p2, p3, p4, p5, p6, p7⟩)))))))
      rw [Bool.not_eq_true] at p7
      by_cases p8 : decide (1000 < a4) = true
      · exact Or.inr (Or.inr (Or.inr (Or.inr (Or.inr (Or.inr (Or.inr (Or.inr (⟨p0, p1, p2, p3, p4, p5, p6, p7, p8⟩))))))))
      rw [Bool.not_eq_true] at p8
      exact absurd ⟨of_decide_eq_false p0, beq_eq_false_iff_ne.1 p1, of_decide_eq_false p2, of_decide_eq_false p3, of_decide_eq_false p4, of_decide_eq_false p5, of_decide_eq_false p6, of_decide_eq_false p7, of_decide_eq_false p8⟩ hok)
    have AW := Lib.hid (LE.awake_any w hl)
    unfold maxLen at hn hnl
    clear hr hc hok hl w0 hz0 w1 hz1 w4 hz4 hvs wr
    rcases PW.out with e0 | ⟨e0, e1⟩ | ⟨e0, e1, e2⟩ | ⟨e0, e1, e2, e3⟩ | ⟨e0, e1, e2, e3, e4⟩ | ⟨e0, e1, e2, e3, e4, e5⟩ | ⟨e0, e1, e2, e3, e4, e5, e6⟩ | ⟨e0, e1, e2, e3, e4, e5, e6, e7⟩ | ⟨e0, e1, e2, e3, e4, e5, e6, e7, e8⟩
    all_goals
      clear PW
      try
        have e1' : (n == 0) = true := by rw [beq_iff_eq] at e1 ⊢; omega
      try
        have e1' : (n == 0) = false := by rw [beq_eq_false_iff_ne] at e1 ⊢; omega
      go_enter Tryz.func8, Tryz.ntmps8
      go_wp2_with fail
      refine AW.out.mono ?_
      rintro e w0 ⟨rfl, hb0⟩
      go_wp2_with fail
      go_ret
      exact ⟨rfl, hb0⟩

namespace LLearnForgets
set_option maxRecDepth 100000 in
theorem lifted (os : Os) (started : os.Started) (H : Type) (enc : TypeId × Value → H) :
    ReturnsInHanded {} Tryz.checked os 8 .any (fun w args => (Rows.learnForgetsSpec.pre enc Tryz.prog Tryz.f8 [] false w args ∧ laidMetH Tryz.prog seatLaid w) ∧ sizedMet enc Tryz.prog Tryz.f8 (OpenSpec.ofChange Rows.learnForgetsSpec) false w args)
      (Rows.learnForgetsSpec.post enc Tryz.prog Tryz.f8 false true false false) := by
  refine returnsInHanded_of_change_and (C := Tryz.checked) (X := fun w _ => laidMetH Tryz.prog seatLaid w) (fun _ _ _ hh h => h.of_heap hh) own started (by kernel_rfl) Tryz.func8
    (ChangeSpec.witness_at (enc := enc) (C := Tryz.checked) (os := os) (X := fun w _ => laidMetH Tryz.prog seatLaid w) false (laidWorld os) #[.int .i64 0, .int .i64 0, .slice none 0 0, .slice none 0 0, .int .i64 0] 8 rfl (by kernel_rfl) (by kernel_rfl) (by kernel_rfl) (by kernel_rfl) (by kernel_rfl) (laidWorld_met os _)) ?_
  intro W base args ds gs before hval0 hW _ _ hL _
  have hval : ∀ (j : Nat) t v, Tryz.f8.params[j]? = some t → args[j]? = some v → Value.okWide Tryz.prog W .any base t v := hval0
  have hW' := hW
  obtain ⟨p, q, hA0, hV, rfl, hfz, hnd⟩ := hW
  have hA : DataW.TrodAll enc Tryz.prog W 0 (fun _ => true) true Tryz.f8.params.toList args.toList ds p := hA0
  rw [Tryz.params8] at hA hval
  obtain ⟨v0, vs0, d0, ds0, p0, q0, hargs, rfl, rfl, h0, r0⟩ := trodAll_cons hA
  obtain ⟨v1, vs1, d1, ds1, p1, q1, rfl, rfl, rfl, h1, r1⟩ := trodAll_cons r0
  obtain ⟨v2, vs2, d2, ds2, p2, q2, rfl, rfl, rfl, h2, r2⟩ := trodAll_cons r1
  obtain ⟨v3, vs3, d3, ds3, p3, q3, rfl, rfl, rfl, h3, r3⟩ := trodAll_cons r2
  obtain ⟨v4, vs4, d4, ds4, p4, q4, rfl, rfl, rfl, h4, r4⟩ := trodAll_cons r3
  obtain ⟨rfl, rfl, rfl⟩ := trodAll_nil r4
  obtain rfl : args = #[v0, v1, v2, v3, v4] := by cases args; simp_all
  obtain ⟨rfl, rfl⟩ := trodVars_none hV
  obtain ⟨a0, rfl, rfl, rfl, w0⟩ := open_int Tryz.underlying3 (hval 0 3 v0 rfl rfl) h0
  obtain ⟨a1, rfl, rfl, rfl, w1⟩ := open_int Tryz.underlying3 (hval 1 3 v1 rfl rfl) h1
  have k2 := h2
  have lt2 : ∀ x ∈ p2, x.block < W.heap.size := by obtain ⟨m, hm⟩ := k2; exact DataW.trod_lt m _ _ _ hm
  have w2 := open_r (hval 2 22 v2 rfl rfl) h2
  have k3 := h3
  have lt3 : ∀ x ∈ p3, x.block < W.heap.size := by obtain ⟨m, hm⟩ := k3; exact DataW.trod_lt m _ _ _ hm
  have w3 := open_z (hval 3 33 v3 rfl rfl) h3
  obtain ⟨a4, rfl, rfl, rfl, w4⟩ := open_int Tryz.underlying3 (hval 4 3 v4 rfl rfl) h4
  clear hA0 hval0
  refine (walk_learnForgets a0 a1 v2 v3 a4 W w0 w1 w2 w3 w4 (laid_of hL)).mono fun e W' ⟨he, bel⟩ => ?_
  subst he
  exact ⟨_, rfl, _, _, _, [], _, [], hW', trodAll_mk1 (shut_bool Tryz.underlying4 _), (trodAll_cons_mk (shut_int Tryz.underlying3 w0) (trodAll_cons_mk (shut_int Tryz.underlying3 w1) (trodAll_cons_mk (Below.trod laidOut (by kernel_rfl) (of_decide_eq_true (by kernel_rfl)) k2 bel lt2) (trodAll_cons_mk (Below.trod laidOut (by kernel_rfl) (of_decide_eq_true (by kernel_rfl)) k3 bel lt3) (trodAll_cons_mk (shut_int Tryz.underlying3 w4) trodAll_mk0))))), rfl, bel.frame _, fun h => by cases h⟩

theorem band {x y : Bool} (h : x = true) (k : y = true) : (x && y) = true := by rw [h, k]; rfl
set_option maxRecDepth 100000
theorem cj0 : (Rows.learnForgetsRow.wf (OpenSpec.ofChange Rows.learnForgetsSpec)) = true := by kernel_rfl
theorem cj1 : (laidOutB Tryz.pinned.checked.prog) = true := by kernel_rfl
theorem cj2 : (mapsRowed Tryz.pinned.checked.prog) = true := by kernel_rfl
theorem cj9 : (Rows.learnForgetsRow.inPlace == Tryz.pinned.checked.prog.inPlace 8) = true := by kernel_rfl
theorem cj10 : (Rows.learnForgetsRow.unfollowed == Tryz.pinned.checked.prog.unfollowed 8) = true := by kernel_rfl
theorem cj11 : (Rows.learnForgetsRow.recurses == Tryz.pinned.checked.prog.recurses 8) = true := by kernel_rfl
theorem cj12 : (Rows.learnForgetsRow.named == Tryz.pinned.checked.prog.varsNamed 8) = true := by kernel_rfl
theorem cj22 : (Rows.learnForgetsRow.plainKeys == Tryz.pinned.checked.prog.plainKeys) = true := by kernel_rfl
theorem cj24 : (Tryz.pinned.checked.prog.stopsHeard) = true := by kernel_rfl
theorem cj25 : (Tryz.pinned.checked.prog.mayEnter) = true := by kernel_rfl
theorem cj26 : (Rows.learnForgetsRow.lifted == Tryz.pinned.checked.prog.liftsFinal) = true := by kernel_rfl
theorem cj27 : (Tryz.pinned.checked.prog.make == some Rows.learnForgetsRow.make) = true := by kernel_rfl
theorem closed : joinedFacts Tryz.pinned.checked.prog 8 Tryz.f8 Rows.learnForgetsSpec Rows.learnForgetsRow = true := by
  unfold joinedFacts
  exact band (band (band (band (band (band (band (band (band (band (band (band (band (band (band (band (band (band (band (band (band (band (band (band (band (band (band (band (band (band (band (cj0) cj1) cj2) (by kernel_rfl)) (by kernel_rfl)) (by kernel_rfl)) (by kernel_rfl)) (by kernel_rfl)) (by kernel_rfl)) cj9) cj10) cj11) cj12) (by kernel_rfl)) (by kernel_rfl)) (by kernel_rfl)) (by kernel_rfl)) (by kernel_rfl)) (by kernel_rfl)) (by kernel_rfl)) (by kernel_rfl)) (by kernel_rfl)) cj22) (by kernel_rfl)) cj24) cj25) cj26) cj27) (by kernel_rfl)) (by kernel_rfl)) (by kernel_rfl)) (by kernel_rfl)
theorem fnm : Tryz.pinned.checked.prog.funcNamed "cachewise/cachewiselaw10.LearnForgets" = some 8 := by kernel_rfl
theorem isIn : Tryz.f8.isInstance Tryz.pinned.checked.prog Rows.learnForgetsRow.origin Rows.learnForgetsRow.targs := of_decide_eq_true (by kernel_rfl)
theorem isWr : Tryz.f8.isWrapper Tryz.pinned.checked.prog Rows.learnForgetsRow.wrapper Rows.learnForgetsRow.mainSum := by unfold Func.isWrapper; rw [if_neg (of_decide_eq_false (by kernel_rfl))]; exact ⟨rfl, rfl⟩
theorem said : Rows.LearnForgetsSaid :=
  OpenClaim.holds_of_wide 8 Tryz.f8 rfl rfl rfl rfl rfl rfl rfl ⟨rfl, rfl, rfl, rfl, rfl⟩ rfl rfl rfl rfl rfl fnm Tryz.func8 closed isIn isWr
    (fun os started H enc _ => lifted os started H enc)

theorem hwT : Rows.learnForgetsRow.wfByText (OpenSpec.ofChange Rows.learnForgetsSpec) = true := by kernel_rfl
theorem mnI : Tryz.pinned.checked.prog.mainIs = some (Rows.learnForgetsCard.stood.harness.1, Rows.learnForgetsCard.stood.harness.2.toList) := by kernel_rfl
theorem lkT : Rows.learnForgetsCard.stood.looks = Tryz.pinned.checked.prog.looks [] := by kernel_rfl
theorem gsB : false = Rows.learnForgetsRow.goesBy Tryz.pinned.checked.prog := by kernel_rfl
theorem sii : Tryz.prog.wantsStandIn 3 = false := by kernel_rfl
theorem sir : Tryz.prog.wantsStandIn 22 = false := by kernel_rfl
theorem siz : Tryz.prog.wantsStandIn 33 = false := by kernel_rfl
theorem card : Rows.LearnForgetsCardSaid :=
  Claim7.holds_tied_plain_at .later [] _ _ _ _ said (fun _ h => by cases h) hwT (fun _ h => by cases h) learnForgets_row_tie rfl ⟨rfl, rfl⟩ mnI rfl
    (fun f fn hf hfn => by
      obtain rfl : f = 8 := Option.some.inj (fnm.symm.trans hf) |>.symm
      obtain rfl : fn = Tryz.f8 := (Option.some.inj (Tryz.func8.symm.trans hfn)).symm
      refine ⟨lkT, fun j t ht => ?_⟩
      rw [Tryz.params8] at ht
      rcases j with _ | _ | _ | _ | _ | j
      · obtain rfl : t = 3 := by simpa using ht.symm
        exact sii
      · obtain rfl : t = 3 := by simpa using ht.symm
        exact sii
      · obtain rfl : t = 22 := by simpa using ht.symm
        exact sir
      · obtain rfl : t = 33 := by simpa using ht.symm
        exact siz
      · obtain rfl : t = 3 := by simpa using ht.symm
        exact sii
      · simp at ht)
    gsB
#print axioms card
end LLearnForgets
end Go.Proofs.YtnlckkahkghneaaGreatDoor
