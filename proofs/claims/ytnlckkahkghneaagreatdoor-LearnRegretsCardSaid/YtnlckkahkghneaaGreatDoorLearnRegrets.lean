/- 'cachewiselaw10.LearnRegrets' returns true for every size, every lane and every row of keys, and leaves what was there as it was. The listed variables read as the program's text lays them. -/
import Derived.Test.YtnlckkahkghneaaGreatDoorLz10
import Derived.Test.YtnlckkahkghneaaGreatDoorGFr
import Derived.Test.YtnlckkahkghneaaGreatDoorCards
import Derived.Test.YtnlckkahkghneaaGreatDoorTie
import Derived.SevenTiedAt
import Derived.Deep.DeepCutAuto
import Derived.Deep.CutBlock

set_option maxRecDepth 20000
namespace Go.Proofs.YtnlckkahkghneaaGreatDoor.LE
open Go.ChangeShapes Go.WideShapes Go.ChangeAt Go.RowKit Sg

theorem whole_one (w : World) : Calls Tryz.prog 42 #[.int .i64 1, .int .i64 100] w (fun e w' => ∃ c, e = .returned (.tuple #[.int .u64 46116860184273879, c]) ∧ Below w.heap.size w w') := by
  refine (FX.refWhole_any 1 100 w (by decide) (by decide)).mono ?_
  rintro e w' ⟨rfl, hB⟩
  refine ⟨_, by rw [show ((FX.wq 1 100 : Nat) : Int) = 46116860184273879 from by rw [show FX.wq 1 100 = 46116860184273879 from by decide]; rfl], hB⟩
def RgR (n l mb mo : Nat) (vs : List Nat) (w0 : World) (j i : Value) (W : World) : Prop := ∃ (k jn m : Nat) (T : Nat → Prop) (s : St) (f : ByteArray → Bool), i = .int .i64 (k : Int) ∧ j = .int .i64 (jn : Int) ∧ k ≤ n ∧ jn ≤ k ∧ m ≤ k ∧ LB w0 W l T s (4 * k) mb m f ∧ s.mo = mo ∧ s.six = false ∧ s.vs = vs.drop jn ∧ ByOf s f
set_option maxHeartbeats 8000000 in
set_option maxRecDepth 100000 in
theorem learnRegrets_main (mo : Nat) (vs : List Nat) (Al : Option Addr) (cl : Nat) (A : Option Addr) (n cc : Nat) (w : World) (S : Nat → ByteArray) (hlo : 1 ≤ mo) (hmo : mo ≤ 1000) (hn : n ≤ 200) (hvl : vs.length ≤ 300)
    (hv : DR.Lane w 0 w.heap.size (.slice Al vs.length cl) vs) (hk : KRow w A n cc S) (hl : Laid w) :
    Calls Tryz.prog 5 #[.int .i64 (mo : Int), .slice Al vs.length cl, .slice A n cc] w (RetB true w) := by
  have AW := Lib.hid (awake_any w hl)
  have MD := Lib.hid (fun (w1 : World) (hb : Below w.heap.size w w1) => show Calls Tryz.prog 41 #[.int .i64 5, .int .i64 (mo : Int), .slice Al vs.length cl] w1 (LNew false mo vs w1) from
    made_l w1 false mo _ vs (by omega) (DR.Lane.wide (hv.same fun k _ hk => hb.block k hk) (Nat.le_refl _) hb.size))
  have g0 : decide (200 < (n : Int)) = false := decide_eq_false (by omega)
  have g1 : decide (300 < (vs.length : Int)) = false := decide_eq_false (by omega)
  have g4 : decide ((mo : Int) < 1) = false := decide_eq_false (by omega)
  have g5 : decide (1000 < (mo : Int)) = false := decide_eq_false (by omega)
  have KR := Lib.hid hk
  have LO := Lib.hid hlo
  have HM := Lib.hid hmo
  have HN := Lib.hid hn
  have HV := Lib.hid hv
  obtain ⟨vn, hvn⟩ : ∃ v, v = vs.length := ⟨_, rfl⟩
  have VN := Lib.hid hvn
  rw [← hvn] at MD g1 ⊢
  have hvl2 : vn ≤ 300 := by omega
  clear hk hl hv hlo hvn hvl
  go_enter Tryz.func5, Tryz.ntmps5
  go_wp2_with fail
  refine AW.out.mono ?_
  rintro e w0 ⟨rfl, hb0⟩
  have b0 := Lib.hid hb0; clear hb0
  go_wp2_with fail
  refine (MD.out w0 b0.out).mono ?_
  rintro e w1 ⟨l, T, rfl, hC, hT, hB⟩
  have L1 := Lib.hid (LL.made b0.out hC hT hB)
  clear hC hT hB b0 MD AW
  have L2 := Lib.hid (LB.made L1.out)
  have h2 := @run_makeMap Tryz.prog
  go_upto_region 9 with fail
  clear L1 h2
  generalize w1.alloc (.map #[] 0) = w2 at L2 ⊢
  generalize w1.heap.size = mb at *
  go_wp2_with fail
  refine (whole_one w2).mono ?_
  rintro e w3 ⟨wc, rfl, hB⟩
  have L3 := Lib.hid (L2.out.below hB)
  clear hB L2 g0 g1 g4 g5
  go_wp2_with fail
  go_loopw [11, 12] (fun j i W => RgR n l mb mo vs w j i W) (fun _ i _ => n - (intOf i).toNat)
  case atStart => exact ⟨0, 0, 0, T, St.start false mo vs, fun _ => false, rfl, rfl, Nat.zero_le _, Nat.le_refl _, Nat.le_refl _, L3.out, rfl, rfl, rfl, (fun x hx => (by cases hx)), fun x hx => (by cases hx)⟩
  case round =>
    obtain ⟨k, jn, m, T, s, f, rfl, rfl, hk, hjk, hmk, hL, hsm, h5, hvs, hby⟩ := hrel
    have HL := Lib.hid hL
    have SS := Lib.hid (And.intro hsm (And.intro h5 (And.intro hvs hby)))
    clear hL L3 hsm h5 hvs hby
    have hn2 := HN.out
    by_cases hlt : k < n
    · have e0 : decide (k < n) = true := by simpa using hlt
      obtain ⟨g, o, rfl, hg, hc1, hc2, hcell⟩ := KR.out.2 (by omega)
      have hsk := KR.out.1 k hlt
      have HC := Lib.hid (show ∀ W, Below w.heap.size w W → W.cell? ⟨g, o + k, none⟩ = some (.string (S k)) from fun W hB => (hB.cell (p := ⟨g, o + k, none⟩) hg).trans (hcell k hlt))
      have h1 := HC.out wr HL.out.lv.bel
      have HSK := Lib.hid hsk
      clear hcell
      unfold maxLen at hc2 hsk
      by_cases hbig : (S k).size ≤ 200
      · have e1 : decide (200 < ((S k).size : Int)) = false := decide_eq_false (by omega)
        obtain ⟨bf, hbf⟩ : ∃ r, r = s.w := ⟨_, rfl⟩
        have VB := weight_l wr l T s _ HL.out.lv.ca
        rw [← hbf] at VB
        have VB := Lib.hid VB
        have HBF := Lib.hid hbf
        clear hbf
        go_wp2_with fail
        refine VB.out.mono ?_
        rintro e w4 ⟨rfl, hB⟩
        have L4 := Lib.hid (HL.out.below hB)
        clear hB VB HL e0 e1 h1
        obtain ⟨was, hwas⟩ : ∃ r, r = inn s.ghosts (S k) := ⟨_, rfl⟩
        have WAS := Lib.hid hwas.symm
        have D0 := Lib.hid (show Below w4.heap.size w4 w4.drew from ⟨rfl, rfl, rfl, Nat.le_refl _, fun _ _ => rfl⟩)
        have VG := Lib.hid (fun (W : World) (hB : Below w4.heap.size w4 W) => ghosts_l W l T s _ (L4.out.below hB).lv.ca)
        have FF := Lib.hid (fun (W : World) (hB : Below w4.heap.size w4 W) => HC.out W (L4.out.below hB).lv.bel)
        clear hwas
        go_wp2_with fail
        refine wp_region_noPanic ?_
        refine wp_region_held_drew (S := fun W => W.cell? ⟨g, o + k, none⟩ = some (.string (S k))) (by kernel_rfl) ?_ (fun hHeld => ?_)
        · exact FF.out _ D0.out
        refine wpAnyH_take (i := 0) (oi := { dst := some 60, op := Go.Op.move (Go.Operand.tmp 7), type := 26, pos := "law.go:174", after := #[], guard := none }) (v := ?_) rfl (by kernel_rfl) (by kernel_rfl) (by kernel_rfl) (fun _ _ _ h => h) (Or.inl ⟨by rfl, ?_⟩) (by assumption) ?_
        rotate_left
        · (intro w hSw; (try dsimp only at hSw); go_simp; (try with_reducible rfl))
        (try simp only [Act.put, List.setIfInBounds_toArray, List.set_cons_zero, List.set_cons_succ])
        refine wpAnyH_take (i := 2) (oi := { dst := some 62, op := Go.Op.move (Go.Operand.tmp 2), type := 33, pos := "law.go:174", after := #[], guard := none }) (v := ?_) rfl (by kernel_rfl) (by kernel_rfl) (by kernel_rfl) (fun _ _ _ h => h) (Or.inl ⟨by rfl, ?_⟩) (by assumption) ?_
        rotate_left
        · (intro w hSw; (try dsimp only at hSw); go_simp; (try with_reducible rfl))
        (try simp only [Act.put, List.setIfInBounds_toArray, List.set_cons_zero, List.set_cons_succ])
        refine wpAnyH_take (i := 3) (oi := { dst := some 63, op := Go.Op.move (Go.Operand.tmp 12), type := 3, pos := "law.go:174", after := #[], guard := none }) (v := ?_) rfl (by kernel_rfl) (by kernel_rfl) (by kernel_rfl) (fun _ _ _ h => h) (Or.inl ⟨by rfl, ?_⟩) (by assumption) ?_
        rotate_left
        · (intro w hSw; (try dsimp only at hSw); go_simp; (try with_reducible rfl))
        (try simp only [Act.put, List.setIfInBounds_toArray, List.set_cons_zero, List.set_cons_succ])
        refine wpAnyH_take (i := 4) (oi := { dst := some 64, op := Go.Op.indexAddr 33 (Go.Operand.tmp 62) (Go.Operand.tmp 63), type := 0, pos := "law.go:174", after := #[{ on := 2, ground := Go.Ground.data }, { on := 3, ground := Go.Ground.data }], guard := none }) (v := ?_) rfl (by kernel_rfl) (by kernel_rfl) (by kernel_rfl) (fun _ _ _ h => h) (Or.inl ⟨by rfl, ?_⟩) (by assumption) ?_
        rotate_left
        · (intro w hSw; (try dsimp only at hSw); go_simp; (try with_reducible rfl))
        (try simp only [Act.put, List.setIfInBounds_toArray, List.set_cons_zero, List.set_cons_succ])
        refine wpAnyH_take (i := 5) (oi := { dst := some 65, op := Go.Op.load 9 (Go.Operand.tmp 64), type := 9, pos := "law.go:174", after := #[{ on := 4, ground := Go.Ground.data }], guard := none }) (v := ?_) rfl (by kernel_rfl) (by kernel_rfl) (by kernel_rfl) (fun _ _ _ h => h) (Or.inl ⟨by rfl, ?_⟩) (by assumption) ?_
        rotate_left
        · (intro w hSw; (try dsimp only at hSw); go_simp; (try with_reducible rfl))
        (try simp only [Act.put, List.setIfInBounds_toArray, List.set_cons_zero, List.set_cons_succ])
        refine wpAnyH_ready (rs := [1]) (by kernel_rfl) (by simp) ?_
        refine AllReadyH.cons (o := { dst := some 61, op := Go.Op.call { callee := Go.Callee.value (Go.Operand.func 36), args := #[Go.Operand.tmp 60], argTypes := #[26] }, type := 33, pos := "law.go:174", after := #[{ on := 0, ground := Go.Ground.data }], guard := none }) rfl (fun K hK => ?_) AllReadyH.nil
        go_simp
        refine (VG.out _ D0.out).mono ?_
        rintro e wb ⟨vb, rfl, hO, hB⟩
        have Bb := Lib.hid (D0.out.trans (hB.mono D0.out.size))
        obtain ⟨gb, _, hRb⟩ := hO.row
        have V3 := Lib.hid (WAS.out ▸ refHas_any wb gb vb _ (S k) hRb : Calls Tryz.prog 35 #[vb, .string (S k)] wb (BoolPost was wb))
        clear hO hB hRb
        go_wp2_with fail
        refine hK.out _ _ ?_ (fun hHeld => ?_)
        · exact FF.out wb Bb.out
        clear hK K
        (try simp only [Act.put, List.setIfInBounds_toArray, List.set_cons_zero, List.set_cons_succ])
        refine wpAnyH_ready (rs := [6]) (by kernel_rfl) (by simp) ?_
        refine AllReadyH.cons (o := { dst := some 66, op := Go.Op.call { callee := Go.Callee.value (Go.Operand.func 35), args := #[Go.Operand.tmp 61, Go.Operand.tmp 65], argTypes := #[33, 9] }, type := 4, pos := "law.go:174", after := #[{ on := 1, ground := Go.Ground.data }, { on := 5, ground := Go.Ground.data }, { on := 1, ground := Go.Ground.chain }], guard := none }) rfl (fun K hK => ?_) AllReadyH.nil
        go_simp
        refine V3.out.mono ?_
        rintro e wx ⟨rfl, rfl⟩
        go_wp2_with fail
        refine hK.out _ _ ?_ (fun hHeld => ?_)
        · exact hHeld
        clear hK K
        (try simp only [Act.put, List.setIfInBounds_toArray, List.set_cons_zero, List.set_cons_succ])
        refine wpAnyH_take (i := 7) (oi := { dst := some 14, op := Go.Op.assign (Go.Operand.tmp 66), type := 4, pos := "law.go:174", after := #[{ on := 6, ground := Go.Ground.data }, { on := 6, ground := Go.Ground.chain }, { on := 0, ground := Go.Ground.phase }, { on := 1, ground := Go.Ground.phase }, { on := 2, ground := Go.Ground.phase }, { on := 3, ground := Go.Ground.phase }, { on := 4, ground := Go.Ground.phase }, { on := 5, ground := Go.Ground.phase }, { on := 6, ground := Go.Ground.phase }], guard := none }) (v := ?_) rfl (by kernel_rfl) (by kernel_rfl) (by kernel_rfl) (fun _ _ _ h => h) (Or.inl ⟨by rfl, ?_⟩) (by assumption) ?_
        rotate_left
        · (intro w hSw; (try dsimp only at hSw); go_simp; (try with_reducible rfl))
        (try simp only [Act.put, List.setIfInBounds_toArray, List.set_cons_zero, List.set_cons_succ])
        refine wpAnyH_done (by kernel_rfl) ?_ _
        refine NoPanic.normal ?_
        have L5 := Lib.hid (L4.out.below Bb.out)
        have h5 := FF.out _ Bb.out
        have hm0 : s.mo ≠ 0 := by rw [SS.out.1]; have := LO.out; omega
        have OK := Lib.hid L5.out.lv.ca.ok
        have R := request_l wb l T s _ L5.out.lv.ca (S k) HSK.out (by omega)
        unfold St.step at R
        obtain ⟨hit, hhit⟩ : ∃ r, r = s.has (S k) := ⟨_, rfl⟩
        obtain ⟨out, hout⟩ : ∃ r, r = s.outB (S k) := ⟨_, rfl⟩
        obtain ⟨vk, hvk⟩ : ∃ r, r = s.vicV (S k) := ⟨_, rfl⟩
        rw [← hhit, ← hout, ← hvk] at R
        have R := Lib.hid R
        have HV := Lib.hid (And.intro hhit (And.intro hout hvk))
        have VKS := Lib.hid (show out = true → vk.size ≤ maxLen from fun h => by
          rw [hvk]
          exact L5.out.lv.ca.small _ ((req_f OK.out hm0 (S k)).vic (hout.symm.trans h)).1)
        clear VG FF V3 D0 hhit hout hvk L4 Bb
        go_wp2_with fail
        refine R.out.mono ?_
        intro e w5 hp
        obtain ⟨rfl, T6, hL6, _⟩ := L5.out.op hp
        have OK6 := Lib.hid hL6.lv.ca.ok
        have L6 := Lib.hid (show LB w _ l T6 (s.req (S k)) (4 * (k + 1)) mb m f from hL6.below ((Below.refl w5.heap.size w5).alloc (Nat.le_refl _) (.cells #[.bool hit, .string vk, .bool out] 57)))
        have B6 := Lib.hid (show LR.Box (w5.alloc (.cells #[.bool hit, .string vk, .bool out] 57)) w5.heap.size hit vk out from heap_alloc_new _ _)
        clear hp hL6 R L5 h5
        go_upto_region 19 with fail
        generalize w5.alloc (.cells #[.bool hit, .string vk, .bool out] 57) = w6 at L6 B6 ⊢
        generalize w5.heap.size = sb at B6 ⊢
        have RF := rgF OK.out OK6.out hm0 SS.out.2.2.2
        have NX := byOf_next OK.out hm0 (S k) SS.out.2.2.2
        have NV := req_vs SS.out.2.1 hm0 (S k)
        have KP := req_keep s (S k)
        rw [SS.out.1, SS.out.2.1] at KP
        rw [← HV.out.2.1, SS.out.2.2.1] at NV
        rw [← HV.out.1, ← HV.out.2.1, WAS.out, ← HBF.out] at RF
        rw [← HV.out.2.1, ← HV.out.2.2, SS.out.2.2.1, drop_headD] at NX
        clear OK OK6 SS HBF HV WAS hm0
        generalize s.req (S k) = s2 at *
        obtain ⟨af, haf⟩ : ∃ r, r = s2.w := ⟨_, rfl⟩
        rw [← haf] at RF NX
        have VA := weight_l w6 l T6 s2 _ L6.out.lv.ca
        rw [← haf] at VA
        have VA := Lib.hid VA
        have RF := Lib.hid RF
        have NX := Lib.hid (And.intro NX (And.intro NV KP))
        clear NV KP haf
        go_wp2_with fail
        refine VA.out.mono ?_
        rintro e w7 ⟨rfl, hB⟩
        have L7 := Lib.hid (L6.out.below hB)
        obtain ⟨b1, b2, b3, _, _⟩ := B6.out.cells
        replace b1 := (hB.cell (p := ⟨sb, 0, none⟩) (World.block_lt_of_cell? _ _ b1)).trans b1
        replace b2 := (hB.cell (p := ⟨sb, 1, none⟩) (World.block_lt_of_cell? _ _ b2)).trans b2
        replace b3 := (hB.cell (p := ⟨sb, 2, none⟩) (World.block_lt_of_cell? _ _ b3)).trans b3
        have hkey := HC.out w7 L7.out.lv.bel
        have LK := L7.out.map.look HSK.out
        obtain ⟨fk, hfk⟩ : ∃ r, r = f (S k) := ⟨_, rfl⟩
        rw [← hfk] at LK
        have rf := RF.out
        have e1 := rf.lo
        have e2 := rf.hi
        have e3 := rf.up
        have e4 := rf.dn
        have e5 := rf.no
        have e6 := rf.hit
        rw [← hfk] at e3 e4
        have hq : IntKind.u64.wrap (4611686018427387904 - 46116860184273879) = 4565569158243114025 := by decide
        have f1 : decide (af < 46116860184273879) = false := decide_eq_false (by omega)
        have f2 : decide ((af : Int) < 46116860184273879) = false := decide_eq_false (by omega)
        have f3 : decide (4565569158243114025 < af) = false := decide_eq_false (by omega)
        have f4 : decide (4565569158243114025 < (af : Int)) = false := decide_eq_false (by omega)
        have z0 : ((af : Int) == (af : Int)) = true := by simp
        have ways : (was = false ∧ af = bf) ∨ (was = true ∧ hit = false ∧ fk = true ∧ af ≤ bf) ∨ (was = true ∧ hit = false ∧ fk = false ∧ bf ≤ af) := by
          cases was with
          | false => exact Or.inl ⟨rfl, e5 rfl⟩
          | true => cases fk with
                    | true => exact Or.inr (Or.inl ⟨rfl, e6 rfl, rfl, e3 rfl rfl⟩)
                    | false => exact Or.inr (Or.inr ⟨rfl, e6 rfl, rfl, e4 rfl rfl⟩)
        have WAYS := Lib.hid ways
        clear hB VA L6 B6 ways e1 e2 e3 e4 e5 e6 rf RF hfk
        have END := Lib.hid (show out = false → RgR n l mb mo vs w (.int .i64 (jn : Int)) (.int .i64 ((k : Int) + 1)) w7 from fun h => by
          subst h
          exact ⟨k + 1, jn, m, T6, s2, f, by go_num, rfl, by omega, by omega, by omega, L7.out, NX.out.2.2.2, NX.out.2.2.1, by have := NX.out.2.1; rw [if_neg (by simp)] at this; exact this, NX.out.1.1 rfl⟩)
        have STO := Lib.hid (show ∀ x : Nat, x = vs.getD jn 0 → out = true → ∃ w', (Instr.mapUpdate 85 (.map (some mb)) (.string vk) (.bool (decide (x / 4 < af)))).run Tryz.prog w7 = .ok () w' ∧ RgR n l mb mo vs w (.int .i64 ((jn : Int) + 1)) (.int .i64 ((k : Int) + 1)) w' from fun x hx h => by
          subst h
          obtain ⟨w', hrun, hS⟩ := L7.out.store (VKS.out rfl) (decide (x / 4 < af)) (by omega)
          refine ⟨w', hrun, k + 1, jn + 1, m + 1, T6, s2, _, by go_num, by go_num, by omega, by omega, by omega, hS, NX.out.2.2.2, NX.out.2.2.1, ?_, ?_⟩
          · have := NX.out.2.1
            rw [if_pos rfl, List.tail_drop] at this
            exact this
          · rw [hx]
            exact NX.out.1.2 rfl)
        have LANE := Lib.hid (show jn < vn → ∃ gl ol, Al = some ⟨gl, ol, none⟩ ∧ w7.cell? ⟨gl, ol + jn, none⟩ = some (.int .u64 ((vs.getD jn 0 : Nat) : Int)) ∧ vn ≤ cl ∧ cl ≤ maxLen from fun h => by
          rcases HV.out.2.2 with hnil | ⟨gl, ol, c', e, q1, q2, q3, q4, q5⟩
          · exact absurd h (by rw [VN.out, hnil.1]; simp)
          · injection e with ea eb ec
            exact ⟨gl, ol, ea, (L7.out.lv.bel.cell (p := ⟨gl, ol + jn, none⟩) q2).trans (q5 jn (by rw [← VN.out]; exact h)), by rw [VN.out, ec]; exact q3, by rw [ec]; exact q4⟩)
        have VB64 := Lib.hid (show vs.getD jn 0 ≤ 18446744073709551615 from by
          by_cases h : jn < vs.length
          · rw [List.getD_eq_getElem?_getD, List.getElem?_eq_getElem h]; exact HV.out.2.1 _ (List.getElem_mem h)
          · rw [List.getD_eq_getElem?_getD, List.getElem?_eq_none (by omega)]; simp)
        have VOUT := Lib.hid (show jn ≥ vn → vs.getD jn 0 = 0 from fun h => by rw [List.getD_eq_getElem?_getD, List.getElem?_eq_none (by rw [← VN.out]; exact h)]; rfl)
        clear NX VKS L7
        have WO := Lib.hid (show out = false ∨ out = true from by cases out <;> simp)
        rcases WAYS.out with ⟨rfl, ha⟩ | ⟨rfl, rfl, rfl, ha⟩ | ⟨rfl, rfl, rfl, ha⟩
        all_goals
          have f5 : decide ((bf : Int) < (af : Int)) = decide (bf < af) := by rw [Bool.eq_iff_iff]; simp
          have f6 : decide ((af : Int) < (bf : Int)) = decide (af < bf) := by rw [Bool.eq_iff_iff]; simp
          first
          | (subst ha)
          | (have f7 : decide (bf < af) = false := decide_eq_false (by omega)
             rw [f7] at f5)
          | (have f7 : decide (af < bf) = false := decide_eq_false (by omega)
             rw [f7] at f6)
          rcases WO.out with ho | ho
          · subst ho
            go_wp2_with fail
            go_roundw
            case rel => exact END.out trivial
            case measure => simp [intOf]; omega
          · subst ho
            clear END
            by_cases hjv : jn < vn
            · have f8 : decide (jn < vn) = true := decide_eq_true hjv
              have f9 : decide ((jn : Int) < (vn : Int)) = true := decide_eq_true (by omega)
              obtain ⟨gl, ol, rfl, hlc, hlc2, hlc3⟩ := LANE.out hjv
              obtain ⟨w8, hrun, hR⟩ := STO.out _ rfl (by first | rfl | trivial)
              have HR := Lib.hid hR
              unfold maxLen at hlc3
              clear VB64 NX
              generalize vs.getD jn 0 = x at *
              have hdx : decide (x / 4 < af) = decide ((x : Int) / 4 < (af : Int)) := by rw [Bool.eq_iff_iff, decide_eq_true_iff, decide_eq_true_iff]; omega
              rw [hdx] at hrun
              clear hR STO VOUT hdx
              go_wp2_with fail
              go_roundw
              case rel => exact HR.out
              case measure => simp [intOf]; omega
            · have f8 : decide (jn < vn) = false := decide_eq_false hjv
              have f9 : decide ((jn : Int) < (vn : Int)) = false := decide_eq_false (by omega)
              obtain ⟨w8, hrun, hR⟩ := STO.out 0 (VOUT.out (by omega)).symm (by first | rfl | trivial)
              have HR := Lib.hid hR
              clear hR STO VOUT LANE hjv VB64
              go_wp2_with fail
              go_roundw
              case rel => exact HR.out
              case measure => simp [intOf]; omega
      · have e1 : decide (200 < ((S k).size : Int)) = true := decide_eq_true (by omega)
        go_wp2_with fail
        go_ret
        exact ⟨rfl, HL.out.lv.bel⟩
    · have e0 : decide (k < n) = false := by simpa using hlt
      go_wp2_with fail
      go_ret
      exact ⟨rfl, HL.out.lv.bel⟩
end Go.Proofs.YtnlckkahkghneaaGreatDoor.LE
namespace Go.Proofs.YtnlckkahkghneaaGreatDoor
open Go.ChangeShapes Go.WideShapes Go.ChangeAt Go.RowKit Sg
open Go.ChangeMaps (open_string shut_string)
theorem walk_learnRegrets (a0 : Int) (v1 : Value) (v2 : Value) (w : World) (w0 : (Lit.int .i64 a0).wf = true) (wr : CameR w v1) (wk : CameS w v2) (hl : Laid w) : Calls Tryz.prog 5 #[.int .i64 a0, v1, v2] w (LE.RetB true w) := by
  obtain ⟨A, n, c, rfl, hn, S, hr, hc⟩ := wk
  obtain ⟨Al, nl, cl, rfl, hnl, vs, hvs⟩ := pick_lane wr
  have hz0 := i64_rng w0
  by_cases hok : ¬ 200 < (n : Int) ∧ ¬ 300 < (nl : Int) ∧ ¬ a0 < 1 ∧ ¬ 1000 < a0
  · obtain ⟨q0, q1, q2, q3⟩ := hok
    obtain ⟨mo, rfl⟩ : ∃ m : Nat, a0 = (m : Int) := ⟨a0.toNat, by omega⟩
    obtain ⟨hv1, hv2⟩ := hvs (by omega)
    subst hv1
    exact LE.learnRegrets_main mo vs Al cl A n c w S (by omega) (by omega) (by omega) (by omega) hv2 ⟨hr, hc⟩ hl
  · have PW := Lib.hid (show (decide (200 < (n : Int)) = true) ∨ (decide (200 < (n : Int)) = false ∧ decide (300 < (nl : Int)) = true) ∨ (decide (200 < (n : Int)) = false ∧ decide (300 < (nl : Int)) = false ∧ decide (a0 < 1) = true) ∨ (decide (200 < (n : Int)) = false ∧ decide (300 < (nl : Int)) = false ∧ decide (a0 < 1) = false ∧ decide (1000 < a0) = true) from by
      simp only [decide_eq_true_eq, decide_eq_false_iff_not]; omega)
    have AW := Lib.hid (LE.awake_any w hl)
    unfold maxLen at hn hnl
    clear hr hc hok hl w0 hz0 hvs wr
    rcases PW.out with e0 | ⟨e0, e1⟩ | ⟨e0, e1, e2⟩ | ⟨e0, e1, e2, e3⟩
    all_goals
      clear PW
      go_enter Tryz.func5, Tryz.ntmps5
      go_wp2_with fail
      refine AW.out.mono ?_
      rintro e w0 ⟨rfl, hb0⟩
      go_wp2_with fail
      go_ret
      exact ⟨rfl, hb0⟩

namespace LLearnRegrets
set_option maxRecDepth 100000 in
theorem lifted (os : Os) (started : os.Started) (H : Type) (enc : TypeId × Value → H) :
    ReturnsInHanded {} Tryz.checked os 5 .any (fun w args => (Rows.learnRegretsSpec.pre enc Tryz.prog Tryz.f5 [] false w args ∧ laidMetH Tryz.prog seatLaid w) ∧ sizedMet enc Tryz.prog Tryz.f5 (OpenSpec.ofChange Rows.learnRegretsSpec) false w args)
      (Rows.learnRegretsSpec.post enc Tryz.prog Tryz.f5 false true false false) := by
  refine returnsInHanded_of_change_and (C := Tryz.checked) (X := fun w _ => laidMetH Tryz.prog seatLaid w) (fun _ _ _ hh h => h.of_heap hh) own started (by kernel_rfl) Tryz.func5
    (ChangeSpec.witness_at (enc := enc) (C := Tryz.checked) (os := os) (X := fun w _ => laidMetH Tryz.prog seatLaid w) false (laidWorld os) #[.int .i64 0, .slice none 0 0, .slice none 0 0] 8 rfl (by kernel_rfl) (by kernel_rfl) (by kernel_rfl) (by kernel_rfl) (by kernel_rfl) (laidWorld_met os _)) ?_
  intro W base args ds gs before hval0 hW _ _ hL _
  have hval : ∀ (j : Nat) t v, Tryz.f5.params[j]? = some t → args[j]? = some v → Value.okWide Tryz.prog W .any base t v := hval0
  have hW' := hW
  obtain ⟨p, q, hA0, hV, rfl, hfz, hnd⟩ := hW
  have hA : DataW.TrodAll enc Tryz.prog W 0 (fun _ => true) true Tryz.f5.params.toList args.toList ds p := hA0
  rw [Tryz.params5] at hA hval
  obtain ⟨v0, vs0, d0, ds0, p0, q0, hargs, rfl, rfl, h0, r0⟩ := trodAll_cons hA
  obtain ⟨v1, vs1, d1, ds1, p1, q1, rfl, rfl, rfl, h1, r1⟩ := trodAll_cons r0
  obtain ⟨v2, vs2, d2, ds2, p2, q2, rfl, rfl, rfl, h2, r2⟩ := trodAll_cons r1
  obtain ⟨rfl, rfl, rfl⟩ := trodAll_nil r2
  obtain rfl : args = #[v0, v1, v2] := by cases args; simp_all
  obtain ⟨rfl, rfl⟩ := trodVars_none hV
  obtain ⟨a0, rfl, rfl, rfl, w0⟩ := open_int Tryz.underlying3 (hval 0 3 v0 rfl rfl) h0
  have k1 := h1
  have lt1 : ∀ x ∈ p1, x.block < W.heap.size := by obtain ⟨m, hm⟩ := k1; exact DataW.trod_lt m _ _ _ hm
  have w1 := open_r (hval 1 22 v1 rfl rfl) h1
  have k2 := h2
  have lt2 : ∀ x ∈ p2, x.block < W.heap.size := by obtain ⟨m, hm⟩ := k2; exact DataW.trod_lt m _ _ _ hm
  have w2 := open_z (hval 2 33 v2 rfl rfl) h2
  clear hA0 hval0
  refine (walk_learnRegrets a0 v1 v2 W w0 w1 w2 (laid_of hL)).mono fun e W' ⟨he, bel⟩ => ?_
  subst he
  exact ⟨_, rfl, _, _, _, [], _, [], hW', trodAll_mk1 (shut_bool Tryz.underlying4 _), (trodAll_cons_mk (shut_int Tryz.underlying3 w0) (trodAll_cons_mk (Below.trod laidOut (by kernel_rfl) (of_decide_eq_true (by kernel_rfl)) k1 bel lt1) (trodAll_cons_mk (Below.trod laidOut (by kernel_rfl) (of_decide_eq_true (by kernel_rfl)) k2 bel lt2) trodAll_mk0))), rfl, bel.frame _, fun h => by cases h⟩

theorem band {x y : Bool} (h : x = true) (k : y = true) : (x && y) = true := by rw [h, k]; rfl
set_option maxRecDepth 100000
theorem cj0 : (Rows.learnRegretsRow.wf (OpenSpec.ofChange Rows.learnRegretsSpec)) = true := by kernel_rfl
theorem cj1 : (laidOutB Tryz.pinned.checked.prog) = true := by kernel_rfl
theorem cj2 : (mapsRowed Tryz.pinned.checked.prog) = true := by kernel_rfl
theorem cj9 : (Rows.learnRegretsRow.inPlace == Tryz.pinned.checked.prog.inPlace 5) = true := by kernel_rfl
theorem cj10 : (Rows.learnRegretsRow.unfollowed == Tryz.pinned.checked.prog.unfollowed 5) = true := by kernel_rfl
theorem cj11 : (Rows.learnRegretsRow.recurses == Tryz.pinned.checked.prog.recurses 5) = true := by kernel_rfl
theorem cj12 : (Rows.learnRegretsRow.named == Tryz.pinned.checked.prog.varsNamed 5) = true := by kernel_rfl
theorem cj22 : (Rows.learnRegretsRow.plainKeys == Tryz.pinned.checked.prog.plainKeys) = true := by kernel_rfl
theorem cj24 : (Tryz.pinned.checked.prog.stopsHeard) = true := by kernel_rfl
theorem cj25 : (Tryz.pinned.checked.prog.mayEnter) = true := by kernel_rfl
theorem cj26 : (Rows.learnRegretsRow.lifted == Tryz.pinned.checked.prog.liftsFinal) = true := by kernel_rfl
theorem cj27 : (Tryz.pinned.checked.prog.make == some Rows.learnRegretsRow.make) = true := by kernel_rfl
theorem closed : joinedFacts Tryz.pinned.checked.prog 5 Tryz.f5 Rows.learnRegretsSpec Rows.learnRegretsRow = true := by
  unfold joinedFacts
  exact band (band (band (band (band (band (band (band (band (band (band (band (band (band (band (band (band (band (band (band (band (band (band (band (band (band (band (band (band (band (band (cj0) cj1) cj2) (by kernel_rfl)) (by kernel_rfl)) (by kernel_rfl)) (by kernel_rfl)) (by kernel_rfl)) (by kernel_rfl)) cj9) cj10) cj11) cj12) (by kernel_rfl)) (by kernel_rfl)) (by kernel_rfl)) (by kernel_rfl)) (by kernel_rfl)) (by kernel_rfl)) (by kernel_rfl)) (by kernel_rfl)) (by kernel_rfl)) cj22) (by kernel_rfl)) cj24) cj25) cj26) cj27) (by kernel_rfl)) (by kernel_rfl)) (by kernel_rfl)) (by kernel_rfl)
theorem fnm : Tryz.pinned.checked.prog.funcNamed "cachewise/cachewiselaw10.LearnRegrets" = some 5 := by kernel_rfl
theorem isIn : Tryz.f5.isInstance Tryz.pinned.checked.prog Rows.learnRegretsRow.origin Rows.learnRegretsRow.targs := of_decide_eq_true (by kernel_rfl)
theorem isWr : Tryz.f5.isWrapper Tryz.pinned.checked.prog Rows.learnRegretsRow.wrapper Rows.learnRegretsRow.mainSum := by unfold Func.isWrapper; rw [if_neg (of_decide_eq_false (by kernel_rfl))]; exact ⟨rfl, rfl⟩
theorem said : Rows.LearnRegretsSaid :=
  OpenClaim.holds_of_wide 5 Tryz.f5 rfl rfl rfl rfl rfl rfl rfl ⟨rfl, rfl, rfl, rfl, rfl⟩ rfl rfl rfl rfl rfl fnm Tryz.func5 closed isIn isWr
    (fun os started H enc _ => lifted os started H enc)

theorem hwT : Rows.learnRegretsRow.wfByText (OpenSpec.ofChange Rows.learnRegretsSpec) = true := by kernel_rfl
theorem mnI : Tryz.pinned.checked.prog.mainIs = some (Rows.learnRegretsCard.stood.harness.1, Rows.learnRegretsCard.stood.harness.2.toList) := by kernel_rfl
theorem lkT : Rows.learnRegretsCard.stood.looks = Tryz.pinned.checked.prog.looks [] := by kernel_rfl
theorem gsB : false = Rows.learnRegretsRow.goesBy Tryz.pinned.checked.prog := by kernel_rfl
theorem sii : Tryz.prog.wantsStandIn 3 = false := by kernel_rfl
theorem sir : Tryz.prog.wantsStandIn 22 = false := by kernel_rfl
theorem siz : Tryz.prog.wantsStandIn 33 = false := by kernel_rfl
theorem card : Rows.LearnRegretsCardSaid :=
  Claim7.holds_tied_plain_at .later [] _ _ _ _ said (fun _ h => by cases h) hwT (fun _ h => by cases h) learnRegrets_row_tie rfl ⟨rfl, rfl⟩ mnI rfl
    (fun f fn hf hfn => by
      obtain rfl : f = 5 := Option.some.inj (fnm.symm.trans hf) |>.symm
      obtain rfl : fn = Tryz.f5 := (Option.some.inj (Tryz.func5.symm.trans hfn)).symm
      refine ⟨lkT, fun j t ht => ?_⟩
      rw [Tryz.params5] at ht
      rcases j with _ | _ | _ | j
      · obtain rfl : t = 3 := by simpa using ht.symm
        exact sii
      · obtain rfl : t = 22 := by simpa using ht.symm
        exact sir
      · obtain rfl : t = 33 := by simpa using ht.symm
        exact siz
      · simp at ht)
    gsB
#print axioms card
end LLearnRegrets
end Go.Proofs.YtnlckkahkghneaaGreatDoor
