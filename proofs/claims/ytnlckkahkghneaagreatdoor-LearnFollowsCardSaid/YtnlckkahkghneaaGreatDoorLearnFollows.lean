/- 'cachewiselaw10.LearnFollows' returns true for every size and every row of keys, and leaves what was there as it was. The listed variables read as the program's text lays them. -/
import Derived.Test.YtnlckkahkghneaaGreatDoorLz12
import Derived.Test.YtnlckkahkghneaaGreatDoorCards
import Derived.Test.YtnlckkahkghneaaGreatDoorTie
import Derived.SevenTiedAt
import Derived.Deep.DeepCutAuto
import Derived.Deep.CutBlock
import Derived.Deep.QuietTactic
import Derived.BigQuiet
set_option maxRecDepth 20000
namespace Go.Proofs.YtnlckkahkghneaaGreatDoor.LE
open Go.ChangeShapes Go.WideShapes Go.ChangeAt Go.RowKit Sg

theorem upf_zero {g : ByteArray → Int} {k : Int} (h : ∀ x, 0 ≤ g x ∧ g x ≤ k) (v x : ByteArray) : 0 ≤ upf g v 0 x ∧ upf g v 0 x ≤ k := by
  have h0 := h v
  unfold upf
  split
  · omega
  · exact h x
theorem upf_in {g : ByteArray → Int} {k : Nat} (h : ∀ x, 0 ≤ g x ∧ g x ≤ (k : Int)) {key : ByteArray} {gk : Int} (hg : 0 ≤ gk ∧ gk ≤ (k : Int)) (x : ByteArray) : 0 ≤ upf g key (gk + 1) x ∧ upf g key (gk + 1) x ≤ ((k + 1 : Nat) : Int) := by
  have h0 := h x
  unfold upf
  split <;> omega
set_option maxHeartbeats 8000000 in
set_option maxRecDepth 100000 in
theorem learnFollows_main (mo : Nat) (A : Option Addr) (n cc : Nat) (w : World) (S : Nat → ByteArray) (hlo : 1 ≤ mo) (hmo : mo ≤ 1000) (hn : n ≤ 100) (hk : KRow w A n cc S) (hl : Laid w) :
    Calls Tryz.prog 6 #[.int .i64 (mo : Int), .slice A n cc] w (RetB true w) := by
  have AW := Lib.hid (awake_any w hl)
  have MA := Lib.hid (fun (w1 : World) => show Calls Tryz.prog 41 #[.int .i64 5, .int .i64 (mo : Int), .slice none 0 0] w1 (LNew false mo [] w1) from
    made_l w1 false mo _ [] (by omega) (DR.Lane.nil _ _ _ _ _))
  have MB := Lib.hid (fun (w1 : World) (v : Value) (h : DR.Lane w1 0 w1.heap.size v (List.replicate 100 18446744073709551615)) => show Calls Tryz.prog 41 #[.int .i64 5, .int .i64 (mo : Int), v] w1 (LNew false mo (List.replicate 100 18446744073709551615) w1) from
    made_l w1 false mo _ _ (by omega) h)
  have g0 : decide (100 < (n : Int)) = false := decide_eq_false (by omega)
  have g4 : decide ((mo : Int) < 1) = false := decide_eq_false (by omega)
  have g5 : decide (1000 < (mo : Int)) = false := decide_eq_false (by omega)
  have KR := Lib.hid hk
  have LO := Lib.hid hlo
  have HM := Lib.hid hmo
  have HN := Lib.hid hn
  clear hk hl hlo
  go_enter Tryz.func6, Tryz.ntmps6
  go_wp2_with fail
  refine AW.out.mono ?_
  rintro e w0 ⟨rfl, hb0⟩
  have b0 := Lib.hid hb0; clear hb0
  go_wp2_with fail
  clear g0 g4 g5
  go_loopw [5, 6] (fun v i W => HiR w v i W) (fun _ i _ => 100 - (intOf i).toNat)
  case atStart => exact ⟨0, rfl, Nat.zero_le _, World.ownsRow_nil _ _ _ _, b0.out⟩
  case round =>
    obtain ⟨k, rfl, hk, hO, hB⟩ := hrel
    by_cases hlt : k < 100
    · have e0 : decide ((k : Int) < 100) = true := decide_eq_true (by omega)
      have e0' : decide (k < 100) = true := decide_eq_true hlt
      obtain ⟨A1, c1, w2, hrun, hO2, hG⟩ := appU hO (by omega) hB.size
      have RUN := Lib.hid hrun
      have NX := Lib.hid (hi_next hO hB hlt hO2 hG)
      clear hrun hO hB hO2 hG b0
      go_wp2_with (at_builtin; refine wpList_append_run rfl _ _ _ rfl _ _ _ _ rfl rfl RUN.out ?_)
      go_roundw
      case rel => exact NX.out
      case measure => simp [intOf]; omega
    · have e0 : decide ((k : Int) < 100) = false := decide_eq_false (by omega)
      have e0' : decide (k < 100) = false := decide_eq_false hlt
      obtain rfl : k = 100 := by omega
      have LN := Lib.hid (And.intro (laneU (M := 18446744073709551615) rfl (by omega) (by omega) hO) hB)
      clear hO hB b0 hlt hk
      go_wp2_with fail
      refine (MA.out _).mono ?_
      rintro e w1 ⟨p, U1, rfl, hC, hT, hB⟩
      have L1 := Lib.hid (LL.made LN.out.2 hC hT hB)
      have LN2 := Lib.hid (DR.Lane.wide (LN.out.1.same fun k _ hk => hB.block k hk) (Nat.le_refl _) hB.size)
      clear hC hT hB LN
      go_wp2_with fail
      refine (MB.out w1 _ LN2.out).mono ?_
      rintro e w2 ⟨p2, U2, rfl, hC, hT, hB⟩
      have P2 := Lib.hid (show Pr2 w w2 p U1 (St.start false mo []) 0 p2 U2 (St.start false mo (List.replicate 100 18446744073709551615)) 0 from ⟨L1.out.below hB, LL.made L1.out.bel hC hT hB, fun k h1 h2 => by have := L1.out.lt k h1; have := hT k h2; omega⟩)
      clear hC hT hB L1 LN2 MA MB AW
      have F2 := Lib.hid (Fm.made P2.out)
      have h2 := @run_makeMap Tryz.prog
      go_upto_region 14 with fail
      clear P2
      generalize w2.alloc (.map #[] 0) = w3 at F2 ⊢
      generalize w2.heap.size = ma at F2 ⊢
      have F3 := Lib.hid (Fo.made F2.out)
      go_upto_region 15 with fail
      clear F2 h2
      generalize w3.alloc (.map #[] 0) = w4 at F3 ⊢
      generalize w3.heap.size = mb at F3 ⊢
      have S0 := Lib.hid (show FoR w p p2 ma mb n mo (.int .i64 0) w4 from ⟨0, 0, 0, U1, U2, _, _, _, _, rfl, Nat.zero_le _, Nat.le_refl _, Nat.le_refl _, F3.out, rfl, rfl, rfl, rfl, folA_start mo _, folB_start mo, fun _ => ⟨by omega, by omega⟩⟩)
      clear F3 e0 e0'
      go_wp2_with fail
      go_loopw [11] (fun i W => FoR w p p2 ma mb n mo i W) (fun i _ => n - (intOf i).toNat)
      case atStart => exact S0.out
      case round =>
        obtain ⟨k, na, nb, U, U2, s, s2, f, g, rfl, hk, hna, hnb, hF, h1m, h2m, h1s, h2s, hfa, hfb, hgb⟩ := hrel
        clear S0
        have HL := Lib.hid hF
        have SM := Lib.hid (And.intro h1m (And.intro h2m (And.intro h1s (And.intro h2s (And.intro hfa hfb)))))
        have GB := Lib.hid hgb
        clear hF h1m h2m h1s h2s hfa hfb hgb
        by_cases hlt : k < n
        · have e0 : decide (k < n) = true := by simpa using hlt
          obtain ⟨g0, o0, rfl, hg, hc1, hc2, hcell⟩ := KR.out.2 (by omega)
          have hn2 := HN.out
          have HSK := Lib.hid (KR.out.1 k hlt)
          have HC := Lib.hid (show ∀ W, Below w.heap.size w W → W.cell? ⟨g0, o0 + k, none⟩ = some (.string (S k)) from fun W hB => (hB.cell (p := ⟨g0, o0 + k, none⟩) hg).trans (hcell k hlt))
          have h1 := HC.out wr HL.out.pr.one.bel
          have hsk := HSK.out
          clear hcell
          unfold maxLen at hc2 hsk
          by_cases hbig : (S k).size ≤ 200
          · have e1 : decide (200 < ((S k).size : Int)) = false := decide_eq_false (by omega)
            have OK1 := Lib.hid HL.out.pr.one.ca.ok
            have OK2 := Lib.hid HL.out.pr.two.ca.ok
            have hm1 : s.mo ≠ 0 := by rw [SM.out.1]; have := LO.out; omega
            have hm2 : s2.mo ≠ 0 := by rw [SM.out.2.1]; have := LO.out; omega
            generalize S k = key at *
            obtain ⟨qx, hqx⟩ : ∃ x, x = s.keys.length := ⟨_, rfl⟩
            obtain ⟨qy, hqy⟩ : ∃ x, x = s2.keys.length := ⟨_, rfl⟩
            have hqx2 : qx ≤ 1000 := by rw [hqx]; have := OK1.out.le; rw [SM.out.1] at this; have := HM.out; exact Nat.le_trans ‹_› ‹_›
            have hqy2 : qy ≤ 1000 := by rw [hqy]; have := OK2.out.le; rw [SM.out.2.1] at this; have := HM.out; exact Nat.le_trans ‹_› ‹_›
            have V0 := Lib.hid (keys_l wr p U s _ HL.out.pr.one.ca)
            go_wp2_with fail
            refine V0.out.mono ?_
            rintro e w4 ⟨v4, rfl, hO4, hB4⟩
            obtain ⟨A2, c2, rfl⟩ := hO4.len
            have V0 := Lib.hid (keys_l w4 p2 U2 s2 _ (HL.out.below hB4).pr.two.ca)
            have O4 := Lib.hid (And.intro hO4 hB4)
            clear hO4 hB4 h1
            go_wp2_with fail
            refine V0.out.mono ?_
            rintro e w5 ⟨v5, rfl, hO5, hB5⟩
            obtain ⟨A3, c3, rfl⟩ := hO5.len
            have hB45 := O4.out.2.trans (hB5.mono O4.out.2.size)
            have F5 := Lib.hid (HL.out.rows hB45)
            have R1 := PX.made O4.out.1 hB5
            have R2 : PX w5 (fun k => wr.heap.size ≤ k ∧ k < w5.heap.size) (.slice A3 s2.keys.length c3) s2.keys := (PX.made hO5 (Below.refl _ _)).wide fun k hk => ⟨Nat.le_trans O4.out.2.size hk.1, hk.2⟩
            have hdr : Below w5.heap.size w5 w5.drew := ⟨rfl, rfl, rfl, Nat.le_refl _, fun _ _ => rfl⟩
            have F6 := Lib.hid (F5.out.below hdr)
            have RX := Lib.hid (R1.below hdr)
            have RY := Lib.hid (R2.below hdr)
            rw [← hqx] at RX ⊢
            rw [← hqy] at RY ⊢
            have HQ := Lib.hid (And.intro hqx hqy)
            clear hO5 hB5 hB45 R1 R2 hdr F5 V0 O4 HL hqx hqy
            generalize (fun k => wr.heap.size ≤ k ∧ k < w5.heap.size) = X at *
            have PB0 := Lib.hid (FB.start F6.out)
            have V1 := fun (W : World) (T : Nat → Prop) (hC : LC W p T s (4 * k)) => request_l W p T s _ hC key HSK.out (by omega)
            have V2 := fun (W : World) (T : Nat → Prop) (hC : LC W p2 T s2 (4 * k)) => request_l W p2 T s2 _ hC key HSK.out (by omega)
            unfold St.step at V1 V2
            have NA := folA_req OK1.out SM.out.2.2.1 hm1 SM.out.2.2.2.2.1 key
            have NB := fun (t : ByteArray → Int) (ht : t = if s2.outB key = true then upf g (s2.vicV key) 0 else g) => folB_req OK2.out SM.out.2.2.2.1 hm2 SM.out.2.2.2.2.2 (by omega) key ht
            have VA := fun (e : s.outB key = true) => ((req_f OK1.out hm1 key).vic e).1
            have VB := fun (e : s2.outB key = true) => ((req_f OK2.out hm2 key).vic e).1
            have SA := F6.out.pr.one.ca.small
            have SB := F6.out.pr.two.ca.small
            have KP := Lib.hid (show (s.req key).mo = mo ∧ (s2.req key).mo = mo ∧ (s.req key).six = false ∧ (s2.req key).six = false from ⟨(req_keep s key).2.trans SM.out.1, (req_keep s2 key).2.trans SM.out.2.1, (req_keep s key).1.trans SM.out.2.2.1, (req_keep s2 key).1.trans SM.out.2.2.2.1⟩)
            obtain ⟨ha, hha⟩ : ∃ x, x = s.has key := ⟨_, rfl⟩
            obtain ⟨oa, hoa⟩ : ∃ x, x = s.outB key := ⟨_, rfl⟩
            obtain ⟨va, hva⟩ : ∃ x, x = s.vicV key := ⟨_, rfl⟩
            obtain ⟨hb, hhb⟩ : ∃ x, x = s2.has key := ⟨_, rfl⟩
            obtain ⟨ob, hob⟩ : ∃ x, x = s2.outB key := ⟨_, rfl⟩
            obtain ⟨vb, hvb⟩ : ∃ x, x = s2.vicV key := ⟨_, rfl⟩
            rw [← hha, ← hoa, ← hva] at V1
            rw [← hhb, ← hob, ← hvb] at V2
            rw [← hoa, ← hva] at NA VA
            rw [← hob, ← hvb] at NB VB
            have QA := Lib.hid (show (oa = true → ∀ x ∈ s.keys, f va ≤ f x) ∧ (oa = true → va.size ≤ maxLen) ∧ ∀ x ∈ s.keys, x.size ≤ maxLen from ⟨NA.1, fun e => SA _ (VA e), SA⟩)
            have QB := Lib.hid (show (ob = true → ∀ x ∈ s2.keys, g vb ≤ g x) ∧ (ob = true → vb.size ≤ maxLen) ∧ ∀ x ∈ s2.keys, x.size ≤ maxLen from ⟨(NB _ rfl).1, fun e => SB _ (VB e), SB⟩)
            have VBS := Lib.hid QB.out.2.1
            have FLA := Lib.hid NA
            have FLB := Lib.hid (show True ∧ ∀ t, t = (if ob = true then upf g vb 0 else g) → FolB (s2.req key) (upf t key (t key + 1)) (k + 1) from ⟨trivial, fun t ht => (NB t ht).2⟩)
            have V1 := Lib.hid V1
            have V2 := Lib.hid V2
            clear NA NB VA VB SA SB hha hoa hva hhb hob hvb OK1 OK2 SM hm1 hm2 F6
            go_upto_region 21 with fail
            go_cut [14, 15] (fun x y W => ∃ z1 z2 U' U2', x = .pointer (some ⟨z1, 0, none⟩) ∧ y = .pointer (some ⟨z2, 0, none⟩) ∧ FE w w5.drew W p U' (s.req key) (4 * k + 4) p2 U2' (s2.req key) (4 * k + 4) ma na f mb nb g X z1 z2 ha va oa hb vb ob)
            case first =>
              as_aux_lemma =>
              refine wp_region_noPanic ?_
              refine wp_region_held_drew (S := fun w' => w'.cell? ⟨g0, o0 + k, none⟩ = some (.string key)) (by kernel_rfl) ?_ (fun hHeld => ?_)
              · exact HC.out _ PB0.out.fo.pr.one.bel
              generalize hW0 : w5.drew = W0 at *
              refine wpAnyH_take (i := 0) (oi := { dst := some 67, op := Go.Op.move (Go.Operand.tmp 7), type := 26, pos := "law.go:218", after := #[], guard := none }) (v := ?_) rfl (by kernel_rfl) (by kernel_rfl) (by kernel_rfl) (fun _ _ _ h => h) (Or.inl ⟨by rfl, ?_⟩) (by assumption) ?_
              rotate_left
              · (intro w hSw; (try dsimp only at hSw); go_simp; (try with_reducible rfl))
              (try simp only [Act.put, List.setIfInBounds_toArray, List.set_cons_zero, List.set_cons_succ])
              refine wpAnyH_take (i := 1) (oi := { dst := some 68, op := Go.Op.move (Go.Operand.tmp 1), type := 33, pos := "law.go:218", after := #[], guard := none }) (v := ?_) rfl (by kernel_rfl) (by kernel_rfl) (by kernel_rfl) (fun _ _ _ h => h) (Or.inl ⟨by rfl, ?_⟩) (by assumption) ?_
              rotate_left
              · (intro w hSw; (try dsimp only at hSw); go_simp; (try with_reducible rfl))
              (try simp only [Act.put, List.setIfInBounds_toArray, List.set_cons_zero, List.set_cons_succ])
              refine wpAnyH_take (i := 2) (oi := { dst := some 69, op := Go.Op.move (Go.Operand.tmp 11), type := 3, pos := "law.go:218", after := #[], guard := none }) (v := ?_) rfl (by kernel_rfl) (by kernel_rfl) (by kernel_rfl) (fun _ _ _ h => h) (Or.inl ⟨by rfl, ?_⟩) (by assumption) ?_
              rotate_left
              · (intro w hSw; (try dsimp only at hSw); go_simp; (try with_reducible rfl))
              (try simp only [Act.put, List.setIfInBounds_toArray, List.set_cons_zero, List.set_cons_succ])
              refine wpAnyH_take (i := 3) (oi := { dst := some 70, op := Go.Op.indexAddr 33 (Go.Operand.tmp 68) (Go.Operand.tmp 69), type := 0, pos := "law.go:218", after := #[{ on := 1, ground := Go.Ground.data }, { on := 2, ground := Go.Ground.data }], guard := none }) (v := ?_) rfl (by kernel_rfl) (by kernel_rfl) (by kernel_rfl) (fun _ _ _ h => h) (Or.inl ⟨by rfl, ?_⟩) (by assumption) ?_
              rotate_left
              · (intro w hSw; (try dsimp only at hSw); go_simp; (try with_reducible rfl))
              (try simp only [Act.put, List.setIfInBounds_toArray, List.set_cons_zero, List.set_cons_succ])
              refine wpAnyH_take (i := 4) (oi := { dst := some 71, op := Go.Op.load 9 (Go.Operand.tmp 70), type := 9, pos := "law.go:218", after := #[{ on := 3, ground := Go.Ground.data }], guard := none }) (v := ?_) rfl (by kernel_rfl) (by kernel_rfl) (by kernel_rfl) (fun _ _ _ h => h) (Or.inl ⟨by rfl, ?_⟩) (by assumption) ?_
              rotate_left
              · (intro w hSw; (try dsimp only at hSw); go_simp; (try with_reducible rfl))
              (try simp only [Act.put, List.setIfInBounds_toArray, List.set_cons_zero, List.set_cons_succ])
              refine wpAnyH_take (i := 6) (oi := { dst := some 73, op := Go.Op.move (Go.Operand.tmp 8), type := 26, pos := "law.go:218", after := #[], guard := none }) (v := ?_) rfl (by kernel_rfl) (by kernel_rfl) (by kernel_rfl) (fun _ _ _ h => h) (Or.inl ⟨by rfl, ?_⟩) (by assumption) ?_
              rotate_left
              · (intro w hSw; (try dsimp only at hSw); go_simp; (try with_reducible rfl))
              (try simp only [Act.put, List.setIfInBounds_toArray, List.set_cons_zero, List.set_cons_succ])
              refine wpAnyH_take (i := 7) (oi := { dst := some 74, op := Go.Op.move (Go.Operand.tmp 1), type := 33, pos := "law.go:218", after := #[], guard := none }) (v := ?_) rfl (by kernel_rfl) (by kernel_rfl) (by kernel_rfl) (fun _ _ _ h => h) (Or.inl ⟨by rfl, ?_⟩) (by assumption) ?_
              rotate_left
              · (intro w hSw; (try dsimp only at hSw); go_simp; (try with_reducible rfl))
              (try simp only [Act.put, List.setIfInBounds_toArray, List.set_cons_zero, List.set_cons_succ])
              refine wpAnyH_take (i := 8) (oi := { dst := some 75, op := Go.Op.move (Go.Operand.tmp 11), type := 3, pos := "law.go:218", after := #[], guard := none }) (v := ?_) rfl (by kernel_rfl) (by kernel_rfl) (by kernel_rfl) (fun _ _ _ h => h) (Or.inl ⟨by rfl, ?_⟩) (by assumption) ?_
              rotate_left
              · (intro w hSw; (try dsimp only at hSw); go_simp; (try with_reducible rfl))
              (try simp only [Act.put, List.setIfInBounds_toArray, List.set_cons_zero, List.set_cons_succ])
              refine wpAnyH_take (i := 9) (oi := { dst := some 76, op := Go.Op.indexAddr 33 (Go.Operand.tmp 74) (Go.Operand.tmp 75), type := 0, pos := "law.go:218", after := #[{ on := 7, ground := Go.Ground.data }, { on := 8, ground := Go.Ground.data }], guard := none }) (v := ?_) rfl (by kernel_rfl) (by kernel_rfl) (by kernel_rfl) (fun _ _ _ h => h) (Or.inl ⟨by rfl, ?_⟩) (by assumption) ?_
              rotate_left
              · (intro w hSw; (try dsimp only at hSw); go_simp; (try with_reducible rfl))
              (try simp only [Act.put, List.setIfInBounds_toArray, List.set_cons_zero, List.set_cons_succ])
              refine wpAnyH_take (i := 10) (oi := { dst := some 77, op := Go.Op.load 9 (Go.Operand.tmp 76), type := 9, pos := "law.go:218", after := #[{ on := 9, ground := Go.Ground.data }], guard := none }) (v := ?_) rfl (by kernel_rfl) (by kernel_rfl) (by kernel_rfl) (fun _ _ _ h => h) (Or.inl ⟨by rfl, ?_⟩) (by assumption) ?_
              rotate_left
              · (intro w hSw; (try dsimp only at hSw); go_simp; (try with_reducible rfl))
              (try simp only [Act.put, List.setIfInBounds_toArray, List.set_cons_zero, List.set_cons_succ])
              refine wpAnyH_ready (rs := [5, 12, 13]) (by kernel_rfl) (by simp) ?_
              refine rdy rfl (fun K hK => ?_) (rdy rfl (fun K hK => ?_) (rdy rfl (fun K hK => ?_) AllReadyH.nil))
              · go_simp
                refine (V1.out _ _ PB0.out.fo.pr.one.ca).mono ?_
                intro e W1 hp
                obtain ⟨rfl, T1, hPn⟩ := PB0.out.call1 hp
                have PB1 := Lib.hid hPn
                clear hp hPn
                go_wp2_with fail
                refine hK.out _ _ ?_ (fun hHeld => ?_)
                · exact HC.out _ PB1.out.fo.pr.one.bel
                clear hK K PB0
                (try simp only [Act.put, List.setIfInBounds_toArray, List.set_cons_zero, List.set_cons_succ])
                refine wpAnyH_ready (rs := [11, 12, 13]) (by kernel_rfl) (by simp) ?_
                refine rdy rfl (fun K hK => ?_) (rdy rfl (fun K hK => ?_) (rdy rfl (fun K hK => ?_) AllReadyH.nil))
                · go_simp
                  refine (V2.out _ _ PB1.out.fo.pr.two.ca).mono ?_
                  intro e W2 hp
                  obtain ⟨rfl, T2, hPn⟩ := PB1.out.call2 hp
                  have PB2 := Lib.hid hPn
                  clear hp hPn
                  go_wp2_with fail
                  refine hK.out _ _ ?_ (fun hHeld => ?_)
                  · exact HC.out _ PB2.out.fo.pr.one.bel
                  clear hK K PB1
                  (try simp only [Act.put, List.setIfInBounds_toArray, List.set_cons_zero, List.set_cons_succ])
                  refine wpAnyH_ready (rs := [12, 13]) (by kernel_rfl) (by simp) ?_
                  refine rdy rfl (fun K hK => ?_) (rdy rfl (fun K hK => ?_) AllReadyH.nil)
                  · go_simp
                    have PB3 := Lib.hid (PB2.out.alloc12)
                    refine hK.out _ _ ?_ (fun hHeld => ?_)
                    · exact HC.out _ PB3.out.fo.pr.one.bel
                    clear hK K PB2
                    (try simp only [Act.put, List.setIfInBounds_toArray, List.set_cons_zero, List.set_cons_succ])
                    generalize W2.alloc (.cells #[.bool false, .string ⟨#[]⟩, .bool false] 57) = W3 at PB3 hHeld ⊢
                    generalize W2.heap.size = z12 at PB3 ⊢
                    refine wpAnyH_ready (rs := [13]) (by kernel_rfl) (by simp) ?_
                    refine rdy rfl (fun K hK => ?_) AllReadyH.nil
                    go_simp
                    have PB4 := Lib.hid (PB3.out.alloc13)
                    refine hK.out _ _ ?_ (fun hHeld => ?_)
                    · exact HC.out _ PB4.out.fo.pr.one.bel
                    clear hK K PB3
                    (try simp only [Act.put, List.setIfInBounds_toArray, List.set_cons_zero, List.set_cons_succ])
                    generalize W3.alloc (.cells #[.bool false, .string ⟨#[]⟩, .bool false] 57) = W4 at PB4 hHeld ⊢
                    generalize W3.heap.size = z13 at PB4 ⊢
                    refine wpAnyH_ready (rs := [14]) (by kernel_rfl) (by simp) ?_
                    refine rdy rfl (fun K hK => ?_) AllReadyH.nil
                    obtain ⟨k0, k1, k2, f0, f1, f2⟩ := PB4.out.cells
                    have PB5 := Lib.hid (PB4.out.store1 ha va oa)
                    go_simp
                    refine hK.out _ _ ?_ (fun hHeld => ?_)
                    · exact HC.out _ PB5.out.fo.pr.one.bel
                    clear hK K PB4 k0 k1 k2 f0 f1 f2
                    (try simp only [Act.put, List.setIfInBounds_toArray, List.set_cons_zero, List.set_cons_succ])
                    generalize ((W4.setCell ⟨z12, 0, none⟩ (.bool ha)).setCell ⟨z12, 1, none⟩ (.string va)).setCell ⟨z12, 2, none⟩ (.bool oa) = W5 at PB5 hHeld ⊢
                    refine wpAnyH_ready (rs := [15]) (by kernel_rfl) (by simp) ?_
                    refine rdy rfl (fun K hK => ?_) AllReadyH.nil
                    obtain ⟨k0, k1, k2, f0, f1, f2⟩ := PB5.out.cells
                    have PB6 := Lib.hid (PB5.out.store2 hb vb ob)
                    go_simp
                    refine hK.out _ _ ?_ (fun hHeld => ?_)
                    · exact HC.out _ PB6.out.fo.pr.one.bel
                    clear hK K PB5 k0 k1 k2 f0 f1 f2
                    (try simp only [Act.put, List.setIfInBounds_toArray, List.set_cons_zero, List.set_cons_succ])
                    generalize ((W5.setCell ⟨z13, 0, none⟩ (.bool hb)).setCell ⟨z13, 1, none⟩ (.string vb)).setCell ⟨z13, 2, none⟩ (.bool ob) = W6 at PB6 hHeld ⊢
                    refine wpAnyH_done (by kernel_rfl) ?_ _
                    refine NoPanic.normal ?_
                    clear hHeld
                    go_wp2_with fail
                    go_meet
                    exact ⟨_, _, _, _, rfl, rfl, PB6.out⟩
                  · go_simp
                    have PB7 := Lib.hid (PB2.out.alloc13)
                    refine hK.out _ _ ?_ (fun hHeld => ?_)
                    · exact HC.out _ PB7.out.fo.pr.one.bel
                    clear hK K PB2
                    (try simp only [Act.put, List.setIfInBounds_toArray, List.set_cons_zero, List.set_cons_succ])
                    generalize W2.alloc (.cells #[.bool false, .string ⟨#[]⟩, .bool false] 57) = W7 at PB7 hHeld ⊢
                    generalize W2.heap.size = z13 at PB7 ⊢
                    refine wpAnyH_ready (rs := [12]) (by kernel_rfl) (by simp) ?_
                    refine rdy rfl (fun K hK => ?_) AllReadyH.nil
                    go_simp
                    have PB8 := Lib.hid (PB7.out.alloc12)
                    refine hK.out _ _ ?_ (fun hHeld => ?_)
                    · exact HC.out _ PB8.out.fo.pr.one.bel
                    clear hK K PB7
                    (try simp only [Act.put, List.setIfInBounds_toArray, List.set_cons_zero, List.set_cons_succ])
                    generalize W7.alloc (.cells #[.bool false, .string ⟨#[]⟩, .bool false] 57) = W8 at PB8 hHeld ⊢
                    generalize W7.heap.size = z12 at PB8 ⊢
                    refine wpAnyH_ready (rs := [14]) (by kernel_rfl) (by simp) ?_
                    refine rdy rfl (fun K hK => ?_) AllReadyH.nil
                    obtain ⟨k0, k1, k2, f0, f1, f2⟩ := PB8.out.cells
                    have PB9 := Lib.hid (PB8.out.store1 ha va oa)
                    go_simp
                    refine hK.out _ _ ?_ (fun hHeld => ?_)
                    · exact HC.out _ PB9.out.fo.pr.one.bel
                    clear hK K PB8 k0 k1 k2 f0 f1 f2
                    (try simp only [Act.put, List.setIfInBounds_toArray, List.set_cons_zero, List.set_cons_succ])
                    generalize ((W8.setCell ⟨z12, 0, none⟩ (.bool ha)).setCell ⟨z12, 1, none⟩ (.string va)).setCell ⟨z12, 2, none⟩ (.bool oa) = W9 at PB9 hHeld ⊢
                    refine wpAnyH_ready (rs := [15]) (by kernel_rfl) (by simp) ?_
                    refine rdy rfl (fun K hK => ?_) AllReadyH.nil
                    obtain ⟨k0, k1, k2, f0, f1, f2⟩ := PB9.out.cells
                    have PB10 := Lib.hid (PB9.out.store2 hb vb ob)
                    go_simp
                    refine hK.out _ _ ?_ (fun hHeld => ?_)
                    · exact HC.out _ PB10.out.fo.pr.one.bel
                    clear hK K PB9 k0 k1 k2 f0 f1 f2
                    (try simp only [Act.put, List.setIfInBounds_toArray, List.set_cons_zero, List.set_cons_succ])
                    generalize ((W9.setCell ⟨z13, 0, none⟩ (.bool hb)).setCell ⟨z13, 1, none⟩ (.string vb)).setCell ⟨z13, 2, none⟩ (.bool ob) = W10 at PB10 hHeld ⊢
                    refine wpAnyH_done (by kernel_rfl) ?_ _
                    refine NoPanic.normal ?_
                    clear hHeld
                    go_wp2_with fail
                    go_meet
                    exact ⟨_, _, _, _, rfl, rfl, PB10.out⟩
                · go_simp
                  have PB11 := Lib.hid (PB1.out.alloc12)
                  refine hK.out _ _ ?_ (fun hHeld => ?_)
                  · exact HC.out _ PB11.out.fo.pr.one.bel
                  clear hK K PB1
                  (try simp only [Act.put, List.setIfInBounds_toArray, List.set_cons_zero, List.set_cons_succ])
                  generalize W1.alloc (.cells #[.bool false, .string ⟨#[]⟩, .bool false] 57) = W11 at PB11 hHeld ⊢
                  generalize W1.heap.size = z12 at PB11 ⊢
                  refine wpAnyH_ready (rs := [11, 13]) (by kernel_rfl) (by simp) ?_
                  refine rdy rfl (fun K hK => ?_) (rdy rfl (fun K hK => ?_) AllReadyH.nil)
                  · go_simp
                    refine (V2.out _ _ PB11.out.fo.pr.two.ca).mono ?_
                    intro e W12 hp
                    obtain ⟨rfl, T12, hPn⟩ := PB11.out.call2 hp
                    have PB12 := Lib.hid hPn
                    clear hp hPn
                    go_wp2_with fail
                    refine hK.out _ _ ?_ (fun hHeld => ?_)
                    · exact HC.out _ PB12.out.fo.pr.one.bel
                    clear hK K PB11
                    (try simp only [Act.put, List.setIfInBounds_toArray, List.set_cons_zero, List.set_cons_succ])
                    refine wpAnyH_ready (rs := [13]) (by kernel_rfl) (by simp) ?_
                    refine rdy rfl (fun K hK => ?_) AllReadyH.nil
                    go_simp
                    have PB13 := Lib.hid (PB12.out.alloc13)
                    refine hK.out _ _ ?_ (fun hHeld => ?_)
                    · exact HC.out _ PB13.out.fo.pr.one.bel
                    clear hK K PB12
                    (try simp only [Act.put, List.setIfInBounds_toArray, List.set_cons_zero, List.set_cons_succ])
                    generalize W12.alloc (.cells #[.bool false, .string ⟨#[]⟩, .bool false] 57) = W13 at PB13 hHeld ⊢
                    generalize W12.heap.size = z13 at PB13 ⊢
                    refine wpAnyH_ready (rs := [14]) (by kernel_rfl) (by simp) ?_
                    refine rdy rfl (fun K hK => ?_) AllReadyH.nil
                    obtain ⟨k0, k1, k2, f0, f1, f2⟩ := PB13.out.cells
                    have PB14 := Lib.hid (PB13.out.store1 ha va oa)
                    go_simp
                    refine hK.out _ _ ?_ (fun hHeld => ?_)
                    · exact HC.out _ PB14.out.fo.pr.one.bel
                    clear hK K PB13 k0 k1 k2 f0 f1 f2
                    (try simp only [Act.put, List.setIfInBounds_toArray, List.set_cons_zero, List.set_cons_succ])
                    generalize ((W13.setCell ⟨z12, 0, none⟩ (.bool ha)).setCell ⟨z12, 1, none⟩ (.string va)).setCell ⟨z12, 2, none⟩ (.bool oa) = W14 at PB14 hHeld ⊢
                    refine wpAnyH_ready (rs := [15]) (by kernel_rfl) (by simp) ?_
                    refine rdy rfl (fun K hK => ?_) AllReadyH.nil
                    obtain ⟨k0, k1, k2, f0, f1, f2⟩ := PB14.out.cells
                    have PB15 := Lib.hid (PB14.out.store2 hb vb ob)
                    go_simp
                    refine hK.out _ _ ?_ (fun hHeld => ?_)
                    · exact HC.out _ PB15.out.fo.pr.one.bel
                    clear hK K PB14 k0 k1 k2 f0 f1 f2
                    (try simp only [Act.put, List.setIfInBounds_toArray, List.set_cons_zero, List.set_cons_succ])
                    generalize ((W14.setCell ⟨z13, 0, none⟩ (.bool hb)).setCell ⟨z13, 1, none⟩ (.string vb)).setCell ⟨z13, 2, none⟩ (.bool ob) = W15 at PB15 hHeld ⊢
                    refine wpAnyH_done (by kernel_rfl) ?_ _
                    refine NoPanic.normal ?_
                    clear hHeld
                    go_wp2_with fail
                    go_meet
                    exact ⟨_, _, _, _, rfl, rfl, PB15.out⟩
                  · go_simp
                    have PB16 := Lib.hid (PB11.out.alloc13)
                    refine hK.out _ _ ?_ (fun hHeld => ?_)
                    · exact HC.out _ PB16.out.fo.pr.one.bel
                    clear hK K PB11
                    (try simp only [Act.put, List.setIfInBounds_toArray, List.set_cons_zero, List.set_cons_succ])
                    generalize W11.alloc (.cells #[.bool false, .string ⟨#[]⟩, .bool false] 57) = W16 at PB16 hHeld ⊢
                    generalize W11.heap.size = z13 at PB16 ⊢
                    refine wpAnyH_ready (rs := [11]) (by kernel_rfl) (by simp) ?_
                    refine rdy rfl (fun K hK => ?_) AllReadyH.nil
                    go_simp
                    refine (V2.out _ _ PB16.out.fo.pr.two.ca).mono ?_
                    intro e W17 hp
                    obtain ⟨rfl, T17, hPn⟩ := PB16.out.call2 hp
                    have PB17 := Lib.hid hPn
                    clear hp hPn
                    go_wp2_with fail
                    refine hK.out _ _ ?_ (fun hHeld => ?_)
                    · exact HC.out _ PB17.out.fo.pr.one.bel
                    clear hK K PB16
                    (try simp only [Act.put, List.setIfInBounds_toArray, List.set_cons_zero, List.set_cons_succ])
                    refine wpAnyH_ready (rs := [14]) (by kernel_rfl) (by simp) ?_
                    refine rdy rfl (fun K hK => ?_) AllReadyH.nil
                    obtain ⟨k0, k1, k2, f0, f1, f2⟩ := PB17.out.cells
                    have PB18 := Lib.hid (PB17.out.store1 ha va oa)
                    go_simp
                    refine hK.out _ _ ?_ (fun hHeld => ?_)
                    · exact HC.out _ PB18.out.fo.pr.one.bel
                    clear hK K PB17 k0 k1 k2 f0 f1 f2
                    (try simp only [Act.put, List.setIfInBounds_toArray, List.set_cons_zero, List.set_cons_succ])
                    generalize ((W17.setCell ⟨z12, 0, none⟩ (.bool ha)).setCell ⟨z12, 1, none⟩ (.string va)).setCell ⟨z12, 2, none⟩ (.bool oa) = W18 at PB18 hHeld ⊢
                    refine wpAnyH_ready (rs := [15]) (by kernel_rfl) (by simp) ?_
                    refine rdy rfl (fun K hK => ?_) AllReadyH.nil
                    obtain ⟨k0, k1, k2, f0, f1, f2⟩ := PB18.out.cells
                    have PB19 := Lib.hid (PB18.out.store2 hb vb ob)
                    go_simp
                    refine hK.out _ _ ?_ (fun hHeld => ?_)
                    · exact HC.out _ PB19.out.fo.pr.one.bel
                    clear hK K PB18 k0 k1 k2 f0 f1 f2
                    (try simp only [Act.put, List.setIfInBounds_toArray, List.set_cons_zero, List.set_cons_succ])
                    generalize ((W18.setCell ⟨z13, 0, none⟩ (.bool hb)).setCell ⟨z13, 1, none⟩ (.string vb)).setCell ⟨z13, 2, none⟩ (.bool ob) = W19 at PB19 hHeld ⊢
                    refine wpAnyH_done (by kernel_rfl) ?_ _
                    refine NoPanic.normal ?_
                    clear hHeld
                    go_wp2_with fail
                    go_meet
                    exact ⟨_, _, _, _, rfl, rfl, PB19.out⟩
                · go_simp
                  have PB20 := Lib.hid (PB1.out.alloc13)
                  refine hK.out _ _ ?_ (fun hHeld => ?_)
                  · exact HC.out _ PB20.out.fo.pr.one.bel
                  clear hK K PB1
                  (try simp only [Act.put, List.setIfInBounds_toArray, List.set_cons_zero, List.set_cons_succ])
                  generalize W1.alloc (.cells #[.bool false, .string ⟨#[]⟩, .bool false] 57) = W20 at PB20 hHeld ⊢
                  generalize W1.heap.size = z13 at PB20 ⊢
                  refine wpAnyH_ready (rs := [11, 12]) (by kernel_rfl) (by simp) ?_
                  refine rdy rfl (fun K hK => ?_) (rdy rfl (fun K hK => ?_) AllReadyH.nil)
                  · go_simp
                    refine (V2.out _ _ PB20.out.fo.pr.two.ca).mono ?_
                    intro e W21 hp
                    obtain ⟨rfl, T21, hPn⟩ := PB20.out.call2 hp
                    have PB21 := Lib.hid hPn
                    clear hp hPn
                    go_wp2_with fail
                    refine hK.out _ _ ?_ (fun hHeld => ?_)
                    · exact HC.out _ PB21.out.fo.pr.one.bel
                    clear hK K PB20
                    (try simp only [Act.put, List.setIfInBounds_toArray, List.set_cons_zero, List.set_cons_succ])
                    refine wpAnyH_ready (rs := [12]) (by kernel_rfl) (by simp) ?_
                    refine rdy rfl (fun K hK => ?_) AllReadyH.nil
                    go_simp
                    have PB22 := Lib.hid (PB21.out.alloc12)
                    refine hK.out _ _ ?_ (fun hHeld => ?_)
                    · exact HC.out _ PB22.out.fo.pr.one.bel
                    clear hK K PB21
                    (try simp only [Act.put, List.setIfInBounds_toArray, List.set_cons_zero, List.set_cons_succ])
                    generalize W21.alloc (.cells #[.bool false, .string ⟨#[]⟩, .bool false] 57) = W22 at PB22 hHeld ⊢
                    generalize W21.heap.size = z12 at PB22 ⊢
                    refine wpAnyH_ready (rs := [14]) (by kernel_rfl) (by simp) ?_
                    refine rdy rfl (fun K hK => ?_) AllReadyH.nil
                    obtain ⟨k0, k1, k2, f0, f1, f2⟩ := PB22.out.cells
                    have PB23 := Lib.hid (PB22.out.store1 ha va oa)
                    go_simp
                    refine hK.out _ _ ?_ (fun hHeld => ?_)
                    · exact HC.out _ PB23.out.fo.pr.one.bel
                    clear hK K PB22 k0 k1 k2 f0 f1 f2
                    (try simp only [Act.put, List.setIfInBounds_toArray, List.set_cons_zero, List.set_cons_succ])
                    generalize ((W22.setCell ⟨z12, 0, none⟩ (.bool ha)).setCell ⟨z12, 1, none⟩ (.string va)).setCell ⟨z12, 2, none⟩ (.bool oa) = W23 at PB23 hHeld ⊢
                    refine wpAnyH_ready (rs := [15]) (by kernel_rfl) (by simp) ?_
                    refine rdy rfl (fun K hK => ?_) AllReadyH.nil
                    obtain ⟨k0, k1, k2, f0, f1, f2⟩ := PB23.out.cells
                    have PB24 := Lib.hid (PB23.out.store2 hb vb ob)
                    go_simp
                    refine hK.out _ _ ?_ (fun hHeld => ?_)
                    · exact HC.out _ PB24.out.fo.pr.one.bel
                    clear hK K PB23 k0 k1 k2 f0 f1 f2
                    (try simp only [Act.put, List.setIfInBounds_toArray, List.set_cons_zero, List.set_cons_succ])
                    generalize ((W23.setCell ⟨z13, 0, none⟩ (.bool hb)).setCell ⟨z13, 1, none⟩ (.string vb)).setCell ⟨z13, 2, none⟩ (.bool ob) = W24 at PB24 hHeld ⊢
                    refine wpAnyH_done (by kernel_rfl) ?_ _
                    refine NoPanic.normal ?_
                    clear hHeld
                    go_wp2_with fail
                    go_meet
                    exact ⟨_, _, _, _, rfl, rfl, PB24.out⟩
                  · go_simp
                    have PB25 := Lib.hid (PB20.out.alloc12)
                    refine hK.out _ _ ?_ (fun hHeld => ?_)
                    · exact HC.out _ PB25.out.fo.pr.one.bel
                    clear hK K PB20
                    (try simp only [Act.put, List.setIfInBounds_toArray, List.set_cons_zero, List.set_cons_succ])
                    generalize W20.alloc (.cells #[.bool false, .string ⟨#[]⟩, .bool false] 57) = W25 at PB25 hHeld ⊢
                    generalize W20.heap.size = z12 at PB25 ⊢
                    refine wpAnyH_ready (rs := [11]) (by kernel_rfl) (by simp) ?_
                    refine rdy rfl (fun K hK => ?_) AllReadyH.nil
                    go_simp
                    refine (V2.out _ _ PB25.out.fo.pr.two.ca).mono ?_
                    intro e W26 hp
                    obtain ⟨rfl, T26, hPn⟩ := PB25.out.call2 hp
                    have PB26 := Lib.hid hPn
                    clear hp hPn
                    go_wp2_with fail
                    refine hK.out _ _ ?_ (fun hHeld => ?_)
                    · exact HC.out _ PB26.out.fo.pr.one.bel
                    clear hK K PB25
                    (try simp only [Act.put, List.setIfInBounds_toArray, List.set_cons_zero, List.set_cons_succ])
                    refine wpAnyH_ready (rs := [14]) (by kernel_rfl) (by simp) ?_
                    refine rdy rfl (fun K hK => ?_) AllReadyH.nil
                    obtain ⟨k0, k1, k2, f0, f1, f2⟩ := PB26.out.cells
                    have PB27 := Lib.hid (PB26.out.store1 ha va oa)
                    go_simp
                    refine hK.out _ _ ?_ (fun hHeld => ?_)
                    · exact HC.out _ PB27.out.fo.pr.one.bel
                    clear hK K PB26 k0 k1 k2 f0 f1 f2
                    (try simp only [Act.put, List.setIfInBounds_toArray, List.set_cons_zero, List.set_cons_succ])
                    generalize ((W26.setCell ⟨z12, 0, none⟩ (.bool ha)).setCell ⟨z12, 1, none⟩ (.string va)).setCell ⟨z12, 2, none⟩ (.bool oa) = W27 at PB27 hHeld ⊢
                    refine wpAnyH_ready (rs := [15]) (by kernel_rfl) (by simp) ?_
                    refine rdy rfl (fun K hK => ?_) AllReadyH.nil
                    obtain ⟨k0, k1, k2, f0, f1, f2⟩ := PB27.out.cells
                    have PB28 := Lib.hid (PB27.out.store2 hb vb ob)
                    go_simp
                    refine hK.out _ _ ?_ (fun hHeld => ?_)
                    · exact HC.out _ PB28.out.fo.pr.one.bel
                    clear hK K PB27 k0 k1 k2 f0 f1 f2
                    (try simp only [Act.put, List.setIfInBounds_toArray, List.set_cons_zero, List.set_cons_succ])
                    generalize ((W27.setCell ⟨z13, 0, none⟩ (.bool hb)).setCell ⟨z13, 1, none⟩ (.string vb)).setCell ⟨z13, 2, none⟩ (.bool ob) = W28 at PB28 hHeld ⊢
                    refine wpAnyH_done (by kernel_rfl) ?_ _
                    refine NoPanic.normal ?_
                    clear hHeld
                    go_wp2_with fail
                    go_meet
                    exact ⟨_, _, _, _, rfl, rfl, PB28.out⟩
              · go_simp
                have PB29 := Lib.hid (PB0.out.alloc12)
                refine hK.out _ _ ?_ (fun hHeld => ?_)
                · exact HC.out _ PB29.out.fo.pr.one.bel
                clear hK K PB0
                (try simp only [Act.put, List.setIfInBounds_toArray, List.set_cons_zero, List.set_cons_succ])
                generalize W0.alloc (.cells #[.bool false, .string ⟨#[]⟩, .bool false] 57) = W29 at PB29 hHeld ⊢
                generalize W0.heap.size = z12 at PB29 ⊢
                refine wpAnyH_ready (rs := [5, 13]) (by kernel_rfl) (by simp) ?_
                refine rdy rfl (fun K hK => ?_) (rdy rfl (fun K hK => ?_) AllReadyH.nil)
                · go_simp
                  refine (V1.out _ _ PB29.out.fo.pr.one.ca).mono ?_
                  intro e W30 hp
                  obtain ⟨rfl, T30, hPn⟩ := PB29.out.call1 hp
                  have PB30 := Lib.hid hPn
                  clear hp hPn
                  go_wp2_with fail
                  refine hK.out _ _ ?_ (fun hHeld => ?_)
                  · exact HC.out _ PB30.out.fo.pr.one.bel
                  clear hK K PB29
                  (try simp only [Act.put, List.setIfInBounds_toArray, List.set_cons_zero, List.set_cons_succ])
                  refine wpAnyH_ready (rs := [11, 13]) (by kernel_rfl) (by simp) ?_
                  refine rdy rfl (fun K hK => ?_) (rdy rfl (fun K hK => ?_) AllReadyH.nil)
                  · go_simp
                    refine (V2.out _ _ PB30.out.fo.pr.two.ca).mono ?_
                    intro e W31 hp
                    obtain ⟨rfl, T31, hPn⟩ := PB30.out.call2 hp
                    have PB31 := Lib.hid hPn
                    clear hp hPn
                    go_wp2_with fail
                    refine hK.out _ _ ?_ (fun hHeld => ?_)
                    · exact HC.out _ PB31.out.fo.pr.one.bel
                    clear hK K PB30
                    (try simp only [Act.put, List.setIfInBounds_toArray, List.set_cons_zero, List.set_cons_succ])
                    refine wpAnyH_ready (rs := [13]) (by kernel_rfl) (by simp) ?_
                    refine rdy rfl (fun K hK => ?_) AllReadyH.nil
                    go_simp
                    have PB32 := Lib.hid (PB31.out.alloc13)
                    refine hK.out _ _ ?_ (fun hHeld => ?_)
                    · exact HC.out _ PB32.out.fo.pr.one.bel
                    clear hK K PB31
                    (try simp only [Act.put, List.setIfInBounds_toArray, List.set_cons_zero, List.set_cons_succ])
                    generalize W31.alloc (.cells #[.bool false, .string ⟨#[]⟩, .bool false] 57) = W32 at PB32 hHeld ⊢
                    generalize W31.heap.size = z13 at PB32 ⊢
                    refine wpAnyH_ready (rs := [14]) (by kernel_rfl) (by simp) ?_
                    refine rdy rfl (fun K hK => ?_) AllReadyH.nil
                    obtain ⟨k0, k1, k2, f0, f1, f2⟩ := PB32.out.cells
                    have PB33 := Lib.hid (PB32.out.store1 ha va oa)
                    go_simp
                    refine hK.out _ _ ?_ (fun hHeld => ?_)
                    · exact HC.out _ PB33.out.fo.pr.one.bel
                    clear hK K PB32 k0 k1 k2 f0 f1 f2
                    (try simp only [Act.put, List.setIfInBounds_toArray, List.set_cons_zero, List.set_cons_succ])
                    generalize ((W32.setCell ⟨z12, 0, none⟩ (.bool ha)).setCell ⟨z12, 1, none⟩ (.string va)).setCell ⟨z12, 2, none⟩ (.bool oa) = W33 at PB33 hHeld ⊢
                    refine wpAnyH_ready (rs := [15]) (by kernel_rfl) (by simp) ?_
                    refine rdy rfl (fun K hK => ?_) AllReadyH.nil
                    obtain ⟨k0, k1, k2, f0, f1, f2⟩ := PB33.out.cells
                    have PB34 := Lib.hid (PB33.out.store2 hb vb ob)
                    go_simp
                    refine hK.out _ _ ?_ (fun hHeld => ?_)
                    · exact HC.out _ PB34.out.fo.pr.one.bel
                    clear hK K PB33 k0 k1 k2 f0 f1 f2
                    (try simp only [Act.put, List.setIfInBounds_toArray, List.set_cons_zero, List.set_cons_succ])
                    generalize ((W33.setCell ⟨z13, 0, none⟩ (.bool hb)).setCell ⟨z13, 1, none⟩ (.string vb)).setCell ⟨z13, 2, none⟩ (.bool ob) = W34 at PB34 hHeld ⊢
                    refine wpAnyH_done (by kernel_rfl) ?_ _
                    refine NoPanic.normal ?_
                    clear hHeld
                    go_wp2_with fail
                    go_meet
                    exact ⟨_, _, _, _, rfl, rfl, PB34.out⟩
                  · go_simp
                    have PB35 := Lib.hid (PB30.out.alloc13)
                    refine hK.out _ _ ?_ (fun hHeld => ?_)
                    · exact HC.out _ PB35.out.fo.pr.one.bel
                    clear hK K PB30
                    (try simp only [Act.put, List.setIfInBounds_toArray, List.set_cons_zero, List.set_cons_succ])
                    generalize W30.alloc (.cells #[.bool false, .string ⟨#[]⟩, .bool false] 57) = W35 at PB35 hHeld ⊢
                    generalize W30.heap.size = z13 at PB35 ⊢
                    refine wpAnyH_ready (rs := [11]) (by kernel_rfl) (by simp) ?_
                    refine rdy rfl (fun K hK => ?_) AllReadyH.nil
                    go_simp
                    refine (V2.out _ _ PB35.out.fo.pr.two.ca).mono ?_
                    intro e W36 hp
                    obtain ⟨rfl, T36, hPn⟩ := PB35.out.call2 hp
                    have PB36 := Lib.hid hPn
                    clear hp hPn
                    go_wp2_with fail
                    refine hK.out _ _ ?_ (fun hHeld => ?_)
                    · exact HC.out _ PB36.out.fo.pr.one.bel
                    clear hK K PB35
                    (try simp only [Act.put, List.setIfInBounds_toArray, List.set_cons_zero, List.set_cons_succ])
                    refine wpAnyH_ready (rs := [14]) (by kernel_rfl) (by simp) ?_
                    refine rdy rfl (fun K hK => ?_) AllReadyH.nil
                    obtain ⟨k0, k1, k2, f0, f1, f2⟩ := PB36.out.cells
                    have PB37 := Lib.hid (PB36.out.store1 ha va oa)
                    go_simp
                    refine hK.out _ _ ?_ (fun hHeld => ?_)
                    · exact HC.out _ PB37.out.fo.pr.one.bel
                    clear hK K PB36 k0 k1 k2 f0 f1 f2
                    (try simp only [Act.put, List.setIfInBounds_toArray, List.set_cons_zero, List.set_cons_succ])
                    generalize ((W36.setCell ⟨z12, 0, none⟩ (.bool ha)).setCell ⟨z12, 1, none⟩ (.string va)).setCell ⟨z12, 2, none⟩ (.bool oa) = W37 at PB37 hHeld ⊢
                    refine wpAnyH_ready (rs := [15]) (by kernel_rfl) (by simp) ?_
                    refine rdy rfl (fun K hK => ?_) AllReadyH.nil
                    obtain ⟨k0, k1, k2, f0, f1, f2⟩ := PB37.out.cells
                    have PB38 := Lib.hid (PB37.out.store2 hb vb ob)
                    go_simp
                    refine hK.out _ _ ?_ (fun hHeld => ?_)
                    · exact HC.out _ PB38.out.fo.pr.one.bel
                    clear hK K PB37 k0 k1 k2 f0 f1 f2
                    (try simp only [Act.put, List.setIfInBounds_toArray, List.set_cons_zero, List.set_cons_succ])
                    generalize ((W37.setCell ⟨z13, 0, none⟩ (.bool hb)).setCell ⟨z13, 1, none⟩ (.string vb)).setCell ⟨z13, 2, none⟩ (.bool ob) = W38 at PB38 hHeld ⊢
                    refine wpAnyH_done (by kernel_rfl) ?_ _
                    refine NoPanic.normal ?_
                    clear hHeld
                    go_wp2_with fail
                    go_meet
                    exact ⟨_, _, _, _, rfl, rfl, PB38.out⟩
                · go_simp
                  have PB39 := Lib.hid (PB29.out.alloc13)
                  refine hK.out _ _ ?_ (fun hHeld => ?_)
                  · exact HC.out _ PB39.out.fo.pr.one.bel
                  clear hK K PB29
                  (try simp only [Act.put, List.setIfInBounds_toArray, List.set_cons_zero, List.set_cons_succ])
                  generalize W29.alloc (.cells #[.bool false, .string ⟨#[]⟩, .bool false] 57) = W39 at PB39 hHeld ⊢
                  generalize W29.heap.size = z13 at PB39 ⊢
                  refine wpAnyH_ready (rs := [5]) (by kernel_rfl) (by simp) ?_
                  refine rdy rfl (fun K hK => ?_) AllReadyH.nil
                  go_simp
                  refine (V1.out _ _ PB39.out.fo.pr.one.ca).mono ?_
                  intro e W40 hp
                  obtain ⟨rfl, T40, hPn⟩ := PB39.out.call1 hp
                  have PB40 := Lib.hid hPn
                  clear hp hPn
                  go_wp2_with fail
                  refine hK.out _ _ ?_ (fun hHeld => ?_)
                  · exact HC.out _ PB40.out.fo.pr.one.bel
                  clear hK K PB39
                  (try simp only [Act.put, List.setIfInBounds_toArray, List.set_cons_zero, List.set_cons_succ])
                  refine wpAnyH_ready (rs := [11]) (by kernel_rfl) (by simp) ?_
                  refine rdy rfl (fun K hK => ?_) AllReadyH.nil
                  go_simp
                  refine (V2.out _ _ PB40.out.fo.pr.two.ca).mono ?_
                  intro e W41 hp
                  obtain ⟨rfl, T41, hPn⟩ := PB40.out.call2 hp
                  have PB41 := Lib.hid hPn
                  clear hp hPn
                  go_wp2_with fail
                  refine hK.out _ _ ?_ (fun hHeld => ?_)
                  · exact HC.out _ PB41.out.fo.pr.one.bel
                  clear hK K PB40
                  (try simp only [Act.put, List.setIfInBounds_toArray, List.set_cons_zero, List.set_cons_succ])
                  refine wpAnyH_ready (rs := [14]) (by kernel_rfl) (by simp) ?_
                  refine rdy rfl (fun K hK => ?_) AllReadyH.nil
                  obtain ⟨k0, k1, k2, f0, f1, f2⟩ := PB41.out.cells
                  have PB42 := Lib.hid (PB41.out.store1 ha va oa)
                  go_simp
                  refine hK.out _ _ ?_ (fun hHeld => ?_)
                  · exact HC.out _ PB42.out.fo.pr.one.bel
                  clear hK K PB41 k0 k1 k2 f0 f1 f2
                  (try simp only [Act.put, List.setIfInBounds_toArray, List.set_cons_zero, List.set_cons_succ])
                  generalize ((W41.setCell ⟨z12, 0, none⟩ (.bool ha)).setCell ⟨z12, 1, none⟩ (.string va)).setCell ⟨z12, 2, none⟩ (.bool oa) = W42 at PB42 hHeld ⊢
                  refine wpAnyH_ready (rs := [15]) (by kernel_rfl) (by simp) ?_
                  refine rdy rfl (fun K hK => ?_) AllReadyH.nil
                  obtain ⟨k0, k1, k2, f0, f1, f2⟩ := PB42.out.cells
                  have PB43 := Lib.hid (PB42.out.store2 hb vb ob)
                  go_simp
                  refine hK.out _ _ ?_ (fun hHeld => ?_)
                  · exact HC.out _ PB43.out.fo.pr.one.bel
                  clear hK K PB42 k0 k1 k2 f0 f1 f2
                  (try simp only [Act.put, List.setIfInBounds_toArray, List.set_cons_zero, List.set_cons_succ])
                  generalize ((W42.setCell ⟨z13, 0, none⟩ (.bool hb)).setCell ⟨z13, 1, none⟩ (.string vb)).setCell ⟨z13, 2, none⟩ (.bool ob) = W43 at PB43 hHeld ⊢
                  refine wpAnyH_done (by kernel_rfl) ?_ _
                  refine NoPanic.normal ?_
                  clear hHeld
                  go_wp2_with fail
                  go_meet
                  exact ⟨_, _, _, _, rfl, rfl, PB43.out⟩
              · go_simp
                have PB44 := Lib.hid (PB0.out.alloc13)
                refine hK.out _ _ ?_ (fun hHeld => ?_)
                · exact HC.out _ PB44.out.fo.pr.one.bel
                clear hK K PB0
                (try simp only [Act.put, List.setIfInBounds_toArray, List.set_cons_zero, List.set_cons_succ])
                generalize W0.alloc (.cells #[.bool false, .string ⟨#[]⟩, .bool false] 57) = W44 at PB44 hHeld ⊢
                generalize W0.heap.size = z13 at PB44 ⊢
                refine wpAnyH_ready (rs := [5, 12]) (by kernel_rfl) (by simp) ?_
                refine rdy rfl (fun K hK => ?_) (rdy rfl (fun K hK => ?_) AllReadyH.nil)
                · go_simp
                  refine (V1.out _ _ PB44.out.fo.pr.one.ca).mono ?_
                  intro e W45 hp
                  obtain ⟨rfl, T45, hPn⟩ := PB44.out.call1 hp
                  have PB45 := Lib.hid hPn
                  clear hp hPn
                  go_wp2_with fail
                  refine hK.out _ _ ?_ (fun hHeld => ?_)
                  · exact HC.out _ PB45.out.fo.pr.one.bel
                  clear hK K PB44
                  (try simp only [Act.put, List.setIfInBounds_toArray, List.set_cons_zero, List.set_cons_succ])
                  refine wpAnyH_ready (rs := [11, 12]) (by kernel_rfl) (by simp) ?_
                  refine rdy rfl (fun K hK => ?_) (rdy rfl (fun K hK => ?_) AllReadyH.nil)
                  · go_simp
                    refine (V2.out _ _ PB45.out.fo.pr.two.ca).mono ?_
                    intro e W46 hp
                    obtain ⟨rfl, T46, hPn⟩ := PB45.out.call2 hp
                    have PB46 := Lib.hid hPn
                    clear hp hPn
                    go_wp2_with fail
                    refine hK.out _ _ ?_ (fun hHeld => ?_)
                    · exact HC.out _ PB46.out.fo.pr.one.bel
                    clear hK K PB45
                    (try simp only [Act.put, List.setIfInBounds_toArray, List.set_cons_zero, List.set_cons_succ])
                    refine wpAnyH_ready (rs := [12]) (by kernel_rfl) (by simp) ?_
                    refine rdy rfl (fun K hK => ?_) AllReadyH.nil
                    go_simp
                    have PB47 := Lib.hid (PB46.out.alloc12)
                    refine hK.out _ _ ?_ (fun hHeld => ?_)
                    · exact HC.out _ PB47.out.fo.pr.one.bel
                    clear hK K PB46
                    (try simp only [Act.put, List.setIfInBounds_toArray, List.set_cons_zero, List.set_cons_succ])
                    generalize W46.alloc (.cells #[.bool false, .string ⟨#[]⟩, .bool false] 57) = W47 at PB47 hHeld ⊢
                    generalize W46.heap.size = z12 at PB47 ⊢
                    refine wpAnyH_ready (rs := [14]) (by kernel_rfl) (by simp) ?_
                    refine rdy rfl (fun K hK => ?_) AllReadyH.nil
                    obtain ⟨k0, k1, k2, f0, f1, f2⟩ := PB47.out.cells
                    have PB48 := Lib.hid (PB47.out.store1 ha va oa)
                    go_simp
                    refine hK.out _ _ ?_ (fun hHeld => ?_)
                    · exact HC.out _ PB48.out.fo.pr.one.bel
                    clear hK K PB47 k0 k1 k2 f0 f1 f2
                    (try simp only [Act.put, List.setIfInBounds_toArray, List.set_cons_zero, List.set_cons_succ])
                    generalize ((W47.setCell ⟨z12, 0, none⟩ (.bool ha)).setCell ⟨z12, 1, none⟩ (.string va)).setCell ⟨z12, 2, none⟩ (.bool oa) = W48 at PB48 hHeld ⊢
                    refine wpAnyH_ready (rs := [15]) (by kernel_rfl) (by simp) ?_
                    refine rdy rfl (fun K hK => ?_) AllReadyH.nil
                    obtain ⟨k0, k1, k2, f0, f1, f2⟩ := PB48.out.cells
                    have PB49 := Lib.hid (PB48.out.store2 hb vb ob)
                    go_simp
                    refine hK.out _ _ ?_ (fun hHeld => ?_)
                    · exact HC.out _ PB49.out.fo.pr.one.bel
                    clear hK K PB48 k0 k1 k2 f0 f1 f2
                    (try simp only [Act.put, List.setIfInBounds_toArray, List.set_cons_zero, List.set_cons_succ])
                    generalize ((W48.setCell ⟨z13, 0, none⟩ (.bool hb)).setCell ⟨z13, 1, none⟩ (.string vb)).setCell ⟨z13, 2, none⟩ (.bool ob) = W49 at PB49 hHeld ⊢
                    refine wpAnyH_done (by kernel_rfl) ?_ _
                    refine NoPanic.normal ?_
                    clear hHeld
                    go_wp2_with fail
                    go_meet
                    exact ⟨_, _, _, _, rfl, rfl, PB49.out⟩
                  · go_simp
                    have PB50 := Lib.hid (PB45.out.alloc12)
                    refine hK.out _ _ ?_ (fun hHeld => ?_)
                    · exact HC.out _ PB50.out.fo.pr.one.bel
                    clear hK K PB45
                    (try simp only [Act.put, List.setIfInBounds_toArray, List.set_cons_zero, List.set_cons_succ])
                    generalize W45.alloc (.cells #[.bool false, .string ⟨#[]⟩, .bool false] 57) = W50 at PB50 hHeld ⊢
                    generalize W45.heap.size = z12 at PB50 ⊢
                    refine wpAnyH_ready (rs := [11]) (by kernel_rfl) (by simp) ?_
                    refine rdy rfl (fun K hK => ?_) AllReadyH.nil
                    go_simp
                    refine (V2.out _ _ PB50.out.fo.pr.two.ca).mono ?_
                    intro e W51 hp
                    obtain ⟨rfl, T51, hPn⟩ := PB50.out.call2 hp
                    have PB51 := Lib.hid hPn
                    clear hp hPn
                    go_wp2_with fail
                    refine hK.out _ _ ?_ (fun hHeld => ?_)
                    · exact HC.out _ PB51.out.fo.pr.one.bel
                    clear hK K PB50
                    (try simp only [Act.put, List.setIfInBounds_toArray, List.set_cons_zero, List.set_cons_succ])
                    refine wpAnyH_ready (rs := [14]) (by kernel_rfl) (by simp) ?_
                    refine rdy rfl (fun K hK => ?_) AllReadyH.nil
                    obtain ⟨k0, k1, k2, f0, f1, f2⟩ := PB51.out.cells
                    have PB52 := Lib.hid (PB51.out.store1 ha va oa)
                    go_simp
                    refine hK.out _ _ ?_ (fun hHeld => ?_)
                    · exact HC.out _ PB52.out.fo.pr.one.bel
                    clear hK K PB51 k0 k1 k2 f0 f1 f2
                    (try simp only [Act.put, List.setIfInBounds_toArray, List.set_cons_zero, List.set_cons_succ])
                    generalize ((W51.setCell ⟨z12, 0, none⟩ (.bool ha)).setCell ⟨z12, 1, none⟩ (.string va)).setCell ⟨z12, 2, none⟩ (.bool oa) = W52 at PB52 hHeld ⊢
                    refine wpAnyH_ready (rs := [15]) (by kernel_rfl) (by simp) ?_
                    refine rdy rfl (fun K hK => ?_) AllReadyH.nil
                    obtain ⟨k0, k1, k2, f0, f1, f2⟩ := PB52.out.cells
                    have PB53 := Lib.hid (PB52.out.store2 hb vb ob)
                    go_simp
                    refine hK.out _ _ ?_ (fun hHeld => ?_)
                    · exact HC.out _ PB53.out.fo.pr.one.bel
                    clear hK K PB52 k0 k1 k2 f0 f1 f2
                    (try simp only [Act.put, List.setIfInBounds_toArray, List.set_cons_zero, List.set_cons_succ])
                    generalize ((W52.setCell ⟨z13, 0, none⟩ (.bool hb)).setCell ⟨z13, 1, none⟩ (.string vb)).setCell ⟨z13, 2, none⟩ (.bool ob) = W53 at PB53 hHeld ⊢
                    refine wpAnyH_done (by kernel_rfl) ?_ _
                    refine NoPanic.normal ?_
                    clear hHeld
                    go_wp2_with fail
                    go_meet
                    exact ⟨_, _, _, _, rfl, rfl, PB53.out⟩
                · go_simp
                  have PB54 := Lib.hid (PB44.out.alloc12)
                  refine hK.out _ _ ?_ (fun hHeld => ?_)
                  · exact HC.out _ PB54.out.fo.pr.one.bel
                  clear hK K PB44
                  (try simp only [Act.put, List.setIfInBounds_toArray, List.set_cons_zero, List.set_cons_succ])
                  generalize W44.alloc (.cells #[.bool false, .string ⟨#[]⟩, .bool false] 57) = W54 at PB54 hHeld ⊢
                  generalize W44.heap.size = z12 at PB54 ⊢
                  refine wpAnyH_ready (rs := [5]) (by kernel_rfl) (by simp) ?_
                  refine rdy rfl (fun K hK => ?_) AllReadyH.nil
                  go_simp
                  refine (V1.out _ _ PB54.out.fo.pr.one.ca).mono ?_
                  intro e W55 hp
                  obtain ⟨rfl, T55, hPn⟩ := PB54.out.call1 hp
                  have PB55 := Lib.hid hPn
                  clear hp hPn
                  go_wp2_with fail
                  refine hK.out _ _ ?_ (fun hHeld => ?_)
                  · exact HC.out _ PB55.out.fo.pr.one.bel
                  clear hK K PB54
                  (try simp only [Act.put, List.setIfInBounds_toArray, List.set_cons_zero, List.set_cons_succ])
                  refine wpAnyH_ready (rs := [11]) (by kernel_rfl) (by simp) ?_
                  refine rdy rfl (fun K hK => ?_) AllReadyH.nil
                  go_simp
                  refine (V2.out _ _ PB55.out.fo.pr.two.ca).mono ?_
                  intro e W56 hp
                  obtain ⟨rfl, T56, hPn⟩ := PB55.out.call2 hp
                  have PB56 := Lib.hid hPn
                  clear hp hPn
                  go_wp2_with fail
                  refine hK.out _ _ ?_ (fun hHeld => ?_)
                  · exact HC.out _ PB56.out.fo.pr.one.bel
                  clear hK K PB55
                  (try simp only [Act.put, List.setIfInBounds_toArray, List.set_cons_zero, List.set_cons_succ])
                  refine wpAnyH_ready (rs := [14]) (by kernel_rfl) (by simp) ?_
                  refine rdy rfl (fun K hK => ?_) AllReadyH.nil
                  obtain ⟨k0, k1, k2, f0, f1, f2⟩ := PB56.out.cells
                  have PB57 := Lib.hid (PB56.out.store1 ha va oa)
                  go_simp
                  refine hK.out _ _ ?_ (fun hHeld => ?_)
                  · exact HC.out _ PB57.out.fo.pr.one.bel
                  clear hK K PB56 k0 k1 k2 f0 f1 f2
                  (try simp only [Act.put, List.setIfInBounds_toArray, List.set_cons_zero, List.set_cons_succ])
                  generalize ((W56.setCell ⟨z12, 0, none⟩ (.bool ha)).setCell ⟨z12, 1, none⟩ (.string va)).setCell ⟨z12, 2, none⟩ (.bool oa) = W57 at PB57 hHeld ⊢
                  refine wpAnyH_ready (rs := [15]) (by kernel_rfl) (by simp) ?_
                  refine rdy rfl (fun K hK => ?_) AllReadyH.nil
                  obtain ⟨k0, k1, k2, f0, f1, f2⟩ := PB57.out.cells
                  have PB58 := Lib.hid (PB57.out.store2 hb vb ob)
                  go_simp
                  refine hK.out _ _ ?_ (fun hHeld => ?_)
                  · exact HC.out _ PB58.out.fo.pr.one.bel
                  clear hK K PB57 k0 k1 k2 f0 f1 f2
                  (try simp only [Act.put, List.setIfInBounds_toArray, List.set_cons_zero, List.set_cons_succ])
                  generalize ((W57.setCell ⟨z13, 0, none⟩ (.bool hb)).setCell ⟨z13, 1, none⟩ (.string vb)).setCell ⟨z13, 2, none⟩ (.bool ob) = W58 at PB58 hHeld ⊢
                  refine wpAnyH_done (by kernel_rfl) ?_ _
                  refine NoPanic.normal ?_
                  clear hHeld
                  go_wp2_with fail
                  go_meet
                  exact ⟨_, _, _, _, rfl, rfl, PB58.out⟩
            case rest =>
              obtain ⟨z1, z2, U', U2', rfl, rfl, hE⟩ := hcut
              have Q0 := Lib.hid (hE.fr2 RX.out RY.out)
              clear hE RX RY PB0 V1 V2
              generalize (fun k => X k ∨ k = z1 ∨ k = z2) = X at *
              go_upto_block 4 with fail
              go_cut [] (fun W => FR w W p U' (s.req key) (4 * k + 4) p2 U2' (s2.req key) (4 * k + 4) ma na f mb nb g X z1 z2 ha va oa hb vb ob (.slice A2 qx c2) s.keys (.slice A3 qy c3) s2.keys)
              case first =>
                as_aux_lemma =>
                go_wp2_with fail
                go_loopg [16] qx (fun gi i W => ∃ j : Nat, gi + j = qx ∧ i = .int .i64 (j : Int) ∧ FR w W p U' (s.req key) (4 * k + 4) p2 U2' (s2.req key) (4 * k + 4) ma na f mb nb g X z1 z2 ha va oa hb vb ob (.slice A2 qx c2) s.keys (.slice A3 qy c3) s2.keys)
                case atStart => exact ⟨0, by omega, rfl, Q0.out⟩
                case round =>
                  obtain ⟨j, hgj, rfl, hQ⟩ := hrel
                  have Q := Lib.hid hQ
                  clear hQ Q0
                  obtain ⟨k0, k1, k2, f0, f1, f2⟩ := boxSix Q.out.bx
                  by_cases hlt2 : j < qx
                  · have e3 : decide (j < qx) = true := by simpa using hlt2
                    have WO := Lib.hid (show oa = false ∨ oa = true from by cases oa <;> simp)
                    rcases WO.out with ho | ho
                    · subst ho
                      go_wp2_with fail
                      go_meet
                      exact Q.out
                    · subst ho
                      obtain ⟨g9, hr, _⟩ := Q.out.rx
                      have hjx : j < s.keys.length := by rw [← HQ.out.1]; exact hlt2
                      obtain ⟨o9, rfl, hg9, hcl, hc3, hc4⟩ := hr.at hjx
                      have hmem : s.keys.getD j ⟨#[]⟩ ∈ s.keys := by rw [List.getD_eq_getElem?_getD, List.getElem?_eq_getElem hjx]; exact List.getElem_mem hjx
                      have hys := QA.out.2.2 _ hmem
                      have hle := QA.out.1 rfl _ hmem
                      have hvs := QA.out.2.1 rfl
                      rw [← HQ.out.1] at hc3
                      generalize s.keys.getD j ⟨#[]⟩ = y at *
                      have LK1 := fun n => (Q.out.below (FX.bdrew (Below.refl wr.heap.size wr) n)).fo.ia.look hys
                      have LK2 := fun n => (Q.out.below (FX.bdrew (Below.refl wr.heap.size wr) n)).fo.ia.look hvs
                      obtain ⟨fy, hfy⟩ : ∃ x, x = f y := ⟨_, rfl⟩
                      obtain ⟨fv, hfv⟩ : ∃ x, x = f va := ⟨_, rfl⟩
                      rw [← hfy] at LK1 hle
                      rw [← hfv] at LK2 hle
                      have e4 : decide (fy < fv) = false := decide_eq_false (by omega)
                      unfold maxLen at hc4 hys hvs
                      have FIN := Lib.hid (fun n => Q.out.below (FX.bdrew (Below.refl wr.heap.size wr) n))
                      clear hr hjx hmem hfy hfv hle Q
                      go_wp2_with fail
                      go_quiet (fail)
                      go_wp2_with fail
                      go_roundg (qx - (j + 1))
                      case measure => omega
                      case rel => exact ⟨j + 1, by omega, by go_num, FIN.out _⟩
                  · have e3 : decide (j < qx) = false := by simpa using hlt2
                    go_wp2_with fail
                    go_meet
                    exact Q.out
              case rest =>
                have Q0 := Lib.hid hcut
                clear hcut
                go_upto_block 6 with fail
                go_cut [] (fun W => FR w W p U' (s.req key) (4 * k + 4) p2 U2' (s2.req key) (4 * k + 4) ma na f mb nb g X z1 z2 ha va oa hb vb ob (.slice A2 qx c2) s.keys (.slice A3 qy c3) s2.keys)
                case first =>
                  as_aux_lemma =>
                  go_wp2_with fail
                  go_loopg [17] qy (fun gi i W => ∃ j : Nat, gi + j = qy ∧ i = .int .i64 (j : Int) ∧ FR w W p U' (s.req key) (4 * k + 4) p2 U2' (s2.req key) (4 * k + 4) ma na f mb nb g X z1 z2 ha va oa hb vb ob (.slice A2 qx c2) s.keys (.slice A3 qy c3) s2.keys)
                  case atStart => exact ⟨0, by omega, rfl, Q0.out⟩
                  case round =>
                    obtain ⟨j, hgj, rfl, hQ⟩ := hrel
                    have Q := Lib.hid hQ
                    clear hQ Q0
                    obtain ⟨k0, k1, k2, f0, f1, f2⟩ := boxSix Q.out.bby
                    by_cases hlt2 : j < qy
                    · have e3 : decide (j < qy) = true := by simpa using hlt2
                      have WO := Lib.hid (show ob = false ∨ ob = true from by cases ob <;> simp)
                      rcases WO.out with ho | ho
                      · subst ho
                        go_wp2_with fail
                        go_meet
                        exact Q.out
                      · subst ho
                        obtain ⟨g9, hr, _⟩ := Q.out.ry
                        have hjx : j < s2.keys.length := by rw [← HQ.out.2]; exact hlt2
                        obtain ⟨o9, rfl, hg9, hcl, hc3, hc4⟩ := hr.at hjx
                        have hmem : s2.keys.getD j ⟨#[]⟩ ∈ s2.keys := by rw [List.getD_eq_getElem?_getD, List.getElem?_eq_getElem hjx]; exact List.getElem_mem hjx
                        have hys := QB.out.2.2 _ hmem
                        have hle := QB.out.1 rfl _ hmem
                        have hvs := QB.out.2.1 rfl
                        rw [← HQ.out.2] at hc3
                        generalize s2.keys.getD j ⟨#[]⟩ = y at *
                        have LK1 := fun n => (Q.out.below (FX.bdrew (Below.refl wr.heap.size wr) n)).fo.ib.look hys
                        have LK2 := fun n => (Q.out.below (FX.bdrew (Below.refl wr.heap.size wr) n)).fo.ib.look hvs
                        obtain ⟨fy, hfy⟩ : ∃ x, x = g y := ⟨_, rfl⟩
                        obtain ⟨fv, hfv⟩ : ∃ x, x = g vb := ⟨_, rfl⟩
                        rw [← hfy] at LK1 hle
                        rw [← hfv] at LK2 hle
                        have e4 : decide (fy < fv) = false := decide_eq_false (by omega)
                        unfold maxLen at hc4 hys hvs
                        have FIN := Lib.hid (fun n => Q.out.below (FX.bdrew (Below.refl wr.heap.size wr) n))
                        clear hr hjx hmem hfy hfv hle Q
                        go_wp2_with fail
                        go_quiet (fail)
                        go_wp2_with fail
                        go_roundg (qy - (j + 1))
                        case measure => omega
                        case rel => exact ⟨j + 1, by omega, by go_num, FIN.out _⟩
                    · have e3 : decide (j < qy) = false := by simpa using hlt2
                      go_wp2_with fail
                      go_meet
                      exact Q.out
                case rest =>
                  have Q0 := Lib.hid hcut
                  clear hcut
                  obtain ⟨k0, k1, k2, f0, f1, f2⟩ := boxSix Q0.out.bby
                  have hkey := HC.out _ Q0.out.fo.pr.one.bel
                  obtain ⟨w6, hrun, hS, hX, hZ⟩ := Q0.out.fo.storeA HSK.out (z := (k : Int) + 1) (by omega) (by omega)
                  have B2 := Lib.hid (show LR.Box w6 z2 hb vb ob from (hX _ Q0.out.hz.2).trans Q0.out.bby)
                  have S6 := Lib.hid hS
                  have hwk : IntKind.i64.wrap ((k : Int) + 1) = (k : Int) + 1 := IntWalk.i64_in _ (by omega)
                  clear hS hX hZ k0 k1 k2 f0 f1 f2 Q0
                  go_upto_region 33 with fail
                  clear hrun hkey
                  obtain ⟨k0, k1, k2, f0, f1, f2⟩ := boxSix B2.out
                  have WO := Lib.hid (show ob = false ∨ ob = true from by cases ob <;> simp)
                  rcases WO.out with ho | ho
                  · subst ho
                    have hkey := HC.out _ S6.out.pr.one.bel
                    have LK := S6.out.ib.look HSK.out
                    obtain ⟨gk, hgk⟩ : ∃ x, x = g key := ⟨_, rfl⟩
                    rw [← hgk] at LK
                    have hgb := GB.out key
                    rw [← hgk] at hgb
                    have hwg : IntKind.i64.wrap (gk + 1) = gk + 1 := IntWalk.i64_in _ (by omega)
                    obtain ⟨w7, hrun, hS, _, _⟩ := S6.out.storeB HSK.out (z := gk + 1) (by omega) (by omega)
                    have FIN := Lib.hid (show FoR w p p2 ma mb n mo (.int .i64 ((k : Int) + 1)) w7 from by
                      have fb := FLB.out.2 g rfl
                      rw [← hgk] at fb
                      exact ⟨k + 1, na + 1, nb + 1, _, _, _, _, _, _, by go_num, by omega, by omega, by omega, hS.wide (fun _ h => h.elim), KP.out.1, KP.out.2.1, KP.out.2.2.1, KP.out.2.2.2, FLA.out.2, fb, fun x => upf_in (fun x => GB.out x) hgb x⟩)
                    clear hS S6 hgk
                    go_wp2_with fail
                    go_roundw
                    case rel => exact FIN.out
                    case measure => simp [intOf]; omega
                  · subst ho
                    obtain ⟨w7, hrun, hS, hX, _⟩ := S6.out.storeB (VBS.out rfl) (z := 0) (by omega) (by omega)
                    have S7 := Lib.hid hS
                    have hvb := VBS.out rfl
                    unfold maxLen at hvb
                    clear hS hX S6 B2
                    go_upto_region 35 with fail
                    clear hrun k0 k1 k2 f0 f1 f2
                    have hkey := HC.out _ S7.out.pr.one.bel
                    have LK := S7.out.ib.look HSK.out
                    obtain ⟨gk, hgk⟩ : ∃ x, x = upf g vb 0 key := ⟨_, rfl⟩
                    rw [← hgk] at LK
                    have hgb := upf_zero (fun x => GB.out x) vb key
                    rw [← hgk] at hgb
                    have hwg : IntKind.i64.wrap (gk + 1) = gk + 1 := IntWalk.i64_in _ (by omega)
                    obtain ⟨w8, hrun, hS, _, _⟩ := S7.out.storeB HSK.out (z := gk + 1) (by omega) (by omega)
                    have FIN := Lib.hid (show FoR w p p2 ma mb n mo (.int .i64 ((k : Int) + 1)) w8 from by
                      have fb := FLB.out.2 (upf g vb 0) rfl
                      rw [← hgk] at fb
                      exact ⟨k + 1, na + 1, nb + 1 + 1, _, _, _, _, _, _, by go_num, by omega, by omega, by omega, hS.wide (fun _ h => h.elim), KP.out.1, KP.out.2.1, KP.out.2.2.1, KP.out.2.2.2, FLA.out.2, fb, fun x => upf_in (fun x => upf_zero (fun x => GB.out x) vb x) hgb x⟩)
                    clear hS S7 hgk
                    go_wp2_with fail
                    go_roundw
                    case rel => exact FIN.out
                    case measure => simp [intOf]; omega
          · have e1 : decide (200 < ((S k).size : Int)) = true := decide_eq_true (by omega)
            go_wp2_with fail
            go_ret
            exact ⟨rfl, HL.out.pr.one.bel⟩
        · have e0 : decide (k < n) = false := by simpa using hlt
          go_wp2_with fail
          go_ret
          exact ⟨rfl, HL.out.pr.one.bel⟩
end Go.Proofs.YtnlckkahkghneaaGreatDoor.LE
namespace Go.Proofs.YtnlckkahkghneaaGreatDoor
open Go.ChangeShapes Go.WideShapes Go.ChangeAt Go.RowKit Sg
open Go.ChangeMaps (open_string shut_string)
theorem walk_learnFollows (a0 : Int) (v1 : Value) (w : World) (w0 : (Lit.int .i64 a0).wf = true) (wk : CameS w v1) (hl : Laid w) : Calls Tryz.prog 6 #[.int .i64 a0, v1] w (LE.RetB true w) := by
  obtain ⟨A, n, c, rfl, hn, S, hr, hc⟩ := wk
  have hz0 := i64_rng w0
  by_cases hok : ¬ 100 < (n : Int) ∧ ¬ a0 < 1 ∧ ¬ 1000 < a0
  · obtain ⟨q0, q1, q2⟩ := hok
    obtain ⟨mo, rfl⟩ : ∃ m : Nat, a0 = (m : Int) := ⟨a0.toNat, by omega⟩
    exact LE.learnFollows_main mo A n c w S (by omega) (by omega) (by omega) ⟨hr, hc⟩ hl
  · have PW := Lib.hid (show (decide (100 < (n : Int)) = true) ∨ (decide (100 < (n : Int)) = false ∧ decide (a0 < 1) = true) ∨ (decide (100 < (n : Int)) = false ∧ decide (a0 < 1) = false ∧ decide (1000 < a0) = true) from by
      simp only [decide_eq_true_eq, decide_eq_false_iff_not]; omega)
    have AW := Lib.hid (LE.awake_any w hl)
    unfold maxLen at hn
    clear hr hc hok hl w0 hz0
    rcases PW.out with e0 | ⟨e0, e1⟩ | ⟨e0, e1, e2⟩
    all_goals
      clear PW
      go_enter Tryz.func6, Tryz.ntmps6
      go_wp2_with fail
      refine AW.out.mono ?_
      rintro e w0 ⟨rfl, hb0⟩
      go_wp2_with fail
      go_ret
      exact ⟨rfl, hb0⟩

namespace LLearnFollows
set_option maxRecDepth 100000 in
theorem lifted (os : Os) (started : os.Started) (H : Type) (enc : TypeId × Value → H) :
    ReturnsInHanded {} Tryz.checked os 6 .any (fun w args => (Rows.learnFollowsSpec.pre enc Tryz.prog Tryz.f6 [] false w args ∧ laidMetH Tryz.prog seatLaid w) ∧ sizedMet enc Tryz.prog Tryz.f6 (OpenSpec.ofChange Rows.learnFollowsSpec) false w args)
      (Rows.learnFollowsSpec.post enc Tryz.prog Tryz.f6 false true false false) := by
  refine returnsInHanded_of_change_and (C := Tryz.checked) (X := fun w _ => laidMetH Tryz.prog seatLaid w) (fun _ _ _ hh h => h.of_heap hh) own started (by kernel_rfl) Tryz.func6
    (ChangeSpec.witness_at (enc := enc) (C := Tryz.checked) (os := os) (X := fun w _ => laidMetH Tryz.prog seatLaid w) false (laidWorld os) #[.int .i64 0, .slice none 0 0] 8 rfl (by kernel_rfl) (by kernel_rfl) (by kernel_rfl) (by kernel_rfl) (by kernel_rfl) (laidWorld_met os _)) ?_
  intro W base args ds gs before hval0 hW _ _ hL _
  have hval : ∀ (j : Nat) t v, Tryz.f6.params[j]? = some t → args[j]? = some v → Value.okWide Tryz.prog W .any base t v := hval0
  have hW' := hW
  obtain ⟨p, q, hA0, hV, rfl, hfz, hnd⟩ := hW
  have hA : DataW.TrodAll enc Tryz.prog W 0 (fun _ => true) true Tryz.f6.params.toList args.toList ds p := hA0
  rw [Tryz.params6] at hA hval
  obtain ⟨v0, vs0, d0, ds0, p0, q0, hargs, rfl, rfl, h0, r0⟩ := trodAll_cons hA
  obtain ⟨v1, vs1, d1, ds1, p1, q1, rfl, rfl, rfl, h1, r1⟩ := trodAll_cons r0
  obtain ⟨rfl, rfl, rfl⟩ := trodAll_nil r1
  obtain rfl : args = #[v0, v1] := by cases args; simp_all
  obtain ⟨rfl, rfl⟩ := trodVars_none hV
  obtain ⟨a0, rfl, rfl, rfl, w0⟩ := open_int Tryz.underlying3 (hval 0 3 v0 rfl rfl) h0
  have k1 := h1
  have lt1 : ∀ x ∈ p1, x.block < W.heap.size := by obtain ⟨m, hm⟩ := k1; exact DataW.trod_lt m _ _ _ hm
  have w1 := open_z (hval 1 33 v1 rfl rfl) h1
  clear hA0 hval0
  refine (walk_learnFollows a0 v1 W w0 w1 (laid_of hL)).mono fun e W' ⟨he, bel⟩ => ?_
  subst he
  exact ⟨_, rfl, _, _, _, [], _, [], hW', trodAll_mk1 (shut_bool Tryz.underlying4 _), (trodAll_cons_mk (shut_int Tryz.underlying3 w0) (trodAll_cons_mk (Below.trod laidOut (by kernel_rfl) (of_decide_eq_true (by kernel_rfl)) k1 bel lt1) trodAll_mk0)), rfl, bel.frame _, fun h => by cases h⟩

theorem band {x y : Bool} (h : x = true) (k : y = true) : (x && y) = true := by rw [h, k]; rfl
set_option maxRecDepth 100000
theorem cj0 : (Rows.learnFollowsRow.wf (OpenSpec.ofChange Rows.learnFollowsSpec)) = true := by kernel_rfl
theorem cj1 : (laidOutB Tryz.pinned.checked.prog) = true := by kernel_rfl
theorem cj2 : (mapsRowed Tryz.pinned.checked.prog) = true := by kernel_rfl
theorem cj9 : (Rows.learnFollowsRow.inPlace == Tryz.pinned.checked.prog.inPlace 6) = true := by kernel_rfl
theorem cj10 : (Rows.learnFollowsRow.unfollowed == Tryz.pinned.checked.prog.unfollowed 6) = true := by kernel_rfl
theorem cj11 : (Rows.learnFollowsRow.recurses == Tryz.pinned.checked.prog.recurses 6) = true := by kernel_rfl
theorem cj12 : (Rows.learnFollowsRow.named == Tryz.pinned.checked.prog.varsNamed 6) = true := by kernel_rfl
theorem cj22 : (Rows.learnFollowsRow.plainKeys == Tryz.pinned.checked.prog.plainKeys) = true := by kernel_rfl
theorem cj24 : (Tryz.pinned.checked.prog.stopsHeard) = true := by kernel_rfl
theorem cj25 : (Tryz.pinned.checked.prog.mayEnter) = true := by kernel_rfl
theorem cj26 : (Rows.learnFollowsRow.lifted == Tryz.pinned.checked.prog.liftsFinal) = true := by kernel_rfl
theorem cj27 : (Tryz.pinned.checked.prog.make == some Rows.learnFollowsRow.make) = true := by kernel_rfl
theorem closed : joinedFacts Tryz.pinned.checked.prog 6 Tryz.f6 Rows.learnFollowsSpec Rows.learnFollowsRow = true := by
  unfold joinedFacts
  exact band (band (band (band (band (band (band (band (band (band (band (band (band (band (band (band (band (band (band (band (band (band (band (band (band (band (band (band (band (band (band (cj0) cj1) cj2) (by kernel_rfl)) (by kernel_rfl)) (by kernel_rfl)) (by kernel_rfl)) (by kernel_rfl)) (by kernel_rfl)) cj9) cj10) cj11) cj12) (by kernel_rfl)) (by kernel_rfl)) (by kernel_rfl)) (by kernel_rfl)) (by kernel_rfl)) (by kernel_rfl)) (by kernel_rfl)) (by kernel_rfl)) (by kernel_rfl)) cj22) (by kernel_rfl)) cj24) cj25) cj26) cj27) (by kernel_rfl)) (by kernel_rfl)) (by kernel_rfl)) (by kernel_rfl)
theorem fnm : Tryz.pinned.checked.prog.funcNamed "cachewise/cachewiselaw10.LearnFollows" = some 6 := by kernel_rfl
theorem isIn : Tryz.f6.isInstance Tryz.pinned.checked.prog Rows.learnFollowsRow.origin Rows.learnFollowsRow.targs := of_decide_eq_true (by kernel_rfl)
theorem isWr : Tryz.f6.isWrapper Tryz.pinned.checked.prog Rows.learnFollowsRow.wrapper Rows.learnFollowsRow.mainSum := by unfold Func.isWrapper; rw [if_neg (of_decide_eq_false (by kernel_rfl))]; exact ⟨rfl, rfl⟩
theorem said : Rows.LearnFollowsSaid :=
  OpenClaim.holds_of_wide 6 Tryz.f6 rfl rfl rfl rfl rfl rfl rfl ⟨rfl, rfl, rfl, rfl, rfl⟩ rfl rfl rfl rfl rfl fnm Tryz.func6 closed isIn isWr
    (fun os started H enc _ => lifted os started H enc)

theorem hwT : Rows.learnFollowsRow.wfByText (OpenSpec.ofChange Rows.learnFollowsSpec) = true := by kernel_rfl
theorem mnI : Tryz.pinned.checked.prog.mainIs = some (Rows.learnFollowsCard.stood.harness.1, Rows.learnFollowsCard.stood.harness.2.toList) := by kernel_rfl
theorem lkT : Rows.learnFollowsCard.stood.looks = Tryz.pinned.checked.prog.looks [] := by kernel_rfl
theorem gsB : false = Rows.learnFollowsRow.goesBy Tryz.pinned.checked.prog := by kernel_rfl
theorem sii : Tryz.prog.wantsStandIn 3 = false := by kernel_rfl
theorem siz : Tryz.prog.wantsStandIn 33 = false := by kernel_rfl
theorem card : Rows.LearnFollowsCardSaid :=
  Claim7.holds_tied_plain_at .later [] _ _ _ _ said (fun _ h => by cases h) hwT (fun _ h => by cases h) learnFollows_row_tie rfl ⟨rfl, rfl⟩ mnI rfl
    (fun f fn hf hfn => by
      obtain rfl : f = 6 := Option.some.inj (fnm.symm.trans hf) |>.symm
      obtain rfl : fn = Tryz.f6 := (Option.some.inj (Tryz.func6.symm.trans hfn)).symm
      refine ⟨lkT, fun j t ht => ?_⟩
      rw [Tryz.params6] at ht
      rcases j with _ | _ | j
      · obtain rfl : t = 3 := by simpa using ht.symm
        exact sii
      · obtain rfl : t = 33 := by simpa using ht.symm
        exact siz
      · simp at ht)
    gsB
#print axioms card
end LLearnFollows
end Go.Proofs.YtnlckkahkghneaaGreatDoor
