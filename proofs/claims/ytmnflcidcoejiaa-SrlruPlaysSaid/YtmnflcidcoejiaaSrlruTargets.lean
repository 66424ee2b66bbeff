/- 'cachewiselaw07.SrlruTargets' returns true for every size and every row of calls, and leaves what was there as it was. No condition. -/
import Derived.Test.YtmnflcidcoejiaaTg7
import Derived.Deep.LoopGhost
import Derived.Deep.DeepCutAuto
import Derived.Deep.CutBlock
import Derived.Deep.RegionHeld3
namespace Go.Proofs.Ytmnflcidcoejiaa
open Go.ChangeShapes Go.WideShapes Go.ChangeAt Go.RowKit

def TgR (n c mo : Nat) (w0 : World) (g : Nat) (i : Value) (W : World) : Prop := ∃ (k : Nat) (T : Nat → Prop) (s : St), g = n - k ∧ i = .int .i64 (k : Int) ∧ k ≤ n ∧ Live w0 W c T s k ∧ Aim s ∧ s.mo = mo
def TgM (k c mo : Nat) (w0 : World) (W : World) : Prop := ∃ (T : Nat → Prop) (s : St), Live w0 W c T s (k + 1) ∧ Aim s ∧ s.mo = mo

set_option maxHeartbeats 8000000 in
set_option maxRecDepth 100000 in
theorem targets_main (mo : Nat) (A : Option Addr) (n cc : Nat) (w : World) (K : Nat → Int) (S : Nat → ByteArray) (N : Nat → Int) (hmo : mo ≤ 1000) (hn : n ≤ maxLen) (hS : ∀ i, i < n → (-9223372036854775808 ≤ N i ∧ N i ≤ 9223372036854775807) ∧ (S i).size ≤ maxLen)
    (hc : 0 < n → ∃ g o, A = some ⟨g, o, none⟩ ∧ g < w.heap.size ∧ n ≤ cc ∧ cc ≤ maxLen ∧ ∀ i, i < n → w.cell? ⟨g, o + i * 3, none⟩ = some (.int .i64 (K i)) ∧ w.cell? ⟨g, o + i * 3 + 1, none⟩ = some (.string (S i)) ∧ w.cell? ⟨g, o + i * 3 + 2, none⟩ = some (.int .i64 (N i))) :
    Calls Try.prog 5 #[.int .i64 (mo : Int), .slice A n cc] w (RetB true w) := by
  have e0 : decide ((mo : Int) < 0) = false := by simp
  have e3 : decide (1000 < (mo : Int)) = false := by simp; omega
  have HC := Lib.hid hc
  have HS := Lib.hid hS
  have HN := Lib.hid hn
  clear hc hS hn
  go_enter Try.func5, Try.ntmps5
  go_wp2_with fail
  refine (awake_any _).mono ?_
  rintro e w0 ⟨rfl, hb0⟩
  have b0 := Lib.hid hb0; clear hb0
  go_wp2_with fail
  refine (few_any A n cc w0 S HN.out (fun i hi => (HS.out i hi).2) (fun h => by
    obtain ⟨g, o, h1, h2, h3, h4, h5⟩ := HC.out h
    exact ⟨g, o, h1, Nat.lt_of_lt_of_le h2 b0.out.size, h3, h4, fun i hi => (b0.out.cell (p := ⟨g, o + i * 3 + 1, none⟩) h2).trans (h5 i hi).2.1⟩)).mono ?_
  rintro e w0 ⟨t, rfl, rfl, ht⟩
  cases t with
  | false =>
    go_wp2_with fail
    go_ret
    exact ⟨rfl, b0.out⟩
  | true =>
  have hn := ht rfl
  clear ht
  go_wp2_with fail
  refine (show Calls Try.prog 10 #[.int .i64 (mo : Int)] w0 (NewS (St.start mo) w0) from new_ca w0 (mo : Int) (by omega)).mono ?_
  rintro e w1 ⟨c, T1, rfl, hC, hT, hB⟩
  have L1 := Lib.hid (Live.made b0.out hC hT hB)
  clear hC hT hB b0 e0 e3
  go_wp2_with fail
  go_loopg [6] n (fun g i W => TgR n c mo w g i W)
  case atStart => exact ⟨0, T1, _, by omega, rfl, Nat.zero_le _, L1.out, aim_start mo, rfl⟩
  case round =>
    obtain ⟨k, T, s, hgk, rfl, hk, hL, hA, hm⟩ := hrel
    have HGK := Lib.hid hgk
    have HL := Lib.hid hL
    have AM := Lib.hid hA
    have HM := Lib.hid hm
    clear hgk hL L1 hA hm
    by_cases hlt : k < n
    · have e0 : decide (k < n) = true := by simpa using hlt
      obtain ⟨g, o, rfl, hg, hc1, hc2, hcell⟩ := HC.out (by omega)
      have hc3 := hcell k hlt
      have h1 := (HL.out.bel.cell (p := ⟨g, o + k * 3, none⟩) hg).trans hc3.1
      have h2 := (HL.out.bel.cell (p := ⟨g, o + k * 3 + 1, none⟩) hg).trans hc3.2.1
      have h3 := (HL.out.bel.cell (p := ⟨g, o + k * 3 + 2, none⟩) hg).trans hc3.2.2
      have hsk := (HS.out k hlt).2
      clear hcell hc3
      unfold maxLen at hc2
      have S2 := Lib.hid (TA.made HL.out (K k) (S k) (N k))
      go_upto_block 2 with fail
      clear h1 h2 h3
      generalize wr.alloc (.cells #[.int .i64 (K k), .string (S k), .int .i64 (N k)] 32) = w2 at S2 ⊢
      generalize wr.heap.size = ga at S2 ⊢
      generalize S k = key at S2 hsk ⊢
      generalize K k = kd at S2 ⊢
      generalize N k = nn at S2 ⊢
      go_cut [] (fun W => TgM k c mo w W)
      case first =>
        as_aux_lemma =>
        obtain ⟨d0, d1, d2⟩ := S2.out.k
        have htot := S2.out.live.ca.tot
        have hok := Lib.hid S2.out.live.ca.ok
        clear HL
        cases c0 : (kd == 0) with
        | true =>
          have U := request_ca w2 c T s k key S2.out.live.ca hsk (by omega)
          have HRM := Lib.hid (show (s.req key).mo = mo from (req_mo s key).trans HM.out)
          have AR := Lib.hid (AM.out.req hok.out key)
          by_cases hm0 : mo = 0
          · have e4 : decide (0 < (mo : Int)) = false := by simp; omega
            have e5 : decide (0 < mo) = false := by simp; omega
            have hstep : s.step key = .agg #[.bool false, .string ⟨#[]⟩, .bool false] := by
              have hle := hok.out.le
              rw [HM.out, hm0] at hle
              have hA : s.A = [] := List.eq_nil_of_length_eq_zero (by omega)
              have hN : s.N = [] := List.eq_nil_of_length_eq_zero (by omega)
              unfold St.step St.vic St.out St.hit
              rw [hA, hN, HM.out, hm0]; simp [inn]
            rw [hstep] at U
            have U := Lib.hid U
            clear hstep hm0
            go_wp2_with fail
            refine U.out.mono ?_
            intro e w3 hp
            obtain ⟨rfl, T3, h3⟩ := S2.out.op hp
            have hb := (Below.refl w3.heap.size w3).alloc (Nat.le_refl _) (sObj false ⟨#[]⟩ false)
            have S4 := Lib.hid (h3.below hb)
            have B4 := Lib.hid (show Box (w3.alloc (sObj false ⟨#[]⟩ false)) w3.heap.size false ⟨#[]⟩ false from heap_alloc_new _ _)
            clear hp h3 hb d0 d1 d2 S2 U
            go_upto_region 15 with fail
            generalize w3.alloc (sObj false ⟨#[]⟩ false) = w4 at S4 B4 ⊢
            generalize w3.heap.size = sb at B4 ⊢
            obtain ⟨q0, q1, q2, _, _⟩ := B4.out.cells
            obtain ⟨d0, d1, d2⟩ := S4.out.k
            go_quiet (fail)
            go_wp2_with fail
            go_meet
            exact ⟨T3, _, (S4.out.below (below_drewN w4 _)).live, AR.out, HRM.out⟩
          · have e4 : decide (0 < (mo : Int)) = true := by simp; omega
            have e5 : decide (0 < mo) = true := by simp; omega
            have HH := Lib.hid (req_hit (s := s) (by rw [HM.out]; exact hm0) key)
            unfold St.step at U
            cases ho : s.out key with
            | false =>
              rw [ho] at U
              generalize s.hit key = th at U
              generalize s.vic key = tv at U
              generalize s.req key = s2 at U HRM AR HH
              have U := Lib.hid U
              clear ho hm0
              go_wp2_with fail
              refine U.out.mono ?_
              intro e w3 hp
              obtain ⟨rfl, T3, h3⟩ := S2.out.op hp
              have hb := (Below.refl w3.heap.size w3).alloc (Nat.le_refl _) (sObj th tv false)
              have S4 := Lib.hid (h3.below hb)
              have B4 := Lib.hid (show Box (w3.alloc (sObj th tv false)) w3.heap.size th tv false from heap_alloc_new _ _)
              clear hp h3 hb d0 d1 d2 S2 U
              go_upto_region 15 with fail
              generalize w3.alloc (sObj th tv false) = w4 at S4 B4 ⊢
              generalize w3.heap.size = sb at B4 ⊢
              have V := Lib.hid (show ∀ m, Calls Try.prog 29 #[.pointer (some ⟨c, 0, none⟩), .string key] (w4.drewN m) (fun e w' => e = .returned (.bool true) ∧ w' = w4.drewN m) from fun m => by
                have := has_ca (w4.drewN m) c T3 s2 (k + 1) key (S4.out.live.ca.below (below_drewN w4 m)) hsk
                rw [HH.out] at this
                exact this.mono fun _ _ h => ⟨h.1, h.2.symm⟩)
              obtain ⟨q0, q1, q2, _, _⟩ := B4.out.cells
              obtain ⟨d0, d1, d2⟩ := S4.out.k
              cases th with
              | true =>
                go_quiet ((go_at_call 29; with_reducible exact Calls.quiet_of_same (V.out _)))
                go_wp2_with fail
                go_meet
                exact ⟨T3, _, (S4.out.below (below_drewN w4 _)).live, AR.out, HRM.out⟩
              | false =>
                go_quiet ((go_at_call 29; with_reducible exact Calls.quiet_of_same (V.out _)))
                go_wp2_with fail
                go_meet
                exact ⟨T3, _, (S4.out.below (below_drewN w4 _)).live, AR.out, HRM.out⟩
            | true =>
              have hh : s.hit key = false := by
                cases hx : s.hit key with
                | false => rfl
                | true => rw [hit_out hx] at ho; cases ho
              have OKR := Lib.hid (hok.out.req key)
              obtain ⟨G', hG⟩ := req_gone hok.out ho
              rw [ho, hh] at U
              generalize s.vic key = tv at U hG
              generalize s.req key = s2 at U HRM AR HH OKR hG
              have HVN := Lib.hid (show s2.hit tv = false from ghost_no OKR.out (by rw [hG]; exact List.mem_cons_self))
              have GH := Lib.hid (show s2.G.getD 0 ⟨#[]⟩ = tv by rw [hG]; rfl)
              obtain ⟨y, hy⟩ : ∃ y, y = s2.G.length := ⟨_, rfl⟩
              have hy0 : 0 < y := by rw [hy, hG]; simp
              have GL := Lib.hid hy.symm
              have HYG := Lib.hid (show 0 < s2.G.length by rw [hG]; simp)
              have U := Lib.hid U
              clear ho hh hG hy hm0
              go_wp2_with fail
              refine U.out.mono ?_
              intro e w3 hp
              obtain ⟨rfl, T3, h3⟩ := S2.out.op hp
              have hvs : tv.size ≤ maxLen := h3.live.ca.small tv (by
                unfold St.all
                refine List.mem_append_right _ ?_
                have := getD_in (xs := s2.G) (j := 0) (by rw [GL.out]; exact hy0)
                rw [GH.out] at this
                exact this)
              have hb := (Below.refl w3.heap.size w3).alloc (Nat.le_refl _) (sObj false tv true)
              have S4 := Lib.hid (h3.below hb)
              have B4 := Lib.hid (show Box (w3.alloc (sObj false tv true)) w3.heap.size false tv true from heap_alloc_new _ _)
              clear hp h3 hb d0 d1 d2 S2 U
              go_upto_region 15 with fail
              generalize w3.alloc (sObj false tv true) = w4 at S4 B4 ⊢
              generalize w3.heap.size = sb at B4 ⊢
              have V1 := Lib.hid (fun (W : World) (h : Below w4.heap.size w4 W) => (HH.out ▸ has_ca W c T3 s2 (k + 1) key (S4.out.live.ca.below h) hsk : Calls Try.prog 29 #[.pointer (some ⟨c, 0, none⟩), .string key] W (BoolPost true W)))
              have V2 := Lib.hid (fun (W : World) (h : Below w4.heap.size w4 W) => (HVN.out ▸ has_ca W c T3 s2 (k + 1) tv (S4.out.live.ca.below h) hvs : Calls Try.prog 29 #[.pointer (some ⟨c, 0, none⟩), .string tv] W (BoolPost false W)))
              have V3 := Lib.hid (fun (W : World) (h : Below w4.heap.size w4 W) => ghosts_ca W c T3 s2 (k + 1) (S4.out.live.ca.below h))
              have FF := Lib.hid (show ∀ W, Below w4.heap.size w4 W → W.cell? ⟨ga, 1, none⟩ = some (.string key) ∧ W.cell? ⟨sb, 0, none⟩ = some (.bool false) ∧ W.cell? ⟨sb, 1, none⟩ = some (.string tv) ∧ W.cell? ⟨sb, 2, none⟩ = some (.bool true) from fun W h => by
                have hx : Box W sb false tv true := (h.block _ B4.out.lt).trans B4.out
                exact ⟨(S4.out.below h).k.2.1, hx.cells.1, hx.cells.2.1, hx.cells.2.2.1⟩)
              have D0 := Lib.hid (show Below w4.heap.size w4 w4.drew from ⟨rfl, rfl, rfl, Nat.le_refl _, fun _ _ => rfl⟩)
              have e6 := beqS_yes (rfl : tv = tv)
              have e7 : ((y : Int) == 0) = false := by simp; omega
              have e8 : (y == 0) = false := by simp; omega
              refine wp_region_noPanic ?_
              refine wp_region_held_drew (S := fun w' => w'.cell? ⟨ga, 1, none⟩ = some (.string key) ∧ w'.cell? ⟨sb, 0, none⟩ = some (.bool false) ∧ w'.cell? ⟨sb, 1, none⟩ = some (.string tv) ∧ w'.cell? ⟨sb, 2, none⟩ = some (.bool true)) (by kernel_rfl) ?_ (fun hHeld => ?_)
              · exact FF.out w4 (Below.refl _ _)
              refine wpAnyH_take (i := 0) (oi := { dst := some 46, op := Go.Op.fieldAddr 34 (Go.Operand.tmp 8) 0, type := 0, pos := "law.go:143", after := #[], guard := none }) (v := ?_) rfl (by kernel_rfl) (by kernel_rfl) (by kernel_rfl) (fun _ _ _ h => h) (Or.inl ⟨by rfl, ?_⟩) (by assumption) ?_
              rotate_left
              · (intro w hSw; (try dsimp only at hSw); go_simp; (try with_reducible rfl))
              (try simp only [Act.put, List.setIfInBounds_toArray, List.set_cons_zero, List.set_cons_succ])
              refine wpAnyH_take (i := 1) (oi := { dst := some 47, op := Go.Op.load 4 (Go.Operand.tmp 46), type := 4, pos := "law.go:143", after := #[{ on := 0, ground := Go.Ground.data }], guard := none }) (v := ?_) rfl (by kernel_rfl) (by kernel_rfl) (by kernel_rfl) (fun _ _ _ h => h) (Or.inl ⟨by rfl, ?_⟩) (by assumption) ?_
              rotate_left
              · (intro w hSw; (try dsimp only at hSw); go_simp; (try with_reducible rfl))
              (try simp only [Act.put, List.setIfInBounds_toArray, List.set_cons_zero, List.set_cons_succ])
              refine wpAnyH_take (i := 2) (oi := { dst := some 48, op := Go.Op.move (Go.Operand.tmp 47), type := 4, pos := "law.go:143", after := #[{ on := 1, ground := Go.Ground.data }], guard := none }) (v := ?_) rfl (by kernel_rfl) (by kernel_rfl) (by kernel_rfl) (fun _ _ _ h => h) (Or.inl ⟨by rfl, ?_⟩) (by assumption) ?_
              rotate_left
              · (intro w hSw; (try dsimp only at hSw); go_simp; (try with_reducible rfl))
              (try simp only [Act.put, List.setIfInBounds_toArray, List.set_cons_zero, List.set_cons_succ])
              refine wpAnyH_take (i := 3) (oi := { dst := some 49, op := Go.Op.fieldAddr 34 (Go.Operand.tmp 8) 2, type := 0, pos := "law.go:143", after := #[{ on := 2, ground := Go.Ground.guard }], guard := some (2, true) }) (v := undef) rfl (by kernel_rfl) (by kernel_rfl) (by kernel_rfl) (fun _ _ _ h => h) (Or.inr ⟨by rfl, rfl⟩) (by assumption) ?_
              (try simp only [Act.put, List.setIfInBounds_toArray, List.set_cons_zero, List.set_cons_succ])
              refine wpAnyH_take (i := 4) (oi := { dst := some 50, op := Go.Op.load 4 (Go.Operand.tmp 49), type := 4, pos := "law.go:143", after := #[{ on := 3, ground := Go.Ground.data }, { on := 2, ground := Go.Ground.guard }], guard := some (2, true) }) (v := undef) rfl (by kernel_rfl) (by kernel_rfl) (by kernel_rfl) (fun _ _ _ h => h) (Or.inr ⟨by rfl, rfl⟩) (by assumption) ?_
              (try simp only [Act.put, List.setIfInBounds_toArray, List.set_cons_zero, List.set_cons_succ])
              refine wpAnyH_take (i := 5) (oi := { dst := some 51, op := Go.Op.pick (Go.Operand.tmp 48) (Go.Operand.tmp 50) (Go.Operand.const (Go.Value.bool false)), type := 4, pos := "law.go:143", after := #[{ on := 2, ground := Go.Ground.data }, { on := 4, ground := Go.Ground.data }], guard := none }) (v := ?_) rfl (by kernel_rfl) (by kernel_rfl) (by kernel_rfl) (fun _ _ _ h => h) (Or.inl ⟨by rfl, ?_⟩) (by assumption) ?_
              rotate_left
              · (intro w hSw; (try dsimp only at hSw); go_simp; (try with_reducible rfl))
              (try simp only [Act.put, List.setIfInBounds_toArray, List.set_cons_zero, List.set_cons_succ])
              refine wpAnyH_take (i := 6) (oi := { dst := some 52, op := Go.Op.move (Go.Operand.tmp 51), type := 4, pos := "law.go:143", after := #[{ on := 5, ground := Go.Ground.data }, { on := 2, ground := Go.Ground.chain }], guard := none }) (v := ?_) rfl (by kernel_rfl) (by kernel_rfl) (by kernel_rfl) (fun _ _ _ h => h) (Or.inl ⟨by rfl, ?_⟩) (by assumption) ?_
              rotate_left
              · (intro w hSw; (try dsimp only at hSw); go_simp; (try with_reducible rfl))
              (try simp only [Act.put, List.setIfInBounds_toArray, List.set_cons_zero, List.set_cons_succ])
              refine wpAnyH_take (i := 7) (oi := { dst := some 53, op := Go.Op.move (Go.Operand.tmp 0), type := 3, pos := "law.go:143", after := #[{ on := 6, ground := Go.Ground.guard }], guard := some (6, false) }) (v := ?_) rfl (by kernel_rfl) (by kernel_rfl) (by kernel_rfl) (fun _ _ _ h => h) (Or.inl ⟨by rfl, ?_⟩) (by assumption) ?_
              rotate_left
              · (intro w hSw; (try dsimp only at hSw); go_simp; (try with_reducible rfl))
              (try simp only [Act.put, List.setIfInBounds_toArray, List.set_cons_zero, List.set_cons_succ])
              refine wpAnyH_take (i := 8) (oi := { dst := some 54, op := Go.Op.binOp Go.BinOp.gtr 3 (Go.Operand.tmp 53) (Go.Operand.const (Go.Value.int Go.IntKind.i64 0)) 3, type := 4, pos := "law.go:143", after := #[{ on := 7, ground := Go.Ground.data }, { on := 6, ground := Go.Ground.guard }], guard := some (6, false) }) (v := ?_) rfl (by kernel_rfl) (by kernel_rfl) (by kernel_rfl) (fun _ _ _ h => h) (Or.inl ⟨by rfl, ?_⟩) (by assumption) ?_
              rotate_left
              · (intro w hSw; (try dsimp only at hSw); go_simp; (try with_reducible rfl))
              (try simp only [Act.put, List.setIfInBounds_toArray, List.set_cons_zero, List.set_cons_succ])
              refine wpAnyH_take (i := 9) (oi := { dst := some 55, op := Go.Op.move (Go.Operand.tmp 54), type := 4, pos := "law.go:143", after := #[{ on := 8, ground := Go.Ground.data }, { on := 6, ground := Go.Ground.chain }, { on := 6, ground := Go.Ground.guard }], guard := some (6, false) }) (v := ?_) rfl (by kernel_rfl) (by kernel_rfl) (by kernel_rfl) (fun _ _ _ h => h) (Or.inl ⟨by rfl, ?_⟩) (by assumption) ?_
              rotate_left
              · (intro w hSw; (try dsimp only at hSw); go_simp; (try with_reducible rfl))
              (try simp only [Act.put, List.setIfInBounds_toArray, List.set_cons_zero, List.set_cons_succ])
              refine wpAnyH_take (i := 10) (oi := { dst := some 56, op := Go.Op.move (Go.Operand.tmp 5), type := 25, pos := "law.go:143", after := #[{ on := 9, ground := Go.Ground.guard }], guard := some (9, true) }) (v := ?_) rfl (by kernel_rfl) (by kernel_rfl) (by kernel_rfl) (fun _ _ _ h => h) (Or.inl ⟨by rfl, ?_⟩) (by assumption) ?_
              rotate_left
              · (intro w hSw; (try dsimp only at hSw); go_simp; (try with_reducible rfl))
              (try simp only [Act.put, List.setIfInBounds_toArray, List.set_cons_zero, List.set_cons_succ])
              refine wpAnyH_take (i := 11) (oi := { dst := some 57, op := Go.Op.fieldAddr 32 (Go.Operand.tmp 7) 1, type := 0, pos := "law.go:143", after := #[{ on := 9, ground := Go.Ground.guard }], guard := some (9, true) }) (v := ?_) rfl (by kernel_rfl) (by kernel_rfl) (by kernel_rfl) (fun _ _ _ h => h) (Or.inl ⟨by rfl, ?_⟩) (by assumption) ?_
              rotate_left
              · (intro w hSw; (try dsimp only at hSw); go_simp; (try with_reducible rfl))
              (try simp only [Act.put, List.setIfInBounds_toArray, List.set_cons_zero, List.set_cons_succ])
              refine wpAnyH_take (i := 12) (oi := { dst := some 58, op := Go.Op.load 9 (Go.Operand.tmp 57), type := 9, pos := "law.go:143", after := #[{ on := 11, ground := Go.Ground.data }, { on := 9, ground := Go.Ground.guard }], guard := some (9, true) }) (v := ?_) rfl (by kernel_rfl) (by kernel_rfl) (by kernel_rfl) (fun _ _ _ h => h) (Or.inl ⟨by rfl, ?_⟩) (by assumption) ?_
              rotate_left
              · (intro w hSw; (try dsimp only at hSw); go_simp; (try with_reducible rfl))
              (try simp only [Act.put, List.setIfInBounds_toArray, List.set_cons_zero, List.set_cons_succ])
              refine wpAnyH_ready (rs := [13]) (by kernel_rfl) (by simp) ?_
              refine AllReadyH.cons (o := { dst := some 59, op := Go.Op.call { callee := Go.Callee.value (Go.Operand.func 29), args := #[Go.Operand.tmp 56, Go.Operand.tmp 58], argTypes := #[25, 9] }, type := 4, pos := "law.go:143", after := #[{ on := 10, ground := Go.Ground.data }, { on := 12, ground := Go.Ground.data }, { on := 9, ground := Go.Ground.chain }, { on := 9, ground := Go.Ground.guard }], guard := some (9, true) }) rfl (fun K hK => ?_) AllReadyH.nil
              go_simp
              refine (V1.out _ D0.out).mono ?_
              rintro e wx ⟨rfl, rfl⟩
              go_wp2_with fail
              refine hK.out _ _ ?_ (fun hHeld => ?_)
              · exact hHeld
              clear hK K
              (try simp only [Act.put, List.setIfInBounds_toArray, List.set_cons_zero, List.set_cons_succ])
              refine wpAnyH_take (i := 14) (oi := { dst := some 60, op := Go.Op.unOp Go.UnOp.not 4 (Go.Operand.tmp 59), type := 4, pos := "law.go:143", after := #[{ on := 13, ground := Go.Ground.data }, { on := 9, ground := Go.Ground.guard }], guard := some (9, true) }) (v := ?_) rfl (by kernel_rfl) (by kernel_rfl) (by kernel_rfl) (fun _ _ _ h => h) (Or.inl ⟨by rfl, ?_⟩) (by assumption) ?_
              rotate_left
              · (intro w hSw; (try dsimp only at hSw); go_simp; (try with_reducible rfl))
              (try simp only [Act.put, List.setIfInBounds_toArray, List.set_cons_zero, List.set_cons_succ])
              refine wpAnyH_take (i := 15) (oi := { dst := some 61, op := Go.Op.pick (Go.Operand.tmp 55) (Go.Operand.tmp 60) (Go.Operand.const (Go.Value.bool false)), type := 4, pos := "law.go:143", after := #[{ on := 9, ground := Go.Ground.data }, { on := 14, ground := Go.Ground.data }, { on := 6, ground := Go.Ground.guard }], guard := some (6, false) }) (v := ?_) rfl (by kernel_rfl) (by kernel_rfl) (by kernel_rfl) (fun _ _ _ h => h) (Or.inl ⟨by rfl, ?_⟩) (by assumption) ?_
              rotate_left
              · (intro w hSw; (try dsimp only at hSw); go_simp; (try with_reducible rfl))
              (try simp only [Act.put, List.setIfInBounds_toArray, List.set_cons_zero, List.set_cons_succ])
              refine wpAnyH_take (i := 16) (oi := { dst := some 62, op := Go.Op.pick (Go.Operand.tmp 52) (Go.Operand.const (Go.Value.bool true)) (Go.Operand.tmp 61), type := 4, pos := "law.go:143", after := #[{ on := 6, ground := Go.Ground.data }, { on := 15, ground := Go.Ground.data }], guard := none }) (v := ?_) rfl (by kernel_rfl) (by kernel_rfl) (by kernel_rfl) (fun _ _ _ h => h) (Or.inl ⟨by rfl, ?_⟩) (by assumption) ?_
              rotate_left
              · (intro w hSw; (try dsimp only at hSw); go_simp; (try with_reducible rfl))
              (try simp only [Act.put, List.setIfInBounds_toArray, List.set_cons_zero, List.set_cons_succ])
              refine wpAnyH_take (i := 17) (oi := { dst := some 63, op := Go.Op.move (Go.Operand.tmp 62), type := 4, pos := "law.go:143", after := #[{ on := 16, ground := Go.Ground.data }, { on := 13, ground := Go.Ground.chain }], guard := none }) (v := ?_) rfl (by kernel_rfl) (by kernel_rfl) (by kernel_rfl) (fun _ _ _ h => h) (Or.inl ⟨by rfl, ?_⟩) (by assumption) ?_
              rotate_left
              · (intro w hSw; (try dsimp only at hSw); go_simp; (try with_reducible rfl))
              (try simp only [Act.put, List.setIfInBounds_toArray, List.set_cons_zero, List.set_cons_succ])
              refine wpAnyH_take (i := 18) (oi := { dst := some 64, op := Go.Op.fieldAddr 34 (Go.Operand.tmp 8) 2, type := 0, pos := "law.go:143", after := #[{ on := 17, ground := Go.Ground.guard }], guard := some (17, false) }) (v := ?_) rfl (by kernel_rfl) (by kernel_rfl) (by kernel_rfl) (fun _ _ _ h => h) (Or.inl ⟨by rfl, ?_⟩) (by assumption) ?_
              rotate_left
              · (intro w hSw; (try dsimp only at hSw); go_simp; (try with_reducible rfl))
              (try simp only [Act.put, List.setIfInBounds_toArray, List.set_cons_zero, List.set_cons_succ])
              refine wpAnyH_take (i := 19) (oi := { dst := some 65, op := Go.Op.load 4 (Go.Operand.tmp 64), type := 4, pos := "law.go:143", after := #[{ on := 18, ground := Go.Ground.data }, { on := 17, ground := Go.Ground.guard }], guard := some (17, false) }) (v := ?_) rfl (by kernel_rfl) (by kernel_rfl) (by kernel_rfl) (fun _ _ _ h => h) (Or.inl ⟨by rfl, ?_⟩) (by assumption) ?_
              rotate_left
              · (intro w hSw; (try dsimp only at hSw); go_simp; (try with_reducible rfl))
              (try simp only [Act.put, List.setIfInBounds_toArray, List.set_cons_zero, List.set_cons_succ])
              refine wpAnyH_take (i := 20) (oi := { dst := some 66, op := Go.Op.move (Go.Operand.tmp 65), type := 4, pos := "law.go:143", after := #[{ on := 19, ground := Go.Ground.data }, { on := 17, ground := Go.Ground.chain }, { on := 17, ground := Go.Ground.guard }], guard := some (17, false) }) (v := ?_) rfl (by kernel_rfl) (by kernel_rfl) (by kernel_rfl) (fun _ _ _ h => h) (Or.inl ⟨by rfl, ?_⟩) (by assumption) ?_
              rotate_left
              · (intro w hSw; (try dsimp only at hSw); go_simp; (try with_reducible rfl))
              (try simp only [Act.put, List.setIfInBounds_toArray, List.set_cons_zero, List.set_cons_succ])
              refine wpAnyH_take (i := 21) (oi := { dst := some 67, op := Go.Op.move (Go.Operand.tmp 5), type := 25, pos := "law.go:143", after := #[{ on := 20, ground := Go.Ground.guard }], guard := some (20, true) }) (v := ?_) rfl (by kernel_rfl) (by kernel_rfl) (by kernel_rfl) (fun _ _ _ h => h) (Or.inl ⟨by rfl, ?_⟩) (by assumption) ?_
              rotate_left
              · (intro w hSw; (try dsimp only at hSw); go_simp; (try with_reducible rfl))
              (try simp only [Act.put, List.setIfInBounds_toArray, List.set_cons_zero, List.set_cons_succ])
              refine wpAnyH_take (i := 22) (oi := { dst := some 68, op := Go.Op.fieldAddr 34 (Go.Operand.tmp 8) 1, type := 0, pos := "law.go:143", after := #[{ on := 20, ground := Go.Ground.guard }], guard := some (20, true) }) (v := ?_) rfl (by kernel_rfl) (by kernel_rfl) (by kernel_rfl) (fun _ _ _ h => h) (Or.inl ⟨by rfl, ?_⟩) (by assumption) ?_
              rotate_left
              · (intro w hSw; (try dsimp only at hSw); go_simp; (try with_reducible rfl))
              (try simp only [Act.put, List.setIfInBounds_toArray, List.set_cons_zero, List.set_cons_succ])
              refine wpAnyH_take (i := 23) (oi := { dst := some 69, op := Go.Op.load 9 (Go.Operand.tmp 68), type := 9, pos := "law.go:143", after := #[{ on := 22, ground := Go.Ground.data }, { on := 20, ground := Go.Ground.guard }], guard := some (20, true) }) (v := ?_) rfl (by kernel_rfl) (by kernel_rfl) (by kernel_rfl) (fun _ _ _ h => h) (Or.inl ⟨by rfl, ?_⟩) (by assumption) ?_
              rotate_left
              · (intro w hSw; (try dsimp only at hSw); go_simp; (try with_reducible rfl))
              (try simp only [Act.put, List.setIfInBounds_toArray, List.set_cons_zero, List.set_cons_succ])
              refine wpAnyH_ready (rs := [24]) (by kernel_rfl) (by simp) ?_
              refine AllReadyH.cons (o := { dst := some 70, op := Go.Op.call { callee := Go.Callee.value (Go.Operand.func 29), args := #[Go.Operand.tmp 67, Go.Operand.tmp 69], argTypes := #[25, 9] }, type := 4, pos := "law.go:143", after := #[{ on := 21, ground := Go.Ground.data }, { on := 23, ground := Go.Ground.data }, { on := 20, ground := Go.Ground.chain }, { on := 20, ground := Go.Ground.guard }], guard := some (20, true) }) rfl (fun K hK => ?_) AllReadyH.nil
              go_simp
              refine (V2.out _ D0.out).mono ?_
              rintro e wx ⟨rfl, rfl⟩
              go_wp2_with fail
              refine hK.out _ _ ?_ (fun hHeld => ?_)
              · exact hHeld
              clear hK K
              (try simp only [Act.put, List.setIfInBounds_toArray, List.set_cons_zero, List.set_cons_succ])
              refine wpAnyH_take (i := 25) (oi := { dst := some 71, op := Go.Op.move (Go.Operand.tmp 70), type := 4, pos := "law.go:143", after := #[{ on := 24, ground := Go.Ground.data }, { on := 24, ground := Go.Ground.chain }, { on := 20, ground := Go.Ground.guard }], guard := some (20, true) }) (v := ?_) rfl (by kernel_rfl) (by kernel_rfl) (by kernel_rfl) (fun _ _ _ h => h) (Or.inl ⟨by rfl, ?_⟩) (by assumption) ?_
              rotate_left
              · (intro w hSw; (try dsimp only at hSw); go_simp; (try with_reducible rfl))
              (try simp only [Act.put, List.setIfInBounds_toArray, List.set_cons_zero, List.set_cons_succ])
              refine wpAnyH_take (i := 26) (oi := { dst := some 72, op := Go.Op.move (Go.Operand.tmp 5), type := 25, pos := "law.go:143", after := #[{ on := 25, ground := Go.Ground.guard }], guard := some (25, false) }) (v := ?_) rfl (by kernel_rfl) (by kernel_rfl) (by kernel_rfl) (fun _ _ _ h => h) (Or.inl ⟨by rfl, ?_⟩) (by assumption) ?_
              rotate_left
              · (intro w hSw; (try dsimp only at hSw); go_simp; (try with_reducible rfl))
              (try simp only [Act.put, List.setIfInBounds_toArray, List.set_cons_zero, List.set_cons_succ])
              refine wpAnyH_ready (rs := [27]) (by kernel_rfl) (by simp) ?_
              refine AllReadyH.cons (o := { dst := some 73, op := Go.Op.call { callee := Go.Callee.value (Go.Operand.func 30), args := #[Go.Operand.tmp 72], argTypes := #[25] }, type := 47, pos := "law.go:143", after := #[{ on := 26, ground := Go.Ground.data }, { on := 25, ground := Go.Ground.chain }, { on := 25, ground := Go.Ground.guard }], guard := some (25, false) }) rfl (fun K hK => ?_) AllReadyH.nil
              go_simp
              refine (V3.out _ D0.out).mono ?_
              rintro e wy ⟨vy, rfl, hO, hB⟩
              obtain ⟨Ay, cy, rfl⟩ := hO.len
              rw [GL.out]
              have By := Lib.hid (show Below w4.heap.size w4 wy from ⟨hB.os, hB.tape, hB.output, hB.size, hB.block⟩)
              obtain ⟨f1, f2, f3, f4⟩ := FF.out wy By.out
              clear hO hB
              go_wp2_with fail
              refine hK.out _ _ ?_ (fun hHeld => ?_)
              · exact ⟨f1, f2, f3, f4⟩
              clear hK K
              (try simp only [Act.put, List.setIfInBounds_toArray, List.set_cons_zero, List.set_cons_succ])
              refine wpAnyH_take (i := 28) (oi := { dst := some 74, op := Go.Op.call { callee := Go.Callee.builtin Go.Builtin.len, args := #[Go.Operand.tmp 73], argTypes := #[47] }, type := 3, pos := "law.go:143", after := #[{ on := 27, ground := Go.Ground.data }, { on := 25, ground := Go.Ground.guard }], guard := some (25, false) }) (v := ?_) rfl (by kernel_rfl) (by kernel_rfl) (by kernel_rfl) (fun _ _ _ h => h) (Or.inl ⟨by rfl, ?_⟩) (by assumption) ?_
              rotate_left
              · (intro w hSw; (try dsimp only at hSw); go_simp; (try with_reducible rfl))
              (try simp only [Act.put, List.setIfInBounds_toArray, List.set_cons_zero, List.set_cons_succ])
              refine wpAnyH_take (i := 29) (oi := { dst := some 75, op := Go.Op.binOp Go.BinOp.eql 3 (Go.Operand.tmp 74) (Go.Operand.const (Go.Value.int Go.IntKind.i64 0)) 3, type := 4, pos := "law.go:143", after := #[{ on := 28, ground := Go.Ground.data }, { on := 25, ground := Go.Ground.guard }], guard := some (25, false) }) (v := ?_) rfl (by kernel_rfl) (by kernel_rfl) (by kernel_rfl) (fun _ _ _ h => h) (Or.inl ⟨by rfl, ?_⟩) (by assumption) ?_
              rotate_left
              · (intro w hSw; (try dsimp only at hSw); go_simp; (try with_reducible rfl))
              (try simp only [Act.put, List.setIfInBounds_toArray, List.set_cons_zero, List.set_cons_succ])
              refine wpAnyH_take (i := 30) (oi := { dst := some 76, op := Go.Op.pick (Go.Operand.tmp 71) (Go.Operand.const (Go.Value.bool true)) (Go.Operand.tmp 75), type := 4, pos := "law.go:143", after := #[{ on := 25, ground := Go.Ground.data }, { on := 29, ground := Go.Ground.data }, { on := 20, ground := Go.Ground.guard }], guard := some (20, true) }) (v := ?_) rfl (by kernel_rfl) (by kernel_rfl) (by kernel_rfl) (fun _ _ _ h => h) (Or.inl ⟨by rfl, ?_⟩) (by assumption) ?_
              rotate_left
              · (intro w hSw; (try dsimp only at hSw); go_simp; (try with_reducible rfl))
              (try simp only [Act.put, List.setIfInBounds_toArray, List.set_cons_zero, List.set_cons_succ])
              refine wpAnyH_take (i := 31) (oi := { dst := some 77, op := Go.Op.move (Go.Operand.tmp 76), type := 4, pos := "law.go:143", after := #[{ on := 30, ground := Go.Ground.data }, { on := 27, ground := Go.Ground.chain }, { on := 20, ground := Go.Ground.guard }], guard := some (20, true) }) (v := ?_) rfl (by kernel_rfl) (by kernel_rfl) (by kernel_rfl) (fun _ _ _ h => h) (Or.inl ⟨by rfl, ?_⟩) (by assumption) ?_
              rotate_left
              · (intro w hSw; (try dsimp only at hSw); go_simp; (try with_reducible rfl))
              (try simp only [Act.put, List.setIfInBounds_toArray, List.set_cons_zero, List.set_cons_succ])
              refine wpAnyH_take (i := 32) (oi := { dst := some 78, op := Go.Op.move (Go.Operand.tmp 5), type := 25, pos := "law.go:143", after := #[{ on := 31, ground := Go.Ground.guard }], guard := some (31, false) }) (v := ?_) rfl (by kernel_rfl) (by kernel_rfl) (by kernel_rfl) (fun _ _ _ h => h) (Or.inl ⟨by rfl, ?_⟩) (by assumption) ?_
              rotate_left
              · (intro w hSw; (try dsimp only at hSw); go_simp; (try with_reducible rfl))
              (try simp only [Act.put, List.setIfInBounds_toArray, List.set_cons_zero, List.set_cons_succ])
              refine wpAnyH_take (i := 36) (oi := { dst := some 82, op := Go.Op.fieldAddr 34 (Go.Operand.tmp 8) 1, type := 0, pos := "law.go:143", after := #[{ on := 31, ground := Go.Ground.guard }], guard := some (31, false) }) (v := ?_) rfl (by kernel_rfl) (by kernel_rfl) (by kernel_rfl) (fun _ _ _ h => h) (Or.inl ⟨by rfl, ?_⟩) (by assumption) ?_
              rotate_left
              · (intro w hSw; (try dsimp only at hSw); go_simp; (try with_reducible rfl))
              (try simp only [Act.put, List.setIfInBounds_toArray, List.set_cons_zero, List.set_cons_succ])
              refine wpAnyH_take (i := 37) (oi := { dst := some 83, op := Go.Op.load 9 (Go.Operand.tmp 82), type := 9, pos := "law.go:143", after := #[{ on := 36, ground := Go.Ground.data }, { on := 31, ground := Go.Ground.guard }], guard := some (31, false) }) (v := ?_) rfl (by kernel_rfl) (by kernel_rfl) (by kernel_rfl) (fun _ _ _ h => h) (Or.inl ⟨by rfl, ?_⟩) (by assumption) ?_
              rotate_left
              · (intro w hSw; (try dsimp only at hSw); go_simp; (try with_reducible rfl))
              (try simp only [Act.put, List.setIfInBounds_toArray, List.set_cons_zero, List.set_cons_succ])
              refine wpAnyH_ready (rs := [33]) (by kernel_rfl) (by simp) ?_
              refine AllReadyH.cons (o := { dst := some 79, op := Go.Op.call { callee := Go.Callee.value (Go.Operand.func 30), args := #[Go.Operand.tmp 78], argTypes := #[25] }, type := 47, pos := "law.go:143", after := #[{ on := 32, ground := Go.Ground.data }, { on := 31, ground := Go.Ground.chain }, { on := 31, ground := Go.Ground.guard }], guard := some (31, false) }) rfl (fun K hK => ?_) AllReadyH.nil
              go_simp
              refine (V3.out _ By.out).mono ?_
              rintro e wz ⟨vz, rfl, hO, hB⟩
              obtain ⟨Az, cz, rfl⟩ := hO.len
              obtain ⟨gz, _, hRz⟩ := hO.row
              obtain ⟨oz, rfl, hgz, hcz, hxz, hcvz⟩ := hRz.at (k := 0) HYG.out
              rw [GH.out, Nat.add_zero] at hcz
              rw [GL.out] at hxz ⊢
              have Bz := Lib.hid (show Below w4.heap.size w4 wz from By.out.trans (hB.mono By.out.size))
              obtain ⟨i1, i2, i3, i4⟩ := FF.out wz Bz.out
              unfold maxLen at hcvz
              clear hO hB hRz
              go_wp2_with fail
              refine hK.out _ _ ?_ (fun hHeld => ?_)
              · exact ⟨i1, i2, i3, i4⟩
              clear hK K
              (try simp only [Act.put, List.setIfInBounds_toArray, List.set_cons_zero, List.set_cons_succ])
              refine wpAnyH_take (i := 34) (oi := { dst := some 80, op := Go.Op.indexAddr 47 (Go.Operand.tmp 79) (Go.Operand.const (Go.Value.int Go.IntKind.i64 0)), type := 0, pos := "law.go:143", after := #[{ on := 33, ground := Go.Ground.data }, { on := 31, ground := Go.Ground.guard }], guard := some (31, false) }) (v := ?_) rfl (by kernel_rfl) (by kernel_rfl) (by kernel_rfl) (fun _ _ _ h => h) (Or.inl ⟨by rfl, ?_⟩) (by assumption) ?_
              rotate_left
              · (intro w hSw; (try dsimp only at hSw); go_simp; (try with_reducible rfl))
              (try simp only [Act.put, List.setIfInBounds_toArray, List.set_cons_zero, List.set_cons_succ])
              refine wpAnyH_ready (rs := [35]) (by kernel_rfl) (by simp) ?_
              refine AllReadyH.cons (o := { dst := some 81, op := Go.Op.load 9 (Go.Operand.tmp 80), type := 9, pos := "law.go:143", after := #[{ on := 34, ground := Go.Ground.data }, { on := 31, ground := Go.Ground.guard }], guard := some (31, false) }) rfl (fun K hK => ?_) AllReadyH.nil
              go_simp
              refine hK.out _ _ ?_ (fun hHeld => ?_)
              · exact ⟨i1, i2, i3, i4⟩
              clear hK K
              (try simp only [Act.put, List.setIfInBounds_toArray, List.set_cons_zero, List.set_cons_succ])
              refine wpAnyH_take (i := 38) (oi := { dst := some 84, op := Go.Op.binOp Go.BinOp.neq 9 (Go.Operand.tmp 81) (Go.Operand.tmp 83) 9, type := 4, pos := "law.go:143", after := #[{ on := 35, ground := Go.Ground.data }, { on := 37, ground := Go.Ground.data }, { on := 31, ground := Go.Ground.guard }], guard := some (31, false) }) (v := ?_) rfl (by kernel_rfl) (by kernel_rfl) (by kernel_rfl) (fun _ _ _ h => h) (Or.inl ⟨by rfl, ?_⟩) (by assumption) ?_
              rotate_left
              · (intro w hSw; (try dsimp only at hSw); go_simp; (try with_reducible rfl))
              (try simp only [Act.put, List.setIfInBounds_toArray, List.set_cons_zero, List.set_cons_succ])
              refine wpAnyH_take (i := 39) (oi := { dst := some 85, op := Go.Op.pick (Go.Operand.tmp 77) (Go.Operand.const (Go.Value.bool true)) (Go.Operand.tmp 84), type := 4, pos := "law.go:143", after := #[{ on := 31, ground := Go.Ground.data }, { on := 38, ground := Go.Ground.data }, { on := 20, ground := Go.Ground.guard }], guard := some (20, true) }) (v := ?_) rfl (by kernel_rfl) (by kernel_rfl) (by kernel_rfl) (fun _ _ _ h => h) (Or.inl ⟨by rfl, ?_⟩) (by assumption) ?_
              rotate_left
              · (intro w hSw; (try dsimp only at hSw); go_simp; (try with_reducible rfl))
              (try simp only [Act.put, List.setIfInBounds_toArray, List.set_cons_zero, List.set_cons_succ])
              refine wpAnyH_take (i := 40) (oi := { dst := some 86, op := Go.Op.pick (Go.Operand.tmp 66) (Go.Operand.tmp 85) (Go.Operand.const (Go.Value.bool false)), type := 4, pos := "law.go:143", after := #[{ on := 20, ground := Go.Ground.data }, { on := 39, ground := Go.Ground.data }, { on := 17, ground := Go.Ground.guard }], guard := some (17, false) }) (v := ?_) rfl (by kernel_rfl) (by kernel_rfl) (by kernel_rfl) (fun _ _ _ h => h) (Or.inl ⟨by rfl, ?_⟩) (by assumption) ?_
              rotate_left
              · (intro w hSw; (try dsimp only at hSw); go_simp; (try with_reducible rfl))
              (try simp only [Act.put, List.setIfInBounds_toArray, List.set_cons_zero, List.set_cons_succ])
              refine wpAnyH_take (i := 41) (oi := { dst := some 87, op := Go.Op.pick (Go.Operand.tmp 63) (Go.Operand.const (Go.Value.bool true)) (Go.Operand.tmp 86), type := 4, pos := "law.go:143", after := #[{ on := 17, ground := Go.Ground.data }, { on := 40, ground := Go.Ground.data }], guard := none }) (v := ?_) rfl (by kernel_rfl) (by kernel_rfl) (by kernel_rfl) (fun _ _ _ h => h) (Or.inl ⟨by rfl, ?_⟩) (by assumption) ?_
              rotate_left
              · (intro w hSw; (try dsimp only at hSw); go_simp; (try with_reducible rfl))
              (try simp only [Act.put, List.setIfInBounds_toArray, List.set_cons_zero, List.set_cons_succ])
              refine wpAnyH_done (by kernel_rfl) ?_ _
              refine NoPanic.normal ?_
              go_wp2_with fail
              go_meet
              exact ⟨T3, _, (S4.out.below Bz.out).live, AR.out, HRM.out⟩
        | false =>
        cases c1 : (kd == 1) with
        | true =>
          have U := Lib.hid (remove_ca w2 c T s k key S2.out.live.ca hsk)
          go_wp2_with fail
          refine U.out.mono ?_
          intro e w3 hp
          obtain ⟨rfl, T3, h3⟩ := S2.out.op hp
          have S3 := Lib.hid h3
          clear hp h3 d0 d1 d2 U S2
          obtain ⟨d0, d1, d2⟩ := S3.out.k
          have D0 := Lib.hid (show Below w3.heap.size w3 w3.drew from ⟨rfl, rfl, rfl, Nat.le_refl _, fun _ _ => rfl⟩)
          have V1 := Lib.hid (rm_hit s key ▸ has_ca w3.drew c T3 (s.rm key) k key (S3.out.live.ca.below D0.out) hsk : Calls Try.prog 29 #[.pointer (some ⟨c, 0, none⟩), .string key] w3.drew (BoolPost false w3.drew))
          have V2 := Lib.hid (ghosts_ca w3.drew c T3 (s.rm key) k (S3.out.live.ca.below D0.out))
          go_upto_region 19 with fail
          go_region_held3 (fun w' => w'.cell? ⟨ga, 1, none⟩ = some (.string key)) (first | (exact z1) | (exact d1) | go_keep)
            (first
              | (go_at_call 29; refine V1.out.mono ?_; rintro e wx ⟨rfl, rfl⟩)
              | (go_at_call 30; refine V2.out.mono ?_; rintro e w4 ⟨v4, rfl, hO, hB⟩; have B4 := Lib.hid (show Below w3.heap.size w3 w4 from ⟨hB.os, hB.tape, hB.output, hB.size, hB.block⟩); have z1 := (S3.out.below B4.out).k.2.1; obtain ⟨g4, _, hR4⟩ := hO.row; have V3 := Lib.hid (rm_ghost s key ▸ refHas_any w4 g4 v4 _ key hR4 : Calls Try.prog 34 #[v4, .string key] w4 (BoolPost false w4)); clear hO hB hR4)
              | (go_at_call 34; refine V3.out.mono ?_; rintro e wx ⟨rfl, rfl⟩))
          all_goals
            go_wp2_with fail
            go_meet
            exact ⟨T3, _, ((S3.out.below B4.out).mono (Nat.le_succ k)).live, AM.out.rm key, HM.out⟩
        | false =>
        cases c2 : (kd == 2) with
        | true =>
          have U := Lib.hid (adopt_ca w2 c T s k key S2.out.live.ca hsk (by omega))
          go_wp2_with fail
          refine U.out.mono ?_
          intro e w3 hp
          obtain ⟨rfl, T3, h3⟩ := S2.out.op hp
          have S3 := Lib.hid h3
          clear hp h3 d0 d1 d2 U S2
          go_wp2_with fail
          go_meet
          exact ⟨T3, _, S3.out.live, AM.out.ad key, (ad_mo s key).trans HM.out⟩
        | false =>
        cases c3 : (kd == 3) with
        | true =>
          have U := Lib.hid (drop_ca w2 c T s k S2.out.live.ca)
          go_wp2_with fail
          refine U.out.mono ?_
          intro e w3 hp
          obtain ⟨rfl, T3, h3⟩ := S2.out.op hp
          have S3 := Lib.hid h3
          clear hp h3 d0 d1 d2 U S2
          go_wp2_with fail
          go_meet
          exact ⟨T3, _, (S3.out.mono (Nat.le_succ k)).live, AM.out.dr, HM.out⟩
        | false =>
          clear d0 d1 d2
          go_wp2_with fail
          go_meet
          exact ⟨T, s, (S2.out.mono (Nat.le_succ k)).live, AM.out, HM.out⟩
      case rest =>
        clear S2 HL AM HM
        obtain ⟨T, s, hL, hA, hm⟩ := hcut
        have L3 := Lib.hid hL
        have AM := Lib.hid hA
        have HM := Lib.hid hm
        have hok := Lib.hid hL.ca.ok
        have htot := hL.ca.tot
        unfold St.tot at htot
        clear hL hA hm
        go_wp2_with fail
        refine (ghosts_ca wc c T s (k + 1) L3.out.ca).mono ?_
        rintro e w4 ⟨v4, rfl, hO, hB⟩
        obtain ⟨A4, c4, rfl⟩ := hO.len
        have G4 := Lib.hid (Mine.made hO L3.out.ca)
        have L4 := Lib.hid (L3.out.below hB)
        obtain ⟨y, hy⟩ : ∃ y, y = s.G.length := ⟨_, rfl⟩
        have hym : y ≤ mo := by rw [hy, ← HM.out]; exact hok.out.gl
        rw [← hy] at G4 htot ⊢
        have HY := Lib.hid hy
        clear hO hB hy L3
        obtain ⟨t, ht⟩ : ∃ t, t = s.t := ⟨_, rfl⟩
        obtain ⟨a, ha⟩ : ∃ a, a = s.A.length := ⟨_, rfl⟩
        obtain ⟨q, hq⟩ : ∃ q, q = s.N.length + s.A.length := ⟨_, rfl⟩
        obtain ⟨m, hm⟩ : ∃ m, m = mx t := ⟨_, rfl⟩
        have htm : t ≤ mo := by rw [ht, ← HM.out]; exact hok.out.tl
        have ht2 : 2 ≤ mo → 1 ≤ t := fun h => ht ▸ AM.out.t (by rw [HM.out]; exact h)
        have ham : a ≤ m := by rw [ha, hm, ht]; exact AM.out.a
        have hqm : q ≤ mo := by rw [hq, ← HM.out]; have := hok.out.le; omega
        have e1 : decide ((t : Int) < 0) = false := by simp
        have e2 : decide (mo < t) = false := by simp; omega
        have hmx : max (1 : Int) (t : Int) = (m : Int) := by rw [hm]; unfold mx; omega
        have hmx2 : (if (1 : Int) < (t : Int) then (t : Int) else 1) = (m : Int) := by rw [hm]; unfold mx; split <;> omega
        have hmx3 : (if 1 < t then (t : Int) else 1) = (m : Int) := by rw [hm]; unfold mx; split <;> omega
        have e5 : decide (m < a) = false := by simp; omega
        have e6 : decide (mo < q) = false := by simp; omega
        have e7 : decide (mo < y) = false := by simp; omega
        have V1 := Lib.hid (ht.symm ▸ target_ca w4 c T s (k + 1) L4.out.ca : Calls Try.prog 32 #[.pointer (some ⟨c, 0, none⟩)] w4 (IntPost (t : Int) w4))
        have V2 := Lib.hid (ha.symm ▸ again_ca w4 c T s (k + 1) L4.out.ca : Calls Try.prog 33 #[.pointer (some ⟨c, 0, none⟩)] w4 (IntPost (a : Int) w4))
        have V3 := Lib.hid (fun (W : World) (h : Below w4.heap.size w4 W) => (hq.symm ▸ len_ca W c T s (k + 1) (L4.out.ca.below h) : Calls Try.prog 28 #[.pointer (some ⟨c, 0, none⟩)] W (Qt (.int .i64 (q : Int)) W)))
        have V4 := Lib.hid (fun (W : World) (h : Below w4.heap.size w4 W) => keys_ca W c T s (k + 1) (L4.out.ca.below h))
        have HKL := Lib.hid (show (s.A ++ s.N).reverse.length = q by rw [List.length_reverse, List.length_append, hq]; omega)
        have hq2 : q ≤ 300 := by omega
        have hy2 : y ≤ 300 := by omega
        clear ht ha hq hm htot htm ham hqm hym
        by_cases h2 : 2 ≤ mo
        · have e3 : decide (2 ≤ (mo : Int)) = true := by simp; omega
          have e4 : decide ((t : Int) < 1) = false := by simp; have := ht2 h2; omega
          go_wp2_with fail
          refine V1.out.mono ?_
          rintro e w4 ⟨rfl, rfl⟩
          go_wp2_with fail
          refine V1.out.mono ?_
          rintro e w4 ⟨rfl, rfl⟩
          go_wp2_with fail
          refine V1.out.mono ?_
          rintro e w4 ⟨rfl, rfl⟩
          go_wp2_with fail
          refine V2.out.mono ?_
          rintro e w4 ⟨rfl, rfl⟩
          go_wp2_with fail
          refine V1.out.mono ?_
          rintro e w4 ⟨rfl, rfl⟩
          go_wp2_with fail
          refine (V3.out w4 (Below.refl _ _)).mono ?_
          rintro e w5 ⟨rfl, n5, hw5⟩
          have B5 := Lib.hid (show Below w4.heap.size w4 w5 from hw5 ▸ below_drewN w4 n5)
          clear hw5
          go_wp2_with fail
          refine (V4.out w5 B5.out).mono ?_
          rintro e w6 ⟨v6, rfl, hO, hB⟩
          obtain ⟨A6, c6, rfl⟩ := hO.len
          rw [HKL.out]
          have B6 := Lib.hid (B5.out.trans (hB.mono B5.out.size))
          clear hO hB
          go_wp2_with fail
          refine (V3.out w6 B6.out).mono ?_
          rintro e w7 ⟨rfl, n7, hw7⟩
          have B7 := Lib.hid (B6.out.trans ((hw7 ▸ below_drewN w6 n7 : Below w6.heap.size w6 w7).mono B6.out.size))
          clear hw7 e1 e2 e3 e5 e6 e7 hmx hmx2 hmx3 e4
          have L7 := Lib.hid (L4.out.below B7.out)
          have G7 := Lib.hid (G4.out.below B7.out)
          clear L4 G4
          go_wp2_with fail
          go_loopg [10] y (fun gi z W => ∃ i : Nat, gi + i = y ∧ z = .int .i64 (i : Int) ∧ W = w7)
          case atStart => exact ⟨0, by omega, rfl, rfl⟩
          case round =>
            obtain ⟨i, hi, rfl, rfl⟩ := hrel
            have HI := Lib.hid hi
            clear hi
            by_cases hlt3 : i < y
            · have e1 : decide (i < y) = true := by simpa using hlt3
              obtain ⟨gg, hRG, _⟩ := G7.out
              obtain ⟨o6, rfl, hg6, hc6, hx6, hcv6⟩ := hRG.at (k := i) (by rw [← HY.out]; exact hlt3)
              have hmem : s.G.getD i ⟨#[]⟩ ∈ s.G := getD_in (by rw [← HY.out]; exact hlt3)
              have V := Lib.hid (ghost_no hok.out hmem ▸ has_ca wr c T s (k + 1) _ L7.out.ca (hRG.2.1 _ hmem) : Calls Try.prog 29 #[.pointer (some ⟨c, 0, none⟩), .string (s.G.getD i ⟨#[]⟩)] wr (BoolPost false wr))
              generalize s.G.getD i ⟨#[]⟩ = gk at V hc6
              rw [← HY.out] at hx6
              unfold maxLen at hcv6
              clear hRG hmem
              go_wp2_with fail
              refine V.out.mono ?_
              rintro e wr ⟨rfl, rfl⟩
              go_wp2_with fail
              go_roundg (y - (i + 1))
              case measure => have := HI.out; omega
              case rel => exact ⟨i + 1, by omega, by go_num, by first | rfl | trivial⟩
            · have e1 : decide (i < y) = false := by simpa using hlt3
              go_wp2_with fail
              go_roundg (n - (k + 1))
              case measure => have := HGK.out; omega
              case rel => exact ⟨k + 1, T, s, rfl, by go_num, by omega, L7.out, AM.out, HM.out⟩
        · have e3 : decide (2 ≤ (mo : Int)) = false := by simp; omega
          go_wp2_with fail
          refine V1.out.mono ?_
          rintro e w4 ⟨rfl, rfl⟩
          go_wp2_with fail
          refine V1.out.mono ?_
          rintro e w4 ⟨rfl, rfl⟩
          go_wp2_with fail
          refine V2.out.mono ?_
          rintro e w4 ⟨rfl, rfl⟩
          go_wp2_with fail
          refine V1.out.mono ?_
          rintro e w4 ⟨rfl, rfl⟩
          go_wp2_with fail
          refine (V3.out w4 (Below.refl _ _)).mono ?_
          rintro e w5 ⟨rfl, n5, hw5⟩
          have B5 := Lib.hid (show Below w4.heap.size w4 w5 from hw5 ▸ below_drewN w4 n5)
          clear hw5
          go_wp2_with fail
          refine (V4.out w5 B5.out).mono ?_
          rintro e w6 ⟨v6, rfl, hO, hB⟩
          obtain ⟨A6, c6, rfl⟩ := hO.len
          rw [HKL.out]
          have B6 := Lib.hid (B5.out.trans (hB.mono B5.out.size))
          clear hO hB
          go_wp2_with fail
          refine (V3.out w6 B6.out).mono ?_
          rintro e w7 ⟨rfl, n7, hw7⟩
          have B7 := Lib.hid (B6.out.trans ((hw7 ▸ below_drewN w6 n7 : Below w6.heap.size w6 w7).mono B6.out.size))
          clear hw7 e1 e2 e3 e5 e6 e7 hmx hmx2 hmx3
          have L7 := Lib.hid (L4.out.below B7.out)
          have G7 := Lib.hid (G4.out.below B7.out)
          clear L4 G4
          go_wp2_with fail
          go_loopg [10] y (fun gi z W => ∃ i : Nat, gi + i = y ∧ z = .int .i64 (i : Int) ∧ W = w7)
          case atStart => exact ⟨0, by omega, rfl, rfl⟩
          case round =>
            obtain ⟨i, hi, rfl, rfl⟩ := hrel
            have HI := Lib.hid hi
            clear hi
            by_cases hlt3 : i < y
            · have e1 : decide (i < y) = true := by simpa using hlt3
              obtain ⟨gg, hRG, _⟩ := G7.out
              obtain ⟨o6, rfl, hg6, hc6, hx6, hcv6⟩ := hRG.at (k := i) (by rw [← HY.out]; exact hlt3)
              have hmem : s.G.getD i ⟨#[]⟩ ∈ s.G := getD_in (by rw [← HY.out]; exact hlt3)
              have V := Lib.hid (ghost_no hok.out hmem ▸ has_ca wr c T s (k + 1) _ L7.out.ca (hRG.2.1 _ hmem) : Calls Try.prog 29 #[.pointer (some ⟨c, 0, none⟩), .string (s.G.getD i ⟨#[]⟩)] wr (BoolPost false wr))
              generalize s.G.getD i ⟨#[]⟩ = gk at V hc6
              rw [← HY.out] at hx6
              unfold maxLen at hcv6
              clear hRG hmem
              go_wp2_with fail
              refine V.out.mono ?_
              rintro e wr ⟨rfl, rfl⟩
              go_wp2_with fail
              go_roundg (y - (i + 1))
              case measure => have := HI.out; omega
              case rel => exact ⟨i + 1, by omega, by go_num, by first | rfl | trivial⟩
            · have e1 : decide (i < y) = false := by simpa using hlt3
              go_wp2_with fail
              go_roundg (n - (k + 1))
              case measure => have := HGK.out; omega
              case rel => exact ⟨k + 1, T, s, rfl, by go_num, by omega, L7.out, AM.out, HM.out⟩
    · have e0 : decide (k < n) = false := by simpa using hlt
      go_wp2_with fail
      go_ret
      exact ⟨rfl, HL.out.bel⟩

set_option maxHeartbeats 4000000 in
set_option maxRecDepth 100000 in
theorem walk_srlruTargets (a0 : Int) (v1 : Value) (w : World) (w0 : (Lit.int .i64 a0).wf = true) (w1 : CameA w v1) : Calls Try.prog 5 #[.int .i64 a0, v1] w (RetB true w) := by
  obtain ⟨A, n, c, rfl, hn, K, S, N, hr, hc⟩ := w1
  have hz := i64_rng w0
  by_cases hok : 0 ≤ a0 ∧ a0 ≤ 1000
  · obtain ⟨mo, rfl⟩ : ∃ m : Nat, a0 = (m : Int) := ⟨a0.toNat, by omega⟩
    exact targets_main mo A n c w K S N (by omega) hn hr hc
  · have P := Lib.hid (show decide (a0 < 0) = true ∨ (decide (a0 < 0) = false ∧ decide (1000 < a0) = true) by
      simp only [decide_eq_true_eq, decide_eq_false_iff_not]; omega)
    have HC := Lib.hid hc
    have HN := Lib.hid hn
    have HR := Lib.hid hr
    clear hc w0 hok hn hr
    rcases P.out with e0 | ⟨e0, e1⟩
    all_goals
      go_enter Try.func5, Try.ntmps5
      go_wp2_with fail
      refine (awake_any _).mono ?_
      rintro e w0 ⟨rfl, hb0⟩
      have b0 := Lib.hid hb0; clear hb0
      go_wp2_with fail
      refine (few_any A n c w0 S HN.out (fun i hi => (HR.out i hi).2) (fun h => by
        obtain ⟨g, o, h1, h2, h3, h4, h5⟩ := HC.out h
        exact ⟨g, o, h1, Nat.lt_of_lt_of_le h2 b0.out.size, h3, h4, fun i hi => (b0.out.cell (p := ⟨g, o + i * 3 + 1, none⟩) h2).trans (h5 i hi).2.1⟩)).mono ?_
      rintro e w0 ⟨t, rfl, rfl, ht⟩
      cases t with
      | false =>
        go_wp2_with fail
        go_ret
        exact ⟨rfl, b0.out⟩
      | true =>
        go_wp2_with fail
        go_ret
        exact ⟨rfl, b0.out⟩

namespace LSrlruTargets
set_option maxRecDepth 100000 in
theorem lifted (os : Os) (started : os.Started) (H : Type) (enc : TypeId × Value → H) :
    ReturnsInHanded {} Try.checked os 5 .any (Rows.srlruTargetsSpec.pre6 enc Try.prog Try.f5 Rows.srlruTargetsRow.domain false) (Rows.srlruTargetsSpec.post enc Try.prog Try.f5 false true false false) := by
  refine returnsInHanded_of_change (C := Try.checked) own started (by kernel_rfl) Try.func5
    (ChangeSpec.witness6 (enc := enc) (C := Try.checked) false ⟨#[], #[.int .i64 0, .slice none 0 0], []⟩ 8 (by kernel_rfl) (by kernel_rfl) (by kernel_rfl) (by kernel_rfl)) ?_
  intro W base args ds gs before hval0 hW _ _
  have hval : ∀ (j : Nat) t v, Try.f5.params[j]? = some t → args[j]? = some v → Value.okWide Try.prog W .any base t v := hval0
  have hW' := hW
  obtain ⟨p, q, hA0, hV, rfl, hfz, hnd⟩ := hW
  have hA : DataW.TrodAll enc Try.prog W 0 (fun _ => true) true Try.f5.params.toList args.toList ds p := hA0
  rw [Try.params5] at hA hval
  obtain ⟨v0, vs0, d0, ds0, p0, q0, hargs, rfl, rfl, h0, r0⟩ := trodAll_cons hA
  obtain ⟨v1, vs1, d1, ds1, p1, q1, rfl, rfl, rfl, h1, r1⟩ := trodAll_cons r0
  obtain ⟨rfl, rfl, rfl⟩ := trodAll_nil r1
  obtain rfl : args = #[v0, v1] := by cases args; simp_all
  obtain ⟨rfl, rfl⟩ := trodVars_none hV
  obtain ⟨a0, rfl, rfl, rfl, w0⟩ := open_int Try.underlying3 (hval 0 3 v0 rfl rfl) h0
  have k1 := h1
  have lt1 : ∀ x ∈ p1, x.block < W.heap.size := by obtain ⟨m, hm⟩ := k1; exact DataW.trod_lt m _ _ _ hm
  have w1 := open_a (hval 1 22 v1 rfl rfl) h1
  clear hA0 hval0
  refine (walk_srlruTargets a0 v1 W w0 w1).mono fun e W' ⟨he, bel⟩ => ?_
  subst he
  exact ⟨_, rfl, _, _, _, [], _, [], hW', trodAll_mk1 (shut_bool Try.underlying4 _), (trodAll_cons_mk (shut_int Try.underlying3 w0) (trodAll_cons_mk (Below.trod laidOut (by kernel_rfl) (of_decide_eq_true (by kernel_rfl)) k1 bel lt1) trodAll_mk0)), rfl, bel.frame _, fun h => by cases h⟩

theorem said : Rows.SrlruTargetsSaid :=
  OpenClaim.holds_of_wide 5 Try.f5 rfl rfl rfl rfl rfl rfl rfl ⟨rfl, rfl, rfl, rfl, rfl⟩ rfl rfl rfl rfl rfl (by kernel_rfl) Try.func5 (by kernel_rfl)
    (of_decide_eq_true (by kernel_rfl)) (by unfold Func.isWrapper; rw [if_neg (of_decide_eq_false (by kernel_rfl))]; exact ⟨rfl, rfl⟩)
    (fun os started H enc _ => lifted os started H enc)
#print axioms said
end LSrlruTargets
end Go.Proofs.Ytmnflcidcoejiaa
