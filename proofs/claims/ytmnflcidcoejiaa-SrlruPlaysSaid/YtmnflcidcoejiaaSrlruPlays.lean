/- 'cachewiselaw07.SrlruPlays' returns true for every size and every row of calls, and leaves what was there as it was. No condition. -/
import Derived.Test.YtmnflcidcoejiaaPlay7
import Derived.Deep.LoopGhost
import Derived.Deep.DeepCutAuto
import Derived.Deep.CutBlock
import Derived.Deep.RegionHeld3
namespace Go.Proofs.Ytmnflcidcoejiaa
open Go.ChangeShapes Go.WideShapes Go.ChangeAt Go.RowKit Sg
open Go.ChangeMaps (open_string shut_string)

def PyR (n c bm : Nat) (w0 : World) (g : Nat) (i : Value) (W : World) : Prop := ∃ (k : Nat) (T : Nat → Prop) (s : St) (n1 a1 g1 : Sl), g = n - k ∧ i = .int .i64 (k : Int) ∧ k ≤ n ∧ PyS w0 W c T bm s k s n1 a1 g1
def PyM (k c bm : Nat) (w0 : World) (ga : Nat) (kd : Int) (key : ByteArray) (nn : Int) (W : World) : Prop := ∃ (T : Nat → Prop) (s : St) (n1 a1 g1 : Sl), PyA w0 W c T bm s (k + 1) s n1 a1 g1 ga kd key nn
theorem row_put5 {w : World} {gu bm : Nat} {v : Value} {xs : List ByteArray} (h : Row w gu v xs) (hb : gu ≠ bm) (mo t : Nat) (n a g : Sl) : Row (put5 w bm mo t n a g) gu v xs :=
  h.same (by simp [set_size]) fun _ => ((((Below.heap_setCell _ ⟨bm, 4, none⟩ _ _ hb).trans (Below.heap_setCell _ ⟨bm, 3, none⟩ _ _ hb)).trans (Below.heap_setCell _ ⟨bm, 2, none⟩ _ _ hb)).trans (Below.heap_setCell _ ⟨bm, 1, none⟩ _ _ hb)).trans (Below.heap_setCell _ ⟨bm, 0, none⟩ _ _ hb)
theorem same_of {w4 w5 : World} {b4 b5 : Nat} {v4 v5 : Value} {xs : List ByteArray} (o4 : Own w4 b4 v4 xs) (o5 : Own w5 b5 v5 xs) (hb : Below w4.heap.size w4 w5) : Calls Try.prog 22 #[v4, v5] w5 (SamePost true w5) := by
  obtain ⟨g4, _, h4⟩ := o4.row
  obtain ⟨g5, _, h5⟩ := o5.row
  exact refSame_self w5 g4 g5 _ _ _ (h4.below hb) h5

set_option maxHeartbeats 16000000 in
set_option maxRecDepth 100000 in
theorem plays_main (z : Int) (A : Option Addr) (n cc : Nat) (w : World) (K : Nat → Int) (S : Nat → ByteArray) (N : Nat → Int) (hz : -9223372036854775808 ≤ z ∧ z ≤ 9223372036854775807) (hn : n ≤ maxLen) (hS : ∀ i, i < n → (-9223372036854775808 ≤ N i ∧ N i ≤ 9223372036854775807) ∧ (S i).size ≤ maxLen)
    (hc : 0 < n → ∃ g o, A = some ⟨g, o, none⟩ ∧ g < w.heap.size ∧ n ≤ cc ∧ cc ≤ maxLen ∧ ∀ i, i < n → w.cell? ⟨g, o + i * 3, none⟩ = some (.int .i64 (K i)) ∧ w.cell? ⟨g, o + i * 3 + 1, none⟩ = some (.string (S i)) ∧ w.cell? ⟨g, o + i * 3 + 2, none⟩ = some (.int .i64 (N i))) :
    Calls Try.prog 3 #[.int .i64 z, .slice A n cc] w (RetB true w) := by
  have g34 := guard34
  have n34 := neq34
  have HC := Lib.hid hc
  have HS := Lib.hid hS
  have HN := Lib.hid hn
  clear hc hS hn
  go_enter Try.func3, Try.ntmps3
  go_wp2_with fail
  refine (awake_any _).mono ?_
  rintro e w0 ⟨rfl, hb0⟩
  have b0 := Lib.hid hb0; clear hb0
  go_wp2_with fail
  refine (few_any A n cc w0 S HN.out (fun i hi => (HS.out i hi).2) (fun h => by
    obtain ⟨g, o, h1, h2, h3, h4, h5⟩ := HC.out h
    exact ⟨g, o, h1, Nat.lt_of_lt_of_le h2 b0.out.size, h3, h4, fun i hi => (b0.out.cell (p := ⟨g, o + i * 3 + 1, none⟩) h2).trans (h5 i hi).2.1⟩)).mono ?_
  rintro e w0 ⟨t, rfl, rfl, ht⟩
  cases t with
  | false =>
    go_wp2_with fail
    go_ret
    exact ⟨rfl, b0.out⟩
  | true =>
  have hn := ht rfl
  clear ht
  go_wp2_with fail
  refine (new_ca w0 z hz).mono ?_
  rintro e w1 ⟨c, T1, rfl, hC, hT, hB⟩
  have L1 := Lib.hid (Live.made b0.out hC hT hB)
  clear hC hT hB b0
  obtain ⟨mo0, hmo⟩ : ∃ m, m = z.toNat := ⟨_, rfl⟩
  have UN := newR w1 z mo0 hz hmo
  obtain ⟨t0, ht0⟩ : ∃ u, u = mo0 / 2 := ⟨_, rfl⟩
  rw [← ht0] at UN
  have UN1 := Lib.hid UN
  have HMO := Lib.hid (And.intro hmo ht0)
  clear UN hmo ht0
  go_wp2_with fail
  refine UN1.out.mono ?_
  rintro e w2 ⟨rfl, hB⟩
  have L2 := L1.out.below hB
  have hb3 := (Below.refl w2.heap.size w2).alloc (Nat.le_refl _) (rObj mo0 t0 ⟨none, 0, 0⟩ ⟨none, 0, 0⟩ ⟨none, 0, 0⟩)
  have S1 := Lib.hid (show PyS w (w2.alloc (rObj mo0 t0 ⟨none, 0, 0⟩ ⟨none, 0, 0⟩ ⟨none, 0, 0⟩)) c T1 w2.heap.size (St.start z.toNat) 0 (St.start z.toNat) ⟨none, 0, 0⟩ ⟨none, 0, 0⟩ ⟨none, 0, 0⟩ from by
    refine ⟨L2.below hb3, ?_, ⟨KW.nil _ _ _ _, KW.nil _ _ _ _, KW.nil _ _ _ _⟩, fun hk => by have := L2.lt _ hk; omega, L2.bel.size⟩
    have := heap_alloc_new w2 (rObj mo0 t0 ⟨none, 0, 0⟩ ⟨none, 0, 0⟩ ⟨none, 0, 0⟩)
    rw [HMO.out.2, HMO.out.1] at this ⊢
    exact this)
  clear hB L1 L2 hb3 UN1
  go_wp2_with fail
  generalize w2.alloc (rObj mo0 t0 ⟨none, 0, 0⟩ ⟨none, 0, 0⟩ ⟨none, 0, 0⟩) = w3 at S1 ⊢
  generalize w2.heap.size = bm at S1 ⊢
  generalize St.start z.toNat = s0 at S1
  go_loopg [7] n (fun g i W => PyR n c bm w g i W)
  case atStart => exact ⟨0, T1, s0, _, _, _, by omega, rfl, Nat.zero_le _, S1.out⟩
  case round =>
    obtain ⟨k, T, s, n1, a1, g1, hgk, rfl, hk, hS⟩ := hrel
    have HGK := Lib.hid hgk
    have HPy := Lib.hid hS
    clear hgk hS S1 HMO
    by_cases hlt : k < n
    · have e0 : decide (k < n) = true := by simpa using hlt
      obtain ⟨g, o, rfl, hg, hc1, hc2, hcell⟩ := HC.out (by omega)
      have hc3 := hcell k hlt
      have h1 := (HPy.out.live.bel.cell (p := ⟨g, o + k * 3, none⟩) hg).trans hc3.1
      have h2 := (HPy.out.live.bel.cell (p := ⟨g, o + k * 3 + 1, none⟩) hg).trans hc3.2.1
      have h3 := (HPy.out.live.bel.cell (p := ⟨g, o + k * 3 + 2, none⟩) hg).trans hc3.2.2
      have hsk := (HS.out k hlt).2
      have hnk := (HS.out k hlt).1
      clear hcell hc3
      unfold maxLen at hc2
      have S2 := Lib.hid (HPy.out.alloc (K k) (S k) (N k))
      go_upto_block 2 with fail
      clear h1 h2 h3
      generalize wr.alloc (.cells #[.int .i64 (K k), .string (S k), .int .i64 (N k)] 32) = w2 at S2 ⊢
      generalize wr.heap.size = ga at S2 ⊢
      generalize S k = key at S2 hsk ⊢
      generalize K k = kd at S2 ⊢
      generalize N k = nn at S2 hnk ⊢
      go_cut [] (fun W => PyM k c bm w ga kd key nn W)
      case first =>
        as_aux_lemma =>
        obtain ⟨d0, d1, d2⟩ := S2.out.k
        obtain ⟨m0, m1, m2, m3, m4⟩ := S2.out.st.box.c
        obtain ⟨f0, f1, f2, f3, f4⟩ := S2.out.st.box.f
        have htt := S2.out.st.live.ca.tot
        have HTT := Lib.hid (show s.tot ≤ 1000 by omega)
        have HTOP := Lib.hid S2.out.st.live.ca.top
        have HOK := Lib.hid S2.out.st.live.ca.ok
        clear HPy htt
        cases c0 : (kd == 0) with
        | true =>
          have U := request_ref w2 (Aside T bm) n1 a1 g1 s S2.out.st.rows S2.out.st.cl key hsk HOK.out HTOP.out HTT.out
          have V := fun (W : World) (T : Nat → Prop) (hC : Ca W c T s k) => request_ca W c T s k key hC hsk (by omega)
          unfold St.step at U V
          generalize s.hit key = th at U V
          generalize s.vic key = tv at U V
          generalize s.out key = tz at U V
          generalize s.req key = s2 at U V
          have U1 := Lib.hid U
          have V1 := Lib.hid V
          clear U V
          go_wp2_with fail
          refine U1.out.mono ?_
          rintro e w3 ⟨n3, a3, g3, rfl, hr3, hB3⟩
          have R3 := Lib.hid hr3
          have S3 := Lib.hid (S2.out.below hB3)
          clear hr3 hB3 U1 d0 d1 d2 m0 m1 m2 m3 m4 f0 f1 f2 f3 f4 S2
          go_upto_region 16 with fail
          have hb4 : Below w3.heap.size w3 ((w3.alloc (rObj s2.mo s2.t n3 a3 g3)).alloc (zObj th tv tz)) := ((Below.refl _ _).alloc (Nat.le_refl _) _).alloc (by simp) _
          have k9 : RB ((w3.alloc (rObj s2.mo s2.t n3 a3 g3)).alloc (zObj th tv tz)) w3.heap.size s2.mo s2.t n3 a3 g3 := (Below.heap_alloc _ _ _ (by simp)).trans (heap_alloc_new _ _)
          have k10 : ZB ((w3.alloc (rObj s2.mo s2.t n3 a3 g3)).alloc (zObj th tv tz)) (w3.heap.size + 1) th tv tz := by
            have := heap_alloc_new (w3.alloc (rObj s2.mo s2.t n3 a3 g3)) (zObj th tv tz)
            rw [show (w3.alloc (rObj s2.mo s2.t n3 a3 g3)).heap.size = w3.heap.size + 1 by simp] at this
            exact this
          have f10 := S3.out.fresh (k := w3.heap.size + 1) (by omega)
          have S4 := Lib.hid (S3.out.below hb4)
          have R4 := Lib.hid (R3.out.below hb4)
          clear hb4 R3 S3
          generalize (w3.alloc (rObj s2.mo s2.t n3 a3 g3)).alloc (zObj th tv tz) = w4 at S4 R4 k9 k10 ⊢
          generalize w3.heap.size + 1 = z10 at k10 f10 ⊢
          generalize w3.heap.size = z9 at k9 ⊢
          obtain ⟨x0, x1, x2, x3, x4⟩ := k9.c
          obtain ⟨m0, m1, m2, m3, m4⟩ := S4.out.st.box.c
          obtain ⟨f0, f1, f2, f3, f4⟩ := S4.out.st.box.f
          have S5 := Lib.hid (S4.out.set R4.out)
          have K5 := Lib.hid (show ZB (put5 w4 bm s2.mo s2.t n3 a3 g3) z10 th tv tz from ((((k10.other (z := ⟨bm, 0, none⟩) f10.2.1 _).other (z := ⟨bm, 1, none⟩) f10.2.1 _).other (z := ⟨bm, 2, none⟩) f10.2.1 _).other (z := ⟨bm, 3, none⟩) f10.2.1 _).other (z := ⟨bm, 4, none⟩) f10.2.1 _)
          have F10 := Lib.hid f10
          clear k9 k10 S4 R4 f10
          go_upto_region 17 with fail
          clear x0 x1 x2 x3 x4 m0 m1 m2 m3 m4 f0 f1 f2 f3 f4
          dsimp only [put5] at S5 K5
          generalize ((((w4.setCell ⟨bm, 0, none⟩ (.int .i64 (s2.mo : Int))).setCell ⟨bm, 1, none⟩ (.int .i64 (s2.t : Int))).setCell ⟨bm, 2, none⟩ (.slice n3.A n3.n n3.c)).setCell ⟨bm, 3, none⟩ (.slice a3.A a3.n a3.c)).setCell ⟨bm, 4, none⟩ (.slice g3.A g3.n g3.c) = w5 at S5 K5 ⊢
          obtain ⟨_, d1, _⟩ := (S5.out.drew).k
          obtain ⟨q0, q1, q2⟩ := (K5.out.below (below_drew _)).c
          have SD := Lib.hid S5.out.drew
          have KD := Lib.hid (K5.out.below (below_drew _))
          clear S5 K5
          go_region_held3 (fun w' => w'.cell? ⟨ga, 1, none⟩ = some (.string key) ∧ w'.cell? ⟨z10, 0, none⟩ = some (.bool th) ∧ w'.cell? ⟨z10, 1, none⟩ = some (.string tv) ∧ w'.cell? ⟨z10, 2, none⟩ = some (.bool tz)) (first | (with_reducible exact ⟨d3, q3, q4, q5⟩) | (with_reducible exact ⟨d1, q0, q1, q2⟩) | go_keep)
            (first
              | (go_at_call 13; refine (V1.out _ _ SD.out.st.live.ca).mono ?_; intro e w6 hp; obtain ⟨rfl, T6, h6, hW6⟩ := SD.out.op hp; obtain ⟨q3, q4, q5⟩ := (show ZB w6 z10 th tv tz from (hW6.turn.block z10 KD.out.lt F10.out.1).trans KD.out).c; obtain ⟨_, d3, _⟩ := h6.k; have S6 := Lib.hid h6; clear hp h6 hW6))
          all_goals
            go_wp2_with fail
            go_meet
            exact ⟨T6, s2, _, _, _, S6.out⟩
        | false =>
        cases c1 : (kd == 1) with
        | true =>
          have SD := Lib.hid S2.out.drew
          obtain ⟨tb, htb⟩ : ∃ t, s.hit key = t := ⟨_, rfl⟩
          have HTB := Lib.hid htb
          have V := Lib.hid (fun (W : World) (T : Nat → Prop) (hC : Ca W c T s k) => (htb ▸ remove_ca W c T s k key hC hsk : Calls Try.prog 14 #[.pointer (some ⟨c, 0, none⟩), .string key] W (CaPost (.bool tb) W c T (s.rm key) k)))
          clear htb
          go_upto_region 20 with fail
          refine wp_region_noPanic ?_
          refine wp_region_held_drew (S := fun w' => w'.cell? ⟨ga, 1, none⟩ = some (.string key) ∧ w'.cell? ⟨bm, 0, none⟩ = some (.int .i64 (s.mo : Int)) ∧ w'.cell? ⟨bm, 1, none⟩ = some (.int .i64 (s.t : Int)) ∧ w'.cell? ⟨bm, 2, none⟩ = some (.slice n1.A n1.n n1.c) ∧ w'.cell? ⟨bm, 3, none⟩ = some (.slice a1.A a1.n a1.c) ∧ w'.cell? ⟨bm, 4, none⟩ = some (.slice g1.A g1.n g1.c)) (by kernel_rfl) ?_ (fun hHeld => ?_)
          · exact ⟨d1, m0, m1, m2, m3, m4⟩
          refine wpAnyH_take (i := 0) (oi := { dst := some 66, op := Go.Op.move (Go.Operand.tmp 5), type := 25, pos := "law.go:49", after := #[], guard := none }) (v := ?_) rfl (by kernel_rfl) (by kernel_rfl) (by kernel_rfl) (fun _ _ _ h => h) (Or.inl ⟨by rfl, ?_⟩) (by assumption) ?_
          rotate_left
          · (intro w hSw; (try dsimp only at hSw); go_simp; (try with_reducible rfl))
          (try simp only [Act.put, List.setIfInBounds_toArray, List.set_cons_zero, List.set_cons_succ])
          refine wpAnyH_take (i := 1) (oi := { dst := some 67, op := Go.Op.fieldAddr 32 (Go.Operand.tmp 8) 1, type := 0, pos := "law.go:49", after := #[], guard := none }) (v := ?_) rfl (by kernel_rfl) (by kernel_rfl) (by kernel_rfl) (fun _ _ _ h => h) (Or.inl ⟨by rfl, ?_⟩) (by assumption) ?_
          rotate_left
          · (intro w hSw; (try dsimp only at hSw); go_simp; (try with_reducible rfl))
          (try simp only [Act.put, List.setIfInBounds_toArray, List.set_cons_zero, List.set_cons_succ])
          refine wpAnyH_take (i := 2) (oi := { dst := some 68, op := Go.Op.load 9 (Go.Operand.tmp 67), type := 9, pos := "law.go:49", after := #[{ on := 1, ground := Go.Ground.data }], guard := none }) (v := ?_) rfl (by kernel_rfl) (by kernel_rfl) (by kernel_rfl) (fun _ _ _ h => h) (Or.inl ⟨by rfl, ?_⟩) (by assumption) ?_
          rotate_left
          · (intro w hSw; (try dsimp only at hSw); go_simp; (try with_reducible rfl))
          (try simp only [Act.put, List.setIfInBounds_toArray, List.set_cons_zero, List.set_cons_succ])
          refine wpAnyH_take (i := 4) (oi := { dst := some 70, op := Go.Op.load 29 (Go.Operand.tmp 6), type := 29, pos := "law.go:49", after := #[], guard := none }) (v := ?_) rfl (by kernel_rfl) (by kernel_rfl) (by kernel_rfl) (fun _ _ _ h => h) (Or.inl ⟨by rfl, ?_⟩) (by assumption) ?_
          rotate_left
          · (intro w hSw; (try dsimp only at hSw); go_simp; (try with_reducible rfl))
          (try simp only [Act.put, List.setIfInBounds_toArray, List.set_cons_zero, List.set_cons_succ])
          refine wpAnyH_take (i := 5) (oi := { dst := some 71, op := Go.Op.fieldAddr 32 (Go.Operand.tmp 8) 1, type := 0, pos := "law.go:49", after := #[], guard := none }) (v := ?_) rfl (by kernel_rfl) (by kernel_rfl) (by kernel_rfl) (fun _ _ _ h => h) (Or.inl ⟨by rfl, ?_⟩) (by assumption) ?_
          rotate_left
          · (intro w hSw; (try dsimp only at hSw); go_simp; (try with_reducible rfl))
          (try simp only [Act.put, List.setIfInBounds_toArray, List.set_cons_zero, List.set_cons_succ])
          refine wpAnyH_take (i := 6) (oi := { dst := some 72, op := Go.Op.load 9 (Go.Operand.tmp 71), type := 9, pos := "law.go:49", after := #[{ on := 5, ground := Go.Ground.data }], guard := none }) (v := ?_) rfl (by kernel_rfl) (by kernel_rfl) (by kernel_rfl) (fun _ _ _ h => h) (Or.inl ⟨by rfl, ?_⟩) (by assumption) ?_
          rotate_left
          · (intro w hSw; (try dsimp only at hSw); go_simp; (try with_reducible rfl))
          (try simp only [Act.put, List.setIfInBounds_toArray, List.set_cons_zero, List.set_cons_succ])
          refine wpAnyH_ready (rs := [3]) (by kernel_rfl) (by simp) ?_
          refine AllReadyH.cons (o := { dst := some 69, op := Go.Op.call { callee := Go.Callee.value (Go.Operand.func 14), args := #[Go.Operand.tmp 66, Go.Operand.tmp 68], argTypes := #[25, 9] }, type := 4, pos := "law.go:49", after := #[{ on := 0, ground := Go.Ground.data }, { on := 2, ground := Go.Ground.data }], guard := none }) rfl (fun K hK => ?_) AllReadyH.nil
          go_simp
          refine (V.out _ _ SD.out.st.live.ca).mono ?_
          intro e w3 hp
          obtain ⟨rfl, T3, h3, _⟩ := SD.out.op hp
          have S3 := Lib.hid h3
          clear hp h3
          go_wp2_with fail
          refine hK.out _ _ ?_ (fun hHeld => ?_)
          · exact ⟨S3.out.k.2.1, S3.out.st.box.c.1, S3.out.st.box.c.2.1, S3.out.st.box.c.2.2.1, S3.out.st.box.c.2.2.2.1, S3.out.st.box.c.2.2.2.2⟩
          clear hK K
          (try simp only [Act.put, List.setIfInBounds_toArray, List.set_cons_zero, List.set_cons_succ])
          refine wpAnyH_ready (rs := [7]) (by kernel_rfl) (by simp) ?_
          refine AllReadyH.cons (o := { dst := some 73, op := Go.Op.call { callee := Go.Callee.value (Go.Operand.func 15), args := #[Go.Operand.tmp 70, Go.Operand.tmp 72], argTypes := #[29, 9] }, type := 4, pos := "law.go:49", after := #[{ on := 4, ground := Go.Ground.data }, { on := 6, ground := Go.Ground.data }, { on := 3, ground := Go.Ground.chain }], guard := none }) rfl (fun K hK => ?_) AllReadyH.nil
          go_simp
          refine (HTB.out ▸ has_ref w3 (Aside T3 bm) n1 a1 g1 s S3.out.st.rows key : Calls Try.prog 15 #[rAgg s.mo s.t n1 a1 g1, .string key] w3 (ValB (.bool tb) w3)).mono ?_
          rintro e w4 ⟨rfl, hB⟩
          have S4 := Lib.hid (S3.out.below hB)
          clear hB
          go_wp2_with fail
          refine hK.out _ _ ?_ (fun hHeld => ?_)
          · exact ⟨S4.out.k.2.1, S4.out.st.box.c.1, S4.out.st.box.c.2.1, S4.out.st.box.c.2.2.1, S4.out.st.box.c.2.2.2.1, S4.out.st.box.c.2.2.2.2⟩
          clear hK K
          (try simp only [Act.put, List.setIfInBounds_toArray, List.set_cons_zero, List.set_cons_succ])
          refine wpAnyH_take (i := 8) (oi := { dst := some 74, op := Go.Op.binOp Go.BinOp.neq 4 (Go.Operand.tmp 69) (Go.Operand.tmp 73) 4, type := 4, pos := "law.go:49", after := #[{ on := 3, ground := Go.Ground.data }, { on := 7, ground := Go.Ground.data }], guard := none }) (v := ?_) rfl (by kernel_rfl) (by kernel_rfl) (by kernel_rfl) (fun _ _ _ h => h) (Or.inl ⟨by rfl, ?_⟩) (by assumption) ?_
          rotate_left
          · (intro w hSw; (try dsimp only at hSw); go_simp; (try with_reducible rfl))
          (try simp only [Act.put, List.setIfInBounds_toArray, List.set_cons_zero, List.set_cons_succ])
          refine wpAnyH_done (by kernel_rfl) ?_ _
          refine NoPanic.normal ?_
          clear hHeld SD V S2 d0 d1 d2 m0 m1 m2 m3 m4 f0 f1 f2 f3 f4 S3
          obtain ⟨m0, m1, m2, m3, m4⟩ := S4.out.st.box.c
          obtain ⟨f0, f1, f2, f3, f4⟩ := S4.out.st.box.f
          obtain ⟨_, d1, _⟩ := S4.out.k
          have U := remove_ref w4 (Aside T3 bm) n1 a1 g1 s S4.out.st.rows S4.out.st.cl key HTT.out
          generalize s.rm key = s2 at U S4
          have U1 := Lib.hid U
          clear U
          go_wp2_with fail
          refine U1.out.mono ?_
          rintro e w5 ⟨n3, a3, g3, rfl, hr3, hB⟩
          have S5 := S4.out.below hB
          have S6 := Lib.hid (S5.set hr3)
          clear m0 m1 m2 m3 m4 f0 f1 f2 f3 f4 d1
          obtain ⟨m0, m1, m2, m3, m4⟩ := S5.st.box.c
          obtain ⟨f0, f1, f2, f3, f4⟩ := S5.st.box.f
          clear hB hr3 S5 U1 S4
          go_wp2_with fail
          go_meet
          exact ⟨T3, s2, _, _, _, S6.out.mono (by omega)⟩
        | false =>
        cases c2 : (kd == 2) with
        | true =>
          have U := adopt_ref w2 (Aside T bm) n1 a1 g1 s S2.out.st.rows S2.out.st.cl key hsk HTT.out
          have V := fun (W : World) (T : Nat → Prop) (hC : Ca W c T s k) => adopt_ca W c T s k key hC hsk (by omega)
          generalize s.adB key = tb at U V
          generalize s.ad key = s2 at U V
          have U1 := Lib.hid U
          have V1 := Lib.hid V
          clear U V
          go_wp2_with fail
          refine U1.out.mono ?_
          rintro e w3 ⟨n3, a3, g3, rfl, hr3, hB3⟩
          have R3 := Lib.hid hr3
          have S3 := Lib.hid (S2.out.below hB3)
          clear hr3 hB3 U1 d0 d1 d2 m0 m1 m2 m3 m4 f0 f1 f2 f3 f4 S2
          go_upto_region 25 with fail
          have hb4 := (Below.refl w3.heap.size w3).alloc (Nat.le_refl _) (rObj s2.mo s2.t n3 a3 g3)
          have k9 : RB (w3.alloc (rObj s2.mo s2.t n3 a3 g3)) w3.heap.size s2.mo s2.t n3 a3 g3 := heap_alloc_new _ _
          have S4 := Lib.hid (S3.out.below hb4)
          have R4 := Lib.hid (R3.out.below hb4)
          clear hb4 R3 S3
          generalize w3.alloc (rObj s2.mo s2.t n3 a3 g3) = w4 at S4 R4 k9 ⊢
          generalize w3.heap.size = z9 at k9 ⊢
          obtain ⟨x0, x1, x2, x3, x4⟩ := k9.c
          obtain ⟨m0, m1, m2, m3, m4⟩ := S4.out.st.box.c
          obtain ⟨f0, f1, f2, f3, f4⟩ := S4.out.st.box.f
          have S5 := Lib.hid (S4.out.set R4.out)
          clear k9 S4 R4
          go_upto_region 26 with fail
          clear x0 x1 x2 x3 x4 m0 m1 m2 m3 m4 f0 f1 f2 f3 f4
          dsimp only [put5] at S5
          generalize ((((w4.setCell ⟨bm, 0, none⟩ (.int .i64 (s2.mo : Int))).setCell ⟨bm, 1, none⟩ (.int .i64 (s2.t : Int))).setCell ⟨bm, 2, none⟩ (.slice n3.A n3.n n3.c)).setCell ⟨bm, 3, none⟩ (.slice a3.A a3.n a3.c)).setCell ⟨bm, 4, none⟩ (.slice g3.A g3.n g3.c) = w5 at S5 ⊢
          obtain ⟨_, d1, _⟩ := S5.out.k
          go_wp2_with fail
          refine (V1.out _ _ S5.out.st.live.ca).mono ?_
          intro e w6 hp
          obtain ⟨rfl, T6, h6, _⟩ := S5.out.op hp
          have S6 := Lib.hid h6
          clear hp h6 S5
          go_wp2_with fail
          go_meet
          exact ⟨T6, s2, _, _, _, S6.out⟩
        | false =>
        cases c3 : (kd == 3) with
        | true =>
          have U := drop_ca w2 c T s k S2.out.st.live.ca
          have DR := fun (W : World) (T : Nat → Prop) (hr : Rw W (Aside T bm) n1 a1 g1 s.rN s.rA s.rG) (hP : Cl W (Aside T bm)) => drop_ref W (Aside T bm) n1 a1 g1 s hr hP HOK.out
          generalize lastKey (s.A ++ s.N) = x at U DR
          generalize anyKey (s.A ++ s.N) = tb at U DR
          generalize s.dr = s2 at U DR
          have U1 := Lib.hid U
          have DR1 := Lib.hid DR
          have ex := beqS_yes (rfl : x = x)
          clear U DR
          go_wp2_with fail
          refine U1.out.mono ?_
          intro e w3 hp
          obtain ⟨rfl, T3, h3, _⟩ := S2.out.op hp
          have U2 := Lib.hid (DR1.out w3 T3 h3.st.rows h3.st.cl)
          have S3' := Lib.hid h3
          clear m0 m1 m2 m3 m4 f0 f1 f2 f3 f4 d0 d1 d2
          obtain ⟨m0, m1, m2, m3, m4⟩ := h3.st.box.c
          clear hp h3 U1 S2 DR1
          go_wp2_with fail
          refine U2.out.mono ?_
          rintro e w3' ⟨n3, a3, g3, rfl, hr3, hB3⟩
          have R3 := Lib.hid hr3
          have S3 := Lib.hid (S3'.out.below hB3)
          clear hr3 hB3 U2 m0 m1 m2 m3 m4 S3'
          generalize w3' = w3 at *
          go_upto_region 31 with fail
          have hb4 := (Below.refl w3.heap.size w3).alloc (Nat.le_refl _) (rObj s2.mo s2.t n3 a3 g3)
          have k9 : RB (w3.alloc (rObj s2.mo s2.t n3 a3 g3)) w3.heap.size s2.mo s2.t n3 a3 g3 := heap_alloc_new _ _
          have S4 := Lib.hid (S3.out.below hb4)
          have R4 := Lib.hid (R3.out.below hb4)
          clear hb4 R3 S3
          generalize w3.alloc (rObj s2.mo s2.t n3 a3 g3) = w4 at S4 R4 k9 ⊢
          generalize w3.heap.size = z9 at k9 ⊢
          obtain ⟨x0, x1, x2, x3, x4⟩ := k9.c
          obtain ⟨m0, m1, m2, m3, m4⟩ := S4.out.st.box.c
          obtain ⟨f0, f1, f2, f3, f4⟩ := S4.out.st.box.f
          have S5 := Lib.hid (S4.out.set R4.out)
          clear k9 S4 R4
          go_upto_region 32 with fail
          clear x0 x1 x2 x3 x4 m0 m1 m2 m3 m4 f0 f1 f2 f3 f4
          dsimp only [put5] at S5
          generalize ((((w4.setCell ⟨bm, 0, none⟩ (.int .i64 (s2.mo : Int))).setCell ⟨bm, 1, none⟩ (.int .i64 (s2.t : Int))).setCell ⟨bm, 2, none⟩ (.slice n3.A n3.n n3.c)).setCell ⟨bm, 3, none⟩ (.slice a3.A a3.n a3.c)).setCell ⟨bm, 4, none⟩ (.slice g3.A g3.n g3.c) = w5 at S5 ⊢
          go_wp2_with fail
          go_meet
          exact ⟨T3, s2, _, _, _, S5.out.mono (by omega)⟩
        | false =>
        cases c4 : (kd == 4) with
        | true =>
          have U := resize_ref w2 (Aside T bm) n1 a1 g1 s S2.out.st.rows S2.out.st.cl HOK.out HTT.out nn hnk
          have V := fun (W : World) (T : Nat → Prop) (hC : Ca W c T s k) => resize_ca W c T s k hC nn hnk (by omega)
          generalize (s.A ++ s.N).reverse.take (s.A.length + s.N.length - nn.toNat) = out at U V
          generalize s.rs nn.toNat = s2 at U V
          have U1 := Lib.hid U
          have V1 := Lib.hid V
          clear U V
          go_wp2_with fail
          refine U1.out.mono ?_
          rintro e w3 ⟨n3, a3, g3, u3, rfl, hr3, hO3, hB3⟩
          have R3 := Lib.hid hr3
          have S3 := Lib.hid (S2.out.below hB3)
          obtain ⟨gu, hgu, hru⟩ := hO3.row
          obtain ⟨Au, cu, rfl⟩ := hO3.len
          have RU := Lib.hid hru
          have FU := Lib.hid (S2.out.fresh hgu)
          clear hr3 hB3 U1 d0 d1 d2 m0 m1 m2 m3 m4 f0 f1 f2 f3 f4 S2 hO3 hgu hru
          go_upto_region 36 with fail
          have hb4 := (Below.refl w3.heap.size w3).alloc (Nat.le_refl _) (rObj s2.mo s2.t n3 a3 g3)
          have k9 : RB (w3.alloc (rObj s2.mo s2.t n3 a3 g3)) w3.heap.size s2.mo s2.t n3 a3 g3 := heap_alloc_new _ _
          have S4 := Lib.hid (S3.out.below hb4)
          have R4 := Lib.hid (R3.out.below hb4)
          have RU4 := Lib.hid (RU.out.below hb4)
          clear RU
          clear hb4 R3 S3
          generalize w3.alloc (rObj s2.mo s2.t n3 a3 g3) = w4 at S4 R4 k9 RU4 ⊢
          generalize w3.heap.size = z9 at k9 ⊢
          obtain ⟨x0, x1, x2, x3, x4⟩ := k9.c
          obtain ⟨m0, m1, m2, m3, m4⟩ := S4.out.st.box.c
          obtain ⟨f0, f1, f2, f3, f4⟩ := S4.out.st.box.f
          have S5 := Lib.hid (S4.out.set R4.out)
          have RU5 := Lib.hid (row_put5 RU4.out FU.out.2.1 s2.mo s2.t n3 a3 g3)
          clear RU4
          clear k9 S4 R4
          go_upto_region 37 with fail
          clear x0 x1 x2 x3 x4 m0 m1 m2 m3 m4 f0 f1 f2 f3 f4
          dsimp only [put5] at S5 RU5
          generalize ((((w4.setCell ⟨bm, 0, none⟩ (.int .i64 (s2.mo : Int))).setCell ⟨bm, 1, none⟩ (.int .i64 (s2.t : Int))).setCell ⟨bm, 2, none⟩ (.slice n3.A n3.n n3.c)).setCell ⟨bm, 3, none⟩ (.slice a3.A a3.n a3.c)).setCell ⟨bm, 4, none⟩ (.slice g3.A g3.n g3.c) = w5 at S5 RU5 ⊢
          obtain ⟨_, _, d2⟩ := S5.out.k
          go_wp2_with fail
          refine (V1.out _ _ S5.out.st.live.ca).mono ?_
          rintro e w6 ⟨v6, T6, rfl, hO6, hC6, hW6, hv6⟩
          have h6 := S5.out.went (S5.out.st.live.went hC6 hW6) hW6
          obtain ⟨g6, _, hr6⟩ := hO6.row
          have U6 := Lib.hid (refSame_self w6 g6 gu _ _ _ hr6 (RU5.out.same hW6.turn.size fun hl => hW6.turn.block gu hl FU.out.1))
          have S6 := Lib.hid h6
          clear hO6 hC6 hW6 hv6 h6 hr6 S5 RU5
          go_wp2_with fail
          refine U6.out.mono ?_
          rintro e w7 ⟨rfl, q7, hw7⟩
          have S7 := Lib.hid (S6.out.below (show Below w6.heap.size w6 w7 from hw7 ▸ below_drewN _ q7))
          clear hw7 S6 U6
          go_wp2_with fail
          go_meet
          exact ⟨T6, s2, _, _, _, S7.out.mono (by omega)⟩
        | false =>
          clear d0 d1 d2 m0 m1 m2 m3 m4 f0 f1 f2 f3 f4
          go_wp2_with fail
          go_meet
          exact ⟨T, s, _, _, _, S2.out.mono (by omega)⟩
      case rest =>
        clear S2 HPy
        obtain ⟨T, s, n1, a1, g1, hS⟩ := hcut
        have S3 := Lib.hid hS
        have HOK := Lib.hid hS.st.live.ca.ok
        have htt := hS.st.live.ca.tot
        have HTT := Lib.hid (show s.tot ≤ 1000 by omega)
        obtain ⟨tb, htb⟩ : ∃ t, s.hit key = t := ⟨_, rfl⟩
        have HTB := Lib.hid htb
        obtain ⟨ln, hln⟩ : ∃ t, (s.A ++ s.N).reverse.length = t := ⟨_, rfl⟩
        have HLL := Lib.hid hln
        rw [List.length_reverse, List.length_append, Nat.add_comm] at hln
        have HLN := Lib.hid hln
        have HAN := Lib.hid (show s.A.length = a1.n from rA_len.symm.trans hS.st.rows.a.len)
        have UV := victim_ca wc c T s (k + 1) S3.out.st.live.ca
        have UR := fun (W : World) (hr : Rw W (Aside T bm) n1 a1 g1 s.rN s.rA s.rG) => victim_ref W (Aside T bm) n1 a1 g1 s hr HOK.out
        generalize lastKey (s.A ++ s.N) = x at UV UR
        generalize anyKey (s.A ++ s.N) = tt at UV UR
        have UV1 := Lib.hid UV
        have UR1 := Lib.hid UR
        have ex := beqS_yes (rfl : x = x)
        clear hS htb hln UV UR
        go_wp2_with fail
        refine UV1.out.mono ?_
        rintro e wd ⟨rfl, rfl⟩
        obtain ⟨m0, m1, m2, m3, m4⟩ := S3.out.st.box.c
        go_wp2_with fail
        refine (UR1.out _ S3.out.st.rows).mono ?_
        rintro e we ⟨rfl, hB⟩
        have S4 := Lib.hid (S3.out.below hB)
        clear m0 m1 m2 m3 m4 hB S3 UV1 UR1
        obtain ⟨m0, m1, m2, m3, m4⟩ := S4.out.st.box.c
        have UK := Lib.hid (keys_ref we (Aside T bm) n1 a1 g1 s S4.out.st.rows HTT.out)
        go_wp2_with fail
        refine UK.out.mono ?_
        rintro e w8 ⟨v8, rfl, hO8, hB8⟩
        have S8 := Lib.hid (S4.out.below hB8)
        obtain ⟨A8, c8, rfl⟩ := hO8.len
        have O8 := Lib.hid hO8
        clear m0 m1 m2 m3 m4 hB8 hO8 S4 UK
        rw [HLL.out] at O8 ⊢
        have S9 := Lib.hid S8.out.drew
        have O9 := Lib.hid (O8.out.below (below_drew _))
        obtain ⟨m0, m1, m2, m3, m4⟩ := S9.out.st.box.c
        obtain ⟨_, d1, _⟩ := S9.out.k
        clear S8 O8
        go_upto_region 42 with fail
        obtain ⟨w9, hw9⟩ : ∃ w9, w9 = w8.drew := ⟨_, rfl⟩
        refine wp_region_noPanic ?_
        refine wp_region_held_drew (S := fun w' => w'.cell? ⟨ga, 1, none⟩ = some (.string key) ∧ w'.cell? ⟨bm, 0, none⟩ = some (.int .i64 (s.mo : Int)) ∧ w'.cell? ⟨bm, 1, none⟩ = some (.int .i64 (s.t : Int)) ∧ w'.cell? ⟨bm, 2, none⟩ = some (.slice n1.A n1.n n1.c) ∧ w'.cell? ⟨bm, 3, none⟩ = some (.slice a1.A a1.n a1.c) ∧ w'.cell? ⟨bm, 4, none⟩ = some (.slice g1.A g1.n g1.c)) (by kernel_rfl) ?_ (fun hHeld => ?_)
        · exact ⟨d1, m0, m1, m2, m3, m4⟩
        rw [← hw9] at S9 O9 hHeld ⊢
        clear hw9 d1 m0 m1 m2 m3 m4
        refine wpAnyH_take (i := 0) (oi := { dst := some 146, op := Go.Op.move (Go.Operand.tmp 20), type := 9, pos := "law.go:76", after := #[], guard := none }) (v := ?_) rfl (by kernel_rfl) (by kernel_rfl) (by kernel_rfl) (fun _ _ _ h => h) (Or.inl ⟨by rfl, ?_⟩) (by assumption) ?_
        rotate_left
        · (intro w hSw; (try dsimp only at hSw); go_simp; (try with_reducible rfl))
        (try simp only [Act.put, List.setIfInBounds_toArray, List.set_cons_zero, List.set_cons_succ])
        refine wpAnyH_take (i := 1) (oi := { dst := some 147, op := Go.Op.move (Go.Operand.tmp 22), type := 9, pos := "law.go:76", after := #[], guard := none }) (v := ?_) rfl (by kernel_rfl) (by kernel_rfl) (by kernel_rfl) (fun _ _ _ h => h) (Or.inl ⟨by rfl, ?_⟩) (by assumption) ?_
        rotate_left
        · (intro w hSw; (try dsimp only at hSw); go_simp; (try with_reducible rfl))
        (try simp only [Act.put, List.setIfInBounds_toArray, List.set_cons_zero, List.set_cons_succ])
        refine wpAnyH_take (i := 2) (oi := { dst := some 148, op := Go.Op.binOp Go.BinOp.neq 9 (Go.Operand.tmp 146) (Go.Operand.tmp 147) 9, type := 4, pos := "law.go:76", after := #[{ on := 0, ground := Go.Ground.data }, { on := 1, ground := Go.Ground.data }], guard := none }) (v := ?_) rfl (by kernel_rfl) (by kernel_rfl) (by kernel_rfl) (fun _ _ _ h => h) (Or.inl ⟨by rfl, ?_⟩) (by assumption) ?_
        rotate_left
        · (intro w hSw; (try dsimp only at hSw); go_simp; (try with_reducible rfl))
        (try simp only [Act.put, List.setIfInBounds_toArray, List.set_cons_zero, List.set_cons_succ])
        refine wpAnyH_take (i := 3) (oi := { dst := some 149, op := Go.Op.move (Go.Operand.tmp 148), type := 4, pos := "law.go:76", after := #[{ on := 2, ground := Go.Ground.data }], guard := none }) (v := ?_) rfl (by kernel_rfl) (by kernel_rfl) (by kernel_rfl) (fun _ _ _ h => h) (Or.inl ⟨by rfl, ?_⟩) (by assumption) ?_
        rotate_left
        · (intro w hSw; (try dsimp only at hSw); go_simp; (try with_reducible rfl))
        (try simp only [Act.put, List.setIfInBounds_toArray, List.set_cons_zero, List.set_cons_succ])
        refine wpAnyH_take (i := 4) (oi := { dst := some 150, op := Go.Op.move (Go.Operand.tmp 21), type := 4, pos := "law.go:76", after := #[{ on := 3, ground := Go.Ground.guard }], guard := some (3, false) }) (v := ?_) rfl (by kernel_rfl) (by kernel_rfl) (by kernel_rfl) (fun _ _ _ h => h) (Or.inl ⟨by rfl, ?_⟩) (by assumption) ?_
        rotate_left
        · (intro w hSw; (try dsimp only at hSw); go_simp; (try with_reducible rfl))
        (try simp only [Act.put, List.setIfInBounds_toArray, List.set_cons_zero, List.set_cons_succ])
        refine wpAnyH_take (i := 5) (oi := { dst := some 151, op := Go.Op.move (Go.Operand.tmp 23), type := 4, pos := "law.go:76", after := #[{ on := 3, ground := Go.Ground.guard }], guard := some (3, false) }) (v := ?_) rfl (by kernel_rfl) (by kernel_rfl) (by kernel_rfl) (fun _ _ _ h => h) (Or.inl ⟨by rfl, ?_⟩) (by assumption) ?_
        rotate_left
        · (intro w hSw; (try dsimp only at hSw); go_simp; (try with_reducible rfl))
        (try simp only [Act.put, List.setIfInBounds_toArray, List.set_cons_zero, List.set_cons_succ])
        refine wpAnyH_take (i := 6) (oi := { dst := some 152, op := Go.Op.binOp Go.BinOp.neq 4 (Go.Operand.tmp 150) (Go.Operand.tmp 151) 4, type := 4, pos := "law.go:76", after := #[{ on := 4, ground := Go.Ground.data }, { on := 5, ground := Go.Ground.data }, { on := 3, ground := Go.Ground.guard }], guard := some (3, false) }) (v := ?_) rfl (by kernel_rfl) (by kernel_rfl) (by kernel_rfl) (fun _ _ _ h => h) (Or.inl ⟨by rfl, ?_⟩) (by assumption) ?_
        rotate_left
        · (intro w hSw; (try dsimp only at hSw); go_simp; (try with_reducible rfl))
        (try simp only [Act.put, List.setIfInBounds_toArray, List.set_cons_zero, List.set_cons_succ])
        refine wpAnyH_take (i := 7) (oi := { dst := some 153, op := Go.Op.pick (Go.Operand.tmp 149) (Go.Operand.const (Go.Value.bool true)) (Go.Operand.tmp 152), type := 4, pos := "law.go:76", after := #[{ on := 3, ground := Go.Ground.data }, { on := 6, ground := Go.Ground.data }], guard := none }) (v := ?_) rfl (by kernel_rfl) (by kernel_rfl) (by kernel_rfl) (fun _ _ _ h => h) (Or.inl ⟨by rfl, ?_⟩) (by assumption) ?_
        rotate_left
        · (intro w hSw; (try dsimp only at hSw); go_simp; (try with_reducible rfl))
        (try simp only [Act.put, List.setIfInBounds_toArray, List.set_cons_zero, List.set_cons_succ])
        refine wpAnyH_take (i := 8) (oi := { dst := some 154, op := Go.Op.move (Go.Operand.tmp 153), type := 4, pos := "law.go:76", after := #[{ on := 7, ground := Go.Ground.data }, { on := 3, ground := Go.Ground.chain }], guard := none }) (v := ?_) rfl (by kernel_rfl) (by kernel_rfl) (by kernel_rfl) (fun _ _ _ h => h) (Or.inl ⟨by rfl, ?_⟩) (by assumption) ?_
        rotate_left
        · (intro w hSw; (try dsimp only at hSw); go_simp; (try with_reducible rfl))
        (try simp only [Act.put, List.setIfInBounds_toArray, List.set_cons_zero, List.set_cons_succ])
        refine wpAnyH_take (i := 9) (oi := { dst := some 155, op := Go.Op.move (Go.Operand.tmp 5), type := 25, pos := "law.go:76", after := #[{ on := 8, ground := Go.Ground.guard }], guard := some (8, false) }) (v := ?_) rfl (by kernel_rfl) (by kernel_rfl) (by kernel_rfl) (fun _ _ _ h => h) (Or.inl ⟨by rfl, ?_⟩) (by assumption) ?_
        rotate_left
        · (intro w hSw; (try dsimp only at hSw); go_simp; (try with_reducible rfl))
        (try simp only [Act.put, List.setIfInBounds_toArray, List.set_cons_zero, List.set_cons_succ])
        refine wpAnyH_take (i := 11) (oi := { dst := some 157, op := Go.Op.move (Go.Operand.tmp 24), type := 47, pos := "law.go:76", after := #[{ on := 8, ground := Go.Ground.guard }], guard := some (8, false) }) (v := ?_) rfl (by kernel_rfl) (by kernel_rfl) (by kernel_rfl) (fun _ _ _ h => h) (Or.inl ⟨by rfl, ?_⟩) (by assumption) ?_
        rotate_left
        · (intro w hSw; (try dsimp only at hSw); go_simp; (try with_reducible rfl))
        (try simp only [Act.put, List.setIfInBounds_toArray, List.set_cons_zero, List.set_cons_succ])
        refine wpAnyH_ready (rs := [10]) (by kernel_rfl) (by simp) ?_
        refine AllReadyH.cons (o := { dst := some 156, op := Go.Op.call { callee := Go.Callee.value (Go.Operand.func 27), args := #[Go.Operand.tmp 155], argTypes := #[25] }, type := 47, pos := "law.go:76", after := #[{ on := 9, ground := Go.Ground.data }, { on := 8, ground := Go.Ground.chain }, { on := 8, ground := Go.Ground.guard }], guard := some (8, false) }) rfl (fun K hK => ?_) AllReadyH.nil
        go_simp
        refine (keys_ca w9 c T s (k + 1) S9.out.st.live.ca).mono ?_
        rintro e wa ⟨va, rfl, hO, hB⟩
        have Sa := Lib.hid (S9.out.below hB)
        have Ua := Lib.hid (same_of hO (O9.out.below hB) (Below.refl _ _))
        have Oa := Lib.hid (O9.out.below hB)
        clear hO hB
        go_wp2_with fail
        refine hK.out _ _ ?_ (fun hHeld => ?_)
        · exact ⟨Sa.out.k.2.1, Sa.out.st.box.c.1, Sa.out.st.box.c.2.1, Sa.out.st.box.c.2.2.1, Sa.out.st.box.c.2.2.2.1, Sa.out.st.box.c.2.2.2.2⟩
        clear hK K
        (try simp only [Act.put, List.setIfInBounds_toArray, List.set_cons_zero, List.set_cons_succ])
        refine wpAnyH_ready (rs := [12]) (by kernel_rfl) (by simp) ?_
        refine AllReadyH.cons (o := { dst := some 158, op := Go.Op.call { callee := Go.Callee.value (Go.Operand.func 22), args := #[Go.Operand.tmp 156, Go.Operand.tmp 157], argTypes := #[47, 47] }, type := 4, pos := "law.go:76", after := #[{ on := 10, ground := Go.Ground.data }, { on := 11, ground := Go.Ground.data }, { on := 10, ground := Go.Ground.chain }, { on := 8, ground := Go.Ground.guard }], guard := some (8, false) }) rfl (fun K hK => ?_) AllReadyH.nil
        go_simp
        refine Ua.out.mono ?_
        rintro e wb ⟨rfl, qb, hwb⟩
        have hbb : Below wa.heap.size wa wb := hwb ▸ below_drewN _ qb
        have Sb := Lib.hid (Sa.out.below hbb)
        clear hbb hwb
        go_wp2_with fail
        refine hK.out _ _ ?_ (fun hHeld => ?_)
        · exact ⟨Sb.out.k.2.1, Sb.out.st.box.c.1, Sb.out.st.box.c.2.1, Sb.out.st.box.c.2.2.1, Sb.out.st.box.c.2.2.2.1, Sb.out.st.box.c.2.2.2.2⟩
        clear hK K
        (try simp only [Act.put, List.setIfInBounds_toArray, List.set_cons_zero, List.set_cons_succ])
        refine wpAnyH_take (i := 13) (oi := { dst := some 159, op := Go.Op.unOp Go.UnOp.not 4 (Go.Operand.tmp 158), type := 4, pos := "law.go:76", after := #[{ on := 12, ground := Go.Ground.data }, { on := 8, ground := Go.Ground.guard }], guard := some (8, false) }) (v := ?_) rfl (by kernel_rfl) (by kernel_rfl) (by kernel_rfl) (fun _ _ _ h => h) (Or.inl ⟨by rfl, ?_⟩) (by assumption) ?_
        rotate_left
        · (intro w hSw; (try dsimp only at hSw); go_simp; (try with_reducible rfl))
        (try simp only [Act.put, List.setIfInBounds_toArray, List.set_cons_zero, List.set_cons_succ])
        refine wpAnyH_take (i := 14) (oi := { dst := some 160, op := Go.Op.pick (Go.Operand.tmp 154) (Go.Operand.const (Go.Value.bool true)) (Go.Operand.tmp 159), type := 4, pos := "law.go:76", after := #[{ on := 8, ground := Go.Ground.data }, { on := 13, ground := Go.Ground.data }], guard := none }) (v := ?_) rfl (by kernel_rfl) (by kernel_rfl) (by kernel_rfl) (fun _ _ _ h => h) (Or.inl ⟨by rfl, ?_⟩) (by assumption) ?_
        rotate_left
        · (intro w hSw; (try dsimp only at hSw); go_simp; (try with_reducible rfl))
        (try simp only [Act.put, List.setIfInBounds_toArray, List.set_cons_zero, List.set_cons_succ])
        refine wpAnyH_take (i := 15) (oi := { dst := some 161, op := Go.Op.move (Go.Operand.tmp 160), type := 4, pos := "law.go:76", after := #[{ on := 14, ground := Go.Ground.data }, { on := 12, ground := Go.Ground.chain }], guard := none }) (v := ?_) rfl (by kernel_rfl) (by kernel_rfl) (by kernel_rfl) (fun _ _ _ h => h) (Or.inl ⟨by rfl, ?_⟩) (by assumption) ?_
        rotate_left
        · (intro w hSw; (try dsimp only at hSw); go_simp; (try with_reducible rfl))
        (try simp only [Act.put, List.setIfInBounds_toArray, List.set_cons_zero, List.set_cons_succ])
        refine wpAnyH_take (i := 16) (oi := { dst := some 162, op := Go.Op.move (Go.Operand.tmp 5), type := 25, pos := "law.go:76", after := #[{ on := 15, ground := Go.Ground.guard }], guard := some (15, false) }) (v := ?_) rfl (by kernel_rfl) (by kernel_rfl) (by kernel_rfl) (fun _ _ _ h => h) (Or.inl ⟨by rfl, ?_⟩) (by assumption) ?_
        rotate_left
        · (intro w hSw; (try dsimp only at hSw); go_simp; (try with_reducible rfl))
        (try simp only [Act.put, List.setIfInBounds_toArray, List.set_cons_zero, List.set_cons_succ])
        refine wpAnyH_take (i := 18) (oi := { dst := some 164, op := Go.Op.move (Go.Operand.tmp 24), type := 47, pos := "law.go:76", after := #[{ on := 15, ground := Go.Ground.guard }], guard := some (15, false) }) (v := ?_) rfl (by kernel_rfl) (by kernel_rfl) (by kernel_rfl) (fun _ _ _ h => h) (Or.inl ⟨by rfl, ?_⟩) (by assumption) ?_
        rotate_left
        · (intro w hSw; (try dsimp only at hSw); go_simp; (try with_reducible rfl))
        (try simp only [Act.put, List.setIfInBounds_toArray, List.set_cons_zero, List.set_cons_succ])
        refine wpAnyH_take (i := 19) (oi := { dst := some 165, op := Go.Op.call { callee := Go.Callee.builtin Go.Builtin.len, args := #[Go.Operand.tmp 164], argTypes := #[47] }, type := 3, pos := "law.go:76", after := #[{ on := 18, ground := Go.Ground.data }, { on := 15, ground := Go.Ground.guard }], guard := some (15, false) }) (v := ?_) rfl (by kernel_rfl) (by kernel_rfl) (by kernel_rfl) (fun _ _ _ h => h) (Or.inl ⟨by rfl, ?_⟩) (by assumption) ?_
        rotate_left
        · (intro w hSw; (try dsimp only at hSw); go_simp; (try with_reducible rfl))
        (try simp only [Act.put, List.setIfInBounds_toArray, List.set_cons_zero, List.set_cons_succ])
        refine wpAnyH_ready (rs := [17]) (by kernel_rfl) (by simp) ?_
        refine AllReadyH.cons (o := { dst := some 163, op := Go.Op.call { callee := Go.Callee.value (Go.Operand.func 28), args := #[Go.Operand.tmp 162], argTypes := #[25] }, type := 3, pos := "law.go:76", after := #[{ on := 16, ground := Go.Ground.data }, { on := 15, ground := Go.Ground.chain }, { on := 15, ground := Go.Ground.guard }], guard := some (15, false) }) rfl (fun K hK => ?_) AllReadyH.nil
        go_simp
        refine (HLN.out ▸ len_ca wb c T s (k + 1) Sb.out.st.live.ca : Calls Try.prog 28 #[.pointer (some ⟨c, 0, none⟩)] wb (Qt (.int .i64 (ln : Int)) wb)).mono ?_
        rintro e wc2 ⟨rfl, qc, hwc⟩
        have hbc : Below wb.heap.size wb wc2 := hwc ▸ below_drewN _ qc
        have Sc := Lib.hid (Sb.out.below hbc)
        clear hbc hwc
        go_wp2_with fail
        refine hK.out _ _ ?_ (fun hHeld => ?_)
        · exact ⟨Sc.out.k.2.1, Sc.out.st.box.c.1, Sc.out.st.box.c.2.1, Sc.out.st.box.c.2.2.1, Sc.out.st.box.c.2.2.2.1, Sc.out.st.box.c.2.2.2.2⟩
        clear hK K
        (try simp only [Act.put, List.setIfInBounds_toArray, List.set_cons_zero, List.set_cons_succ])
        refine wpAnyH_take (i := 20) (oi := { dst := some 166, op := Go.Op.binOp Go.BinOp.neq 3 (Go.Operand.tmp 163) (Go.Operand.tmp 165) 3, type := 4, pos := "law.go:76", after := #[{ on := 17, ground := Go.Ground.data }, { on := 19, ground := Go.Ground.data }, { on := 15, ground := Go.Ground.guard }], guard := some (15, false) }) (v := ?_) rfl (by kernel_rfl) (by kernel_rfl) (by kernel_rfl) (fun _ _ _ h => h) (Or.inl ⟨by rfl, ?_⟩) (by assumption) ?_
        rotate_left
        · (intro w hSw; (try dsimp only at hSw); go_simp; (try with_reducible rfl))
        (try simp only [Act.put, List.setIfInBounds_toArray, List.set_cons_zero, List.set_cons_succ])
        refine wpAnyH_take (i := 21) (oi := { dst := some 167, op := Go.Op.pick (Go.Operand.tmp 161) (Go.Operand.const (Go.Value.bool true)) (Go.Operand.tmp 166), type := 4, pos := "law.go:76", after := #[{ on := 15, ground := Go.Ground.data }, { on := 20, ground := Go.Ground.data }], guard := none }) (v := ?_) rfl (by kernel_rfl) (by kernel_rfl) (by kernel_rfl) (fun _ _ _ h => h) (Or.inl ⟨by rfl, ?_⟩) (by assumption) ?_
        rotate_left
        · (intro w hSw; (try dsimp only at hSw); go_simp; (try with_reducible rfl))
        (try simp only [Act.put, List.setIfInBounds_toArray, List.set_cons_zero, List.set_cons_succ])
        refine wpAnyH_take (i := 22) (oi := { dst := some 168, op := Go.Op.move (Go.Operand.tmp 167), type := 4, pos := "law.go:76", after := #[{ on := 21, ground := Go.Ground.data }, { on := 17, ground := Go.Ground.chain }], guard := none }) (v := ?_) rfl (by kernel_rfl) (by kernel_rfl) (by kernel_rfl) (fun _ _ _ h => h) (Or.inl ⟨by rfl, ?_⟩) (by assumption) ?_
        rotate_left
        · (intro w hSw; (try dsimp only at hSw); go_simp; (try with_reducible rfl))
        (try simp only [Act.put, List.setIfInBounds_toArray, List.set_cons_zero, List.set_cons_succ])
        refine wpAnyH_take (i := 23) (oi := { dst := some 169, op := Go.Op.move (Go.Operand.tmp 5), type := 25, pos := "law.go:76", after := #[{ on := 22, ground := Go.Ground.guard }], guard := some (22, false) }) (v := ?_) rfl (by kernel_rfl) (by kernel_rfl) (by kernel_rfl) (fun _ _ _ h => h) (Or.inl ⟨by rfl, ?_⟩) (by assumption) ?_
        rotate_left
        · (intro w hSw; (try dsimp only at hSw); go_simp; (try with_reducible rfl))
        (try simp only [Act.put, List.setIfInBounds_toArray, List.set_cons_zero, List.set_cons_succ])
        refine wpAnyH_take (i := 24) (oi := { dst := some 170, op := Go.Op.fieldAddr 32 (Go.Operand.tmp 8) 1, type := 0, pos := "law.go:76", after := #[{ on := 22, ground := Go.Ground.guard }], guard := some (22, false) }) (v := ?_) rfl (by kernel_rfl) (by kernel_rfl) (by kernel_rfl) (fun _ _ _ h => h) (Or.inl ⟨by rfl, ?_⟩) (by assumption) ?_
        rotate_left
        · (intro w hSw; (try dsimp only at hSw); go_simp; (try with_reducible rfl))
        (try simp only [Act.put, List.setIfInBounds_toArray, List.set_cons_zero, List.set_cons_succ])
        refine wpAnyH_take (i := 25) (oi := { dst := some 171, op := Go.Op.load 9 (Go.Operand.tmp 170), type := 9, pos := "law.go:76", after := #[{ on := 24, ground := Go.Ground.data }, { on := 22, ground := Go.Ground.guard }], guard := some (22, false) }) (v := ?_) rfl (by kernel_rfl) (by kernel_rfl) (by kernel_rfl) (fun _ _ _ h => h) (Or.inl ⟨by rfl, ?_⟩) (by assumption) ?_
        rotate_left
        · (intro w hSw; (try dsimp only at hSw); go_simp; (try with_reducible rfl))
        (try simp only [Act.put, List.setIfInBounds_toArray, List.set_cons_zero, List.set_cons_succ])
        refine wpAnyH_take (i := 27) (oi := { dst := some 173, op := Go.Op.load 29 (Go.Operand.tmp 6), type := 29, pos := "law.go:76", after := #[{ on := 22, ground := Go.Ground.guard }], guard := some (22, false) }) (v := ?_) rfl (by kernel_rfl) (by kernel_rfl) (by kernel_rfl) (fun _ _ _ h => h) (Or.inl ⟨by rfl, ?_⟩) (by assumption) ?_
        rotate_left
        · (intro w hSw; (try dsimp only at hSw); go_simp; (try with_reducible rfl))
        (try simp only [Act.put, List.setIfInBounds_toArray, List.set_cons_zero, List.set_cons_succ])
        refine wpAnyH_take (i := 28) (oi := { dst := some 174, op := Go.Op.fieldAddr 32 (Go.Operand.tmp 8) 1, type := 0, pos := "law.go:76", after := #[{ on := 22, ground := Go.Ground.guard }], guard := some (22, false) }) (v := ?_) rfl (by kernel_rfl) (by kernel_rfl) (by kernel_rfl) (fun _ _ _ h => h) (Or.inl ⟨by rfl, ?_⟩) (by assumption) ?_
        rotate_left
        · (intro w hSw; (try dsimp only at hSw); go_simp; (try with_reducible rfl))
        (try simp only [Act.put, List.setIfInBounds_toArray, List.set_cons_zero, List.set_cons_succ])
        refine wpAnyH_take (i := 29) (oi := { dst := some 175, op := Go.Op.load 9 (Go.Operand.tmp 174), type := 9, pos := "law.go:76", after := #[{ on := 28, ground := Go.Ground.data }, { on := 22, ground := Go.Ground.guard }], guard := some (22, false) }) (v := ?_) rfl (by kernel_rfl) (by kernel_rfl) (by kernel_rfl) (fun _ _ _ h => h) (Or.inl ⟨by rfl, ?_⟩) (by assumption) ?_
        rotate_left
        · (intro w hSw; (try dsimp only at hSw); go_simp; (try with_reducible rfl))
        (try simp only [Act.put, List.setIfInBounds_toArray, List.set_cons_zero, List.set_cons_succ])
        refine wpAnyH_ready (rs := [26]) (by kernel_rfl) (by simp) ?_
        refine AllReadyH.cons (o := { dst := some 172, op := Go.Op.call { callee := Go.Callee.value (Go.Operand.func 29), args := #[Go.Operand.tmp 169, Go.Operand.tmp 171], argTypes := #[25, 9] }, type := 4, pos := "law.go:76", after := #[{ on := 23, ground := Go.Ground.data }, { on := 25, ground := Go.Ground.data }, { on := 22, ground := Go.Ground.chain }, { on := 22, ground := Go.Ground.guard }], guard := some (22, false) }) rfl (fun K hK => ?_) AllReadyH.nil
        go_simp
        refine (HTB.out ▸ has_ca wc2 c T s (k + 1) key Sc.out.st.live.ca hsk : Calls Try.prog 29 #[.pointer (some ⟨c, 0, none⟩), .string key] wc2 (BoolPost tb wc2)).mono ?_
        rintro e wx ⟨rfl, rfl⟩
        go_wp2_with fail
        refine hK.out _ _ ?_ (fun hHeld => ?_)
        · exact hHeld
        clear hK K
        (try simp only [Act.put, List.setIfInBounds_toArray, List.set_cons_zero, List.set_cons_succ])
        refine wpAnyH_ready (rs := [30]) (by kernel_rfl) (by simp) ?_
        refine AllReadyH.cons (o := { dst := some 176, op := Go.Op.call { callee := Go.Callee.value (Go.Operand.func 15), args := #[Go.Operand.tmp 173, Go.Operand.tmp 175], argTypes := #[29, 9] }, type := 4, pos := "law.go:76", after := #[{ on := 27, ground := Go.Ground.data }, { on := 29, ground := Go.Ground.data }, { on := 26, ground := Go.Ground.chain }, { on := 22, ground := Go.Ground.guard }], guard := some (22, false) }) rfl (fun K hK => ?_) AllReadyH.nil
        go_simp
        refine (HTB.out ▸ has_ref wc2 (Aside T bm) n1 a1 g1 s Sc.out.st.rows key : Calls Try.prog 15 #[rAgg s.mo s.t n1 a1 g1, .string key] wc2 (ValB (.bool tb) wc2)).mono ?_
        rintro e wd2 ⟨rfl, hB⟩
        have Sd := Lib.hid (Sc.out.below hB)
        clear hB
        go_wp2_with fail
        refine hK.out _ _ ?_ (fun hHeld => ?_)
        · exact ⟨Sd.out.k.2.1, Sd.out.st.box.c.1, Sd.out.st.box.c.2.1, Sd.out.st.box.c.2.2.1, Sd.out.st.box.c.2.2.2.1, Sd.out.st.box.c.2.2.2.2⟩
        clear hK K
        (try simp only [Act.put, List.setIfInBounds_toArray, List.set_cons_zero, List.set_cons_succ])
        refine wpAnyH_take (i := 31) (oi := { dst := some 177, op := Go.Op.binOp Go.BinOp.neq 4 (Go.Operand.tmp 172) (Go.Operand.tmp 176) 4, type := 4, pos := "law.go:76", after := #[{ on := 26, ground := Go.Ground.data }, { on := 30, ground := Go.Ground.data }, { on := 22, ground := Go.Ground.guard }], guard := some (22, false) }) (v := ?_) rfl (by kernel_rfl) (by kernel_rfl) (by kernel_rfl) (fun _ _ _ h => h) (Or.inl ⟨by rfl, ?_⟩) (by assumption) ?_
        rotate_left
        · (intro w hSw; (try dsimp only at hSw); go_simp; (try with_reducible rfl))
        (try simp only [Act.put, List.setIfInBounds_toArray, List.set_cons_zero, List.set_cons_succ])
        refine wpAnyH_take (i := 32) (oi := { dst := some 178, op := Go.Op.pick (Go.Operand.tmp 168) (Go.Operand.const (Go.Value.bool true)) (Go.Operand.tmp 177), type := 4, pos := "law.go:76", after := #[{ on := 22, ground := Go.Ground.data }, { on := 31, ground := Go.Ground.data }], guard := none }) (v := ?_) rfl (by kernel_rfl) (by kernel_rfl) (by kernel_rfl) (fun _ _ _ h => h) (Or.inl ⟨by rfl, ?_⟩) (by assumption) ?_
        rotate_left
        · (intro w hSw; (try dsimp only at hSw); go_simp; (try with_reducible rfl))
        (try simp only [Act.put, List.setIfInBounds_toArray, List.set_cons_zero, List.set_cons_succ])
        refine wpAnyH_take (i := 33) (oi := { dst := some 179, op := Go.Op.move (Go.Operand.tmp 178), type := 4, pos := "law.go:76", after := #[{ on := 32, ground := Go.Ground.data }, { on := 30, ground := Go.Ground.chain }], guard := none }) (v := ?_) rfl (by kernel_rfl) (by kernel_rfl) (by kernel_rfl) (fun _ _ _ h => h) (Or.inl ⟨by rfl, ?_⟩) (by assumption) ?_
        rotate_left
        · (intro w hSw; (try dsimp only at hSw); go_simp; (try with_reducible rfl))
        (try simp only [Act.put, List.setIfInBounds_toArray, List.set_cons_zero, List.set_cons_succ])
        refine wpAnyH_take (i := 34) (oi := { dst := some 180, op := Go.Op.move (Go.Operand.tmp 5), type := 25, pos := "law.go:76", after := #[{ on := 33, ground := Go.Ground.guard }], guard := some (33, false) }) (v := ?_) rfl (by kernel_rfl) (by kernel_rfl) (by kernel_rfl) (fun _ _ _ h => h) (Or.inl ⟨by rfl, ?_⟩) (by assumption) ?_
        rotate_left
        · (intro w hSw; (try dsimp only at hSw); go_simp; (try with_reducible rfl))
        (try simp only [Act.put, List.setIfInBounds_toArray, List.set_cons_zero, List.set_cons_succ])
        refine wpAnyH_take (i := 36) (oi := { dst := some 182, op := Go.Op.load 29 (Go.Operand.tmp 6), type := 29, pos := "law.go:76", after := #[{ on := 33, ground := Go.Ground.guard }], guard := some (33, false) }) (v := ?_) rfl (by kernel_rfl) (by kernel_rfl) (by kernel_rfl) (fun _ _ _ h => h) (Or.inl ⟨by rfl, ?_⟩) (by assumption) ?_
        rotate_left
        · (intro w hSw; (try dsimp only at hSw); go_simp; (try with_reducible rfl))
        (try simp only [Act.put, List.setIfInBounds_toArray, List.set_cons_zero, List.set_cons_succ])
        refine wpAnyH_ready (rs := [35]) (by kernel_rfl) (by simp) ?_
        refine AllReadyH.cons (o := { dst := some 181, op := Go.Op.call { callee := Go.Callee.value (Go.Operand.func 30), args := #[Go.Operand.tmp 180], argTypes := #[25] }, type := 47, pos := "law.go:76", after := #[{ on := 34, ground := Go.Ground.data }, { on := 33, ground := Go.Ground.chain }, { on := 33, ground := Go.Ground.guard }], guard := some (33, false) }) rfl (fun K hK => ?_) AllReadyH.nil
        go_simp
        refine (ghosts_ca wd2 c T s (k + 1) Sd.out.st.live.ca).mono ?_
        rintro e we2 ⟨ve, rfl, hO, hB⟩
        have Se := Lib.hid (Sd.out.below hB)
        have Oe := Lib.hid hO
        clear hO hB
        go_wp2_with fail
        refine hK.out _ _ ?_ (fun hHeld => ?_)
        · exact ⟨Se.out.k.2.1, Se.out.st.box.c.1, Se.out.st.box.c.2.1, Se.out.st.box.c.2.2.1, Se.out.st.box.c.2.2.2.1, Se.out.st.box.c.2.2.2.2⟩
        clear hK K
        (try simp only [Act.put, List.setIfInBounds_toArray, List.set_cons_zero, List.set_cons_succ])
        refine wpAnyH_ready (rs := [37]) (by kernel_rfl) (by simp) ?_
        refine AllReadyH.cons (o := { dst := some 183, op := Go.Op.call { callee := Go.Callee.value (Go.Operand.func 31), args := #[Go.Operand.tmp 182], argTypes := #[29] }, type := 47, pos := "law.go:76", after := #[{ on := 36, ground := Go.Ground.data }, { on := 35, ground := Go.Ground.chain }, { on := 33, ground := Go.Ground.guard }], guard := some (33, false) }) rfl (fun K hK => ?_) AllReadyH.nil
        go_simp
        refine (ghosts_ref we2 (Aside T bm) n1 a1 g1 s Se.out.st.rows HOK.out (by omega)).mono ?_
        rintro e wf ⟨vf, rfl, hO, hB⟩
        have Sf := Lib.hid (Se.out.below hB)
        have Uf := Lib.hid (same_of Oe.out hO hB)
        clear hO hB
        go_wp2_with fail
        refine hK.out _ _ ?_ (fun hHeld => ?_)
        · exact ⟨Sf.out.k.2.1, Sf.out.st.box.c.1, Sf.out.st.box.c.2.1, Sf.out.st.box.c.2.2.1, Sf.out.st.box.c.2.2.2.1, Sf.out.st.box.c.2.2.2.2⟩
        clear hK K
        (try simp only [Act.put, List.setIfInBounds_toArray, List.set_cons_zero, List.set_cons_succ])
        refine wpAnyH_ready (rs := [38]) (by kernel_rfl) (by simp) ?_
        refine AllReadyH.cons (o := { dst := some 184, op := Go.Op.call { callee := Go.Callee.value (Go.Operand.func 22), args := #[Go.Operand.tmp 181, Go.Operand.tmp 183], argTypes := #[47, 47] }, type := 4, pos := "law.go:76", after := #[{ on := 35, ground := Go.Ground.data }, { on := 37, ground := Go.Ground.data }, { on := 37, ground := Go.Ground.chain }, { on := 33, ground := Go.Ground.guard }], guard := some (33, false) }) rfl (fun K hK => ?_) AllReadyH.nil
        go_simp
        refine Uf.out.mono ?_
        rintro e wg ⟨rfl, qg, hwg⟩
        have hbg : Below wf.heap.size wf wg := hwg ▸ below_drewN _ qg
        have Sg := Lib.hid (Sf.out.below hbg)
        clear hbg hwg
        go_wp2_with fail
        refine hK.out _ _ ?_ (fun hHeld => ?_)
        · exact ⟨Sg.out.k.2.1, Sg.out.st.box.c.1, Sg.out.st.box.c.2.1, Sg.out.st.box.c.2.2.1, Sg.out.st.box.c.2.2.2.1, Sg.out.st.box.c.2.2.2.2⟩
        clear hK K
        (try simp only [Act.put, List.setIfInBounds_toArray, List.set_cons_zero, List.set_cons_succ])
        refine wpAnyH_take (i := 39) (oi := { dst := some 185, op := Go.Op.unOp Go.UnOp.not 4 (Go.Operand.tmp 184), type := 4, pos := "law.go:76", after := #[{ on := 38, ground := Go.Ground.data }, { on := 33, ground := Go.Ground.guard }], guard := some (33, false) }) (v := ?_) rfl (by kernel_rfl) (by kernel_rfl) (by kernel_rfl) (fun _ _ _ h => h) (Or.inl ⟨by rfl, ?_⟩) (by assumption) ?_
        rotate_left
        · (intro w hSw; (try dsimp only at hSw); go_simp; (try with_reducible rfl))
        (try simp only [Act.put, List.setIfInBounds_toArray, List.set_cons_zero, List.set_cons_succ])
        refine wpAnyH_take (i := 40) (oi := { dst := some 186, op := Go.Op.pick (Go.Operand.tmp 179) (Go.Operand.const (Go.Value.bool true)) (Go.Operand.tmp 185), type := 4, pos := "law.go:76", after := #[{ on := 33, ground := Go.Ground.data }, { on := 39, ground := Go.Ground.data }], guard := none }) (v := ?_) rfl (by kernel_rfl) (by kernel_rfl) (by kernel_rfl) (fun _ _ _ h => h) (Or.inl ⟨by rfl, ?_⟩) (by assumption) ?_
        rotate_left
        · (intro w hSw; (try dsimp only at hSw); go_simp; (try with_reducible rfl))
        (try simp only [Act.put, List.setIfInBounds_toArray, List.set_cons_zero, List.set_cons_succ])
        refine wpAnyH_take (i := 41) (oi := { dst := some 187, op := Go.Op.move (Go.Operand.tmp 186), type := 4, pos := "law.go:76", after := #[{ on := 40, ground := Go.Ground.data }, { on := 38, ground := Go.Ground.chain }], guard := none }) (v := ?_) rfl (by kernel_rfl) (by kernel_rfl) (by kernel_rfl) (fun _ _ _ h => h) (Or.inl ⟨by rfl, ?_⟩) (by assumption) ?_
        rotate_left
        · (intro w hSw; (try dsimp only at hSw); go_simp; (try with_reducible rfl))
        (try simp only [Act.put, List.setIfInBounds_toArray, List.set_cons_zero, List.set_cons_succ])
        refine wpAnyH_take (i := 42) (oi := { dst := some 188, op := Go.Op.move (Go.Operand.tmp 5), type := 25, pos := "law.go:76", after := #[{ on := 41, ground := Go.Ground.guard }], guard := some (41, false) }) (v := ?_) rfl (by kernel_rfl) (by kernel_rfl) (by kernel_rfl) (fun _ _ _ h => h) (Or.inl ⟨by rfl, ?_⟩) (by assumption) ?_
        rotate_left
        · (intro w hSw; (try dsimp only at hSw); go_simp; (try with_reducible rfl))
        (try simp only [Act.put, List.setIfInBounds_toArray, List.set_cons_zero, List.set_cons_succ])
        refine wpAnyH_take (i := 44) (oi := { dst := some 190, op := Go.Op.fieldAddr 29 (Go.Operand.tmp 6) 1, type := 0, pos := "law.go:76", after := #[{ on := 41, ground := Go.Ground.guard }], guard := some (41, false) }) (v := ?_) rfl (by kernel_rfl) (by kernel_rfl) (by kernel_rfl) (fun _ _ _ h => h) (Or.inl ⟨by rfl, ?_⟩) (by assumption) ?_
        rotate_left
        · (intro w hSw; (try dsimp only at hSw); go_simp; (try with_reducible rfl))
        (try simp only [Act.put, List.setIfInBounds_toArray, List.set_cons_zero, List.set_cons_succ])
        refine wpAnyH_take (i := 45) (oi := { dst := some 191, op := Go.Op.load 3 (Go.Operand.tmp 190), type := 3, pos := "law.go:76", after := #[{ on := 44, ground := Go.Ground.data }, { on := 41, ground := Go.Ground.guard }], guard := some (41, false) }) (v := ?_) rfl (by kernel_rfl) (by kernel_rfl) (by kernel_rfl) (fun _ _ _ h => h) (Or.inl ⟨by rfl, ?_⟩) (by assumption) ?_
        rotate_left
        · (intro w hSw; (try dsimp only at hSw); go_simp; (try with_reducible rfl))
        (try simp only [Act.put, List.setIfInBounds_toArray, List.set_cons_zero, List.set_cons_succ])
        refine wpAnyH_ready (rs := [43]) (by kernel_rfl) (by simp) ?_
        refine AllReadyH.cons (o := { dst := some 189, op := Go.Op.call { callee := Go.Callee.value (Go.Operand.func 32), args := #[Go.Operand.tmp 188], argTypes := #[25] }, type := 3, pos := "law.go:76", after := #[{ on := 42, ground := Go.Ground.data }, { on := 41, ground := Go.Ground.chain }, { on := 41, ground := Go.Ground.guard }], guard := some (41, false) }) rfl (fun K hK => ?_) AllReadyH.nil
        go_simp
        refine (target_ca wg c T s (k + 1) Sg.out.st.live.ca).mono ?_
        rintro e wx ⟨rfl, rfl⟩
        go_wp2_with fail
        refine hK.out _ _ ?_ (fun hHeld => ?_)
        · exact hHeld
        clear hK K
        (try simp only [Act.put, List.setIfInBounds_toArray, List.set_cons_zero, List.set_cons_succ])
        refine wpAnyH_take (i := 46) (oi := { dst := some 192, op := Go.Op.binOp Go.BinOp.neq 3 (Go.Operand.tmp 189) (Go.Operand.tmp 191) 3, type := 4, pos := "law.go:76", after := #[{ on := 43, ground := Go.Ground.data }, { on := 45, ground := Go.Ground.data }, { on := 41, ground := Go.Ground.guard }], guard := some (41, false) }) (v := ?_) rfl (by kernel_rfl) (by kernel_rfl) (by kernel_rfl) (fun _ _ _ h => h) (Or.inl ⟨by rfl, ?_⟩) (by assumption) ?_
        rotate_left
        · (intro w hSw; (try dsimp only at hSw); go_simp; (try with_reducible rfl))
        (try simp only [Act.put, List.setIfInBounds_toArray, List.set_cons_zero, List.set_cons_succ])
        refine wpAnyH_take (i := 47) (oi := { dst := some 193, op := Go.Op.pick (Go.Operand.tmp 187) (Go.Operand.const (Go.Value.bool true)) (Go.Operand.tmp 192), type := 4, pos := "law.go:76", after := #[{ on := 41, ground := Go.Ground.data }, { on := 46, ground := Go.Ground.data }], guard := none }) (v := ?_) rfl (by kernel_rfl) (by kernel_rfl) (by kernel_rfl) (fun _ _ _ h => h) (Or.inl ⟨by rfl, ?_⟩) (by assumption) ?_
        rotate_left
        · (intro w hSw; (try dsimp only at hSw); go_simp; (try with_reducible rfl))
        (try simp only [Act.put, List.setIfInBounds_toArray, List.set_cons_zero, List.set_cons_succ])
        refine wpAnyH_take (i := 48) (oi := { dst := some 194, op := Go.Op.move (Go.Operand.tmp 193), type := 4, pos := "law.go:76", after := #[{ on := 47, ground := Go.Ground.data }, { on := 43, ground := Go.Ground.chain }], guard := none }) (v := ?_) rfl (by kernel_rfl) (by kernel_rfl) (by kernel_rfl) (fun _ _ _ h => h) (Or.inl ⟨by rfl, ?_⟩) (by assumption) ?_
        rotate_left
        · (intro w hSw; (try dsimp only at hSw); go_simp; (try with_reducible rfl))
        (try simp only [Act.put, List.setIfInBounds_toArray, List.set_cons_zero, List.set_cons_succ])
        refine wpAnyH_take (i := 49) (oi := { dst := some 195, op := Go.Op.move (Go.Operand.tmp 5), type := 25, pos := "law.go:76", after := #[{ on := 48, ground := Go.Ground.guard }], guard := some (48, false) }) (v := ?_) rfl (by kernel_rfl) (by kernel_rfl) (by kernel_rfl) (fun _ _ _ h => h) (Or.inl ⟨by rfl, ?_⟩) (by assumption) ?_
        rotate_left
        · (intro w hSw; (try dsimp only at hSw); go_simp; (try with_reducible rfl))
        (try simp only [Act.put, List.setIfInBounds_toArray, List.set_cons_zero, List.set_cons_succ])
        refine wpAnyH_take (i := 51) (oi := { dst := some 197, op := Go.Op.fieldAddr 29 (Go.Operand.tmp 6) 3, type := 0, pos := "law.go:76", after := #[{ on := 48, ground := Go.Ground.guard }], guard := some (48, false) }) (v := ?_) rfl (by kernel_rfl) (by kernel_rfl) (by kernel_rfl) (fun _ _ _ h => h) (Or.inl ⟨by rfl, ?_⟩) (by assumption) ?_
        rotate_left
        · (intro w hSw; (try dsimp only at hSw); go_simp; (try with_reducible rfl))
        (try simp only [Act.put, List.setIfInBounds_toArray, List.set_cons_zero, List.set_cons_succ])
        refine wpAnyH_take (i := 52) (oi := { dst := some 198, op := Go.Op.load 27 (Go.Operand.tmp 197), type := 27, pos := "law.go:76", after := #[{ on := 51, ground := Go.Ground.data }, { on := 48, ground := Go.Ground.guard }], guard := some (48, false) }) (v := ?_) rfl (by kernel_rfl) (by kernel_rfl) (by kernel_rfl) (fun _ _ _ h => h) (Or.inl ⟨by rfl, ?_⟩) (by assumption) ?_
        rotate_left
        · (intro w hSw; (try dsimp only at hSw); go_simp; (try with_reducible rfl))
        (try simp only [Act.put, List.setIfInBounds_toArray, List.set_cons_zero, List.set_cons_succ])
        refine wpAnyH_take (i := 53) (oi := { dst := some 199, op := Go.Op.call { callee := Go.Callee.builtin Go.Builtin.len, args := #[Go.Operand.tmp 198], argTypes := #[27] }, type := 3, pos := "law.go:76", after := #[{ on := 52, ground := Go.Ground.data }, { on := 48, ground := Go.Ground.guard }], guard := some (48, false) }) (v := ?_) rfl (by kernel_rfl) (by kernel_rfl) (by kernel_rfl) (fun _ _ _ h => h) (Or.inl ⟨by rfl, ?_⟩) (by assumption) ?_
        rotate_left
        · (intro w hSw; (try dsimp only at hSw); go_simp; (try with_reducible rfl))
        (try simp only [Act.put, List.setIfInBounds_toArray, List.set_cons_zero, List.set_cons_succ])
        refine wpAnyH_ready (rs := [50]) (by kernel_rfl) (by simp) ?_
        refine AllReadyH.cons (o := { dst := some 196, op := Go.Op.call { callee := Go.Callee.value (Go.Operand.func 33), args := #[Go.Operand.tmp 195], argTypes := #[25] }, type := 3, pos := "law.go:76", after := #[{ on := 49, ground := Go.Ground.data }, { on := 48, ground := Go.Ground.chain }, { on := 48, ground := Go.Ground.guard }], guard := some (48, false) }) rfl (fun K hK => ?_) AllReadyH.nil
        go_simp
        refine (HAN.out ▸ again_ca wg c T s (k + 1) Sg.out.st.live.ca : Calls Try.prog 33 #[.pointer (some ⟨c, 0, none⟩)] wg (IntPost (a1.n : Int) wg)).mono ?_
        rintro e wx ⟨rfl, rfl⟩
        go_wp2_with fail
        refine hK.out _ _ ?_ (fun hHeld => ?_)
        · exact hHeld
        clear hK K
        (try simp only [Act.put, List.setIfInBounds_toArray, List.set_cons_zero, List.set_cons_succ])
        refine wpAnyH_take (i := 54) (oi := { dst := some 200, op := Go.Op.binOp Go.BinOp.neq 3 (Go.Operand.tmp 196) (Go.Operand.tmp 199) 3, type := 4, pos := "law.go:76", after := #[{ on := 50, ground := Go.Ground.data }, { on := 53, ground := Go.Ground.data }, { on := 48, ground := Go.Ground.guard }], guard := some (48, false) }) (v := ?_) rfl (by kernel_rfl) (by kernel_rfl) (by kernel_rfl) (fun _ _ _ h => h) (Or.inl ⟨by rfl, ?_⟩) (by assumption) ?_
        rotate_left
        · (intro w hSw; (try dsimp only at hSw); go_simp; (try with_reducible rfl))
        (try simp only [Act.put, List.setIfInBounds_toArray, List.set_cons_zero, List.set_cons_succ])
        refine wpAnyH_take (i := 55) (oi := { dst := some 201, op := Go.Op.pick (Go.Operand.tmp 194) (Go.Operand.const (Go.Value.bool true)) (Go.Operand.tmp 200), type := 4, pos := "law.go:76", after := #[{ on := 48, ground := Go.Ground.data }, { on := 54, ground := Go.Ground.data }], guard := none }) (v := ?_) rfl (by kernel_rfl) (by kernel_rfl) (by kernel_rfl) (fun _ _ _ h => h) (Or.inl ⟨by rfl, ?_⟩) (by assumption) ?_
        rotate_left
        · (intro w hSw; (try dsimp only at hSw); go_simp; (try with_reducible rfl))
        (try simp only [Act.put, List.setIfInBounds_toArray, List.set_cons_zero, List.set_cons_succ])
        refine wpAnyH_done (by kernel_rfl) ?_ _
        refine NoPanic.normal ?_
        clear hHeld S9 O9 Sa Sb Sc Sd Se Sf Oa Oe Ua Uf
        go_wp2_with fail
        go_roundg (n - (k + 1))
        case measure => have := HGK.out; omega
        case rel => exact ⟨k + 1, T, s, _, _, _, rfl, by go_num, by omega, Sg.out.st⟩
    · have e0 : decide (k < n) = false := by simpa using hlt
      go_wp2_with fail
      go_ret
      exact ⟨rfl, HPy.out.live.bel⟩

theorem walk_srlruPlays (a0 : Int) (v1 : Value) (w : World) (w0 : (Lit.int .i64 a0).wf = true) (w1 : CameA w v1) : Calls Try.prog 3 #[.int .i64 a0, v1] w (RetB true w) := by
  obtain ⟨A, n, c, rfl, hn, K, S, N, hr, hc⟩ := w1
  exact plays_main a0 A n c w K S N (i64_rng w0) hn hr hc

namespace LSrlruPlays
set_option maxRecDepth 100000 in
theorem lifted (os : Os) (started : os.Started) (H : Type) (enc : TypeId × Value → H) :
    ReturnsInHanded {} Try.checked os 3 .any (Rows.srlruPlaysSpec.pre6 enc Try.prog Try.f3 Rows.srlruPlaysRow.domain false) (Rows.srlruPlaysSpec.post enc Try.prog Try.f3 false true false false) := by
  refine returnsInHanded_of_change (C := Try.checked) own started (by kernel_rfl) Try.func3
    (ChangeSpec.witness6 (enc := enc) (C := Try.checked) false ⟨#[], #[.int .i64 0, .slice none 0 0], []⟩ 8 (by kernel_rfl) (by kernel_rfl) (by kernel_rfl) (by kernel_rfl)) ?_
  intro W base args ds gs before hval0 hW _ _
  have hval : ∀ (j : Nat) t v, Try.f3.params[j]? = some t → args[j]? = some v → Value.okWide Try.prog W .any base t v := hval0
  have hW' := hW
  obtain ⟨p, q, hA0, hV, rfl, hfz, hnd⟩ := hW
  have hA : DataW.TrodAll enc Try.prog W 0 (fun _ => true) true Try.f3.params.toList args.toList ds p := hA0
  rw [Try.params3] at hA hval
  obtain ⟨v0, vs0, d0, ds0, p0, q0, hargs, rfl, rfl, h0, r0⟩ := trodAll_cons hA
  obtain ⟨v1, vs1, d1, ds1, p1, q1, rfl, rfl, rfl, h1, r1⟩ := trodAll_cons r0
  obtain ⟨rfl, rfl, rfl⟩ := trodAll_nil r1
  obtain rfl : args = #[v0, v1] := by cases args; simp_all
  obtain ⟨rfl, rfl⟩ := trodVars_none hV
  obtain ⟨a0, rfl, rfl, rfl, w0⟩ := open_int Try.underlying3 (hval 0 3 v0 rfl rfl) h0
  have k1 := h1
  have lt1 : ∀ x ∈ p1, x.block < W.heap.size := by obtain ⟨m, hm⟩ := k1; exact DataW.trod_lt m _ _ _ hm
  have w1 := open_a (hval 1 22 v1 rfl rfl) h1
  clear hA0 hval0
  refine (walk_srlruPlays a0 v1 W w0 w1).mono fun e W' ⟨he, bel⟩ => ?_
  subst he
  exact ⟨_, rfl, _, _, _, [], _, [], hW', trodAll_mk1 (shut_bool Try.underlying4 _), (trodAll_cons_mk (shut_int Try.underlying3 w0) (trodAll_cons_mk (Below.trod laidOut (by kernel_rfl) (of_decide_eq_true (by kernel_rfl)) k1 bel lt1) trodAll_mk0)), rfl, bel.frame _, fun h => by cases h⟩

theorem said : Rows.SrlruPlaysSaid :=
  OpenClaim.holds_of_wide 3 Try.f3 rfl rfl rfl rfl rfl rfl rfl ⟨rfl, rfl, rfl, rfl, rfl⟩ rfl rfl rfl rfl rfl (by kernel_rfl) Try.func3 (by kernel_rfl)
    (of_decide_eq_true (by kernel_rfl)) (by unfold Func.isWrapper; rw [if_neg (of_decide_eq_false (by kernel_rfl))]; exact ⟨rfl, rfl⟩)
    (fun os started H enc _ => lifted os started H enc)
#print axioms said
end LSrlruPlays
end Go.Proofs.Ytmnflcidcoejiaa
