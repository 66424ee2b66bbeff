/- 'cachewiselaw06.LfuPlays' returns true for every size, either way and every row of calls, and leaves what was there as it was. No condition. -/
import Derived.Test.YtdbfojolocelaaaPlay6
import Derived.Deep.LoopGhost
import Derived.Deep.DeepCutAuto
import Derived.Deep.CutBlock
import Derived.Deep.RegionHeld3
namespace Go.Proofs.Ytdbfojolocelaaa
open Go.ChangeShapes Go.WideShapes Go.ChangeAt Go.RowKit Ht HS Lf
open Go.ChangeMaps (open_string shut_string)

def PyR (n c bm : Nat) (ch : Bool) (w0 : World) (g : Nat) (i : Value) (W : World) : Prop := ∃ (k : Nat) (T : Nat → Prop) (mo : Nat) (L : List (Ent Key)) (q : Nat) (v : Value) (B : List (Ent Key)), g = n - k ∧ i = .int .i64 (k : Int) ∧ k ≤ n ∧ q ≤ k ∧ PyS w0 W c T bm mo ch L q mo v B ∧ By ch L B q
def PyM (k c bm : Nat) (ch : Bool) (w0 : World) (ga : Nat) (kd : Int) (key : ByteArray) (nn : Int) (W : World) : Prop := ∃ (T : Nat → Prop) (mo : Nat) (L : List (Ent Key)) (q : Nat) (v : Value) (B : List (Ent Key)), q ≤ k + 1 ∧ PyA w0 W c T bm mo ch L q mo v B ga kd key nn ∧ By ch L B q
theorem same_of {w4 w5 : World} {b4 b5 : Nat} {v4 v5 : Value} {xs : List ByteArray} (o4 : Own w4 b4 v4 xs) (o5 : Own w5 b5 v5 xs) (hb : Below w4.heap.size w4 w5) : Calls Try.prog 22 #[v4, v5] w5 (SamePost true w5) := by
  obtain ⟨g4, _, h4⟩ := o4.row
  obtain ⟨g5, _, h5⟩ := o5.row
  exact refSame_self w5 g4 g5 _ _ _ (h4.below hb) h5

set_option maxHeartbeats 16000000 in
set_option maxRecDepth 100000 in
theorem plays_main (z : Int) (ch : Bool) (A : Option Addr) (n cc : Nat) (w : World) (K : Nat → Int) (S : Nat → ByteArray) (N : Nat → Int) (hz : -9223372036854775808 ≤ z ∧ z ≤ 9223372036854775807) (hn : n ≤ maxLen) (hS : ∀ i, i < n → (-9223372036854775808 ≤ N i ∧ N i ≤ 9223372036854775807) ∧ (S i).size ≤ maxLen)
    (hc : 0 < n → ∃ g o, A = some ⟨g, o, none⟩ ∧ g < w.heap.size ∧ n ≤ cc ∧ cc ≤ maxLen ∧ ∀ i, i < n → w.cell? ⟨g, o + i * 3, none⟩ = some (.int .i64 (K i)) ∧ w.cell? ⟨g, o + i * 3 + 1, none⟩ = some (.string (S i)) ∧ w.cell? ⟨g, o + i * 3 + 2, none⟩ = some (.int .i64 (N i))) :
    Calls Try.prog 3 #[.int .i64 z, .bool ch, .slice A n cc] w (RetB true w) := by
  have g34 := guard34
  have n34 := neq34
  have HC := Lib.hid hc
  have HS := Lib.hid hS
  have HN := Lib.hid hn
  clear hc hS hn
  go_enter Try.func3, Try.ntmps3
  go_wp2_with fail
  refine (awake_any _).mono ?_
  rintro e w0 ⟨rfl, hb0⟩
  have b0 := Lib.hid hb0; clear hb0
  go_wp2_with fail
  refine (few_any A n cc w0 S HN.out (fun i hi => (HS.out i hi).2) (fun h => by
    obtain ⟨g, o, h1, h2, h3, h4, h5⟩ := HC.out h
    exact ⟨g, o, h1, Nat.lt_of_lt_of_le h2 b0.out.size, h3, h4, fun i hi => (b0.out.cell (p := ⟨g, o + i * 3 + 1, none⟩) h2).trans (h5 i hi).2.1⟩)).mono ?_
  rintro e w0 ⟨t, rfl, rfl, ht⟩
  cases t with
  | false =>
    go_wp2_with fail
    go_ret
    exact ⟨rfl, b0.out⟩
  | true =>
  have hn := ht rfl
  clear ht
  go_wp2_with fail
  obtain ⟨mo0, hmo⟩ : ∃ m, m = z.toNat := ⟨_, rfl⟩
  refine (hmo ▸ new_ca w0 z ch hz : Calls Try.prog 10 #[.int .i64 z, .bool ch] w0 (NewC mo0 ch w0)).mono ?_
  rintro e w1 ⟨c, T1, rfl, hC, hT, hB⟩
  have L1 := Lib.hid (Live.made b0.out hC hT hB)
  have HMO := Lib.hid hmo
  clear hC hT hB b0 hmo
  go_wp2_with fail
  refine (HMO.out ▸ rnew_any w1 z ch hz : Calls Try.prog 11 #[.int .i64 z, .bool ch] w1 (RNew mo0 ch w1)).mono ?_
  rintro e w2 ⟨rfl, hB⟩
  have L2 := L1.out.below hB
  have hb3 := (Below.refl w2.heap.size w2).alloc (Nat.le_refl _) (cObj mo0 ch (.slice none 0 0))
  have S1 := Lib.hid (show PyS w (w2.alloc (cObj mo0 ch (.slice none 0 0))) c T1 w2.heap.size mo0 ch [] 0 mo0 (.slice none 0 0) [] from
    ⟨L2.below hb3, heap_alloc_new _ _, ⟨w2.heap.size + 1, ZRow.nil _ _ _ _, fun hk => by have := L2.lt _ hk; omega, by omega⟩, fun hk => by have := L2.lt _ hk; omega, L2.bel.size⟩)
  clear hB L1 L2 hb3
  go_wp2_with fail
  generalize w2.heap.size = bm at S1 ⊢
  go_loopg [9] n (fun g i W => PyR n c bm ch w g i W)
  case atStart => exact ⟨0, T1, mo0, [], 0, _, [], by omega, rfl, Nat.zero_le _, Nat.le_refl _, S1.out, By.start ch⟩
  case round =>
    obtain ⟨k, T, mo, L, q, v, B, hgk, rfl, hk, hq, hS, hY⟩ := hrel
    have HGK := Lib.hid hgk
    have HPy := Lib.hid hS
    have YY := Lib.hid hY
    clear hgk hS S1 hY
    by_cases hlt : k < n
    · have e0 : decide (k < n) = true := by simpa using hlt
      obtain ⟨g, o, rfl, hg, hc1, hc2, hcell⟩ := HC.out (by omega)
      have hc3 := hcell k hlt
      have h1 := (HPy.out.live.bel.cell (p := ⟨g, o + k * 3, none⟩) hg).trans hc3.1
      have h2 := (HPy.out.live.bel.cell (p := ⟨g, o + k * 3 + 1, none⟩) hg).trans hc3.2.1
      have h3 := (HPy.out.live.bel.cell (p := ⟨g, o + k * 3 + 2, none⟩) hg).trans hc3.2.2
      have hsk := (HS.out k hlt).2
      have hnk := (HS.out k hlt).1
      clear hcell hc3
      unfold maxLen at hc2
      have S2 := Lib.hid (HPy.out.alloc (K k) (S k) (N k))
      go_upto_block 2 with fail
      clear h1 h2 h3
      generalize wr.alloc (.cells #[.int .i64 (K k), .string (S k), .int .i64 (N k)] 32) = w2 at S2 ⊢
      generalize wr.heap.size = ga at S2 ⊢
      generalize S k = key at S2 hsk ⊢
      generalize K k = kd at S2 ⊢
      generalize N k = nn at S2 hnk ⊢
      go_cut [] (fun W => PyM k c bm ch w ga kd key nn W)
      case first =>
        as_aux_lemma =>
        obtain ⟨gm, hgm, hgT, hgb⟩ := S2.out.st.row
        obtain ⟨Am, cm, rfl⟩ := hgm.shape
        obtain ⟨d0, d1, d2⟩ := S2.out.k
        obtain ⟨m0, m1, m2⟩ := S2.out.st.box.c
        obtain ⟨f0, f1, f2⟩ := S2.out.st.box.f
        have hlm := S2.out.st.live.ca.le.1
        have htop := S2.out.st.live.ca.top
        have hbl : B.length ≤ 300 := by have := YY.out.len; have := once_len YY.out.once; omega
        have HGM := Lib.hid (And.intro hgT hgb)
        have RM := Lib.hid hgm
        have HOK := Lib.hid S2.out.st.live.ca.ok
        obtain ⟨ml, hml⟩ : ∃ ml, B.length = ml := ⟨_, rfl⟩
        have HML := Lib.hid hml
        rw [hml] at m2 S2 RM hbl
        clear hgm hgT hgb HPy hml
        cases c0 : (kd == 0) with
        | true =>
          obtain ⟨U, Y2⟩ := rq_any w2 gm mo ch Am ml cm L B q key RM.out HML.out (by omega) htop YY.out (by omega) hsk hlm
          have V := fun (W : World) (T : Nat → Prop) (hC : Ca W c T mo ch L q) => request_ca W c T mo ch L q key hC hsk (by omega)
          have hqn := reqN_le mo q
          unfold stepV at U V
          generalize hitB mo L key = th at U V
          generalize vicK mo L key = tv at U V
          generalize outB mo L key = tz at U V
          generalize reqZ ch mo q L B key = B2 at U Y2
          generalize reqL ch mo q L key = L2 at V Y2
          generalize reqN mo q = q2 at V Y2 hqn
          have U := Lib.hid U
          have V := Lib.hid V
          have Y2 := Lib.hid Y2
          go_wp2_with fail
          refine U.out.mono ?_
          rintro e w3 ⟨A3, n3, c3, rfl, ⟨g3, hr3, hg3⟩, hm3, hB3⟩
          have R3 := Lib.hid hr3
          have B3 := Lib.hid (S2.out.beside HGM.out.1 HGM.out.2 hg3)
          have S3 := Lib.hid (S2.out.below hB3)
          clear hr3 hg3 hB3 U d0 d1 d2 m0 m1 m2 f0 f1 f2 S2 RM hm3
          go_upto_region 16 with fail
          have hb4 : Below w3.heap.size w3 ((w3.alloc (cObj mo ch (.slice A3 n3 c3))).alloc (.cells #[.bool th, .string tv, .bool tz] 34)) := ((Below.refl _ _).alloc (Nat.le_refl _) _).alloc (by simp) _
          have k9 : CBox ((w3.alloc (cObj mo ch (.slice A3 n3 c3))).alloc (.cells #[.bool th, .string tv, .bool tz] 34)) w3.heap.size mo ch (.slice A3 n3 c3) := (Below.heap_alloc _ _ _ (by simp)).trans (heap_alloc_new _ _)
          have k10 : Box ((w3.alloc (cObj mo ch (.slice A3 n3 c3))).alloc (.cells #[.bool th, .string tv, .bool tz] 34)) (w3.heap.size + 1) th tv tz := by
            have := heap_alloc_new (w3.alloc (cObj mo ch (.slice A3 n3 c3))) (.cells #[.bool th, .string tv, .bool tz] 34)
            rw [show (w3.alloc (cObj mo ch (.slice A3 n3 c3))).heap.size = w3.heap.size + 1 by simp] at this
            exact this
          have f10 := S3.out.fresh (g := w3.heap.size + 1) (by omega)
          have f9 := S3.out.fresh (g := w3.heap.size) (Nat.le_refl _)
          have S4 := Lib.hid (S3.out.below hb4)
          have R4 := Lib.hid (R3.out.below hb4)
          clear hb4 R3 S3
          generalize ((w3.alloc (cObj mo ch (.slice A3 n3 c3))).alloc (.cells #[.bool th, .string tv, .bool tz] 34)) = w4 at S4 R4 k9 k10 ⊢
          generalize w3.heap.size + 1 = z10 at k10 f10 ⊢
          generalize w3.heap.size = z9 at k9 f9 ⊢
          obtain ⟨x0, x1, x2⟩ := k9.c
          obtain ⟨m0, m1, m2⟩ := S4.out.st.box.c
          obtain ⟨f0, f1, f2⟩ := S4.out.st.box.f
          have S5 := Lib.hid (S4.out.set R4.out B3.out.1 B3.out.2 mo)
          have K5 := Lib.hid (show Box (((w4.setCell ⟨bm, 0, none⟩ (.int .i64 (mo : Int))).setCell ⟨bm, 1, none⟩ (.bool ch)).setCell ⟨bm, 2, none⟩ (.slice A3 n3 c3)) z10 th tv tz from ((k10.other f10.2.1 _).other f10.2.1 _).other f10.2.1 _)
          clear k9 k10 S4 R4
          go_upto_region 17 with fail
          clear x0 x1 x2 m0 m1 m2 f0 f1 f2
          generalize ((w4.setCell ⟨bm, 0, none⟩ (.int .i64 (mo : Int))).setCell ⟨bm, 1, none⟩ (.bool ch)).setCell ⟨bm, 2, none⟩ (.slice A3 n3 c3) = w5 at S5 K5 ⊢
          obtain ⟨_, d1, _⟩ := S5.out.k
          obtain ⟨q0, q1, q2', _, _, _⟩ := K5.out.six
          have SD := Lib.hid S5.out.drew
          have KD := Lib.hid (show Box w5.drew z10 th tv tz from K5.out)
          clear S5 K5
          go_region_held3 (fun w' => w'.cell? ⟨ga, 1, none⟩ = some (.string key) ∧ w'.cell? ⟨z10, 0, none⟩ = some (.bool th) ∧ w'.cell? ⟨z10, 1, none⟩ = some (.string tv) ∧ w'.cell? ⟨z10, 2, none⟩ = some (.bool tz)) (first | (exact ⟨‹_›, ‹_›, ‹_›, ‹_›⟩) | go_keep)
            (first
              | (go_at_call 13; refine (V.out _ _ SD.out.st.live.ca).mono ?_; intro e w6 hp; obtain ⟨q3, q4, q5, _, _, _⟩ := (SD.out.opBox KD.out f10.1 hp).six; obtain ⟨rfl, T6, h6⟩ := SD.out.op hp; obtain ⟨_, d3, _⟩ := h6.k; have S6 := Lib.hid h6; clear hp h6))
          all_goals
            go_wp2_with fail
            go_meet
            exact ⟨T6, mo, _, _, _, _, by omega, S6.out, Y2.out⟩
        | false =>
        cases c1 : (kd == 1) with
        | true =>
          have SD := Lib.hid S2.out.drew
          obtain ⟨tb, htb⟩ : ∃ t, isIn L key = t := ⟨_, rfl⟩
          have tp := tms_pos YY.out.fit key
          obtain ⟨t, ht⟩ : ∃ t, tms L key = t := ⟨_, rfl⟩
          have HTB := Lib.hid ((YY.out.tms key).trans ht)
          have V := Lib.hid (fun (W : World) (T : Nat → Prop) (hC : Ca W c T mo ch L q) => (htb ▸ remove_ca W c T mo ch L q key hC hsk : Calls Try.prog 14 #[.pointer (some ⟨c, 0, none⟩), .string key] W (CaPost (.bool tb) W c T mo ch (rem L key) q)))
          rw [ht, htb] at tp
          clear RM htb ht
          go_upto_region 20 with fail
          refine wp_region_noPanic ?_
          refine wp_region_held_drew (S := fun w' => w'.cell? ⟨ga, 1, none⟩ = some (.string key) ∧ w'.cell? ⟨bm, 0, none⟩ = some (.int .i64 (mo : Int)) ∧ w'.cell? ⟨bm, 1, none⟩ = some (.bool ch) ∧ w'.cell? ⟨bm, 2, none⟩ = some (.slice Am ml cm)) (by kernel_rfl) ?_ (fun hHeld => ?_)
          · exact ⟨d1, m0, m1, m2⟩
          refine wpAnyH_take (i := 0) (oi := { dst := some 69, op := Go.Op.move (Go.Operand.tmp 7), type := 25, pos := "law.go:52", after := #[], guard := none }) (v := ?_) rfl (by kernel_rfl) (by kernel_rfl) (by kernel_rfl) (fun _ _ _ h => h) (Or.inl ⟨by rfl, ?_⟩) (by assumption) ?_
          rotate_left
          · (intro w hSw; (try dsimp only at hSw); go_simp; (try with_reducible rfl))
          (try simp only [Act.put, List.setIfInBounds_toArray, List.set_cons_zero, List.set_cons_succ])
          refine wpAnyH_take (i := 1) (oi := { dst := some 70, op := Go.Op.fieldAddr 32 (Go.Operand.tmp 10) 1, type := 0, pos := "law.go:52", after := #[], guard := none }) (v := ?_) rfl (by kernel_rfl) (by kernel_rfl) (by kernel_rfl) (fun _ _ _ h => h) (Or.inl ⟨by rfl, ?_⟩) (by assumption) ?_
          rotate_left
          · (intro w hSw; (try dsimp only at hSw); go_simp; (try with_reducible rfl))
          (try simp only [Act.put, List.setIfInBounds_toArray, List.set_cons_zero, List.set_cons_succ])
          refine wpAnyH_take (i := 2) (oi := { dst := some 71, op := Go.Op.load 9 (Go.Operand.tmp 70), type := 9, pos := "law.go:52", after := #[{ on := 1, ground := Go.Ground.data }], guard := none }) (v := ?_) rfl (by kernel_rfl) (by kernel_rfl) (by kernel_rfl) (fun _ _ _ h => h) (Or.inl ⟨by rfl, ?_⟩) (by assumption) ?_
          rotate_left
          · (intro w hSw; (try dsimp only at hSw); go_simp; (try with_reducible rfl))
          (try simp only [Act.put, List.setIfInBounds_toArray, List.set_cons_zero, List.set_cons_succ])
          refine wpAnyH_take (i := 4) (oi := { dst := some 73, op := Go.Op.load 29 (Go.Operand.tmp 8), type := 29, pos := "law.go:52", after := #[], guard := none }) (v := ?_) rfl (by kernel_rfl) (by kernel_rfl) (by kernel_rfl) (fun _ _ _ h => h) (Or.inl ⟨by rfl, ?_⟩) (by assumption) ?_
          rotate_left
          · (intro w hSw; (try dsimp only at hSw); go_simp; (try with_reducible rfl))
          (try simp only [Act.put, List.setIfInBounds_toArray, List.set_cons_zero, List.set_cons_succ])
          refine wpAnyH_take (i := 5) (oi := { dst := some 74, op := Go.Op.fieldAddr 32 (Go.Operand.tmp 10) 1, type := 0, pos := "law.go:52", after := #[], guard := none }) (v := ?_) rfl (by kernel_rfl) (by kernel_rfl) (by kernel_rfl) (fun _ _ _ h => h) (Or.inl ⟨by rfl, ?_⟩) (by assumption) ?_
          rotate_left
          · (intro w hSw; (try dsimp only at hSw); go_simp; (try with_reducible rfl))
          (try simp only [Act.put, List.setIfInBounds_toArray, List.set_cons_zero, List.set_cons_succ])
          refine wpAnyH_take (i := 6) (oi := { dst := some 75, op := Go.Op.load 9 (Go.Operand.tmp 74), type := 9, pos := "law.go:52", after := #[{ on := 5, ground := Go.Ground.data }], guard := none }) (v := ?_) rfl (by kernel_rfl) (by kernel_rfl) (by kernel_rfl) (fun _ _ _ h => h) (Or.inl ⟨by rfl, ?_⟩) (by assumption) ?_
          rotate_left
          · (intro w hSw; (try dsimp only at hSw); go_simp; (try with_reducible rfl))
          (try simp only [Act.put, List.setIfInBounds_toArray, List.set_cons_zero, List.set_cons_succ])
          refine wpAnyH_ready (rs := [3]) (by kernel_rfl) (by simp) ?_
          refine AllReadyH.cons (o := { dst := some 72, op := Go.Op.call { callee := Go.Callee.value (Go.Operand.func 14), args := #[Go.Operand.tmp 69, Go.Operand.tmp 71], argTypes := #[25, 9] }, type := 4, pos := "law.go:52", after := #[{ on := 0, ground := Go.Ground.data }, { on := 2, ground := Go.Ground.data }], guard := none }) rfl (fun K hK => ?_) AllReadyH.nil
          go_simp
          refine (V.out _ _ SD.out.st.live.ca).mono ?_
          intro e w3 hp
          obtain ⟨rfl, T3, h3⟩ := SD.out.op hp
          obtain ⟨g3, hr3, hg3, hg3b⟩ := h3.st.row
          have S3 := Lib.hid h3
          have R3 := Lib.hid hr3
          have G3 := Lib.hid (And.intro hg3 hg3b)
          clear hp h3 hr3 hg3 hg3b
          go_wp2_with fail
          refine hK.out _ _ ?_ (fun hHeld => ?_)
          · exact ⟨S3.out.k.2.1, S3.out.st.box.c.1, S3.out.st.box.c.2.1, S3.out.st.box.c.2.2⟩
          clear hK K
          (try simp only [Act.put, List.setIfInBounds_toArray, List.set_cons_zero, List.set_cons_succ])
          refine wpAnyH_ready (rs := [7]) (by kernel_rfl) (by simp) ?_
          refine AllReadyH.cons (o := { dst := some 76, op := Go.Op.call { callee := Go.Callee.value (Go.Operand.func 15), args := #[Go.Operand.tmp 73, Go.Operand.tmp 75], argTypes := #[29, 9] }, type := 3, pos := "law.go:52", after := #[{ on := 4, ground := Go.Ground.data }, { on := 6, ground := Go.Ground.data }, { on := 3, ground := Go.Ground.chain }], guard := none }) rfl (fun K hK => ?_) AllReadyH.nil
          go_simp
          refine (HTB.out ▸ rtimes_any w3 g3 mo ch Am ml cm B key R3.out HML.out : Calls Try.prog 15 #[.agg #[.int .i64 (mo : Int), .bool ch, .slice Am ml cm], .string key] w3 (ValBelow (.int .i64 t) w3)).mono ?_
          rintro e w4 ⟨rfl, hB⟩
          have S4 := Lib.hid (S3.out.below hB)
          have R4 := Lib.hid (R3.out.below hB)
          clear hB
          go_wp2_with fail
          refine hK.out _ _ ?_ (fun hHeld => ?_)
          · exact ⟨S4.out.k.2.1, S4.out.st.box.c.1, S4.out.st.box.c.2.1, S4.out.st.box.c.2.2⟩
          clear hK K
          (try simp only [Act.put, List.setIfInBounds_toArray, List.set_cons_zero, List.set_cons_succ])
          refine wpAnyH_take (i := 8) (oi := { dst := some 77, op := Go.Op.binOp Go.BinOp.gtr 3 (Go.Operand.tmp 76) (Go.Operand.const (Go.Value.int Go.IntKind.i64 0)) 3, type := 4, pos := "law.go:52", after := #[{ on := 7, ground := Go.Ground.data }], guard := none }) (v := ?_) rfl (by kernel_rfl) (by kernel_rfl) (by kernel_rfl) (fun _ _ _ h => h) (Or.inl ⟨by rfl, ?_⟩) (by assumption) ?_
          rotate_left
          · (intro w hSw; (try dsimp only at hSw); go_simp; (try with_reducible rfl))
          (try simp only [Act.put, List.setIfInBounds_toArray, List.set_cons_zero, List.set_cons_succ])
          refine wpAnyH_take (i := 9) (oi := { dst := some 78, op := Go.Op.binOp Go.BinOp.neq 4 (Go.Operand.tmp 72) (Go.Operand.tmp 77) 4, type := 4, pos := "law.go:52", after := #[{ on := 3, ground := Go.Ground.data }, { on := 8, ground := Go.Ground.data }], guard := none }) (v := ?_) rfl (by kernel_rfl) (by kernel_rfl) (by kernel_rfl) (fun _ _ _ h => h) (Or.inl ⟨by rfl, ?_⟩) (by assumption) ?_
          rotate_left
          · (intro w hSw; (try dsimp only at hSw); go_simp; (try with_reducible rfl))
          (try simp only [Act.put, List.setIfInBounds_toArray, List.set_cons_zero, List.set_cons_succ])
          refine wpAnyH_done (by kernel_rfl) ?_ _
          refine NoPanic.normal ?_
          clear hHeld SD V S2 d0 d1 d2 m0 m1 m2 f0 f1 f2 S3
          obtain ⟨m0, m1, m2⟩ := S4.out.st.box.c
          obtain ⟨f0, f1, f2⟩ := S4.out.st.box.f
          obtain ⟨_, d1, _⟩ := S4.out.k
          have U := Lib.hid (rremove_any w4 g3 mo ch Am ml cm B key R4.out HML.out (by omega))
          go_wp2_with fail
          refine U.out.mono ?_
          rintro e w5 ⟨A5, m5, c5, rfl, hO, hB⟩
          obtain ⟨g5, hg5, hr5⟩ := hO.row
          have S5 := S4.out.below hB
          have f5 := S4.out.fresh hg5
          have S6 := Lib.hid (S5.set hr5 f5.1 f5.2.1 mo)
          clear m0 m1 m2 f0 f1 f2 d1
          obtain ⟨m0, m1, m2⟩ := S5.st.box.c
          obtain ⟨f0, f1, f2⟩ := S5.st.box.f
          clear hO hB hg5 hr5 f5 S5 U S4 R4
          go_wp2_with fail
          go_meet
          exact ⟨T3, mo, _, _, _, _, by omega, S6.out, YY.out.rem key⟩
        | false =>
        cases c2 : (kd == 2) with
        | true =>
          obtain ⟨U, Y2⟩ := rad_any w2 gm mo ch Am ml cm L B q key RM.out HML.out (by omega) htop YY.out (by omega) hsk
          have V := fun (W : World) (T : Nat → Prop) (hC : Ca W c T mo ch L q) => adopt_ca W c T mo ch L q key hC hsk (by omega)
          have hqn := adN_le mo q L key
          generalize adB mo L key = tb at U V
          generalize adZ ch mo q L B key = B2 at U Y2
          generalize adL ch mo q L key = L2 at V Y2
          generalize adN mo q L key = q2 at V Y2 hqn
          have U := Lib.hid U
          have V := Lib.hid V
          have Y2 := Lib.hid Y2
          go_wp2_with fail
          refine U.out.mono ?_
          rintro e w3 ⟨A3, n3, c3, rfl, ⟨g3, hr3, hg3⟩, hm3, hB3⟩
          have R3 := Lib.hid hr3
          have B3 := Lib.hid (S2.out.beside HGM.out.1 HGM.out.2 hg3)
          have S3 := Lib.hid (S2.out.below hB3)
          clear hr3 hg3 hB3 U d0 d1 d2 m0 m1 m2 f0 f1 f2 S2 RM hm3
          go_upto_region 25 with fail
          have hb4 := (Below.refl w3.heap.size w3).alloc (Nat.le_refl _) (cObj mo ch (.slice A3 n3 c3))
          have k9 : CBox (w3.alloc (cObj mo ch (.slice A3 n3 c3))) w3.heap.size mo ch (.slice A3 n3 c3) := heap_alloc_new _ _
          have f9 := S3.out.fresh (g := w3.heap.size) (Nat.le_refl _)
          have S4 := Lib.hid (S3.out.below hb4)
          have R4 := Lib.hid (R3.out.below hb4)
          clear hb4 R3 S3
          generalize (w3.alloc (cObj mo ch (.slice A3 n3 c3))) = w4 at S4 R4 k9 ⊢
          generalize w3.heap.size = z9 at k9 f9 ⊢
          obtain ⟨x0, x1, x2⟩ := k9.c
          obtain ⟨m0, m1, m2⟩ := S4.out.st.box.c
          obtain ⟨f0, f1, f2⟩ := S4.out.st.box.f
          have S5 := Lib.hid (S4.out.set R4.out B3.out.1 B3.out.2 mo)
          clear k9 S4 R4
          go_upto_region 26 with fail
          clear x0 x1 x2 m0 m1 m2 f0 f1 f2
          generalize ((w4.setCell ⟨bm, 0, none⟩ (.int .i64 (mo : Int))).setCell ⟨bm, 1, none⟩ (.bool ch)).setCell ⟨bm, 2, none⟩ (.slice A3 n3 c3) = w5 at S5 ⊢
          obtain ⟨_, d1, _⟩ := S5.out.k
          go_wp2_with fail
          refine (V.out _ _ S5.out.st.live.ca).mono ?_
          intro e w6 hp
          obtain ⟨rfl, T6, h6⟩ := S5.out.op hp
          have S6 := Lib.hid h6
          clear hp h6 S5
          go_wp2_with fail
          go_meet
          exact ⟨T6, mo, _, _, _, _, by omega, S6.out, Y2.out⟩
        | false =>
        cases c3 : (kd == 3) with
        | true =>
          have U := drop_ca w2 c T mo ch L q S2.out.st.live.ca
          have DR : ∃ (x : ByteArray) (tb : Bool) (B2 : List (Ent Key)), hdK L = x ∧ (!L.isEmpty) = tb ∧ By ch L.tail B2 q ∧ ∀ (W : World) (g : Nat), ZRow W g (.slice Am ml cm) B → Calls Try.prog 20 #[.agg #[.int .i64 (mo : Int), .bool ch, .slice Am ml cm]] W (DropPost W g mo ch x tb B2) := by
            cases L with
            | nil => exact ⟨_, _, B, rfl, rfl, YY.out, fun W g hz => rdrop_none W g mo ch Am ml cm B q hz HML.out YY.out⟩
            | cons a L => exact ⟨_, _, rem B a.key, rfl, rfl, YY.out.drop, fun W g hz => rdrop_some W g mo ch Am ml cm a L B q hz HML.out (by omega) YY.out⟩
          obtain ⟨x, tb, B2, hx, htb, Y2, DR⟩ := DR
          rw [hx, htb] at U
          have U := Lib.hid U
          have DR := Lib.hid DR
          have Y2 := Lib.hid Y2
          have ex := beqS_yes (rfl : x = x)
          clear hx htb
          go_wp2_with fail
          refine U.out.mono ?_
          intro e w3 hp
          obtain ⟨rfl, T3, h3⟩ := S2.out.op hp
          obtain ⟨g3, hr3, hg3T, hg3b⟩ := h3.st.row
          have U2 := Lib.hid (DR.out w3 g3 hr3)
          have S3' := Lib.hid h3
          have G3 := Lib.hid (And.intro hg3T hg3b)
          clear m0 m1 m2 f0 f1 f2 d0 d1 d2
          obtain ⟨m0, m1, m2⟩ := h3.st.box.c
          clear hp h3 hr3 hg3T hg3b U S2 RM DR
          go_wp2_with fail
          refine U2.out.mono ?_
          rintro e w3' ⟨A3, n3, c3, rfl, ⟨g4, hr4, hg4⟩, hm3, hB3⟩
          have R3 := Lib.hid hr4
          have B3 := Lib.hid (S3'.out.beside G3.out.1 G3.out.2 hg4)
          have S3 := Lib.hid (S3'.out.below hB3)
          clear hr4 hg4 hB3 U2 m0 m1 m2 S3' hm3
          generalize w3' = w3 at *
          go_upto_region 31 with fail
          have hb4 := (Below.refl w3.heap.size w3).alloc (Nat.le_refl _) (cObj mo ch (.slice A3 n3 c3))
          have k9 : CBox (w3.alloc (cObj mo ch (.slice A3 n3 c3))) w3.heap.size mo ch (.slice A3 n3 c3) := heap_alloc_new _ _
          have f9 := S3.out.fresh (g := w3.heap.size) (Nat.le_refl _)
          have S4 := Lib.hid (S3.out.below hb4)
          have R4 := Lib.hid (R3.out.below hb4)
          clear hb4 R3 S3
          generalize (w3.alloc (cObj mo ch (.slice A3 n3 c3))) = w4 at S4 R4 k9 ⊢
          generalize w3.heap.size = z9 at k9 f9 ⊢
          obtain ⟨x0, x1, x2⟩ := k9.c
          obtain ⟨m0, m1, m2⟩ := S4.out.st.box.c
          obtain ⟨f0, f1, f2⟩ := S4.out.st.box.f
          have S5 := Lib.hid (S4.out.set R4.out B3.out.1 B3.out.2 mo)
          clear k9 S4 R4
          go_upto_region 32 with fail
          clear x0 x1 x2 m0 m1 m2 f0 f1 f2
          generalize ((w4.setCell ⟨bm, 0, none⟩ (.int .i64 (mo : Int))).setCell ⟨bm, 1, none⟩ (.bool ch)).setCell ⟨bm, 2, none⟩ (.slice A3 n3 c3) = w5 at S5 ⊢
          go_wp2_with fail
          go_meet
          exact ⟨T3, mo, _, _, _, _, by omega, S5.out, Y2.out⟩
        | false =>
        cases c4 : (kd == 4) with
        | true =>
          obtain ⟨m, hm⟩ : ∃ m, m = nn.toNat := ⟨_, rfl⟩
          have U := Lib.hid (rrz_main w2 gm mo m ch Am ml cm L B q nn RM.out HML.out (by omega) hnk hm YY.out HOK.out)
          have V := Lib.hid (fun (W : World) (T : Nat → Prop) (hC : Ca W c T mo ch L q) => (hm ▸ resize_ca W c T mo ch L q nn hnk hC : Calls Try.prog 23 #[.pointer (some ⟨c, 0, none⟩), .int .i64 nn] W (ResPost W c T m ch L q)))
          have hmt : m ≤ 9223372036854775807 := by omega
          clear hm
          go_wp2_with fail
          refine U.out.mono ?_
          rintro e w3 ⟨A3, n3, c3, u3, g3, B2, rfl, hr3, hg3, hm3, hy3, hO3, hB3⟩
          have R3 := Lib.hid hr3
          have B3 := Lib.hid (S2.out.beside HGM.out.1 HGM.out.2 hg3)
          have S3 := Lib.hid (S2.out.below hB3)
          have Y2 := Lib.hid hy3
          obtain ⟨Au, cu, rfl⟩ := hO3.len
          obtain ⟨gu, hgu, hru⟩ := hO3.row
          have RU := Lib.hid hru
          have FU := Lib.hid (S2.out.fresh hgu)
          clear hr3 hg3 hB3 U d0 d1 d2 m0 m1 m2 f0 f1 f2 S2 RM hm3 hy3 hO3 hgu hru
          generalize ((keysL L).take (L.length - m)).length = ul at *
          go_upto_region 36 with fail
          have hb4 := (Below.refl w3.heap.size w3).alloc (Nat.le_refl _) (cObj m ch (.slice A3 n3 c3))
          have k9 : CBox (w3.alloc (cObj m ch (.slice A3 n3 c3))) w3.heap.size m ch (.slice A3 n3 c3) := heap_alloc_new _ _
          have f9 := S3.out.fresh (g := w3.heap.size) (Nat.le_refl _)
          have S4 := Lib.hid (S3.out.below hb4)
          have R4 := Lib.hid (R3.out.below hb4)
          have RU4 := Lib.hid (RU.out.below hb4)
          clear RU
          clear hb4 R3 S3
          generalize (w3.alloc (cObj m ch (.slice A3 n3 c3))) = w4 at S4 R4 k9 RU4 ⊢
          generalize w3.heap.size = z9 at k9 f9 ⊢
          obtain ⟨x0, x1, x2⟩ := k9.c
          obtain ⟨m0, m1, m2⟩ := S4.out.st.box.c
          obtain ⟨f0, f1, f2⟩ := S4.out.st.box.f
          have S5 := Lib.hid (S4.out.set R4.out B3.out.1 B3.out.2 m)
          clear k9 S4 R4
          have RU5 := Lib.hid (((RU4.out.same (w' := w4.setCell ⟨bm, 0, none⟩ (.int .i64 (m : Int))) (by simp [World.setCell]) (fun _ => Below.heap_setCell _ _ _ _ FU.out.2.1)).same (w' := (w4.setCell ⟨bm, 0, none⟩ (.int .i64 (m : Int))).setCell ⟨bm, 1, none⟩ (.bool ch)) (by simp [World.setCell]) (fun _ => Below.heap_setCell _ _ _ _ FU.out.2.1)).same (w' := ((w4.setCell ⟨bm, 0, none⟩ (.int .i64 (m : Int))).setCell ⟨bm, 1, none⟩ (.bool ch)).setCell ⟨bm, 2, none⟩ (.slice A3 n3 c3)) (by simp [World.setCell]) (fun _ => Below.heap_setCell _ _ _ _ FU.out.2.1))
          clear RU4
          go_upto_region 37 with fail
          clear x0 x1 x2 m0 m1 m2 f0 f1 f2
          generalize ((w4.setCell ⟨bm, 0, none⟩ (.int .i64 (m : Int))).setCell ⟨bm, 1, none⟩ (.bool ch)).setCell ⟨bm, 2, none⟩ (.slice A3 n3 c3) = w5 at S5 RU5 ⊢
          obtain ⟨_, _, d2⟩ := S5.out.k
          go_wp2_with fail
          refine (V.out _ _ S5.out.st.live.ca).mono ?_
          intro e w6 hp
          obtain ⟨u6, T6, g6, rfl, hr6, h6, hk6⟩ := S5.out.res hp
          have U6 := Lib.hid (refSame_self w6 g6 gu _ _ _ hr6 (hk6 gu _ _ RU5.out FU.out.1))
          have S6 := Lib.hid h6
          clear hp h6 hk6 hr6 S5 RU5
          go_wp2_with fail
          refine U6.out.mono ?_
          rintro e w7 ⟨rfl, q7, hw7⟩
          have S7 := Lib.hid (S6.out.below (show Below w6.heap.size w6 w7 from hw7 ▸ below_drewN _ q7))
          clear hw7 S6 U6
          go_wp2_with fail
          go_meet
          exact ⟨T6, m, _, _, _, _, by omega, S7.out, Y2.out⟩
        | false =>
          clear d0 d1 d2 m0 m1 m2 f0 f1 f2
          go_wp2_with fail
          go_meet
          exact ⟨T, mo, L, q, _, B, by omega, S2.out, YY.out⟩
      case rest =>
        clear S2 HPy YY
        obtain ⟨T, mo, L, q, v, B, hq2, hS, hY⟩ := hcut
        have S3 := Lib.hid hS
        have YY := Lib.hid hY
        obtain ⟨gm, hgm, hgT, hgb⟩ := hS.st.row
        obtain ⟨Am, cm, rfl⟩ := hgm.shape
        have RM := Lib.hid hgm
        have hbl : B.length ≤ 300 := by have := YY.out.len; have := once_len YY.out.once; omega
        have HOK := Lib.hid hS.st.live.ca.ok
        obtain ⟨ml, hml⟩ : ∃ ml, B.length = ml := ⟨_, rfl⟩
        have HML := Lib.hid hml
        have HLL := Lib.hid (show L.length = ml from hY.len.symm.trans hml)
        have tp := tms_pos YY.out.fit key
        obtain ⟨tb, htb⟩ : ∃ t, isIn L key = t := ⟨_, rfl⟩
        obtain ⟨t, ht⟩ : ∃ t, tms L key = t := ⟨_, rfl⟩
        have HTB := Lib.hid ((YY.out.tms key).trans ht)
        have HT := Lib.hid ht
        have HI := Lib.hid htb
        rw [ht, htb] at tp
        rw [hml] at S3 RM hbl
        clear hS hgm hgT hgb hml ht htb hY
        have UV := victim_ca wc c T mo ch L q S3.out.st.live.ca
        have UR := fun (W : World) (hz : ZRow W gm (.slice Am ml cm) B) => rvictim_any W gm mo ch Am ml cm L B q hz HML.out YY.out
        generalize hdK L = x at UV UR
        generalize (!L.isEmpty) = tt at UV UR
        have UV := Lib.hid UV
        have UR := Lib.hid UR
        have ex := beqS_yes (rfl : x = x)
        go_wp2_with fail
        refine UV.out.mono ?_
        rintro e wd ⟨rfl, hB⟩
        have S4' := Lib.hid (S3.out.below hB)
        have RM' := Lib.hid (RM.out.below hB)
        clear hB UV S3 RM
        obtain ⟨m0, m1, m2⟩ := S4'.out.st.box.c
        go_wp2_with fail
        refine (UR.out wd RM'.out).mono ?_
        rintro e we ⟨rfl, hB⟩
        have S5' := S4'.out.below hB
        have SD := Lib.hid S5'.drew
        have RD := Lib.hid ((RM'.out.below hB).below ((Below.refl _ _).drew))
        clear m0 m1 m2
        obtain ⟨m0, m1, m2⟩ := S5'.st.box.c
        obtain ⟨_, d1, _⟩ := S5'.k
        clear hB S4' RM' S5' UR
        go_upto_region 41 with fail
        refine wp_region_noPanic ?_
        refine wp_region_held_drew (S := fun w' => w'.cell? ⟨ga, 1, none⟩ = some (.string key) ∧ w'.cell? ⟨bm, 0, none⟩ = some (.int .i64 (mo : Int)) ∧ w'.cell? ⟨bm, 1, none⟩ = some (.bool ch) ∧ w'.cell? ⟨bm, 2, none⟩ = some (.slice Am ml cm)) (by kernel_rfl) ?_ (fun hHeld => ?_)
        · exact ⟨d1, m0, m1, m2⟩
        refine wpAnyH_take (i := 0) (oi := { dst := some 148, op := Go.Op.move (Go.Operand.tmp 22), type := 9, pos := "law.go:78", after := #[], guard := none }) (v := ?_) rfl (by kernel_rfl) (by kernel_rfl) (by kernel_rfl) (fun _ _ _ h => h) (Or.inl ⟨by rfl, ?_⟩) (by assumption) ?_
        rotate_left
        · (intro w hSw; (try dsimp only at hSw); go_simp; (try with_reducible rfl))
        (try simp only [Act.put, List.setIfInBounds_toArray, List.set_cons_zero, List.set_cons_succ])
        refine wpAnyH_take (i := 1) (oi := { dst := some 149, op := Go.Op.move (Go.Operand.tmp 24), type := 9, pos := "law.go:78", after := #[], guard := none }) (v := ?_) rfl (by kernel_rfl) (by kernel_rfl) (by kernel_rfl) (fun _ _ _ h => h) (Or.inl ⟨by rfl, ?_⟩) (by assumption) ?_
        rotate_left
        · (intro w hSw; (try dsimp only at hSw); go_simp; (try with_reducible rfl))
        (try simp only [Act.put, List.setIfInBounds_toArray, List.set_cons_zero, List.set_cons_succ])
        refine wpAnyH_take (i := 2) (oi := { dst := some 150, op := Go.Op.binOp Go.BinOp.neq 9 (Go.Operand.tmp 148) (Go.Operand.tmp 149) 9, type := 4, pos := "law.go:78", after := #[{ on := 0, ground := Go.Ground.data }, { on := 1, ground := Go.Ground.data }], guard := none }) (v := ?_) rfl (by kernel_rfl) (by kernel_rfl) (by kernel_rfl) (fun _ _ _ h => h) (Or.inl ⟨by rfl, ?_⟩) (by assumption) ?_
        rotate_left
        · (intro w hSw; (try dsimp only at hSw); go_simp; (try with_reducible rfl))
        (try simp only [Act.put, List.setIfInBounds_toArray, List.set_cons_zero, List.set_cons_succ])
        refine wpAnyH_take (i := 3) (oi := { dst := some 151, op := Go.Op.move (Go.Operand.tmp 150), type := 4, pos := "law.go:78", after := #[{ on := 2, ground := Go.Ground.data }], guard := none }) (v := ?_) rfl (by kernel_rfl) (by kernel_rfl) (by kernel_rfl) (fun _ _ _ h => h) (Or.inl ⟨by rfl, ?_⟩) (by assumption) ?_
        rotate_left
        · (intro w hSw; (try dsimp only at hSw); go_simp; (try with_reducible rfl))
        (try simp only [Act.put, List.setIfInBounds_toArray, List.set_cons_zero, List.set_cons_succ])
        refine wpAnyH_take (i := 4) (oi := { dst := some 152, op := Go.Op.move (Go.Operand.tmp 23), type := 4, pos := "law.go:78", after := #[{ on := 3, ground := Go.Ground.guard }], guard := some (3, false) }) (v := ?_) rfl (by kernel_rfl) (by kernel_rfl) (by kernel_rfl) (fun _ _ _ h => h) (Or.inl ⟨by rfl, ?_⟩) (by assumption) ?_
        rotate_left
        · (intro w hSw; (try dsimp only at hSw); go_simp; (try with_reducible rfl))
        (try simp only [Act.put, List.setIfInBounds_toArray, List.set_cons_zero, List.set_cons_succ])
        refine wpAnyH_take (i := 5) (oi := { dst := some 153, op := Go.Op.move (Go.Operand.tmp 25), type := 4, pos := "law.go:78", after := #[{ on := 3, ground := Go.Ground.guard }], guard := some (3, false) }) (v := ?_) rfl (by kernel_rfl) (by kernel_rfl) (by kernel_rfl) (fun _ _ _ h => h) (Or.inl ⟨by rfl, ?_⟩) (by assumption) ?_
        rotate_left
        · (intro w hSw; (try dsimp only at hSw); go_simp; (try with_reducible rfl))
        (try simp only [Act.put, List.setIfInBounds_toArray, List.set_cons_zero, List.set_cons_succ])
        refine wpAnyH_take (i := 6) (oi := { dst := some 154, op := Go.Op.binOp Go.BinOp.neq 4 (Go.Operand.tmp 152) (Go.Operand.tmp 153) 4, type := 4, pos := "law.go:78", after := #[{ on := 4, ground := Go.Ground.data }, { on := 5, ground := Go.Ground.data }, { on := 3, ground := Go.Ground.guard }], guard := some (3, false) }) (v := ?_) rfl (by kernel_rfl) (by kernel_rfl) (by kernel_rfl) (fun _ _ _ h => h) (Or.inl ⟨by rfl, ?_⟩) (by assumption) ?_
        rotate_left
        · (intro w hSw; (try dsimp only at hSw); go_simp; (try with_reducible rfl))
        (try simp only [Act.put, List.setIfInBounds_toArray, List.set_cons_zero, List.set_cons_succ])
        refine wpAnyH_take (i := 7) (oi := { dst := some 155, op := Go.Op.pick (Go.Operand.tmp 151) (Go.Operand.const (Go.Value.bool true)) (Go.Operand.tmp 154), type := 4, pos := "law.go:78", after := #[{ on := 3, ground := Go.Ground.data }, { on := 6, ground := Go.Ground.data }], guard := none }) (v := ?_) rfl (by kernel_rfl) (by kernel_rfl) (by kernel_rfl) (fun _ _ _ h => h) (Or.inl ⟨by rfl, ?_⟩) (by assumption) ?_
        rotate_left
        · (intro w hSw; (try dsimp only at hSw); go_simp; (try with_reducible rfl))
        (try simp only [Act.put, List.setIfInBounds_toArray, List.set_cons_zero, List.set_cons_succ])
        refine wpAnyH_take (i := 8) (oi := { dst := some 156, op := Go.Op.move (Go.Operand.tmp 155), type := 4, pos := "law.go:78", after := #[{ on := 7, ground := Go.Ground.data }, { on := 3, ground := Go.Ground.chain }], guard := none }) (v := ?_) rfl (by kernel_rfl) (by kernel_rfl) (by kernel_rfl) (fun _ _ _ h => h) (Or.inl ⟨by rfl, ?_⟩) (by assumption) ?_
        rotate_left
        · (intro w hSw; (try dsimp only at hSw); go_simp; (try with_reducible rfl))
        (try simp only [Act.put, List.setIfInBounds_toArray, List.set_cons_zero, List.set_cons_succ])
        refine wpAnyH_take (i := 9) (oi := { dst := some 157, op := Go.Op.move (Go.Operand.tmp 7), type := 25, pos := "law.go:78", after := #[{ on := 8, ground := Go.Ground.guard }], guard := some (8, false) }) (v := ?_) rfl (by kernel_rfl) (by kernel_rfl) (by kernel_rfl) (fun _ _ _ h => h) (Or.inl ⟨by rfl, ?_⟩) (by assumption) ?_
        rotate_left
        · (intro w hSw; (try dsimp only at hSw); go_simp; (try with_reducible rfl))
        (try simp only [Act.put, List.setIfInBounds_toArray, List.set_cons_zero, List.set_cons_succ])
        refine wpAnyH_take (i := 11) (oi := { dst := some 159, op := Go.Op.load 29 (Go.Operand.tmp 8), type := 29, pos := "law.go:78", after := #[{ on := 8, ground := Go.Ground.guard }], guard := some (8, false) }) (v := ?_) rfl (by kernel_rfl) (by kernel_rfl) (by kernel_rfl) (fun _ _ _ h => h) (Or.inl ⟨by rfl, ?_⟩) (by assumption) ?_
        rotate_left
        · (intro w hSw; (try dsimp only at hSw); go_simp; (try with_reducible rfl))
        (try simp only [Act.put, List.setIfInBounds_toArray, List.set_cons_zero, List.set_cons_succ])
        refine wpAnyH_ready (rs := [10]) (by kernel_rfl) (by simp) ?_
        refine AllReadyH.cons (o := { dst := some 158, op := Go.Op.call { callee := Go.Callee.value (Go.Operand.func 26), args := #[Go.Operand.tmp 157], argTypes := #[25] }, type := 47, pos := "law.go:78", after := #[{ on := 9, ground := Go.Ground.data }, { on := 8, ground := Go.Ground.chain }, { on := 8, ground := Go.Ground.guard }], guard := some (8, false) }) rfl (fun K hK => ?_) AllReadyH.nil
        go_simp
        refine (keys_ca _ c T mo ch L q SD.out.st.live.ca).mono ?_
        rintro e w4 ⟨v4, rfl, hO, hB⟩
        have S4 := Lib.hid (SD.out.below hB)
        have R4 := Lib.hid (RD.out.below hB)
        have O4 := Lib.hid hO
        clear hO hB
        go_wp2_with fail
        refine hK.out _ _ ?_ (fun hHeld => ?_)
        · exact ⟨S4.out.k.2.1, S4.out.st.box.c.1, S4.out.st.box.c.2.1, S4.out.st.box.c.2.2⟩
        clear hK K
        (try simp only [Act.put, List.setIfInBounds_toArray, List.set_cons_zero, List.set_cons_succ])
        refine wpAnyH_ready (rs := [12]) (by kernel_rfl) (by simp) ?_
        refine AllReadyH.cons (o := { dst := some 160, op := Go.Op.call { callee := Go.Callee.value (Go.Operand.func 27), args := #[Go.Operand.tmp 159], argTypes := #[29] }, type := 47, pos := "law.go:78", after := #[{ on := 11, ground := Go.Ground.data }, { on := 10, ground := Go.Ground.chain }, { on := 8, ground := Go.Ground.guard }], guard := some (8, false) }) rfl (fun K hK => ?_) AllReadyH.nil
        go_simp
        refine (rkeys_any w4 gm mo ch Am ml cm L B q R4.out HML.out (by omega) YY.out HOK.out).mono ?_
        rintro e w5 ⟨v5, rfl, hO, hB⟩
        have S5 := Lib.hid (S4.out.below hB)
        have R5 := Lib.hid (R4.out.below hB)
        have U6 := Lib.hid (same_of O4.out hO hB)
        clear hO hB
        go_wp2_with fail
        refine hK.out _ _ ?_ (fun hHeld => ?_)
        · exact ⟨S5.out.k.2.1, S5.out.st.box.c.1, S5.out.st.box.c.2.1, S5.out.st.box.c.2.2⟩
        clear hK K
        (try simp only [Act.put, List.setIfInBounds_toArray, List.set_cons_zero, List.set_cons_succ])
        refine wpAnyH_ready (rs := [13]) (by kernel_rfl) (by simp) ?_
        refine AllReadyH.cons (o := { dst := some 161, op := Go.Op.call { callee := Go.Callee.value (Go.Operand.func 22), args := #[Go.Operand.tmp 158, Go.Operand.tmp 160], argTypes := #[47, 47] }, type := 4, pos := "law.go:78", after := #[{ on := 10, ground := Go.Ground.data }, { on := 12, ground := Go.Ground.data }, { on := 12, ground := Go.Ground.chain }, { on := 8, ground := Go.Ground.guard }], guard := some (8, false) }) rfl (fun K hK => ?_) AllReadyH.nil
        go_simp
        refine U6.out.mono ?_
        rintro e w6 ⟨rfl, q6, hw6⟩
        have hb6 : Below w5.heap.size w5 w6 := hw6 ▸ below_drewN _ q6
        have S6 := Lib.hid (S5.out.below hb6)
        have R6 := Lib.hid (R5.out.below hb6)
        clear hb6 hw6
        go_wp2_with fail
        refine hK.out _ _ ?_ (fun hHeld => ?_)
        · exact ⟨S6.out.k.2.1, S6.out.st.box.c.1, S6.out.st.box.c.2.1, S6.out.st.box.c.2.2⟩
        clear hK K
        (try simp only [Act.put, List.setIfInBounds_toArray, List.set_cons_zero, List.set_cons_succ])
        refine wpAnyH_take (i := 14) (oi := { dst := some 162, op := Go.Op.unOp Go.UnOp.not 4 (Go.Operand.tmp 161), type := 4, pos := "law.go:78", after := #[{ on := 13, ground := Go.Ground.data }, { on := 8, ground := Go.Ground.guard }], guard := some (8, false) }) (v := ?_) rfl (by kernel_rfl) (by kernel_rfl) (by kernel_rfl) (fun _ _ _ h => h) (Or.inl ⟨by rfl, ?_⟩) (by assumption) ?_
        rotate_left
        · (intro w hSw; (try dsimp only at hSw); go_simp; (try with_reducible rfl))
        (try simp only [Act.put, List.setIfInBounds_toArray, List.set_cons_zero, List.set_cons_succ])
        refine wpAnyH_take (i := 15) (oi := { dst := some 163, op := Go.Op.pick (Go.Operand.tmp 156) (Go.Operand.const (Go.Value.bool true)) (Go.Operand.tmp 162), type := 4, pos := "law.go:78", after := #[{ on := 8, ground := Go.Ground.data }, { on := 14, ground := Go.Ground.data }], guard := none }) (v := ?_) rfl (by kernel_rfl) (by kernel_rfl) (by kernel_rfl) (fun _ _ _ h => h) (Or.inl ⟨by rfl, ?_⟩) (by assumption) ?_
        rotate_left
        · (intro w hSw; (try dsimp only at hSw); go_simp; (try with_reducible rfl))
        (try simp only [Act.put, List.setIfInBounds_toArray, List.set_cons_zero, List.set_cons_succ])
        refine wpAnyH_take (i := 16) (oi := { dst := some 164, op := Go.Op.move (Go.Operand.tmp 163), type := 4, pos := "law.go:78", after := #[{ on := 15, ground := Go.Ground.data }, { on := 13, ground := Go.Ground.chain }], guard := none }) (v := ?_) rfl (by kernel_rfl) (by kernel_rfl) (by kernel_rfl) (fun _ _ _ h => h) (Or.inl ⟨by rfl, ?_⟩) (by assumption) ?_
        rotate_left
        · (intro w hSw; (try dsimp only at hSw); go_simp; (try with_reducible rfl))
        (try simp only [Act.put, List.setIfInBounds_toArray, List.set_cons_zero, List.set_cons_succ])
        refine wpAnyH_take (i := 17) (oi := { dst := some 165, op := Go.Op.move (Go.Operand.tmp 7), type := 25, pos := "law.go:78", after := #[{ on := 16, ground := Go.Ground.guard }], guard := some (16, false) }) (v := ?_) rfl (by kernel_rfl) (by kernel_rfl) (by kernel_rfl) (fun _ _ _ h => h) (Or.inl ⟨by rfl, ?_⟩) (by assumption) ?_
        rotate_left
        · (intro w hSw; (try dsimp only at hSw); go_simp; (try with_reducible rfl))
        (try simp only [Act.put, List.setIfInBounds_toArray, List.set_cons_zero, List.set_cons_succ])
        refine wpAnyH_take (i := 19) (oi := { dst := some 167, op := Go.Op.fieldAddr 29 (Go.Operand.tmp 8) 2, type := 0, pos := "law.go:78", after := #[{ on := 16, ground := Go.Ground.guard }], guard := some (16, false) }) (v := ?_) rfl (by kernel_rfl) (by kernel_rfl) (by kernel_rfl) (fun _ _ _ h => h) (Or.inl ⟨by rfl, ?_⟩) (by assumption) ?_
        rotate_left
        · (intro w hSw; (try dsimp only at hSw); go_simp; (try with_reducible rfl))
        (try simp only [Act.put, List.setIfInBounds_toArray, List.set_cons_zero, List.set_cons_succ])
        refine wpAnyH_take (i := 20) (oi := { dst := some 168, op := Go.Op.load 27 (Go.Operand.tmp 167), type := 27, pos := "law.go:78", after := #[{ on := 19, ground := Go.Ground.data }, { on := 16, ground := Go.Ground.guard }], guard := some (16, false) }) (v := ?_) rfl (by kernel_rfl) (by kernel_rfl) (by kernel_rfl) (fun _ _ _ h => h) (Or.inl ⟨by rfl, ?_⟩) (by assumption) ?_
        rotate_left
        · (intro w hSw; (try dsimp only at hSw); go_simp; (try with_reducible rfl))
        (try simp only [Act.put, List.setIfInBounds_toArray, List.set_cons_zero, List.set_cons_succ])
        refine wpAnyH_take (i := 21) (oi := { dst := some 169, op := Go.Op.call { callee := Go.Callee.builtin Go.Builtin.len, args := #[Go.Operand.tmp 168], argTypes := #[27] }, type := 3, pos := "law.go:78", after := #[{ on := 20, ground := Go.Ground.data }, { on := 16, ground := Go.Ground.guard }], guard := some (16, false) }) (v := ?_) rfl (by kernel_rfl) (by kernel_rfl) (by kernel_rfl) (fun _ _ _ h => h) (Or.inl ⟨by rfl, ?_⟩) (by assumption) ?_
        rotate_left
        · (intro w hSw; (try dsimp only at hSw); go_simp; (try with_reducible rfl))
        (try simp only [Act.put, List.setIfInBounds_toArray, List.set_cons_zero, List.set_cons_succ])
        refine wpAnyH_ready (rs := [18]) (by kernel_rfl) (by simp) ?_
        refine AllReadyH.cons (o := { dst := some 166, op := Go.Op.call { callee := Go.Callee.value (Go.Operand.func 28), args := #[Go.Operand.tmp 165], argTypes := #[25] }, type := 3, pos := "law.go:78", after := #[{ on := 17, ground := Go.Ground.data }, { on := 16, ground := Go.Ground.chain }, { on := 16, ground := Go.Ground.guard }], guard := some (16, false) }) rfl (fun K hK => ?_) AllReadyH.nil
        go_simp
        refine (HLL.out ▸ len_ca w6 c T mo ch L q S6.out.st.live.ca : Calls Try.prog 28 #[.pointer (some ⟨c, 0, none⟩)] w6 (IntPost (ml : Int) w6)).mono ?_
        rintro e wx ⟨rfl, rfl⟩
        go_wp2_with fail
        refine hK.out _ _ ?_ (fun hHeld => ?_)
        · exact hHeld
        clear hK K
        (try simp only [Act.put, List.setIfInBounds_toArray, List.set_cons_zero, List.set_cons_succ])
        refine wpAnyH_take (i := 22) (oi := { dst := some 170, op := Go.Op.binOp Go.BinOp.neq 3 (Go.Operand.tmp 166) (Go.Operand.tmp 169) 3, type := 4, pos := "law.go:78", after := #[{ on := 18, ground := Go.Ground.data }, { on := 21, ground := Go.Ground.data }, { on := 16, ground := Go.Ground.guard }], guard := some (16, false) }) (v := ?_) rfl (by kernel_rfl) (by kernel_rfl) (by kernel_rfl) (fun _ _ _ h => h) (Or.inl ⟨by rfl, ?_⟩) (by assumption) ?_
        rotate_left
        · (intro w hSw; (try dsimp only at hSw); go_simp; (try with_reducible rfl))
        (try simp only [Act.put, List.setIfInBounds_toArray, List.set_cons_zero, List.set_cons_succ])
        refine wpAnyH_take (i := 23) (oi := { dst := some 171, op := Go.Op.pick (Go.Operand.tmp 164) (Go.Operand.const (Go.Value.bool true)) (Go.Operand.tmp 170), type := 4, pos := "law.go:78", after := #[{ on := 16, ground := Go.Ground.data }, { on := 22, ground := Go.Ground.data }], guard := none }) (v := ?_) rfl (by kernel_rfl) (by kernel_rfl) (by kernel_rfl) (fun _ _ _ h => h) (Or.inl ⟨by rfl, ?_⟩) (by assumption) ?_
        rotate_left
        · (intro w hSw; (try dsimp only at hSw); go_simp; (try with_reducible rfl))
        (try simp only [Act.put, List.setIfInBounds_toArray, List.set_cons_zero, List.set_cons_succ])
        refine wpAnyH_take (i := 24) (oi := { dst := some 172, op := Go.Op.move (Go.Operand.tmp 171), type := 4, pos := "law.go:78", after := #[{ on := 23, ground := Go.Ground.data }, { on := 18, ground := Go.Ground.chain }], guard := none }) (v := ?_) rfl (by kernel_rfl) (by kernel_rfl) (by kernel_rfl) (fun _ _ _ h => h) (Or.inl ⟨by rfl, ?_⟩) (by assumption) ?_
        rotate_left
        · (intro w hSw; (try dsimp only at hSw); go_simp; (try with_reducible rfl))
        (try simp only [Act.put, List.setIfInBounds_toArray, List.set_cons_zero, List.set_cons_succ])
        refine wpAnyH_take (i := 25) (oi := { dst := some 173, op := Go.Op.move (Go.Operand.tmp 7), type := 25, pos := "law.go:78", after := #[{ on := 24, ground := Go.Ground.guard }], guard := some (24, false) }) (v := ?_) rfl (by kernel_rfl) (by kernel_rfl) (by kernel_rfl) (fun _ _ _ h => h) (Or.inl ⟨by rfl, ?_⟩) (by assumption) ?_
        rotate_left
        · (intro w hSw; (try dsimp only at hSw); go_simp; (try with_reducible rfl))
        (try simp only [Act.put, List.setIfInBounds_toArray, List.set_cons_zero, List.set_cons_succ])
        refine wpAnyH_take (i := 26) (oi := { dst := some 174, op := Go.Op.fieldAddr 32 (Go.Operand.tmp 10) 1, type := 0, pos := "law.go:78", after := #[{ on := 24, ground := Go.Ground.guard }], guard := some (24, false) }) (v := ?_) rfl (by kernel_rfl) (by kernel_rfl) (by kernel_rfl) (fun _ _ _ h => h) (Or.inl ⟨by rfl, ?_⟩) (by assumption) ?_
        rotate_left
        · (intro w hSw; (try dsimp only at hSw); go_simp; (try with_reducible rfl))
        (try simp only [Act.put, List.setIfInBounds_toArray, List.set_cons_zero, List.set_cons_succ])
        refine wpAnyH_take (i := 27) (oi := { dst := some 175, op := Go.Op.load 9 (Go.Operand.tmp 174), type := 9, pos := "law.go:78", after := #[{ on := 26, ground := Go.Ground.data }, { on := 24, ground := Go.Ground.guard }], guard := some (24, false) }) (v := ?_) rfl (by kernel_rfl) (by kernel_rfl) (by kernel_rfl) (fun _ _ _ h => h) (Or.inl ⟨by rfl, ?_⟩) (by assumption) ?_
        rotate_left
        · (intro w hSw; (try dsimp only at hSw); go_simp; (try with_reducible rfl))
        (try simp only [Act.put, List.setIfInBounds_toArray, List.set_cons_zero, List.set_cons_succ])
        refine wpAnyH_take (i := 29) (oi := { dst := some 177, op := Go.Op.load 29 (Go.Operand.tmp 8), type := 29, pos := "law.go:78", after := #[{ on := 24, ground := Go.Ground.guard }], guard := some (24, false) }) (v := ?_) rfl (by kernel_rfl) (by kernel_rfl) (by kernel_rfl) (fun _ _ _ h => h) (Or.inl ⟨by rfl, ?_⟩) (by assumption) ?_
        rotate_left
        · (intro w hSw; (try dsimp only at hSw); go_simp; (try with_reducible rfl))
        (try simp only [Act.put, List.setIfInBounds_toArray, List.set_cons_zero, List.set_cons_succ])
        refine wpAnyH_take (i := 30) (oi := { dst := some 178, op := Go.Op.fieldAddr 32 (Go.Operand.tmp 10) 1, type := 0, pos := "law.go:78", after := #[{ on := 24, ground := Go.Ground.guard }], guard := some (24, false) }) (v := ?_) rfl (by kernel_rfl) (by kernel_rfl) (by kernel_rfl) (fun _ _ _ h => h) (Or.inl ⟨by rfl, ?_⟩) (by assumption) ?_
        rotate_left
        · (intro w hSw; (try dsimp only at hSw); go_simp; (try with_reducible rfl))
        (try simp only [Act.put, List.setIfInBounds_toArray, List.set_cons_zero, List.set_cons_succ])
        refine wpAnyH_take (i := 31) (oi := { dst := some 179, op := Go.Op.load 9 (Go.Operand.tmp 178), type := 9, pos := "law.go:78", after := #[{ on := 30, ground := Go.Ground.data }, { on := 24, ground := Go.Ground.guard }], guard := some (24, false) }) (v := ?_) rfl (by kernel_rfl) (by kernel_rfl) (by kernel_rfl) (fun _ _ _ h => h) (Or.inl ⟨by rfl, ?_⟩) (by assumption) ?_
        rotate_left
        · (intro w hSw; (try dsimp only at hSw); go_simp; (try with_reducible rfl))
        (try simp only [Act.put, List.setIfInBounds_toArray, List.set_cons_zero, List.set_cons_succ])
        refine wpAnyH_ready (rs := [28]) (by kernel_rfl) (by simp) ?_
        refine AllReadyH.cons (o := { dst := some 176, op := Go.Op.call { callee := Go.Callee.value (Go.Operand.func 29), args := #[Go.Operand.tmp 173, Go.Operand.tmp 175], argTypes := #[25, 9] }, type := 3, pos := "law.go:78", after := #[{ on := 25, ground := Go.Ground.data }, { on := 27, ground := Go.Ground.data }, { on := 24, ground := Go.Ground.chain }, { on := 24, ground := Go.Ground.guard }], guard := some (24, false) }) rfl (fun K hK => ?_) AllReadyH.nil
        go_simp
        refine (HT.out ▸ times_ca w6 c T mo ch L q key S6.out.st.live.ca hsk : Calls Try.prog 29 #[.pointer (some ⟨c, 0, none⟩), .string key] w6 (ValBelow (.int .i64 t) w6)).mono ?_
        rintro e w7 ⟨rfl, hB⟩
        have S7 := Lib.hid (S6.out.below hB)
        have R7 := Lib.hid (R6.out.below hB)
        clear hB
        go_wp2_with fail
        refine hK.out _ _ ?_ (fun hHeld => ?_)
        · exact ⟨S7.out.k.2.1, S7.out.st.box.c.1, S7.out.st.box.c.2.1, S7.out.st.box.c.2.2⟩
        clear hK K
        (try simp only [Act.put, List.setIfInBounds_toArray, List.set_cons_zero, List.set_cons_succ])
        refine wpAnyH_ready (rs := [32]) (by kernel_rfl) (by simp) ?_
        refine AllReadyH.cons (o := { dst := some 180, op := Go.Op.call { callee := Go.Callee.value (Go.Operand.func 15), args := #[Go.Operand.tmp 177, Go.Operand.tmp 179], argTypes := #[29, 9] }, type := 3, pos := "law.go:78", after := #[{ on := 29, ground := Go.Ground.data }, { on := 31, ground := Go.Ground.data }, { on := 28, ground := Go.Ground.chain }, { on := 24, ground := Go.Ground.guard }], guard := some (24, false) }) rfl (fun K hK => ?_) AllReadyH.nil
        go_simp
        refine (HTB.out ▸ rtimes_any w7 gm mo ch Am ml cm B key R7.out HML.out : Calls Try.prog 15 #[.agg #[.int .i64 (mo : Int), .bool ch, .slice Am ml cm], .string key] w7 (ValBelow (.int .i64 t) w7)).mono ?_
        rintro e w8 ⟨rfl, hB⟩
        have S8 := Lib.hid (S7.out.below hB)
        clear hB
        go_wp2_with fail
        refine hK.out _ _ ?_ (fun hHeld => ?_)
        · exact ⟨S8.out.k.2.1, S8.out.st.box.c.1, S8.out.st.box.c.2.1, S8.out.st.box.c.2.2⟩
        clear hK K
        (try simp only [Act.put, List.setIfInBounds_toArray, List.set_cons_zero, List.set_cons_succ])
        refine wpAnyH_take (i := 33) (oi := { dst := some 181, op := Go.Op.binOp Go.BinOp.neq 3 (Go.Operand.tmp 176) (Go.Operand.tmp 180) 3, type := 4, pos := "law.go:78", after := #[{ on := 28, ground := Go.Ground.data }, { on := 32, ground := Go.Ground.data }, { on := 24, ground := Go.Ground.guard }], guard := some (24, false) }) (v := ?_) rfl (by kernel_rfl) (by kernel_rfl) (by kernel_rfl) (fun _ _ _ h => h) (Or.inl ⟨by rfl, ?_⟩) (by assumption) ?_
        rotate_left
        · (intro w hSw; (try dsimp only at hSw); go_simp; (try with_reducible rfl))
        (try simp only [Act.put, List.setIfInBounds_toArray, List.set_cons_zero, List.set_cons_succ])
        refine wpAnyH_take (i := 34) (oi := { dst := some 182, op := Go.Op.pick (Go.Operand.tmp 172) (Go.Operand.const (Go.Value.bool true)) (Go.Operand.tmp 181), type := 4, pos := "law.go:78", after := #[{ on := 24, ground := Go.Ground.data }, { on := 33, ground := Go.Ground.data }], guard := none }) (v := ?_) rfl (by kernel_rfl) (by kernel_rfl) (by kernel_rfl) (fun _ _ _ h => h) (Or.inl ⟨by rfl, ?_⟩) (by assumption) ?_
        rotate_left
        · (intro w hSw; (try dsimp only at hSw); go_simp; (try with_reducible rfl))
        (try simp only [Act.put, List.setIfInBounds_toArray, List.set_cons_zero, List.set_cons_succ])
        refine wpAnyH_take (i := 35) (oi := { dst := some 183, op := Go.Op.move (Go.Operand.tmp 182), type := 4, pos := "law.go:78", after := #[{ on := 34, ground := Go.Ground.data }, { on := 32, ground := Go.Ground.chain }], guard := none }) (v := ?_) rfl (by kernel_rfl) (by kernel_rfl) (by kernel_rfl) (fun _ _ _ h => h) (Or.inl ⟨by rfl, ?_⟩) (by assumption) ?_
        rotate_left
        · (intro w hSw; (try dsimp only at hSw); go_simp; (try with_reducible rfl))
        (try simp only [Act.put, List.setIfInBounds_toArray, List.set_cons_zero, List.set_cons_succ])
        refine wpAnyH_take (i := 36) (oi := { dst := some 184, op := Go.Op.move (Go.Operand.tmp 7), type := 25, pos := "law.go:78", after := #[{ on := 35, ground := Go.Ground.guard }], guard := some (35, false) }) (v := ?_) rfl (by kernel_rfl) (by kernel_rfl) (by kernel_rfl) (fun _ _ _ h => h) (Or.inl ⟨by rfl, ?_⟩) (by assumption) ?_
        rotate_left
        · (intro w hSw; (try dsimp only at hSw); go_simp; (try with_reducible rfl))
        (try simp only [Act.put, List.setIfInBounds_toArray, List.set_cons_zero, List.set_cons_succ])
        refine wpAnyH_take (i := 37) (oi := { dst := some 185, op := Go.Op.fieldAddr 32 (Go.Operand.tmp 10) 1, type := 0, pos := "law.go:78", after := #[{ on := 35, ground := Go.Ground.guard }], guard := some (35, false) }) (v := ?_) rfl (by kernel_rfl) (by kernel_rfl) (by kernel_rfl) (fun _ _ _ h => h) (Or.inl ⟨by rfl, ?_⟩) (by assumption) ?_
        rotate_left
        · (intro w hSw; (try dsimp only at hSw); go_simp; (try with_reducible rfl))
        (try simp only [Act.put, List.setIfInBounds_toArray, List.set_cons_zero, List.set_cons_succ])
        refine wpAnyH_take (i := 38) (oi := { dst := some 186, op := Go.Op.load 9 (Go.Operand.tmp 185), type := 9, pos := "law.go:78", after := #[{ on := 37, ground := Go.Ground.data }, { on := 35, ground := Go.Ground.guard }], guard := some (35, false) }) (v := ?_) rfl (by kernel_rfl) (by kernel_rfl) (by kernel_rfl) (fun _ _ _ h => h) (Or.inl ⟨by rfl, ?_⟩) (by assumption) ?_
        rotate_left
        · (intro w hSw; (try dsimp only at hSw); go_simp; (try with_reducible rfl))
        (try simp only [Act.put, List.setIfInBounds_toArray, List.set_cons_zero, List.set_cons_succ])
        refine wpAnyH_take (i := 40) (oi := { dst := some 188, op := Go.Op.move (Go.Operand.tmp 7), type := 25, pos := "law.go:78", after := #[{ on := 35, ground := Go.Ground.guard }], guard := some (35, false) }) (v := ?_) rfl (by kernel_rfl) (by kernel_rfl) (by kernel_rfl) (fun _ _ _ h => h) (Or.inl ⟨by rfl, ?_⟩) (by assumption) ?_
        rotate_left
        · (intro w hSw; (try dsimp only at hSw); go_simp; (try with_reducible rfl))
        (try simp only [Act.put, List.setIfInBounds_toArray, List.set_cons_zero, List.set_cons_succ])
        refine wpAnyH_take (i := 41) (oi := { dst := some 189, op := Go.Op.fieldAddr 32 (Go.Operand.tmp 10) 1, type := 0, pos := "law.go:78", after := #[{ on := 35, ground := Go.Ground.guard }], guard := some (35, false) }) (v := ?_) rfl (by kernel_rfl) (by kernel_rfl) (by kernel_rfl) (fun _ _ _ h => h) (Or.inl ⟨by rfl, ?_⟩) (by assumption) ?_
        rotate_left
        · (intro w hSw; (try dsimp only at hSw); go_simp; (try with_reducible rfl))
        (try simp only [Act.put, List.setIfInBounds_toArray, List.set_cons_zero, List.set_cons_succ])
        refine wpAnyH_take (i := 42) (oi := { dst := some 190, op := Go.Op.load 9 (Go.Operand.tmp 189), type := 9, pos := "law.go:78", after := #[{ on := 41, ground := Go.Ground.data }, { on := 35, ground := Go.Ground.guard }], guard := some (35, false) }) (v := ?_) rfl (by kernel_rfl) (by kernel_rfl) (by kernel_rfl) (fun _ _ _ h => h) (Or.inl ⟨by rfl, ?_⟩) (by assumption) ?_
        rotate_left
        · (intro w hSw; (try dsimp only at hSw); go_simp; (try with_reducible rfl))
        (try simp only [Act.put, List.setIfInBounds_toArray, List.set_cons_zero, List.set_cons_succ])
        refine wpAnyH_ready (rs := [39]) (by kernel_rfl) (by simp) ?_
        refine AllReadyH.cons (o := { dst := some 187, op := Go.Op.call { callee := Go.Callee.value (Go.Operand.func 30), args := #[Go.Operand.tmp 184, Go.Operand.tmp 186], argTypes := #[25, 9] }, type := 4, pos := "law.go:78", after := #[{ on := 36, ground := Go.Ground.data }, { on := 38, ground := Go.Ground.data }, { on := 35, ground := Go.Ground.chain }, { on := 35, ground := Go.Ground.guard }], guard := some (35, false) }) rfl (fun K hK => ?_) AllReadyH.nil
        go_simp
        refine (HI.out ▸ has_ca w8 c T mo ch L q key S8.out.st.live.ca hsk : Calls Try.prog 30 #[.pointer (some ⟨c, 0, none⟩), .string key] w8 (ValBelow (.bool tb) w8)).mono ?_
        rintro e w9 ⟨rfl, hB⟩
        have S9 := Lib.hid (S8.out.below hB)
        clear hB
        go_wp2_with fail
        refine hK.out _ _ ?_ (fun hHeld => ?_)
        · exact ⟨S9.out.k.2.1, S9.out.st.box.c.1, S9.out.st.box.c.2.1, S9.out.st.box.c.2.2⟩
        clear hK K
        (try simp only [Act.put, List.setIfInBounds_toArray, List.set_cons_zero, List.set_cons_succ])
        refine wpAnyH_ready (rs := [43]) (by kernel_rfl) (by simp) ?_
        refine AllReadyH.cons (o := { dst := some 191, op := Go.Op.call { callee := Go.Callee.value (Go.Operand.func 29), args := #[Go.Operand.tmp 188, Go.Operand.tmp 190], argTypes := #[25, 9] }, type := 3, pos := "law.go:78", after := #[{ on := 40, ground := Go.Ground.data }, { on := 42, ground := Go.Ground.data }, { on := 39, ground := Go.Ground.chain }, { on := 35, ground := Go.Ground.guard }], guard := some (35, false) }) rfl (fun K hK => ?_) AllReadyH.nil
        go_simp
        refine (HT.out ▸ times_ca w9 c T mo ch L q key S9.out.st.live.ca hsk : Calls Try.prog 29 #[.pointer (some ⟨c, 0, none⟩), .string key] w9 (ValBelow (.int .i64 t) w9)).mono ?_
        rintro e wa ⟨rfl, hB⟩
        have Sa := Lib.hid (S9.out.below hB)
        clear hB
        go_wp2_with fail
        refine hK.out _ _ ?_ (fun hHeld => ?_)
        · exact ⟨Sa.out.k.2.1, Sa.out.st.box.c.1, Sa.out.st.box.c.2.1, Sa.out.st.box.c.2.2⟩
        clear hK K
        (try simp only [Act.put, List.setIfInBounds_toArray, List.set_cons_zero, List.set_cons_succ])
        refine wpAnyH_take (i := 44) (oi := { dst := some 192, op := Go.Op.binOp Go.BinOp.gtr 3 (Go.Operand.tmp 191) (Go.Operand.const (Go.Value.int Go.IntKind.i64 0)) 3, type := 4, pos := "law.go:78", after := #[{ on := 43, ground := Go.Ground.data }, { on := 35, ground := Go.Ground.guard }], guard := some (35, false) }) (v := ?_) rfl (by kernel_rfl) (by kernel_rfl) (by kernel_rfl) (fun _ _ _ h => h) (Or.inl ⟨by rfl, ?_⟩) (by assumption) ?_
        rotate_left
        · (intro w hSw; (try dsimp only at hSw); go_simp; (try with_reducible rfl))
        (try simp only [Act.put, List.setIfInBounds_toArray, List.set_cons_zero, List.set_cons_succ])
        refine wpAnyH_take (i := 45) (oi := { dst := some 193, op := Go.Op.binOp Go.BinOp.neq 4 (Go.Operand.tmp 187) (Go.Operand.tmp 192) 4, type := 4, pos := "law.go:78", after := #[{ on := 39, ground := Go.Ground.data }, { on := 44, ground := Go.Ground.data }, { on := 35, ground := Go.Ground.guard }], guard := some (35, false) }) (v := ?_) rfl (by kernel_rfl) (by kernel_rfl) (by kernel_rfl) (fun _ _ _ h => h) (Or.inl ⟨by rfl, ?_⟩) (by assumption) ?_
        rotate_left
        · (intro w hSw; (try dsimp only at hSw); go_simp; (try with_reducible rfl))
        (try simp only [Act.put, List.setIfInBounds_toArray, List.set_cons_zero, List.set_cons_succ])
        refine wpAnyH_take (i := 46) (oi := { dst := some 194, op := Go.Op.pick (Go.Operand.tmp 183) (Go.Operand.const (Go.Value.bool true)) (Go.Operand.tmp 193), type := 4, pos := "law.go:78", after := #[{ on := 35, ground := Go.Ground.data }, { on := 45, ground := Go.Ground.data }], guard := none }) (v := ?_) rfl (by kernel_rfl) (by kernel_rfl) (by kernel_rfl) (fun _ _ _ h => h) (Or.inl ⟨by rfl, ?_⟩) (by assumption) ?_
        rotate_left
        · (intro w hSw; (try dsimp only at hSw); go_simp; (try with_reducible rfl))
        (try simp only [Act.put, List.setIfInBounds_toArray, List.set_cons_zero, List.set_cons_succ])
        refine wpAnyH_take (i := 47) (oi := { dst := some 195, op := Go.Op.move (Go.Operand.tmp 194), type := 4, pos := "law.go:78", after := #[{ on := 46, ground := Go.Ground.data }, { on := 43, ground := Go.Ground.chain }], guard := none }) (v := ?_) rfl (by kernel_rfl) (by kernel_rfl) (by kernel_rfl) (fun _ _ _ h => h) (Or.inl ⟨by rfl, ?_⟩) (by assumption) ?_
        rotate_left
        · (intro w hSw; (try dsimp only at hSw); go_simp; (try with_reducible rfl))
        (try simp only [Act.put, List.setIfInBounds_toArray, List.set_cons_zero, List.set_cons_succ])
        refine wpAnyH_take (i := 48) (oi := { dst := some 196, op := Go.Op.move (Go.Operand.tmp 7), type := 25, pos := "law.go:78", after := #[{ on := 47, ground := Go.Ground.guard }], guard := some (47, false) }) (v := ?_) rfl (by kernel_rfl) (by kernel_rfl) (by kernel_rfl) (fun _ _ _ h => h) (Or.inl ⟨by rfl, ?_⟩) (by assumption) ?_
        rotate_left
        · (intro w hSw; (try dsimp only at hSw); go_simp; (try with_reducible rfl))
        (try simp only [Act.put, List.setIfInBounds_toArray, List.set_cons_zero, List.set_cons_succ])
        refine wpAnyH_ready (rs := [49]) (by kernel_rfl) (by simp) ?_
        refine AllReadyH.cons (o := { dst := some 197, op := Go.Op.call { callee := Go.Callee.value (Go.Operand.func 31), args := #[Go.Operand.tmp 196], argTypes := #[25] }, type := 47, pos := "law.go:78", after := #[{ on := 48, ground := Go.Ground.data }, { on := 47, ground := Go.Ground.chain }, { on := 47, ground := Go.Ground.guard }], guard := some (47, false) }) rfl (fun K hK => ?_) AllReadyH.nil
        go_simp
        refine (ghostsC wa c).mono ?_
        rintro e wx ⟨rfl, rfl⟩
        go_wp2_with fail
        refine hK.out _ _ ?_ (fun hHeld => ?_)
        · exact hHeld
        clear hK K
        (try simp only [Act.put, List.setIfInBounds_toArray, List.set_cons_zero, List.set_cons_succ])
        refine wpAnyH_take (i := 50) (oi := { dst := some 198, op := Go.Op.call { callee := Go.Callee.builtin Go.Builtin.len, args := #[Go.Operand.tmp 197], argTypes := #[47] }, type := 3, pos := "law.go:78", after := #[{ on := 49, ground := Go.Ground.data }, { on := 47, ground := Go.Ground.guard }], guard := some (47, false) }) (v := ?_) rfl (by kernel_rfl) (by kernel_rfl) (by kernel_rfl) (fun _ _ _ h => h) (Or.inl ⟨by rfl, ?_⟩) (by assumption) ?_
        rotate_left
        · (intro w hSw; (try dsimp only at hSw); go_simp; (try with_reducible rfl))
        (try simp only [Act.put, List.setIfInBounds_toArray, List.set_cons_zero, List.set_cons_succ])
        refine wpAnyH_take (i := 51) (oi := { dst := some 199, op := Go.Op.binOp Go.BinOp.neq 3 (Go.Operand.tmp 198) (Go.Operand.const (Go.Value.int Go.IntKind.i64 0)) 3, type := 4, pos := "law.go:78", after := #[{ on := 50, ground := Go.Ground.data }, { on := 47, ground := Go.Ground.guard }], guard := some (47, false) }) (v := ?_) rfl (by kernel_rfl) (by kernel_rfl) (by kernel_rfl) (fun _ _ _ h => h) (Or.inl ⟨by rfl, ?_⟩) (by assumption) ?_
        rotate_left
        · (intro w hSw; (try dsimp only at hSw); go_simp; (try with_reducible rfl))
        (try simp only [Act.put, List.setIfInBounds_toArray, List.set_cons_zero, List.set_cons_succ])
        refine wpAnyH_take (i := 52) (oi := { dst := some 200, op := Go.Op.pick (Go.Operand.tmp 195) (Go.Operand.const (Go.Value.bool true)) (Go.Operand.tmp 199), type := 4, pos := "law.go:78", after := #[{ on := 47, ground := Go.Ground.data }, { on := 51, ground := Go.Ground.data }], guard := none }) (v := ?_) rfl (by kernel_rfl) (by kernel_rfl) (by kernel_rfl) (fun _ _ _ h => h) (Or.inl ⟨by rfl, ?_⟩) (by assumption) ?_
        rotate_left
        · (intro w hSw; (try dsimp only at hSw); go_simp; (try with_reducible rfl))
        (try simp only [Act.put, List.setIfInBounds_toArray, List.set_cons_zero, List.set_cons_succ])
        refine wpAnyH_done (by kernel_rfl) ?_ _
        refine NoPanic.normal ?_
        clear hHeld SD RD R4 O4 U6 S4 S5 S6 S7 S8 S9 R5 R6 R7 d1 m0 m1 m2
        go_wp2_with fail
        go_roundg (n - (k + 1))
        case measure => have := HGK.out; omega
        case rel => exact ⟨k + 1, T, mo, L, q, _, B, rfl, by go_num, by omega, hq2, Sa.out.st, YY.out⟩
    · have e0 : decide (k < n) = false := by simpa using hlt
      go_wp2_with fail
      go_ret
      exact ⟨rfl, HPy.out.live.bel⟩

theorem walk_lfuPlays (a0 : Int) (a1 : Bool) (v2 : Value) (w : World) (w0 : (Lit.int .i64 a0).wf = true) (w2 : CameA w v2) : Calls Try.prog 3 #[.int .i64 a0, .bool a1, v2] w (RetB true w) := by
  obtain ⟨A, n, c, rfl, hn, K, S, N, hr, hc⟩ := w2
  exact plays_main a0 a1 A n c w K S N (i64_rng w0) hn hr hc

namespace LLfuPlays
set_option maxRecDepth 100000 in
theorem lifted (os : Os) (started : os.Started) (H : Type) (enc : TypeId × Value → H) :
    ReturnsInHanded {} Try.checked os 3 .any (Rows.lfuPlaysSpec.pre6 enc Try.prog Try.f3 Rows.lfuPlaysRow.domain false) (Rows.lfuPlaysSpec.post enc Try.prog Try.f3 false true false false) := by
  refine returnsInHanded_of_change (C := Try.checked) own started (by kernel_rfl) Try.func3
    (ChangeSpec.witness6 (enc := enc) (C := Try.checked) false ⟨#[], #[.int .i64 0, .bool false, .slice none 0 0], []⟩ 8 (by kernel_rfl) (by kernel_rfl) (by kernel_rfl) (by kernel_rfl)) ?_
  intro W base args ds gs before hval0 hW _ _
  have hval : ∀ (j : Nat) t v, Try.f3.params[j]? = some t → args[j]? = some v → Value.okWide Try.prog W .any base t v := hval0
  have hW' := hW
  obtain ⟨p, q, hA0, hV, rfl, hfz, hnd⟩ := hW
  have hA : DataW.TrodAll enc Try.prog W 0 (fun _ => true) true Try.f3.params.toList args.toList ds p := hA0
  rw [Try.params3] at hA hval
  obtain ⟨v0, vs0, d0, ds0, p0, q0, hargs, rfl, rfl, h0, r0⟩ := trodAll_cons hA
  obtain ⟨v1, vs1, d1, ds1, p1, q1, rfl, rfl, rfl, h1, r1⟩ := trodAll_cons r0
  obtain ⟨v2, vs2, d2, ds2, p2, q2, rfl, rfl, rfl, h2, r2⟩ := trodAll_cons r1
  obtain ⟨rfl, rfl, rfl⟩ := trodAll_nil r2
  obtain rfl : args = #[v0, v1, v2] := by cases args; simp_all
  obtain ⟨rfl, rfl⟩ := trodVars_none hV
  obtain ⟨a0, rfl, rfl, rfl, w0⟩ := open_int Try.underlying3 (hval 0 3 v0 rfl rfl) h0
  obtain ⟨a1, rfl, rfl, rfl⟩ := Go.RowKit.open_bool Try.underlying4 (hval 1 4 v1 rfl rfl) h1
  have k2 := h2
  have lt2 : ∀ x ∈ p2, x.block < W.heap.size := by obtain ⟨m, hm⟩ := k2; exact DataW.trod_lt m _ _ _ hm
  have w2 := open_a (hval 2 22 v2 rfl rfl) h2
  clear hA0 hval0
  refine (walk_lfuPlays a0 a1 v2 W w0 w2).mono fun e W' ⟨he, bel⟩ => ?_
  subst he
  exact ⟨_, rfl, _, _, _, [], _, [], hW', trodAll_mk1 (shut_bool Try.underlying4 _), (trodAll_cons_mk (shut_int Try.underlying3 w0) (trodAll_cons_mk (shut_bool Try.underlying4 _) (trodAll_cons_mk (Below.trod laidOut (by kernel_rfl) (of_decide_eq_true (by kernel_rfl)) k2 bel lt2) trodAll_mk0))), rfl, bel.frame _, fun h => by cases h⟩

theorem said : Rows.LfuPlaysSaid :=
  OpenClaim.holds_of_wide 3 Try.f3 rfl rfl rfl rfl rfl rfl rfl ⟨rfl, rfl, rfl, rfl, rfl⟩ rfl rfl rfl rfl rfl (by kernel_rfl) Try.func3 (by kernel_rfl)
    (of_decide_eq_true (by kernel_rfl)) (by unfold Func.isWrapper; rw [if_neg (of_decide_eq_false (by kernel_rfl))]; exact ⟨rfl, rfl⟩)
    (fun os started H enc _ => lifted os started H enc)
#print axioms said
end LLfuPlays
end Go.Proofs.Ytdbfojolocelaaa
