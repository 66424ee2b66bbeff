/- 'cachewiselaw05.LruPlays' returns true for every size and every row of calls, and leaves what was there as it was. No condition. -/
import Derived.Test.YthbokiebnniifaaPlay5
import Derived.Deep.LoopGhost
import Derived.Deep.DeepCutAuto
import Derived.Deep.CutBlock
import Derived.Deep.RegionHeld3
namespace Go.Proofs.Ythbokiebnniifaa
open Go.ChangeShapes Go.WideShapes Go.ChangeAt Go.RowKit

def PyR (n c bm : Nat) (w0 : World) (g : Nat) (i : Value) (W : World) : Prop := ∃ (k : Nat) (T : Nat → Prop) (mo : Nat) (ks : List ByteArray) (v : Value), g = n - k ∧ i = .int .i64 (k : Int) ∧ k ≤ n ∧ PyS w0 W c T bm mo ks k mo v ks
def PyM (k c bm : Nat) (w0 : World) (ga : Nat) (kd : Int) (key : ByteArray) (nn : Int) (W : World) : Prop := ∃ (T : Nat → Prop) (mo : Nat) (ks : List ByteArray) (v : Value), PyA w0 W c T bm mo ks (k + 1) mo v ks ga kd key nn
theorem PyA.mono {w0 W : World} {c : Nat} {T : Nat → Prop} {bm mo : Nat} {ks : List ByteArray} {b mo' : Nat} {v : Value} {ys : List ByteArray} {ga : Nat} {kd : Int} {key : ByteArray} {nn : Int} (s : PyA w0 W c T bm mo ks b mo' v ys ga kd key nn) {b' : Nat} (h : b ≤ b') : PyA w0 W c T bm mo ks b' mo' v ys ga kd key nn :=
  ⟨⟨⟨s.st.live.ca.mono h, s.st.live.bel, s.st.live.low⟩, s.st.box, s.st.row, s.st.out⟩, s.act, s.away⟩

set_option maxHeartbeats 8000000 in
set_option maxRecDepth 100000 in
theorem plays_main (z : Int) (A : Option Addr) (n cc : Nat) (w : World) (K : Nat → Int) (S : Nat → ByteArray) (N : Nat → Int) (hz : -9223372036854775808 ≤ z ∧ z ≤ 9223372036854775807) (hn : n ≤ maxLen) (hS : ∀ i, i < n → (-9223372036854775808 ≤ N i ∧ N i ≤ 9223372036854775807) ∧ (S i).size ≤ maxLen)
    (hc : 0 < n → ∃ g o, A = some ⟨g, o, none⟩ ∧ g < w.heap.size ∧ n ≤ cc ∧ cc ≤ maxLen ∧ ∀ i, i < n → w.cell? ⟨g, o + i * 3, none⟩ = some (.int .i64 (K i)) ∧ w.cell? ⟨g, o + i * 3 + 1, none⟩ = some (.string (S i)) ∧ w.cell? ⟨g, o + i * 3 + 2, none⟩ = some (.int .i64 (N i))) :
    Calls Try.prog 3 #[.int .i64 z, .slice A n cc] w (RetB true w) := by
  have g34 := guard34
  have n34 := neq34
  have HC := Lib.hid hc
  have HS := Lib.hid hS
  have HN := Lib.hid hn
  clear hc hS hn
  go_enter Try.func3, Try.ntmps3
  go_wp2_with fail
  refine (awake_any _).mono ?_
  rintro e w0 ⟨rfl, hb0⟩
  have b0 := Lib.hid hb0; clear hb0
  go_wp2_with fail
  refine (few_any A n cc w0 S HN.out (fun i hi => (HS.out i hi).2) (fun h => by
    obtain ⟨g, o, h1, h2, h3, h4, h5⟩ := HC.out h
    exact ⟨g, o, h1, Nat.lt_of_lt_of_le h2 b0.out.size, h3, h4, fun i hi => (b0.out.cell (p := ⟨g, o + i * 3 + 1, none⟩) h2).trans (h5 i hi).2.1⟩)).mono ?_
  rintro e w0 ⟨t, rfl, rfl, ht⟩
  cases t with
  | false =>
    go_wp2_with fail
    go_ret
    exact ⟨rfl, b0.out⟩
  | true =>
  have hn := ht rfl
  clear ht
  go_wp2_with fail
  obtain ⟨mo0, hmo⟩ : ∃ m, m = z.toNat := ⟨_, rfl⟩
  refine (hmo ▸ new_ca w0 z hz : Calls Try.prog 11 #[.int .i64 z] w0 (NewC mo0 w0)).mono ?_
  rintro e w1 ⟨c, T1, rfl, hC, hT, hB⟩
  have L1 := Lib.hid (Live.made b0.out hC hT hB)
  have HMO := Lib.hid hmo
  clear hC hT hB b0 hmo
  go_wp2_with fail
  refine (HMO.out ▸ rnew_any w1 z hz : Calls Try.prog 12 #[.int .i64 z] w1 (RNew mo0 w1)).mono ?_
  rintro e w2 ⟨rfl, hB⟩
  have L2 := L1.out.below hB
  have hb3 := (Below.refl w2.heap.size w2).alloc (Nat.le_refl _) (.cells #[.int .i64 (mo0 : Int), .slice none 0 0] 29)
  have S1 := Lib.hid (show PyS w (w2.alloc (.cells #[.int .i64 (mo0 : Int), .slice none 0 0] 29)) c T1 w2.heap.size mo0 [] 0 mo0 (.slice none 0 0) [] from
    ⟨L2.below hb3, heap_alloc_new _ _, ⟨w2.heap.size + 1, Row.nil _ _ _ _, fun hk => by have := L2.lt _ hk; omega, by omega⟩, fun hk => by have := L2.lt _ hk; omega, L2.bel.size⟩)
  clear hB L1 L2 hb3
  go_wp2_with fail
  generalize w2.heap.size = bm at S1 ⊢
  go_loopg [7] n (fun g i W => PyR n c bm w g i W)
  case atStart => exact ⟨0, T1, mo0, [], _, by omega, rfl, Nat.zero_le _, S1.out⟩
  case round =>
    obtain ⟨k, T, mo, ks, v, hgk, rfl, hk, hS⟩ := hrel
    have HGK := Lib.hid hgk
    have HPy := Lib.hid hS
    clear hgk hS S1
    by_cases hlt : k < n
    · have e0 : decide (k < n) = true := by simpa using hlt
      obtain ⟨g, o, rfl, hg, hc1, hc2, hcell⟩ := HC.out (by omega)
      have hc3 := hcell k hlt
      have h1 := (HPy.out.live.bel.cell (p := ⟨g, o + k * 3, none⟩) hg).trans hc3.1
      have h2 := (HPy.out.live.bel.cell (p := ⟨g, o + k * 3 + 1, none⟩) hg).trans hc3.2.1
      have h3 := (HPy.out.live.bel.cell (p := ⟨g, o + k * 3 + 2, none⟩) hg).trans hc3.2.2
      have hsk := (HS.out k hlt).2
      have hnk := (HS.out k hlt).1
      clear hcell hc3
      unfold maxLen at hc2
      have S2 := Lib.hid (HPy.out.alloc (K k) (S k) (N k))
      go_upto_block 2 with fail
      clear h1 h2 h3
      generalize wr.alloc (.cells #[.int .i64 (K k), .string (S k), .int .i64 (N k)] 32) = w2 at S2 ⊢
      generalize wr.heap.size = ga at S2 ⊢
      generalize S k = key at S2 hsk ⊢
      generalize K k = kd at S2 ⊢
      generalize N k = nn at S2 hnk ⊢
      go_cut [] (fun W => PyM k c bm w ga kd key nn W)
      case first =>
        as_aux_lemma =>
        obtain ⟨gm, hgm, hgT, hgb⟩ := S2.out.st.row
        obtain ⟨Am, cm, rfl⟩ := hgm.shape
        obtain ⟨d0, d1, d2⟩ := S2.out.k
        obtain ⟨m0, m1, m2, m3⟩ := S2.out.st.box.four
        have hle := S2.out.st.live.ca.le
        have HGM := Lib.hid (And.intro hgT hgb)
        have RM := Lib.hid hgm
        clear hgm hgT hgb HPy
        cases c0 : (kd == 0) with
        | true =>
          have U := rq_any w2 gm mo Am ks.length cm ks key RM.out rfl S2.out.st.live.ca.nodup S2.out.st.live.ca.top hsk (by omega) hle.1
          have V := fun (W : World) (T : Nat → Prop) (hC : Ca W c T mo ks k) => request_ca W c T mo ks k key hC hsk (by omega)
          unfold stepV at U V
          generalize hitB mo ks key = th at U V
          generalize vicK mo ks key = tv at U V
          generalize outB mo ks key = tz at U V
          have U := Lib.hid U
          have V := Lib.hid V
          go_wp2_with fail
          refine U.out.mono ?_
          rintro e w3 ⟨A3, n3, c3, g3, rfl, hr3, hg3, hB3⟩
          have R3 := Lib.hid hr3
          have B3 := Lib.hid (S2.out.beside HGM.out.1 HGM.out.2 hg3)
          have S3 := Lib.hid (S2.out.below hB3)
          clear hr3 hg3 hB3 U d0 d1 d2 m0 m1 m2 m3 S2 RM
          go_upto_region 16 with fail
          have hb4 := below_two w3 (.cells #[.int .i64 (mo : Int), .slice A3 n3 c3] 29) (.cells #[.bool th, .string tv, .bool tz] 34)
          have k9 : CBox ((w3.alloc (.cells #[.int .i64 (mo : Int), .slice A3 n3 c3] 29)).alloc (.cells #[.bool th, .string tv, .bool tz] 34)) w3.heap.size mo (.slice A3 n3 c3) := (Below.heap_alloc _ _ _ (by simp)).trans (heap_alloc_new _ _)
          have k10 : Box ((w3.alloc (.cells #[.int .i64 (mo : Int), .slice A3 n3 c3] 29)).alloc (.cells #[.bool th, .string tv, .bool tz] 34)) (w3.heap.size + 1) th tv tz := by
            have := heap_alloc_new (w3.alloc (.cells #[.int .i64 (mo : Int), .slice A3 n3 c3] 29)) (.cells #[.bool th, .string tv, .bool tz] 34)
            rw [show (w3.alloc (.cells #[.int .i64 (mo : Int), .slice A3 n3 c3] 29)).heap.size = w3.heap.size + 1 by simp] at this
            exact this
          have f10 := S3.out.fresh (g := w3.heap.size + 1) (by omega)
          have f9 := S3.out.fresh (g := w3.heap.size) (Nat.le_refl _)
          have S4 := Lib.hid (S3.out.below hb4)
          have R4 := Lib.hid (R3.out.below hb4)
          clear hb4 R3 S3
          generalize ((w3.alloc (.cells #[.int .i64 (mo : Int), .slice A3 n3 c3] 29)).alloc (.cells #[.bool th, .string tv, .bool tz] 34)) = w4 at S4 R4 k9 k10 ⊢
          generalize w3.heap.size + 1 = z10 at k10 f10 ⊢
          generalize w3.heap.size = z9 at k9 f9 ⊢
          obtain ⟨x0, x1, x2, x3⟩ := k9.four
          obtain ⟨m0, m1, m2, m3⟩ := S4.out.st.box.four
          have S5 := Lib.hid (S4.out.setm R4.out B3.out.1 B3.out.2 mo)
          have K5 := Lib.hid (show Box ((w4.setCell ⟨bm, 0, none⟩ (.int .i64 (mo : Int))).setCell ⟨bm, 1, none⟩ (.slice A3 n3 c3)) z10 th tv tz from (k10.other f10.2.1 _).other f10.2.1 _)
          clear k9 k10 S4 R4
          go_upto_region 17 with fail
          clear x0 x1 x2 x3 m0 m1 m2 m3
          generalize (w4.setCell ⟨bm, 0, none⟩ (.int .i64 (mo : Int))).setCell ⟨bm, 1, none⟩ (.slice A3 n3 c3) = w5 at S5 K5 ⊢
          obtain ⟨_, d1, _⟩ := S5.out.k
          obtain ⟨q0, q1, q2, _, _, _⟩ := K5.out.six
          have SD := Lib.hid S5.out.drew
          have KD := Lib.hid (show Box w5.drew z10 th tv tz from K5.out)
          clear S5 K5
          go_region_held3 (fun w' => w'.cell? ⟨ga, 1, none⟩ = some (.string key) ∧ w'.cell? ⟨z10, 0, none⟩ = some (.bool th) ∧ w'.cell? ⟨z10, 1, none⟩ = some (.string tv) ∧ w'.cell? ⟨z10, 2, none⟩ = some (.bool tz)) (first | (exact ⟨‹_›, ‹_›, ‹_›, ‹_›⟩) | go_keep)
            (first
              | (go_at_call 14; refine (V.out _ _ SD.out.st.live.ca).mono ?_; intro e w6 hp; obtain ⟨q3, q4, q5, _, _, _⟩ := (SD.out.opBox KD.out f10.1 hp).six; obtain ⟨rfl, T6, h6⟩ := SD.out.op hp; obtain ⟨_, d3, _⟩ := h6.k; have S6 := Lib.hid h6; clear hp h6))
          all_goals
            go_wp2_with fail
            go_meet
            exact ⟨T6, mo, _, _, S6.out⟩
        | false =>
        cases c1 : (kd == 1) with
        | true =>
          have SD := Lib.hid S2.out.drew
          clear RM S2
          go_wp2_with fail
          go_region_held3 (fun w' => w'.cell? ⟨ga, 1, none⟩ = some (.string key) ∧ w'.cell? ⟨bm, 1, none⟩ = some (.slice Am ks.length cm)) (first | (exact ⟨‹_›, ‹_›⟩) | go_keep)
            (first
              | (go_at_call 15; refine (remove_ca _ c T mo ks k key SD.out.st.live.ca hsk).mono ?_; intro e w3 hp; obtain ⟨rfl, T3, h3⟩ := SD.out.op hp; obtain ⟨g3, hr3, hg3, hg3b⟩ := h3.st.row; obtain ⟨_, d3, _⟩ := h3.k; obtain ⟨_, m4, _, _⟩ := h3.st.box.four; have S3 := Lib.hid h3; have R3 := Lib.hid hr3; clear hp h3 hr3 hg3 hg3b)
              | (go_at_call 16; refine (refHas_any _ g3 _ ks key R3.out).mono ?_; rintro e w4 ⟨rfl, rfl⟩))
          all_goals
            have U := Lib.hid (refRemove_any w3 g3 _ ks key R3.out (by omega))
            clear d0 d1 d2 m0 m1 m2 m3
            go_wp2_with fail
            refine U.out.mono ?_
            rintro e w4 ⟨v4, rfl, hO, hB⟩
            obtain ⟨A4, c4, rfl⟩ := hO.len
            have S4 := S3.out.below hB
            obtain ⟨g4, hg4, hr4⟩ := hO.row
            have f4 := S3.out.fresh hg4
            obtain ⟨_, p1, p2, p3⟩ := S4.st.box.four
            have S5 := Lib.hid (S4.setl hr4 f4.1 f4.2.1)
            clear hO hB hg4 hr4 f4 S4 U
            go_wp2_with fail
            go_meet
            exact ⟨T3, mo, _, _, S5.out.mono (by omega)⟩
        | false =>
        cases c2 : (kd == 2) with
        | true =>
          have U := ra_any w2 gm Am ks.length cm mo ks key RM.out S2.out.st.live.ca.top rfl (by omega) hsk
          have V := fun (W : World) (T : Nat → Prop) (hC : Ca W c T mo ks k) => adopt_ca W c T mo ks k key hC hsk (by omega)
          generalize adB mo ks key = tb at U V
          have U := Lib.hid U
          have V := Lib.hid V
          go_wp2_with fail
          refine U.out.mono ?_
          rintro e w3 ⟨A3, n3, c3, g3, rfl, hr3, hg3, hB3⟩
          have R3 := Lib.hid hr3
          have B3 := Lib.hid (S2.out.beside HGM.out.1 HGM.out.2 hg3)
          have S3 := Lib.hid (S2.out.below hB3)
          clear hr3 hg3 hB3 U d0 d1 d2 m0 m1 m2 m3 S2 RM
          go_upto_region 25 with fail
          have hb4 := (Below.refl w3.heap.size w3).alloc (Nat.le_refl _) (.cells #[.int .i64 (mo : Int), .slice A3 n3 c3] 29)
          have k9 : CBox (w3.alloc (.cells #[.int .i64 (mo : Int), .slice A3 n3 c3] 29)) w3.heap.size mo (.slice A3 n3 c3) := heap_alloc_new _ _
          have f9 := S3.out.fresh (g := w3.heap.size) (Nat.le_refl _)
          have S4 := Lib.hid (S3.out.below hb4)
          have R4 := Lib.hid (R3.out.below hb4)
          clear hb4 R3 S3
          generalize (w3.alloc (.cells #[.int .i64 (mo : Int), .slice A3 n3 c3] 29)) = w4 at S4 R4 k9 ⊢
          generalize w3.heap.size = z9 at k9 f9 ⊢
          obtain ⟨x0, x1, x2, x3⟩ := k9.four
          obtain ⟨m0, m1, m2, m3⟩ := S4.out.st.box.four
          have S5 := Lib.hid (S4.out.setm R4.out B3.out.1 B3.out.2 mo)
          clear k9 S4 R4
          go_upto_region 26 with fail
          clear x0 x1 x2 x3 m0 m1 m2 m3
          generalize (w4.setCell ⟨bm, 0, none⟩ (.int .i64 (mo : Int))).setCell ⟨bm, 1, none⟩ (.slice A3 n3 c3) = w5 at S5 ⊢
          obtain ⟨_, d1, _⟩ := S5.out.k
          go_wp2_with fail
          refine (V.out _ _ S5.out.st.live.ca).mono ?_
          intro e w6 hp
          obtain ⟨rfl, T6, h6⟩ := S5.out.op hp
          have S6 := Lib.hid h6
          clear hp h6 S5
          go_wp2_with fail
          go_meet
          exact ⟨T6, mo, _, _, S6.out⟩
        | false =>
        cases c3 : (kd == 3) with
        | true =>
          have U := drop_ca w2 c T mo ks k S2.out.st.live.ca
          cases ks with
          | nil =>
            simp only [List.headD_nil, List.isEmpty_nil, Bool.not_true, List.tail_nil] at U
            have U := Lib.hid U
            rw [List.length_nil] at *
            go_wp2_with fail
            refine U.out.mono ?_
            intro e w3 hp
            obtain ⟨rfl, T3, h3⟩ := S2.out.op hp
            obtain ⟨_, m4, _, _⟩ := h3.st.box.four
            have S3 := Lib.hid h3
            clear hp h3 U d0 d1 d2 m0 m1 m2 m3 S2 RM
            go_wp2_with fail
            go_meet
            exact ⟨T3, mo, _, _, S3.out.mono (by omega)⟩
          | cons x ks =>
            simp only [List.headD_cons, List.isEmpty_cons, Bool.not_false, List.tail_cons] at U
            have U := Lib.hid U
            have RM2 := RM.out
            have S22 := Lib.hid (show PyA w w2 c T bm mo (x :: ks) k mo (.slice Am (ks.length + 1) cm) (x :: ks) ga kd key nn from S2.out)
            have hl1 : (x :: ks).length = ks.length + 1 := rfl
            rw [hl1] at m1 RM2 hle
            clear S2 RM hl1
            go_wp2_with fail
            refine U.out.mono ?_
            intro e w3 hp
            obtain ⟨rfl, T3, h3⟩ := S22.out.op hp
            obtain ⟨g3, hr3, hg3, hg3b⟩ := h3.st.row
            obtain ⟨o3, rfl, hgl, hx3, hcm1, hcm2⟩ := hr3.at (k := 0) (by simp)
            rw [Nat.add_zero, show (x :: ks).getD 0 ⟨#[]⟩ = x from rfl] at hx3
            have hcm1 : ks.length + 1 ≤ cm := hcm1
            obtain ⟨A', f1, f2, hF⟩ := row_from hr3 rfl (p := 1) (by omega)
            simp only [Nat.add_sub_cancel] at f1 f2
            have f1 : ∀ W : World, (Instr.sliceAt 27 (.slice (some ⟨g3, o3, none⟩) (ks.length + 1) cm) (some (.int .i64 1)) none none).run Try.prog W = .ok (.slice A' ks.length (cm - 1)) W := f1
            have f2 : ∀ W : World, (Instr.slice 27 (.slice (some ⟨g3, o3, none⟩) (ks.length + 1) cm) (some (.int .i64 1)) none none).run Try.prog W = .ok (.slice A' ks.length (cm - 1)) W := f2
            have hF : Row w3 g3 (.slice A' ks.length (cm - 1)) ks := hF
            obtain ⟨_, m4, m5, m6⟩ := h3.st.box.four
            have S5 := Lib.hid (h3.setl hF hg3 hg3b)
            unfold maxLen at hcm2
            clear hp h3 U d0 d1 d2 m0 m1 m2 m3 S22 RM2 hr3 hF hg3
            go_wp2_with fail
            go_meet
            exact ⟨T3, mo, _, _, S5.out.mono (by omega)⟩
        | false =>
        cases c4 : (kd == 4) with
        | true =>
          obtain ⟨m, hm⟩ : ∃ m, m = nn.toNat := ⟨_, rfl⟩
          have U := Lib.hid (rz_any w2 gm Am ks.length cm mo m nn ks RM.out rfl (by omega) hnk hm)
          have V := Lib.hid (fun (W : World) (T : Nat → Prop) (hC : Ca W c T mo ks k) => (hm ▸ resize_ca W c T mo ks k nn hnk hC : Calls Try.prog 23 #[.pointer (some ⟨c, 0, none⟩), .int .i64 nn] W (ResPost W c T m ks k)))
          have hmt : m ≤ 9223372036854775807 := by omega
          clear hm
          go_wp2_with fail
          refine U.out.mono ?_
          rintro e w3 ⟨A3, n3, c3, A6, n6, c6, rfl, hr3, hr6, hB3⟩
          have R3 := Lib.hid hr3
          have R6 := Lib.hid hr6
          have S3 := Lib.hid (S2.out.below hB3)
          clear hr3 hr6 hB3 U d0 d1 d2 m0 m1 m2 m3 S2 RM
          go_upto_region 36 with fail
          have hb4 := (Below.refl w3.heap.size w3).alloc (Nat.le_refl _) (.cells #[.int .i64 (m : Int), .slice A3 n3 c3] 29)
          have k9 : CBox (w3.alloc (.cells #[.int .i64 (m : Int), .slice A3 n3 c3] 29)) w3.heap.size m (.slice A3 n3 c3) := heap_alloc_new _ _
          have f9 := S3.out.fresh (g := w3.heap.size) (Nat.le_refl _)
          have S4 := Lib.hid (S3.out.below hb4)
          have R4 := Lib.hid (R3.out.below hb4)
          have R7 := Lib.hid (R6.out.below hb4)
          clear hb4 R3 S3 R6
          generalize (w3.alloc (.cells #[.int .i64 (m : Int), .slice A3 n3 c3] 29)) = w4 at S4 R4 R7 k9 ⊢
          generalize w3.heap.size = z9 at k9 f9 ⊢
          obtain ⟨x0, x1, x2, x3⟩ := k9.four
          obtain ⟨m0, m1, m2, m3⟩ := S4.out.st.box.four
          have S5 := Lib.hid (S4.out.setm R4.out HGM.out.1 HGM.out.2 m)
          have R8 := Lib.hid ((R7.out.set (q := ⟨bm, 0, none⟩) HGM.out.2 (.int .i64 (m : Int))).set (q := ⟨bm, 1, none⟩) HGM.out.2 (.slice A3 n3 c3))
          clear k9 S4 R4 R7
          go_upto_region 37 with fail
          clear x0 x1 x2 x3 m0 m1 m2 m3
          generalize (w4.setCell ⟨bm, 0, none⟩ (.int .i64 (m : Int))).setCell ⟨bm, 1, none⟩ (.slice A3 n3 c3) = w5 at S5 R8 ⊢
          obtain ⟨_, _, d2⟩ := S5.out.k
          go_wp2_with fail
          refine (V.out _ _ S5.out.st.live.ca).mono ?_
          intro e w6 hp
          obtain ⟨u6, T6, g6, rfl, hr6, h6, hk6⟩ := S5.out.res hp
          have U6 := Lib.hid (refSame_self w6 g6 gm _ _ _ hr6 (hk6 gm _ _ R8.out HGM.out.1))
          have S6 := Lib.hid h6
          clear hp h6 hk6 hr6 S5 R8
          go_wp2_with fail
          refine U6.out.mono ?_
          rintro e w7 ⟨rfl, q7, hw7⟩
          have S7 := Lib.hid (S6.out.below (show Below w6.heap.size w6 w7 from hw7 ▸ below_drewN _ q7))
          clear hw7 S6 U6
          go_wp2_with fail
          go_meet
          exact ⟨T6, m, _, _, S7.out.mono (by omega)⟩
        | false =>
          clear d0 d1 d2 m0 m1 m2 m3
          go_wp2_with fail
          go_meet
          exact ⟨T, mo, ks, _, S2.out.mono (by omega)⟩
      case rest =>
        clear S2 HPy
        obtain ⟨T, mo, ks, v, hS⟩ := hcut
        have S3 := Lib.hid hS
        obtain ⟨gm, hgm, hgT, hgb⟩ := hS.st.row
        obtain ⟨Am, cm, rfl⟩ := hgm.shape
        have RM := Lib.hid hgm
        have hle := hS.st.live.ca.le
        clear hS hgm hgT hgb
        have UV := victim_ca wc c T mo ks _ S3.out.st.live.ca
        obtain ⟨x, hxd⟩ : ∃ x, x = ks.headD ⟨#[]⟩ := ⟨_, rfl⟩
        obtain ⟨t, htd⟩ : ∃ t, t = (!ks.isEmpty) := ⟨_, rfl⟩
        rw [← hxd, ← htd] at UV
        have UV := Lib.hid UV
        have HXD := Lib.hid hxd
        have HTD := Lib.hid htd
        clear hxd htd
        go_wp2_with fail
        refine UV.out.mono ?_
        rintro e wc ⟨rfl, rfl⟩
        clear UV
        go_wp2_with fail
        have SD := Lib.hid S3.out.drew
        have RD := Lib.hid (RM.out.below ((Below.refl _ _).drew))
        obtain ⟨_, d1, _⟩ := S3.out.k
        obtain ⟨_, m1, _, _⟩ := S3.out.st.box.four
        by_cases hx : ks = []
        · as_aux_lemma =>
            obtain rfl : x = ⟨#[]⟩ := by rw [HXD.out, hx]; rfl
            obtain rfl : t = false := by rw [HTD.out, hx]; rfl
            have h3 : ks.length = 0 := by rw [hx]; rfl
            have hx0 : decide ((0 : Int) < (ks.length : Int)) = false := by rw [h3]; rfl
            have hx1 : decide (0 < ks.length) = false := by rw [h3]; rfl
            clear h3 hx HXD HTD
            refine wp_region_noPanic ?_
            refine wp_region_held_drew (S := fun w' => w'.cell? ⟨ga, 1, none⟩ = some (.string key) ∧ w'.cell? ⟨bm, 1, none⟩ = some (.slice Am ks.length cm)) (by kernel_rfl) ?_ (fun hHeld => ?_)
            · exact ⟨d1, m1⟩
            refine wpAnyH_take (i := 0) (oi := { dst := some 143, op := Go.Op.move (Go.Operand.tmp 5), type := 25, pos := "law.go:90", after := #[], guard := none }) (v := ?_) rfl (by kernel_rfl) (by kernel_rfl) (by kernel_rfl) (fun _ _ _ h => h) (Or.inl ⟨by rfl, ?_⟩) (by assumption) ?_
            rotate_left
            · (intro w hSw; (try dsimp only at hSw); go_simp; (try with_reducible rfl))
            (try simp only [Act.put, List.setIfInBounds_toArray, List.set_cons_zero, List.set_cons_succ])
            refine wpAnyH_take (i := 2) (oi := { dst := some 145, op := Go.Op.fieldAddr 29 (Go.Operand.tmp 6) 1, type := 0, pos := "law.go:90", after := #[], guard := none }) (v := ?_) rfl (by kernel_rfl) (by kernel_rfl) (by kernel_rfl) (fun _ _ _ h => h) (Or.inl ⟨by rfl, ?_⟩) (by assumption) ?_
            rotate_left
            · (intro w hSw; (try dsimp only at hSw); go_simp; (try with_reducible rfl))
            (try simp only [Act.put, List.setIfInBounds_toArray, List.set_cons_zero, List.set_cons_succ])
            refine wpAnyH_take (i := 3) (oi := { dst := some 146, op := Go.Op.load 27 (Go.Operand.tmp 145), type := 27, pos := "law.go:90", after := #[{ on := 2, ground := Go.Ground.data }], guard := none }) (v := ?_) rfl (by kernel_rfl) (by kernel_rfl) (by kernel_rfl) (fun _ _ _ h => h) (Or.inl ⟨by rfl, ?_⟩) (by assumption) ?_
            rotate_left
            · (intro w hSw; (try dsimp only at hSw); go_simp; (try with_reducible rfl))
            (try simp only [Act.put, List.setIfInBounds_toArray, List.set_cons_zero, List.set_cons_succ])
            refine wpAnyH_ready (rs := [1]) (by kernel_rfl) (by simp) ?_
            refine AllReadyH.cons (o := { dst := some 144, op := Go.Op.call { callee := Go.Callee.value (Go.Operand.func 25), args := #[Go.Operand.tmp 143], argTypes := #[25] }, type := 27, pos := "law.go:90", after := #[{ on := 0, ground := Go.Ground.data }], guard := none }) rfl (fun K hK => ?_) AllReadyH.nil
            go_simp
            refine (keys_ca _ c T mo ks _ SD.out.st.live.ca).mono ?_
            rintro e w4 ⟨v4, rfl, hO, hB⟩
            have S4 := Lib.hid (SD.out.below hB)
            have R4 := Lib.hid (RD.out.below hB)
            obtain ⟨_, d4, _⟩ := S4.out.k
            obtain ⟨_, m4, _, _⟩ := S4.out.st.box.four
            have O4 := Lib.hid hO
            clear hO hB
            go_wp2_with fail
            refine hK.out _ _ ?_ (fun hHeld => ?_)
            · exact ⟨d4, m4⟩
            clear hK K
            (try simp only [Act.put, List.setIfInBounds_toArray, List.set_cons_zero, List.set_cons_succ])
            have U4 := Lib.hid (show Calls Try.prog 22 #[v4, .slice Am ks.length cm] w4 (SamePost true w4) from by
              obtain ⟨g4, _, hg4⟩ := O4.out.row
              exact refSame_self w4 g4 gm _ _ ks hg4 R4.out)
            refine wpAnyH_ready (rs := [4]) (by kernel_rfl) (by simp) ?_
            refine AllReadyH.cons (o := { dst := some 147, op := Go.Op.call { callee := Go.Callee.value (Go.Operand.func 22), args := #[Go.Operand.tmp 144, Go.Operand.tmp 146], argTypes := #[27, 27] }, type := 4, pos := "law.go:90", after := #[{ on := 1, ground := Go.Ground.data }, { on := 3, ground := Go.Ground.data }, { on := 1, ground := Go.Ground.chain }], guard := none }) rfl (fun K hK => ?_) AllReadyH.nil
            go_simp
            refine U4.out.mono ?_
            rintro e w5 ⟨rfl, q, hw5⟩
            have hb5 : Below w4.heap.size w4 w5 := hw5 ▸ below_drewN _ q
            have S5 := Lib.hid (S4.out.below hb5)
            have R5 := Lib.hid (R4.out.below hb5)
            obtain ⟨_, d5, _⟩ := S5.out.k
            obtain ⟨_, m5, _, _⟩ := S5.out.st.box.four
            clear hb5 hw5
            go_wp2_with fail
            refine hK.out _ _ ?_ (fun hHeld => ?_)
            · exact ⟨d5, m5⟩
            clear hK K
            (try simp only [Act.put, List.setIfInBounds_toArray, List.set_cons_zero, List.set_cons_succ])
            refine wpAnyH_take (i := 5) (oi := { dst := some 148, op := Go.Op.unOp Go.UnOp.not 4 (Go.Operand.tmp 147), type := 4, pos := "law.go:90", after := #[{ on := 4, ground := Go.Ground.data }], guard := none }) (v := ?_) rfl (by kernel_rfl) (by kernel_rfl) (by kernel_rfl) (fun _ _ _ h => h) (Or.inl ⟨by rfl, ?_⟩) (by assumption) ?_
            rotate_left
            · (intro w hSw; (try dsimp only at hSw); go_simp; (try with_reducible rfl))
            (try simp only [Act.put, List.setIfInBounds_toArray, List.set_cons_zero, List.set_cons_succ])
            refine wpAnyH_take (i := 6) (oi := { dst := some 149, op := Go.Op.move (Go.Operand.tmp 148), type := 4, pos := "law.go:90", after := #[{ on := 5, ground := Go.Ground.data }, { on := 4, ground := Go.Ground.chain }], guard := none }) (v := ?_) rfl (by kernel_rfl) (by kernel_rfl) (by kernel_rfl) (fun _ _ _ h => h) (Or.inl ⟨by rfl, ?_⟩) (by assumption) ?_
            rotate_left
            · (intro w hSw; (try dsimp only at hSw); go_simp; (try with_reducible rfl))
            (try simp only [Act.put, List.setIfInBounds_toArray, List.set_cons_zero, List.set_cons_succ])
            refine wpAnyH_take (i := 7) (oi := { dst := some 150, op := Go.Op.move (Go.Operand.tmp 5), type := 25, pos := "law.go:90", after := #[{ on := 6, ground := Go.Ground.guard }], guard := some (6, false) }) (v := ?_) rfl (by kernel_rfl) (by kernel_rfl) (by kernel_rfl) (fun _ _ _ h => h) (Or.inl ⟨by rfl, ?_⟩) (by assumption) ?_
            rotate_left
            · (intro w hSw; (try dsimp only at hSw); go_simp; (try with_reducible rfl))
            (try simp only [Act.put, List.setIfInBounds_toArray, List.set_cons_zero, List.set_cons_succ])
            refine wpAnyH_take (i := 9) (oi := { dst := some 152, op := Go.Op.fieldAddr 29 (Go.Operand.tmp 6) 1, type := 0, pos := "law.go:90", after := #[{ on := 6, ground := Go.Ground.guard }], guard := some (6, false) }) (v := ?_) rfl (by kernel_rfl) (by kernel_rfl) (by kernel_rfl) (fun _ _ _ h => h) (Or.inl ⟨by rfl, ?_⟩) (by assumption) ?_
            rotate_left
            · (intro w hSw; (try dsimp only at hSw); go_simp; (try with_reducible rfl))
            (try simp only [Act.put, List.setIfInBounds_toArray, List.set_cons_zero, List.set_cons_succ])
            refine wpAnyH_take (i := 10) (oi := { dst := some 153, op := Go.Op.load 27 (Go.Operand.tmp 152), type := 27, pos := "law.go:90", after := #[{ on := 9, ground := Go.Ground.data }, { on := 6, ground := Go.Ground.guard }], guard := some (6, false) }) (v := ?_) rfl (by kernel_rfl) (by kernel_rfl) (by kernel_rfl) (fun _ _ _ h => h) (Or.inl ⟨by rfl, ?_⟩) (by assumption) ?_
            rotate_left
            · (intro w hSw; (try dsimp only at hSw); go_simp; (try with_reducible rfl))
            (try simp only [Act.put, List.setIfInBounds_toArray, List.set_cons_zero, List.set_cons_succ])
            refine wpAnyH_take (i := 11) (oi := { dst := some 154, op := Go.Op.call { callee := Go.Callee.builtin Go.Builtin.len, args := #[Go.Operand.tmp 153], argTypes := #[27] }, type := 3, pos := "law.go:90", after := #[{ on := 10, ground := Go.Ground.data }, { on := 6, ground := Go.Ground.guard }], guard := some (6, false) }) (v := ?_) rfl (by kernel_rfl) (by kernel_rfl) (by kernel_rfl) (fun _ _ _ h => h) (Or.inl ⟨by rfl, ?_⟩) (by assumption) ?_
            rotate_left
            · (intro w hSw; (try dsimp only at hSw); go_simp; (try with_reducible rfl))
            (try simp only [Act.put, List.setIfInBounds_toArray, List.set_cons_zero, List.set_cons_succ])
            refine wpAnyH_ready (rs := [8]) (by kernel_rfl) (by simp) ?_
            refine AllReadyH.cons (o := { dst := some 151, op := Go.Op.call { callee := Go.Callee.value (Go.Operand.func 26), args := #[Go.Operand.tmp 150], argTypes := #[25] }, type := 3, pos := "law.go:90", after := #[{ on := 7, ground := Go.Ground.data }, { on := 6, ground := Go.Ground.chain }, { on := 6, ground := Go.Ground.guard }], guard := some (6, false) }) rfl (fun K hK => ?_) AllReadyH.nil
            go_simp
            refine (len_ca _ c T mo ks _ S5.out.st.live.ca).mono ?_
            rintro e wx ⟨rfl, rfl⟩
            go_wp2_with fail
            refine hK.out _ _ ?_ (fun hHeld => ?_)
            · exact hHeld
            clear hK K
            (try simp only [Act.put, List.setIfInBounds_toArray, List.set_cons_zero, List.set_cons_succ])
            refine wpAnyH_take (i := 12) (oi := { dst := some 155, op := Go.Op.binOp Go.BinOp.neq 3 (Go.Operand.tmp 151) (Go.Operand.tmp 154) 3, type := 4, pos := "law.go:90", after := #[{ on := 8, ground := Go.Ground.data }, { on := 11, ground := Go.Ground.data }, { on := 6, ground := Go.Ground.guard }], guard := some (6, false) }) (v := ?_) rfl (by kernel_rfl) (by kernel_rfl) (by kernel_rfl) (fun _ _ _ h => h) (Or.inl ⟨by rfl, ?_⟩) (by assumption) ?_
            rotate_left
            · (intro w hSw; (try dsimp only at hSw); go_simp; (try with_reducible rfl))
            (try simp only [Act.put, List.setIfInBounds_toArray, List.set_cons_zero, List.set_cons_succ])
            refine wpAnyH_take (i := 13) (oi := { dst := some 156, op := Go.Op.pick (Go.Operand.tmp 149) (Go.Operand.const (Go.Value.bool true)) (Go.Operand.tmp 155), type := 4, pos := "law.go:90", after := #[{ on := 6, ground := Go.Ground.data }, { on := 12, ground := Go.Ground.data }], guard := none }) (v := ?_) rfl (by kernel_rfl) (by kernel_rfl) (by kernel_rfl) (fun _ _ _ h => h) (Or.inl ⟨by rfl, ?_⟩) (by assumption) ?_
            rotate_left
            · (intro w hSw; (try dsimp only at hSw); go_simp; (try with_reducible rfl))
            (try simp only [Act.put, List.setIfInBounds_toArray, List.set_cons_zero, List.set_cons_succ])
            refine wpAnyH_take (i := 14) (oi := { dst := some 157, op := Go.Op.move (Go.Operand.tmp 156), type := 4, pos := "law.go:90", after := #[{ on := 13, ground := Go.Ground.data }, { on := 8, ground := Go.Ground.chain }], guard := none }) (v := ?_) rfl (by kernel_rfl) (by kernel_rfl) (by kernel_rfl) (fun _ _ _ h => h) (Or.inl ⟨by rfl, ?_⟩) (by assumption) ?_
            rotate_left
            · (intro w hSw; (try dsimp only at hSw); go_simp; (try with_reducible rfl))
            (try simp only [Act.put, List.setIfInBounds_toArray, List.set_cons_zero, List.set_cons_succ])
            refine wpAnyH_take (i := 15) (oi := { dst := some 158, op := Go.Op.move (Go.Operand.tmp 5), type := 25, pos := "law.go:90", after := #[{ on := 14, ground := Go.Ground.guard }], guard := some (14, false) }) (v := ?_) rfl (by kernel_rfl) (by kernel_rfl) (by kernel_rfl) (fun _ _ _ h => h) (Or.inl ⟨by rfl, ?_⟩) (by assumption) ?_
            rotate_left
            · (intro w hSw; (try dsimp only at hSw); go_simp; (try with_reducible rfl))
            (try simp only [Act.put, List.setIfInBounds_toArray, List.set_cons_zero, List.set_cons_succ])
            refine wpAnyH_take (i := 16) (oi := { dst := some 159, op := Go.Op.fieldAddr 32 (Go.Operand.tmp 8) 1, type := 0, pos := "law.go:90", after := #[{ on := 14, ground := Go.Ground.guard }], guard := some (14, false) }) (v := ?_) rfl (by kernel_rfl) (by kernel_rfl) (by kernel_rfl) (fun _ _ _ h => h) (Or.inl ⟨by rfl, ?_⟩) (by assumption) ?_
            rotate_left
            · (intro w hSw; (try dsimp only at hSw); go_simp; (try with_reducible rfl))
            (try simp only [Act.put, List.setIfInBounds_toArray, List.set_cons_zero, List.set_cons_succ])
            refine wpAnyH_take (i := 17) (oi := { dst := some 160, op := Go.Op.load 9 (Go.Operand.tmp 159), type := 9, pos := "law.go:90", after := #[{ on := 16, ground := Go.Ground.data }, { on := 14, ground := Go.Ground.guard }], guard := some (14, false) }) (v := ?_) rfl (by kernel_rfl) (by kernel_rfl) (by kernel_rfl) (fun _ _ _ h => h) (Or.inl ⟨by rfl, ?_⟩) (by assumption) ?_
            rotate_left
            · (intro w hSw; (try dsimp only at hSw); go_simp; (try with_reducible rfl))
            (try simp only [Act.put, List.setIfInBounds_toArray, List.set_cons_zero, List.set_cons_succ])
            refine wpAnyH_take (i := 19) (oi := { dst := some 162, op := Go.Op.fieldAddr 29 (Go.Operand.tmp 6) 1, type := 0, pos := "law.go:90", after := #[{ on := 14, ground := Go.Ground.guard }], guard := some (14, false) }) (v := ?_) rfl (by kernel_rfl) (by kernel_rfl) (by kernel_rfl) (fun _ _ _ h => h) (Or.inl ⟨by rfl, ?_⟩) (by assumption) ?_
            rotate_left
            · (intro w hSw; (try dsimp only at hSw); go_simp; (try with_reducible rfl))
            (try simp only [Act.put, List.setIfInBounds_toArray, List.set_cons_zero, List.set_cons_succ])
            refine wpAnyH_take (i := 20) (oi := { dst := some 163, op := Go.Op.load 27 (Go.Operand.tmp 162), type := 27, pos := "law.go:90", after := #[{ on := 19, ground := Go.Ground.data }, { on := 14, ground := Go.Ground.guard }], guard := some (14, false) }) (v := ?_) rfl (by kernel_rfl) (by kernel_rfl) (by kernel_rfl) (fun _ _ _ h => h) (Or.inl ⟨by rfl, ?_⟩) (by assumption) ?_
            rotate_left
            · (intro w hSw; (try dsimp only at hSw); go_simp; (try with_reducible rfl))
            (try simp only [Act.put, List.setIfInBounds_toArray, List.set_cons_zero, List.set_cons_succ])
            refine wpAnyH_take (i := 21) (oi := { dst := some 164, op := Go.Op.fieldAddr 32 (Go.Operand.tmp 8) 1, type := 0, pos := "law.go:90", after := #[{ on := 14, ground := Go.Ground.guard }], guard := some (14, false) }) (v := ?_) rfl (by kernel_rfl) (by kernel_rfl) (by kernel_rfl) (fun _ _ _ h => h) (Or.inl ⟨by rfl, ?_⟩) (by assumption) ?_
            rotate_left
            · (intro w hSw; (try dsimp only at hSw); go_simp; (try with_reducible rfl))
            (try simp only [Act.put, List.setIfInBounds_toArray, List.set_cons_zero, List.set_cons_succ])
            refine wpAnyH_take (i := 22) (oi := { dst := some 165, op := Go.Op.load 9 (Go.Operand.tmp 164), type := 9, pos := "law.go:90", after := #[{ on := 21, ground := Go.Ground.data }, { on := 14, ground := Go.Ground.guard }], guard := some (14, false) }) (v := ?_) rfl (by kernel_rfl) (by kernel_rfl) (by kernel_rfl) (fun _ _ _ h => h) (Or.inl ⟨by rfl, ?_⟩) (by assumption) ?_
            rotate_left
            · (intro w hSw; (try dsimp only at hSw); go_simp; (try with_reducible rfl))
            (try simp only [Act.put, List.setIfInBounds_toArray, List.set_cons_zero, List.set_cons_succ])
            refine wpAnyH_ready (rs := [18]) (by kernel_rfl) (by simp) ?_
            refine AllReadyH.cons (o := { dst := some 161, op := Go.Op.call { callee := Go.Callee.value (Go.Operand.func 27), args := #[Go.Operand.tmp 158, Go.Operand.tmp 160], argTypes := #[25, 9] }, type := 4, pos := "law.go:90", after := #[{ on := 15, ground := Go.Ground.data }, { on := 17, ground := Go.Ground.data }, { on := 14, ground := Go.Ground.chain }, { on := 14, ground := Go.Ground.guard }], guard := some (14, false) }) rfl (fun K hK => ?_) AllReadyH.nil
            go_simp
            refine (has_ca _ c T mo ks _ key S5.out.st.live.ca hsk).mono ?_
            rintro e wx ⟨rfl, rfl⟩
            go_wp2_with fail
            refine hK.out _ _ ?_ (fun hHeld => ?_)
            · exact hHeld
            clear hK K
            (try simp only [Act.put, List.setIfInBounds_toArray, List.set_cons_zero, List.set_cons_succ])
            refine wpAnyH_ready (rs := [23]) (by kernel_rfl) (by simp) ?_
            refine AllReadyH.cons (o := { dst := some 166, op := Go.Op.call { callee := Go.Callee.value (Go.Operand.func 16), args := #[Go.Operand.tmp 163, Go.Operand.tmp 165], argTypes := #[27, 9] }, type := 4, pos := "law.go:90", after := #[{ on := 20, ground := Go.Ground.data }, { on := 22, ground := Go.Ground.data }, { on := 18, ground := Go.Ground.chain }, { on := 14, ground := Go.Ground.guard }], guard := some (14, false) }) rfl (fun K hK => ?_) AllReadyH.nil
            go_simp
            refine (refHas_any _ gm _ ks key R5.out).mono ?_
            rintro e wx ⟨rfl, rfl⟩
            go_wp2_with fail
            refine hK.out _ _ ?_ (fun hHeld => ?_)
            · exact hHeld
            clear hK K
            (try simp only [Act.put, List.setIfInBounds_toArray, List.set_cons_zero, List.set_cons_succ])
            refine wpAnyH_take (i := 24) (oi := { dst := some 167, op := Go.Op.binOp Go.BinOp.neq 4 (Go.Operand.tmp 161) (Go.Operand.tmp 166) 4, type := 4, pos := "law.go:90", after := #[{ on := 18, ground := Go.Ground.data }, { on := 23, ground := Go.Ground.data }, { on := 14, ground := Go.Ground.guard }], guard := some (14, false) }) (v := ?_) rfl (by kernel_rfl) (by kernel_rfl) (by kernel_rfl) (fun _ _ _ h => h) (Or.inl ⟨by rfl, ?_⟩) (by assumption) ?_
            rotate_left
            · (intro w hSw; (try dsimp only at hSw); go_simp; (try with_reducible rfl))
            (try simp only [Act.put, List.setIfInBounds_toArray, List.set_cons_zero, List.set_cons_succ])
            refine wpAnyH_take (i := 25) (oi := { dst := some 168, op := Go.Op.pick (Go.Operand.tmp 157) (Go.Operand.const (Go.Value.bool true)) (Go.Operand.tmp 167), type := 4, pos := "law.go:90", after := #[{ on := 14, ground := Go.Ground.data }, { on := 24, ground := Go.Ground.data }], guard := none }) (v := ?_) rfl (by kernel_rfl) (by kernel_rfl) (by kernel_rfl) (fun _ _ _ h => h) (Or.inl ⟨by rfl, ?_⟩) (by assumption) ?_
            rotate_left
            · (intro w hSw; (try dsimp only at hSw); go_simp; (try with_reducible rfl))
            (try simp only [Act.put, List.setIfInBounds_toArray, List.set_cons_zero, List.set_cons_succ])
            refine wpAnyH_take (i := 26) (oi := { dst := some 169, op := Go.Op.move (Go.Operand.tmp 168), type := 4, pos := "law.go:90", after := #[{ on := 25, ground := Go.Ground.data }, { on := 23, ground := Go.Ground.chain }], guard := none }) (v := ?_) rfl (by kernel_rfl) (by kernel_rfl) (by kernel_rfl) (fun _ _ _ h => h) (Or.inl ⟨by rfl, ?_⟩) (by assumption) ?_
            rotate_left
            · (intro w hSw; (try dsimp only at hSw); go_simp; (try with_reducible rfl))
            (try simp only [Act.put, List.setIfInBounds_toArray, List.set_cons_zero, List.set_cons_succ])
            refine wpAnyH_take (i := 27) (oi := { dst := some 170, op := Go.Op.move (Go.Operand.tmp 18), type := 4, pos := "law.go:90", after := #[{ on := 26, ground := Go.Ground.guard }], guard := some (26, false) }) (v := ?_) rfl (by kernel_rfl) (by kernel_rfl) (by kernel_rfl) (fun _ _ _ h => h) (Or.inl ⟨by rfl, ?_⟩) (by assumption) ?_
            rotate_left
            · (intro w hSw; (try dsimp only at hSw); go_simp; (try with_reducible rfl))
            (try simp only [Act.put, List.setIfInBounds_toArray, List.set_cons_zero, List.set_cons_succ])
            refine wpAnyH_take (i := 28) (oi := { dst := some 171, op := Go.Op.fieldAddr 29 (Go.Operand.tmp 6) 1, type := 0, pos := "law.go:90", after := #[{ on := 26, ground := Go.Ground.guard }], guard := some (26, false) }) (v := ?_) rfl (by kernel_rfl) (by kernel_rfl) (by kernel_rfl) (fun _ _ _ h => h) (Or.inl ⟨by rfl, ?_⟩) (by assumption) ?_
            rotate_left
            · (intro w hSw; (try dsimp only at hSw); go_simp; (try with_reducible rfl))
            (try simp only [Act.put, List.setIfInBounds_toArray, List.set_cons_zero, List.set_cons_succ])
            refine wpAnyH_take (i := 29) (oi := { dst := some 172, op := Go.Op.load 27 (Go.Operand.tmp 171), type := 27, pos := "law.go:90", after := #[{ on := 28, ground := Go.Ground.data }, { on := 26, ground := Go.Ground.guard }], guard := some (26, false) }) (v := ?_) rfl (by kernel_rfl) (by kernel_rfl) (by kernel_rfl) (fun _ _ _ h => h) (Or.inl ⟨by rfl, ?_⟩) (by assumption) ?_
            rotate_left
            · (intro w hSw; (try dsimp only at hSw); go_simp; (try with_reducible rfl))
            (try simp only [Act.put, List.setIfInBounds_toArray, List.set_cons_zero, List.set_cons_succ])
            refine wpAnyH_take (i := 30) (oi := { dst := some 173, op := Go.Op.call { callee := Go.Callee.builtin Go.Builtin.len, args := #[Go.Operand.tmp 172], argTypes := #[27] }, type := 3, pos := "law.go:90", after := #[{ on := 29, ground := Go.Ground.data }, { on := 26, ground := Go.Ground.guard }], guard := some (26, false) }) (v := ?_) rfl (by kernel_rfl) (by kernel_rfl) (by kernel_rfl) (fun _ _ _ h => h) (Or.inl ⟨by rfl, ?_⟩) (by assumption) ?_
            rotate_left
            · (intro w hSw; (try dsimp only at hSw); go_simp; (try with_reducible rfl))
            (try simp only [Act.put, List.setIfInBounds_toArray, List.set_cons_zero, List.set_cons_succ])
            refine wpAnyH_take (i := 31) (oi := { dst := some 174, op := Go.Op.binOp Go.BinOp.gtr 3 (Go.Operand.tmp 173) (Go.Operand.const (Go.Value.int Go.IntKind.i64 0)) 3, type := 4, pos := "law.go:90", after := #[{ on := 30, ground := Go.Ground.data }, { on := 26, ground := Go.Ground.guard }], guard := some (26, false) }) (v := ?_) rfl (by kernel_rfl) (by kernel_rfl) (by kernel_rfl) (fun _ _ _ h => h) (Or.inl ⟨by rfl, ?_⟩) (by assumption) ?_
            rotate_left
            · (intro w hSw; (try dsimp only at hSw); go_simp; (try with_reducible rfl))
            (try simp only [Act.put, List.setIfInBounds_toArray, List.set_cons_zero, List.set_cons_succ])
            refine wpAnyH_take (i := 32) (oi := { dst := some 175, op := Go.Op.binOp Go.BinOp.neq 4 (Go.Operand.tmp 170) (Go.Operand.tmp 174) 4, type := 4, pos := "law.go:90", after := #[{ on := 27, ground := Go.Ground.data }, { on := 31, ground := Go.Ground.data }, { on := 26, ground := Go.Ground.guard }], guard := some (26, false) }) (v := ?_) rfl (by kernel_rfl) (by kernel_rfl) (by kernel_rfl) (fun _ _ _ h => h) (Or.inl ⟨by rfl, ?_⟩) (by assumption) ?_
            rotate_left
            · (intro w hSw; (try dsimp only at hSw); go_simp; (try with_reducible rfl))
            (try simp only [Act.put, List.setIfInBounds_toArray, List.set_cons_zero, List.set_cons_succ])
            refine wpAnyH_take (i := 33) (oi := { dst := some 176, op := Go.Op.pick (Go.Operand.tmp 169) (Go.Operand.const (Go.Value.bool true)) (Go.Operand.tmp 175), type := 4, pos := "law.go:90", after := #[{ on := 26, ground := Go.Ground.data }, { on := 32, ground := Go.Ground.data }], guard := none }) (v := ?_) rfl (by kernel_rfl) (by kernel_rfl) (by kernel_rfl) (fun _ _ _ h => h) (Or.inl ⟨by rfl, ?_⟩) (by assumption) ?_
            rotate_left
            · (intro w hSw; (try dsimp only at hSw); go_simp; (try with_reducible rfl))
            (try simp only [Act.put, List.setIfInBounds_toArray, List.set_cons_zero, List.set_cons_succ])
            refine wpAnyH_take (i := 34) (oi := { dst := some 177, op := Go.Op.move (Go.Operand.tmp 176), type := 4, pos := "law.go:90", after := #[{ on := 33, ground := Go.Ground.data }, { on := 26, ground := Go.Ground.chain }], guard := none }) (v := ?_) rfl (by kernel_rfl) (by kernel_rfl) (by kernel_rfl) (fun _ _ _ h => h) (Or.inl ⟨by rfl, ?_⟩) (by assumption) ?_
            rotate_left
            · (intro w hSw; (try dsimp only at hSw); go_simp; (try with_reducible rfl))
            (try simp only [Act.put, List.setIfInBounds_toArray, List.set_cons_zero, List.set_cons_succ])
            refine wpAnyH_take (i := 35) (oi := { dst := some 178, op := Go.Op.move (Go.Operand.tmp 18), type := 4, pos := "law.go:90", after := #[{ on := 34, ground := Go.Ground.guard }], guard := some (34, false) }) (v := ?_) rfl (by kernel_rfl) (by kernel_rfl) (by kernel_rfl) (fun _ _ _ h => h) (Or.inl ⟨by rfl, ?_⟩) (by assumption) ?_
            rotate_left
            · (intro w hSw; (try dsimp only at hSw); go_simp; (try with_reducible rfl))
            (try simp only [Act.put, List.setIfInBounds_toArray, List.set_cons_zero, List.set_cons_succ])
            refine wpAnyH_take (i := 36) (oi := { dst := some 179, op := Go.Op.move (Go.Operand.tmp 178), type := 4, pos := "law.go:90", after := #[{ on := 35, ground := Go.Ground.data }, { on := 34, ground := Go.Ground.chain }, { on := 34, ground := Go.Ground.guard }], guard := some (34, false) }) (v := ?_) rfl (by kernel_rfl) (by kernel_rfl) (by kernel_rfl) (fun _ _ _ h => h) (Or.inl ⟨by rfl, ?_⟩) (by assumption) ?_
            rotate_left
            · (intro w hSw; (try dsimp only at hSw); go_simp; (try with_reducible rfl))
            (try simp only [Act.put, List.setIfInBounds_toArray, List.set_cons_zero, List.set_cons_succ])
            refine wpAnyH_take (i := 37) (oi := { dst := some 180, op := Go.Op.move (Go.Operand.tmp 17), type := 9, pos := "law.go:90", after := #[{ on := 36, ground := Go.Ground.guard }], guard := some (36, true) }) (v := undef) rfl (by kernel_rfl) (by kernel_rfl) (by kernel_rfl) (fun _ _ _ h => h) (Or.inr ⟨by rfl, rfl⟩) (by assumption) ?_
            (try simp only [Act.put, List.setIfInBounds_toArray, List.set_cons_zero, List.set_cons_succ])
            refine wpAnyH_take (i := 38) (oi := { dst := some 181, op := Go.Op.fieldAddr 29 (Go.Operand.tmp 6) 1, type := 0, pos := "law.go:90", after := #[{ on := 36, ground := Go.Ground.guard }], guard := some (36, true) }) (v := undef) rfl (by kernel_rfl) (by kernel_rfl) (by kernel_rfl) (fun _ _ _ h => h) (Or.inr ⟨by rfl, rfl⟩) (by assumption) ?_
            (try simp only [Act.put, List.setIfInBounds_toArray, List.set_cons_zero, List.set_cons_succ])
            refine wpAnyH_take (i := 39) (oi := { dst := some 182, op := Go.Op.load 27 (Go.Operand.tmp 181), type := 27, pos := "law.go:90", after := #[{ on := 38, ground := Go.Ground.data }, { on := 36, ground := Go.Ground.guard }], guard := some (36, true) }) (v := undef) rfl (by kernel_rfl) (by kernel_rfl) (by kernel_rfl) (fun _ _ _ h => h) (Or.inr ⟨by rfl, rfl⟩) (by assumption) ?_
            (try simp only [Act.put, List.setIfInBounds_toArray, List.set_cons_zero, List.set_cons_succ])
            refine wpAnyH_take (i := 40) (oi := { dst := some 183, op := Go.Op.indexAddr 27 (Go.Operand.tmp 182) (Go.Operand.const (Go.Value.int Go.IntKind.i64 0)), type := 0, pos := "law.go:90", after := #[{ on := 39, ground := Go.Ground.data }, { on := 36, ground := Go.Ground.guard }], guard := some (36, true) }) (v := undef) rfl (by kernel_rfl) (by kernel_rfl) (by kernel_rfl) (fun _ _ _ h => h) (Or.inr ⟨by rfl, rfl⟩) (by assumption) ?_
            (try simp only [Act.put, List.setIfInBounds_toArray, List.set_cons_zero, List.set_cons_succ])
            refine wpAnyH_take (i := 41) (oi := { dst := some 184, op := Go.Op.load 9 (Go.Operand.tmp 183), type := 9, pos := "law.go:90", after := #[{ on := 40, ground := Go.Ground.data }, { on := 36, ground := Go.Ground.guard }], guard := some (36, true) }) (v := undef) rfl (by kernel_rfl) (by kernel_rfl) (by kernel_rfl) (fun _ _ _ h => h) (Or.inr ⟨by rfl, rfl⟩) (by assumption) ?_
            (try simp only [Act.put, List.setIfInBounds_toArray, List.set_cons_zero, List.set_cons_succ])
            refine wpAnyH_take (i := 42) (oi := { dst := some 185, op := Go.Op.binOp Go.BinOp.neq 9 (Go.Operand.tmp 180) (Go.Operand.tmp 184) 9, type := 4, pos := "law.go:90", after := #[{ on := 37, ground := Go.Ground.data }, { on := 41, ground := Go.Ground.data }, { on := 36, ground := Go.Ground.guard }], guard := some (36, true) }) (v := undef) rfl (by kernel_rfl) (by kernel_rfl) (by kernel_rfl) (fun _ _ _ h => h) (Or.inr ⟨by rfl, rfl⟩) (by assumption) ?_
            (try simp only [Act.put, List.setIfInBounds_toArray, List.set_cons_zero, List.set_cons_succ])
            refine wpAnyH_take (i := 43) (oi := { dst := some 186, op := Go.Op.pick (Go.Operand.tmp 179) (Go.Operand.tmp 185) (Go.Operand.const (Go.Value.bool false)), type := 4, pos := "law.go:90", after := #[{ on := 36, ground := Go.Ground.data }, { on := 42, ground := Go.Ground.data }, { on := 34, ground := Go.Ground.guard }], guard := some (34, false) }) (v := ?_) rfl (by kernel_rfl) (by kernel_rfl) (by kernel_rfl) (fun _ _ _ h => h) (Or.inl ⟨by rfl, ?_⟩) (by assumption) ?_
            rotate_left
            · (intro w hSw; (try dsimp only at hSw); go_simp; (try with_reducible rfl))
            (try simp only [Act.put, List.setIfInBounds_toArray, List.set_cons_zero, List.set_cons_succ])
            refine wpAnyH_take (i := 44) (oi := { dst := some 187, op := Go.Op.pick (Go.Operand.tmp 177) (Go.Operand.const (Go.Value.bool true)) (Go.Operand.tmp 186), type := 4, pos := "law.go:90", after := #[{ on := 34, ground := Go.Ground.data }, { on := 43, ground := Go.Ground.data }], guard := none }) (v := ?_) rfl (by kernel_rfl) (by kernel_rfl) (by kernel_rfl) (fun _ _ _ h => h) (Or.inl ⟨by rfl, ?_⟩) (by assumption) ?_
            rotate_left
            · (intro w hSw; (try dsimp only at hSw); go_simp; (try with_reducible rfl))
            (try simp only [Act.put, List.setIfInBounds_toArray, List.set_cons_zero, List.set_cons_succ])
            refine wpAnyH_take (i := 45) (oi := { dst := some 188, op := Go.Op.move (Go.Operand.tmp 187), type := 4, pos := "law.go:90", after := #[{ on := 44, ground := Go.Ground.data }, { on := 36, ground := Go.Ground.chain }], guard := none }) (v := ?_) rfl (by kernel_rfl) (by kernel_rfl) (by kernel_rfl) (fun _ _ _ h => h) (Or.inl ⟨by rfl, ?_⟩) (by assumption) ?_
            rotate_left
            · (intro w hSw; (try dsimp only at hSw); go_simp; (try with_reducible rfl))
            (try simp only [Act.put, List.setIfInBounds_toArray, List.set_cons_zero, List.set_cons_succ])
            refine wpAnyH_take (i := 46) (oi := { dst := some 189, op := Go.Op.move (Go.Operand.tmp 18), type := 4, pos := "law.go:90", after := #[{ on := 45, ground := Go.Ground.guard }], guard := some (45, false) }) (v := ?_) rfl (by kernel_rfl) (by kernel_rfl) (by kernel_rfl) (fun _ _ _ h => h) (Or.inl ⟨by rfl, ?_⟩) (by assumption) ?_
            rotate_left
            · (intro w hSw; (try dsimp only at hSw); go_simp; (try with_reducible rfl))
            (try simp only [Act.put, List.setIfInBounds_toArray, List.set_cons_zero, List.set_cons_succ])
            refine wpAnyH_take (i := 47) (oi := { dst := some 190, op := Go.Op.unOp Go.UnOp.not 4 (Go.Operand.tmp 189), type := 4, pos := "law.go:90", after := #[{ on := 46, ground := Go.Ground.data }, { on := 45, ground := Go.Ground.guard }], guard := some (45, false) }) (v := ?_) rfl (by kernel_rfl) (by kernel_rfl) (by kernel_rfl) (fun _ _ _ h => h) (Or.inl ⟨by rfl, ?_⟩) (by assumption) ?_
            rotate_left
            · (intro w hSw; (try dsimp only at hSw); go_simp; (try with_reducible rfl))
            (try simp only [Act.put, List.setIfInBounds_toArray, List.set_cons_zero, List.set_cons_succ])
            refine wpAnyH_take (i := 48) (oi := { dst := some 191, op := Go.Op.move (Go.Operand.tmp 190), type := 4, pos := "law.go:90", after := #[{ on := 47, ground := Go.Ground.data }, { on := 45, ground := Go.Ground.chain }, { on := 45, ground := Go.Ground.guard }], guard := some (45, false) }) (v := ?_) rfl (by kernel_rfl) (by kernel_rfl) (by kernel_rfl) (fun _ _ _ h => h) (Or.inl ⟨by rfl, ?_⟩) (by assumption) ?_
            rotate_left
            · (intro w hSw; (try dsimp only at hSw); go_simp; (try with_reducible rfl))
            (try simp only [Act.put, List.setIfInBounds_toArray, List.set_cons_zero, List.set_cons_succ])
            refine wpAnyH_take (i := 49) (oi := { dst := some 192, op := Go.Op.move (Go.Operand.tmp 17), type := 9, pos := "law.go:90", after := #[{ on := 48, ground := Go.Ground.guard }], guard := some (48, true) }) (v := ?_) rfl (by kernel_rfl) (by kernel_rfl) (by kernel_rfl) (fun _ _ _ h => h) (Or.inl ⟨by rfl, ?_⟩) (by assumption) ?_
            rotate_left
            · (intro w hSw; (try dsimp only at hSw); go_simp; (try with_reducible rfl))
            (try simp only [Act.put, List.setIfInBounds_toArray, List.set_cons_zero, List.set_cons_succ])
            refine wpAnyH_take (i := 50) (oi := { dst := some 193, op := Go.Op.binOp Go.BinOp.neq 9 (Go.Operand.tmp 192) (Go.Operand.const (Go.Value.string { data := #[] })) 9, type := 4, pos := "law.go:90", after := #[{ on := 49, ground := Go.Ground.data }, { on := 48, ground := Go.Ground.guard }], guard := some (48, true) }) (v := ?_) rfl (by kernel_rfl) (by kernel_rfl) (by kernel_rfl) (fun _ _ _ h => h) (Or.inl ⟨by rfl, ?_⟩) (by assumption) ?_
            rotate_left
            · (intro w hSw; (try dsimp only at hSw); go_simp; (try with_reducible rfl))
            (try simp only [Act.put, List.setIfInBounds_toArray, List.set_cons_zero, List.set_cons_succ])
            refine wpAnyH_take (i := 51) (oi := { dst := some 194, op := Go.Op.pick (Go.Operand.tmp 191) (Go.Operand.tmp 193) (Go.Operand.const (Go.Value.bool false)), type := 4, pos := "law.go:90", after := #[{ on := 48, ground := Go.Ground.data }, { on := 50, ground := Go.Ground.data }, { on := 45, ground := Go.Ground.guard }], guard := some (45, false) }) (v := ?_) rfl (by kernel_rfl) (by kernel_rfl) (by kernel_rfl) (fun _ _ _ h => h) (Or.inl ⟨by rfl, ?_⟩) (by assumption) ?_
            rotate_left
            · (intro w hSw; (try dsimp only at hSw); go_simp; (try with_reducible rfl))
            (try simp only [Act.put, List.setIfInBounds_toArray, List.set_cons_zero, List.set_cons_succ])
            refine wpAnyH_take (i := 52) (oi := { dst := some 195, op := Go.Op.pick (Go.Operand.tmp 188) (Go.Operand.const (Go.Value.bool true)) (Go.Operand.tmp 194), type := 4, pos := "law.go:90", after := #[{ on := 45, ground := Go.Ground.data }, { on := 51, ground := Go.Ground.data }], guard := none }) (v := ?_) rfl (by kernel_rfl) (by kernel_rfl) (by kernel_rfl) (fun _ _ _ h => h) (Or.inl ⟨by rfl, ?_⟩) (by assumption) ?_
            rotate_left
            · (intro w hSw; (try dsimp only at hSw); go_simp; (try with_reducible rfl))
            (try simp only [Act.put, List.setIfInBounds_toArray, List.set_cons_zero, List.set_cons_succ])
            refine wpAnyH_take (i := 53) (oi := { dst := some 196, op := Go.Op.move (Go.Operand.tmp 195), type := 4, pos := "law.go:90", after := #[{ on := 52, ground := Go.Ground.data }, { on := 48, ground := Go.Ground.chain }], guard := none }) (v := ?_) rfl (by kernel_rfl) (by kernel_rfl) (by kernel_rfl) (fun _ _ _ h => h) (Or.inl ⟨by rfl, ?_⟩) (by assumption) ?_
            rotate_left
            · (intro w hSw; (try dsimp only at hSw); go_simp; (try with_reducible rfl))
            (try simp only [Act.put, List.setIfInBounds_toArray, List.set_cons_zero, List.set_cons_succ])
            refine wpAnyH_take (i := 54) (oi := { dst := some 197, op := Go.Op.move (Go.Operand.tmp 5), type := 25, pos := "law.go:90", after := #[{ on := 53, ground := Go.Ground.guard }], guard := some (53, false) }) (v := ?_) rfl (by kernel_rfl) (by kernel_rfl) (by kernel_rfl) (fun _ _ _ h => h) (Or.inl ⟨by rfl, ?_⟩) (by assumption) ?_
            rotate_left
            · (intro w hSw; (try dsimp only at hSw); go_simp; (try with_reducible rfl))
            (try simp only [Act.put, List.setIfInBounds_toArray, List.set_cons_zero, List.set_cons_succ])
            refine wpAnyH_ready (rs := [55]) (by kernel_rfl) (by simp) ?_
            refine AllReadyH.cons (o := { dst := some 198, op := Go.Op.call { callee := Go.Callee.value (Go.Operand.func 28), args := #[Go.Operand.tmp 197], argTypes := #[25] }, type := 27, pos := "law.go:90", after := #[{ on := 54, ground := Go.Ground.data }, { on := 53, ground := Go.Ground.chain }, { on := 53, ground := Go.Ground.guard }], guard := some (53, false) }) rfl (fun K hK => ?_) AllReadyH.nil
            go_simp
            refine (ghostsC _ c).mono ?_
            rintro e wx ⟨rfl, rfl⟩
            go_wp2_with fail
            refine hK.out _ _ ?_ (fun hHeld => ?_)
            · exact hHeld
            clear hK K
            (try simp only [Act.put, List.setIfInBounds_toArray, List.set_cons_zero, List.set_cons_succ])
            refine wpAnyH_take (i := 56) (oi := { dst := some 199, op := Go.Op.call { callee := Go.Callee.builtin Go.Builtin.len, args := #[Go.Operand.tmp 198], argTypes := #[27] }, type := 3, pos := "law.go:90", after := #[{ on := 55, ground := Go.Ground.data }, { on := 53, ground := Go.Ground.guard }], guard := some (53, false) }) (v := ?_) rfl (by kernel_rfl) (by kernel_rfl) (by kernel_rfl) (fun _ _ _ h => h) (Or.inl ⟨by rfl, ?_⟩) (by assumption) ?_
            rotate_left
            · (intro w hSw; (try dsimp only at hSw); go_simp; (try with_reducible rfl))
            (try simp only [Act.put, List.setIfInBounds_toArray, List.set_cons_zero, List.set_cons_succ])
            refine wpAnyH_take (i := 57) (oi := { dst := some 200, op := Go.Op.binOp Go.BinOp.neq 3 (Go.Operand.tmp 199) (Go.Operand.const (Go.Value.int Go.IntKind.i64 0)) 3, type := 4, pos := "law.go:90", after := #[{ on := 56, ground := Go.Ground.data }, { on := 53, ground := Go.Ground.guard }], guard := some (53, false) }) (v := ?_) rfl (by kernel_rfl) (by kernel_rfl) (by kernel_rfl) (fun _ _ _ h => h) (Or.inl ⟨by rfl, ?_⟩) (by assumption) ?_
            rotate_left
            · (intro w hSw; (try dsimp only at hSw); go_simp; (try with_reducible rfl))
            (try simp only [Act.put, List.setIfInBounds_toArray, List.set_cons_zero, List.set_cons_succ])
            refine wpAnyH_take (i := 58) (oi := { dst := some 201, op := Go.Op.pick (Go.Operand.tmp 196) (Go.Operand.const (Go.Value.bool true)) (Go.Operand.tmp 200), type := 4, pos := "law.go:90", after := #[{ on := 53, ground := Go.Ground.data }, { on := 57, ground := Go.Ground.data }], guard := none }) (v := ?_) rfl (by kernel_rfl) (by kernel_rfl) (by kernel_rfl) (fun _ _ _ h => h) (Or.inl ⟨by rfl, ?_⟩) (by assumption) ?_
            rotate_left
            · (intro w hSw; (try dsimp only at hSw); go_simp; (try with_reducible rfl))
            (try simp only [Act.put, List.setIfInBounds_toArray, List.set_cons_zero, List.set_cons_succ])
            refine wpAnyH_done (by kernel_rfl) ?_ _
            refine NoPanic.normal ?_
            clear hHeld SD RD R4 O4 U4 d4 m4 d5 m5 S4 R5
            go_wp2_with fail
            go_roundg (n - (k + 1))
            case measure => have := HGK.out; omega
            case rel => exact ⟨k + 1, T, mo, ks, _, rfl, by go_num, by omega, S5.out.st⟩
        · as_aux_lemma =>
            obtain ⟨om, rfl, hgl, hm0, hcm1, hcm2⟩ := RM.out.at (k := 0) (by rcases ks with _ | ⟨x, xs⟩; exact absurd rfl hx; simp)
            have h1 : ks.getD 0 ⟨#[]⟩ = x := by rw [HXD.out]; cases ks <;> rfl
            obtain rfl : t = true := by rw [HTD.out]; cases ks with | nil => exact absurd rfl hx | cons => rfl
            rw [h1, Nat.add_zero] at hm0
            have hx0 : (0 : Int) < (ks.length : Int) := by rcases ks with _ | ⟨x, xs⟩; exact absurd rfl hx; simp
            have hx1 : 0 < ks.length := by omega
            unfold maxLen at hcm2
            clear h1 hx HXD HTD
            refine wp_region_noPanic ?_
            refine wp_region_held_drew (S := fun w' => w'.cell? ⟨ga, 1, none⟩ = some (.string key) ∧ w'.cell? ⟨bm, 1, none⟩ = some (.slice (some ⟨gm, om, none⟩) ks.length cm) ∧ w'.cell? ⟨gm, om, none⟩ = some (.string x)) (by kernel_rfl) ?_ (fun hHeld => ?_)
            · exact ⟨d1, m1, hm0⟩
            refine wpAnyH_take (i := 0) (oi := { dst := some 143, op := Go.Op.move (Go.Operand.tmp 5), type := 25, pos := "law.go:90", after := #[], guard := none }) (v := ?_) rfl (by kernel_rfl) (by kernel_rfl) (by kernel_rfl) (fun _ _ _ h => h) (Or.inl ⟨by rfl, ?_⟩) (by assumption) ?_
            rotate_left
            · (intro w hSw; (try dsimp only at hSw); go_simp; (try with_reducible rfl))
            (try simp only [Act.put, List.setIfInBounds_toArray, List.set_cons_zero, List.set_cons_succ])
            refine wpAnyH_take (i := 2) (oi := { dst := some 145, op := Go.Op.fieldAddr 29 (Go.Operand.tmp 6) 1, type := 0, pos := "law.go:90", after := #[], guard := none }) (v := ?_) rfl (by kernel_rfl) (by kernel_rfl) (by kernel_rfl) (fun _ _ _ h => h) (Or.inl ⟨by rfl, ?_⟩) (by assumption) ?_
            rotate_left
            · (intro w hSw; (try dsimp only at hSw); go_simp; (try with_reducible rfl))
            (try simp only [Act.put, List.setIfInBounds_toArray, List.set_cons_zero, List.set_cons_succ])
            refine wpAnyH_take (i := 3) (oi := { dst := some 146, op := Go.Op.load 27 (Go.Operand.tmp 145), type := 27, pos := "law.go:90", after := #[{ on := 2, ground := Go.Ground.data }], guard := none }) (v := ?_) rfl (by kernel_rfl) (by kernel_rfl) (by kernel_rfl) (fun _ _ _ h => h) (Or.inl ⟨by rfl, ?_⟩) (by assumption) ?_
            rotate_left
            · (intro w hSw; (try dsimp only at hSw); go_simp; (try with_reducible rfl))
            (try simp only [Act.put, List.setIfInBounds_toArray, List.set_cons_zero, List.set_cons_succ])
            refine wpAnyH_ready (rs := [1]) (by kernel_rfl) (by simp) ?_
            refine AllReadyH.cons (o := { dst := some 144, op := Go.Op.call { callee := Go.Callee.value (Go.Operand.func 25), args := #[Go.Operand.tmp 143], argTypes := #[25] }, type := 27, pos := "law.go:90", after := #[{ on := 0, ground := Go.Ground.data }], guard := none }) rfl (fun K hK => ?_) AllReadyH.nil
            go_simp
            refine (keys_ca _ c T mo ks _ SD.out.st.live.ca).mono ?_
            rintro e w4 ⟨v4, rfl, hO, hB⟩
            have S4 := Lib.hid (SD.out.below hB)
            have R4 := Lib.hid (RD.out.below hB)
            obtain ⟨_, d4, _⟩ := S4.out.k
            obtain ⟨_, m4, _, _⟩ := S4.out.st.box.four
            have c4 : w4.cell? ⟨gm, om, none⟩ = some (.string x) := (hB.cell (p := ⟨gm, om, none⟩) hgl).trans hm0
            have O4 := Lib.hid hO
            clear hO hB
            go_wp2_with fail
            refine hK.out _ _ ?_ (fun hHeld => ?_)
            · exact ⟨d4, m4, c4⟩
            clear hK K
            (try simp only [Act.put, List.setIfInBounds_toArray, List.set_cons_zero, List.set_cons_succ])
            have U4 := Lib.hid (show Calls Try.prog 22 #[v4, .slice (some ⟨gm, om, none⟩) ks.length cm] w4 (SamePost true w4) from by
              obtain ⟨g4, _, hg4⟩ := O4.out.row
              exact refSame_self w4 g4 gm _ _ ks hg4 R4.out)
            refine wpAnyH_ready (rs := [4]) (by kernel_rfl) (by simp) ?_
            refine AllReadyH.cons (o := { dst := some 147, op := Go.Op.call { callee := Go.Callee.value (Go.Operand.func 22), args := #[Go.Operand.tmp 144, Go.Operand.tmp 146], argTypes := #[27, 27] }, type := 4, pos := "law.go:90", after := #[{ on := 1, ground := Go.Ground.data }, { on := 3, ground := Go.Ground.data }, { on := 1, ground := Go.Ground.chain }], guard := none }) rfl (fun K hK => ?_) AllReadyH.nil
            go_simp
            refine U4.out.mono ?_
            rintro e w5 ⟨rfl, q, hw5⟩
            have hb5 : Below w4.heap.size w4 w5 := hw5 ▸ below_drewN _ q
            have S5 := Lib.hid (S4.out.below hb5)
            have R5 := Lib.hid (R4.out.below hb5)
            obtain ⟨_, d5, _⟩ := S5.out.k
            obtain ⟨_, m5, _, _⟩ := S5.out.st.box.four
            have c5 : w5.cell? ⟨gm, om, none⟩ = some (.string x) := hw5 ▸ c4
            clear hb5 hw5
            go_wp2_with fail
            refine hK.out _ _ ?_ (fun hHeld => ?_)
            · exact ⟨d5, m5, c5⟩
            clear hK K
            (try simp only [Act.put, List.setIfInBounds_toArray, List.set_cons_zero, List.set_cons_succ])
            refine wpAnyH_take (i := 5) (oi := { dst := some 148, op := Go.Op.unOp Go.UnOp.not 4 (Go.Operand.tmp 147), type := 4, pos := "law.go:90", after := #[{ on := 4, ground := Go.Ground.data }], guard := none }) (v := ?_) rfl (by kernel_rfl) (by kernel_rfl) (by kernel_rfl) (fun _ _ _ h => h) (Or.inl ⟨by rfl, ?_⟩) (by assumption) ?_
            rotate_left
            · (intro w hSw; (try dsimp only at hSw); go_simp; (try with_reducible rfl))
            (try simp only [Act.put, List.setIfInBounds_toArray, List.set_cons_zero, List.set_cons_succ])
            refine wpAnyH_take (i := 6) (oi := { dst := some 149, op := Go.Op.move (Go.Operand.tmp 148), type := 4, pos := "law.go:90", after := #[{ on := 5, ground := Go.Ground.data }, { on := 4, ground := Go.Ground.chain }], guard := none }) (v := ?_) rfl (by kernel_rfl) (by kernel_rfl) (by kernel_rfl) (fun _ _ _ h => h) (Or.inl ⟨by rfl, ?_⟩) (by assumption) ?_
            rotate_left
            · (intro w hSw; (try dsimp only at hSw); go_simp; (try with_reducible rfl))
            (try simp only [Act.put, List.setIfInBounds_toArray, List.set_cons_zero, List.set_cons_succ])
            refine wpAnyH_take (i := 7) (oi := { dst := some 150, op := Go.Op.move (Go.Operand.tmp 5), type := 25, pos := "law.go:90", after := #[{ on := 6, ground := Go.Ground.guard }], guard := some (6, false) }) (v := ?_) rfl (by kernel_rfl) (by kernel_rfl) (by kernel_rfl) (fun _ _ _ h => h) (Or.inl ⟨by rfl, ?_⟩) (by assumption) ?_
            rotate_left
            · (intro w hSw; (try dsimp only at hSw); go_simp; (try with_reducible rfl))
            (try simp only [Act.put, List.setIfInBounds_toArray, List.set_cons_zero, List.set_cons_succ])
            refine wpAnyH_take (i := 9) (oi := { dst := some 152, op := Go.Op.fieldAddr 29 (Go.Operand.tmp 6) 1, type := 0, pos := "law.go:90", after := #[{ on := 6, ground := Go.Ground.guard }], guard := some (6, false) }) (v := ?_) rfl (by kernel_rfl) (by kernel_rfl) (by kernel_rfl) (fun _ _ _ h => h) (Or.inl ⟨by rfl, ?_⟩) (by assumption) ?_
            rotate_left
            · (intro w hSw; (try dsimp only at hSw); go_simp; (try with_reducible rfl))
            (try simp only [Act.put, List.setIfInBounds_toArray, List.set_cons_zero, List.set_cons_succ])
            refine wpAnyH_take (i := 10) (oi := { dst := some 153, op := Go.Op.load 27 (Go.Operand.tmp 152), type := 27, pos := "law.go:90", after := #[{ on := 9, ground := Go.Ground.data }, { on := 6, ground := Go.Ground.guard }], guard := some (6, false) }) (v := ?_) rfl (by kernel_rfl) (by kernel_rfl) (by kernel_rfl) (fun _ _ _ h => h) (Or.inl ⟨by rfl, ?_⟩) (by assumption) ?_
            rotate_left
            · (intro w hSw; (try dsimp only at hSw); go_simp; (try with_reducible rfl))
            (try simp only [Act.put, List.setIfInBounds_toArray, List.set_cons_zero, List.set_cons_succ])
            refine wpAnyH_take (i := 11) (oi := { dst := some 154, op := Go.Op.call { callee := Go.Callee.builtin Go.Builtin.len, args := #[Go.Operand.tmp 153], argTypes := #[27] }, type := 3, pos := "law.go:90", after := #[{ on := 10, ground := Go.Ground.data }, { on := 6, ground := Go.Ground.guard }], guard := some (6, false) }) (v := ?_) rfl (by kernel_rfl) (by kernel_rfl) (by kernel_rfl) (fun _ _ _ h => h) (Or.inl ⟨by rfl, ?_⟩) (by assumption) ?_
            rotate_left
            · (intro w hSw; (try dsimp only at hSw); go_simp; (try with_reducible rfl))
            (try simp only [Act.put, List.setIfInBounds_toArray, List.set_cons_zero, List.set_cons_succ])
            refine wpAnyH_ready (rs := [8]) (by kernel_rfl) (by simp) ?_
            refine AllReadyH.cons (o := { dst := some 151, op := Go.Op.call { callee := Go.Callee.value (Go.Operand.func 26), args := #[Go.Operand.tmp 150], argTypes := #[25] }, type := 3, pos := "law.go:90", after := #[{ on := 7, ground := Go.Ground.data }, { on := 6, ground := Go.Ground.chain }, { on := 6, ground := Go.Ground.guard }], guard := some (6, false) }) rfl (fun K hK => ?_) AllReadyH.nil
            go_simp
            refine (len_ca _ c T mo ks _ S5.out.st.live.ca).mono ?_
            rintro e wx ⟨rfl, rfl⟩
            go_wp2_with fail
            refine hK.out _ _ ?_ (fun hHeld => ?_)
            · exact hHeld
            clear hK K
            (try simp only [Act.put, List.setIfInBounds_toArray, List.set_cons_zero, List.set_cons_succ])
            refine wpAnyH_take (i := 12) (oi := { dst := some 155, op := Go.Op.binOp Go.BinOp.neq 3 (Go.Operand.tmp 151) (Go.Operand.tmp 154) 3, type := 4, pos := "law.go:90", after := #[{ on := 8, ground := Go.Ground.data }, { on := 11, ground := Go.Ground.data }, { on := 6, ground := Go.Ground.guard }], guard := some (6, false) }) (v := ?_) rfl (by kernel_rfl) (by kernel_rfl) (by kernel_rfl) (fun _ _ _ h => h) (Or.inl ⟨by rfl, ?_⟩) (by assumption) ?_
            rotate_left
            · (intro w hSw; (try dsimp only at hSw); go_simp; (try with_reducible rfl))
            (try simp only [Act.put, List.setIfInBounds_toArray, List.set_cons_zero, List.set_cons_succ])
            refine wpAnyH_take (i := 13) (oi := { dst := some 156, op := Go.Op.pick (Go.Operand.tmp 149) (Go.Operand.const (Go.Value.bool true)) (Go.Operand.tmp 155), type := 4, pos := "law.go:90", after := #[{ on := 6, ground := Go.Ground.data }, { on := 12, ground := Go.Ground.data }], guard := none }) (v := ?_) rfl (by kernel_rfl) (by kernel_rfl) (by kernel_rfl) (fun _ _ _ h => h) (Or.inl ⟨by rfl, ?_⟩) (by assumption) ?_
            rotate_left
            · (intro w hSw; (try dsimp only at hSw); go_simp; (try with_reducible rfl))
            (try simp only [Act.put, List.setIfInBounds_toArray, List.set_cons_zero, List.set_cons_succ])
            refine wpAnyH_take (i := 14) (oi := { dst := some 157, op := Go.Op.move (Go.Operand.tmp 156), type := 4, pos := "law.go:90", after := #[{ on := 13, ground := Go.Ground.data }, { on := 8, ground := Go.Ground.chain }], guard := none }) (v := ?_) rfl (by kernel_rfl) (by kernel_rfl) (by kernel_rfl) (fun _ _ _ h => h) (Or.inl ⟨by rfl, ?_⟩) (by assumption) ?_
            rotate_left
            · (intro w hSw; (try dsimp only at hSw); go_simp; (try with_reducible rfl))
            (try simp only [Act.put, List.setIfInBounds_toArray, List.set_cons_zero, List.set_cons_succ])
            refine wpAnyH_take (i := 15) (oi := { dst := some 158, op := Go.Op.move (Go.Operand.tmp 5), type := 25, pos := "law.go:90", after := #[{ on := 14, ground := Go.Ground.guard }], guard := some (14, false) }) (v := ?_) rfl (by kernel_rfl) (by kernel_rfl) (by kernel_rfl) (fun _ _ _ h => h) (Or.inl ⟨by rfl, ?_⟩) (by assumption) ?_
            rotate_left
            · (intro w hSw; (try dsimp only at hSw); go_simp; (try with_reducible rfl))
            (try simp only [Act.put, List.setIfInBounds_toArray, List.set_cons_zero, List.set_cons_succ])
            refine wpAnyH_take (i := 16) (oi := { dst := some 159, op := Go.Op.fieldAddr 32 (Go.Operand.tmp 8) 1, type := 0, pos := "law.go:90", after := #[{ on := 14, ground := Go.Ground.guard }], guard := some (14, false) }) (v := ?_) rfl (by kernel_rfl) (by kernel_rfl) (by kernel_rfl) (fun _ _ _ h => h) (Or.inl ⟨by rfl, ?_⟩) (by assumption) ?_
            rotate_left
            · (intro w hSw; (try dsimp only at hSw); go_simp; (try with_reducible rfl))
            (try simp only [Act.put, List.setIfInBounds_toArray, List.set_cons_zero, List.set_cons_succ])
            refine wpAnyH_take (i := 17) (oi := { dst := some 160, op := Go.Op.load 9 (Go.Operand.tmp 159), type := 9, pos := "law.go:90", after := #[{ on := 16, ground := Go.Ground.data }, { on := 14, ground := Go.Ground.guard }], guard := some (14, false) }) (v := ?_) rfl (by kernel_rfl) (by kernel_rfl) (by kernel_rfl) (fun _ _ _ h => h) (Or.inl ⟨by rfl, ?_⟩) (by assumption) ?_
            rotate_left
            · (intro w hSw; (try dsimp only at hSw); go_simp; (try with_reducible rfl))
            (try simp only [Act.put, List.setIfInBounds_toArray, List.set_cons_zero, List.set_cons_succ])
            refine wpAnyH_take (i := 19) (oi := { dst := some 162, op := Go.Op.fieldAddr 29 (Go.Operand.tmp 6) 1, type := 0, pos := "law.go:90", after := #[{ on := 14, ground := Go.Ground.guard }], guard := some (14, false) }) (v := ?_) rfl (by kernel_rfl) (by kernel_rfl) (by kernel_rfl) (fun _ _ _ h => h) (Or.inl ⟨by rfl, ?_⟩) (by assumption) ?_
            rotate_left
            · (intro w hSw; (try dsimp only at hSw); go_simp; (try with_reducible rfl))
            (try simp only [Act.put, List.setIfInBounds_toArray, List.set_cons_zero, List.set_cons_succ])
            refine wpAnyH_take (i := 20) (oi := { dst := some 163, op := Go.Op.load 27 (Go.Operand.tmp 162), type := 27, pos := "law.go:90", after := #[{ on := 19, ground := Go.Ground.data }, { on := 14, ground := Go.Ground.guard }], guard := some (14, false) }) (v := ?_) rfl (by kernel_rfl) (by kernel_rfl) (by kernel_rfl) (fun _ _ _ h => h) (Or.inl ⟨by rfl, ?_⟩) (by assumption) ?_
            rotate_left
            · (intro w hSw; (try dsimp only at hSw); go_simp; (try with_reducible rfl))
            (try simp only [Act.put, List.setIfInBounds_toArray, List.set_cons_zero, List.set_cons_succ])
            refine wpAnyH_take (i := 21) (oi := { dst := some 164, op := Go.Op.fieldAddr 32 (Go.Operand.tmp 8) 1, type := 0, pos := "law.go:90", after := #[{ on := 14, ground := Go.Ground.guard }], guard := some (14, false) }) (v := ?_) rfl (by kernel_rfl) (by kernel_rfl) (by kernel_rfl) (fun _ _ _ h => h) (Or.inl ⟨by rfl, ?_⟩) (by assumption) ?_
            rotate_left
            · (intro w hSw; (try dsimp only at hSw); go_simp; (try with_reducible rfl))
            (try simp only [Act.put, List.setIfInBounds_toArray, List.set_cons_zero, List.set_cons_succ])
            refine wpAnyH_take (i := 22) (oi := { dst := some 165, op := Go.Op.load 9 (Go.Operand.tmp 164), type := 9, pos := "law.go:90", after := #[{ on := 21, ground := Go.Ground.data }, { on := 14, ground := Go.Ground.guard }], guard := some (14, false) }) (v := ?_) rfl (by kernel_rfl) (by kernel_rfl) (by kernel_rfl) (fun _ _ _ h => h) (Or.inl ⟨by rfl, ?_⟩) (by assumption) ?_
            rotate_left
            · (intro w hSw; (try dsimp only at hSw); go_simp; (try with_reducible rfl))
            (try simp only [Act.put, List.setIfInBounds_toArray, List.set_cons_zero, List.set_cons_succ])
            refine wpAnyH_ready (rs := [18]) (by kernel_rfl) (by simp) ?_
            refine AllReadyH.cons (o := { dst := some 161, op := Go.Op.call { callee := Go.Callee.value (Go.Operand.func 27), args := #[Go.Operand.tmp 158, Go.Operand.tmp 160], argTypes := #[25, 9] }, type := 4, pos := "law.go:90", after := #[{ on := 15, ground := Go.Ground.data }, { on := 17, ground := Go.Ground.data }, { on := 14, ground := Go.Ground.chain }, { on := 14, ground := Go.Ground.guard }], guard := some (14, false) }) rfl (fun K hK => ?_) AllReadyH.nil
            go_simp
            refine (has_ca _ c T mo ks _ key S5.out.st.live.ca hsk).mono ?_
            rintro e wx ⟨rfl, rfl⟩
            go_wp2_with fail
            refine hK.out _ _ ?_ (fun hHeld => ?_)
            · exact hHeld
            clear hK K
            (try simp only [Act.put, List.setIfInBounds_toArray, List.set_cons_zero, List.set_cons_succ])
            refine wpAnyH_ready (rs := [23]) (by kernel_rfl) (by simp) ?_
            refine AllReadyH.cons (o := { dst := some 166, op := Go.Op.call { callee := Go.Callee.value (Go.Operand.func 16), args := #[Go.Operand.tmp 163, Go.Operand.tmp 165], argTypes := #[27, 9] }, type := 4, pos := "law.go:90", after := #[{ on := 20, ground := Go.Ground.data }, { on := 22, ground := Go.Ground.data }, { on := 18, ground := Go.Ground.chain }, { on := 14, ground := Go.Ground.guard }], guard := some (14, false) }) rfl (fun K hK => ?_) AllReadyH.nil
            go_simp
            refine (refHas_any _ gm _ ks key R5.out).mono ?_
            rintro e wx ⟨rfl, rfl⟩
            go_wp2_with fail
            refine hK.out _ _ ?_ (fun hHeld => ?_)
            · exact hHeld
            clear hK K
            (try simp only [Act.put, List.setIfInBounds_toArray, List.set_cons_zero, List.set_cons_succ])
            refine wpAnyH_take (i := 24) (oi := { dst := some 167, op := Go.Op.binOp Go.BinOp.neq 4 (Go.Operand.tmp 161) (Go.Operand.tmp 166) 4, type := 4, pos := "law.go:90", after := #[{ on := 18, ground := Go.Ground.data }, { on := 23, ground := Go.Ground.data }, { on := 14, ground := Go.Ground.guard }], guard := some (14, false) }) (v := ?_) rfl (by kernel_rfl) (by kernel_rfl) (by kernel_rfl) (fun _ _ _ h => h) (Or.inl ⟨by rfl, ?_⟩) (by assumption) ?_
            rotate_left
            · (intro w hSw; (try dsimp only at hSw); go_simp; (try with_reducible rfl))
            (try simp only [Act.put, List.setIfInBounds_toArray, List.set_cons_zero, List.set_cons_succ])
            refine wpAnyH_take (i := 25) (oi := { dst := some 168, op := Go.Op.pick (Go.Operand.tmp 157) (Go.Operand.const (Go.Value.bool true)) (Go.Operand.tmp 167), type := 4, pos := "law.go:90", after := #[{ on := 14, ground := Go.Ground.data }, { on := 24, ground := Go.Ground.data }], guard := none }) (v := ?_) rfl (by kernel_rfl) (by kernel_rfl) (by kernel_rfl) (fun _ _ _ h => h) (Or.inl ⟨by rfl, ?_⟩) (by assumption) ?_
            rotate_left
            · (intro w hSw; (try dsimp only at hSw); go_simp; (try with_reducible rfl))
            (try simp only [Act.put, List.setIfInBounds_toArray, List.set_cons_zero, List.set_cons_succ])
            refine wpAnyH_take (i := 26) (oi := { dst := some 169, op := Go.Op.move (Go.Operand.tmp 168), type := 4, pos := "law.go:90", after := #[{ on := 25, ground := Go.Ground.data }, { on := 23, ground := Go.Ground.chain }], guard := none }) (v := ?_) rfl (by kernel_rfl) (by kernel_rfl) (by kernel_rfl) (fun _ _ _ h => h) (Or.inl ⟨by rfl, ?_⟩) (by assumption) ?_
            rotate_left
            · (intro w hSw; (try dsimp only at hSw); go_simp; (try with_reducible rfl))
            (try simp only [Act.put, List.setIfInBounds_toArray, List.set_cons_zero, List.set_cons_succ])
            refine wpAnyH_take (i := 27) (oi := { dst := some 170, op := Go.Op.move (Go.Operand.tmp 18), type := 4, pos := "law.go:90", after := #[{ on := 26, ground := Go.Ground.guard }], guard := some (26, false) }) (v := ?_) rfl (by kernel_rfl) (by kernel_rfl) (by kernel_rfl) (fun _ _ _ h => h) (Or.inl ⟨by rfl, ?_⟩) (by assumption) ?_
            rotate_left
            · (intro w hSw; (try dsimp only at hSw); go_simp; (try with_reducible rfl))
            (try simp only [Act.put, List.setIfInBounds_toArray, List.set_cons_zero, List.set_cons_succ])
            refine wpAnyH_take (i := 28) (oi := { dst := some 171, op := Go.Op.fieldAddr 29 (Go.Operand.tmp 6) 1, type := 0, pos := "law.go:90", after := #[{ on := 26, ground := Go.Ground.guard }], guard := some (26, false) }) (v := ?_) rfl (by kernel_rfl) (by kernel_rfl) (by kernel_rfl) (fun _ _ _ h => h) (Or.inl ⟨by rfl, ?_⟩) (by assumption) ?_
            rotate_left
            · (intro w hSw; (try dsimp only at hSw); go_simp; (try with_reducible rfl))
            (try simp only [Act.put, List.setIfInBounds_toArray, List.set_cons_zero, List.set_cons_succ])
            refine wpAnyH_take (i := 29) (oi := { dst := some 172, op := Go.Op.load 27 (Go.Operand.tmp 171), type := 27, pos := "law.go:90", after := #[{ on := 28, ground := Go.Ground.data }, { on := 26, ground := Go.Ground.guard }], guard := some (26, false) }) (v := ?_) rfl (by kernel_rfl) (by kernel_rfl) (by kernel_rfl) (fun _ _ _ h => h) (Or.inl ⟨by rfl, ?_⟩) (by assumption) ?_
            rotate_left
            · (intro w hSw; (try dsimp only at hSw); go_simp; (try with_reducible rfl))
            (try simp only [Act.put, List.setIfInBounds_toArray, List.set_cons_zero, List.set_cons_succ])
            refine wpAnyH_take (i := 30) (oi := { dst := some 173, op := Go.Op.call { callee := Go.Callee.builtin Go.Builtin.len, args := #[Go.Operand.tmp 172], argTypes := #[27] }, type := 3, pos := "law.go:90", after := #[{ on := 29, ground := Go.Ground.data }, { on := 26, ground := Go.Ground.guard }], guard := some (26, false) }) (v := ?_) rfl (by kernel_rfl) (by kernel_rfl) (by kernel_rfl) (fun _ _ _ h => h) (Or.inl ⟨by rfl, ?_⟩) (by assumption) ?_
            rotate_left
            · (intro w hSw; (try dsimp only at hSw); go_simp; (try with_reducible rfl))
            (try simp only [Act.put, List.setIfInBounds_toArray, List.set_cons_zero, List.set_cons_succ])
            refine wpAnyH_take (i := 31) (oi := { dst := some 174, op := Go.Op.binOp Go.BinOp.gtr 3 (Go.Operand.tmp 173) (Go.Operand.const (Go.Value.int Go.IntKind.i64 0)) 3, type := 4, pos := "law.go:90", after := #[{ on := 30, ground := Go.Ground.data }, { on := 26, ground := Go.Ground.guard }], guard := some (26, false) }) (v := ?_) rfl (by kernel_rfl) (by kernel_rfl) (by kernel_rfl) (fun _ _ _ h => h) (Or.inl ⟨by rfl, ?_⟩) (by assumption) ?_
            rotate_left
            · (intro w hSw; (try dsimp only at hSw); go_simp; (try with_reducible rfl))
            (try simp only [Act.put, List.setIfInBounds_toArray, List.set_cons_zero, List.set_cons_succ])
            refine wpAnyH_take (i := 32) (oi := { dst := some 175, op := Go.Op.binOp Go.BinOp.neq 4 (Go.Operand.tmp 170) (Go.Operand.tmp 174) 4, type := 4, pos := "law.go:90", after := #[{ on := 27, ground := Go.Ground.data }, { on := 31, ground := Go.Ground.data }, { on := 26, ground := Go.Ground.guard }], guard := some (26, false) }) (v := ?_) rfl (by kernel_rfl) (by kernel_rfl) (by kernel_rfl) (fun _ _ _ h => h) (Or.inl ⟨by rfl, ?_⟩) (by assumption) ?_
            rotate_left
            · (intro w hSw; (try dsimp only at hSw); go_simp; (try with_reducible rfl))
            (try simp only [Act.put, List.setIfInBounds_toArray, List.set_cons_zero, List.set_cons_succ])
            refine wpAnyH_take (i := 33) (oi := { dst := some 176, op := Go.Op.pick (Go.Operand.tmp 169) (Go.Operand.const (Go.Value.bool true)) (Go.Operand.tmp 175), type := 4, pos := "law.go:90", after := #[{ on := 26, ground := Go.Ground.data }, { on := 32, ground := Go.Ground.data }], guard := none }) (v := ?_) rfl (by kernel_rfl) (by kernel_rfl) (by kernel_rfl) (fun _ _ _ h => h) (Or.inl ⟨by rfl, ?_⟩) (by assumption) ?_
            rotate_left
            · (intro w hSw; (try dsimp only at hSw); go_simp; (try with_reducible rfl))
            (try simp only [Act.put, List.setIfInBounds_toArray, List.set_cons_zero, List.set_cons_succ])
            refine wpAnyH_take (i := 34) (oi := { dst := some 177, op := Go.Op.move (Go.Operand.tmp 176), type := 4, pos := "law.go:90", after := #[{ on := 33, ground := Go.Ground.data }, { on := 26, ground := Go.Ground.chain }], guard := none }) (v := ?_) rfl (by kernel_rfl) (by kernel_rfl) (by kernel_rfl) (fun _ _ _ h => h) (Or.inl ⟨by rfl, ?_⟩) (by assumption) ?_
            rotate_left
            · (intro w hSw; (try dsimp only at hSw); go_simp; (try with_reducible rfl))
            (try simp only [Act.put, List.setIfInBounds_toArray, List.set_cons_zero, List.set_cons_succ])
            refine wpAnyH_take (i := 35) (oi := { dst := some 178, op := Go.Op.move (Go.Operand.tmp 18), type := 4, pos := "law.go:90", after := #[{ on := 34, ground := Go.Ground.guard }], guard := some (34, false) }) (v := ?_) rfl (by kernel_rfl) (by kernel_rfl) (by kernel_rfl) (fun _ _ _ h => h) (Or.inl ⟨by rfl, ?_⟩) (by assumption) ?_
            rotate_left
            · (intro w hSw; (try dsimp only at hSw); go_simp; (try with_reducible rfl))
            (try simp only [Act.put, List.setIfInBounds_toArray, List.set_cons_zero, List.set_cons_succ])
            refine wpAnyH_take (i := 36) (oi := { dst := some 179, op := Go.Op.move (Go.Operand.tmp 178), type := 4, pos := "law.go:90", after := #[{ on := 35, ground := Go.Ground.data }, { on := 34, ground := Go.Ground.chain }, { on := 34, ground := Go.Ground.guard }], guard := some (34, false) }) (v := ?_) rfl (by kernel_rfl) (by kernel_rfl) (by kernel_rfl) (fun _ _ _ h => h) (Or.inl ⟨by rfl, ?_⟩) (by assumption) ?_
            rotate_left
            · (intro w hSw; (try dsimp only at hSw); go_simp; (try with_reducible rfl))
            (try simp only [Act.put, List.setIfInBounds_toArray, List.set_cons_zero, List.set_cons_succ])
            refine wpAnyH_take (i := 37) (oi := { dst := some 180, op := Go.Op.move (Go.Operand.tmp 17), type := 9, pos := "law.go:90", after := #[{ on := 36, ground := Go.Ground.guard }], guard := some (36, true) }) (v := ?_) rfl (by kernel_rfl) (by kernel_rfl) (by kernel_rfl) (fun _ _ _ h => h) (Or.inl ⟨by rfl, ?_⟩) (by assumption) ?_
            rotate_left
            · (intro w hSw; (try dsimp only at hSw); go_simp; (try with_reducible rfl))
            (try simp only [Act.put, List.setIfInBounds_toArray, List.set_cons_zero, List.set_cons_succ])
            refine wpAnyH_take (i := 38) (oi := { dst := some 181, op := Go.Op.fieldAddr 29 (Go.Operand.tmp 6) 1, type := 0, pos := "law.go:90", after := #[{ on := 36, ground := Go.Ground.guard }], guard := some (36, true) }) (v := ?_) rfl (by kernel_rfl) (by kernel_rfl) (by kernel_rfl) (fun _ _ _ h => h) (Or.inl ⟨by rfl, ?_⟩) (by assumption) ?_
            rotate_left
            · (intro w hSw; (try dsimp only at hSw); go_simp; (try with_reducible rfl))
            (try simp only [Act.put, List.setIfInBounds_toArray, List.set_cons_zero, List.set_cons_succ])
            refine wpAnyH_take (i := 39) (oi := { dst := some 182, op := Go.Op.load 27 (Go.Operand.tmp 181), type := 27, pos := "law.go:90", after := #[{ on := 38, ground := Go.Ground.data }, { on := 36, ground := Go.Ground.guard }], guard := some (36, true) }) (v := ?_) rfl (by kernel_rfl) (by kernel_rfl) (by kernel_rfl) (fun _ _ _ h => h) (Or.inl ⟨by rfl, ?_⟩) (by assumption) ?_
            rotate_left
            · (intro w hSw; (try dsimp only at hSw); go_simp; (try with_reducible rfl))
            (try simp only [Act.put, List.setIfInBounds_toArray, List.set_cons_zero, List.set_cons_succ])
            refine wpAnyH_take (i := 40) (oi := { dst := some 183, op := Go.Op.indexAddr 27 (Go.Operand.tmp 182) (Go.Operand.const (Go.Value.int Go.IntKind.i64 0)), type := 0, pos := "law.go:90", after := #[{ on := 39, ground := Go.Ground.data }, { on := 36, ground := Go.Ground.guard }], guard := some (36, true) }) (v := ?_) rfl (by kernel_rfl) (by kernel_rfl) (by kernel_rfl) (fun _ _ _ h => h) (Or.inl ⟨by rfl, ?_⟩) (by assumption) ?_
            rotate_left
            · (intro w hSw; (try dsimp only at hSw); go_simp; (try with_reducible rfl))
            (try simp only [Act.put, List.setIfInBounds_toArray, List.set_cons_zero, List.set_cons_succ])
            refine wpAnyH_take (i := 41) (oi := { dst := some 184, op := Go.Op.load 9 (Go.Operand.tmp 183), type := 9, pos := "law.go:90", after := #[{ on := 40, ground := Go.Ground.data }, { on := 36, ground := Go.Ground.guard }], guard := some (36, true) }) (v := ?_) rfl (by kernel_rfl) (by kernel_rfl) (by kernel_rfl) (fun _ _ _ h => h) (Or.inl ⟨by rfl, ?_⟩) (by assumption) ?_
            rotate_left
            · (intro w hSw; (try dsimp only at hSw); go_simp; (try with_reducible rfl))
            (try simp only [Act.put, List.setIfInBounds_toArray, List.set_cons_zero, List.set_cons_succ])
            refine wpAnyH_take (i := 42) (oi := { dst := some 185, op := Go.Op.binOp Go.BinOp.neq 9 (Go.Operand.tmp 180) (Go.Operand.tmp 184) 9, type := 4, pos := "law.go:90", after := #[{ on := 37, ground := Go.Ground.data }, { on := 41, ground := Go.Ground.data }, { on := 36, ground := Go.Ground.guard }], guard := some (36, true) }) (v := ?_) rfl (by kernel_rfl) (by kernel_rfl) (by kernel_rfl) (fun _ _ _ h => h) (Or.inl ⟨by rfl, ?_⟩) (by assumption) ?_
            rotate_left
            · (intro w hSw; (try dsimp only at hSw); go_simp; (try with_reducible rfl))
            (try simp only [Act.put, List.setIfInBounds_toArray, List.set_cons_zero, List.set_cons_succ])
            refine wpAnyH_take (i := 43) (oi := { dst := some 186, op := Go.Op.pick (Go.Operand.tmp 179) (Go.Operand.tmp 185) (Go.Operand.const (Go.Value.bool false)), type := 4, pos := "law.go:90", after := #[{ on := 36, ground := Go.Ground.data }, { on := 42, ground := Go.Ground.data }, { on := 34, ground := Go.Ground.guard }], guard := some (34, false) }) (v := ?_) rfl (by kernel_rfl) (by kernel_rfl) (by kernel_rfl) (fun _ _ _ h => h) (Or.inl ⟨by rfl, ?_⟩) (by assumption) ?_
            rotate_left
            · (intro w hSw; (try dsimp only at hSw); go_simp; (try with_reducible rfl))
            (try simp only [Act.put, List.setIfInBounds_toArray, List.set_cons_zero, List.set_cons_succ])
            refine wpAnyH_take (i := 44) (oi := { dst := some 187, op := Go.Op.pick (Go.Operand.tmp 177) (Go.Operand.const (Go.Value.bool true)) (Go.Operand.tmp 186), type := 4, pos := "law.go:90", after := #[{ on := 34, ground := Go.Ground.data }, { on := 43, ground := Go.Ground.data }], guard := none }) (v := ?_) rfl (by kernel_rfl) (by kernel_rfl) (by kernel_rfl) (fun _ _ _ h => h) (Or.inl ⟨by rfl, ?_⟩) (by assumption) ?_
            rotate_left
            · (intro w hSw; (try dsimp only at hSw); go_simp; (try with_reducible rfl))
            (try simp only [Act.put, List.setIfInBounds_toArray, List.set_cons_zero, List.set_cons_succ])
            refine wpAnyH_take (i := 45) (oi := { dst := some 188, op := Go.Op.move (Go.Operand.tmp 187), type := 4, pos := "law.go:90", after := #[{ on := 44, ground := Go.Ground.data }, { on := 36, ground := Go.Ground.chain }], guard := none }) (v := ?_) rfl (by kernel_rfl) (by kernel_rfl) (by kernel_rfl) (fun _ _ _ h => h) (Or.inl ⟨by rfl, ?_⟩) (by assumption) ?_
            rotate_left
            · (intro w hSw; (try dsimp only at hSw); go_simp; (try with_reducible rfl))
            (try simp only [Act.put, List.setIfInBounds_toArray, List.set_cons_zero, List.set_cons_succ])
            refine wpAnyH_take (i := 46) (oi := { dst := some 189, op := Go.Op.move (Go.Operand.tmp 18), type := 4, pos := "law.go:90", after := #[{ on := 45, ground := Go.Ground.guard }], guard := some (45, false) }) (v := ?_) rfl (by kernel_rfl) (by kernel_rfl) (by kernel_rfl) (fun _ _ _ h => h) (Or.inl ⟨by rfl, ?_⟩) (by assumption) ?_
            rotate_left
            · (intro w hSw; (try dsimp only at hSw); go_simp; (try with_reducible rfl))
            (try simp only [Act.put, List.setIfInBounds_toArray, List.set_cons_zero, List.set_cons_succ])
            refine wpAnyH_take (i := 47) (oi := { dst := some 190, op := Go.Op.unOp Go.UnOp.not 4 (Go.Operand.tmp 189), type := 4, pos := "law.go:90", after := #[{ on := 46, ground := Go.Ground.data }, { on := 45, ground := Go.Ground.guard }], guard := some (45, false) }) (v := ?_) rfl (by kernel_rfl) (by kernel_rfl) (by kernel_rfl) (fun _ _ _ h => h) (Or.inl ⟨by rfl, ?_⟩) (by assumption) ?_
            rotate_left
            · (intro w hSw; (try dsimp only at hSw); go_simp; (try with_reducible rfl))
            (try simp only [Act.put, List.setIfInBounds_toArray, List.set_cons_zero, List.set_cons_succ])
            refine wpAnyH_take (i := 48) (oi := { dst := some 191, op := Go.Op.move (Go.Operand.tmp 190), type := 4, pos := "law.go:90", after := #[{ on := 47, ground := Go.Ground.data }, { on := 45, ground := Go.Ground.chain }, { on := 45, ground := Go.Ground.guard }], guard := some (45, false) }) (v := ?_) rfl (by kernel_rfl) (by kernel_rfl) (by kernel_rfl) (fun _ _ _ h => h) (Or.inl ⟨by rfl, ?_⟩) (by assumption) ?_
            rotate_left
            · (intro w hSw; (try dsimp only at hSw); go_simp; (try with_reducible rfl))
            (try simp only [Act.put, List.setIfInBounds_toArray, List.set_cons_zero, List.set_cons_succ])
            refine wpAnyH_take (i := 49) (oi := { dst := some 192, op := Go.Op.move (Go.Operand.tmp 17), type := 9, pos := "law.go:90", after := #[{ on := 48, ground := Go.Ground.guard }], guard := some (48, true) }) (v := undef) rfl (by kernel_rfl) (by kernel_rfl) (by kernel_rfl) (fun _ _ _ h => h) (Or.inr ⟨by rfl, rfl⟩) (by assumption) ?_
            (try simp only [Act.put, List.setIfInBounds_toArray, List.set_cons_zero, List.set_cons_succ])
            refine wpAnyH_take (i := 50) (oi := { dst := some 193, op := Go.Op.binOp Go.BinOp.neq 9 (Go.Operand.tmp 192) (Go.Operand.const (Go.Value.string { data := #[] })) 9, type := 4, pos := "law.go:90", after := #[{ on := 49, ground := Go.Ground.data }, { on := 48, ground := Go.Ground.guard }], guard := some (48, true) }) (v := undef) rfl (by kernel_rfl) (by kernel_rfl) (by kernel_rfl) (fun _ _ _ h => h) (Or.inr ⟨by rfl, rfl⟩) (by assumption) ?_
            (try simp only [Act.put, List.setIfInBounds_toArray, List.set_cons_zero, List.set_cons_succ])
            refine wpAnyH_take (i := 51) (oi := { dst := some 194, op := Go.Op.pick (Go.Operand.tmp 191) (Go.Operand.tmp 193) (Go.Operand.const (Go.Value.bool false)), type := 4, pos := "law.go:90", after := #[{ on := 48, ground := Go.Ground.data }, { on := 50, ground := Go.Ground.data }, { on := 45, ground := Go.Ground.guard }], guard := some (45, false) }) (v := ?_) rfl (by kernel_rfl) (by kernel_rfl) (by kernel_rfl) (fun _ _ _ h => h) (Or.inl ⟨by rfl, ?_⟩) (by assumption) ?_
            rotate_left
            · (intro w hSw; (try dsimp only at hSw); go_simp; (try with_reducible rfl))
            (try simp only [Act.put, List.setIfInBounds_toArray, List.set_cons_zero, List.set_cons_succ])
            refine wpAnyH_take (i := 52) (oi := { dst := some 195, op := Go.Op.pick (Go.Operand.tmp 188) (Go.Operand.const (Go.Value.bool true)) (Go.Operand.tmp 194), type := 4, pos := "law.go:90", after := #[{ on := 45, ground := Go.Ground.data }, { on := 51, ground := Go.Ground.data }], guard := none }) (v := ?_) rfl (by kernel_rfl) (by kernel_rfl) (by kernel_rfl) (fun _ _ _ h => h) (Or.inl ⟨by rfl, ?_⟩) (by assumption) ?_
            rotate_left
            · (intro w hSw; (try dsimp only at hSw); go_simp; (try with_reducible rfl))
            (try simp only [Act.put, List.setIfInBounds_toArray, List.set_cons_zero, List.set_cons_succ])
            refine wpAnyH_take (i := 53) (oi := { dst := some 196, op := Go.Op.move (Go.Operand.tmp 195), type := 4, pos := "law.go:90", after := #[{ on := 52, ground := Go.Ground.data }, { on := 48, ground := Go.Ground.chain }], guard := none }) (v := ?_) rfl (by kernel_rfl) (by kernel_rfl) (by kernel_rfl) (fun _ _ _ h => h) (Or.inl ⟨by rfl, ?_⟩) (by assumption) ?_
            rotate_left
            · (intro w hSw; (try dsimp only at hSw); go_simp; (try with_reducible rfl))
            (try simp only [Act.put, List.setIfInBounds_toArray, List.set_cons_zero, List.set_cons_succ])
            refine wpAnyH_take (i := 54) (oi := { dst := some 197, op := Go.Op.move (Go.Operand.tmp 5), type := 25, pos := "law.go:90", after := #[{ on := 53, ground := Go.Ground.guard }], guard := some (53, false) }) (v := ?_) rfl (by kernel_rfl) (by kernel_rfl) (by kernel_rfl) (fun _ _ _ h => h) (Or.inl ⟨by rfl, ?_⟩) (by assumption) ?_
            rotate_left
            · (intro w hSw; (try dsimp only at hSw); go_simp; (try with_reducible rfl))
            (try simp only [Act.put, List.setIfInBounds_toArray, List.set_cons_zero, List.set_cons_succ])
            refine wpAnyH_ready (rs := [55]) (by kernel_rfl) (by simp) ?_
            refine AllReadyH.cons (o := { dst := some 198, op := Go.Op.call { callee := Go.Callee.value (Go.Operand.func 28), args := #[Go.Operand.tmp 197], argTypes := #[25] }, type := 27, pos := "law.go:90", after := #[{ on := 54, ground := Go.Ground.data }, { on := 53, ground := Go.Ground.chain }, { on := 53, ground := Go.Ground.guard }], guard := some (53, false) }) rfl (fun K hK => ?_) AllReadyH.nil
            go_simp
            refine (ghostsC _ c).mono ?_
            rintro e wx ⟨rfl, rfl⟩
            go_wp2_with fail
            refine hK.out _ _ ?_ (fun hHeld => ?_)
            · exact hHeld
            clear hK K
            (try simp only [Act.put, List.setIfInBounds_toArray, List.set_cons_zero, List.set_cons_succ])
            refine wpAnyH_take (i := 56) (oi := { dst := some 199, op := Go.Op.call { callee := Go.Callee.builtin Go.Builtin.len, args := #[Go.Operand.tmp 198], argTypes := #[27] }, type := 3, pos := "law.go:90", after := #[{ on := 55, ground := Go.Ground.data }, { on := 53, ground := Go.Ground.guard }], guard := some (53, false) }) (v := ?_) rfl (by kernel_rfl) (by kernel_rfl) (by kernel_rfl) (fun _ _ _ h => h) (Or.inl ⟨by rfl, ?_⟩) (by assumption) ?_
            rotate_left
            · (intro w hSw; (try dsimp only at hSw); go_simp; (try with_reducible rfl))
            (try simp only [Act.put, List.setIfInBounds_toArray, List.set_cons_zero, List.set_cons_succ])
            refine wpAnyH_take (i := 57) (oi := { dst := some 200, op := Go.Op.binOp Go.BinOp.neq 3 (Go.Operand.tmp 199) (Go.Operand.const (Go.Value.int Go.IntKind.i64 0)) 3, type := 4, pos := "law.go:90", after := #[{ on := 56, ground := Go.Ground.data }, { on := 53, ground := Go.Ground.guard }], guard := some (53, false) }) (v := ?_) rfl (by kernel_rfl) (by kernel_rfl) (by kernel_rfl) (fun _ _ _ h => h) (Or.inl ⟨by rfl, ?_⟩) (by assumption) ?_
            rotate_left
            · (intro w hSw; (try dsimp only at hSw); go_simp; (try with_reducible rfl))
            (try simp only [Act.put, List.setIfInBounds_toArray, List.set_cons_zero, List.set_cons_succ])
            refine wpAnyH_take (i := 58) (oi := { dst := some 201, op := Go.Op.pick (Go.Operand.tmp 196) (Go.Operand.const (Go.Value.bool true)) (Go.Operand.tmp 200), type := 4, pos := "law.go:90", after := #[{ on := 53, ground := Go.Ground.data }, { on := 57, ground := Go.Ground.data }], guard := none }) (v := ?_) rfl (by kernel_rfl) (by kernel_rfl) (by kernel_rfl) (fun _ _ _ h => h) (Or.inl ⟨by rfl, ?_⟩) (by assumption) ?_
            rotate_left
            · (intro w hSw; (try dsimp only at hSw); go_simp; (try with_reducible rfl))
            (try simp only [Act.put, List.setIfInBounds_toArray, List.set_cons_zero, List.set_cons_succ])
            refine wpAnyH_done (by kernel_rfl) ?_ _
            refine NoPanic.normal ?_
            clear hHeld SD RD R4 O4 U4 d4 m4 d5 m5 c4 c5 S4 R5
            go_wp2_with fail
            go_roundg (n - (k + 1))
            case measure => have := HGK.out; omega
            case rel => exact ⟨k + 1, T, mo, ks, _, rfl, by go_num, by omega, S5.out.st⟩
    · have e0 : decide (k < n) = false := by simpa using hlt
      go_wp2_with fail
      go_ret
      exact ⟨rfl, HPy.out.live.bel⟩

theorem walk_lruPlays (a0 : Int) (v1 : Value) (w : World) (w0 : (Lit.int .i64 a0).wf = true) (w1 : CameA w v1) : Calls Try.prog 3 #[.int .i64 a0, v1] w (RetB true w) := by
  obtain ⟨A, n, c, rfl, hn, K, S, N, hr, hc⟩ := w1
  exact plays_main a0 A n c w K S N (i64_rng w0) hn hr hc

namespace LLruPlays
set_option maxRecDepth 100000 in
theorem lifted (os : Os) (started : os.Started) (H : Type) (enc : TypeId × Value → H) :
    ReturnsInHanded {} Try.checked os 3 .any (Rows.lruPlaysSpec.pre6 enc Try.prog Try.f3 Rows.lruPlaysRow.domain false) (Rows.lruPlaysSpec.post enc Try.prog Try.f3 false true false false) := by
  refine returnsInHanded_of_change (C := Try.checked) own started (by kernel_rfl) Try.func3
    (ChangeSpec.witness6 (enc := enc) (C := Try.checked) false ⟨#[], #[.int .i64 0, .slice none 0 0], []⟩ 8 (by kernel_rfl) (by kernel_rfl) (by kernel_rfl) (by kernel_rfl)) ?_
  intro W base args ds gs before hval0 hW _ _
  have hval : ∀ (j : Nat) t v, Try.f3.params[j]? = some t → args[j]? = some v → Value.okWide Try.prog W .any base t v := hval0
  have hW' := hW
  obtain ⟨p, q, hA0, hV, rfl, hfz, hnd⟩ := hW
  have hA : DataW.TrodAll enc Try.prog W 0 (fun _ => true) true Try.f3.params.toList args.toList ds p := hA0
  rw [Try.params3] at hA hval
  obtain ⟨v0, vs0, d0, ds0, p0, q0, hargs, rfl, rfl, h0, r0⟩ := trodAll_cons hA
  obtain ⟨v1, vs1, d1, ds1, p1, q1, rfl, rfl, rfl, h1, r1⟩ := trodAll_cons r0
  obtain ⟨rfl, rfl, rfl⟩ := trodAll_nil r1
  obtain rfl : args = #[v0, v1] := by cases args; simp_all
  obtain ⟨rfl, rfl⟩ := trodVars_none hV
  obtain ⟨a0, rfl, rfl, rfl, w0⟩ := open_int Try.underlying3 (hval 0 3 v0 rfl rfl) h0
  have k1 := h1
  have lt1 : ∀ x ∈ p1, x.block < W.heap.size := by obtain ⟨m, hm⟩ := k1; exact DataW.trod_lt m _ _ _ hm
  have w1 := open_a (hval 1 22 v1 rfl rfl) h1
  clear hA0 hval0
  refine (walk_lruPlays a0 v1 W w0 w1).mono fun e W' ⟨he, bel⟩ => ?_
  subst he
  exact ⟨_, rfl, _, _, _, [], _, [], hW', trodAll_mk1 (shut_bool Try.underlying4 _), (trodAll_cons_mk (shut_int Try.underlying3 w0) (trodAll_cons_mk (Below.trod laidOut (by kernel_rfl) (of_decide_eq_true (by kernel_rfl)) k1 bel lt1) trodAll_mk0)), rfl, bel.frame _, fun h => by cases h⟩

theorem said : Rows.LruPlaysSaid :=
  OpenClaim.holds_of_wide 3 Try.f3 rfl rfl rfl rfl rfl rfl rfl ⟨rfl, rfl, rfl, rfl, rfl⟩ rfl rfl rfl rfl rfl (by kernel_rfl) Try.func3 (by kernel_rfl)
    (of_decide_eq_true (by kernel_rfl)) (by unfold Func.isWrapper; rw [if_neg (of_decide_eq_false (by kernel_rfl))]; exact ⟨rfl, rfl⟩)
    (fun os started H enc _ => lifted os started H enc)
#print axioms said
end LLruPlays
end Go.Proofs.Ythbokiebnniifaa
