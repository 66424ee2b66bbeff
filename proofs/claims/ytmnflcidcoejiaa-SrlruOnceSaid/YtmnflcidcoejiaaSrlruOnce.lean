/- 'cachewiselaw07.SrlruOnce' returns true for every size and every row of keys, and leaves what was there as it was. No condition. -/
import Derived.Test.YtmnflcidcoejiaaCut7
import Derived.Deep.DeepCutAuto
import Derived.Deep.CutBlock
namespace Go.Proofs.Ytmnflcidcoejiaa
open Go.ChangeShapes Go.WideShapes Go.ChangeAt Go.RowKit

/-- A cache asked for the keys of a row, each once. -/
structure OnceI (mo : Nat) (s : St) (xs : List ByteArray) : Prop where
  m : s.mo = mo
  t : s.t = mo / 2
  A : s.A = []
  N : s.N = (lastN mo xs).reverse
  G : ∀ x ∈ s.G, x ∈ xs
theorem OnceI.start (mo : Nat) : OnceI mo (St.start mo) [] := ⟨rfl, rfl, rfl, by simp [lastN, St.start], fun x hx => by cases hx⟩
section
variable {mo : Nat} {s : St} {xs : List ByteArray} {k : ByteArray}
theorem OnceI.len (h : OnceI mo s xs) : s.N.length = min mo xs.length := by rw [h.N, List.length_reverse, lastN_len]
theorem OnceI.no (h : OnceI mo s xs) (hk : k ∉ xs) : inn s.A k = false ∧ inn s.N k = false ∧ inn s.G k = false := by
  refine ⟨by rw [h.A]; rfl, inn_no.2 fun hx => hk ?_, inn_no.2 fun hx => hk (h.G k hx)⟩
  rw [h.N, List.mem_reverse] at hx
  exact lastN_mem hx
theorem OnceI.hit (h : OnceI mo s xs) (hk : k ∉ xs) : s.hit k = false := by
  unfold St.hit
  rw [(h.no hk).1, (h.no hk).2.1]; rfl
theorem OnceI.out (h : OnceI mo s xs) (hk : k ∉ xs) (hm : 1 ≤ mo) : s.out k = decide (mo < xs.length + 1) := by
  unfold St.out
  rw [h.hit hk, h.m, h.A, h.len, Bool.eq_iff_iff]
  simp only [Bool.and_eq_true, decide_eq_true_eq, Bool.not_false, List.length_nil, and_true]
  constructor
  · rintro ⟨_, h2⟩; omega
  · intro h2; exact ⟨by omega, by omega⟩
theorem OnceI.vic (h : OnceI mo s xs) (hk : k ∉ xs) (hm : 1 ≤ mo) (hl : mo < xs.length + 1) : s.vic k = (xs ++ [k]).getD (xs.length + 1 - 1 - mo) ⟨#[]⟩ := by
  unfold St.vic
  rw [h.out hk hm, if_pos (by simpa using hl), h.A, List.nil_append, h.N]
  unfold lastKey lastN
  rw [List.getLastD_eq_getLast?, List.getLast?_reverse, List.head?_drop, List.getD_eq_getElem?_getD, List.getElem?_append_left (by omega)]
  rfl
theorem OnceI.next (h : OnceI mo s xs) (hk : k ∉ xs) (hm : 1 ≤ mo) : OnceI mo (s.req k) (xs ++ [k]) := by
  obtain ⟨h1, h2, h3⟩ := h.no hk
  have e : s.req k = (s.cut (s.mo - 1)).fr k := by
    unfold St.req
    rw [if_neg (by rw [h.m]; omega), if_neg (by rw [h1]; simp), if_neg (by rw [h2]; simp), if_neg (by rw [h3]; simp)]
  rw [e]
  refine ⟨h.m, h.t, ?_, ?_, fun x hx => ?_⟩
  · show cutA (s.mo - 1) s.N s.A = []
    unfold cutA; rw [h.A, List.take_nil]
  · show k :: cutN (s.mo - 1) s.N s.A = _
    have hl := h.len
    unfold cutN gone
    rw [h.A, h.m, h.N]
    unfold lastN
    rw [List.length_nil, Nat.zero_add, List.length_reverse, List.length_drop, List.length_append, List.length_cons, List.length_nil, List.take_reverse, List.drop_drop, List.length_drop, List.drop_append, List.reverse_append]
    rw [show xs.length + (0 + 1) - mo - xs.length = 0 by omega]
    show k :: _ = [k] ++ _
    rw [List.singleton_append]
    congr 3; omega
  · have hx : x ∈ (cutQ (s.mo - 1) s.N s.A s.G).take s.mo := hx
    have hx := List.mem_of_mem_take hx
    unfold cutQ at hx
    rcases List.mem_append.1 hx with h4 | h4
    · have := List.mem_of_mem_drop h4
      rw [h.A, List.nil_append, h.N, List.mem_reverse] at this
      exact List.mem_append_left _ (lastN_mem this)
    · exact List.mem_append_left _ (h.G x h4)
theorem OnceI.keys (h : OnceI mo s xs) : (s.A ++ s.N).reverse = xs.drop (xs.length - mo) := by rw [h.A, List.nil_append, h.N, List.reverse_reverse]; rfl
end
def OnceR (n c mo : Nat) (w w1 : World) (v z : Value) (W : World) : Prop := ∃ (k : Nat) (T : Nat → Prop) (s : St) (xs : List ByteArray), z = .int .i64 (k : Int) ∧ k ≤ n ∧ xs.length ≤ k ∧ Live w W c T s k ∧ OnceI mo s xs ∧ Keep W T w1.heap.size v xs

set_option maxHeartbeats 4000000 in
set_option maxRecDepth 100000 in
theorem once_main (mo : Nat) (A : Option Addr) (n cc : Nat) (w : World) (S : Nat → ByteArray) (h1m : 1 ≤ mo) (hmo : mo ≤ 1000) (hn : n ≤ 100) (hS : ∀ i, i < n → (S i).size ≤ maxLen)
    (hc : 0 < n → ∃ g o, A = some ⟨g, o, none⟩ ∧ g < w.heap.size ∧ n ≤ cc ∧ cc ≤ maxLen ∧ ∀ i, i < n → w.cell? ⟨g, o + i, none⟩ = some (.string (S i))) :
    Calls Try.prog 6 #[.int .i64 (mo : Int), .slice A n cc] w (RetB true w) := by
  have e0 : decide (100 < (n : Int)) = false := by simp; omega
  have e2 : decide ((mo : Int) < 1) = false := by simp; omega
  have e3 : decide (1000 < (mo : Int)) = false := by simp; omega
  have HC := Lib.hid hc
  have HS := Lib.hid hS
  clear hc hS
  go_enter Try.func6, Try.ntmps6
  go_wp2_with fail
  refine (awake_any _).mono ?_
  rintro e w0 ⟨rfl, hb0⟩
  have b0 := Lib.hid hb0; clear hb0
  go_wp2_with fail
  refine (show Calls Try.prog 10 #[.int .i64 (mo : Int)] w0 (NewS (St.start mo) w0) from new_ca w0 (mo : Int) (by omega)).mono ?_
  rintro e w1 ⟨c, T1, rfl, hC, hT, hB⟩
  have L1 := Lib.hid (Live.made b0.out hC hT hB)
  clear hC hT hB b0
  go_wp2_with fail
  clear e0 e2 e3
  go_loopw [6, 7] (fun v i W => OnceR n c mo w w1 v i W) (fun _ i _ => n - (intOf i).toNat)
  case atStart => exact ⟨0, T1, St.start mo, [], rfl, Nat.zero_le _, Nat.le_refl _, L1.out, OnceI.start mo, ⟨Own.nil _ _, fun g hg => (by cases hg), Nat.le_refl _⟩⟩
  case round =>
    obtain ⟨k, T, s, xs, rfl, hk, hxk, hL, hI, hK⟩ := hrel
    have HL := Lib.hid hL
    have HI := Lib.hid hI
    have HK := Lib.hid hK
    have hszL := L1.out.bel.size
    obtain ⟨Av, cv, rfl⟩ := hK.own.len
    obtain ⟨gr, _, hR⟩ := hK.own.row
    clear hL hI hK
    by_cases hlt : k < n
    · have e0 : decide (k < n) = true := by simpa using hlt
      obtain ⟨g, o, rfl, hg, hc1, hc2, hcell⟩ := HC.out (by omega)
      have h1 := (HL.out.bel.cell (p := ⟨g, o + k, none⟩) hg).trans (hcell k hlt)
      have hsk := HS.out k hlt
      have HCELL := Lib.hid (hcell k hlt)
      clear hcell
      unfold maxLen at hc2
      have U := refHas_any wr gr _ _ (S k) hR
      have hskl := hsk
      unfold maxLen at hskl
      by_cases hbig : (S k).size ≤ 200
      · have e1 : decide (200 < ((S k).size : Int)) = false := by simp; omega
        cases hin : inn xs (S k) with
        | true =>
          rw [hin] at U
          have U := Lib.hid U
          clear hin hR
          go_wp2_with fail
          refine U.out.mono ?_
          rintro e wr ⟨rfl, rfl⟩
          have HL2 := Lib.hid (HL.out.ca.mono (Nat.le_succ k))
          go_wp2_with fail
          go_roundw
          case rel => exact ⟨k + 1, T, s, xs, by go_num, by omega, by omega, ⟨HL2.out, HL.out.bel, HL.out.low⟩, HI.out, HK.out⟩
          case measure => simp [intOf]; omega
        | false =>
          rw [hin] at U
          have U := Lib.hid U
          have HNO := Lib.hid (inn_no.1 hin)
          obtain ⟨A2, c2, w2, hrun, hK2, hL2, hT2⟩ := HK.out.app HL.out hszL (S k) hsk (by omega)
          have RUN := Lib.hid hrun
          have K2 := Lib.hid hK2
          have L2 := Lib.hid hL2
          have h2 := (hL2.bel.cell (p := ⟨g, o + k, none⟩) hg).trans HCELL.out
          clear hin hR hrun hK2 hL2 hT2
          have R := request_ca w2 c T s k (S k) L2.out.ca hsk (by omega)
          unfold St.step at R
          rw [HI.out.hit HNO.out, HI.out.out HNO.out h1m] at R
          have HV := Lib.hid (fun hl => HI.out.vic HNO.out h1m hl)
          have HI2 := Lib.hid (HI.out.next HNO.out h1m)
          have HAG := Lib.hid (show (s.req (S k)).A.length = 0 by rw [HI2.out.A]; rfl)
          have HTG := Lib.hid (show (s.req (S k)).t = mo / 2 from HI2.out.t)
          generalize s.vic (S k) = vk at R HV
          generalize s.req (S k) = s2 at R HI2 HAG HTG
          have R := Lib.hid R
          clear HK HI HL
          go_wp2_with fail
          refine U.out.mono ?_
          rintro e wr ⟨rfl, rfl⟩
          go_wp2_with (at_builtin; refine wpList_append_run rfl _ _ _ rfl _ _ _ _ rfl rfl RUN.out ?_)
          refine R.out.mono ?_
          intro e w3 hp
          obtain ⟨rfl, T3, hL3, hW3⟩ := L2.out.op hp
          have K3 := Lib.hid (K2.out.went hW3)
          have L3 := Lib.hid hL3
          clear hp hL3 hW3 R L2 K2 U RUN h1 h2
          have L4 := Lib.hid (L3.out.below ((Below.refl w3.heap.size w3).alloc (Nat.le_refl _) (sObj false vk (decide (mo < xs.length + 1)))))
          have K4 := Lib.hid (K3.out.below ((Below.refl w3.heap.size w3).alloc (Nat.le_refl _) (sObj false vk (decide (mo < xs.length + 1)))))
          have B4 := Lib.hid (show Box (w3.alloc (sObj false vk (decide (mo < xs.length + 1)))) w3.heap.size false vk (decide (mo < xs.length + 1)) from heap_alloc_new _ _)
          clear L3 K3
          go_upto_region 17 with fail
          generalize w3.alloc (sObj false vk (decide (mo < xs.length + 1))) = w4 at L4 K4 B4 ⊢
          generalize w3.heap.size = sb at B4 ⊢
          have UA := Lib.hid (show ∀ m, Calls Try.prog 33 #[.pointer (some ⟨c, 0, none⟩)] (w4.drewN m) (fun e w' => e = .returned (.int .i64 0) ∧ w' = w4.drewN m) from fun m => by
            have := again_ca (w4.drewN m) c T3 s2 (k + 1) (L4.out.below (below_drewN w4 m)).ca
            rw [HAG.out] at this
            exact this.mono fun _ _ h => ⟨h.1, h.2.symm⟩)
          obtain ⟨u, hu⟩ : ∃ u, u = mo / 2 := ⟨_, rfl⟩
          have UT := Lib.hid (show ∀ m, Calls Try.prog 32 #[.pointer (some ⟨c, 0, none⟩)] (w4.drewN m) (fun e w' => e = .returned (.int .i64 (u : Int)) ∧ w' = w4.drewN m) from fun m => by
            have := target_ca (w4.drewN m) c T3 s2 (k + 1) (L4.out.below (below_drewN w4 m)).ca
            rw [HTG.out, ← hu] at this
            exact this.mono fun _ _ h => ⟨h.1, h.2.symm⟩)
          have e7 : (mo : Int).tdiv 2 = (u : Int) := by rw [hu, Int.tdiv_eq_ediv_of_nonneg (by omega)]; rfl
          have e8 : IntKind.i64.wrap (u : Int) = (u : Int) := IntWalk.i64_in _ (by omega)
          obtain ⟨d0, d1, d2, _, _⟩ := B4.out.cells
          obtain ⟨gr, _, hR⟩ := K4.out.own.row
          obtain ⟨l, hl⟩ : ∃ l, l = xs.length + 1 := ⟨_, rfl⟩
          have hlk : l ≤ 101 := by omega
          have HLL := Lib.hid hl
          have HLR := Lib.hid (show (xs ++ [S k]).length = l by rw [hl, List.length_append]; rfl)
          rw [← hl] at K4 HV d2 hR ⊢
          clear B4 hl hu
          by_cases ho : mo < l
          · have e5 : decide (mo < l) = true := by simpa using ho
            obtain ⟨l1, hl1⟩ : ∃ l1, l1 = l - 1 := ⟨_, rfl⟩
            obtain ⟨p, hp⟩ : ∃ p, p = l1 - mo := ⟨_, rfl⟩
            have hw1 : IntKind.i64.wrap ((l : Int) - 1) = (l1 : Int) := by rw [IntWalk.i64_in _ (by omega)]; omega
            have hw2 : IntKind.i64.wrap ((l1 : Int) - (mo : Int)) = (p : Int) := by rw [IntWalk.i64_in _ (by omega)]; omega
            obtain ⟨o2, hA2, hg2, hc3, hc4, hc5⟩ := hR.at (k := p) (by rw [HLR.out]; omega)
            have hvk := HV.out ho
            rw [← hl1, ← hp] at hvk
            rw [← hvk] at hc3
            rw [HLR.out] at hc4
            have e6 := beqS_yes (rfl : vk = vk)
            have hpl : p < l := by omega
            rw [hA2] at K4 ⊢
            rw [e5] at d2
            unfold maxLen at hc5
            clear hR hvk HV hl1 hp hA2
            go_quiet (first
              | (go_at_call 33; with_reducible exact Calls.quiet_of_same (UA.out _))
              | (go_at_call 32; with_reducible exact Calls.quiet_of_same (UT.out _)))
            go_wp2_with fail
            go_roundw
            case rel => exact ⟨k + 1, T3, s2, xs ++ [S k], by go_num, by omega, by rw [List.length_append, List.length_cons, List.length_nil]; omega, L4.out.below (below_drewN w4 _), HI2.out, by exact K4.out.below (below_drewN w4 _)⟩
            case measure => simp [intOf]; omega
          · have e5 : decide (mo < l) = false := by simpa using ho
            rw [e5] at d2
            clear hR HV
            go_quiet (first
              | (go_at_call 33; with_reducible exact Calls.quiet_of_same (UA.out _))
              | (go_at_call 32; with_reducible exact Calls.quiet_of_same (UT.out _)))
            go_wp2_with fail
            go_roundw
            case rel => exact ⟨k + 1, T3, s2, xs ++ [S k], by go_num, by omega, by rw [List.length_append, List.length_cons, List.length_nil]; omega, L4.out.below (below_drewN w4 _), HI2.out, by exact K4.out.below (below_drewN w4 _)⟩
            case measure => simp [intOf]; omega
      · have e1 : decide (200 < ((S k).size : Int)) = true := by simp; omega
        go_wp2_with fail
        go_ret
        exact ⟨rfl, HL.out.bel⟩
    · have e0 : decide (k < n) = false := by simpa using hlt
      obtain ⟨l, hl⟩ : ∃ l, l = xs.length := ⟨_, rfl⟩
      obtain ⟨p, hp⟩ : ∃ p, p = l - mo := ⟨_, rfl⟩
      have hl2 : l ≤ 101 := by omega
      have E := Lib.hid (show (s.A ++ s.N).reverse = xs.drop p by rw [HI.out.keys, ← hl, ← hp])
      rw [← hl] at HK hR ⊢
      obtain ⟨Af, f1, f2, hRF⟩ := row_from hR hl.symm (p := p) (by omega)
      have hwr : IntKind.i64.wrap ((l : Int) - (mo : Int)) = (l : Int) - (mo : Int) := IntWalk.i64_in _ (by omega)
      have hmx : max (0 : Int) ((l : Int) - (mo : Int)) = (p : Int) := by omega
      have hmx4 : (if mo < l then (l : Int) - (mo : Int) else (0 : Int)) = (p : Int) := by split <;> omega
      have e3 : decide (p ≤ l) = true := by simp; omega
      have RF := Lib.hid hRF
      have U2 := Lib.hid (fun (W : World) (h : Below wr.heap.size wr W) => keys_ca W c T s k (HL.out.ca.below h))
      clear hR hRF hl hp HK
      go_wp2_with fail
      have D0 := Lib.hid (show Below wr.heap.size wr wr.drew from ⟨rfl, rfl, rfl, Nat.le_refl _, fun _ _ => rfl⟩)
      go_region_held3 (fun _ => True) (trivial)
        (first
          | (go_at_call 27; refine (U2.out _ D0.out).mono ?_; rintro e W2 ⟨v2, rfl, hO, hB⟩; have B2 := Lib.hid (show Below wr.heap.size wr W2 from ⟨hB.os, hB.tape, hB.output, hB.size, hB.block⟩); obtain ⟨g2, _, hr2⟩ := hO.row; rw [E.out] at hr2; have U3 := Lib.hid (refSame_self W2 g2 gr _ _ _ hr2 (RF.out.below B2.out)); clear hO hB hr2 U2 RF)
          | (go_at_call 22; refine U3.out.mono ?_; rintro e W3 ⟨rfl, q3, hw3⟩; have B3 := Lib.hid (show Below w.heap.size w W3 by rw [hw3]; exact (HL.out.bel.trans (B2.out.mono HL.out.bel.size)).trans ((below_drewN _ q3).mono (Nat.le_trans HL.out.bel.size B2.out.size))); clear hw3 U3))
      all_goals
        go_wp2_with fail
        go_ret
        exact ⟨rfl, B3.out⟩

theorem walk_srlruOnce (a0 : Int) (v1 : Value) (w : World) (w0 : (Lit.int .i64 a0).wf = true) (w1 : CameS w v1) : Calls Try.prog 6 #[.int .i64 a0, v1] w (RetB true w) := by
  obtain ⟨A, n, c, rfl, hn, S, hr, hc⟩ := w1
  have hz := i64_rng w0
  by_cases hok : n ≤ 100 ∧ 1 ≤ a0 ∧ a0 ≤ 1000
  · obtain ⟨h1, h3, h4⟩ := hok
    obtain ⟨mo, rfl⟩ : ∃ m : Nat, a0 = (m : Int) := ⟨a0.toNat, by omega⟩
    exact once_main mo A n c w S (by omega) (by omega) h1 hr hc
  · have P := Lib.hid (show (decide (100 < (n : Int)) = true) ∨ (decide (100 < (n : Int)) = false ∧ decide (a0 < 1) = true) ∨ (decide (100 < (n : Int)) = false ∧ decide (a0 < 1) = false ∧ decide (1000 < a0) = true) by
      simp only [decide_eq_true_eq, decide_eq_false_iff_not]; omega)
    unfold maxLen at hn
    clear hr hc w0 hok
    rcases P.out with e0 | ⟨e0, e1⟩ | ⟨e0, e1, e2⟩
    all_goals
      go_enter Try.func6, Try.ntmps6
      go_wp2_with fail
      refine (awake_any _).mono ?_
      rintro e w0 ⟨rfl, hb0⟩
      go_wp2_with fail
      go_ret
      exact ⟨rfl, hb0⟩

namespace LSrlruOnce
set_option maxRecDepth 100000 in
theorem lifted (os : Os) (started : os.Started) (H : Type) (enc : TypeId × Value → H) :
    ReturnsInHanded {} Try.checked os 6 .any (Rows.srlruOnceSpec.pre6 enc Try.prog Try.f6 Rows.srlruOnceRow.domain false) (Rows.srlruOnceSpec.post enc Try.prog Try.f6 false true false false) := by
  refine returnsInHanded_of_change (C := Try.checked) own started (by kernel_rfl) Try.func6
    (ChangeSpec.witness6 (enc := enc) (C := Try.checked) false ⟨#[], #[.int .i64 0, .slice none 0 0], []⟩ 8 (by kernel_rfl) (by kernel_rfl) (by kernel_rfl) (by kernel_rfl)) ?_
  intro W base args ds gs before hval0 hW _ _
  have hval : ∀ (j : Nat) t v, Try.f6.params[j]? = some t → args[j]? = some v → Value.okWide Try.prog W .any base t v := hval0
  have hW' := hW
  obtain ⟨p, q, hA0, hV, rfl, hfz, hnd⟩ := hW
  have hA : DataW.TrodAll enc Try.prog W 0 (fun _ => true) true Try.f6.params.toList args.toList ds p := hA0
  rw [Try.params6] at hA hval
  obtain ⟨v0, vs0, d0, ds0, p0, q0, hargs, rfl, rfl, h0, r0⟩ := trodAll_cons hA
  obtain ⟨v1, vs1, d1, ds1, p1, q1, rfl, rfl, rfl, h1, r1⟩ := trodAll_cons r0
  obtain ⟨rfl, rfl, rfl⟩ := trodAll_nil r1
  obtain rfl : args = #[v0, v1] := by cases args; simp_all
  obtain ⟨rfl, rfl⟩ := trodVars_none hV
  obtain ⟨a0, rfl, rfl, rfl, w0⟩ := open_int Try.underlying3 (hval 0 3 v0 rfl rfl) h0
  have k1 := h1
  have lt1 : ∀ x ∈ p1, x.block < W.heap.size := by obtain ⟨m, hm⟩ := k1; exact DataW.trod_lt m _ _ _ hm
  have w1 := open_z (hval 1 47 v1 rfl rfl) h1
  clear hA0 hval0
  refine (walk_srlruOnce a0 v1 W w0 w1).mono fun e W' ⟨he, bel⟩ => ?_
  subst he
  exact ⟨_, rfl, _, _, _, [], _, [], hW', trodAll_mk1 (shut_bool Try.underlying4 _), (trodAll_cons_mk (shut_int Try.underlying3 w0) (trodAll_cons_mk (Below.trod laidOut (by kernel_rfl) (of_decide_eq_true (by kernel_rfl)) k1 bel lt1) trodAll_mk0)), rfl, bel.frame _, fun h => by cases h⟩

theorem said : Rows.SrlruOnceSaid :=
  OpenClaim.holds_of_wide 6 Try.f6 rfl rfl rfl rfl rfl rfl rfl ⟨rfl, rfl, rfl, rfl, rfl⟩ rfl rfl rfl rfl rfl (by kernel_rfl) Try.func6 (by kernel_rfl)
    (of_decide_eq_true (by kernel_rfl)) (by unfold Func.isWrapper; rw [if_neg (of_decide_eq_false (by kernel_rfl))]; exact ⟨rfl, rfl⟩)
    (fun os started H enc _ => lifted os started H enc)
#print axioms said
end LSrlruOnce
end Go.Proofs.Ytmnflcidcoejiaa
