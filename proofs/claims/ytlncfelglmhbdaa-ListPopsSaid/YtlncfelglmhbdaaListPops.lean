/- 'cachewiselaw03.ListPops' returns true for every row of calls, and leaves what was there as it was. No condition. -/
import Derived.Test.YtlncfelglmhbdaaPlain3
namespace Go.Proofs.Ytlncfelglmhbdaa
open Go.ChangeShapes Go.WideShapes Go.ChangeAt Go.RowKit

/-- What is left to pop. -/
def PopB (xs : List ByteArray) (v : Value) (l M : Nat) (w0 : World) (z : Value) (W : World) : Prop := ∃ (k P : Nat) (t : Int), z = .int .i64 t ∧ t = (k : Int) - 1 ∧ k ≤ xs.length ∧ Lst W l M P (xs.take k) xs.length ∧ Kept w0 W l M P ∧ Mine W l M P v xs

theorem pop_facts {xs : List ByteArray} (h : xs.Nodup) {j : Nat} (hj : j < xs.length) : lastKey (xs.take (j + 1)) = xs.getD j ⟨#[]⟩ ∧ anyKey (xs.take (j + 1)) = true ∧ (xs.take (j + 1)).dropLast = xs.take j ∧ inn (xs.take j) (xs.getD j ⟨#[]⟩) = false := by
  have e := take_snoc xs j ⟨#[]⟩ hj
  rw [e]
  refine ⟨by simp [lastKey], by simp [anyKey], by simp, ?_⟩
  have h2 : (xs.take (j + 1)).Nodup := h.sublist (List.take_sublist _ _)
  rw [e] at h2
  have h3 := List.nodup_append.1 h2
  exact inn_no.2 fun hx => h3.2.2 _ hx _ (by simp) rfl

set_option maxHeartbeats 4000000 in
set_option maxRecDepth 100000 in
theorem pops_main (A : Option Addr) (n c : Nat) (w : World) (K : Nat → Int) (S : Nat → ByteArray) (hn : n ≤ 200) (hS : ∀ i, i < n → (S i).size ≤ maxLen)
    (hc : 0 < n → ∃ g o, A = some ⟨g, o, none⟩ ∧ g < w.heap.size ∧ n ≤ c ∧ c ≤ maxLen ∧ ∀ i, i < n → w.cell? ⟨g, o + i * 2, none⟩ = some (.int .i64 (K i)) ∧ w.cell? ⟨g, o + i * 2 + 1, none⟩ = some (.string (S i))) :
    Calls Try.prog 6 #[.slice A n c] w (RetB true w) := by
  have e0 : decide (200 < (n : Int)) = false := by simp; omega
  have HC := Lib.hid hc
  have HS := Lib.hid hS
  clear hc hS
  go_enter Try.func6, Try.ntmps6
  go_wp2_with fail
  refine (awake_any _).mono ?_
  rintro e w0 ⟨rfl, hb0⟩
  have b0 := Lib.hid hb0; clear hb0
  go_wp2_with fail
  refine (new_any w0).mono ?_
  rintro e w1 ⟨l, M, P, rfl, hl, hM, hP, hL, hB⟩
  have hs0 := b0.out.size
  have K1 := Lib.hid (show Kept w w1 l M P from ⟨b0.out.trans (hB.mono hs0), by omega, by omega, by omega⟩)
  have L1 := Lib.hid hL
  clear hl hM hP hL hB hs0
  go_wp2_with fail
  clear e0
  go_loopw [4] (fun i W => Fill n l M w i W) (fun i _ => n - (intOf i).toNat)
  case atStart => exact ⟨0, P, [], rfl, Nat.zero_le _, Nat.le_refl _, L1.out, K1.out⟩
  case round =>
    obtain ⟨k, P, xs, rfl, hk, hxl, hL, hK⟩ := hrel
    have HL := Lib.hid hL
    have HK := Lib.hid hK
    clear hL hK L1 K1
    by_cases hlt : k < n
    · have e0 : decide (k < n) = true := by simpa using hlt
      obtain ⟨g, o, rfl, hg, hc1, hc2, hcell⟩ := HC.out (by omega)
      have hc3 := hcell k hlt
      have h1 := (HK.out.bel.cell (p := ⟨g, o + k * 2, none⟩) hg).trans hc3.1
      have h2 := (HK.out.bel.cell (p := ⟨g, o + k * 2 + 1, none⟩) hg).trans hc3.2
      have hsk := HS.out k hlt
      clear hcell hc3
      unfold maxLen at hc2
      by_cases hki : K k = 1
      · rw [hki] at h1
        clear hki
        go_wp2_with fail
        refine (back_any wr l M P xs _ (S k) HL.out hsk (by omega)).mono ?_
        intro e w2 hp
        obtain rfl := hp.val
        have R := Lib.hid (Fill.back hlt hxl HL.out HK.out hp)
        clear hp
        go_wp2_with fail
        go_roundw
        case rel => exact R.out
        case measure => simp [intOf]; omega
      · have e1 : (K k == 1) = false := by simpa using hki
        clear hki
        go_wp2_with fail
        refine (front_any wr l M P xs _ (S k) HL.out hsk (by omega)).mono ?_
        intro e w2 hp
        obtain rfl := hp.val
        have R := Lib.hid (Fill.front hlt hxl HL.out HK.out hp)
        clear hp
        go_wp2_with fail
        go_roundw
        case rel => exact R.out
        case measure => simp [intOf]; omega
    · have e0 : decide (k < n) = false := by simpa using hlt
      go_wp2_with fail
      refine (keys_any wr l M P xs _ HL.out).mono ?_
      rintro e w2 ⟨v, rfl, hO, hB⟩
      have MI := Lib.hid (hO.mine HL.out)
      have L2 := Lib.hid (HL.out.below hB)
      have K2 := Lib.hid (HK.out.new hB)
      obtain ⟨Av, cv, rfl⟩ := hO.len
      clear hO hB HL HK
      go_wp2_with fail
      refine (places_any w2 l M P xs _ L2.out).mono ?_
      rintro e w2 ⟨rfl, rfl⟩
      have ND := Lib.hid L2.out.nodup
      go_wp2_with fail
      go_loopw [7] (fun z W => PopB xs (.slice Av xs.length cv) l M w z W) (fun z _ => (intOf z + 1).toNat)
      case atStart => exact ⟨xs.length, P, _, rfl, rfl, Nat.le_refl _, by rw [List.take_length]; exact L2.out, K2.out, MI.out⟩
      case round =>
        obtain ⟨k2, P, t, rfl, ht, hk2, hL, hK, hMi⟩ := hrel
        have HL := Lib.hid hL
        have HK := Lib.hid hK
        have HM := Lib.hid hMi
        clear hL hK hMi L2 K2 MI
        cases k2 with
        | zero =>
          have ht0 : t < 0 := by omega
          have e2 : decide (0 ≤ t) = false := by simpa using ht0
          clear ht
          have U := Lib.hid (show Calls Try.prog 17 #[.pointer (some ⟨l, 0, none⟩)] wr (OpPost (.tuple #[.string ⟨#[]⟩, .bool false]) wr l M P [] xs.length) from pop_any wr l M P _ _ HL.out)
          go_wp2_with fail
          refine U.out.mono ?_
          rintro e w3 ⟨P3, rfl, hP, hL, hT⟩
          have L3 := Lib.hid hL
          have K3 := Lib.hid (HK.out.next hP hT)
          have U2 := Lib.hid (show Calls Try.prog 22 #[.pointer (some ⟨l, 0, none⟩)] w3 (KeyPost ⟨#[]⟩ false w3) from first_any w3 l M P3 _ _ hL)
          clear hP hL hT U HK HL HM
          go_wp2_with fail
          refine U2.out.mono ?_
          rintro e w3 ⟨rfl, rfl⟩
          go_wp2_with fail
          refine (places_any w3 l M P3 _ _ L3.out).mono ?_
          rintro e w3 ⟨rfl, rfl⟩
          go_wp2_with fail
          go_ret
          exact ⟨rfl, K3.out.bel⟩
        | succ j =>
          have htj : t = (j : Int) := by omega
          clear ht
          subst htj
          have hj : j < xs.length := hk2
          obtain ⟨p1, p2, p3, p4⟩ := pop_facts ND.out hj
          obtain ⟨g2, hRow, hgl, hgM, hgP⟩ := HM.out
          obtain ⟨o2, rfl, hg2, hx2, hcv, hcv2⟩ := hRow.at hj
          have hsx := hRow.2.1 (xs.getD j ⟨#[]⟩) (by rw [List.getD_eq_getElem?_getD, List.getElem?_eq_getElem hj]; exact List.getElem_mem hj)
          have hxl2 : xs.length ≤ 999 := HL.out.le.2
          have U1 := last_any wr l M P _ _ HL.out
          rw [p1, p2] at U1
          have U2 := pop_any wr l M P _ _ HL.out
          rw [p1, p2, p3] at U2
          have hxw := hRow
          generalize xs.getD j ⟨#[]⟩ = x at hx2 hsx U1 U2 p4
          have U1 := Lib.hid U1
          have U2 := Lib.hid U2
          have P4 := Lib.hid p4
          unfold maxLen at hcv2
          clear p1 p2 p3 p4 hRow hxw
          go_wp2_with fail
          refine U1.out.mono ?_
          rintro e wr ⟨rfl, rfl⟩
          go_wp2_with fail
          refine U2.out.mono ?_
          rintro e w3 ⟨P3, rfl, hP, hL, hT⟩
          have L3 := Lib.hid hL
          have K3 := Lib.hid (HK.out.next hP hT)
          have M3 := Lib.hid (HM.out.next hP hT)
          have hx3 : w3.cell? ⟨g2, o2 + j, none⟩ = some (.string x) := (World.cell?_of_block (a := ⟨g2, o2 + j, none⟩) (hT.block g2 hg2 hgl hgM hgP)).trans hx2
          clear hP hL hT U1 U2 HL HK HM hx2 hgl hgM hgP
          have U3 := has_any w3 l M P3 _ _ x L3.out hsx
          rw [P4.out] at U3
          have U3 := Lib.hid U3
          have hlj : (xs.take j).length = j := by rw [List.length_take]; omega
          have U4 := len_any w3 l M P3 _ _ L3.out
          rw [hlj] at U4
          have U4 := Lib.hid U4
          clear hlj
          go_wp2_with fail
          refine U3.out.mono ?_
          rintro e w3 ⟨rfl, rfl⟩
          go_wp2_with fail
          refine U4.out.mono ?_
          rintro e w3 ⟨rfl, rfl⟩
          go_wp2_with fail
          go_roundw
          case rel => exact ⟨j, P3, _, rfl, rfl, by omega, L3.out, K3.out, M3.out⟩
          case measure => simp [intOf]

theorem walk_listPops (v0 : Value) (w : World) (w0 : CameA w v0) : Calls Try.prog 6 #[v0] w (RetB true w) := by
  obtain ⟨A, n, c, rfl, hn, K, S, hr, hc⟩ := w0
  by_cases hbig : n ≤ 200
  · exact pops_main A n c w K S hbig (fun i hi => (hr i hi).2) hc
  · have e0 : decide (200 < (n : Int)) = true := by simp; omega
    unfold maxLen at hn
    clear hr hc
    go_enter Try.func6, Try.ntmps6
    go_wp2_with fail
    refine (awake_any _).mono ?_
    rintro e w0 ⟨rfl, hb0⟩
    go_wp2_with fail
    go_ret
    exact ⟨rfl, hb0⟩

namespace LListPops
set_option maxRecDepth 100000 in
theorem lifted (os : Os) (started : os.Started) (H : Type) (enc : TypeId × Value → H) :
    ReturnsInHanded {} Try.checked os 6 .any (Rows.listPopsSpec.pre6 enc Try.prog Try.f6 Rows.listPopsRow.domain false) (Rows.listPopsSpec.post enc Try.prog Try.f6 false true false false) := by
  refine returnsInHanded_of_change (C := Try.checked) own started (by kernel_rfl) Try.func6
    (ChangeSpec.witness6 (enc := enc) (C := Try.checked) false ⟨#[], #[.slice none 0 0], []⟩ 8 (by kernel_rfl) (by kernel_rfl) (by kernel_rfl) (by kernel_rfl)) ?_
  intro W base args ds gs before hval0 hW _ _
  have hval : ∀ (j : Nat) t v, Try.f6.params[j]? = some t → args[j]? = some v → Value.okWide Try.prog W .any base t v := hval0
  have hW' := hW
  obtain ⟨p, q, hA0, hV, rfl, hfz, hnd⟩ := hW
  have hA : DataW.TrodAll enc Try.prog W 0 (fun _ => true) true Try.f6.params.toList args.toList ds p := hA0
  rw [Try.params6] at hA hval
  obtain ⟨v0, vs0, d0, ds0, p0, q0, hargs, rfl, rfl, h0, r0⟩ := trodAll_cons hA
  obtain ⟨rfl, rfl, rfl⟩ := trodAll_nil r0
  obtain rfl : args = #[v0] := by cases args; simp_all
  obtain ⟨rfl, rfl⟩ := trodVars_none hV
  have k0 := h0
  have lt0 : ∀ x ∈ p0, x.block < W.heap.size := by obtain ⟨m, hm⟩ := k0; exact DataW.trod_lt m _ _ _ hm
  have w0 := open_a (hval 0 22 v0 rfl rfl) h0
  clear hA0 hval0
  refine (walk_listPops v0 W w0).mono fun e W' ⟨he, bel⟩ => ?_
  subst he
  exact ⟨_, rfl, _, _, _, [], _, [], hW', trodAll_mk1 (shut_bool Try.underlying4 _), (trodAll_cons_mk (Below.trod laidOut (by kernel_rfl) (of_decide_eq_true (by kernel_rfl)) k0 bel lt0) trodAll_mk0), rfl, bel.frame _, fun h => by cases h⟩

theorem said : Rows.ListPopsSaid :=
  OpenClaim.holds_of_wide 6 Try.f6 rfl rfl rfl rfl rfl rfl rfl ⟨rfl, rfl, rfl, rfl, rfl⟩ rfl rfl rfl rfl rfl (by kernel_rfl) Try.func6 (by kernel_rfl)
    (of_decide_eq_true (by kernel_rfl)) (by unfold Func.isWrapper; rw [if_neg (of_decide_eq_false (by kernel_rfl))]; exact ⟨rfl, rfl⟩)
    (fun os started H enc _ => lifted os started H enc)
#print axioms said
end LListPops
end Go.Proofs.Ytlncfelglmhbdaa
