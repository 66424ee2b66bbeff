/- 'cachewiselaw05.LruDrops' returns true for every size, every row of keys and every key, and leaves what was there as it was. No condition. -/
import Derived.Test.YthbokiebnniifaaRc
namespace Go.Proofs.Ythbokiebnniifaa
open Go.ChangeShapes Go.WideShapes Go.ChangeAt Go.RowKit
open Go.ChangeMaps (open_string shut_string)

/-- What is left to drop. -/
def DropR (Q : List ByteArray) (v : Value) (c mo b : Nat) (w0 : World) (z : Value) (W : World) : Prop := ∃ (i : Nat) (T : Nat → Prop), z = .int .i64 (i : Int) ∧ i ≤ Q.length ∧ Live w0 W c T mo (Q.drop i) b ∧ Mine W T v Q

set_option maxHeartbeats 4000000 in
set_option maxRecDepth 100000 in
theorem drops_main (z : Int) (A : Option Addr) (n cc : Nat) (key : ByteArray) (w : World) (S : Nat → ByteArray) (hz : -9223372036854775808 ≤ z ∧ z ≤ 9223372036854775807) (hn : n ≤ 200) (hkey : key.size ≤ 200) (hS : ∀ i, i < n → (S i).size ≤ maxLen)
    (hc : 0 < n → ∃ g o, A = some ⟨g, o, none⟩ ∧ g < w.heap.size ∧ n ≤ cc ∧ cc ≤ maxLen ∧ ∀ i, i < n → w.cell? ⟨g, o + i, none⟩ = some (.string (S i))) :
    Calls Try.prog 8 #[.int .i64 z, .slice A n cc, .string key] w (RetB true w) := by
  have e0 : decide (200 < (n : Int)) = false := by simp; omega
  have e1 : decide (200 < (key.size : Int)) = false := by simp; omega
  have HC := Lib.hid hc
  have HS := Lib.hid hS
  clear hc hS
  go_enter Try.func8, Try.ntmps8
  go_wp2_with fail
  refine (awake_any _).mono ?_
  rintro e w0 ⟨rfl, hb0⟩
  have b0 := Lib.hid hb0; clear hb0
  go_wp2_with fail
  refine (new_ca w0 z hz).mono ?_
  generalize z.toNat = mo
  rintro e w1 ⟨c, T1, rfl, hC, hT, hB⟩
  have L1 := Lib.hid (Live.made b0.out hC hT hB)
  clear hC hT hB b0
  go_wp2_with fail
  clear e0 e1
  go_loopw [8] (fun i W => Fill S n c mo w i W) (fun i _ => n - (intOf i).toNat)
  case atStart => exact ⟨0, T1, rfl, Nat.zero_le _, by rw [resI_zero]; exact L1.out⟩
  case round =>
    obtain ⟨k, T, rfl, hk, hL⟩ := hrel
    have HL := Lib.hid hL
    clear hL L1
    by_cases hlt : k < n
    · have e0 : decide (k < n) = true := by simpa using hlt
      obtain ⟨g, o, rfl, hg, hc1, hc2, hcell⟩ := HC.out (by omega)
      have h1 := (HL.out.bel.cell (p := ⟨g, o + k, none⟩) hg).trans (hcell k hlt)
      have hsk := HS.out k hlt
      clear hcell
      unfold maxLen at hc2
      have U := Lib.hid (request_ca wr c T mo _ k (S k) HL.out.ca hsk (by omega))
      unfold maxLen at hsk
      by_cases hbig : (S k).size ≤ 200
      · have e1 : decide (200 < ((S k).size : Int)) = false := by simp; omega
        go_wp2_with fail
        refine U.out.mono ?_
        intro e w2 hp
        obtain ⟨rfl, hF⟩ := Fill.next hlt HL.out hp
        have R := Lib.hid hF
        clear hp hF U
        unfold stepV
        go_wp2_with fail
        go_roundw
        case rel => exact R.out
        case measure => simp [intOf]; omega
      · have e1 : decide (200 < ((S k).size : Int)) = true := by simp; omega
        go_wp2_with fail
        go_ret
        exact ⟨rfl, HL.out.bel⟩
    · have e0 : decide (k < n) = false := by simpa using hlt
      obtain rfl : k = n := by omega
      have hks : key.size ≤ maxLen := by unfold maxLen; omega
      go_wp2_with fail
      refine (keys_ca wr c T mo _ k HL.out.ca).mono ?_
      rintro e w2 ⟨v, rfl, hO, hB⟩
      have L2 := Lib.hid (HL.out.below hB)
      have M2 := Lib.hid (Mine.made hO HL.out.ca)
      clear hO hB HL e0
      generalize resI S mo k = R at *
      have U1 := Lib.hid (remove_ca w2 c T mo R k key L2.out.ca hks)
      go_wp2_with fail
      refine U1.out.mono ?_
      intro e w3 hp
      obtain ⟨rfl, T3, hL3, hW3⟩ := L2.out.op hp
      have L3 := Lib.hid hL3
      have M3 := Lib.hid (M2.out.went hW3 hL3.lt)
      clear hp hL3 hW3 U1 M2
      have hRl := L2.out.ca.le
      obtain ⟨gm, hRow, hgT⟩ := M3.out
      have U2 := Lib.hid (refHas_any w3 gm _ _ key hRow)
      have U3 := Lib.hid (refRemove_any w3 gm _ _ key hRow (by omega))
      clear hRow hgT M3 L2
      go_wp2_with fail
      refine U2.out.mono ?_
      rintro e w3 ⟨rfl, rfl⟩
      go_wp2_with fail
      refine U3.out.mono ?_
      rintro e w4 ⟨v4, rfl, hO, hB⟩
      have L4 := Lib.hid (L3.out.below hB)
      have M4 := Lib.hid (Mine.made hO L3.out.ca)
      clear hO hB L3 U2 U3
      generalize rem R key = Q at *
      obtain ⟨A4, c4, rfl⟩ := M4.out.shape
      have HQ := Lib.hid L4.out.ca.nodup
      have hQl := L4.out.ca.le
      obtain ⟨q, hq⟩ : ∃ q, q = Q.length := ⟨_, rfl⟩
      have HQL := Lib.hid hq
      rw [← hq] at M4 hQl ⊢
      clear hq
      go_wp2_with fail
      go_loopw [10] (fun z W => DropR Q (.slice A4 q c4) c mo k w z W) (fun z _ => q - (intOf z).toNat)
      case atStart => exact ⟨0, T3, rfl, Nat.zero_le _, L4.out, M4.out⟩
      case round =>
        obtain ⟨i, T5, rfl, hi, hL5, hM5⟩ := hrel
        have L5 := Lib.hid hL5
        have M5 := Lib.hid hM5
        rw [← HQL.out] at hi
        clear hL5 hM5 L4 M4
        by_cases hlt2 : i < q
        · have e2 : decide (i < q) = true := by simpa using hlt2
          have hiQ : i < Q.length := by rw [← HQL.out]; exact hlt2
          have hd := drop_some hiQ
          obtain ⟨gm, hRow, hgT⟩ := M5.out
          obtain ⟨o2, rfl, hg2, hx2, hcv, hcv2⟩ := hRow.at hiQ
          rw [← HQL.out] at hcv
          have hsx := hRow.2.1 (Q.getD i ⟨#[]⟩) (by rw [List.getD_eq_getElem?_getD, List.getElem?_eq_getElem hiQ]; exact List.getElem_mem hiQ)
          have hno : inn (Q.drop (i + 1)) (Q.getD i ⟨#[]⟩) = false := by
            have h1 := HQ.out.sublist (List.drop_sublist i Q)
            rw [hd] at h1
            exact inn_no.2 (List.nodup_cons.1 h1).1
          have V1 := victim_ca wr c T5 mo _ k L5.out.ca
          have V2 := drop_ca wr c T5 mo _ k L5.out.ca
          rw [hd] at V1 V2
          simp only [List.headD_cons, List.isEmpty_cons, Bool.not_false, List.tail_cons] at V1 V2
          obtain ⟨p, hp⟩ : ∃ p, Q.length = i + 1 + p := ⟨Q.length - (i + 1), by omega⟩
          have e5 : ((p : Int) != (q : Int) - (i : Int) - 1) = false := by have := HQL.out; simp; omega
          have e6 : ((q : Int) - (i : Int) - 1 != (p : Int)) = false := by have := HQL.out; simp; omega
          have HD := Lib.hid (show (Q.drop (i + 1)).length = p by rw [List.length_drop]; omega)
          generalize Q.getD i ⟨#[]⟩ = x at *
          have V1 := Lib.hid V1
          have V2 := Lib.hid V2
          have HN := Lib.hid hno
          unfold maxLen at hcv2
          clear hd hno hp hRow
          go_wp2_with fail
          refine V1.out.mono ?_
          rintro e wr ⟨rfl, rfl⟩
          go_wp2_with fail
          refine V2.out.mono ?_
          intro e w6 hp
          obtain ⟨rfl, T6, hL6, hW6⟩ := L5.out.op hp
          have hx6 : w6.cell? ⟨gm, o2 + i, none⟩ = some (.string x) := (World.cell?_of_block (a := ⟨gm, o2 + i, none⟩) (hW6.turn.block gm hg2 hgT)).trans hx2
          have M6 := Lib.hid (M5.out.went hW6 hL6.lt)
          have V3 := has_ca w6 c T6 mo _ k x hL6.ca hsx
          rw [HN.out] at V3
          have V3 := Lib.hid V3
          have V4 := len_ca w6 c T6 mo _ k hL6.ca
          rw [HD.out] at V4
          have V4 := Lib.hid V4
          have L6 := Lib.hid hL6
          clear hp hL6 hW6 V1 V2 L5 M5 hx2 hgT
          go_wp2_with fail
          refine V3.out.mono ?_
          rintro e w6 ⟨rfl, rfl⟩
          go_wp2_with fail
          refine V4.out.mono ?_
          rintro e w6 ⟨rfl, rfl⟩
          go_wp2_with fail
          go_roundw
          case rel => exact ⟨i + 1, T6, by go_num, by rw [← HQL.out]; omega, L6.out, M6.out⟩
          case measure => simp [intOf]; omega
        · have e2 : decide (i < q) = false := by simpa using hlt2
          have V2 := drop_ca wr c T5 mo _ k L5.out.ca
          rw [List.drop_of_length_le (show Q.length ≤ i by rw [← HQL.out]; omega)] at V2
          simp only [List.headD_nil, List.isEmpty_nil, Bool.not_true, List.tail_nil] at V2
          have V2 := Lib.hid V2
          go_wp2_with fail
          refine V2.out.mono ?_
          intro e w6 hp
          obtain ⟨rfl, T6, hL6, hW6⟩ := L5.out.op hp
          have B := Lib.hid hL6.bel
          clear hp hL6 hW6 V2 L5 M5
          go_wp2_with fail
          go_ret
          exact ⟨rfl, B.out⟩

theorem walk_lruDrops (a0 : Int) (v1 : Value) (a2 : ByteArray) (w : World) (w0 : (Lit.int .i64 a0).wf = true) (w1 : CameS w v1) (w2 : a2.size ≤ maxLen) : Calls Try.prog 8 #[.int .i64 a0, v1, .string a2] w (RetB true w) := by
  obtain ⟨A, n, c, rfl, hn, S, hr, hc⟩ := w1
  have hz := i64_rng w0
  by_cases hbig : n ≤ 200
  · by_cases hlong : a2.size ≤ 200
    · exact drops_main a0 A n c a2 w S hz hbig hlong hr hc
    · have e0 : decide (200 < (n : Int)) = false := by simp; omega
      have e1 : decide (200 < (a2.size : Int)) = true := by simp; omega
      unfold maxLen at hn w2
      clear hr hc w0
      go_enter Try.func8, Try.ntmps8
      go_wp2_with fail
      refine (awake_any _).mono ?_
      rintro e w0 ⟨rfl, hb0⟩
      go_wp2_with fail
      go_ret
      exact ⟨rfl, hb0⟩
  · have e0 : decide (200 < (n : Int)) = true := by simp; omega
    unfold maxLen at hn
    clear hr hc w0
    go_enter Try.func8, Try.ntmps8
    go_wp2_with fail
    refine (awake_any _).mono ?_
    rintro e w0 ⟨rfl, hb0⟩
    go_wp2_with fail
    go_ret
    exact ⟨rfl, hb0⟩

namespace LLruDrops
set_option maxRecDepth 100000 in
theorem lifted (os : Os) (started : os.Started) (H : Type) (enc : TypeId × Value → H) :
    ReturnsInHanded {} Try.checked os 8 .any (Rows.lruDropsSpec.pre6 enc Try.prog Try.f8 Rows.lruDropsRow.domain false) (Rows.lruDropsSpec.post enc Try.prog Try.f8 false true false false) := by
  refine returnsInHanded_of_change (C := Try.checked) own started (by kernel_rfl) Try.func8
    (ChangeSpec.witness6 (enc := enc) (C := Try.checked) false ⟨#[], #[.int .i64 0, .slice none 0 0, .string ByteArray.empty], []⟩ 8 (by kernel_rfl) (by kernel_rfl) (by kernel_rfl) (by kernel_rfl)) ?_
  intro W base args ds gs before hval0 hW _ _
  have hval : ∀ (j : Nat) t v, Try.f8.params[j]? = some t → args[j]? = some v → Value.okWide Try.prog W .any base t v := hval0
  have hW' := hW
  obtain ⟨p, q, hA0, hV, rfl, hfz, hnd⟩ := hW
  have hA : DataW.TrodAll enc Try.prog W 0 (fun _ => true) true Try.f8.params.toList args.toList ds p := hA0
  rw [Try.params8] at hA hval
  obtain ⟨v0, vs0, d0, ds0, p0, q0, hargs, rfl, rfl, h0, r0⟩ := trodAll_cons hA
  obtain ⟨v1, vs1, d1, ds1, p1, q1, rfl, rfl, rfl, h1, r1⟩ := trodAll_cons r0
  obtain ⟨v2, vs2, d2, ds2, p2, q2, rfl, rfl, rfl, h2, r2⟩ := trodAll_cons r1
  obtain ⟨rfl, rfl, rfl⟩ := trodAll_nil r2
  obtain rfl : args = #[v0, v1, v2] := by cases args; simp_all
  obtain ⟨rfl, rfl⟩ := trodVars_none hV
  obtain ⟨a0, rfl, rfl, rfl, w0⟩ := open_int Try.underlying3 (hval 0 3 v0 rfl rfl) h0
  have k1 := h1
  have lt1 : ∀ x ∈ p1, x.block < W.heap.size := by obtain ⟨m, hm⟩ := k1; exact DataW.trod_lt m _ _ _ hm
  have w1 := open_z (hval 1 27 v1 rfl rfl) h1
  obtain ⟨a2, rfl, rfl, rfl, w2⟩ := open_string Try.underlying9 (hval 2 9 v2 rfl rfl) h2
  clear hA0 hval0
  refine (walk_lruDrops a0 v1 a2 W w0 w1 w2).mono fun e W' ⟨he, bel⟩ => ?_
  subst he
  exact ⟨_, rfl, _, _, _, [], _, [], hW', trodAll_mk1 (shut_bool Try.underlying4 _), (trodAll_cons_mk (shut_int Try.underlying3 w0) (trodAll_cons_mk (Below.trod laidOut (by kernel_rfl) (of_decide_eq_true (by kernel_rfl)) k1 bel lt1) (trodAll_cons_mk (shut_string Try.underlying9 w2) trodAll_mk0))), rfl, bel.frame _, fun h => by cases h⟩

theorem said : Rows.LruDropsSaid :=
  OpenClaim.holds_of_wide 8 Try.f8 rfl rfl rfl rfl rfl rfl rfl ⟨rfl, rfl, rfl, rfl, rfl⟩ rfl rfl rfl rfl rfl (by kernel_rfl) Try.func8 (by kernel_rfl)
    (of_decide_eq_true (by kernel_rfl)) (by unfold Func.isWrapper; rw [if_neg (of_decide_eq_false (by kernel_rfl))]; exact ⟨rfl, rfl⟩)
    (fun os started H enc _ => lifted os started H enc)
#print axioms said
end LLruDrops
end Go.Proofs.Ythbokiebnniifaa
