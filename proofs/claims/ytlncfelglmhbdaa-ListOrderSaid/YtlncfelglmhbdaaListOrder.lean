/- 'cachewiselaw03.ListOrder' returns true for every row of calls and every key, and leaves what was there as it was. No condition. -/
import Derived.Test.YtlncfelglmhbdaaPlain3
namespace Go.Proofs.Ytlncfelglmhbdaa
open Go.ChangeShapes Go.WideShapes Go.ChangeAt Go.RowKit
open Go.ChangeMaps (open_string shut_string)

theorem fresh_at {xs : List ByteArray} (h : xs.Nodup) {j : Nat} (hj : j < xs.length) : inn (xs.take j) (xs.getD j ⟨#[]⟩) = false ∧ add (xs.take j) (xs.getD j ⟨#[]⟩) = xs.take (j + 1) := by
  have e := take_snoc xs j ⟨#[]⟩ hj
  have h2 : (xs.take (j + 1)).Nodup := h.sublist (List.take_sublist _ _)
  rw [e] at h2
  have h3 := List.nodup_append.1 h2
  have h4 : inn (xs.take j) (xs.getD j ⟨#[]⟩) = false := inn_no.2 fun hx => h3.2.2 _ hx _ (by simp) rfl
  refine ⟨h4, ?_⟩
  rw [e, add, if_neg (by rw [h4]; simp)]

/-- The set of what was seen so far. -/
def OrB (ys : List ByteArray) (w8 : World) (i : Value) (W : World) : Prop := ∃ k : Nat, i = .int .i64 (k : Int) ∧ k ≤ ys.length ∧ Seen W w8.heap.size (ys.take k) ∧ Below w8.heap.size w8 W

/-- What is left of a row behind its first key. -/
theorem Row.tail {w : World} {g o c n : Nat} {x : ByteArray} {xs : List ByteArray} (h : Row w g (.slice (some ⟨g, o, none⟩) n c) (x :: xs)) : Row w g (.slice (some (if c = 1 then ⟨g, o, none⟩ else ⟨g, o + 1, none⟩)) xs.length (c - 1)) xs := by
  refine ⟨by have := h.1; rw [List.length_cons] at this; omega, fun y hy => h.2.1 y (List.mem_cons_of_mem _ hy), ?_⟩
  rcases h.2.2 with ⟨h1, _⟩ | ⟨o', c', e, h1, h2, h3, h4⟩
  · cases h1
  · injection e with e1 e2 e3
    obtain rfl : o = o' := by simpa using e1
    subst e3
    rw [List.length_cons] at h2
    by_cases hc : c = 1
    · have h0 : xs.length = 0 := by omega
      exact Or.inl ⟨List.eq_nil_of_length_eq_zero h0, _, _, by rw [h0]⟩
    · rw [if_neg hc]
      refine Or.inr ⟨o + 1, c - 1, rfl, h1, by omega, by omega, fun j hj => ?_⟩
      rw [Nat.add_assoc, Nat.add_comm 1 j, h4 (j + 1) (by rw [List.length_cons]; omega)]
      rfl

/-- All that the law has made ahead of its answer. -/
structure OrE (key : ByteArray) (ws : List ByteArray) (l M : Nat) (w0 W : World) (P m ga gb gw : Nat) (va vb vw : Value) : Prop where
  lst : Lst W l M P ws m
  kept : Kept w0 W l M P
  a : Row W ga va (key :: ws)
  b : Row W gb vb (ws ++ [key])
  c : Row W gw vw ws
theorem OrE.below {key : ByteArray} {ws : List ByteArray} {l M : Nat} {w0 W w2 : World} {P m ga gb gw : Nat} {va vb vw : Value} (h : OrE key ws l M w0 W P m ga gb gw va vb vw) (hb : Below W.heap.size W w2) : OrE key ws l M w0 w2 P m ga gb gw va vb vw :=
  ⟨h.lst.below hb, h.kept.new hb, h.a.below hb, h.b.below hb, h.c.below hb⟩

set_option maxHeartbeats 4000000 in
set_option maxRecDepth 100000 in
theorem order_main (A : Option Addr) (n c : Nat) (w : World) (K : Nat → Int) (S : Nat → ByteArray) (key : ByteArray) (hn : n ≤ 300) (hkey : key.size ≤ 1000) (hS : ∀ i, i < n → (S i).size ≤ maxLen)
    (hc : 0 < n → ∃ g o, A = some ⟨g, o, none⟩ ∧ g < w.heap.size ∧ n ≤ c ∧ c ≤ maxLen ∧ ∀ i, i < n → w.cell? ⟨g, o + i * 2, none⟩ = some (.int .i64 (K i)) ∧ w.cell? ⟨g, o + i * 2 + 1, none⟩ = some (.string (S i))) :
    Calls Try.prog 4 #[.slice A n c, .string key] w (RetB true w) := by
  have e0 : decide (300 < (n : Int)) = false := by simp; omega
  have e1 : decide (1000 < (key.size : Int)) = false := by simp; omega
  have hks : key.size ≤ maxLen := by unfold maxLen; omega
  have HC := Lib.hid hc
  have HS := Lib.hid hS
  clear hc hS
  go_enter Try.func4, Try.ntmps4
  go_wp2_with fail
  refine (awake_any _).mono ?_
  rintro e w0 ⟨rfl, hb0⟩
  have b0 := Lib.hid hb0; clear hb0
  go_wp2_with fail
  refine (new_any w0).mono ?_
  rintro e w1 ⟨l, M, P, rfl, hl, hM, hP, hL, hB⟩
  have hs0 := b0.out.size
  have K1 := Lib.hid (show Kept w w1 l M P from ⟨b0.out.trans (hB.mono hs0), by omega, by omega, by omega⟩)
  have L1 := Lib.hid hL
  clear hl hM hP hL hB hs0
  go_wp2_with fail
  clear e0 e1
  go_loopw [6] (fun i W => Fill n l M w i W) (fun i _ => n - (intOf i).toNat)
  case atStart => exact ⟨0, P, [], rfl, Nat.zero_le _, Nat.le_refl _, L1.out, K1.out⟩
  case round =>
    obtain ⟨k, P, xs, rfl, hk, hxl, hL, hK⟩ := hrel
    have HL := Lib.hid hL
    have HK := Lib.hid hK
    clear hL hK L1 K1
    by_cases hlt : k < n
    · have e0 : decide (k < n) = true := by simpa using hlt
      obtain ⟨g, o, rfl, hg, hc1, hc2, hcell⟩ := HC.out (by omega)
      have hc3 := hcell k hlt
      have h1 := (HK.out.bel.cell (p := ⟨g, o + k * 2, none⟩) hg).trans hc3.1
      have h2 := (HK.out.bel.cell (p := ⟨g, o + k * 2 + 1, none⟩) hg).trans hc3.2
      have hsk := HS.out k hlt
      clear hcell hc3
      unfold maxLen at hc2
      generalize K k = z at h1
      cases hz : (z.tmod 2 == 0) with
      | true =>
        go_wp2_with fail
        refine (front_any wr l M P xs _ (S k) HL.out hsk (by omega)).mono ?_
        intro e w2 hp
        obtain rfl := hp.val
        have R := Lib.hid (Fill.front hlt hxl HL.out HK.out hp)
        clear hp
        go_wp2_with fail
        go_roundw
        case rel => exact R.out
        case measure => simp [intOf]; omega
      | false =>
        go_wp2_with fail
        refine (back_any wr l M P xs _ (S k) HL.out hsk (by omega)).mono ?_
        intro e w2 hp
        obtain rfl := hp.val
        have R := Lib.hid (Fill.back hlt hxl HL.out HK.out hp)
        clear hp
        go_wp2_with fail
        go_roundw
        case rel => exact R.out
        case measure => simp [intOf]; omega
    · have e0 : decide (k < n) = false := by simpa using hlt
      go_wp2_with fail
      clear e0
      refine (keys_any wr l M P xs _ HL.out).mono ?_
      rintro e w2 ⟨v2, rfl, hO, hB⟩
      have L2 := Lib.hid (HL.out.below hB)
      have K2 := Lib.hid (HK.out.new hB)
      have O2 := Lib.hid hO
      clear hO hB HL HK
      go_wp2_with fail
      obtain ⟨g2, _, hR2⟩ := O2.out.row
      refine (refRemove_any w2 g2 v2 xs key hR2 (by omega)).mono ?_
      rintro e w3 ⟨vw, rfl, hO, hB⟩
      have L3 := Lib.hid (L2.out.below hB)
      have K3 := Lib.hid (K2.out.new hB)
      have M3 := Lib.hid (hO.mine L2.out)
      obtain ⟨Aw, cw, rfl⟩ := hO.len
      clear hO hB hR2 O2 L2 K2
      go_wp2_with fail
      refine (front_any w3 l M P xs _ key L3.out hks (by omega)).mono ?_
      rintro e w4 ⟨P4, rfl, hP, hL, hT⟩
      have M4 := Lib.hid (M3.out.next hP hT)
      have K4 := Lib.hid (K3.out.next hP hT)
      have L4 := Lib.hid hL
      have hrl := rem_le xs key
      have hrf := Lib.hid (rem_front xs key)
      have hm4 : max xs.length ((rem xs key).length + 1) ≤ 400 := by omega
      generalize max xs.length ((rem xs key).length + 1) = m4 at L4 hm4
      clear hP hL hT M3 K3 L3
      generalize rem xs key = ws at L4 M4 hrl hrf ⊢
      go_wp2_with fail
      refine (keys_any w4 l M P4 _ m4 L4.out).mono ?_
      rintro e w5 ⟨va, rfl, hO, hB⟩
      have M5 := Lib.hid (M4.out.below hB)
      have K5 := Lib.hid (K4.out.new hB)
      have L5 := Lib.hid (L4.out.below hB)
      have A5 := Lib.hid (hO.mine L4.out)
      obtain ⟨Aa, ca, rfl⟩ := hO.len
      clear hO hB L4 M4 K4
      rw [List.length_cons] at A5 ⊢
      go_wp2_with fail
      have UB := back_any w5 l M P4 _ m4 key L5.out hks (by omega)
      rw [hrf.out] at UB
      refine UB.mono ?_
      clear UB
      rintro e w6 ⟨P6, rfl, hP, hL, hT⟩
      have M6 := Lib.hid (M5.out.next hP hT)
      have A6 := Lib.hid (A5.out.next hP hT)
      have K6 := Lib.hid (K5.out.next hP hT)
      have L6 := Lib.hid hL
      have hm6 : max m4 (ws.length + 1) ≤ 400 := by omega
      generalize max m4 (ws.length + 1) = m6 at L6 hm6
      clear hP hL hT M5 A5 K5 L5
      go_wp2_with fail
      refine (keys_any w6 l M P6 _ m6 L6.out).mono ?_
      rintro e w7 ⟨vb, rfl, hO, hB⟩
      have M7 := Lib.hid (M6.out.below hB)
      have A7 := Lib.hid (A6.out.below hB)
      have K7 := Lib.hid (K6.out.new hB)
      have L7 := Lib.hid (L6.out.below hB)
      have B7 := Lib.hid (hO.mine L6.out)
      obtain ⟨Ab, cb, rfl⟩ := hO.len
      have ND := Lib.hid L6.out.nodup
      have hlb : (ws ++ [key]).length = ws.length + 1 := by simp
      have hrb : rem (ws ++ [key]) key = ws := by rw [rem_snoc, if_pos rfl]; have := hrf.out; rw [rem_none (by intro hh; have h9 := (List.nodup_append.1 ND.out).2.2 key hh key (by simp); exact h9 rfl)]
      have HRB := Lib.hid hrb
      clear hrb
      rw [hlb] at B7 ⊢
      have HLB := Lib.hid hlb
      clear hO hB L6 M6 A6 K6 hrf hlb
      go_wp2_with fail
      have UR := remove_any w7 l M P6 _ m6 key L7.out hks
      rw [HRB.out] at UR
      refine UR.mono ?_
      clear UR
      rintro e w8 ⟨P8, rfl, hP, hL, hT⟩
      have M8 := M7.out.next hP hT
      have A8 := A7.out.next hP hT
      have B8 := B7.out.next hP hT
      obtain ⟨gw, hgw, _⟩ := M8
      obtain ⟨ga, hga, _⟩ := A8
      obtain ⟨gb, hgb, _⟩ := B8
      have E8 := Lib.hid (show OrE key ws l M w w8 P8 m6 ga gb gw _ _ _ from ⟨hL, K7.out.next hP hT, hga, hgb, hgw⟩)
      clear hP hL hT M7 A7 B7 K7 L7 hgw hga hgb
      have hmm := @run_makeMap Try.prog
      go_wp2_with fail
      clear hmm
      have S8 := Lib.hid (Seen.made w8)
      have B8 := Lib.hid ((Below.refl w8.heap.size w8).alloc (Nat.le_refl _) (.map #[] 0))
      go_loopw [11] (fun i W => OrB (ws ++ [key]) w8 i W) (fun i _ => ws.length + 1 - (intOf i).toNat)
      case atStart => exact ⟨0, rfl, Nat.zero_le _, S8.out, B8.out⟩
      case round =>
        obtain ⟨j, rfl, hj, hSe, hBe⟩ := hrel
        rw [HLB.out] at hj
        have SE := Lib.hid hSe
        have BE := Lib.hid hBe
        clear hSe hBe S8 B8
        have EW := Lib.hid (E8.out.below BE.out)
        by_cases hjl : j < ws.length + 1
        · have e0 : decide (j < ws.length + 1) = true := by simpa using hjl
          have e0' : decide ((j : Int) < (ws.length : Int) + 1) = true := by simp; omega
          have hjl' : j < (ws ++ [key]).length := by rw [HLB.out]; exact hjl
          obtain ⟨ob, rfl, hgb, hxb, hcb, hcb2⟩ := EW.out.b.at hjl'
          rw [HLB.out] at hcb
          obtain ⟨f1, f2⟩ := fresh_at ND.out hjl'
          have hsx := EW.out.b.2.1 ((ws ++ [key]).getD j ⟨#[]⟩) (by rw [List.getD_eq_getElem?_getD, List.getElem?_eq_getElem hjl']; exact List.getElem_mem hjl')
          have hlk := SE.out.look hsx
          rw [f1] at hlk
          obtain ⟨w9, hst, hS9, hg9⟩ := SE.out.store hsx (by rw [List.length_take]; omega)
          rw [f2] at hS9
          have R := Lib.hid (show OrB (ws ++ [key]) w8 (.int .i64 ((j + 1 : Nat) : Int)) w9 from ⟨j + 1, rfl, hjl', hS9, BE.out.grown hg9 BE.out.size (fun k hk => by cases hk; exact Nat.le_refl _)⟩)
          generalize (ws ++ [key]).getD j ⟨#[]⟩ = x at hxb hsx hlk hst
          unfold maxLen at hcb2
          clear f1 f2 hS9 hg9 hjl'
          go_wp2_with fail
          go_roundw
          case rel => exact R.out
          case measure => simp [intOf]; omega
        · have e0 : decide (j < ws.length + 1) = false := by simpa using hjl
          have e0' : decide ((j : Int) < (ws.length : Int) + 1) = false := by simp; omega
          clear SE BE
          obtain ⟨oa, rfl, hga, hxa, hca, hca2⟩ := EW.out.a.at (k := 0) (by simp)
          obtain ⟨ob, rfl, hgb, hxb, hcb, hcb2⟩ := EW.out.b.at (k := ws.length) (by simp)
          rw [show (key :: ws).getD 0 ⟨#[]⟩ = key from rfl, Nat.add_zero] at hxa
          rw [show (ws ++ [key]).getD ws.length ⟨#[]⟩ = key by simp] at hxb
          rw [List.length_cons] at hca
          rw [HLB.out] at hcb
          have hwl : ws.length ≤ 300 := by omega
          have RA := Lib.hid EW.out.a.tail
          have RB := Lib.hid (show Row wr gb (.slice (some ⟨gb, ob, none⟩) ws.length cb) ws from by
            have h1 := EW.out.b
            rw [← HLB.out] at h1
            have h2 := h1.cut (n := ws.length) (by rw [HLB.out]; omega)
            rw [List.take_append_of_le_length (Nat.le_refl _), List.take_length] at h2
            exact h2)
          have UU := Lib.hid (fun (W : World) (g g' : Nat) (v u : Value) (h : Row W g v ws) (k : Row W g' u ws) => show Calls Try.prog 26 #[v, u] W (SamePost true W) from by
            have := refSame_any W g g' v u ws ws h k
            rw [decide_eq_true (rfl : ws = ws)] at this
            exact this)
          unfold maxLen at hca2 hcb2
          clear E8 ND HRB HLB
          by_cases hc1 : ca = 1
          · rw [if_pos hc1] at RA
            subst hc1
            have RA := Lib.hid (show Row wr ga (.slice (some ⟨ga, oa, none⟩) ws.length 0) ws from RA.out)
            clear hca hca2
            go_wp2_with fail
            refine (UU.out wr ga gw _ _ RA.out EW.out.c).mono ?_
            rintro e w9 ⟨rfl, q1, rfl⟩
            have EW9 := Lib.hid (EW.out.below (below_drewN _ q1))
            have RB9 := Lib.hid (RB.out.below (below_drewN _ q1))
            clear RA RB EW hxa hxb
            generalize wr.drewN q1 = w9 at EW9 RB9 ⊢
            go_wp2_with fail
            refine (UU.out w9 gb gw _ _ RB9.out EW9.out.c).mono ?_
            rintro e w10 ⟨rfl, q2, rfl⟩
            have EW10 := Lib.hid (EW9.out.below (below_drewN _ q2))
            clear EW9 RB9
            generalize w9.drewN q2 = w10 at EW10 ⊢
            go_wp2_with fail
            refine (keys_any w10 l M P8 ws m6 EW10.out.lst).mono ?_
            rintro e w11 ⟨v, rfl, hO, hB⟩
            have EW11 := Lib.hid (EW10.out.below hB)
            obtain ⟨gv, _, hgv⟩ := hO.row
            have HGV := Lib.hid hgv
            clear hO hB EW10 hgv
            go_wp2_with fail
            refine (UU.out w11 gv gw _ _ HGV.out EW11.out.c).mono ?_
            rintro e w12 ⟨rfl, q3, rfl⟩
            have EW12 := Lib.hid (EW11.out.below (below_drewN _ q3))
            clear EW11 HGV
            go_wp2_with fail
            go_ret
            exact ⟨rfl, EW12.out.kept.bel⟩
          · rw [if_neg hc1] at RA
            have hc1' : ¬ ca = 1 := hc1
            have hc2 : 1 ≤ ca := by omega
            go_wp2_with fail
            refine (UU.out wr ga gw _ _ RA.out EW.out.c).mono ?_
            rintro e w9 ⟨rfl, q1, rfl⟩
            have EW9 := Lib.hid (EW.out.below (below_drewN _ q1))
            have RB9 := Lib.hid (RB.out.below (below_drewN _ q1))
            clear RA RB EW hxa hxb
            generalize wr.drewN q1 = w9 at EW9 RB9 ⊢
            go_wp2_with fail
            refine (UU.out w9 gb gw _ _ RB9.out EW9.out.c).mono ?_
            rintro e w10 ⟨rfl, q2, rfl⟩
            have EW10 := Lib.hid (EW9.out.below (below_drewN _ q2))
            clear EW9 RB9
            generalize w9.drewN q2 = w10 at EW10 ⊢
            go_wp2_with fail
            refine (keys_any w10 l M P8 ws m6 EW10.out.lst).mono ?_
            rintro e w11 ⟨v, rfl, hO, hB⟩
            have EW11 := Lib.hid (EW10.out.below hB)
            obtain ⟨gv, _, hgv⟩ := hO.row
            have HGV := Lib.hid hgv
            clear hO hB EW10 hgv
            go_wp2_with fail
            refine (UU.out w11 gv gw _ _ HGV.out EW11.out.c).mono ?_
            rintro e w12 ⟨rfl, q3, rfl⟩
            have EW12 := Lib.hid (EW11.out.below (below_drewN _ q3))
            clear EW11 HGV
            go_wp2_with fail
            go_ret
            exact ⟨rfl, EW12.out.kept.bel⟩

theorem walk_listOrder (v0 : Value) (a1 : ByteArray) (w : World) (w0 : CameA w v0) (w1 : a1.size ≤ maxLen) : Calls Try.prog 4 #[v0, .string a1] w (RetB true w) := by
  obtain ⟨A, n, c, rfl, hn, K, S, hr, hc⟩ := w0
  by_cases hbig : n ≤ 300
  · by_cases hbk : a1.size ≤ 1000
    · exact order_main A n c w K S a1 hbig hbk (fun i hi => (hr i hi).2) hc
    · have e0 : decide (300 < (n : Int)) = false := by simp; omega
      have e1 : decide (1000 < (a1.size : Int)) = true := by simp; omega
      unfold maxLen at hn w1
      clear hr hc
      go_enter Try.func4, Try.ntmps4
      go_wp2_with fail
      refine (awake_any _).mono ?_
      rintro e w0 ⟨rfl, hb0⟩
      go_wp2_with fail
      go_ret
      exact ⟨rfl, hb0⟩
  · have e0 : decide (300 < (n : Int)) = true := by simp; omega
    unfold maxLen at hn w1
    clear hr hc
    go_enter Try.func4, Try.ntmps4
    go_wp2_with fail
    refine (awake_any _).mono ?_
    rintro e w0 ⟨rfl, hb0⟩
    go_wp2_with fail
    go_ret
    exact ⟨rfl, hb0⟩

namespace LListOrder
set_option maxRecDepth 100000 in
theorem lifted (os : Os) (started : os.Started) (H : Type) (enc : TypeId × Value → H) :
    ReturnsInHanded {} Try.checked os 4 .any (Rows.listOrderSpec.pre6 enc Try.prog Try.f4 Rows.listOrderRow.domain false) (Rows.listOrderSpec.post enc Try.prog Try.f4 false true false false) := by
  refine returnsInHanded_of_change (C := Try.checked) own started (by kernel_rfl) Try.func4
    (ChangeSpec.witness6 (enc := enc) (C := Try.checked) false ⟨#[], #[.slice none 0 0, .string ByteArray.empty], []⟩ 8 (by kernel_rfl) (by kernel_rfl) (by kernel_rfl) (by kernel_rfl)) ?_
  intro W base args ds gs before hval0 hW _ _
  have hval : ∀ (j : Nat) t v, Try.f4.params[j]? = some t → args[j]? = some v → Value.okWide Try.prog W .any base t v := hval0
  have hW' := hW
  obtain ⟨p, q, hA0, hV, rfl, hfz, hnd⟩ := hW
  have hA : DataW.TrodAll enc Try.prog W 0 (fun _ => true) true Try.f4.params.toList args.toList ds p := hA0
  rw [Try.params4] at hA hval
  obtain ⟨v0, vs0, d0, ds0, p0, q0, hargs, rfl, rfl, h0, r0⟩ := trodAll_cons hA
  obtain ⟨v1, vs1, d1, ds1, p1, q1, rfl, rfl, rfl, h1, r1⟩ := trodAll_cons r0
  obtain ⟨rfl, rfl, rfl⟩ := trodAll_nil r1
  obtain rfl : args = #[v0, v1] := by cases args; simp_all
  obtain ⟨rfl, rfl⟩ := trodVars_none hV
  have k0 := h0
  have lt0 : ∀ x ∈ p0, x.block < W.heap.size := by obtain ⟨m, hm⟩ := k0; exact DataW.trod_lt m _ _ _ hm
  have w0 := open_a (hval 0 22 v0 rfl rfl) h0
  obtain ⟨a1, rfl, rfl, rfl, w1⟩ := open_string Try.underlying9 (hval 1 9 v1 rfl rfl) h1
  clear hA0 hval0
  refine (walk_listOrder v0 a1 W w0 w1).mono fun e W' ⟨he, bel⟩ => ?_
  subst he
  exact ⟨_, rfl, _, _, _, [], _, [], hW', trodAll_mk1 (shut_bool Try.underlying4 _), (trodAll_cons_mk (Below.trod laidOut (by kernel_rfl) (of_decide_eq_true (by kernel_rfl)) k0 bel lt0) (trodAll_cons_mk (shut_string Try.underlying9 w1) trodAll_mk0)), rfl, bel.frame _, fun h => by cases h⟩

theorem said : Rows.ListOrderSaid :=
  OpenClaim.holds_of_wide 4 Try.f4 rfl rfl rfl rfl rfl rfl rfl ⟨rfl, rfl, rfl, rfl, rfl⟩ rfl rfl rfl rfl rfl (by kernel_rfl) Try.func4 (by kernel_rfl)
    (of_decide_eq_true (by kernel_rfl)) (by unfold Func.isWrapper; rw [if_neg (of_decide_eq_false (by kernel_rfl))]; exact ⟨rfl, rfl⟩)
    (fun os started H enc _ => lifted os started H enc)
#print axioms said
end LListOrder
end Go.Proofs.Ytlncfelglmhbdaa
