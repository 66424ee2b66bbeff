/- 'cachewiselaw04.HeapRemoves' returns true for every row of calls and every key, and leaves what was there as it was. No condition. -/
import Derived.Test.YtfjbancceodhhaaPlain4
namespace Go.Proofs.Ytfjbancceodhhaa
open Go.ChangeShapes Go.WideShapes Go.ChangeAt Go.RowKit Ht HS
open Go.ChangeMaps (open_string shut_string)

/-- Two rows held against each other, so far. -/
def Against (xs ys : List Key) (key : Key) (S : Nat → Prop) (h : Nat) (w0 : World) (L : List (Ent Key)) (c : Nat) (v v2 : Value) (g : Nat) (kz iz : Value) (W : World) : Prop :=
  ∃ i, g + i = xs.length ∧ iz = .int .i64 (i : Int) ∧ kz = .int .i64 ((((xs.take i).filter fun x => decide (x ≠ key)).length : Nat) : Int) ∧ Live w0 W h S L c ∧ Mine W S v xs ∧ Mine W S v2 ys

set_option maxHeartbeats 4000000 in
set_option maxRecDepth 100000 in
theorem removes_main (A : Option Addr) (n c : Nat) (w : World) (S : Nat → ByteArray) (R1 R2 : Nat → Int) (key : ByteArray) (hkey : key.size ≤ maxLen) (hn : n ≤ 200) (hS : ∀ i, i < n → (S i).size ≤ maxLen)
    (hc : 0 < n → ∃ g o, A = some ⟨g, o, none⟩ ∧ g < w.heap.size ∧ n ≤ c ∧ c ≤ maxLen ∧ ∀ i, i < n → w.cell? ⟨g, o + i * 4 + 1, none⟩ = some (.string (S i)) ∧ w.cell? ⟨g, o + i * 4 + 2, none⟩ = some (.int .i64 (R1 i)) ∧ w.cell? ⟨g, o + i * 4 + 3, none⟩ = some (.int .i64 (R2 i))) :
    Calls Try.prog 6 #[.slice A n c, .string key] w (RetB true w) := by
  have e0 : decide (200 < (n : Int)) = false := by simp; omega
  have mixed : Try.prog.follows .mixedOrders = true := by kernel_rfl
  have HC := Lib.hid hc
  have HS := Lib.hid hS
  clear hc hS
  go_enter Try.func6, Try.ntmps6
  go_wp2_with fail
  refine (awake_any _).mono ?_
  rintro e w0 ⟨rfl, hb0⟩
  have b0 := Lib.hid hb0; clear hb0
  go_wp2_with fail
  refine (new_any w0).mono ?_
  rintro e w1 ⟨h, S0, rfl, hH, hS0, hB⟩
  have L1 := Lib.hid (Live.made b0.out hH hS0 hB)
  clear hH hS0 hB b0
  go_wp2_with fail
  clear e0
  go_loopg [6] n (fun g i W => Fill n h w g i W)
  case atStart => exact ⟨0, S0, [], by omega, rfl, Nat.le_refl _, L1.out⟩
  case round =>
    obtain ⟨k, S1, L, hgk, rfl, hxl, hL⟩ := hrel
    have HL := Lib.hid hL
    have HG := Lib.hid hgk
    clear hL L1
    by_cases hlt : k < n
    · have e0 : decide (k < n) = true := by simpa using hlt
      obtain ⟨g, o, rfl, hg, hc1, hc2, hcell⟩ := HC.out (by omega)
      obtain ⟨q1, q2, q3⟩ := hcell k hlt
      have h1 := (HL.out.bel.cell (p := ⟨g, o + k * 4 + 1, none⟩) hg).trans q1
      have h2 := (HL.out.bel.cell (p := ⟨g, o + k * 4 + 2, none⟩) hg).trans q2
      have h3 := (HL.out.bel.cell (p := ⟨g, o + k * 4 + 3, none⟩) hg).trans q3
      have hsk := HS.out k hlt
      clear hcell q1 q2 q3 hgk
      unfold maxLen at hc2
      go_wp2_with fail
      go_still_tail 11, mixed
      go_wp2_with fail
      refine (set_any wr.drew h S1 L k (S k) (R1 k) (R2 k) HL.out.hs.drew hsk (by omega) (by omega)).mono ?_
      intro e w2 hp
      obtain ⟨rfl, S2, L2, hL2, _, hl2⟩ := Fill.step hxl HL.out (below_drew wr) hp
      have R := Lib.hid (And.intro hL2 hl2)
      clear hp hL2 hl2 h1 h2 h3
      go_wp2_with fail
      go_roundg (n - (k + 1))
      case measure => have := HG.out; omega
      case rel => exact ⟨k + 1, S2, L2, by omega, rfl, R.out.2, R.out.1⟩
    · have e0 : decide (k < n) = false := by simpa using hlt
      clear hgk
      go_wp2_with fail
      refine (order_any wr h S1 L k HL.out.hs).mono ?_
      rintro e w2 ⟨v, rfl, hO, hB⟩
      have M2 := Lib.hid (Mine.of hO HL.out.hs)
      have L2 := Lib.hid (HL.out.below hB)
      clear hO hB HL
      go_wp2_with fail
      refine (rank_any w2 h S1 L k key L2.out.hs hkey).mono ?_
      rintro e w3 ⟨rfl, hB⟩
      have hsz := hB.size
      obtain ⟨r1, hr1⟩ : ∃ r, ((find L key).map (·.one)).getD 0 = r := ⟨_, rfl⟩
      obtain ⟨r2, hr2⟩ : ∃ r, ((find L key).map (·.two)).getD 0 = r := ⟨_, rfl⟩
      obtain ⟨b, hbb⟩ : ∃ b, (find L key).isSome = b := ⟨_, rfl⟩
      rw [rankV_is, hr1, hr2, hbb]
      have L3 := Lib.hid (L2.out.below (hB.alloc hsz (.cells #[.int .i64 r1, .int .i64 r2] 28 (0, 0))))
      have M3 := Lib.hid (M2.out.below (hB.alloc hsz (.cells #[.int .i64 r1, .int .i64 r2] 28 (0, 0))))
      have RM := Lib.hid (fun w' (l : Live w w' h S1 L k) => remove_any w' h S1 L k key l.hs hkey)
      rw [hbb] at RM
      clear hB hr1 hr2 hbb L2 M2
      go_wp2_with fail
      generalize w3.alloc (.cells #[.int .i64 r1, .int .i64 r2] 28 (0, 0)) = w4 at L3 M3 ⊢
      refine (RM.out w4 L3.out).mono ?_
      intro e w5 hp
      obtain ⟨rfl, S5, hL5, hS5, hT5⟩ := L3.out.op hp
      have L5 := Lib.hid hL5
      have M5 := Lib.hid (M3.out.turn hT5 hS5)
      clear hp hL5 hS5 hT5 L3 M3 RM
      have RM := Lib.hid (remove_any w5 h S5 (rem L key) k key L5.out.hs hkey)
      rw [find_rem, rem_rem] at RM
      go_wp2_with fail
      refine RM.out.mono ?_
      intro e w6 hp
      obtain ⟨rfl, S6, hL6, hS6, hT6⟩ := L5.out.op hp
      have L6 := Lib.hid hL6
      have M6 := Lib.hid (M5.out.turn hT6 hS6)
      clear hp hL6 hS6 hT6 L5 M5 RM
      go_wp2_with fail
      refine (order_any w6 h S6 (rem L key) k L6.out.hs).mono ?_
      rintro e w7 ⟨v2, rfl, hO, hB⟩
      have N7 := Lib.hid (show Mine w7 S6 v2 (keysOf (rem L key)) from Mine.of hO L6.out.hs)
      have L7 := Lib.hid (L6.out.below hB)
      have M7 := Lib.hid (show Mine w7 S6 v (keysOf L) from M6.out.below hB)
      clear hO hB L6 M6
      rw [keys_rem] at N7
      obtain ⟨xs, hxs⟩ : ∃ xs, keysOf L = xs := ⟨_, rfl⟩
      rw [hxs] at M7 N7
      have XL := Lib.hid (show xs.length ≤ 1000 by rw [← hxs, keys_len]; have := HG.out; omega)
      have RL := Lib.hid (show (rem L key).length = (xs.filter fun x => decide (x ≠ key)).length by rw [← hxs, ← keys_rem, keys_len])
      clear hxs
      obtain ⟨a1, c1, rfl⟩ := M7.out.len
      obtain ⟨a2, c2, rfl⟩ := N7.out.len
      have hle := List.length_filter_le (fun x => decide (x ≠ key)) xs
      obtain ⟨n1, hn1⟩ : ∃ n, xs.length = n := ⟨_, rfl⟩
      obtain ⟨n2, hn2⟩ : ∃ n, (xs.filter fun x => decide (x ≠ key)).length = n := ⟨_, rfl⟩
      have N1 := Lib.hid hn1
      have N2 := Lib.hid hn2
      rw [hn1] at hle
      rw [hn2] at hle
      have hx1 : n1 ≤ 1000 := hn1 ▸ XL.out
      rw [hn1, hn2]
      clear hn1 hn2 e0
      go_wp2_with fail
      go_loopg [11, 12] n1 (fun g kz iz W => Against xs (xs.filter fun x => decide (x ≠ key)) key S6 h w (rem L key) k (.slice a1 xs.length c1) (.slice a2 (xs.filter fun x => decide (x ≠ key)).length c2) g kz iz W)
      case atStart => exact ⟨0, by rw [N1.out]; omega, rfl, rfl, L7.out, M7.out, N7.out⟩
      case round =>
        obtain ⟨i, hgi, rfl, rfl, hL, hM, hN⟩ := hrel
        have L8 := Lib.hid hL
        have M8 := Lib.hid hM
        have N8 := Lib.hid hN
        have G8 := Lib.hid hgi
        obtain ⟨j, hj⟩ : ∃ j, ((xs.take i).filter fun x => decide (x ≠ key)).length = j := ⟨_, rfl⟩
        have J := Lib.hid hj
        rw [hj]
        clear hL hM hN hgi hj
        by_cases hi : i < n1
        · have e0 : decide (i < n1) = true := by simpa using hi
          obtain ⟨x, hx⟩ : ∃ x, xs[i]? = some x := ⟨_, List.getElem?_eq_getElem (by rw [N1.out]; exact hi)⟩
          obtain ⟨g1, cp1, hv1, hg1, _, hc1, hc2, m1⟩ := M8.out.at hx
          injection hv1 with hv1 _ hv2
          subst hv1
          subst hv2
          rw [N1.out] at hc1
          unfold maxLen at hc2
          have HX := Lib.hid hx
          clear hx
          by_cases hxk : x = key
          · have e1 := beqS_yes hxk
            have SK := Lib.hid (filter_skip (fun x => decide (x ≠ key)) HX.out (by simp [hxk]))
            clear hxk
            go_wp2_with fail
            go_roundg (n1 - (i + 1))
            case measure => have := G8.out; have := N1.out; omega
            case rel => exact ⟨i + 1, by rw [N1.out]; omega, rfl, by rw [SK.out, J.out], L8.out, M8.out, N8.out⟩
          · have e1 := beqS_no hxk
            obtain ⟨f1, f2⟩ := filter_at (fun x => decide (x ≠ key)) HX.out (by simp [hxk])
            rw [J.out] at f1 f2
            have F2 := Lib.hid f2
            have hjl : j < n2 := by rw [← N2.out]; exact (List.getElem?_eq_some_iff.1 f1).1
            obtain ⟨g2, cp2, hv1, hg2, _, hc3, hc4, m2⟩ := N8.out.at f1
            injection hv1 with hv1 _ hv2
            subst hv1
            subst hv2
            rw [N2.out] at hc3
            unfold maxLen at hc4
            have e2 : decide (n2 ≤ j) = false := by simp; omega
            clear hxk f1 f2
            go_wp2_with fail
            go_quiet (fail)
            go_wp2_with fail
            go_roundg (n1 - (i + 1))
            case measure => have := G8.out; have := N1.out; omega
            case rel => exact ⟨i + 1, by rw [N1.out]; omega, rfl, by rw [F2.out]; rfl, L8.out.below (below_drewN _ _), M8.out.below (below_drewN _ _), N8.out.below (below_drewN _ _)⟩
        · have e0 : decide (i < n1) = false := by simpa using hi
          have hj2 : j = n2 := by
            rw [← J.out, ← N2.out, List.take_of_length_le (by rw [N1.out]; omega)]
          subst hj2
          have LE := Lib.hid (len_any wr h S6 (rem L key) k L8.out.hs)
          rw [RL.out, N2.out] at LE
          go_wp2_with fail
          refine LE.out.mono ?_
          rintro e w9 ⟨rfl, rfl⟩
          go_wp2_with fail
          go_ret
          exact ⟨rfl, L8.out.bel⟩

theorem walk_heapRemoves (v0 : Value) (key : ByteArray) (w : World) (w0 : CameA w v0) (hkey : key.size ≤ maxLen) : Calls Try.prog 6 #[v0, .string key] w (RetB true w) := by
  obtain ⟨A, n, c, rfl, hn, K, S, R1, R2, hr, hc⟩ := w0
  by_cases hbig : n ≤ 200
  · exact removes_main A n c w S R1 R2 key hkey hbig hr (fun h0 => by
      obtain ⟨g, o, h1, h2, h3, h4, h5⟩ := hc h0
      exact ⟨g, o, h1, h2, h3, h4, fun i hi => (h5 i hi).2⟩)
  · have e0 : decide (200 < (n : Int)) = true := by simp; omega
    unfold maxLen at hn
    clear hr hc
    go_enter Try.func6, Try.ntmps6
    go_wp2_with fail
    refine (awake_any _).mono ?_
    rintro e w0 ⟨rfl, hb0⟩
    go_wp2_with fail
    go_ret
    exact ⟨rfl, hb0⟩

namespace LHeapRemoves
set_option maxRecDepth 100000 in
theorem lifted (os : Os) (started : os.Started) (H : Type) (enc : TypeId × Value → H) :
    ReturnsInHanded {} Try.checked os 6 .any (Rows.heapRemovesSpec.pre6 enc Try.prog Try.f6 Rows.heapRemovesRow.domain false) (Rows.heapRemovesSpec.post enc Try.prog Try.f6 false true false false) := by
  refine returnsInHanded_of_change (C := Try.checked) own started (by kernel_rfl) Try.func6
    (ChangeSpec.witness6 (enc := enc) (C := Try.checked) false ⟨#[], #[.slice none 0 0, .string ByteArray.empty], []⟩ 8 (by kernel_rfl) (by kernel_rfl) (by kernel_rfl) (by kernel_rfl)) ?_
  intro W base args ds gs before hval0 hW _ _
  have hval : ∀ (j : Nat) t v, Try.f6.params[j]? = some t → args[j]? = some v → Value.okWide Try.prog W .any base t v := hval0
  have hW' := hW
  obtain ⟨p, q, hA0, hV, rfl, hfz, hnd⟩ := hW
  have hA : DataW.TrodAll enc Try.prog W 0 (fun _ => true) true Try.f6.params.toList args.toList ds p := hA0
  rw [Try.params6] at hA hval
  obtain ⟨v0, vs0, d0, ds0, p0, q0, hargs, rfl, rfl, h0, r0⟩ := trodAll_cons hA
  obtain ⟨v1, vs1, d1, ds1, p1, q1, rfl, rfl, rfl, h1, r1⟩ := trodAll_cons r0
  obtain ⟨rfl, rfl, rfl⟩ := trodAll_nil r1
  obtain rfl : args = #[v0, v1] := by cases args; simp_all
  obtain ⟨rfl, rfl⟩ := trodVars_none hV
  have k0 := h0
  have lt0 : ∀ x ∈ p0, x.block < W.heap.size := by obtain ⟨m, hm⟩ := k0; exact DataW.trod_lt m _ _ _ hm
  have w0 := open_a (hval 0 22 v0 rfl rfl) h0
  obtain ⟨a1, rfl, rfl, rfl, w1⟩ := open_string Try.underlying9 (hval 1 9 v1 rfl rfl) h1
  clear hA0 hval0
  refine (walk_heapRemoves v0 a1 W w0 w1).mono fun e W' ⟨he, bel⟩ => ?_
  subst he
  exact ⟨_, rfl, _, _, _, [], _, [], hW', trodAll_mk1 (shut_bool Try.underlying4 _), (trodAll_cons_mk (Below.trod laidOut (by kernel_rfl) (of_decide_eq_true (by kernel_rfl)) k0 bel lt0) (trodAll_cons_mk (shut_string Try.underlying9 w1) trodAll_mk0)), rfl, bel.frame _, fun h => by cases h⟩

theorem said : Rows.HeapRemovesSaid :=
  OpenClaim.holds_of_wide 6 Try.f6 rfl rfl rfl rfl rfl rfl rfl ⟨rfl, rfl, rfl, rfl, rfl⟩ rfl rfl rfl rfl rfl (by kernel_rfl) Try.func6 (by kernel_rfl)
    (of_decide_eq_true (by kernel_rfl)) (by unfold Func.isWrapper; rw [if_neg (of_decide_eq_false (by kernel_rfl))]; exact ⟨rfl, rfl⟩)
    (fun os started H enc _ => lifted os started H enc)
#print axioms said
end LHeapRemoves
end Go.Proofs.Ytfjbancceodhhaa
