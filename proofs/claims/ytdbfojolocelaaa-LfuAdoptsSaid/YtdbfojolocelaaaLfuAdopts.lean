/- 'cachewiselaw06.LfuAdopts' returns true for every size, either way, every row of keys and every key, and leaves what was there as it was. No condition. -/
import Derived.Test.YtdbfojolocelaaaRc6
namespace Go.Proofs.Ytdbfojolocelaaa
open Go.ChangeShapes Go.WideShapes Go.ChangeAt Go.RowKit Ht HS Lf
open Go.ChangeMaps (open_string shut_string)

theorem lset_rem_room {L : List (Ent Key)} {key : Key} {mo : Nat} (h : (rem L key).length < mo) : stepV mo (rem L key) key = .agg #[.bool false, .string ⟨#[]⟩, .bool false] := by
  have h1 : ¬ mo ≤ (rem L key).length := by omega
  simp [stepV, hitB, vicK, outB, isIn_rem, h1]
theorem req_rem_room {L : List (Ent Key)} {key : Key} {ch : Bool} {mo n : Nat} (h : (rem L key).length < mo) : reqL ch mo n (rem L key) key = put ch n (rem L key) key := by
  unfold reqL
  rw [if_neg (by omega), isIn_rem, if_neg (by simp), show (rem L key).length + 1 - mo = 0 by omega, List.drop_zero]

set_option maxHeartbeats 4000000 in
set_option maxRecDepth 100000 in
theorem adopts_main (mo : Nat) (ch : Bool) (A : Option Addr) (n cc : Nat) (key : ByteArray) (w : World) (S : Nat → ByteArray) (hz : 1 ≤ mo ∧ mo ≤ 9223372036854775807) (hn : n ≤ 200) (hkey : key.size ≤ 200) (hS : ∀ i, i < n → (S i).size ≤ maxLen)
    (hc : 0 < n → ∃ g o, A = some ⟨g, o, none⟩ ∧ g < w.heap.size ∧ n ≤ cc ∧ cc ≤ maxLen ∧ ∀ i, i < n → w.cell? ⟨g, o + i, none⟩ = some (.string (S i))) :
    Calls Try.prog 6 #[.int .i64 (mo : Int), .bool ch, .slice A n cc, .string key] w (RetB true w) := by
  have e0 : decide (200 < (n : Int)) = false := by simp; omega
  have e1 : decide (200 < (key.size : Int)) = false := by simp; omega
  have e2 : decide ((mo : Int) < 1) = false := by simp; omega
  have HC := Lib.hid hc
  have HS := Lib.hid hS
  have hks : key.size ≤ maxLen := by unfold maxLen; omega
  have HK := Lib.hid hks
  clear hc hS hks
  go_enter Try.func6, Try.ntmps6
  go_wp2_with fail
  refine (awake_any _).mono ?_
  rintro e w0 ⟨rfl, hb0⟩
  have b0 := Lib.hid hb0; clear hb0
  go_wp2_with fail
  refine (new_pos w0 mo ch hz.2).mono ?_
  rintro e w1 ⟨a, T1, rfl, hC, hT, hB⟩
  have L1 := Lib.hid (Live.made b0.out hC hT hB)
  clear hC hT hB b0
  go_wp2_with fail
  refine (new_pos w1 mo ch hz.2).mono ?_
  rintro e w2 ⟨a2, T2, rfl, hC, hT, hB⟩
  have P1 := Lib.hid (Pair.made L1.out hC hT hB)
  clear hC hT hB L1
  go_wp2_with fail
  clear e0 e1
  go_loopw [11] (fun i W => Fill2 S n mo ch ch a a2 w i W) (fun i _ => n - (intOf i).toNat)
  case atStart => exact ⟨0, T1, T2, rfl, Nat.zero_le _, P1.out⟩
  case round =>
    obtain ⟨k, T, T2, rfl, hk, hP⟩ := hrel
    have HP := Lib.hid hP
    clear hP P1
    by_cases hlt : k < n
    · have e0 : decide (k < n) = true := by simpa using hlt
      obtain ⟨g, o, rfl, hg, hc1, hc2, hcell⟩ := HC.out (by omega)
      have h1 := (HP.out.one.bel.cell (p := ⟨g, o + k, none⟩) hg).trans (hcell k hlt)
      have hsk := HS.out k hlt
      have hck := hcell k hlt
      clear hcell
      unfold maxLen at hc2
      have U := Lib.hid (request_one wr a T mo ch _ k (S k) HP.out.one.ca hsk (by omega) hz.1)
      have HSK := Lib.hid hsk
      unfold maxLen at hsk
      by_cases hbig : (S k).size ≤ 200
      · have e1 : decide (200 < ((S k).size : Int)) = false := by simp; omega
        go_wp2_with fail
        refine U.out.mono ?_
        intro e w2 hp
        obtain ⟨rfl, T3, hP3, _⟩ := HP.out.op1 hp
        have P3 := Lib.hid hP3
        have h3 := (hP3.one.bel.cell (p := ⟨g, o + k, none⟩) hg).trans hck
        have U2 := Lib.hid (request_one w2 a2 T2 mo ch _ k (S k) hP3.two.ca HSK.out (by omega) hz.1)
        clear hp hP3 U h1 HP
        unfold stepV
        go_wp2_with fail
        refine U2.out.mono ?_
        intro e w3 hp
        obtain ⟨rfl, T4, hP4, _⟩ := P3.out.op2 hp
        have P4 := Lib.hid hP4
        clear hp hP4 U2 P3
        unfold stepV
        go_wp2_with fail
        go_roundw
        case rel => exact ⟨k + 1, T3, T4, by go_num, by omega, P4.out⟩
        case measure => simp [intOf]; omega
      · have e1 : decide (200 < ((S k).size : Int)) = true := by simp; omega
        go_wp2_with fail
        go_ret
        exact ⟨rfl, HP.out.one.bel⟩
    · have e0 : decide (k < n) = false := by simpa using hlt
      obtain rfl : k = n := by omega
      go_wp2_with fail
      generalize resI ch S mo k = R at *
      obtain ⟨was, hwas⟩ : ∃ b, b = isIn R key := ⟨_, rfl⟩
      have HW := Lib.hid hwas
      clear hwas
      have e4 : (was != was) = false := by simp
      refine (HW.out ▸ has_ca wr a T mo ch R k key HP.out.one.ca HK.out : Calls Try.prog 30 #[.pointer (some ⟨a, 0, none⟩), .string key] wr (ValBelow (.bool was) wr)).mono ?_
      rintro e w2 ⟨rfl, hB⟩
      have P2 := Lib.hid (HP.out.below hB)
      clear hB HP e0
      go_wp2_with fail
      refine (HW.out ▸ remove_ca w2 a T mo ch R k key P2.out.one.ca HK.out : Calls Try.prog 14 #[.pointer (some ⟨a, 0, none⟩), .string key] w2 (CaPost (.bool was) w2 a T mo ch (rem R key) k)).mono ?_
      intro e w3 hp
      obtain ⟨rfl, T3, hP3, _⟩ := P2.out.op1 hp
      have P3 := Lib.hid hP3
      clear hp hP3 P2
      go_wp2_with fail
      refine (HW.out ▸ remove_ca w3 a2 T2 mo ch R k key P3.out.two.ca HK.out : Calls Try.prog 14 #[.pointer (some ⟨a2, 0, none⟩), .string key] w3 (CaPost (.bool was) w3 a2 T2 mo ch (rem R key) k)).mono ?_
      intro e w4 hp
      obtain ⟨rfl, T4, hP4, _⟩ := P3.out.op2 hp
      have P4 := Lib.hid hP4
      clear hp hP4 P3
      go_wp2_with fail
      refine (tms_no (isIn_rem R key) ▸ times_ca w4 a T3 mo ch (rem R key) k key P4.out.one.ca HK.out : Calls Try.prog 29 #[.pointer (some ⟨a, 0, none⟩), .string key] w4 (ValBelow (.int .i64 0) w4)).mono ?_
      rintro e w5 ⟨rfl, hB⟩
      have P5 := Lib.hid (P4.out.below hB)
      clear hB P4 e4
      have hle := P5.out.one.ca.le
      obtain ⟨x, hx⟩ : ∃ x, x = (rem R key).length := ⟨_, rfl⟩
      have U1 := len_ca w5 a T3 mo ch (rem R key) k P5.out.one.ca
      rw [← hx] at U1 hle
      have U1 := Lib.hid U1
      have U3 := adopt_ca w5 a T3 mo ch (rem R key) k key P5.out.one.ca HK.out (by omega)
      have HX := Lib.hid hx
      clear hx
      by_cases hroom : x < mo
      · have e5 : decide (x < mo) = true := by simpa using hroom
        have e6 : adB mo (rem R key) key = true := by have := HX.out; simp [adB, isIn_rem]; omega
        rw [show adL ch mo k (rem R key) key = put ch k (rem R key) key by unfold adL; rw [e6]; rfl, show adN mo k (rem R key) key = k + 1 by unfold adN; rw [e6]; rfl, e6] at U3
        have U3 := Lib.hid U3
        have HR := Lib.hid (show (rem R key).length < mo by have := HX.out; omega)
        clear e6
        go_wp2_with fail
        refine U1.out.mono ?_
        rintro e w5 ⟨rfl, rfl⟩
        go_wp2_with fail
        refine U3.out.mono ?_
        intro e w6 hp
        obtain ⟨rfl, T6, hP6, _⟩ := P5.out.op1 hp
        have P6 := Lib.hid hP6
        have U4 := request_one w6 a2 T4 mo ch (rem R key) k key hP6.two.ca HK.out (by omega) hz.1
        rw [lset_rem_room HR.out, req_rem_room HR.out] at U4
        have U4 := Lib.hid U4
        clear hp hP6 U1 U3 P5
        go_wp2_with fail
        refine U4.out.mono ?_
        intro e w7 hp
        obtain ⟨rfl, T7, hP7, _⟩ := P6.out.op2 hp
        have P7 := Lib.hid (hP7.below ((Below.refl w7.heap.size w7).alloc (Nat.le_refl _) zStep))
        have TM := Lib.hid (show tms (put ch k (rem R key) key) key = 1 by rw [put_tms ((P6.out.two.ca.once)) key, tms_no (isIn_rem R key)]; rfl)
        clear hp hP7 U4 P6
        go_wp2_with fail
        refine (TM.out ▸ times_ca _ a T6 mo ch _ (k + 1) key P7.out.one.ca HK.out : Calls Try.prog 29 #[.pointer (some ⟨a, 0, none⟩), .string key] (w7.alloc zStep) (ValBelow (.int .i64 1) (w7.alloc zStep))).mono ?_
        rintro e w8 ⟨rfl, hB⟩
        have P8 := Lib.hid (P7.out.below hB)
        clear hB P7
        go_wp2_with fail
        refine (keys_ca w8 a T6 mo ch _ _ P8.out.one.ca).mono ?_
        rintro e w9 ⟨v9, rfl, hO, hB⟩
        have P9 := Lib.hid (P8.out.below hB)
        have M9 := Lib.hid (Mine.made hO P8.out.one.ca)
        clear hO hB P8
        go_wp2_with fail
        refine (keys_ca w9 a2 T7 mo ch _ _ P9.out.two.ca).mono ?_
        rintro e wa ⟨va, rfl, hO, hB⟩
        have Ba := Lib.hid (P9.out.one.bel.trans (hB.mono P9.out.one.bel.size))
        obtain ⟨g9, hr9, _⟩ := M9.out.below hB
        obtain ⟨ga, _, hra⟩ := hO.row
        have U6 := Lib.hid (refSame_self wa g9 ga _ _ _ hr9 hra)
        clear hO hB P9 M9 hr9 hra
        go_wp2_with fail
        refine U6.out.mono ?_
        rintro e wb ⟨rfl, m, hws⟩
        have B9 := Lib.hid (show Below w.heap.size w wb by rw [hws]; exact Ba.out.trans ((below_drewN _ m).mono Ba.out.size))
        clear hws Ba
        go_wp2_with fail
        go_ret
        exact ⟨rfl, B9.out⟩
      · have e5 : decide (x < mo) = false := by simpa using hroom
        have e6 : adB mo (rem R key) key = false := by have := HX.out; simp [adB]; omega
        rw [show adL ch mo k (rem R key) key = rem R key by unfold adL; rw [e6]; rfl, show adN mo k (rem R key) key = k by unfold adN; rw [e6]; rfl, e6] at U3
        have U3 := Lib.hid U3
        clear e6
        go_wp2_with fail
        refine U1.out.mono ?_
        rintro e w5 ⟨rfl, rfl⟩
        go_wp2_with fail
        refine U3.out.mono ?_
        intro e w6 hp
        obtain ⟨rfl, T6, hP6, _⟩ := P5.out.op1 hp
        have P6 := Lib.hid hP6
        clear hp hP6 U1 U3 P5
        go_wp2_with fail
        refine (keys_ca w6 a T6 mo ch _ _ P6.out.one.ca).mono ?_
        rintro e w9 ⟨v9, rfl, hO, hB⟩
        have P9 := Lib.hid (P6.out.below hB)
        have M9 := Lib.hid (Mine.made hO P6.out.one.ca)
        clear hO hB P6
        go_wp2_with fail
        refine (keys_ca w9 a2 T4 mo ch _ _ P9.out.two.ca).mono ?_
        rintro e wa ⟨va, rfl, hO, hB⟩
        have Ba := Lib.hid (P9.out.one.bel.trans (hB.mono P9.out.one.bel.size))
        obtain ⟨g9, hr9, _⟩ := M9.out.below hB
        obtain ⟨ga, _, hra⟩ := hO.row
        have U6 := Lib.hid (refSame_self wa g9 ga _ _ _ hr9 hra)
        clear hO hB P9 M9 hr9 hra
        go_wp2_with fail
        refine U6.out.mono ?_
        rintro e wb ⟨rfl, m, hws⟩
        have B9 := Lib.hid (show Below w.heap.size w wb by rw [hws]; exact Ba.out.trans ((below_drewN _ m).mono Ba.out.size))
        clear hws Ba
        go_wp2_with fail
        go_ret
        exact ⟨rfl, B9.out⟩

theorem walk_lfuAdopts (a0 : Int) (a1 : Bool) (v2 : Value) (a3 : ByteArray) (w : World) (w0 : (Lit.int .i64 a0).wf = true) (w2 : CameS w v2) (w3 : a3.size ≤ maxLen) : Calls Try.prog 6 #[.int .i64 a0, .bool a1, v2, .string a3] w (RetB true w) := by
  obtain ⟨A, n, c, rfl, hn, S, hr, hc⟩ := w2
  have hz := i64_rng w0
  by_cases hbig : n ≤ 200
  · have e0 : decide (200 < (n : Int)) = false := by simp; omega
    by_cases hlong : a3.size ≤ 200
    · have e1 : decide (200 < (a3.size : Int)) = false := by simp; omega
      by_cases hpos : 1 ≤ a0
      · obtain ⟨mo, rfl⟩ : ∃ m : Nat, a0 = (m : Int) := ⟨a0.toNat, by omega⟩
        exact adopts_main mo a1 A n c a3 w S (by omega) hbig hlong hr hc
      · have e2 : decide (a0 < 1) = true := by simp; omega
        unfold maxLen at hn w3
        clear hr hc w0
        go_enter Try.func6, Try.ntmps6
        go_wp2_with fail
        refine (awake_any _).mono ?_
        rintro e w0 ⟨rfl, hb0⟩
        go_wp2_with fail
        go_ret
        exact ⟨rfl, hb0⟩
    · have e1 : decide (200 < (a3.size : Int)) = true := by simp; omega
      unfold maxLen at hn w3
      clear hr hc w0
      go_enter Try.func6, Try.ntmps6
      go_wp2_with fail
      refine (awake_any _).mono ?_
      rintro e w0 ⟨rfl, hb0⟩
      go_wp2_with fail
      go_ret
      exact ⟨rfl, hb0⟩
  · have e0 : decide (200 < (n : Int)) = true := by simp; omega
    unfold maxLen at hn w3
    clear hr hc w0
    go_enter Try.func6, Try.ntmps6
    go_wp2_with fail
    refine (awake_any _).mono ?_
    rintro e w0 ⟨rfl, hb0⟩
    go_wp2_with fail
    go_ret
    exact ⟨rfl, hb0⟩

namespace LLfuAdopts
set_option maxRecDepth 100000 in
theorem lifted (os : Os) (started : os.Started) (H : Type) (enc : TypeId × Value → H) :
    ReturnsInHanded {} Try.checked os 6 .any (Rows.lfuAdoptsSpec.pre6 enc Try.prog Try.f6 Rows.lfuAdoptsRow.domain false) (Rows.lfuAdoptsSpec.post enc Try.prog Try.f6 false true false false) := by
  refine returnsInHanded_of_change (C := Try.checked) own started (by kernel_rfl) Try.func6
    (ChangeSpec.witness6 (enc := enc) (C := Try.checked) false ⟨#[], #[.int .i64 0, .bool false, .slice none 0 0, .string ByteArray.empty], []⟩ 8 (by kernel_rfl) (by kernel_rfl) (by kernel_rfl) (by kernel_rfl)) ?_
  intro W base args ds gs before hval0 hW _ _
  have hval : ∀ (j : Nat) t v, Try.f6.params[j]? = some t → args[j]? = some v → Value.okWide Try.prog W .any base t v := hval0
  have hW' := hW
  obtain ⟨p, q, hA0, hV, rfl, hfz, hnd⟩ := hW
  have hA : DataW.TrodAll enc Try.prog W 0 (fun _ => true) true Try.f6.params.toList args.toList ds p := hA0
  rw [Try.params6] at hA hval
  obtain ⟨v0, vs0, d0, ds0, p0, q0, hargs, rfl, rfl, h0, r0⟩ := trodAll_cons hA
  obtain ⟨v1, vs1, d1, ds1, p1, q1, rfl, rfl, rfl, h1, r1⟩ := trodAll_cons r0
  obtain ⟨v2, vs2, d2, ds2, p2, q2, rfl, rfl, rfl, h2, r2⟩ := trodAll_cons r1
  obtain ⟨v3, vs3, d3, ds3, p3, q3, rfl, rfl, rfl, h3, r3⟩ := trodAll_cons r2
  obtain ⟨rfl, rfl, rfl⟩ := trodAll_nil r3
  obtain rfl : args = #[v0, v1, v2, v3] := by cases args; simp_all
  obtain ⟨rfl, rfl⟩ := trodVars_none hV
  obtain ⟨a0, rfl, rfl, rfl, w0⟩ := open_int Try.underlying3 (hval 0 3 v0 rfl rfl) h0
  obtain ⟨a1, rfl, rfl, rfl⟩ := Go.RowKit.open_bool Try.underlying4 (hval 1 4 v1 rfl rfl) h1
  have k2 := h2
  have lt2 : ∀ x ∈ p2, x.block < W.heap.size := by obtain ⟨m, hm⟩ := k2; exact DataW.trod_lt m _ _ _ hm
  have w2 := open_z (hval 2 47 v2 rfl rfl) h2
  obtain ⟨a3, rfl, rfl, rfl, w3⟩ := open_string Try.underlying9 (hval 3 9 v3 rfl rfl) h3
  clear hA0 hval0
  refine (walk_lfuAdopts a0 a1 v2 a3 W w0 w2 w3).mono fun e W' ⟨he, bel⟩ => ?_
  subst he
  exact ⟨_, rfl, _, _, _, [], _, [], hW', trodAll_mk1 (shut_bool Try.underlying4 _), (trodAll_cons_mk (shut_int Try.underlying3 w0) (trodAll_cons_mk (shut_bool Try.underlying4 _) (trodAll_cons_mk (Below.trod laidOut (by kernel_rfl) (of_decide_eq_true (by kernel_rfl)) k2 bel lt2) (trodAll_cons_mk (shut_string Try.underlying9 w3) trodAll_mk0)))), rfl, bel.frame _, fun h => by cases h⟩

theorem said : Rows.LfuAdoptsSaid :=
  OpenClaim.holds_of_wide 6 Try.f6 rfl rfl rfl rfl rfl rfl rfl ⟨rfl, rfl, rfl, rfl, rfl⟩ rfl rfl rfl rfl rfl (by kernel_rfl) Try.func6 (by kernel_rfl)
    (of_decide_eq_true (by kernel_rfl)) (by unfold Func.isWrapper; rw [if_neg (of_decide_eq_false (by kernel_rfl))]; exact ⟨rfl, rfl⟩)
    (fun os started H enc _ => lifted os started H enc)
#print axioms said
end LLfuAdopts
end Go.Proofs.Ytdbfojolocelaaa
