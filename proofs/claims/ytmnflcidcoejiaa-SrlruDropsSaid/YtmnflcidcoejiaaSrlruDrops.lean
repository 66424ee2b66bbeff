/- 'cachewiselaw07.SrlruDrops' returns true for every size, every row of keys and every key, and leaves what was there as it was. No condition. -/
import Derived.Test.YtmnflcidcoejiaaRc7
namespace Go.Proofs.Ytmnflcidcoejiaa
open Go.ChangeShapes Go.WideShapes Go.ChangeAt Go.RowKit
open Go.ChangeMaps (open_string shut_string)

theorem lastKey_get {L : List ByteArray} (h : L ≠ []) : lastKey L = L.getD (L.length - 1) ⟨#[]⟩ := by
  unfold lastKey
  rw [List.getLastD_eq_getLast?, List.getLast?_eq_getElem?, List.getD_eq_getElem?_getD]
theorem rev_get {L : List ByteArray} {i : Nat} (h : i < L.length) : L.reverse.getD i ⟨#[]⟩ = lastKey (L.take (L.length - i)) := by
  have h0 : L.take (L.length - i) ≠ [] := fun e => by have := congrArg List.length e; rw [List.length_take, List.length_nil] at this; omega
  rw [lastKey_get h0, List.getD_eq_getElem?_getD, List.getElem?_reverse h, List.getD_eq_getElem?_getD, List.length_take, List.getElem?_take, if_pos (by omega), show min (L.length - i) L.length - 1 = L.length - 1 - i by omega]
/-- What is left to drop; what is dropped of. -/
def DropR (L G : List ByteArray) (v u : Value) (c b : Nat) (w0 : World) (z : Value) (W : World) : Prop := ∃ (i : Nat) (T : Nat → Prop) (s : St), z = .int .i64 (i : Int) ∧ i ≤ L.length ∧ Live w0 W c T s b ∧ s.A ++ s.N = L.take (L.length - i) ∧ s.G = G ∧ Mine W T v L.reverse ∧ Mine W T u G
theorem take_any {L : List ByteArray} {n : Nat} (h : 0 < n) (hl : n ≤ L.length) : anyKey (L.take n) = true := by
  cases L with
  | nil => simp at hl; omega
  | cons x L => cases n with
    | zero => omega
    | succ n => rfl
theorem dr_take {L : List ByteArray} {s : St} {i : Nat} (h : s.A ++ s.N = L.take (L.length - i)) (hi : i < L.length) : s.dr.A ++ s.dr.N = L.take (L.length - (i + 1)) := by
  show dA s.N s.A ++ s.N.dropLast = _
  rw [drop_app, h, List.dropLast_eq_take, List.take_take, List.length_take]
  congr 1; omega
theorem ad_spot {s : St} {k : ByteArray} (h : s.adB k = true) : ((s.ad k).A ++ (s.ad k).N).reverse.getD (s.A.length + s.N.length - s.A.length) ⟨#[]⟩ = k ∧ ((s.ad k).A ++ (s.ad k).N).length = s.A.length + s.N.length + 1 := by
  unfold St.ad
  rw [if_pos h]
  show (s.A ++ k :: s.N).reverse.getD _ ⟨#[]⟩ = k ∧ (s.A ++ k :: s.N).length = _
  refine ⟨?_, by rw [List.length_append, List.length_cons]; omega⟩
  rw [List.getD_eq_getElem?_getD, List.getElem?_reverse (by rw [List.length_append, List.length_cons]; omega), List.getElem?_append_right (by rw [List.length_append, List.length_cons]; omega)]
  rw [show (s.A ++ k :: s.N).length - 1 - (s.A.length + s.N.length - s.A.length) - s.A.length = 0 by rw [List.length_append, List.length_cons]; omega]
  rfl

set_option maxHeartbeats 4000000 in
set_option maxRecDepth 100000 in
theorem drops_main (mo : Nat) (A : Option Addr) (n cc : Nat) (key : ByteArray) (w : World) (S : Nat → ByteArray) (h1m : 1 ≤ mo) (hmo : mo ≤ 1000) (hn : n ≤ 200) (hkey : key.size ≤ 200) (hS : ∀ i, i < n → (S i).size ≤ maxLen)
    (hc : 0 < n → ∃ g o, A = some ⟨g, o, none⟩ ∧ g < w.heap.size ∧ n ≤ cc ∧ cc ≤ maxLen ∧ ∀ i, i < n → w.cell? ⟨g, o + i, none⟩ = some (.string (S i))) :
    Calls Try.prog 7 #[.int .i64 (mo : Int), .slice A n cc, .string key] w (RetB true w) := by
  have e0 : decide (200 < (n : Int)) = false := by simp; omega
  have e1 : decide (200 < (key.size : Int)) = false := by simp; omega
  have e2 : decide ((mo : Int) < 1) = false := by simp; omega
  have e3 : decide (1000 < (mo : Int)) = false := by simp; omega
  have HC := Lib.hid hc
  have HS := Lib.hid hS
  clear hc hS
  go_enter Try.func7, Try.ntmps7
  go_wp2_with fail
  refine (awake_any _).mono ?_
  rintro e w0 ⟨rfl, hb0⟩
  have b0 := Lib.hid hb0; clear hb0
  go_wp2_with fail
  refine (show Calls Try.prog 10 #[.int .i64 (mo : Int)] w0 (NewS (St.start mo) w0) from new_ca w0 (mo : Int) (by omega)).mono ?_
  rintro e w1 ⟨c, T1, rfl, hC, hT, hB⟩
  have L1 := Lib.hid (Live.made b0.out hC hT hB)
  clear hC hT hB b0
  go_wp2_with fail
  clear e0 e1 e2 e3
  go_loopw [8] (fun i W => Fill S n c mo w i W) (fun i _ => n - (intOf i).toNat)
  case atStart => exact ⟨0, T1, rfl, Nat.zero_le _, L1.out⟩
  case round =>
    obtain ⟨k, T, rfl, hk, hL⟩ := hrel
    have HL := Lib.hid hL
    clear hL L1
    by_cases hlt : k < n
    · have e0 : decide (k < n) = true := by simpa using hlt
      obtain ⟨g, o, rfl, hg, hc1, hc2, hcell⟩ := HC.out (by omega)
      have h1 := (HL.out.bel.cell (p := ⟨g, o + k, none⟩) hg).trans (hcell k hlt)
      have hsk := HS.out k hlt
      clear hcell
      unfold maxLen at hc2
      have U := Lib.hid (request_ca wr c T _ k (S k) HL.out.ca hsk (by omega))
      unfold maxLen at hsk
      by_cases hbig : (S k).size ≤ 200
      · have e1 : decide (200 < ((S k).size : Int)) = false := by simp; omega
        go_wp2_with fail
        refine U.out.mono ?_
        intro e w2 hp
        obtain ⟨rfl, hF⟩ := Fill.next hlt HL.out hp
        have R := Lib.hid hF
        clear hp hF U
        unfold St.step
        go_wp2_with fail
        go_roundw
        case rel => exact R.out
        case measure => simp [intOf]; omega
      · have e1 : decide (200 < ((S k).size : Int)) = true := by simp; omega
        go_wp2_with fail
        go_ret
        exact ⟨rfl, HL.out.bel⟩
    · have e0 : decide (k < n) = false := by simpa using hlt
      obtain rfl : k = n := by omega
      have hks : key.size ≤ maxLen := by unfold maxLen; omega
      have U1 := Lib.hid (remove_ca wr c T _ k key HL.out.ca hks)
      have HMO := Lib.hid (stI_mo S mo k)
      go_wp2_with fail
      refine U1.out.mono ?_
      intro e w2 hp
      obtain ⟨rfl, T2, hL2, hW2⟩ := HL.out.op hp
      have L2 := Lib.hid hL2
      have HM2 := Lib.hid (show ((stI S mo k).rm key).mo = mo from HMO.out)
      have HH := Lib.hid (show ((stI S mo k).rm key).hit key = false from by
        unfold St.hit
        rw [show ((stI S mo k).rm key).N = rem (stI S mo k).N key from rfl, show ((stI S mo k).rm key).A = rem (stI S mo k).A key from rfl, inn_no.2 rem_not, inn_no.2 rem_not]; rfl)
      clear hp hL2 hW2 U1 HL HMO e0
      generalize (stI S mo k).rm key = s at *
      go_wp2_with fail
      refine (keys_ca w2 c T2 s k L2.out.ca).mono ?_
      rintro e w3 ⟨v3, rfl, hO, hB⟩
      obtain ⟨A3, c3, rfl⟩ := hO.len
      have L3 := Lib.hid (L2.out.below hB)
      have hln : (s.A ++ s.N).reverse.length = s.A.length + s.N.length := by rw [List.length_reverse, List.length_append]
      rw [hln]
      have htot := L3.out.ca.tot
      unfold St.tot at htot
      clear hO hB L2 hln
      go_wp2_with fail
      refine (again_ca w3 c T2 s k L3.out.ca).mono ?_
      rintro e w3 ⟨rfl, rfl⟩
      have AD := adopt_ca w3 c T2 s k key L3.out.ca hks (by omega)
      have HAB := Lib.hid (show s.adB key = decide (s.A.length + s.N.length < mo) by unfold St.adB; rw [HH.out, HM2.out, Nat.add_comm]; rfl)
      have SP := Lib.hid (fun h => ad_spot (s := s) (k := key) h)
      have HNR := Lib.hid (show s.adB key = false → ((s.ad key).A ++ (s.ad key).N).length = s.A.length + s.N.length by
        intro h; unfold St.ad; rw [if_neg (by rw [h]; simp), List.length_append])
      obtain ⟨q, hq⟩ : ∃ q, q = s.A.length + s.N.length := ⟨_, rfl⟩
      obtain ⟨a, ha⟩ : ∃ a, a = s.A.length := ⟨_, rfl⟩
      have hqa : a ≤ q := by omega
      have hq2 : q ≤ 200 := by omega
      rw [← hq] at HAB SP HNR ⊢
      rw [← ha] at SP ⊢
      have e8 : decide (q < a) = false := by simpa using hqa
      clear hq ha htot HH HM2
      obtain ⟨s', hs'⟩ : ∃ s', s' = s.ad key := ⟨_, rfl⟩
      rw [← hs'] at AD SP HNR
      clear hs'
      cases hroom : s.adB key with
      | true =>
        rw [hroom] at AD
        have AD := Lib.hid AD
        have e5 : decide (q < mo) = true := by rw [← HAB.out]; exact hroom
        have SP := Lib.hid (SP.out hroom)
        clear hroom HAB HNR
        go_wp2_with fail
        refine AD.out.mono ?_
        intro e w4 hp
        obtain ⟨rfl, T4, hL4, hW4⟩ := L3.out.op hp
        have L4 := Lib.hid hL4
        clear hp hL4 hW4 L3 AD
        go_wp2_with fail
        refine (keys_ca w4 c T4 s' (k + 1) L4.out.ca).mono ?_
        rintro e w5 ⟨v5, rfl, hO, hB⟩
        obtain ⟨A5, c5, rfl⟩ := hO.len
        have L5 := Lib.hid (L4.out.below hB)
        have M5 := Lib.hid (Mine.made hO L4.out.ca)
        obtain ⟨g5, _, hRow⟩ := hO.row
        obtain ⟨o5, rfl, hg5, hcell5, hx5, hc5⟩ := hRow.at (k := q - a) (by rw [List.length_reverse, SP.out.2]; omega)
        rw [SP.out.1] at hcell5
        have hlen : (s'.A ++ s'.N).reverse.length = q + 1 := by rw [List.length_reverse]; exact SP.out.2
        rw [hlen] at hx5 M5 ⊢
        have e6 : IntKind.i64.wrap ((q : Int) - (a : Int)) = ((q - a : Nat) : Int) := by rw [IntWalk.i64_in _ (by omega)]; omega
        have HQ := Lib.hid hlen
        unfold maxLen at hc5
        go_wp2_with fail
        obtain ⟨A6, hA6⟩ : ∃ A6, A6 = some (⟨g5, o5, none⟩ : Addr) := ⟨_, rfl⟩
        rw [← hA6] at M5 ⊢
        clear hA6 hRow hcell5 L4
        have HQ := Lib.hid (show (s'.A ++ s'.N).length = q + 1 from SP.out.2)
        obtain ⟨x, hx⟩ : ∃ x, x = q + 1 := ⟨_, rfl⟩
        rw [← hx] at HQ M5 ⊢
        have hxl : x ≤ 201 := by omega
        clear hx SP hx5
        refine (ghosts_ca w5 c T4 s' (k + 1) L5.out.ca).mono ?_
        rintro e w6 ⟨v6, rfl, hO, hB⟩
        obtain ⟨A7, c7, rfl⟩ := hO.len
        have hgl := L5.out.ca.tot
        unfold St.tot at hgl
        have M6 := Lib.hid (Mine.made hO L5.out.ca)
        have L6 := Lib.hid (L5.out.below hB)
        have N6 := Lib.hid (M5.out.below hB)
        obtain ⟨y, hy⟩ : ∃ y, y = s'.G.length := ⟨_, rfl⟩
        rw [← hy] at M6 hgl ⊢
        have HY := Lib.hid hy
        clear hO hB L5 M5 hy
        go_wp2_with fail
        go_loopw [13] (fun z W => DropR (s'.A ++ s'.N) s'.G (.slice A6 x c5) (.slice A7 y c7) c (k + 1) w z W) (fun z _ => x - (intOf z).toNat)
        case atStart => exact ⟨0, T4, s', rfl, Nat.zero_le _, L6.out, by rw [Nat.sub_zero, List.take_length], rfl, N6.out, M6.out⟩
        case round =>
          obtain ⟨i, T5, s5, rfl, hi, hL5, hs5, hg5, hM5, hN5⟩ := hrel
          have L7 := Lib.hid hL5
          have M7 := Lib.hid hM5
          have N7 := Lib.hid hN5
          have H5 := Lib.hid hs5
          have G5 := Lib.hid hg5
          rw [HQ.out] at hi
          clear hL5 hM5 hN5 L6 M6 N6 hg5
          by_cases hlt2 : i < x
          · have e7 : decide (i < x) = true := by simpa using hlt2
            have D := drop_ca wr c T5 s5 (k + 1) L7.out.ca
            have hk1 := rev_get (L := s'.A ++ s'.N) (i := i) (by rw [HQ.out]; exact hlt2)
            rw [hs5, HQ.out, take_any (by omega) (by rw [HQ.out]; omega), ← HQ.out, ← hk1] at D
            have D := Lib.hid D
            obtain ⟨kk, hkk⟩ : ∃ kk, kk = (s'.A ++ s'.N).reverse.getD i ⟨#[]⟩ := ⟨_, rfl⟩
            rw [← hkk] at D
            have HKK := Lib.hid hkk
            clear hs5 hk1 hkk
            go_wp2_with fail
            refine D.out.mono ?_
            intro e w7 hp
            obtain ⟨rfl, T7, hL8, hW8⟩ := L7.out.op hp
            have L8 := Lib.hid hL8
            have M8 := Lib.hid (M7.out.went hW8 hL8.lt)
            have N8 := Lib.hid (N7.out.went hW8 hL8.lt)
            clear hp hL8 hW8 L7 M7 N7 D
            obtain ⟨gm, hRow, hgT⟩ := M8.out
            obtain ⟨o8, rfl, hg8, hc8, hx8, hcv8⟩ := hRow.at (k := i) (by rw [List.length_reverse, HQ.out]; exact hlt2)
            rw [← HKK.out] at hc8
            rw [List.length_reverse, HQ.out] at hx8
            unfold maxLen at hcv8
            clear hRow hgT
            go_wp2_with fail
            go_roundw
            case rel => exact ⟨i + 1, T7, s5.dr, by go_num, by rw [HQ.out]; omega, L8.out, dr_take H5.out (by rw [HQ.out]; exact hlt2), G5.out, M8.out, N8.out⟩
            case measure => simp [intOf]; omega
          · have e7 : decide (i < x) = false := by simpa using hlt2
            obtain rfl : i = x := by omega
            have hnil : s5.A ++ s5.N = [] := by rw [H5.out, HQ.out, Nat.sub_self, List.take_zero]
            have hA0 : s5.A.length = 0 := by rw [(List.append_eq_nil_iff.1 hnil).1]; rfl
            have hN0 : s5.N.length = 0 := by rw [(List.append_eq_nil_iff.1 hnil).2]; rfl
            have D1 := len_ca wr c T5 s5 (k + 1) L7.out.ca
            rw [hA0, hN0] at D1
            have D1 := Lib.hid (show Calls Try.prog 28 #[.pointer (some ⟨c, 0, none⟩)] wr (Qt (.int .i64 0) wr) from D1)
            clear hs5
            go_wp2_with fail
            refine D1.out.mono ?_
            rintro e w8 ⟨rfl, nn, hw8⟩
            have B8 := Lib.hid (show Below wr.heap.size wr w8 from hw8 ▸ below_drewN wr nn)
            have L8 := Lib.hid (L7.out.below B8.out)
            have N8 := Lib.hid (N7.out.below B8.out)
            have D2 := again_ca w8 c T5 s5 (k + 1) L8.out.ca
            rw [hA0] at D2
            have D2 := Lib.hid (show Calls Try.prog 33 #[.pointer (some ⟨c, 0, none⟩)] w8 (IntPost 0 w8) from D2)
            clear hw8 L7 N7 M7 D1
            go_wp2_with fail
            refine D2.out.mono ?_
            rintro e w8 ⟨rfl, rfl⟩
            go_wp2_with fail
            refine (ghosts_ca w8 c T5 s5 (k + 1) L8.out.ca).mono ?_
            rintro e w9 ⟨v9, rfl, hO, hB⟩
            obtain ⟨g9, _, hR9⟩ := hO.row
            obtain ⟨g8, hR8, _⟩ := N8.out.below hB
            have U := refSame_any w9 g9 g8 _ _ _ _ hR9 hR8
            rw [decide_eq_true G5.out] at U
            have U := Lib.hid U
            have B9 := Lib.hid ((L8.out.below hB).bel)
            clear hO hB hR9 hR8 L8 N8
            go_wp2_with fail
            refine U.out.mono ?_
            rintro e w10 ⟨rfl, nn, hw⟩
            have B10 := Lib.hid (show Below w.heap.size w w10 by rw [hw]; exact B9.out.trans ((below_drewN _ nn).mono B9.out.size))
            clear hw B9
            go_wp2_with fail
            go_ret
            exact ⟨rfl, B10.out⟩
      | false =>
        rw [hroom] at AD
        have AD := Lib.hid AD
        have e5 : decide (q < mo) = false := by rw [← HAB.out]; exact hroom
        have HQ := Lib.hid (HNR.out hroom)
        clear hroom HAB SP HNR
        go_wp2_with fail
        refine AD.out.mono ?_
        intro e w4 hp
        obtain ⟨rfl, T4, hL4, hW4⟩ := L3.out.op hp
        have L4 := Lib.hid hL4
        clear hp hL4 hW4 L3 AD
        go_wp2_with fail
        refine (keys_ca w4 c T4 s' (k + 1) L4.out.ca).mono ?_
        rintro e w5 ⟨v5, rfl, hO, hB⟩
        obtain ⟨A6, c5, rfl⟩ := hO.len
        have L5 := Lib.hid (L4.out.below hB)
        have M5 := Lib.hid (Mine.made hO L4.out.ca)
        have hlen : (s'.A ++ s'.N).reverse.length = q := by rw [List.length_reverse]; exact HQ.out
        rw [hlen] at M5 ⊢
        obtain ⟨x, rfl⟩ : ∃ x, x = q := ⟨q, rfl⟩
        have hxl : x ≤ 201 := by omega
        clear hlen hO hB L4
        go_wp2_with fail
        refine (ghosts_ca w5 c T4 s' (k + 1) L5.out.ca).mono ?_
        rintro e w6 ⟨v6, rfl, hO, hB⟩
        obtain ⟨A7, c7, rfl⟩ := hO.len
        have hgl := L5.out.ca.tot
        unfold St.tot at hgl
        have M6 := Lib.hid (Mine.made hO L5.out.ca)
        have L6 := Lib.hid (L5.out.below hB)
        have N6 := Lib.hid (M5.out.below hB)
        obtain ⟨y, hy⟩ : ∃ y, y = s'.G.length := ⟨_, rfl⟩
        rw [← hy] at M6 hgl ⊢
        have HY := Lib.hid hy
        clear hO hB L5 M5 hy
        go_wp2_with fail
        go_loopw [13] (fun z W => DropR (s'.A ++ s'.N) s'.G (.slice A6 x c5) (.slice A7 y c7) c (k + 1) w z W) (fun z _ => x - (intOf z).toNat)
        case atStart => exact ⟨0, T4, s', rfl, Nat.zero_le _, L6.out, by rw [Nat.sub_zero, List.take_length], rfl, N6.out, M6.out⟩
        case round =>
          obtain ⟨i, T5, s5, rfl, hi, hL5, hs5, hg5, hM5, hN5⟩ := hrel
          have L7 := Lib.hid hL5
          have M7 := Lib.hid hM5
          have N7 := Lib.hid hN5
          have H5 := Lib.hid hs5
          have G5 := Lib.hid hg5
          rw [HQ.out] at hi
          clear hL5 hM5 hN5 L6 M6 N6 hg5
          by_cases hlt2 : i < x
          · have e7 : decide (i < x) = true := by simpa using hlt2
            have D := drop_ca wr c T5 s5 (k + 1) L7.out.ca
            have hk1 := rev_get (L := s'.A ++ s'.N) (i := i) (by rw [HQ.out]; exact hlt2)
            rw [hs5, HQ.out, take_any (by omega) (by rw [HQ.out]; omega), ← HQ.out, ← hk1] at D
            have D := Lib.hid D
            obtain ⟨kk, hkk⟩ : ∃ kk, kk = (s'.A ++ s'.N).reverse.getD i ⟨#[]⟩ := ⟨_, rfl⟩
            rw [← hkk] at D
            have HKK := Lib.hid hkk
            clear hs5 hk1 hkk
            go_wp2_with fail
            refine D.out.mono ?_
            intro e w7 hp
            obtain ⟨rfl, T7, hL8, hW8⟩ := L7.out.op hp
            have L8 := Lib.hid hL8
            have M8 := Lib.hid (M7.out.went hW8 hL8.lt)
            have N8 := Lib.hid (N7.out.went hW8 hL8.lt)
            clear hp hL8 hW8 L7 M7 N7 D
            obtain ⟨gm, hRow, hgT⟩ := M8.out
            obtain ⟨o8, rfl, hg8, hc8, hx8, hcv8⟩ := hRow.at (k := i) (by rw [List.length_reverse, HQ.out]; exact hlt2)
            rw [← HKK.out] at hc8
            rw [List.length_reverse, HQ.out] at hx8
            unfold maxLen at hcv8
            clear hRow hgT
            go_wp2_with fail
            go_roundw
            case rel => exact ⟨i + 1, T7, s5.dr, by go_num, by rw [HQ.out]; omega, L8.out, dr_take H5.out (by rw [HQ.out]; exact hlt2), G5.out, M8.out, N8.out⟩
            case measure => simp [intOf]; omega
          · have e7 : decide (i < x) = false := by simpa using hlt2
            obtain rfl : i = x := by omega
            have hnil : s5.A ++ s5.N = [] := by rw [H5.out, HQ.out, Nat.sub_self, List.take_zero]
            have hA0 : s5.A.length = 0 := by rw [(List.append_eq_nil_iff.1 hnil).1]; rfl
            have hN0 : s5.N.length = 0 := by rw [(List.append_eq_nil_iff.1 hnil).2]; rfl
            have D1 := len_ca wr c T5 s5 (k + 1) L7.out.ca
            rw [hA0, hN0] at D1
            have D1 := Lib.hid (show Calls Try.prog 28 #[.pointer (some ⟨c, 0, none⟩)] wr (Qt (.int .i64 0) wr) from D1)
            clear hs5
            go_wp2_with fail
            refine D1.out.mono ?_
            rintro e w8 ⟨rfl, nn, hw8⟩
            have B8 := Lib.hid (show Below wr.heap.size wr w8 from hw8 ▸ below_drewN wr nn)
            have L8 := Lib.hid (L7.out.below B8.out)
            have N8 := Lib.hid (N7.out.below B8.out)
            have D2 := again_ca w8 c T5 s5 (k + 1) L8.out.ca
            rw [hA0] at D2
            have D2 := Lib.hid (show Calls Try.prog 33 #[.pointer (some ⟨c, 0, none⟩)] w8 (IntPost 0 w8) from D2)
            clear hw8 L7 N7 M7 D1
            go_wp2_with fail
            refine D2.out.mono ?_
            rintro e w8 ⟨rfl, rfl⟩
            go_wp2_with fail
            refine (ghosts_ca w8 c T5 s5 (k + 1) L8.out.ca).mono ?_
            rintro e w9 ⟨v9, rfl, hO, hB⟩
            obtain ⟨g9, _, hR9⟩ := hO.row
            obtain ⟨g8, hR8, _⟩ := N8.out.below hB
            have U := refSame_any w9 g9 g8 _ _ _ _ hR9 hR8
            rw [decide_eq_true G5.out] at U
            have U := Lib.hid U
            have B9 := Lib.hid ((L8.out.below hB).bel)
            clear hO hB hR9 hR8 L8 N8
            go_wp2_with fail
            refine U.out.mono ?_
            rintro e w10 ⟨rfl, nn, hw⟩
            have B10 := Lib.hid (show Below w.heap.size w w10 by rw [hw]; exact B9.out.trans ((below_drewN _ nn).mono B9.out.size))
            clear hw B9
            go_wp2_with fail
            go_ret
            exact ⟨rfl, B10.out⟩

theorem walk_srlruDrops (a0 : Int) (v1 : Value) (a2 : ByteArray) (w : World) (w0 : (Lit.int .i64 a0).wf = true) (w1 : CameS w v1) (w2 : a2.size ≤ maxLen) : Calls Try.prog 7 #[.int .i64 a0, v1, .string a2] w (RetB true w) := by
  obtain ⟨A, n, c, rfl, hn, S, hr, hc⟩ := w1
  have hz := i64_rng w0
  by_cases hok : n ≤ 200 ∧ a2.size ≤ 200 ∧ 1 ≤ a0 ∧ a0 ≤ 1000
  · obtain ⟨h1, h2, h3, h4⟩ := hok
    obtain ⟨mo, rfl⟩ : ∃ m : Nat, a0 = (m : Int) := ⟨a0.toNat, by omega⟩
    exact drops_main mo A n c a2 w S (by omega) (by omega) h1 h2 hr hc
  · have P := Lib.hid (show (decide (200 < (n : Int)) = true) ∨ (decide (200 < (n : Int)) = false ∧ decide (200 < (a2.size : Int)) = true) ∨ (decide (200 < (n : Int)) = false ∧ decide (200 < (a2.size : Int)) = false ∧ decide (a0 < 1) = true) ∨ (decide (200 < (n : Int)) = false ∧ decide (200 < (a2.size : Int)) = false ∧ decide (a0 < 1) = false ∧ decide (1000 < a0) = true) by
      simp only [decide_eq_true_eq, decide_eq_false_iff_not]; omega)
    unfold maxLen at hn w2
    clear hr hc w0 hok
    rcases P.out with e0 | ⟨e0, e1⟩ | ⟨e0, e1, e2⟩ | ⟨e0, e1, e2, e3⟩
    all_goals
      go_enter Try.func7, Try.ntmps7
      go_wp2_with fail
      refine (awake_any _).mono ?_
      rintro e w0 ⟨rfl, hb0⟩
      go_wp2_with fail
      go_ret
      exact ⟨rfl, hb0⟩

namespace LSrlruDrops
set_option maxRecDepth 100000 in
theorem lifted (os : Os) (started : os.Started) (H : Type) (enc : TypeId × Value → H) :
    ReturnsInHanded {} Try.checked os 7 .any (Rows.srlruDropsSpec.pre6 enc Try.prog Try.f7 Rows.srlruDropsRow.domain false) (Rows.srlruDropsSpec.post enc Try.prog Try.f7 false true false false) := by
  refine returnsInHanded_of_change (C := Try.checked) own started (by kernel_rfl) Try.func7
    (ChangeSpec.witness6 (enc := enc) (C := Try.checked) false ⟨#[], #[.int .i64 0, .slice none 0 0, .string ByteArray.empty], []⟩ 8 (by kernel_rfl) (by kernel_rfl) (by kernel_rfl) (by kernel_rfl)) ?_
  intro W base args ds gs before hval0 hW _ _
  have hval : ∀ (j : Nat) t v, Try.f7.params[j]? = some t → args[j]? = some v → Value.okWide Try.prog W .any base t v := hval0
  have hW' := hW
  obtain ⟨p, q, hA0, hV, rfl, hfz, hnd⟩ := hW
  have hA : DataW.TrodAll enc Try.prog W 0 (fun _ => true) true Try.f7.params.toList args.toList ds p := hA0
  rw [Try.params7] at hA hval
  obtain ⟨v0, vs0, d0, ds0, p0, q0, hargs, rfl, rfl, h0, r0⟩ := trodAll_cons hA
  obtain ⟨v1, vs1, d1, ds1, p1, q1, rfl, rfl, rfl, h1, r1⟩ := trodAll_cons r0
  obtain ⟨v2, vs2, d2, ds2, p2, q2, rfl, rfl, rfl, h2, r2⟩ := trodAll_cons r1
  obtain ⟨rfl, rfl, rfl⟩ := trodAll_nil r2
  obtain rfl : args = #[v0, v1, v2] := by cases args; simp_all
  obtain ⟨rfl, rfl⟩ := trodVars_none hV
  obtain ⟨a0, rfl, rfl, rfl, w0⟩ := open_int Try.underlying3 (hval 0 3 v0 rfl rfl) h0
  have k1 := h1
  have lt1 : ∀ x ∈ p1, x.block < W.heap.size := by obtain ⟨m, hm⟩ := k1; exact DataW.trod_lt m _ _ _ hm
  have w1 := open_z (hval 1 47 v1 rfl rfl) h1
  obtain ⟨a2, rfl, rfl, rfl, w2⟩ := open_string Try.underlying9 (hval 2 9 v2 rfl rfl) h2
  clear hA0 hval0
  refine (walk_srlruDrops a0 v1 a2 W w0 w1 w2).mono fun e W' ⟨he, bel⟩ => ?_
  subst he
  exact ⟨_, rfl, _, _, _, [], _, [], hW', trodAll_mk1 (shut_bool Try.underlying4 _), (trodAll_cons_mk (shut_int Try.underlying3 w0) (trodAll_cons_mk (Below.trod laidOut (by kernel_rfl) (of_decide_eq_true (by kernel_rfl)) k1 bel lt1) (trodAll_cons_mk (shut_string Try.underlying9 w2) trodAll_mk0))), rfl, bel.frame _, fun h => by cases h⟩

theorem said : Rows.SrlruDropsSaid :=
  OpenClaim.holds_of_wide 7 Try.f7 rfl rfl rfl rfl rfl rfl rfl ⟨rfl, rfl, rfl, rfl, rfl⟩ rfl rfl rfl rfl rfl (by kernel_rfl) Try.func7 (by kernel_rfl)
    (of_decide_eq_true (by kernel_rfl)) (by unfold Func.isWrapper; rw [if_neg (of_decide_eq_false (by kernel_rfl))]; exact ⟨rfl, rfl⟩)
    (fun os started H enc _ => lifted os started H enc)
#print axioms said
end LSrlruDrops
end Go.Proofs.Ytmnflcidcoejiaa
