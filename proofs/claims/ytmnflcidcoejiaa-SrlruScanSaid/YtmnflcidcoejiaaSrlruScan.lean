/- 'cachewiselaw07.SrlruScan' returns true for every size, every row of keys and every length of a scan, and leaves what was there as it was. No condition. -/
import Derived.Test.YtmnflcidcoejiaaCut7
import Derived.Deep.DeepCutAuto
import Derived.Deep.CutBlock
import Derived.Laws.IdiomStrings
namespace Go.Proofs.Ytmnflcidcoejiaa
open Go.ChangeShapes Go.WideShapes Go.ChangeAt Go.RowKit

/-- 'append(xs, ys...)': a row of the call's own, and one that lies anywhere. -/
theorem app_row {w : World} {base g : Nat} {v u : Value} {xs ys : List ByteArray} (h : Own w base v xs) (k : Row w g u ys) (hl : xs.length + ys.length ≤ 2000) (hb : base ≤ w.heap.size) :
    ∃ (v' : Value) (w2 : World), (Builtin.append_ #[47, 47] 47 #[v, u]).run Try.prog w = .ok v' w2 ∧ Own w2 base v' (xs ++ ys) ∧ w.grownBy w2 v.ownBlock := by
  obtain ⟨i0, hi, hz0, hz1, hz2⟩ := info_parts infoStr
  have hsm : ∀ y ∈ xs ++ ys, y.size ≤ maxLen := fun y hy => by
    rcases List.mem_append.1 hy with h1 | h1
    · exact h.2.2 y h1
    · exact k.2.1 y h1
  rcases k.2.2 with ⟨rfl, A, c, rfl⟩ | ⟨o, c, rfl, k1, k2, k3, k4⟩
  · refine ⟨v, w, ?_, by rw [List.append_nil]; exact h, ⟨rfl, rfl, rfl, Nat.le_refl _, fun _ _ _ => rfl⟩⟩
    rcases h.1.2 with ⟨rfl, _⟩ | ⟨g, cap, cur, rfl, _, _, h3, _⟩
    · cases A <;> simp [Builtin.append_, run_underlying Try.underlying47, sizeOf, typeInfo, hi, Builtin.lenOf, Builtin.firstCells, storeCells, loadCells, loadCellsFrom]
    · cases A <;> simp [Builtin.append_, run_underlying Try.underlying47, sizeOf, typeInfo, hi, Builtin.lenOf, Builtin.firstCells, storeCells, loadCells, loadCellsFrom, h3]
  · obtain ⟨v', w2, hrun, hown2, hg, hnil, hloc⟩ := run_append_own_at (P := Try.prog) w base 47 47 9 i0 _ 1 16
      Try.underlying47 hi hz0 hz1 hz2 rfl (by decide) _ _ _ h.1 ⟨g, o, none⟩ ys.length c (ys.map Value.string) (by simp) (fun j x hj => by
        rw [List.getElem?_map] at hj
        obtain ⟨y, hy, rfl⟩ := Option.map_eq_some_iff.1 hj
        obtain ⟨hjl, rfl⟩ := List.getElem?_eq_some_iff.1 hy
        have := k4 j hjl
        rw [List.getD_eq_getElem?_getD, List.getElem?_eq_getElem hjl] at this
        rw [show (⟨g, o, none⟩ : Addr).add j = ⟨g, o + j, none⟩ by unfold Addr.add; split <;> simp_all]
        exact this) (by intro u hu; obtain ⟨x, _, rfl⟩ := List.mem_map.1 hu; rfl) (by unfold maxLen; omega) (by omega) hb
    refine ⟨v', w2, hrun, ⟨?_, by rw [List.length_append]; omega, hsm⟩, hg⟩
    rw [List.map_append, List.length_append]; exact hown2

/-- 'string([]byte{b})'. -/
theorem conv_one (w : World) {j : Nat} (hj : j < 256) : (convert 57 9 (.slice (some ⟨w.heap.size, 0, none⟩) 1 1)).run Try.prog (w.alloc (.cells #[.int .u8 (j : Int)] 5)) = .ok (.string ⟨#[UInt8.ofNat j]⟩) (w.alloc (.cells #[.int .u8 (j : Int)] 5)) := by
  refine run_convert_bytes_back _ _ _ 5 ⟨w.heap.size, 0, none⟩ 1 [UInt8.ofNat j] Try.underlying57 Try.underlying5 Try.underlying9 fun i hi => ?_
  have hi : i < 1 := hi
  obtain rfl : i = 0 := by omega
  show (w.alloc _).cell? ⟨w.heap.size, 0, none⟩ = _
  rw [cell_of_row _ _ 0 _ _ _ (heap_alloc_new w _)]
  simp only [List.getElem_cons_zero, UInt8.toNat_ofNat']
  rw [Nat.mod_eq_of_lt (by omega)]
  rfl
/-- The keys of a scan. -/
def scanK (i : Nat) : ByteArray := (⟨#[115, 99, 97, 110, 32]⟩ : ByteArray) ++ ⟨#[UInt8.ofNat i]⟩
theorem scanK_size (i : Nat) : (scanK i).size = 6 := by unfold scanK; rw [ByteArray.size_append]; rfl
theorem scanK_inj {i j : Nat} (hi : i < 256) (hj : j < 256) (h : scanK i = scanK j) : i = j := by
  have h1 := congrArg ByteArray.data h
  unfold scanK at h1
  rw [ByteArray.data_append, ByteArray.data_append] at h1
  have h2 : (UInt8.ofNat i) = UInt8.ofNat j := by
    have := congrArg (fun a : Array UInt8 => a[5]?) h1
    simpa using this
  have h3 := congrArg UInt8.toNat h2
  simp only [UInt8.toNat_ofNat'] at h3
  omega
/-- A cache behind a scan of j keys: A is as it was. -/
structure ScanI (mo : Nat) (A0 : List ByteArray) (s : St) (j : Nat) : Prop where
  m : s.mo = mo
  A : s.A = A0
  all : ∀ x ∈ s.all, x.size ≠ 6 ∨ ∃ i, i < j ∧ x = scanK i
section
variable {mo : Nat} {A0 : List ByteArray} {s : St} {j : Nat}
theorem ScanI.no (h : ScanI mo A0 s j) (hj : j < 256) : scanK j ∉ s.all := fun hx => by
  rcases h.all _ hx with h | ⟨i, hi, e⟩
  · exact h (scanK_size j)
  · have := scanK_inj hj (by omega) e; omega
theorem ScanI.parts (h : ScanI mo A0 s j) (hj : j < 256) : inn s.A (scanK j) = false ∧ inn s.N (scanK j) = false ∧ inn s.G (scanK j) = false := by
  have := h.no hj
  unfold St.all at this
  rw [List.mem_append, List.mem_append] at this
  exact ⟨inn_no.2 fun h => this (Or.inl (Or.inl h)), inn_no.2 fun h => this (Or.inl (Or.inr h)), inn_no.2 fun h => this (Or.inr h)⟩
theorem ScanI.hit (h : ScanI mo A0 s j) (hj : j < 256) : s.hit (scanK j) = false := by
  unfold St.hit
  rw [(h.parts hj).1, (h.parts hj).2.1]; rfl
theorem ScanI.next (h : ScanI mo A0 s j) (hj : j < 256) (hA : A0.length < mo) : ScanI mo A0 (s.req (scanK j)) (j + 1) := by
  obtain ⟨h1, h2, h3⟩ := h.parts hj
  have e : s.req (scanK j) = (s.cut (s.mo - 1)).fr (scanK j) := by
    unfold St.req
    rw [if_neg (by rw [h.m]; omega), if_neg (by rw [h1]; simp), if_neg (by rw [h2]; simp), if_neg (by rw [h3]; simp)]
  rw [e]
  refine ⟨h.m, ?_, fun x hx => ?_⟩
  · show cutA (s.mo - 1) s.N s.A = A0
    unfold cutA gone
    rw [h.A, h.m, List.take_of_length_le (by omega)]
  · have hx : x ∈ (s.cut (s.mo - 1)).A ++ scanK j :: (s.cut (s.mo - 1)).N ++ (s.cut (s.mo - 1)).G := hx
    by_cases e : x = scanK j
    · exact Or.inr ⟨j, by omega, e⟩
    · have : x ∈ s.all := (cut_sub s (s.mo - 1)).subset (by
        unfold St.all
        simp only [List.mem_append, List.mem_cons] at hx ⊢
        rcases hx with (h | h | h) | h
        · exact Or.inl (Or.inl h)
        · exact absurd h e
        · exact Or.inl (Or.inr h)
        · exact Or.inr h)
      exact (h.all x this).imp id fun ⟨i, hi, e⟩ => ⟨i, by omega, e⟩
end
/-- What a row of requests leaves is of the keys asked for. -/
theorem req_all {s : St} {k x : ByteArray} (h : x ∈ (s.req k).all) : x ∈ s.all ∨ x = k := by
  have fr : ∀ (s : St) (x : ByteArray), x ∈ (s.fr k).all → x ∈ s.all ∨ x = k := fun s x hx => by
    have hx : x ∈ s.A ++ k :: s.N ++ s.G := hx
    unfold St.all
    simp only [List.mem_append, List.mem_cons] at hx ⊢
    rcases hx with (h | h | h) | h
    · exact Or.inl (Or.inl (Or.inl h))
    · exact Or.inr h
    · exact Or.inl (Or.inl (Or.inr h))
    · exact Or.inl (Or.inr h)
  have pr : ∀ (s : St) (x : ByteArray), x ∈ (s.prom k).all → x ∈ s.all ∨ x = k := fun s x hx => by
    have hw : (s.prom k).all = k :: s.all := by
      unfold St.all St.prom
      rw [← List.append_assoc, List.take_append_drop]; rfl
    rw [hw] at hx
    rcases List.mem_cons.1 hx with h | h
    · exact Or.inr h
    · exact Or.inl h
  unfold St.req at h
  split at h
  · exact Or.inl h
  · split at h
    · have h : x ∈ k :: rem s.A k ++ s.N ++ s.G := h
      unfold St.all
      simp only [List.mem_append, List.mem_cons, rem_mem] at h ⊢
      rcases h with ((h | h) | h) | h
      · exact Or.inr h
      · exact Or.inl (Or.inl (Or.inl h.1))
      · exact Or.inl (Or.inl (Or.inr h))
      · exact Or.inl (Or.inr h)
    · split at h
      · rcases pr _ _ h with h | h
        · exact Or.inl ((show (s.onN k).all.Sublist s.all from all_sub (List.Sublist.refl _) (rem_sub _ _) (List.Sublist.refl _)).subset h)
        · exact Or.inr h
      · split at h
        · rcases pr _ _ h with h | h
          · exact Or.inl ((show (s.onG k).all.Sublist s.all from all_sub (List.Sublist.refl _) (List.Sublist.refl _) (rem_sub _ _)).subset ((cut_sub _ _).subset h))
          · exact Or.inr h
        · rcases fr _ _ h with h | h
          · exact Or.inl ((cut_sub _ _).subset h)
          · exact Or.inr h
def FillS (S : Nat → ByteArray) (n c mo : Nat) (w0 : World) (i : Value) (W : World) : Prop := ∃ (k : Nat) (T : Nat → Prop) (s : St), i = .int .i64 (k : Int) ∧ k ≤ n ∧ Live w0 W c T s k ∧ s.mo = mo ∧ ∀ x ∈ s.all, x.size ≠ 6
def ScanR (A0 : List ByteArray) (mo c sc : Nat) (w : World) (v z : Value) (W : World) : Prop := ∃ (j : Nat) (T : Nat → Prop) (s : St) (b : Nat), z = .int .i64 (j : Int) ∧ j ≤ sc ∧ b ≤ 100 + j ∧ Live w W c T s b ∧ ScanI mo A0 s j ∧ Mine W T v A0.reverse

set_option maxHeartbeats 4000000 in
set_option maxRecDepth 100000 in
theorem scan_main (mo sc : Nat) (A : Option Addr) (n cc : Nat) (w : World) (S : Nat → ByteArray) (h1m : 1 ≤ mo) (hmo : mo ≤ 9223372036854775807) (hsc : sc ≤ 255) (hn : n ≤ 100) (hS : ∀ i, i < n → (S i).size ≤ maxLen)
    (hc : 0 < n → ∃ g o, A = some ⟨g, o, none⟩ ∧ g < w.heap.size ∧ n ≤ cc ∧ cc ≤ maxLen ∧ ∀ i, i < n → w.cell? ⟨g, o + i, none⟩ = some (.string (S i))) :
    Calls Try.prog 4 #[.int .i64 (mo : Int), .slice A n cc, .int .u8 (sc : Int)] w (RetB true w) := by
  have e0 : decide (100 < (n : Int)) = false := by simp; omega
  have e2 : decide ((mo : Int) < 1) = false := by simp; omega
  have HC := Lib.hid hc
  have HS := Lib.hid hS
  clear hc hS
  go_enter Try.func4, Try.ntmps4
  go_wp2_with fail
  refine (awake_any _).mono ?_
  rintro e w0 ⟨rfl, hb0⟩
  have b0 := Lib.hid hb0; clear hb0
  go_wp2_with fail
  refine (show Calls Try.prog 10 #[.int .i64 (mo : Int)] w0 (NewS (St.start mo) w0) from new_ca w0 (mo : Int) (by omega)).mono ?_
  rintro e w1 ⟨c, T1, rfl, hC, hT, hB⟩
  have L1 := Lib.hid (Live.made b0.out hC hT hB)
  clear hC hT hB b0
  go_wp2_with fail
  clear e0 e2
  go_loopw [8] (fun i W => FillS S n c mo w i W) (fun i _ => n - (intOf i).toNat)
  case atStart => exact ⟨0, T1, _, rfl, Nat.zero_le _, L1.out, rfl, fun x hx => by cases hx⟩
  case round =>
    obtain ⟨k, T, s, rfl, hk, hL, hm, hx6⟩ := hrel
    have HL := Lib.hid hL
    have HM := Lib.hid hm
    have H6 := Lib.hid hx6
    clear hL L1 hm hx6
    by_cases hlt : k < n
    · have e0 : decide (k < n) = true := by simpa using hlt
      obtain ⟨g, o, rfl, hg, hc1, hc2, hcell⟩ := HC.out (by omega)
      have h1 := (HL.out.bel.cell (p := ⟨g, o + k, none⟩) hg).trans (hcell k hlt)
      have hsk := HS.out k hlt
      clear hcell
      unfold maxLen at hc2
      have U := Lib.hid (request_ca wr c T s k (S k) HL.out.ca hsk (by omega))
      unfold maxLen at hsk
      by_cases hbig : (S k).size ≤ 200
      · have e1 : decide (200 < ((S k).size : Int)) = false := by simp; omega
        by_cases h6 : (S k).size = 6
        · have e2 : (((S k).size : Int) == 6) = true := by rw [h6]; rfl
          have e3 : ((S k).size == 6) = true := by rw [h6]; rfl
          clear h6
          go_wp2_with fail
          go_ret
          exact ⟨rfl, HL.out.bel⟩
        · have e2 : (((S k).size : Int) == 6) = false := by simp; omega
          have e3 : ((S k).size == 6) = false := by simpa using h6
          have K6 := Lib.hid h6
          clear h6
          go_wp2_with fail
          refine U.out.mono ?_
          intro e w2 hp
          obtain ⟨rfl, T2, hL2, _⟩ := HL.out.op hp
          have R := Lib.hid hL2
          clear hp hL2 U
          unfold St.step
          go_wp2_with fail
          go_roundw
          case rel => exact ⟨k + 1, T2, _, by go_num, by omega, R.out, (req_mo _ _).trans HM.out, fun x hx => by rcases req_all hx with h | h; exact H6.out x h; rw [h]; exact K6.out⟩
          case measure => simp [intOf]; omega
      · have e1 : decide (200 < ((S k).size : Int)) = true := by simp; omega
        go_wp2_with fail
        go_ret
        exact ⟨rfl, HL.out.bel⟩
    · have e0 : decide (k < n) = false := by simpa using hlt
      obtain rfl : k = n := by omega
      have hok := Lib.hid HL.out.ca.ok
      have htot := HL.out.ca.tot
      unfold St.tot at htot
      go_wp2_with fail
      refine (keys_ca wr c T s k HL.out.ca).mono ?_
      rintro e w2 ⟨v2, rfl, hO, hB⟩
      obtain ⟨Al, cl, rfl⟩ := hO.len
      have L2 := Lib.hid (HL.out.below hB)
      obtain ⟨gl, hgl, hRow⟩ := hO.row
      have hgT : ¬ T gl := fun h => by have := HL.out.lt _ h; omega
      obtain ⟨a, ha⟩ : ∃ a, a = s.A.length := ⟨_, rfl⟩
      obtain ⟨q, hq⟩ : ∃ q, q = s.N.length := ⟨_, rfl⟩
      obtain ⟨x, hx⟩ : ∃ x, x = (s.A ++ s.N).reverse.length := ⟨_, rfl⟩
      have hxa : x = a + q := by rw [hx, List.length_reverse, List.length_append, ha, hq]
      rw [← hx] at hRow ⊢
      obtain ⟨Af, f1, f2, hRF⟩ := row_from hRow hx.symm (p := q) (by omega)
      rw [show (s.A ++ s.N).reverse.drop q = s.A.reverse by rw [List.reverse_append, List.drop_append_of_le_length (by rw [List.length_reverse, ← hq]; exact Nat.le_refl _), List.drop_of_length_le (by rw [List.length_reverse, ← hq]; exact Nat.le_refl _), List.nil_append], show x - q = a by omega] at hRF
      rw [show x - q = a by omega] at f1 f2
      have e3 : decide (x < a) = false := by simp; omega
      have hw1 : IntKind.i64.wrap ((x : Int) - (a : Int)) = (q : Int) := by rw [IntWalk.i64_in _ (by omega)]; omega
      have V := again_ca w2 c T s k L2.out.ca
      rw [← ha] at V
      have V := Lib.hid V
      have hqx : q ≤ x := by omega
      have hx2 : x ≤ 100 := by omega
      have ha2 : a ≤ 100 := by omega
      have HA := Lib.hid ha
      have HQ := Lib.hid hq
      have HX := Lib.hid hxa
      have E0 := Lib.hid (show Own (w2.alloc (.cells #[] 9)) w2.heap.size (.slice (some ⟨w2.heap.size, 0, none⟩) 0 0) [] from by
        have := own_made w2 0 (by omega)
        rw [show madeCells #[Value.string ⟨#[]⟩] 0 = #[] from Array.eq_empty_of_size_eq_zero (by simp [madeCells])] at this
        exact this)
      have bE := (Below.refl w2.heap.size w2).alloc (Nat.le_refl _) (.cells #[] 9)
      obtain ⟨vk, w3, hrun, hOk, hgk⟩ := app_row E0.out (hRF.below bE) (by rw [List.length_reverse, ← ha]; simp; omega) (by simp)
      have RUN := Lib.hid hrun
      have KO := Lib.hid hOk
      have B3 := Lib.hid (show Below w2.heap.size w2 w3 from bE.grown hgk (by simp) (fun k hk => by simp [Value.ownBlock] at hk; omega))
      have L3 := Lib.hid (L2.out.below B3.out)
      clear hO hB e0 hxa ha hq hx hRow hRF hrun hOk hgk bE E0
      go_wp2_with fail
      refine V.out.mono ?_
      rintro e w2 ⟨rfl, rfl⟩
      by_cases hfull : a = mo
      · have e4 : ((a : Int) == (mo : Int)) = true := by simp; omega
        have e5 : (a == mo) = true := by simpa using hfull
        have V2 := len_ca w3 c T s k L3.out.ca
        rw [← HA.out, ← HQ.out] at V2
        have hle := hok.out.le
        rw [← HA.out, ← HQ.out, HM.out] at hle
        have hq0 : q = 0 := by omega
        rw [hq0] at V2
        have V2 := Lib.hid V2
        have e6 : (((0 + a : Nat) : Int) == (mo : Int)) = true := by simp; omega
        have e7 : (0 + a == mo) = true := by simp; omega
        clear hfull hle hq0
        go_wp2_with (at_builtin; refine wpList_append_run rfl _ _ _ rfl _ _ _ _ rfl rfl RUN.out ?_)
        refine V2.out.mono ?_
        rintro e w4 ⟨rfl, n4, hw4⟩
        have B4 := Lib.hid (show Below w.heap.size w w4 by rw [hw4]; exact L3.out.bel.trans ((below_drewN _ n4).mono L3.out.bel.size))
        clear hw4
        go_wp2_with fail
        go_ret
        exact ⟨rfl, B4.out⟩
      have hle := hok.out.le
      rw [← HA.out, ← HQ.out, HM.out] at hle
      have halt := Lib.hid (show a < mo by omega)
      have e4 : ((a : Int) == (mo : Int)) = false := by simp; omega
      have e5 : (a == mo) = false := by simpa using hfull
      clear hfull hle
      go_wp2_with (at_builtin; refine wpList_append_run rfl _ _ _ rfl _ _ _ _ rfl rfl RUN.out ?_)
      have M3 := Lib.hid (Mine.made (KO.out.mono (Nat.le_refl _)) L2.out.ca)
      obtain ⟨Ak, ck, rfl⟩ := KO.out.len
      have hkl : ([] ++ s.A.reverse).length = a := by rw [List.nil_append, List.length_reverse]; exact HA.out.symm
      rw [hkl] at M3 ⊢
      rw [List.nil_append] at M3
      clear KO RUN hkl f1 f2 e3 e4 e5 hw1
      have I0 := Lib.hid (show ScanI mo s.A s 0 from ⟨HM.out, rfl, fun x hx => Or.inl (H6.out x hx)⟩)
      obtain ⟨A0, hA0⟩ : ∃ A0, A0 = s.A := ⟨_, rfl⟩
      rw [← hA0] at I0 M3 HA
      clear hA0 L2
      go_loopw [12] (fun z W => ScanR A0 mo c sc w (.slice Ak a ck) z W) (fun z _ => sc - (intOf z).toNat)
      case atStart => exact ⟨0, T, s, k, rfl, Nat.zero_le _, by omega, L3.out, I0.out, M3.out⟩
      case round =>
        obtain ⟨j, T4, s4, b4, rfl, hj, hb4, hL4, hI4, hM4⟩ := hrel
        have L4 := Lib.hid hL4
        have I4 := Lib.hid hI4
        have M4 := Lib.hid hM4
        clear hL4 hI4 hM4 L3 I0 M3
        by_cases hlt2 : j < sc
        · have e1 : decide (j < sc) = true := by simpa using hlt2
          have hcv := conv_one wr (j := j) (by omega)
          have hbw := (Below.refl wr.heap.size wr).alloc (Nat.le_refl _) (.cells #[.int .u8 (j : Int)] 5)
          have R := request_ca _ c T4 s4 b4 (scanK j) (L4.out.below hbw).ca (by rw [scanK_size]; unfold maxLen; omega) (by omega)
          unfold St.step at R
          rw [I4.out.hit (by omega)] at R
          have L5 := Lib.hid (L4.out.below hbw)
          have M5 := Lib.hid (M4.out.below hbw)
          have I5 := Lib.hid (I4.out.next (j := j) (by omega) (by rw [← HA.out]; exact halt.out))
          have R := Lib.hid (show Calls Try.prog 13 #[.pointer (some ⟨c, 0, none⟩), .string ((⟨#[115, 99, 97, 110, 32]⟩ : ByteArray) ++ ⟨#[UInt8.ofNat j]⟩)] _ _ from R)
          generalize s4.vic (scanK j) = vk at R
          generalize s4.out (scanK j) = ok at R
          generalize s4.req (scanK j) = s5 at R I5
          clear hbw L4 M4 I4
          go_wp2_with fail
          refine R.out.mono ?_
          intro e w5 hp
          obtain ⟨rfl, T5, hL5, hW5⟩ := L5.out.op hp
          have bS := (Below.refl w5.heap.size w5).alloc (Nat.le_refl _) (sObj false vk ok)
          have L6 := Lib.hid (hL5.below bS)
          have M6 := Lib.hid ((M5.out.went hW5 hL5.lt).below bS)
          have B6 := Lib.hid (show Box (w5.alloc (sObj false vk ok)) w5.heap.size false vk ok from heap_alloc_new _ _)
          clear hp hL5 hW5 bS R L5 M5 hcv
          go_upto_region 25 with fail
          generalize w5.alloc (sObj false vk ok) = w6 at L6 M6 B6 ⊢
          generalize w5.heap.size = sb at B6 ⊢
          obtain ⟨d0, d1, d2, _, _⟩ := B6.out.cells
          have V1 := again_ca w6 c T5 s5 (b4 + 1) L6.out.ca
          rw [I5.out.A, ← HA.out] at V1
          have V1 := Lib.hid V1
          have V2 := Lib.hid (len_ca w6 c T5 s5 (b4 + 1) L6.out.ca)
          have hle := L6.out.ca.ok.le
          rw [I5.out.m] at hle
          obtain ⟨ln, hln⟩ : ∃ ln, ln = s5.N.length + s5.A.length := ⟨_, rfl⟩
          rw [← hln] at V2
          have e6 : decide (mo < ln) = false := by simp; omega
          clear hle hln
          go_wp2_with fail
          refine V1.out.mono ?_
          rintro e w6 ⟨rfl, rfl⟩
          go_wp2_with fail
          refine V2.out.mono ?_
          rintro e w7 ⟨rfl, n7, hw7⟩
          have B7 := Lib.hid (show Below w6.heap.size w6 w7 from hw7 ▸ below_drewN w6 n7)
          clear hw7 d0 d1 d2
          go_wp2_with fail
          go_roundw
          case rel => exact ⟨j + 1, T5, s5, b4 + 1, by go_num, by omega, by omega, L6.out.below B7.out, I5.out, M6.out.below B7.out⟩
          case measure => simp [intOf]; omega
        · have e1 : decide (j < sc) = false := by simpa using hlt2
          have hle := L4.out.ca.ok
          have HOK := Lib.hid hle
          clear hle
          go_wp2_with fail
          refine (keys_ca wr c T4 s4 b4 L4.out.ca).mono ?_
          rintro e w5 ⟨v5, rfl, hO, hB⟩
          obtain ⟨A5, c5, rfl⟩ := hO.len
          obtain ⟨q5, hq5⟩ : ∃ q, q = s4.N.length := ⟨_, rfl⟩
          obtain ⟨x5, hx5⟩ : ∃ x, x = (s4.A ++ s4.N).reverse.length := ⟨_, rfl⟩
          have hxa : x5 = a + q5 := by rw [hx5, List.length_reverse, List.length_append, I4.out.A, HA.out, hq5]
          have M5 := Lib.hid (Mine.made hO L4.out.ca)
          have L5 := Lib.hid (L4.out.below hB)
          have N5 := Lib.hid (M4.out.below hB)
          have ED := Lib.hid (show (s4.A ++ s4.N).reverse.drop q5 = A0.reverse by rw [I4.out.A, List.reverse_append, List.drop_append_of_le_length (by rw [List.length_reverse, ← hq5]; exact Nat.le_refl _), List.drop_of_length_le (by rw [List.length_reverse, ← hq5]; exact Nat.le_refl _), List.nil_append])
          rw [← hx5] at M5 ⊢
          have HX5 := Lib.hid hx5.symm
          have htot := L4.out.ca.tot
          unfold St.tot at htot
          rw [I4.out.A, ← HA.out, ← hq5] at htot
          have hxx : x5 ≤ 400 := by omega
          have e7 : decide (a ≤ x5) = true := by simp; omega
          have hw5 : IntKind.i64.wrap ((x5 : Int) - (a : Int)) = (q5 : Int) := by rw [IntWalk.i64_in _ (by omega)]; omega
          have hqx5 : q5 ≤ x5 := by omega
          have hxqa := Lib.hid (show x5 - q5 = a by omega)
          clear hO hB L4 M4 hxa htot hq5 hx5
          go_wp2_with fail
          refine (ghosts_ca w5 c T4 s4 b4 L5.out.ca).mono ?_
          rintro e w6 ⟨v6, rfl, hO, hB⟩
          obtain ⟨A6, c6, rfl⟩ := hO.len
          have G6 := Lib.hid (Mine.made hO L5.out.ca)
          have M6 := Lib.hid (M5.out.below hB)
          have N6 := Lib.hid (N5.out.below hB)
          have L6 := Lib.hid (L5.out.below hB)
          obtain ⟨y, hy⟩ : ∃ y, y = s4.G.length := ⟨_, rfl⟩
          have hym : y ≤ mo := by rw [hy, ← I4.out.m]; exact HOK.out.gl
          have hy4 : y ≤ 400 := by have := L5.out.ca.tot; unfold St.tot at this; omega
          rw [← hy] at G6 ⊢
          have HY := Lib.hid hy
          clear hO hB L5 M5 N5 hy e1
          go_wp2_with fail
          go_loopw [15] (fun z W => ∃ i : Nat, z = .int .i64 (i : Int) ∧ i ≤ y ∧ W = w6) (fun z _ => y - (intOf z).toNat)
          case atStart => exact ⟨0, rfl, Nat.zero_le _, rfl⟩
          case round =>
            obtain ⟨i, rfl, hi, rfl⟩ := hrel
            by_cases hlt3 : i < y
            · have e1 : decide (i < y) = true := by simpa using hlt3
              obtain ⟨gg, hRG, _⟩ := G6.out
              obtain ⟨o6, rfl, hg6, hc6, hx6, hcv6⟩ := hRG.at (k := i) (by rw [← HY.out]; exact hlt3)
              have hmem : s4.G.getD i ⟨#[]⟩ ∈ s4.G := getD_in (by rw [← HY.out]; exact hlt3)
              have hsm := hRG.2.1 _ hmem
              have V := has_ca wr c T4 s4 b4 (s4.G.getD i ⟨#[]⟩) L6.out.ca hsm
              have hno : s4.hit (s4.G.getD i ⟨#[]⟩) = false := by
                have hnd := HOK.out.nd
                unfold St.all at hnd
                have hd := (List.nodup_append.1 hnd).2.2
                unfold St.hit
                rw [inn_no.2 fun h => hd _ (List.mem_append_right _ h) _ hmem rfl, inn_no.2 fun h => hd _ (List.mem_append_left _ h) _ hmem rfl]; rfl
              rw [hno] at V
              have V := Lib.hid V
              generalize s4.G.getD i ⟨#[]⟩ = gk at V hc6
              rw [← HY.out] at hx6
              unfold maxLen at hcv6
              clear hRG hmem hsm hno
              go_wp2_with fail
              refine V.out.mono ?_
              rintro e wr ⟨rfl, rfl⟩
              go_wp2_with fail
              go_roundw
              case rel => exact ⟨i + 1, by go_num, by omega, by first | rfl | trivial⟩
              case measure => simp [intOf]; omega
            · have e1 : decide (i < y) = false := by simpa using hlt3
              have e8 : decide (y ≤ mo) = true := by simpa using hym
              obtain ⟨g5, hR5, _⟩ := M6.out
              obtain ⟨gk, hRk, _⟩ := N6.out
              obtain ⟨Af2, f1, f2, hRF⟩ := row_from hR5 HX5.out hqx5
              rw [ED.out] at hRF
              rw [hxqa.out] at hRF f1 f2
              have U := Lib.hid (refSame_self wr g5 gk _ _ _ hRF hRk)
              have B6 := Lib.hid L6.out.bel
              clear hR5 hRk hRF M6 N6 L6 G6
              go_wp2_with fail
              refine U.out.mono ?_
              rintro e w7 ⟨rfl, n7, hw7⟩
              have B7 := Lib.hid (show Below w.heap.size w w7 by rw [hw7]; exact B6.out.trans ((below_drewN _ n7).mono B6.out.size))
              clear hw7
              go_wp2_with fail
              go_ret
              exact ⟨rfl, B7.out⟩

theorem walk_srlruScan (a0 : Int) (v1 : Value) (a2 : Int) (w : World) (w0 : (Lit.int .i64 a0).wf = true) (w1 : CameS w v1) (w2 : (Lit.int .u8 a2).wf = true) : Calls Try.prog 4 #[.int .i64 a0, v1, .int .u8 a2] w (RetB true w) := by
  obtain ⟨A, n, c, rfl, hn, S, hr, hc⟩ := w1
  have hz := i64_rng w0
  obtain ⟨sc, rfl, hsc⟩ := u8_nat w2
  by_cases hok : n ≤ 100 ∧ 1 ≤ a0
  · obtain ⟨h1, h3⟩ := hok
    obtain ⟨mo, rfl⟩ : ∃ m : Nat, a0 = (m : Int) := ⟨a0.toNat, by omega⟩
    exact scan_main mo sc A n c w S (by omega) (by omega) hsc h1 hr hc
  · have P := Lib.hid (show (decide (100 < (n : Int)) = true) ∨ (decide (100 < (n : Int)) = false ∧ decide (a0 < 1) = true) by
      simp only [decide_eq_true_eq, decide_eq_false_iff_not]; omega)
    unfold maxLen at hn
    clear hr hc w0 hok
    rcases P.out with e0 | ⟨e0, e1⟩
    all_goals
      go_enter Try.func4, Try.ntmps4
      go_wp2_with fail
      refine (awake_any _).mono ?_
      rintro e w0 ⟨rfl, hb0⟩
      go_wp2_with fail
      go_ret
      exact ⟨rfl, hb0⟩

namespace LSrlruScan
set_option maxRecDepth 100000 in
theorem lifted (os : Os) (started : os.Started) (H : Type) (enc : TypeId × Value → H) :
    ReturnsInHanded {} Try.checked os 4 .any (Rows.srlruScanSpec.pre6 enc Try.prog Try.f4 Rows.srlruScanRow.domain false) (Rows.srlruScanSpec.post enc Try.prog Try.f4 false true false false) := by
  refine returnsInHanded_of_change (C := Try.checked) own started (by kernel_rfl) Try.func4
    (ChangeSpec.witness6 (enc := enc) (C := Try.checked) false ⟨#[], #[.int .i64 0, .slice none 0 0, .int .u8 0], []⟩ 8 (by kernel_rfl) (by kernel_rfl) (by kernel_rfl) (by kernel_rfl)) ?_
  intro W base args ds gs before hval0 hW _ _
  have hval : ∀ (j : Nat) t v, Try.f4.params[j]? = some t → args[j]? = some v → Value.okWide Try.prog W .any base t v := hval0
  have hW' := hW
  obtain ⟨p, q, hA0, hV, rfl, hfz, hnd⟩ := hW
  have hA : DataW.TrodAll enc Try.prog W 0 (fun _ => true) true Try.f4.params.toList args.toList ds p := hA0
  rw [Try.params4] at hA hval
  obtain ⟨v0, vs0, d0, ds0, p0, q0, hargs, rfl, rfl, h0, r0⟩ := trodAll_cons hA
  obtain ⟨v1, vs1, d1, ds1, p1, q1, rfl, rfl, rfl, h1, r1⟩ := trodAll_cons r0
  obtain ⟨v2, vs2, d2, ds2, p2, q2, rfl, rfl, rfl, h2, r2⟩ := trodAll_cons r1
  obtain ⟨rfl, rfl, rfl⟩ := trodAll_nil r2
  obtain rfl : args = #[v0, v1, v2] := by cases args; simp_all
  obtain ⟨rfl, rfl⟩ := trodVars_none hV
  obtain ⟨a0, rfl, rfl, rfl, w0⟩ := open_int Try.underlying3 (hval 0 3 v0 rfl rfl) h0
  have k1 := h1
  have lt1 : ∀ x ∈ p1, x.block < W.heap.size := by obtain ⟨m, hm⟩ := k1; exact DataW.trod_lt m _ _ _ hm
  have w1 := open_z (hval 1 47 v1 rfl rfl) h1
  obtain ⟨a2, rfl, rfl, rfl, w2⟩ := open_int Try.underlying5 (hval 2 5 v2 rfl rfl) h2
  clear hA0 hval0
  refine (walk_srlruScan a0 v1 a2 W w0 w1 w2).mono fun e W' ⟨he, bel⟩ => ?_
  subst he
  exact ⟨_, rfl, _, _, _, [], _, [], hW', trodAll_mk1 (shut_bool Try.underlying4 _), (trodAll_cons_mk (shut_int Try.underlying3 w0) (trodAll_cons_mk (Below.trod laidOut (by kernel_rfl) (of_decide_eq_true (by kernel_rfl)) k1 bel lt1) (trodAll_cons_mk (shut_int Try.underlying5 w2) trodAll_mk0))), rfl, bel.frame _, fun h => by cases h⟩

theorem said : Rows.SrlruScanSaid :=
  OpenClaim.holds_of_wide 4 Try.f4 rfl rfl rfl rfl rfl rfl rfl ⟨rfl, rfl, rfl, rfl, rfl⟩ rfl rfl rfl rfl rfl (by kernel_rfl) Try.func4 (by kernel_rfl)
    (of_decide_eq_true (by kernel_rfl)) (by unfold Func.isWrapper; rw [if_neg (of_decide_eq_false (by kernel_rfl))]; exact ⟨rfl, rfl⟩)
    (fun os started H enc _ => lifted os started H enc)
#print axioms said
end LSrlruScan
end Go.Proofs.Ytmnflcidcoejiaa
