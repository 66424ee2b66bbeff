/- 'cachewiselaw08.ArcComesBack' returns true for every size, every row of keys and every number, and leaves what was there as it was. No condition. -/
import Derived.Test.YtlmbeiijijkjeaaWn
import Derived.Deep.DeepCutAuto
import Derived.Deep.CutBlock
namespace Go.Proofs.Ytlmbeiijijkjeaa
open Go.ChangeShapes Go.WideShapes Go.ChangeAt Go.RowKit Sg

set_option maxHeartbeats 4000000 in
set_option maxRecDepth 100000 in
theorem back_main (mo wh : Nat) (A : Option Addr) (n cc : Nat) (w : World) (S : Nat → ByteArray) (h1m : 1 ≤ mo) (hmo : mo ≤ 1000) (hwh : wh ≤ 9223372036854775807) (hn : n ≤ 200) (hS : ∀ i, i < n → (S i).size ≤ maxLen)
    (hc : 0 < n → ∃ g o, A = some ⟨g, o, none⟩ ∧ g < w.heap.size ∧ n ≤ cc ∧ cc ≤ maxLen ∧ ∀ i, i < n → w.cell? ⟨g, o + i, none⟩ = some (.string (S i))) :
    Calls Try.prog 5 #[.int .i64 (mo : Int), .slice A n cc, .int .i64 (wh : Int)] w (RetB true w) := by
  have e0 : decide (200 < (n : Int)) = false := by simp; omega
  have e2 : decide ((mo : Int) < 1) = false := by simp; omega
  have e3 : decide (1000 < (mo : Int)) = false := by simp; omega
  have e4 : decide ((wh : Int) < 0) = false := by simp
  have HC := Lib.hid hc
  have HS := Lib.hid hS
  clear hc hS
  go_enter Try.func5, Try.ntmps5
  go_wp2_with fail
  refine (awake_any _).mono ?_
  rintro e w0 ⟨rfl, hb0⟩
  have b0 := Lib.hid hb0; clear hb0
  go_wp2_with fail
  refine (show Calls Try.prog 9 #[.int .i64 (mo : Int)] w0 (NewS (St.start mo) w0) from new_ca w0 (mo : Int) (by omega)).mono ?_
  rintro e w1 ⟨c, T1, rfl, hC, hT, hB⟩
  have L1 := Lib.hid (Live.made b0.out hC hT hB)
  clear hC hT hB b0
  go_wp2_with fail
  clear e0 e2 e3 e4
  go_loopw [8] (fun i W => Fill S n c mo w i W) (fun i _ => n - (intOf i).toNat)
  case atStart => exact ⟨0, T1, rfl, Nat.zero_le _, L1.out⟩
  case round =>
    obtain ⟨k, T, rfl, hk, hL⟩ := hrel
    have HL := Lib.hid hL
    clear hL L1
    by_cases hlt : k < n
    · have e0 : decide (k < n) = true := by simpa using hlt
      obtain ⟨g, o, rfl, hg, hc1, hc2, hcell⟩ := HC.out (by omega)
      have h1 := (HL.out.bel.cell (p := ⟨g, o + k, none⟩) hg).trans (hcell k hlt)
      have hsk := HS.out k hlt
      clear hcell
      unfold maxLen at hc2
      have U := Lib.hid (request_ca wr c T (stI S mo k) k (S k) HL.out.ca hsk (by omega))
      unfold maxLen at hsk
      by_cases hbig : (S k).size ≤ 200
      · have e1 : decide (200 < ((S k).size : Int)) = false := by simp; omega
        go_wp2_with fail
        refine U.out.mono ?_
        intro e w2 hp
        obtain ⟨rfl, hF⟩ := Fill.next hlt HL.out hp
        have F := Lib.hid hF
        clear hp hF U HL
        unfold St.step
        go_wp2_with fail
        go_roundw
        case rel =>
          obtain ⟨k2, T2, h1, h2, h3⟩ := F.out
          exact ⟨k2, T2, by rw [← h1]; go_num, h2, h3⟩
        case measure => simp [intOf]; omega
      · have e1 : decide (200 < ((S k).size : Int)) = true := by simp; omega
        go_wp2_with fail
        go_ret
        exact ⟨rfl, HL.out.bel⟩
    · have e0 : decide (k < n) = false := by simpa using hlt
      obtain rfl : k = n := by omega
      have hms : (stI S mo k).mo = mo := stI_mo S mo k
      have HM := Lib.hid hms
      clear hms
      generalize stI S mo k = s at *
      have OK := Lib.hid HL.out.ca.ok
      have htot := HL.out.ca.tot
      go_wp2_with fail
      refine (ghosts_ca wr c T s k HL.out.ca).mono ?_
      rintro e w2 ⟨v2, rfl, hO, hB⟩
      obtain ⟨Al, cl, rfl⟩ := hO.len
      have L2 := Lib.hid (HL.out.below hB)
      have M2 := Lib.hid (show Mine w2 T _ (ghL s.R) from Mine.made hO HL.out.ca)
      obtain ⟨x, hx⟩ : ∃ x, x = (ghL s.R).length := ⟨_, rfl⟩
      have hxl : (s.R 2 ++ s.R 3).length = x := hx.symm
      have hx2 : x ≤ 200 := by
        have h1 : x = (s.R 2).length + (s.R 3).length := by rw [← hxl, List.length_append]
        unfold totR at htot
        omega
      rw [hxl] at M2 ⊢
      have HX := Lib.hid (show (ghL s.R).length = x from hxl)
      clear hO hB HL hxl hx htot
      by_cases h0 : x = 0
      · subst h0
        go_wp2_with fail
        go_ret
        exact ⟨rfl, L2.out.bel⟩
      · have hxp : 0 < x := by omega
        have e5 : ((x : Int) == 0) = false := by simp; omega
        have e6 : (x == 0) = false := by simp; omega
        have e7 : (x : Int) ≠ 0 := by omega
        obtain ⟨j, hj⟩ : ∃ j, j = wh % x := ⟨_, rfl⟩
        have hjx : j < x := by rw [hj]; exact Nat.mod_lt _ hxp
        have e9 : (wh : Int).tmod (x : Int) = (j : Int) := by rw [hj, Int.tmod_eq_emod_of_nonneg (by omega)]; rfl
        have e10 : IntKind.i64.wrap (j : Int) = (j : Int) := IntWalk.i64_in _ (by omega)
        have HGET := Lib.hid (ghL_get (R := s.R) (j := j) (by rw [HX.out]; exact hjx))
        have hkm := getD_in (xs := ghL s.R) (j := j) (by rw [HX.out]; exact hjx)
        obtain ⟨key, hkey⟩ : ∃ key, key = (ghL s.R).getD j ⟨#[]⟩ := ⟨_, rfl⟩
        have HKEY := Lib.hid hkey
        rw [← hkey] at hkm HGET
        have hgh : key ∈ s.R 2 ∨ key ∈ s.R 3 := List.mem_append.1 hkm
        have hks : key.size ≤ maxLen := hgh.elim (L2.out.ca.small 2 (by omega) key) (L2.out.ca.small 3 (by omega) key)
        have HH := Lib.hid hgh
        clear hkm hkey hgh hj
        go_wp2_with fail
        refine (sizes_ca w2 c T s k L2.out.ca).mono ?_
        rintro e w4 ⟨rfl, hB⟩
        have L4 := Lib.hid (L2.out.below hB)
        have M4 := Lib.hid (M2.out.below hB)
        clear hB L2 M2 e7 e9 e10 e5 e6
        have HBA := Lib.hid (back_all OK.out (show s.mo ≠ 0 by rw [HM.out]; omega) HH.out)
        have HS1 := Lib.hid (fun (h : key ∈ s.R 2) => back_b1 OK.out (show s.mo ≠ 0 by rw [HM.out]; omega) h)
        have HS2 := Lib.hid (fun (h : key ∈ s.R 3) => back_b2 OK.out (show s.mo ≠ 0 by rw [HM.out]; omega) h)
        have HPL := Lib.hid (And.intro OK.out.pl (OK.out.req key).pl)
        have HMR := Lib.hid (show (s.req key).mo = mo from (req_mo s key).trans HM.out)
        rw [HM.out] at HS1
        obtain ⟨p, hp⟩ : ∃ p, p = s.p := ⟨_, rfl⟩
        obtain ⟨n0, h0'⟩ : ∃ n, n = (s.R 0).length := ⟨_, rfl⟩
        obtain ⟨n1, h1'⟩ : ∃ n, n = (s.R 1).length := ⟨_, rfl⟩
        obtain ⟨n2, h2'⟩ : ∃ n, n = (s.R 2).length := ⟨_, rfl⟩
        obtain ⟨n3, h3'⟩ : ∃ n, n = (s.R 3).length := ⟨_, rfl⟩
        rw [← h2'] at HGET
        rw [← h0', ← h1', ← h2', ← h3']
        have HPP := Lib.hid hp
        have b5 := (Below.refl w4.heap.size w4).alloc (Nat.le_refl _) (.cells #[.int .i64 (n0 : Int), .int .i64 (n1 : Int), .int .i64 (n2 : Int), .int .i64 (n3 : Int)] 42)
        have L5 := Lib.hid (L4.out.below b5)
        have M5 := Lib.hid (M4.out.below b5)
        have Z5 := Lib.hid (Four.made w4 L4.out.lt n0 n1 n2 n3)
        clear b5 L4 M4 h0' h1' h2' h3'
        go_upto_region 19 with fail
        generalize w4.alloc (.cells #[.int .i64 (n0 : Int), .int .i64 (n1 : Int), .int .i64 (n2 : Int), .int .i64 (n3 : Int)] 42) = w5 at L5 M5 Z5 ⊢
        generalize w4.heap.size = zb at Z5 ⊢
        have SH := share_ca w5 c T s k L5.out.ca
        rw [← hp] at SH HS1 HS2
        clear hp
        have SH := Lib.hid SH
        go_wp2_with fail
        refine SH.out.mono ?_
        rintro e w5 ⟨rfl, rfl⟩
        obtain ⟨v, o, hst, hin, hht, hno, hla, hpo⟩ := HBA.out
        have R := request_ca w5 c T s k key L5.out.ca hks (by omega)
        rw [hst] at R
        have HIN := Lib.hid hin
        have HHT := Lib.hid hht
        have HNO := Lib.hid hno
        have HLA := Lib.hid hla
        have HPO := Lib.hid hpo
        clear hst hin hht hno hla hpo HBA SH
        generalize s.req key = s2 at *
        have R := Lib.hid R
        obtain ⟨gl, hRow, hgl⟩ := M5.out
        obtain ⟨ol, hAl, hg2, hc3, hc4, hc5⟩ := hRow.at (k := j) (by rw [HX.out]; exact hjx)
        rw [← HKEY.out] at hc3
        rw [HX.out] at hc4
        rw [hAl]
        unfold maxLen at hc5
        have HCL := Lib.hid (And.intro hg2 (And.intro hc3 hgl))
        clear hRow hgl hAl M5
        go_wp2_with fail
        refine R.out.mono ?_
        intro e w6 hp
        obtain ⟨rfl, T6, hL6, hW6⟩ := L5.out.op hp
        have hcg := went_out hW6 HCL.out.1 HCL.out.2.2
        have b6 := (Below.refl w6.heap.size w6).alloc (Nat.le_refl _) (sObj false v o)
        have hg6 : gl < w6.heap.size := Nat.lt_of_lt_of_le hg2 hW6.turn.size
        have HC6 := Lib.hid (show gl < w6.heap.size ∧ w6.cell? ⟨gl, ol + j, none⟩ = some (.string key) from ⟨hg6, by
          have h1 := HCL.out.2.1
          unfold World.cell? at h1 ⊢
          rw [hcg.1]; exact h1⟩)
        have hc7 := (b6.cell (p := ⟨gl, ol + j, none⟩) hg6).trans HC6.out.2
        have L6 := Lib.hid (hL6.below b6)
        have Z6 := Lib.hid ((Z5.out.went hW6).below b6)
        have X6 := Lib.hid (Bx.made w6 hL6.lt false o v)
        have HC7 := Lib.hid (show gl < (w6.alloc (sObj false v o)).heap.size ∧ (w6.alloc (sObj false v o)).cell? ⟨gl, ol + j, none⟩ = some (.string key) from ⟨Nat.lt_of_lt_of_le hg6 b6.size, hc7⟩)
        clear hp hL6 hW6 b6 R L5 Z5 HC6 hc7 hg6 hcg HCL hc3
        go_upto_region 21 with fail
        generalize w6.alloc (sObj false v o) = w7 at L6 Z6 X6 HC7 ⊢
        generalize w6.heap.size = sb at X6 ⊢
        have V := Lib.hid (show Calls Try.prog 16 #[.pointer (some ⟨c, 0, none⟩)] w7 (RowPost (keysL s2.R) w7) from keys_ca w7 c T6 s2 (k + 1) L6.out.ca)
        go_wp2_with fail
        refine V.out.mono ?_
        rintro e wa ⟨v8, rfl, hO, hB⟩
        obtain ⟨A8, c8, rfl⟩ := hO.len
        obtain ⟨gk, _, hRk⟩ := hO.row
        have La := Lib.hid (L6.out.below hB)
        have Za := Lib.hid (Z6.out.below hB)
        have Xa := Lib.hid (X6.out.below hB)
        have Ca' := Lib.hid (show gl < wa.heap.size ∧ wa.cell? ⟨gl, ol + j, none⟩ = some (.string key) from ⟨Nat.lt_of_lt_of_le HC7.out.1 hB.size, (hB.cell (p := ⟨gl, ol + j, none⟩) HC7.out.1).trans HC7.out.2⟩)
        clear hO hB L6 Z6 X6 V HC7
        obtain ⟨y, hy⟩ : ∃ y, y = (keysL s2.R).length := ⟨_, rfl⟩
        have hyt : y ≤ 201 := by
          have h1 := La.out.ca.tot
          have h2 : lenR s2.R ≤ totR s2.R := by unfold lenR totR; omega
          rw [keysL_len] at hy
          omega
        have hyp := HPO.out
        rw [← hy] at hRk hyp ⊢
        have HY := Lib.hid hy.symm
        obtain ⟨y', hy'⟩ : ∃ y', y' = y - 1 := ⟨_, rfl⟩
        have hyw : IntKind.i64.wrap ((y : Int) - 1) = (y' : Int) := by rw [IntWalk.i64_in _ (by omega)]; omega
        have hyy : y' < y := by omega
        obtain ⟨ok, hA8, hg8, hc8, hc9, hc10⟩ := hRk.at (k := y') (by rw [HY.out]; exact hyy)
        have hlast := HLA.out
        rw [HY.out, ← hy'] at hlast
        rw [hlast] at hc8
        rw [HY.out] at hc9
        rw [hA8]
        have e11 := beqS_yes (rfl : key = key)
        have V1 := Lib.hid (fun (W : World) (h : Below wa.heap.size wa W) => (HHT.out ▸ has_ca W c T6 s2 (k + 1) key (La.out.ca.below h) hks : Calls Try.prog 11 #[.pointer (some ⟨c, 0, none⟩), .string key] W (BoolPost true W)))
        have V2 := Lib.hid (show ∀ W, Below wa.heap.size wa W → Calls Try.prog 17 #[.pointer (some ⟨c, 0, none⟩)] W (RowPost (ghL s2.R) W) from fun W h => ghosts_ca W c T6 s2 (k + 1) (La.out.ca.below h))
        have D0 := Lib.hid (show Below wa.heap.size wa wa.drew from ⟨rfl, rfl, rfl, Nat.le_refl _, fun _ _ => rfl⟩)
        have FF := Lib.hid (show ∀ W, Below wa.heap.size wa W → W.cell? ⟨sb, 0, none⟩ = some (.bool false) ∧ W.cell? ⟨gl, ol + j, none⟩ = some (.string key) ∧ W.cell? ⟨gk, ok + y', none⟩ = some (.string key) from fun W h =>
          ⟨(Xa.out.below h).box.cells.1, (h.cell (p := ⟨gl, ol + j, none⟩) Ca'.out.1).trans Ca'.out.2, (h.cell (p := ⟨gk, ok + y', none⟩) hg8).trans hc8⟩)
        unfold maxLen at hc10
        clear hRk hlast hy' hyp hA8 hc8 hy
        go_upto_region 22 with fail
        refine wp_region_noPanic ?_
        refine wp_region_held_drew (S := fun w' => w'.cell? ⟨sb, 0, none⟩ = some (.bool false) ∧ w'.cell? ⟨gl, ol + j, none⟩ = some (.string key) ∧ w'.cell? ⟨gk, ok + y', none⟩ = some (.string key)) (by kernel_rfl) ?_ (fun hHeld => ?_)
        · exact FF.out wa (Below.refl _ _)
        refine wpAnyH_take (i := 0) (oi := { dst := some 74, op := Go.Op.fieldAddr 30 (Go.Operand.tmp 12) 0, type := 0, pos := "law.go:191", after := #[], guard := none }) (v := ?_) rfl (by kernel_rfl) (by kernel_rfl) (by kernel_rfl) (fun _ _ _ h => h) (Or.inl ⟨by rfl, ?_⟩) (by assumption) ?_
        rotate_left
        · (intro w hSw; (try dsimp only at hSw); go_simp; (try with_reducible rfl))
        (try simp only [Act.put, List.setIfInBounds_toArray, List.set_cons_zero, List.set_cons_succ])
        refine wpAnyH_take (i := 1) (oi := { dst := some 75, op := Go.Op.load 4 (Go.Operand.tmp 74), type := 4, pos := "law.go:191", after := #[{ on := 0, ground := Go.Ground.data }], guard := none }) (v := ?_) rfl (by kernel_rfl) (by kernel_rfl) (by kernel_rfl) (fun _ _ _ h => h) (Or.inl ⟨by rfl, ?_⟩) (by assumption) ?_
        rotate_left
        · (intro w hSw; (try dsimp only at hSw); go_simp; (try with_reducible rfl))
        (try simp only [Act.put, List.setIfInBounds_toArray, List.set_cons_zero, List.set_cons_succ])
        refine wpAnyH_take (i := 2) (oi := { dst := some 76, op := Go.Op.move (Go.Operand.tmp 75), type := 4, pos := "law.go:191", after := #[{ on := 1, ground := Go.Ground.data }], guard := none }) (v := ?_) rfl (by kernel_rfl) (by kernel_rfl) (by kernel_rfl) (fun _ _ _ h => h) (Or.inl ⟨by rfl, ?_⟩) (by assumption) ?_
        rotate_left
        · (intro w hSw; (try dsimp only at hSw); go_simp; (try with_reducible rfl))
        (try simp only [Act.put, List.setIfInBounds_toArray, List.set_cons_zero, List.set_cons_succ])
        refine wpAnyH_take (i := 3) (oi := { dst := some 77, op := Go.Op.move (Go.Operand.tmp 7), type := 25, pos := "law.go:191", after := #[{ on := 2, ground := Go.Ground.guard }], guard := some (2, false) }) (v := ?_) rfl (by kernel_rfl) (by kernel_rfl) (by kernel_rfl) (fun _ _ _ h => h) (Or.inl ⟨by rfl, ?_⟩) (by assumption) ?_
        rotate_left
        · (intro w hSw; (try dsimp only at hSw); go_simp; (try with_reducible rfl))
        (try simp only [Act.put, List.setIfInBounds_toArray, List.set_cons_zero, List.set_cons_succ])
        refine wpAnyH_take (i := 4) (oi := { dst := some 78, op := Go.Op.move (Go.Operand.tmp 9), type := 35, pos := "law.go:191", after := #[{ on := 2, ground := Go.Ground.guard }], guard := some (2, false) }) (v := ?_) rfl (by kernel_rfl) (by kernel_rfl) (by kernel_rfl) (fun _ _ _ h => h) (Or.inl ⟨by rfl, ?_⟩) (by assumption) ?_
        rotate_left
        · (intro w hSw; (try dsimp only at hSw); go_simp; (try with_reducible rfl))
        (try simp only [Act.put, List.setIfInBounds_toArray, List.set_cons_zero, List.set_cons_succ])
        refine wpAnyH_take (i := 5) (oi := { dst := some 79, op := Go.Op.move (Go.Operand.tmp 2), type := 3, pos := "law.go:191", after := #[{ on := 2, ground := Go.Ground.guard }], guard := some (2, false) }) (v := ?_) rfl (by kernel_rfl) (by kernel_rfl) (by kernel_rfl) (fun _ _ _ h => h) (Or.inl ⟨by rfl, ?_⟩) (by assumption) ?_
        rotate_left
        · (intro w hSw; (try dsimp only at hSw); go_simp; (try with_reducible rfl))
        (try simp only [Act.put, List.setIfInBounds_toArray, List.set_cons_zero, List.set_cons_succ])
        refine wpAnyH_take (i := 6) (oi := { dst := some 80, op := Go.Op.indexAddr 35 (Go.Operand.tmp 78) (Go.Operand.tmp 79), type := 0, pos := "law.go:191", after := #[{ on := 4, ground := Go.Ground.data }, { on := 5, ground := Go.Ground.data }, { on := 2, ground := Go.Ground.guard }], guard := some (2, false) }) (v := ?_) rfl (by kernel_rfl) (by kernel_rfl) (by kernel_rfl) (fun _ _ _ h => h) (Or.inl ⟨by rfl, ?_⟩) (by assumption) ?_
        rotate_left
        · (intro w hSw; (try dsimp only at hSw); go_simp; (try with_reducible rfl))
        (try simp only [Act.put, List.setIfInBounds_toArray, List.set_cons_zero, List.set_cons_succ])
        refine wpAnyH_take (i := 7) (oi := { dst := some 81, op := Go.Op.load 9 (Go.Operand.tmp 80), type := 9, pos := "law.go:191", after := #[{ on := 6, ground := Go.Ground.data }, { on := 2, ground := Go.Ground.guard }], guard := some (2, false) }) (v := ?_) rfl (by kernel_rfl) (by kernel_rfl) (by kernel_rfl) (fun _ _ _ h => h) (Or.inl ⟨by rfl, ?_⟩) (by assumption) ?_
        rotate_left
        · (intro w hSw; (try dsimp only at hSw); go_simp; (try with_reducible rfl))
        (try simp only [Act.put, List.setIfInBounds_toArray, List.set_cons_zero, List.set_cons_succ])
        refine wpAnyH_ready (rs := [8]) (by kernel_rfl) (by simp) ?_
        refine AllReadyH.cons (o := { dst := some 82, op := Go.Op.call { callee := Go.Callee.value (Go.Operand.func 11), args := #[Go.Operand.tmp 77, Go.Operand.tmp 81], argTypes := #[25, 9] }, type := 4, pos := "law.go:191", after := #[{ on := 3, ground := Go.Ground.data }, { on := 7, ground := Go.Ground.data }, { on := 2, ground := Go.Ground.chain }, { on := 2, ground := Go.Ground.guard }], guard := some (2, false) }) rfl (fun K hK => ?_) AllReadyH.nil
        go_simp
        refine (V1.out _ D0.out).mono ?_
        rintro e wx ⟨rfl, rfl⟩
        go_wp2_with fail
        refine hK.out _ _ ?_ (fun hHeld => ?_)
        · exact hHeld
        clear hK K
        (try simp only [Act.put, List.setIfInBounds_toArray, List.set_cons_zero, List.set_cons_succ])
        refine wpAnyH_take (i := 9) (oi := { dst := some 83, op := Go.Op.unOp Go.UnOp.not 4 (Go.Operand.tmp 82), type := 4, pos := "law.go:191", after := #[{ on := 8, ground := Go.Ground.data }, { on := 2, ground := Go.Ground.guard }], guard := some (2, false) }) (v := ?_) rfl (by kernel_rfl) (by kernel_rfl) (by kernel_rfl) (fun _ _ _ h => h) (Or.inl ⟨by rfl, ?_⟩) (by assumption) ?_
        rotate_left
        · (intro w hSw; (try dsimp only at hSw); go_simp; (try with_reducible rfl))
        (try simp only [Act.put, List.setIfInBounds_toArray, List.set_cons_zero, List.set_cons_succ])
        refine wpAnyH_take (i := 10) (oi := { dst := some 84, op := Go.Op.pick (Go.Operand.tmp 76) (Go.Operand.const (Go.Value.bool true)) (Go.Operand.tmp 83), type := 4, pos := "law.go:191", after := #[{ on := 2, ground := Go.Ground.data }, { on := 9, ground := Go.Ground.data }], guard := none }) (v := ?_) rfl (by kernel_rfl) (by kernel_rfl) (by kernel_rfl) (fun _ _ _ h => h) (Or.inl ⟨by rfl, ?_⟩) (by assumption) ?_
        rotate_left
        · (intro w hSw; (try dsimp only at hSw); go_simp; (try with_reducible rfl))
        (try simp only [Act.put, List.setIfInBounds_toArray, List.set_cons_zero, List.set_cons_succ])
        refine wpAnyH_take (i := 11) (oi := { dst := some 85, op := Go.Op.move (Go.Operand.tmp 84), type := 4, pos := "law.go:191", after := #[{ on := 10, ground := Go.Ground.data }, { on := 8, ground := Go.Ground.chain }], guard := none }) (v := ?_) rfl (by kernel_rfl) (by kernel_rfl) (by kernel_rfl) (fun _ _ _ h => h) (Or.inl ⟨by rfl, ?_⟩) (by assumption) ?_
        rotate_left
        · (intro w hSw; (try dsimp only at hSw); go_simp; (try with_reducible rfl))
        (try simp only [Act.put, List.setIfInBounds_toArray, List.set_cons_zero, List.set_cons_succ])
        refine wpAnyH_take (i := 12) (oi := { dst := some 86, op := Go.Op.move (Go.Operand.tmp 7), type := 25, pos := "law.go:191", after := #[{ on := 11, ground := Go.Ground.guard }], guard := some (11, false) }) (v := ?_) rfl (by kernel_rfl) (by kernel_rfl) (by kernel_rfl) (fun _ _ _ h => h) (Or.inl ⟨by rfl, ?_⟩) (by assumption) ?_
        rotate_left
        · (intro w hSw; (try dsimp only at hSw); go_simp; (try with_reducible rfl))
        (try simp only [Act.put, List.setIfInBounds_toArray, List.set_cons_zero, List.set_cons_succ])
        refine wpAnyH_take (i := 14) (oi := { dst := some 88, op := Go.Op.move (Go.Operand.tmp 9), type := 35, pos := "law.go:191", after := #[{ on := 11, ground := Go.Ground.guard }], guard := some (11, false) }) (v := ?_) rfl (by kernel_rfl) (by kernel_rfl) (by kernel_rfl) (fun _ _ _ h => h) (Or.inl ⟨by rfl, ?_⟩) (by assumption) ?_
        rotate_left
        · (intro w hSw; (try dsimp only at hSw); go_simp; (try with_reducible rfl))
        (try simp only [Act.put, List.setIfInBounds_toArray, List.set_cons_zero, List.set_cons_succ])
        refine wpAnyH_take (i := 15) (oi := { dst := some 89, op := Go.Op.move (Go.Operand.tmp 2), type := 3, pos := "law.go:191", after := #[{ on := 11, ground := Go.Ground.guard }], guard := some (11, false) }) (v := ?_) rfl (by kernel_rfl) (by kernel_rfl) (by kernel_rfl) (fun _ _ _ h => h) (Or.inl ⟨by rfl, ?_⟩) (by assumption) ?_
        rotate_left
        · (intro w hSw; (try dsimp only at hSw); go_simp; (try with_reducible rfl))
        (try simp only [Act.put, List.setIfInBounds_toArray, List.set_cons_zero, List.set_cons_succ])
        refine wpAnyH_take (i := 16) (oi := { dst := some 90, op := Go.Op.indexAddr 35 (Go.Operand.tmp 88) (Go.Operand.tmp 89), type := 0, pos := "law.go:191", after := #[{ on := 14, ground := Go.Ground.data }, { on := 15, ground := Go.Ground.data }, { on := 11, ground := Go.Ground.guard }], guard := some (11, false) }) (v := ?_) rfl (by kernel_rfl) (by kernel_rfl) (by kernel_rfl) (fun _ _ _ h => h) (Or.inl ⟨by rfl, ?_⟩) (by assumption) ?_
        rotate_left
        · (intro w hSw; (try dsimp only at hSw); go_simp; (try with_reducible rfl))
        (try simp only [Act.put, List.setIfInBounds_toArray, List.set_cons_zero, List.set_cons_succ])
        refine wpAnyH_take (i := 17) (oi := { dst := some 91, op := Go.Op.load 9 (Go.Operand.tmp 90), type := 9, pos := "law.go:191", after := #[{ on := 16, ground := Go.Ground.data }, { on := 11, ground := Go.Ground.guard }], guard := some (11, false) }) (v := ?_) rfl (by kernel_rfl) (by kernel_rfl) (by kernel_rfl) (fun _ _ _ h => h) (Or.inl ⟨by rfl, ?_⟩) (by assumption) ?_
        rotate_left
        · (intro w hSw; (try dsimp only at hSw); go_simp; (try with_reducible rfl))
        (try simp only [Act.put, List.setIfInBounds_toArray, List.set_cons_zero, List.set_cons_succ])
        refine wpAnyH_ready (rs := [13]) (by kernel_rfl) (by simp) ?_
        refine AllReadyH.cons (o := { dst := some 87, op := Go.Op.call { callee := Go.Callee.value (Go.Operand.func 17), args := #[Go.Operand.tmp 86], argTypes := #[25] }, type := 35, pos := "law.go:191", after := #[{ on := 12, ground := Go.Ground.data }, { on := 11, ground := Go.Ground.chain }, { on := 11, ground := Go.Ground.guard }], guard := some (11, false) }) rfl (fun K hK => ?_) AllReadyH.nil
        go_simp
        refine (V2.out _ D0.out).mono ?_
        rintro e wb ⟨vb, rfl, hO, hB⟩
        have Bb := Lib.hid (show Below wa.heap.size wa wb from ⟨hB.os, hB.tape, hB.output, hB.size, hB.block⟩)
        obtain ⟨gb, _, hRb⟩ := hO.row
        have V3 := Lib.hid (HNO.out ▸ refHas_any wb gb vb _ key hRb : Calls Try.prog 20 #[vb, .string key] wb (BoolPost false wb))
        clear hO hB hRb
        go_wp2_with fail
        refine hK.out _ _ ?_ (fun hHeld => ?_)
        · exact FF.out wb Bb.out
        clear hK K
        (try simp only [Act.put, List.setIfInBounds_toArray, List.set_cons_zero, List.set_cons_succ])
        refine wpAnyH_ready (rs := [18]) (by kernel_rfl) (by simp) ?_
        refine AllReadyH.cons (o := { dst := some 92, op := Go.Op.call { callee := Go.Callee.value (Go.Operand.func 20), args := #[Go.Operand.tmp 87, Go.Operand.tmp 91], argTypes := #[35, 9] }, type := 4, pos := "law.go:191", after := #[{ on := 13, ground := Go.Ground.data }, { on := 17, ground := Go.Ground.data }, { on := 13, ground := Go.Ground.chain }, { on := 11, ground := Go.Ground.guard }], guard := some (11, false) }) rfl (fun K hK => ?_) AllReadyH.nil
        go_simp
        refine V3.out.mono ?_
        rintro e wx ⟨rfl, rfl⟩
        go_wp2_with fail
        refine hK.out _ _ ?_ (fun hHeld => ?_)
        · exact hHeld
        clear hK K
        (try simp only [Act.put, List.setIfInBounds_toArray, List.set_cons_zero, List.set_cons_succ])
        refine wpAnyH_take (i := 19) (oi := { dst := some 93, op := Go.Op.pick (Go.Operand.tmp 85) (Go.Operand.const (Go.Value.bool true)) (Go.Operand.tmp 92), type := 4, pos := "law.go:191", after := #[{ on := 11, ground := Go.Ground.data }, { on := 18, ground := Go.Ground.data }], guard := none }) (v := ?_) rfl (by kernel_rfl) (by kernel_rfl) (by kernel_rfl) (fun _ _ _ h => h) (Or.inl ⟨by rfl, ?_⟩) (by assumption) ?_
        rotate_left
        · (intro w hSw; (try dsimp only at hSw); go_simp; (try with_reducible rfl))
        (try simp only [Act.put, List.setIfInBounds_toArray, List.set_cons_zero, List.set_cons_succ])
        refine wpAnyH_take (i := 20) (oi := { dst := some 94, op := Go.Op.move (Go.Operand.tmp 93), type := 4, pos := "law.go:191", after := #[{ on := 19, ground := Go.Ground.data }, { on := 18, ground := Go.Ground.chain }], guard := none }) (v := ?_) rfl (by kernel_rfl) (by kernel_rfl) (by kernel_rfl) (fun _ _ _ h => h) (Or.inl ⟨by rfl, ?_⟩) (by assumption) ?_
        rotate_left
        · (intro w hSw; (try dsimp only at hSw); go_simp; (try with_reducible rfl))
        (try simp only [Act.put, List.setIfInBounds_toArray, List.set_cons_zero, List.set_cons_succ])
        refine wpAnyH_take (i := 21) (oi := { dst := some 95, op := Go.Op.move (Go.Operand.tmp 13), type := 35, pos := "law.go:191", after := #[{ on := 20, ground := Go.Ground.guard }], guard := some (20, false) }) (v := ?_) rfl (by kernel_rfl) (by kernel_rfl) (by kernel_rfl) (fun _ _ _ h => h) (Or.inl ⟨by rfl, ?_⟩) (by assumption) ?_
        rotate_left
        · (intro w hSw; (try dsimp only at hSw); go_simp; (try with_reducible rfl))
        (try simp only [Act.put, List.setIfInBounds_toArray, List.set_cons_zero, List.set_cons_succ])
        refine wpAnyH_take (i := 22) (oi := { dst := some 96, op := Go.Op.move (Go.Operand.tmp 13), type := 35, pos := "law.go:191", after := #[{ on := 20, ground := Go.Ground.guard }], guard := some (20, false) }) (v := ?_) rfl (by kernel_rfl) (by kernel_rfl) (by kernel_rfl) (fun _ _ _ h => h) (Or.inl ⟨by rfl, ?_⟩) (by assumption) ?_
        rotate_left
        · (intro w hSw; (try dsimp only at hSw); go_simp; (try with_reducible rfl))
        (try simp only [Act.put, List.setIfInBounds_toArray, List.set_cons_zero, List.set_cons_succ])
        refine wpAnyH_take (i := 23) (oi := { dst := some 97, op := Go.Op.call { callee := Go.Callee.builtin Go.Builtin.len, args := #[Go.Operand.tmp 96], argTypes := #[35] }, type := 3, pos := "law.go:191", after := #[{ on := 22, ground := Go.Ground.data }, { on := 20, ground := Go.Ground.guard }], guard := some (20, false) }) (v := ?_) rfl (by kernel_rfl) (by kernel_rfl) (by kernel_rfl) (fun _ _ _ h => h) (Or.inl ⟨by rfl, ?_⟩) (by assumption) ?_
        rotate_left
        · (intro w hSw; (try dsimp only at hSw); go_simp; (try with_reducible rfl))
        (try simp only [Act.put, List.setIfInBounds_toArray, List.set_cons_zero, List.set_cons_succ])
        refine wpAnyH_take (i := 24) (oi := { dst := some 98, op := Go.Op.binOp Go.BinOp.sub 3 (Go.Operand.tmp 97) (Go.Operand.const (Go.Value.int Go.IntKind.i64 1)) 3, type := 3, pos := "law.go:191", after := #[{ on := 23, ground := Go.Ground.data }, { on := 20, ground := Go.Ground.guard }], guard := some (20, false) }) (v := ?_) rfl (by kernel_rfl) (by kernel_rfl) (by kernel_rfl) (fun _ _ _ h => h) (Or.inl ⟨by rfl, ?_⟩) (by assumption) ?_
        rotate_left
        · (intro w hSw; (try dsimp only at hSw); go_simp; (try with_reducible rfl))
        (try simp only [Act.put, List.setIfInBounds_toArray, List.set_cons_zero, List.set_cons_succ])
        refine wpAnyH_take (i := 25) (oi := { dst := some 99, op := Go.Op.indexAddr 35 (Go.Operand.tmp 95) (Go.Operand.tmp 98), type := 0, pos := "law.go:191", after := #[{ on := 21, ground := Go.Ground.data }, { on := 24, ground := Go.Ground.data }, { on := 20, ground := Go.Ground.guard }], guard := some (20, false) }) (v := ?_) rfl (by kernel_rfl) (by kernel_rfl) (by kernel_rfl) (fun _ _ _ h => h) (Or.inl ⟨by rfl, ?_⟩) (by assumption) ?_
        rotate_left
        · (intro w hSw; (try dsimp only at hSw); go_simp; (try with_reducible rfl))
        (try simp only [Act.put, List.setIfInBounds_toArray, List.set_cons_zero, List.set_cons_succ])
        refine wpAnyH_take (i := 26) (oi := { dst := some 100, op := Go.Op.load 9 (Go.Operand.tmp 99), type := 9, pos := "law.go:191", after := #[{ on := 25, ground := Go.Ground.data }, { on := 20, ground := Go.Ground.guard }], guard := some (20, false) }) (v := ?_) rfl (by kernel_rfl) (by kernel_rfl) (by kernel_rfl) (fun _ _ _ h => h) (Or.inl ⟨by rfl, ?_⟩) (by assumption) ?_
        rotate_left
        · (intro w hSw; (try dsimp only at hSw); go_simp; (try with_reducible rfl))
        (try simp only [Act.put, List.setIfInBounds_toArray, List.set_cons_zero, List.set_cons_succ])
        refine wpAnyH_take (i := 27) (oi := { dst := some 101, op := Go.Op.move (Go.Operand.tmp 9), type := 35, pos := "law.go:191", after := #[{ on := 20, ground := Go.Ground.guard }], guard := some (20, false) }) (v := ?_) rfl (by kernel_rfl) (by kernel_rfl) (by kernel_rfl) (fun _ _ _ h => h) (Or.inl ⟨by rfl, ?_⟩) (by assumption) ?_
        rotate_left
        · (intro w hSw; (try dsimp only at hSw); go_simp; (try with_reducible rfl))
        (try simp only [Act.put, List.setIfInBounds_toArray, List.set_cons_zero, List.set_cons_succ])
        refine wpAnyH_take (i := 28) (oi := { dst := some 102, op := Go.Op.move (Go.Operand.tmp 2), type := 3, pos := "law.go:191", after := #[{ on := 20, ground := Go.Ground.guard }], guard := some (20, false) }) (v := ?_) rfl (by kernel_rfl) (by kernel_rfl) (by kernel_rfl) (fun _ _ _ h => h) (Or.inl ⟨by rfl, ?_⟩) (by assumption) ?_
        rotate_left
        · (intro w hSw; (try dsimp only at hSw); go_simp; (try with_reducible rfl))
        (try simp only [Act.put, List.setIfInBounds_toArray, List.set_cons_zero, List.set_cons_succ])
        refine wpAnyH_take (i := 29) (oi := { dst := some 103, op := Go.Op.indexAddr 35 (Go.Operand.tmp 101) (Go.Operand.tmp 102), type := 0, pos := "law.go:191", after := #[{ on := 27, ground := Go.Ground.data }, { on := 28, ground := Go.Ground.data }, { on := 20, ground := Go.Ground.guard }], guard := some (20, false) }) (v := ?_) rfl (by kernel_rfl) (by kernel_rfl) (by kernel_rfl) (fun _ _ _ h => h) (Or.inl ⟨by rfl, ?_⟩) (by assumption) ?_
        rotate_left
        · (intro w hSw; (try dsimp only at hSw); go_simp; (try with_reducible rfl))
        (try simp only [Act.put, List.setIfInBounds_toArray, List.set_cons_zero, List.set_cons_succ])
        refine wpAnyH_take (i := 30) (oi := { dst := some 104, op := Go.Op.load 9 (Go.Operand.tmp 103), type := 9, pos := "law.go:191", after := #[{ on := 29, ground := Go.Ground.data }, { on := 20, ground := Go.Ground.guard }], guard := some (20, false) }) (v := ?_) rfl (by kernel_rfl) (by kernel_rfl) (by kernel_rfl) (fun _ _ _ h => h) (Or.inl ⟨by rfl, ?_⟩) (by assumption) ?_
        rotate_left
        · (intro w hSw; (try dsimp only at hSw); go_simp; (try with_reducible rfl))
        (try simp only [Act.put, List.setIfInBounds_toArray, List.set_cons_zero, List.set_cons_succ])
        refine wpAnyH_take (i := 31) (oi := { dst := some 105, op := Go.Op.binOp Go.BinOp.neq 9 (Go.Operand.tmp 100) (Go.Operand.tmp 104) 9, type := 4, pos := "law.go:191", after := #[{ on := 26, ground := Go.Ground.data }, { on := 30, ground := Go.Ground.data }, { on := 20, ground := Go.Ground.guard }], guard := some (20, false) }) (v := ?_) rfl (by kernel_rfl) (by kernel_rfl) (by kernel_rfl) (fun _ _ _ h => h) (Or.inl ⟨by rfl, ?_⟩) (by assumption) ?_
        rotate_left
        · (intro w hSw; (try dsimp only at hSw); go_simp; (try with_reducible rfl))
        (try simp only [Act.put, List.setIfInBounds_toArray, List.set_cons_zero, List.set_cons_succ])
        refine wpAnyH_take (i := 32) (oi := { dst := some 106, op := Go.Op.pick (Go.Operand.tmp 94) (Go.Operand.const (Go.Value.bool true)) (Go.Operand.tmp 105), type := 4, pos := "law.go:191", after := #[{ on := 20, ground := Go.Ground.data }, { on := 31, ground := Go.Ground.data }], guard := none }) (v := ?_) rfl (by kernel_rfl) (by kernel_rfl) (by kernel_rfl) (fun _ _ _ h => h) (Or.inl ⟨by rfl, ?_⟩) (by assumption) ?_
        rotate_left
        · (intro w hSw; (try dsimp only at hSw); go_simp; (try with_reducible rfl))
        (try simp only [Act.put, List.setIfInBounds_toArray, List.set_cons_zero, List.set_cons_succ])
        refine wpAnyH_done (by kernel_rfl) ?_ _
        refine NoPanic.normal ?_
        have Lb := Lib.hid (La.out.below Bb.out)
        have Zb := Lib.hid (Za.out.below Bb.out)
        have Xb := Lib.hid (Xa.out.below Bb.out)
        clear La Za Xa V1 V2 V3 D0 FF Bb Ca' e11 hyw hc4 hc5 hc9 hc10 hg8 hg2 hHeld
        go_upto_region 24 with fail
        generalize wb = wc at Lb Zb Xb ⊢
        obtain ⟨p', hp'⟩ : ∃ p', p' = s2.p := ⟨_, rfl⟩
        have HP' := Lib.hid hp'
        have hpl := HPL.out
        rw [← HPP.out, HM.out, ← hp', HMR.out] at hpl
        rw [← hp'] at HS1 HS2
        have SHR := Lib.hid (show ∀ W, Live w W c T6 s2 (k + 1) → Calls Try.prog 19 #[.pointer (some ⟨c, 0, none⟩)] W (IntPost (p' : Int) W) from fun W h => by
          have := share_ca W c T6 s2 (k + 1) h.ca
          rw [← hp'] at this
          exact this)
        clear hp'
        obtain ⟨q0, q1, q2, _, _⟩ := Xb.out.box.cells
        cases o with
        | false =>
          clear HIN
          go_quiet (fail)
          have LLF := Lib.hid (fun m => Lb.out.below (below_drewN wc m))
          clear q0 q1 q2
          have hz2 := fun m => (Zb.out.below (below_drewN wc m)).cells.2.2.1
          by_cases hj2 : j < n2
          · have e12 : decide (j < n2) = true := by simpa using hj2
            obtain ⟨s1, s2'⟩ := HS1.out (HGET.out.1 hj2)
            have e13 : decide (p ≤ p') = true := by simpa using s1
            have U1 := Lib.hid (fun m => SHR.out _ (LLF.out m))
            by_cases hpp : p < p'
            · have e14 : decide (p < p') = true := by simpa using hpp
              clear hj2 s1 s2' hpp hpl
              go_wp2_with fail
              refine (U1.out _).mono ?_
              rintro e wz ⟨rfl, rfl⟩
              go_wp2_with fail
              refine (U1.out _).mono ?_
              rintro e wz ⟨rfl, rfl⟩
              go_wp2_with fail
              go_ret
              exact ⟨rfl, (LLF.out _).bel⟩
            · have e14 : decide (p < p') = false := by simpa using hpp
              obtain rfl : p = mo := s2'.resolve_left hpp
              clear hj2 s1 s2' hpp hpl
              go_wp2_with fail
              refine (U1.out _).mono ?_
              rintro e wz ⟨rfl, rfl⟩
              go_wp2_with fail
              refine (U1.out _).mono ?_
              rintro e wz ⟨rfl, rfl⟩
              go_wp2_with fail
              go_ret
              exact ⟨rfl, (LLF.out _).bel⟩
          · have e12 : decide (j < n2) = false := by simpa using hj2
            obtain ⟨s1, s2'⟩ := HS2.out (HGET.out.2 (by omega))
            have e13 : decide (p' ≤ p) = true := by simpa using s1
            have U1 := Lib.hid (fun m => SHR.out _ (LLF.out m))
            by_cases hpp : p' < p
            · have e14 : decide (p' < p) = true := by simpa using hpp
              clear hj2 s1 s2' hpp hpl
              go_wp2_with fail
              refine (U1.out _).mono ?_
              rintro e wz ⟨rfl, rfl⟩
              go_wp2_with fail
              refine (U1.out _).mono ?_
              rintro e wz ⟨rfl, rfl⟩
              go_wp2_with fail
              go_ret
              exact ⟨rfl, (LLF.out _).bel⟩
            · obtain rfl : p = 0 := s2'.resolve_left hpp
              obtain rfl : p' = 0 := by omega
              have U1 := Lib.hid (show ∀ m, Calls Try.prog 19 #[.pointer (some ⟨c, 0, none⟩)] (wc.drewN m) (IntPost 0 (wc.drewN m)) from U1.out)
              clear hj2 s1 s2' hpp hpl e13
              go_wp2_with fail
              refine (U1.out _).mono ?_
              rintro e wz ⟨rfl, rfl⟩
              go_wp2_with fail
              refine (U1.out _).mono ?_
              rintro e wz ⟨rfl, rfl⟩
              go_wp2_with fail
              go_ret
              exact ⟨rfl, (LLF.out _).bel⟩
        | true =>
          have HIN := Lib.hid (HIN.out rfl)
          have V4 := Lib.hid (show ∀ W, Below wc.heap.size wc W → Calls Try.prog 17 #[.pointer (some ⟨c, 0, none⟩)] W (RowPost (ghL s2.R) W) from fun W h => ghosts_ca W c T6 s2 (k + 1) (Lb.out.ca.below h))
          have D1 := Lib.hid (show Below wc.heap.size wc wc.drew from ⟨rfl, rfl, rfl, Nat.le_refl _, fun _ _ => rfl⟩)
          have FG := Lib.hid (show ∀ W, Below wc.heap.size wc W → W.cell? ⟨sb, 1, none⟩ = some (.string v) ∧ W.cell? ⟨sb, 2, none⟩ = some (.bool true) from fun W h => ⟨(Xb.out.below h).box.cells.2.1, (Xb.out.below h).box.cells.2.2.1⟩)
          clear q0 q1 q2
          refine wp_region_noPanic ?_
          refine wp_region_held_drew (S := fun w' => w'.cell? ⟨sb, 1, none⟩ = some (.string v) ∧ w'.cell? ⟨sb, 2, none⟩ = some (.bool true)) (by kernel_rfl) ?_ (fun hHeld => ?_)
          · exact FG.out wc (Below.refl _ _)
          refine wpAnyH_take (i := 0) (oi := { dst := some 107, op := Go.Op.fieldAddr 30 (Go.Operand.tmp 12) 2, type := 0, pos := "law.go:194", after := #[], guard := none }) (v := ?_) rfl (by kernel_rfl) (by kernel_rfl) (by kernel_rfl) (fun _ _ _ h => h) (Or.inl ⟨by rfl, ?_⟩) (by assumption) ?_
          rotate_left
          · (intro w hSw; (try dsimp only at hSw); go_simp; (try with_reducible rfl))
          (try simp only [Act.put, List.setIfInBounds_toArray, List.set_cons_zero, List.set_cons_succ])
          refine wpAnyH_take (i := 1) (oi := { dst := some 108, op := Go.Op.load 4 (Go.Operand.tmp 107), type := 4, pos := "law.go:194", after := #[{ on := 0, ground := Go.Ground.data }], guard := none }) (v := ?_) rfl (by kernel_rfl) (by kernel_rfl) (by kernel_rfl) (fun _ _ _ h => h) (Or.inl ⟨by rfl, ?_⟩) (by assumption) ?_
          rotate_left
          · (intro w hSw; (try dsimp only at hSw); go_simp; (try with_reducible rfl))
          (try simp only [Act.put, List.setIfInBounds_toArray, List.set_cons_zero, List.set_cons_succ])
          refine wpAnyH_take (i := 2) (oi := { dst := some 109, op := Go.Op.move (Go.Operand.tmp 108), type := 4, pos := "law.go:194", after := #[{ on := 1, ground := Go.Ground.data }], guard := none }) (v := ?_) rfl (by kernel_rfl) (by kernel_rfl) (by kernel_rfl) (fun _ _ _ h => h) (Or.inl ⟨by rfl, ?_⟩) (by assumption) ?_
          rotate_left
          · (intro w hSw; (try dsimp only at hSw); go_simp; (try with_reducible rfl))
          (try simp only [Act.put, List.setIfInBounds_toArray, List.set_cons_zero, List.set_cons_succ])
          refine wpAnyH_take (i := 3) (oi := { dst := some 110, op := Go.Op.move (Go.Operand.tmp 7), type := 25, pos := "law.go:194", after := #[{ on := 2, ground := Go.Ground.guard }], guard := some (2, true) }) (v := ?_) rfl (by kernel_rfl) (by kernel_rfl) (by kernel_rfl) (fun _ _ _ h => h) (Or.inl ⟨by rfl, ?_⟩) (by assumption) ?_
          rotate_left
          · (intro w hSw; (try dsimp only at hSw); go_simp; (try with_reducible rfl))
          (try simp only [Act.put, List.setIfInBounds_toArray, List.set_cons_zero, List.set_cons_succ])
          refine wpAnyH_take (i := 5) (oi := { dst := some 112, op := Go.Op.fieldAddr 30 (Go.Operand.tmp 12) 1, type := 0, pos := "law.go:194", after := #[{ on := 2, ground := Go.Ground.guard }], guard := some (2, true) }) (v := ?_) rfl (by kernel_rfl) (by kernel_rfl) (by kernel_rfl) (fun _ _ _ h => h) (Or.inl ⟨by rfl, ?_⟩) (by assumption) ?_
          rotate_left
          · (intro w hSw; (try dsimp only at hSw); go_simp; (try with_reducible rfl))
          (try simp only [Act.put, List.setIfInBounds_toArray, List.set_cons_zero, List.set_cons_succ])
          refine wpAnyH_take (i := 6) (oi := { dst := some 113, op := Go.Op.load 9 (Go.Operand.tmp 112), type := 9, pos := "law.go:194", after := #[{ on := 5, ground := Go.Ground.data }, { on := 2, ground := Go.Ground.guard }], guard := some (2, true) }) (v := ?_) rfl (by kernel_rfl) (by kernel_rfl) (by kernel_rfl) (fun _ _ _ h => h) (Or.inl ⟨by rfl, ?_⟩) (by assumption) ?_
          rotate_left
          · (intro w hSw; (try dsimp only at hSw); go_simp; (try with_reducible rfl))
          (try simp only [Act.put, List.setIfInBounds_toArray, List.set_cons_zero, List.set_cons_succ])
          refine wpAnyH_ready (rs := [4]) (by kernel_rfl) (by simp) ?_
          refine AllReadyH.cons (o := { dst := some 111, op := Go.Op.call { callee := Go.Callee.value (Go.Operand.func 17), args := #[Go.Operand.tmp 110], argTypes := #[25] }, type := 35, pos := "law.go:194", after := #[{ on := 3, ground := Go.Ground.data }, { on := 2, ground := Go.Ground.chain }, { on := 2, ground := Go.Ground.guard }], guard := some (2, true) }) rfl (fun K hK => ?_) AllReadyH.nil
          go_simp
          refine (V4.out _ D1.out).mono ?_
          rintro e wd ⟨vd, rfl, hO, hB⟩
          have Bd := Lib.hid (show Below wc.heap.size wc wd from ⟨hB.os, hB.tape, hB.output, hB.size, hB.block⟩)
          obtain ⟨gd, _, hRd⟩ := hO.row
          have V5 := Lib.hid (HIN.out ▸ refHas_any wd gd vd _ v hRd : Calls Try.prog 20 #[vd, .string v] wd (BoolPost true wd))
          clear hO hB hRd
          go_wp2_with fail
          refine hK.out _ _ ?_ (fun hHeld => ?_)
          · exact FG.out wd Bd.out
          clear hK K
          (try simp only [Act.put, List.setIfInBounds_toArray, List.set_cons_zero, List.set_cons_succ])
          refine wpAnyH_ready (rs := [7]) (by kernel_rfl) (by simp) ?_
          refine AllReadyH.cons (o := { dst := some 114, op := Go.Op.call { callee := Go.Callee.value (Go.Operand.func 20), args := #[Go.Operand.tmp 111, Go.Operand.tmp 113], argTypes := #[35, 9] }, type := 4, pos := "law.go:194", after := #[{ on := 4, ground := Go.Ground.data }, { on := 6, ground := Go.Ground.data }, { on := 4, ground := Go.Ground.chain }, { on := 2, ground := Go.Ground.guard }], guard := some (2, true) }) rfl (fun K hK => ?_) AllReadyH.nil
          go_simp
          refine V5.out.mono ?_
          rintro e wx ⟨rfl, rfl⟩
          go_wp2_with fail
          refine hK.out _ _ ?_ (fun hHeld => ?_)
          · exact hHeld
          clear hK K
          (try simp only [Act.put, List.setIfInBounds_toArray, List.set_cons_zero, List.set_cons_succ])
          refine wpAnyH_take (i := 8) (oi := { dst := some 115, op := Go.Op.unOp Go.UnOp.not 4 (Go.Operand.tmp 114), type := 4, pos := "law.go:194", after := #[{ on := 7, ground := Go.Ground.data }, { on := 2, ground := Go.Ground.guard }], guard := some (2, true) }) (v := ?_) rfl (by kernel_rfl) (by kernel_rfl) (by kernel_rfl) (fun _ _ _ h => h) (Or.inl ⟨by rfl, ?_⟩) (by assumption) ?_
          rotate_left
          · (intro w hSw; (try dsimp only at hSw); go_simp; (try with_reducible rfl))
          (try simp only [Act.put, List.setIfInBounds_toArray, List.set_cons_zero, List.set_cons_succ])
          refine wpAnyH_take (i := 9) (oi := { dst := some 116, op := Go.Op.pick (Go.Operand.tmp 109) (Go.Operand.tmp 115) (Go.Operand.const (Go.Value.bool false)), type := 4, pos := "law.go:194", after := #[{ on := 2, ground := Go.Ground.data }, { on := 8, ground := Go.Ground.data }], guard := none }) (v := ?_) rfl (by kernel_rfl) (by kernel_rfl) (by kernel_rfl) (fun _ _ _ h => h) (Or.inl ⟨by rfl, ?_⟩) (by assumption) ?_
          rotate_left
          · (intro w hSw; (try dsimp only at hSw); go_simp; (try with_reducible rfl))
          (try simp only [Act.put, List.setIfInBounds_toArray, List.set_cons_zero, List.set_cons_succ])
          refine wpAnyH_done (by kernel_rfl) ?_ _
          refine NoPanic.normal ?_
          have LL := Lib.hid (Lb.out.below Bd.out)
          have ZZ := Lib.hid (Zb.out.below Bd.out)
          clear Lb Zb Xb V4 V5 D1 FG Bd hHeld
          have hz2 := ZZ.out.cells.2.2.1
          by_cases hj2 : j < n2
          · have e12 : decide (j < n2) = true := by simpa using hj2
            obtain ⟨s1, s2'⟩ := HS1.out (HGET.out.1 hj2)
            have e13 : decide (p ≤ p') = true := by simpa using s1
            have U1 := Lib.hid (SHR.out _ LL.out)
            by_cases hpp : p < p'
            · have e14 : decide (p < p') = true := by simpa using hpp
              clear hj2 s1 s2' hpp hpl
              go_wp2_with fail
              refine U1.out.mono ?_
              rintro e wz ⟨rfl, rfl⟩
              go_wp2_with fail
              refine U1.out.mono ?_
              rintro e wz ⟨rfl, rfl⟩
              go_wp2_with fail
              go_ret
              exact ⟨rfl, LL.out.bel⟩
            · have e14 : decide (p < p') = false := by simpa using hpp
              obtain rfl : p = mo := s2'.resolve_left hpp
              clear hj2 s1 s2' hpp hpl
              go_wp2_with fail
              refine U1.out.mono ?_
              rintro e wz ⟨rfl, rfl⟩
              go_wp2_with fail
              refine U1.out.mono ?_
              rintro e wz ⟨rfl, rfl⟩
              go_wp2_with fail
              go_ret
              exact ⟨rfl, LL.out.bel⟩
          · have e12 : decide (j < n2) = false := by simpa using hj2
            obtain ⟨s1, s2'⟩ := HS2.out (HGET.out.2 (by omega))
            have e13 : decide (p' ≤ p) = true := by simpa using s1
            have U1 := Lib.hid (SHR.out _ LL.out)
            by_cases hpp : p' < p
            · have e14 : decide (p' < p) = true := by simpa using hpp
              clear hj2 s1 s2' hpp hpl
              go_wp2_with fail
              refine U1.out.mono ?_
              rintro e wz ⟨rfl, rfl⟩
              go_wp2_with fail
              refine U1.out.mono ?_
              rintro e wz ⟨rfl, rfl⟩
              go_wp2_with fail
              go_ret
              exact ⟨rfl, LL.out.bel⟩
            · obtain rfl : p = 0 := s2'.resolve_left hpp
              obtain rfl : p' = 0 := by omega
              have U1 := Lib.hid (show Calls Try.prog 19 #[.pointer (some ⟨c, 0, none⟩)] wd (IntPost 0 wd) from U1.out)
              clear hj2 s1 s2' hpp hpl e13
              go_wp2_with fail
              refine U1.out.mono ?_
              rintro e wz ⟨rfl, rfl⟩
              go_wp2_with fail
              refine U1.out.mono ?_
              rintro e wz ⟨rfl, rfl⟩
              go_wp2_with fail
              go_ret
              exact ⟨rfl, LL.out.bel⟩

theorem walk_arcComesBack (a0 : Int) (v1 : Value) (a2 : Int) (w : World) (w0 : (Lit.int .i64 a0).wf = true) (w1 : CameS w v1) (w2 : (Lit.int .i64 a2).wf = true) : Calls Try.prog 5 #[.int .i64 a0, v1, .int .i64 a2] w (RetB true w) := by
  obtain ⟨A, n, c, rfl, hn, S, hr, hc⟩ := w1
  have hz := i64_rng w0
  have hz2 := i64_rng w2
  by_cases hok : n ≤ 200 ∧ 1 ≤ a0 ∧ a0 ≤ 1000 ∧ 0 ≤ a2
  · obtain ⟨h1, h3, h4, h5⟩ := hok
    obtain ⟨mo, rfl⟩ : ∃ m : Nat, a0 = (m : Int) := ⟨a0.toNat, by omega⟩
    obtain ⟨wh, rfl⟩ : ∃ m : Nat, a2 = (m : Int) := ⟨a2.toNat, by omega⟩
    exact back_main mo wh A n c w S (by omega) (by omega) (by omega) h1 hr hc
  · have P := Lib.hid (show (decide (200 < (n : Int)) = true) ∨ (decide (200 < (n : Int)) = false ∧ decide (a0 < 1) = true) ∨ (decide (200 < (n : Int)) = false ∧ decide (a0 < 1) = false ∧ decide (1000 < a0) = true) ∨ (decide (200 < (n : Int)) = false ∧ decide (a0 < 1) = false ∧ decide (1000 < a0) = false ∧ decide (a2 < 0) = true) by
      simp only [decide_eq_true_eq, decide_eq_false_iff_not]; omega)
    unfold maxLen at hn
    clear hr hc w0 w2 hok
    rcases P.out with e0 | ⟨e0, e1⟩ | ⟨e0, e1, e2⟩ | ⟨e0, e1, e2, e3⟩
    all_goals
      go_enter Try.func5, Try.ntmps5
      go_wp2_with fail
      refine (awake_any _).mono ?_
      rintro e w0 ⟨rfl, hb0⟩
      go_wp2_with fail
      go_ret
      exact ⟨rfl, hb0⟩

namespace LArcComesBack
set_option maxRecDepth 100000 in
theorem lifted (os : Os) (started : os.Started) (H : Type) (enc : TypeId × Value → H) :
    ReturnsInHanded {} Try.checked os 5 .any (Rows.arcComesBackSpec.pre6 enc Try.prog Try.f5 Rows.arcComesBackRow.domain false) (Rows.arcComesBackSpec.post enc Try.prog Try.f5 false true false false) := by
  refine returnsInHanded_of_change (C := Try.checked) own started (by kernel_rfl) Try.func5
    (ChangeSpec.witness6 (enc := enc) (C := Try.checked) false ⟨#[], #[.int .i64 0, .slice none 0 0, .int .i64 0], []⟩ 8 (by kernel_rfl) (by kernel_rfl) (by kernel_rfl) (by kernel_rfl)) ?_
  intro W base args ds gs before hval0 hW _ _
  have hval : ∀ (j : Nat) t v, Try.f5.params[j]? = some t → args[j]? = some v → Value.okWide Try.prog W .any base t v := hval0
  have hW' := hW
  obtain ⟨p, q, hA0, hV, rfl, hfz, hnd⟩ := hW
  have hA : DataW.TrodAll enc Try.prog W 0 (fun _ => true) true Try.f5.params.toList args.toList ds p := hA0
  rw [Try.params5] at hA hval
  obtain ⟨v0, vs0, d0, ds0, p0, q0, hargs, rfl, rfl, h0, r0⟩ := trodAll_cons hA
  obtain ⟨v1, vs1, d1, ds1, p1, q1, rfl, rfl, rfl, h1, r1⟩ := trodAll_cons r0
  obtain ⟨v2, vs2, d2, ds2, p2, q2, rfl, rfl, rfl, h2, r2⟩ := trodAll_cons r1
  obtain ⟨rfl, rfl, rfl⟩ := trodAll_nil r2
  obtain rfl : args = #[v0, v1, v2] := by cases args; simp_all
  obtain ⟨rfl, rfl⟩ := trodVars_none hV
  obtain ⟨a0, rfl, rfl, rfl, w0⟩ := open_int Try.underlying3 (hval 0 3 v0 rfl rfl) h0
  have k1 := h1
  have lt1 : ∀ x ∈ p1, x.block < W.heap.size := by obtain ⟨m, hm⟩ := k1; exact DataW.trod_lt m _ _ _ hm
  have w1 := open_z (hval 1 35 v1 rfl rfl) h1
  obtain ⟨a2, rfl, rfl, rfl, w2⟩ := open_int Try.underlying3 (hval 2 3 v2 rfl rfl) h2
  clear hA0 hval0
  refine (walk_arcComesBack a0 v1 a2 W w0 w1 w2).mono fun e W' ⟨he, bel⟩ => ?_
  subst he
  exact ⟨_, rfl, _, _, _, [], _, [], hW', trodAll_mk1 (shut_bool Try.underlying4 _), (trodAll_cons_mk (shut_int Try.underlying3 w0) (trodAll_cons_mk (Below.trod laidOut (by kernel_rfl) (of_decide_eq_true (by kernel_rfl)) k1 bel lt1) (trodAll_cons_mk (shut_int Try.underlying3 w2) trodAll_mk0))), rfl, bel.frame _, fun h => by cases h⟩

theorem said : Rows.ArcComesBackSaid :=
  OpenClaim.holds_of_wide 5 Try.f5 rfl rfl rfl rfl rfl rfl rfl ⟨rfl, rfl, rfl, rfl, rfl⟩ rfl rfl rfl rfl rfl (by kernel_rfl) Try.func5 (by kernel_rfl)
    (of_decide_eq_true (by kernel_rfl)) (by unfold Func.isWrapper; rw [if_neg (of_decide_eq_false (by kernel_rfl))]; exact ⟨rfl, rfl⟩)
    (fun os started H enc _ => lifted os started H enc)
#print axioms said
end LArcComesBack
end Go.Proofs.Ytlmbeiijijkjeaa
