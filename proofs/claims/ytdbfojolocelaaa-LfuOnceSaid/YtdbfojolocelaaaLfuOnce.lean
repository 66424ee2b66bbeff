/- 'cachewiselaw06.LfuOnce' returns true for every size and every row of keys, and leaves what was there as it was. No condition. -/
import Derived.Test.YtdbfojolocelaaaTwo6
import Derived.Deep.RegionHeld3
namespace Go.Proofs.Ytdbfojolocelaaa
open Go.ChangeShapes Go.WideShapes Go.ChangeAt Go.RowKit Ht HS Lf
open Go.ChangeMaps (open_string shut_string)

/-- Two caches asked for the keys of a row, each once. -/
def OnceRel (n mo a a2 : Nat) (w0 : World) (v i : Value) (W : World) : Prop := ∃ (k : Nat) (xs : List ByteArray) (T T2 : Nat → Prop) (L M : List (Ent Key)), i = .int .i64 (k : Int) ∧ k ≤ n ∧ xs.length ≤ k ∧ Pair w0 W a T mo false L xs.length a2 T2 mo true M xs.length ∧ RowP w0 W T T2 v xs ∧ On mo xs L M

set_option maxHeartbeats 16000000 in
set_option maxRecDepth 100000 in
theorem once_main (mo : Nat) (A : Option Addr) (n cc : Nat) (w : World) (S : Nat → ByteArray) (hz : 1 ≤ mo ∧ mo ≤ 9223372036854775807) (hn : n ≤ 100) (hS : ∀ i, i < n → (S i).size ≤ maxLen)
    (hc : 0 < n → ∃ g o, A = some ⟨g, o, none⟩ ∧ g < w.heap.size ∧ n ≤ cc ∧ cc ≤ maxLen ∧ ∀ i, i < n → w.cell? ⟨g, o + i, none⟩ = some (.string (S i))) :
    Calls Try.prog 5 #[.int .i64 (mo : Int), .slice A n cc] w (RetB true w) := by
  have e0 : decide (100 < (n : Int)) = false := by simp; omega
  have e2 : decide ((mo : Int) < 1) = false := by simp; omega
  have HC := Lib.hid hc
  have HS := Lib.hid hS
  clear hc hS
  go_enter Try.func5, Try.ntmps5
  go_wp2_with fail
  refine (awake_any _).mono ?_
  rintro e w0 ⟨rfl, hb0⟩
  have b0 := Lib.hid hb0; clear hb0
  go_wp2_with fail
  refine (new_pos w0 mo false hz.2).mono ?_
  rintro e w1 ⟨a, T1, rfl, hC, hT, hB⟩
  have L1 := Lib.hid (Live.made b0.out hC hT hB)
  clear hC hT hB b0
  go_wp2_with fail
  refine (new_pos w1 mo true hz.2).mono ?_
  rintro e w2 ⟨a2, T2, rfl, hC, hT, hB⟩
  have P1 := Lib.hid (Pair.made L1.out hC hT hB)
  clear hC hT hB L1
  go_wp2_with fail
  clear e0 e2
  go_loopw [7, 8] (fun v i W => OnceRel n mo a a2 w v i W) (fun _ i _ => n - (intOf i).toNat)
  case atStart => exact ⟨0, [], T1, T2, [], [], rfl, Nat.zero_le _, Nat.zero_le _, P1.out, ⟨Own.nil _ _, fun g hg => by cases hg⟩, On.start mo⟩
  case round =>
    obtain ⟨k, xs, T, T2, L, M, rfl, hk, hxk, hP, hR, hO⟩ := hrel
    have HP := Lib.hid hP
    have HR := Lib.hid hR
    have HO := Lib.hid hO
    obtain ⟨Av, cv, rfl⟩ := hR.own.len
    clear hP hR hO P1
    by_cases hlt : k < n
    · have e0 : decide (k < n) = true := by simpa using hlt
      obtain ⟨g, o, rfl, hg, hc1, hc2, hcell⟩ := HC.out (by omega)
      have h1 := (HP.out.one.bel.cell (p := ⟨g, o + k, none⟩) hg).trans (hcell k hlt)
      have hsk := HS.out k hlt
      have hck := hcell k hlt
      clear hcell
      unfold maxLen at hc2
      have HSK := Lib.hid hsk
      unfold maxLen at hsk
      generalize S k = key at h1 hck hsk HSK
      by_cases hbig : key.size ≤ 200
      · have e1 : decide (200 < (key.size : Int)) = false := by simp; omega
        obtain ⟨gr, _, hrow⟩ := HR.out.own.row
        have U := refHas_any wr gr _ xs key hrow
        clear hrow
        cases hin : inn xs key with
        | true =>
          rw [hin] at U
          have U := Lib.hid U
          clear hin
          go_wp2_with fail
          refine U.out.mono ?_
          rintro e wr ⟨rfl, rfl⟩
          go_wp2_with fail
          go_roundw
          case rel => exact ⟨k + 1, xs, T, T2, L, M, by go_num, by omega, by omega, HP.out, HR.out, HO.out⟩
          case measure => simp [intOf]; omega
        | false =>
          rw [hin] at U
          have U := Lib.hid U
          have HNK := Lib.hid (inn_no.1 hin)
          obtain ⟨A2, cap2, w2, hrun, hP2, hR2⟩ := row_app HP.out HR.out key HSK.out (by omega)
          have P2 := Lib.hid hP2
          have R2 := Lib.hid hR2
          have HRUN := Lib.hid hrun
          have h2 := (hP2.one.bel.cell (p := ⟨g, o + k, none⟩) hg).trans hck
          have ST := HO.out.step hz.1 HNK.out
          have NX := HO.out.next hz.1 HNK.out HP.out.one.ca.fit HP.out.two.ca.fit HP.out.one.ca.once HP.out.two.ca.once
          have GN := fun h => HO.out.gone hz.1 h key
          clear hin hP2 hR2 hrun HP HR HO
          go_wp2_with fail
          refine U.out.mono ?_
          rintro e wr ⟨rfl, rfl⟩
          go_wp2_with (at_builtin; refine wpList_append_run rfl _ _ _ rfl _ _ _ _ rfl rfl HRUN.out ?_)
          clear HRUN U
          have PB0 := Lib.hid (PR.start (P2.out.below (show Below w2.heap.size w2 w2.drew from ⟨rfl, rfl, rfl, Nat.le_refl _, fun _ _ => rfl⟩)) (R2.out.below ⟨rfl, rfl, rfl, Nat.le_refl _, fun _ _ => rfl⟩))
          have V1 := fun (W : World) (T : Nat → Prop) (hC : Ca W a T mo false L xs.length) => request_one W a T mo false L xs.length key hC HSK.out (by omega) hz.1
          have V2 := fun (W : World) (T : Nat → Prop) (hC : Ca W a2 T mo true M xs.length) => request_one W a2 T mo true M xs.length key hC HSK.out (by omega) hz.1
          unfold stepV at V1 V2
          have VA := Lib.hid (show mo ≤ xs.length → vicK mo L key = (xs ++ [key]).getD (xs.length - mo) ⟨#[]⟩ ∧ vicK mo M key = (xs ++ [key]).getD (xs.length - 1) ⟨#[]⟩ from fun h => by
            unfold vicK
            rw [ST.2.2.1, ST.2.2.2, decide_eq_true h]
            exact GN h)
          generalize vicK mo L key = va at VA V1
          generalize vicK mo M key = vb at VA V2
          generalize hitB mo L key = ha at ST V1
          generalize hitB mo M key = hb at ST V2
          generalize outB mo L key = oa at ST V1
          generalize outB mo M key = ob at ST V2
          generalize reqL false mo xs.length L key = L' at NX V1
          generalize reqL true mo xs.length M key = M' at NX V2
          have NX := Lib.hid NX
          have V1 := Lib.hid V1
          have V2 := Lib.hid V2
          have STH := Lib.hid ST
          clear GN P2 R2 ST
          go_upto_region 16 with fail
          go_cut [9, 10] (fun x y W => ∃ z z' T T2, x = .pointer (some ⟨z, 0, none⟩) ∧ y = .pointer (some ⟨z', 0, none⟩) ∧ PE w W a T mo false L' (xs.length + 1) a2 T2 mo true M' (xs.length + 1) (.slice A2 (xs.length + 1) cap2) (xs ++ [key]) z z' ha va oa hb vb ob)
          case first =>
            as_aux_lemma =>
            refine wp_region_noPanic ?_
            refine wp_region_held_drew (S := fun w' => w'.cell? ⟨g, o + k, none⟩ = some (.string key)) (by kernel_rfl) ?_ (fun hHeld => ?_)
            · exact h2
            generalize w2.drew = W0 at PB0 hHeld ⊢
            clear h2
            refine wpAnyH_take (i := 0) (oi := { dst := some 55, op := Go.Op.move (Go.Operand.tmp 5), type := 25, pos := "law.go:140", after := #[], guard := none }) (v := ?_) rfl (by kernel_rfl) (by kernel_rfl) (by kernel_rfl) (fun _ _ _ h => h) (Or.inl ⟨by rfl, ?_⟩) (by assumption) ?_
            rotate_left
            · (intro w hSw; (try dsimp only at hSw); go_simp; (try with_reducible rfl))
            (try simp only [Act.put, List.setIfInBounds_toArray, List.set_cons_zero, List.set_cons_succ])
            refine wpAnyH_take (i := 1) (oi := { dst := some 56, op := Go.Op.move (Go.Operand.tmp 1), type := 47, pos := "law.go:140", after := #[], guard := none }) (v := ?_) rfl (by kernel_rfl) (by kernel_rfl) (by kernel_rfl) (fun _ _ _ h => h) (Or.inl ⟨by rfl, ?_⟩) (by assumption) ?_
            rotate_left
            · (intro w hSw; (try dsimp only at hSw); go_simp; (try with_reducible rfl))
            (try simp only [Act.put, List.setIfInBounds_toArray, List.set_cons_zero, List.set_cons_succ])
            refine wpAnyH_take (i := 2) (oi := { dst := some 57, op := Go.Op.move (Go.Operand.tmp 8), type := 3, pos := "law.go:140", after := #[], guard := none }) (v := ?_) rfl (by kernel_rfl) (by kernel_rfl) (by kernel_rfl) (fun _ _ _ h => h) (Or.inl ⟨by rfl, ?_⟩) (by assumption) ?_
            rotate_left
            · (intro w hSw; (try dsimp only at hSw); go_simp; (try with_reducible rfl))
            (try simp only [Act.put, List.setIfInBounds_toArray, List.set_cons_zero, List.set_cons_succ])
            refine wpAnyH_take (i := 3) (oi := { dst := some 58, op := Go.Op.indexAddr 47 (Go.Operand.tmp 56) (Go.Operand.tmp 57), type := 0, pos := "law.go:140", after := #[{ on := 1, ground := Go.Ground.data }, { on := 2, ground := Go.Ground.data }], guard := none }) (v := ?_) rfl (by kernel_rfl) (by kernel_rfl) (by kernel_rfl) (fun _ _ _ h => h) (Or.inl ⟨by rfl, ?_⟩) (by assumption) ?_
            rotate_left
            · (intro w hSw; (try dsimp only at hSw); go_simp; (try with_reducible rfl))
            (try simp only [Act.put, List.setIfInBounds_toArray, List.set_cons_zero, List.set_cons_succ])
            refine wpAnyH_take (i := 4) (oi := { dst := some 59, op := Go.Op.load 9 (Go.Operand.tmp 58), type := 9, pos := "law.go:140", after := #[{ on := 3, ground := Go.Ground.data }], guard := none }) (v := ?_) rfl (by kernel_rfl) (by kernel_rfl) (by kernel_rfl) (fun _ _ _ h => h) (Or.inl ⟨by rfl, ?_⟩) (by assumption) ?_
            rotate_left
            · (intro w hSw; (try dsimp only at hSw); go_simp; (try with_reducible rfl))
            (try simp only [Act.put, List.setIfInBounds_toArray, List.set_cons_zero, List.set_cons_succ])
            refine wpAnyH_take (i := 6) (oi := { dst := some 61, op := Go.Op.move (Go.Operand.tmp 6), type := 25, pos := "law.go:140", after := #[], guard := none }) (v := ?_) rfl (by kernel_rfl) (by kernel_rfl) (by kernel_rfl) (fun _ _ _ h => h) (Or.inl ⟨by rfl, ?_⟩) (by assumption) ?_
            rotate_left
            · (intro w hSw; (try dsimp only at hSw); go_simp; (try with_reducible rfl))
            (try simp only [Act.put, List.setIfInBounds_toArray, List.set_cons_zero, List.set_cons_succ])
            refine wpAnyH_take (i := 7) (oi := { dst := some 62, op := Go.Op.move (Go.Operand.tmp 1), type := 47, pos := "law.go:140", after := #[], guard := none }) (v := ?_) rfl (by kernel_rfl) (by kernel_rfl) (by kernel_rfl) (fun _ _ _ h => h) (Or.inl ⟨by rfl, ?_⟩) (by assumption) ?_
            rotate_left
            · (intro w hSw; (try dsimp only at hSw); go_simp; (try with_reducible rfl))
            (try simp only [Act.put, List.setIfInBounds_toArray, List.set_cons_zero, List.set_cons_succ])
            refine wpAnyH_take (i := 8) (oi := { dst := some 63, op := Go.Op.move (Go.Operand.tmp 8), type := 3, pos := "law.go:140", after := #[], guard := none }) (v := ?_) rfl (by kernel_rfl) (by kernel_rfl) (by kernel_rfl) (fun _ _ _ h => h) (Or.inl ⟨by rfl, ?_⟩) (by assumption) ?_
            rotate_left
            · (intro w hSw; (try dsimp only at hSw); go_simp; (try with_reducible rfl))
            (try simp only [Act.put, List.setIfInBounds_toArray, List.set_cons_zero, List.set_cons_succ])
            refine wpAnyH_take (i := 9) (oi := { dst := some 64, op := Go.Op.indexAddr 47 (Go.Operand.tmp 62) (Go.Operand.tmp 63), type := 0, pos := "law.go:140", after := #[{ on := 7, ground := Go.Ground.data }, { on := 8, ground := Go.Ground.data }], guard := none }) (v := ?_) rfl (by kernel_rfl) (by kernel_rfl) (by kernel_rfl) (fun _ _ _ h => h) (Or.inl ⟨by rfl, ?_⟩) (by assumption) ?_
            rotate_left
            · (intro w hSw; (try dsimp only at hSw); go_simp; (try with_reducible rfl))
            (try simp only [Act.put, List.setIfInBounds_toArray, List.set_cons_zero, List.set_cons_succ])
            refine wpAnyH_take (i := 10) (oi := { dst := some 65, op := Go.Op.load 9 (Go.Operand.tmp 64), type := 9, pos := "law.go:140", after := #[{ on := 9, ground := Go.Ground.data }], guard := none }) (v := ?_) rfl (by kernel_rfl) (by kernel_rfl) (by kernel_rfl) (fun _ _ _ h => h) (Or.inl ⟨by rfl, ?_⟩) (by assumption) ?_
            rotate_left
            · (intro w hSw; (try dsimp only at hSw); go_simp; (try with_reducible rfl))
            (try simp only [Act.put, List.setIfInBounds_toArray, List.set_cons_zero, List.set_cons_succ])
            refine wpAnyH_ready (rs := [5, 12, 13]) (by kernel_rfl) (by simp) ?_
            refine AllReadyH.cons (o := { dst := some 60, op := Go.Op.call { callee := Go.Callee.value (Go.Operand.func 13), args := #[Go.Operand.tmp 55, Go.Operand.tmp 59], argTypes := #[25, 9] }, type := 34, pos := "law.go:140", after := #[{ on := 0, ground := Go.Ground.data }, { on := 4, ground := Go.Ground.data }], guard := none }) rfl (fun K hK => ?_) (AllReadyH.cons (o := { dst := some 9, op := Go.Op.alloc 34, type := 0, pos := "law.go:140", after := #[], guard := none }) rfl (fun K hK => ?_) (AllReadyH.cons (o := { dst := some 10, op := Go.Op.alloc 34, type := 0, pos := "law.go:140", after := #[], guard := none }) rfl (fun K hK => ?_) AllReadyH.nil))
            · go_simp
              refine (V1.out _ _ PB0.out.pair.one.ca).mono ?_
              intro e W1 hp
              obtain ⟨rfl, T1, hPn⟩ := PB0.out.call1 hp
              have PB1 := Lib.hid hPn
              clear hp hPn
              go_wp2_with fail
              refine hK.out _ _ ?_ (fun hHeld => ?_)
              · exact (PB1.out.pair.one.bel.cell (p := ⟨g, o + k, none⟩) hg).trans hck
              clear hK K PB0
              (try simp only [Act.put, List.setIfInBounds_toArray, List.set_cons_zero, List.set_cons_succ])
              refine wpAnyH_ready (rs := [11, 12, 13]) (by kernel_rfl) (by simp) ?_
              refine AllReadyH.cons (o := { dst := some 66, op := Go.Op.call { callee := Go.Callee.value (Go.Operand.func 13), args := #[Go.Operand.tmp 61, Go.Operand.tmp 65], argTypes := #[25, 9] }, type := 34, pos := "law.go:140", after := #[{ on := 6, ground := Go.Ground.data }, { on := 10, ground := Go.Ground.data }, { on := 5, ground := Go.Ground.chain }], guard := none }) rfl (fun K hK => ?_) (AllReadyH.cons (o := { dst := some 9, op := Go.Op.alloc 34, type := 0, pos := "law.go:140", after := #[], guard := none }) rfl (fun K hK => ?_) (AllReadyH.cons (o := { dst := some 10, op := Go.Op.alloc 34, type := 0, pos := "law.go:140", after := #[], guard := none }) rfl (fun K hK => ?_) AllReadyH.nil))
              · go_simp
                refine (V2.out _ _ PB1.out.pair.two.ca).mono ?_
                intro e W2 hp
                obtain ⟨rfl, T2, hPn⟩ := PB1.out.call2 hp
                have PB2 := Lib.hid hPn
                clear hp hPn
                go_wp2_with fail
                refine hK.out _ _ ?_ (fun hHeld => ?_)
                · exact (PB2.out.pair.one.bel.cell (p := ⟨g, o + k, none⟩) hg).trans hck
                clear hK K PB1
                (try simp only [Act.put, List.setIfInBounds_toArray, List.set_cons_zero, List.set_cons_succ])
                refine wpAnyH_ready (rs := [12, 13]) (by kernel_rfl) (by simp) ?_
                refine AllReadyH.cons (o := { dst := some 9, op := Go.Op.alloc 34, type := 0, pos := "law.go:140", after := #[], guard := none }) rfl (fun K hK => ?_) (AllReadyH.cons (o := { dst := some 10, op := Go.Op.alloc 34, type := 0, pos := "law.go:140", after := #[], guard := none }) rfl (fun K hK => ?_) AllReadyH.nil)
                · go_simp
                  have PB3 := Lib.hid (PB2.out.alloc12)
                  refine hK.out _ _ ?_ (fun hHeld => ?_)
                  · exact (PB3.out.pair.one.bel.cell (p := ⟨g, o + k, none⟩) hg).trans hck
                  clear hK K PB2
                  (try simp only [Act.put, List.setIfInBounds_toArray, List.set_cons_zero, List.set_cons_succ])
                  generalize W2.alloc (.cells #[.bool false, .string ⟨#[]⟩, .bool false] 34) = W3 at PB3 hHeld ⊢
                  generalize W2.heap.size = z12 at PB3 ⊢
                  refine wpAnyH_ready (rs := [13]) (by kernel_rfl) (by simp) ?_
                  refine AllReadyH.cons (o := { dst := some 10, op := Go.Op.alloc 34, type := 0, pos := "law.go:140", after := #[], guard := none }) rfl (fun K hK => ?_) AllReadyH.nil
                  go_simp
                  have PB4 := Lib.hid (PB3.out.alloc13)
                  refine hK.out _ _ ?_ (fun hHeld => ?_)
                  · exact (PB4.out.pair.one.bel.cell (p := ⟨g, o + k, none⟩) hg).trans hck
                  clear hK K PB3
                  (try simp only [Act.put, List.setIfInBounds_toArray, List.set_cons_zero, List.set_cons_succ])
                  generalize W3.alloc (.cells #[.bool false, .string ⟨#[]⟩, .bool false] 34) = W4 at PB4 hHeld ⊢
                  generalize W3.heap.size = z13 at PB4 ⊢
                  refine wpAnyH_ready (rs := [14]) (by kernel_rfl) (by simp) ?_
                  refine AllReadyH.cons (o := { dst := none, op := Go.Op.store 34 (Go.Operand.tmp 9) (Go.Operand.tmp 60), type := 0, pos := "law.go:140", after := #[{ on := 12, ground := Go.Ground.data }, { on := 5, ground := Go.Ground.data }, { on := 11, ground := Go.Ground.chain }, { on := 0, ground := Go.Ground.phase }, { on := 1, ground := Go.Ground.phase }, { on := 2, ground := Go.Ground.phase }, { on := 3, ground := Go.Ground.phase }, { on := 4, ground := Go.Ground.phase }, { on := 5, ground := Go.Ground.phase }, { on := 6, ground := Go.Ground.textOnly Go.Departure.lateStores }, { on := 7, ground := Go.Ground.textOnly Go.Departure.lateStores }, { on := 8, ground := Go.Ground.textOnly Go.Departure.lateStores }, { on := 9, ground := Go.Ground.textOnly Go.Departure.lateStores }, { on := 10, ground := Go.Ground.textOnly Go.Departure.lateStores }, { on := 11, ground := Go.Ground.textOnly Go.Departure.lateStoresUnsure }, { on := 12, ground := Go.Ground.phase }, { on := 13, ground := Go.Ground.phase }], guard := none }) rfl (fun K hK => ?_) AllReadyH.nil
                  obtain ⟨k0, k1, k2, f0, f1, f2⟩ := PB4.out.cells
                  have PB5 := Lib.hid (PB4.out.store1 ha va oa)
                  go_simp
                  refine hK.out _ _ ?_ (fun hHeld => ?_)
                  · exact (PB5.out.pair.one.bel.cell (p := ⟨g, o + k, none⟩) hg).trans hck
                  clear hK K PB4 k0 k1 k2 f0 f1 f2
                  (try simp only [Act.put, List.setIfInBounds_toArray, List.set_cons_zero, List.set_cons_succ])
                  generalize ((W4.setCell ⟨z12, 0, none⟩ (.bool ha)).setCell ⟨z12, 1, none⟩ (.string va)).setCell ⟨z12, 2, none⟩ (.bool oa) = W5 at PB5 hHeld ⊢
                  refine wpAnyH_ready (rs := [15]) (by kernel_rfl) (by simp) ?_
                  refine AllReadyH.cons (o := { dst := none, op := Go.Op.store 34 (Go.Operand.tmp 10) (Go.Operand.tmp 66), type := 0, pos := "law.go:140", after := #[{ on := 13, ground := Go.Ground.data }, { on := 11, ground := Go.Ground.data }, { on := 14, ground := Go.Ground.chain }, { on := 0, ground := Go.Ground.phase }, { on := 1, ground := Go.Ground.phase }, { on := 2, ground := Go.Ground.phase }, { on := 3, ground := Go.Ground.phase }, { on := 4, ground := Go.Ground.phase }, { on := 5, ground := Go.Ground.phase }, { on := 6, ground := Go.Ground.phase }, { on := 7, ground := Go.Ground.phase }, { on := 8, ground := Go.Ground.phase }, { on := 9, ground := Go.Ground.phase }, { on := 10, ground := Go.Ground.phase }, { on := 11, ground := Go.Ground.phase }, { on := 12, ground := Go.Ground.phase }, { on := 13, ground := Go.Ground.phase }, { on := 14, ground := Go.Ground.phase }], guard := none }) rfl (fun K hK => ?_) AllReadyH.nil
                  obtain ⟨k0, k1, k2, f0, f1, f2⟩ := PB5.out.cells
                  have PB6 := Lib.hid (PB5.out.store2 hb vb ob)
                  go_simp
                  refine hK.out _ _ ?_ (fun hHeld => ?_)
                  · exact (PB6.out.pair.one.bel.cell (p := ⟨g, o + k, none⟩) hg).trans hck
                  clear hK K PB5 k0 k1 k2 f0 f1 f2
                  (try simp only [Act.put, List.setIfInBounds_toArray, List.set_cons_zero, List.set_cons_succ])
                  generalize ((W5.setCell ⟨z13, 0, none⟩ (.bool hb)).setCell ⟨z13, 1, none⟩ (.string vb)).setCell ⟨z13, 2, none⟩ (.bool ob) = W6 at PB6 hHeld ⊢
                  refine wpAnyH_done (by kernel_rfl) ?_ _
                  refine NoPanic.normal ?_
                  clear hHeld
                  go_wp2_with fail
                  go_meet
                  exact ⟨_, _, _, _, rfl, rfl, PB6.out⟩
                · go_simp
                  have PB7 := Lib.hid (PB2.out.alloc13)
                  refine hK.out _ _ ?_ (fun hHeld => ?_)
                  · exact (PB7.out.pair.one.bel.cell (p := ⟨g, o + k, none⟩) hg).trans hck
                  clear hK K PB2
                  (try simp only [Act.put, List.setIfInBounds_toArray, List.set_cons_zero, List.set_cons_succ])
                  generalize W2.alloc (.cells #[.bool false, .string ⟨#[]⟩, .bool false] 34) = W7 at PB7 hHeld ⊢
                  generalize W2.heap.size = z13 at PB7 ⊢
                  refine wpAnyH_ready (rs := [12]) (by kernel_rfl) (by simp) ?_
                  refine AllReadyH.cons (o := { dst := some 9, op := Go.Op.alloc 34, type := 0, pos := "law.go:140", after := #[], guard := none }) rfl (fun K hK => ?_) AllReadyH.nil
                  go_simp
                  have PB8 := Lib.hid (PB7.out.alloc12)
                  refine hK.out _ _ ?_ (fun hHeld => ?_)
                  · exact (PB8.out.pair.one.bel.cell (p := ⟨g, o + k, none⟩) hg).trans hck
                  clear hK K PB7
                  (try simp only [Act.put, List.setIfInBounds_toArray, List.set_cons_zero, List.set_cons_succ])
                  generalize W7.alloc (.cells #[.bool false, .string ⟨#[]⟩, .bool false] 34) = W8 at PB8 hHeld ⊢
                  generalize W7.heap.size = z12 at PB8 ⊢
                  refine wpAnyH_ready (rs := [14]) (by kernel_rfl) (by simp) ?_
                  refine AllReadyH.cons (o := { dst := none, op := Go.Op.store 34 (Go.Operand.tmp 9) (Go.Operand.tmp 60), type := 0, pos := "law.go:140", after := #[{ on := 12, ground := Go.Ground.data }, { on := 5, ground := Go.Ground.data }, { on := 11, ground := Go.Ground.chain }, { on := 0, ground := Go.Ground.phase }, { on := 1, ground := Go.Ground.phase }, { on := 2, ground := Go.Ground.phase }, { on := 3, ground := Go.Ground.phase }, { on := 4, ground := Go.Ground.phase }, { on := 5, ground := Go.Ground.phase }, { on := 6, ground := Go.Ground.textOnly Go.Departure.lateStores }, { on := 7, ground := Go.Ground.textOnly Go.Departure.lateStores }, { on := 8, ground := Go.Ground.textOnly Go.Departure.lateStores }, { on := 9, ground := Go.Ground.textOnly Go.Departure.lateStores }, { on := 10, ground := Go.Ground.textOnly Go.Departure.lateStores }, { on := 11, ground := Go.Ground.textOnly Go.Departure.lateStoresUnsure }, { on := 12, ground := Go.Ground.phase }, { on := 13, ground := Go.Ground.phase }], guard := none }) rfl (fun K hK => ?_) AllReadyH.nil
                  obtain ⟨k0, k1, k2, f0, f1, f2⟩ := PB8.out.cells
                  have PB9 := Lib.hid (PB8.out.store1 ha va oa)
                  go_simp
                  refine hK.out _ _ ?_ (fun hHeld => ?_)
                  · exact (PB9.out.pair.one.bel.cell (p := ⟨g, o + k, none⟩) hg).trans hck
                  clear hK K PB8 k0 k1 k2 f0 f1 f2
                  (try simp only [Act.put, List.setIfInBounds_toArray, List.set_cons_zero, List.set_cons_succ])
                  generalize ((W8.setCell ⟨z12, 0, none⟩ (.bool ha)).setCell ⟨z12, 1, none⟩ (.string va)).setCell ⟨z12, 2, none⟩ (.bool oa) = W9 at PB9 hHeld ⊢
                  refine wpAnyH_ready (rs := [15]) (by kernel_rfl) (by simp) ?_
                  refine AllReadyH.cons (o := { dst := none, op := Go.Op.store 34 (Go.Operand.tmp 10) (Go.Operand.tmp 66), type := 0, pos := "law.go:140", after := #[{ on := 13, ground := Go.Ground.data }, { on := 11, ground := Go.Ground.data }, { on := 14, ground := Go.Ground.chain }, { on := 0, ground := Go.Ground.phase }, { on := 1, ground := Go.Ground.phase }, { on := 2, ground := Go.Ground.phase }, { on := 3, ground := Go.Ground.phase }, { on := 4, ground := Go.Ground.phase }, { on := 5, ground := Go.Ground.phase }, { on := 6, ground := Go.Ground.phase }, { on := 7, ground := Go.Ground.phase }, { on := 8, ground := Go.Ground.phase }, { on := 9, ground := Go.Ground.phase }, { on := 10, ground := Go.Ground.phase }, { on := 11, ground := Go.Ground.phase }, { on := 12, ground := Go.Ground.phase }, { on := 13, ground := Go.Ground.phase }, { on := 14, ground := Go.Ground.phase }], guard := none }) rfl (fun K hK => ?_) AllReadyH.nil
                  obtain ⟨k0, k1, k2, f0, f1, f2⟩ := PB9.out.cells
                  have PB10 := Lib.hid (PB9.out.store2 hb vb ob)
                  go_simp
                  refine hK.out _ _ ?_ (fun hHeld => ?_)
                  · exact (PB10.out.pair.one.bel.cell (p := ⟨g, o + k, none⟩) hg).trans hck
                  clear hK K PB9 k0 k1 k2 f0 f1 f2
                  (try simp only [Act.put, List.setIfInBounds_toArray, List.set_cons_zero, List.set_cons_succ])
                  generalize ((W9.setCell ⟨z13, 0, none⟩ (.bool hb)).setCell ⟨z13, 1, none⟩ (.string vb)).setCell ⟨z13, 2, none⟩ (.bool ob) = W10 at PB10 hHeld ⊢
                  refine wpAnyH_done (by kernel_rfl) ?_ _
                  refine NoPanic.normal ?_
                  clear hHeld
                  go_wp2_with fail
                  go_meet
                  exact ⟨_, _, _, _, rfl, rfl, PB10.out⟩
              · go_simp
                have PB11 := Lib.hid (PB1.out.alloc12)
                refine hK.out _ _ ?_ (fun hHeld => ?_)
                · exact (PB11.out.pair.one.bel.cell (p := ⟨g, o + k, none⟩) hg).trans hck
                clear hK K PB1
                (try simp only [Act.put, List.setIfInBounds_toArray, List.set_cons_zero, List.set_cons_succ])
                generalize W1.alloc (.cells #[.bool false, .string ⟨#[]⟩, .bool false] 34) = W11 at PB11 hHeld ⊢
                generalize W1.heap.size = z12 at PB11 ⊢
                refine wpAnyH_ready (rs := [11, 13]) (by kernel_rfl) (by simp) ?_
                refine AllReadyH.cons (o := { dst := some 66, op := Go.Op.call { callee := Go.Callee.value (Go.Operand.func 13), args := #[Go.Operand.tmp 61, Go.Operand.tmp 65], argTypes := #[25, 9] }, type := 34, pos := "law.go:140", after := #[{ on := 6, ground := Go.Ground.data }, { on := 10, ground := Go.Ground.data }, { on := 5, ground := Go.Ground.chain }], guard := none }) rfl (fun K hK => ?_) (AllReadyH.cons (o := { dst := some 10, op := Go.Op.alloc 34, type := 0, pos := "law.go:140", after := #[], guard := none }) rfl (fun K hK => ?_) AllReadyH.nil)
                · go_simp
                  refine (V2.out _ _ PB11.out.pair.two.ca).mono ?_
                  intro e W12 hp
                  obtain ⟨rfl, T12, hPn⟩ := PB11.out.call2 hp
                  have PB12 := Lib.hid hPn
                  clear hp hPn
                  go_wp2_with fail
                  refine hK.out _ _ ?_ (fun hHeld => ?_)
                  · exact (PB12.out.pair.one.bel.cell (p := ⟨g, o + k, none⟩) hg).trans hck
                  clear hK K PB11
                  (try simp only [Act.put, List.setIfInBounds_toArray, List.set_cons_zero, List.set_cons_succ])
                  refine wpAnyH_ready (rs := [13]) (by kernel_rfl) (by simp) ?_
                  refine AllReadyH.cons (o := { dst := some 10, op := Go.Op.alloc 34, type := 0, pos := "law.go:140", after := #[], guard := none }) rfl (fun K hK => ?_) AllReadyH.nil
                  go_simp
                  have PB13 := Lib.hid (PB12.out.alloc13)
                  refine hK.out _ _ ?_ (fun hHeld => ?_)
                  · exact (PB13.out.pair.one.bel.cell (p := ⟨g, o + k, none⟩) hg).trans hck
                  clear hK K PB12
                  (try simp only [Act.put, List.setIfInBounds_toArray, List.set_cons_zero, List.set_cons_succ])
                  generalize W12.alloc (.cells #[.bool false, .string ⟨#[]⟩, .bool false] 34) = W13 at PB13 hHeld ⊢
                  generalize W12.heap.size = z13 at PB13 ⊢
                  refine wpAnyH_ready (rs := [14]) (by kernel_rfl) (by simp) ?_
                  refine AllReadyH.cons (o := { dst := none, op := Go.Op.store 34 (Go.Operand.tmp 9) (Go.Operand.tmp 60), type := 0, pos := "law.go:140", after := #[{ on := 12, ground := Go.Ground.data }, { on := 5, ground := Go.Ground.data }, { on := 11, ground := Go.Ground.chain }, { on := 0, ground := Go.Ground.phase }, { on := 1, ground := Go.Ground.phase }, { on := 2, ground := Go.Ground.phase }, { on := 3, ground := Go.Ground.phase }, { on := 4, ground := Go.Ground.phase }, { on := 5, ground := Go.Ground.phase }, { on := 6, ground := Go.Ground.textOnly Go.Departure.lateStores }, { on := 7, ground := Go.Ground.textOnly Go.Departure.lateStores }, { on := 8, ground := Go.Ground.textOnly Go.Departure.lateStores }, { on := 9, ground := Go.Ground.textOnly Go.Departure.lateStores }, { on := 10, ground := Go.Ground.textOnly Go.Departure.lateStores }, { on := 11, ground := Go.Ground.textOnly Go.Departure.lateStoresUnsure }, { on := 12, ground := Go.Ground.phase }, { on := 13, ground := Go.Ground.phase }], guard := none }) rfl (fun K hK => ?_) AllReadyH.nil
                  obtain ⟨k0, k1, k2, f0, f1, f2⟩ := PB13.out.cells
                  have PB14 := Lib.hid (PB13.out.store1 ha va oa)
                  go_simp
                  refine hK.out _ _ ?_ (fun hHeld => ?_)
                  · exact (PB14.out.pair.one.bel.cell (p := ⟨g, o + k, none⟩) hg).trans hck
                  clear hK K PB13 k0 k1 k2 f0 f1 f2
                  (try simp only [Act.put, List.setIfInBounds_toArray, List.set_cons_zero, List.set_cons_succ])
                  generalize ((W13.setCell ⟨z12, 0, none⟩ (.bool ha)).setCell ⟨z12, 1, none⟩ (.string va)).setCell ⟨z12, 2, none⟩ (.bool oa) = W14 at PB14 hHeld ⊢
                  refine wpAnyH_ready (rs := [15]) (by kernel_rfl) (by simp) ?_
                  refine AllReadyH.cons (o := { dst := none, op := Go.Op.store 34 (Go.Operand.tmp 10) (Go.Operand.tmp 66), type := 0, pos := "law.go:140", after := #[{ on := 13, ground := Go.Ground.data }, { on := 11, ground := Go.Ground.data }, { on := 14, ground := Go.Ground.chain }, { on := 0, ground := Go.Ground.phase }, { on := 1, ground := Go.Ground.phase }, { on := 2, ground := Go.Ground.phase }, { on := 3, ground := Go.Ground.phase }, { on := 4, ground := Go.Ground.phase }, { on := 5, ground := Go.Ground.phase }, { on := 6, ground := Go.Ground.phase }, { on := 7, ground := Go.Ground.phase }, { on := 8, ground := Go.Ground.phase }, { on := 9, ground := Go.Ground.phase }, { on := 10, ground := Go.Ground.phase }, { on := 11, ground := Go.Ground.phase }, { on := 12, ground := Go.Ground.phase }, { on := 13, ground := Go.Ground.phase }, { on := 14, ground := Go.Ground.phase }], guard := none }) rfl (fun K hK => ?_) AllReadyH.nil
                  obtain ⟨k0, k1, k2, f0, f1, f2⟩ := PB14.out.cells
                  have PB15 := Lib.hid (PB14.out.store2 hb vb ob)
                  go_simp
                  refine hK.out _ _ ?_ (fun hHeld => ?_)
                  · exact (PB15.out.pair.one.bel.cell (p := ⟨g, o + k, none⟩) hg).trans hck
                  clear hK K PB14 k0 k1 k2 f0 f1 f2
                  (try simp only [Act.put, List.setIfInBounds_toArray, List.set_cons_zero, List.set_cons_succ])
                  generalize ((W14.setCell ⟨z13, 0, none⟩ (.bool hb)).setCell ⟨z13, 1, none⟩ (.string vb)).setCell ⟨z13, 2, none⟩ (.bool ob) = W15 at PB15 hHeld ⊢
                  refine wpAnyH_done (by kernel_rfl) ?_ _
                  refine NoPanic.normal ?_
                  clear hHeld
                  go_wp2_with fail
                  go_meet
                  exact ⟨_, _, _, _, rfl, rfl, PB15.out⟩
                · go_simp
                  have PB16 := Lib.hid (PB11.out.alloc13)
                  refine hK.out _ _ ?_ (fun hHeld => ?_)
                  · exact (PB16.out.pair.one.bel.cell (p := ⟨g, o + k, none⟩) hg).trans hck
                  clear hK K PB11
                  (try simp only [Act.put, List.setIfInBounds_toArray, List.set_cons_zero, List.set_cons_succ])
                  generalize W11.alloc (.cells #[.bool false, .string ⟨#[]⟩, .bool false] 34) = W16 at PB16 hHeld ⊢
                  generalize W11.heap.size = z13 at PB16 ⊢
                  refine wpAnyH_ready (rs := [11]) (by kernel_rfl) (by simp) ?_
                  refine AllReadyH.cons (o := { dst := some 66, op := Go.Op.call { callee := Go.Callee.value (Go.Operand.func 13), args := #[Go.Operand.tmp 61, Go.Operand.tmp 65], argTypes := #[25, 9] }, type := 34, pos := "law.go:140", after := #[{ on := 6, ground := Go.Ground.data }, { on := 10, ground := Go.Ground.data }, { on := 5, ground := Go.Ground.chain }], guard := none }) rfl (fun K hK => ?_) AllReadyH.nil
                  go_simp
                  refine (V2.out _ _ PB16.out.pair.two.ca).mono ?_
                  intro e W17 hp
                  obtain ⟨rfl, T17, hPn⟩ := PB16.out.call2 hp
                  have PB17 := Lib.hid hPn
                  clear hp hPn
                  go_wp2_with fail
                  refine hK.out _ _ ?_ (fun hHeld => ?_)
                  · exact (PB17.out.pair.one.bel.cell (p := ⟨g, o + k, none⟩) hg).trans hck
                  clear hK K PB16
                  (try simp only [Act.put, List.setIfInBounds_toArray, List.set_cons_zero, List.set_cons_succ])
                  refine wpAnyH_ready (rs := [14]) (by kernel_rfl) (by simp) ?_
                  refine AllReadyH.cons (o := { dst := none, op := Go.Op.store 34 (Go.Operand.tmp 9) (Go.Operand.tmp 60), type := 0, pos := "law.go:140", after := #[{ on := 12, ground := Go.Ground.data }, { on := 5, ground := Go.Ground.data }, { on := 11, ground := Go.Ground.chain }, { on := 0, ground := Go.Ground.phase }, { on := 1, ground := Go.Ground.phase }, { on := 2, ground := Go.Ground.phase }, { on := 3, ground := Go.Ground.phase }, { on := 4, ground := Go.Ground.phase }, { on := 5, ground := Go.Ground.phase }, { on := 6, ground := Go.Ground.textOnly Go.Departure.lateStores }, { on := 7, ground := Go.Ground.textOnly Go.Departure.lateStores }, { on := 8, ground := Go.Ground.textOnly Go.Departure.lateStores }, { on := 9, ground := Go.Ground.textOnly Go.Departure.lateStores }, { on := 10, ground := Go.Ground.textOnly Go.Departure.lateStores }, { on := 11, ground := Go.Ground.textOnly Go.Departure.lateStoresUnsure }, { on := 12, ground := Go.Ground.phase }, { on := 13, ground := Go.Ground.phase }], guard := none }) rfl (fun K hK => ?_) AllReadyH.nil
                  obtain ⟨k0, k1, k2, f0, f1, f2⟩ := PB17.out.cells
                  have PB18 := Lib.hid (PB17.out.store1 ha va oa)
                  go_simp
                  refine hK.out _ _ ?_ (fun hHeld => ?_)
                  · exact (PB18.out.pair.one.bel.cell (p := ⟨g, o + k, none⟩) hg).trans hck
                  clear hK K PB17 k0 k1 k2 f0 f1 f2
                  (try simp only [Act.put, List.setIfInBounds_toArray, List.set_cons_zero, List.set_cons_succ])
                  generalize ((W17.setCell ⟨z12, 0, none⟩ (.bool ha)).setCell ⟨z12, 1, none⟩ (.string va)).setCell ⟨z12, 2, none⟩ (.bool oa) = W18 at PB18 hHeld ⊢
                  refine wpAnyH_ready (rs := [15]) (by kernel_rfl) (by simp) ?_
                  refine AllReadyH.cons (o := { dst := none, op := Go.Op.store 34 (Go.Operand.tmp 10) (Go.Operand.tmp 66), type := 0, pos := "law.go:140", after := #[{ on := 13, ground := Go.Ground.data }, { on := 11, ground := Go.Ground.data }, { on := 14, ground := Go.Ground.chain }, { on := 0, ground := Go.Ground.phase }, { on := 1, ground := Go.Ground.phase }, { on := 2, ground := Go.Ground.phase }, { on := 3, ground := Go.Ground.phase }, { on := 4, ground := Go.Ground.phase }, { on := 5, ground := Go.Ground.phase }, { on := 6, ground := Go.Ground.phase }, { on := 7, ground := Go.Ground.phase }, { on := 8, ground := Go.Ground.phase }, { on := 9, ground := Go.Ground.phase }, { on := 10, ground := Go.Ground.phase }, { on := 11, ground := Go.Ground.phase }, { on := 12, ground := Go.Ground.phase }, { on := 13, ground := Go.Ground.phase }, { on := 14, ground := Go.Ground.phase }], guard := none }) rfl (fun K hK => ?_) AllReadyH.nil
                  obtain ⟨k0, k1, k2, f0, f1, f2⟩ := PB18.out.cells
                  have PB19 := Lib.hid (PB18.out.store2 hb vb ob)
                  go_simp
                  refine hK.out _ _ ?_ (fun hHeld => ?_)
                  · exact (PB19.out.pair.one.bel.cell (p := ⟨g, o + k, none⟩) hg).trans hck
                  clear hK K PB18 k0 k1 k2 f0 f1 f2
                  (try simp only [Act.put, List.setIfInBounds_toArray, List.set_cons_zero, List.set_cons_succ])
                  generalize ((W18.setCell ⟨z13, 0, none⟩ (.bool hb)).setCell ⟨z13, 1, none⟩ (.string vb)).setCell ⟨z13, 2, none⟩ (.bool ob) = W19 at PB19 hHeld ⊢
                  refine wpAnyH_done (by kernel_rfl) ?_ _
                  refine NoPanic.normal ?_
                  clear hHeld
                  go_wp2_with fail
                  go_meet
                  exact ⟨_, _, _, _, rfl, rfl, PB19.out⟩
              · go_simp
                have PB20 := Lib.hid (PB1.out.alloc13)
                refine hK.out _ _ ?_ (fun hHeld => ?_)
                · exact (PB20.out.pair.one.bel.cell (p := ⟨g, o + k, none⟩) hg).trans hck
                clear hK K PB1
                (try simp only [Act.put, List.setIfInBounds_toArray, List.set_cons_zero, List.set_cons_succ])
                generalize W1.alloc (.cells #[.bool false, .string ⟨#[]⟩, .bool false] 34) = W20 at PB20 hHeld ⊢
                generalize W1.heap.size = z13 at PB20 ⊢
                refine wpAnyH_ready (rs := [11, 12]) (by kernel_rfl) (by simp) ?_
                refine AllReadyH.cons (o := { dst := some 66, op := Go.Op.call { callee := Go.Callee.value (Go.Operand.func 13), args := #[Go.Operand.tmp 61, Go.Operand.tmp 65], argTypes := #[25, 9] }, type := 34, pos := "law.go:140", after := #[{ on := 6, ground := Go.Ground.data }, { on := 10, ground := Go.Ground.data }, { on := 5, ground := Go.Ground.chain }], guard := none }) rfl (fun K hK => ?_) (AllReadyH.cons (o := { dst := some 9, op := Go.Op.alloc 34, type := 0, pos := "law.go:140", after := #[], guard := none }) rfl (fun K hK => ?_) AllReadyH.nil)
                · go_simp
                  refine (V2.out _ _ PB20.out.pair.two.ca).mono ?_
                  intro e W21 hp
                  obtain ⟨rfl, T21, hPn⟩ := PB20.out.call2 hp
                  have PB21 := Lib.hid hPn
                  clear hp hPn
                  go_wp2_with fail
                  refine hK.out _ _ ?_ (fun hHeld => ?_)
                  · exact (PB21.out.pair.one.bel.cell (p := ⟨g, o + k, none⟩) hg).trans hck
                  clear hK K PB20
                  (try simp only [Act.put, List.setIfInBounds_toArray, List.set_cons_zero, List.set_cons_succ])
                  refine wpAnyH_ready (rs := [12]) (by kernel_rfl) (by simp) ?_
                  refine AllReadyH.cons (o := { dst := some 9, op := Go.Op.alloc 34, type := 0, pos := "law.go:140", after := #[], guard := none }) rfl (fun K hK => ?_) AllReadyH.nil
                  go_simp
                  have PB22 := Lib.hid (PB21.out.alloc12)
                  refine hK.out _ _ ?_ (fun hHeld => ?_)
                  · exact (PB22.out.pair.one.bel.cell (p := ⟨g, o + k, none⟩) hg).trans hck
                  clear hK K PB21
                  (try simp only [Act.put, List.setIfInBounds_toArray, List.set_cons_zero, List.set_cons_succ])
                  generalize W21.alloc (.cells #[.bool false, .string ⟨#[]⟩, .bool false] 34) = W22 at PB22 hHeld ⊢
                  generalize W21.heap.size = z12 at PB22 ⊢
                  refine wpAnyH_ready (rs := [14]) (by kernel_rfl) (by simp) ?_
                  refine AllReadyH.cons (o := { dst := none, op := Go.Op.store 34 (Go.Operand.tmp 9) (Go.Operand.tmp 60), type := 0, pos := "law.go:140", after := #[{ on := 12, ground := Go.Ground.data }, { on := 5, ground := Go.Ground.data }, { on := 11, ground := Go.Ground.chain }, { on := 0, ground := Go.Ground.phase }, { on := 1, ground := Go.Ground.phase }, { on := 2, ground := Go.Ground.phase }, { on := 3, ground := Go.Ground.phase }, { on := 4, ground := Go.Ground.phase }, { on := 5, ground := Go.Ground.phase }, { on := 6, ground := Go.Ground.textOnly Go.Departure.lateStores }, { on := 7, ground := Go.Ground.textOnly Go.Departure.lateStores }, { on := 8, ground := Go.Ground.textOnly Go.Departure.lateStores }, { on := 9, ground := Go.Ground.textOnly Go.Departure.lateStores }, { on := 10, ground := Go.Ground.textOnly Go.Departure.lateStores }, { on := 11, ground := Go.Ground.textOnly Go.Departure.lateStoresUnsure }, { on := 12, ground := Go.Ground.phase }, { on := 13, ground := Go.Ground.phase }], guard := none }) rfl (fun K hK => ?_) AllReadyH.nil
                  obtain ⟨k0, k1, k2, f0, f1, f2⟩ := PB22.out.cells
                  have PB23 := Lib.hid (PB22.out.store1 ha va oa)
                  go_simp
                  refine hK.out _ _ ?_ (fun hHeld => ?_)
                  · exact (PB23.out.pair.one.bel.cell (p := ⟨g, o + k, none⟩) hg).trans hck
                  clear hK K PB22 k0 k1 k2 f0 f1 f2
                  (try simp only [Act.put, List.setIfInBounds_toArray, List.set_cons_zero, List.set_cons_succ])
                  generalize ((W22.setCell ⟨z12, 0, none⟩ (.bool ha)).setCell ⟨z12, 1, none⟩ (.string va)).setCell ⟨z12, 2, none⟩ (.bool oa) = W23 at PB23 hHeld ⊢
                  refine wpAnyH_ready (rs := [15]) (by kernel_rfl) (by simp) ?_
                  refine AllReadyH.cons (o := { dst := none, op := Go.Op.store 34 (Go.Operand.tmp 10) (Go.Operand.tmp 66), type := 0, pos := "law.go:140", after := #[{ on := 13, ground := Go.Ground.data }, { on := 11, ground := Go.Ground.data }, { on := 14, ground := Go.Ground.chain }, { on := 0, ground := Go.Ground.phase }, { on := 1, ground := Go.Ground.phase }, { on := 2, ground := Go.Ground.phase }, { on := 3, ground := Go.Ground.phase }, { on := 4, ground := Go.Ground.phase }, { on := 5, ground := Go.Ground.phase }, { on := 6, ground := Go.Ground.phase }, { on := 7, ground := Go.Ground.phase }, { on := 8, ground := Go.Ground.phase }, { on := 9, ground := Go.Ground.phase }, { on := 10, ground := Go.Ground.phase }, { on := 11, ground := Go.Ground.phase }, { on := 12, ground := Go.Ground.phase }, { on := 13, ground := Go.Ground.phase }, { on := 14, ground := Go.Ground.phase }], guard := none }) rfl (fun K hK => ?_) AllReadyH.nil
                  obtain ⟨k0, k1, k2, f0, f1, f2⟩ := PB23.out.cells
                  have PB24 := Lib.hid (PB23.out.store2 hb vb ob)
                  go_simp
                  refine hK.out _ _ ?_ (fun hHeld => ?_)
                  · exact (PB24.out.pair.one.bel.cell (p := ⟨g, o + k, none⟩) hg).trans hck
                  clear hK K PB23 k0 k1 k2 f0 f1 f2
                  (try simp only [Act.put, List.setIfInBounds_toArray, List.set_cons_zero, List.set_cons_succ])
                  generalize ((W23.setCell ⟨z13, 0, none⟩ (.bool hb)).setCell ⟨z13, 1, none⟩ (.string vb)).setCell ⟨z13, 2, none⟩ (.bool ob) = W24 at PB24 hHeld ⊢
                  refine wpAnyH_done (by kernel_rfl) ?_ _
                  refine NoPanic.normal ?_
                  clear hHeld
                  go_wp2_with fail
                  go_meet
                  exact ⟨_, _, _, _, rfl, rfl, PB24.out⟩
                · go_simp
                  have PB25 := Lib.hid (PB20.out.alloc12)
                  refine hK.out _ _ ?_ (fun hHeld => ?_)
                  · exact (PB25.out.pair.one.bel.cell (p := ⟨g, o + k, none⟩) hg).trans hck
                  clear hK K PB20
                  (try simp only [Act.put, List.setIfInBounds_toArray, List.set_cons_zero, List.set_cons_succ])
                  generalize W20.alloc (.cells #[.bool false, .string ⟨#[]⟩, .bool false] 34) = W25 at PB25 hHeld ⊢
                  generalize W20.heap.size = z12 at PB25 ⊢
                  refine wpAnyH_ready (rs := [11]) (by kernel_rfl) (by simp) ?_
                  refine AllReadyH.cons (o := { dst := some 66, op := Go.Op.call { callee := Go.Callee.value (Go.Operand.func 13), args := #[Go.Operand.tmp 61, Go.Operand.tmp 65], argTypes := #[25, 9] }, type := 34, pos := "law.go:140", after := #[{ on := 6, ground := Go.Ground.data }, { on := 10, ground := Go.Ground.data }, { on := 5, ground := Go.Ground.chain }], guard := none }) rfl (fun K hK => ?_) AllReadyH.nil
                  go_simp
                  refine (V2.out _ _ PB25.out.pair.two.ca).mono ?_
                  intro e W26 hp
                  obtain ⟨rfl, T26, hPn⟩ := PB25.out.call2 hp
                  have PB26 := Lib.hid hPn
                  clear hp hPn
                  go_wp2_with fail
                  refine hK.out _ _ ?_ (fun hHeld => ?_)
                  · exact (PB26.out.pair.one.bel.cell (p := ⟨g, o + k, none⟩) hg).trans hck
                  clear hK K PB25
                  (try simp only [Act.put, List.setIfInBounds_toArray, List.set_cons_zero, List.set_cons_succ])
                  refine wpAnyH_ready (rs := [14]) (by kernel_rfl) (by simp) ?_
                  refine AllReadyH.cons (o := { dst := none, op := Go.Op.store 34 (Go.Operand.tmp 9) (Go.Operand.tmp 60), type := 0, pos := "law.go:140", after := #[{ on := 12, ground := Go.Ground.data }, { on := 5, ground := Go.Ground.data }, { on := 11, ground := Go.Ground.chain }, { on := 0, ground := Go.Ground.phase }, { on := 1, ground := Go.Ground.phase }, { on := 2, ground := Go.Ground.phase }, { on := 3, ground := Go.Ground.phase }, { on := 4, ground := Go.Ground.phase }, { on := 5, ground := Go.Ground.phase }, { on := 6, ground := Go.Ground.textOnly Go.Departure.lateStores }, { on := 7, ground := Go.Ground.textOnly Go.Departure.lateStores }, { on := 8, ground := Go.Ground.textOnly Go.Departure.lateStores }, { on := 9, ground := Go.Ground.textOnly Go.Departure.lateStores }, { on := 10, ground := Go.Ground.textOnly Go.Departure.lateStores }, { on := 11, ground := Go.Ground.textOnly Go.Departure.lateStoresUnsure }, { on := 12, ground := Go.Ground.phase }, { on := 13, ground := Go.Ground.phase }], guard := none }) rfl (fun K hK => ?_) AllReadyH.nil
                  obtain ⟨k0, k1, k2, f0, f1, f2⟩ := PB26.out.cells
                  have PB27 := Lib.hid (PB26.out.store1 ha va oa)
                  go_simp
                  refine hK.out _ _ ?_ (fun hHeld => ?_)
                  · exact (PB27.out.pair.one.bel.cell (p := ⟨g, o + k, none⟩) hg).trans hck
                  clear hK K PB26 k0 k1 k2 f0 f1 f2
                  (try simp only [Act.put, List.setIfInBounds_toArray, List.set_cons_zero, List.set_cons_succ])
                  generalize ((W26.setCell ⟨z12, 0, none⟩ (.bool ha)).setCell ⟨z12, 1, none⟩ (.string va)).setCell ⟨z12, 2, none⟩ (.bool oa) = W27 at PB27 hHeld ⊢
                  refine wpAnyH_ready (rs := [15]) (by kernel_rfl) (by simp) ?_
                  refine AllReadyH.cons (o := { dst := none, op := Go.Op.store 34 (Go.Operand.tmp 10) (Go.Operand.tmp 66), type := 0, pos := "law.go:140", after := #[{ on := 13, ground := Go.Ground.data }, { on := 11, ground := Go.Ground.data }, { on := 14, ground := Go.Ground.chain }, { on := 0, ground := Go.Ground.phase }, { on := 1, ground := Go.Ground.phase }, { on := 2, ground := Go.Ground.phase }, { on := 3, ground := Go.Ground.phase }, { on := 4, ground := Go.Ground.phase }, { on := 5, ground := Go.Ground.phase }, { on := 6, ground := Go.Ground.phase }, { on := 7, ground := Go.Ground.phase }, { on := 8, ground := Go.Ground.phase }, { on := 9, ground := Go.Ground.phase }, { on := 10, ground := Go.Ground.phase }, { on := 11, ground := Go.Ground.phase }, { on := 12, ground := Go.Ground.phase }, { on := 13, ground := Go.Ground.phase }, { on := 14, ground := Go.Ground.phase }], guard := none }) rfl (fun K hK => ?_) AllReadyH.nil
                  obtain ⟨k0, k1, k2, f0, f1, f2⟩ := PB27.out.cells
                  have PB28 := Lib.hid (PB27.out.store2 hb vb ob)
                  go_simp
                  refine hK.out _ _ ?_ (fun hHeld => ?_)
                  · exact (PB28.out.pair.one.bel.cell (p := ⟨g, o + k, none⟩) hg).trans hck
                  clear hK K PB27 k0 k1 k2 f0 f1 f2
                  (try simp only [Act.put, List.setIfInBounds_toArray, List.set_cons_zero, List.set_cons_succ])
                  generalize ((W27.setCell ⟨z13, 0, none⟩ (.bool hb)).setCell ⟨z13, 1, none⟩ (.string vb)).setCell ⟨z13, 2, none⟩ (.bool ob) = W28 at PB28 hHeld ⊢
                  refine wpAnyH_done (by kernel_rfl) ?_ _
                  refine NoPanic.normal ?_
                  clear hHeld
                  go_wp2_with fail
                  go_meet
                  exact ⟨_, _, _, _, rfl, rfl, PB28.out⟩
            · go_simp
              have PB29 := Lib.hid (PB0.out.alloc12)
              refine hK.out _ _ ?_ (fun hHeld => ?_)
              · exact (PB29.out.pair.one.bel.cell (p := ⟨g, o + k, none⟩) hg).trans hck
              clear hK K PB0
              (try simp only [Act.put, List.setIfInBounds_toArray, List.set_cons_zero, List.set_cons_succ])
              generalize W0.alloc (.cells #[.bool false, .string ⟨#[]⟩, .bool false] 34) = W29 at PB29 hHeld ⊢
              generalize W0.heap.size = z12 at PB29 ⊢
              refine wpAnyH_ready (rs := [5, 13]) (by kernel_rfl) (by simp) ?_
              refine AllReadyH.cons (o := { dst := some 60, op := Go.Op.call { callee := Go.Callee.value (Go.Operand.func 13), args := #[Go.Operand.tmp 55, Go.Operand.tmp 59], argTypes := #[25, 9] }, type := 34, pos := "law.go:140", after := #[{ on := 0, ground := Go.Ground.data }, { on := 4, ground := Go.Ground.data }], guard := none }) rfl (fun K hK => ?_) (AllReadyH.cons (o := { dst := some 10, op := Go.Op.alloc 34, type := 0, pos := "law.go:140", after := #[], guard := none }) rfl (fun K hK => ?_) AllReadyH.nil)
              · go_simp
                refine (V1.out _ _ PB29.out.pair.one.ca).mono ?_
                intro e W30 hp
                obtain ⟨rfl, T30, hPn⟩ := PB29.out.call1 hp
                have PB30 := Lib.hid hPn
                clear hp hPn
                go_wp2_with fail
                refine hK.out _ _ ?_ (fun hHeld => ?_)
                · exact (PB30.out.pair.one.bel.cell (p := ⟨g, o + k, none⟩) hg).trans hck
                clear hK K PB29
                (try simp only [Act.put, List.setIfInBounds_toArray, List.set_cons_zero, List.set_cons_succ])
                refine wpAnyH_ready (rs := [11, 13]) (by kernel_rfl) (by simp) ?_
                refine AllReadyH.cons (o := { dst := some 66, op := Go.Op.call { callee := Go.Callee.value (Go.Operand.func 13), args := #[Go.Operand.tmp 61, Go.Operand.tmp 65], argTypes := #[25, 9] }, type := 34, pos := "law.go:140", after := #[{ on := 6, ground := Go.Ground.data }, { on := 10, ground := Go.Ground.data }, { on := 5, ground := Go.Ground.chain }], guard := none }) rfl (fun K hK => ?_) (AllReadyH.cons (o := { dst := some 10, op := Go.Op.alloc 34, type := 0, pos := "law.go:140", after := #[], guard := none }) rfl (fun K hK => ?_) AllReadyH.nil)
                · go_simp
                  refine (V2.out _ _ PB30.out.pair.two.ca).mono ?_
                  intro e W31 hp
                  obtain ⟨rfl, T31, hPn⟩ := PB30.out.call2 hp
                  have PB31 := Lib.hid hPn
                  clear hp hPn
                  go_wp2_with fail
                  refine hK.out _ _ ?_ (fun hHeld => ?_)
                  · exact (PB31.out.pair.one.bel.cell (p := ⟨g, o + k, none⟩) hg).trans hck
                  clear hK K PB30
                  (try simp only [Act.put, List.setIfInBounds_toArray, List.set_cons_zero, List.set_cons_succ])
                  refine wpAnyH_ready (rs := [13]) (by kernel_rfl) (by simp) ?_
                  refine AllReadyH.cons (o := { dst := some 10, op := Go.Op.alloc 34, type := 0, pos := "law.go:140", after := #[], guard := none }) rfl (fun K hK => ?_) AllReadyH.nil
                  go_simp
                  have PB32 := Lib.hid (PB31.out.alloc13)
                  refine hK.out _ _ ?_ (fun hHeld => ?_)
                  · exact (PB32.out.pair.one.bel.cell (p := ⟨g, o + k, none⟩) hg).trans hck
                  clear hK K PB31
                  (try simp only [Act.put, List.setIfInBounds_toArray, List.set_cons_zero, List.set_cons_succ])
                  generalize W31.alloc (.cells #[.bool false, .string ⟨#[]⟩, .bool false] 34) = W32 at PB32 hHeld ⊢
                  generalize W31.heap.size = z13 at PB32 ⊢
                  refine wpAnyH_ready (rs := [14]) (by kernel_rfl) (by simp) ?_
                  refine AllReadyH.cons (o := { dst := none, op := Go.Op.store 34 (Go.Operand.tmp 9) (Go.Operand.tmp 60), type := 0, pos := "law.go:140", after := #[{ on := 12, ground := Go.Ground.data }, { on := 5, ground := Go.Ground.data }, { on := 11, ground := Go.Ground.chain }, { on := 0, ground := Go.Ground.phase }, { on := 1, ground := Go.Ground.phase }, { on := 2, ground := Go.Ground.phase }, { on := 3, ground := Go.Ground.phase }, { on := 4, ground := Go.Ground.phase }, { on := 5, ground := Go.Ground.phase }, { on := 6, ground := Go.Ground.textOnly Go.Departure.lateStores }, { on := 7, ground := Go.Ground.textOnly Go.Departure.lateStores }, { on := 8, ground := Go.Ground.textOnly Go.Departure.lateStores }, { on := 9, ground := Go.Ground.textOnly Go.Departure.lateStores }, { on := 10, ground := Go.Ground.textOnly Go.Departure.lateStores }, { on := 11, ground := Go.Ground.textOnly Go.Departure.lateStoresUnsure }, { on := 12, ground := Go.Ground.phase }, { on := 13, ground := Go.Ground.phase }], guard := none }) rfl (fun K hK => ?_) AllReadyH.nil
                  obtain ⟨k0, k1, k2, f0, f1, f2⟩ := PB32.out.cells
                  have PB33 := Lib.hid (PB32.out.store1 ha va oa)
                  go_simp
                  refine hK.out _ _ ?_ (fun hHeld => ?_)
                  · exact (PB33.out.pair.one.bel.cell (p := ⟨g, o + k, none⟩) hg).trans hck
                  clear hK K PB32 k0 k1 k2 f0 f1 f2
                  (try simp only [Act.put, List.setIfInBounds_toArray, List.set_cons_zero, List.set_cons_succ])
                  generalize ((W32.setCell ⟨z12, 0, none⟩ (.bool ha)).setCell ⟨z12, 1, none⟩ (.string va)).setCell ⟨z12, 2, none⟩ (.bool oa) = W33 at PB33 hHeld ⊢
                  refine wpAnyH_ready (rs := [15]) (by kernel_rfl) (by simp) ?_
                  refine AllReadyH.cons (o := { dst := none, op := Go.Op.store 34 (Go.Operand.tmp 10) (Go.Operand.tmp 66), type := 0, pos := "law.go:140", after := #[{ on := 13, ground := Go.Ground.data }, { on := 11, ground := Go.Ground.data }, { on := 14, ground := Go.Ground.chain }, { on := 0, ground := Go.Ground.phase }, { on := 1, ground := Go.Ground.phase }, { on := 2, ground := Go.Ground.phase }, { on := 3, ground := Go.Ground.phase }, { on := 4, ground := Go.Ground.phase }, { on := 5, ground := Go.Ground.phase }, { on := 6, ground := Go.Ground.phase }, { on := 7, ground := Go.Ground.phase }, { on := 8, ground := Go.Ground.phase }, { on := 9, ground := Go.Ground.phase }, { on := 10, ground := Go.Ground.phase }, { on := 11, ground := Go.Ground.phase }, { on := 12, ground := Go.Ground.phase }, { on := 13, ground := Go.Ground.phase }, { on := 14, ground := Go.Ground.phase }], guard := none }) rfl (fun K hK => ?_) AllReadyH.nil
                  obtain ⟨k0, k1, k2, f0, f1, f2⟩ := PB33.out.cells
                  have PB34 := Lib.hid (PB33.out.store2 hb vb ob)
                  go_simp
                  refine hK.out _ _ ?_ (fun hHeld => ?_)
                  · exact (PB34.out.pair.one.bel.cell (p := ⟨g, o + k, none⟩) hg).trans hck
                  clear hK K PB33 k0 k1 k2 f0 f1 f2
                  (try simp only [Act.put, List.setIfInBounds_toArray, List.set_cons_zero, List.set_cons_succ])
                  generalize ((W33.setCell ⟨z13, 0, none⟩ (.bool hb)).setCell ⟨z13, 1, none⟩ (.string vb)).setCell ⟨z13, 2, none⟩ (.bool ob) = W34 at PB34 hHeld ⊢
                  refine wpAnyH_done (by kernel_rfl) ?_ _
                  refine NoPanic.normal ?_
                  clear hHeld
                  go_wp2_with fail
                  go_meet
                  exact ⟨_, _, _, _, rfl, rfl, PB34.out⟩
                · go_simp
                  have PB35 := Lib.hid (PB30.out.alloc13)
                  refine hK.out _ _ ?_ (fun hHeld => ?_)
                  · exact (PB35.out.pair.one.bel.cell (p := ⟨g, o + k, none⟩) hg).trans hck
                  clear hK K PB30
                  (try simp only [Act.put, List.setIfInBounds_toArray, List.set_cons_zero, List.set_cons_succ])
                  generalize W30.alloc (.cells #[.bool false, .string ⟨#[]⟩, .bool false] 34) = W35 at PB35 hHeld ⊢
                  generalize W30.heap.size = z13 at PB35 ⊢
                  refine wpAnyH_ready (rs := [11]) (by kernel_rfl) (by simp) ?_
                  refine AllReadyH.cons (o := { dst := some 66, op := Go.Op.call { callee := Go.Callee.value (Go.Operand.func 13), args := #[Go.Operand.tmp 61, Go.Operand.tmp 65], argTypes := #[25, 9] }, type := 34, pos := "law.go:140", after := #[{ on := 6, ground := Go.Ground.data }, { on := 10, ground := Go.Ground.data }, { on := 5, ground := Go.Ground.chain }], guard := none }) rfl (fun K hK => ?_) AllReadyH.nil
                  go_simp
                  refine (V2.out _ _ PB35.out.pair.two.ca).mono ?_
                  intro e W36 hp
                  obtain ⟨rfl, T36, hPn⟩ := PB35.out.call2 hp
                  have PB36 := Lib.hid hPn
                  clear hp hPn
                  go_wp2_with fail
                  refine hK.out _ _ ?_ (fun hHeld => ?_)
                  · exact (PB36.out.pair.one.bel.cell (p := ⟨g, o + k, none⟩) hg).trans hck
                  clear hK K PB35
                  (try simp only [Act.put, List.setIfInBounds_toArray, List.set_cons_zero, List.set_cons_succ])
                  refine wpAnyH_ready (rs := [14]) (by kernel_rfl) (by simp) ?_
                  refine AllReadyH.cons (o := { dst := none, op := Go.Op.store 34 (Go.Operand.tmp 9) (Go.Operand.tmp 60), type := 0, pos := "law.go:140", after := #[{ on := 12, ground := Go.Ground.data }, { on := 5, ground := Go.Ground.data }, { on := 11, ground := Go.Ground.chain }, { on := 0, ground := Go.Ground.phase }, { on := 1, ground := Go.Ground.phase }, { on := 2, ground := Go.Ground.phase }, { on := 3, ground := Go.Ground.phase }, { on := 4, ground := Go.Ground.phase }, { on := 5, ground := Go.Ground.phase }, { on := 6, ground := Go.Ground.textOnly Go.Departure.lateStores }, { on := 7, ground := Go.Ground.textOnly Go.Departure.lateStores }, { on := 8, ground := Go.Ground.textOnly Go.Departure.lateStores }, { on := 9, ground := Go.Ground.textOnly Go.Departure.lateStores }, { on := 10, ground := Go.Ground.textOnly Go.Departure.lateStores }, { on := 11, ground := Go.Ground.textOnly Go.Departure.lateStoresUnsure }, { on := 12, ground := Go.Ground.phase }, { on := 13, ground := Go.Ground.phase }], guard := none }) rfl (fun K hK => ?_) AllReadyH.nil
                  obtain ⟨k0, k1, k2, f0, f1, f2⟩ := PB36.out.cells
                  have PB37 := Lib.hid (PB36.out.store1 ha va oa)
                  go_simp
                  refine hK.out _ _ ?_ (fun hHeld => ?_)
                  · exact (PB37.out.pair.one.bel.cell (p := ⟨g, o + k, none⟩) hg).trans hck
                  clear hK K PB36 k0 k1 k2 f0 f1 f2
                  (try simp only [Act.put, List.setIfInBounds_toArray, List.set_cons_zero, List.set_cons_succ])
                  generalize ((W36.setCell ⟨z12, 0, none⟩ (.bool ha)).setCell ⟨z12, 1, none⟩ (.string va)).setCell ⟨z12, 2, none⟩ (.bool oa) = W37 at PB37 hHeld ⊢
                  refine wpAnyH_ready (rs := [15]) (by kernel_rfl) (by simp) ?_
                  refine AllReadyH.cons (o := { dst := none, op := Go.Op.store 34 (Go.Operand.tmp 10) (Go.Operand.tmp 66), type := 0, pos := "law.go:140", after := #[{ on := 13, ground := Go.Ground.data }, { on := 11, ground := Go.Ground.data }, { on := 14, ground := Go.Ground.chain }, { on := 0, ground := Go.Ground.phase }, { on := 1, ground := Go.Ground.phase }, { on := 2, ground := Go.Ground.phase }, { on := 3, ground := Go.Ground.phase }, { on := 4, ground := Go.Ground.phase }, { on := 5, ground := Go.Ground.phase }, { on := 6, ground := Go.Ground.phase }, { on := 7, ground := Go.Ground.phase }, { on := 8, ground := Go.Ground.phase }, { on := 9, ground := Go.Ground.phase }, { on := 10, ground := Go.Ground.phase }, { on := 11, ground := Go.Ground.phase }, { on := 12, ground := Go.Ground.phase }, { on := 13, ground := Go.Ground.phase }, { on := 14, ground := Go.Ground.phase }], guard := none }) rfl (fun K hK => ?_) AllReadyH.nil
                  obtain ⟨k0, k1, k2, f0, f1, f2⟩ := PB37.out.cells
                  have PB38 := Lib.hid (PB37.out.store2 hb vb ob)
                  go_simp
                  refine hK.out _ _ ?_ (fun hHeld => ?_)
                  · exact (PB38.out.pair.one.bel.cell (p := ⟨g, o + k, none⟩) hg).trans hck
                  clear hK K PB37 k0 k1 k2 f0 f1 f2
                  (try simp only [Act.put, List.setIfInBounds_toArray, List.set_cons_zero, List.set_cons_succ])
                  generalize ((W37.setCell ⟨z13, 0, none⟩ (.bool hb)).setCell ⟨z13, 1, none⟩ (.string vb)).setCell ⟨z13, 2, none⟩ (.bool ob) = W38 at PB38 hHeld ⊢
                  refine wpAnyH_done (by kernel_rfl) ?_ _
                  refine NoPanic.normal ?_
                  clear hHeld
                  go_wp2_with fail
                  go_meet
                  exact ⟨_, _, _, _, rfl, rfl, PB38.out⟩
              · go_simp
                have PB39 := Lib.hid (PB29.out.alloc13)
                refine hK.out _ _ ?_ (fun hHeld => ?_)
                · exact (PB39.out.pair.one.bel.cell (p := ⟨g, o + k, none⟩) hg).trans hck
                clear hK K PB29
                (try simp only [Act.put, List.setIfInBounds_toArray, List.set_cons_zero, List.set_cons_succ])
                generalize W29.alloc (.cells #[.bool false, .string ⟨#[]⟩, .bool false] 34) = W39 at PB39 hHeld ⊢
                generalize W29.heap.size = z13 at PB39 ⊢
                refine wpAnyH_ready (rs := [5]) (by kernel_rfl) (by simp) ?_
                refine AllReadyH.cons (o := { dst := some 60, op := Go.Op.call { callee := Go.Callee.value (Go.Operand.func 13), args := #[Go.Operand.tmp 55, Go.Operand.tmp 59], argTypes := #[25, 9] }, type := 34, pos := "law.go:140", after := #[{ on := 0, ground := Go.Ground.data }, { on := 4, ground := Go.Ground.data }], guard := none }) rfl (fun K hK => ?_) AllReadyH.nil
                go_simp
                refine (V1.out _ _ PB39.out.pair.one.ca).mono ?_
                intro e W40 hp
                obtain ⟨rfl, T40, hPn⟩ := PB39.out.call1 hp
                have PB40 := Lib.hid hPn
                clear hp hPn
                go_wp2_with fail
                refine hK.out _ _ ?_ (fun hHeld => ?_)
                · exact (PB40.out.pair.one.bel.cell (p := ⟨g, o + k, none⟩) hg).trans hck
                clear hK K PB39
                (try simp only [Act.put, List.setIfInBounds_toArray, List.set_cons_zero, List.set_cons_succ])
                refine wpAnyH_ready (rs := [11]) (by kernel_rfl) (by simp) ?_
                refine AllReadyH.cons (o := { dst := some 66, op := Go.Op.call { callee := Go.Callee.value (Go.Operand.func 13), args := #[Go.Operand.tmp 61, Go.Operand.tmp 65], argTypes := #[25, 9] }, type := 34, pos := "law.go:140", after := #[{ on := 6, ground := Go.Ground.data }, { on := 10, ground := Go.Ground.data }, { on := 5, ground := Go.Ground.chain }], guard := none }) rfl (fun K hK => ?_) AllReadyH.nil
                go_simp
                refine (V2.out _ _ PB40.out.pair.two.ca).mono ?_
                intro e W41 hp
                obtain ⟨rfl, T41, hPn⟩ := PB40.out.call2 hp
                have PB41 := Lib.hid hPn
                clear hp hPn
                go_wp2_with fail
                refine hK.out _ _ ?_ (fun hHeld => ?_)
                · exact (PB41.out.pair.one.bel.cell (p := ⟨g, o + k, none⟩) hg).trans hck
                clear hK K PB40
                (try simp only [Act.put, List.setIfInBounds_toArray, List.set_cons_zero, List.set_cons_succ])
                refine wpAnyH_ready (rs := [14]) (by kernel_rfl) (by simp) ?_
                refine AllReadyH.cons (o := { dst := none, op := Go.Op.store 34 (Go.Operand.tmp 9) (Go.Operand.tmp 60), type := 0, pos := "law.go:140", after := #[{ on := 12, ground := Go.Ground.data }, { on := 5, ground := Go.Ground.data }, { on := 11, ground := Go.Ground.chain }, { on := 0, ground := Go.Ground.phase }, { on := 1, ground := Go.Ground.phase }, { on := 2, ground := Go.Ground.phase }, { on := 3, ground := Go.Ground.phase }, { on := 4, ground := Go.Ground.phase }, { on := 5, ground := Go.Ground.phase }, { on := 6, ground := Go.Ground.textOnly Go.Departure.lateStores }, { on := 7, ground := Go.Ground.textOnly Go.Departure.lateStores }, { on := 8, ground := Go.Ground.textOnly Go.Departure.lateStores }, { on := 9, ground := Go.Ground.textOnly Go.Departure.lateStores }, { on := 10, ground := Go.Ground.textOnly Go.Departure.lateStores }, { on := 11, ground := Go.Ground.textOnly Go.Departure.lateStoresUnsure }, { on := 12, ground := Go.Ground.phase }, { on := 13, ground := Go.Ground.phase }], guard := none }) rfl (fun K hK => ?_) AllReadyH.nil
                obtain ⟨k0, k1, k2, f0, f1, f2⟩ := PB41.out.cells
                have PB42 := Lib.hid (PB41.out.store1 ha va oa)
                go_simp
                refine hK.out _ _ ?_ (fun hHeld => ?_)
                · exact (PB42.out.pair.one.bel.cell (p := ⟨g, o + k, none⟩) hg).trans hck
                clear hK K PB41 k0 k1 k2 f0 f1 f2
                (try simp only [Act.put, List.setIfInBounds_toArray, List.set_cons_zero, List.set_cons_succ])
                generalize ((W41.setCell ⟨z12, 0, none⟩ (.bool ha)).setCell ⟨z12, 1, none⟩ (.string va)).setCell ⟨z12, 2, none⟩ (.bool oa) = W42 at PB42 hHeld ⊢
                refine wpAnyH_ready (rs := [15]) (by kernel_rfl) (by simp) ?_
                refine AllReadyH.cons (o := { dst := none, op := Go.Op.store 34 (Go.Operand.tmp 10) (Go.Operand.tmp 66), type := 0, pos := "law.go:140", after := #[{ on := 13, ground := Go.Ground.data }, { on := 11, ground := Go.Ground.data }, { on := 14, ground := Go.Ground.chain }, { on := 0, ground := Go.Ground.phase }, { on := 1, ground := Go.Ground.phase }, { on := 2, ground := Go.Ground.phase }, { on := 3, ground := Go.Ground.phase }, { on := 4, ground := Go.Ground.phase }, { on := 5, ground := Go.Ground.phase }, { on := 6, ground := Go.Ground.phase }, { on := 7, ground := Go.Ground.phase }, { on := 8, ground := Go.Ground.phase }, { on := 9, ground := Go.Ground.phase }, { on := 10, ground := Go.Ground.phase }, { on := 11, ground := Go.Ground.phase }, { on := 12, ground := Go.Ground.phase }, { on := 13, ground := Go.Ground.phase }, { on := 14, ground := Go.Ground.phase }], guard := none }) rfl (fun K hK => ?_) AllReadyH.nil
                obtain ⟨k0, k1, k2, f0, f1, f2⟩ := PB42.out.cells
                have PB43 := Lib.hid (PB42.out.store2 hb vb ob)
                go_simp
                refine hK.out _ _ ?_ (fun hHeld => ?_)
                · exact (PB43.out.pair.one.bel.cell (p := ⟨g, o + k, none⟩) hg).trans hck
                clear hK K PB42 k0 k1 k2 f0 f1 f2
                (try simp only [Act.put, List.setIfInBounds_toArray, List.set_cons_zero, List.set_cons_succ])
                generalize ((W42.setCell ⟨z13, 0, none⟩ (.bool hb)).setCell ⟨z13, 1, none⟩ (.string vb)).setCell ⟨z13, 2, none⟩ (.bool ob) = W43 at PB43 hHeld ⊢
                refine wpAnyH_done (by kernel_rfl) ?_ _
                refine NoPanic.normal ?_
                clear hHeld
                go_wp2_with fail
                go_meet
                exact ⟨_, _, _, _, rfl, rfl, PB43.out⟩
            · go_simp
              have PB44 := Lib.hid (PB0.out.alloc13)
              refine hK.out _ _ ?_ (fun hHeld => ?_)
              · exact (PB44.out.pair.one.bel.cell (p := ⟨g, o + k, none⟩) hg).trans hck
              clear hK K PB0
              (try simp only [Act.put, List.setIfInBounds_toArray, List.set_cons_zero, List.set_cons_succ])
              generalize W0.alloc (.cells #[.bool false, .string ⟨#[]⟩, .bool false] 34) = W44 at PB44 hHeld ⊢
              generalize W0.heap.size = z13 at PB44 ⊢
              refine wpAnyH_ready (rs := [5, 12]) (by kernel_rfl) (by simp) ?_
              refine AllReadyH.cons (o := { dst := some 60, op := Go.Op.call { callee := Go.Callee.value (Go.Operand.func 13), args := #[Go.Operand.tmp 55, Go.Operand.tmp 59], argTypes := #[25, 9] }, type := 34, pos := "law.go:140", after := #[{ on := 0, ground := Go.Ground.data }, { on := 4, ground := Go.Ground.data }], guard := none }) rfl (fun K hK => ?_) (AllReadyH.cons (o := { dst := some 9, op := Go.Op.alloc 34, type := 0, pos := "law.go:140", after := #[], guard := none }) rfl (fun K hK => ?_) AllReadyH.nil)
              · go_simp
                refine (V1.out _ _ PB44.out.pair.one.ca).mono ?_
                intro e W45 hp
                obtain ⟨rfl, T45, hPn⟩ := PB44.out.call1 hp
                have PB45 := Lib.hid hPn
                clear hp hPn
                go_wp2_with fail
                refine hK.out _ _ ?_ (fun hHeld => ?_)
                · exact (PB45.out.pair.one.bel.cell (p := ⟨g, o + k, none⟩) hg).trans hck
                clear hK K PB44
                (try simp only [Act.put, List.setIfInBounds_toArray, List.set_cons_zero, List.set_cons_succ])
                refine wpAnyH_ready (rs := [11, 12]) (by kernel_rfl) (by simp) ?_
                refine AllReadyH.cons (o := { dst := some 66, op := Go.Op.call { callee := Go.Callee.value (Go.Operand.func 13), args := #[Go.Operand.tmp 61, Go.Operand.tmp 65], argTypes := #[25, 9] }, type := 34, pos := "law.go:140", after := #[{ on := 6, ground := Go.Ground.data }, { on := 10, ground := Go.Ground.data }, { on := 5, ground := Go.Ground.chain }], guard := none }) rfl (fun K hK => ?_) (AllReadyH.cons (o := { dst := some 9, op := Go.Op.alloc 34, type := 0, pos := "law.go:140", after := #[], guard := none }) rfl (fun K hK => ?_) AllReadyH.nil)
                · go_simp
                  refine (V2.out _ _ PB45.out.pair.two.ca).mono ?_
                  intro e W46 hp
                  obtain ⟨rfl, T46, hPn⟩ := PB45.out.call2 hp
                  have PB46 := Lib.hid hPn
                  clear hp hPn
                  go_wp2_with fail
                  refine hK.out _ _ ?_ (fun hHeld => ?_)
                  · exact (PB46.out.pair.one.bel.cell (p := ⟨g, o + k, none⟩) hg).trans hck
                  clear hK K PB45
                  (try simp only [Act.put, List.setIfInBounds_toArray, List.set_cons_zero, List.set_cons_succ])
                  refine wpAnyH_ready (rs := [12]) (by kernel_rfl) (by simp) ?_
                  refine AllReadyH.cons (o := { dst := some 9, op := Go.Op.alloc 34, type := 0, pos := "law.go:140", after := #[], guard := none }) rfl (fun K hK => ?_) AllReadyH.nil
                  go_simp
                  have PB47 := Lib.hid (PB46.out.alloc12)
                  refine hK.out _ _ ?_ (fun hHeld => ?_)
                  · exact (PB47.out.pair.one.bel.cell (p := ⟨g, o + k, none⟩) hg).trans hck
                  clear hK K PB46
                  (try simp only [Act.put, List.setIfInBounds_toArray, List.set_cons_zero, List.set_cons_succ])
                  generalize W46.alloc (.cells #[.bool false, .string ⟨#[]⟩, .bool false] 34) = W47 at PB47 hHeld ⊢
                  generalize W46.heap.size = z12 at PB47 ⊢
                  refine wpAnyH_ready (rs := [14]) (by kernel_rfl) (by simp) ?_
                  refine AllReadyH.cons (o := { dst := none, op := Go.Op.store 34 (Go.Operand.tmp 9) (Go.Operand.tmp 60), type := 0, pos := "law.go:140", after := #[{ on := 12, ground := Go.Ground.data }, { on := 5, ground := Go.Ground.data }, { on := 11, ground := Go.Ground.chain }, { on := 0, ground := Go.Ground.phase }, { on := 1, ground := Go.Ground.phase }, { on := 2, ground := Go.Ground.phase }, { on := 3, ground := Go.Ground.phase }, { on := 4, ground := Go.Ground.phase }, { on := 5, ground := Go.Ground.phase }, { on := 6, ground := Go.Ground.textOnly Go.Departure.lateStores }, { on := 7, ground := Go.Ground.textOnly Go.Departure.lateStores }, { on := 8, ground := Go.Ground.textOnly Go.Departure.lateStores }, { on := 9, ground := Go.Ground.textOnly Go.Departure.lateStores }, { on := 10, ground := Go.Ground.textOnly Go.Departure.lateStores }, { on := 11, ground := Go.Ground.textOnly Go.Departure.lateStoresUnsure }, { on := 12, ground := Go.Ground.phase }, { on := 13, ground := Go.Ground.phase }], guard := none }) rfl (fun K hK => ?_) AllReadyH.nil
                  obtain ⟨k0, k1, k2, f0, f1, f2⟩ := PB47.out.cells
                  have PB48 := Lib.hid (PB47.out.store1 ha va oa)
                  go_simp
                  refine hK.out _ _ ?_ (fun hHeld => ?_)
                  · exact (PB48.out.pair.one.bel.cell (p := ⟨g, o + k, none⟩) hg).trans hck
                  clear hK K PB47 k0 k1 k2 f0 f1 f2
                  (try simp only [Act.put, List.setIfInBounds_toArray, List.set_cons_zero, List.set_cons_succ])
                  generalize ((W47.setCell ⟨z12, 0, none⟩ (.bool ha)).setCell ⟨z12, 1, none⟩ (.string va)).setCell ⟨z12, 2, none⟩ (.bool oa) = W48 at PB48 hHeld ⊢
                  refine wpAnyH_ready (rs := [15]) (by kernel_rfl) (by simp) ?_
                  refine AllReadyH.cons (o := { dst := none, op := Go.Op.store 34 (Go.Operand.tmp 10) (Go.Operand.tmp 66), type := 0, pos := "law.go:140", after := #[{ on := 13, ground := Go.Ground.data }, { on := 11, ground := Go.Ground.data }, { on := 14, ground := Go.Ground.chain }, { on := 0, ground := Go.Ground.phase }, { on := 1, ground := Go.Ground.phase }, { on := 2, ground := Go.Ground.phase }, { on := 3, ground := Go.Ground.phase }, { on := 4, ground := Go.Ground.phase }, { on := 5, ground := Go.Ground.phase }, { on := 6, ground := Go.Ground.phase }, { on := 7, ground := Go.Ground.phase }, { on := 8, ground := Go.Ground.phase }, { on := 9, ground := Go.Ground.phase }, { on := 10, ground := Go.Ground.phase }, { on := 11, ground := Go.Ground.phase }, { on := 12, ground := Go.Ground.phase }, { on := 13, ground := Go.Ground.phase }, { on := 14, ground := Go.Ground.phase }], guard := none }) rfl (fun K hK => ?_) AllReadyH.nil
                  obtain ⟨k0, k1, k2, f0, f1, f2⟩ := PB48.out.cells
                  have PB49 := Lib.hid (PB48.out.store2 hb vb ob)
                  go_simp
                  refine hK.out _ _ ?_ (fun hHeld => ?_)
                  · exact (PB49.out.pair.one.bel.cell (p := ⟨g, o + k, none⟩) hg).trans hck
                  clear hK K PB48 k0 k1 k2 f0 f1 f2
                  (try simp only [Act.put, List.setIfInBounds_toArray, List.set_cons_zero, List.set_cons_succ])
                  generalize ((W48.setCell ⟨z13, 0, none⟩ (.bool hb)).setCell ⟨z13, 1, none⟩ (.string vb)).setCell ⟨z13, 2, none⟩ (.bool ob) = W49 at PB49 hHeld ⊢
                  refine wpAnyH_done (by kernel_rfl) ?_ _
                  refine NoPanic.normal ?_
                  clear hHeld
                  go_wp2_with fail
                  go_meet
                  exact ⟨_, _, _, _, rfl, rfl, PB49.out⟩
                · go_simp
                  have PB50 := Lib.hid (PB45.out.alloc12)
                  refine hK.out _ _ ?_ (fun hHeld => ?_)
                  · exact (PB50.out.pair.one.bel.cell (p := ⟨g, o + k, none⟩) hg).trans hck
                  clear hK K PB45
                  (try simp only [Act.put, List.setIfInBounds_toArray, List.set_cons_zero, List.set_cons_succ])
                  generalize W45.alloc (.cells #[.bool false, .string ⟨#[]⟩, .bool false] 34) = W50 at PB50 hHeld ⊢
                  generalize W45.heap.size = z12 at PB50 ⊢
                  refine wpAnyH_ready (rs := [11]) (by kernel_rfl) (by simp) ?_
                  refine AllReadyH.cons (o := { dst := some 66, op := Go.Op.call { callee := Go.Callee.value (Go.Operand.func 13), args := #[Go.Operand.tmp 61, Go.Operand.tmp 65], argTypes := #[25, 9] }, type := 34, pos := "law.go:140", after := #[{ on := 6, ground := Go.Ground.data }, { on := 10, ground := Go.Ground.data }, { on := 5, ground := Go.Ground.chain }], guard := none }) rfl (fun K hK => ?_) AllReadyH.nil
                  go_simp
                  refine (V2.out _ _ PB50.out.pair.two.ca).mono ?_
                  intro e W51 hp
                  obtain ⟨rfl, T51, hPn⟩ := PB50.out.call2 hp
                  have PB51 := Lib.hid hPn
                  clear hp hPn
                  go_wp2_with fail
                  refine hK.out _ _ ?_ (fun hHeld => ?_)
                  · exact (PB51.out.pair.one.bel.cell (p := ⟨g, o + k, none⟩) hg).trans hck
                  clear hK K PB50
                  (try simp only [Act.put, List.setIfInBounds_toArray, List.set_cons_zero, List.set_cons_succ])
                  refine wpAnyH_ready (rs := [14]) (by kernel_rfl) (by simp) ?_
                  refine AllReadyH.cons (o := { dst := none, op := Go.Op.store 34 (Go.Operand.tmp 9) (Go.Operand.tmp 60), type := 0, pos := "law.go:140", after := #[{ on := 12, ground := Go.Ground.data }, { on := 5, ground := Go.Ground.data }, { on := 11, ground := Go.Ground.chain }, { on := 0, ground := Go.Ground.phase }, { on := 1, ground := Go.Ground.phase }, { on := 2, ground := Go.Ground.phase }, { on := 3, ground := Go.Ground.phase }, { on := 4, ground := Go.Ground.phase }, { on := 5, ground := Go.Ground.phase }, { on := 6, ground := Go.Ground.textOnly Go.Departure.lateStores }, { on := 7, ground := Go.Ground.textOnly Go.Departure.lateStores }, { on := 8, ground := Go.Ground.textOnly Go.Departure.lateStores }, { on := 9, ground := Go.Ground.textOnly Go.Departure.lateStores }, { on := 10, ground := Go.Ground.textOnly Go.Departure.lateStores }, { on := 11, ground := Go.Ground.textOnly Go.Departure.lateStoresUnsure }, { on := 12, ground := Go.Ground.phase }, { on := 13, ground := Go.Ground.phase }], guard := none }) rfl (fun K hK => ?_) AllReadyH.nil
                  obtain ⟨k0, k1, k2, f0, f1, f2⟩ := PB51.out.cells
                  have PB52 := Lib.hid (PB51.out.store1 ha va oa)
                  go_simp
                  refine hK.out _ _ ?_ (fun hHeld => ?_)
                  · exact (PB52.out.pair.one.bel.cell (p := ⟨g, o + k, none⟩) hg).trans hck
                  clear hK K PB51 k0 k1 k2 f0 f1 f2
                  (try simp only [Act.put, List.setIfInBounds_toArray, List.set_cons_zero, List.set_cons_succ])
                  generalize ((W51.setCell ⟨z12, 0, none⟩ (.bool ha)).setCell ⟨z12, 1, none⟩ (.string va)).setCell ⟨z12, 2, none⟩ (.bool oa) = W52 at PB52 hHeld ⊢
                  refine wpAnyH_ready (rs := [15]) (by kernel_rfl) (by simp) ?_
                  refine AllReadyH.cons (o := { dst := none, op := Go.Op.store 34 (Go.Operand.tmp 10) (Go.Operand.tmp 66), type := 0, pos := "law.go:140", after := #[{ on := 13, ground := Go.Ground.data }, { on := 11, ground := Go.Ground.data }, { on := 14, ground := Go.Ground.chain }, { on := 0, ground := Go.Ground.phase }, { on := 1, ground := Go.Ground.phase }, { on := 2, ground := Go.Ground.phase }, { on := 3, ground := Go.Ground.phase }, { on := 4, ground := Go.Ground.phase }, { on := 5, ground := Go.Ground.phase }, { on := 6, ground := Go.Ground.phase }, { on := 7, ground := Go.Ground.phase }, { on := 8, ground := Go.Ground.phase }, { on := 9, ground := Go.Ground.phase }, { on := 10, ground := Go.Ground.phase }, { on := 11, ground := Go.Ground.phase }, { on := 12, ground := Go.Ground.phase }, { on := 13, ground := Go.Ground.phase }, { on := 14, ground := Go.Ground.phase }], guard := none }) rfl (fun K hK => ?_) AllReadyH.nil
                  obtain ⟨k0, k1, k2, f0, f1, f2⟩ := PB52.out.cells
                  have PB53 := Lib.hid (PB52.out.store2 hb vb ob)
                  go_simp
                  refine hK.out _ _ ?_ (fun hHeld => ?_)
                  · exact (PB53.out.pair.one.bel.cell (p := ⟨g, o + k, none⟩) hg).trans hck
                  clear hK K PB52 k0 k1 k2 f0 f1 f2
                  (try simp only [Act.put, List.setIfInBounds_toArray, List.set_cons_zero, List.set_cons_succ])
                  generalize ((W52.setCell ⟨z13, 0, none⟩ (.bool hb)).setCell ⟨z13, 1, none⟩ (.string vb)).setCell ⟨z13, 2, none⟩ (.bool ob) = W53 at PB53 hHeld ⊢
                  refine wpAnyH_done (by kernel_rfl) ?_ _
                  refine NoPanic.normal ?_
                  clear hHeld
                  go_wp2_with fail
                  go_meet
                  exact ⟨_, _, _, _, rfl, rfl, PB53.out⟩
              · go_simp
                have PB54 := Lib.hid (PB44.out.alloc12)
                refine hK.out _ _ ?_ (fun hHeld => ?_)
                · exact (PB54.out.pair.one.bel.cell (p := ⟨g, o + k, none⟩) hg).trans hck
                clear hK K PB44
                (try simp only [Act.put, List.setIfInBounds_toArray, List.set_cons_zero, List.set_cons_succ])
                generalize W44.alloc (.cells #[.bool false, .string ⟨#[]⟩, .bool false] 34) = W54 at PB54 hHeld ⊢
                generalize W44.heap.size = z12 at PB54 ⊢
                refine wpAnyH_ready (rs := [5]) (by kernel_rfl) (by simp) ?_
                refine AllReadyH.cons (o := { dst := some 60, op := Go.Op.call { callee := Go.Callee.value (Go.Operand.func 13), args := #[Go.Operand.tmp 55, Go.Operand.tmp 59], argTypes := #[25, 9] }, type := 34, pos := "law.go:140", after := #[{ on := 0, ground := Go.Ground.data }, { on := 4, ground := Go.Ground.data }], guard := none }) rfl (fun K hK => ?_) AllReadyH.nil
                go_simp
                refine (V1.out _ _ PB54.out.pair.one.ca).mono ?_
                intro e W55 hp
                obtain ⟨rfl, T55, hPn⟩ := PB54.out.call1 hp
                have PB55 := Lib.hid hPn
                clear hp hPn
                go_wp2_with fail
                refine hK.out _ _ ?_ (fun hHeld => ?_)
                · exact (PB55.out.pair.one.bel.cell (p := ⟨g, o + k, none⟩) hg).trans hck
                clear hK K PB54
                (try simp only [Act.put, List.setIfInBounds_toArray, List.set_cons_zero, List.set_cons_succ])
                refine wpAnyH_ready (rs := [11]) (by kernel_rfl) (by simp) ?_
                refine AllReadyH.cons (o := { dst := some 66, op := Go.Op.call { callee := Go.Callee.value (Go.Operand.func 13), args := #[Go.Operand.tmp 61, Go.Operand.tmp 65], argTypes := #[25, 9] }, type := 34, pos := "law.go:140", after := #[{ on := 6, ground := Go.Ground.data }, { on := 10, ground := Go.Ground.data }, { on := 5, ground := Go.Ground.chain }], guard := none }) rfl (fun K hK => ?_) AllReadyH.nil
                go_simp
                refine (V2.out _ _ PB55.out.pair.two.ca).mono ?_
                intro e W56 hp
                obtain ⟨rfl, T56, hPn⟩ := PB55.out.call2 hp
                have PB56 := Lib.hid hPn
                clear hp hPn
                go_wp2_with fail
                refine hK.out _ _ ?_ (fun hHeld => ?_)
                · exact (PB56.out.pair.one.bel.cell (p := ⟨g, o + k, none⟩) hg).trans hck
                clear hK K PB55
                (try simp only [Act.put, List.setIfInBounds_toArray, List.set_cons_zero, List.set_cons_succ])
                refine wpAnyH_ready (rs := [14]) (by kernel_rfl) (by simp) ?_
                refine AllReadyH.cons (o := { dst := none, op := Go.Op.store 34 (Go.Operand.tmp 9) (Go.Operand.tmp 60), type := 0, pos := "law.go:140", after := #[{ on := 12, ground := Go.Ground.data }, { on := 5, ground := Go.Ground.data }, { on := 11, ground := Go.Ground.chain }, { on := 0, ground := Go.Ground.phase }, { on := 1, ground := Go.Ground.phase }, { on := 2, ground := Go.Ground.phase }, { on := 3, ground := Go.Ground.phase }, { on := 4, ground := Go.Ground.phase }, { on := 5, ground := Go.Ground.phase }, { on := 6, ground := Go.Ground.textOnly Go.Departure.lateStores }, { on := 7, ground := Go.Ground.textOnly Go.Departure.lateStores }, { on := 8, ground := Go.Ground.textOnly Go.Departure.lateStores }, { on := 9, ground := Go.Ground.textOnly Go.Departure.lateStores }, { on := 10, ground := Go.Ground.textOnly Go.Departure.lateStores }, { on := 11, ground := Go.Ground.textOnly Go.Departure.lateStoresUnsure }, { on := 12, ground := Go.Ground.phase }, { on := 13, ground := Go.Ground.phase }], guard := none }) rfl (fun K hK => ?_) AllReadyH.nil
                obtain ⟨k0, k1, k2, f0, f1, f2⟩ := PB56.out.cells
                have PB57 := Lib.hid (PB56.out.store1 ha va oa)
                go_simp
                refine hK.out _ _ ?_ (fun hHeld => ?_)
                · exact (PB57.out.pair.one.bel.cell (p := ⟨g, o + k, none⟩) hg).trans hck
                clear hK K PB56 k0 k1 k2 f0 f1 f2
                (try simp only [Act.put, List.setIfInBounds_toArray, List.set_cons_zero, List.set_cons_succ])
                generalize ((W56.setCell ⟨z12, 0, none⟩ (.bool ha)).setCell ⟨z12, 1, none⟩ (.string va)).setCell ⟨z12, 2, none⟩ (.bool oa) = W57 at PB57 hHeld ⊢
                refine wpAnyH_ready (rs := [15]) (by kernel_rfl) (by simp) ?_
                refine AllReadyH.cons (o := { dst := none, op := Go.Op.store 34 (Go.Operand.tmp 10) (Go.Operand.tmp 66), type := 0, pos := "law.go:140", after := #[{ on := 13, ground := Go.Ground.data }, { on := 11, ground := Go.Ground.data }, { on := 14, ground := Go.Ground.chain }, { on := 0, ground := Go.Ground.phase }, { on := 1, ground := Go.Ground.phase }, { on := 2, ground := Go.Ground.phase }, { on := 3, ground := Go.Ground.phase }, { on := 4, ground := Go.Ground.phase }, { on := 5, ground := Go.Ground.phase }, { on := 6, ground := Go.Ground.phase }, { on := 7, ground := Go.Ground.phase }, { on := 8, ground := Go.Ground.phase }, { on := 9, ground := Go.Ground.phase }, { on := 10, ground := Go.Ground.phase }, { on := 11, ground := Go.Ground.phase }, { on := 12, ground := Go.Ground.phase }, { on := 13, ground := Go.Ground.phase }, { on := 14, ground := Go.Ground.phase }], guard := none }) rfl (fun K hK => ?_) AllReadyH.nil
                obtain ⟨k0, k1, k2, f0, f1, f2⟩ := PB57.out.cells
                have PB58 := Lib.hid (PB57.out.store2 hb vb ob)
                go_simp
                refine hK.out _ _ ?_ (fun hHeld => ?_)
                · exact (PB58.out.pair.one.bel.cell (p := ⟨g, o + k, none⟩) hg).trans hck
                clear hK K PB57 k0 k1 k2 f0 f1 f2
                (try simp only [Act.put, List.setIfInBounds_toArray, List.set_cons_zero, List.set_cons_succ])
                generalize ((W57.setCell ⟨z13, 0, none⟩ (.bool hb)).setCell ⟨z13, 1, none⟩ (.string vb)).setCell ⟨z13, 2, none⟩ (.bool ob) = W58 at PB58 hHeld ⊢
                refine wpAnyH_done (by kernel_rfl) ?_ _
                refine NoPanic.normal ?_
                clear hHeld
                go_wp2_with fail
                go_meet
                exact ⟨_, _, _, _, rfl, rfl, PB58.out⟩
          case rest =>
            clear PB0 V1 V2 h2 h1
            obtain ⟨z, z', T3, T4, rfl, rfl, hE⟩ := hcut
            generalize wc = wd at *
            obtain ⟨st1, st2, st3, st4⟩ := STH.out
            subst st1 st2
            have FIN := Lib.hid (show ∀ W, Below wd.heap.size wd W → OnceRel n mo a a2 w (.slice A2 (xs.length + 1) cap2) (.int .i64 ((k + 1 : Nat) : Int)) W from fun W hb => by
              have e : (xs ++ [key]).length = xs.length + 1 := by simp
              exact ⟨k + 1, xs ++ [key], T3, T4, L', M', rfl, by omega, by omega, by rw [e]; exact hE.pair.below hb, hE.row.below hb, NX.out⟩)
            obtain ⟨k0, k1, k2, _, _, _⟩ := hE.bx.six
            obtain ⟨l0, l1, l2, _, _, _⟩ := hE.bby.six
            obtain ⟨gr, _, hrow⟩ := hE.row.own.row
            obtain ⟨q, hq⟩ : ∃ q, q = xs.length := ⟨_, rfl⟩
            obtain ⟨r, hr⟩ : ∃ r, r = q + 1 := ⟨_, rfl⟩
            have hql : (xs ++ [key]).length = r := by simp [hr, hq]
            by_cases hfull : mo ≤ q
            · have hoa : oa = true := by rw [st3, ← hq]; simpa using hfull
              have hob : ob = true := by rw [st4, ← hq]; simpa using hfull
              clear st3 st4 STH
              subst hoa hob
              obtain ⟨p, hp⟩ : ∃ p, p = q - mo := ⟨_, rfl⟩
              obtain ⟨q1, hq1⟩ : ∃ p, p = q - 1 := ⟨_, rfl⟩
              obtain ⟨o1, ho1, hg1, c1, hcc1, hcc2⟩ := hrow.at (k := p) (by rw [hql]; omega)
              obtain ⟨o2, ho2, _, c2, _, _⟩ := hrow.at (k := q1) (by rw [hql]; omega)
              have hv := VA.out (by rw [← hq]; exact hfull)
              rw [← hq, ← hp, ← hq1] at hv
              rw [← hv.1] at c1
              rw [← hv.2] at c2
              obtain rfl : o1 = o2 := by rw [ho1] at ho2; injection ho2 with ho2; injection ho2
              rw [hql] at hcc1
              rw [← hq, ← hr] at FIN ⊢
              have e3 : decide (mo < r) = true := by simp; omega
              have e3' : decide ((mo : Int) < (r : Int)) = true := by simp; omega
              have hw1 : IntKind.i64.wrap ((r : Int) - 1) = (q : Int) := by rw [Go.IntWalk.i64_in _ (by omega)]; omega
              have hw2 : IntKind.i64.wrap ((q : Int) - (mo : Int)) = (p : Int) := by rw [Go.IntWalk.i64_in _ (by omega)]; omega
              have hw3 : IntKind.i64.wrap ((r : Int) - 2) = (q1 : Int) := by rw [Go.IntWalk.i64_in _ (by omega)]; omega
              have i1 : (p : Int) < (r : Int) := by omega
              have i2 : (q1 : Int) < (r : Int) := by omega
              have i3 : (0 : Int) ≤ (p : Int) := by omega
              have i4 : (0 : Int) ≤ (q1 : Int) := by omega
              have i5 : p < r := by omega
              have i6 : q1 < r := by omega
              have v1 := beqS_yes (rfl : va = va)
              have v2 := beqS_yes (rfl : vb = vb)
              subst ho1
              unfold maxLen at hcc2
              have HP2 := Lib.hid hp
              have HQ2 := Lib.hid hq
              have HR2 := Lib.hid hr
              have HQ3 := Lib.hid hq1
              have HM := Lib.hid hfull
              clear hE hrow hql hv hp hq hr hq1 ho2 hfull
              by_cases hone : mo = 1
              · have e5 : ((mo : Int) == 1) = true := by rw [hone]; rfl
                have e6 : (mo == 1) = true := by simpa using hone
                clear hone
                go_wp2_with fail
                go_quiet (fail)
                clear hw1 hw2 hw3
                go_wp2_with fail
                go_roundw
                case rel => exact FIN.out _ (below_drewN _ _)
                case measure => simp [intOf]; omega
              · have e5 : ((mo : Int) == 1) = false := by simp; omega
                have e6 : (mo == 1) = false := by simpa using hone
                clear hone
                go_wp2_with fail
                go_quiet (fail)
                clear hw1 hw2 hw3
                go_wp2_with fail
                go_roundw
                case rel => exact FIN.out _ (below_drewN _ _)
                case measure => simp [intOf]; omega
            · have hoa : oa = false := by rw [st3, ← hq]; simpa using hfull
              have hob : ob = false := by rw [st4, ← hq]; simpa using hfull
              clear st3 st4 STH
              subst hoa hob
              rw [← hq, ← hr] at FIN ⊢
              have e3 : decide (mo < r) = false := by simp; omega
              have e3' : decide ((mo : Int) < (r : Int)) = false := by simp; omega
              clear hE hrow hql hq hr
              go_wp2_with fail
              go_quiet (fail)
              go_wp2_with fail
              go_roundw
              case rel => exact FIN.out _ (below_drewN _ _)
              case measure => simp [intOf]; omega
      · have e1 : decide (200 < (key.size : Int)) = true := by simp; omega
        go_wp2_with fail
        go_ret
        exact ⟨rfl, HP.out.one.bel⟩
    · have e0 : decide (k < n) = false := by simpa using hlt
      go_wp2_with fail
      go_ret
      exact ⟨rfl, HP.out.one.bel⟩

theorem walk_lfuOnce (a0 : Int) (v1 : Value) (w : World) (w0 : (Lit.int .i64 a0).wf = true) (w1 : CameS w v1) : Calls Try.prog 5 #[.int .i64 a0, v1] w (RetB true w) := by
  obtain ⟨A, n, c, rfl, hn, S, hr, hc⟩ := w1
  have hz := i64_rng w0
  have hn2 := hn
  unfold maxLen at hn2
  clear w0
  by_cases hbig : n ≤ 100
  · have e0 : decide (100 < (n : Int)) = false := by simp; omega
    by_cases hpos : 1 ≤ a0
    · obtain ⟨mo, rfl⟩ : ∃ m : Nat, a0 = (m : Int) := ⟨a0.toNat, by omega⟩
      exact once_main mo A n c w S (by omega) hbig hr hc
    · have e1 : decide (a0 < 1) = true := by simp; omega
      clear hr hc
      go_enter Try.func5, Try.ntmps5
      go_wp2_with fail
      refine (awake_any _).mono ?_
      rintro e w0 ⟨rfl, hb0⟩
      go_wp2_with fail
      go_ret
      exact ⟨rfl, hb0⟩
  · have e0 : decide (100 < (n : Int)) = true := by simp; omega
    clear hr hc
    go_enter Try.func5, Try.ntmps5
    go_wp2_with fail
    refine (awake_any _).mono ?_
    rintro e w0 ⟨rfl, hb0⟩
    go_wp2_with fail
    go_ret
    exact ⟨rfl, hb0⟩

namespace LLfuOnce
set_option maxRecDepth 100000 in
theorem lifted (os : Os) (started : os.Started) (H : Type) (enc : TypeId × Value → H) :
    ReturnsInHanded {} Try.checked os 5 .any (Rows.lfuOnceSpec.pre6 enc Try.prog Try.f5 Rows.lfuOnceRow.domain false) (Rows.lfuOnceSpec.post enc Try.prog Try.f5 false true false false) := by
  refine returnsInHanded_of_change (C := Try.checked) own started (by kernel_rfl) Try.func5
    (ChangeSpec.witness6 (enc := enc) (C := Try.checked) false ⟨#[], #[.int .i64 0, .slice none 0 0], []⟩ 8 (by kernel_rfl) (by kernel_rfl) (by kernel_rfl) (by kernel_rfl)) ?_
  intro W base args ds gs before hval0 hW _ _
  have hval : ∀ (j : Nat) t v, Try.f5.params[j]? = some t → args[j]? = some v → Value.okWide Try.prog W .any base t v := hval0
  have hW' := hW
  obtain ⟨p, q, hA0, hV, rfl, hfz, hnd⟩ := hW
  have hA : DataW.TrodAll enc Try.prog W 0 (fun _ => true) true Try.f5.params.toList args.toList ds p := hA0
  rw [Try.params5] at hA hval
  obtain ⟨v0, vs0, d0, ds0, p0, q0, hargs, rfl, rfl, h0, r0⟩ := trodAll_cons hA
  obtain ⟨v1, vs1, d1, ds1, p1, q1, rfl, rfl, rfl, h1, r1⟩ := trodAll_cons r0
  obtain ⟨rfl, rfl, rfl⟩ := trodAll_nil r1
  obtain rfl : args = #[v0, v1] := by cases args; simp_all
  obtain ⟨rfl, rfl⟩ := trodVars_none hV
  obtain ⟨a0, rfl, rfl, rfl, w0⟩ := open_int Try.underlying3 (hval 0 3 v0 rfl rfl) h0
  have k1 := h1
  have lt1 : ∀ x ∈ p1, x.block < W.heap.size := by obtain ⟨m, hm⟩ := k1; exact DataW.trod_lt m _ _ _ hm
  have w1 := open_z (hval 1 47 v1 rfl rfl) h1
  clear hA0 hval0
  refine (walk_lfuOnce a0 v1 W w0 w1).mono fun e W' ⟨he, bel⟩ => ?_
  subst he
  exact ⟨_, rfl, _, _, _, [], _, [], hW', trodAll_mk1 (shut_bool Try.underlying4 _), (trodAll_cons_mk (shut_int Try.underlying3 w0) (trodAll_cons_mk (Below.trod laidOut (by kernel_rfl) (of_decide_eq_true (by kernel_rfl)) k1 bel lt1) trodAll_mk0)), rfl, bel.frame _, fun h => by cases h⟩

theorem said : Rows.LfuOnceSaid :=
  OpenClaim.holds_of_wide 5 Try.f5 rfl rfl rfl rfl rfl rfl rfl ⟨rfl, rfl, rfl, rfl, rfl⟩ rfl rfl rfl rfl rfl (by kernel_rfl) Try.func5 (by kernel_rfl)
    (of_decide_eq_true (by kernel_rfl)) (by unfold Func.isWrapper; rw [if_neg (of_decide_eq_false (by kernel_rfl))]; exact ⟨rfl, rfl⟩)
    (fun os started H enc _ => lifted os started H enc)
#print axioms said
end LLfuOnce
end Go.Proofs.Ytdbfojolocelaaa
