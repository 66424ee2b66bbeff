/- 'cachewiselaw05.LruStack' returns true for every two sizes and every row of keys, and leaves what was there as it was. No condition. -/
import Derived.Test.YthbokiebnniifaaTwoB
import Derived.Deep.RegionHeld3
import Derived.Deep.DeepCutAuto
import Derived.Deep.CutBlock
namespace Go.Proofs.Ythbokiebnniifaa
open Go.ChangeShapes Go.WideShapes Go.ChangeAt Go.RowKit

theorem resI_sub {S : Nat → ByteArray} {n m i : Nat} (h : n ≤ m) {x : ByteArray} (hx : x ∈ resI S n i) : x ∈ resI S m i := by
  unfold resI at *
  rw [← lastN_lastN h] at hx
  exact lastN_mem hx
/-- What hits in the lesser one hits in the greater one. -/
theorem stack_hit {S : Nat → ByteArray} {n m i : Nat} (h : n ≤ m) (k : ByteArray) (hx : hitB n (resI S n i) k = true) : hitB m (resI S m i) k = true := by
  unfold hitB at *
  rw [Bool.and_eq_true, decide_eq_true_eq] at *
  exact ⟨by omega, inn_iff.2 (resI_sub h (inn_iff.1 hx.2))⟩
theorem req_has {n : Nat} {ks : List ByteArray} (k : ByteArray) (h : 0 < n) : inn (reqK n ks k) k = true := by
  obtain ⟨n, rfl⟩ : ∃ m, n = m + 1 := ⟨n - 1, by omega⟩
  refine inn_iff.2 ?_
  unfold reqK
  obtain ⟨ps, hp⟩ := lastN_split (n + 1) (rem ks k ++ [k])
  have hl := lastN_len (n + 1) (rem ks k ++ [k])
  rw [List.length_append, List.length_cons, List.length_nil] at hl
  have h1 : (lastN (n + 1) (rem ks k ++ [k])).getLast? = some k := by
    have h2 := congrArg List.getLast? hp
    rw [List.getLast?_append, List.getLast?_append] at h2
    have h3 : lastN (n + 1) (rem ks k ++ [k]) ≠ [] := fun e => by rw [e] at hl; simp at hl
    rw [List.getLast?_eq_some_getLast h3] at h2 ⊢
    simpa using h2.symm
  exact List.mem_of_getLast? h1
/-- Who went is there no more. -/
theorem req_gone {n : Nat} {ks : List ByteArray} (k : ByteArray) (hn : ks.Nodup) (hl : ks.length ≤ n) (ho : outB n ks k = true) : inn (reqK n ks k) (vicK n ks k) = false ∧ vicK n ks k ∈ ks := by
  unfold vicK
  rw [if_pos ho]
  unfold outB at ho
  rw [Bool.and_eq_true, Bool.and_eq_true, decide_eq_true_eq, decide_eq_true_eq, Bool.not_eq_true'] at ho
  obtain ⟨⟨h0, hi⟩, hf⟩ := ho
  cases ks with
  | nil => simp at hf; omega
  | cons x ks =>
    have hk := inn_no.1 hi
    have h2 := List.nodup_cons.1 hn
    rw [reqK_full hk (by omega)]
    refine ⟨inn_no.2 ?_, by simp⟩
    rw [List.headD_cons, List.mem_append, rem_mem, List.mem_singleton]
    rintro (h | rfl)
    · exact h2.1 h.1
    · exact hk (by simp)
theorem hit_out (n : Nat) (ks : List ByteArray) (k : ByteArray) : (n = 0 ∧ hitB n ks k = false ∧ outB n ks k = false) ∨ (0 < n ∧ hitB n ks k = true ∧ outB n ks k = false) ∨ (0 < n ∧ hitB n ks k = false ∧ outB n ks k = false) ∨ (0 < n ∧ hitB n ks k = false ∧ outB n ks k = true) := by
  unfold hitB outB
  by_cases h : n = 0
  · exact Or.inl ⟨h, by simp [h], by simp [h]⟩
  · have h0 : 0 < n := by omega
    cases inn ks k with
    | true => exact Or.inr (Or.inl ⟨h0, by simp [h], by simp⟩)
    | false =>
      by_cases h2 : n ≤ ks.length
      · exact Or.inr (Or.inr (Or.inr ⟨h0, by simp, by simp [h, h2]⟩))
      · exact Or.inr (Or.inr (Or.inl ⟨h0, by simp, by simp [h2]⟩))

set_option maxHeartbeats 8000000 in
set_option maxRecDepth 100000 in
theorem stack_main (mo mo2 : Nat) (A : Option Addr) (n cc : Nat) (w : World) (S : Nat → ByteArray) (hmm : mo ≤ mo2) (hmo : mo2 ≤ 9223372036854775807) (hn : n ≤ 200) (hS : ∀ i, i < n → (S i).size ≤ maxLen)
    (hc : 0 < n → ∃ g o, A = some ⟨g, o, none⟩ ∧ g < w.heap.size ∧ n ≤ cc ∧ cc ≤ maxLen ∧ ∀ i, i < n → w.cell? ⟨g, o + i, none⟩ = some (.string (S i))) :
    Calls Try.prog 4 #[.int .i64 (mo : Int), .int .i64 (mo2 : Int), .slice A n cc] w (RetB true w) := by
  have e0 : decide (200 < (n : Int)) = false := by simp; omega
  have e1 : decide (mo2 < mo) = false := by simp; omega
  have HC := Lib.hid hc
  have HS := Lib.hid hS
  have HMM := Lib.hid hmm
  clear hc hS hmm
  go_enter Try.func4, Try.ntmps4
  go_wp2_with fail
  refine (awake_any _).mono ?_
  rintro e w0 ⟨rfl, hb0⟩
  have b0 := Lib.hid hb0; clear hb0
  go_wp2_with fail
  refine (new_pos w0 mo (by have := HMM.out; omega)).mono ?_
  rintro e w1 ⟨a, T1, rfl, hC, hT, hB⟩
  have L1 := Lib.hid (Live.made b0.out hC hT hB)
  clear hC hT hB b0
  go_wp2_with fail
  refine (new_pos w1 mo2 hmo).mono ?_
  rintro e w2 ⟨a2, T2, rfl, hC, hT, hB⟩
  have P1 := Lib.hid (Pair.made L1.out hC hT hB)
  clear hC hT hB L1
  go_wp2_with fail
  clear e0 e1
  go_loopw [9] (fun i W => Fill2 S n a mo a2 mo2 w i W) (fun i _ => n - (intOf i).toNat)
  case atStart => exact ⟨0, T1, T2, rfl, Nat.zero_le _, by rw [resI_zero, resI_zero]; exact P1.out⟩
  case round =>
    obtain ⟨k, T, T2, rfl, hk, hP⟩ := hrel
    have HP := Lib.hid hP
    clear hP P1
    by_cases hlt : k < n
    · have e0 : decide (k < n) = true := by simpa using hlt
      obtain ⟨g, o, rfl, hg, hc1, hc2, hcell⟩ := HC.out (by omega)
      have h1 := (HP.out.one.bel.cell (p := ⟨g, o + k, none⟩) hg).trans (hcell k hlt)
      have hsk := HS.out k hlt
      have hck := hcell k hlt
      clear hcell
      unfold maxLen at hc2
      have HSK := Lib.hid hsk
      unfold maxLen at hsk
      by_cases hbig : (S k).size ≤ 200
      · have e1 : decide (200 < ((S k).size : Int)) = false := by simp; omega
        have PB0 := Lib.hid (PB.start (HP.out.below (show Below wr.heap.size wr wr.drew from ⟨rfl, rfl, rfl, Nat.le_refl _, fun _ _ => rfl⟩)))
        have V1 := fun (W : World) (T : Nat → Prop) (hC : Ca W a T mo (resI S mo k) k) => request_ca W a T mo _ k (S k) hC HSK.out (by omega)
        have V2 := fun (W : World) (T : Nat → Prop) (hC : Ca W a2 T mo2 (resI S mo2 k) k) => request_ca W a2 T mo2 _ k (S k) hC HSK.out (by omega)
        have NX := stack_hit (S := S) (i := k) HMM.out (S k)
        have NY := req_gone (n := mo) (ks := resI S mo k) (S k) PB0.out.pair.one.ca.nodup PB0.out.pair.one.ca.le.1
        have NV : outB mo (resI S mo k) (S k) = true → (vicK mo (resI S mo k) (S k)).size ≤ maxLen := fun h => PB0.out.pair.one.ca.small _ (NY h).2
        have HO := hit_out mo (resI S mo k) (S k)
        have NZ := fun h : 0 < mo => req_has (n := mo) (ks := resI S mo k) (S k) h
        rw [resI_succ] at NY NZ
        simp only [resI_succ] at V1 V2
        unfold stepV at V1 V2
        have NY2 : outB mo (resI S mo k) (S k) = true → inn (resI S mo (k + 1)) (vicK mo (resI S mo k) (S k)) = false := fun h => (NY h).1
        clear NY
        generalize hitB mo2 (resI S mo2 k) (S k) = hb at NX V2
        generalize vicK mo2 (resI S mo2 k) (S k) = vb at V2
        generalize outB mo2 (resI S mo2 k) (S k) = ob at V2
        generalize hitB mo (resI S mo k) (S k) = ha at NX HO V1
        generalize vicK mo (resI S mo k) (S k) = va at NY2 NV V1
        generalize outB mo (resI S mo k) (S k) = oa at NY2 NV HO V1
        have HO := Lib.hid HO
        have NX := Lib.hid NX
        have NY := Lib.hid NY2
        have NZ := Lib.hid NZ
        have NV := Lib.hid NV
        have V1 := Lib.hid V1
        have V2 := Lib.hid V2
        clear HP NY2
        go_upto_region 13 with fail
        go_cut [10, 11] (fun x y W => ∃ z z' T T2, x = .pointer (some ⟨z, 0, none⟩) ∧ y = .pointer (some ⟨z', 0, none⟩) ∧ PE w W a T mo (resI S mo (k + 1)) (k + 1) a2 T2 mo2 (resI S mo2 (k + 1)) (k + 1) z z' ha va oa hb vb ob)
        case first =>
          as_aux_lemma =>
          refine wp_region_noPanic ?_
          refine wp_region_held_drew (S := fun w' => w'.cell? ⟨g, o + k, none⟩ = some (.string (S k))) (by kernel_rfl) ?_ (fun hHeld => ?_)
          · exact h1
          generalize wr.drew = W0 at PB0 hHeld ⊢
          clear h1
          refine wpAnyH_take (i := 0) (oi := { dst := some 50, op := Go.Op.move (Go.Operand.tmp 7), type := 25, pos := "law.go:113", after := #[], guard := none }) (v := ?_) rfl (by kernel_rfl) (by kernel_rfl) (by kernel_rfl) (fun _ _ _ h => h) (Or.inl ⟨by rfl, ?_⟩) (by assumption) ?_
          rotate_left
          · (intro w hSw; (try dsimp only at hSw); go_simp; (try with_reducible rfl))
          (try simp only [Act.put, List.setIfInBounds_toArray, List.set_cons_zero, List.set_cons_succ])
          refine wpAnyH_take (i := 1) (oi := { dst := some 51, op := Go.Op.move (Go.Operand.tmp 2), type := 27, pos := "law.go:113", after := #[], guard := none }) (v := ?_) rfl (by kernel_rfl) (by kernel_rfl) (by kernel_rfl) (fun _ _ _ h => h) (Or.inl ⟨by rfl, ?_⟩) (by assumption) ?_
          rotate_left
          · (intro w hSw; (try dsimp only at hSw); go_simp; (try with_reducible rfl))
          (try simp only [Act.put, List.setIfInBounds_toArray, List.set_cons_zero, List.set_cons_succ])
          refine wpAnyH_take (i := 2) (oi := { dst := some 52, op := Go.Op.move (Go.Operand.tmp 9), type := 3, pos := "law.go:113", after := #[], guard := none }) (v := ?_) rfl (by kernel_rfl) (by kernel_rfl) (by kernel_rfl) (fun _ _ _ h => h) (Or.inl ⟨by rfl, ?_⟩) (by assumption) ?_
          rotate_left
          · (intro w hSw; (try dsimp only at hSw); go_simp; (try with_reducible rfl))
          (try simp only [Act.put, List.setIfInBounds_toArray, List.set_cons_zero, List.set_cons_succ])
          refine wpAnyH_take (i := 3) (oi := { dst := some 53, op := Go.Op.indexAddr 27 (Go.Operand.tmp 51) (Go.Operand.tmp 52), type := 0, pos := "law.go:113", after := #[{ on := 1, ground := Go.Ground.data }, { on := 2, ground := Go.Ground.data }], guard := none }) (v := ?_) rfl (by kernel_rfl) (by kernel_rfl) (by kernel_rfl) (fun _ _ _ h => h) (Or.inl ⟨by rfl, ?_⟩) (by assumption) ?_
          rotate_left
          · (intro w hSw; (try dsimp only at hSw); go_simp; (try with_reducible rfl))
          (try simp only [Act.put, List.setIfInBounds_toArray, List.set_cons_zero, List.set_cons_succ])
          refine wpAnyH_take (i := 4) (oi := { dst := some 54, op := Go.Op.load 9 (Go.Operand.tmp 53), type := 9, pos := "law.go:113", after := #[{ on := 3, ground := Go.Ground.data }], guard := none }) (v := ?_) rfl (by kernel_rfl) (by kernel_rfl) (by kernel_rfl) (fun _ _ _ h => h) (Or.inl ⟨by rfl, ?_⟩) (by assumption) ?_
          rotate_left
          · (intro w hSw; (try dsimp only at hSw); go_simp; (try with_reducible rfl))
          (try simp only [Act.put, List.setIfInBounds_toArray, List.set_cons_zero, List.set_cons_succ])
          refine wpAnyH_take (i := 6) (oi := { dst := some 56, op := Go.Op.move (Go.Operand.tmp 8), type := 25, pos := "law.go:113", after := #[], guard := none }) (v := ?_) rfl (by kernel_rfl) (by kernel_rfl) (by kernel_rfl) (fun _ _ _ h => h) (Or.inl ⟨by rfl, ?_⟩) (by assumption) ?_
          rotate_left
          · (intro w hSw; (try dsimp only at hSw); go_simp; (try with_reducible rfl))
          (try simp only [Act.put, List.setIfInBounds_toArray, List.set_cons_zero, List.set_cons_succ])
          refine wpAnyH_take (i := 7) (oi := { dst := some 57, op := Go.Op.move (Go.Operand.tmp 2), type := 27, pos := "law.go:113", after := #[], guard := none }) (v := ?_) rfl (by kernel_rfl) (by kernel_rfl) (by kernel_rfl) (fun _ _ _ h => h) (Or.inl ⟨by rfl, ?_⟩) (by assumption) ?_
          rotate_left
          · (intro w hSw; (try dsimp only at hSw); go_simp; (try with_reducible rfl))
          (try simp only [Act.put, List.setIfInBounds_toArray, List.set_cons_zero, List.set_cons_succ])
          refine wpAnyH_take (i := 8) (oi := { dst := some 58, op := Go.Op.move (Go.Operand.tmp 9), type := 3, pos := "law.go:113", after := #[], guard := none }) (v := ?_) rfl (by kernel_rfl) (by kernel_rfl) (by kernel_rfl) (fun _ _ _ h => h) (Or.inl ⟨by rfl, ?_⟩) (by assumption) ?_
          rotate_left
          · (intro w hSw; (try dsimp only at hSw); go_simp; (try with_reducible rfl))
          (try simp only [Act.put, List.setIfInBounds_toArray, List.set_cons_zero, List.set_cons_succ])
          refine wpAnyH_take (i := 9) (oi := { dst := some 59, op := Go.Op.indexAddr 27 (Go.Operand.tmp 57) (Go.Operand.tmp 58), type := 0, pos := "law.go:113", after := #[{ on := 7, ground := Go.Ground.data }, { on := 8, ground := Go.Ground.data }], guard := none }) (v := ?_) rfl (by kernel_rfl) (by kernel_rfl) (by kernel_rfl) (fun _ _ _ h => h) (Or.inl ⟨by rfl, ?_⟩) (by assumption) ?_
          rotate_left
          · (intro w hSw; (try dsimp only at hSw); go_simp; (try with_reducible rfl))
          (try simp only [Act.put, List.setIfInBounds_toArray, List.set_cons_zero, List.set_cons_succ])
          refine wpAnyH_take (i := 10) (oi := { dst := some 60, op := Go.Op.load 9 (Go.Operand.tmp 59), type := 9, pos := "law.go:113", after := #[{ on := 9, ground := Go.Ground.data }], guard := none }) (v := ?_) rfl (by kernel_rfl) (by kernel_rfl) (by kernel_rfl) (fun _ _ _ h => h) (Or.inl ⟨by rfl, ?_⟩) (by assumption) ?_
          rotate_left
          · (intro w hSw; (try dsimp only at hSw); go_simp; (try with_reducible rfl))
          (try simp only [Act.put, List.setIfInBounds_toArray, List.set_cons_zero, List.set_cons_succ])
          refine wpAnyH_ready (rs := [5, 12, 13]) (by kernel_rfl) (by simp) ?_
          refine AllReadyH.cons (o := { dst := some 55, op := Go.Op.call { callee := Go.Callee.value (Go.Operand.func 14), args := #[Go.Operand.tmp 50, Go.Operand.tmp 54], argTypes := #[25, 9] }, type := 34, pos := "law.go:113", after := #[{ on := 0, ground := Go.Ground.data }, { on := 4, ground := Go.Ground.data }], guard := none }) rfl (fun K hK => ?_) (AllReadyH.cons (o := { dst := some 10, op := Go.Op.alloc 34, type := 0, pos := "law.go:113", after := #[], guard := none }) rfl (fun K hK => ?_) (AllReadyH.cons (o := { dst := some 11, op := Go.Op.alloc 34, type := 0, pos := "law.go:113", after := #[], guard := none }) rfl (fun K hK => ?_) AllReadyH.nil))
          · go_simp
            refine (V1.out _ _ PB0.out.pair.one.ca).mono ?_
            intro e W1 hp
            obtain ⟨rfl, T1, hPn⟩ := PB0.out.call1 hp
            have PB1 := Lib.hid hPn
            clear hp hPn
            go_wp2_with fail
            refine hK.out _ _ ?_ (fun hHeld => ?_)
            · exact (PB1.out.pair.one.bel.cell (p := ⟨g, o + k, none⟩) hg).trans hck
            clear hK K PB0
            (try simp only [Act.put, List.setIfInBounds_toArray, List.set_cons_zero, List.set_cons_succ])
            refine wpAnyH_ready (rs := [11, 12, 13]) (by kernel_rfl) (by simp) ?_
            refine AllReadyH.cons (o := { dst := some 61, op := Go.Op.call { callee := Go.Callee.value (Go.Operand.func 14), args := #[Go.Operand.tmp 56, Go.Operand.tmp 60], argTypes := #[25, 9] }, type := 34, pos := "law.go:113", after := #[{ on := 6, ground := Go.Ground.data }, { on := 10, ground := Go.Ground.data }, { on := 5, ground := Go.Ground.chain }], guard := none }) rfl (fun K hK => ?_) (AllReadyH.cons (o := { dst := some 10, op := Go.Op.alloc 34, type := 0, pos := "law.go:113", after := #[], guard := none }) rfl (fun K hK => ?_) (AllReadyH.cons (o := { dst := some 11, op := Go.Op.alloc 34, type := 0, pos := "law.go:113", after := #[], guard := none }) rfl (fun K hK => ?_) AllReadyH.nil))
            · go_simp
              refine (V2.out _ _ PB1.out.pair.two.ca).mono ?_
              intro e W2 hp
              obtain ⟨rfl, T2, hPn⟩ := PB1.out.call2 hp
              have PB2 := Lib.hid hPn
              clear hp hPn
              go_wp2_with fail
              refine hK.out _ _ ?_ (fun hHeld => ?_)
              · exact (PB2.out.pair.one.bel.cell (p := ⟨g, o + k, none⟩) hg).trans hck
              clear hK K PB1
              (try simp only [Act.put, List.setIfInBounds_toArray, List.set_cons_zero, List.set_cons_succ])
              refine wpAnyH_ready (rs := [12, 13]) (by kernel_rfl) (by simp) ?_
              refine AllReadyH.cons (o := { dst := some 10, op := Go.Op.alloc 34, type := 0, pos := "law.go:113", after := #[], guard := none }) rfl (fun K hK => ?_) (AllReadyH.cons (o := { dst := some 11, op := Go.Op.alloc 34, type := 0, pos := "law.go:113", after := #[], guard := none }) rfl (fun K hK => ?_) AllReadyH.nil)
              · go_simp
                have PB3 := Lib.hid (PB2.out.alloc12)
                refine hK.out _ _ ?_ (fun hHeld => ?_)
                · exact (PB3.out.pair.one.bel.cell (p := ⟨g, o + k, none⟩) hg).trans hck
                clear hK K PB2
                (try simp only [Act.put, List.setIfInBounds_toArray, List.set_cons_zero, List.set_cons_succ])
                generalize W2.alloc (.cells #[.bool false, .string ⟨#[]⟩, .bool false] 34) = W3 at PB3 hHeld ⊢
                generalize W2.heap.size = z12 at PB3 ⊢
                refine wpAnyH_ready (rs := [13]) (by kernel_rfl) (by simp) ?_
                refine AllReadyH.cons (o := { dst := some 11, op := Go.Op.alloc 34, type := 0, pos := "law.go:113", after := #[], guard := none }) rfl (fun K hK => ?_) AllReadyH.nil
                go_simp
                have PB4 := Lib.hid (PB3.out.alloc13)
                refine hK.out _ _ ?_ (fun hHeld => ?_)
                · exact (PB4.out.pair.one.bel.cell (p := ⟨g, o + k, none⟩) hg).trans hck
                clear hK K PB3
                (try simp only [Act.put, List.setIfInBounds_toArray, List.set_cons_zero, List.set_cons_succ])
                generalize W3.alloc (.cells #[.bool false, .string ⟨#[]⟩, .bool false] 34) = W4 at PB4 hHeld ⊢
                generalize W3.heap.size = z13 at PB4 ⊢
                refine wpAnyH_ready (rs := [14]) (by kernel_rfl) (by simp) ?_
                refine AllReadyH.cons (o := { dst := none, op := Go.Op.store 34 (Go.Operand.tmp 10) (Go.Operand.tmp 55), type := 0, pos := "law.go:113", after := #[{ on := 12, ground := Go.Ground.data }, { on := 5, ground := Go.Ground.data }, { on := 11, ground := Go.Ground.chain }, { on := 0, ground := Go.Ground.phase }, { on := 1, ground := Go.Ground.phase }, { on := 2, ground := Go.Ground.phase }, { on := 3, ground := Go.Ground.phase }, { on := 4, ground := Go.Ground.phase }, { on := 5, ground := Go.Ground.phase }, { on := 6, ground := Go.Ground.textOnly Go.Departure.lateStores }, { on := 7, ground := Go.Ground.textOnly Go.Departure.lateStores }, { on := 8, ground := Go.Ground.textOnly Go.Departure.lateStores }, { on := 9, ground := Go.Ground.textOnly Go.Departure.lateStores }, { on := 10, ground := Go.Ground.textOnly Go.Departure.lateStores }, { on := 11, ground := Go.Ground.textOnly Go.Departure.lateStoresUnsure }, { on := 12, ground := Go.Ground.phase }, { on := 13, ground := Go.Ground.phase }], guard := none }) rfl (fun K hK => ?_) AllReadyH.nil
                obtain ⟨k0, k1, k2, f0, f1, f2⟩ := PB4.out.cells
                have PB5 := Lib.hid (PB4.out.store1 ha va oa)
                go_simp
                refine hK.out _ _ ?_ (fun hHeld => ?_)
                · exact (PB5.out.pair.one.bel.cell (p := ⟨g, o + k, none⟩) hg).trans hck
                clear hK K PB4 k0 k1 k2 f0 f1 f2
                (try simp only [Act.put, List.setIfInBounds_toArray, List.set_cons_zero, List.set_cons_succ])
                generalize ((W4.setCell ⟨z12, 0, none⟩ (.bool ha)).setCell ⟨z12, 1, none⟩ (.string va)).setCell ⟨z12, 2, none⟩ (.bool oa) = W5 at PB5 hHeld ⊢
                refine wpAnyH_ready (rs := [15]) (by kernel_rfl) (by simp) ?_
                refine AllReadyH.cons (o := { dst := none, op := Go.Op.store 34 (Go.Operand.tmp 11) (Go.Operand.tmp 61), type := 0, pos := "law.go:113", after := #[{ on := 13, ground := Go.Ground.data }, { on := 11, ground := Go.Ground.data }, { on := 14, ground := Go.Ground.chain }, { on := 0, ground := Go.Ground.phase }, { on := 1, ground := Go.Ground.phase }, { on := 2, ground := Go.Ground.phase }, { on := 3, ground := Go.Ground.phase }, { on := 4, ground := Go.Ground.phase }, { on := 5, ground := Go.Ground.phase }, { on := 6, ground := Go.Ground.phase }, { on := 7, ground := Go.Ground.phase }, { on := 8, ground := Go.Ground.phase }, { on := 9, ground := Go.Ground.phase }, { on := 10, ground := Go.Ground.phase }, { on := 11, ground := Go.Ground.phase }, { on := 12, ground := Go.Ground.phase }, { on := 13, ground := Go.Ground.phase }, { on := 14, ground := Go.Ground.phase }], guard := none }) rfl (fun K hK => ?_) AllReadyH.nil
                obtain ⟨k0, k1, k2, f0, f1, f2⟩ := PB5.out.cells
                have PB6 := Lib.hid (PB5.out.store2 hb vb ob)
                go_simp
                refine hK.out _ _ ?_ (fun hHeld => ?_)
                · exact (PB6.out.pair.one.bel.cell (p := ⟨g, o + k, none⟩) hg).trans hck
                clear hK K PB5 k0 k1 k2 f0 f1 f2
                (try simp only [Act.put, List.setIfInBounds_toArray, List.set_cons_zero, List.set_cons_succ])
                generalize ((W5.setCell ⟨z13, 0, none⟩ (.bool hb)).setCell ⟨z13, 1, none⟩ (.string vb)).setCell ⟨z13, 2, none⟩ (.bool ob) = W6 at PB6 hHeld ⊢
                refine wpAnyH_done (by kernel_rfl) ?_ _
                refine NoPanic.normal ?_
                clear hHeld
                go_wp2_with fail
                go_meet
                exact ⟨_, _, _, _, rfl, rfl, PB6.out⟩
              · go_simp
                have PB7 := Lib.hid (PB2.out.alloc13)
                refine hK.out _ _ ?_ (fun hHeld => ?_)
                · exact (PB7.out.pair.one.bel.cell (p := ⟨g, o + k, none⟩) hg).trans hck
                clear hK K PB2
                (try simp only [Act.put, List.setIfInBounds_toArray, List.set_cons_zero, List.set_cons_succ])
                generalize W2.alloc (.cells #[.bool false, .string ⟨#[]⟩, .bool false] 34) = W7 at PB7 hHeld ⊢
                generalize W2.heap.size = z13 at PB7 ⊢
                refine wpAnyH_ready (rs := [12]) (by kernel_rfl) (by simp) ?_
                refine AllReadyH.cons (o := { dst := some 10, op := Go.Op.alloc 34, type := 0, pos := "law.go:113", after := #[], guard := none }) rfl (fun K hK => ?_) AllReadyH.nil
                go_simp
                have PB8 := Lib.hid (PB7.out.alloc12)
                refine hK.out _ _ ?_ (fun hHeld => ?_)
                · exact (PB8.out.pair.one.bel.cell (p := ⟨g, o + k, none⟩) hg).trans hck
                clear hK K PB7
                (try simp only [Act.put, List.setIfInBounds_toArray, List.set_cons_zero, List.set_cons_succ])
                generalize W7.alloc (.cells #[.bool false, .string ⟨#[]⟩, .bool false] 34) = W8 at PB8 hHeld ⊢
                generalize W7.heap.size = z12 at PB8 ⊢
                refine wpAnyH_ready (rs := [14]) (by kernel_rfl) (by simp) ?_
                refine AllReadyH.cons (o := { dst := none, op := Go.Op.store 34 (Go.Operand.tmp 10) (Go.Operand.tmp 55), type := 0, pos := "law.go:113", after := #[{ on := 12, ground := Go.Ground.data }, { on := 5, ground := Go.Ground.data }, { on := 11, ground := Go.Ground.chain }, { on := 0, ground := Go.Ground.phase }, { on := 1, ground := Go.Ground.phase }, { on := 2, ground := Go.Ground.phase }, { on := 3, ground := Go.Ground.phase }, { on := 4, ground := Go.Ground.phase }, { on := 5, ground := Go.Ground.phase }, { on := 6, ground := Go.Ground.textOnly Go.Departure.lateStores }, { on := 7, ground := Go.Ground.textOnly Go.Departure.lateStores }, { on := 8, ground := Go.Ground.textOnly Go.Departure.lateStores }, { on := 9, ground := Go.Ground.textOnly Go.Departure.lateStores }, { on := 10, ground := Go.Ground.textOnly Go.Departure.lateStores }, { on := 11, ground := Go.Ground.textOnly Go.Departure.lateStoresUnsure }, { on := 12, ground := Go.Ground.phase }, { on := 13, ground := Go.Ground.phase }], guard := none }) rfl (fun K hK => ?_) AllReadyH.nil
                obtain ⟨k0, k1, k2, f0, f1, f2⟩ := PB8.out.cells
                have PB9 := Lib.hid (PB8.out.store1 ha va oa)
                go_simp
                refine hK.out _ _ ?_ (fun hHeld => ?_)
                · exact (PB9.out.pair.one.bel.cell (p := ⟨g, o + k, none⟩) hg).trans hck
                clear hK K PB8 k0 k1 k2 f0 f1 f2
                (try simp only [Act.put, List.setIfInBounds_toArray, List.set_cons_zero, List.set_cons_succ])
                generalize ((W8.setCell ⟨z12, 0, none⟩ (.bool ha)).setCell ⟨z12, 1, none⟩ (.string va)).setCell ⟨z12, 2, none⟩ (.bool oa) = W9 at PB9 hHeld ⊢
                refine wpAnyH_ready (rs := [15]) (by kernel_rfl) (by simp) ?_
                refine AllReadyH.cons (o := { dst := none, op := Go.Op.store 34 (Go.Operand.tmp 11) (Go.Operand.tmp 61), type := 0, pos := "law.go:113", after := #[{ on := 13, ground := Go.Ground.data }, { on := 11, ground := Go.Ground.data }, { on := 14, ground := Go.Ground.chain }, { on := 0, ground := Go.Ground.phase }, { on := 1, ground := Go.Ground.phase }, { on := 2, ground := Go.Ground.phase }, { on := 3, ground := Go.Ground.phase }, { on := 4, ground := Go.Ground.phase }, { on := 5, ground := Go.Ground.phase }, { on := 6, ground := Go.Ground.phase }, { on := 7, ground := Go.Ground.phase }, { on := 8, ground := Go.Ground.phase }, { on := 9, ground := Go.Ground.phase }, { on := 10, ground := Go.Ground.phase }, { on := 11, ground := Go.Ground.phase }, { on := 12, ground := Go.Ground.phase }, { on := 13, ground := Go.Ground.phase }, { on := 14, ground := Go.Ground.phase }], guard := none }) rfl (fun K hK => ?_) AllReadyH.nil
                obtain ⟨k0, k1, k2, f0, f1, f2⟩ := PB9.out.cells
                have PB10 := Lib.hid (PB9.out.store2 hb vb ob)
                go_simp
                refine hK.out _ _ ?_ (fun hHeld => ?_)
                · exact (PB10.out.pair.one.bel.cell (p := ⟨g, o + k, none⟩) hg).trans hck
                clear hK K PB9 k0 k1 k2 f0 f1 f2
                (try simp only [Act.put, List.setIfInBounds_toArray, List.set_cons_zero, List.set_cons_succ])
                generalize ((W9.setCell ⟨z13, 0, none⟩ (.bool hb)).setCell ⟨z13, 1, none⟩ (.string vb)).setCell ⟨z13, 2, none⟩ (.bool ob) = W10 at PB10 hHeld ⊢
                refine wpAnyH_done (by kernel_rfl) ?_ _
                refine NoPanic.normal ?_
                clear hHeld
                go_wp2_with fail
                go_meet
                exact ⟨_, _, _, _, rfl, rfl, PB10.out⟩
            · go_simp
              have PB11 := Lib.hid (PB1.out.alloc12)
              refine hK.out _ _ ?_ (fun hHeld => ?_)
              · exact (PB11.out.pair.one.bel.cell (p := ⟨g, o + k, none⟩) hg).trans hck
              clear hK K PB1
              (try simp only [Act.put, List.setIfInBounds_toArray, List.set_cons_zero, List.set_cons_succ])
              generalize W1.alloc (.cells #[.bool false, .string ⟨#[]⟩, .bool false] 34) = W11 at PB11 hHeld ⊢
              generalize W1.heap.size = z12 at PB11 ⊢
              refine wpAnyH_ready (rs := [11, 13]) (by kernel_rfl) (by simp) ?_
              refine AllReadyH.cons (o := { dst := some 61, op := Go.Op.call { callee := Go.Callee.value (Go.Operand.func 14), args := #[Go.Operand.tmp 56, Go.Operand.tmp 60], argTypes := #[25, 9] }, type := 34, pos := "law.go:113", after := #[{ on := 6, ground := Go.Ground.data }, { on := 10, ground := Go.Ground.data }, { on := 5, ground := Go.Ground.chain }], guard := none }) rfl (fun K hK => ?_) (AllReadyH.cons (o := { dst := some 11, op := Go.Op.alloc 34, type := 0, pos := "law.go:113", after := #[], guard := none }) rfl (fun K hK => ?_) AllReadyH.nil)
              · go_simp
                refine (V2.out _ _ PB11.out.pair.two.ca).mono ?_
                intro e W12 hp
                obtain ⟨rfl, T12, hPn⟩ := PB11.out.call2 hp
                have PB12 := Lib.hid hPn
                clear hp hPn
                go_wp2_with fail
                refine hK.out _ _ ?_ (fun hHeld => ?_)
                · exact (PB12.out.pair.one.bel.cell (p := ⟨g, o + k, none⟩) hg).trans hck
                clear hK K PB11
                (try simp only [Act.put, List.setIfInBounds_toArray, List.set_cons_zero, List.set_cons_succ])
                refine wpAnyH_ready (rs := [13]) (by kernel_rfl) (by simp) ?_
                refine AllReadyH.cons (o := { dst := some 11, op := Go.Op.alloc 34, type := 0, pos := "law.go:113", after := #[], guard := none }) rfl (fun K hK => ?_) AllReadyH.nil
                go_simp
                have PB13 := Lib.hid (PB12.out.alloc13)
                refine hK.out _ _ ?_ (fun hHeld => ?_)
                · exact (PB13.out.pair.one.bel.cell (p := ⟨g, o + k, none⟩) hg).trans hck
                clear hK K PB12
                (try simp only [Act.put, List.setIfInBounds_toArray, List.set_cons_zero, List.set_cons_succ])
                generalize W12.alloc (.cells #[.bool false, .string ⟨#[]⟩, .bool false] 34) = W13 at PB13 hHeld ⊢
                generalize W12.heap.size = z13 at PB13 ⊢
                refine wpAnyH_ready (rs := [14]) (by kernel_rfl) (by simp) ?_
                refine AllReadyH.cons (o := { dst := none, op := Go.Op.store 34 (Go.Operand.tmp 10) (Go.Operand.tmp 55), type := 0, pos := "law.go:113", after := #[{ on := 12, ground := Go.Ground.data }, { on := 5, ground := Go.Ground.data }, { on := 11, ground := Go.Ground.chain }, { on := 0, ground := Go.Ground.phase }, { on := 1, ground := Go.Ground.phase }, { on := 2, ground := Go.Ground.phase }, { on := 3, ground := Go.Ground.phase }, { on := 4, ground := Go.Ground.phase }, { on := 5, ground := Go.Ground.phase }, { on := 6, ground := Go.Ground.textOnly Go.Departure.lateStores }, { on := 7, ground := Go.Ground.textOnly Go.Departure.lateStores }, { on := 8, ground := Go.Ground.textOnly Go.Departure.lateStores }, { on := 9, ground := Go.Ground.textOnly Go.Departure.lateStores }, { on := 10, ground := Go.Ground.textOnly Go.Departure.lateStores }, { on := 11, ground := Go.Ground.textOnly Go.Departure.lateStoresUnsure }, { on := 12, ground := Go.Ground.phase }, { on := 13, ground := Go.Ground.phase }], guard := none }) rfl (fun K hK => ?_) AllReadyH.nil
                obtain ⟨k0, k1, k2, f0, f1, f2⟩ := PB13.out.cells
                have PB14 := Lib.hid (PB13.out.store1 ha va oa)
                go_simp
                refine hK.out _ _ ?_ (fun hHeld => ?_)
                · exact (PB14.out.pair.one.bel.cell (p := ⟨g, o + k, none⟩) hg).trans hck
                clear hK K PB13 k0 k1 k2 f0 f1 f2
                (try simp only [Act.put, List.setIfInBounds_toArray, List.set_cons_zero, List.set_cons_succ])
                generalize ((W13.setCell ⟨z12, 0, none⟩ (.bool ha)).setCell ⟨z12, 1, none⟩ (.string va)).setCell ⟨z12, 2, none⟩ (.bool oa) = W14 at PB14 hHeld ⊢
                refine wpAnyH_ready (rs := [15]) (by kernel_rfl) (by simp) ?_
                refine AllReadyH.cons (o := { dst := none, op := Go.Op.store 34 (Go.Operand.tmp 11) (Go.Operand.tmp 61), type := 0, pos := "law.go:113", after := #[{ on := 13, ground := Go.Ground.data }, { on := 11, ground := Go.Ground.data }, { on := 14, ground := Go.Ground.chain }, { on := 0, ground := Go.Ground.phase }, { on := 1, ground := Go.Ground.phase }, { on := 2, ground := Go.Ground.phase }, { on := 3, ground := Go.Ground.phase }, { on := 4, ground := Go.Ground.phase }, { on := 5, ground := Go.Ground.phase }, { on := 6, ground := Go.Ground.phase }, { on := 7, ground := Go.Ground.phase }, { on := 8, ground := Go.Ground.phase }, { on := 9, ground := Go.Ground.phase }, { on := 10, ground := Go.Ground.phase }, { on := 11, ground := Go.Ground.phase }, { on := 12, ground := Go.Ground.phase }, { on := 13, ground := Go.Ground.phase }, { on := 14, ground := Go.Ground.phase }], guard := none }) rfl (fun K hK => ?_) AllReadyH.nil
                obtain ⟨k0, k1, k2, f0, f1, f2⟩ := PB14.out.cells
                have PB15 := Lib.hid (PB14.out.store2 hb vb ob)
                go_simp
                refine hK.out _ _ ?_ (fun hHeld => ?_)
                · exact (PB15.out.pair.one.bel.cell (p := ⟨g, o + k, none⟩) hg).trans hck
                clear hK K PB14 k0 k1 k2 f0 f1 f2
                (try simp only [Act.put, List.setIfInBounds_toArray, List.set_cons_zero, List.set_cons_succ])
                generalize ((W14.setCell ⟨z13, 0, none⟩ (.bool hb)).setCell ⟨z13, 1, none⟩ (.string vb)).setCell ⟨z13, 2, none⟩ (.bool ob) = W15 at PB15 hHeld ⊢
                refine wpAnyH_done (by kernel_rfl) ?_ _
                refine NoPanic.normal ?_
                clear hHeld
                go_wp2_with fail
                go_meet
                exact ⟨_, _, _, _, rfl, rfl, PB15.out⟩
              · go_simp
                have PB16 := Lib.hid (PB11.out.alloc13)
                refine hK.out _ _ ?_ (fun hHeld => ?_)
                · exact (PB16.out.pair.one.bel.cell (p := ⟨g, o + k, none⟩) hg).trans hck
                clear hK K PB11
                (try simp only [Act.put, List.setIfInBounds_toArray, List.set_cons_zero, List.set_cons_succ])
                generalize W11.alloc (.cells #[.bool false, .string ⟨#[]⟩, .bool false] 34) = W16 at PB16 hHeld ⊢
                generalize W11.heap.size = z13 at PB16 ⊢
                refine wpAnyH_ready (rs := [11]) (by kernel_rfl) (by simp) ?_
                refine AllReadyH.cons (o := { dst := some 61, op := Go.Op.call { callee := Go.Callee.value (Go.Operand.func 14), args := #[Go.Operand.tmp 56, Go.Operand.tmp 60], argTypes := #[25, 9] }, type := 34, pos := "law.go:113", after := #[{ on := 6, ground := Go.Ground.data }, { on := 10, ground := Go.Ground.data }, { on := 5, ground := Go.Ground.chain }], guard := none }) rfl (fun K hK => ?_) AllReadyH.nil
                go_simp
                refine (V2.out _ _ PB16.out.pair.two.ca).mono ?_
                intro e W17 hp
                obtain ⟨rfl, T17, hPn⟩ := PB16.out.call2 hp
                have PB17 := Lib.hid hPn
                clear hp hPn
                go_wp2_with fail
                refine hK.out _ _ ?_ (fun hHeld => ?_)
                · exact (PB17.out.pair.one.bel.cell (p := ⟨g, o + k, none⟩) hg).trans hck
                clear hK K PB16
                (try simp only [Act.put, List.setIfInBounds_toArray, List.set_cons_zero, List.set_cons_succ])
                refine wpAnyH_ready (rs := [14]) (by kernel_rfl) (by simp) ?_
                refine AllReadyH.cons (o := { dst := none, op := Go.Op.store 34 (Go.Operand.tmp 10) (Go.Operand.tmp 55), type := 0, pos := "law.go:113", after := #[{ on := 12, ground := Go.Ground.data }, { on := 5, ground := Go.Ground.data }, { on := 11, ground := Go.Ground.chain }, { on := 0, ground := Go.Ground.phase }, { on := 1, ground := Go.Ground.phase }, { on := 2, ground := Go.Ground.phase }, { on := 3, ground := Go.Ground.phase }, { on := 4, ground := Go.Ground.phase }, { on := 5, ground := Go.Ground.phase }, { on := 6, ground := Go.Ground.textOnly Go.Departure.lateStores }, { on := 7, ground := Go.Ground.textOnly Go.Departure.lateStores }, { on := 8, ground := Go.Ground.textOnly Go.Departure.lateStores }, { on := 9, ground := Go.Ground.textOnly Go.Departure.lateStores }, { on := 10, ground := Go.Ground.textOnly Go.Departure.lateStores }, { on := 11, ground := Go.Ground.textOnly Go.Departure.lateStoresUnsure }, { on := 12, ground := Go.Ground.phase }, { on := 13, ground := Go.Ground.phase }], guard := none }) rfl (fun K hK => ?_) AllReadyH.nil
                obtain ⟨k0, k1, k2, f0, f1, f2⟩ := PB17.out.cells
                have PB18 := Lib.hid (PB17.out.store1 ha va oa)
                go_simp
                refine hK.out _ _ ?_ (fun hHeld => ?_)
                · exact (PB18.out.pair.one.bel.cell (p := ⟨g, o + k, none⟩) hg).trans hck
                clear hK K PB17 k0 k1 k2 f0 f1 f2
                (try simp only [Act.put, List.setIfInBounds_toArray, List.set_cons_zero, List.set_cons_succ])
                generalize ((W17.setCell ⟨z12, 0, none⟩ (.bool ha)).setCell ⟨z12, 1, none⟩ (.string va)).setCell ⟨z12, 2, none⟩ (.bool oa) = W18 at PB18 hHeld ⊢
                refine wpAnyH_ready (rs := [15]) (by kernel_rfl) (by simp) ?_
                refine AllReadyH.cons (o := { dst := none, op := Go.Op.store 34 (Go.Operand.tmp 11) (Go.Operand.tmp 61), type := 0, pos := "law.go:113", after := #[{ on := 13, ground := Go.Ground.data }, { on := 11, ground := Go.Ground.data }, { on := 14, ground := Go.Ground.chain }, { on := 0, ground := Go.Ground.phase }, { on := 1, ground := Go.Ground.phase }, { on := 2, ground := Go.Ground.phase }, { on := 3, ground := Go.Ground.phase }, { on := 4, ground := Go.Ground.phase }, { on := 5, ground := Go.Ground.phase }, { on := 6, ground := Go.Ground.phase }, { on := 7, ground := Go.Ground.phase }, { on := 8, ground := Go.Ground.phase }, { on := 9, ground := Go.Ground.phase }, { on := 10, ground := Go.Ground.phase }, { on := 11, ground := Go.Ground.phase }, { on := 12, ground := Go.Ground.phase }, { on := 13, ground := Go.Ground.phase }, { on := 14, ground := Go.Ground.phase }], guard := none }) rfl (fun K hK => ?_) AllReadyH.nil
                obtain ⟨k0, k1, k2, f0, f1, f2⟩ := PB18.out.cells
                have PB19 := Lib.hid (PB18.out.store2 hb vb ob)
                go_simp
                refine hK.out _ _ ?_ (fun hHeld => ?_)
                · exact (PB19.out.pair.one.bel.cell (p := ⟨g, o + k, none⟩) hg).trans hck
                clear hK K PB18 k0 k1 k2 f0 f1 f2
                (try simp only [Act.put, List.setIfInBounds_toArray, List.set_cons_zero, List.set_cons_succ])
                generalize ((W18.setCell ⟨z13, 0, none⟩ (.bool hb)).setCell ⟨z13, 1, none⟩ (.string vb)).setCell ⟨z13, 2, none⟩ (.bool ob) = W19 at PB19 hHeld ⊢
                refine wpAnyH_done (by kernel_rfl) ?_ _
                refine NoPanic.normal ?_
                clear hHeld
                go_wp2_with fail
                go_meet
                exact ⟨_, _, _, _, rfl, rfl, PB19.out⟩
            · go_simp
              have PB20 := Lib.hid (PB1.out.alloc13)
              refine hK.out _ _ ?_ (fun hHeld => ?_)
              · exact (PB20.out.pair.one.bel.cell (p := ⟨g, o + k, none⟩) hg).trans hck
              clear hK K PB1
              (try simp only [Act.put, List.setIfInBounds_toArray, List.set_cons_zero, List.set_cons_succ])
              generalize W1.alloc (.cells #[.bool false, .string ⟨#[]⟩, .bool false] 34) = W20 at PB20 hHeld ⊢
              generalize W1.heap.size = z13 at PB20 ⊢
              refine wpAnyH_ready (rs := [11, 12]) (by kernel_rfl) (by simp) ?_
              refine AllReadyH.cons (o := { dst := some 61, op := Go.Op.call { callee := Go.Callee.value (Go.Operand.func 14), args := #[Go.Operand.tmp 56, Go.Operand.tmp 60], argTypes := #[25, 9] }, type := 34, pos := "law.go:113", after := #[{ on := 6, ground := Go.Ground.data }, { on := 10, ground := Go.Ground.data }, { on := 5, ground := Go.Ground.chain }], guard := none }) rfl (fun K hK => ?_) (AllReadyH.cons (o := { dst := some 10, op := Go.Op.alloc 34, type := 0, pos := "law.go:113", after := #[], guard := none }) rfl (fun K hK => ?_) AllReadyH.nil)
              · go_simp
                refine (V2.out _ _ PB20.out.pair.two.ca).mono ?_
                intro e W21 hp
                obtain ⟨rfl, T21, hPn⟩ := PB20.out.call2 hp
                have PB21 := Lib.hid hPn
                clear hp hPn
                go_wp2_with fail
                refine hK.out _ _ ?_ (fun hHeld => ?_)
                · exact (PB21.out.pair.one.bel.cell (p := ⟨g, o + k, none⟩) hg).trans hck
                clear hK K PB20
                (try simp only [Act.put, List.setIfInBounds_toArray, List.set_cons_zero, List.set_cons_succ])
                refine wpAnyH_ready (rs := [12]) (by kernel_rfl) (by simp) ?_
                refine AllReadyH.cons (o := { dst := some 10, op := Go.Op.alloc 34, type := 0, pos := "law.go:113", after := #[], guard := none }) rfl (fun K hK => ?_) AllReadyH.nil
                go_simp
                have PB22 := Lib.hid (PB21.out.alloc12)
                refine hK.out _ _ ?_ (fun hHeld => ?_)
                · exact (PB22.out.pair.one.bel.cell (p := ⟨g, o + k, none⟩) hg).trans hck
                clear hK K PB21
                (try simp only [Act.put, List.setIfInBounds_toArray, List.set_cons_zero, List.set_cons_succ])
                generalize W21.alloc (.cells #[.bool false, .string ⟨#[]⟩, .bool false] 34) = W22 at PB22 hHeld ⊢
                generalize W21.heap.size = z12 at PB22 ⊢
                refine wpAnyH_ready (rs := [14]) (by kernel_rfl) (by simp) ?_
                refine AllReadyH.cons (o := { dst := none, op := Go.Op.store 34 (Go.Operand.tmp 10) (Go.Operand.tmp 55), type := 0, pos := "law.go:113", after := #[{ on := 12, ground := Go.Ground.data }, { on := 5, ground := Go.Ground.data }, { on := 11, ground := Go.Ground.chain }, { on := 0, ground := Go.Ground.phase }, { on := 1, ground := Go.Ground.phase }, { on := 2, ground := Go.Ground.phase }, { on := 3, ground := Go.Ground.phase }, { on := 4, ground := Go.Ground.phase }, { on := 5, ground := Go.Ground.phase }, { on := 6, ground := Go.Ground.textOnly Go.Departure.lateStores }, { on := 7, ground := Go.Ground.textOnly Go.Departure.lateStores }, { on := 8, ground := Go.Ground.textOnly Go.Departure.lateStores }, { on := 9, ground := Go.Ground.textOnly Go.Departure.lateStores }, { on := 10, ground := Go.Ground.textOnly Go.Departure.lateStores }, { on := 11, ground := Go.Ground.textOnly Go.Departure.lateStoresUnsure }, { on := 12, ground := Go.Ground.phase }, { on := 13, ground := Go.Ground.phase }], guard := none }) rfl (fun K hK => ?_) AllReadyH.nil
                obtain ⟨k0, k1, k2, f0, f1, f2⟩ := PB22.out.cells
                have PB23 := Lib.hid (PB22.out.store1 ha va oa)
                go_simp
                refine hK.out _ _ ?_ (fun hHeld => ?_)
                · exact (PB23.out.pair.one.bel.cell (p := ⟨g, o + k, none⟩) hg).trans hck
                clear hK K PB22 k0 k1 k2 f0 f1 f2
                (try simp only [Act.put, List.setIfInBounds_toArray, List.set_cons_zero, List.set_cons_succ])
                generalize ((W22.setCell ⟨z12, 0, none⟩ (.bool ha)).setCell ⟨z12, 1, none⟩ (.string va)).setCell ⟨z12, 2, none⟩ (.bool oa) = W23 at PB23 hHeld ⊢
                refine wpAnyH_ready (rs := [15]) (by kernel_rfl) (by simp) ?_
                refine AllReadyH.cons (o := { dst := none, op := Go.Op.store 34 (Go.Operand.tmp 11) (Go.Operand.tmp 61), type := 0, pos := "law.go:113", after := #[{ on := 13, ground := Go.Ground.data }, { on := 11, ground := Go.Ground.data }, { on := 14, ground := Go.Ground.chain }, { on := 0, ground := Go.Ground.phase }, { on := 1, ground := Go.Ground.phase }, { on := 2, ground := Go.Ground.phase }, { on := 3, ground := Go.Ground.phase }, { on := 4, ground := Go.Ground.phase }, { on := 5, ground := Go.Ground.phase }, { on := 6, ground := Go.Ground.phase }, { on := 7, ground := Go.Ground.phase }, { on := 8, ground := Go.Ground.phase }, { on := 9, ground := Go.Ground.phase }, { on := 10, ground := Go.Ground.phase }, { on := 11, ground := Go.Ground.phase }, { on := 12, ground := Go.Ground.phase }, { on := 13, ground := Go.Ground.phase }, { on := 14, ground := Go.Ground.phase }], guard := none }) rfl (fun K hK => ?_) AllReadyH.nil
                obtain ⟨k0, k1, k2, f0, f1, f2⟩ := PB23.out.cells
                have PB24 := Lib.hid (PB23.out.store2 hb vb ob)
                go_simp
                refine hK.out _ _ ?_ (fun hHeld => ?_)
                · exact (PB24.out.pair.one.bel.cell (p := ⟨g, o + k, none⟩) hg).trans hck
                clear hK K PB23 k0 k1 k2 f0 f1 f2
                (try simp only [Act.put, List.setIfInBounds_toArray, List.set_cons_zero, List.set_cons_succ])
                generalize ((W23.setCell ⟨z13, 0, none⟩ (.bool hb)).setCell ⟨z13, 1, none⟩ (.string vb)).setCell ⟨z13, 2, none⟩ (.bool ob) = W24 at PB24 hHeld ⊢
                refine wpAnyH_done (by kernel_rfl) ?_ _
                refine NoPanic.normal ?_
                clear hHeld
                go_wp2_with fail
                go_meet
                exact ⟨_, _, _, _, rfl, rfl, PB24.out⟩
              · go_simp
                have PB25 := Lib.hid (PB20.out.alloc12)
                refine hK.out _ _ ?_ (fun hHeld => ?_)
                · exact (PB25.out.pair.one.bel.cell (p := ⟨g, o + k, none⟩) hg).trans hck
                clear hK K PB20
                (try simp only [Act.put, List.setIfInBounds_toArray, List.set_cons_zero, List.set_cons_succ])
                generalize W20.alloc (.cells #[.bool false, .string ⟨#[]⟩, .bool false] 34) = W25 at PB25 hHeld ⊢
                generalize W20.heap.size = z12 at PB25 ⊢
                refine wpAnyH_ready (rs := [11]) (by kernel_rfl) (by simp) ?_
                refine AllReadyH.cons (o := { dst := some 61, op := Go.Op.call { callee := Go.Callee.value (Go.Operand.func 14), args := #[Go.Operand.tmp 56, Go.Operand.tmp 60], argTypes := #[25, 9] }, type := 34, pos := "law.go:113", after := #[{ on := 6, ground := Go.Ground.data }, { on := 10, ground := Go.Ground.data }, { on := 5, ground := Go.Ground.chain }], guard := none }) rfl (fun K hK => ?_) AllReadyH.nil
                go_simp
                refine (V2.out _ _ PB25.out.pair.two.ca).mono ?_
                intro e W26 hp
                obtain ⟨rfl, T26, hPn⟩ := PB25.out.call2 hp
                have PB26 := Lib.hid hPn
                clear hp hPn
                go_wp2_with fail
                refine hK.out _ _ ?_ (fun hHeld => ?_)
                · exact (PB26.out.pair.one.bel.cell (p := ⟨g, o + k, none⟩) hg).trans hck
                clear hK K PB25
                (try simp only [Act.put, List.setIfInBounds_toArray, List.set_cons_zero, List.set_cons_succ])
                refine wpAnyH_ready (rs := [14]) (by kernel_rfl) (by simp) ?_
                refine AllReadyH.cons (o := { dst := none, op := Go.Op.store 34 (Go.Operand.tmp 10) (Go.Operand.tmp 55), type := 0, pos := "law.go:113", after := #[{ on := 12, ground := Go.Ground.data }, { on := 5, ground := Go.Ground.data }, { on := 11, ground := Go.Ground.chain }, { on := 0, ground := Go.Ground.phase }, { on := 1, ground := Go.Ground.phase }, { on := 2, ground := Go.Ground.phase }, { on := 3, ground := Go.Ground.phase }, { on := 4, ground := Go.Ground.phase }, { on := 5, ground := Go.Ground.phase }, { on := 6, ground := Go.Ground.textOnly Go.Departure.lateStores }, { on := 7, ground := Go.Ground.textOnly Go.Departure.lateStores }, { on := 8, ground := Go.Ground.textOnly Go.Departure.lateStores }, { on := 9, ground := Go.Ground.textOnly Go.Departure.lateStores }, { on := 10, ground := Go.Ground.textOnly Go.Departure.lateStores }, { on := 11, ground := Go.Ground.textOnly Go.Departure.lateStoresUnsure }, { on := 12, ground := Go.Ground.phase }, { on := 13, ground := Go.Ground.phase }], guard := none }) rfl (fun K hK => ?_) AllReadyH.nil
                obtain ⟨k0, k1, k2, f0, f1, f2⟩ := PB26.out.cells
                have PB27 := Lib.hid (PB26.out.store1 ha va oa)
                go_simp
                refine hK.out _ _ ?_ (fun hHeld => ?_)
                · exact (PB27.out.pair.one.bel.cell (p := ⟨g, o + k, none⟩) hg).trans hck
                clear hK K PB26 k0 k1 k2 f0 f1 f2
                (try simp only [Act.put, List.setIfInBounds_toArray, List.set_cons_zero, List.set_cons_succ])
                generalize ((W26.setCell ⟨z12, 0, none⟩ (.bool ha)).setCell ⟨z12, 1, none⟩ (.string va)).setCell ⟨z12, 2, none⟩ (.bool oa) = W27 at PB27 hHeld ⊢
                refine wpAnyH_ready (rs := [15]) (by kernel_rfl) (by simp) ?_
                refine AllReadyH.cons (o := { dst := none, op := Go.Op.store 34 (Go.Operand.tmp 11) (Go.Operand.tmp 61), type := 0, pos := "law.go:113", after := #[{ on := 13, ground := Go.Ground.data }, { on := 11, ground := Go.Ground.data }, { on := 14, ground := Go.Ground.chain }, { on := 0, ground := Go.Ground.phase }, { on := 1, ground := Go.Ground.phase }, { on := 2, ground := Go.Ground.phase }, { on := 3, ground := Go.Ground.phase }, { on := 4, ground := Go.Ground.phase }, { on := 5, ground := Go.Ground.phase }, { on := 6, ground := Go.Ground.phase }, { on := 7, ground := Go.Ground.phase }, { on := 8, ground := Go.Ground.phase }, { on := 9, ground := Go.Ground.phase }, { on := 10, ground := Go.Ground.phase }, { on := 11, ground := Go.Ground.phase }, { on := 12, ground := Go.Ground.phase }, { on := 13, ground := Go.Ground.phase }, { on := 14, ground := Go.Ground.phase }], guard := none }) rfl (fun K hK => ?_) AllReadyH.nil
                obtain ⟨k0, k1, k2, f0, f1, f2⟩ := PB27.out.cells
                have PB28 := Lib.hid (PB27.out.store2 hb vb ob)
                go_simp
                refine hK.out _ _ ?_ (fun hHeld => ?_)
                · exact (PB28.out.pair.one.bel.cell (p := ⟨g, o + k, none⟩) hg).trans hck
                clear hK K PB27 k0 k1 k2 f0 f1 f2
                (try simp only [Act.put, List.setIfInBounds_toArray, List.set_cons_zero, List.set_cons_succ])
                generalize ((W27.setCell ⟨z13, 0, none⟩ (.bool hb)).setCell ⟨z13, 1, none⟩ (.string vb)).setCell ⟨z13, 2, none⟩ (.bool ob) = W28 at PB28 hHeld ⊢
                refine wpAnyH_done (by kernel_rfl) ?_ _
                refine NoPanic.normal ?_
                clear hHeld
                go_wp2_with fail
                go_meet
                exact ⟨_, _, _, _, rfl, rfl, PB28.out⟩
          · go_simp
            have PB29 := Lib.hid (PB0.out.alloc12)
            refine hK.out _ _ ?_ (fun hHeld => ?_)
            · exact (PB29.out.pair.one.bel.cell (p := ⟨g, o + k, none⟩) hg).trans hck
            clear hK K PB0
            (try simp only [Act.put, List.setIfInBounds_toArray, List.set_cons_zero, List.set_cons_succ])
            generalize W0.alloc (.cells #[.bool false, .string ⟨#[]⟩, .bool false] 34) = W29 at PB29 hHeld ⊢
            generalize W0.heap.size = z12 at PB29 ⊢
            refine wpAnyH_ready (rs := [5, 13]) (by kernel_rfl) (by simp) ?_
            refine AllReadyH.cons (o := { dst := some 55, op := Go.Op.call { callee := Go.Callee.value (Go.Operand.func 14), args := #[Go.Operand.tmp 50, Go.Operand.tmp 54], argTypes := #[25, 9] }, type := 34, pos := "law.go:113", after := #[{ on := 0, ground := Go.Ground.data }, { on := 4, ground := Go.Ground.data }], guard := none }) rfl (fun K hK => ?_) (AllReadyH.cons (o := { dst := some 11, op := Go.Op.alloc 34, type := 0, pos := "law.go:113", after := #[], guard := none }) rfl (fun K hK => ?_) AllReadyH.nil)
            · go_simp
              refine (V1.out _ _ PB29.out.pair.one.ca).mono ?_
              intro e W30 hp
              obtain ⟨rfl, T30, hPn⟩ := PB29.out.call1 hp
              have PB30 := Lib.hid hPn
              clear hp hPn
              go_wp2_with fail
              refine hK.out _ _ ?_ (fun hHeld => ?_)
              · exact (PB30.out.pair.one.bel.cell (p := ⟨g, o + k, none⟩) hg).trans hck
              clear hK K PB29
              (try simp only [Act.put, List.setIfInBounds_toArray, List.set_cons_zero, List.set_cons_succ])
              refine wpAnyH_ready (rs := [11, 13]) (by kernel_rfl) (by simp) ?_
              refine AllReadyH.cons (o := { dst := some 61, op := Go.Op.call { callee := Go.Callee.value (Go.Operand.func 14), args := #[Go.Operand.tmp 56, Go.Operand.tmp 60], argTypes := #[25, 9] }, type := 34, pos := "law.go:113", after := #[{ on := 6, ground := Go.Ground.data }, { on := 10, ground := Go.Ground.data }, { on := 5, ground := Go.Ground.chain }], guard := none }) rfl (fun K hK => ?_) (AllReadyH.cons (o := { dst := some 11, op := Go.Op.alloc 34, type := 0, pos := "law.go:113", after := #[], guard := none }) rfl (fun K hK => ?_) AllReadyH.nil)
              · go_simp
                refine (V2.out _ _ PB30.out.pair.two.ca).mono ?_
                intro e W31 hp
                obtain ⟨rfl, T31, hPn⟩ := PB30.out.call2 hp
                have PB31 := Lib.hid hPn
                clear hp hPn
                go_wp2_with fail
                refine hK.out _ _ ?_ (fun hHeld => ?_)
                · exact (PB31.out.pair.one.bel.cell (p := ⟨g, o + k, none⟩) hg).trans hck
                clear hK K PB30
                (try simp only [Act.put, List.setIfInBounds_toArray, List.set_cons_zero, List.set_cons_succ])
                refine wpAnyH_ready (rs := [13]) (by kernel_rfl) (by simp) ?_
                refine AllReadyH.cons (o := { dst := some 11, op := Go.Op.alloc 34, type := 0, pos := "law.go:113", after := #[], guard := none }) rfl (fun K hK => ?_) AllReadyH.nil
                go_simp
                have PB32 := Lib.hid (PB31.out.alloc13)
                refine hK.out _ _ ?_ (fun hHeld => ?_)
                · exact (PB32.out.pair.one.bel.cell (p := ⟨g, o + k, none⟩) hg).trans hck
                clear hK K PB31
                (try simp only [Act.put, List.setIfInBounds_toArray, List.set_cons_zero, List.set_cons_succ])
                generalize W31.alloc (.cells #[.bool false, .string ⟨#[]⟩, .bool false] 34) = W32 at PB32 hHeld ⊢
                generalize W31.heap.size = z13 at PB32 ⊢
                refine wpAnyH_ready (rs := [14]) (by kernel_rfl) (by simp) ?_
                refine AllReadyH.cons (o := { dst := none, op := Go.Op.store 34 (Go.Operand.tmp 10) (Go.Operand.tmp 55), type := 0, pos := "law.go:113", after := #[{ on := 12, ground := Go.Ground.data }, { on := 5, ground := Go.Ground.data }, { on := 11, ground := Go.Ground.chain }, { on := 0, ground := Go.Ground.phase }, { on := 1, ground := Go.Ground.phase }, { on := 2, ground := Go.Ground.phase }, { on := 3, ground := Go.Ground.phase }, { on := 4, ground := Go.Ground.phase }, { on := 5, ground := Go.Ground.phase }, { on := 6, ground := Go.Ground.textOnly Go.Departure.lateStores }, { on := 7, ground := Go.Ground.textOnly Go.Departure.lateStores }, { on := 8, ground := Go.Ground.textOnly Go.Departure.lateStores }, { on := 9, ground := Go.Ground.textOnly Go.Departure.lateStores }, { on := 10, ground := Go.Ground.textOnly Go.Departure.lateStores }, { on := 11, ground := Go.Ground.textOnly Go.Departure.lateStoresUnsure }, { on := 12, ground := Go.Ground.phase }, { on := 13, ground := Go.Ground.phase }], guard := none }) rfl (fun K hK => ?_) AllReadyH.nil
                obtain ⟨k0, k1, k2, f0, f1, f2⟩ := PB32.out.cells
                have PB33 := Lib.hid (PB32.out.store1 ha va oa)
                go_simp
                refine hK.out _ _ ?_ (fun hHeld => ?_)
                · exact (PB33.out.pair.one.bel.cell (p := ⟨g, o + k, none⟩) hg).trans hck
                clear hK K PB32 k0 k1 k2 f0 f1 f2
                (try simp only [Act.put, List.setIfInBounds_toArray, List.set_cons_zero, List.set_cons_succ])
                generalize ((W32.setCell ⟨z12, 0, none⟩ (.bool ha)).setCell ⟨z12, 1, none⟩ (.string va)).setCell ⟨z12, 2, none⟩ (.bool oa) = W33 at PB33 hHeld ⊢
                refine wpAnyH_ready (rs := [15]) (by kernel_rfl) (by simp) ?_
                refine AllReadyH.cons (o := { dst := none, op := Go.Op.store 34 (Go.Operand.tmp 11) (Go.Operand.tmp 61), type := 0, pos := "law.go:113", after := #[{ on := 13, ground := Go.Ground.data }, { on := 11, ground := Go.Ground.data }, { on := 14, ground := Go.Ground.chain }, { on := 0, ground := Go.Ground.phase }, { on := 1, ground := Go.Ground.phase }, { on := 2, ground := Go.Ground.phase }, { on := 3, ground := Go.Ground.phase }, { on := 4, ground := Go.Ground.phase }, { on := 5, ground := Go.Ground.phase }, { on := 6, ground := Go.Ground.phase }, { on := 7, ground := Go.Ground.phase }, { on := 8, ground := Go.Ground.phase }, { on := 9, ground := Go.Ground.phase }, { on := 10, ground := Go.Ground.phase }, { on := 11, ground := Go.Ground.phase }, { on := 12, ground := Go.Ground.phase }, { on := 13, ground := Go.Ground.phase }, { on := 14, ground := Go.Ground.phase }], guard := none }) rfl (fun K hK => ?_) AllReadyH.nil
                obtain ⟨k0, k1, k2, f0, f1, f2⟩ := PB33.out.cells
                have PB34 := Lib.hid (PB33.out.store2 hb vb ob)
                go_simp
                refine hK.out _ _ ?_ (fun hHeld => ?_)
                · exact (PB34.out.pair.one.bel.cell (p := ⟨g, o + k, none⟩) hg).trans hck
                clear hK K PB33 k0 k1 k2 f0 f1 f2
                (try simp only [Act.put, List.setIfInBounds_toArray, List.set_cons_zero, List.set_cons_succ])
                generalize ((W33.setCell ⟨z13, 0, none⟩ (.bool hb)).setCell ⟨z13, 1, none⟩ (.string vb)).setCell ⟨z13, 2, none⟩ (.bool ob) = W34 at PB34 hHeld ⊢
                refine wpAnyH_done (by kernel_rfl) ?_ _
                refine NoPanic.normal ?_
                clear hHeld
                go_wp2_with fail
                go_meet
                exact ⟨_, _, _, _, rfl, rfl, PB34.out⟩
              · go_simp
                have PB35 := Lib.hid (PB30.out.alloc13)
                refine hK.out _ _ ?_ (fun hHeld => ?_)
                · exact (PB35.out.pair.one.bel.cell (p := ⟨g, o + k, none⟩) hg).trans hck
                clear hK K PB30
                (try simp only [Act.put, List.setIfInBounds_toArray, List.set_cons_zero, List.set_cons_succ])
                generalize W30.alloc (.cells #[.bool false, .string ⟨#[]⟩, .bool false] 34) = W35 at PB35 hHeld ⊢
                generalize W30.heap.size = z13 at PB35 ⊢
                refine wpAnyH_ready (rs := [11]) (by kernel_rfl) (by simp) ?_
                refine AllReadyH.cons (o := { dst := some 61, op := Go.Op.call { callee := Go.Callee.value (Go.Operand.func 14), args := #[Go.Operand.tmp 56, Go.Operand.tmp 60], argTypes := #[25, 9] }, type := 34, pos := "law.go:113", after := #[{ on := 6, ground := Go.Ground.data }, { on := 10, ground := Go.Ground.data }, { on := 5, ground := Go.Ground.chain }], guard := none }) rfl (fun K hK => ?_) AllReadyH.nil
                go_simp
                refine (V2.out _ _ PB35.out.pair.two.ca).mono ?_
                intro e W36 hp
                obtain ⟨rfl, T36, hPn⟩ := PB35.out.call2 hp
                have PB36 := Lib.hid hPn
                clear hp hPn
                go_wp2_with fail
                refine hK.out _ _ ?_ (fun hHeld => ?_)
                · exact (PB36.out.pair.one.bel.cell (p := ⟨g, o + k, none⟩) hg).trans hck
                clear hK K PB35
                (try simp only [Act.put, List.setIfInBounds_toArray, List.set_cons_zero, List.set_cons_succ])
                refine wpAnyH_ready (rs := [14]) (by kernel_rfl) (by simp) ?_
                refine AllReadyH.cons (o := { dst := none, op := Go.Op.store 34 (Go.Operand.tmp 10) (Go.Operand.tmp 55), type := 0, pos := "law.go:113", after := #[{ on := 12, ground := Go.Ground.data }, { on := 5, ground := Go.Ground.data }, { on := 11, ground := Go.Ground.chain }, { on := 0, ground := Go.Ground.phase }, { on := 1, ground := Go.Ground.phase }, { on := 2, ground := Go.Ground.phase }, { on := 3, ground := Go.Ground.phase }, { on := 4, ground := Go.Ground.phase }, { on := 5, ground := Go.Ground.phase }, { on := 6, ground := Go.Ground.textOnly Go.Departure.lateStores }, { on := 7, ground := Go.Ground.textOnly Go.Departure.lateStores }, { on := 8, ground := Go.Ground.textOnly Go.Departure.lateStores }, { on := 9, ground := Go.Ground.textOnly Go.Departure.lateStores }, { on := 10, ground := Go.Ground.textOnly Go.Departure.lateStores }, { on := 11, ground := Go.Ground.textOnly Go.Departure.lateStoresUnsure }, { on := 12, ground := Go.Ground.phase }, { on := 13, ground := Go.Ground.phase }], guard := none }) rfl (fun K hK => ?_) AllReadyH.nil
                obtain ⟨k0, k1, k2, f0, f1, f2⟩ := PB36.out.cells
                have PB37 := Lib.hid (PB36.out.store1 ha va oa)
                go_simp
                refine hK.out _ _ ?_ (fun hHeld => ?_)
                · exact (PB37.out.pair.one.bel.cell (p := ⟨g, o + k, none⟩) hg).trans hck
                clear hK K PB36 k0 k1 k2 f0 f1 f2
                (try simp only [Act.put, List.setIfInBounds_toArray, List.set_cons_zero, List.set_cons_succ])
                generalize ((W36.setCell ⟨z12, 0, none⟩ (.bool ha)).setCell ⟨z12, 1, none⟩ (.string va)).setCell ⟨z12, 2, none⟩ (.bool oa) = W37 at PB37 hHeld ⊢
                refine wpAnyH_ready (rs := [15]) (by kernel_rfl) (by simp) ?_
                refine AllReadyH.cons (o := { dst := none, op := Go.Op.store 34 (Go.Operand.tmp 11) (Go.Operand.tmp 61), type := 0, pos := "law.go:113", after := #[{ on := 13, ground := Go.Ground.data }, { on := 11, ground := Go.Ground.data }, { on := 14, ground := Go.Ground.chain }, { on := 0, ground := Go.Ground.phase }, { on := 1, ground := Go.Ground.phase }, { on := 2, ground := Go.Ground.phase }, { on := 3, ground := Go.Ground.phase }, { on := 4, ground := Go.Ground.phase }, { on := 5, ground := Go.Ground.phase }, { on := 6, ground := Go.Ground.phase }, { on := 7, ground := Go.Ground.phase }, { on := 8, ground := Go.Ground.phase }, { on := 9, ground := Go.Ground.phase }, { on := 10, ground := Go.Ground.phase }, { on := 11, ground := Go.Ground.phase }, { on := 12, ground := Go.Ground.phase }, { on := 13, ground := Go.Ground.phase }, { on := 14, ground := Go.Ground.phase }], guard := none }) rfl (fun K hK => ?_) AllReadyH.nil
                obtain ⟨k0, k1, k2, f0, f1, f2⟩ := PB37.out.cells
                have PB38 := Lib.hid (PB37.out.store2 hb vb ob)
                go_simp
                refine hK.out _ _ ?_ (fun hHeld => ?_)
                · exact (PB38.out.pair.one.bel.cell (p := ⟨g, o + k, none⟩) hg).trans hck
                clear hK K PB37 k0 k1 k2 f0 f1 f2
                (try simp only [Act.put, List.setIfInBounds_toArray, List.set_cons_zero, List.set_cons_succ])
                generalize ((W37.setCell ⟨z13, 0, none⟩ (.bool hb)).setCell ⟨z13, 1, none⟩ (.string vb)).setCell ⟨z13, 2, none⟩ (.bool ob) = W38 at PB38 hHeld ⊢
                refine wpAnyH_done (by kernel_rfl) ?_ _
                refine NoPanic.normal ?_
                clear hHeld
                go_wp2_with fail
                go_meet
                exact ⟨_, _, _, _, rfl, rfl, PB38.out⟩
            · go_simp
              have PB39 := Lib.hid (PB29.out.alloc13)
              refine hK.out _ _ ?_ (fun hHeld => ?_)
              · exact (PB39.out.pair.one.bel.cell (p := ⟨g, o + k, none⟩) hg).trans hck
              clear hK K PB29
              (try simp only [Act.put, List.setIfInBounds_toArray, List.set_cons_zero, List.set_cons_succ])
              generalize W29.alloc (.cells #[.bool false, .string ⟨#[]⟩, .bool false] 34) = W39 at PB39 hHeld ⊢
              generalize W29.heap.size = z13 at PB39 ⊢
              refine wpAnyH_ready (rs := [5]) (by kernel_rfl) (by simp) ?_
              refine AllReadyH.cons (o := { dst := some 55, op := Go.Op.call { callee := Go.Callee.value (Go.Operand.func 14), args := #[Go.Operand.tmp 50, Go.Operand.tmp 54], argTypes := #[25, 9] }, type := 34, pos := "law.go:113", after := #[{ on := 0, ground := Go.Ground.data }, { on := 4, ground := Go.Ground.data }], guard := none }) rfl (fun K hK => ?_) AllReadyH.nil
              go_simp
              refine (V1.out _ _ PB39.out.pair.one.ca).mono ?_
              intro e W40 hp
              obtain ⟨rfl, T40, hPn⟩ := PB39.out.call1 hp
              have PB40 := Lib.hid hPn
              clear hp hPn
              go_wp2_with fail
              refine hK.out _ _ ?_ (fun hHeld => ?_)
              · exact (PB40.out.pair.one.bel.cell (p := ⟨g, o + k, none⟩) hg).trans hck
              clear hK K PB39
              (try simp only [Act.put, List.setIfInBounds_toArray, List.set_cons_zero, List.set_cons_succ])
              refine wpAnyH_ready (rs := [11]) (by kernel_rfl) (by simp) ?_
              refine AllReadyH.cons (o := { dst := some 61, op := Go.Op.call { callee := Go.Callee.value (Go.Operand.func 14), args := #[Go.Operand.tmp 56, Go.Operand.tmp 60], argTypes := #[25, 9] }, type := 34, pos := "law.go:113", after := #[{ on := 6, ground := Go.Ground.data }, { on := 10, ground := Go.Ground.data }, { on := 5, ground := Go.Ground.chain }], guard := none }) rfl (fun K hK => ?_) AllReadyH.nil
              go_simp
              refine (V2.out _ _ PB40.out.pair.two.ca).mono ?_
              intro e W41 hp
              obtain ⟨rfl, T41, hPn⟩ := PB40.out.call2 hp
              have PB41 := Lib.hid hPn
              clear hp hPn
              go_wp2_with fail
              refine hK.out _ _ ?_ (fun hHeld => ?_)
              · exact (PB41.out.pair.one.bel.cell (p := ⟨g, o + k, none⟩) hg).trans hck
              clear hK K PB40
              (try simp only [Act.put, List.setIfInBounds_toArray, List.set_cons_zero, List.set_cons_succ])
              refine wpAnyH_ready (rs := [14]) (by kernel_rfl) (by simp) ?_
              refine AllReadyH.cons (o := { dst := none, op := Go.Op.store 34 (Go.Operand.tmp 10) (Go.Operand.tmp 55), type := 0, pos := "law.go:113", after := #[{ on := 12, ground := Go.Ground.data }, { on := 5, ground := Go.Ground.data }, { on := 11, ground := Go.Ground.chain }, { on := 0, ground := Go.Ground.phase }, { on := 1, ground := Go.Ground.phase }, { on := 2, ground := Go.Ground.phase }, { on := 3, ground := Go.Ground.phase }, { on := 4, ground := Go.Ground.phase }, { on := 5, ground := Go.Ground.phase }, { on := 6, ground := Go.Ground.textOnly Go.Departure.lateStores }, { on := 7, ground := Go.Ground.textOnly Go.Departure.lateStores }, { on := 8, ground := Go.Ground.textOnly Go.Departure.lateStores }, { on := 9, ground := Go.Ground.textOnly Go.Departure.lateStores }, { on := 10, ground := Go.Ground.textOnly Go.Departure.lateStores }, { on := 11, ground := Go.Ground.textOnly Go.Departure.lateStoresUnsure }, { on := 12, ground := Go.Ground.phase }, { on := 13, ground := Go.Ground.phase }], guard := none }) rfl (fun K hK => ?_) AllReadyH.nil
              obtain ⟨k0, k1, k2, f0, f1, f2⟩ := PB41.out.cells
              have PB42 := Lib.hid (PB41.out.store1 ha va oa)
              go_simp
              refine hK.out _ _ ?_ (fun hHeld => ?_)
              · exact (PB42.out.pair.one.bel.cell (p := ⟨g, o + k, none⟩) hg).trans hck
              clear hK K PB41 k0 k1 k2 f0 f1 f2
              (try simp only [Act.put, List.setIfInBounds_toArray, List.set_cons_zero, List.set_cons_succ])
              generalize ((W41.setCell ⟨z12, 0, none⟩ (.bool ha)).setCell ⟨z12, 1, none⟩ (.string va)).setCell ⟨z12, 2, none⟩ (.bool oa) = W42 at PB42 hHeld ⊢
              refine wpAnyH_ready (rs := [15]) (by kernel_rfl) (by simp) ?_
              refine AllReadyH.cons (o := { dst := none, op := Go.Op.store 34 (Go.Operand.tmp 11) (Go.Operand.tmp 61), type := 0, pos := "law.go:113", after := #[{ on := 13, ground := Go.Ground.data }, { on := 11, ground := Go.Ground.data }, { on := 14, ground := Go.Ground.chain }, { on := 0, ground := Go.Ground.phase }, { on := 1, ground := Go.Ground.phase }, { on := 2, ground := Go.Ground.phase }, { on := 3, ground := Go.Ground.phase }, { on := 4, ground := Go.Ground.phase }, { on := 5, ground := Go.Ground.phase }, { on := 6, ground := Go.Ground.phase }, { on := 7, ground := Go.Ground.phase }, { on := 8, ground := Go.Ground.phase }, { on := 9, ground := Go.Ground.phase }, { on := 10, ground := Go.Ground.phase }, { on := 11, ground := Go.Ground.phase }, { on := 12, ground := Go.Ground.phase }, { on := 13, ground := Go.Ground.phase }, { on := 14, ground := Go.Ground.phase }], guard := none }) rfl (fun K hK => ?_) AllReadyH.nil
              obtain ⟨k0, k1, k2, f0, f1, f2⟩ := PB42.out.cells
              have PB43 := Lib.hid (PB42.out.store2 hb vb ob)
              go_simp
              refine hK.out _ _ ?_ (fun hHeld => ?_)
              · exact (PB43.out.pair.one.bel.cell (p := ⟨g, o + k, none⟩) hg).trans hck
              clear hK K PB42 k0 k1 k2 f0 f1 f2
              (try simp only [Act.put, List.setIfInBounds_toArray, List.set_cons_zero, List.set_cons_succ])
              generalize ((W42.setCell ⟨z13, 0, none⟩ (.bool hb)).setCell ⟨z13, 1, none⟩ (.string vb)).setCell ⟨z13, 2, none⟩ (.bool ob) = W43 at PB43 hHeld ⊢
              refine wpAnyH_done (by kernel_rfl) ?_ _
              refine NoPanic.normal ?_
              clear hHeld
              go_wp2_with fail
              go_meet
              exact ⟨_, _, _, _, rfl, rfl, PB43.out⟩
          · go_simp
            have PB44 := Lib.hid (PB0.out.alloc13)
            refine hK.out _ _ ?_ (fun hHeld => ?_)
            · exact (PB44.out.pair.one.bel.cell (p := ⟨g, o + k, none⟩) hg).trans hck
            clear hK K PB0
            (try simp only [Act.put, List.setIfInBounds_toArray, List.set_cons_zero, List.set_cons_succ])
            generalize W0.alloc (.cells #[.bool false, .string ⟨#[]⟩, .bool false] 34) = W44 at PB44 hHeld ⊢
            generalize W0.heap.size = z13 at PB44 ⊢
            refine wpAnyH_ready (rs := [5, 12]) (by kernel_rfl) (by simp) ?_
            refine AllReadyH.cons (o := { dst := some 55, op := Go.Op.call { callee := Go.Callee.value (Go.Operand.func 14), args := #[Go.Operand.tmp 50, Go.Operand.tmp 54], argTypes := #[25, 9] }, type := 34, pos := "law.go:113", after := #[{ on := 0, ground := Go.Ground.data }, { on := 4, ground := Go.Ground.data }], guard := none }) rfl (fun K hK => ?_) (AllReadyH.cons (o := { dst := some 10, op := Go.Op.alloc 34, type := 0, pos := "law.go:113", after := #[], guard := none }) rfl (fun K hK => ?_) AllReadyH.nil)
            · go_simp
              refine (V1.out _ _ PB44.out.pair.one.ca).mono ?_
              intro e W45 hp
              obtain ⟨rfl, T45, hPn⟩ := PB44.out.call1 hp
              have PB45 := Lib.hid hPn
              clear hp hPn
              go_wp2_with fail
              refine hK.out _ _ ?_ (fun hHeld => ?_)
              · exact (PB45.out.pair.one.bel.cell (p := ⟨g, o + k, none⟩) hg).trans hck
              clear hK K PB44
              (try simp only [Act.put, List.setIfInBounds_toArray, List.set_cons_zero, List.set_cons_succ])
              refine wpAnyH_ready (rs := [11, 12]) (by kernel_rfl) (by simp) ?_
              refine AllReadyH.cons (o := { dst := some 61, op := Go.Op.call { callee := Go.Callee.value (Go.Operand.func 14), args := #[Go.Operand.tmp 56, Go.Operand.tmp 60], argTypes := #[25, 9] }, type := 34, pos := "law.go:113", after := #[{ on := 6, ground := Go.Ground.data }, { on := 10, ground := Go.Ground.data }, { on := 5, ground := Go.Ground.chain }], guard := none }) rfl (fun K hK => ?_) (AllReadyH.cons (o := { dst := some 10, op := Go.Op.alloc 34, type := 0, pos := "law.go:113", after := #[], guard := none }) rfl (fun K hK => ?_) AllReadyH.nil)
              · go_simp
                refine (V2.out _ _ PB45.out.pair.two.ca).mono ?_
                intro e W46 hp
                obtain ⟨rfl, T46, hPn⟩ := PB45.out.call2 hp
                have PB46 := Lib.hid hPn
                clear hp hPn
                go_wp2_with fail
                refine hK.out _ _ ?_ (fun hHeld => ?_)
                · exact (PB46.out.pair.one.bel.cell (p := ⟨g, o + k, none⟩) hg).trans hck
                clear hK K PB45
                (try simp only [Act.put, List.setIfInBounds_toArray, List.set_cons_zero, List.set_cons_succ])
                refine wpAnyH_ready (rs := [12]) (by kernel_rfl) (by simp) ?_
                refine AllReadyH.cons (o := { dst := some 10, op := Go.Op.alloc 34, type := 0, pos := "law.go:113", after := #[], guard := none }) rfl (fun K hK => ?_) AllReadyH.nil
                go_simp
                have PB47 := Lib.hid (PB46.out.alloc12)
                refine hK.out _ _ ?_ (fun hHeld => ?_)
                · exact (PB47.out.pair.one.bel.cell (p := ⟨g, o + k, none⟩) hg).trans hck
                clear hK K PB46
                (try simp only [Act.put, List.setIfInBounds_toArray, List.set_cons_zero, List.set_cons_succ])
                generalize W46.alloc (.cells #[.bool false, .string ⟨#[]⟩, .bool false] 34) = W47 at PB47 hHeld ⊢
                generalize W46.heap.size = z12 at PB47 ⊢
                refine wpAnyH_ready (rs := [14]) (by kernel_rfl) (by simp) ?_
                refine AllReadyH.cons (o := { dst := none, op := Go.Op.store 34 (Go.Operand.tmp 10) (Go.Operand.tmp 55), type := 0, pos := "law.go:113", after := #[{ on := 12, ground := Go.Ground.data }, { on := 5, ground := Go.Ground.data }, { on := 11, ground := Go.Ground.chain }, { on := 0, ground := Go.Ground.phase }, { on := 1, ground := Go.Ground.phase }, { on := 2, ground := Go.Ground.phase }, { on := 3, ground := Go.Ground.phase }, { on := 4, ground := Go.Ground.phase }, { on := 5, ground := Go.Ground.phase }, { on := 6, ground := Go.Ground.textOnly Go.Departure.lateStores }, { on := 7, ground := Go.Ground.textOnly Go.Departure.lateStores }, { on := 8, ground := Go.Ground.textOnly Go.Departure.lateStores }, { on := 9, ground := Go.Ground.textOnly Go.Departure.lateStores }, { on := 10, ground := Go.Ground.textOnly Go.Departure.lateStores }, { on := 11, ground := Go.Ground.textOnly Go.Departure.lateStoresUnsure }, { on := 12, ground := Go.Ground.phase }, { on := 13, ground := Go.Ground.phase }], guard := none }) rfl (fun K hK => ?_) AllReadyH.nil
                obtain ⟨k0, k1, k2, f0, f1, f2⟩ := PB47.out.cells
                have PB48 := Lib.hid (PB47.out.store1 ha va oa)
                go_simp
                refine hK.out _ _ ?_ (fun hHeld => ?_)
                · exact (PB48.out.pair.one.bel.cell (p := ⟨g, o + k, none⟩) hg).trans hck
                clear hK K PB47 k0 k1 k2 f0 f1 f2
                (try simp only [Act.put, List.setIfInBounds_toArray, List.set_cons_zero, List.set_cons_succ])
                generalize ((W47.setCell ⟨z12, 0, none⟩ (.bool ha)).setCell ⟨z12, 1, none⟩ (.string va)).setCell ⟨z12, 2, none⟩ (.bool oa) = W48 at PB48 hHeld ⊢
                refine wpAnyH_ready (rs := [15]) (by kernel_rfl) (by simp) ?_
                refine AllReadyH.cons (o := { dst := none, op := Go.Op.store 34 (Go.Operand.tmp 11) (Go.Operand.tmp 61), type := 0, pos := "law.go:113", after := #[{ on := 13, ground := Go.Ground.data }, { on := 11, ground := Go.Ground.data }, { on := 14, ground := Go.Ground.chain }, { on := 0, ground := Go.Ground.phase }, { on := 1, ground := Go.Ground.phase }, { on := 2, ground := Go.Ground.phase }, { on := 3, ground := Go.Ground.phase }, { on := 4, ground := Go.Ground.phase }, { on := 5, ground := Go.Ground.phase }, { on := 6, ground := Go.Ground.phase }, { on := 7, ground := Go.Ground.phase }, { on := 8, ground := Go.Ground.phase }, { on := 9, ground := Go.Ground.phase }, { on := 10, ground := Go.Ground.phase }, { on := 11, ground := Go.Ground.phase }, { on := 12, ground := Go.Ground.phase }, { on := 13, ground := Go.Ground.phase }, { on := 14, ground := Go.Ground.phase }], guard := none }) rfl (fun K hK => ?_) AllReadyH.nil
                obtain ⟨k0, k1, k2, f0, f1, f2⟩ := PB48.out.cells
                have PB49 := Lib.hid (PB48.out.store2 hb vb ob)
                go_simp
                refine hK.out _ _ ?_ (fun hHeld => ?_)
                · exact (PB49.out.pair.one.bel.cell (p := ⟨g, o + k, none⟩) hg).trans hck
                clear hK K PB48 k0 k1 k2 f0 f1 f2
                (try simp only [Act.put, List.setIfInBounds_toArray, List.set_cons_zero, List.set_cons_succ])
                generalize ((W48.setCell ⟨z13, 0, none⟩ (.bool hb)).setCell ⟨z13, 1, none⟩ (.string vb)).setCell ⟨z13, 2, none⟩ (.bool ob) = W49 at PB49 hHeld ⊢
                refine wpAnyH_done (by kernel_rfl) ?_ _
                refine NoPanic.normal ?_
                clear hHeld
                go_wp2_with fail
                go_meet
                exact ⟨_, _, _, _, rfl, rfl, PB49.out⟩
              · go_simp
                have PB50 := Lib.hid (PB45.out.alloc12)
                refine hK.out _ _ ?_ (fun hHeld => ?_)
                · exact (PB50.out.pair.one.bel.cell (p := ⟨g, o + k, none⟩) hg).trans hck
                clear hK K PB45
                (try simp only [Act.put, List.setIfInBounds_toArray, List.set_cons_zero, List.set_cons_succ])
                generalize W45.alloc (.cells #[.bool false, .string ⟨#[]⟩, .bool false] 34) = W50 at PB50 hHeld ⊢
                generalize W45.heap.size = z12 at PB50 ⊢
                refine wpAnyH_ready (rs := [11]) (by kernel_rfl) (by simp) ?_
                refine AllReadyH.cons (o := { dst := some 61, op := Go.Op.call { callee := Go.Callee.value (Go.Operand.func 14), args := #[Go.Operand.tmp 56, Go.Operand.tmp 60], argTypes := #[25, 9] }, type := 34, pos := "law.go:113", after := #[{ on := 6, ground := Go.Ground.data }, { on := 10, ground := Go.Ground.data }, { on := 5, ground := Go.Ground.chain }], guard := none }) rfl (fun K hK => ?_) AllReadyH.nil
                go_simp
                refine (V2.out _ _ PB50.out.pair.two.ca).mono ?_
                intro e W51 hp
                obtain ⟨rfl, T51, hPn⟩ := PB50.out.call2 hp
                have PB51 := Lib.hid hPn
                clear hp hPn
                go_wp2_with fail
                refine hK.out _ _ ?_ (fun hHeld => ?_)
                · exact (PB51.out.pair.one.bel.cell (p := ⟨g, o + k, none⟩) hg).trans hck
                clear hK K PB50
                (try simp only [Act.put, List.setIfInBounds_toArray, List.set_cons_zero, List.set_cons_succ])
                refine wpAnyH_ready (rs := [14]) (by kernel_rfl) (by simp) ?_
                refine AllReadyH.cons (o := { dst := none, op := Go.Op.store 34 (Go.Operand.tmp 10) (Go.Operand.tmp 55), type := 0, pos := "law.go:113", after := #[{ on := 12, ground := Go.Ground.data }, { on := 5, ground := Go.Ground.data }, { on := 11, ground := Go.Ground.chain }, { on := 0, ground := Go.Ground.phase }, { on := 1, ground := Go.Ground.phase }, { on := 2, ground := Go.Ground.phase }, { on := 3, ground := Go.Ground.phase }, { on := 4, ground := Go.Ground.phase }, { on := 5, ground := Go.Ground.phase }, { on := 6, ground := Go.Ground.textOnly Go.Departure.lateStores }, { on := 7, ground := Go.Ground.textOnly Go.Departure.lateStores }, { on := 8, ground := Go.Ground.textOnly Go.Departure.lateStores }, { on := 9, ground := Go.Ground.textOnly Go.Departure.lateStores }, { on := 10, ground := Go.Ground.textOnly Go.Departure.lateStores }, { on := 11, ground := Go.Ground.textOnly Go.Departure.lateStoresUnsure }, { on := 12, ground := Go.Ground.phase }, { on := 13, ground := Go.Ground.phase }], guard := none }) rfl (fun K hK => ?_) AllReadyH.nil
                obtain ⟨k0, k1, k2, f0, f1, f2⟩ := PB51.out.cells
                have PB52 := Lib.hid (PB51.out.store1 ha va oa)
                go_simp
                refine hK.out _ _ ?_ (fun hHeld => ?_)
                · exact (PB52.out.pair.one.bel.cell (p := ⟨g, o + k, none⟩) hg).trans hck
                clear hK K PB51 k0 k1 k2 f0 f1 f2
                (try simp only [Act.put, List.setIfInBounds_toArray, List.set_cons_zero, List.set_cons_succ])
                generalize ((W51.setCell ⟨z12, 0, none⟩ (.bool ha)).setCell ⟨z12, 1, none⟩ (.string va)).setCell ⟨z12, 2, none⟩ (.bool oa) = W52 at PB52 hHeld ⊢
                refine wpAnyH_ready (rs := [15]) (by kernel_rfl) (by simp) ?_
                refine AllReadyH.cons (o := { dst := none, op := Go.Op.store 34 (Go.Operand.tmp 11) (Go.Operand.tmp 61), type := 0, pos := "law.go:113", after := #[{ on := 13, ground := Go.Ground.data }, { on := 11, ground := Go.Ground.data }, { on := 14, ground := Go.Ground.chain }, { on := 0, ground := Go.Ground.phase }, { on := 1, ground := Go.Ground.phase }, { on := 2, ground := Go.Ground.phase }, { on := 3, ground := Go.Ground.phase }, { on := 4, ground := Go.Ground.phase }, { on := 5, ground := Go.Ground.phase }, { on := 6, ground := Go.Ground.phase }, { on := 7, ground := Go.Ground.phase }, { on := 8, ground := Go.Ground.phase }, { on := 9, ground := Go.Ground.phase }, { on := 10, ground := Go.Ground.phase }, { on := 11, ground := Go.Ground.phase }, { on := 12, ground := Go.Ground.phase }, { on := 13, ground := Go.Ground.phase }, { on := 14, ground := Go.Ground.phase }], guard := none }) rfl (fun K hK => ?_) AllReadyH.nil
                obtain ⟨k0, k1, k2, f0, f1, f2⟩ := PB52.out.cells
                have PB53 := Lib.hid (PB52.out.store2 hb vb ob)
                go_simp
                refine hK.out _ _ ?_ (fun hHeld => ?_)
                · exact (PB53.out.pair.one.bel.cell (p := ⟨g, o + k, none⟩) hg).trans hck
                clear hK K PB52 k0 k1 k2 f0 f1 f2
                (try simp only [Act.put, List.setIfInBounds_toArray, List.set_cons_zero, List.set_cons_succ])
                generalize ((W52.setCell ⟨z13, 0, none⟩ (.bool hb)).setCell ⟨z13, 1, none⟩ (.string vb)).setCell ⟨z13, 2, none⟩ (.bool ob) = W53 at PB53 hHeld ⊢
                refine wpAnyH_done (by kernel_rfl) ?_ _
                refine NoPanic.normal ?_
                clear hHeld
                go_wp2_with fail
                go_meet
                exact ⟨_, _, _, _, rfl, rfl, PB53.out⟩
            · go_simp
              have PB54 := Lib.hid (PB44.out.alloc12)
              refine hK.out _ _ ?_ (fun hHeld => ?_)
              · exact (PB54.out.pair.one.bel.cell (p := ⟨g, o + k, none⟩) hg).trans hck
              clear hK K PB44
              (try simp only [Act.put, List.setIfInBounds_toArray, List.set_cons_zero, List.set_cons_succ])
              generalize W44.alloc (.cells #[.bool false, .string ⟨#[]⟩, .bool false] 34) = W54 at PB54 hHeld ⊢
              generalize W44.heap.size = z12 at PB54 ⊢
              refine wpAnyH_ready (rs := [5]) (by kernel_rfl) (by simp) ?_
              refine AllReadyH.cons (o := { dst := some 55, op := Go.Op.call { callee := Go.Callee.value (Go.Operand.func 14), args := #[Go.Operand.tmp 50, Go.Operand.tmp 54], argTypes := #[25, 9] }, type := 34, pos := "law.go:113", after := #[{ on := 0, ground := Go.Ground.data }, { on := 4, ground := Go.Ground.data }], guard := none }) rfl (fun K hK => ?_) AllReadyH.nil
              go_simp
              refine (V1.out _ _ PB54.out.pair.one.ca).mono ?_
              intro e W55 hp
              obtain ⟨rfl, T55, hPn⟩ := PB54.out.call1 hp
              have PB55 := Lib.hid hPn
              clear hp hPn
              go_wp2_with fail
              refine hK.out _ _ ?_ (fun hHeld => ?_)
              · exact (PB55.out.pair.one.bel.cell (p := ⟨g, o + k, none⟩) hg).trans hck
              clear hK K PB54
              (try simp only [Act.put, List.setIfInBounds_toArray, List.set_cons_zero, List.set_cons_succ])
              refine wpAnyH_ready (rs := [11]) (by kernel_rfl) (by simp) ?_
              refine AllReadyH.cons (o := { dst := some 61, op := Go.Op.call { callee := Go.Callee.value (Go.Operand.func 14), args := #[Go.Operand.tmp 56, Go.Operand.tmp 60], argTypes := #[25, 9] }, type := 34, pos := "law.go:113", after := #[{ on := 6, ground := Go.Ground.data }, { on := 10, ground := Go.Ground.data }, { on := 5, ground := Go.Ground.chain }], guard := none }) rfl (fun K hK => ?_) AllReadyH.nil
              go_simp
              refine (V2.out _ _ PB55.out.pair.two.ca).mono ?_
              intro e W56 hp
              obtain ⟨rfl, T56, hPn⟩ := PB55.out.call2 hp
              have PB56 := Lib.hid hPn
              clear hp hPn
              go_wp2_with fail
              refine hK.out _ _ ?_ (fun hHeld => ?_)
              · exact (PB56.out.pair.one.bel.cell (p := ⟨g, o + k, none⟩) hg).trans hck
              clear hK K PB55
              (try simp only [Act.put, List.setIfInBounds_toArray, List.set_cons_zero, List.set_cons_succ])
              refine wpAnyH_ready (rs := [14]) (by kernel_rfl) (by simp) ?_
              refine AllReadyH.cons (o := { dst := none, op := Go.Op.store 34 (Go.Operand.tmp 10) (Go.Operand.tmp 55), type := 0, pos := "law.go:113", after := #[{ on := 12, ground := Go.Ground.data }, { on := 5, ground := Go.Ground.data }, { on := 11, ground := Go.Ground.chain }, { on := 0, ground := Go.Ground.phase }, { on := 1, ground := Go.Ground.phase }, { on := 2, ground := Go.Ground.phase }, { on := 3, ground := Go.Ground.phase }, { on := 4, ground := Go.Ground.phase }, { on := 5, ground := Go.Ground.phase }, { on := 6, ground := Go.Ground.textOnly Go.Departure.lateStores }, { on := 7, ground := Go.Ground.textOnly Go.Departure.lateStores }, { on := 8, ground := Go.Ground.textOnly Go.Departure.lateStores }, { on := 9, ground := Go.Ground.textOnly Go.Departure.lateStores }, { on := 10, ground := Go.Ground.textOnly Go.Departure.lateStores }, { on := 11, ground := Go.Ground.textOnly Go.Departure.lateStoresUnsure }, { on := 12, ground := Go.Ground.phase }, { on := 13, ground := Go.Ground.phase }], guard := none }) rfl (fun K hK => ?_) AllReadyH.nil
              obtain ⟨k0, k1, k2, f0, f1, f2⟩ := PB56.out.cells
              have PB57 := Lib.hid (PB56.out.store1 ha va oa)
              go_simp
              refine hK.out _ _ ?_ (fun hHeld => ?_)
              · exact (PB57.out.pair.one.bel.cell (p := ⟨g, o + k, none⟩) hg).trans hck
              clear hK K PB56 k0 k1 k2 f0 f1 f2
              (try simp only [Act.put, List.setIfInBounds_toArray, List.set_cons_zero, List.set_cons_succ])
              generalize ((W56.setCell ⟨z12, 0, none⟩ (.bool ha)).setCell ⟨z12, 1, none⟩ (.string va)).setCell ⟨z12, 2, none⟩ (.bool oa) = W57 at PB57 hHeld ⊢
              refine wpAnyH_ready (rs := [15]) (by kernel_rfl) (by simp) ?_
              refine AllReadyH.cons (o := { dst := none, op := Go.Op.store 34 (Go.Operand.tmp 11) (Go.Operand.tmp 61), type := 0, pos := "law.go:113", after := #[{ on := 13, ground := Go.Ground.data }, { on := 11, ground := Go.Ground.data }, { on := 14, ground := Go.Ground.chain }, { on := 0, ground := Go.Ground.phase }, { on := 1, ground := Go.Ground.phase }, { on := 2, ground := Go.Ground.phase }, { on := 3, ground := Go.Ground.phase }, { on := 4, ground := Go.Ground.phase }, { on := 5, ground := Go.Ground.phase }, { on := 6, ground := Go.Ground.phase }, { on := 7, ground := Go.Ground.phase }, { on := 8, ground := Go.Ground.phase }, { on := 9, ground := Go.Ground.phase }, { on := 10, ground := Go.Ground.phase }, { on := 11, ground := Go.Ground.phase }, { on := 12, ground := Go.Ground.phase }, { on := 13, ground := Go.Ground.phase }, { on := 14, ground := Go.Ground.phase }], guard := none }) rfl (fun K hK => ?_) AllReadyH.nil
              obtain ⟨k0, k1, k2, f0, f1, f2⟩ := PB57.out.cells
              have PB58 := Lib.hid (PB57.out.store2 hb vb ob)
              go_simp
              refine hK.out _ _ ?_ (fun hHeld => ?_)
              · exact (PB58.out.pair.one.bel.cell (p := ⟨g, o + k, none⟩) hg).trans hck
              clear hK K PB57 k0 k1 k2 f0 f1 f2
              (try simp only [Act.put, List.setIfInBounds_toArray, List.set_cons_zero, List.set_cons_succ])
              generalize ((W57.setCell ⟨z13, 0, none⟩ (.bool hb)).setCell ⟨z13, 1, none⟩ (.string vb)).setCell ⟨z13, 2, none⟩ (.bool ob) = W58 at PB58 hHeld ⊢
              refine wpAnyH_done (by kernel_rfl) ?_ _
              refine NoPanic.normal ?_
              clear hHeld
              go_wp2_with fail
              go_meet
              exact ⟨_, _, _, _, rfl, rfl, PB58.out⟩
        case rest =>
          clear PB0 V1 V2 h1
          obtain ⟨z, z', T, T2, rfl, rfl, hE⟩ := hcut
          generalize wc = wd at *
          have HE := Lib.hid hE
          obtain ⟨k0, k1, k2, _, _, _⟩ := hE.bx.six
          obtain ⟨l0, _, _, _, _, _⟩ := hE.bby.six
          have hkey := (hE.pair.one.bel.cell (p := ⟨g, o + k, none⟩) hg).trans hck
          have X1 := len_ca wd a T mo _ _ hE.pair.one.ca
          have X2 := len_ca wd a2 T2 mo2 _ _ hE.pair.two.ca
          have X3 := Lib.hid (show 0 < mo → Calls Try.prog 27 #[.pointer (some ⟨a, 0, none⟩), .string (S k)] wd (BoolPost true wd) from fun h => NZ.out h ▸ has_ca wd a T mo _ _ (S k) hE.pair.one.ca HSK.out)
          have X4 := Lib.hid (show oa = true → Calls Try.prog 27 #[.pointer (some ⟨a, 0, none⟩), .string va] wd (BoolPost false wd) from fun h => NY.out h ▸ has_ca wd a T mo _ _ va hE.pair.one.ca (NV.out h))
          have hle1 := hE.pair.one.ca.le
          have hle2 := hE.pair.two.ca.le
          obtain ⟨q1, hq1⟩ : ∃ q, q = (resI S mo (k + 1)).length := ⟨_, rfl⟩
          obtain ⟨q2, hq2⟩ : ∃ q, q = (resI S mo2 (k + 1)).length := ⟨_, rfl⟩
          rw [← hq1] at X1 hle1
          rw [← hq2] at X2 hle2
          have X1 := Lib.hid X1
          have X2 := Lib.hid X2
          have HQ1 := Lib.hid hq1
          have e2 : decide (mo < q1) = false := by simp; omega
          have e3 : decide (mo2 < q2) = false := by simp; omega
          clear hE hq1 hq2 hle2
          go_upto_region 14 with fail
          go_cut [103] (fun v W => v = .bool false ∧ W = wd)
          case first =>
            as_aux_lemma =>
            rcases HO.out with ⟨h0, rfl, rfl⟩ | ⟨h0, rfl, rfl⟩ | ⟨h0, rfl, rfl⟩ | ⟨h0, rfl, rfl⟩
            · have e4 : decide (0 < mo) = false := by simp; omega
              clear h0
              go_wp2_with fail
              refine X1.out.mono ?_
              rintro e wd ⟨rfl, rfl⟩
              go_wp2_with fail
              refine X2.out.mono ?_
              rintro e wd ⟨rfl, rfl⟩
              go_wp2_with fail
              go_meet
              exact ⟨rfl, rfl⟩
            · have e4 : decide (0 < mo) = true := by simpa using h0
              obtain rfl := NX.out rfl
              have X5 := Lib.hid (X3.out h0)
              clear h0
              go_wp2_with fail
              refine X1.out.mono ?_
              rintro e wd ⟨rfl, rfl⟩
              go_wp2_with fail
              refine X2.out.mono ?_
              rintro e wd ⟨rfl, rfl⟩
              go_wp2_with fail
              refine X5.out.mono ?_
              rintro e wd ⟨rfl, rfl⟩
              go_wp2_with fail
              go_meet
              exact ⟨rfl, rfl⟩
            · have e4 : decide (0 < mo) = true := by simpa using h0
              have X5 := Lib.hid (X3.out h0)
              clear h0
              go_wp2_with fail
              refine X1.out.mono ?_
              rintro e wd ⟨rfl, rfl⟩
              go_wp2_with fail
              refine X2.out.mono ?_
              rintro e wd ⟨rfl, rfl⟩
              go_wp2_with fail
              refine X5.out.mono ?_
              rintro e wd ⟨rfl, rfl⟩
              go_wp2_with fail
              go_meet
              exact ⟨rfl, rfl⟩
            · have e4 : decide (0 < mo) = true := by simpa using h0
              have X5 := Lib.hid (X3.out h0)
              have X6 := Lib.hid (X4.out rfl)
              clear h0
              go_wp2_with fail
              refine X1.out.mono ?_
              rintro e wd ⟨rfl, rfl⟩
              go_wp2_with fail
              refine X2.out.mono ?_
              rintro e wd ⟨rfl, rfl⟩
              go_wp2_with fail
              refine X5.out.mono ?_
              rintro e wd ⟨rfl, rfl⟩
              go_wp2_with fail
              refine X6.out.mono ?_
              rintro e wd ⟨rfl, rfl⟩
              go_wp2_with fail
              go_meet
              exact ⟨rfl, rfl⟩
          case rest =>
            obtain ⟨rfl, rfl⟩ := hcut
            clear X1 X2 X3 X4 e2 e3 k0 k1 k2 l0 hkey NX NY NZ NV HO
            go_wp2_with fail
            refine (keys_ca wc a T mo _ _ HE.out.pair.one.ca).mono ?_
            rintro e w5 ⟨v5, rfl, hO, hB⟩
            have P5 := Lib.hid (HE.out.pair.below hB)
            have M5 := Lib.hid (Mine.made hO HE.out.pair.one.ca)
            clear hO hB HE
            obtain ⟨A5, c5, rfl⟩ := M5.out.shape
            rw [← HQ1.out] at M5 ⊢
            go_wp2_with fail
            go_loop [13] (fun z => ∃ j : Nat, z = .int .i64 (j : Int) ∧ j ≤ q1) (fun z => q1 - (intOf z).toNat)
            case atStart => exact ⟨0, rfl, Nat.zero_le _⟩
            case round =>
              obtain ⟨j, rfl, hj⟩ := hrel
              by_cases hjq : j < q1
              · have e5 : decide (j < q1) = true := by simpa using hjq
                have hjl : j < (resI S mo (k + 1)).length := by rw [← HQ1.out]; exact hjq
                obtain ⟨gm, hRow, hgT⟩ := M5.out
                obtain ⟨o2, rfl, hg2, hx2, hcv, hcv2⟩ := hRow.at hjl
                rw [← HQ1.out] at hcv
                have hmem : (resI S mo (k + 1)).getD j ⟨#[]⟩ ∈ resI S mo (k + 1) := by rw [List.getD_eq_getElem?_getD, List.getElem?_eq_getElem hjl]; exact List.getElem_mem hjl
                have hsx := hRow.2.1 _ hmem
                have X7 := has_ca w5 a2 T2 mo2 _ _ _ P5.out.two.ca hsx
                rw [inn_iff.2 (resI_sub HMM.out hmem)] at X7
                generalize (resI S mo (k + 1)).getD j ⟨#[]⟩ = x at *
                have X7 := Lib.hid X7
                unfold maxLen at hcv2
                clear hRow hgT hmem hsx
                go_wp2_with fail
                refine X7.out.mono ?_
                rintro e w5 ⟨rfl, rfl⟩
                go_wp2_with fail
                go_round
                case rel => exact ⟨j + 1, by go_num, by omega⟩
                case measure => simp [intOf]; omega
              · have e5 : decide (j < q1) = false := by simpa using hjq
                go_wp2_with fail
                go_roundw
                case rel => exact ⟨k + 1, T, T2, by go_num, by omega, P5.out⟩
                case measure => simp [intOf]; omega
      · have e1 : decide (200 < ((S k).size : Int)) = true := by simp; omega
        go_wp2_with fail
        go_ret
        exact ⟨rfl, HP.out.one.bel⟩
    · have e0 : decide (k < n) = false := by simpa using hlt
      go_wp2_with fail
      go_ret
      exact ⟨rfl, HP.out.one.bel⟩

theorem walk_lruStack (a0 a1 : Int) (v2 : Value) (w : World) (w0 : (Lit.int .i64 a0).wf = true) (w1 : (Lit.int .i64 a1).wf = true) (w2 : CameS w v2) : Calls Try.prog 4 #[.int .i64 a0, .int .i64 a1, v2] w (RetB true w) := by
  obtain ⟨A, n, c, rfl, hn, S, hr, hc⟩ := w2
  have hz := i64_rng w0
  have hz1 := i64_rng w1
  have hn2 := hn
  unfold maxLen at hn2
  clear w0 w1
  by_cases hneg : a0 < 0
  · have e0 : decide (a0 < 0) = true := by simpa using hneg
    clear hr hc
    go_enter Try.func4, Try.ntmps4
    go_wp2_with fail
    refine (awake_any _).mono ?_
    rintro e w0 ⟨rfl, hb0⟩
    go_wp2_with fail
    go_ret
    exact ⟨rfl, hb0⟩
  · by_cases hle : a1 < a0
    · have e0 : decide (a0 < 0) = false := by simpa using hneg
      have e1 : decide (a1 < a0) = true := by simpa using hle
      clear hr hc
      go_enter Try.func4, Try.ntmps4
      go_wp2_with fail
      refine (awake_any _).mono ?_
      rintro e w0 ⟨rfl, hb0⟩
      go_wp2_with fail
      go_ret
      exact ⟨rfl, hb0⟩
    · by_cases hbig : n ≤ 200
      · obtain ⟨mo, rfl⟩ : ∃ m : Nat, a0 = (m : Int) := ⟨a0.toNat, by omega⟩
        obtain ⟨mo2, rfl⟩ : ∃ m : Nat, a1 = (m : Int) := ⟨a1.toNat, by omega⟩
        exact stack_main mo mo2 A n c w S (by omega) (by omega) hbig hr hc
      · have e0 : decide (a0 < 0) = false := by simpa using hneg
        have e1 : decide (a1 < a0) = false := by simpa using hle
        have e2 : decide (200 < (n : Int)) = true := by simp; omega
        clear hr hc
        go_enter Try.func4, Try.ntmps4
        go_wp2_with fail
        refine (awake_any _).mono ?_
        rintro e w0 ⟨rfl, hb0⟩
        go_wp2_with fail
        go_ret
        exact ⟨rfl, hb0⟩

namespace LLruStack
set_option maxRecDepth 100000 in
theorem lifted (os : Os) (started : os.Started) (H : Type) (enc : TypeId × Value → H) :
    ReturnsInHanded {} Try.checked os 4 .any (Rows.lruStackSpec.pre6 enc Try.prog Try.f4 Rows.lruStackRow.domain false) (Rows.lruStackSpec.post enc Try.prog Try.f4 false true false false) := by
  refine returnsInHanded_of_change (C := Try.checked) own started (by kernel_rfl) Try.func4
    (ChangeSpec.witness6 (enc := enc) (C := Try.checked) false ⟨#[], #[.int .i64 0, .int .i64 0, .slice none 0 0], []⟩ 8 (by kernel_rfl) (by kernel_rfl) (by kernel_rfl) (by kernel_rfl)) ?_
  intro W base args ds gs before hval0 hW _ _
  have hval : ∀ (j : Nat) t v, Try.f4.params[j]? = some t → args[j]? = some v → Value.okWide Try.prog W .any base t v := hval0
  have hW' := hW
  obtain ⟨p, q, hA0, hV, rfl, hfz, hnd⟩ := hW
  have hA : DataW.TrodAll enc Try.prog W 0 (fun _ => true) true Try.f4.params.toList args.toList ds p := hA0
  rw [Try.params4] at hA hval
  obtain ⟨v0, vs0, d0, ds0, p0, q0, hargs, rfl, rfl, h0, r0⟩ := trodAll_cons hA
  obtain ⟨v1, vs1, d1, ds1, p1, q1, rfl, rfl, rfl, h1, r1⟩ := trodAll_cons r0
  obtain ⟨v2, vs2, d2, ds2, p2, q2, rfl, rfl, rfl, h2, r2⟩ := trodAll_cons r1
  obtain ⟨rfl, rfl, rfl⟩ := trodAll_nil r2
  obtain rfl : args = #[v0, v1, v2] := by cases args; simp_all
  obtain ⟨rfl, rfl⟩ := trodVars_none hV
  obtain ⟨a0, rfl, rfl, rfl, w0⟩ := open_int Try.underlying3 (hval 0 3 v0 rfl rfl) h0
  obtain ⟨a1, rfl, rfl, rfl, w1⟩ := open_int Try.underlying3 (hval 1 3 v1 rfl rfl) h1
  have k2 := h2
  have lt2 : ∀ x ∈ p2, x.block < W.heap.size := by obtain ⟨m, hm⟩ := k2; exact DataW.trod_lt m _ _ _ hm
  have w2 := open_z (hval 2 27 v2 rfl rfl) h2
  clear hA0 hval0
  refine (walk_lruStack a0 a1 v2 W w0 w1 w2).mono fun e W' ⟨he, bel⟩ => ?_
  subst he
  exact ⟨_, rfl, _, _, _, [], _, [], hW', trodAll_mk1 (shut_bool Try.underlying4 _), (trodAll_cons_mk (shut_int Try.underlying3 w0) (trodAll_cons_mk (shut_int Try.underlying3 w1) (trodAll_cons_mk (Below.trod laidOut (by kernel_rfl) (of_decide_eq_true (by kernel_rfl)) k2 bel lt2) trodAll_mk0))), rfl, bel.frame _, fun h => by cases h⟩

theorem said : Rows.LruStackSaid :=
  OpenClaim.holds_of_wide 4 Try.f4 rfl rfl rfl rfl rfl rfl rfl ⟨rfl, rfl, rfl, rfl, rfl⟩ rfl rfl rfl rfl rfl (by kernel_rfl) Try.func4 (by kernel_rfl)
    (of_decide_eq_true (by kernel_rfl)) (by unfold Func.isWrapper; rw [if_neg (of_decide_eq_false (by kernel_rfl))]; exact ⟨rfl, rfl⟩)
    (fun os started H enc _ => lifted os started H enc)
#print axioms said
end LLruStack
end Go.Proofs.Ythbokiebnniifaa
