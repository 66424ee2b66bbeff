/- The contracts of the reference's names, Keys, Ghosts, Remove, New. -/
import Derived.Test.YtmnflcidcoejiaaQj
namespace Go.Proofs.Ytmnflcidcoejiaa
open Go.RowKit Sg

def nm (L : List KE) : List ByteArray := (L.map KE.s).reverse
theorem nm_len (L : List KE) : (nm L).length = L.length := by simp [nm]
theorem nm_step {L : List KE} {k : Nat} {x : KE} (hx : L[k]? = some x) : nm (L.drop k) = nm (L.drop (k + 1)) ++ [x.s] := by
  obtain ⟨h, rfl⟩ := List.getElem?_eq_some_iff.1 hx
  unfold nm
  rw [List.drop_eq_getElem_cons h, List.map_cons, List.reverse_cons]
def NmR (w : World) (L : List KE) (v iz : Value) (W : World) : Prop := ∃ (j : Nat) (z : Int), iz = .int .i64 z ∧ z = (j : Int) - 1 ∧ j ≤ L.length ∧ Own W w.heap.size v (nm (L.drop j)) ∧ Below w.heap.size w W
set_option maxHeartbeats 1000000 in
theorem names_any (w : World) (P : Nat → Prop) (r : Sl) (L : List KE) (h : KW w P r L) (hl : L.length ≤ 1900) : Calls Try.prog 57 #[.slice r.A r.n r.c] w (RowPost (nm L) w) := by
  obtain ⟨A, n, c⟩ := r
  have hln := h.len
  simp only at hln ⊢
  have HH := Lib.hid h
  subst hln
  have hw0 : IntKind.i64.wrap ((L.length : Int) - 1) = (L.length : Int) - 1 := IntWalk.i64_in _ (by omega)
  clear h
  go_enter Try.func57, Try.ntmps57
  go_wp2_with fail
  clear hw0
  go_loopw [3, 4] (fun v i W => NmR w L v i W) (fun _ i _ => (intOf i + 1).toNat)
  case atStart => exact ⟨L.length, _, rfl, rfl, Nat.le_refl _, by rw [List.drop_length]; exact Own.nil _ _, Below.refl _ _⟩
  case round =>
    obtain ⟨j, z, rfl, hz, hj, hown, hbel⟩ := hrel
    have hsz := hbel.size
    cases j with
    | zero =>
      obtain rfl : z = -1 := by omega
      have HO := Lib.hid hown
      clear hown hz
      have e0 : decide ((0 : Int) ≤ -1) = false := rfl
      go_wp2_with fail
      go_ret
      exact ⟨_, rfl, HO.out, hbel⟩
    | succ k =>
      obtain rfl : z = (k : Int) := by omega
      have e0 : decide ((0 : Int) ≤ (k : Int)) = true := by simp
      have hlt : k < L.length := by omega
      have hx := List.getElem?_eq_getElem hlt
      obtain ⟨g, o, _, hA, hg, hc1, hc2, m0, m1, m2⟩ := (HH.out.below hbel).at hx
      simp only at hA hc1 hc2
      subst hA
      unfold maxLen at hc2
      have hsmall := HH.out.small _ (List.getElem_mem hlt)
      have hsn := nm_step hx
      generalize L[k] = x at m0 m1 m2 hsmall hx hsn
      have hw1 : IntKind.i64.wrap ((k : Int) - 1) = (k : Int) - 1 := IntWalk.i64_in _ (by omega)
      have hle : (nm (L.drop (k + 1))).length ≤ 1900 := by rw [nm_len, List.length_drop]; omega
      obtain ⟨g2, cap, w2, hrun, hown2, hg2⟩ := app_str hown x.s hsmall (by omega) hsz
      have hbel2 := hbel.grown hg2 hsz (fun k hk => (hown.1.lt k hk).1)
      rw [← hsn] at hown2
      have HRUN := Lib.hid hrun
      have HOWN := Lib.hid hown2
      have HB := Lib.hid hbel2
      obtain ⟨Av, cv, rfl⟩ := hown.len
      clear hsn hown hrun hown2 hbel2 hg2 hx hz
      go_wp2_with (at_builtin; refine wpList_append_run rfl _ _ _ rfl _ _ _ _ rfl rfl HRUN.out ?_)
      go_roundw
      case rel => exact ⟨k, _, rfl, rfl, by omega, HOWN.out, HB.out⟩
      case measure => simp only [intOf]; omega
section
variable (w : World) (P : Nat → Prop) (mo t : Nat) (n a g : Sl) (N A G : List KE) (h : Rw w P n a g N A G)
include h
set_option maxHeartbeats 2000000 in
theorem keys_r (hl : N.length + A.length ≤ 1700) : Calls Try.prog 26 #[rAgg mo t n a g] w (RowPost (nm N ++ nm A) w) := by
  have hb := (Below.refl w.heap.size w).alloc (Nat.le_refl _) (rObj mo t n a g)
  have K0 := Lib.hid (show RB (w.alloc (rObj mo t n a g)) w.heap.size mo t n a g from heap_alloc_new _ _)
  have HR := Lib.hid (h.below hb)
  have HB := Lib.hid hb
  have hn : (nm N).length + (nm A).length ≤ 1700 := by rw [nm_len, nm_len]; exact hl
  clear h hb
  go_enter Try.func26, Try.ntmps26
  go_upto_region 1 with fail
  generalize w.alloc (rObj mo t n a g) = W at K0 HR HB ⊢
  obtain ⟨p, hp⟩ : ∃ p, w.heap.size = p := ⟨_, rfl⟩
  rw [hp] at K0 ⊢
  clear hp
  obtain ⟨_, _, c2, c3, _⟩ := (K0.out.below (below_drew _)).c
  have U := Lib.hid (names_any W.drew P n N (HR.out.below (below_drew _)).n (by omega))
  have V := Lib.hid (fun (w1 : World) (hb : Below W.drew.heap.size W.drew w1) => names_any w1 P a A (((HR.out.below (below_drew _)).below hb).a) (by omega))
  have C := Lib.hid (fun (w1 : World) (hb : Below W.drew.heap.size W.drew w1) => ((K0.out.below (below_drew _)).below hb).c)
  have WB := Lib.hid (show Below w.heap.size w W.drew from HB.out.trans ((below_drew W).mono HB.out.size))
  go_region_held3 (fun w' => w'.cell? ⟨p, 2, none⟩ = some (.slice n.A n.n n.c) ∧ w'.cell? ⟨p, 3, none⟩ = some (.slice a.A a.n a.c)) (first | (with_reducible exact ⟨z6, z7⟩) | (with_reducible exact ⟨z4, z5⟩) | (with_reducible exact ⟨z2, z3⟩) | (with_reducible exact ⟨c2, c3⟩) | go_keep)
    (first
      | (go_at_call 57; refine U.out.mono ?_; rintro e w1 ⟨v1, rfl, hO1, hB1⟩; obtain ⟨_, _, z2, z3, _⟩ := C.out w1 hB1; have O1 := Lib.hid hO1; have B1 := Lib.hid hB1; clear hO1 hB1 U)
      | (go_at_call 57; refine (V.out w1 B1.out).mono ?_; rintro e w2 ⟨v2, rfl, hO2, hB2⟩; obtain ⟨_, _, z4, z5, _⟩ := C.out w2 (B1.out.trans (hB2.mono B1.out.size)); obtain ⟨v3, w3, hrun, hO3, hg3⟩ := app_all (O1.out.below hB2) hO2 (by omega) (Nat.le_trans B1.out.size hB2.size); have RUN := Lib.hid hrun; have O3 := Lib.hid hO3; have B3 := Lib.hid ((B1.out.trans (hB2.mono B1.out.size)).grown hg3 (Nat.le_trans B1.out.size hB2.size) (fun k hk => ((O1.out.below hB2).1.lt k hk).1)); obtain ⟨_, _, z6, z7, _⟩ := C.out w3 B3.out; clear hO2 hB2 hrun hO3 hg3 V O1 B1)
      | (refine step_append_run rfl _ _ _ rfl _ _ _ _ rfl rfl RUN.out ?_))
  all_goals
    go_wp2_with fail
    go_ret
    exact ⟨v3, rfl, O3.out.mono WB.out.size, WB.out.trans (B3.out.mono WB.out.size)⟩
end
def GhR (w : World) (L : List KE) (base : Nat) (l v iz : Value) (W : World) : Prop := ∃ j : Nat, iz = .int .i64 (j : Int) ∧ j ≤ L.length ∧ Own W base v ((nm L).take j).reverse ∧ Below base w W
section
variable (w : World) (P : Nat → Prop) (mo t : Nat) (n a g : Sl) (N A G : List KE) (h : Rw w P n a g N A G)
include h
set_option maxHeartbeats 2000000 in
theorem ghosts_r (hl : G.length ≤ 1700) (hnd : (G.map KE.s).Nodup) : Calls Try.prog 31 #[rAgg mo t n a g] w (RowPost (G.map KE.s) w) := by
  have hb := (Below.refl w.heap.size w).alloc (Nat.le_refl _) (rObj mo t n a g)
  have K0 := Lib.hid (show RB (w.alloc (rObj mo t n a g)) w.heap.size mo t n a g from heap_alloc_new _ _)
  have HR := Lib.hid (h.below hb)
  have HB := Lib.hid hb
  have HND := Lib.hid (show (nm G).Nodup from List.pairwise_reverse.2 (hnd.imp Ne.symm))
  have hgl := nm_len G
  clear h hb hnd
  go_enter Try.func31, Try.ntmps31
  go_upto_region 1 with fail
  generalize w.alloc (rObj mo t n a g) = W at K0 HR HB ⊢
  obtain ⟨p, hp⟩ : ∃ p, w.heap.size = p := ⟨_, rfl⟩
  rw [hp] at K0 ⊢
  obtain ⟨_, _, _, _, c4⟩ := K0.out.c
  have U := Lib.hid (names_any W P g G HR.out.g (by omega))
  have HP := Lib.hid hp
  clear hp
  go_wp2_with fail
  refine U.out.mono ?_
  rintro e w1 ⟨l, rfl, hO1, hB1⟩
  obtain ⟨gl, hgl2, hR1⟩ := hO1.row
  have RR := Lib.hid hR1
  have WB := Lib.hid (HB.out.trans (hB1.mono HB.out.size))
  obtain ⟨Al, cl, rfl⟩ := hR1.shape
  clear c4 U hO1 hB1 hgl2 hR1 K0 HR HB
  go_wp2_with fail
  go_loopw [3, 5] (fun v i W => ∃ j : Nat, i = .int .i64 (j : Int) ∧ j ≤ (nm G).length ∧ Own W w.heap.size v ((nm G).take j).reverse ∧ Below w1.heap.size w1 W) (fun _ i _ => (nm G).length - (intOf i).toNat)
  case atStart => exact ⟨0, rfl, Nat.zero_le _, Own.nil _ _, Below.refl _ _⟩
  case round =>
    obtain ⟨j, rfl, hj, hown, hbel⟩ := hrel
    have HO := Lib.hid hown
    have HBL := Lib.hid hbel
    by_cases hlt : j < (nm G).length
    · have e0 : decide (j < (nm G).length) = true := by simpa using hlt
      obtain ⟨o, hA, hg, m0, hc1, hc2⟩ := (RR.out.below hbel).at hlt
      subst hA
      unfold maxLen at hc2
      have hts := take_snoc (nm G) j ⟨#[]⟩ hlt
      have hsm : ((nm G).getD j ⟨#[]⟩).size ≤ maxLen := RR.out.2.1 _ (by rw [List.getD_eq_getElem?_getD, List.getElem?_eq_getElem hlt]; exact List.getElem_mem hlt)
      have hno : (nm G).getD j ⟨#[]⟩ ∉ ((nm G).take j).reverse := by
        have hnd := HND.out.sublist (List.take_sublist (j + 1) (nm G))
        rw [hts] at hnd
        rw [List.mem_reverse]
        exact fun hm => (List.nodup_append.1 hnd).2.2 _ hm _ (List.mem_singleton.2 rfl) rfl
      generalize (nm G).getD j ⟨#[]⟩ = x at hts hsm hno m0
      obtain ⟨g2, hg2, hR2⟩ := hown.row
      have U := Lib.hid (refFront_any _ g2 _ _ x hR2 (by rw [List.length_reverse, List.length_take]; omega) hsm)
      rw [rem_none hno, show x :: ((nm G).take j).reverse = ((nm G).take (j + 1)).reverse by rw [hts, List.reverse_append]; rfl] at U
      clear hts hsm hno hown hbel hR2 hg2
      go_wp2_with fail
      refine U.out.mono ?_
      rintro e w3 ⟨v3, rfl, hO3, hB3⟩
      have O3 := Lib.hid (hO3.mono (Nat.le_trans WB.out.size HBL.out.size))
      have B3 := Lib.hid (HBL.out.trans (hB3.mono HBL.out.size))
      clear hO3 hB3 U
      go_wp2_with fail
      go_roundw
      case rel => exact ⟨j + 1, by go_num, by omega, O3.out, B3.out⟩
      case measure => simp [intOf]; omega
    · have e0 : decide (j < (nm G).length) = false := by simpa using hlt
      have HJ := Lib.hid (show ((nm G).take j).reverse = G.map KE.s by rw [List.take_of_length_le (by omega)]; simp [nm])
      clear hown hbel
      go_wp2_with fail
      go_ret
      exact ⟨_, rfl, by rw [← HJ.out]; exact HO.out, WB.out.trans (HBL.out.mono WB.out.size)⟩
end
end Go.Proofs.Ytmnflcidcoejiaa
