/- The contract of the reference's again. -/
import Derived.Test.YtmnflcidcoejiaaQe
namespace Go.Proofs.Ytmnflcidcoejiaa
open Go.RowKit Sg

def dmE (e : KE) : KE := ⟨e.s, true, true⟩
def agN (t : Nat) (N A : List KE) : List KE := (A.drop (max t 1)).map dmE ++ N
def agA (t : Nat) (A : List KE) : List KE := A.take (max t 1)
/-- What the loop keeps: j keys left. -/
def AgR (w : World) (P : Nat → Prop) (p q mo t : Nat) (g : Sl) (N A1 G : List KE) (k : Nat) (W : World) : Prop :=
  ∃ (j : Nat) (n a : Sl), k = j - max t 1 ∧ 1 ≤ j ∧ j ≤ A1.length ∧ (j = A1.length ∨ max t 1 ≤ j) ∧ R2 w W P p q mo t n a g ((A1.drop j).map dmE ++ N) (A1.take j) G
theorem agR_end {w W : World} {P : Nat → Prop} {p q mo t j : Nat} {n a g : Sl} {N A1 G : List KE} (r : R2 w W P p q mo t n a g ((A1.drop j).map dmE ++ N) (A1.take j) G) (h1 : j = A1.length ∨ max t 1 ≤ j) (h2 : ¬ max t 1 < j) : R2 w W P p q mo t n a g (agN t N A1) (agA t A1) G := by
  unfold agN agA
  by_cases h : max t 1 = j
  · rw [h]; exact r
  · have hj : j = A1.length := by omega
    rw [List.drop_of_length_le (by omega), List.take_of_length_le (by omega)]
    rw [hj, List.drop_length, List.take_length] at r
    exact r
section
variable (w : World) (P : Nat → Prop) (mo t : Nat) (n a g : Sl) (N A G : List KE) (h : Rw w P n a g N A G) (hP : Cl w P)
include h hP
set_option maxHeartbeats 1000000 in
theorem again_r (s : ByteArray) (hs : s.size ≤ maxLen) (hl : N.length + A.length ≤ 1800) : Calls Try.prog 39 #[rAgg mo t n a g, .string s] w (CT w P id mo t (agN t N (⟨s, true, false⟩ :: A)) (agA t (⟨s, true, false⟩ :: A)) G) := by
  obtain ⟨A1, hA1⟩ : ∃ A1, A1 = (⟨s, true, false⟩ : KE) :: A := ⟨_, rfl⟩
  rw [← hA1]
  have HE := Lib.hid hA1
  clear hA1
  have R0 := Lib.hid (r2_start h hP mo t)
  clear h hP
  go_enter Try.func39, Try.ntmps39
  go_upto_region 1 with fail
  generalize (w.alloc (rObj mo t n a g)).alloc rZero = W at R0 ⊢
  generalize w.heap.size + 1 = q at R0 ⊢
  obtain ⟨p, hp⟩ : ∃ p, p = w.heap.size := ⟨_, rfl⟩
  have HPL := Lib.hid (show w.heap.size ≤ p from Nat.le_of_eq hp.symm)
  rw [← hp] at R0 ⊢
  clear hp
  obtain ⟨c0, c1, c2, c3, c4⟩ := R0.out.box.c
  have U := Lib.hid (front_k W (wi P p q) a A ⟨s, true, false⟩ R0.out.rows.a (by omega) hs R0.out.cl)
  go_wp2_with fail
  refine U.out.mono ?_
  rintro e W1 ⟨a1, rfl, k1, B1⟩
  have R1 := Lib.hid ((R0.out.below B1).setA k1)
  obtain ⟨_, _, _, d3, _⟩ := (R0.out.below B1).box.c
  obtain ⟨_, _, _, f3, _⟩ := (R0.out.below B1).box.f
  clear c0 c1 c2 c3 c4 k1 B1 R0 U
  go_wp2_with fail
  clear d3 f3
  generalize W1.setCell ⟨p, 3, none⟩ (.slice a1.A a1.n a1.c) = W2 at R1 ⊢
  have HL := Lib.hid (show N.length + ((⟨s, true, false⟩ : KE) :: A).length ≤ 1801 from by rw [List.length_cons]; omega)
  have HA1 : 1 ≤ ((⟨s, true, false⟩ : KE) :: A).length := by simp
  rw [← HE.out] at R1 HL HA1
  go_loopg [] (A1.length - max t 1) (fun k W => AgR w (wi P p q) p q mo t g N A1 G k W)
  case atStart => exact ⟨A1.length, n, a1, rfl, HA1, Nat.le_refl _, Or.inl rfl, by rw [List.drop_length, List.take_length]; exact R1.out⟩
  case round =>
    obtain ⟨j, n', a', rfl, hj1, hj, hlim, r⟩ := hrel
    have hlen := r.rows.a.len
    rw [List.length_take, Nat.min_eq_left hj] at hlen
    have RR := Lib.hid r
    have HJ := Lib.hid (And.intro hj1 (And.intro hj hlim))
    obtain ⟨c0, c1, c2, c3, c4⟩ := r.box.c
    obtain ⟨aA, an, ac⟩ := a'
    simp only at hlen
    subst hlen
    by_cases hc : max t 1 < j
    · have e0 : decide (t < j) = true := by simp; omega
      have e1 : decide ((1 : Int) < (j : Int)) = true := by simp; omega
      have e1' : decide (1 < j) = true := by simp; omega
      obtain ⟨m, hm⟩ : ∃ m, m = j - 1 := ⟨_, rfl⟩
      have hx : (A1.take j)[m]? = some (A1.getD m ⟨⟨#[]⟩, false, false⟩) := by
        rw [List.getElem?_take, if_pos (by omega), List.getD_eq_getElem?_getD, List.getElem?_eq_getElem (by omega)]; rfl
      have hdr : A1.drop m = A1.getD m ⟨⟨#[]⟩, false, false⟩ :: A1.drop j := by
        rw [List.drop_eq_getElem_cons (by omega), List.getD_eq_getElem?_getD, List.getElem?_eq_getElem (by omega), show m + 1 = j by omega]; rfl
      generalize A1.getD m ⟨⟨#[]⟩, false, false⟩ = x at hx hdr
      have hxs := r.rows.a.small x (List.mem_of_getElem? hx)
      obtain ⟨gb, o, _, hA, hg, hc1, hc2, m0, m1, m2⟩ := r.rows.a.at hx
      obtain ⟨a3, ha3, s1, s2, hk3⟩ := krow_to r.rows.a (p := m) (by show m ≤ j; omega)
      rw [List.take_take, Nat.min_eq_left (by omega)] at hk3
      simp only at hA hc1 s1 s2
      subst hA
      have hw1 : IntKind.i64.wrap ((j : Int) - 1) = (m : Int) := by have := r.rows.a.le; rw [List.length_take] at this; rw [IntWalk.i64_in _ (by omega)]; omega
      have hmn : m < j := by omega
      unfold maxLen at hc2
      have HM := Lib.hid hm
      have HC := Lib.hid hc
      have HD := Lib.hid hdr
      have HK := Lib.hid hk3
      have HX := Lib.hid hxs
      clear r hm hc hdr hk3 hxs hx ha3 hj1 hj hlim R1
      go_upto_region 4 with fail
      have Rb := Lib.hid (RR.out.below ((Below.refl wr.heap.size wr).alloc (Nat.le_refl _) (kObj x)))
      have KY := Lib.hid (show KBox (wr.alloc (kObj x)) wr.heap.size x from heap_alloc_new _ _)
      have K3 := Lib.hid (HK.out.below ((Below.refl wr.heap.size wr).alloc (Nat.le_refl _) (kObj x)))
      have nyp : wr.heap.size ≠ p := by have := RR.out.box.lt; omega
      clear c0 c1 c2 c3 c4 m0 m1 m2 hg RR HK
      generalize wr.alloc (kObj x) = W3 at Rb KY K3 ⊢
      generalize wr.heap.size = y at KY nyp ⊢
      obtain ⟨_, _, _, c3, _⟩ := Rb.out.box.c
      obtain ⟨_, _, _, f3, _⟩ := Rb.out.box.f
      have R4 := Lib.hid (Rb.out.setA K3.out)
      have KY4 := Lib.hid (KY.out.other (z := ⟨p, 3, none⟩) nyp (.slice a3.A a3.n a3.c))
      clear Rb K3 KY
      go_upto_region 5 with fail
      clear c3 f3
      generalize W3.setCell ⟨p, 3, none⟩ (.slice a3.A a3.n a3.c) = W4 at R4 KY4 ⊢
      obtain ⟨_, _, c2, _, _⟩ := R4.out.box.c
      obtain ⟨y0, _, _⟩ := KY4.out.c
      have U := Lib.hid (front_k W4 _ n' _ ⟨x.s, true, true⟩ R4.out.rows.n (by rw [List.length_append, List.length_map, List.length_drop]; have := HL.out; omega) HX.out R4.out.cl)
      go_wp2_with fail
      refine U.out.mono ?_
      rintro e W5 ⟨n5, rfl, k5, B5⟩
      have R5 := Lib.hid ((R4.out.below B5).setN k5)
      obtain ⟨_, _, d2, _, _⟩ := (R4.out.below B5).box.c
      obtain ⟨_, _, f2, _, _⟩ := (R4.out.below B5).box.f
      clear c2 y0 k5 B5 R4 U KY4
      go_wp2_with fail
      go_roundg (m - max t 1)
      case measure => have := HM.out; have := HC.out; omega
      case rel =>
        refine ⟨m, n5, a3, rfl, by have := HM.out; have := HC.out; omega, by have := HM.out; have := HJ.out.2.1; omega, Or.inr (by have := HM.out; have := HC.out; omega), ?_⟩
        rw [HD.out]
        exact R5.out
    · have RE := Lib.hid (agR_end r hlim hc)
      obtain ⟨⟨k0, k1, k2, k3, k4⟩, f0, f1, f2, f3, f4⟩ := r.ten
      have F := Lib.hid (RE.out.out (mo' := mo) (t' := t) RE.out.rows)
      by_cases h1 : t < j
      · have e0 : decide (t < j) = true := by simpa using h1
        have e1 : decide ((1 : Int) < (j : Int)) = false := by simp; omega
        have e1' : decide (1 < j) = false := by simp; omega
        clear r hc hlim h1 R1 RR
        go_wp2_with fail
        (try simp only [Exit.inBlock, Exit.then])
        refine bodyPost_ret (results_c rfl _ _ _ ⟨q, 0, none⟩ _ rfl (load_r F.out.1)) rfl ?_
        exact ⟨_, _, _, rfl, F.out.2.1, F.out.2.2⟩
      · have e0 : decide (t < j) = false := by simpa using h1
        clear r hc hlim h1 R1 RR
        go_wp2_with fail
        (try simp only [Exit.inBlock, Exit.then])
        refine bodyPost_ret (results_c rfl _ _ _ ⟨q, 0, none⟩ _ rfl (load_r F.out.1)) rfl ?_
        exact ⟨_, _, _, rfl, F.out.2.1, F.out.2.2⟩
end
end Go.Proofs.Ytmnflcidcoejiaa
