/- The reference's Request, held against the state. -/
import Derived.Test.YtmnflcidcoejiaaQn
namespace Go.Proofs.Ytmnflcidcoejiaa
open Go.RowKit Sg

theorem prom_rows {s : St} {k : ByteArray} (hk : k ∉ s.all) (hf : ∀ x ∈ s.A, s.f x = true) : (s.prom k).rN = agN s.t s.rN (⟨k, true, false⟩ :: s.rA) ∧ (s.prom k).rA = agA s.t (⟨k, true, false⟩ :: s.rA) ∧ (s.prom k).rG = s.rG := by
  unfold St.all at hk
  have e1 : (⟨k, true, false⟩ :: s.rA : List KE) = (k :: s.A).map tA := rfl
  rw [e1]
  refine ⟨?_, ?_, ?_⟩
  · unfold agN
    show ((k :: s.A).drop (mx s.t) ++ s.N).map (tN (tput s.f k)) = _
    rw [List.map_append, ← List.map_drop, List.map_map]
    congr 1
    · refine List.map_congr_left fun x hx => ?_
      have hx := List.mem_of_mem_drop hx
      have : tput s.f k x = true := by
        unfold tput
        rcases List.mem_cons.1 hx with h | h
        · rw [if_pos h]
        · split
          · rfl
          · exact hf x h
      show tN (tput s.f k) x = dmE (tA x)
      unfold tN dmE tA
      rw [this]
    · refine List.map_congr_left fun x hx => ?_
      have hne : x ≠ k := fun e => hk (List.mem_append_left _ (List.mem_append_right _ (e ▸ hx)))
      have : tput s.f k x = s.f x := if_neg hne
      unfold tN; rw [this]
  · unfold agA
    rw [← List.map_take]; rfl
  · refine List.map_congr_left fun x hx => ?_
    have hne : x ≠ k := fun e => hk (List.mem_append_right _ (e ▸ hx))
    have : tput s.f k x = s.f x := if_neg hne
    unfold tG
    show (⟨x, tput s.f k x, false⟩ : KE) = _
    rw [this]
theorem cut0_rows {s : St} {n : Nat} (hnd : s.all.Nodup) (h : s.A.length + s.N.length ≤ n) (hg : s.G.length ≤ s.mo) : (s.cut n).rN = s.rN ∧ (s.cut n).rA = s.rA ∧ (s.cut n).rG = s.rG := by
  obtain ⟨h1, h2, h3⟩ := cut_rows (n := n) hnd
  have h0 : gone n s.N s.A = 0 := by unfold gone; omega
  rw [h1, h2, h3]
  unfold cutN cutA cutQ
  rw [h0, Nat.sub_zero, Nat.sub_zero, List.take_length, List.take_of_length_le (by omega), List.drop_of_length_le (by rw [List.length_append]; omega), List.nil_append, List.take_of_length_le hg]
  exact ⟨rfl, rfl, rfl⟩
theorem cut1_rows {s : St} {n : Nat} (hnd : s.all.Nodup) (hf : ∀ x ∈ s.A, s.f x = true) (h : n + 1 = s.A.length + s.N.length) : (s.cut n).rN = g1N s.rN ∧ (s.cut n).rA = g1A s.rN s.rA ∧ (s.cut n).rG = evG s.mo s.rN s.rA s.rG ∧ (vK s.rN s.rA).s = lastKey (s.A ++ s.N) := by
  obtain ⟨h1, h2, h3⟩ := cut_rows (n := n) hnd
  obtain ⟨i1, i2, i3, _⟩ := evs_rows s.f s.mo n 1 s.N s.A s.G h hf
  have hne : s.A ++ s.N ≠ [] := fun e => by have := congrArg List.length e; rw [List.length_append] at this; simp only [List.length_nil] at this; omega
  rw [h1, h2, h3]
  refine ⟨i1.symm, i2.symm, i3.symm.trans ?_, (vK_map hne hf).1⟩
  show (evG s.mo s.rN s.rA s.rG).take s.mo = _
  unfold evG
  rw [List.take_take, Nat.min_self]
section
variable {s : St} {k : ByteArray}
theorem rN_len : s.rN.length = s.N.length := List.length_map _
theorem rA_len : s.rA.length = s.A.length := List.length_map _
theorem rG_len : s.rG.length = s.G.length := List.length_map _
theorem hit_rows : (isK s.rN k || isK s.rA k) = s.hit k := by
  unfold St.rN St.rA St.hit
  rw [isK_map (sN _), isK_map sA]
theorem nT_onN (h : inn s.N k = true) : nT s.mo s.t (fk s.rN k).d = (s.onN k).t := by
  unfold St.rN
  rw [fk_map (sN _) h]
  unfold nT St.onN upT tN
  show (if s.f k = true ∧ s.t < s.mo then s.t + 1 else s.t) = if s.f k = true then (if s.t < s.mo then s.t + 1 else s.t) else s.t
  cases s.f k <;> by_cases h : s.t < s.mo <;> simp [h]
theorem gT_onG (h : inn s.G k = true) : gT s.t true (fk s.rG k).o = (s.onG k).t := by
  unfold St.rG
  rw [fk_map (sG _) h]
  unfold gT St.onG dnT tG
  show (if true = true ∧ s.f k = false ∧ 1 < s.t then s.t - 1 else s.t) = if s.f k = true then s.t else (if 1 < s.t then s.t - 1 else s.t)
  cases s.f k <;> by_cases h : 1 < s.t <;> simp [h]
end
theorem CT.as {w w' : World} {P : Nat → Prop} {F F' : Value → Value} {mo mo' t t' : Nat} {N A G N' A' G' : List KE} {e : Ending} (h : CT w P F mo t N A G e w') (hF : F = F') (hm : mo = mo') (ht : t = t') (hN : N = N') (hA : A = A') (hG : G = G') : CT w P F' mo' t' N' A' G' e w' := by
  subst hF hm ht hN hA hG; exact h
/-- What a call of the reference leaves: the state's rows. -/
def CS (w : World) (P : Nat → Prop) (F : Value → Value) (s : St) (e : Ending) (w' : World) : Prop := CT w P F s.mo s.t s.rN s.rA s.rG e w'
section
variable (w : World) (P : Nat → Prop) (n a g : Sl) (s : St) (h : Rw w P n a g s.rN s.rA s.rG) (hP : Cl w P) (key : ByteArray) (hs : key.size ≤ maxLen) (hp : Ok s) (htop : s.mo ≤ 9223372036854775807) (htot : s.tot ≤ 1000)
include h hP hs hp htop htot
theorem request_ref : Calls Try.prog 12 #[rAgg s.mo s.t n a g, .string key] w (CS w P (fun v => .tuple #[v, s.step key]) (s.req key)) := by
  have hnd := hp.nd
  have hall := hnd
  unfold St.all at hnd
  have hle := hp.le
  have hgl := hp.gl
  have htl := hp.tl
  unfold St.tot at htot
  have l1 : s.rN.length + s.rA.length ≤ 1700 := by rw [rN_len, rA_len]; omega
  have l2 : s.rG.length ≤ 1700 := by rw [rG_len]; omega
  by_cases hm : s.mo = 0
  · have hA : s.A = [] := List.eq_nil_of_length_eq_zero (by omega)
    have hN : s.N = [] := List.eq_nil_of_length_eq_zero (by omega)
    have e2 : s.req key = s := by unfold St.req; rw [if_pos hm]
    have e1 : s.step key = stA false ⟨#[]⟩ false := by
      unfold St.step St.vic St.out St.hit
      rw [hA, hN]; simp [hm, inn]
    have hh : (isK s.rN key || isK s.rA key) = false := by rw [hit_rows]; unfold St.hit; rw [hA, hN]; rfl
    rw [e1, e2]
    exact rq_zero w P s.mo s.t n a g _ _ _ h hP key hm false hh
  cases hA : inn s.A key with
  | true =>
    have hN : inn s.N key = false := by
      rw [inn_no]; intro h2
      exact (List.nodup_append.1 (List.nodup_append.1 hnd).1).2.2 key (inn_iff.1 hA) key h2 rfl
    have e2 : s.req key = s.onA key := by unfold St.req; rw [if_neg hm, if_pos hA]
    have hhit : s.hit key = true := by unfold St.hit; rw [hA, hN]; rfl
    have e1 : s.step key = stA true ⟨#[]⟩ false := by
      unfold St.step St.vic St.out
      rw [hhit]; simp
    rw [e1, e2]
    refine (rq_A w P s.mo s.t n a g _ _ _ h hP key hm l1 true (by rw [hit_rows, hhit]) (by unfold St.rA; rw [isK_map sA]; exact hA)).mono fun e w' q => q.as rfl rfl rfl rfl ?_ rfl
    show fk s.rA key :: wo s.rA key = (key :: rem s.A key).map tA
    unfold St.rA
    rw [fk_map sA hA, wo_map sA]; rfl
  | false =>
  have kA : isK s.rA key = false := by unfold St.rA; rw [isK_map sA]; exact hA
  cases hN : inn s.N key with
  | true =>
    have e2 : s.req key = (s.onN key).prom key := by unfold St.req; rw [if_neg hm, if_neg (by rw [hA]; simp), if_pos hN]
    have hhit : s.hit key = true := by unfold St.hit; rw [hA, hN]; rfl
    have e1 : s.step key = stA true ⟨#[]⟩ false := by
      unfold St.step St.vic St.out
      rw [hhit]; simp
    have hk : key ∉ (s.onN key).all := by
      show key ∉ s.A ++ rem s.N key ++ s.G
      intro hx
      rcases List.mem_append.1 hx with hx | hx
      · rcases List.mem_append.1 hx with hx | hx
        · exact inn_no.1 hA hx
        · exact rem_not hx
      · exact (List.nodup_append.1 hnd).2.2 key (List.mem_append_right _ (inn_iff.1 hN)) key hx rfl
    obtain ⟨p1, p2, p3⟩ := prom_rows hk hp.fA
    rw [e1, e2]
    have hw : (s.onN key).rN = wo s.rN key := by unfold St.rN; rw [wo_map (sN _)]; rfl
    refine (rq_N w P s.mo s.t n a g _ _ _ h hP key hs hm htop l1 true (by rw [hit_rows, hhit]) kA (by unfold St.rN; rw [isK_map (sN _)]; exact hN)).mono fun e w' q => q.as rfl rfl (nT_onN hN) ?_ ?_ ?_
    · rw [p1, hw, nT_onN hN]; rfl
    · rw [p2, nT_onN hN]; rfl
    · rw [p3]; rfl
  | false =>
  have kN : isK s.rN key = false := by unfold St.rN; rw [isK_map (sN _)]; exact hN
  have hhit : s.hit key = false := by unfold St.hit; rw [hA, hN]; rfl
  have hh : (isK s.rN key || isK s.rA key) = false := by rw [hit_rows, hhit]
  have hwG : wo s.rG key = (rem s.G key).map (tG s.f) := by unfold St.rG; rw [wo_map (sG _)]
  cases hG : inn s.G key with
  | true =>
    have e2 : s.req key = ((s.onG key).cut (s.mo - 1)).prom key := by unfold St.req; rw [if_neg hm, if_neg (by rw [hA]; simp), if_neg (by rw [hN]; simp), if_pos hG]
    have kG : isK s.rG key = true := by unfold St.rG; rw [isK_map (sG _)]; exact hG
    have ha1 : (s.onG key).all = s.A ++ s.N ++ rem s.G key := rfl
    have nd1 : (s.onG key).all.Nodup := by rw [ha1]; exact hnd.sublist (List.Sublist.append_left List.filter_sublist _)
    have hk1 : key ∉ (s.onG key).all := by
      rw [ha1]
      intro hx
      rcases List.mem_append.1 hx with hx | hx
      · rcases List.mem_append.1 hx with hx | hx
        · exact inn_no.1 hA hx
        · exact inn_no.1 hN hx
      · exact rem_not hx
    have hk2 : key ∉ ((s.onG key).cut (s.mo - 1)).all := fun hx => hk1 ((cut_sub (s.onG key) (s.mo - 1)).subset hx)
    have hf2 : ∀ x ∈ ((s.onG key).cut (s.mo - 1)).A, ((s.onG key).cut (s.mo - 1)).f x = true := fun x hx => by
      rw [tcut_keep nd1 (List.mem_append_left _ (List.mem_append_left _ hx))]
      exact hp.fA x (List.mem_of_mem_take hx)
    obtain ⟨p1, p2, p3⟩ := prom_rows hk2 hf2
    have hg1 : (s.onG key).rG = wo s.rG key := hwG.symm
    rw [e2]
    by_cases hf : s.mo ≤ s.A.length + s.N.length
    · obtain ⟨c1, c2, c3, c4⟩ := cut1_rows (s := s.onG key) (n := s.mo - 1) nd1 hp.fA (show s.mo - 1 + 1 = s.A.length + s.N.length by omega)
      have e1 : s.step key = stA false (vK s.rN s.rA).s true := by
        have hc4 : (vK s.rN s.rA).s = lastKey (s.A ++ s.N) := c4
        unfold St.step St.vic St.out
        rw [hhit, hc4]; simp [hm, hf]
      rw [e1]
      refine (rq_ghost_full w P s.mo s.t n a g _ _ _ h hP key hs hm htop (by omega) l1 l2 false hh kA kN kG (by rw [rN_len, rA_len]; omega)).mono fun e w' q => q.as rfl rfl (gT_onG hG) ?_ ?_ ?_
      · rw [p1, c1, c2, gT_onG hG]; rfl
      · rw [p2, c2, gT_onG hG]; rfl
      · rw [p3, c3, hg1]; rfl
    · obtain ⟨c1, c2, c3⟩ := cut0_rows (s := s.onG key) (n := s.mo - 1) nd1 (show s.A.length + s.N.length ≤ s.mo - 1 by omega) (Nat.le_trans (rem_le s.G key) hgl)
      have e1 : s.step key = stA false ⟨#[]⟩ false := by
        unfold St.step St.vic St.out
        rw [hhit]; simp [hf]
      rw [e1]
      refine (rq_ghost_room w P s.mo s.t n a g _ _ _ h hP key hs hm (by omega) l1 l2 false hh kA kN kG (by rw [rN_len, rA_len]; omega)).mono fun e w' q => q.as rfl rfl (gT_onG hG) ?_ ?_ ?_
      · rw [p1, c1, c2, gT_onG hG]; rfl
      · rw [p2, c2, gT_onG hG]; rfl
      · rw [p3, c3, hg1]
  | false =>
    have e2 : s.req key = (s.cut (s.mo - 1)).fr key := by unfold St.req; rw [if_neg hm, if_neg (by rw [hA]; simp), if_neg (by rw [hN]; simp), if_neg (by rw [hG]; simp)]
    have kG : isK s.rG key = false := by unfold St.rG; rw [isK_map (sG _)]; exact hG
    have hwg : wo s.rG key = s.rG := by rw [hwG, rem_none (inn_no.1 hG)]; rfl
    have hfk : s.f key = false := by
      cases hb : s.f key with
      | false => rfl
      | true =>
        rcases hp.fin key hb with h0 | h0
        · exact h0.elim
        · unfold St.all at h0
          rcases List.mem_append.1 h0 with hx | hx
          · rcases List.mem_append.1 hx with hx | hx
            · exact absurd hx (inn_no.1 hA)
            · exact absurd hx (inn_no.1 hN)
          · exact absurd hx (inn_no.1 hG)
    have hfr : ((s.cut (s.mo - 1)).fr key).rN = ⟨key, false, false⟩ :: (s.cut (s.mo - 1)).rN := by
      show tN (tcut s.f _) key :: _ = _
      have : tcut s.f ((cutQ (s.mo - 1) s.N s.A s.G).drop s.mo) key = false := by unfold tcut; rw [hfk]; rfl
      unfold tN
      rw [this]; rfl
    rw [e2]
    by_cases hf : s.mo ≤ s.A.length + s.N.length
    · obtain ⟨c1, c2, c3, c4⟩ := cut1_rows (s := s) (n := s.mo - 1) hall hp.fA (show s.mo - 1 + 1 = s.A.length + s.N.length by omega)
      have e1 : s.step key = stA false (vK s.rN s.rA).s true := by
        unfold St.step St.vic St.out
        rw [hhit, c4]; simp [hm, hf]
      rw [e1]
      refine (rq_new_full w P s.mo s.t n a g _ _ _ h hP key hs hm htop l1 l2 false hh kA kN kG (by rw [rN_len, rA_len]; omega)).mono fun e w' q => q.as rfl rfl rfl ?_ ?_ ?_
      · rw [hfr, c1]
      · exact c2.symm
      · rw [hwg]; exact c3.symm
    · obtain ⟨c1, c2, c3⟩ := cut0_rows (s := s) (n := s.mo - 1) hall (show s.A.length + s.N.length ≤ s.mo - 1 by omega) hgl
      have e1 : s.step key = stA false ⟨#[]⟩ false := by
        unfold St.step St.vic St.out
        rw [hhit]; simp [hf]
      rw [e1]
      refine (rq_new_room w P s.mo s.t n a g _ _ _ h hP key hs hm l1 l2 false hh kA kN kG (by rw [rN_len, rA_len]; omega)).mono fun e w' q => q.as rfl rfl rfl ?_ ?_ ?_
      · rw [hfr, c1]
      · exact c2.symm
      · rw [hwg]; exact c3.symm
end
end Go.Proofs.Ytmnflcidcoejiaa
