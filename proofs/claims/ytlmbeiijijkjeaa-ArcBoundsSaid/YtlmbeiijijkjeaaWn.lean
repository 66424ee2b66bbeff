/- What a request of a ghost leaves and tells, as plain lists. -/
import Derived.Test.YtlmbeiijijkjeaaWm
namespace Go.Proofs.Ytlmbeiijijkjeaa
open Go.RowKit Sg

theorem outs_in {R : Rw4} {p : Nat} {q : Bool} (h : Pre R) : ∀ {n : Nat}, n ≤ lenR R → ∀ x ∈ outs p q R n, (x ∈ cutn p q R n 2 ∨ x ∈ cutn p q R n 3) ∧ (x ∈ R 0 ∨ x ∈ R 1)
  | 0, _, x, hx => by cases hx
  | n + 1, hn, x, hx => by
    have c := cutn_ok (p := p) (q := q) h (n := n) (by omega)
    have hl := c.len
    have hpos : 0 < lenR (cutn p q R n) := by omega
    have d := cut1_ok (p := p) (q := q) c.pre hpos
    have hx : x ∈ outs p q R n ++ [lastKey (cutn p q R n (lv (cutn p q R n) p q))] := hx
    show (x ∈ cut1 p q (cutn p q R n) 2 ∨ x ∈ cut1 p q (cutn p q R n) 3) ∧ _
    rcases List.mem_append.1 hx with h1 | h1
    · obtain ⟨h2, h3⟩ := outs_in h (n := n) (by omega) x h1
      exact ⟨h2.imp (d.gh 2 (by omega) (by omega) x) (d.gh 3 (by omega) (by omega) x), h3⟩
    · rw [List.mem_singleton] at h1
      have h0 := lv_pos (p := p) (q := q) hpos
      have hxl : x ∈ cutn p q R n (lv (cutn p q R n) p q) := h1 ▸ last_mem h0
      refine ⟨?_, ?_⟩
      · rw [cut1_eq c.pre hpos]
        rcases lv_two (cutn p q R n) p q with e | e
        · rw [e] at h1 ⊢
          exact Or.inl (by rw [upd_same, ← h1]; exact List.mem_cons_self)
        · rw [e] at h1 ⊢
          exact Or.inr (by rw [upd_same, ← h1]; exact List.mem_cons_self)
      · have hr : ∀ m, m ≤ n → ∀ j, j < 2 → (cutn p q R m j).Sublist (R j) := fun m => by
          induction m with
          | zero => exact fun _ _ _ => List.Sublist.refl _
          | succ m ih =>
            intro hm j hj
            have cm := cutn_ok (p := p) (q := q) h (n := m) (by omega)
            have cl := cm.len
            show (cut1 p q (cutn p q R m) j).Sublist (R j)
            rw [cut1_eq cm.pre (by omega), upd_ne (by omega)]
            by_cases e : j = lv (cutn p q R m) p q
            · rw [e, upd_same, ← e]
              exact (List.dropLast_sublist _).trans (ih (by omega) j hj)
            · rw [upd_ne e]; exact ih (by omega) j hj
        rcases lv_two (cutn p q R n) p q with e | e
        · rw [e] at hxl
          exact Or.inl ((hr n (Nat.le_refl _) 0 (by omega)).subset hxl)
        · rw [e] at hxl
          exact Or.inr ((hr n (Nat.le_refl _) 1 (by omega)).subset hxl)
theorem vic_in {vs : List ByteArray} (h : (!vs.isEmpty) = true) : vicOf vs ∈ vs := by
  have hn : vs ≠ [] := fun e => by rw [e] at h; cases h
  unfold vicOf
  rw [if_neg hn]
  exact last_mem (List.length_pos_iff.2 hn)
section
variable {s : St} {k : ByteArray}
theorem ghost_hit (h : Ok s) (hk : k ∈ s.R 2 ∨ k ∈ s.R 3) : hit s.R k = false := by
  rw [hit_no]
  rcases hk with hk | hk
  · exact ⟨fun hx => by have := h.pre.dis 0 2 (by omega) (by omega) k hx hk; omega, fun hx => by have := h.pre.dis 1 2 (by omega) (by omega) k hx hk; omega⟩
  · exact ⟨fun hx => by have := h.pre.dis 0 3 (by omega) (by omega) k hx hk; omega, fun hx => by have := h.pre.dis 1 3 (by omega) (by omega) k hx hk; omega⟩
theorem back_one (h : Ok s) (hk : k ∈ s.R 2 ∨ k ∈ s.R 3) (p : Nat) (q : Bool) : ∀ x ∈ outs p q s.R (lenR s.R - (s.mo - 1)), inn (ghL (putR (cutn p q s.R (lenR s.R - (s.mo - 1))) k 1)) x = true := by
  intro x hx
  obtain ⟨h1, h2⟩ := outs_in h.pre (by omega) x hx
  have hne : x ≠ k := fun e => by
    have := hit_no.1 (ghost_hit h hk)
    subst e
    exact h2.elim this.1 this.2
  rw [inn_iff]
  unfold ghL
  rw [put_ne (by omega), put_ne (by omega), List.mem_append]
  exact h1.imp (fun h => rem_mem.2 ⟨h, hne⟩) fun h => rem_mem.2 ⟨h, hne⟩
/-- A ghost that is asked for. -/
theorem back_all (h : Ok s) (hm : s.mo ≠ 0) (hk : k ∈ s.R 2 ∨ k ∈ s.R 3) : ∃ v o, s.step k = .agg #[.bool false, .string v, .bool o] ∧ (o = true → inn (ghL (s.req k).R) v = true) ∧ hit (s.req k).R k = true ∧ inn (ghL (s.req k).R) k = false ∧
    (keysL (s.req k).R).getD ((keysL (s.req k).R).length - 1) ⟨#[]⟩ = k ∧ 0 < (keysL (s.req k).R).length := by
  have hh := ghost_hit h hk
  have nh : ¬ hit s.R k = true := by rw [hh]; simp
  have fin : ∀ p q, s.req k = ⟨s.mo, p, putR (cutn p q s.R (lenR s.R - (s.mo - 1))) k 1⟩ → s.vs k = outs p q s.R (lenR s.R - (s.mo - 1)) → ∃ v o, s.step k = .agg #[.bool false, .string v, .bool o] ∧ (o = true → inn (ghL (s.req k).R) v = true) ∧ hit (s.req k).R k = true ∧ inn (ghL (s.req k).R) k = false ∧
      (keysL (s.req k).R).getD ((keysL (s.req k).R).length - 1) ⟨#[]⟩ = k ∧ 0 < (keysL (s.req k).R).length := fun p q e1 e2 => by
    refine ⟨vicOf (s.vs k), !(s.vs k).isEmpty, by unfold St.step; rw [hh], fun ho => ?_, ?_⟩
    · rw [e1]
      have := vic_in ho
      rw [e2] at this ⊢
      exact back_one h hk p q _ this
    · rw [e1]
      refine ⟨put_hit _ _ 1 (by omega), ?_, last_put _ _, keysL_pos _ _⟩
      rw [inn_no]
      show k ∉ putR _ k 1 2 ++ putR _ k 1 3
      rw [put_ne (by omega), put_ne (by omega), List.mem_append]
      exact fun hx => hx.elim rem_not rem_not
  cases h2 : inn (s.R 2) k with
  | true =>
    exact fin (rpU s.mo s.p s.R) false (by unfold St.req; rw [if_neg hm, if_neg nh, if_pos h2]) (by unfold St.vs; rw [if_neg hm, if_neg nh, if_pos h2])
  | false =>
    have n2 : ¬ inn (s.R 2) k = true := by rw [h2]; simp
    have h3 : inn (s.R 3) k = true := by
      rw [inn_iff]
      exact hk.resolve_left (inn_no.1 h2)
    exact fin (lpU s.p s.R) true (by unfold St.req; rw [if_neg hm, if_neg nh, if_neg n2, if_pos h3]) (by unfold St.vs; rw [if_neg hm, if_neg nh, if_neg n2, if_pos h3])
theorem back_b1 (h : Ok s) (hm : s.mo ≠ 0) (hk : k ∈ s.R 2) : s.p ≤ (s.req k).p ∧ (s.p < (s.req k).p ∨ s.p = s.mo) := by
  have hh := ghost_hit h (Or.inl hk)
  have nh : ¬ hit s.R k = true := by rw [hh]; simp
  have e : (s.req k).p = rpU s.mo s.p s.R := by unfold St.req; rw [if_neg hm, if_neg nh, if_pos (inn_iff.2 hk)]
  rw [e]
  have := h.pl
  unfold rpU
  omega
theorem back_b2 (h : Ok s) (hm : s.mo ≠ 0) (hk : k ∈ s.R 3) : (s.req k).p ≤ s.p ∧ ((s.req k).p < s.p ∨ s.p = 0) := by
  have hh := ghost_hit h (Or.inr hk)
  have nh : ¬ hit s.R k = true := by rw [hh]; simp
  have n2 : ¬ inn (s.R 2) k = true := fun hx => by have := h.pre.dis 2 3 (by omega) (by omega) k (inn_iff.1 hx) hk; omega
  have e : (s.req k).p = lpU s.p s.R := by unfold St.req; rw [if_neg hm, if_neg nh, if_neg n2, if_pos (inn_iff.2 hk)]
  rw [e]
  unfold lpU
  omega
end
theorem ghL_get {R : Rw4} {j : Nat} (h : j < (ghL R).length) : (j < (R 2).length → (ghL R).getD j ⟨#[]⟩ ∈ R 2) ∧ ((R 2).length ≤ j → (ghL R).getD j ⟨#[]⟩ ∈ R 3) := by
  unfold ghL at *
  rw [List.length_append] at h
  rw [List.getD_eq_getElem?_getD]
  refine ⟨fun h2 => ?_, fun h2 => ?_⟩
  · rw [List.getElem?_append_left h2, List.getElem?_eq_getElem h2]; exact List.getElem_mem h2
  · have h3 : j - (R 2).length < (R 3).length := by omega
    rw [List.getElem?_append_right h2, List.getElem?_eq_getElem h3]; exact List.getElem_mem h3
end Go.Proofs.Ytlmbeiijijkjeaa
