/- Arc: what its calls do to residents and ghosts (its rows' facts out of XWm, XWn, XWo, and the one form of XPf). -/
import Derived.Test.YtnlckkahkghneaaGreatDoorGAr
import Derived.Test.YtnlckkahkghneaaGreatDoorPf
namespace Go.Proofs.YtnlckkahkghneaaGreatDoor.AR
open Go.RowKit Sg

def keysL (R : Rw4) : List ByteArray := (R 1 ++ R 0).reverse
def ghL (R : Rw4) : List ByteArray := R 2 ++ R 3
theorem keysL_len (R : Rw4) : (keysL R).length = lenR R := by unfold keysL lenR; rw [List.length_reverse, List.length_append]; omega
theorem keysL_mem {R : Rw4} {x : ByteArray} : x ∈ keysL R ↔ hit R x = true := by
  unfold keysL
  rw [List.mem_reverse, List.mem_append, hit_iff]
  exact Or.comm
theorem keysL_put (R : Rw4) (k : ByteArray) : keysL (putR R k 1) = (rem (R 1) k ++ rem (R 0) k).reverse ++ [k] := by
  unfold keysL
  rw [put_at, put_ne (by omega), List.cons_append, List.reverse_cons]
theorem last_put (R : Rw4) (k : ByteArray) : (keysL (putR R k 1)).getD ((keysL (putR R k 1)).length - 1) ⟨#[]⟩ = k := by
  rw [keysL_put, List.length_append, List.length_cons, List.length_nil, List.getD_eq_getElem?_getD, Nat.zero_add, Nat.add_sub_cancel, List.getElem?_concat_length]; rfl
theorem keysL_pos (R : Rw4) (k : ByteArray) : 0 < (keysL (putR R k 1)).length := by rw [keysL_put, List.length_append]; simp
section
variable {s : St} {k : ByteArray}
theorem hit_req (hm : s.mo ≠ 0) (hh : hit s.R k = true) : s.req k = ⟨s.mo, s.p, putR s.R k 1⟩ ∧ s.step k = .agg #[.bool true, .string ⟨#[]⟩, .bool false] := by
  unfold St.req St.step St.vs
  rw [if_neg hm, if_pos hh, if_neg hm, if_pos hh, hh]
  exact ⟨rfl, rfl⟩
theorem hit_ghosts (h : Ok s) (hh : hit s.R k = true) : ghL (putR s.R k 1) = ghL s.R := by
  have no : ∀ j, 2 ≤ j → j < 4 → k ∉ s.R j := fun j h2 h4 hx => by
    rcases hit_iff.1 hh with hi | hi
    · have := h.pre.dis 0 j (by omega) h4 k hi hx; omega
    · have := h.pre.dis 1 j (by omega) h4 k hi hx; omega
  unfold ghL
  rw [put_ne (by omega), put_ne (by omega), rem_none (no 2 (by omega) (by omega)), rem_none (no 3 (by omega) (by omega))]
theorem hit_counts (h : Ok s) (hh : hit s.R k = true) : (putR s.R k 1 0).length + (putR s.R k 1 1).length = (s.R 0).length + (s.R 1).length ∧ (putR s.R k 1 0).length ≤ (s.R 0).length := by
  rw [put_at, put_ne (by omega), List.length_cons]
  rcases hit_iff.1 hh with hi | hi
  · have h1 := rem_len (h.pre.nd 0 (by omega)) hi
    have h2 : k ∉ s.R 1 := fun hx => by have := h.pre.dis 0 1 (by omega) (by omega) k hi hx; omega
    rw [rem_none h2]; omega
  · have h1 := rem_len (h.pre.nd 1 (by omega)) hi
    have h2 : k ∉ s.R 0 := fun hx => by have := h.pre.dis 0 1 (by omega) (by omega) k hx hi; omega
    rw [rem_none h2]; omega
theorem put_hit (R : Rw4) (k : ByteArray) (j : Nat) (hj : j < 2) : hit (putR R k j) k = true := by
  rw [hit_iff]
  obtain rfl | rfl : j = 0 ∨ j = 1 := by omega
  · exact Or.inl (by rw [put_at]; exact List.mem_cons_self)
  · exact Or.inr (by rw [put_at]; exact List.mem_cons_self)
/-- What was asked for is resident. -/
theorem req_in (hm : s.mo ≠ 0) (k : ByteArray) : hit (s.req k).R k = true := by
  unfold St.req
  rw [if_neg hm]
  split
  · exact put_hit _ _ 1 (by omega)
  split
  · exact put_hit _ _ 1 (by omega)
  split
  · exact put_hit _ _ 1 (by omega)
  · exact put_hit _ _ 0 (by omega)
end
theorem outs_in {R : Rw4} {p : Nat} {q : Bool} (h : Pre R) : ∀ {n : Nat}, n ≤ lenR R → ∀ x ∈ outs p q R n, (x ∈ cutn p q R n 2 ∨ x ∈ cutn p q R n 3) ∧ (x ∈ R 0 ∨ x ∈ R 1)
  | 0, _, x, hx => by cases hx
  | n + 1, hn, x, hx => by
    have c := cutn_ok (p := p) (q := q) h (n := n) (by omega)
    have hl := c.len
    have hpos : 0 < lenR (cutn p q R n) := by omega
    have d := cut1_ok (p := p) (q := q) c.pre hpos
    have hx : x ∈ outs p q R n ++ [lastKey (cutn p q R n (lv (cutn p q R n) p q))] := hx
    show (x ∈ cut1 p q (cutn p q R n) 2 ∨ x ∈ cut1 p q (cutn p q R n) 3) ∧ _
    rcases List.mem_append.1 hx with h1 | h1
    · obtain ⟨h2, h3⟩ := outs_in h (n := n) (by omega) x h1
      exact ⟨h2.imp (d.gh 2 (by omega) (by omega) x) (d.gh 3 (by omega) (by omega) x), h3⟩
    · rw [List.mem_singleton] at h1
      have h0 := lv_pos (p := p) (q := q) hpos
      have hxl : x ∈ cutn p q R n (lv (cutn p q R n) p q) := h1 ▸ last_mem h0
      refine ⟨?_, ?_⟩
      · rw [cut1_eq c.pre hpos]
        rcases lv_two (cutn p q R n) p q with e | e
        · rw [e] at h1 ⊢
          exact Or.inl (by rw [upd_same, ← h1]; exact List.mem_cons_self)
        · rw [e] at h1 ⊢
          exact Or.inr (by rw [upd_same, ← h1]; exact List.mem_cons_self)
      · have hr : ∀ m, m ≤ n → ∀ j, j < 2 → (cutn p q R m j).Sublist (R j) := fun m => by
          induction m with
          | zero => exact fun _ _ _ => List.Sublist.refl _
          | succ m ih =>
            intro hm j hj
            have cm := cutn_ok (p := p) (q := q) h (n := m) (by omega)
            have cl := cm.len
            show (cut1 p q (cutn p q R m) j).Sublist (R j)
            rw [cut1_eq cm.pre (by omega), upd_ne (by omega)]
            by_cases e : j = lv (cutn p q R m) p q
            · rw [e, upd_same, ← e]
              exact (List.dropLast_sublist _).trans (ih (by omega) j hj)
            · rw [upd_ne e]; exact ih (by omega) j hj
        rcases lv_two (cutn p q R n) p q with e | e
        · rw [e] at hxl
          exact Or.inl ((hr n (Nat.le_refl _) 0 (by omega)).subset hxl)
        · rw [e] at hxl
          exact Or.inr ((hr n (Nat.le_refl _) 1 (by omega)).subset hxl)
theorem vic_in {vs : List ByteArray} (h : (!vs.isEmpty) = true) : vicOf vs ∈ vs := by
  have hn : vs ≠ [] := fun e => by rw [e] at h; cases h
  unfold vicOf
  rw [if_neg hn]
  exact last_mem (List.length_pos_iff.2 hn)
section
variable {s : St} {k : ByteArray}
theorem ghost_hit (h : Ok s) (hk : k ∈ s.R 2 ∨ k ∈ s.R 3) : hit s.R k = false := by
  rw [hit_no]
  rcases hk with hk | hk
  · exact ⟨fun hx => by have := h.pre.dis 0 2 (by omega) (by omega) k hx hk; omega, fun hx => by have := h.pre.dis 1 2 (by omega) (by omega) k hx hk; omega⟩
  · exact ⟨fun hx => by have := h.pre.dis 0 3 (by omega) (by omega) k hx hk; omega, fun hx => by have := h.pre.dis 1 3 (by omega) (by omega) k hx hk; omega⟩
theorem back_one (h : Ok s) (hk : k ∈ s.R 2 ∨ k ∈ s.R 3) (p : Nat) (q : Bool) : ∀ x ∈ outs p q s.R (lenR s.R - (s.mo - 1)), inn (ghL (putR (cutn p q s.R (lenR s.R - (s.mo - 1))) k 1)) x = true := by
  intro x hx
  obtain ⟨h1, h2⟩ := outs_in h.pre (by omega) x hx
  have hne : x ≠ k := fun e => by
    have := hit_no.1 (ghost_hit h hk)
    subst e
    exact h2.elim this.1 this.2
  rw [inn_iff]
  unfold ghL
  rw [put_ne (by omega), put_ne (by omega), List.mem_append]
  exact h1.imp (fun h => rem_mem.2 ⟨h, hne⟩) fun h => rem_mem.2 ⟨h, hne⟩
/-- A ghost that is asked for. -/
theorem back_all (h : Ok s) (hm : s.mo ≠ 0) (hk : k ∈ s.R 2 ∨ k ∈ s.R 3) : ∃ v o, s.step k = .agg #[.bool false, .string v, .bool o] ∧ (o = true → inn (ghL (s.req k).R) v = true) ∧ hit (s.req k).R k = true ∧ inn (ghL (s.req k).R) k = false ∧
    (keysL (s.req k).R).getD ((keysL (s.req k).R).length - 1) ⟨#[]⟩ = k ∧ 0 < (keysL (s.req k).R).length := by
  have hh := ghost_hit h hk
  have nh : ¬ hit s.R k = true := by rw [hh]; simp
  have fin : ∀ p q, s.req k = ⟨s.mo, p, putR (cutn p q s.R (lenR s.R - (s.mo - 1))) k 1⟩ → s.vs k = outs p q s.R (lenR s.R - (s.mo - 1)) → ∃ v o, s.step k = .agg #[.bool false, .string v, .bool o] ∧ (o = true → inn (ghL (s.req k).R) v = true) ∧ hit (s.req k).R k = true ∧ inn (ghL (s.req k).R) k = false ∧
      (keysL (s.req k).R).getD ((keysL (s.req k).R).length - 1) ⟨#[]⟩ = k ∧ 0 < (keysL (s.req k).R).length := fun p q e1 e2 => by
    refine ⟨vicOf (s.vs k), !(s.vs k).isEmpty, by unfold St.step; rw [hh], fun ho => ?_, ?_⟩
    · rw [e1]
      have := vic_in ho
      rw [e2] at this ⊢
      exact back_one h hk p q _ this
    · rw [e1]
      refine ⟨put_hit _ _ 1 (by omega), ?_, last_put _ _, keysL_pos _ _⟩
      rw [inn_no]
      show k ∉ putR _ k 1 2 ++ putR _ k 1 3
      rw [put_ne (by omega), put_ne (by omega), List.mem_append]
      exact fun hx => hx.elim rem_not rem_not
  cases h2 : inn (s.R 2) k with
  | true =>
    exact fin (rpU s.mo s.p s.R) false (by unfold St.req; rw [if_neg hm, if_neg nh, if_pos h2]) (by unfold St.vs; rw [if_neg hm, if_neg nh, if_pos h2])
  | false =>
    have n2 : ¬ inn (s.R 2) k = true := by rw [h2]; simp
    have h3 : inn (s.R 3) k = true := by
      rw [inn_iff]
      exact hk.resolve_left (inn_no.1 h2)
    exact fin (lpU s.p s.R) true (by unfold St.req; rw [if_neg hm, if_neg nh, if_neg n2, if_pos h3]) (by unfold St.vs; rw [if_neg hm, if_neg nh, if_neg n2, if_pos h3])
end
section
variable {s : St} {k : ByteArray}
theorem new_gone (h : Ok s) (hm : s.mo ≠ 0) (hh : hit s.R k = false) (h2 : inn (s.R 2) k = false) (h3 : inn (s.R 3) k = false) :
    ∀ x ∈ s.vs k, hit (s.req k).R x = false := by
  intro x hx
  have n1 : ¬ hit s.R k = true := by rw [hh]; simp
  have n2 : ¬ inn (s.R 2) k = true := by rw [h2]; simp
  have n3 : ¬ inn (s.R 3) k = true := by rw [h3]; simp
  have e : s.req k = ⟨s.mo, s.p, putR (cutn s.p false (plR s.mo s.R) (lenR (plR s.mo s.R) - (s.mo - 1))) k 0⟩ := by unfold St.req; rw [if_neg hm, if_neg n1, if_neg n2, if_neg n3]
  have ev : s.vs k = plV s.mo s.R ++ outs s.p false (plR s.mo s.R) (lenR (plR s.mo s.R) - (s.mo - 1)) := by unfold St.vs; rw [if_neg hm, if_neg n1, if_neg n2, if_neg n3]
  rw [ev] at hx
  obtain ⟨p1, p2, p3, p4, p5⟩ := pl_ok h hm
  have hk0 := hit_no.1 hh
  rcases List.mem_append.1 hx with hx | hx
  · -- T1's last one, without a ghost
    unfold plV at hx
    by_cases c1 : (s.R 0).length + (s.R 2).length < s.mo
    · rw [if_pos c1] at hx; cases hx
    rw [if_neg c1] at hx
    by_cases c2 : (s.R 0).length < s.mo
    · rw [if_pos c2] at hx; cases hx
    rw [if_neg c2, List.mem_singleton] at hx
    have g1 := h.le
    have hpl : plR s.mo s.R = upd s.R 0 (s.R 0).dropLast := by unfold plR; rw [if_neg c1, if_neg c2]
    have hz : lenR (upd s.R 0 (s.R 0).dropLast) - (s.mo - 1) = 0 := by unfold lenR at *; simp [upd]; omega
    have hpos : 0 < (s.R 0).length := by omega
    have hxm : x ∈ s.R 0 := hx ▸ last_mem hpos
    have hne : x ≠ k := fun e => hk0.1 (e ▸ hxm)
    rw [e, hpl, hz]
    show hit (putR (upd s.R 0 (s.R 0).dropLast) k 0) x = false
    rw [hit_no, put_at, put_ne (by omega), upd_same, upd_ne (by omega)]
    refine ⟨fun hc => ?_, fun hc => ?_⟩
    · rcases List.mem_cons.1 hc with hc | hc
      · exact hne hc
      · have := (rem_mem.1 hc).1
        rw [hx] at this
        exact last_out (h.pre.nd 0 (by omega)) hpos this
    · have := h.pre.dis 0 1 (by omega) (by omega) x hxm (rem_mem.1 hc).1
      omega
  · obtain ⟨g1, g2⟩ := outs_in p1 (by omega) x hx
    have hne : x ≠ k := fun e => by
      subst e
      exact g2.elim (fun hc => hk0.1 ((p2 0 (by omega)).subset hc)) fun hc => hk0.2 ((p2 1 (by omega)).subset hc)
    have hok := h.req k
    refine ghost_hit hok ?_
    rw [e]
    show x ∈ putR _ k 0 2 ∨ x ∈ putR _ k 0 3
    rw [put_ne (by omega), put_ne (by omega)]
    exact g1.imp (fun h => rem_mem.2 ⟨h, hne⟩) fun h => rem_mem.2 ⟨h, hne⟩
theorem vic_gone (h : Ok s) (hm : s.mo ≠ 0) (ho : (!(s.vs k).isEmpty) = true) : hit s.R k = false ∧ hit (s.req k).R (vicOf (s.vs k)) = false := by
  have hv := vic_in ho
  cases hh : hit s.R k with
  | true =>
    have : s.vs k = [] := by unfold St.vs; rw [if_neg hm, if_pos hh]
    rw [this] at ho; cases ho
  | false =>
  refine ⟨rfl, ?_⟩
  have ghost : (k ∈ s.R 2 ∨ k ∈ s.R 3) → hit (s.req k).R (vicOf (s.vs k)) = false := fun hk => by
    obtain ⟨v, o, hst, hin, _⟩ := back_all h hm hk
    unfold St.step at hst
    injection hst with hst
    have e1 := congrArg (fun a : Array Value => a[1]?) hst
    have e2 := congrArg (fun a : Array Value => a[2]?) hst
    simp only [List.getElem?_toArray, List.getElem?_cons_succ, List.getElem?_cons_zero, Option.some.injEq, Value.string.injEq, Value.bool.injEq] at e1 e2
    rw [e1]
    rw [e2] at ho
    have := hin ho
    rw [inn_iff] at this
    exact ghost_hit (h.req k) (List.mem_append.1 this)
  cases h2 : inn (s.R 2) k with
  | true => exact ghost (Or.inl (inn_iff.1 h2))
  | false =>
  cases h3 : inn (s.R 3) k with
  | true => exact ghost (Or.inr (inn_iff.1 h3))
  | false => exact new_gone h hm hh h2 h3 _ hv
theorem vs_old (h : Ok s) (hm : s.mo ≠ 0) : ∀ x ∈ s.vs k, x ∈ s.R 0 ∨ x ∈ s.R 1 := by
  intro x hx
  unfold St.vs at hx
  rw [if_neg hm] at hx
  split at hx
  · cases hx
  split at hx
  · exact (outs_in h.pre (by omega) x hx).2
  split at hx
  · exact (outs_in h.pre (by omega) x hx).2
  obtain ⟨p1, p2, _⟩ := pl_ok h hm
  rcases List.mem_append.1 hx with hx | hx
  · unfold plV at hx
    split at hx
    · cases hx
    split at hx
    · cases hx
    · rename_i c2
      rw [List.mem_singleton] at hx
      exact Or.inl (hx ▸ last_mem (by omega))
  · exact (outs_in p1 (by omega) x hx).2.imp (fun hc => (p2 0 (by omega)).subset hc) fun hc => (p2 1 (by omega)).subset hc
end

theorem outs_len (p : Nat) (q : Bool) (R : Rw4) : ∀ n, (outs p q R n).length = n
  | 0 => rfl
  | n + 1 => by show (outs p q R n ++ [_]).length = _; rw [List.length_append, outs_len p q R n]; rfl
theorem cut1_stay {R : Rw4} {p : Nat} {q : Bool} (h : Pre R) (hl : 0 < lenR R) {x : ByteArray} (hx : x ∈ R 0 ∨ x ∈ R 1) : (x ∈ cut1 p q R 0 ∨ x ∈ cut1 p q R 1) ∨ x = lastKey (R (lv R p q)) := by
  have h0 := lv_pos (p := p) (q := q) hl
  have split : ∀ xs : List ByteArray, 0 < xs.length → x ∈ xs → x ∈ xs.dropLast ∨ x = lastKey xs := fun xs hp hm => by
    have hn : xs ≠ [] := fun e => by rw [e] at hp; exact Nat.lt_irrefl _ hp
    have e : xs.dropLast ++ [lastKey xs] = xs := by
      unfold lastKey
      rw [List.getLastD_eq_getLast?, List.getLast?_eq_some_getLast hn]
      exact List.dropLast_concat_getLast hn
    rw [← e] at hm
    rcases List.mem_append.1 hm with h | h
    · exact Or.inl h
    · exact Or.inr (List.mem_singleton.1 h)
  rw [cut1_eq h hl]
  rcases lv_two R p q with e | e <;> rw [e] at h0 ⊢
  · rcases hx with hx | hx
    · rcases split _ h0 hx with hs | hs
      · exact Or.inl (Or.inl (by rw [upd_ne (by omega), upd_same]; exact hs))
      · exact Or.inr hs
    · exact Or.inl (Or.inr (by rw [upd_ne (by omega), upd_ne (by omega)]; exact hx))
  · rcases hx with hx | hx
    · exact Or.inl (Or.inl (by rw [upd_ne (by omega), upd_ne (by omega)]; exact hx))
    · rcases split _ h0 hx with hs | hs
      · exact Or.inl (Or.inr (by rw [upd_ne (by omega), upd_same]; exact hs))
      · exact Or.inr hs
theorem cutn_stay {R : Rw4} {p : Nat} {q : Bool} (h : Pre R) : ∀ {n : Nat}, n ≤ lenR R → ∀ x, x ∈ R 0 ∨ x ∈ R 1 → (x ∈ cutn p q R n 0 ∨ x ∈ cutn p q R n 1) ∨ x ∈ outs p q R n
  | 0, _, _, hx => Or.inl hx
  | n + 1, hn, x, hx => by
    have c := cutn_ok (p := p) (q := q) h (n := n) (by omega)
    have hl := c.len
    show (x ∈ cut1 p q (cutn p q R n) 0 ∨ x ∈ cut1 p q (cutn p q R n) 1) ∨ x ∈ outs p q R n ++ [_]
    rcases cutn_stay h (n := n) (by omega) x hx with h1 | h1
    · rcases cut1_stay (p := p) (q := q) c.pre (by omega) h1 with h2 | h2
      · exact Or.inl h2
      · exact Or.inr (List.mem_append_right _ (by rw [h2]; exact List.mem_cons_self))
    · exact Or.inr (List.mem_append_left _ h1)
theorem cutn_sub {R : Rw4} {p : Nat} {q : Bool} (h : Pre R) : ∀ {n : Nat}, n ≤ lenR R → ∀ j, j < 2 → (cutn p q R n j).Sublist (R j)
  | 0, _, _, _ => List.Sublist.refl _
  | n + 1, hn, j, hj => by
    have c := cutn_ok (p := p) (q := q) h (n := n) (by omega)
    have hl := c.len
    show (cut1 p q (cutn p q R n) j).Sublist (R j)
    rw [cut1_eq c.pre (by omega), upd_ne (by omega)]
    by_cases e : j = lv (cutn p q R n) p q
    · rw [e, upd_same, ← e]; exact (List.dropLast_sublist _).trans (cutn_sub h (n := n) (by omega) j hj)
    · rw [upd_ne e]; exact cutn_sub h (n := n) (by omega) j hj
theorem keysL_in {R : Rw4} {x : ByteArray} : x ∈ keysL R ↔ x ∈ R 0 ∨ x ∈ R 1 := by rw [keysL_mem, hit_iff]
theorem inn_keys (R : Rw4) (k : ByteArray) : inn (keysL R) k = hit R k := by rw [Bool.eq_iff_iff, inn_iff, keysL_mem]
theorem put_keys {Q : Rw4} {k x : ByteArray} {j : Nat} (hj : j < 2) : x ∈ keysL (putR Q k j) ↔ x = k ∨ (x ≠ k ∧ (x ∈ Q 0 ∨ x ∈ Q 1)) := by
  rw [keysL_in]
  obtain rfl | rfl : j = 0 ∨ j = 1 := by omega
  · rw [put_at, put_ne (by omega), List.mem_cons, rem_mem, rem_mem]
    constructor
    · rintro ((h | h) | h)
      · exact Or.inl h
      · exact Or.inr ⟨h.2, Or.inl h.1⟩
      · exact Or.inr ⟨h.2, Or.inr h.1⟩
    · rintro (h | ⟨h, h1 | h1⟩)
      · exact Or.inl (Or.inl h)
      · exact Or.inl (Or.inr ⟨h1, h⟩)
      · exact Or.inr ⟨h1, h⟩
  · rw [put_at, put_ne (by omega), List.mem_cons, rem_mem, rem_mem]
    constructor
    · rintro (h | h | h)
      · exact Or.inr ⟨h.2, Or.inl h.1⟩
      · exact Or.inl h
      · exact Or.inr ⟨h.2, Or.inr h.1⟩
    · rintro (h | ⟨h, h1 | h1⟩)
      · exact Or.inr (Or.inl h)
      · exact Or.inl ⟨h1, h⟩
      · exact Or.inr (Or.inr ⟨h1, h⟩)
theorem put_count {Q : Rw4} {k : ByteArray} {j : Nat} (hj : j < 2) (h0 : k ∉ Q 0) (h1 : k ∉ Q 1) : lenR (putR Q k j) = lenR Q + 1 := by
  unfold lenR
  obtain rfl | rfl : j = 0 ∨ j = 1 := by omega
  · rw [put_at, put_ne (by omega), rem_none h0, rem_none h1, List.length_cons]; omega
  · rw [put_at, put_ne (by omega), rem_none h0, rem_none h1, List.length_cons]; omega
section
variable {s : St} {k : ByteArray}
/-- A miss: d go out of rows P (whose residents are s's but for who has gone already, D), the key comes. -/
theorem miss_f (h : Ok s) (hm : s.mo ≠ 0) (hh : hit s.R k = false) (P : Rw4) (D : List ByteArray) (p : Nat) (q : Bool) (j : Nat) (hj : j < 2) (hp : Pre P) (hsub : ∀ i, i < 2 → (P i).Sublist (s.R i)) (hD : ∀ x, x ∈ s.R 0 ∨ x ∈ s.R 1 → (x ∈ P 0 ∨ x ∈ P 1) ∨ x ∈ D) (hDl : lenR P + D.length = lenR s.R) (hD1 : D.length ≤ 1) (hD2 : D.length = 1 → s.mo ≤ lenR s.R)
    (er : s.req k = ⟨s.mo, (s.req k).p, putR (cutn p q P (lenR P - (s.mo - 1))) k j⟩) (ev : s.vs k = D ++ outs p q P (lenR P - (s.mo - 1))) :
    ReqF (keysL s.R) (keysL (s.req k).R) s.mo k (hit s.R k) (vicOf (s.vs k)) (!(s.vs k).isEmpty) := by
  have hle := h.le
  have hk := hit_no.1 hh
  have hvl : (s.vs k).length = D.length + (lenR P - (s.mo - 1)) := by rw [ev, List.length_append, outs_len]
  have c := cutn_ok (p := p) (q := q) hp (n := lenR P - (s.mo - 1)) (by omega)
  have hcl := c.len
  have hq0 : k ∉ cutn p q P (lenR P - (s.mo - 1)) 0 := fun hx => hk.1 ((hsub 0 (by omega)).subset ((cutn_sub hp (by omega) 0 (by omega)).subset hx))
  have hq1 : k ∉ cutn p q P (lenR P - (s.mo - 1)) 1 := fun hx => hk.2 ((hsub 1 (by omega)).subset ((cutn_sub hp (by omega) 1 (by omega)).subset hx))
  have hout : (!(s.vs k).isEmpty) = decide (s.mo ≤ lenR s.R) := by
    rw [Bool.eq_iff_iff, Bool.not_eq_true', List.isEmpty_eq_false_iff, ← List.length_pos_iff, decide_eq_true_eq, hvl]
    constructor
    · intro h1
      by_cases h2 : D.length = 1
      · exact hD2 h2
      · omega
    · intro h1; omega
  have hone : (s.vs k).length ≤ 1 := by rw [hvl]; omega
  refine ⟨(inn_keys _ _).symm, by rw [inn_keys, hh, keysL_len, hout]; rfl, fun ho => ⟨?_, ?_⟩, fun ho => ?_, keysL_mem.2 (req_in hm k), fun x hx => ?_, fun x hx => ?_, ?_⟩
  · exact keysL_in.2 (vs_old h hm _ (vic_in ho))
  · rw [keysL_mem, (vic_gone h hm ho).2]; simp
  · have : s.vs k = [] := by rwa [Bool.not_eq_false', List.isEmpty_iff] at ho
    rw [this]; rfl
  · have hxs := keysL_in.1 hx
    have hxk : x ≠ k := fun e => by subst e; exact hxs.elim hk.1 hk.2
    have key : x ∈ s.vs k → (!(s.vs k).isEmpty) = true ∧ x = vicOf (s.vs k) := fun hv => by
      have hp0 : 0 < (s.vs k).length := List.length_pos_of_mem hv
      have hv2 := hv
      obtain ⟨y, hy⟩ := List.length_eq_one_iff.1 (show (s.vs k).length = 1 by omega)
      rw [hy] at hv ⊢
      exact ⟨rfl, List.mem_singleton.1 hv⟩
    rcases hD x hxs with h1 | h1
    · rcases cutn_stay (p := p) (q := q) hp (n := lenR P - (s.mo - 1)) (by omega) x h1 with h2 | h2
      · rw [er]
        exact Or.inl ((put_keys hj).2 (Or.inr ⟨hxk, h2⟩))
      · exact Or.inr (key (by rw [ev]; exact List.mem_append_right _ h2))
    · exact Or.inr (key (by rw [ev]; exact List.mem_append_left _ h1))
  · rw [er] at hx
    rcases (put_keys hj).1 hx with h1 | ⟨_, h1⟩
    · exact Or.inr h1
    · refine Or.inl (keysL_in.2 (h1.imp (fun h2 => (hsub 0 (by omega)).subset ((cutn_sub hp (by omega) 0 (by omega)).subset h2)) fun h2 => (hsub 1 (by omega)).subset ((cutn_sub hp (by omega) 1 (by omega)).subset h2)))
  · rw [keysL_len, keysL_len, er, hh, hout]
    show lenR (putR (cutn p q P (lenR P - (s.mo - 1))) k j) = _
    rw [put_count hj hq0 hq1]
    by_cases h1 : s.mo ≤ lenR s.R
    · rw [decide_eq_true h1]; simp; omega
    · rw [decide_eq_false h1]; simp; omega
theorem req_f (h : Ok s) (hm : s.mo ≠ 0) (k : ByteArray) : ReqF (keysL s.R) (keysL (s.req k).R) s.mo k (hit s.R k) (vicOf (s.vs k)) (!(s.vs k).isEmpty) := by
  cases hh : hit s.R k with
  | true =>
    have ev : s.vs k = [] := by unfold St.vs; rw [if_neg hm, if_pos hh]
    obtain ⟨er, _⟩ := hit_req hm hh
    have hc := hit_counts h hh
    rw [ev, er]
    refine ⟨by rw [inn_keys, hh], by rw [inn_keys, hh]; rfl, fun ho => (by cases ho), fun _ => rfl, (put_keys (by omega)).2 (Or.inl rfl), fun x hx => Or.inl ?_, fun x hx => ?_, ?_⟩
    · by_cases e : x = k
      · exact (put_keys (by omega)).2 (Or.inl e)
      · exact (put_keys (by omega)).2 (Or.inr ⟨e, keysL_in.1 hx⟩)
    · exact ((put_keys (by omega)).1 hx).elim Or.inr fun h1 => Or.inl (keysL_in.2 h1.2)
    · rw [keysL_len, keysL_len]
      unfold lenR
      simp only [Bool.true_or, if_true]
      omega
  | false =>
  have nh : ¬ hit s.R k = true := by rw [hh]; simp
  have base := miss_f h hm hh s.R [] (hp := h.pre) (hsub := fun i _ => List.Sublist.refl _) (hD := fun x hx => Or.inl hx) (hDl := rfl) (hD1 := by simp) (hD2 := by simp)
  rw [hh] at base
  cases h2 : inn (s.R 2) k with
  | true => exact base (rpU s.mo s.p s.R) false 1 (by omega) (by unfold St.req; rw [if_neg hm, if_neg nh, if_pos h2]) (by unfold St.vs; rw [if_neg hm, if_neg nh, if_pos h2]; rfl)
  | false =>
  have n2 : ¬ inn (s.R 2) k = true := by rw [h2]; simp
  cases h3 : inn (s.R 3) k with
  | true => exact base (lpU s.p s.R) true 1 (by omega) (by unfold St.req; rw [if_neg hm, if_neg nh, if_neg n2, if_pos h3]) (by unfold St.vs; rw [if_neg hm, if_neg nh, if_neg n2, if_pos h3]; rfl)
  | false =>
  have n3 : ¬ inn (s.R 3) k = true := by rw [h3]; simp
  obtain ⟨p1, p2, p3, p4, p5⟩ := pl_ok h hm
  have hle := h.le
  have er : s.req k = ⟨s.mo, (s.req k).p, putR (cutn s.p false (plR s.mo s.R) (lenR (plR s.mo s.R) - (s.mo - 1))) k 0⟩ := by unfold St.req; rw [if_neg hm, if_neg nh, if_neg n2, if_neg n3]
  have ev : s.vs k = plV s.mo s.R ++ outs s.p false (plR s.mo s.R) (lenR (plR s.mo s.R) - (s.mo - 1)) := by unfold St.vs; rw [if_neg hm, if_neg nh, if_neg n2, if_neg n3]
  have hb := miss_f h hm hh (plR s.mo s.R) (plV s.mo s.R) s.p false 0 (by omega) p1 (fun i hi => p2 i (by omega))
  rw [hh] at hb
  refine hb ?_ ?_ ?_ ?_ er ev
  · intro x hx
    unfold plR plV
    by_cases c1 : (s.R 0).length + (s.R 2).length < s.mo
    · rw [if_pos c1, if_pos c1]
      by_cases c2 : 2 * s.mo ≤ totR s.R
      · rw [if_pos c2, upd_ne (by omega), upd_ne (by omega)]; exact Or.inl hx
      · rw [if_neg c2]; exact Or.inl hx
    · rw [if_neg c1, if_neg c1]
      by_cases c2 : (s.R 0).length < s.mo
      · rw [if_pos c2, if_pos c2, upd_ne (by omega), upd_ne (by omega)]; exact Or.inl hx
      · rw [if_neg c2, if_neg c2, upd_same, upd_ne (by omega)]
        have hn : s.R 0 ≠ [] := fun e => by rw [e] at c2; simp at c2; omega
        rcases hx with hx | hx
        · have e : (s.R 0).dropLast ++ [lastKey (s.R 0)] = s.R 0 := by
            unfold lastKey
            rw [List.getLastD_eq_getLast?, List.getLast?_eq_some_getLast hn]
            exact List.dropLast_concat_getLast hn
          rw [← e] at hx
          rcases List.mem_append.1 hx with hx | hx
          · exact Or.inl (Or.inl hx)
          · exact Or.inr hx
        · exact Or.inl (Or.inr hx)
  · unfold plR plV lenR at *
    by_cases c1 : (s.R 0).length + (s.R 2).length < s.mo
    · rw [if_pos c1, if_pos c1]
      by_cases c2 : 2 * s.mo ≤ totR s.R
      · rw [if_pos c2]; simp [upd]
      · rw [if_neg c2]; rfl
    · rw [if_neg c1, if_neg c1]
      by_cases c2 : (s.R 0).length < s.mo
      · rw [if_pos c2, if_pos c2]; simp [upd]
      · rw [if_neg c2, if_neg c2]; simp [upd]; omega
  · unfold plV; split
    · simp
    · split <;> simp
  · unfold plV lenR; split
    · simp
    · split
      · simp
      · intro _; omega
theorem rm_f (h : Ok s) (k : ByteArray) : RmF (keysL s.R) (keysL (s.rm k).R) (ghL (s.rm k).R) k (hit s.R k) := by
  refine ⟨(inn_keys _ _).symm, fun x => ?_, fun hx => ?_, ?_⟩
  · rw [keysL_in, keysL_in]
    show x ∈ rem (s.R 0) k ∨ x ∈ rem (s.R 1) k ↔ _
    rw [rem_mem, rem_mem]
    exact ⟨fun hx => hx.elim (fun h => ⟨Or.inl h.1, h.2⟩) fun h => ⟨Or.inr h.1, h.2⟩, fun ⟨h1, h2⟩ => h1.imp (fun h => ⟨h, h2⟩) fun h => ⟨h, h2⟩⟩
  · have hx : k ∈ rem (s.R 2) k ++ rem (s.R 3) k := hx
    exact (List.mem_append.1 hx).elim rem_not rem_not
  · rw [keysL_len, keysL_len]
    show (rem (s.R 0) k).length + (rem (s.R 1) k).length + _ = (s.R 0).length + (s.R 1).length
    cases hh : hit s.R k with
    | true =>
      rcases hit_iff.1 hh with hi | hi
      · have h1 := rem_len (h.pre.nd 0 (by omega)) hi
        have h2 : k ∉ s.R 1 := fun hx => by have := h.pre.dis 0 1 (by omega) (by omega) k hi hx; omega
        rw [rem_none h2]; simp; omega
      · have h1 := rem_len (h.pre.nd 1 (by omega)) hi
        have h2 : k ∉ s.R 0 := fun hx => by have := h.pre.dis 0 1 (by omega) (by omega) k hx hi; omega
        rw [rem_none h2]; simp; omega
    | false =>
      rw [rem_none (hit_no.1 hh).1, rem_none (hit_no.1 hh).2]; simp
theorem ad_f (_h : Ok s) (k : ByteArray) : AdF (keysL s.R) (keysL (s.ad k).R) (ghL (s.ad k).R) s.mo k (s.adB k) := by
  cases hb : s.adB k with
  | true =>
    have hb2 := hb
    unfold St.adB at hb2
    rw [Bool.and_eq_true, Bool.not_eq_true', decide_eq_true_eq] at hb2
    have e : s.ad k = ⟨s.mo, s.p, trimR s.mo (putR s.R k 0)⟩ := by unfold St.ad; rw [if_pos hb]
    have hp := ad_len s k hb2.2
    have h0 : trimR s.mo (putR s.R k 0) 0 = putR s.R k 0 0 := by unfold trimR trim3 trim2; rw [upd_ne (by omega), upd_ne (by omega)]
    have h1 : trimR s.mo (putR s.R k 0) 1 = putR s.R k 0 1 := by unfold trimR trim3 trim2; rw [upd_ne (by omega), upd_ne (by omega)]
    have hk := hit_no.1 hb2.1
    have hkl : keysL (trimR s.mo (putR s.R k 0)) = keysL (putR s.R k 0) := by unfold keysL; rw [h0, h1]
    rw [e]
    refine ⟨by rw [inn_keys, hb2.1, keysL_len, decide_eq_true hb2.2]; rfl, fun x => ?_, fun _ hx => ?_, ?_⟩
    · show x ∈ keysL (trimR s.mo (putR s.R k 0)) ↔ _
      rw [hkl, put_keys (by omega), keysL_in]
      constructor
      · rintro (g1 | ⟨_, g1⟩)
        · exact Or.inr ⟨rfl, g1⟩
        · exact Or.inl g1
      · rintro (g1 | ⟨_, g1⟩)
        · refine Or.inr ⟨fun e => ?_, g1⟩
          rw [e] at g1
          exact g1.elim hk.1 hk.2
        · exact Or.inl g1
    · have hx : k ∈ trimR s.mo (putR s.R k 0) 2 ++ trimR s.mo (putR s.R k 0) 3 := hx
      rcases List.mem_append.1 hx with hx | hx
      · have := (trim_sub _ _ _).subset hx
        rw [put_ne (by omega)] at this
        exact rem_not this
      · have := (trim_sub _ _ _).subset hx
        rw [put_ne (by omega)] at this
        exact rem_not this
    · show (keysL (trimR s.mo (putR s.R k 0))).length = _
      rw [hkl, keysL_len, keysL_len, put_count (by omega) hk.1 hk.2]; rfl
  | false =>
    have e : s.ad k = s := by unfold St.ad; rw [hb]; rfl
    have hb2 := hb
    unfold St.adB at hb2
    rw [e]
    refine ⟨?_, fun x => ⟨fun g => Or.inl g, fun g => ?_⟩, fun g => ?_, rfl⟩
    · rw [inn_keys, keysL_len]; exact hb2.symm
    · rcases g with g | ⟨g, _⟩
      · exact g
      · cases g
    · cases g
theorem dr_f (h : Ok s) : DrF (keysL s.R) (keysL s.dr.R) (ghL s.R) (ghL s.dr.R) (lastKey (s.R (lv s.R s.p false))) (anyKey (s.R (lv s.R s.p false))) := by
  have hg : ghL s.dr.R = ghL s.R := by
    have h4 := lv_two s.R s.p false
    unfold ghL
    show upd s.R (lv s.R s.p false) (s.R (lv s.R s.p false)).dropLast 2 ++ upd s.R (lv s.R s.p false) (s.R (lv s.R s.p false)).dropLast 3 = _
    rw [upd_ne (by omega), upd_ne (by omega)]
  by_cases hl : lenR s.R = 0
  · have z0 : s.R 0 = [] := List.eq_nil_of_length_eq_zero (by unfold lenR at hl; omega)
    have z1 : s.R 1 = [] := List.eq_nil_of_length_eq_zero (by unfold lenR at hl; omega)
    have hk : keysL s.R = [] := by unfold keysL; rw [z0, z1]; rfl
    have hz : s.R (lv s.R s.p false) = [] := by rcases lv_two s.R s.p false with e | e <;> rw [e] <;> assumption
    have e : keysL s.dr.R = [] := by
      unfold keysL
      have := (dr_sub s 0).length_le
      have := (dr_sub s 1).length_le
      rw [z0] at *
      rw [z1] at *
      rw [List.eq_nil_of_length_eq_zero (l := s.dr.R 0) (by simp_all), List.eq_nil_of_length_eq_zero (l := s.dr.R 1) (by simp_all)]; rfl
    rw [hz, hk, e]
    refine ⟨rfl, fun g => ?_, fun x => ⟨fun g => ?_, fun g => g.1⟩, hg, rfl⟩
    · cases g
    · cases g
  · have h0 := lv_pos (p := s.p) (q := false) (R := s.R) (by omega)
    have h4 := lv_lt s.R s.p false
    have h2 := lv_two s.R s.p false
    obtain ⟨_, ho⟩ := pop_out h.pre h4.1 h0
    have hxm := last_mem h0
    have hd : ∀ j, s.dr.R j = upd s.R (lv s.R s.p false) (s.R (lv s.R s.p false)).dropLast j := fun _ => rfl
    have hn : s.R (lv s.R s.p false) ≠ [] := fun e => by rw [e] at h0; exact Nat.lt_irrefl _ h0
    have hsp : (s.R (lv s.R s.p false)).dropLast ++ [lastKey (s.R (lv s.R s.p false))] = s.R (lv s.R s.p false) := by
      unfold lastKey
      rw [List.getLastD_eq_getLast?, List.getLast?_eq_some_getLast hn]
      exact List.dropLast_concat_getLast hn
    have hin : lastKey (s.R (lv s.R s.p false)) ∈ keysL s.R := by
      rw [keysL_in]
      rcases h2 with e | e <;> rw [e] at hxm ⊢
      · exact Or.inl hxm
      · exact Or.inr hxm
    rw [any_pos h0]
    refine ⟨?_, fun _ => hin, fun x => ?_, hg, ?_⟩
    · have : (keysL s.R).isEmpty = false := by rw [List.isEmpty_eq_false_iff]; exact List.ne_nil_of_mem hin
      rw [this]; rfl
    · rw [keysL_in, keysL_in, hd, hd]
      constructor
      · intro hx
        refine ⟨hx.imp (fun h => (dr_sub s 0).subset h) fun h => (dr_sub s 1).subset h, fun _ e => ?_⟩
        subst e
        exact hx.elim (ho 0 (by omega)) (ho 1 (by omega))
      · rintro ⟨hx, hne⟩
        have hne := hne rfl
        have key : ∀ j, x ∈ s.R j → x ∈ upd s.R (lv s.R s.p false) (s.R (lv s.R s.p false)).dropLast j := fun j hj => by
          by_cases e : j = lv s.R s.p false
          · rw [e] at hj ⊢
            rw [upd_same]
            rw [← hsp] at hj
            exact (List.mem_append.1 hj).elim id fun h => absurd (List.mem_singleton.1 h) hne
          · rw [upd_ne e]; exact hj
        exact hx.imp (key 0) (key 1)
    · rw [keysL_len, keysL_len]
      unfold lenR
      rw [hd, hd]
      rcases h2 with e | e <;> rw [e] at h0 ⊢
      · rw [upd_same, upd_ne (by omega), List.length_dropLast]; simp; omega
      · rw [upd_same, upd_ne (by omega), List.length_dropLast]; simp; omega
theorem rs_f (h : Ok s) (n : Nat) : RsF (keysL s.R) (keysL (s.rs n).R) n (outs (min s.p n) false s.R (lenR s.R - n)) := by
  have c := cutn_ok (p := min s.p n) (q := false) h.pre (n := lenR s.R - n) (by omega)
  have hl := c.len
  have h0 : (s.rs n).R 0 = cutn (min s.p n) false s.R (lenR s.R - n) 0 := by show resR s.p n s.R 0 = _; unfold resR trimR trim3 trim2; rw [upd_ne (by omega), upd_ne (by omega)]
  have h1 : (s.rs n).R 1 = cutn (min s.p n) false s.R (lenR s.R - n) 1 := by show resR s.p n s.R 1 = _; unfold resR trimR trim3 trim2; rw [upd_ne (by omega), upd_ne (by omega)]
  have hk : ∀ x, x ∈ keysL (s.rs n).R ↔ x ∈ cutn (min s.p n) false s.R (lenR s.R - n) 0 ∨ x ∈ cutn (min s.p n) false s.R (lenR s.R - n) 1 := fun x => by rw [keysL_in, h0, h1]
  refine ⟨by rw [outs_len, keysL_len], ?_, fun x hx => ?_, fun x hx => ?_, fun x hx => ?_⟩
  · rw [outs_len, keysL_len, keysL_len]
    unfold lenR at hl ⊢
    rw [h0, h1]; exact hl
  · obtain ⟨g1, g2⟩ := outs_in h.pre (by omega) x hx
    refine ⟨keysL_in.2 g2, fun hc => ?_⟩
    have d := c.pre.dis
    rcases (hk x).1 hc with h3 | h3 <;> rcases g1 with g1 | g1
    · have := d 0 2 (by omega) (by omega) x h3 g1; omega
    · have := d 0 3 (by omega) (by omega) x h3 g1; omega
    · have := d 1 2 (by omega) (by omega) x h3 g1; omega
    · have := d 1 3 (by omega) (by omega) x h3 g1; omega
  · exact (cutn_stay (p := min s.p n) (q := false) h.pre (by omega) x (keysL_in.1 hx)).imp (fun h2 => (hk x).2 h2) id
  · exact keysL_in.2 (((hk x).1 hx).imp (fun h2 => (cutn_sub h.pre (by omega) 0 (by omega)).subset h2) fun h2 => (cutn_sub h.pre (by omega) 1 (by omega)).subset h2)
end
end Go.Proofs.YtnlckkahkghneaaGreatDoor.AR
