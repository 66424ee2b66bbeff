/- What the calls of a cache of four rows leave, as plain lists. -/
import Derived.Test.YtlmbeiijijkjeaaWj
namespace Go.Proofs.Ytlmbeiijijkjeaa
open Sg

structure St where
  mo : Nat
  p : Nat
  R : Rw4
/-- No key twice. -/
structure Pre (R : Rw4) : Prop where
  dis : ∀ j k, j < 4 → k < 4 → ∀ x, x ∈ R j → x ∈ R k → j = k
  nd : ∀ k, k < 4 → (R k).Nodup
def s02 (R : Rw4) : Nat := (R 0).length + (R 2).length
structure Ok (s : St) : Prop where
  pre : Pre s.R
  le : lenR s.R ≤ s.mo
  gl : s02 s.R ≤ s.mo
  tl : totR s.R ≤ 2 * s.mo
  pl : s.p ≤ s.mo
def St.req (s : St) (k : ByteArray) : St :=
  if s.mo = 0 then s
  else if hit s.R k = true then ⟨s.mo, s.p, putR s.R k 1⟩
  else if inn (s.R 2) k = true then ⟨s.mo, rpU s.mo s.p s.R, putR (cutn (rpU s.mo s.p s.R) false s.R (lenR s.R - (s.mo - 1))) k 1⟩
  else if inn (s.R 3) k = true then ⟨s.mo, lpU s.p s.R, putR (cutn (lpU s.p s.R) true s.R (lenR s.R - (s.mo - 1))) k 1⟩
  else ⟨s.mo, s.p, putR (cutn s.p false (plR s.mo s.R) (lenR (plR s.mo s.R) - (s.mo - 1))) k 0⟩
/-- Who goes for a key. -/
def St.vs (s : St) (k : ByteArray) : List ByteArray :=
  if s.mo = 0 then []
  else if hit s.R k = true then []
  else if inn (s.R 2) k = true then outs (rpU s.mo s.p s.R) false s.R (lenR s.R - (s.mo - 1))
  else if inn (s.R 3) k = true then outs (lpU s.p s.R) true s.R (lenR s.R - (s.mo - 1))
  else plV s.mo s.R ++ outs s.p false (plR s.mo s.R) (lenR (plR s.mo s.R) - (s.mo - 1))
def St.step (s : St) (k : ByteArray) : Value := .agg #[.bool (hit s.R k), .string (vicOf (s.vs k)), .bool (!(s.vs k).isEmpty)]
def St.rm (s : St) (k : ByteArray) : St := ⟨s.mo, s.p, rmR s.R k⟩
def St.adB (s : St) (k : ByteArray) : Bool := !hit s.R k && decide (lenR s.R < s.mo)
def St.ad (s : St) (k : ByteArray) : St := if s.adB k = true then ⟨s.mo, s.p, trimR s.mo (putR s.R k 0)⟩ else s
def St.dr (s : St) : St := ⟨s.mo, s.p, upd s.R (lv s.R s.p false) (s.R (lv s.R s.p false)).dropLast⟩
def St.rs (s : St) (n : Nat) : St := ⟨n, min s.p n, resR s.p n s.R⟩
def St.start (n : Nat) : St := ⟨n, 0, fun _ => []⟩

section
variable {R Q : Rw4} {x y : ByteArray} {p n k : Nat} {q : Bool}
theorem Pre.sub (h : Pre R) (hs : ∀ k, k < 4 → (Q k).Sublist (R k)) : Pre Q :=
  ⟨fun j k hj hk x h1 h2 => h.dis j k hj hk x ((hs j hj).subset h1) ((hs k hk).subset h2), fun k hk => (h.nd k hk).sublist (hs k hk)⟩
theorem Pre.front (h : Pre R) (hx : ∀ j, j < 4 → x ∉ R j) (k : Nat) : Pre (upd R k (x :: R k)) := by
  have key : ∀ j, j < 4 → ∀ y, y ∈ upd R k (x :: R k) j → (y = x ∧ j = k) ∨ y ∈ R j := fun j _ y hy => by
    by_cases e : j = k
    · subst e
      rw [upd_same] at hy
      exact (List.mem_cons.1 hy).imp (fun h => ⟨h, rfl⟩) id
    · rw [upd_ne e] at hy; exact Or.inr hy
  refine ⟨fun j l hj hl y h1 h2 => ?_, fun j hj => ?_⟩
  · rcases key j hj y h1 with ⟨e1, f1⟩ | g1
    · rcases key l hl y h2 with ⟨e2, f2⟩ | g2
      · omega
      · subst e1; exact absurd g2 (hx l hl)
    · rcases key l hl y h2 with ⟨e2, f2⟩ | g2
      · subst e2; exact absurd g1 (hx j hj)
      · exact h.dis j l hj hl y g1 g2
  · by_cases e : j = k
    · subst e
      rw [upd_same, List.nodup_cons]
      exact ⟨hx j hj, h.nd j hj⟩
    · rw [upd_ne e]; exact h.nd j hj
theorem last_out {xs : List ByteArray} (h : xs.Nodup) (h0 : 0 < xs.length) : lastKey xs ∉ xs.dropLast := by
  have h2 : xs ≠ [] := fun e => by rw [e] at h0; exact Nat.lt_irrefl _ h0
  rw [← (dropLast_rem h h2).1]
  exact rem_not
/-- A row's last one off it: it is in no row then. -/
theorem pop_out (h : Pre R) (hk : k < 4) (h0 : 0 < (R k).length) : Pre (upd R k (R k).dropLast) ∧ ∀ j, j < 4 → lastKey (R k) ∉ upd R k (R k).dropLast j := by
  refine ⟨h.sub fun j hj => ?_, fun j hj hm => ?_⟩
  · by_cases e : j = k
    · subst e; rw [upd_same]; exact List.dropLast_sublist _
    · rw [upd_ne e]; exact List.Sublist.refl _
  · by_cases e : j = k
    · subst e
      rw [upd_same] at hm
      exact last_out (h.nd j hj) h0 hm
    · rw [upd_ne e] at hm
      exact e (h.dis j k hj hk _ hm (last_mem h0))
theorem cut1_eq (h : Pre R) (hl : 0 < lenR R) : cut1 p q R = upd (upd R (lv R p q) (R (lv R p q)).dropLast) (lv R p q + 2) (lastKey (R (lv R p q)) :: upd R (lv R p q) (R (lv R p q)).dropLast (lv R p q + 2)) := by
  have h0 := lv_pos (p := p) (q := q) hl
  have h4 := lv_lt R p q
  unfold cut1
  rw [upd_ne (f := R) (show lv R p q + 2 ≠ lv R p q by omega), rem_none]
  intro hm
  have := h.dis _ _ h4.2 h4.1 _ hm (last_mem h0)
  omega
/-- What one that goes leaves. -/
structure Cut (R Q : Rw4) (n : Nat) : Prop where
  pre : Pre Q
  len : lenR Q + n = lenR R
  gl : s02 Q = s02 R
  tot : totR Q = totR R
  gh : ∀ k, 2 ≤ k → k < 4 → ∀ y, y ∈ R k → y ∈ Q k
  old : ∀ k, k < 4 → ∀ y, y ∈ Q k → ∃ j, j < 4 ∧ y ∈ R j
theorem cut1_ok (h : Pre R) (hl : 0 < lenR R) : Cut R (cut1 p q R) 1 := by
  have h0 := lv_pos (p := p) (q := q) hl
  have h4 := lv_lt R p q
  obtain ⟨h1, h2⟩ := pop_out h h4.1 h0
  have hlen := cut1_len (p := p) (q := q) hl
  rw [cut1_eq h hl] at hlen ⊢
  refine ⟨h1.front h2 _, hlen, ?_, ?_, fun k hk hk4 y hy => ?_, fun k hk y hy => ?_⟩
  · rcases lv_two R p q with e | e <;> rw [e] at h0 ⊢ <;> simp [s02, upd] <;> omega
  · rcases lv_two R p q with e | e <;> rw [e] at h0 ⊢ <;> simp [totR, upd] <;> omega
  · have hne : k ≠ lv R p q := by rcases lv_two R p q with e | e <;> omega
    by_cases e : k = lv R p q + 2
    · subst e
      rw [upd_same, upd_ne hne]; exact List.mem_cons_of_mem _ hy
    · rw [upd_ne e, upd_ne hne]; exact hy
  · have key : ∀ j, j < 4 → y ∈ upd R (lv R p q) (R (lv R p q)).dropLast j → ∃ j, j < 4 ∧ y ∈ R j := fun j hj hm => by
      by_cases e : j = lv R p q
      · subst e
        rw [upd_same] at hm
        exact ⟨_, hj, List.dropLast_subset _ hm⟩
      · rw [upd_ne e] at hm; exact ⟨j, hj, hm⟩
    by_cases e : k = lv R p q + 2
    · rw [e, upd_same] at hy
      rcases List.mem_cons.1 hy with hy | hy
      · exact ⟨_, h4.1, hy ▸ last_mem h0⟩
      · exact key _ h4.2 hy
    · rw [upd_ne e] at hy; exact key k hk hy
theorem cutn_ok (h : Pre R) : ∀ {n : Nat}, n ≤ lenR R → Cut R (cutn p q R n) n
  | 0, _ => ⟨h, rfl, rfl, rfl, fun _ _ _ _ hy => hy, fun k hk _ hy => ⟨k, hk, hy⟩⟩
  | n + 1, hn => by
    have c := cutn_ok h (n := n) (by omega)
    have hl := c.len
    have d := cut1_ok (p := p) (q := q) c.pre (by omega)
    have dl := d.len
    refine ⟨d.pre, ?_, d.gl.trans c.gl, d.tot.trans c.tot, fun k h1 h2 y hy => d.gh k h1 h2 y (c.gh k h1 h2 y hy), fun k hk y hy => ?_⟩
    · show lenR (cut1 p q (cutn p q R n)) + (n + 1) = _
      omega
    · obtain ⟨j, hj, hm⟩ := d.old k hk y hy
      exact c.old j hj y hm
theorem Pre.rm (h : Pre R) (x : ByteArray) : Pre (rmR R x) := h.sub fun _ _ => List.filter_sublist
theorem rm_out (R : Rw4) (x : ByteArray) : ∀ j, j < 4 → x ∉ rmR R x j := fun _ _ => rem_not
theorem Pre.put (h : Pre R) (x : ByteArray) (k : Nat) : Pre (putR R x k) := (h.rm x).front (rm_out R x) k
theorem put_at (R : Rw4) (x : ByteArray) (k : Nat) : putR R x k k = x :: rem (R k) x := upd_same _ _ _
theorem put_ne {j : Nat} (h : j ≠ k) : putR R x k j = rem (R j) x := upd_ne h
theorem put_tot (R : Rw4) (x : ByteArray) (hk : k < 2) : totR (putR R x k) ≤ totR R + 1 := by
  have r0 := rem_le (R 0) x
  have r1 := rem_le (R 1) x
  have r2 := rem_le (R 2) x
  have r3 := rem_le (R 3) x
  obtain rfl | rfl : k = 0 ∨ k = 1 := by omega
  · unfold totR
    rw [put_at, put_ne (by omega), put_ne (by omega), put_ne (by omega), List.length_cons]; omega
  · unfold totR
    rw [put_at, put_ne (by omega), put_ne (by omega), put_ne (by omega), List.length_cons]; omega
theorem pl_tot (mo : Nat) (R : Rw4) : totR (plR mo R) ≤ totR R := by
  unfold plR
  split
  · split
    · simp [totR, upd]
    · exact Nat.le_refl _
  · split
    · simp [totR, upd]
    · simp [totR, upd]
theorem trim_sub (mo : Nat) (R : Rw4) (k : Nat) : (trimR mo R k).Sublist (R k) := by
  unfold trimR trim3
  by_cases e : k = 3
  · subst e
    rw [upd_same]
    refine (List.take_sublist _ _).trans ?_
    rw [show trim2 mo R 3 = R 3 from upd_ne (by omega)]
    exact List.Sublist.refl _
  · rw [upd_ne e]
    unfold trim2
    by_cases e2 : k = 2
    · subst e2; rw [upd_same]; exact List.take_sublist _ _
    · rw [upd_ne e2]; exact List.Sublist.refl _
theorem trim_cnt {mo : Nat} {R : Rw4} (h : lenR R ≤ mo) : lenR (trimR mo R) = lenR R ∧ s02 (trimR mo R) ≤ mo ∧ totR (trimR mo R) ≤ 2 * mo ∧ totR (trimR mo R) ≤ totR R := by
  have f0 : trim2 mo R 0 = R 0 := upd_ne (by omega)
  have f1 : trim2 mo R 1 = R 1 := upd_ne (by omega)
  have f2 : trim2 mo R 2 = (R 2).take (mo - (R 0).length) := upd_same _ _ _
  have f3 : trim2 mo R 3 = R 3 := upd_ne (by omega)
  have ht : ∀ j, j ≠ 3 → trimR mo R j = trim2 mo R j := fun j hj => by unfold trimR trim3; exact upd_ne hj
  have e0 : trimR mo R 0 = R 0 := (ht 0 (by omega)).trans f0
  have e1 : trimR mo R 1 = R 1 := (ht 1 (by omega)).trans f1
  have e2 : trimR mo R 2 = (R 2).take (mo - (R 0).length) := (ht 2 (by omega)).trans f2
  have e3 : trimR mo R 3 = (R 3).take (2 * mo - ((R 0).length + (R 1).length + ((R 2).take (mo - (R 0).length)).length)) := by
    show upd (trim2 mo R) 3 ((trim2 mo R 3).take (2 * mo - ((trim2 mo R 0).length + (trim2 mo R 1).length + (trim2 mo R 2).length))) 3 = _
    rw [upd_same, f0, f1, f2, f3]
  unfold lenR at *
  unfold s02 totR
  rw [e0, e1, e2, e3, List.length_take, List.length_take]
  omega
end

section
variable {s : St}
theorem Ok.zero (h : Ok s) (hm : s.mo = 0) : s.R 0 = [] ∧ s.R 1 = [] := by
  have := h.le
  unfold lenR at this
  exact ⟨List.eq_nil_of_length_eq_zero (by omega), List.eq_nil_of_length_eq_zero (by omega)⟩
theorem hit_iff {R : Rw4} {k : ByteArray} : hit R k = true ↔ k ∈ R 0 ∨ k ∈ R 1 := by unfold hit; rw [Bool.or_eq_true, inn_iff, inn_iff]
theorem hit_no {R : Rw4} {k : ByteArray} : hit R k = false ↔ k ∉ R 0 ∧ k ∉ R 1 := by unfold hit; rw [Bool.or_eq_false_iff, inn_no, inn_no]
theorem rp_le (mo p : Nat) (R : Rw4) (h : p ≤ mo) : rpU mo p R ≤ mo := by unfold rpU; omega
theorem lp_le (mo p : Nat) (R : Rw4) (h : p ≤ mo) : lpU p R ≤ mo := by unfold lpU; omega
/-- A ghost that is asked for. -/
theorem ok_ghost (h : Ok s) (hm : s.mo ≠ 0) (k : ByteArray) (j : Nat) (hj : j = 2 ∨ j = 3) (hk : k ∈ s.R j) (hh : hit s.R k = false) (p : Nat) (hp : p ≤ s.mo) (q : Bool) : Ok ⟨s.mo, p, putR (cutn p q s.R (lenR s.R - (s.mo - 1))) k 1⟩ := by
  have c := cutn_ok (p := p) (q := q) h.pre (n := lenR s.R - (s.mo - 1)) (by omega)
  have hkQ := c.gh j (by omega) (by omega) k hk
  have h1 := c.len
  have h2 := c.gl
  have h3 := c.tot
  have g1 := h.le
  have g2 := h.gl
  have g3 := h.tl
  have r := rem_len (c.pre.nd j (by omega)) hkQ
  generalize cutn p q s.R (lenR s.R - (s.mo - 1)) = Q at *
  refine ⟨c.pre.put k 1, ?_, ?_, ?_, hp⟩
  · show lenR (putR Q k 1) ≤ s.mo
    have r0 := rem_le (Q 0) k
    have r1 := rem_le (Q 1) k
    unfold lenR at *
    rw [put_at, put_ne (by omega), List.length_cons]; omega
  · show s02 (putR Q k 1) ≤ s.mo
    have r0 := rem_le (Q 0) k
    have r2 := rem_le (Q 2) k
    unfold s02 at *
    rw [put_ne (by omega), put_ne (by omega)]; omega
  · show totR (putR Q k 1) ≤ 2 * s.mo
    have r0 := rem_le (Q 0) k
    have r1 := rem_le (Q 1) k
    have r2 := rem_le (Q 2) k
    have r3 := rem_le (Q 3) k
    unfold totR at *
    rw [put_at, put_ne (by omega), put_ne (by omega), put_ne (by omega), List.length_cons]
    rcases hj with rfl | rfl <;> omega
theorem pl_ok (h : Ok s) (hm : s.mo ≠ 0) : Pre (plR s.mo s.R) ∧ (∀ k, k < 4 → (plR s.mo s.R k).Sublist (s.R k)) ∧ s02 (plR s.mo s.R) < s.mo ∧ totR (plR s.mo s.R) < 2 * s.mo ∧ lenR (plR s.mo s.R) ≤ s.mo := by
  have g1 := h.le
  have g2 := h.gl
  have g3 := h.tl
  have up : ∀ j, ∀ k, k < 4 → (upd s.R j (s.R j).dropLast k).Sublist (s.R k) := fun j k _ => by
    by_cases e : k = j
    · subst e; rw [upd_same]; exact List.dropLast_sublist _
    · rw [upd_ne e]; exact List.Sublist.refl _
  unfold plR
  unfold lenR s02 at *
  by_cases h1 : (s.R 0).length + (s.R 2).length < s.mo
  · rw [if_pos h1]
    by_cases h2 : 2 * s.mo ≤ totR s.R
    · rw [if_pos h2]
      refine ⟨h.pre.sub (up 3), up 3, ?_, ?_, ?_⟩
      · simp [upd]; omega
      · unfold totR at *; simp [upd]; omega
      · simp [upd]; omega
    · rw [if_neg h2]
      exact ⟨h.pre, fun _ _ => List.Sublist.refl _, h1, by omega, g1⟩
  · rw [if_neg h1]
    by_cases h2 : (s.R 0).length < s.mo
    · rw [if_pos h2]
      refine ⟨h.pre.sub (up 2), up 2, ?_, ?_, ?_⟩
      · simp [upd]; omega
      · unfold totR at *; simp [upd]; omega
      · simp [upd]; omega
    · rw [if_neg h2]
      refine ⟨h.pre.sub (up 0), up 0, ?_, ?_, ?_⟩
      · simp [upd]; omega
      · unfold totR at *; simp [upd]; omega
      · simp [upd]; omega
theorem Ok.req (h : Ok s) (k : ByteArray) : Ok (s.req k) := by
  have g1 := h.le
  have g2 := h.gl
  have g3 := h.tl
  unfold St.req
  by_cases hm : s.mo = 0
  · rw [if_pos hm]; exact h
  rw [if_neg hm]
  cases hh : hit s.R k with
  | true =>
    rw [if_pos rfl]
    have r0 := rem_le (s.R 0) k
    have r1 := rem_le (s.R 1) k
    have r2 := rem_le (s.R 2) k
    have r3 := rem_le (s.R 3) k
    have hc : (rem (s.R 0) k).length + (rem (s.R 1) k).length + 1 ≤ (s.R 0).length + (s.R 1).length := by
      rcases hit_iff.1 hh with hi | hi
      · have := rem_len (h.pre.nd 0 (by omega)) hi; omega
      · have := rem_len (h.pre.nd 1 (by omega)) hi; omega
    refine ⟨h.pre.put k 1, ?_, ?_, ?_, h.pl⟩
    · show lenR (putR s.R k 1) ≤ s.mo
      unfold lenR at *
      rw [put_at, put_ne (by omega), List.length_cons]; omega
    · show s02 (putR s.R k 1) ≤ s.mo
      unfold s02 at *
      rw [put_ne (by omega), put_ne (by omega)]; omega
    · show totR (putR s.R k 1) ≤ 2 * s.mo
      unfold totR at *
      rw [put_at, put_ne (by omega), put_ne (by omega), put_ne (by omega), List.length_cons]; omega
  | false =>
  rw [if_neg (by simp)]
  cases h2 : inn (s.R 2) k with
  | true => rw [if_pos rfl]; exact ok_ghost h hm k 2 (Or.inl rfl) (inn_iff.1 h2) hh _ (rp_le _ _ _ h.pl) _
  | false =>
  rw [if_neg (by simp)]
  cases h3 : inn (s.R 3) k with
  | true => rw [if_pos rfl]; exact ok_ghost h hm k 3 (Or.inr rfl) (inn_iff.1 h3) hh _ (lp_le _ _ _ h.pl) _
  | false =>
  rw [if_neg (by simp)]
  obtain ⟨p1, p2, p3, p4, p5⟩ := pl_ok h hm
  have c := cutn_ok (p := s.p) (q := false) p1 (n := lenR (plR s.mo s.R) - (s.mo - 1)) (by omega)
  have c1 := c.len
  have c2 := c.gl
  have c3 := c.tot
  generalize cutn s.p false (plR s.mo s.R) (lenR (plR s.mo s.R) - (s.mo - 1)) = Q at *
  have r0 := rem_le (Q 0) k
  have r1 := rem_le (Q 1) k
  have r2 := rem_le (Q 2) k
  have r3 := rem_le (Q 3) k
  refine ⟨c.pre.put k 0, ?_, ?_, ?_, h.pl⟩
  · show lenR (putR Q k 0) ≤ s.mo
    unfold lenR at *
    rw [put_at, put_ne (by omega), List.length_cons]; omega
  · show s02 (putR Q k 0) ≤ s.mo
    unfold s02 at *
    rw [put_at, put_ne (by omega), List.length_cons]; omega
  · show totR (putR Q k 0) ≤ 2 * s.mo
    unfold totR at *
    rw [put_at, put_ne (by omega), put_ne (by omega), put_ne (by omega), List.length_cons]; omega
theorem req_tot (h : Ok s) (k : ByteArray) : totR (s.req k).R ≤ totR s.R + 1 := by
  unfold St.req
  split
  · exact Nat.le_succ _
  split
  · exact put_tot _ _ (by omega)
  split
  · exact Nat.le_trans (put_tot _ _ (by omega)) (Nat.succ_le_succ (Nat.le_of_eq (cutn_ok h.pre (by omega)).tot))
  split
  · exact Nat.le_trans (put_tot _ _ (by omega)) (Nat.succ_le_succ (Nat.le_of_eq (cutn_ok h.pre (by omega)).tot))
  · rename_i hm _ _ _
    exact Nat.le_trans (put_tot _ _ (by omega)) (Nat.succ_le_succ (Nat.le_trans (Nat.le_of_eq (cutn_ok (pl_ok h hm).1 (by omega)).tot) (pl_tot _ _)))
theorem Ok.rm (h : Ok s) (k : ByteArray) : Ok (s.rm k) := by
  have g1 := h.le
  have g2 := h.gl
  have g3 := h.tl
  have r0 := rem_le (s.R 0) k
  have r1 := rem_le (s.R 1) k
  have r2 := rem_le (s.R 2) k
  have r3 := rem_le (s.R 3) k
  unfold lenR at g1
  unfold s02 at g2
  unfold totR at g3
  refine ⟨h.pre.rm k, ?_, ?_, ?_, h.pl⟩
  · show (rem (s.R 0) k).length + (rem (s.R 1) k).length ≤ s.mo
    omega
  · show (rem (s.R 0) k).length + (rem (s.R 2) k).length ≤ s.mo
    omega
  · show (rem (s.R 0) k).length + (rem (s.R 1) k).length + (rem (s.R 2) k).length + (rem (s.R 3) k).length ≤ 2 * s.mo
    omega
theorem rm_tot (s : St) (k : ByteArray) : totR (s.rm k).R ≤ totR s.R := by
  have r0 := rem_le (s.R 0) k
  have r1 := rem_le (s.R 1) k
  have r2 := rem_le (s.R 2) k
  have r3 := rem_le (s.R 3) k
  show (rem (s.R 0) k).length + (rem (s.R 1) k).length + (rem (s.R 2) k).length + (rem (s.R 3) k).length ≤ totR s.R
  unfold totR
  omega
theorem ad_len (s : St) (k : ByteArray) (hl : lenR s.R < s.mo) : lenR (putR s.R k 0) ≤ s.mo := by
  have := putR_len s.R k
  unfold lenR at *
  omega
theorem Ok.ad (h : Ok s) (k : ByteArray) : Ok (s.ad k) := by
  unfold St.ad
  by_cases hb : s.adB k = true
  · rw [if_pos hb]
    have hl : lenR s.R < s.mo := by unfold St.adB at hb; simp at hb; exact hb.2
    have hp := ad_len s k hl
    obtain ⟨t1, t2, t3, _⟩ := trim_cnt hp
    exact ⟨(h.pre.put k 0).sub fun j _ => trim_sub _ _ j, Nat.le_trans (Nat.le_of_eq t1) hp, t2, t3, h.pl⟩
  · rw [if_neg hb]; exact h
theorem ad_tot (s : St) (k : ByteArray) : totR (s.ad k).R ≤ totR s.R + 1 := by
  unfold St.ad
  by_cases hb : s.adB k = true
  · rw [if_pos hb]
    have hl : lenR s.R < s.mo := by unfold St.adB at hb; simp at hb; exact hb.2
    exact Nat.le_trans (trim_cnt (ad_len s k hl)).2.2.2 (put_tot _ _ (by omega))
  · rw [if_neg hb]; exact Nat.le_succ _
theorem dr_sub (s : St) (k : Nat) : (s.dr.R k).Sublist (s.R k) := by
  show (upd s.R (lv s.R s.p false) (s.R (lv s.R s.p false)).dropLast k).Sublist (s.R k)
  by_cases e : k = lv s.R s.p false
  · rw [e, upd_same]; exact List.dropLast_sublist _
  · rw [upd_ne e]; exact List.Sublist.refl _
theorem dr_tot (s : St) : totR s.dr.R ≤ totR s.R := by
  have r0 := (dr_sub s 0).length_le
  have r1 := (dr_sub s 1).length_le
  have r2 := (dr_sub s 2).length_le
  have r3 := (dr_sub s 3).length_le
  unfold totR
  omega
theorem Ok.dr (h : Ok s) : Ok s.dr := by
  have g1 := h.le
  have g2 := h.gl
  have r0 := (dr_sub s 0).length_le
  have r1 := (dr_sub s 1).length_le
  have r2 := (dr_sub s 2).length_le
  refine ⟨h.pre.sub fun k _ => dr_sub s k, ?_, ?_, Nat.le_trans (dr_tot s) h.tl, h.pl⟩
  · show lenR s.dr.R ≤ s.mo
    unfold lenR at *; omega
  · show s02 s.dr.R ≤ s.mo
    unfold s02 at *; omega
theorem Ok.rs (h : Ok s) (n : Nat) : Ok (s.rs n) := by
  have c := cutn_ok (p := min s.p n) (q := false) h.pre (n := lenR s.R - n) (by omega)
  have c1 := c.len
  have hl : lenR (cutn (min s.p n) false s.R (lenR s.R - n)) ≤ n := by omega
  obtain ⟨t1, t2, t3, _⟩ := trim_cnt hl
  exact ⟨c.pre.sub fun j _ => trim_sub _ _ j, Nat.le_trans (Nat.le_of_eq t1) hl, t2, t3, Nat.min_le_right _ _⟩
theorem rs_tot (h : Ok s) (n : Nat) : totR (s.rs n).R ≤ totR s.R := by
  have c := cutn_ok (p := min s.p n) (q := false) h.pre (n := lenR s.R - n) (by omega)
  have c1 := c.len
  have hl : lenR (cutn (min s.p n) false s.R (lenR s.R - n)) ≤ n := by omega
  exact Nat.le_trans (trim_cnt hl).2.2.2 (Nat.le_of_eq c.tot)
theorem ok_start (n : Nat) : Ok (St.start n) :=
  ⟨⟨fun _ _ _ _ _ h => absurd h (List.not_mem_nil), fun _ _ => List.nodup_nil⟩, Nat.zero_le _, Nat.zero_le _, Nat.zero_le _, Nat.zero_le _⟩
end
end Go.Proofs.Ytlmbeiijijkjeaa
