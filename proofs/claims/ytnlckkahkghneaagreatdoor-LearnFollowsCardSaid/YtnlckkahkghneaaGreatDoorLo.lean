/- Of a learner as plain lists: what each request does to the weight, the ghosts, the rate. No program is spoken of. -/
import Derived.Test.YtnlckkahkghneaaGreatDoorLn
namespace Go.Proofs.YtnlckkahkghneaaGreatDoor.LE
open Sg

section
variable {s : St}
theorem nh (h : Ok s) {k : ByteArray} (hg : k ∈ s.ghosts) : s.has k = false := inn_no.2 fun e => h.dis k e hg
theorem req_miss (hm : s.mo ≠ 0) {k : ByteArray} (hk : s.has k = false) : s.req k = ((s.tick.make k).both k).window := by
  unfold St.req
  rw [if_neg hm, if_neg (by have : s.A.has k = false := hk; rw [this]; simp)]
theorem req_hit (hm : s.mo ≠ 0) {k : ByteArray} (hk : s.has k = true) : s.req k = (s.tick.onHit k).window := by
  unfold St.req
  rw [if_neg hm, if_pos (show s.A.has k = true from hk)]
theorem make_w (s : St) (k : ByteArray) : (s.make k).w = s.wR k ∧ (s.make k).six = s.six ∧ (s.make k).mo = s.mo ∧ (s.make k).rate = s.rate := by
  unfold St.make St.evict
  (repeat' split) <;> exact ⟨rfl, rfl, rfl, rfl⟩
/-- The weight behind a request. -/
theorem req_w (hm : s.mo ≠ 0) (k : ByteArray) : (s.req k).w = if s.has k = true then s.w else s.tick.wR k := by
  cases hk : s.has k with
  | true => rw [req_hit hm hk, (window_same _).2.2.2.2.2.2.2, if_pos rfl]; rfl
  | false => rw [req_miss hm hk, (window_same _).2.2.2.2.2.2.2, if_neg (by simp)]; exact (make_w _ _).1
theorem wR_none {k : ByteArray} (h : k ∉ s.ghosts) : s.wR k = s.w := by
  have h1 : k ∉ gk s.HA := fun e => h (List.mem_append_left _ e)
  have h2 : k ∉ gk s.HB := fun e => h (List.mem_append_right _ e)
  unfold St.wR
  rw [look_none.2 h1, look_none.2 h2]
theorem req_w_none (hm : s.mo ≠ 0) {k : ByteArray} (hg : k ∉ s.ghosts) : (s.req k).w = s.w := by
  rw [req_w hm]
  split
  · rfl
  · exact wR_none (s := s.tick) hg
theorem req_w_A (h : Ok s) (hm : s.mo ≠ 0) {k : ByteArray} (hk : k ∈ gk s.HA) : (s.req k).w ≤ s.w := by
  rw [req_w hm, nh h (List.mem_append_left _ hk), if_neg (by simp)]
  show s.tick.wR k ≤ s.w
  unfold St.wR
  cases hl : look s.tick.HA k with
  | none => exact absurd hk (look_none.1 hl)
  | some t => exact wA_le (tick_ok h) t
theorem req_w_B (h : Ok s) (hm : s.mo ≠ 0) {k : ByteArray} (hk : k ∈ gk s.HB) : s.w ≤ (s.req k).w := by
  rw [req_w hm, nh h (List.mem_append_right _ hk), if_neg (by simp)]
  show s.w ≤ s.tick.wR k
  have hA : k ∉ gk s.tick.HA := fun e => (List.nodup_append.1 h.nd).2.2 k e k hk rfl
  unfold St.wR
  rw [look_none.2 hA]
  cases hl : look s.tick.HB k with
  | none => exact absurd hk (look_none.1 hl)
  | some t => exact wB_ge (tick_ok h) t
/-- Where ghosts stand behind a request. -/
theorem req_rows (h : Ok s) (hm : s.mo ≠ 0) (k x : ByteArray) :
    (x ∈ gk (s.req k).HA → (x ∈ gk s.HA ∧ x ≠ s.vicV k) ∨ (s.outB k = true ∧ (s.tick.regret k).pick = true ∧ x = s.vicV k)) ∧
    (x ∈ gk (s.req k).HB → (x ∈ gk s.HB ∧ x ≠ s.vicV k) ∨ (s.outB k = true ∧ (s.tick.regret k).pick = false ∧ x = s.vicV k)) ∨ s.outB k = false ∧ (x ∈ gk (s.req k).HA → x ∈ gk s.HA) ∧ (x ∈ gk (s.req k).HB → x ∈ gk s.HB) := by
  cases hk : s.has k with
  | true =>
    refine Or.inr ⟨by unfold St.outB; rw [hk]; rfl, ?_⟩
    rw [req_hit hm hk, (window_same _).2.2.2.2.2.1, (window_same _).2.2.2.2.2.2.1]
    exact ⟨id, id⟩
  | false =>
    rw [req_miss hm hk, (window_same _).2.2.2.2.2.1, (window_same _).2.2.2.2.2.2.1]
    have hk2 : k ∉ s.A.keys := inn_no.1 hk
    have e1 : s.outB k = s.tick.full := by unfold St.outB; rw [hk, decide_eq_true hm]; rfl
    have wA : ∀ y, y ∈ gk (wo s.HA k) → y ∈ gk s.HA := fun y hy => by rw [gk_wo] at hy; exact (rem_mem.1 hy).1
    have wB : ∀ y, y ∈ gk (wo s.HB k) → y ∈ gk s.HB := fun y hy => by rw [gk_wo] at hy; exact (rem_mem.1 hy).1
    cases hf : s.tick.full with
    | false =>
      refine Or.inr ⟨e1.trans hf, ?_⟩
      have e : s.tick.make k = s.tick.regret k := by unfold St.make; rw [if_neg (by rw [hf]; simp)]
      rw [e]
      exact ⟨wA x, wB x⟩
    | true =>
      have r := regret_ok (tick_ok h) k
      have hf2 : s.mo ≤ s.A.keys.length := of_decide_eq_true hf
      have hn : (s.tick.regret k).A.keys ≠ [] := fun e => by
        have e : s.A.keys = [] := e
        rw [e, List.length_nil] at hf2; omega
      have hv : (s.tick.regret k).evV ∈ s.A.keys := evV_mem r hn
      have hd := h.dis _ hv
      have ev : s.vicV k = (s.tick.regret k).evV := by unfold St.vicV; rw [e1, hf, if_pos rfl]
      have e : s.tick.make k = (s.tick.regret k).evict := by unfold St.make; rw [if_pos hf]
      refine Or.inl ?_
      rw [e, ev, e1, hf]
      have tk : ∀ {v : ByteArray} {t m : Nat} {H : List (ByteArray × Nat)}, x ∈ gk (((v, t) :: H).take m) → x ∈ gk H ∨ x = v := by
        intro v t m H hx
        rw [gk_take] at hx
        exact (List.mem_cons.1 (List.mem_of_mem_take hx)).symm
      have nA : x ∈ gk s.HA → x ≠ (s.tick.regret k).evV := fun hx e => hd (List.mem_append_left _ (e ▸ hx))
      have nB : x ∈ gk s.HB → x ≠ (s.tick.regret k).evV := fun hx e => hd (List.mem_append_right _ (e ▸ hx))
      cases hp : (s.tick.regret k).pick with
      | true =>
        have e2 : (s.tick.regret k).evV = (s.tick.regret k).A.vic := by unfold St.evV; rw [if_pos hp]
        unfold St.evict
        rw [if_pos hp]
        refine ⟨fun hx => ?_, fun hx => Or.inl ⟨wB x hx, nB (wB x hx)⟩⟩
        rcases tk hx with hx | hx
        · exact Or.inl ⟨wA x hx, nA (wA x hx)⟩
        · exact Or.inr ⟨rfl, rfl, hx.trans e2.symm⟩
      | false =>
        have e2 : (s.tick.regret k).evV = (s.tick.regret k).B.vic := by unfold St.evV; rw [if_neg (by rw [hp]; simp)]
        unfold St.evict
        rw [if_neg (by rw [hp]; simp)]
        refine ⟨fun hx => Or.inl ⟨wA x hx, nA (wA x hx)⟩, fun hx => ?_⟩
        rcases tk hx with hx | hx
        · exact Or.inl ⟨wB x hx, nB (wB x hx)⟩
        · exact Or.inr ⟨rfl, rfl, hx.trans e2.symm⟩
/-- What is left to be drawn behind a request, where no window draws. -/
theorem req_vs5 (h5 : s.six = false) (hm : s.mo ≠ 0) (k : ByteArray) : (s.req k).vs = if s.outB k = true then s.vs.tail else s.vs := by
  have w5 : ∀ t : St, t.six = false → t.window = t := fun t ht => by unfold St.window; rw [if_pos ht]
  cases hk : s.has k with
  | true =>
    have e1 : s.outB k = false := by unfold St.outB; rw [hk]; rfl
    rw [req_hit hm hk, w5 (s.tick.onHit k) h5, e1, if_neg (by simp)]; rfl
  | false =>
    have e1 : s.outB k = s.tick.full := by unfold St.outB; rw [hk, decide_eq_true hm]; rfl
    rw [req_miss hm hk, w5 ((s.tick.make k).both k) ((make_w s.tick k).2.1.trans h5), e1]
    exact make_vs s.tick k
/-- LearnRegrets' map: who let a ghost go. -/
def ByOf (s : St) (f : ByteArray → Bool) : Prop := (∀ x ∈ gk s.HA, f x = true) ∧ ∀ x ∈ gk s.HB, f x = false
theorem ByOf.req (h : Ok s) (hm : s.mo ≠ 0) (k : ByteArray) {f g : ByteArray → Bool} (b : ByOf s f) (ho : s.outB k = true → g (s.vicV k) = (s.tick.regret k).pick ∧ ∀ x, x ≠ s.vicV k → g x = f x) (hn : s.outB k = false → ∀ x, g x = f x) : ByOf (s.req k) g := by
  refine ⟨fun x hx => ?_, fun x hx => ?_⟩
  · rcases req_rows h hm k x with ⟨r, _⟩ | ⟨o, r, _⟩
    · cases ho2 : s.outB k with
      | false =>
        rcases r hx with ⟨r, _⟩ | ⟨r, _⟩
        · rw [hn ho2]; exact b.1 x r
        · rw [ho2] at r; cases r
      | true =>
        rcases r hx with ⟨r, n⟩ | ⟨_, p, rfl⟩
        · rw [(ho ho2).2 x n]; exact b.1 x r
        · rw [(ho ho2).1]; exact p
    · rw [hn o]; exact b.1 x (r hx)
  · rcases req_rows h hm k x with ⟨_, r⟩ | ⟨o, _, r⟩
    · cases ho2 : s.outB k with
      | false =>
        rcases r hx with ⟨r, _⟩ | ⟨r, _⟩
        · rw [hn ho2]; exact b.2 x r
        · rw [ho2] at r; cases r
      | true =>
        rcases r hx with ⟨r, n⟩ | ⟨_, p, rfl⟩
        · rw [(ho ho2).2 x n]; exact b.2 x r
        · rw [(ho ho2).1]; exact p
    · rw [hn o]; exact b.2 x (r hx)
/-- A key that is neither resident nor a ghost: how many ghosts there are behind its request. -/
theorem req_new (h : Ok s) (hm : s.mo ≠ 0) {k : ByteArray} (hk : k ∉ s.keys) (hg : k ∉ s.ghosts) :
    (s.outB k = true → (s.req k).ghosts.length ≤ s.ghosts.length + 1 ∧ min s.mo (s.ghosts.length + 1) ≤ (s.req k).ghosts.length) ∧ (s.outB k = false → (s.req k).ghosts = s.ghosts) ∧ (s.req k).w = s.w ∧ ∀ x ∈ (s.req k).ghosts, x ∈ s.ghosts ∨ x ∈ s.keys := by
  have hk1 : s.has k = false := inn_no.2 hk
  have e1 : s.outB k = s.tick.full := by unfold St.outB; rw [hk1, decide_eq_true hm]; rfl
  have er : s.tick.regret k = s.tick := regret_none (s := s.tick) hg
  refine ⟨fun ho => ?_, fun ho => ?_, req_w_none hm hg, ?_⟩
  · rw [e1] at ho
    have e : s.tick.make k = s.tick.evict := by unfold St.make; rw [if_pos ho, er]
    rw [req_miss hm hk1]
    unfold St.ghosts
    rw [(window_same _).2.2.2.2.2.1, (window_same _).2.2.2.2.2.2.1, e, List.length_append, List.length_append, gk_len, gk_len, gk_len, gk_len]
    have lA := h.lA
    have lB := h.lB
    unfold St.evict
    split
    · show (((s.A.vic, s.clock + 1) :: s.HA).take s.mo).length + s.HB.length ≤ _ ∧ _ ≤ (((s.A.vic, s.clock + 1) :: s.HA).take s.mo).length + s.HB.length
      rw [List.length_take, List.length_cons]; omega
    · show s.HA.length + (((s.B.vic, s.clock + 1) :: s.HB).take s.mo).length ≤ _ ∧ _ ≤ s.HA.length + (((s.B.vic, s.clock + 1) :: s.HB).take s.mo).length
      rw [List.length_take, List.length_cons]; omega
  · rw [e1] at ho
    have e : s.tick.make k = s.tick := by unfold St.make; rw [if_neg (by rw [ho]; simp), er]
    rw [req_miss hm hk1]
    unfold St.ghosts
    rw [(window_same _).2.2.2.2.2.1, (window_same _).2.2.2.2.2.2.1, e]; rfl
  · intro x hx
    rw [req_miss hm hk1] at hx
    unfold St.ghosts at hx
    rw [(window_same _).2.2.2.2.2.1, (window_same _).2.2.2.2.2.2.1] at hx
    have hx : x ∈ (s.tick.make k).ghosts := hx
    unfold St.make at hx
    rw [er] at hx
    split at hx
    · rename_i hf
      have hf2 : s.mo ≤ s.A.keys.length := of_decide_eq_true hf
      have hn : s.tick.A.keys ≠ [] := fun e => by
        have e : s.A.keys = [] := e
        rw [e, List.length_nil] at hf2; omega
      obtain ⟨_, _, _, h4, _⟩ := evict_ok (tick_ok h) hn
      rcases h4 x hx with g | g
      · exact Or.inl g
      · exact Or.inr (by rw [g]; exact evV_mem (s := s.tick) (tick_ok h) hn)
    · exact Or.inl hx

/-! The rate. -/
theorem req_rate5 (h5 : s.six = false) (k : ByteArray) : (s.req k).rate = s.rate := by
  have w5 : ∀ t : St, t.six = false → t.window = t := fun t ht => by unfold St.window; rw [if_pos ht]
  unfold St.req
  split
  · rfl
  · split
    · rw [w5 (s.tick.onHit k) h5]; rfl
    · rw [w5 ((s.tick.make k).both k) ((make_w s.tick k).2.1.trans h5)]; exact (make_w _ _).2.2.2
/-- Windows behind i requests. -/
structure Win (s : St) (i : Nat) : Prop where
  asked : s.asked = i % s.mo
  ends : s.ends = i / s.mo
  still : s.still ≤ s.ends - 1
theorem win_start (six : Bool) (m : Nat) (vs : List Nat) : Win (St.start six m vs) 0 := ⟨(Nat.zero_mod _).symm, (Nat.zero_div _).symm, Nat.le_refl _⟩
theorem mod_succ {i m : Nat} (hm : m ≠ 0) : (i % m + 1 < m → (i + 1) % m = i % m + 1 ∧ (i + 1) / m = i / m) ∧ (¬ i % m + 1 < m → (i + 1) % m = 0 ∧ (i + 1) / m = i / m + 1) := by
  have hd := Nat.div_add_mod i m
  have hl := Nat.mod_lt i (Nat.pos_of_ne_zero hm)
  refine ⟨fun h => ?_, fun h => ?_⟩
  · have e : i + 1 = (i % m + 1) + m * (i / m) := by omega
    rw [e, Nat.add_mul_mod_self_left, Nat.add_mul_div_left _ _ (Nat.pos_of_ne_zero hm), Nat.mod_eq_of_lt h, Nat.div_eq_of_lt h]
    exact ⟨rfl, Nat.zero_add _⟩
  · have e : i + 1 = 0 + m * (i / m + 1) := by rw [Nat.mul_add]; omega
    rw [e, Nat.add_mul_mod_self_left, Nat.add_mul_div_left _ _ (Nat.pos_of_ne_zero hm), Nat.zero_mod, Nat.zero_div]
    exact ⟨rfl, Nat.zero_add _⟩
theorem moved_near (d : Bool) {r : Nat} (h1 : slow ≤ r) (h2 : r ≤ one) : r - r / 4 ≤ St.moved d r ∧ St.moved d r ≤ r + r / 4 := by
  unfold St.moved
  split <;> omega
/-- One window's step, at the state where it is counted. -/
theorem win_step {t : St} {i : Nat} (h6 : t.six = true) (hm : t.mo ≠ 0) (hw : Win t i) (h1 : slow ≤ t.rate) (h2 : t.rate ≤ one) :
    Win t.window (i + 1) ∧ ((i + 1) % t.mo ≠ 0 → t.window.rate = t.rate) ∧ (i + 1 = t.mo → t.window.rate = t.rate) ∧ ((i + 1) / t.mo < 11 → t.rate - t.rate / 4 ≤ t.window.rate ∧ t.window.rate ≤ t.rate + t.rate / 4) := by
  obtain ⟨ha, he, hs⟩ := hw
  obtain ⟨m1, m2⟩ := mod_succ (i := i) hm
  have near : t.rate - t.rate / 4 ≤ t.rate ∧ t.rate ≤ t.rate + t.rate / 4 := by omega
  unfold St.window
  rw [if_neg (by rw [h6]; simp)]
  by_cases hlt : t.asked + 1 < t.mo
  · rw [if_pos hlt]
    rw [ha] at hlt
    obtain ⟨e1, e2⟩ := m1 hlt
    exact ⟨⟨by show t.asked + 1 = _; rw [ha, e1], by show t.ends = _; rw [e2]; exact he, hs⟩, fun _ => rfl, fun _ => rfl, fun _ => near⟩
  · rw [if_neg hlt]
    rw [ha] at hlt
    obtain ⟨e1, e2⟩ := m2 hlt
    have W : ∀ {u : St}, u.asked = 0 → u.ends = t.ends + 1 → u.mo = t.mo → u.still ≤ t.ends → Win u (i + 1) := by
      intro u a b c d
      exact ⟨by rw [a, c, e1], by rw [b, c, e2, he], by rw [b]; omega⟩
    by_cases h0 : t.ends = 0
    · rw [if_pos h0]
      exact ⟨W rfl rfl rfl (by show t.still ≤ _; omega), fun _ => rfl, fun _ => rfl, fun _ => near⟩
    · rw [if_neg h0]
      have hi : i + 1 ≠ t.mo := fun e => by
        rw [e, Nat.div_self (Nat.pos_of_ne_zero hm), ← he] at e2
        omega
      have hz : ¬ (i + 1) % t.mo ≠ 0 := fun e => e e1
      by_cases hh : t.hits = t.last
      · rw [if_pos hh]
        by_cases h9 : t.still = 9
        · rw [if_pos h9]
          refine ⟨W rfl rfl rfl (Nat.zero_le _), fun e => absurd e hz, fun e => absurd e hi, fun e => ?_⟩
          rw [e2, ← he] at e
          omega
        · rw [if_neg h9]
          exact ⟨W rfl rfl rfl (by show t.still + 1 ≤ t.ends; omega), fun _ => rfl, fun _ => rfl, fun _ => near⟩
      · rw [if_neg hh]
        exact ⟨W rfl rfl rfl (Nat.zero_le _), fun e => absurd e hz, fun e => absurd e hi, fun _ => moved_near _ h1 h2⟩
theorem req_win (h : Ok s) (h6 : s.six = true) (hm : s.mo ≠ 0) {i : Nat} (hw : Win s i) (k : ByteArray) :
    Win (s.req k) (i + 1) ∧ ((i + 1) % s.mo ≠ 0 → (s.req k).rate = s.rate) ∧ (i + 1 = s.mo → (s.req k).rate = s.rate) ∧ ((i + 1) / s.mo < 11 → s.rate - s.rate / 4 ≤ (s.req k).rate ∧ (s.req k).rate ≤ s.rate + s.rate / 4) := by
  cases hk : s.has k with
  | true =>
    rw [req_hit hm hk]
    exact win_step (t := s.tick.onHit k) h6 hm ⟨hw.asked, hw.ends, hw.still⟩ h.rl h.rh
  | false =>
    rw [req_miss hm hk]
    have e : ∀ k, (s.tick.make k).asked = s.asked ∧ (s.tick.make k).ends = s.ends ∧ (s.tick.make k).still = s.still := by
      intro k
      unfold St.make St.evict
      (repeat' split) <;> exact ⟨rfl, rfl, rfl⟩
    obtain ⟨a, b, c, d⟩ := make_w s.tick k
    obtain ⟨x, y, z⟩ := e k
    have c : (s.tick.make k).mo = s.mo := c
    have d : (s.tick.make k).rate = s.rate := d
    have := win_step (t := (s.tick.make k).both k) (i := i) (b.trans h6) (by show (s.tick.make k).mo ≠ 0; rw [c]; exact hm) ⟨by show (s.tick.make k).asked = i % (s.tick.make k).mo; rw [x, c]; exact hw.asked, by show (s.tick.make k).ends = i / (s.tick.make k).mo; rw [y, c]; exact hw.ends, by show (s.tick.make k).still ≤ (s.tick.make k).ends - 1; rw [z, y]; exact hw.still⟩ (by show slow ≤ (s.tick.make k).rate; rw [d]; exact h.rl) (by show (s.tick.make k).rate ≤ one; rw [d]; exact h.rh)
    have em : ((s.tick.make k).both k).mo = s.mo := c
    have er : ((s.tick.make k).both k).rate = s.rate := d
    rw [em, er] at this
    exact this
end
end Go.Proofs.YtnlckkahkghneaaGreatDoor.LE
