/- What goes for a key isn't resident then; a cache and the call that is gone through; a set of keys beside a cache; layer 5's Few. -/
import Derived.Test.YtlmbeiijijkjeaaSeen8
namespace Go.Proofs.Ytlmbeiijijkjeaa
open Go.RowKit Sg

section
variable {s : St} {k : ByteArray}
theorem rm_hit (R : Rw4) (k : ByteArray) : hit (rmR R k) k = false := hit_no.2 ⟨rem_not, rem_not⟩
theorem new_gone (h : Ok s) (hm : s.mo ≠ 0) (hh : hit s.R k = false) (h2 : inn (s.R 2) k = false) (h3 : inn (s.R 3) k = false) :
    ∀ x ∈ s.vs k, hit (s.req k).R x = false := by
  intro x hx
  have n1 : ¬ hit s.R k = true := by rw [hh]; simp
  have n2 : ¬ inn (s.R 2) k = true := by rw [h2]; simp
  have n3 : ¬ inn (s.R 3) k = true := by rw [h3]; simp
  have e : s.req k = ⟨s.mo, s.p, putR (cutn s.p false (plR s.mo s.R) (lenR (plR s.mo s.R) - (s.mo - 1))) k 0⟩ := by unfold St.req; rw [if_neg hm, if_neg n1, if_neg n2, if_neg n3]
  have ev : s.vs k = plV s.mo s.R ++ outs s.p false (plR s.mo s.R) (lenR (plR s.mo s.R) - (s.mo - 1)) := by unfold St.vs; rw [if_neg hm, if_neg n1, if_neg n2, if_neg n3]
  rw [ev] at hx
  obtain ⟨p1, p2, p3, p4, p5⟩ := pl_ok h hm
  have hk0 := hit_no.1 hh
  rcases List.mem_append.1 hx with hx | hx
  · -- T1's last one, without a ghost
    unfold plV at hx
    by_cases c1 : (s.R 0).length + (s.R 2).length < s.mo
    · rw [if_pos c1] at hx; cases hx
    rw [if_neg c1] at hx
    by_cases c2 : (s.R 0).length < s.mo
    · rw [if_pos c2] at hx; cases hx
    rw [if_neg c2, List.mem_singleton] at hx
    have g1 := h.le
    have hpl : plR s.mo s.R = upd s.R 0 (s.R 0).dropLast := by unfold plR; rw [if_neg c1, if_neg c2]
    have hz : lenR (upd s.R 0 (s.R 0).dropLast) - (s.mo - 1) = 0 := by unfold lenR at *; simp [upd]; omega
    have hpos : 0 < (s.R 0).length := by omega
    have hxm : x ∈ s.R 0 := hx ▸ last_mem hpos
    have hne : x ≠ k := fun e => hk0.1 (e ▸ hxm)
    rw [e, hpl, hz]
    show hit (putR (upd s.R 0 (s.R 0).dropLast) k 0) x = false
    rw [hit_no, put_at, put_ne (by omega), upd_same, upd_ne (by omega)]
    refine ⟨fun hc => ?_, fun hc => ?_⟩
    · rcases List.mem_cons.1 hc with hc | hc
      · exact hne hc
      · have := (rem_mem.1 hc).1
        rw [hx] at this
        exact last_out (h.pre.nd 0 (by omega)) hpos this
    · have := h.pre.dis 0 1 (by omega) (by omega) x hxm (rem_mem.1 hc).1
      omega
  · obtain ⟨g1, g2⟩ := outs_in p1 (by omega) x hx
    have hne : x ≠ k := fun e => by
      subst e
      exact g2.elim (fun hc => hk0.1 ((p2 0 (by omega)).subset hc)) fun hc => hk0.2 ((p2 1 (by omega)).subset hc)
    have hok := h.req k
    refine ghost_hit hok ?_
    rw [e]
    show x ∈ putR _ k 0 2 ∨ x ∈ putR _ k 0 3
    rw [put_ne (by omega), put_ne (by omega)]
    exact g1.imp (fun h => rem_mem.2 ⟨h, hne⟩) fun h => rem_mem.2 ⟨h, hne⟩
theorem vic_gone (h : Ok s) (hm : s.mo ≠ 0) (ho : (!(s.vs k).isEmpty) = true) : hit s.R k = false ∧ hit (s.req k).R (vicOf (s.vs k)) = false := by
  have hv := vic_in ho
  cases hh : hit s.R k with
  | true =>
    have : s.vs k = [] := by unfold St.vs; rw [if_neg hm, if_pos hh]
    rw [this] at ho; cases ho
  | false =>
  refine ⟨rfl, ?_⟩
  have ghost : (k ∈ s.R 2 ∨ k ∈ s.R 3) → hit (s.req k).R (vicOf (s.vs k)) = false := fun hk => by
    obtain ⟨v, o, hst, hin, _⟩ := back_all h hm hk
    unfold St.step at hst
    injection hst with hst
    have e1 := congrArg (fun a : Array Value => a[1]?) hst
    have e2 := congrArg (fun a : Array Value => a[2]?) hst
    simp only [List.getElem?_toArray, List.getElem?_cons_succ, List.getElem?_cons_zero, Option.some.injEq, Value.string.injEq, Value.bool.injEq] at e1 e2
    rw [e1]
    rw [e2] at ho
    have := hin ho
    rw [inn_iff] at this
    exact ghost_hit (h.req k) (List.mem_append.1 this)
  cases h2 : inn (s.R 2) k with
  | true => exact ghost (Or.inl (inn_iff.1 h2))
  | false =>
  cases h3 : inn (s.R 3) k with
  | true => exact ghost (Or.inr (inn_iff.1 h3))
  | false => exact new_gone h hm hh h2 h3 _ hv
theorem ad_mo (s : St) (k : ByteArray) : (s.ad k).mo = s.mo := by unfold St.ad; split <;> rfl
theorem vs_old (h : Ok s) (hm : s.mo ≠ 0) : ∀ x ∈ s.vs k, x ∈ s.R 0 ∨ x ∈ s.R 1 := by
  intro x hx
  unfold St.vs at hx
  rw [if_neg hm] at hx
  split at hx
  · cases hx
  split at hx
  · exact (outs_in h.pre (by omega) x hx).2
  split at hx
  · exact (outs_in h.pre (by omega) x hx).2
  obtain ⟨p1, p2, _⟩ := pl_ok h hm
  rcases List.mem_append.1 hx with hx | hx
  · unfold plV at hx
    split at hx
    · cases hx
    split at hx
    · cases hx
    · rename_i c2
      rw [List.mem_singleton] at hx
      exact Or.inl (hx ▸ last_mem (by omega))
  · exact (outs_in p1 (by omega) x hx).2.imp (fun hc => (p2 0 (by omega)).subset hc) fun hc => (p2 1 (by omega)).subset hc
theorem vic_small {w : World} {c b : Nat} {T : Nat → Prop} (h : Ca w c T s b) (hm : s.mo ≠ 0) (ho : (!(s.vs k).isEmpty) = true) : (vicOf (s.vs k)).size ≤ maxLen :=
  (vs_old h.ok hm _ (vic_in ho)).elim (h.small 0 (by omega) _) (h.small 1 (by omega) _)
theorem zero_step (h : Ok s) (hm : s.mo = 0) : s.step k = .agg #[.bool false, .string ⟨#[]⟩, .bool false] := by
  obtain ⟨z0, z1⟩ := h.zero hm
  unfold St.step St.vs
  rw [if_pos hm, hit_no.2 ⟨by rw [z0]; simp, by rw [z1]; simp⟩]; rfl
/-- All keys, residents ahead: none twice; those ahead are resident, the others not. -/
theorem all_nodup (h : Ok s) : (keysL s.R ++ ghL s.R).Nodup := by
  unfold keysL ghL
  have d := h.pre.dis
  rw [List.nodup_append]
  refine ⟨((List.reverse_perm (s.R 1 ++ s.R 0)).nodup_iff).2 (List.nodup_append.2 ⟨h.pre.nd 1 (by omega), h.pre.nd 0 (by omega), fun a ha b hb e => ?_⟩), List.nodup_append.2 ⟨h.pre.nd 2 (by omega), h.pre.nd 3 (by omega), fun a ha b hb e => ?_⟩, fun a ha b hb e => ?_⟩
  · subst e; have := d 1 0 (by omega) (by omega) a ha hb; omega
  · subst e; have := d 2 3 (by omega) (by omega) a ha hb; omega
  · subst e
    rw [List.mem_reverse, List.mem_append] at ha
    rw [List.mem_append] at hb
    rcases ha with ha | ha <;> rcases hb with hb | hb
    · have := d 1 2 (by omega) (by omega) a ha hb; omega
    · have := d 1 3 (by omega) (by omega) a ha hb; omega
    · have := d 0 2 (by omega) (by omega) a ha hb; omega
    · have := d 0 3 (by omega) (by omega) a ha hb; omega
theorem all_hit (h : Ok s) {j : Nat} (hj : j < (keysL s.R ++ ghL s.R).length) : hit s.R ((keysL s.R ++ ghL s.R).getD j ⟨#[]⟩) = decide (j < lenR s.R) := by
  rw [List.length_append, keysL_len] at hj
  rw [List.getD_eq_getElem?_getD]
  by_cases hl : j < lenR s.R
  · rw [decide_eq_true hl, List.getElem?_append_left (by rw [keysL_len]; exact hl), List.getElem?_eq_getElem (by rw [keysL_len]; exact hl)]
    exact keysL_mem.1 (List.getElem_mem _)
  · rw [decide_eq_false hl, List.getElem?_append_right (by rw [keysL_len]; omega), List.getElem?_eq_getElem (by rw [keysL_len]; omega)]
    exact ghost_hit h (List.mem_append.1 (List.getElem_mem _))
theorem gh_len (h : Ok s) : (ghL s.R).length ≤ 2 * s.mo := by
  have := h.tl
  unfold totR at this
  unfold ghL
  rw [List.length_append]; omega
theorem all_len (s : St) : (keysL s.R ++ ghL s.R).length = totR s.R := by
  unfold keysL ghL totR
  rw [List.length_append, List.length_reverse, List.length_append, List.length_append]; omega
end
theorem take_add {ys : List ByteArray} (h : ys.Nodup) {k : Nat} (hk : k < ys.length) : inn (ys.take k) (ys.getD k ⟨#[]⟩) = false ∧ add (ys.take k) (ys.getD k ⟨#[]⟩) = ys.take (k + 1) := by
  have hn : ys.getD k ⟨#[]⟩ ∉ ys.take k := fun hm => by
    have h2 := h.sublist (List.take_sublist (k + 1) ys)
    rw [take_snoc ys k ⟨#[]⟩ hk] at h2
    exact (List.nodup_append.1 h2).2.2 _ hm _ (List.mem_singleton.2 rfl) rfl
  have hi := inn_no.2 hn
  refine ⟨hi, ?_⟩
  unfold add
  rw [hi, take_snoc ys k ⟨#[]⟩ hk]; rfl

/-- A row and a set of its first k keys beside a cache. -/
structure Bnd (w0 W : World) (c : Nat) (T : Nat → Prop) (s : St) (b g mb : Nat) (v : Value) (ys : List ByteArray) (k : Nat) : Prop where
  live : Live w0 W c T s b
  row : Row W g v ys
  seen : Seen W mb (ys.take k)
  gm : ys ≠ [] → g ≠ mb
  mT : ¬ T mb
  low : w0.heap.size ≤ mb
section
variable {w0 W W' : World} {c b g mb k k' : Nat} {T : Nat → Prop} {s : St} {v : Value} {ys : List ByteArray}
theorem Bnd.below (h : Bnd w0 W c T s b g mb v ys k) (hb : Below W.heap.size W W') : Bnd w0 W' c T s b g mb v ys k :=
  ⟨h.live.below hb, h.row.below hb, h.seen.same (hb.block mb h.seen.lt), h.gm, h.mT, h.low⟩
theorem Bnd.store (h : Bnd w0 W c T s b g mb v ys k) (hn : ys.Nodup) (hk : k < ys.length) {x : ByteArray} (hx : x = ys.getD k ⟨#[]⟩) (hs : x.size ≤ maxLen) (hl : ys.length ≤ 1000) :
    ∃ W', (Instr.mapUpdate 38 (.map (some mb)) (.string x) (.bool true)).run Try.prog W = .ok () W' ∧ Bnd w0 W' c T s b g mb v ys (k + 1) := by
  obtain ⟨W', hrun, hS, hg⟩ := h.seen.store hs (by rw [List.length_take]; omega)
  rw [hx, (take_add hn hk).2] at hS
  have hT : Turn (fun j => j = mb) W W' := ⟨hg.os, hg.tape, hg.output, hg.size, fun i hi hne => hg.block i hi (by simpa using hne)⟩
  have hne : ys ≠ [] := fun e => by rw [e] at hk; exact Nat.not_lt_zero _ hk
  have hgl : g < W.heap.size := h.row.lt hne
  exact ⟨W', hrun, ⟨⟨h.live.ca.beside hT fun j hj e => h.mT (e ▸ hj), h.live.bel.trans (hT.below (fun j e => e ▸ h.low) h.live.bel.size), h.live.low⟩, h.row.same hg.size fun _ => hT.block g hgl (h.gm hne), hS, h.gm, h.mT, h.low⟩⟩
end

/-- A cache, and the call that is gone through in block ga. -/
structure TA (w0 W : World) (c : Nat) (T : Nat → Prop) (s : St) (b ga : Nat) (kd : Int) (key : ByteArray) (nn : Int) : Prop where
  live : Live w0 W c T s b
  act : W.heap[ga]? = some (.cells #[.int .i64 kd, .string key, .int .i64 nn] 28 (0, 0))
  away : ¬ T ga
section
variable {w0 W W' : World} {c b ga b' : Nat} {T T' : Nat → Prop} {s s' : St} {r : Value} {kd nn : Int} {key : ByteArray} {e : Ending}
theorem TA.alt (a : TA w0 W c T s b ga kd key nn) : ga < W.heap.size := (Array.getElem?_eq_some_iff.1 a.act).1
theorem TA.below (a : TA w0 W c T s b ga kd key nn) (hb : Below W.heap.size W W') : TA w0 W' c T s b ga kd key nn := ⟨a.live.below hb, (hb.block ga a.alt).trans a.act, a.away⟩
theorem TA.made (l : Live w0 W c T s b) (kd : Int) (key : ByteArray) (nn : Int) : TA w0 (W.alloc (.cells #[.int .i64 kd, .string key, .int .i64 nn] 28)) c T s b W.heap.size kd key nn :=
  ⟨l.below ((Below.refl W.heap.size W).alloc (Nat.le_refl _) _), heap_alloc_new _ _, fun hk => by have := l.lt _ hk; omega⟩
theorem TA.op (a : TA w0 W c T s b ga kd key nn) (hp : CaPost r W c T s' b' e W') : e = .returned r ∧ ∃ T', TA w0 W' c T' s' b' ga kd key nn := by
  obtain ⟨he, T', h1, h2⟩ := a.live.op hp
  have o := went_out h2 a.alt a.away
  exact ⟨he, T', h1, o.1.trans a.act, o.2⟩
theorem TA.went (a : TA w0 W c T s b ga kd key nn) (hc : Ca W' c T' s' b') (hW : Went W W' T T') : TA w0 W' c T' s' b' ga kd key nn := by
  have o := went_out hW a.alt a.away
  exact ⟨a.live.went hc hW, o.1.trans a.act, o.2⟩
theorem TA.k (a : TA w0 W c T s b ga kd key nn) : W.cell? ⟨ga, 0, none⟩ = some (.int .i64 kd) ∧ W.cell? ⟨ga, 1, none⟩ = some (.string key) ∧ W.cell? ⟨ga, 2, none⟩ = some (.int .i64 nn) :=
  ⟨cell_of_row W _ 0 _ _ _ a.act, cell_of_row W _ 1 _ _ _ a.act, cell_of_row W _ 2 _ _ _ a.act⟩
theorem TA.mono (a : TA w0 W c T s b ga kd key nn) (hb : b ≤ b') : TA w0 W c T s b' ga kd key nn := ⟨⟨a.live.ca.mono hb, a.live.bel, a.live.low⟩, a.act, a.away⟩
end

/-- Few, told by what it leaves open alone. -/
def FewPost (n : Nat) (w : World) (e : Ending) (w' : World) : Prop := ∃ t : Bool, e = .returned (.bool t) ∧ w = w' ∧ (t = true → n ≤ 200)
theorem few_any (A : Option Addr) (n cc : Nat) (w : World) (S : Nat → ByteArray) (hn : n ≤ maxLen) (hS : ∀ i, i < n → (S i).size ≤ maxLen)
    (hc : 0 < n → ∃ g o, A = some ⟨g, o, none⟩ ∧ g < w.heap.size ∧ n ≤ cc ∧ cc ≤ maxLen ∧ ∀ i, i < n → w.cell? ⟨g, o + i * 3 + 1, none⟩ = some (.string (S i))) :
    Calls Try.prog 8 #[.slice A n cc] w (FewPost n w) := by
  have HC := Lib.hid hc
  have HS := Lib.hid hS
  unfold maxLen at hn
  clear hc hS
  go_enter Try.func8, Try.ntmps8
  go_wp2_with fail
  go_loop [3] (fun i => ∃ k : Nat, i = .int .i64 (k : Int) ∧ k ≤ n ∧ k ≤ 200) (fun i => n - (intOf i).toNat)
  case atStart => exact ⟨0, rfl, Nat.zero_le _, by omega⟩
  case round =>
    obtain ⟨k, rfl, hk, hk2⟩ := hrel
    by_cases hlt : k < n
    · have e0 : decide (k < n) = true := by simpa using hlt
      obtain ⟨g, o, rfl, hg, hc1, hc2, hcell⟩ := HC.out (by omega)
      have h1 := hcell k hlt
      have hsk := HS.out k hlt
      clear hcell
      unfold maxLen at hc2 hsk
      by_cases hb : k < 200
      · have e1 : decide (200 ≤ (k : Int)) = false := by simp; omega
        by_cases hbig : (S k).size ≤ 200
        · have e2 : decide (200 < ((S k).size : Int)) = false := by simp; omega
          go_wp2_with fail
          go_round
          case rel => exact ⟨k + 1, by go_num, by omega, by omega⟩
          case measure => simp [intOf]; omega
        · have e2 : decide (200 < ((S k).size : Int)) = true := by simp; omega
          go_wp2_with fail
          go_ret
          exact ⟨false, rfl, rfl, fun h => by cases h⟩
      · have e1 : decide (200 ≤ (k : Int)) = true := by simp; omega
        go_wp2_with fail
        go_ret
        exact ⟨false, rfl, rfl, fun h => by cases h⟩
    · have e0 : decide (k < n) = false := by simpa using hlt
      go_wp2_with fail
      go_ret
      exact ⟨true, rfl, rfl, fun _ => by omega⟩

end Go.Proofs.Ytlmbeiijijkjeaa
