/- The target's bounds, what a request leaves of who went; a cache and a call beside it; the laws' own helper Few. -/
import Derived.Test.YtmnflcidcoejiaaCut7
namespace Go.Proofs.Ytmnflcidcoejiaa
open Go.RowKit Sg

/-- A has no more than the target, or one; the target is at least 1, where there is room for two. -/
structure Aim (s : St) : Prop where
  a : s.A.length ≤ mx s.t
  t : 2 ≤ s.mo → 1 ≤ s.t
section
variable {s : St} {k x : ByteArray}
theorem aim_start (n : Nat) : Aim (St.start n) := ⟨Nat.zero_le _, fun h => by have h : 2 ≤ n := h; show 1 ≤ n / 2; omega⟩
theorem mx_up {mo t : Nat} : mx t ≤ mx (upT mo t) := by unfold mx upT; split <;> omega
theorem prom_len (s : St) (k : ByteArray) : (s.prom k).A.length ≤ mx (s.prom k).t := by
  show ((k :: s.A).take (mx s.t)).length ≤ mx s.t
  rw [List.length_take]; omega
theorem Aim.req (h : Aim s) (p : Ok s) (k : ByteArray) : Aim (s.req k) := by
  have hA : s.A.Nodup := by have := p.nd; unfold St.all at this; exact (List.nodup_append.1 (List.nodup_append.1 this).1).1
  unfold St.req
  split
  · exact h
  · split
    · rename_i hk
      refine ⟨?_, h.t⟩
      show (k :: rem s.A k).length ≤ mx s.t
      have := rem_len hA (inn_iff.1 hk)
      have := h.a
      rw [List.length_cons]; omega
    · split
      · refine ⟨prom_len _ _, fun hm => ?_⟩
        have := h.t hm
        show 1 ≤ (if s.f k = true then upT s.mo s.t else s.t)
        split
        · unfold upT; split <;> omega
        · omega
      · split
        · refine ⟨prom_len _ _, fun hm => ?_⟩
          have := h.t hm
          show 1 ≤ (if s.f k = true then s.t else dnT s.t)
          split
          · omega
          · unfold dnT; split <;> omega
        · refine ⟨?_, h.t⟩
          show (cutA (s.mo - 1) s.N s.A).length ≤ mx s.t
          have := h.a
          unfold cutA
          rw [List.length_take]; omega
theorem Aim.rm (h : Aim s) (k : ByteArray) : Aim (s.rm k) := ⟨by have := h.a; have := rem_le s.A k; show (rem s.A k).length ≤ mx s.t; omega, h.t⟩
theorem Aim.ad (h : Aim s) (k : ByteArray) : Aim (s.ad k) := by
  unfold St.ad
  split
  · exact ⟨h.a, h.t⟩
  · exact h
theorem Aim.dr (h : Aim s) : Aim s.dr := ⟨by have := h.a; have := (dA_sub s.N s.A).length_le; show (dA s.N s.A).length ≤ mx s.t; omega, h.t⟩
theorem ghost_no (p : Ok s) (h : x ∈ s.G) : s.hit x = false := by
  have hnd := p.nd
  unfold St.all at hnd
  have hd := (List.nodup_append.1 hnd).2.2
  unfold St.hit
  rw [inn_no.2 fun h2 => hd _ (List.mem_append_right _ h2) _ h rfl, inn_no.2 fun h2 => hd _ (List.mem_append_left _ h2) _ h rfl]; rfl
theorem hit_of {s : St} {k : ByteArray} (h : k ∈ s.A ++ s.N) : s.hit k = true := by
  unfold St.hit
  rcases List.mem_append.1 h with h | h
  · rw [inn_iff.2 h, Bool.or_true]
  · rw [inn_iff.2 h]; rfl
theorem prom_hit (s : St) (k : ByteArray) : (s.prom k).hit k = true := by
  refine hit_of ?_
  show k ∈ (k :: s.A).take (mx s.t) ++ ((k :: s.A).drop (mx s.t) ++ s.N)
  rw [← List.append_assoc, List.take_append_drop]
  exact List.mem_append_left _ List.mem_cons_self
theorem req_hit (hm : s.mo ≠ 0) (k : ByteArray) : (s.req k).hit k = true := by
  unfold St.req
  rw [if_neg hm]
  split
  · exact hit_of (List.mem_append_left _ List.mem_cons_self)
  · split
    · exact prom_hit _ _
    · split
      · exact prom_hit _ _
      · exact hit_of (List.mem_append_right _ List.mem_cons_self)
theorem hit_out (h : s.hit k = true) : s.out k = false := by unfold St.out; rw [h]; simp
theorem req_gone (p : Ok s) (h : s.out k = true) : ∃ G', (s.req k).G = s.vic k :: G' := by
  have h0 := h
  unfold St.out at h
  simp only [Bool.and_eq_true, decide_eq_true_eq, Bool.not_eq_true'] at h
  obtain ⟨⟨hm, hh⟩, hf⟩ := h
  have hle := p.le
  have hh2 := hh
  unfold St.hit at hh2
  rw [Bool.or_eq_false_iff] at hh2
  have hv : s.vic k = lastKey (s.A ++ s.N) := by unfold St.vic; rw [if_pos h0]
  have hg : gone (s.mo - 1) s.N s.A = 1 := by unfold gone; omega
  have hL : (s.A ++ s.N).length = s.A.length + s.N.length := List.length_append
  have hd : (s.A ++ s.N).drop (s.A.length + s.N.length - 1) = [lastKey (s.A ++ s.N)] := by
    have h1 := (gone_row (L := s.A ++ s.N) (j := 0) (by omega)).1
    rw [hL] at h1
    rw [show s.A.length + s.N.length - (0 + 1) = s.A.length + s.N.length - 1 by omega] at h1
    rw [h1, Nat.sub_zero, List.drop_of_length_le (by omega)]
    unfold lastKey
    rw [List.getLastD_eq_getLast?, List.getLast?_eq_getElem?, List.getD_eq_getElem?_getD, hL]
  have key : ∀ G, ∃ G', (cutQ (s.mo - 1) s.N s.A G).take s.mo = s.vic k :: G' := fun G => by
    unfold cutQ
    rw [hg, hd, hv]
    obtain ⟨m, hm2⟩ : ∃ m, s.mo = m + 1 := ⟨s.mo - 1, by omega⟩
    rw [hm2]
    exact ⟨_, rfl⟩
  unfold St.req
  rw [if_neg hm, if_neg (by rw [hh2.2]; simp), if_neg (by rw [hh2.1]; simp)]
  split
  · exact key (rem s.G k)
  · exact key s.G
theorem rm_hit (s : St) (k : ByteArray) : (s.rm k).hit k = false := by
  unfold St.hit
  rw [show (s.rm k).N = rem s.N k from rfl, show (s.rm k).A = rem s.A k from rfl, inn_no.2 rem_not, inn_no.2 rem_not]; rfl
theorem rm_ghost (s : St) (k : ByteArray) : inn (s.rm k).G k = false := inn_no.2 rem_not
theorem rm_mo (s : St) (k : ByteArray) : (s.rm k).mo = s.mo := rfl
theorem ad_mo (s : St) (k : ByteArray) : (s.ad k).mo = s.mo := by unfold St.ad; split <;> rfl
theorem dr_mo (s : St) : s.dr.mo = s.mo := rfl
end

/-- A cache, and the call that is gone through in block ga. -/
structure TA (w0 W : World) (c : Nat) (T : Nat → Prop) (s : St) (b ga : Nat) (kd : Int) (key : ByteArray) (nn : Int) : Prop where
  live : Live w0 W c T s b
  act : W.heap[ga]? = some (.cells #[.int .i64 kd, .string key, .int .i64 nn] 32 (0, 0))
  away : ¬ T ga
section
variable {w0 W W' : World} {c b ga b' : Nat} {T T' : Nat → Prop} {s s' : St} {r : Value} {kd nn : Int} {key : ByteArray} {e : Ending}
theorem TA.alt (a : TA w0 W c T s b ga kd key nn) : ga < W.heap.size := (Array.getElem?_eq_some_iff.1 a.act).1
theorem TA.below (a : TA w0 W c T s b ga kd key nn) (hb : Below W.heap.size W W') : TA w0 W' c T s b ga kd key nn := ⟨a.live.below hb, (hb.block ga a.alt).trans a.act, a.away⟩
theorem TA.made (l : Live w0 W c T s b) (kd : Int) (key : ByteArray) (nn : Int) : TA w0 (W.alloc (.cells #[.int .i64 kd, .string key, .int .i64 nn] 32)) c T s b W.heap.size kd key nn :=
  ⟨l.below ((Below.refl W.heap.size W).alloc (Nat.le_refl _) _), heap_alloc_new _ _, fun hk => by have := l.lt _ hk; omega⟩
theorem TA.op (a : TA w0 W c T s b ga kd key nn) (hp : CaPost r W c T s' b' e W') : e = .returned r ∧ ∃ T', TA w0 W' c T' s' b' ga kd key nn := by
  obtain ⟨he, T', h1, h2⟩ := a.live.op hp
  have o := went_out h2 a.alt a.away
  exact ⟨he, T', h1, o.1.trans a.act, o.2⟩
theorem TA.k (a : TA w0 W c T s b ga kd key nn) : W.cell? ⟨ga, 0, none⟩ = some (.int .i64 kd) ∧ W.cell? ⟨ga, 1, none⟩ = some (.string key) ∧ W.cell? ⟨ga, 2, none⟩ = some (.int .i64 nn) :=
  ⟨cell_of_row W _ 0 _ _ _ a.act, cell_of_row W _ 1 _ _ _ a.act, cell_of_row W _ 2 _ _ _ a.act⟩
theorem TA.mono (a : TA w0 W c T s b ga kd key nn) (hb : b ≤ b') : TA w0 W c T s b' ga kd key nn := ⟨⟨a.live.ca.mono hb, a.live.bel, a.live.low⟩, a.act, a.away⟩
end

/-- Few, told by what it leaves open alone. -/
def FewPost (n : Nat) (w : World) (e : Ending) (w' : World) : Prop := ∃ t : Bool, e = .returned (.bool t) ∧ w = w' ∧ (t = true → n ≤ 200)
theorem few_any (A : Option Addr) (n cc : Nat) (w : World) (S : Nat → ByteArray) (hn : n ≤ maxLen) (hS : ∀ i, i < n → (S i).size ≤ maxLen)
    (hc : 0 < n → ∃ g o, A = some ⟨g, o, none⟩ ∧ g < w.heap.size ∧ n ≤ cc ∧ cc ≤ maxLen ∧ ∀ i, i < n → w.cell? ⟨g, o + i * 3 + 1, none⟩ = some (.string (S i))) :
    Calls Try.prog 9 #[.slice A n cc] w (FewPost n w) := by
  have HC := Lib.hid hc
  have HS := Lib.hid hS
  unfold maxLen at hn
  clear hc hS
  go_enter Try.func9, Try.ntmps9
  go_wp2_with fail
  go_loop [3] (fun i => ∃ k : Nat, i = .int .i64 (k : Int) ∧ k ≤ n ∧ k ≤ 200) (fun i => n - (intOf i).toNat)
  case atStart => exact ⟨0, rfl, Nat.zero_le _, by omega⟩
  case round =>
    obtain ⟨k, rfl, hk, hk2⟩ := hrel
    by_cases hlt : k < n
    · have e0 : decide (k < n) = true := by simpa using hlt
      obtain ⟨g, o, rfl, hg, hc1, hc2, hcell⟩ := HC.out (by omega)
      have h1 := hcell k hlt
      have hsk := HS.out k hlt
      clear hcell
      unfold maxLen at hc2 hsk
      by_cases hb : k < 200
      · have e1 : decide (200 ≤ (k : Int)) = false := by simp; omega
        by_cases hbig : (S k).size ≤ 200
        · have e2 : decide (200 < ((S k).size : Int)) = false := by simp; omega
          go_wp2_with fail
          go_round
          case rel => exact ⟨k + 1, by go_num, by omega, by omega⟩
          case measure => simp [intOf]; omega
        · have e2 : decide (200 < ((S k).size : Int)) = true := by simp; omega
          go_wp2_with fail
          go_ret
          exact ⟨false, rfl, rfl, fun h => by cases h⟩
      · have e1 : decide (200 ≤ (k : Int)) = true := by simp; omega
        go_wp2_with fail
        go_ret
        exact ⟨false, rfl, rfl, fun h => by cases h⟩
    · have e0 : decide (k < n) = false := by simpa using hlt
      go_wp2_with fail
      go_ret
      exact ⟨true, rfl, rfl, fun _ => by omega⟩
end Go.Proofs.Ytmnflcidcoejiaa
