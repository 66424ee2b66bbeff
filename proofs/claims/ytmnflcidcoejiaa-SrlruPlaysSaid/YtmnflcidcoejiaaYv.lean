/- What the calls of a cache of two rows leave, as plain lists; a cache whose blocks are T, and its calls. -/
import Derived.Test.YtmnflcidcoejiaaYu
namespace Go.Proofs.Ytmnflcidcoejiaa
open Go.RowKit Sg

structure St where
  mo : Nat
  t : Nat
  N : List ByteArray
  A : List ByteArray
  G : List ByteArray
  f : Told
def St.all (s : St) : List ByteArray := s.A ++ s.N ++ s.G
structure Pre (E : ByteArray → Prop) (s : St) : Prop where
  nd : s.all.Nodup
  fin : ∀ x, s.f x = true → E x ∨ x ∈ s.all
  fA : ∀ x ∈ s.A, s.f x = true
structure Ok (s : St) : Prop extends Pre (fun _ => False) s where
  le : s.A.length + s.N.length ≤ s.mo
  gl : s.G.length ≤ s.mo
  tl : s.t ≤ s.mo
def St.tot (s : St) : Nat := s.A.length + s.N.length + s.G.length
def St.hit (s : St) (k : ByteArray) : Bool := inn s.N k || inn s.A k
def St.cut (s : St) (n : Nat) : St := ⟨s.mo, s.t, cutN n s.N s.A, cutA n s.N s.A, (cutQ n s.N s.A s.G).take s.mo, tcut s.f ((cutQ n s.N s.A s.G).drop s.mo)⟩
def St.prom (s : St) (k : ByteArray) : St := ⟨s.mo, s.t, (k :: s.A).drop (mx s.t) ++ s.N, (k :: s.A).take (mx s.t), s.G, tput s.f k⟩
def St.onN (s : St) (k : ByteArray) : St := ⟨s.mo, if s.f k = true then upT s.mo s.t else s.t, rem s.N k, s.A, s.G, s.f⟩
def St.onG (s : St) (k : ByteArray) : St := ⟨s.mo, if s.f k = true then s.t else dnT s.t, s.N, s.A, rem s.G k, s.f⟩
def St.onA (s : St) (k : ByteArray) : St := ⟨s.mo, s.t, s.N, k :: rem s.A k, s.G, s.f⟩
def St.fr (s : St) (k : ByteArray) : St := ⟨s.mo, s.t, k :: s.N, s.A, s.G, s.f⟩
def St.req (s : St) (k : ByteArray) : St :=
  if s.mo = 0 then s
  else if inn s.A k = true then s.onA k
  else if inn s.N k = true then (s.onN k).prom k
  else if inn s.G k = true then ((s.onG k).cut (s.mo - 1)).prom k
  else (s.cut (s.mo - 1)).fr k
def St.out (s : St) (k : ByteArray) : Bool := decide (s.mo ≠ 0) && !s.hit k && decide (s.mo ≤ s.A.length + s.N.length)
def St.vic (s : St) (k : ByteArray) : ByteArray := if s.out k = true then lastKey (s.A ++ s.N) else ⟨#[]⟩
def St.step (s : St) (k : ByteArray) : Value := .agg #[.bool (s.hit k), .string (s.vic k), .bool (s.out k)]
def St.rm (s : St) (k : ByteArray) : St := ⟨s.mo, s.t, rem s.N k, rem s.A k, rem s.G k, tdel s.f k⟩
def St.adB (s : St) (k : ByteArray) : Bool := !s.hit k && decide (s.N.length + s.A.length < s.mo)
def St.ad (s : St) (k : ByteArray) : St := if s.adB k = true then ⟨s.mo, s.t, k :: s.N, s.A, rem s.G k, tdel s.f k⟩ else s
def St.dr (s : St) : St := ⟨s.mo, s.t, s.N.dropLast, dA s.N s.A, s.G, if anyKey (s.A ++ s.N) = true then tdel s.f (lastKey (s.A ++ s.N)) else s.f⟩
def St.size (s : St) (n : Nat) : St := ⟨n, mn s.t n, s.N, s.A, s.G, s.f⟩
def St.rs (s : St) (n : Nat) : St := (s.size n).cut n
def St.start (n : Nat) : St := ⟨n, n / 2, [], [], [], fun _ => false⟩

theorem inn_mem {xs : List ByteArray} {k : ByteArray} : inn xs k = true ↔ k ∈ xs := inn_iff
theorem cut_app (n : Nat) (N A : List ByteArray) : cutA n N A ++ cutN n N A = (A ++ N).take (A.length + N.length - gone n N A) := by
  unfold cutA cutN
  rw [List.take_append]
  congr 2
  unfold gone; omega
theorem cut_len (n : Nat) (N A : List ByteArray) : (cutA n N A).length + (cutN n N A).length = min n (A.length + N.length) := by
  rw [← List.length_append, cut_app, List.length_take, List.length_append]
  unfold gone; omega
theorem cutQ_len (n : Nat) (N A G : List ByteArray) : (cutQ n N A G).length = gone n N A + G.length := by
  unfold cutQ
  rw [List.length_append, List.length_drop, List.length_append]
  unfold gone; omega
theorem cut_whole (n : Nat) (N A G : List ByteArray) : cutA n N A ++ cutN n N A ++ cutQ n N A G = A ++ N ++ G := by
  rw [cut_app]
  unfold cutQ
  rw [← List.append_assoc, List.take_append_drop]
theorem cut_sub (s : St) (n : Nat) : (s.cut n).all.Sublist s.all := by
  have := cut_whole n s.N s.A s.G
  unfold St.all St.cut
  rw [← this]
  exact List.Sublist.append_left (List.take_sublist _ _) _
theorem cut_tot (s : St) (n : Nat) : (s.cut n).tot ≤ s.tot := by
  have h1 := cut_len n s.N s.A
  have h2 : ((cutQ n s.N s.A s.G).take s.mo).length ≤ gone n s.N s.A + s.G.length := by rw [List.length_take, cutQ_len]; omega
  unfold St.tot St.cut
  show (cutA n s.N s.A).length + (cutN n s.N s.A).length + ((cutQ n s.N s.A s.G).take s.mo).length ≤ _
  unfold gone at h2
  omega
section
variable {E : ByteArray → Prop} {s : St} {k : ByteArray} {n : Nat}
theorem Pre.cut (p : Pre E s) (n : Nat) : Pre E (s.cut n) := by
  have hw := cut_whole n s.N s.A s.G
  have hnd := p.nd
  unfold St.all at hnd
  rw [← hw] at hnd
  refine ⟨p.nd.sublist (cut_sub s n), fun x hx => ?_, fun x hx => ?_⟩
  · have hx : (s.f x && !inn ((cutQ n s.N s.A s.G).drop s.mo) x) = true := hx
    rw [Bool.and_eq_true, Bool.not_eq_true', inn_no] at hx
    refine (p.fin x hx.1).imp id fun h => ?_
    unfold St.all at h
    rw [← hw] at h
    unfold St.all St.cut
    rcases List.mem_append.1 h with h | h
    · exact List.mem_append_left _ h
    · refine List.mem_append_right _ ?_
      rw [← List.take_append_drop s.mo (cutQ n s.N s.A s.G)] at h
      rcases List.mem_append.1 h with h | h
      · exact h
      · exact absurd h hx.2
  · show (s.f x && !inn ((cutQ n s.N s.A s.G).drop s.mo) x) = true
    have hxA : x ∈ cutA n s.N s.A := hx
    rw [Bool.and_eq_true, Bool.not_eq_true', inn_no]
    refine ⟨p.fA x (List.mem_of_mem_take hxA), fun h => ?_⟩
    exact (List.nodup_append.1 hnd).2.2 x (List.mem_append_left _ hxA) x (List.mem_of_mem_drop h) rfl
theorem ok_cut (p : Pre (fun _ => False) s) (ht : s.t ≤ s.mo) (hn : n ≤ s.mo) : Ok (s.cut n) := by
  refine ⟨p.cut n, ?_, ?_, ht⟩
  · show (cutA n s.N s.A).length + (cutN n s.N s.A).length ≤ s.mo
    rw [cut_len]; omega
  · show ((cutQ n s.N s.A s.G).take s.mo).length ≤ s.mo
    rw [List.length_take]; omega
theorem ok_prom (p : Pre (fun x => x = k) s) (hk : k ∉ s.all) (hl : s.A.length + s.N.length + 1 ≤ s.mo) (hg : s.G.length ≤ s.mo) (ht : s.t ≤ s.mo) : Ok (s.prom k) := by
  have hw : (s.prom k).all = k :: s.all := by
    unfold St.all St.prom
    rw [← List.append_assoc, List.take_append_drop]; rfl
  refine ⟨⟨by rw [hw, List.nodup_cons]; exact ⟨hk, p.nd⟩, fun x hx => Or.inr ?_, fun x hx => ?_⟩, ?_, hg, ht⟩
  · rw [hw]
    have hx : (if x = k then true else s.f x) = true := hx
    by_cases e : x = k
    · rw [e]; exact List.mem_cons_self
    · rw [if_neg e] at hx
      rcases p.fin x hx with h | h
      · exact absurd h e
      · exact List.mem_cons_of_mem _ h
  · show (if x = k then true else s.f x) = true
    by_cases e : x = k
    · rw [if_pos e]
    · rw [if_neg e]
      rcases List.mem_cons.1 (List.mem_of_mem_take hx) with h | h
      · exact absurd h e
      · exact p.fA x h
  · show ((k :: s.A).take (mx s.t)).length + ((k :: s.A).drop (mx s.t) ++ s.N).length ≤ s.mo
    rw [List.length_append, ← Nat.add_assoc, ← List.length_append, List.take_append_drop, List.length_cons]
    omega
theorem prom_tot (s : St) (k : ByteArray) : (s.prom k).tot = s.tot + 1 := by
  unfold St.tot St.prom
  show ((k :: s.A).take (mx s.t)).length + ((k :: s.A).drop (mx s.t) ++ s.N).length + s.G.length = _
  rw [List.length_append, ← Nat.add_assoc, ← List.length_append, List.take_append_drop, List.length_cons]
  omega
theorem up_le {mo t : Nat} (h : t ≤ mo) : upT mo t ≤ mo := by unfold upT; split <;> omega
theorem dn_le {mo t : Nat} (h : t ≤ mo) : dnT t ≤ mo := by unfold dnT; split <;> omega
theorem Ok.onA (p : Ok s) (hk : k ∈ s.A) : Ok (s.onA k) := by
  have hA : (s.A).Nodup := by have := p.nd; unfold St.all at this; exact (List.nodup_append.1 (List.nodup_append.1 this).1).1
  have hp : (k :: rem s.A k).Perm s.A := by
    obtain ⟨ps, qs, e⟩ := List.append_of_mem hk
    rw [e] at hA ⊢
    have h1 := List.nodup_append.1 hA
    have h2 := List.nodup_cons.1 h1.2.1
    have e1 : rem ps k = ps := rem_none (fun hx => h1.2.2 k hx k (by simp) rfl)
    have e2 : rem qs k = qs := rem_none h2.1
    have e3 : rem (ps ++ k :: qs) k = rem ps k ++ rem qs k := by
      unfold rem
      rw [List.filter_append, List.filter_cons_of_neg (by simp)]
    rw [e3, e1, e2]
    exact List.perm_middle.symm
  have hw : (s.onA k).all.Perm s.all := by
    unfold St.all St.onA
    exact (hp.append_right _).append_right _
  refine ⟨⟨hw.nodup_iff.2 p.nd, fun x hx => (p.fin x hx).imp id fun h => hw.mem_iff.2 h, fun x hx => p.fA x (hp.mem_iff.1 hx)⟩, ?_, p.gl, p.tl⟩
  have := hp.length_eq
  show (k :: rem s.A k).length + s.N.length ≤ s.mo
  rw [this]; exact p.le
theorem all_sub {s s' : St} (hA : s'.A.Sublist s.A) (hN : s'.N.Sublist s.N) (hG : s'.G.Sublist s.G) : s'.all.Sublist s.all := (hA.append hN).append hG
theorem rem_sub (xs : List ByteArray) (k : ByteArray) : (rem xs k).Sublist xs := List.filter_sublist
theorem Ok.onN (p : Ok s) (hk : k ∈ s.N) : Ok ((s.onN k).prom k) := by
  have hn := p.nd
  have hnN : s.N.Nodup := by unfold St.all at hn; exact (List.nodup_append.1 (List.nodup_append.1 hn).1).2.1
  have hr := rem_len hnN hk
  have hnot : k ∉ (s.onN k).all := by
    unfold St.all St.onN
    unfold St.all at hn
    rw [List.mem_append, List.mem_append]
    rintro ((h | h) | h)
    · exact (List.nodup_append.1 (List.nodup_append.1 hn).1).2.2 k h k hk rfl
    · exact rem_not h
    · exact (List.nodup_append.1 hn).2.2 k (List.mem_append_right _ hk) k h rfl
  refine ok_prom ⟨hn.sublist (show (s.onN k).all.Sublist s.all from all_sub (List.Sublist.refl _) (rem_sub _ _) (List.Sublist.refl _)), fun x hx => ?_, p.fA⟩ hnot ?_ p.gl ?_
  · by_cases e : x = k
    · exact Or.inl e
    · rcases p.fin x hx with h | h
      · exact h.elim
      · right
        unfold St.all at h ⊢
        unfold St.onN
        simp only [List.mem_append, rem_mem] at h ⊢
        rcases h with (h | h) | h
        · exact Or.inl (Or.inl h)
        · exact Or.inl (Or.inr ⟨h, e⟩)
        · exact Or.inr h
  · show s.A.length + (rem s.N k).length + 1 ≤ s.mo
    have := p.le; omega
  · show (if s.f k = true then upT s.mo s.t else s.t) ≤ s.mo
    split
    · exact up_le p.tl
    · exact p.tl
theorem Ok.onG (p : Ok s) (hk : k ∈ s.G) (hm : s.mo ≠ 0) : Ok (((s.onG k).cut (s.mo - 1)).prom k) := by
  have hn := p.nd
  have hnot : k ∉ (s.onG k).all := by
    unfold St.all St.onG
    unfold St.all at hn
    rw [List.mem_append]
    rintro (h | h)
    · exact (List.nodup_append.1 hn).2.2 k h k hk rfl
    · exact rem_not h
  have q : Pre (fun x => x = k) (s.onG k) := by
    refine ⟨hn.sublist (show (s.onG k).all.Sublist s.all from all_sub (List.Sublist.refl _) (List.Sublist.refl _) (rem_sub _ _)), fun x hx => ?_, p.fA⟩
    by_cases e : x = k
    · exact Or.inl e
    · rcases p.fin x hx with h | h
      · exact h.elim
      · right
        unfold St.all at h ⊢
        unfold St.onG
        simp only [List.mem_append, rem_mem] at h ⊢
        exact h.imp id fun h => ⟨h, e⟩
  have hl := cut_len (s.mo - 1) s.N s.A
  refine ok_prom (q.cut _) (fun h => hnot ((cut_sub _ _).subset h)) ?_ ?_ ?_
  · show (cutA (s.mo - 1) s.N s.A).length + (cutN (s.mo - 1) s.N s.A).length + 1 ≤ s.mo
    omega
  · show ((cutQ (s.mo - 1) s.N s.A (rem s.G k)).take s.mo).length ≤ s.mo
    rw [List.length_take]; omega
  · show (if s.f k = true then s.t else dnT s.t) ≤ s.mo
    split
    · exact p.tl
    · exact dn_le p.tl
theorem Ok.fresh (p : Ok s) (h1 : k ∉ s.A) (h2 : k ∉ s.N) (h3 : k ∉ s.G) (hm : s.mo ≠ 0) : Ok ((s.cut (s.mo - 1)).fr k) := by
  have q := ok_cut (n := s.mo - 1) p.toPre p.tl (by omega)
  have hnot : k ∉ (s.cut (s.mo - 1)).all := fun h => by
    have := (cut_sub _ _).subset h
    unfold St.all at this
    rcases List.mem_append.1 this with h | h
    · rcases List.mem_append.1 h with h | h
      · exact h1 h
      · exact h2 h
    · exact h3 h
  have hl := cut_len (s.mo - 1) s.N s.A
  have hw : ((s.cut (s.mo - 1)).fr k).all.Perm (k :: (s.cut (s.mo - 1)).all) := by
    unfold St.all St.fr
    rw [List.append_assoc, List.append_assoc]
    exact List.perm_middle
  refine ⟨⟨hw.nodup_iff.2 (List.nodup_cons.2 ⟨hnot, q.nd⟩), fun x hx => (q.fin x hx).imp id fun h => hw.mem_iff.2 (List.mem_cons_of_mem _ h), q.fA⟩, ?_, q.gl, q.tl⟩
  show (cutA (s.mo - 1) s.N s.A).length + (k :: cutN (s.mo - 1) s.N s.A).length ≤ s.mo
  rw [List.length_cons]; omega
theorem Ok.req (p : Ok s) (k : ByteArray) : Ok (s.req k) := by
  unfold St.req
  split
  · exact p
  · rename_i hm
    split
    · rename_i h; exact p.onA (inn_iff.1 h)
    · rename_i h1
      split
      · rename_i h; exact p.onN (inn_iff.1 h)
      · rename_i h2
        split
        · rename_i h; exact p.onG (inn_iff.1 h) hm
        · rename_i h3
          exact p.fresh (fun h => h1 (inn_iff.2 h)) (fun h => h2 (inn_iff.2 h)) (fun h => h3 (inn_iff.2 h)) hm
theorem req_tot (p : Ok s) (k : ByteArray) : (s.req k).tot ≤ s.tot + 1 := by
  unfold St.req
  split
  · omega
  · split
    · unfold St.tot St.onA
      show (k :: rem s.A k).length + s.N.length + s.G.length ≤ _
      have := rem_le s.A k
      rw [List.length_cons]; omega
    · split
      · rw [prom_tot]
        unfold St.tot St.onN
        show s.A.length + (rem s.N k).length + s.G.length + 1 ≤ _
        have := rem_le s.N k
        omega
      · split
        · rw [prom_tot]
          have h1 := cut_tot (s.onG k) (s.mo - 1)
          have h2 : (s.onG k).tot ≤ s.tot := by
            unfold St.tot St.onG
            show s.A.length + s.N.length + (rem s.G k).length ≤ _
            have := rem_le s.G k
            omega
          omega
        · have h1 := cut_tot s (s.mo - 1)
          have h2 : ((s.cut (s.mo - 1)).fr k).tot = (s.cut (s.mo - 1)).tot + 1 := by
            unfold St.tot St.fr
            show (s.cut (s.mo - 1)).A.length + (k :: (s.cut (s.mo - 1)).N).length + (s.cut (s.mo - 1)).G.length = _
            rw [List.length_cons]; omega
          omega
theorem tdel_fin {f : Told} {x : ByteArray} (h : tdel f k x = true) : x ≠ k ∧ f x = true := by
  unfold tdel at h
  by_cases e : x = k
  · rw [if_pos e] at h; cases h
  · rw [if_neg e] at h; exact ⟨e, h⟩
theorem tdel_tru {f : Told} {x : ByteArray} (e : x ≠ k) (h : f x = true) : tdel f k x = true := by
  unfold tdel
  rw [if_neg e]; exact h
theorem Ok.rm (p : Ok s) (k : ByteArray) : Ok (s.rm k) := by
  refine ⟨⟨p.nd.sublist (all_sub (rem_sub _ _) (rem_sub _ _) (rem_sub _ _)), fun x hx => ?_, fun x hx => ?_⟩, ?_, ?_, p.tl⟩
  · obtain ⟨e, h⟩ := tdel_fin hx
    refine (p.fin x h).imp id fun h => ?_
    unfold St.all at h ⊢
    unfold St.rm
    simp only [List.mem_append, rem_mem] at h ⊢
    rcases h with (h | h) | h
    · exact Or.inl (Or.inl ⟨h, e⟩)
    · exact Or.inl (Or.inr ⟨h, e⟩)
    · exact Or.inr ⟨h, e⟩
  · have := (rem_mem (xs := s.A) (k := k) (x := x)).1 hx
    exact tdel_tru this.2 (p.fA x this.1)
  · show (rem s.A k).length + (rem s.N k).length ≤ s.mo
    have := rem_le s.A k; have := rem_le s.N k; have := p.le; omega
  · show (rem s.G k).length ≤ s.mo
    have := rem_le s.G k; have := p.gl; omega
theorem rm_tot (s : St) (k : ByteArray) : (s.rm k).tot ≤ s.tot := by
  unfold St.tot St.rm
  show (rem s.A k).length + (rem s.N k).length + (rem s.G k).length ≤ _
  have := rem_le s.A k; have := rem_le s.N k; have := rem_le s.G k; omega
theorem Ok.ad (p : Ok s) (k : ByteArray) : Ok (s.ad k) := by
  unfold St.ad
  split
  · rename_i h
    unfold St.adB St.hit at h
    rw [Bool.and_eq_true, Bool.not_eq_true', Bool.or_eq_false_iff, inn_no, inn_no, decide_eq_true_eq] at h
    obtain ⟨⟨h1, h2⟩, h3⟩ := h
    have q := p.rm k
    have e : (s.rm k).fr k = ⟨s.mo, s.t, k :: s.N, s.A, rem s.G k, tdel s.f k⟩ := by
      unfold St.fr St.rm
      rw [rem_none h1, rem_none h2]
    rw [← e]
    have hnot : k ∉ (s.rm k).all := fun h => by
      unfold St.all St.rm at h
      simp only [List.mem_append, rem_mem] at h
      rcases h with (h | h) | h
      · exact h.2 rfl
      · exact h.2 rfl
      · exact h.2 rfl
    have hw : ((s.rm k).fr k).all.Perm (k :: (s.rm k).all) := by
      unfold St.all St.fr
      rw [List.append_assoc, List.append_assoc]
      exact List.perm_middle
    refine ⟨⟨hw.nodup_iff.2 (List.nodup_cons.2 ⟨hnot, q.nd⟩), fun x hx => (q.fin x hx).imp id fun h => hw.mem_iff.2 (List.mem_cons_of_mem _ h), q.fA⟩, ?_, q.gl, q.tl⟩
    show (rem s.A k).length + (k :: rem s.N k).length ≤ s.mo
    rw [rem_none h1, rem_none h2, List.length_cons]; omega
  · exact p
theorem ad_tot (s : St) (k : ByteArray) : (s.ad k).tot ≤ s.tot + 1 := by
  unfold St.ad
  split
  · unfold St.tot
    show s.A.length + (k :: s.N).length + (rem s.G k).length ≤ _
    have := rem_le s.G k
    rw [List.length_cons]; omega
  · omega
theorem dA_sub (N A : List ByteArray) : (dA N A).Sublist A := by
  unfold dA
  split
  · exact List.dropLast_sublist _
  · exact List.Sublist.refl _
theorem Ok.dr (p : Ok s) : Ok s.dr := by
  by_cases h : s.A ++ s.N = []
  · have e1 : s.A = [] := (List.append_eq_nil_iff.1 h).1
    have e2 : s.N = [] := (List.append_eq_nil_iff.1 h).2
    have : s.dr = s := by
      unfold St.dr dA
      rw [e1, e2, if_pos rfl]
      cases s; simp_all [anyKey]
    rw [this]; exact p
  · have ha : anyKey (s.A ++ s.N) = true := by cases hq : s.A ++ s.N <;> simp_all [anyKey]
    have hs : s.dr.all.Sublist s.all := all_sub (dA_sub _ _) (List.dropLast_sublist _) (List.Sublist.refl _)
    have hw : (s.A ++ s.N) = (dA s.N s.A ++ s.N.dropLast) ++ [lastKey (s.A ++ s.N)] := by
      rw [drop_app]
      unfold lastKey
      rw [List.getLastD_eq_getLast?, List.getLast?_eq_some_getLast h]
      exact (List.dropLast_concat_getLast h).symm
    have hf : s.dr.f = tdel s.f (lastKey (s.A ++ s.N)) := by unfold St.dr; simp only [ha, if_true]
    have hn := p.nd
    unfold St.all at hn
    rw [hw] at hn
    refine ⟨⟨p.nd.sublist hs, fun x hx => ?_, fun x hx => ?_⟩, ?_, p.gl, p.tl⟩
    · rw [hf] at hx
      obtain ⟨e, hx⟩ := tdel_fin hx
      refine (p.fin x hx).imp id fun h => ?_
      unfold St.all at h
      rw [hw] at h
      unfold St.all St.dr
      rcases List.mem_append.1 h with h | h
      · rcases List.mem_append.1 h with h | h
        · exact List.mem_append_left _ h
        · exact absurd (List.mem_singleton.1 h) e
      · exact List.mem_append_right _ h
    · rw [hf]
      have hx' : x ∈ dA s.N s.A := hx
      refine tdel_tru (fun e => ?_) (p.fA x ((dA_sub _ _).subset hx'))
      exact (List.nodup_append.1 (List.nodup_append.1 hn).1).2.2 x (List.mem_append_left _ hx') _ (List.mem_singleton.2 rfl) e
    · show (dA s.N s.A).length + s.N.dropLast.length ≤ s.mo
      have h1 := (dA_sub s.N s.A).length_le
      have h2 := (List.dropLast_sublist s.N).length_le
      have := p.le; omega
theorem dr_tot (s : St) : s.dr.tot ≤ s.tot := by
  have h1 := (dA_sub s.N s.A).length_le
  have h2 := (List.dropLast_sublist s.N).length_le
  unfold St.tot St.dr
  show (dA s.N s.A).length + s.N.dropLast.length + s.G.length ≤ _
  omega
theorem Ok.rs (p : Ok s) (n : Nat) : Ok (s.rs n) := ok_cut (s := s.size n) ⟨p.nd, p.fin, p.fA⟩ (by show mn s.t n ≤ n; unfold mn; split <;> omega) (Nat.le_refl _)
theorem rs_tot (s : St) (n : Nat) : (s.rs n).tot ≤ s.tot := cut_tot (s.size n) n
theorem ok_start (n : Nat) : Ok (St.start n) := ⟨⟨List.nodup_nil, (fun x h => by cases h), (fun x h => by cases h)⟩, Nat.zero_le _,  Nat.zero_le _, by show n / 2 ≤ n; omega⟩
end
end Go.Proofs.Ytmnflcidcoejiaa
