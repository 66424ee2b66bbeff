/- What the calls of a cache of any kind do to its residents and ghosts: one form for all kinds. -/
import Derived.Test.YtnlckkahkghneaaGreatDoorKn
namespace Go.Proofs.YtnlckkahkghneaaGreatDoor
open Sg

section
variable {K K' G' : List ByteArray} {mo : Nat} {k : ByteArray}
theorem hit_permF (hk : k ∈ K) (hm : ∀ x, x ∈ K' ↔ x ∈ K) (hl : K'.length = K.length) : ReqF K K' mo k true ⟨#[]⟩ false := by
  have hi := inn_iff.2 hk
  exact ⟨hi.symm, by rw [hi]; rfl, fun h => by (cases h), fun _ => rfl, (hm k).2 hk, fun x hx => Or.inl ((hm x).2 hx), fun x hx => Or.inl ((hm x).1 hx), hl⟩
theorem drop_one {xs : List ByteArray} (h : xs ≠ []) : xs = xs.headD ⟨#[]⟩ :: xs.tail := by
  cases xs with
  | nil => exact absurd rfl h
  | cons x xs => rfl
theorem miss_tailF (nd : K.Nodup) (hk : k ∉ K) (hm : mo ≠ 0) (hle : K.length ≤ mo) (hmem : ∀ x, x ∈ K' ↔ x = k ∨ x ∈ K.drop (K.length + 1 - mo)) (hl : K'.length = (K.drop (K.length + 1 - mo)).length + 1) :
    ReqF K K' mo k false (if mo ≤ K.length then K.headD ⟨#[]⟩ else ⟨#[]⟩) (decide (mo ≤ K.length)) := by
  have hi := inn_no.2 hk
  by_cases hf : mo ≤ K.length
  · rw [if_pos hf, decide_eq_true hf]
    have hn : K ≠ [] := fun e => by rw [e, List.length_nil] at hf; omega
    have hd : K.drop (K.length + 1 - mo) = K.tail := by rw [show K.length + 1 - mo = 1 by omega, List.drop_one]
    rw [hd] at hmem hl
    have hc := drop_one hn
    have h1 : K.headD ⟨#[]⟩ ∈ K := by rw [hc]; exact List.mem_cons_self
    have h2 : K.headD ⟨#[]⟩ ∉ K.tail := by rw [hc] at nd; exact (List.nodup_cons.1 nd).1
    refine ⟨hi.symm, by rw [hi, decide_eq_true hf]; rfl, fun _ => ⟨h1, fun h => ?_⟩, fun h => by (cases h), (hmem k).2 (Or.inl rfl), fun x hx => ?_, fun x hx => ?_, ?_⟩
    · rcases (hmem _).1 h with h | h
      · exact hk (h ▸ h1)
      · exact h2 h
    · rw [hc] at hx
      rcases List.mem_cons.1 hx with h | h
      · exact Or.inr ⟨rfl, h⟩
      · exact Or.inl ((hmem x).2 (Or.inr h))
    · exact ((hmem x).1 hx).elim Or.inr fun h => Or.inl (List.mem_of_mem_tail h)
    · rw [hl, List.length_tail]
      have := List.length_pos_iff.2 hn
      simp; omega
  · rw [if_neg hf, decide_eq_false hf]
    have hd : K.drop (K.length + 1 - mo) = K := by rw [show K.length + 1 - mo = 0 by omega]; rfl
    rw [hd] at hmem hl
    exact ⟨hi.symm, by rw [hi, decide_eq_false hf]; rfl, fun h => by (cases h), fun _ => rfl, (hmem k).2 (Or.inl rfl), fun x hx => Or.inl ((hmem x).2 (Or.inr hx)), fun x hx => ((hmem x).1 hx).elim Or.inr Or.inl, by rw [hl]; rfl⟩
theorem rm_rowF (nd : K.Nodup) (hm : ∀ x, x ∈ K' ↔ x ∈ K ∧ x ≠ k) (hl : K'.length = (rem K k).length) (hg : k ∉ G') : RmF K K' G' k (inn K k) := by
  refine ⟨rfl, hm, hg, ?_⟩
  rw [hl]
  cases h : inn K k with
  | true => exact rem_len nd (inn_iff.1 h)
  | false => rw [rem_none (inn_no.1 h)]; rfl
theorem ad_rowF (hk : k ∉ K) (hr : K.length < mo) (hm : ∀ x, x ∈ K' ↔ x = k ∨ x ∈ K) (hl : K'.length = K.length + 1) (hg : k ∉ G') : AdF K K' G' mo k (!inn K k && decide (K.length < mo)) := by
  have e : (!inn K k && decide (K.length < mo)) = true := by rw [inn_no.2 hk, decide_eq_true hr]; rfl
  rw [e]
  exact ⟨e.symm, fun x => (hm x).trans ⟨fun h => h.elim (fun h => Or.inr ⟨rfl, h⟩) Or.inl, fun h => h.elim Or.inr fun h => Or.inl h.2⟩, fun _ => hg, hl⟩
theorem ad_noneF (h : (!inn K k && decide (K.length < mo)) = false) : AdF K K G' mo k (!inn K k && decide (K.length < mo)) := by
  rw [h]
  refine ⟨h.symm, fun x => ⟨Or.inl, fun g => ?_⟩, fun g => ?_, rfl⟩
  · rcases g with g | ⟨g, _⟩
    · exact g
    · cases g
  · cases g
theorem dr_tailF (nd : K.Nodup) (G : List ByteArray) : DrF K K.tail G G (K.headD ⟨#[]⟩) (!K.isEmpty) := by
  cases K with
  | nil => exact ⟨rfl, fun h => by (cases h), fun x => ⟨fun h => by (cases h), fun h => h.1⟩, rfl, rfl⟩
  | cons y K =>
    have h := List.nodup_cons.1 nd
    refine ⟨rfl, fun _ => List.mem_cons_self, fun x => ⟨fun hx => ⟨List.mem_cons_of_mem _ hx, fun _ e => ?_⟩, fun hx => ?_⟩, rfl, rfl⟩
    · have e : x = y := e
      exact h.1 (e ▸ hx)
    · rcases List.mem_cons.1 hx.1 with e | e
      · exact absurd e (hx.2 rfl)
      · exact e
theorem rs_dropF (nd : K.Nodup) (n : Nat) : RsF K (K.drop (K.length - n)) n (K.take (K.length - n)) := by
  have hs := List.take_append_drop (K.length - n) K
  have hn := nd
  rw [← hs] at hn
  refine ⟨by rw [List.length_take]; omega, by rw [List.length_take, List.length_drop]; omega, fun x hx => ⟨List.mem_of_mem_take hx, fun h => (List.nodup_append.1 hn).2.2 x hx x h rfl⟩, fun x hx => ?_, fun x hx => List.mem_of_mem_drop hx⟩
  rw [← hs] at hx
  exact (List.mem_append.1 hx).symm
end

section
variable {ks : List ByteArray} {mo : Nat}
theorem req_lr (nd : ks.Nodup) (hl : ks.length ≤ mo) (hm : mo ≠ 0) (k : ByteArray) : ReqF ks (reqK mo ks k) mo k (hitB mo ks k) (vicK mo ks k) (outB mo ks k) := by
  cases hi : inn ks k with
  | true =>
    have hk := inn_iff.1 hi
    have hr := rem_len nd hk
    have e1 : hitB mo ks k = true := by simp [hitB, hi, hm]
    have e2 : outB mo ks k = false := by simp [outB, hi]
    have e3 : vicK mo ks k = ⟨#[]⟩ := by unfold vicK; rw [e2]; rfl
    have e4 : reqK mo ks k = rem ks k ++ [k] := lastN_all (by rw [List.length_append, List.length_singleton]; omega)
    rw [e1, e2, e3, e4]
    refine hit_permF hk (fun x => ?_) (by rw [List.length_append, List.length_singleton]; exact hr)
    rw [List.mem_append, rem_mem, List.mem_singleton]
    constructor
    · rintro (h | h)
      · exact h.1
      · rw [h]; exact hk
    · intro h
      by_cases e : x = k
      · exact Or.inr e
      · exact Or.inl ⟨h, e⟩
  | false =>
    have hk := inn_no.1 hi
    have e1 : hitB mo ks k = false := by simp [hitB, hi]
    have e2 : outB mo ks k = decide (mo ≤ ks.length) := by simp [outB, hi, hm]
    have e3 : vicK mo ks k = if mo ≤ ks.length then ks.headD ⟨#[]⟩ else ⟨#[]⟩ := by unfold vicK; rw [e2]; by_cases h : mo ≤ ks.length <;> simp [h]
    have e4 : reqK mo ks k = ks.drop (ks.length + 1 - mo) ++ [k] := by
      unfold reqK lastN
      rw [rem_none hk, List.length_append, List.length_singleton, List.drop_append, show ks.length + 1 - mo - ks.length = 0 by omega]; rfl
    rw [e1, e2, e3, e4]
    exact miss_tailF nd hk hm hl (fun x => by rw [List.mem_append, List.mem_singleton]; exact Or.comm) (by rw [List.length_append, List.length_singleton])
theorem ad_lr (_nd : ks.Nodup) (k : ByteArray) : AdF ks (LR.adK mo ks k) [] mo k (!inn ks k && decide (ks.length < mo)) := by
  cases h : LR.adB mo ks k with
  | true =>
    have h2 := h
    unfold LR.adB at h2
    rw [Bool.and_eq_true, Bool.not_eq_true', decide_eq_true_eq, inn_no] at h2
    unfold LR.adK
    rw [if_pos h, rem_none h2.1]
    exact ad_rowF h2.1 h2.2 (fun x => by rw [List.mem_append, List.mem_singleton]; exact Or.comm) (by rw [List.length_append, List.length_singleton]) (by simp)
  | false =>
    unfold LR.adK
    rw [h]
    exact ad_noneF h
end
section
variable {ch : Bool} {mo n : Nat} {L : List (LF.Ht.Ent ByteArray)}
theorem keysL_put {k x : ByteArray} : x ∈ LF.Lf.keysL (LF.Lf.put ch n L k) ↔ x = k ∨ (x ∈ LF.Lf.keysL L ∧ x ≠ k) := by
  unfold LF.Lf.keysL
  rw [List.mem_map, List.mem_map]
  constructor
  · rintro ⟨e, he, rfl⟩
    rcases LF.Lf.mem_put.1 he with rfl | ⟨h1, h2⟩
    · exact Or.inl rfl
    · exact Or.inr ⟨⟨e, h1, rfl⟩, h2⟩
  · rintro (rfl | ⟨⟨e, h1, rfl⟩, h2⟩)
    · exact ⟨_, LF.Lf.mem_put.2 (Or.inl rfl), rfl⟩
    · exact ⟨e, LF.Lf.mem_put.2 (Or.inr ⟨h1, h2⟩), rfl⟩
theorem keysL_drop (j : Nat) : LF.Lf.keysL (L.drop j) = (LF.Lf.keysL L).drop j := by unfold LF.Lf.keysL; rw [List.map_drop]
theorem keysL_head : LF.Lf.hdK L = (LF.Lf.keysL L).headD ⟨#[]⟩ := by cases L <;> rfl
theorem req_lf (o : LF.Ht.Once L n) (hl : L.length ≤ mo) (hm : mo ≠ 0) (k : ByteArray) : ReqF (LF.Lf.keysL L) (LF.Lf.keysL (LF.Lf.reqL ch mo n L k)) mo k (LF.Lf.hitB mo L k) (LF.Lf.vicK mo L k) (LF.Lf.outB mo L k) := by
  have hkl := LF.Lf.keysL_len L
  cases hi : LF.Lf.isIn L k with
  | true =>
    have hk : k ∈ LF.Lf.keysL L := by rw [has_lf] at hi; exact inn_iff.1 hi
    have e1 : LF.Lf.hitB mo L k = true := by simp [LF.Lf.hitB, hi, hm]
    have e2 : LF.Lf.outB mo L k = false := by simp [LF.Lf.outB, hi]
    have e3 : LF.Lf.vicK mo L k = ⟨#[]⟩ := by unfold LF.Lf.vicK; rw [e2]; rfl
    have e4 : LF.Lf.reqL ch mo n L k = LF.Lf.put ch n L k := by unfold LF.Lf.reqL; rw [if_neg hm, if_pos hi]
    rw [e1, e2, e3, e4]
    refine hit_permF hk (fun x => ?_) (by rw [LF.Lf.keysL_len, LF.Lf.keysL_len, LF.Lf.put_len]; exact LF.Lf.rem_len o hi)
    rw [keysL_put]
    constructor
    · rintro (h | h)
      · rw [h]; exact hk
      · exact h.1
    · intro h
      by_cases e : x = k
      · exact Or.inl e
      · exact Or.inr ⟨h, e⟩
  | false =>
    have hk : k ∉ LF.Lf.keysL L := by rw [has_lf] at hi; exact inn_no.1 hi
    have e1 : LF.Lf.hitB mo L k = false := by simp [LF.Lf.hitB, hi]
    have e2 : LF.Lf.outB mo L k = decide (mo ≤ (LF.Lf.keysL L).length) := by simp [LF.Lf.outB, hi, hm, hkl]
    have e3 : LF.Lf.vicK mo L k = if mo ≤ (LF.Lf.keysL L).length then (LF.Lf.keysL L).headD ⟨#[]⟩ else ⟨#[]⟩ := by
      unfold LF.Lf.vicK; rw [e2, keysL_head]; by_cases h : mo ≤ (LF.Lf.keysL L).length <;> simp [h]
    have e4 : LF.Lf.reqL ch mo n L k = LF.Lf.put ch n (L.drop (L.length + 1 - mo)) k := by unfold LF.Lf.reqL; rw [if_neg hm, if_neg (by rw [hi]; simp)]
    have hd : LF.Lf.keysL (L.drop (L.length + 1 - mo)) = (LF.Lf.keysL L).drop ((LF.Lf.keysL L).length + 1 - mo) := by rw [keysL_drop, hkl]
    have hk2 : k ∉ LF.Lf.keysL (L.drop (L.length + 1 - mo)) := fun h => hk (by rw [hd] at h; exact List.mem_of_mem_drop h)
    have hi2 : LF.Lf.isIn (L.drop (L.length + 1 - mo)) k = false := by rw [has_lf]; exact inn_no.2 hk2
    rw [e1, e2, e3, e4]
    refine miss_tailF o.keys hk hm (by rw [hkl]; exact hl) (fun x => ?_) ?_
    · rw [keysL_put, ← hd]
      exact ⟨fun h => h.imp id fun h => h.1, fun h => h.imp id fun h => ⟨h, fun e => hk2 (e ▸ h)⟩⟩
    · rw [← hd, LF.Lf.keysL_len, LF.Lf.keysL_len, LF.Lf.put_len, LF.Lf.rem_len_no hi2]
theorem ad_lf (k : ByteArray) : AdF (LF.Lf.keysL L) (LF.Lf.keysL (LF.Lf.adL ch mo n L k)) [] mo k (!inn (LF.Lf.keysL L) k && decide ((LF.Lf.keysL L).length < mo)) := by
  have hb : LF.Lf.adB mo L k = (!inn (LF.Lf.keysL L) k && decide ((LF.Lf.keysL L).length < mo)) := by unfold LF.Lf.adB; rw [has_lf, LF.Lf.keysL_len]
  cases h : LF.Lf.adB mo L k with
  | true =>
    have h2 := h
    rw [hb, Bool.and_eq_true, Bool.not_eq_true', decide_eq_true_eq, inn_no] at h2
    unfold LF.Lf.adL
    rw [if_pos h]
    have hi : LF.Lf.isIn L k = false := by rw [has_lf]; exact inn_no.2 h2.1
    exact ad_rowF h2.1 h2.2 (fun x => keysL_put.trans ⟨fun g => g.imp id fun g => g.1, fun g => g.imp id fun g => ⟨g, fun e => h2.1 (e ▸ g)⟩⟩) (by rw [LF.Lf.keysL_len, LF.Lf.keysL_len, LF.Lf.put_len, LF.Lf.rem_len_no hi]) (by simp)
  | false =>
    unfold LF.Lf.adL
    rw [h]
    exact ad_noneF (hb ▸ h)
end
section
variable {s : SR.St}
theorem sr_row (p : SR.Ok s) : (s.A ++ s.N).reverse.Nodup := by
  have := p.nd
  unfold SR.St.all at this
  exact (List.reverse_perm _).nodup_iff.2 (List.nodup_append.1 this).1
theorem sr_gho (p : SR.Ok s) {k : ByteArray} (h : k ∈ s.A ∨ k ∈ s.N) : k ∉ s.G := fun hg => by
  have := p.nd
  unfold SR.St.all at this
  exact (List.nodup_append.1 this).2.2 k (List.mem_append.2 h) k hg rfl
theorem sr_headD (L : List ByteArray) : L.reverse.headD ⟨#[]⟩ = lastKey L := by
  unfold lastKey
  rw [List.headD_eq_head?_getD, List.head?_reverse, List.getLastD_eq_getLast?]
theorem sr_cut (s : SR.St) (n : Nat) : ((s.cut n).A ++ (s.cut n).N).reverse = (s.A ++ s.N).reverse.drop ((s.A ++ s.N).reverse.length - n) := by
  show (SR.cutA n s.N s.A ++ SR.cutN n s.N s.A).reverse = _
  rw [SR.cut_app, List.reverse_take, List.length_reverse]
  congr 1
  rw [List.length_append]
  unfold SR.gone; omega
theorem sr_prom (s : SR.St) (k : ByteArray) : (s.prom k).A ++ (s.prom k).N = k :: (s.A ++ s.N) := by
  unfold SR.St.prom
  show (k :: s.A).take _ ++ ((k :: s.A).drop _ ++ s.N) = _
  rw [← List.append_assoc, List.take_append_drop]; rfl
theorem req_sr (p : SR.Ok s) (hm : s.mo ≠ 0) (k : ByteArray) : ReqF (s.A ++ s.N).reverse ((s.req k).A ++ (s.req k).N).reverse s.mo k (s.hit k) (s.vic k) (s.out k) := by
  have nd := sr_row p
  have hle : (s.A ++ s.N).reverse.length ≤ s.mo := by rw [List.length_reverse, List.length_append]; exact p.le
  have hnA : s.A.Nodup ∧ s.N.Nodup := by have nd := (List.reverse_perm _).nodup_iff.1 nd; exact ⟨(List.nodup_append.1 nd).1, (List.nodup_append.1 nd).2.1⟩
  have hdj : ∀ x, x ∈ s.A → x ∉ s.N := fun x h1 h2 => by have nd := (List.reverse_perm _).nodup_iff.1 nd; exact (List.nodup_append.1 nd).2.2 x h1 x h2 rfl
  cases hh : s.hit k with
  | true =>
    have e2 : s.out k = false := by simp [SR.St.out, hh]
    have e3 : s.vic k = ⟨#[]⟩ := by unfold SR.St.vic; rw [e2]; rfl
    rw [e2, e3]
    have hk : k ∈ (s.A ++ s.N).reverse := by rw [has_sr] at hh; exact inn_iff.1 hh
    cases hA : inn s.A k with
    | true =>
      have e4 : s.req k = s.onA k := by unfold SR.St.req; rw [if_neg hm, if_pos hA]
      have hr := rem_len hnA.1 (inn_iff.1 hA)
      rw [e4]
      refine hit_permF hk (fun x => ?_) ?_
      · show x ∈ ((k :: rem s.A k) ++ s.N).reverse ↔ _
        rw [List.mem_reverse, List.mem_reverse, List.mem_append, List.mem_append, List.mem_cons, rem_mem]
        constructor
        · rintro ((h | h) | h)
          · exact Or.inl (h ▸ inn_iff.1 hA)
          · exact Or.inl h.1
          · exact Or.inr h
        · rintro (h | h)
          · by_cases e : x = k
            · exact Or.inl (Or.inl e)
            · exact Or.inl (Or.inr ⟨h, e⟩)
          · exact Or.inr h
      · show ((k :: rem s.A k) ++ s.N).reverse.length = _
        rw [List.length_reverse, List.length_reverse, List.length_append, List.length_append, List.length_cons, hr]
    | false =>
      have hN : inn s.N k = true := by unfold SR.St.hit at hh; rw [hA, Bool.or_false] at hh; exact hh
      have e4 : s.req k = (s.onN k).prom k := by unfold SR.St.req; rw [if_neg hm, if_neg (by rw [hA]; simp), if_pos hN]
      have hr := rem_len hnA.2 (inn_iff.1 hN)
      rw [e4, sr_prom]
      refine hit_permF hk (fun x => ?_) ?_
      · show x ∈ (k :: (s.A ++ rem s.N k)).reverse ↔ _
        rw [List.mem_reverse, List.mem_reverse, List.mem_cons, List.mem_append, List.mem_append, rem_mem]
        constructor
        · rintro (h | h | h)
          · exact Or.inr (h ▸ inn_iff.1 hN)
          · exact Or.inl h
          · exact Or.inr h.1
        · rintro (h | h)
          · exact Or.inr (Or.inl h)
          · by_cases e : x = k
            · exact Or.inl e
            · exact Or.inr (Or.inr ⟨h, e⟩)
      · show (k :: (s.A ++ rem s.N k)).reverse.length = _
        rw [List.length_reverse, List.length_reverse, List.length_cons, List.length_append, List.length_append]; omega
  | false =>
    have hk : k ∉ (s.A ++ s.N).reverse := by rw [has_sr] at hh; exact inn_no.1 hh
    have hAN : inn s.A k = false ∧ inn s.N k = false := by
      unfold SR.St.hit at hh
      rw [Bool.or_eq_false_iff] at hh
      exact ⟨hh.2, hh.1⟩
    have hlen : (s.A ++ s.N).reverse.length = s.A.length + s.N.length := by rw [List.length_reverse, List.length_append]
    have e2 : s.out k = decide (s.mo ≤ (s.A ++ s.N).reverse.length) := by rw [hlen]; simp [SR.St.out, hh, hm]
    have e3 : s.vic k = if s.mo ≤ (s.A ++ s.N).reverse.length then (s.A ++ s.N).reverse.headD ⟨#[]⟩ else ⟨#[]⟩ := by
      unfold SR.St.vic
      rw [e2, sr_headD]
      by_cases h : s.mo ≤ (s.A ++ s.N).reverse.length
      · rw [if_pos h, if_pos (decide_eq_true h)]
      · rw [if_neg h, if_neg (by rw [decide_eq_false h]; simp)]
    have hd : (s.A ++ s.N).reverse.length - (s.mo - 1) = (s.A ++ s.N).reverse.length + 1 - s.mo := by omega
    have e4 : ((s.req k).A ++ (s.req k).N).reverse.Perm (k :: (s.A ++ s.N).reverse.drop ((s.A ++ s.N).reverse.length + 1 - s.mo)) := by
      rw [← hd, ← sr_cut]
      cases hG : inn s.G k with
      | true =>
        have e : s.req k = ((s.onG k).cut (s.mo - 1)).prom k := by unfold SR.St.req; rw [if_neg hm, if_neg (by rw [hAN.1]; simp), if_neg (by rw [hAN.2]; simp), if_pos hG]
        rw [e, sr_prom]
        refine (List.reverse_perm _).trans (List.Perm.cons _ ?_)
        exact (List.reverse_perm _).symm
      | false =>
        have e : s.req k = (s.cut (s.mo - 1)).fr k := by unfold SR.St.req; rw [if_neg hm, if_neg (by rw [hAN.1]; simp), if_neg (by rw [hAN.2]; simp), if_neg (by rw [hG]; simp)]
        rw [e]
        show ((s.cut (s.mo - 1)).A ++ (k :: (s.cut (s.mo - 1)).N)).reverse.Perm _
        refine (List.reverse_perm _).trans (List.perm_middle.trans (List.Perm.cons _ ?_))
        exact (List.reverse_perm _).symm
    rw [e2, e3]
    exact miss_tailF nd hk hm hle (fun x => by rw [e4.mem_iff, List.mem_cons]) (by rw [e4.length_eq, List.length_cons])
theorem rm_sr (p : SR.Ok s) (k : ByteArray) : RmF (s.A ++ s.N).reverse ((s.rm k).A ++ (s.rm k).N).reverse (s.rm k).G k (inn (s.A ++ s.N).reverse k) := by
  have e : ((s.rm k).A ++ (s.rm k).N).reverse = rem (s.A ++ s.N).reverse k := by rw [rem_rev, rem_app]; rfl
  rw [e]
  exact rm_rowF (sr_row p) (fun x => rem_mem) rfl rem_not
theorem ad_sr (k : ByteArray) : AdF (s.A ++ s.N).reverse ((s.ad k).A ++ (s.ad k).N).reverse (s.ad k).G s.mo k (!inn (s.A ++ s.N).reverse k && decide ((s.A ++ s.N).reverse.length < s.mo)) := by
  have hb : s.adB k = (!inn (s.A ++ s.N).reverse k && decide ((s.A ++ s.N).reverse.length < s.mo)) := by
    unfold SR.St.adB
    rw [has_sr, List.length_reverse, List.length_append, Nat.add_comm]
  cases h : s.adB k with
  | true =>
    have h2 := h
    rw [hb, Bool.and_eq_true, Bool.not_eq_true', decide_eq_true_eq, inn_no] at h2
    have e : s.ad k = ⟨s.mo, s.t, k :: s.N, s.A, rem s.G k, SR.tdel s.f k⟩ := by unfold SR.St.ad; rw [if_pos h]
    rw [e]
    refine ad_rowF h2.1 h2.2 (fun x => ?_) ?_ rem_not
    · show x ∈ (s.A ++ k :: s.N).reverse ↔ _
      rw [List.mem_reverse, List.mem_reverse, List.mem_append, List.mem_append, List.mem_cons]
      constructor
      · rintro (h | h | h)
        · exact Or.inr (Or.inl h)
        · exact Or.inl h
        · exact Or.inr (Or.inr h)
      · rintro (h | h | h)
        · exact Or.inr (Or.inl h)
        · exact Or.inl h
        · exact Or.inr (Or.inr h)
    · show (s.A ++ k :: s.N).reverse.length = _
      rw [List.length_reverse, List.length_reverse, List.length_append, List.length_append, List.length_cons]; rfl
  | false =>
    have e : s.ad k = s := by unfold SR.St.ad; rw [h]; rfl
    rw [e]
    exact ad_noneF (hb ▸ h)
theorem dr_sr (p : SR.Ok s) : DrF (s.A ++ s.N).reverse (s.dr.A ++ s.dr.N).reverse s.G s.dr.G (lastKey (s.A ++ s.N)) (anyKey (s.A ++ s.N)) := by
  have e1 : (s.dr.A ++ s.dr.N).reverse = (s.A ++ s.N).reverse.tail := by
    rw [List.tail_reverse]
    congr 1
    show SR.dA s.N s.A ++ s.N.dropLast = _
    unfold SR.dA
    by_cases h : s.N = []
    · rw [if_pos h, h]; simp
    · rw [if_neg h, List.dropLast_append_of_ne_nil h]
  have e2 : anyKey (s.A ++ s.N) = !(s.A ++ s.N).reverse.isEmpty := by unfold anyKey; rw [List.isEmpty_reverse]
  rw [e1, ← sr_headD, e2]
  exact dr_tailF (sr_row p) s.G
end

namespace KSt
variable {st : KSt}
theorem nd (h : st.Ok) : st.keys.Nodup := by
  cases st with
  | lr mo ks => exact h.1
  | lf ch mo n L => exact h.1.keys
  | sr s => exact sr_row h
  | ar s =>
    have h : AR.Ok s := h
    refine (List.reverse_perm _).nodup_iff.2 (List.nodup_append.2 ⟨h.pre.nd 1 (by omega), h.pre.nd 0 (by omega), fun a ha b hb e => ?_⟩)
    have := h.pre.dis 1 0 (by omega) (by omega) a ha (e ▸ hb)
    omega
theorem le (h : st.Ok) : st.keys.length ≤ st.mo := by
  cases st with
  | lr mo ks => exact h.2
  | lf ch mo n L => show (LF.Lf.keysL L).length ≤ mo; rw [LF.Lf.keysL_len]; exact h.2.1
  | sr s => show (s.A ++ s.N).reverse.length ≤ s.mo; rw [List.length_reverse, List.length_append]; exact h.le
  | ar s => show (AR.keysL s.R).length ≤ s.mo; rw [AR.keysL_len]; exact h.le
theorem req_f (h : st.Ok) (hm : st.mo ≠ 0) (k : ByteArray) : ReqF st.keys (st.req k).keys st.mo k (st.tell k).1 (st.tell k).2.1 (st.tell k).2.2 := by
  cases st with
  | lr mo ks => exact req_lr h.1 h.2 hm k
  | lf ch mo n L => exact req_lf h.1 h.2.1 hm k
  | sr s => exact req_sr h hm k
  | ar s => exact AR.req_f h hm k
/-- A cache that has no room answers nothing. -/
theorem req_zero (h : st.Ok) (hm : st.mo = 0) (k : ByteArray) : st.keys = [] ∧ (st.req k).keys = [] ∧ st.tell k = (false, ⟨#[]⟩, false) := by
  have h0 : st.keys = [] := List.eq_nil_of_length_eq_zero (by have := le h; omega)
  refine ⟨h0, ?_, ?_⟩
  · cases st with
    | lr mo ks =>
      have hm : mo = 0 := hm
      subst hm
      show reqK 0 ks k = []
      exact List.eq_nil_of_length_eq_zero (by have := reqK_le 0 ks k; omega)
    | lf ch mo n L =>
      have hm : mo = 0 := hm
      subst hm
      exact h0
    | sr s =>
      have hm : s.mo = 0 := hm
      have e : s.req k = s := by unfold SR.St.req; rw [if_pos hm]
      show ((s.req k).A ++ (s.req k).N).reverse = []
      rw [e]; exact h0
    | ar s =>
      have hm : s.mo = 0 := hm
      have e : s.req k = s := by unfold AR.St.req; rw [if_pos hm]
      show AR.keysL (s.req k).R = []
      rw [e]; exact h0
  · cases st with
    | lr mo ks =>
      have hm : mo = 0 := hm
      subst hm
      simp [tell, hitB, vicK, outB]
    | lf ch mo n L =>
      have hm : mo = 0 := hm
      subst hm
      simp [tell, LF.Lf.hitB, LF.Lf.vicK, LF.Lf.outB]
    | sr s =>
      have hm : s.mo = 0 := hm
      have h0 : (s.A ++ s.N).reverse = [] := h0
      have hh : s.hit k = false := by rw [has_sr, h0]; rfl
      simp [tell, SR.St.vic, SR.St.out, hm, hh]
    | ar s =>
      have hm : s.mo = 0 := hm
      have h0 : AR.keysL s.R = [] := h0
      have hh : AR.hit s.R k = false := by rw [has_ar, h0]; rfl
      simp [tell, AR.St.vs, hm, hh, AR.vicOf]
theorem rm_f (h : st.Ok) (k : ByteArray) : RmF st.keys (st.rm k).keys (st.rm k).ghosts k (st.has k) := by
  unfold has
  cases st with
  | lr mo ks => exact rm_rowF h.1 (fun x => rem_mem) rfl (by simp [KSt.rm, KSt.ghosts])
  | lf ch mo n L =>
    have hx : ∀ x, x ∈ LF.Lf.keysL (LF.Ht.rem L k) ↔ x ∈ LF.Lf.keysL L ∧ x ≠ k := fun x => by
      unfold LF.Lf.keysL
      rw [List.mem_map, List.mem_map]
      constructor
      · rintro ⟨e, he, rfl⟩
        exact ⟨⟨e, (LF.Ht.mem_rem.1 he).1, rfl⟩, (LF.Ht.mem_rem.1 he).2⟩
      · rintro ⟨⟨e, he, rfl⟩, h2⟩
        exact ⟨e, LF.Ht.mem_rem.2 ⟨he, h2⟩, rfl⟩
    refine rm_rowF (K' := LF.Lf.keysL (LF.Ht.rem L k)) h.1.keys hx ?_ (by simp [KSt.rm, KSt.ghosts])
    show (LF.Lf.keysL (LF.Ht.rem L k)).length = (rem (LF.Lf.keysL L) k).length
    unfold LF.Lf.keysL LF.Ht.rem rem
    rw [List.length_map, List.filter_map, List.length_map]; rfl
  | sr s => exact rm_sr h k
  | ar s =>
    show RmF (AR.keysL s.R) (AR.keysL (s.rm k).R) (AR.ghL (s.rm k).R) k (inn (AR.keysL s.R) k)
    rw [← has_ar]
    exact AR.rm_f h k
theorem ad_f (h : st.Ok) (k : ByteArray) : AdF st.keys (st.ad k).keys (st.ad k).ghosts st.mo k (st.adB k) := by
  unfold adB has
  cases st with
  | lr mo ks => exact ad_lr h.1 k
  | lf ch mo n L => exact ad_lf k
  | sr s => exact ad_sr k
  | ar s =>
    have hb : s.adB k = (!inn (AR.keysL s.R) k && decide ((AR.keysL s.R).length < s.mo)) := by unfold AR.St.adB; rw [has_ar, AR.keysL_len]
    show AdF (AR.keysL s.R) (AR.keysL (s.ad k).R) (AR.ghL (s.ad k).R) s.mo k (!inn (AR.keysL s.R) k && decide ((AR.keysL s.R).length < s.mo))
    rw [← hb]
    exact AR.ad_f h k
theorem dr_f (h : st.Ok) : DrF st.keys st.dr.keys st.ghosts st.dr.ghosts st.vic st.any := by
  cases st with
  | lr mo ks => exact dr_tailF h.1 []
  | lf ch mo n L =>
    have e1 : LF.Lf.keysL L.tail = (LF.Lf.keysL L).tail := by cases L <;> rfl
    have e2 : L.isEmpty = (LF.Lf.keysL L).isEmpty := by cases L <;> rfl
    show DrF (LF.Lf.keysL L) (LF.Lf.keysL L.tail) [] [] (LF.Lf.hdK L) (!L.isEmpty)
    rw [e1, e2, keysL_head]
    exact dr_tailF h.1.keys []
  | sr s => exact dr_sr h
  | ar s => exact AR.dr_f h
theorem rs_f (h : st.Ok) (n : Nat) : RsF st.keys (st.rs n).keys n (st.gone n) := by
  cases st with
  | lr mo ks => exact rs_dropF h.1 n
  | lf ch mo m L =>
    show RsF (LF.Lf.keysL L) (LF.Lf.keysL (L.drop (L.length - n))) n ((LF.Lf.keysL L).take (L.length - n))
    rw [keysL_drop, ← LF.Lf.keysL_len L]
    exact rs_dropF h.1.keys n
  | sr s =>
    have hlen : (s.A ++ s.N).reverse.length = s.A.length + s.N.length := by rw [List.length_reverse, List.length_append]
    show RsF (s.A ++ s.N).reverse (((s.size n).cut n).A ++ ((s.size n).cut n).N).reverse n ((s.A ++ s.N).reverse.take (s.A.length + s.N.length - n))
    rw [sr_cut, ← hlen]
    exact rs_dropF (sr_row h) n
  | ar s => exact AR.rs_f h n
theorem mo_req (st : KSt) (k : ByteArray) : (st.req k).mo = st.mo := by
  cases st with
  | sr s => show (s.req k).mo = s.mo; unfold SR.St.req; (repeat' split) <;> rfl
  | ar s => show (s.req k).mo = s.mo; unfold AR.St.req; (repeat' split) <;> rfl
  | _ => rfl
theorem mo_ad (st : KSt) (k : ByteArray) : (st.ad k).mo = st.mo := by
  cases st with
  | sr s => show (s.ad k).mo = s.mo; unfold SR.St.ad; split <;> rfl
  | ar s => show (s.ad k).mo = s.mo; unfold AR.St.ad; split <;> rfl
  | _ => rfl
theorem mo_rm (st : KSt) (k : ByteArray) : (st.rm k).mo = st.mo := by cases st <;> rfl
theorem mo_dr (st : KSt) : st.dr.mo = st.mo := by cases st <;> rfl
theorem mo_rs (st : KSt) (n : Nat) : (st.rs n).mo = n := by cases st <;> rfl
theorem start_kind {k : Nat} (hk : k < 5) (m : Nat) : (start k m).kind = k ∧ (start k m).mo = m ∧ (start k m).keys = [] ∧ (start k m).ghosts = [] := by
  obtain rfl | rfl | rfl | rfl | rfl : k = 0 ∨ k = 1 ∨ k = 2 ∨ k = 3 ∨ k = 4 := by omega
  all_goals exact ⟨rfl, rfl, rfl, rfl⟩
end KSt
end Go.Proofs.YtnlckkahkghneaaGreatDoor
