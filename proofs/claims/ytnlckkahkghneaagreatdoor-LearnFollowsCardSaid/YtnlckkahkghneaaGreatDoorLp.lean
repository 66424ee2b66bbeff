/- Of a learner of the first kind, as plain lists: who goes where all draws are 0, and where all are the greatest. No program is spoken of. -/
import Derived.Test.YtnlckkahkghneaaGreatDoorLo
namespace Go.Proofs.YtnlckkahkghneaaGreatDoor.LE
open Sg

def upf (f : ByteArray → Int) (k : ByteArray) (v : Int) : ByteArray → Int := fun x => if x = k then v else f x
theorem upf_self (f : ByteArray → Int) (k : ByteArray) (v : Int) : upf f k v k = v := if_pos rfl
theorem upf_ne {f : ByteArray → Int} {k x : ByteArray} {v : Int} (h : x ≠ k) : upf f k v x = f x := if_neg h

/-- All draws are 0: residents stand by when they were asked for last. -/
structure FolA (s : St) (last : ByteArray → Int) (i : Nat) : Prop where
  vs : s.vs = []
  row : ∃ ks, s.A = .lr s.mo ks ∧ ks.Pairwise (fun x y => last x < last y) ∧ ∀ x ∈ ks, last x ≤ (i : Int)
theorem folA_start (m : Nat) (f : ByteArray → Int) : FolA (St.start false m []) f 0 := ⟨rfl, [], rfl, List.Pairwise.nil, fun x hx => (by cases hx)⟩
section
variable {s : St}
theorem late {ks : List ByteArray} {last : ByteArray → Int} {i : Nat} {k : ByteArray} (hp : ks.Pairwise fun x y => last x < last y) (hi : ∀ x ∈ ks, last x ≤ (i : Int)) :
    (rem ks k ++ [k]).Pairwise (fun x y => upf last k ((i : Int) + 1) x < upf last k ((i : Int) + 1) y) ∧ ∀ x ∈ rem ks k ++ [k], upf last k ((i : Int) + 1) x ≤ ((i + 1 : Nat) : Int) := by
  have h1 : (rem ks k).Pairwise fun x y => last x < last y := List.Pairwise.sublist List.filter_sublist hp
  have e : ∀ x ∈ rem ks k, upf last k ((i : Int) + 1) x = last x ∧ last x ≤ (i : Int) := fun x hx => ⟨upf_ne (rem_mem.1 hx).2, hi x (rem_mem.1 hx).1⟩
  refine ⟨List.pairwise_append.2 ⟨?_, List.pairwise_singleton _ _, fun x hx y hy => ?_⟩, fun x hx => ?_⟩
  · refine List.Pairwise.imp_of_mem (fun {a b} ha hb hab => ?_) h1
    rw [(e a ha).1, (e b hb).1]; exact hab
  · obtain rfl := List.mem_singleton.1 hy
    rw [(e x hx).1, upf_self]
    have := (e x hx).2
    omega
  · rcases List.mem_append.1 hx with hx | hx
    · rw [(e x hx).1]
      have := (e x hx).2
      omega
    · rw [List.mem_singleton.1 hx, upf_self]; omega
theorem wnd5 (t : St) (h : t.six = false) : t.window = t := by unfold St.window; rw [if_pos h]
theorem folA_req (h : Ok s) (h5 : s.six = false) (hm : s.mo ≠ 0) {last : ByteArray → Int} {i : Nat} (f : FolA s last i) (k : ByteArray) :
    (s.outB k = true → ∀ x ∈ s.keys, last (s.vicV k) ≤ last x) ∧ FolA (s.req k) (upf last k ((i : Int) + 1)) (i + 1) := by
  obtain ⟨hv, ks, hA, hp, hi⟩ := f
  have hks : s.keys = ks := by unfold St.keys; rw [hA]; rfl
  have okA := h.okA
  rw [hA] at okA
  have nd : ks.Nodup := okA.1
  have hle : ks.length ≤ s.mo := okA.2
  cases hk : s.has k with
  | true =>
    have e1 : s.outB k = false := by unfold St.outB; rw [hk]; rfl
    refine ⟨fun e => (by rw [e1] at e; cases e), ?_⟩
    rw [req_hit hm hk, wnd5 (s.tick.onHit k) h5]
    have hkk : k ∈ ks := by rw [← hks]; exact inn_iff.1 hk
    refine ⟨hv, rem ks k ++ [k], ?_, (late hp hi).1, (late hp hi).2⟩
    show s.A.req k = KSt.lr s.mo _
    rw [hA]
    show KSt.lr s.mo (reqK s.mo ks k) = _
    rw [reqK_hit nd hkk hle]
  | false =>
    have hkk : k ∉ ks := by rw [← hks]; exact inn_no.1 hk
    have e1 : s.outB k = s.tick.full := by unfold St.outB; rw [hk, decide_eq_true hm]; rfl
    rw [req_miss hm hk, wnd5 ((s.tick.make k).both k) ((make_w s.tick k).2.1.trans h5)]
    have hpick : ∀ u : St, u.vs = [] → least ≤ u.w → u.pick = true := by
      intro u hu hw
      have := least_val
      unfold St.pick
      rw [hu]
      exact decide_eq_true (by show 0 / 4 < u.w; omega)
    have pk := hpick (s.tick.regret k) hv (wR_in (tick_ok h) k).1
    have adl : ∀ zs : List ByteArray, zs.length < s.mo → k ∉ zs → KSt.ad (.lr s.mo zs) k = .lr s.mo (rem zs k ++ [k]) := by
      intro zs hz hn
      show KSt.lr s.mo (LR.adK s.mo zs k) = _
      have hb : LR.adB s.mo zs k = true := by unfold LR.adB; rw [inn_no.2 hn, decide_eq_true hz]; rfl
      unfold LR.adK
      rw [if_pos hb]
    cases hf : s.tick.full with
    | false =>
      refine ⟨fun e => (by rw [e1, hf] at e; cases e), ?_⟩
      have em : s.tick.make k = s.tick.regret k := by unfold St.make; rw [if_neg (by rw [hf]; simp)]
      rw [em]
      have hlt : ks.length < s.mo := by
        have : ¬ s.mo ≤ s.A.keys.length := of_decide_eq_false hf
        rw [hA] at this
        exact Nat.lt_of_not_le this
      refine ⟨hv, rem ks k ++ [k], ?_, (late hp hi).1, (late hp hi).2⟩
      show s.A.ad k = KSt.lr s.mo _
      rw [hA]
      exact adl ks hlt hkk
    | true =>
      have hge : s.mo ≤ ks.length := by
        have : s.mo ≤ s.A.keys.length := of_decide_eq_true hf
        rw [hA] at this
        exact this
      have em : s.tick.make k = (s.tick.regret k).evict := by unfold St.make; rw [if_pos hf]
      obtain ⟨v, zs, rfl⟩ : ∃ v zs, ks = v :: zs := by
        cases ks with
        | nil => exact absurd hge (by show ¬ s.mo ≤ 0; omega)
        | cons v zs => exact ⟨v, zs, rfl⟩
      have hv1 : s.A.vic = v := by rw [hA]; rfl
      have ev : s.vicV k = v := by
        unfold St.vicV
        rw [e1, hf, if_pos rfl]
        unfold St.evV
        rw [if_pos pk]
        exact hv1
      have hn := List.nodup_cons.1 nd
      have er : rem (v :: zs) v = zs := by
        unfold rem
        rw [List.filter_cons_of_neg (by simp)]
        exact rem_none hn.1
      have hp2 := (List.pairwise_cons.1 hp).2
      have hi2 : ∀ x ∈ zs, last x ≤ (i : Int) := fun x hx => hi x (List.mem_cons_of_mem _ hx)
      refine ⟨fun _ x hx => ?_, ?_⟩
      · rw [ev]
        rw [hks] at hx
        rcases List.mem_cons.1 hx with rfl | hx
        · exact Int.le_refl _
        · exact Int.le_of_lt ((List.pairwise_cons.1 hp).1 x hx)
      · rw [em]
        unfold St.evict
        rw [if_pos pk]
        refine ⟨by show s.vs.tail = []; rw [hv]; rfl, rem zs k ++ [k], ?_, (late hp2 hi2).1, (late hp2 hi2).2⟩
        show (s.A.rm s.A.vic).ad k = KSt.lr s.mo _
        rw [hv1, hA]
        show KSt.ad (.lr s.mo (rem (v :: zs) v)) k = _
        rw [er]
        exact adl zs (by have : zs.length + 1 ≤ s.mo := hle; omega) fun e => hkk (List.mem_cons_of_mem _ e)
end

/-- All draws are the greatest: who was asked for the fewest times goes. -/
structure FolB (s : St) (tm : ByteArray → Int) (i : Nat) : Prop where
  vs : ∃ j, s.vs = List.replicate j 18446744073709551615 ∧ 100 ≤ j + i
  row : ∃ n L, s.B = .lf false s.mo n L ∧ ∀ x, tm x = LF.Lf.tms L x
theorem folB_start (m : Nat) : FolB (St.start false m (List.replicate 100 18446744073709551615)) (fun _ => 0) 0 := ⟨⟨100, rfl, Nat.le_refl _⟩, 0, [], rfl, fun _ => rfl⟩
section
variable {s : St}
theorem tms_other {ch : Bool} {n : Nat} {L : List (LF.Ht.Ent ByteArray)} (o : LF.Ht.Once L n) {k j : ByteArray} (h : j ≠ k) : LF.Lf.tms (LF.Lf.put ch n L k) j = LF.Lf.tms L j := by
  unfold LF.Lf.tms
  rw [LF.Lf.put_other o h]
theorem tms_rem {n : Nat} {L : List (LF.Ht.Ent ByteArray)} (o : LF.Ht.Once L n) (k j : ByteArray) : LF.Lf.tms (LF.Ht.rem L k) j = if j = k then 0 else LF.Lf.tms L j := by
  split
  · rename_i e
    rw [e]
    exact LF.Lf.tms_no (LF.Lf.isIn_rem L k)
  · rename_i e
    unfold LF.Lf.tms
    rw [LF.Lf.rem_other o e]
theorem tms_put {ch : Bool} {n : Nat} {L : List (LF.Ht.Ent ByteArray)} (o : LF.Ht.Once L n) {tm : ByteArray → Int} (ht : ∀ x, tm x = LF.Lf.tms L x) (k x : ByteArray) : upf tm k (tm k + 1) x = LF.Lf.tms (LF.Lf.put ch n L k) x := by
  by_cases e : x = k
  · rw [e, upf_self, LF.Lf.put_tms o, ht]
  · rw [upf_ne e, tms_other o e, ht]
theorem folB_req (h : Ok s) (h5 : s.six = false) (hm : s.mo ≠ 0) {tm : ByteArray → Int} {i : Nat} (f : FolB s tm i) (hi : i < 100) (k : ByteArray) {tm1 : ByteArray → Int} (ht1 : tm1 = if s.outB k = true then upf tm (s.vicV k) 0 else tm) :
    (s.outB k = true → ∀ x ∈ s.keys, tm (s.vicV k) ≤ tm x) ∧ FolB (s.req k) (upf tm1 k (tm1 k + 1)) (i + 1) := by
  obtain ⟨⟨j, hv, hj⟩, n, L, hB, ht⟩ := f
  have okB := h.okB
  rw [hB] at okB
  obtain ⟨o, hle, fit, srt⟩ := okB
  have hkB : ∀ x, x ∈ s.keys ↔ x ∈ LF.Lf.keysL L := fun x => by
    have := h.mem x
    rw [hB] at this
    exact this
  have isIn_k : LF.Lf.isIn L k = s.has k := by
    rw [has_lf, Bool.eq_iff_iff, inn_iff, ← hkB]
    exact inn_iff.symm
  cases hk : s.has k with
  | true =>
    have e1 : s.outB k = false := by unfold St.outB; rw [hk]; rfl
    rw [e1, if_neg (by simp)] at ht1
    subst ht1
    refine ⟨fun e => (by rw [e1] at e; cases e), ?_⟩
    rw [req_hit hm hk, wnd5 (s.tick.onHit k) h5]
    refine ⟨⟨j, hv, by omega⟩, n + 1, LF.Lf.put false n L k, ?_, fun x => tms_put o ht k x⟩
    show s.B.req k = _
    rw [hB]
    show KSt.lf false s.mo (LF.Lf.reqN s.mo n) (LF.Lf.reqL false s.mo n L k) = _
    unfold LF.Lf.reqN LF.Lf.reqL
    rw [if_neg hm, if_neg hm, if_pos (isIn_k.trans hk)]; rfl
  | false =>
    have hkk : k ∉ LF.Lf.keysL L := by rw [← hkB]; exact inn_no.1 hk
    have e1 : s.outB k = s.tick.full := by unfold St.outB; rw [hk, decide_eq_true hm]; rfl
    rw [req_miss hm hk, wnd5 ((s.tick.make k).both k) ((make_w s.tick k).2.1.trans h5)]
    have hlen : s.A.keys.length = L.length := by
      rw [h.len, hB]
      exact LF.Lf.keysL_len L
    have adl : ∀ Z : List (LF.Ht.Ent ByteArray), Z.length < s.mo → LF.Lf.isIn Z k = false → KSt.ad (.lf false s.mo n Z) k = .lf false s.mo (n + 1) (LF.Lf.put false n Z k) := by
      intro Z hz hn
      show KSt.lf false s.mo (LF.Lf.adN s.mo n Z k) (LF.Lf.adL false s.mo n Z k) = _
      have hb : LF.Lf.adB s.mo Z k = true := by unfold LF.Lf.adB; rw [hn, decide_eq_true hz]; rfl
      unfold LF.Lf.adN LF.Lf.adL
      rw [if_pos hb, if_pos hb]
    cases hf : s.tick.full with
    | false =>
      rw [e1, hf, if_neg (by simp)] at ht1
      subst ht1
      refine ⟨fun e => (by rw [e1, hf] at e; cases e), ?_⟩
      have em : s.tick.make k = s.tick.regret k := by unfold St.make; rw [if_neg (by rw [hf]; simp)]
      rw [em]
      have hlt : L.length < s.mo := by
        have : ¬ s.mo ≤ s.A.keys.length := of_decide_eq_false hf
        omega
      refine ⟨⟨j, hv, by omega⟩, n + 1, LF.Lf.put false n L k, ?_, fun x => tms_put o ht k x⟩
      show s.B.ad k = _
      rw [hB]
      exact adl L hlt (isIn_k.trans hk)
    | true =>
      have hge : s.mo ≤ L.length := by
        have : s.mo ≤ s.A.keys.length := of_decide_eq_true hf
        omega
      have em : s.tick.make k = (s.tick.regret k).evict := by unfold St.make; rw [if_pos hf]
      obtain ⟨e, Z, rfl⟩ : ∃ e Z, L = e :: Z := by
        cases L with
        | nil => exact absurd hge (by show ¬ s.mo ≤ 0; omega)
        | cons e Z => exact ⟨e, Z, rfl⟩
      have hv1 : s.B.vic = e.key := by rw [hB]; rfl
      have pk : (s.tick.regret k).pick = false := by
        have hw := (wR_in (tick_ok h) k).2
        obtain ⟨j', rfl⟩ : ∃ j', j = j' + 1 := ⟨j - 1, by omega⟩
        unfold St.pick
        refine decide_eq_false ?_
        show ¬ s.vs.headD 0 / 4 < s.tick.wR k
        rw [hv]
        show ¬ 18446744073709551615 / 4 < s.tick.wR k
        have := least_val
        unfold one at hw
        omega
      have ev : s.vicV k = e.key := by
        unfold St.vicV
        rw [e1, hf, if_pos rfl]
        unfold St.evV
        rw [if_neg (by rw [pk]; simp)]
        exact hv1
      have er : LF.Ht.rem (e :: Z) e.key = Z := LF.Ht.Once.rem_cons o
      rw [e1, hf, if_pos rfl, ev] at ht1
      have ht2 : ∀ x, tm1 x = LF.Lf.tms Z x := fun x => by
        rw [ht1, ← er, tms_rem o]
        unfold upf
        split
        · rfl
        · exact ht x
      have oZ : LF.Ht.Once Z n := by rw [← er]; exact o.rem e.key
      refine ⟨fun _ x hx => ?_, ?_⟩
      · rw [ev, ht, ht, LF.Lf.tms_mem o List.mem_cons_self]
        rw [hkB] at hx
        obtain ⟨d, hd, rfl⟩ := List.mem_map.1 hx
        rw [LF.Lf.tms_mem o hd]
        rcases List.mem_cons.1 hd with rfl | hd
        · exact Int.le_refl _
        · exact (List.pairwise_cons.1 (LF.Lf.srt_one srt)).1 d hd
      · rw [em]
        unfold St.evict
        rw [if_neg (by rw [pk]; simp)]
        obtain ⟨j', rfl⟩ : ∃ j', j = j' + 1 := ⟨j - 1, by omega⟩
        refine ⟨⟨j', by show s.vs.tail = _; rw [hv]; rfl, by omega⟩, n + 1, LF.Lf.put false n Z k, ?_, fun x => tms_put oZ ht2 k x⟩
        show (s.B.rm s.B.vic).ad k = _
        rw [hv1, hB]
        show KSt.ad (.lf false s.mo n (LF.Ht.rem (e :: Z) e.key)) k = _
        rw [er]
        refine adl Z (by have : Z.length + 1 ≤ s.mo := hle; omega) ?_
        rw [has_lf]
        exact inn_no.2 fun g => hkk (List.mem_cons_of_mem _ g)
end
end Go.Proofs.YtnlckkahkghneaaGreatDoor.LE
