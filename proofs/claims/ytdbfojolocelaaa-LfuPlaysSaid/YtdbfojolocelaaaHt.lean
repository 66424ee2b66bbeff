/- Entries in their order; a tree of places that keeps it; what a swap of two places does to it. -/
import Derived.Test.YtdbfojolocelaaaChecked
namespace Go.Proofs.Ytdbfojolocelaaa
namespace Ht

/-- A key with its rank, and the how-manieth Set gave it that rank. -/
structure Ent (K : Type) where
  key : K
  one : Int
  two : Int
  set : Nat

variable {K : Type}
/-- Ahead of another one: by the rank, then by when it was set. -/
def lt (a b : Ent K) : Prop := a.one < b.one ∨ (a.one = b.one ∧ (a.two < b.two ∨ (a.two = b.two ∧ a.set < b.set)))
instance lt_dec (a b : Ent K) : Decidable (lt a b) := by unfold lt; exact inferInstance
theorem lt.trans {a b c : Ent K} (h : lt a b) (k : lt b c) : lt a c := by unfold lt at *; omega
theorem lt.irrefl (a : Ent K) : ¬ lt a a := by unfold lt; omega
theorem lt.asymm {a b : Ent K} (h : lt a b) : ¬ lt b a := fun k => lt.irrefl a (h.trans k)
theorem lt.tot {a b : Ent K} (h : a.set ≠ b.set) (k : ¬ lt a b) : lt b a := by unfold lt at *; omega

/-! The tree's places. -/
def tg (T : List Nat) (i : Nat) : Nat := T.getD i 0
def tsw (T : List Nat) (i j : Nat) : List Nat := (T.set i (tg T j)).set j (tg T i)
theorem tg_get {T : List Nat} {i : Nat} (h : i < T.length) : T[i]? = some (tg T i) := by
  unfold tg; rw [List.getD_eq_getElem?_getD, List.getElem?_eq_getElem h]; rfl
theorem tg_mem {T : List Nat} {i : Nat} (h : i < T.length) : tg T i ∈ T := List.mem_of_getElem? (tg_get h)
theorem mem_tg {T : List Nat} {b : Nat} (h : b ∈ T) : ∃ i, i < T.length ∧ tg T i = b := by
  obtain ⟨i, hi, rfl⟩ := List.mem_iff_getElem.1 h
  refine ⟨i, hi, ?_⟩
  have := tg_get hi
  rw [List.getElem?_eq_getElem hi] at this
  exact (Option.some.inj this).symm
theorem tsw_len {T : List Nat} {i j : Nat} : (tsw T i j).length = T.length := by simp [tsw]
theorem tg_tsw {T : List Nat} {i j : Nat} (hi : i < T.length) (hj : j < T.length) (k : Nat) : tg (tsw T i j) k = if k = j then tg T i else if k = i then tg T j else tg T k := by
  unfold tsw
  show (List.set _ j _).getD k 0 = _
  rw [List.getD_eq_getElem?_getD, List.getElem?_set, List.getElem?_set]
  by_cases h1 : k = j
  · subst h1; simp [hj]
  · rw [if_neg (fun e => h1 e.symm), if_neg h1]
    by_cases h2 : k = i
    · subst h2; simp [hi]
    · rw [if_neg (fun e => h2 e.symm), if_neg h2]; rfl
theorem tsw_perm {T : List Nat} {i j : Nat} (hi : i < T.length) (hj : j < T.length) : (tsw T i j).Perm T := by
  have e1 : tg T i = T[i] := by have := tg_get hi; rw [List.getElem?_eq_getElem hi] at this; exact (Option.some.inj this).symm
  have e2 : tg T j = T[j] := by have := tg_get hj; rw [List.getElem?_eq_getElem hj] at this; exact (Option.some.inj this).symm
  unfold tsw
  rw [e1, e2]
  exact List.set_set_perm hi hj

/-! The tree's order. -/
def Hp (n : Nat) (o : Nat → Ent K) : Prop := ∀ i, 0 < i → i < n → lt (o ((i - 1) / 2)) (o i)
/-- .. but for place p, which may stand wrong both ways. -/
def Up (n : Nat) (o : Nat → Ent K) (p : Nat) : Prop := (∀ i, 0 < i → i < n → i ≠ p → (i - 1) / 2 ≠ p → lt (o ((i - 1) / 2)) (o i)) ∧ ∀ i, 0 < p → 0 < i → i < n → (i - 1) / 2 = p → lt (o ((p - 1) / 2)) (o i)
/-- .. but for place p, which may stand too far ahead. -/
def Dn (n : Nat) (o : Nat → Ent K) (p : Nat) : Prop := (∀ i, 0 < i → i < n → (i - 1) / 2 ≠ p → lt (o ((i - 1) / 2)) (o i)) ∧ ∀ i, 0 < p → 0 < i → i < n → (i - 1) / 2 = p → lt (o ((p - 1) / 2)) (o i)
def sw (o : Nat → Ent K) (i j : Nat) : Nat → Ent K := fun k => if k = j then o i else if k = i then o j else o k
theorem sw_j (o : Nat → Ent K) (i j : Nat) : sw o i j j = o i := by simp [sw]
theorem sw_i (o : Nat → Ent K) (i j : Nat) (h : i ≠ j) : sw o i j i = o j := by simp [sw, h]
theorem sw_k (o : Nat → Ent K) (i j k : Nat) (h : k ≠ i) (h' : k ≠ j) : sw o i j k = o k := by simp [sw, h, h']

variable {n p : Nat} {o : Nat → Ent K}
theorem Up.step (h : Up n o p) (hp : 0 < p) (hn : p < n) (hl : lt (o p) (o ((p - 1) / 2))) : Up n (sw o p ((p - 1) / 2)) ((p - 1) / 2) := by
  obtain ⟨h1, h2⟩ := h
  obtain ⟨q, hq⟩ : ∃ q, q = (p - 1) / 2 := ⟨_, rfl⟩
  rw [← hq] at hl ⊢
  have hqp : q < p := by omega
  refine ⟨fun i hi hin hiq hrq => ?_, fun i hq0 hi hin hr => ?_⟩
  · have hip : i ≠ p := by intro e; subst e; exact hrq hq.symm
    rw [sw_k o p q i hip hiq]
    by_cases hr : (i - 1) / 2 = p
    · rw [hr, sw_i o p q (by omega), hq]; exact h2 i hp hi hin hr
    · rw [sw_k o p q _ hr hrq]; exact h1 i hi hin hip hr
  · have hb : lt (o ((q - 1) / 2)) (o q) := h1 q hq0 (by omega) (by omega) (by omega)
    rw [sw_k o p q _ (by omega) (by omega)]
    by_cases hip : i = p
    · rw [hip, sw_i o p q (by omega)]; exact hb
    · rw [sw_k o p q i hip (by omega)]
      have := h1 i hi hin hip (by omega)
      rw [hr] at this
      exact hb.trans this
theorem Up.stop (h : Up n o p) (hs : p = 0 ∨ lt (o ((p - 1) / 2)) (o p)) : Dn n o p := by
  refine ⟨fun i hi hin hr => ?_, h.2⟩
  by_cases hip : i = p
  · rcases hs with hs | hs
    · omega
    · rw [hip]; exact hs
  · exact h.1 i hi hin hip hr
theorem Dn.step (h : Dn n o p) {c : Nat} (hc : 0 < c) (hcn : c < n) (hcp : (c - 1) / 2 = p) (hl : lt (o c) (o p)) (hd : ∀ d, 0 < d → d < n → (d - 1) / 2 = p → d ≠ c → lt (o c) (o d)) : Dn n (sw o p c) c := by
  obtain ⟨h1, h2⟩ := h
  refine ⟨fun i hi hin hr => ?_, fun i hc0 hi hin hr => ?_⟩
  · by_cases hic : i = c
    · subst hic; rw [hcp, sw_j, sw_i o p i (by omega)]; exact hl
    · by_cases hip : i = p
      · subst hip
        rw [sw_i o i c (by omega), sw_k o i c _ (by omega) hr]
        exact h2 c hi hc hcn hcp
      · rw [sw_k o p c i hip hic]
        by_cases hrp : (i - 1) / 2 = p
        · rw [hrp, sw_i o p c (by omega)]; exact hd i hi hin hrp hic
        · rw [sw_k o p c _ hrp hr]; exact h1 i hi hin hrp
  · rw [hcp, sw_i o p c (by omega), sw_k o p c i (by omega) (by omega)]
    have := h1 i hi hin (by omega)
    rw [hr] at this
    exact this
theorem Dn.stop (h : Dn n o p) (hs : ∀ c, 0 < c → c < n → (c - 1) / 2 = p → lt (o p) (o c)) : Hp n o := by
  intro i hi hin
  by_cases hr : (i - 1) / 2 = p
  · rw [hr]; exact hs i hi hin hr
  · exact h.1 i hi hin hr
theorem Up.of {m : Nat} {o' : Nat → Ent K} (h : Hp m o) (hm : n ≤ m) (he : ∀ i, i < n → i ≠ p → o' i = o i) : Up n o' p := by
  refine ⟨fun i hi hin hip hr => ?_, fun i hp hi hin hr => ?_⟩
  · rw [he i hin hip, he _ (by omega) hr]; exact h i hi (by omega)
  · rw [he i hin (by omega), he ((p - 1) / 2) (by omega) (by omega)]
    have h1 := h i hi (by omega)
    rw [hr] at h1
    exact (h p hp (by omega)).trans h1
theorem Hp.root (h : Hp n o) : ∀ i, 0 < i → i < n → lt (o 0) (o i) := by
  intro i
  induction i using Nat.strongRecOn with
  | _ i ih =>
    intro hi hin
    by_cases h0 : (i - 1) / 2 = 0
    · have := h i hi hin; rw [h0] at this; exact this
    · exact (ih ((i - 1) / 2) (by omega) (by omega) (by omega)).trans (h i hi hin)

/-! Rows in their order. -/
def Srt (L : List (Ent K)) : Prop := L.Pairwise lt
theorem Srt.uniq : ∀ {L M : List (Ent K)}, L.Perm M → Srt L → Srt M → L = M
  | [], M, hp, _, _ => (List.nil_perm.1 hp).symm
  | a :: L, [], hp, _, _ => by have := hp.length_eq; simp at this
  | a :: L, b :: M, hp, h1, h2 => by
    have ha := List.pairwise_cons.1 h1
    have hb := List.pairwise_cons.1 h2
    have hab : a = b := by
      have m1 : a ∈ b :: M := hp.mem_iff.1 List.mem_cons_self
      have m2 : b ∈ a :: L := hp.mem_iff.2 List.mem_cons_self
      rcases List.mem_cons.1 m1 with e | m1
      · exact e
      · rcases List.mem_cons.1 m2 with e | m2
        · exact e.symm
        · exact absurd (hb.1 a m1) (ha.1 b m2).asymm
    subst hab
    rw [Srt.uniq (List.Perm.cons_inv hp) ha.2 hb.2]
def ins (e : Ent K) : List (Ent K) → List (Ent K)
  | [] => [e]
  | x :: xs => if lt x e then x :: ins e xs else e :: x :: xs
theorem ins_perm (e : Ent K) : ∀ L, (ins e L).Perm (e :: L)
  | [] => List.Perm.refl _
  | x :: xs => by
    unfold ins
    split
    · exact ((ins_perm e xs).cons x).trans (List.Perm.swap e x xs)
    · exact List.Perm.refl _
theorem ins_mem {e x : Ent K} {L : List (Ent K)} : x ∈ ins e L ↔ x = e ∨ x ∈ L := by rw [(ins_perm e L).mem_iff, List.mem_cons]
theorem ins_len (e : Ent K) (L : List (Ent K)) : (ins e L).length = L.length + 1 := by rw [(ins_perm e L).length_eq]; rfl
theorem ins_srt (e : Ent K) : ∀ L : List (Ent K), Srt L → (∀ x ∈ L, x.set ≠ e.set) → Srt (ins e L)
  | [], _, _ => List.pairwise_singleton _ _
  | x :: xs, h, hs => by
    have hx := List.pairwise_cons.1 h
    unfold ins
    split
    · rename_i hl
      refine List.pairwise_cons.2 ⟨fun y hy => ?_, ins_srt e xs hx.2 (fun y hy => hs y (List.mem_cons_of_mem _ hy))⟩
      rcases ins_mem.1 hy with rfl | hy
      · exact hl
      · exact hx.1 y hy
    · rename_i hl
      have he := lt.tot (hs x List.mem_cons_self) hl
      refine List.pairwise_cons.2 ⟨fun y hy => ?_, h⟩
      rcases List.mem_cons.1 hy with rfl | hy
      · exact he
      · exact he.trans (hx.1 y hy)
variable [DecidableEq K]
def rem (L : List (Ent K)) (k : K) : List (Ent K) := L.filter fun e => decide (e.key ≠ k)
theorem mem_rem {L : List (Ent K)} {k : K} {e : Ent K} : e ∈ rem L k ↔ e ∈ L ∧ e.key ≠ k := by simp [rem]
theorem rem_srt {L : List (Ent K)} (h : Srt L) (k : K) : Srt (rem L k) := List.Pairwise.filter _ h
theorem rem_none {L : List (Ent K)} {k : K} (h : ∀ e ∈ L, e.key ≠ k) : rem L k = L := by
  unfold rem; rw [List.filter_eq_self]; intro e he; simp [h e he]
def find (L : List (Ent K)) (k : K) : Option (Ent K) := L.find? fun e => decide (e.key = k)
theorem find_some {L : List (Ent K)} {k : K} {e : Ent K} (h : find L k = some e) : e ∈ L ∧ e.key = k := ⟨List.mem_of_find?_eq_some h, by simpa using List.find?_some h⟩
theorem find_none {L : List (Ent K)} {k : K} (h : find L k = none) : ∀ e ∈ L, e.key ≠ k := by
  intro e he; have := List.find?_eq_none.1 h e he; simpa using this
/-- Each key once, each number once, none greater than c. -/
structure Once (L : List (Ent K)) (c : Nat) : Prop where
  keys : (L.map (·.key)).Nodup
  sets : (L.map (·.set)).Nodup
  le : ∀ e ∈ L, e.set ≤ c
omit [DecidableEq K] in
theorem Once.perm {L M : List (Ent K)} {c : Nat} (h : Once L c) (hp : L.Perm M) : Once M c :=
  ⟨(hp.map _).nodup_iff.1 h.keys, (hp.map _).nodup_iff.1 h.sets, fun e he => h.le e (hp.mem_iff.2 he)⟩
omit [DecidableEq K] in
theorem Once.uniq {L : List (Ent K)} {c : Nat} (h : Once L c) {a b : Ent K} (ha : a ∈ L) (hb : b ∈ L) (he : a.key = b.key) : a = b := by
  have := h.keys
  induction L with
  | nil => cases ha
  | cons x L ih =>
    rw [List.map_cons, List.nodup_cons] at this
    rcases List.mem_cons.1 ha with rfl | ha'
    · rcases List.mem_cons.1 hb with rfl | hb'
      · rfl
      · exact absurd (he ▸ List.mem_map_of_mem hb') this.1
    · rcases List.mem_cons.1 hb with rfl | hb'
      · exact absurd (he ▸ List.mem_map_of_mem ha') this.1
      · have hL : Once L c := ⟨this.2, (List.nodup_cons.1 (by simpa using h.sets)).2, fun e he => h.le e (List.mem_cons_of_mem _ he)⟩
        exact ih hL ha' hb' this.2
theorem Once.rem {L : List (Ent K)} {c : Nat} (h : Once L c) (k : K) : Once (rem L k) c :=
  ⟨h.keys.sublist ((List.filter_sublist).map _), h.sets.sublist ((List.filter_sublist).map _), fun e he => h.le e (mem_rem.1 he).1⟩
omit [DecidableEq K] in
theorem Once.put {L : List (Ent K)} {c : Nat} (h : Once L c) (k : K) (a b : Int) (hk : ∀ e ∈ L, e.key ≠ k) : Once (ins ⟨k, a, b, c + 1⟩ L) (c + 1) := by
  refine Once.perm (L := ⟨k, a, b, c + 1⟩ :: L) ⟨?_, ?_, ?_⟩ (ins_perm _ _).symm
  · rw [List.map_cons, List.nodup_cons]
    refine ⟨fun hm => ?_, h.keys⟩
    obtain ⟨e, he, hek⟩ := List.mem_map.1 hm
    exact hk e he hek
  · rw [List.map_cons, List.nodup_cons]
    refine ⟨fun hm => ?_, h.sets⟩
    obtain ⟨e, he, hek⟩ := List.mem_map.1 hm
    have := h.le e he
    have : e.set = c + 1 := hek
    omega
  · intro e he
    rcases List.mem_cons.1 he with rfl | he
    · exact Nat.le_refl _
    · exact Nat.le_succ_of_le (h.le e he)
theorem Once.rem_cons {e : Ent K} {L : List (Ent K)} {c : Nat} (h : Once (e :: L) c) : Ht.rem (e :: L) e.key = L := by
  unfold Ht.rem
  rw [List.filter_cons_of_neg (by simp), List.filter_eq_self]
  intro x hx
  have := h.keys
  rw [List.map_cons, List.nodup_cons] at this
  have hne : x.key ≠ e.key := fun he => this.1 (he ▸ List.mem_map_of_mem hx)
  simp [hne]
theorem Once.find {L : List (Ent K)} {c : Nat} (h : Once L c) {e : Ent K} (he : e ∈ L) : Ht.find L e.key = some e := by
  cases hf : Ht.find L e.key with
  | none => exact absurd rfl (find_none hf e he)
  | some x => rw [h.uniq (find_some hf).1 he (find_some hf).2]
end Ht
end Go.Proofs.Ytdbfojolocelaaa
