/- What a list's arena must be, and what each of its steps leaves: plain mathematics. -/
import Derived.Test.YtlmbeiijijkjeaaTake
import Derived.Test.YtlmbeiijijkjeaaMp
namespace Go.Proofs.Ytlmbeiijijkjeaa
open Go.RowKit Sg

/-- A row without a key. -/
def rem (xs : List ByteArray) (k : ByteArray) : List ByteArray := xs.filter fun x => decide (x ≠ k)
theorem rem_none {xs : List ByteArray} {k : ByteArray} (h : k ∉ xs) : rem xs k = xs := by
  unfold rem
  rw [List.filter_eq_self]
  intro x hx
  simp only [decide_eq_true_eq]
  intro e
  exact h (e ▸ hx)
theorem rem_not {xs : List ByteArray} {k : ByteArray} : k ∉ rem xs k := by simp [rem]
theorem rem_mem {xs : List ByteArray} {k x : ByteArray} : x ∈ rem xs k ↔ x ∈ xs ∧ x ≠ k := by simp [rem]
theorem rem_nodup {xs : List ByteArray} {k : ByteArray} (h : xs.Nodup) : (rem xs k).Nodup := h.sublist List.filter_sublist
theorem rem_le (xs : List ByteArray) (k : ByteArray) : (rem xs k).length ≤ xs.length := List.length_filter_le _ _

/-- Is the key in the row? -/
def inn (xs : List ByteArray) (s : ByteArray) : Bool := xs.any fun x => decide (x = s)
theorem inn_iff {xs : List ByteArray} {s : ByteArray} : inn xs s = true ↔ s ∈ xs := by simp [inn]
theorem inn_no {xs : List ByteArray} {s : ByteArray} : inn xs s = false ↔ s ∉ xs := by rw [← inn_iff]; simp

/-- An arena whose ring is row, whose empty places are free; f tells each key's place. -/
structure Good (A : Ar) (row free : List Nat) (f : ByteArray → Option Nat) : Prop where
  ring : Seg A.nx A.pv 0 row 0
  chain : Fch A.nx A.e free
  nodup : (0 :: (row ++ free)).Nodup
  lt : ∀ i ∈ row ++ free, i < A.n
  len : row.length + free.length + 1 = A.n
  root : A.K 0 = ⟨#[]⟩
  keys : (row.map A.K).Nodup
  small : ∀ i ∈ row, (A.K i).size ≤ maxLen
  spot : ∀ s i, f s = some i ↔ i ∈ row ∧ A.K i = s

/-- .. with one place besides that has a key, and is linked to no other. -/
structure Loose (A : Ar) (row free : List Nat) (f : ByteArray → Option Nat) (a : Nat) : Prop where
  ring : Seg A.nx A.pv 0 row 0
  chain : Fch A.nx A.e free
  nodup : (0 :: a :: (row ++ free)).Nodup
  lt : ∀ i ∈ a :: (row ++ free), i < A.n
  len : row.length + free.length + 2 = A.n
  root : A.K 0 = ⟨#[]⟩
  keys : ((a :: row).map A.K).Nodup
  small : ∀ i ∈ a :: row, (A.K i).size ≤ maxLen
  spot : ∀ s i, f s = some i ↔ i ∈ a :: row ∧ A.K i = s

section
variable {A : Ar} {row free : List Nat} {f : ByteArray → Option Nat} {a : Nat}

theorem Good.ringNodup (h : Good A row free f) : (0 :: row).Nodup := h.nodup.sublist (List.Sublist.cons_cons _ (List.sublist_append_left _ _))
theorem Good.absent (h : Good A row free f) {s : ByteArray} (hs : f s = none) : s ∉ row.map A.K := by
  intro hm
  obtain ⟨i, hi, rfl⟩ := List.mem_map.1 hm
  have := (h.spot (A.K i) i).2 ⟨hi, rfl⟩
  rw [hs] at this; cases this
theorem Good.isSome (h : Good A row free f) (s : ByteArray) : (f s).isSome = inn (row.map A.K) s := by
  cases hs : f s with
  | none => exact (inn_no.2 (h.absent hs)).symm
  | some i =>
    obtain ⟨hi, hk⟩ := (h.spot s i).1 hs
    exact (inn_iff.2 (by rw [← hk]; exact List.mem_map_of_mem hi)).symm

theorem map_filter (K : Nat → ByteArray) (s : ByteArray) : ∀ row : List Nat, (row.filter fun i => decide (K i ≠ s)).map K = rem (row.map K) s
  | [] => rfl
  | x :: row => by
    have ih := map_filter K s row
    unfold rem at ih ⊢
    rw [List.map_cons, List.filter_cons, List.filter_cons]
    by_cases e : K x = s
    · simp only [e, ne_eq, not_true_eq_false, decide_false, Bool.false_eq_true, if_false]; exact ih
    · simp only [e, ne_eq, not_false_eq_true, decide_true, if_true, List.map_cons]; rw [ih]

/-- A place in use, unlinked. -/
theorem Good.loosed (h : Good A row free f) (ha : a ∈ row) : Loose (unl A a) (row.filter fun i => decide (A.K i ≠ A.K a)) free f a := by
  obtain ⟨xs, ys, rfl⟩ := List.append_of_mem ha
  have hf := filter_split h.keys
  rw [hf]
  have hn0 := List.nodup_cons.1 h.nodup
  have hn1 := List.nodup_append.1 hn0.2
  have hperm : (xs ++ a :: ys).Perm (a :: (xs ++ ys)) := List.perm_middle
  have hn : (0 :: a :: (xs ++ ys ++ free)).Nodup := by
    refine (List.Perm.nodup_iff ?_).1 h.nodup
    exact List.Perm.cons _ ((hperm.append_right free))
  have hmem : ∀ i, i ∈ a :: (xs ++ ys) ↔ i ∈ xs ++ a :: ys := fun i => hperm.symm.mem_iff
  refine ⟨unlink h.ring h.ringNodup, ?_, hn, ?_, ?_, h.root, ?_, ?_, ?_⟩
  · refine fch_congr h.chain fun i hi => upd_ne ?_
    intro e
    have hp := seg_pv_mem (seg_append.1 h.ring).1
    rw [← e] at hp
    rcases List.mem_cons.1 hp with h0 | h0
    · exact hn0.1 (by rw [← h0]; exact List.mem_append_right _ hi)
    · exact hn1.2.2 i (List.mem_append_left _ h0) i hi rfl
  · intro i hi
    refine h.lt i ?_
    rcases List.mem_cons.1 hi with rfl | h0
    · exact List.mem_append_left _ ha
    · rcases List.mem_append.1 h0 with h1 | h1
      · exact List.mem_append_left _ ((hmem i).1 (List.mem_cons_of_mem _ h1))
      · exact List.mem_append_right _ h1
  · have := h.len
    show _ = A.n
    simp only [List.length_append, List.length_cons] at this ⊢
    omega
  · exact (List.Perm.nodup_iff (hperm.map A.K)).1 h.keys
  · exact fun i hi => h.small i ((hmem i).1 hi)
  · intro s i
    rw [h.spot s i, hmem i]
    exact Iff.rfl

/-- An empty place, taken, with a key. -/
theorem Good.taken (h : Good A row free f) (he : A.e ≠ 0) {s : ByteArray} (hs : f s = none) (hsz : s.size ≤ maxLen) :
    ∃ free', free = A.e :: free' ∧ Loose { A with e := A.nx A.e, K := upd A.K A.e s } row free' (fput f s A.e) A.e := by
  have hc := h.chain
  cases hfr : free with
  | nil => rw [hfr] at hc; exact absurd hc he
  | cons x free' =>
    rw [hfr] at hc
    obtain ⟨hx, hc⟩ := hc
    subst hfr
    subst hx
    have hn0 := List.nodup_cons.1 h.nodup
    have hn1 := List.nodup_append.1 hn0.2
    have hn2 := List.nodup_cons.1 hn1.2.1
    have hperm : (row ++ A.e :: free').Perm (A.e :: (row ++ free')) := List.perm_middle
    have her : A.e ∉ row := fun hr => hn1.2.2 A.e hr A.e (by simp) rfl
    have hK : ∀ i ∈ row, upd A.K A.e s i = A.K i := fun i hi => upd_ne (fun e => her (e ▸ hi))
    have hmap : row.map (upd A.K A.e s) = row.map A.K := List.map_congr_left hK
    refine ⟨free', rfl, h.ring, hc, ?_, ?_, ?_, ?_, ?_, ?_, ?_⟩
    · exact (List.Perm.nodup_iff (hperm.cons 0)).1 h.nodup
    · exact fun i hi => h.lt i (hperm.symm.mem_iff.1 hi)
    · have := h.len
      show _ = A.n
      simp only [List.length_cons] at this
      omega
    · show upd A.K A.e s 0 = _
      rw [upd_ne (fun e => he e.symm)]; exact h.root
    · show ((A.e :: row).map (upd A.K A.e s)).Nodup
      rw [List.map_cons, hmap, upd_same]
      exact List.nodup_cons.2 ⟨h.absent hs, h.keys⟩
    · intro i hi
      show (upd A.K A.e s i).size ≤ maxLen
      rcases List.mem_cons.1 hi with rfl | h0
      · rw [upd_same]; exact hsz
      · rw [hK i h0]; exact h.small i h0
    · intro t i
      show fput f s A.e t = some i ↔ i ∈ A.e :: row ∧ upd A.K A.e s i = t
      unfold fput
      by_cases e : t = s
      · subst e
        rw [if_pos rfl]
        constructor
        · intro h1; cases h1; exact ⟨by simp, upd_same _ _ _⟩
        · rintro ⟨h1, h2⟩
          rcases List.mem_cons.1 h1 with rfl | h0
          · rfl
          · rw [hK i h0] at h2
            exact absurd (by rw [← h2]; exact List.mem_map_of_mem h0) (h.absent hs)
      · rw [if_neg e, h.spot t i]
        constructor
        · rintro ⟨h1, h2⟩; exact ⟨List.mem_cons_of_mem _ h1, by rw [hK i h1]; exact h2⟩
        · rintro ⟨h1, h2⟩
          rcases List.mem_cons.1 h1 with rfl | h0
          · rw [upd_same] at h2; exact absurd h2.symm e
          · rw [hK i h0] at h2; exact ⟨h0, h2⟩

/-- A new place, with a key. -/
theorem Good.grown (h : Good A row free f) (he : A.e = 0) {s : ByteArray} (hs : f s = none) (hsz : s.size ≤ maxLen) :
    free = [] ∧ Loose { grow A with K := upd (grow A).K A.n s } row [] (fput f s A.n) A.n := by
  have hc := h.chain
  have hn0 := List.nodup_cons.1 h.nodup
  cases hfr : free with
  | cons x free' =>
    rw [hfr] at hc
    exact absurd (hc.1.symm.trans he) (fun e => hn0.1 (by rw [← e, hfr]; simp))
  | nil =>
    subst hfr
    rw [List.append_nil] at hn0
    have hlt : ∀ i ∈ row, i < A.n := fun i hi => h.lt i (by rw [List.append_nil]; exact hi)
    have hne : ∀ i ∈ row, i ≠ A.n := fun i hi => by have := hlt i hi; omega
    have hlen := h.len
    rw [List.length_nil] at hlen
    have hK : ∀ i ∈ row, upd (grow A).K A.n s i = A.K i := fun i hi => by
      rw [upd_ne (hne i hi)]; exact upd_ne (hne i hi)
    have hmap : row.map (upd (grow A).K A.n s) = row.map A.K := List.map_congr_left hK
    refine ⟨rfl, ?_, ?_, ?_, ?_, ?_, ?_, ?_, ?_, ?_⟩
    · refine seg_congr h.ring (fun i hi => upd_ne ?_) (fun i hi => upd_ne ?_)
      · rcases List.mem_cons.1 hi with rfl | h0
        · omega
        · exact hne i h0
      · rcases List.mem_append.1 hi with h0 | h0
        · exact hne i h0
        · have : i = 0 := by simpa using h0
          omega
    · show A.e = 0
      exact he
    · rw [List.append_nil]
      refine List.nodup_cons.2 ⟨?_, List.nodup_cons.2 ⟨fun hr => hne _ hr rfl, hn0.2⟩⟩
      intro hm
      rcases List.mem_cons.1 hm with h0 | h0
      · omega
      · exact hn0.1 h0
    · intro i hi
      rw [List.append_nil] at hi
      show i < A.n + 1
      rcases List.mem_cons.1 hi with rfl | h0
      · omega
      · have := hlt i h0; omega
    · show _ = A.n + 1
      simp only [List.length_nil]; omega
    · show upd (upd A.K A.n ⟨#[]⟩) A.n s 0 = _
      rw [upd_ne (by omega), upd_ne (by omega)]; exact h.root
    · show ((A.n :: row).map (upd (grow A).K A.n s)).Nodup
      rw [List.map_cons, hmap, upd_same]
      exact List.nodup_cons.2 ⟨h.absent hs, h.keys⟩
    · intro i hi
      show (upd (grow A).K A.n s i).size ≤ maxLen
      rcases List.mem_cons.1 hi with rfl | h0
      · rw [upd_same]; exact hsz
      · rw [hK i h0]; exact h.small i h0
    · intro t i
      show fput f s A.n t = some i ↔ i ∈ A.n :: row ∧ upd (grow A).K A.n s i = t
      unfold fput
      by_cases e : t = s
      · subst e
        rw [if_pos rfl]
        constructor
        · intro h1; cases h1; exact ⟨by simp, upd_same _ _ _⟩
        · rintro ⟨h1, h2⟩
          rcases List.mem_cons.1 h1 with rfl | h0
          · rfl
          · rw [hK i h0] at h2
            exact absurd (by rw [← h2]; exact List.mem_map_of_mem h0) (h.absent hs)
      · rw [if_neg e, h.spot t i]
        constructor
        · rintro ⟨h1, h2⟩; exact ⟨List.mem_cons_of_mem _ h1, by rw [hK i h1]; exact h2⟩
        · rintro ⟨h1, h2⟩
          rcases List.mem_cons.1 h1 with rfl | h0
          · rw [upd_same] at h2; exact absurd h2.symm e
          · rw [hK i h0] at h2; exact ⟨h0, h2⟩

theorem Loose.out (h : Loose A row free f a) : (0 :: row).Nodup ∧ a ∉ 0 :: row ∧ a ∉ free ∧ 0 ∉ free ∧ (∀ i ∈ row, i ∉ free) := by
  have h0 := List.nodup_cons.1 h.nodup
  have h1 := List.nodup_cons.1 h0.2
  have h2 := List.nodup_append.1 h1.2
  refine ⟨List.nodup_cons.2 ⟨fun hr => h0.1 (List.mem_cons_of_mem _ (List.mem_append_left _ hr)), h2.1⟩, ?_, fun hr => h1.1 (List.mem_append_right _ hr), fun hr => h0.1 (List.mem_cons_of_mem _ (List.mem_append_right _ hr)), fun i h3 h4 => h2.2.2 i h3 i h4 rfl⟩
  intro hm
  rcases List.mem_cons.1 hm with h3 | h3
  · exact h0.1 (by rw [h3]; simp)
  · exact h1.1 (List.mem_append_left _ h3)

/-- The place laid in at the front. -/
theorem Loose.front (h : Loose A row free f a) : Good (lnk A a 0) (a :: row) free f := by
  obtain ⟨h1, h2, h3, h4, h5⟩ := h.out
  refine ⟨link_front h.ring h1 h2, ?_, h.nodup, h.lt, by have := h.len; show _ = A.n; simp only [List.length_cons]; omega, h.root, h.keys, h.small, h.spot⟩
  refine fch_congr h.chain fun i hi => ?_
  show upd (upd A.nx a (A.nx 0)) 0 a i = A.nx i
  rw [upd_ne (fun e => h4 (by rw [← e]; exact hi)), upd_ne (fun e => h3 (by rw [← e]; exact hi))]

/-- The place laid in at the back. -/
theorem Loose.back (h : Loose A row free f a) : Good (lnk A a (A.pv 0)) (row ++ [a]) free f := by
  obtain ⟨h1, h2, h3, h4, h5⟩ := h.out
  have hperm : (a :: row).Perm (row ++ [a]) := (List.perm_append_singleton a row).symm
  have hp := seg_pv_mem h.ring
  have hpf : A.pv 0 ∉ free := by
    rcases List.mem_cons.1 hp with h6 | h6
    · rw [h6]; exact h4
    · exact h5 _ h6
  refine ⟨link_back h.ring h1 h2, ?_, ?_, ?_, by have := h.len; show _ = A.n; simp only [List.length_append, List.length_cons, List.length_nil]; omega, h.root, ?_, ?_, ?_⟩
  · refine fch_congr h.chain fun i hi => ?_
    show upd (upd A.nx a (A.nx (A.pv 0))) (A.pv 0) a i = A.nx i
    rw [upd_ne (fun e => hpf (by rw [← e]; exact hi)), upd_ne (fun e => h3 (by rw [← e]; exact hi))]
  · exact (List.Perm.nodup_iff ((hperm.append_right free).cons 0)).1 h.nodup
  · exact fun i hi => h.lt i ((hperm.append_right free).mem_iff.2 hi)
  · exact (List.Perm.nodup_iff (hperm.map A.K)).1 h.keys
  · exact fun i hi => h.small i (hperm.mem_iff.2 hi)
  · intro s i
    rw [h.spot s i, hperm.mem_iff]
    exact Iff.rfl

/-- An arena behind a place's freeing. -/
def emp (A : Ar) (a : Nat) : Ar := { A with K := upd A.K a ⟨#[]⟩, pv := upd A.pv a 0, nx := upd A.nx a A.e, e := a }
theorem Loose.freed (h : Loose A row free f a) : Good (emp A a) row (a :: free) (fdel f (A.K a)) := by
  obtain ⟨h1, h2, h3, h4, h5⟩ := h.out
  have ha0 : a ≠ 0 := fun e => h2 (by simp [e])
  have har : a ∉ row := fun e => h2 (List.mem_cons_of_mem _ e)
  have hne : ∀ i ∈ row, i ≠ a := fun i hi e => har (e ▸ hi)
  have hperm : (a :: (row ++ free)).Perm (row ++ a :: free) := List.perm_middle.symm
  have hmap : row.map (upd A.K a ⟨#[]⟩) = row.map A.K := List.map_congr_left fun i hi => upd_ne (hne i hi)
  have hkeys := List.nodup_cons.1 (by have := h.keys; rw [List.map_cons] at this; exact this)
  refine ⟨?_, ⟨rfl, ?_⟩, (List.Perm.nodup_iff (hperm.cons 0)).1 h.nodup, fun i hi => h.lt i (hperm.mem_iff.2 hi), by have := h.len; show _ = A.n; simp only [List.length_cons]; omega, ?_, ?_, ?_, ?_⟩
  · refine seg_congr h.ring (fun i hi => upd_ne (fun e => h2 (e ▸ hi))) (fun i hi => upd_ne ?_)
    rcases List.mem_append.1 hi with h6 | h6
    · exact hne i h6
    · have : i = 0 := by simpa using h6
      omega
  · show Fch (upd A.nx a A.e) (upd A.nx a A.e a) free
    rw [upd_same]
    exact fch_congr h.chain fun i hi => upd_ne (fun e => h3 (e ▸ hi))
  · show upd A.K a ⟨#[]⟩ 0 = _
    rw [upd_ne (Ne.symm ha0)]; exact h.root
  · show (row.map (upd A.K a ⟨#[]⟩)).Nodup
    rw [hmap]; exact hkeys.2
  · intro i hi
    show (upd A.K a ⟨#[]⟩ i).size ≤ maxLen
    rw [upd_ne (hne i hi)]; exact h.small i (List.mem_cons_of_mem _ hi)
  · intro s i
    show fdel f (A.K a) s = some i ↔ i ∈ row ∧ upd A.K a ⟨#[]⟩ i = s
    unfold fdel
    by_cases e : s = A.K a
    · rw [if_pos e]
      constructor
      · intro h6; cases h6
      · rintro ⟨h6, h7⟩
        rw [upd_ne (hne i h6), e] at h7
        exact absurd (by rw [← h7]; exact List.mem_map_of_mem h6) hkeys.1
    · rw [if_neg e, h.spot s i]
      constructor
      · rintro ⟨h6, h7⟩
        rcases List.mem_cons.1 h6 with rfl | h8
        · exact absurd h7.symm e
        · exact ⟨h8, by rw [upd_ne (hne i h8)]; exact h7⟩
      · rintro ⟨h6, h7⟩
        rw [upd_ne (hne i h6)] at h7
        exact ⟨List.mem_cons_of_mem _ h6, h7⟩

theorem Good.first (h : Good A row free f) : A.K (A.nx 0) = (row.map A.K).headD ⟨#[]⟩ ∧ decide (A.nx 0 ≠ 0) = !(row.map A.K).isEmpty ∧ A.nx 0 < A.n := by
  have hr := h.ring
  cases hrow : row with
  | nil =>
    rw [hrow] at hr
    have e : A.nx 0 = 0 := hr.1
    rw [e]
    exact ⟨h.root, rfl, by have := h.len; omega⟩
  | cons x row' =>
    rw [hrow] at hr
    have e : A.nx 0 = x := hr.1
    have h0 := (List.nodup_cons.1 h.nodup).1
    rw [hrow] at h0
    rw [e]
    refine ⟨rfl, ?_, h.lt x (by rw [hrow]; simp)⟩
    rw [Bool.eq_iff_iff]
    simp only [decide_eq_true_eq, List.map_cons, List.isEmpty_cons, Bool.not_false, iff_true]
    exact fun e => h0 (by rw [e]; simp)
theorem Good.last (h : Good A row free f) : A.K (A.pv 0) = (row.map A.K).getLastD ⟨#[]⟩ ∧ decide (A.pv 0 ≠ 0) = !(row.map A.K).isEmpty ∧ A.pv 0 < A.n := by
  have hr := h.ring
  rcases List.eq_nil_or_concat row with rfl | ⟨row', x, rfl⟩
  · have e : A.pv 0 = 0 := hr.2
    rw [e]
    exact ⟨h.root, rfl, by have := h.len; omega⟩
  · rw [List.concat_eq_append] at *
    have e : A.pv 0 = x := (seg_append.1 hr).2.2
    have h0 := (List.nodup_cons.1 h.nodup).1
    rw [e]
    refine ⟨by simp, ?_, h.lt x (by simp)⟩
    rw [Bool.eq_iff_iff]
    simp only [decide_eq_true_eq, List.map_append, List.map_cons, List.map_nil]
    constructor
    · intro _; simp
    · intro _ e; exact h0 (by rw [e]; simp)
end
end Go.Proofs.Ytlmbeiijijkjeaa
