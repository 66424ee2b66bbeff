/- What calls of a cache leave of its row of entries, as plain lists. -/
import Derived.Test.YtdbfojolocelaaaHpS
namespace Go.Proofs.Ytdbfojolocelaaa
open Ht HS
namespace Lf

/-- By how much a mark is another than the one before: plain, or churn. -/
def sg (ch : Bool) : Int := if ch = true then -1 else 1
theorem sg_rng (ch : Bool) : -1 ≤ sg ch ∧ sg ch ≤ 1 := by unfold sg; split <;> omega
theorem sg_two (ch : Bool) : sg ch = 1 ∨ sg ch = -1 := by unfold sg; split <;> omega
theorem sg_mul (ch : Bool) (n : Nat) : -(n : Int) ≤ sg ch * (n : Int) ∧ sg ch * (n : Int) ≤ (n : Int) := by rcases sg_two ch with h | h <;> rw [h] <;> omega
theorem sg_succ (ch : Bool) (n : Nat) : sg ch * (n : Int) + sg ch = sg ch * ((n + 1 : Nat) : Int) := by rcases sg_two ch with h | h <;> rw [h] <;> omega

/-- How often a key was asked for; whether it is there. -/
def tms (L : List (Ent Key)) (k : Key) : Int := ((find L k).map (·.one)).getD 0
def isIn (L : List (Ent Key)) (k : Key) : Bool := (find L k).isSome
def ent (ch : Bool) (n : Nat) (k : Key) (t : Int) : Ent Key := ⟨k, t, sg ch * ((n + 1 : Nat) : Int), n + 1⟩
/-- A key is asked for once more. -/
def put (ch : Bool) (n : Nat) (L : List (Ent Key)) (k : Key) : List (Ent Key) := ins (ent ch n k (tms L k + 1)) (rem L k)
/-- Marks and times. -/
structure Fit (ch : Bool) (L : List (Ent Key)) (n : Nat) : Prop where
  two : ∀ e ∈ L, e.two = sg ch * (e.set : Int)
  one : ∀ e ∈ L, 1 ≤ e.one ∧ e.one ≤ (n : Int)

theorem isIn_iff {L : List (Ent Key)} {k : Key} : isIn L k = true ↔ ∃ e ∈ L, e.key = k := by
  unfold isIn
  cases h : find L k with
  | none => simp only [Option.isSome_none, Bool.false_eq_true, false_iff]; rintro ⟨e, he, hk⟩; exact find_none h e he hk
  | some e => simp only [Option.isSome_some, true_iff]; exact ⟨e, find_some h⟩
theorem isIn_no {L : List (Ent Key)} {k : Key} : isIn L k = false ↔ ∀ e ∈ L, e.key ≠ k := by
  rw [← Bool.not_eq_true, isIn_iff]
  constructor
  · intro h e he hk; exact h ⟨e, he, hk⟩
  · rintro h ⟨e, he, hk⟩; exact h e he hk
theorem tms_no {L : List (Ent Key)} {k : Key} (h : isIn L k = false) : tms L k = 0 := by
  unfold isIn at h
  unfold tms
  cases hf : find L k with
  | none => rfl
  | some e => rw [hf] at h; cases h
theorem tms_mem {L : List (Ent Key)} {n : Nat} (h : Once L n) {e : Ent Key} (he : e ∈ L) : tms L e.key = e.one := by unfold tms; rw [h.find he]; rfl
theorem isIn_rem (L : List (Ent Key)) (k : Key) : isIn (rem L k) k = false := isIn_no.2 fun _ he => (mem_rem.1 he).2
theorem tms_rng {ch : Bool} {L : List (Ent Key)} {n : Nat} (f : Fit ch L n) (k : Key) : 0 ≤ tms L k ∧ tms L k ≤ (n : Int) := by
  unfold tms
  cases h : find L k with
  | none => exact ⟨Int.le_refl _, Int.natCast_nonneg _⟩
  | some e => have := f.one e (find_some h).1; exact ⟨by show 0 ≤ e.one; omega, this.2⟩
theorem tms_pos {ch : Bool} {L : List (Ent Key)} {n : Nat} (f : Fit ch L n) (k : Key) : decide (0 < tms L k) = isIn L k := by
  unfold tms isIn
  cases h : find L k with
  | none => rfl
  | some e => have := f.one e (find_some h).1; simp; omega

section
variable {ch : Bool} {n : Nat} {L : List (Ent Key)}
theorem mem_put {k : Key} {e : Ent Key} : e ∈ put ch n L k ↔ e = ent ch n k (tms L k + 1) ∨ (e ∈ L ∧ e.key ≠ k) := by unfold put; rw [ins_mem, mem_rem]
theorem put_once (o : Once L n) (k : Key) : Once (put ch n L k) (n + 1) := (o.rem k).put k _ _ fun _ he => (mem_rem.1 he).2
theorem put_tms (o : Once L n) (k : Key) : tms (put ch n L k) k = tms L k + 1 := tms_mem (put_once o k) (e := ent ch n k (tms L k + 1)) (mem_put.2 (Or.inl rfl))
theorem put_fit (f : Fit ch L n) (k : Key) : Fit ch (put ch n L k) (n + 1) := by
  have := tms_rng f k
  constructor
  · intro e he
    rcases mem_put.1 he with rfl | ⟨h, _⟩
    · rfl
    · exact f.two e h
  · intro e he
    rcases mem_put.1 he with rfl | ⟨h, _⟩
    · show 1 ≤ tms L k + 1 ∧ tms L k + 1 ≤ ((n + 1 : Nat) : Int); omega
    · have := f.one e h; omega
theorem fit_sub {L' : List (Ent Key)} (f : Fit ch L n) (h : ∀ e ∈ L', e ∈ L) : Fit ch L' n := ⟨fun e he => f.two e (h e he), fun e he => f.one e (h e he)⟩
theorem once_sub {L' : List (Ent Key)} (o : Once L n) (h : L'.Sublist L) : Once L' n := ⟨o.keys.sublist (h.map _), o.sets.sublist (h.map _), fun e he => o.le e (h.subset he)⟩
theorem put_in (k : Key) : isIn (put ch n L k) k = true := isIn_iff.2 ⟨_, mem_put.2 (Or.inl rfl), rfl⟩
theorem put_other (o : Once L n) {k j : Key} (h : j ≠ k) : find (put ch n L k) j = find L j := by
  cases hf : find L j with
  | some e =>
    obtain ⟨h1, h2⟩ := find_some hf
    have := (put_once (ch := ch) o k).find (e := e) (mem_put.2 (Or.inr ⟨h1, by rw [h2]; exact h⟩))
    rw [h2] at this
    exact this
  | none =>
    cases hg : find (put ch n L k) j with
    | none => rfl
    | some e =>
      obtain ⟨h1, h2⟩ := find_some hg
      rcases mem_put.1 h1 with rfl | ⟨h1, _⟩
      · exact absurd h2.symm h
      · exact absurd h2 (find_none hf e h1)
theorem rem_other (o : Once L n) {k j : Key} (h : j ≠ k) : find (rem L k) j = find L j := by
  cases hf : find L j with
  | some e =>
    obtain ⟨h1, h2⟩ := find_some hf
    have := (o.rem k).find (e := e) (mem_rem.2 ⟨h1, by rw [h2]; exact h⟩)
    rw [h2] at this
    exact this
  | none =>
    cases hg : find (rem L k) j with
    | none => rfl
    | some e => obtain ⟨h1, h2⟩ := find_some hg; exact absurd h2 (find_none hf e (mem_rem.1 h1).1)
theorem rem_len (o : Once L n) {k : Key} (h : isIn L k = true) : (rem L k).length + 1 = L.length := by
  obtain ⟨e, he, rfl⟩ := isIn_iff.1 h
  obtain ⟨ps, qs, rfl⟩ := List.append_of_mem he
  have hk := o.keys
  rw [List.map_append, List.map_cons] at hk
  obtain ⟨_, h2, h3⟩ := List.nodup_append.1 hk
  have h4 := List.nodup_cons.1 h2
  have e1 : rem ps e.key = ps := rem_none fun x hx hxe => h3 x.key (List.mem_map_of_mem hx) e.key (by simp) hxe
  have e2 : rem qs e.key = qs := rem_none fun x hx hxe => h4.1 (hxe ▸ List.mem_map_of_mem hx)
  have e3 : rem (ps ++ e :: qs) e.key = rem ps e.key ++ rem qs e.key := by
    unfold rem
    rw [List.filter_append, List.filter_cons_of_neg (by simp)]
  rw [e3, e1, e2]
  simp only [List.length_append, List.length_cons]; omega
theorem rem_len_no {k : Key} (h : isIn L k = false) : rem L k = L := rem_none (isIn_no.1 h)
theorem rem_le (L : List (Ent Key)) (k : Key) : (rem L k).length ≤ L.length := List.length_filter_le _ _
theorem put_len (k : Key) : (put ch n L k).length = (rem L k).length + 1 := by unfold put; rw [ins_len]
end

/-- The row behind a request, and its number of counts. -/
def reqL (ch : Bool) (mo n : Nat) (L : List (Ent Key)) (k : Key) : List (Ent Key) :=
  if mo = 0 then L else if isIn L k = true then put ch n L k else put ch n (L.drop (L.length + 1 - mo)) k
def reqN (mo n : Nat) : Nat := if mo = 0 then n else n + 1
theorem reqN_le (mo n : Nat) : n ≤ reqN mo n ∧ reqN mo n ≤ n + 1 := by unfold reqN; split <;> omega
def hitB (mo : Nat) (L : List (Ent Key)) (k : Key) : Bool := decide (mo ≠ 0) && isIn L k
def outB (mo : Nat) (L : List (Ent Key)) (k : Key) : Bool := decide (mo ≠ 0) && !isIn L k && decide (mo ≤ L.length)
def hdK (L : List (Ent Key)) : Key := match L with | e :: _ => e.key | [] => ⟨#[]⟩
def vicK (mo : Nat) (L : List (Ent Key)) (k : Key) : Key := if outB mo L k = true then hdK L else ⟨#[]⟩
def stepV (mo : Nat) (L : List (Ent Key)) (k : Key) : Value := .agg #[.bool (hitB mo L k), .string (vicK mo L k), .bool (outB mo L k)]
def adB (mo : Nat) (L : List (Ent Key)) (k : Key) : Bool := !isIn L k && decide (L.length < mo)
def adL (ch : Bool) (mo n : Nat) (L : List (Ent Key)) (k : Key) : List (Ent Key) := if adB mo L k = true then put ch n L k else L
def adN (mo n : Nat) (L : List (Ent Key)) (k : Key) : Nat := if adB mo L k = true then n + 1 else n
theorem adN_le (mo n : Nat) (L : List (Ent Key)) (k : Key) : n ≤ adN mo n L k ∧ adN mo n L k ≤ n + 1 := by unfold adN; split <;> omega
def keysL (L : List (Ent Key)) : List Key := L.map (·.key)
theorem keysL_len (L : List (Ent Key)) : (keysL L).length = L.length := by simp [keysL]

/-! Where a new entry comes to stand. -/
theorem ins_last {e : Ent Key} : ∀ {L : List (Ent Key)}, (∀ x ∈ L, lt x e) → ins e L = L ++ [e]
  | [], _ => rfl
  | x :: L, h => by
    unfold ins
    rw [if_pos (h x List.mem_cons_self), ins_last (fun y hy => h y (List.mem_cons_of_mem _ hy))]; rfl
theorem ins_first {e : Ent Key} {L : List (Ent Key)} (h : ∀ x ∈ L, lt e x) : ins e L = e :: L := by
  cases L with
  | nil => rfl
  | cons x L => unfold ins; rw [if_neg (h x List.mem_cons_self).asymm]
/-- The first has the fewest. -/
theorem srt_one {L : List (Ent Key)} (h : Srt L) : L.Pairwise fun a b => a.one ≤ b.one := List.Pairwise.imp (fun {a b} (h : lt a b) => by unfold lt at h; omega) h
/-- No more entries than counts. -/
theorem nodup_le : ∀ {n : Nat} {l : List Nat}, l.Nodup → (∀ x ∈ l, 1 ≤ x ∧ x ≤ n) → l.length ≤ n
  | 0, l, _, hx => by
    cases l with
    | nil => exact Nat.le_refl _
    | cons x l => have := hx x List.mem_cons_self; omega
  | n + 1, l, h, hx => by
    have h2 := nodup_le (n := n) (l := l.filter fun x => decide (x ≠ n + 1)) (h.sublist List.filter_sublist) (fun x hm => by
      obtain ⟨h1, h2⟩ := List.mem_filter.1 hm
      have := hx x h1
      have : x ≠ n + 1 := by simpa using h2
      omega)
    have h3 : l.length ≤ (l.filter fun x => decide (x ≠ n + 1)).length + 1 := by
      clear h2 hx
      induction l with
      | nil => simp
      | cons x l ih =>
        have h4 := List.nodup_cons.1 h
        by_cases e : x = n + 1
        · subst e
          have h5 : (l.filter fun x => decide (x ≠ n + 1)) = l := by
            rw [List.filter_eq_self]
            intro y hy
            have : y ≠ n + 1 := fun e => h4.1 (e ▸ hy)
            simp [this]
          rw [List.filter_cons_of_neg (by simp), h5, List.length_cons]
          exact Nat.le_refl _
        · have := ih h4.2
          rw [List.filter_cons_of_pos (by simp [e]), List.length_cons, List.length_cons]; omega
    omega
theorem once_len {L : List (Ent Key)} {n : Nat} (o : Once L n) : L.length ≤ n + 1 := by
  have h := nodup_le (n := n + 1) (l := (L.map (·.set)).map (· + 1)) (List.Pairwise.map (· + 1) (fun a b (h : a ≠ b) (e : a + 1 = b + 1) => h (by omega)) o.sets) (fun x hx => by
    obtain ⟨y, hy, rfl⟩ := List.mem_map.1 hx
    obtain ⟨e, he, rfl⟩ := List.mem_map.1 hy
    have := o.le e he
    show 1 ≤ e.set + 1 ∧ e.set + 1 ≤ n + 1
    omega)
  simpa using h
end Lf
end Go.Proofs.Ytdbfojolocelaaa
