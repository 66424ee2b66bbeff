/- The reference's row of residents, by when they were asked for last, and the cache's own order of them, as plain lists. -/
import Derived.Test.YtdbfojolocelaaaRc6
namespace Go.Proofs.Ytdbfojolocelaaa
open Ht HS Lf

/-- B has the residents of L, by when they were asked for last. -/
structure By (ch : Bool) (L B : List (Ent Key)) (n : Nat) : Prop where
  perm : L.Perm B
  when_ : B.Pairwise fun a b => a.set < b.set
  srt : Srt L
  once : Once L n
  fit : Fit ch L n
section
variable {ch : Bool} {L B : List (Ent Key)} {n : Nat}
theorem By.start (ch : Bool) : By ch [] [] 0 := ⟨List.Perm.refl _, List.Pairwise.nil, List.Pairwise.nil, ⟨List.nodup_nil, List.nodup_nil, by simp⟩, ⟨by simp, by simp⟩⟩
theorem By.onceB (y : By ch L B n) : Once B n := y.once.perm y.perm
theorem By.find (y : By ch L B n) (k : Key) : find B k = find L k := by
  cases h : Ht.find L k with
  | some e =>
    obtain ⟨h1, h2⟩ := find_some h
    have := y.onceB.find (y.perm.mem_iff.1 h1)
    rw [h2] at this
    exact this
  | none =>
    cases hb : Ht.find B k with
    | none => rfl
    | some e => obtain ⟨h1, h2⟩ := find_some hb; exact absurd h2 (find_none h e (y.perm.mem_iff.2 h1))
theorem By.tms (y : By ch L B n) (k : Key) : tms B k = tms L k := by unfold Lf.tms; rw [y.find]
theorem By.isIn (y : By ch L B n) (k : Key) : isIn B k = isIn L k := by unfold Lf.isIn; rw [y.find]
theorem By.len (y : By ch L B n) : B.length = L.length := y.perm.length_eq.symm
theorem By.rem (y : By ch L B n) (k : Key) : By ch (rem L k) (rem B k) n :=
  ⟨y.perm.filter _, y.when_.filter _, rem_srt y.srt k, y.once.rem k, fit_sub y.fit fun _ he => (mem_rem.1 he).1⟩
theorem By.put (y : By ch L B n) (k : Key) : By ch (put ch n L k) (Ht.rem B k ++ [ent ch n k (Lf.tms L k + 1)]) (n + 1) := by
  refine ⟨?_, ?_, ?_, put_once y.once k, put_fit y.fit k⟩
  · refine (ins_perm _ _).trans ?_
    refine List.Perm.trans ?_ (List.perm_append_comm (l₁ := [ent ch n k (Lf.tms L k + 1)]) (l₂ := Ht.rem B k))
    exact (y.perm.filter _).cons _
  · rw [List.pairwise_append]
    refine ⟨(y.rem k).when_, List.pairwise_singleton _ _, fun a ha b hb => ?_⟩
    rw [List.mem_singleton] at hb
    subst hb
    have := y.onceB.le a (mem_rem.1 ha).1
    show a.set < n + 1
    omega
  · refine ins_srt _ _ (rem_srt y.srt k) fun x hx => ?_
    have := y.once.le x (mem_rem.1 hx).1
    show x.set ≠ n + 1
    omega

/-! Who goes. -/
def stepB (ch : Bool) (b : Option (Ent Key)) (x : Ent Key) : Option (Ent Key) := match b with
  | none => some x
  | some y => if x.one < y.one ∨ (ch = true ∧ x.one = y.one) then some x else some y
def bst (ch : Bool) (B : List (Ent Key)) : Option (Ent Key) := B.foldl (stepB ch) none
theorem bst_snoc (ch : Bool) (B : List (Ent Key)) (x : Ent Key) : bst ch (B ++ [x]) = stepB ch (bst ch B) x := by unfold bst; rw [List.foldl_append]; rfl
/-- It is the least one of the order. -/
theorem bst_rev (ch : Bool) : ∀ (R : List (Ent Key)), R.reverse.Pairwise (fun a b => a.set < b.set) → (∀ e ∈ R.reverse, e.two = sg ch * (e.set : Int)) → (R.reverse = [] ∧ bst ch R.reverse = none) ∨ ∃ b, bst ch R.reverse = some b ∧ b ∈ R.reverse ∧ ∀ x ∈ R.reverse, x = b ∨ lt b x
  | [], _, _ => Or.inl ⟨rfl, rfl⟩
  | x :: R, hp, hf => by
    have ih := bst_rev ch R
    rw [List.reverse_cons] at hp hf ⊢
    generalize R.reverse = B at ih hp hf ⊢
    right
    rw [List.pairwise_append] at hp
    obtain ⟨hp1, _, hp3⟩ := hp
    have hfx := hf x (by simp)
    rw [bst_snoc]
    rcases ih hp1 (fun e he => hf e (List.mem_append_left _ he)) with ⟨rfl, hb⟩ | ⟨b, hb, hbm, hbl⟩
    · rw [hb]
      exact ⟨x, rfl, by simp, fun y hy => Or.inl (by simpa using hy)⟩
    · rw [hb]
      have hset := hp3 b hbm x (by simp)
      have hfb := hf b (List.mem_append_left _ hbm)
      unfold stepB
      simp only
      split
      · rename_i hc
        have hlt : lt x b := by
          unfold lt
          rcases hc with hc | ⟨rfl, hc⟩
          · exact Or.inl hc
          · right
            refine ⟨hc, Or.inl ?_⟩
            rw [hfx, hfb, show sg true = -1 from rfl]
            omega
        refine ⟨x, rfl, by simp, fun y hy => ?_⟩
        rcases List.mem_append.1 hy with hy | hy
        · rcases hbl y hy with rfl | h
          · exact Or.inr hlt
          · exact Or.inr (hlt.trans h)
        · exact Or.inl (by simpa using hy)
      · rename_i hc
        have hlt : lt b x := by
          unfold lt
          by_cases h1 : b.one < x.one
          · exact Or.inl h1
          · right
            have h2 : ¬ x.one < b.one := fun h => hc (Or.inl h)
            have h3 : x.one = b.one := by omega
            refine ⟨h3.symm, Or.inl ?_⟩
            have h4 : ch = false := by
              cases ch with
              | false => rfl
              | true => exact absurd (Or.inr ⟨rfl, h3⟩) hc
            subst h4
            rw [hfx, hfb, show sg false = 1 from rfl]
            omega
        refine ⟨b, rfl, List.mem_append_left _ hbm, fun y hy => ?_⟩
        rcases List.mem_append.1 hy with hy | hy
        · exact hbl y hy
        · rw [List.mem_singleton] at hy
          subst hy
          exact Or.inr hlt
theorem bst_least (ch : Bool) (B : List (Ent Key)) (h1 : B.Pairwise fun a b => a.set < b.set) (h2 : ∀ e ∈ B, e.two = sg ch * (e.set : Int)) : (B = [] ∧ bst ch B = none) ∨ ∃ b, bst ch B = some b ∧ b ∈ B ∧ ∀ x ∈ B, x = b ∨ lt b x := by
  have := bst_rev ch B.reverse
  rw [List.reverse_reverse] at this
  exact this h1 h2
theorem By.bst (y : By ch L B n) : bst ch B = L.head? := by
  rcases bst_least ch B y.when_ (fun e he => y.fit.two e (y.perm.mem_iff.2 he)) with ⟨rfl, hb⟩ | ⟨b, hb, hbm, hbl⟩
  · rw [hb, List.perm_nil.1 y.perm]; rfl
  · rw [hb]
    cases L with
    | nil => have := y.perm.mem_iff.2 hbm; cases this
    | cons a L =>
      have ha : a ∈ B := y.perm.mem_iff.1 List.mem_cons_self
      rcases hbl a ha with rfl | h
      · rfl
      · rcases List.mem_cons.1 (y.perm.mem_iff.2 hbm) with rfl | hb'
        · rfl
        · exact absurd ((List.pairwise_cons.1 y.srt).1 b hb') h.asymm
theorem By.drop {e : Ent Key} (y : By ch (e :: L) B n) : By ch L (Ht.rem B e.key) n := by
  have := y.rem e.key
  rw [y.once.rem_cons] at this
  exact this
end
end Go.Proofs.Ytdbfojolocelaaa
