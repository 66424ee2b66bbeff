/- Rows by when each key was asked for last; a cache asked for keys out of a slice that came in. -/
import Derived.Test.YthbokiebnniifaaShapes5
import Derived.Deep.LoopGhost
namespace Go.Proofs.Ythbokiebnniifaa
open Go.RowKit Sg

/-- The keys of a row, each once, by where it stands last. -/
def rcv : List ByteArray → List ByteArray
  | [] => []
  | k :: ys => if inn (rcv ys) k = true then rcv ys else k :: rcv ys
theorem rcv_snoc (k : ByteArray) : ∀ xs : List ByteArray, rcv (xs ++ [k]) = rem (rcv xs) k ++ [k]
  | [] => by simp [rcv, inn, rem]
  | x :: xs => by
    have ih := rcv_snoc k xs
    rw [List.cons_append]
    unfold rcv
    rw [ih]
    by_cases hxk : x = k
    · subst hxk
      rw [if_pos (inn_iff.2 (by simp))]
      split
      · rfl
      · have : rem (x :: rcv xs) x = rem (rcv xs) x := by unfold rem; rw [List.filter_cons_of_neg (by simp)]
        rw [this]
    · have hiff : inn (rem (rcv xs) k ++ [k]) x = inn (rcv xs) x := by
        rw [Bool.eq_iff_iff, inn_iff, inn_iff, List.mem_append, rem_mem, List.mem_singleton]
        constructor
        · rintro (h | h)
          · exact h.1
          · exact absurd h hxk
        · exact fun h => Or.inl ⟨h, hxk⟩
      rw [hiff]
      split
      · rfl
      · have : rem (x :: rcv xs) k = x :: rem (rcv xs) k := by unfold rem; rw [List.filter_cons_of_pos (by simpa using hxk)]
        rw [this]; rfl
theorem rcv_nodup : ∀ xs : List ByteArray, (rcv xs).Nodup
  | [] => by simp [rcv]
  | x :: xs => by
    unfold rcv
    split
    · exact rcv_nodup xs
    · rename_i h
      rw [List.nodup_cons]
      exact ⟨fun hx => h (inn_iff.2 hx), rcv_nodup xs⟩
theorem rcv_suf (ys : List ByteArray) : ∀ xs : List ByteArray, ∃ ps, rcv (xs ++ ys) = ps ++ rcv ys
  | [] => ⟨[], rfl⟩
  | x :: xs => by
    obtain ⟨ps, h⟩ := rcv_suf ys xs
    show ∃ ps', (if inn (rcv (xs ++ ys)) x = true then rcv (xs ++ ys) else x :: rcv (xs ++ ys)) = ps' ++ rcv ys
    split
    · exact ⟨ps, h⟩
    · exact ⟨x :: ps, by rw [h]; rfl⟩
theorem rcv_len : ∀ xs : List ByteArray, (rcv xs).length ≤ xs.length
  | [] => Nat.le_refl _
  | x :: xs => by
    have := rcv_len xs
    unfold rcv
    split
    · rw [List.length_cons]; omega
    · rw [List.length_cons, List.length_cons]; omega

/-- The first i keys of what came in. -/
def keysI (S : Nat → ByteArray) (i : Nat) : List ByteArray := (List.range i).map S
theorem keysI_succ (S : Nat → ByteArray) (i : Nat) : keysI S (i + 1) = keysI S i ++ [S i] := by unfold keysI; rw [List.range_succ, List.map_append]; rfl
theorem keysI_len (S : Nat → ByteArray) (i : Nat) : (keysI S i).length = i := by simp [keysI]
/-- What a cache of mo has behind the first i of them. -/
def resI (S : Nat → ByteArray) (mo i : Nat) : List ByteArray := lastN mo (rcv (keysI S i))
theorem resI_zero (S : Nat → ByteArray) (mo : Nat) : resI S mo 0 = [] := by unfold resI keysI; rw [lastN_all (by simp [rcv])]; rfl
theorem resI_succ (S : Nat → ByteArray) (mo i : Nat) : reqK mo (resI S mo i) (S i) = resI S mo (i + 1) := by
  unfold reqK resI
  rw [lastN_rem (S i) (rcv_nodup _), keysI_succ, rcv_snoc]
/-- What is left of them from the j-th on. -/
def tlI (S : Nat → ByteArray) (n j : Nat) : List ByteArray := (keysI S n).drop j
theorem tlI_cons (S : Nat → ByteArray) {n j : Nat} (h : j < n) : tlI S n j = S j :: tlI S n (j + 1) := by
  unfold tlI
  rw [drop_some (by rw [keysI_len]; exact h)]
  congr 1
  rw [List.getD_eq_getElem?_getD]
  simp [keysI, h]
theorem tlI_end (S : Nat → ByteArray) (n : Nat) : tlI S n n = [] := by unfold tlI; rw [List.drop_of_length_le (by rw [keysI_len]; exact Nat.le_refl _)]
theorem resI_tl {S : Nat → ByteArray} {n mo j : Nat} (h : (rcv (tlI S n j)).length ≤ mo) (hj : j = 0 ∨ mo ≤ (rcv (tlI S n j)).length) : rcv (tlI S n j) = resI S mo n := by
  unfold resI
  rcases hj with rfl | hj
  · rw [lastN_all]; rfl
    exact h
  · obtain ⟨ps, hp⟩ := rcv_suf (tlI S n j) ((keysI S n).take j)
    rw [show (keysI S n).take j ++ tlI S n j = keysI S n from List.take_append_drop _ _] at hp
    rw [hp, lastN_app hj, lastN_all h]

/-- A cache asked for the first k of the keys that came in. -/
def Fill (S : Nat → ByteArray) (n c mo : Nat) (w0 : World) (i : Value) (W : World) : Prop := ∃ (k : Nat) (T : Nat → Prop), i = .int .i64 (k : Int) ∧ k ≤ n ∧ Live w0 W c T mo (resI S mo k) k
theorem Fill.next {S : Nat → ByteArray} {n c mo k : Nat} {T : Nat → Prop} {w0 w w' : World} {r : Value} {e : Ending} (hk : k < n) (hL : Live w0 w c T mo (resI S mo k) k) (hp : CaPost r w c T mo (reqK mo (resI S mo k) (S k)) (k + 1) e w') : e = .returned r ∧ Fill S n c mo w0 (.int .i64 ((k + 1 : Nat) : Int)) w' := by
  obtain ⟨he, T', h1, _⟩ := hL.op hp
  rw [resI_succ] at h1
  exact ⟨he, k + 1, T', rfl, by omega, h1⟩
end Go.Proofs.Ythbokiebnniifaa
