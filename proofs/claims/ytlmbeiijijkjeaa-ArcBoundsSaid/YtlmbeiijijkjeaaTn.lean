/- What calls of a cache leave: all blocks but its own as they were; rows of keys turned about, and their last ones. -/
import Derived.Test.YtlmbeiijijkjeaaRev
namespace Go.Proofs.Ytlmbeiijijkjeaa
open Go.RowKit Sg

/-- w' is w but for the blocks of S, and new ones. -/
structure Turn (S : Nat → Prop) (w w' : World) : Prop where
  os : w'.os = w.os
  tape : w'.tape = w.tape
  output : w'.output = w.output
  size : w.heap.size ≤ w'.heap.size
  block : ∀ k, k < w.heap.size → ¬ S k → w'.heap[k]? = w.heap[k]?
section
variable {S : Nat → Prop} {w w1 w2 : World}
theorem Turn.refl (S : Nat → Prop) (w : World) : Turn S w w := ⟨rfl, rfl, rfl, Nat.le_refl _, fun _ _ _ => rfl⟩
theorem Turn.trans {S' : Nat → Prop} (h : Turn S w w1) (k : Turn S' w1 w2) (hs : ∀ k, k < w.heap.size → S' k → S k) : Turn S w w2 :=
  ⟨k.os.trans h.os, k.tape.trans h.tape, k.output.trans h.output, Nat.le_trans h.size k.size, fun i hi h1 => (k.block i (Nat.lt_of_lt_of_le hi h.size) (fun e => h1 (hs i hi e))).trans (h.block i hi h1)⟩
theorem Turn.setCell (h : Turn S w w1) {p : Addr} (hp : S p.block ∨ w.heap.size ≤ p.block) (u : Value) : Turn S w (w1.setCell p u) :=
  h.trans (S' := fun k => k = p.block) ⟨rfl, rfl, rfl, by simp [World.setCell], fun k _ h1 => Below.heap_setCell _ _ _ _ h1⟩ (fun k hk e => by subst e; rcases hp with h | h; exact h; omega)
theorem Turn.drew (h : Turn S w w1) : Turn S w w1.drew := ⟨h.os, h.tape, h.output, h.size, h.block⟩
theorem Turn.alloc (h : Turn S w w1) (o : Obj) : Turn S w (w1.alloc o) :=
  h.trans (S' := S) ⟨rfl, rfl, rfl, by simp, fun k hk _ => Below.heap_alloc _ _ _ hk⟩ (fun _ _ h => h)
theorem Turn.below {B : Nat} (h : Turn S w w1) (hS : ∀ k, S k → B ≤ k) (hB : B ≤ w.heap.size) : Below B w w1 :=
  ⟨h.os, h.tape, h.output, h.size, fun k hk => h.block k (by omega) (fun e => by have := hS k e; omega)⟩
theorem Turn.of_below (h : Below w.heap.size w w1) : Turn S w w1 := ⟨h.os, h.tape, h.output, h.size, fun k hk _ => h.block k hk⟩
theorem Turn.wide {S' : Nat → Prop} (h : Turn S w w1) (hs : ∀ k, k < w.heap.size → S k → S' k) : Turn S' w w1 := ⟨h.os, h.tape, h.output, h.size, fun k hk h1 => h.block k hk (fun e => h1 (hs k hk e))⟩
end

/-- The last n of a row. -/
def lastN (n : Nat) (xs : List ByteArray) : List ByteArray := xs.drop (xs.length - n)
theorem lastN_len (n : Nat) (xs : List ByteArray) : (lastN n xs).length = min n xs.length := by unfold lastN; rw [List.length_drop]; omega
theorem lastN_all {n : Nat} {xs : List ByteArray} (h : xs.length ≤ n) : lastN n xs = xs := by unfold lastN; rw [show xs.length - n = 0 by omega]; rfl
theorem lastN_app {n : Nat} {xs ys : List ByteArray} (h : n ≤ ys.length) : lastN n (xs ++ ys) = lastN n ys := by
  unfold lastN
  rw [List.length_append, List.drop_append, List.drop_of_length_le (by omega), List.nil_append]
  congr 1; omega
theorem lastN_lastN {n m : Nat} (h : n ≤ m) (xs : List ByteArray) : lastN n (lastN m xs) = lastN n xs := by
  unfold lastN
  rw [List.drop_drop, List.length_drop]
  congr 1; omega
theorem lastN_split (n : Nat) (xs : List ByteArray) : ∃ ps, xs = ps ++ lastN n xs := ⟨xs.take (xs.length - n), (List.take_append_drop _ _).symm⟩
theorem lastN_sub (n : Nat) (xs : List ByteArray) : (lastN n xs).Sublist xs := List.drop_sublist _ _
theorem lastN_mem {n : Nat} {xs : List ByteArray} {k : ByteArray} (h : k ∈ lastN n xs) : k ∈ xs := (lastN_sub n xs).subset h
theorem rem_app (xs ys : List ByteArray) (k : ByteArray) : rem (xs ++ ys) k = rem xs k ++ rem ys k := by unfold rem; rw [List.filter_append]
theorem rem_rev (xs : List ByteArray) (k : ByteArray) : rem xs.reverse k = (rem xs k).reverse := by unfold rem; rw [List.filter_reverse]
theorem inn_rev (xs : List ByteArray) (k : ByteArray) : inn xs.reverse k = inn xs k := by unfold inn; rw [List.any_reverse]
theorem rem_len {xs : List ByteArray} {k : ByteArray} (h : xs.Nodup) (hk : k ∈ xs) : (rem xs k).length + 1 = xs.length := by
  obtain ⟨ps, qs, rfl⟩ := List.append_of_mem hk
  have h1 := List.nodup_append.1 h
  have h2 := List.nodup_cons.1 h1.2.1
  have e1 : rem ps k = ps := rem_none (fun hx => h1.2.2 k hx k (by simp) rfl)
  have e2 : rem qs k = qs := rem_none h2.1
  have e3 : rem (ps ++ k :: qs) k = rem ps k ++ rem qs k := by
    unfold rem
    rw [List.filter_append, List.filter_cons_of_neg (by simp)]
  rw [e3, e1, e2]
  simp only [List.length_append, List.length_cons]; omega
theorem len_rem {xs : List ByteArray} (k : ByteArray) (h : xs.Nodup) : xs.length ≤ (rem xs k).length + 1 := by
  by_cases hk : k ∈ xs
  · rw [rem_len h hk]; exact Nat.le_refl _
  · rw [rem_none hk]; omega
/-- What a request leaves of a row's last n hangs on these alone. -/
theorem lastN_rem {n : Nat} {xs : List ByteArray} (k : ByteArray) (h : xs.Nodup) : lastN n (rem (lastN n xs) k ++ [k]) = lastN n (rem xs k ++ [k]) := by
  by_cases hn : xs.length ≤ n
  · rw [lastN_all hn]
  · obtain ⟨ps, hp⟩ := lastN_split n xs
    have hl := lastN_len n xs
    have h1 := len_rem k (h.sublist (lastN_sub n xs))
    generalize lastN n xs = q at *
    rw [hp, rem_app, List.append_assoc, lastN_app (xs := rem ps k)]
    rw [List.length_append, List.length_cons, List.length_nil]; omega

/-- The row of residents behind a request. -/
def reqK (mo : Nat) (ks : List ByteArray) (k : ByteArray) : List ByteArray := lastN mo (rem ks k ++ [k])
def hitB (mo : Nat) (ks : List ByteArray) (k : ByteArray) : Bool := decide (mo ≠ 0) && inn ks k
def outB (mo : Nat) (ks : List ByteArray) (k : ByteArray) : Bool := decide (mo ≠ 0) && !inn ks k && decide (mo ≤ ks.length)
def vicK (mo : Nat) (ks : List ByteArray) (k : ByteArray) : ByteArray := if outB mo ks k = true then ks.headD ⟨#[]⟩ else ⟨#[]⟩
def stepV (mo : Nat) (ks : List ByteArray) (k : ByteArray) : Value := .agg #[.bool (hitB mo ks k), .string (vicK mo ks k), .bool (outB mo ks k)]
theorem reqK_le (mo : Nat) (ks : List ByteArray) (k : ByteArray) : (reqK mo ks k).length ≤ mo := by unfold reqK; rw [lastN_len]; omega
theorem snoc_nodup {ks : List ByteArray} (k : ByteArray) (h : ks.Nodup) : (rem ks k ++ [k]).Nodup := by
  rw [List.nodup_append]
  refine ⟨rem_nodup h, by simp, fun a ha b hb e => ?_⟩
  rw [List.mem_singleton] at hb
  subst hb; subst e
  exact rem_not ha
theorem reqK_nodup {mo : Nat} {ks : List ByteArray} (k : ByteArray) (h : ks.Nodup) : (reqK mo ks k).Nodup := (snoc_nodup k h).sublist (lastN_sub _ _)
theorem reqK_zero (ks : List ByteArray) (k : ByteArray) : reqK 0 ks k = [] := by
  have := reqK_le 0 ks k
  exact List.eq_nil_of_length_eq_zero (by omega)
theorem reqK_hit {mo : Nat} {ks : List ByteArray} {k : ByteArray} (hn : ks.Nodup) (hk : k ∈ ks) (hl : ks.length ≤ mo) : reqK mo ks k = rem ks k ++ [k] := by
  have := rem_len hn hk
  exact lastN_all (by rw [List.length_append, List.length_cons, List.length_nil]; omega)
theorem reqK_room {mo : Nat} {ks : List ByteArray} {k : ByteArray} (hl : ks.length < mo) : reqK mo ks k = rem ks k ++ [k] := by
  have := rem_le ks k
  exact lastN_all (by rw [List.length_append, List.length_cons, List.length_nil]; omega)
theorem reqK_full {mo : Nat} {x k : ByteArray} {ks : List ByteArray} (hk : k ∉ x :: ks) (hl : (x :: ks).length = mo) : reqK mo (x :: ks) k = rem ks k ++ [k] := by
  unfold reqK
  rw [rem_none hk, rem_none (fun h => hk (List.mem_cons_of_mem _ h))]
  rw [List.length_cons] at hl
  rw [show x :: ks ++ [k] = [x] ++ (ks ++ [k]) from rfl, lastN_app (by rw [List.length_append, List.length_cons, List.length_nil]; omega), lastN_all (by rw [List.length_append, List.length_cons, List.length_nil]; omega)]
end Go.Proofs.Ytlmbeiijijkjeaa
