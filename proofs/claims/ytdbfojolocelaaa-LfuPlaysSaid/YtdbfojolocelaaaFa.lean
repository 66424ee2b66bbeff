/- A cache in memory, and the contracts of its calls that neither count nor cut: Times, Has, Len, Remove, Victim, Drop, Ghosts. -/
import Derived.Test.YtdbfojolocelaaaLf
namespace Go.Proofs.Ytdbfojolocelaaa
open Go.RowKit Ht HS Lf

/-- A cache at block c over the heap at h, whose blocks are T: at most mo residents, L in the order in which they would go; n counts so far, the last mark is mk. -/
structure Raw (w : World) (c h : Nat) (T : Nat → Prop) (mo : Nat) (ch : Bool) (mk : Int) (L : List (Ent Key)) (n : Nat) : Prop where
  hs : HS w h T L n
  cT : ¬ T c
  box : w.heap[c]? = some (.cells #[.int .i64 (mo : Int), .pointer (some ⟨h, 0, none⟩), .int .i64 mk, .int .i64 (sg ch)] 67 (0, 0))
  top : mo ≤ 9223372036854775807
  fit : Fit ch L n
section
variable {w w' : World} {c h mo n n' : Nat} {T T' : Nat → Prop} {ch : Bool} {mk : Int} {L L' : List (Ent Key)}
theorem Raw.c0 (r : Raw w c h T mo ch mk L n) : w.cell? ⟨c, 0, none⟩ = some (.int .i64 (mo : Int)) := cell_of_row w _ 0 _ _ _ r.box
theorem Raw.c1 (r : Raw w c h T mo ch mk L n) : w.cell? ⟨c, 1, none⟩ = some (.pointer (some ⟨h, 0, none⟩)) := cell_of_row w _ 1 _ _ _ r.box
theorem Raw.c2 (r : Raw w c h T mo ch mk L n) : w.cell? ⟨c, 2, none⟩ = some (.int .i64 mk) := cell_of_row w _ 2 _ _ _ r.box
theorem Raw.c3 (r : Raw w c h T mo ch mk L n) : w.cell? ⟨c, 3, none⟩ = some (.int .i64 (sg ch)) := cell_of_row w _ 3 _ _ _ r.box
theorem Raw.f0 (r : Raw w c h T mo ch mk L n) : w.frozen? ⟨c, 0, none⟩ = false := frozen_of_row w _ 0 _ _ r.box
theorem Raw.f2 (r : Raw w c h T mo ch mk L n) : w.frozen? ⟨c, 2, none⟩ = false := frozen_of_row w _ 2 _ _ r.box
theorem Raw.clt (r : Raw w c h T mo ch mk L n) : c < w.heap.size := (Array.getElem?_eq_some_iff.1 r.box).1
theorem Raw.len (r : Raw w c h T mo ch mk L n) : L.length ≤ 1000 := r.hs.top
theorem Raw.same (r : Raw w c h T mo ch mk L n) (hc : w'.heap[c]? = w.heap[c]?) (hT : ∀ k, T k → w'.heap[k]? = w.heap[k]?) : Raw w' c h T mo ch mk L n :=
  ⟨r.hs.same hT, r.cT, hc.trans r.box, r.top, r.fit⟩
theorem Raw.below (r : Raw w c h T mo ch mk L n) (hb : Below w.heap.size w w') : Raw w' c h T mo ch mk L n :=
  r.same (hb.block _ r.clt) fun k hk => hb.block k (r.hs.lt hk)
/-- Behind a call of the heap. -/
theorem Raw.next (r : Raw w c h T mo ch mk L n) (hs : HS w' h T' L' n') (hn : ∀ k, T' k → T k ∨ w.heap.size ≤ k) (ht : Turn T w w') (f : Fit ch L' n') : Raw w' c h T' mo ch mk L' n' := by
  have hc := r.clt
  refine ⟨hs, fun hk => ?_, (ht.block c hc r.cT).trans r.box, r.top, f⟩
  rcases hn c hk with h | h
  · exact r.cT h
  · omega
end

/-- What a call that turns the cache's heap leaves. -/
def OpR (v : Value) (w : World) (c h : Nat) (T : Nat → Prop) (mo : Nat) (ch : Bool) (mk : Int) (L : List (Ent Key)) (n : Nat) (e : Ending) (w' : World) : Prop :=
  e = .returned v ∧ ∃ T', Raw w' c h T' mo ch mk L n ∧ (∀ k, T' k → T k ∨ w.heap.size ≤ k) ∧ Turn T w w'

section
variable (w : World) (c h : Nat) (T : Nat → Prop) (mo : Nat) (ch : Bool) (mk : Int) (L : List (Ent Key)) (n : Nat) (key : Key) (r : Raw w c h T mo ch mk L n)
include r
theorem lenC : Calls Try.prog 28 #[.pointer (some ⟨c, 0, none⟩)] w (IntPost (L.length : Int) w) := by
  have c1 := r.c1
  have U := Lib.hid (len_any w h T L n r.hs)
  clear r
  go_enter Try.func28, Try.ntmps28
  go_wp2_with fail
  refine U.out.mono ?_
  rintro e w1 ⟨rfl, rfl⟩
  go_wp2_with fail
  go_ret
  exact ⟨rfl, rfl⟩
theorem timesC (hs : key.size ≤ maxLen) : Calls Try.prog 29 #[.pointer (some ⟨c, 0, none⟩), .string key] w (ValBelow (.int .i64 (tms L key)) w) := by
  have c1 := r.c1
  have U := rank_any w h T L n key r.hs hs
  have hf := r.fit
  unfold rankV at U
  unfold tms
  cases hq : find L key with
  | none =>
    rw [hq] at U
    have U := Lib.hid U
    clear r hf hq
    go_enter Try.func29, Try.ntmps29
    go_wp2_with fail
    refine U.out.mono ?_
    rintro e w1 ⟨rfl, hB⟩
    have HB := Lib.hid hB
    clear hB
    go_wp2_with fail
    go_ret
    exact ⟨rfl, HB.out.alloc HB.out.size _⟩
  | some x =>
    rw [hq] at U
    have U := Lib.hid U
    clear r hf hq
    go_enter Try.func29, Try.ntmps29
    go_wp2_with fail
    refine U.out.mono ?_
    rintro e w1 ⟨rfl, hB⟩
    have HB := Lib.hid hB
    clear hB
    go_wp2_with fail
    go_ret
    exact ⟨rfl, HB.out.alloc HB.out.size _⟩
theorem hasC (hs : key.size ≤ maxLen) : Calls Try.prog 30 #[.pointer (some ⟨c, 0, none⟩), .string key] w (ValBelow (.bool (isIn L key)) w) := by
  have c1 := r.c1
  have U := rank_any w h T L n key r.hs hs
  unfold rankV at U
  unfold isIn
  cases hq : find L key with
  | none =>
    rw [hq] at U
    have U := Lib.hid U
    clear r hq
    go_enter Try.func30, Try.ntmps30
    go_wp2_with fail
    refine U.out.mono ?_
    rintro e w1 ⟨rfl, hB⟩
    have HB := Lib.hid hB
    clear hB
    go_wp2_with fail
    go_ret
    exact ⟨rfl, HB.out.alloc HB.out.size _⟩
  | some x =>
    rw [hq] at U
    have U := Lib.hid U
    clear r hq
    go_enter Try.func30, Try.ntmps30
    go_wp2_with fail
    refine U.out.mono ?_
    rintro e w1 ⟨rfl, hB⟩
    have HB := Lib.hid hB
    clear hB
    go_wp2_with fail
    go_ret
    exact ⟨rfl, HB.out.alloc HB.out.size _⟩
theorem removeC (hs : key.size ≤ maxLen) : Calls Try.prog 14 #[.pointer (some ⟨c, 0, none⟩), .string key] w (OpR (.bool (isIn L key)) w c h T mo ch mk (rem L key) n) := by
  have c1 := r.c1
  have U := Lib.hid (show Calls _ _ _ _ (OpPost (.bool (isIn L key)) w h T (rem L key) n) from remove_any w h T L n key r.hs hs)
  have HH := Lib.hid r
  clear r
  go_enter Try.func14, Try.ntmps14
  go_wp2_with fail
  refine U.out.mono ?_
  rintro e w1 ⟨rfl, T', hS, hN, hT⟩
  have R := Lib.hid (HH.out.next hS hN hT (fit_sub HH.out.fit fun e he => (mem_rem.1 he).1))
  have HN := Lib.hid hN
  have HT := Lib.hid hT
  clear hS hN hT
  go_wp2_with fail
  go_ret
  exact ⟨rfl, T', R.out, HN.out, HT.out⟩
theorem victimC : Calls Try.prog 24 #[.pointer (some ⟨c, 0, none⟩)] w (ValBelow (.tuple #[.string (hdK L), .bool (!L.isEmpty)]) w) := by
  have c1 := r.c1
  have U := least_any w h T L n r.hs
  unfold leastV at U
  cases L with
  | nil =>
    have U := Lib.hid U
    clear r
    go_enter Try.func24, Try.ntmps24
    go_wp2_with fail
    refine U.out.mono ?_
    rintro e w1 ⟨rfl, hB⟩
    have HB := Lib.hid hB
    clear hB
    go_wp2_with fail
    go_ret2
    exact ⟨rfl, HB.out.alloc HB.out.size _⟩
  | cons x L =>
    have U := Lib.hid U
    clear r
    go_enter Try.func24, Try.ntmps24
    go_wp2_with fail
    refine U.out.mono ?_
    rintro e w1 ⟨rfl, hB⟩
    have HB := Lib.hid hB
    clear hB
    go_wp2_with fail
    go_ret2
    exact ⟨rfl, HB.out.alloc HB.out.size _⟩
theorem dropC : Calls Try.prog 19 #[.pointer (some ⟨c, 0, none⟩)] w (OpR (.tuple #[.string (hdK L), .bool (!L.isEmpty)]) w c h T mo ch mk L.tail n) := by
  have c1 := r.c1
  have U : Calls Try.prog 39 #[.pointer (some ⟨h, 0, none⟩)] w (OpPost (.tuple #[.string (hdK L), .bool (!L.isEmpty)]) w h T L.tail n) := by
    have := pop_any w h T L n r.hs
    cases L <;> exact this
  have HF := Lib.hid (fit_sub r.fit fun e he => List.mem_of_mem_tail he)
  have U := Lib.hid U
  have HH := Lib.hid r
  generalize hdK L = x at *
  generalize (!L.isEmpty) = t at *
  clear r
  go_enter Try.func19, Try.ntmps19
  go_wp2_with fail
  refine U.out.mono ?_
  rintro e w1 ⟨rfl, T', hS, hN, hT⟩
  have R := Lib.hid (HH.out.next hS hN hT HF.out)
  have HN := Lib.hid hN
  have HT := Lib.hid hT
  clear hS hN hT
  go_wp2_with fail
  go_ret2
  exact ⟨rfl, T', R.out, HN.out, HT.out⟩
end

theorem ghostsC (w : World) (c : Nat) :
    Calls Try.prog 31 #[.pointer (some ⟨c, 0, none⟩)] w (fun e w' => e = .returned (.slice none 0 0) ∧ w = w') := by
  go_enter Try.func31, Try.ntmps31
  go_wp2_with fail
  go_ret
  exact ⟨rfl, rfl⟩
end Go.Proofs.Ytdbfojolocelaaa
