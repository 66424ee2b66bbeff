/- A cache in memory, and the contracts of its calls that cut nothing: Len, Has, Remove, Victim, Drop, Keys, Ghosts, Adopt. -/
import Derived.Test.YthbokiebnniifaaTn
namespace Go.Proofs.Ythbokiebnniifaa
open Go.RowKit Sg

/-- A cache at block c over the list at l, M, P: at most mo residents, ks in the order in which they would go; its arena has at most b places. -/
structure Raw (w : World) (c l M P : Nat) (mo : Nat) (ks : List ByteArray) (b : Nat) : Prop where
  cl : c ≠ l
  cM : c ≠ M
  cP : c ≠ P
  box : w.heap[c]? = some (.cells #[.int .i64 (mo : Int), .pointer (some ⟨l, 0, none⟩)] 58 (0, 0))
  lst : ∃ m, m ≤ b ∧ Lst w l M P ks.reverse m
  top : mo ≤ 9223372036854775807
section
variable {w w' : World} {c l M P P' mo b : Nat} {ks ks' : List ByteArray}
theorem Raw.c0 (h : Raw w c l M P mo ks b) : w.cell? ⟨c, 0, none⟩ = some (.int .i64 (mo : Int)) := cell_of_row w _ 0 _ _ _ h.box
theorem Raw.c1 (h : Raw w c l M P mo ks b) : w.cell? ⟨c, 1, none⟩ = some (.pointer (some ⟨l, 0, none⟩)) := cell_of_row w _ 1 _ _ _ h.box
theorem Raw.f0 (h : Raw w c l M P mo ks b) : w.frozen? ⟨c, 0, none⟩ = false := frozen_of_row w _ 0 _ _ h.box
theorem Raw.clt (h : Raw w c l M P mo ks b) : c < w.heap.size := (Array.getElem?_eq_some_iff.1 h.box).1
theorem Raw.llt (h : Raw w c l M P mo ks b) : l < w.heap.size ∧ M < w.heap.size ∧ P < w.heap.size := by
  obtain ⟨m, _, hL⟩ := h.lst
  exact hL.llt
theorem Raw.nodup (h : Raw w c l M P mo ks b) : ks.Nodup := by
  obtain ⟨m, _, hL⟩ := h.lst
  have := hL.nodup
  exact (List.pairwise_reverse.1 this).imp fun h => Ne.symm h
theorem Raw.small (h : Raw w c l M P mo ks b) : ∀ x ∈ ks, x.size ≤ maxLen := by
  obtain ⟨m, _, hL⟩ := h.lst
  intro x hx
  exact hL.small x (List.mem_reverse.2 hx)
theorem Raw.len (h : Raw w c l M P mo ks b) : ks.length ≤ b ∧ ks.length ≤ 999 := by
  obtain ⟨m, hm, hL⟩ := h.lst
  have := hL.le
  rw [List.length_reverse] at this
  omega
theorem Raw.same (h : Raw w c l M P mo ks b) (hs : w.heap.size ≤ w'.heap.size) (hc : w'.heap[c]? = w.heap[c]?) (hl : w'.heap[l]? = w.heap[l]?) (hM : w'.heap[M]? = w.heap[M]?) (hP : w'.heap[P]? = w.heap[P]?) : Raw w' c l M P mo ks b := by
  obtain ⟨m, hm, hL⟩ := h.lst
  exact ⟨h.cl, h.cM, h.cP, hc.trans h.box, ⟨m, hm, hL.same hs hl hM hP⟩, h.top⟩
theorem Raw.below (h : Raw w c l M P mo ks b) (hb : Below w.heap.size w w') : Raw w' c l M P mo ks b :=
  h.same hb.size (hb.block _ h.clt) (hb.block _ h.llt.1) (hb.block _ h.llt.2.1) (hb.block _ h.llt.2.2)
/-- Behind a call of the list. -/
theorem Raw.next (h : Raw w c l M P mo ks b) (hP : P' = P ∨ w.heap.size ≤ P') (ht : Turned w w' l M P) {m : Nat} {xs : List ByteArray} (hL : Lst w' l M P' xs m) {b' : Nat} (hm : m ≤ b') (hx : xs = ks'.reverse) : Raw w' c l M P' mo ks' b' := by
  have hc := h.clt
  have h1 := h.cl
  have h2 := h.cM
  have h3 := h.cP
  exact ⟨h1, h2, by rcases hP with rfl | hP <;> omega, (ht.block c hc h1 h2 h3).trans h.box, ⟨m, hm, hx ▸ hL⟩, h.top⟩
end

/-- What a call that turns the cache's list leaves. -/
def OpR (v : Value) (w : World) (c l M P mo : Nat) (ks : List ByteArray) (b : Nat) (e : Ending) (w' : World) : Prop := ∃ P', e = .returned v ∧ (P' = P ∨ w.heap.size ≤ P') ∧ Raw w' c l M P' mo ks b ∧ Turned w w' l M P

theorem lenC (w : World) (c l M P mo : Nat) (ks : List ByteArray) (b : Nat) (h : Raw w c l M P mo ks b) :
    Calls Try.prog 26 #[.pointer (some ⟨c, 0, none⟩)] w (IntPost (ks.length : Int) w) := by
  have c1 := h.c1
  obtain ⟨m, hm, hL⟩ := h.lst
  have U := Lib.hid (len_any w l M P _ m hL)
  rw [List.length_reverse] at U
  clear h hL hm
  go_enter Try.func26, Try.ntmps26
  go_wp2_with fail
  refine U.out.mono ?_
  rintro e w1 ⟨rfl, rfl⟩
  go_wp2_with fail
  go_ret
  exact ⟨rfl, rfl⟩

theorem hasC (w : World) (c l M P mo : Nat) (ks : List ByteArray) (b : Nat) (key : ByteArray) (h : Raw w c l M P mo ks b) (hs : key.size ≤ maxLen) :
    Calls Try.prog 27 #[.pointer (some ⟨c, 0, none⟩), .string key] w (BoolPost (inn ks key) w) := by
  have c1 := h.c1
  obtain ⟨m, hm, hL⟩ := h.lst
  have U := Lib.hid (has_any w l M P _ m key hL hs)
  rw [inn_rev] at U
  clear h hL hm
  go_enter Try.func27, Try.ntmps27
  go_wp2_with fail
  refine U.out.mono ?_
  rintro e w1 ⟨rfl, rfl⟩
  go_wp2_with fail
  go_ret
  exact ⟨rfl, rfl⟩

theorem removeC (w : World) (c l M P mo : Nat) (ks : List ByteArray) (b : Nat) (key : ByteArray) (h : Raw w c l M P mo ks b) (hs : key.size ≤ maxLen) :
    Calls Try.prog 15 #[.pointer (some ⟨c, 0, none⟩), .string key] w (OpR (.bool (inn ks key)) w c l M P mo (rem ks key) b) := by
  have c1 := h.c1
  obtain ⟨m, hm, hL⟩ := h.lst
  have U := Lib.hid (remove_any w l M P _ m key hL hs)
  rw [inn_rev] at U
  have HH := Lib.hid h
  have HM := Lib.hid hm
  clear h hL hm
  go_enter Try.func15, Try.ntmps15
  go_wp2_with fail
  refine U.out.mono ?_
  rintro e w1 ⟨P', rfl, hP, hL, hT⟩
  have R := Lib.hid (HH.out.next hP hT hL HM.out (rem_rev ks key))
  have HP := Lib.hid hP
  have HT := Lib.hid hT
  clear hP hT hL
  go_wp2_with fail
  go_ret
  exact ⟨P', rfl, HP.out, R.out, HT.out⟩

theorem victim_fact (ks : List ByteArray) : lastKey ks.reverse = ks.headD ⟨#[]⟩ ∧ anyKey ks.reverse = !ks.isEmpty := by
  unfold lastKey anyKey
  cases ks <;> simp

theorem victimC (w : World) (c l M P mo : Nat) (ks : List ByteArray) (b : Nat) (h : Raw w c l M P mo ks b) :
    Calls Try.prog 24 #[.pointer (some ⟨c, 0, none⟩)] w (KeyPost (ks.headD ⟨#[]⟩) (!ks.isEmpty) w) := by
  have c1 := h.c1
  obtain ⟨m, hm, hL⟩ := h.lst
  have U := last_any w l M P _ m hL
  rw [(victim_fact ks).1, (victim_fact ks).2] at U
  have U := Lib.hid U
  generalize ks.headD ⟨#[]⟩ = x at *
  generalize (!ks.isEmpty) = t at *
  clear h hL hm
  go_enter Try.func24, Try.ntmps24
  go_wp2_with fail
  refine U.out.mono ?_
  rintro e w1 ⟨rfl, rfl⟩
  go_wp2_with fail
  go_ret2
  exact ⟨rfl, rfl⟩

theorem drop_fact (ks : List ByteArray) : ks.reverse.dropLast = ks.tail.reverse := by
  cases ks <;> simp

theorem dropC (w : World) (c l M P mo : Nat) (ks : List ByteArray) (b : Nat) (h : Raw w c l M P mo ks b) :
    Calls Try.prog 20 #[.pointer (some ⟨c, 0, none⟩)] w (OpR (.tuple #[.string (ks.headD ⟨#[]⟩), .bool (!ks.isEmpty)]) w c l M P mo ks.tail b) := by
  have c1 := h.c1
  obtain ⟨m, hm, hL⟩ := h.lst
  have U := pop_any w l M P _ m hL
  rw [(victim_fact ks).1, (victim_fact ks).2, drop_fact] at U
  have U := Lib.hid U
  have HH := Lib.hid h
  have HM := Lib.hid hm
  generalize ks.headD ⟨#[]⟩ = x at *
  generalize (!ks.isEmpty) = t at *
  clear h hL hm
  go_enter Try.func20, Try.ntmps20
  go_wp2_with fail
  refine U.out.mono ?_
  rintro e w1 ⟨P', rfl, hP, hL, hT⟩
  have R := Lib.hid (HH.out.next hP hT hL HM.out rfl)
  have HP := Lib.hid hP
  have HT := Lib.hid hT
  clear hP hT hL
  go_wp2_with fail
  go_ret2
  exact ⟨P', rfl, HP.out, R.out, HT.out⟩

theorem keysC (w : World) (c l M P mo : Nat) (ks : List ByteArray) (b : Nat) (h : Raw w c l M P mo ks b) :
    Calls Try.prog 25 #[.pointer (some ⟨c, 0, none⟩)] w (RowPost ks w) := by
  have c1 := h.c1
  obtain ⟨m, hm, hL⟩ := h.lst
  have U := Lib.hid (keys_any w l M P _ m hL)
  clear h hL hm
  go_enter Try.func25, Try.ntmps25
  go_wp2_with fail
  refine U.out.mono ?_
  rintro e w1 ⟨v, rfl, hO, hB⟩
  have U2 := Lib.hid (reverse_any w1 w.heap.size v _ hO hB.size)
  have HB := Lib.hid hB
  clear hO hB
  go_wp2_with fail
  refine U2.out.mono ?_
  rintro e w2 ⟨rfl, hO, hB⟩
  rw [List.reverse_reverse] at hO
  have HO := Lib.hid hO
  have HB2 := Lib.hid hB
  clear hO hB
  go_wp2_with fail
  go_ret
  exact ⟨v, rfl, HO.out, HB.out.trans HB2.out⟩

theorem ghostsC (w : World) (c : Nat) :
    Calls Try.prog 28 #[.pointer (some ⟨c, 0, none⟩)] w (fun e w' => e = .returned (.slice none 0 0) ∧ w = w') := by
  go_enter Try.func28, Try.ntmps28
  go_wp2_with fail
  go_ret
  exact ⟨rfl, rfl⟩
end Go.Proofs.Ythbokiebnniifaa
