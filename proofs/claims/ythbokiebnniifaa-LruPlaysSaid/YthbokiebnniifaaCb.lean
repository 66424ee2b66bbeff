/- The contracts of a cache's New, Adopt, and of cutTo at Request's closure and at Resize's. -/
import Derived.Test.YthbokiebnniifaaCa
import Derived.Deep.LoopGhost
namespace Go.Proofs.Ythbokiebnniifaa
open Go.RowKit Sg

/-- The blocks of a cache. -/
def blk (c l M P : Nat) : Nat → Prop := fun k => k = c ∨ k = l ∨ k = M ∨ k = P
/-- A cache whose blocks are S. -/
def Ca (w : World) (c : Nat) (S : Nat → Prop) (mo : Nat) (ks : List ByteArray) (b : Nat) : Prop := ∃ l M P, S = blk c l M P ∧ Raw w c l M P mo ks b ∧ ks.length ≤ mo
/-- What a call that turns a cache leaves. -/
def CaPost (v : Value) (w : World) (c : Nat) (S : Nat → Prop) (mo : Nat) (ks : List ByteArray) (b : Nat) (e : Ending) (w' : World) : Prop :=
  e = .returned v ∧ ∃ S', Ca w' c S' mo ks b ∧ (∀ k, S' k → S k ∨ w.heap.size ≤ k) ∧ Turn S w w'
section
variable {w w' : World} {c l M P P' mo b : Nat} {ks : List ByteArray} {S : Nat → Prop} {v : Value} {e : Ending}
theorem turned_turn (h : Turned w w' l M P) : Turn (blk c l M P) w w' :=
  ⟨h.os, h.tape, h.output, h.size, fun k hk hn => h.block k hk (fun e => hn (Or.inr (Or.inl e))) (fun e => hn (Or.inr (Or.inr (Or.inl e)))) (fun e => hn (Or.inr (Or.inr (Or.inr e))))⟩
theorem blk_next (hP : P' = P ∨ w.heap.size ≤ P') : ∀ k, blk c l M P' k → blk c l M P k ∨ w.heap.size ≤ k := by
  intro k hk
  rcases hk with h | h | h | h
  · exact Or.inl (Or.inl h)
  · exact Or.inl (Or.inr (Or.inl h))
  · exact Or.inl (Or.inr (Or.inr (Or.inl h)))
  · subst h
    rcases hP with h | h
    · exact Or.inl (Or.inr (Or.inr (Or.inr h)))
    · exact Or.inr h
theorem OpR.post (h : OpR v w c l M P mo ks b e w') (hl : ks.length ≤ mo) : CaPost v w c (blk c l M P) mo ks b e w' := by
  obtain ⟨P', he, hP, hR, hT⟩ := h
  exact ⟨he, _, ⟨l, M, P', rfl, hR, hl⟩, blk_next hP, turned_turn hT⟩
theorem Ca.lt (h : Ca w c S mo ks b) {k : Nat} (hk : S k) : k < w.heap.size := by
  obtain ⟨l, M, P, rfl, hR, _⟩ := h
  have h1 := hR.clt
  have h2 := hR.llt
  rcases hk with h | h | h | h <;> omega
theorem Ca.below (h : Ca w c S mo ks b) (hb : Below w.heap.size w w') : Ca w' c S mo ks b := by
  obtain ⟨l, M, P, h1, hR, hl⟩ := h
  exact ⟨l, M, P, h1, hR.below hb, hl⟩
theorem Ca.kept (h : Ca w c S mo ks b) {S2 : Nat → Prop} (ht : Turn S2 w w') (hd : ∀ k, S k → ¬ S2 k) : Ca w' c S mo ks b := by
  have hlt : ∀ k, S k → k < w.heap.size := fun k hk => h.lt hk
  obtain ⟨l, M, P, h1, hR, hl⟩ := h
  subst h1
  have q : ∀ k, blk c l M P k → w'.heap[k]? = w.heap[k]? := fun k hk => ht.block k (hlt k hk) (hd k hk)
  exact ⟨l, M, P, rfl, hR.same ht.size (q _ (Or.inl rfl)) (q _ (Or.inr (Or.inl rfl))) (q _ (Or.inr (Or.inr (Or.inl rfl)))) (q _ (Or.inr (Or.inr (Or.inr rfl)))), hl⟩
theorem Ca.nodup (h : Ca w c S mo ks b) : ks.Nodup := by obtain ⟨l, M, P, h1, hR, hl⟩ := h; exact hR.nodup
theorem Ca.small (h : Ca w c S mo ks b) : ∀ x ∈ ks, x.size ≤ maxLen := by obtain ⟨l, M, P, h1, hR, hl⟩ := h; exact hR.small
theorem Ca.le (h : Ca w c S mo ks b) : ks.length ≤ mo ∧ ks.length ≤ b ∧ ks.length ≤ 999 := by obtain ⟨l, M, P, h1, hR, hl⟩ := h; exact ⟨hl, hR.len⟩
theorem Ca.top (h : Ca w c S mo ks b) : mo ≤ 9223372036854775807 := by obtain ⟨l, M, P, h1, hR, hl⟩ := h; exact hR.top
theorem Ca.mono (h : Ca w c S mo ks b) {b' : Nat} (hb : b ≤ b') : Ca w c S mo ks b' := by
  obtain ⟨l, M, P, h1, hR, hl⟩ := h
  obtain ⟨m, hm, hL⟩ := hR.lst
  exact ⟨l, M, P, h1, ⟨hR.cl, hR.cM, hR.cP, hR.box, ⟨m, by omega, hL⟩, hR.top⟩, hl⟩
end

section
variable (w : World) (c : Nat) (S : Nat → Prop) (mo : Nat) (ks : List ByteArray) (b : Nat) (key : ByteArray) (h : Ca w c S mo ks b)
include h
theorem len_ca : Calls Try.prog 26 #[.pointer (some ⟨c, 0, none⟩)] w (IntPost (ks.length : Int) w) := by
  obtain ⟨l, M, P, rfl, hR, hl⟩ := h
  exact lenC w c l M P mo ks b hR
theorem has_ca (hs : key.size ≤ maxLen) : Calls Try.prog 27 #[.pointer (some ⟨c, 0, none⟩), .string key] w (BoolPost (inn ks key) w) := by
  obtain ⟨l, M, P, rfl, hR, hl⟩ := h
  exact hasC w c l M P mo ks b key hR hs
theorem remove_ca (hs : key.size ≤ maxLen) : Calls Try.prog 15 #[.pointer (some ⟨c, 0, none⟩), .string key] w (CaPost (.bool (inn ks key)) w c S mo (rem ks key) b) := by
  obtain ⟨l, M, P, rfl, hR, hl⟩ := h
  exact (removeC w c l M P mo ks b key hR hs).mono fun e w' hp => hp.post (Nat.le_trans (rem_le _ _) hl)
theorem victim_ca : Calls Try.prog 24 #[.pointer (some ⟨c, 0, none⟩)] w (KeyPost (ks.headD ⟨#[]⟩) (!ks.isEmpty) w) := by
  obtain ⟨l, M, P, rfl, hR, hl⟩ := h
  exact victimC w c l M P mo ks b hR
theorem drop_ca : Calls Try.prog 20 #[.pointer (some ⟨c, 0, none⟩)] w (CaPost (.tuple #[.string (ks.headD ⟨#[]⟩), .bool (!ks.isEmpty)]) w c S mo ks.tail b) := by
  obtain ⟨l, M, P, rfl, hR, hl⟩ := h
  exact (dropC w c l M P mo ks b hR).mono fun e w' hp => hp.post (by rw [List.length_tail]; omega)
theorem keys_ca : Calls Try.prog 25 #[.pointer (some ⟨c, 0, none⟩)] w (RowPost ks w) := by
  obtain ⟨l, M, P, rfl, hR, hl⟩ := h
  exact keysC w c l M P mo ks b hR
end

/-- A new cache in memory of its own. -/
def NewC (mo : Nat) (w : World) (e : Ending) (w' : World) : Prop := ∃ c S, e = .returned (.pointer (some ⟨c, 0, none⟩)) ∧ Ca w' c S mo [] 0 ∧ (∀ k, S k → w.heap.size ≤ k) ∧ Below w.heap.size w w'

theorem made_ca {w w1 : World} {l M P mo : Nat} (HL : Lst w1 l M P [] 0) (HB : Below w.heap.size w w1) (hl : w.heap.size ≤ l) (hM : w.heap.size ≤ M) (hP : w.heap.size ≤ P) (hm : mo ≤ 9223372036854775807) :
    NewC mo w (.returned (.pointer (some ⟨w1.heap.size, 0, none⟩))) (w1.alloc (.cells #[.int .i64 (mo : Int), .pointer (some ⟨l, 0, none⟩)] 58)) := by
  have h1 := HL.llt
  have hb := (Below.refl w1.heap.size w1).alloc (Nat.le_refl _) (.cells #[.int .i64 (mo : Int), .pointer (some ⟨l, 0, none⟩)] 58)
  have hs := HB.size
  refine ⟨w1.heap.size, blk w1.heap.size l M P, rfl, ⟨l, M, P, rfl, ⟨by omega, by omega, by omega, heap_alloc_new _ _, ⟨0, Nat.le_refl _, HL.below hb⟩, hm⟩, Nat.zero_le _⟩, fun k hk => ?_, HB.trans (hb.mono hs)⟩
  rcases hk with h | h | h | h <;> omega

theorem new_neg (w : World) (z : Int) (hz : -9223372036854775808 ≤ z ∧ z ≤ 9223372036854775807) (h0 : z < 0) :
    Calls Try.prog 11 #[.int .i64 z] w (NewC 0 w) := by
  have U := Lib.hid (new_any w)
  go_enter Try.func11, Try.ntmps11
  go_wp2_with fail
  refine U.out.mono ?_
  rintro e w1 ⟨l, M, P, rfl, hl, hM, hP, hL, hB⟩
  have R := Lib.hid (made_ca (mo := 0) hL hB hl hM hP (by omega))
  clear hl hM hP hL hB
  go_wp2_with fail
  go_ret
  exact R.out
theorem new_pos (w : World) (n : Nat) (hz : n ≤ 9223372036854775807) :
    Calls Try.prog 11 #[.int .i64 (n : Int)] w (NewC n w) := by
  have U := Lib.hid (new_any w)
  have h0 : ¬ ((n : Int) < 0) := by omega
  go_enter Try.func11, Try.ntmps11
  go_wp2_with fail
  refine U.out.mono ?_
  rintro e w1 ⟨l, M, P, rfl, hl, hM, hP, hL, hB⟩
  have R := Lib.hid (made_ca (mo := n) hL hB hl hM hP (by omega))
  clear hl hM hP hL hB
  go_wp2_with fail
  go_ret
  exact R.out
theorem new_ca (w : World) (z : Int) (hz : -9223372036854775808 ≤ z ∧ z ≤ 9223372036854775807) :
    Calls Try.prog 11 #[.int .i64 z] w (NewC z.toNat w) := by
  by_cases h0 : z < 0
  · rw [show z.toNat = 0 by omega]; exact new_neg w z hz h0
  · obtain ⟨n, rfl⟩ : ∃ n : Nat, z = (n : Int) := ⟨z.toNat, by omega⟩
    exact new_pos w n (by omega)

/-- The step of a request under way, in a variable of its own. -/
def Box (w : World) (sb : Nat) (h : Bool) (s : ByteArray) (o : Bool) : Prop := w.heap[sb]? = some (.cells #[.bool h, .string s, .bool o] 34 (0, 0))
theorem Box.set {w : World} {sb : Nat} {h o : Bool} {s : ByteArray} (k : Box w sb h s o) (x : ByteArray) : Box ((w.setCell ⟨sb, 1, none⟩ (.string x)).setCell ⟨sb, 2, none⟩ (.bool true)) sb h x true := by
  unfold Box at *
  have r1 : (w.setCell ⟨sb, 1, none⟩ (.string x)).heap[sb]? = some (.cells #[.bool h, .string x, .bool o] 34 (0, 0)) := by rw [heap_setCell_same _ _ _ _ _ _ k]; rfl
  rw [heap_setCell_same _ _ _ _ _ _ r1]; rfl
theorem Box.cells {w : World} {sb : Nat} {h o : Bool} {s : ByteArray} (k : Box w sb h s o) : w.cell? ⟨sb, 0, none⟩ = some (.bool h) ∧ w.cell? ⟨sb, 1, none⟩ = some (.string s) ∧ w.cell? ⟨sb, 2, none⟩ = some (.bool o) ∧ w.frozen? ⟨sb, 1, none⟩ = false ∧ w.frozen? ⟨sb, 2, none⟩ = false :=
  ⟨cell_of_row w _ 0 _ _ _ k, cell_of_row w _ 1 _ _ _ k, cell_of_row w _ 2 _ _ _ k, frozen_of_row w _ 1 _ _ k, frozen_of_row w _ 2 _ _ k⟩
theorem Box.lt {w : World} {sb : Nat} {h o : Bool} {s : ByteArray} (k : Box w sb h s o) : sb < w.heap.size := (Array.getElem?_eq_some_iff.1 k).1

theorem cloQ (w : World) (sb : Nat) (h o : Bool) (s x : ByteArray) (k : Box w sb h s o) :
    Calls Try.prog 33 #[.string x, .pointer (some ⟨sb, 0, none⟩)] w (fun e w' => e = .returned (.tuple #[]) ∧ Box w' sb h x true ∧ Turn (fun k => k = sb) w w') := by
  obtain ⟨k0, k1, k2, f1, f2⟩ := k.cells
  have R := Lib.hid (k.set x)
  clear k
  go_enter Try.func33, Try.ntmps33
  go_wp2_with fail
  go_end0
  exact ⟨rfl, R.out, ((Turn.refl (fun k => k = sb) w).setCell (p := ⟨sb, 1, none⟩) (Or.inl rfl) _).setCell (p := ⟨sb, 2, none⟩) (Or.inl rfl) _⟩

theorem cutQ_none (w : World) (c l M P mo : Nat) (ks : List ByteArray) (b n : Nat) (f : Value) (h : Raw w c l M P mo ks b) (hn : ks.length ≤ n) :
    Calls Try.prog 32 #[.pointer (some ⟨c, 0, none⟩), .int .i64 (n : Int), f] w (fun e w' => e = .returned (.tuple #[]) ∧ w = w') := by
  have U := Lib.hid (lenC w c l M P mo ks b h)
  have e0 : decide (n < ks.length) = false := by simp; omega
  clear h
  go_enter Try.func32, Try.ntmps32
  go_wp2_with fail
  go_loopg [] 0 (fun k W => W = w)
  case atStart => rfl
  case round =>
    obtain rfl := hrel
    go_wp2_with fail
    refine U.out.mono ?_
    rintro e w1 ⟨rfl, rfl⟩
    go_wp2_with fail
    go_end0
    exact ⟨rfl, rfl⟩

/-- Where Request stands with its cut. -/
def QRel (w : World) (c l M P mo : Nat) (x : ByteArray) (ks : List ByteArray) (b sb : Nat) (h o : Bool) (s : ByteArray) (k : Nat) (W : World) : Prop :=
  ∃ P', (P' = P ∨ w.heap.size ≤ P') ∧ Turn (fun k => blk c l M P k ∨ k = sb) w W ∧ ¬ blk c l M P' sb ∧ ((k = 1 ∧ Raw W c l M P' mo (x :: ks) b ∧ Box W sb h s o) ∨ (k = 0 ∧ Raw W c l M P' mo ks b ∧ Box W sb h x true))

theorem cutQ_one (w : World) (c l M P mo : Nat) (x : ByteArray) (ks : List ByteArray) (b sb : Nat) (hb o : Bool) (s : ByteArray) (h : Raw w c l M P mo (x :: ks) b) (hs : ¬ blk c l M P sb) (hB : Box w sb hb s o) :
    Calls Try.prog 32 #[.pointer (some ⟨c, 0, none⟩), .int .i64 (ks.length : Int), .func (.func 33) #[] #[.pointer (some ⟨sb, 0, none⟩)]] w (fun e w' => e = .returned (.tuple #[]) ∧ QRel w c l M P mo x ks b sb hb o s 0 w') := by
  have HH := Lib.hid h
  have HS := Lib.hid hs
  have HB := Lib.hid hB
  clear h hs hB
  go_enter Try.func32, Try.ntmps32
  go_wp2_with fail
  go_loopg [] 1 (fun k W => QRel w c l M P mo x ks b sb hb o s k W)
  case atStart => exact ⟨P, Or.inl rfl, Turn.refl _ _, HS.out, Or.inl ⟨rfl, HH.out, HB.out⟩⟩
  case round =>
    obtain ⟨P', hP, hT, hn, hrel | hrel⟩ := hrel
    · obtain ⟨rfl, hR, hB⟩ := hrel
      have U1 := lenC wr c l M P' mo _ b hR
      rw [List.length_cons] at U1
      have U1 := Lib.hid U1
      have U2 := Lib.hid (show Calls Try.prog 20 #[.pointer (some ⟨c, 0, none⟩)] wr (OpR (.tuple #[.string x, .bool true]) wr c l M P' mo ks b) from dropC wr c l M P' mo _ b hR)
      have H1 := Lib.hid hP
      have H2 := Lib.hid hT
      have H3 := Lib.hid hn
      have H4 := Lib.hid hB
      have H5 := Lib.hid hR
      have hlen := hR.len
      rw [List.length_cons] at hlen
      have e0 : decide (ks.length < ks.length + 1) = true := by simp
      clear hP hT hn hB hR
      go_wp2_with fail
      refine U1.out.mono ?_
      rintro e wr ⟨rfl, rfl⟩
      go_wp2_with fail
      refine U2.out.mono ?_
      rintro e w2 ⟨P2, rfl, hP, hR, hT⟩
      have T2 : Turn (blk c l M P') wr w2 := turned_turn hT
      have N2 : ¬ blk c l M P2 sb := fun hk => by
        rcases blk_next hP sb hk with h | h
        · exact H3.out h
        · have := H4.out.lt; omega
      have B2 : Box w2 sb hb s o := (T2.block sb H4.out.lt H3.out).trans H4.out
      have H6 := Lib.hid hP
      have H7 := Lib.hid hR
      have H8 := Lib.hid T2
      have H9 := Lib.hid N2
      have U3 := Lib.hid (cloQ w2 sb hb o s x B2)
      clear hP hR hT T2 N2 B2 U1 U2
      go_wp2_with fail
      refine U3.out.mono ?_
      rintro e w3 ⟨rfl, hB3, hT3⟩
      have R3 := Lib.hid (show QRel w c l M P mo x ks b sb hb o s 0 w3 by
        have hsz := H2.out.size
        have t12 : Turn (fun k => blk c l M P k ∨ k = sb) w w2 := H2.out.trans H8.out (fun k hk hS => by
          rcases blk_next H1.out k hS with h | h
          · exact Or.inl h
          · omega)
        refine ⟨P2, ?_, t12.trans hT3 (fun k _ e => Or.inr e), H9.out, Or.inr ⟨rfl, ?_, hB3⟩⟩
        · have h1 := H1.out
          have h6 := H6.out
          rcases h6 with rfl | h6
          · exact h1
          · exact Or.inr (by omega)
        · have hR := H7.out
          have hd : ∀ k, blk c l M P2 k → w3.heap[k]? = w2.heap[k]? := fun k hk => hT3.block k (by have := hR.clt; have := hR.llt; rcases hk with h | h | h | h <;> omega) (fun e => H9.out (e ▸ hk))
          exact hR.same hT3.size (hd _ (Or.inl rfl)) (hd _ (Or.inr (Or.inl rfl))) (hd _ (Or.inr (Or.inr (Or.inl rfl)))) (hd _ (Or.inr (Or.inr (Or.inr rfl)))))
      clear hB3 hT3
      go_wp2_with fail
      go_roundg 0
      case measure => omega
      case rel => exact R3.out
    · obtain ⟨rfl, hR, hB⟩ := hrel
      have U1 := Lib.hid (lenC wr c l M P' mo _ b hR)
      have R3 := Lib.hid (show QRel w c l M P mo x ks b sb hb o s 0 wr from ⟨P', hP, hT, hn, Or.inr ⟨rfl, hR, hB⟩⟩)
      have e0 : decide (ks.length < ks.length) = false := by simp
      clear hP hT hn hB hR
      go_wp2_with fail
      refine U1.out.mono ?_
      rintro e wr ⟨rfl, rfl⟩
      go_wp2_with fail
      go_end0
      exact ⟨rfl, R3.out⟩
end Go.Proofs.Ythbokiebnniifaa
