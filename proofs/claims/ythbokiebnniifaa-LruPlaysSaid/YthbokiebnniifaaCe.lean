/- The contracts of a cache's Resize and Adopt. -/
import Derived.Test.YthbokiebnniifaaCd
import Derived.Deep.QuietTactic
import Derived.BigQuiet
namespace Go.Proofs.Ythbokiebnniifaa
open Go.RowKit Sg

/-- What Resize leaves. -/
def ResPost (w : World) (c : Nat) (S : Nat → Prop) (n : Nat) (ks : List ByteArray) (b : Nat) (e : Ending) (w' : World) : Prop :=
  ∃ v S', e = .returned v ∧ Own w' w.heap.size v (ks.take (ks.length - n)) ∧ Ca w' c S' n (lastN n ks) b ∧ (∀ k, S' k → S k ∨ w.heap.size ≤ k) ∧ Turn S w w' ∧ (∀ g, v.ownBlock = some g → ¬ S' g)

theorem res_start {w : World} {c l M P mo : Nat} {ks : List ByteArray} {b : Nat} (h : Raw w c l M P mo ks b) (n : Nat) (hn : n ≤ 9223372036854775807) :
    Raw ((w.setCell ⟨c, 0, none⟩ (.int .i64 (n : Int))).alloc (.cells #[.slice none 0 0] 27)) c l M P n ks b ∧ ¬ blk c l M P w.heap.size ∧ GBox ((w.setCell ⟨c, 0, none⟩ (.int .i64 (n : Int))).alloc (.cells #[.slice none 0 0] 27)) w.heap.size (.slice none 0 0) := by
  have h1 := h.clt
  have h2 := h.llt
  have hsz : (w.setCell ⟨c, 0, none⟩ (.int .i64 (n : Int))).heap.size = w.heap.size := by simp [World.setCell]
  have r1 : Raw (w.setCell ⟨c, 0, none⟩ (.int .i64 (n : Int))) c l M P n ks b := by
    obtain ⟨m, hm, hL⟩ := h.lst
    have q : ∀ k, k ≠ c → (w.setCell ⟨c, 0, none⟩ (.int .i64 (n : Int))).heap[k]? = w.heap[k]? := fun k hk => Below.heap_setCell _ _ _ _ hk
    refine ⟨h.cl, h.cM, h.cP, ?_, ⟨m, hm, hL.same (by omega) (q _ (Ne.symm h.cl)) (q _ (Ne.symm h.cM)) (q _ (Ne.symm h.cP))⟩, hn⟩
    rw [heap_setCell_same _ _ _ _ _ _ h.box]; rfl
  refine ⟨r1.below ((Below.refl _ _).alloc (Nat.le_refl _) _), ?_, ?_⟩
  · rintro (h | h | h | h) <;> omega
  · have := heap_alloc_new (w.setCell ⟨c, 0, none⟩ (.int .i64 (n : Int))) (.cells #[.slice none 0 0] 27)
    rw [hsz] at this
    exact this
theorem res_end {w w2 : World} {c l M P mo : Nat} {ks : List ByteArray} {b n : Nat} (h : Raw w c l M P mo ks b) (r : RRel ((w.setCell ⟨c, 0, none⟩ (.int .i64 (n : Int))).alloc (.cells #[.slice none 0 0] 27)) c l M P n ks b w.heap.size w.heap.size n 0 w2) :
    ∃ A m cp, GBox w2 w.heap.size (.slice A m cp) ∧ ResPost w c (blk c l M P) n ks b (.returned (.slice A m cp)) w2 := by
  obtain ⟨P', j, v, r⟩ := r
  have hsz : ((w.setCell ⟨c, 0, none⟩ (.int .i64 (n : Int))).alloc (.cells #[.slice none 0 0] 27)).heap.size = w.heap.size + 1 := by simp [World.setCell]
  have hj := r.cnt
  obtain rfl : j = ks.length - n := by omega
  have hown := r.own
  obtain ⟨A, cp, rfl⟩ := hown.len
  refine ⟨A, _, cp, r.box, _, blk c l M P', rfl, hown, ⟨l, M, P', rfl, r.raw, ?_⟩, ?_, ?_, fun g hg => (r.vn g hg).1⟩
  · rw [lastN_len]; omega
  · refine blk_next ?_
    rcases r.nextP with h | h
    · exact Or.inl h
    · exact Or.inr (by omega)
  · have t0 : Turn (blk c l M P) w ((w.setCell ⟨c, 0, none⟩ (.int .i64 (n : Int))).alloc (.cells #[.slice none 0 0] 27)) := ((Turn.refl _ _).setCell (p := ⟨c, 0, none⟩) (Or.inl (Or.inl rfl)) _).alloc _
    exact t0.trans r.turn (fun k hk hS => by
      rcases hS with h | h
      · exact h
      · omega)

theorem res_neg (w : World) (c l M P mo : Nat) (ks : List ByteArray) (b : Nat) (z : Int) (hz : -9223372036854775808 ≤ z) (h0 : z < 0) (h : Raw w c l M P mo ks b) :
    Calls Try.prog 23 #[.pointer (some ⟨c, 0, none⟩), .int .i64 z] w (ResPost w c (blk c l M P) 0 ks b) := by
  have c0 := h.c0
  have f0 := h.f0
  have clt := h.clt
  have HH := Lib.hid h
  obtain ⟨r1, r2, r3⟩ := res_start h 0 (by omega)
  have c1 := r1.c0
  have U := Lib.hid (cutR _ c l M P 0 ks b w.heap.size w.heap.size 0 r1 r2 r3 (by simp [World.setCell]))
  clear h r1 r2 r3
  go_enter Try.func23, Try.ntmps23
  go_wp2_with fail
  refine U.out.mono ?_
  rintro e w2 ⟨rfl, hr⟩
  obtain ⟨A, m, cp, hg, hp⟩ := res_end HH.out hr
  have k1 : w2.cell? ⟨w.heap.size, 0, none⟩ = some (.slice A m cp) := cell_of_row w2 _ 0 _ _ _ hg
  have HP := Lib.hid hp
  clear hr hg hp
  go_wp2_with fail
  go_ret
  exact HP.out
theorem res_pos (w : World) (c l M P mo : Nat) (ks : List ByteArray) (b : Nat) (n : Nat) (hz : n ≤ 9223372036854775807) (h : Raw w c l M P mo ks b) :
    Calls Try.prog 23 #[.pointer (some ⟨c, 0, none⟩), .int .i64 (n : Int)] w (ResPost w c (blk c l M P) n ks b) := by
  have c0 := h.c0
  have f0 := h.f0
  have clt := h.clt
  have h0 : ¬ ((n : Int) < 0) := by omega
  have HH := Lib.hid h
  obtain ⟨r1, r2, r3⟩ := res_start h n hz
  have c1 := r1.c0
  have U := Lib.hid (cutR _ c l M P n ks b w.heap.size w.heap.size n r1 r2 r3 (by simp [World.setCell]))
  clear h r1 r2 r3
  go_enter Try.func23, Try.ntmps23
  go_wp2_with fail
  refine U.out.mono ?_
  rintro e w2 ⟨rfl, hr⟩
  obtain ⟨A, m, cp, hg, hp⟩ := res_end HH.out hr
  have k1 : w2.cell? ⟨w.heap.size, 0, none⟩ = some (.slice A m cp) := cell_of_row w2 _ 0 _ _ _ hg
  have HP := Lib.hid hp
  clear hr hg hp
  go_wp2_with fail
  go_ret
  exact HP.out
theorem resize_ca (w : World) (c : Nat) (S : Nat → Prop) (mo : Nat) (ks : List ByteArray) (b : Nat) (z : Int) (hz : -9223372036854775808 ≤ z ∧ z ≤ 9223372036854775807) (h : Ca w c S mo ks b) :
    Calls Try.prog 23 #[.pointer (some ⟨c, 0, none⟩), .int .i64 z] w (ResPost w c S z.toNat ks b) := by
  obtain ⟨l, M, P, rfl, hR, hl⟩ := h
  by_cases h0 : z < 0
  · rw [show z.toNat = 0 by omega]; exact res_neg w c l M P mo ks b z hz.1 h0 hR
  · obtain ⟨n, rfl⟩ : ∃ n : Nat, z = (n : Int) := ⟨z.toNat, by omega⟩
    exact res_pos w c l M P mo ks b n (by omega) hR

def adB (mo : Nat) (ks : List ByteArray) (k : ByteArray) : Bool := !inn ks k && decide (ks.length < mo)
def adK (mo : Nat) (ks : List ByteArray) (k : ByteArray) : List ByteArray := if adB mo ks k = true then rem ks k ++ [k] else ks

theorem raw_drew {w : World} {c l M P mo : Nat} {ks : List ByteArray} {b : Nat} (h : Raw w c l M P mo ks b) (n : Nat) : Raw (w.drewN n) c l M P mo ks b := h.below ⟨rfl, rfl, rfl, Nat.le_refl _, fun _ _ => rfl⟩

theorem adopt_in (w : World) (c l M P mo : Nat) (ks : List ByteArray) (b : Nat) (key : ByteArray) (h : Raw w c l M P mo ks b) (hl : ks.length ≤ mo) (hi : inn ks key = true) (hs : key.size ≤ maxLen) :
    Calls Try.prog 19 #[.pointer (some ⟨c, 0, none⟩), .string key] w (CaPost (.bool false) w c (blk c l M P) mo ks b) := by
  have c0 := h.c0
  have clt := h.clt
  have U := Lib.hid (show ∀ m, Calls Try.prog 27 #[.pointer (some ⟨c, 0, none⟩), .string key] (w.drewN m) (fun e w' => e = .returned (.bool true) ∧ w' = w.drewN m) from fun m => by
    have := hasC (w.drewN m) c l M P mo ks b key (raw_drew h m) hs
    rw [hi] at this
    exact this.mono fun _ _ h => ⟨h.1, h.2.symm⟩)
  have HH := Lib.hid h
  have HL := Lib.hid hl
  clear h hl hi
  go_enter Try.func19, Try.ntmps19
  go_wp2_with fail
  go_quiet ((go_at_call 27; exact Calls.quiet_of_same (U.out _)))
  go_wp2_with fail
  go_ret
  exact ⟨rfl, _, ⟨l, M, P, rfl, raw_drew HH.out _, HL.out⟩, fun k hk => Or.inl hk, Turn.of_below ⟨rfl, rfl, rfl, Nat.le_refl _, fun _ _ => rfl⟩⟩

theorem adopt_full (w : World) (c l M P mo : Nat) (ks : List ByteArray) (b : Nat) (key : ByteArray) (h : Raw w c l M P mo ks b) (hl : ks.length ≤ mo) (hi : inn ks key = false) (hf : mo ≤ ks.length) (hs : key.size ≤ maxLen) :
    Calls Try.prog 19 #[.pointer (some ⟨c, 0, none⟩), .string key] w (CaPost (.bool false) w c (blk c l M P) mo ks b) := by
  have c0 := h.c0
  have clt := h.clt
  have e0 : decide (mo ≤ ks.length) = true := by simpa using hf
  have U := Lib.hid (show ∀ m, Calls Try.prog 27 #[.pointer (some ⟨c, 0, none⟩), .string key] (w.drewN m) (fun e w' => e = .returned (.bool false) ∧ w' = w.drewN m) from fun m => by
    have := hasC (w.drewN m) c l M P mo ks b key (raw_drew h m) hs
    rw [hi] at this
    exact this.mono fun _ _ h => ⟨h.1, h.2.symm⟩)
  have U2 := Lib.hid (show ∀ m, Calls Try.prog 26 #[.pointer (some ⟨c, 0, none⟩)] (w.drewN m) (fun e w' => e = .returned (.int .i64 (ks.length : Int)) ∧ w' = w.drewN m) from fun m =>
    (lenC (w.drewN m) c l M P mo ks b (raw_drew h m)).mono fun _ _ h => ⟨h.1, h.2.symm⟩)
  have HH := Lib.hid h
  have HL := Lib.hid hl
  clear h hl hi hf
  go_enter Try.func19, Try.ntmps19
  go_wp2_with fail
  go_quiet (first
    | (go_at_call 27; exact Calls.quiet_of_same (U.out _))
    | (go_at_call 26; exact Calls.quiet_of_same (U2.out _)))
  go_wp2_with fail
  go_ret
  exact ⟨rfl, _, ⟨l, M, P, rfl, raw_drew HH.out _, HL.out⟩, fun k hk => Or.inl hk, Turn.of_below ⟨rfl, rfl, rfl, Nat.le_refl _, fun _ _ => rfl⟩⟩

theorem adopt_room (w : World) (c l M P mo : Nat) (ks : List ByteArray) (b : Nat) (key : ByteArray) (h : Raw w c l M P mo ks b) (hi : inn ks key = false) (hf : ks.length < mo) (hs : key.size ≤ maxLen) (hb : b ≤ 980) :
    Calls Try.prog 19 #[.pointer (some ⟨c, 0, none⟩), .string key] w (CaPost (.bool true) w c (blk c l M P) mo (rem ks key ++ [key]) (b + 1)) := by
  have c0 := h.c0
  have clt := h.clt
  have e0 : decide (mo ≤ ks.length) = false := by simpa using hf
  have U := Lib.hid (show ∀ m, Calls Try.prog 27 #[.pointer (some ⟨c, 0, none⟩), .string key] (w.drewN m) (fun e w' => e = .returned (.bool false) ∧ w' = w.drewN m) from fun m => by
    have := hasC (w.drewN m) c l M P mo ks b key (raw_drew h m) hs
    rw [hi] at this
    exact this.mono fun _ _ h => ⟨h.1, h.2.symm⟩)
  have U2 := Lib.hid (show ∀ m, Calls Try.prog 26 #[.pointer (some ⟨c, 0, none⟩)] (w.drewN m) (fun e w' => e = .returned (.int .i64 (ks.length : Int)) ∧ w' = w.drewN m) from fun m =>
    (lenC (w.drewN m) c l M P mo ks b (raw_drew h m)).mono fun _ _ h => ⟨h.1, h.2.symm⟩)
  have c1 := h.c1
  obtain ⟨m, hm, hL⟩ := h.lst
  have hmle := hL.le
  have HLst := Lib.hid hL
  have HM := Lib.hid (show max m ((rem ks.reverse key).length + 1) ≤ b + 1 by
    have := rem_le ks.reverse key
    have := hL.le
    omega)
  have HH := Lib.hid h
  have HF := Lib.hid hf
  clear h hi hf hL
  go_enter Try.func19, Try.ntmps19
  go_wp2_with fail
  go_quiet (first
    | (go_at_call 27; exact Calls.quiet_of_same (U.out _))
    | (go_at_call 26; exact Calls.quiet_of_same (U2.out _)))
  go_wp2_with fail
  refine (front_any (w.drewN _) l M P _ m key (HLst.out.below ⟨rfl, rfl, rfl, Nat.le_refl _, fun _ _ => rfl⟩) hs (by omega)).mono ?_
  rintro e w2 ⟨P2, rfl, hP, hL, hT⟩
  have R := Lib.hid ((raw_drew HH.out _).next (ks' := rem ks key ++ [key]) hP hT hL HM.out (by rw [rem_rev]; simp))
  have HP := Lib.hid hP
  have HT := Lib.hid hT
  clear hP hL hT
  go_wp2_with fail
  go_ret
  refine ⟨rfl, _, ⟨l, M, P2, rfl, R.out, ?_⟩, blk_next HP.out, (Turn.of_below (S := blk c l M P) (w := w) (w1 := w.drewN _) ⟨rfl, rfl, rfl, Nat.le_refl _, fun _ _ => rfl⟩).trans (turned_turn (c := c) HT.out) (fun _ _ h => h)⟩
  have := HF.out
  have := rem_le ks key
  rw [List.length_append, List.length_cons, List.length_nil]; omega

theorem adopt_ca (w : World) (c : Nat) (S : Nat → Prop) (mo : Nat) (ks : List ByteArray) (b : Nat) (key : ByteArray) (h : Ca w c S mo ks b) (hs : key.size ≤ maxLen) (hb : b ≤ 980) :
    Calls Try.prog 19 #[.pointer (some ⟨c, 0, none⟩), .string key] w (CaPost (.bool (adB mo ks key)) w c S mo (adK mo ks key) (b + 1)) := by
  obtain ⟨l, M, P, rfl, hR, hl⟩ := h
  cases hi : inn ks key with
  | true =>
    have e1 : adB mo ks key = false := by simp [adB, hi]
    have e2 : adK mo ks key = ks := by unfold adK; rw [e1]; rfl
    rw [e1, e2]
    refine (adopt_in w c l M P mo ks b key hR hl hi hs).mono ?_
    rintro e w' ⟨he, S', h1, h2⟩
    exact ⟨he, S', h1.mono (by omega), h2⟩
  | false =>
    by_cases hf : ks.length < mo
    · have e1 : adB mo ks key = true := by simp [adB, hi, hf]
      have e2 : adK mo ks key = rem ks key ++ [key] := by unfold adK; rw [e1]; rfl
      rw [e1, e2]
      exact adopt_room w c l M P mo ks b key hR hi hf hs hb
    · have e1 : adB mo ks key = false := by simp [adB, hi, hf]
      have e2 : adK mo ks key = ks := by unfold adK; rw [e1]; rfl
      rw [e1, e2]
      refine (adopt_full w c l M P mo ks b key hR hl hi (by omega) hs).mono ?_
      rintro e w' ⟨he, S', h1, h2⟩
      exact ⟨he, S', h1.mono (by omega), h2⟩
end Go.Proofs.Ythbokiebnniifaa
