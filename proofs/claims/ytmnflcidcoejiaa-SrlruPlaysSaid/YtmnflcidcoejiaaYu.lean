/- The contracts of a cache's Adopt, New. -/
import Derived.Test.YtmnflcidcoejiaaYt
namespace Go.Proofs.Ytmnflcidcoejiaa
open Go.RowKit Sg

section
variable (w : World) (i : Ix) (S : Sx) (mo t : Nat) (N A G : List ByteArray) (f : Told) (b : Nat) (key : ByteArray) (r : Raw w i S mo t N A G f b) (hs : key.size ≤ maxLen)
include r hs
theorem adopt_in (hi : (inn N key || inn A key) = true) : Calls Try.prog 18 #[.pointer (some ⟨i.c, 0, none⟩), .string key] w (RPost (.bool false) w i S mo t N A G f b) := by
  obtain ⟨c0, _⟩ := r.cells
  have clt := r.clt
  have U := Lib.hid (show ∀ m, Calls Try.prog 29 #[.pointer (some ⟨i.c, 0, none⟩), .string key] (w.drewN m) (fun e w' => e = .returned (.bool true) ∧ w' = w.drewN m) from fun m => by
    have := hasY (w.drewN m) i S mo t N A G f b (r.drewN m) key hs
    rw [hi] at this
    exact this.mono fun _ _ h => ⟨h.1, h.2.symm⟩)
  have HH := Lib.hid r
  clear r hi
  go_enter Try.func18, Try.ntmps18
  go_wp2_with fail
  go_quiet ((go_at_call 29; exact Calls.quiet_of_same (U.out _)))
  go_wp2_with fail
  go_ret
  exact ⟨rfl, S, HH.out.drewN _, Went.below (below_drewN w _)⟩
theorem adopt_full (hi : (inn N key || inn A key) = false) (hf : mo ≤ N.length + A.length) : Calls Try.prog 18 #[.pointer (some ⟨i.c, 0, none⟩), .string key] w (RPost (.bool false) w i S mo t N A G f b) := by
  obtain ⟨c0, _⟩ := r.cells
  have clt := r.clt
  obtain ⟨q, hq⟩ : ∃ q, q = N.length + A.length := ⟨_, rfl⟩
  rw [← hq] at hf
  have e0 : decide (mo ≤ q) = true := by simpa using hf
  have U := Lib.hid (show ∀ m, Calls Try.prog 29 #[.pointer (some ⟨i.c, 0, none⟩), .string key] (w.drewN m) (fun e w' => e = .returned (.bool false) ∧ w' = w.drewN m) from fun m => by
    have := hasY (w.drewN m) i S mo t N A G f b (r.drewN m) key hs
    rw [hi] at this
    exact this.mono fun _ _ h => ⟨h.1, h.2.symm⟩)
  have U2 := Lib.hid (show ∀ m, Calls Try.prog 28 #[.pointer (some ⟨i.c, 0, none⟩)] (w.drewN m) (fun e w' => e = .returned (.int .i64 (q : Int)) ∧ ∃ m', w' = (w.drewN m).drewN m') from fun m => by
    have := lenY (w.drewN m) i S mo t N A G f b (r.drewN m)
    rw [← hq] at this
    exact this)
  have HH := Lib.hid r
  clear r hi hq
  go_enter Try.func18, Try.ntmps18
  go_wp2_with fail
  go_quiet (first
    | (go_at_call 29; exact Calls.quiet_of_same (U.out _))
    | (go_at_call 28; exact Calls.quiet_of (U2.out _)))
  go_wp2_with fail
  go_ret
  exact ⟨rfl, S, HH.out.drewN _, Went.below (below_drewN w _)⟩
theorem adopt_room (hi1 : inn N key = false) (hi2 : inn A key = false) (hf : N.length + A.length < mo) (hl : N.length ≤ b) (hb : b ≤ 980) : Calls Try.prog 18 #[.pointer (some ⟨i.c, 0, none⟩), .string key] w (RPost (.bool true) w i S mo t (key :: N) A (rem G key) (tdel f key) (b + 1)) := by
  obtain ⟨c0, _⟩ := r.cells
  have clt := r.clt
  obtain ⟨q, hq⟩ : ∃ q, q = N.length + A.length := ⟨_, rfl⟩
  rw [← hq] at hf
  have e0 : decide (mo ≤ q) = false := by simpa using hf
  have U := Lib.hid (show ∀ m, Calls Try.prog 29 #[.pointer (some ⟨i.c, 0, none⟩), .string key] (w.drewN m) (fun e w' => e = .returned (.bool false) ∧ w' = w.drewN m) from fun m => by
    have := hasY (w.drewN m) i S mo t N A G f b (r.drewN m) key hs
    rw [hi1, hi2] at this
    exact this.mono fun _ _ h => ⟨h.1, h.2.symm⟩)
  have U2 := Lib.hid (show ∀ m, Calls Try.prog 28 #[.pointer (some ⟨i.c, 0, none⟩)] (w.drewN m) (fun e w' => e = .returned (.int .i64 (q : Int)) ∧ ∃ m', w' = (w.drewN m).drewN m') from fun m => by
    have := lenY (w.drewN m) i S mo t N A G f b (r.drewN m)
    rw [← hq] at this
    exact this)
  have HH := Lib.hid r
  have HN := Lib.hid (show key ∉ N from inn_no.1 hi1)
  have RM := Lib.hid (fun m => removeY (w.drewN m) i S mo t N A G f b (r.drewN m) key hs (by rw [hi1]; intro h; cases h))
  have e1 : rem N key = N := rem_none (inn_no.1 hi1)
  have e2 : rem A key = A := rem_none (inn_no.1 hi2)
  rw [e1, e2] at RM
  clear r hi1 hi2 hq e1 e2
  go_enter Try.func18, Try.ntmps18
  go_wp2_with fail
  go_quiet (first
    | (go_at_call 29; exact Calls.quiet_of_same (U.out _))
    | (go_at_call 28; exact Calls.quiet_of (U2.out _)))
  go_wp2_with fail
  refine (RM.out _).mono ?_
  rintro e w2 ⟨rfl, S2, r2, hW⟩
  obtain ⟨_, _, c2, _⟩ := r2.cells
  have R2 := Lib.hid r2
  have W2 := Lib.hid ((Went.below (below_drewN w _)).trans hW)
  clear r2 hW RM U U2
  go_wp2_with fail
  refine (ls_front_new w2 i.n S2.n N b R2.out.n key (b + 1) HN.out hs (by omega) (by omega) (by omega)).mono ?_
  intro e w3 hp
  obtain ⟨rfl, S3, r3, hW3⟩ := R2.out.onN hp (by omega)
  have P := Lib.hid (show RPost (.bool true) w i S mo t (key :: N) A (rem G key) (tdel f key) (b + 1) (.returned (.bool true)) w3 from ⟨rfl, S3, r3, W2.out.trans hW3⟩)
  clear hp r3 hW3
  go_wp2_with fail
  go_ret
  exact P.out
end

/-- A new cache in memory of its own. -/
def NewC (mo t : Nat) (w : World) (e : Ending) (w' : World) : Prop := ∃ i S, e = .returned (.pointer (some ⟨i.c, 0, none⟩)) ∧ Raw w' i S mo t [] [] [] (fun _ => false) 0 ∧ (∀ k, blk i S k → w.heap.size ≤ k) ∧ Below w.heap.size w w'
theorem made_y {w w1 w2 w3 : World} {n a g mo t : Nat} {Sn Sa Sg : Nat → Prop} (L1 : LS w1 n Sn [] 0) (B1 : Below w.heap.size w w1) (h1 : ∀ k, Sn k → w.heap.size ≤ k) (L2 : LS w2 a Sa [] 0) (B2 : Below w1.heap.size w1 w2) (h2 : ∀ k, Sa k → w1.heap.size ≤ k)
    (L3 : LS w3 g Sg [] 0) (B3 : Below w2.heap.size w2 w3) (h3 : ∀ k, Sg k → w2.heap.size ≤ k) (hm : mo ≤ 9223372036854775807 ∧ t ≤ 9223372036854775807) :
    NewC mo t w (.returned (.pointer (some ⟨w3.heap.size + 1, 0, none⟩))) ((w3.alloc (.map #[] 0)).alloc (.cells #[.int .i64 (mo : Int), .int .i64 (t : Int), .pointer (some ⟨n, 0, none⟩), .pointer (some ⟨a, 0, none⟩), .pointer (some ⟨g, 0, none⟩), .map (some w3.heap.size)] 66)) := by
  have s1 := B1.size
  have s2 := B2.size
  have s3 := B3.size
  have s4 : (w3.alloc (.map #[] 0)).heap.size = w3.heap.size + 1 := by simp
  have b5 := ((Below.refl w3.heap.size w3).alloc (Nat.le_refl _) (.map #[] 0)).alloc (by rw [s4]; omega) (.cells #[.int .i64 (mo : Int), .int .i64 (t : Int), .pointer (some ⟨n, 0, none⟩), .pointer (some ⟨a, 0, none⟩), .pointer (some ⟨g, 0, none⟩), .map (some w3.heap.size)] 66)
  have q := heap_alloc_new (w3.alloc (.map #[] 0)) (.cells #[.int .i64 (mo : Int), .int .i64 (t : Int), .pointer (some ⟨n, 0, none⟩), .pointer (some ⟨a, 0, none⟩), .pointer (some ⟨g, 0, none⟩), .map (some w3.heap.size)] 66)
  rw [s4] at q
  have t1 : ∀ k, Sn k → k < w1.heap.size := fun k hk => L1.lt hk
  have t2 : ∀ k, Sa k → k < w2.heap.size := fun k hk => L2.lt hk
  have t3 : ∀ k, Sg k → k < w3.heap.size := fun k hk => L3.lt hk
  have bb1 : Below w1.heap.size w1 w3 := B2.trans (B3.mono s2)
  refine ⟨⟨w3.heap.size + 1, n, a, g, w3.heap.size⟩, ⟨Sn, Sa, Sg⟩, rfl, ⟨q, ?_, ?_, ?_, ?_, ?_, hm⟩, fun k hk => ?_, ((B1.trans (B2.mono s1)).trans (B3.mono (by omega))).trans (b5.mono (by omega))⟩
  · exact L1.kept (by have := b5.size; omega) fun k hk => (b5.block k (by have := t1 k hk; omega)).trans (bb1.block k (t1 k hk))
  · exact L2.kept (by have := b5.size; omega) fun k hk => (b5.block k (by have := t2 k hk; omega)).trans (B3.block k (t2 k hk))
  · exact L3.kept b5.size fun k hk => b5.block k (t3 k hk)
  · exact (Om.made w3).same (Below.heap_alloc _ _ _ (by rw [s4]; omega))
  · exact ⟨fun k hk ha => by have := t1 k hk; have := h2 k ha; omega, fun k hk ha => by have := t1 k hk; have := h3 k ha; omega, fun k hk ha => by have := t2 k hk; have := h3 k ha; omega,
      fun hk => by have := t1 _ hk; simp only at this; omega, fun hk => by have := t2 _ hk; simp only at this; omega, fun hk => by have := t3 _ hk; simp only at this; omega,
      fun hk => by have := t1 _ hk; simp only at this; omega, fun hk => by have := t2 _ hk; simp only at this; omega, fun hk => by have := t3 _ hk; simp only at this; omega, by show w3.heap.size + 1 ≠ w3.heap.size; omega⟩
  · rcases hk with h | h | h | h | h
    · simp only at h; omega
    · simp only at h; omega
    · exact h1 k h
    · have := h2 k h; omega
    · have := h3 k h; omega
theorem new_any2 (w : World) (z : Int) (n : Nat) (hz : -9223372036854775808 ≤ z ∧ z ≤ 9223372036854775807) (hn : n = z.toNat) : Calls Try.prog 10 #[.int .i64 z] w (NewC n (n / 2) w) := by
  have e1 : (if z < 0 then (0 : Int) else z) = (n : Int) := by split <;> omega
  have hmax : max z 0 = (n : Int) := by omega
  obtain ⟨u, hu⟩ : ∃ u, u = n / 2 := ⟨_, rfl⟩
  have e2 : (n : Int).tdiv 2 = (u : Int) := by rw [hu, Int.tdiv_eq_ediv_of_nonneg (by omega)]; rfl
  rw [← hu]
  have HB := Lib.hid (show n ≤ 9223372036854775807 ∧ u ≤ 9223372036854775807 from ⟨by omega, by omega⟩)
  have e3 : IntKind.i64.wrap (u : Int) = (u : Int) := IntWalk.i64_in _ (by omega)
  have h2 := @run_makeMap Try.prog
  clear hu hn
  go_enter Try.func10, Try.ntmps10
  go_wp2_with fail
  refine (ls_new w).mono ?_
  rintro e w1 ⟨n1, Sn, rfl, hn1, L1, B1⟩
  have HL1 := Lib.hid (And.intro L1 (And.intro B1 hn1))
  clear L1 B1 hn1
  go_wp2_with fail
  refine (ls_new w1).mono ?_
  rintro e w2 ⟨n2, Sa, rfl, hn2, L2, B2⟩
  have HL2 := Lib.hid (And.intro L2 (And.intro B2 hn2))
  clear L2 B2 hn2
  go_wp2_with fail
  refine (ls_new w2).mono ?_
  rintro e w3 ⟨n3, Sg, rfl, hn3, L3, B3⟩
  have F := Lib.hid (made_y HL1.out.1 HL1.out.2.1 HL1.out.2.2 HL2.out.1 HL2.out.2.1 HL2.out.2.2 L3 B3 hn3 HB.out)
  clear L3 B3 hn3
  go_wp2_with fail
  go_ret
  exact F.out
end Go.Proofs.Ytmnflcidcoejiaa
