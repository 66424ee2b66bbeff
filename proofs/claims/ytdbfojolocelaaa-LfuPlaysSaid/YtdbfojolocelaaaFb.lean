/- A cache as its callers have it; the contracts of New, count, and of cutTo at Request's closure. -/
import Derived.Test.YtdbfojolocelaaaFa
import Derived.Deep.LoopGhost
import Derived.Deep.RegionHeld3
namespace Go.Proofs.Ytdbfojolocelaaa
open Go.RowKit Ht HS Lf

/-- The blocks of a cache. -/
def blk (c : Nat) (T : Nat → Prop) : Nat → Prop := fun k => k = c ∨ T k
/-- A cache whose blocks are S. -/
def Ca (w : World) (c : Nat) (S : Nat → Prop) (mo : Nat) (ch : Bool) (L : List (Ent Key)) (n : Nat) : Prop := ∃ h T, S = blk c T ∧ Raw w c h T mo ch (sg ch * (n : Int)) L n ∧ L.length ≤ mo
/-- What a call that turns a cache leaves. -/
def CaPost (v : Value) (w : World) (c : Nat) (S : Nat → Prop) (mo : Nat) (ch : Bool) (L : List (Ent Key)) (n : Nat) (e : Ending) (w' : World) : Prop :=
  e = .returned v ∧ ∃ S', Ca w' c S' mo ch L n ∧ (∀ k, S' k → S k ∨ w.heap.size ≤ k) ∧ Turn S w w'
theorem Turn.put {S : Nat → Prop} {w w1 : World} (h : Turn S w w1) {p : Addr} (hp : S p.block ∨ w.heap.size ≤ p.block) (u : Value) : Turn S w (w1.setCell p u) :=
  h.trans (S' := fun k => k = p.block) ⟨rfl, rfl, rfl, by simp [World.setCell], fun k _ h1 => Below.heap_setCell _ _ _ _ h1⟩ (fun k hk e => by subst e; rcases hp with h | h; exact h; omega)
section
variable {w w' : World} {c h mo n : Nat} {T T' S : Nat → Prop} {ch : Bool} {L : List (Ent Key)} {v : Value} {e : Ending}
theorem blk_next (hT : ∀ k, T' k → T k ∨ w.heap.size ≤ k) : ∀ k, blk c T' k → blk c T k ∨ w.heap.size ≤ k := by
  intro k hk
  rcases hk with h | h
  · exact Or.inl (Or.inl h)
  · exact (hT k h).imp Or.inr id
theorem turn_blk (h : Turn T w w') : Turn (blk c T) w w' := h.wide fun _ _ h => Or.inr h
theorem OpR.post (p : OpR v w c h T mo ch (sg ch * (n : Int)) L n e w') (hl : L.length ≤ mo) : CaPost v w c (blk c T) mo ch L n e w' := by
  obtain ⟨he, T', hR, hN, hT⟩ := p
  exact ⟨he, _, ⟨h, T', rfl, hR, hl⟩, blk_next hN, turn_blk hT⟩
theorem Raw.lt {mk : Int} (r : Raw w c h T mo ch mk L n) {k : Nat} (hk : blk c T k) : k < w.heap.size := by
  rcases hk with rfl | hk
  · exact r.clt
  · exact r.hs.lt hk
theorem Raw.keep {mk : Int} (r : Raw w c h T mo ch mk L n) (hs : ∀ k, blk c T k → w'.heap[k]? = w.heap[k]?) : Raw w' c h T mo ch mk L n := r.same (hs c (Or.inl rfl)) fun k hk => hs k (Or.inr hk)
theorem Ca.lt (a : Ca w c S mo ch L n) {k : Nat} (hk : S k) : k < w.heap.size := by
  obtain ⟨h, T, rfl, hR, _⟩ := a
  exact hR.lt hk
theorem Ca.kept (a : Ca w c S mo ch L n) {S2 : Nat → Prop} (ht : Turn S2 w w') (hd : ∀ k, S k → ¬ S2 k) : Ca w' c S mo ch L n := by
  have hlt : ∀ k, S k → k < w.heap.size := fun k hk => a.lt hk
  obtain ⟨h, T, rfl, hR, hl⟩ := a
  exact ⟨h, T, rfl, hR.keep fun k hk => ht.block k (hlt k hk) (hd k hk), hl⟩
theorem Ca.below (a : Ca w c S mo ch L n) (hb : Below w.heap.size w w') : Ca w' c S mo ch L n := by
  obtain ⟨h, T, rfl, hR, hl⟩ := a
  exact ⟨h, T, rfl, hR.below hb, hl⟩
theorem Ca.once (a : Ca w c S mo ch L n) : Once L n := by obtain ⟨h, T, rfl, hR, hl⟩ := a; exact hR.hs.once
theorem Ca.srt (a : Ca w c S mo ch L n) : Srt L := by obtain ⟨h, T, rfl, hR, hl⟩ := a; exact hR.hs.srt
theorem Ca.ok (a : Ca w c S mo ch L n) : ∀ e ∈ L, e.key.size ≤ maxLen := by obtain ⟨h, T, rfl, hR, hl⟩ := a; exact hR.hs.ok
theorem Ca.fit (a : Ca w c S mo ch L n) : Fit ch L n := by obtain ⟨h, T, rfl, hR, hl⟩ := a; exact hR.fit
theorem Ca.le (a : Ca w c S mo ch L n) : L.length ≤ mo ∧ L.length ≤ 1000 := by obtain ⟨h, T, rfl, hR, hl⟩ := a; exact ⟨hl, hR.len⟩
theorem Ca.top (a : Ca w c S mo ch L n) : mo ≤ 9223372036854775807 := by obtain ⟨h, T, rfl, hR, hl⟩ := a; exact hR.top
end

section
variable (w : World) (c : Nat) (S : Nat → Prop) (mo : Nat) (ch : Bool) (L : List (Ent Key)) (n : Nat) (key : Key) (a : Ca w c S mo ch L n)
include a
theorem len_ca : Calls Try.prog 28 #[.pointer (some ⟨c, 0, none⟩)] w (IntPost (L.length : Int) w) := by
  obtain ⟨h, T, rfl, hR, hl⟩ := a
  exact lenC w c h T mo ch _ L n hR
theorem times_ca (hs : key.size ≤ maxLen) : Calls Try.prog 29 #[.pointer (some ⟨c, 0, none⟩), .string key] w (ValBelow (.int .i64 (tms L key)) w) := by
  obtain ⟨h, T, rfl, hR, hl⟩ := a
  exact timesC w c h T mo ch _ L n key hR hs
theorem has_ca (hs : key.size ≤ maxLen) : Calls Try.prog 30 #[.pointer (some ⟨c, 0, none⟩), .string key] w (ValBelow (.bool (isIn L key)) w) := by
  obtain ⟨h, T, rfl, hR, hl⟩ := a
  exact hasC w c h T mo ch _ L n key hR hs
theorem remove_ca (hs : key.size ≤ maxLen) : Calls Try.prog 14 #[.pointer (some ⟨c, 0, none⟩), .string key] w (CaPost (.bool (isIn L key)) w c S mo ch (rem L key) n) := by
  obtain ⟨h, T, rfl, hR, hl⟩ := a
  exact (removeC w c h T mo ch _ L n key hR hs).mono fun e w' hp => hp.post (Nat.le_trans (rem_le _ _) hl)
theorem victim_ca : Calls Try.prog 24 #[.pointer (some ⟨c, 0, none⟩)] w (ValBelow (.tuple #[.string (hdK L), .bool (!L.isEmpty)]) w) := by
  obtain ⟨h, T, rfl, hR, hl⟩ := a
  exact victimC w c h T mo ch _ L n hR
theorem drop_ca : Calls Try.prog 19 #[.pointer (some ⟨c, 0, none⟩)] w (CaPost (.tuple #[.string (hdK L), .bool (!L.isEmpty)]) w c S mo ch L.tail n) := by
  obtain ⟨h, T, rfl, hR, hl⟩ := a
  exact (dropC w c h T mo ch _ L n hR).mono fun e w' hp => hp.post (by rw [List.length_tail]; omega)
end

/-- A new cache in memory of its own. -/
def NewC (mo : Nat) (ch : Bool) (w : World) (e : Ending) (w' : World) : Prop := ∃ c S, e = .returned (.pointer (some ⟨c, 0, none⟩)) ∧ Ca w' c S mo ch [] 0 ∧ (∀ k, S k → w.heap.size ≤ k) ∧ Below w.heap.size w w'

abbrev newBox (mo : Nat) (h : Nat) (s : Int) : Obj := .cells #[.int .i64 (mo : Int), .pointer (some ⟨h, 0, none⟩), .int .i64 0, .int .i64 s] 67
theorem made_ca {w w1 : World} {h mo : Nat} {T : Nat → Prop} (ch : Bool) (H : HS w1 h T [] 0) (hT : ∀ k, T k → w.heap.size ≤ k) (HB : Below w.heap.size w w1) (hm : mo ≤ 9223372036854775807) :
    NewC mo ch w (.returned (.pointer (some ⟨w1.heap.size, 0, none⟩))) (w1.alloc (newBox mo h (sg ch))) := by
  have hb := (Below.refl w1.heap.size w1).alloc (Nat.le_refl _) (newBox mo h (sg ch))
  have hs := HB.size
  have hn : ¬ T w1.heap.size := fun hk => by have := H.lt hk; omega
  have hx := heap_alloc_new w1 (newBox mo h (sg ch))
  have hlow : ∀ k, blk w1.heap.size T k → w.heap.size ≤ k := fun k hk => by
    rcases hk with rfl | hk
    · exact hs
    · exact hT k hk
  exact ⟨w1.heap.size, blk w1.heap.size T, rfl, ⟨h, T, rfl, ⟨H.below hb, hn, by rw [hx]; simp, hm, ⟨by simp, by simp⟩⟩, Nat.zero_le _⟩, hlow, HB.trans (hb.mono hs)⟩

theorem new_neg (w : World) (z : Int) (ch : Bool) (hz : -9223372036854775808 ≤ z ∧ z ≤ 9223372036854775807) (h0 : z < 0) :
    Calls Try.prog 10 #[.int .i64 z, .bool ch] w (NewC 0 ch w) := by
  have U := Lib.hid (new_any w)
  go_enter Try.func10, Try.ntmps10
  go_wp2_with fail
  refine U.out.mono ?_
  rintro e w1 ⟨h, T, rfl, hH, hT, hB⟩
  have r1 := made_ca (mo := 0) false hH hT hB (by omega)
  have r2 := made_ca (mo := 0) true hH hT hB (by omega)
  have R1 := Lib.hid r1
  have R2 := Lib.hid r2
  clear hH hT hB r1 r2
  cases ch with
  | false =>
    go_wp2_with fail
    go_ret
    exact R1.out
  | true =>
    go_wp2_with fail
    go_ret
    exact R2.out
theorem new_pos (w : World) (n : Nat) (ch : Bool) (hz : n ≤ 9223372036854775807) :
    Calls Try.prog 10 #[.int .i64 (n : Int), .bool ch] w (NewC n ch w) := by
  have U := Lib.hid (new_any w)
  have h0 : ¬ ((n : Int) < 0) := by omega
  go_enter Try.func10, Try.ntmps10
  go_wp2_with fail
  refine U.out.mono ?_
  rintro e w1 ⟨h, T, rfl, hH, hT, hB⟩
  have r1 := made_ca (mo := n) false hH hT hB hz
  have r2 := made_ca (mo := n) true hH hT hB hz
  have R1 := Lib.hid r1
  have R2 := Lib.hid r2
  clear hH hT hB r1 r2
  cases ch with
  | false =>
    go_wp2_with fail
    go_ret
    exact R1.out
  | true =>
    go_wp2_with fail
    go_ret
    exact R2.out
theorem new_ca (w : World) (z : Int) (ch : Bool) (hz : -9223372036854775808 ≤ z ∧ z ≤ 9223372036854775807) :
    Calls Try.prog 10 #[.int .i64 z, .bool ch] w (NewC z.toNat ch w) := by
  by_cases h0 : z < 0
  · rw [show z.toNat = 0 by omega]; exact new_neg w z ch hz h0
  · obtain ⟨n, rfl⟩ : ∃ n : Nat, z = (n : Int) := ⟨z.toNat, by omega⟩
    exact new_pos w n ch (by omega)

/-! count -/
theorem Raw.mark {w : World} {c h mo n : Nat} {T : Nat → Prop} {ch : Bool} {mk : Int} {L : List (Ent Key)} (r : Raw w c h T mo ch mk L n) (m : Int) : Raw (w.setCell ⟨c, 2, none⟩ (.int .i64 m)) c h T mo ch m L n := by
  refine ⟨r.hs.same (fun k hk => Below.heap_setCell _ _ _ _ (fun e => r.cT (by have e : k = c := e; exact e ▸ hk))), r.cT, ?_, r.top, r.fit⟩
  rw [heap_setCell_same _ _ _ _ _ _ r.box]; rfl
/-- What count leaves. -/
def CntPost (w : World) (c h : Nat) (T : Nat → Prop) (mo : Nat) (ch : Bool) (L : List (Ent Key)) (n : Nat) (key : Key) (e : Ending) (w' : World) : Prop :=
  e = .returned (.tuple #[]) ∧ ∃ T', Raw w' c h T' mo ch (sg ch * ((n + 1 : Nat) : Int)) (put ch n L key) (n + 1) ∧ (∀ k, T' k → T k ∨ w.heap.size ≤ k) ∧ Turn (blk c T) w w'
theorem cnt_end {w w1 w2 w3 : World} {c h mo n : Nat} {T : Nat → Prop} {ch : Bool} {L : List (Ent Key)} {key : Key} {e : Ending} (t1 : Turn (blk c T) w w1) (r1 : Raw w1 c h T mo ch (sg ch * ((n + 1 : Nat) : Int)) L n) (b2 : Below w1.heap.size w1 w2)
    (p : OpPost (.tuple #[]) w2 h T (put ch n L key) (n + 1) e w3) : CntPost w c h T mo ch L n key e w3 := by
  obtain ⟨he, T', hS, hN, hT⟩ := p
  have hsz := t1.size
  have hsz2 := b2.size
  refine ⟨he, T', (r1.below b2).next hS hN hT (put_fit r1.fit key), fun k hk => (hN k hk).imp id (fun h => by omega), (t1.trans (Turn.of_below (S := T) b2) (fun _ _ h => Or.inr h)).trans hT (fun _ _ h => Or.inr h)⟩

set_option maxHeartbeats 2000000 in
set_option maxRecDepth 100000 in
theorem countC (w : World) (c h : Nat) (T : Nat → Prop) (mo : Nat) (ch : Bool) (L : List (Ent Key)) (n : Nat) (key : Key) (r : Raw w c h T mo ch (sg ch * (n : Int)) L n) (hs : key.size ≤ maxLen) (hl : L.length ≤ 999) (hn : n ≤ 90000) :
    Calls Try.prog 37 #[.pointer (some ⟨c, 0, none⟩), .string key] w (CntPost w c h T mo ch L n key) := by
  have c2 := r.c2
  have c3 := r.c3
  have f2 := r.f2
  have hm := sg_mul ch n
  have hg := sg_rng ch
  have he := sg_succ ch n
  have ht := tms_rng r.fit key
  have r1 := fun m => (r.mark m).below (w' := (w.setCell ⟨c, 2, none⟩ (.int .i64 m)).drew) ⟨rfl, rfl, rfl, Nat.le_refl _, fun _ _ => rfl⟩
  have R1 := Lib.hid r1
  have T1 := Lib.hid (fun u => ((Turn.refl (blk c T) w).put (p := ⟨c, 2, none⟩) (Or.inl (Or.inl rfl)) u).drew)
  have HE := Lib.hid he
  obtain ⟨t, hT⟩ : ∃ t, t = tms L key := ⟨_, rfl⟩
  have HT := Lib.hid hT
  rw [← hT] at ht
  clear r r1 he hT
  obtain ⟨mk, hmk⟩ : ∃ m, m = sg ch * (n : Int) := ⟨_, rfl⟩
  obtain ⟨s, hsg⟩ : ∃ s, s = sg ch := ⟨_, rfl⟩
  have HE2 := Lib.hid (show mk + s = sg ch * ((n + 1 : Nat) : Int) by rw [hmk, hsg]; exact HE.out)
  rw [← hmk] at c2 hm
  rw [← hsg] at c3 hg
  clear hmk hsg HE
  go_enter Try.func37, Try.ntmps37
  go_wp2_with fail
  go_region
  go_wp2_with fail
  have r2 := R1.out (mk + s)
  have t2 := T1.out (.int .i64 (mk + s))
  have d1 := r2.c1
  have d2 := r2.c2
  clear R1 T1 c2 c3 f2
  generalize (w.setCell ⟨c, 2, none⟩ (.int .i64 (mk + s))).drew = w1 at *
  rw [HE2.out] at r2
  have R2 := Lib.hid r2
  have T2 := Lib.hid t2
  clear r2 t2
  have TM := Lib.hid (fun (w' : World) (g : Below w1.heap.size w1 w') => timesC w' c h T mo ch _ L n key (R2.out.below g) hs)
  rw [← HT.out] at TM
  have EP := Lib.hid (show put ch n L key = ins ⟨key, t + 1, mk + s, n + 1⟩ (rem L key) by unfold put ent; rw [HE2.out, HT.out])
  have SE := Lib.hid (show ∀ w', Below w1.heap.size w1 w' → Calls Try.prog 45 #[.pointer (some ⟨h, 0, none⟩), .string key, .agg #[.int .i64 (t + 1), .int .i64 (mk + s)]] w' (OpPost (.tuple #[]) w' h T (put ch n L key) (n + 1)) from fun w' g => by
    rw [EP.out]; exact set_any w' h T L n key (t + 1) (mk + s) (R2.out.below g).hs hs hl hn)
  have ZE := Lib.hid (show ∀ (w2 : World), Below w1.heap.size w1 w2 → ∀ (e : Ending) (w3 : World), OpPost (.tuple #[]) w2 h T (put ch n L key) (n + 1) e w3 → e = .returned (.tuple #[]) ∧ CntPost w c h T mo ch L n key (.returned (.tuple #[])) w3 ∧ w3.cell? ⟨c, 1, none⟩ = some (.pointer (some ⟨h, 0, none⟩)) ∧ w3.cell? ⟨c, 2, none⟩ = some (.int .i64 (mk + s)) from fun w2 b2 e w3 hp => by
    have cp := cnt_end (key := key) T2.out R2.out b2 hp
    have r3 := R2.out.below b2
    have he := hp.1
    subst he
    obtain ⟨_, T3, hS3, hN3, hT3⟩ := hp
    exact ⟨rfl, cp, (World.cell?_of_block (a := ⟨c, 1, none⟩) (hT3.block c r3.clt r3.cT)).trans r3.c1, (World.cell?_of_block (a := ⟨c, 2, none⟩) (hT3.block c r3.clt r3.cT)).trans (HE2.out ▸ r3.c2)⟩)
  have HW := Lib.hid (Go.IntWalk.i64_in (t + 1) (by omega))
  have BD := Lib.hid (show ∀ w2, Below w1.drew.heap.size w1.drew w2 → Below w1.heap.size w1 w2 from fun w2 hB => ⟨hB.os, hB.tape, hB.output, hB.size, hB.block⟩)
  have BC := Lib.hid (show ∀ w2, Below w1.heap.size w1 w2 → w2.cell? ⟨c, 1, none⟩ = some (.pointer (some ⟨h, 0, none⟩)) ∧ w2.cell? ⟨c, 2, none⟩ = some (.int .i64 (mk + s)) from fun w2 hB => ⟨(hB.cell (p := ⟨c, 1, none⟩) (cell_lt d1)).trans d1, (hB.cell (p := ⟨c, 2, none⟩) (cell_lt d2)).trans d2⟩)
  go_region_held3 (fun w' => w'.cell? ⟨c, 1, none⟩ = some (.pointer (some ⟨h, 0, none⟩)) ∧ w'.cell? ⟨c, 2, none⟩ = some (.int .i64 (mk + s))) (first | (exact ⟨‹_›, ‹_›⟩) | go_keep)
    (first
      | (go_at_call 29; refine (TM.out w1.drew ⟨rfl, rfl, rfl, Nat.le_refl _, fun _ _ => rfl⟩).mono ?_; rintro e w2 ⟨rfl, hB⟩; have B2 := Lib.hid (BD.out w2 hB); have z1 := (BC.out w2 B2.out).1; have z2 := (BC.out w2 B2.out).2; clear hB)
      | (go_at_call 45; rw [HW.out]; refine (SE.out w2 B2.out).mono ?_; intro e w3 hp; obtain ⟨rfl, cp, z3, z4⟩ := ZE.out w2 B2.out e w3 hp; have CP := Lib.hid cp; clear hp cp))
  go_wp2_with fail
  go_end0
  exact CP.out
end Go.Proofs.Ytdbfojolocelaaa
