/- A cache whose blocks are T, and its calls; a cache of a walk's own, beside what was there; steps held against each other. -/
import Derived.Test.YtmnflcidcoejiaaYv
import Derived.Laws.StructEq
namespace Go.Proofs.Ytmnflcidcoejiaa
open Go.RowKit Sg

def Ca (w : World) (c : Nat) (T : Nat → Prop) (s : St) (b : Nat) : Prop := ∃ i S, i.c = c ∧ T = blk i S ∧ Raw w i S s.mo s.t s.N s.A s.G s.f b ∧ Ok s ∧ s.tot ≤ b
def CaPost (v : Value) (w : World) (c : Nat) (T : Nat → Prop) (s : St) (b : Nat) (e : Ending) (w' : World) : Prop := e = .returned v ∧ ∃ T', Ca w' c T' s b ∧ Went w w' T T'
section
variable {w w' : World} {i : Ix} {S : Sx} {c b b' : Nat} {T : Nat → Prop} {s : St} {v : Value} {e : Ending} {k : ByteArray}
theorem RPost.ca (h : RPost v w i S s.mo s.t s.N s.A s.G s.f b e w') (p : Ok s) (ht : s.tot ≤ b) : CaPost v w i.c (blk i S) s b e w' := by
  obtain ⟨he, S', hR, hW⟩ := h
  exact ⟨he, blk i S', ⟨i, S', rfl, rfl, hR, p, ht⟩, hW⟩
theorem Ca.lt (h : Ca w c T s b) {k : Nat} (hk : T k) : k < w.heap.size := by
  obtain ⟨i, S, rfl, rfl, hR, _⟩ := h
  exact hR.lt hk
theorem Ca.below (h : Ca w c T s b) (hb : Below w.heap.size w w') : Ca w' c T s b := by
  obtain ⟨i, S, rfl, rfl, hR, hp⟩ := h
  exact ⟨i, S, rfl, rfl, hR.below hb, hp⟩
theorem Ca.ok (h : Ca w c T s b) : Ok s := by obtain ⟨i, S, rfl, rfl, hR, hp, _⟩ := h; exact hp
theorem Ca.tot (h : Ca w c T s b) : s.tot ≤ b := by obtain ⟨i, S, rfl, rfl, hR, hp, ht⟩ := h; exact ht
theorem Ca.top (h : Ca w c T s b) : s.mo ≤ 9223372036854775807 := by obtain ⟨i, S, rfl, rfl, hR, hp, ht⟩ := h; exact hR.top.1
theorem Ca.small (h : Ca w c T s b) : ∀ x ∈ s.all, x.size ≤ maxLen := by
  obtain ⟨i, S, rfl, rfl, hR, _⟩ := h
  intro x hx
  unfold St.all at hx
  rcases List.mem_append.1 hx with h | h
  · rcases List.mem_append.1 h with h | h
    · exact hR.a.small x h
    · exact hR.n.small x h
  · exact hR.g.small x h
theorem Ca.mono (h : Ca w c T s b) (hb : b ≤ b') : Ca w c T s b' := by
  obtain ⟨i, S, rfl, rfl, hR, hp, ht⟩ := h
  exact ⟨i, S, rfl, rfl, hR.mono hb, hp, by omega⟩
theorem Ca.beside (h : Ca w c T s b) {X : Nat → Prop} (ht : Turn X w w') (hx : ∀ k, T k → ¬ X k) : Ca w' c T s b := by
  obtain ⟨i, S, rfl, rfl, hR, hp⟩ := h
  exact ⟨i, S, rfl, rfl, hR.beside ht hx, hp⟩
theorem step_miss (p : Ok s) (hm : s.mo ≠ 0) (hh : s.hit k = false) (m : Nat) (hmm : s.mo = m + 1) :
    Value.agg #[.bool false, .string (vicOf ((s.A ++ s.N).reverse.take (s.A.length + s.N.length - m))), .bool (!((s.A ++ s.N).reverse.take (s.A.length + s.N.length - m)).isEmpty)] = s.step k := by
  have hle := p.le
  unfold St.step St.vic St.out
  rw [hh]
  by_cases hf : s.mo ≤ s.A.length + s.N.length
  · have hn : s.A.length + s.N.length - m = 1 := by omega
    rw [hn]
    have hL : s.A ++ s.N ≠ [] := fun h => by have := congrArg List.length h; rw [List.length_append, List.length_nil] at this; omega
    have e1 : (s.A ++ s.N).reverse.take 1 = [lastKey (s.A ++ s.N)] := by
      have := (gone_row (L := s.A ++ s.N) (j := 0) (by rw [List.length_append]; omega)).2
      rw [List.take_zero, List.nil_append] at this
      rw [this]
      unfold lastKey
      rw [List.getLastD_eq_getLast?, List.getLast?_eq_getElem?, List.getD_eq_getElem?_getD]
    rw [e1]
    simp [hm, hf, vicOf, lastKey]
  · have hn : s.A.length + s.N.length - m = 0 := by omega
    rw [hn]
    simp [hf, vicOf]
end

section
variable (w : World) (c : Nat) (T : Nat → Prop) (s : St) (b : Nat) (key : ByteArray) (h : Ca w c T s b)
include h
theorem target_ca : Calls Try.prog 32 #[.pointer (some ⟨c, 0, none⟩)] w (IntPost (s.t : Int) w) := by
  obtain ⟨i, S, rfl, rfl, hR, hp⟩ := h
  exact targetY w i S _ _ _ _ _ _ b hR
theorem again_ca : Calls Try.prog 33 #[.pointer (some ⟨c, 0, none⟩)] w (IntPost (s.A.length : Int) w) := by
  obtain ⟨i, S, rfl, rfl, hR, hp⟩ := h
  exact againY w i S _ _ _ _ _ _ b hR
theorem ghosts_ca : Calls Try.prog 30 #[.pointer (some ⟨c, 0, none⟩)] w (RowPost s.G w) := by
  obtain ⟨i, S, rfl, rfl, hR, hp⟩ := h
  exact ghostsY w i S _ _ _ _ _ _ b hR
theorem has_ca (hs : key.size ≤ maxLen) : Calls Try.prog 29 #[.pointer (some ⟨c, 0, none⟩), .string key] w (BoolPost (s.hit key) w) := by
  obtain ⟨i, S, rfl, rfl, hR, hp⟩ := h
  exact hasY w i S _ _ _ _ _ _ b hR key hs
theorem len_ca : Calls Try.prog 28 #[.pointer (some ⟨c, 0, none⟩)] w (Qt (.int .i64 ((s.N.length + s.A.length : Nat) : Int)) w) := by
  obtain ⟨i, S, rfl, rfl, hR, hp⟩ := h
  exact lenY w i S _ _ _ _ _ _ b hR
theorem keys_ca : Calls Try.prog 27 #[.pointer (some ⟨c, 0, none⟩)] w (RowPost (s.A ++ s.N).reverse w) := by
  obtain ⟨i, S, rfl, rfl, hR, hp⟩ := h
  exact keysY w i S _ _ _ _ _ _ b hR
theorem victim_ca : Calls Try.prog 24 #[.pointer (some ⟨c, 0, none⟩)] w (KeyPost (lastKey (s.A ++ s.N)) (anyKey (s.A ++ s.N)) w) := by
  obtain ⟨i, S, rfl, rfl, hR, hp⟩ := h
  exact victimY w i S _ _ _ _ _ _ b hR
theorem drop_ca : Calls Try.prog 19 #[.pointer (some ⟨c, 0, none⟩)] w (CaPost (.tuple #[.string (lastKey (s.A ++ s.N)), .bool (anyKey (s.A ++ s.N))]) w c T s.dr b) := by
  obtain ⟨i, S, rfl, rfl, hR, hp, ht⟩ := h
  exact (dropY w i S _ _ _ _ _ _ b hR).mono fun e w' q => RPost.ca (s := s.dr) q hp.dr (Nat.le_trans (dr_tot s) ht)
theorem remove_ca (hs : key.size ≤ maxLen) : Calls Try.prog 14 #[.pointer (some ⟨c, 0, none⟩), .string key] w (CaPost (.bool (s.hit key)) w c T (s.rm key) b) := by
  obtain ⟨i, S, rfl, rfl, hR, hp, ht⟩ := h
  refine (removeY w i S _ _ _ _ _ _ b hR key hs fun h1 => ?_).mono fun e w' q => RPost.ca (s := s.rm key) q (hp.rm key) (Nat.le_trans (rm_tot s key) ht)
  rw [inn_no]
  intro h2
  have := hp.nd
  unfold St.all at this
  exact (List.nodup_append.1 (List.nodup_append.1 this).1).2.2 key h2 key (inn_iff.1 h1) rfl
theorem adopt_ca (hs : key.size ≤ maxLen) (hb : b ≤ 980) : Calls Try.prog 18 #[.pointer (some ⟨c, 0, none⟩), .string key] w (CaPost (.bool (s.adB key)) w c T (s.ad key) (b + 1)) := by
  obtain ⟨i, S, rfl, rfl, hR, hp, ht⟩ := h
  have htt := Nat.le_trans (ad_tot s key) (Nat.succ_le_succ ht)
  have hok := hp.ad key
  have hlen := hR.n.len
  cases hi : s.hit key with
  | true =>
    have e1 : s.adB key = false := by simp [St.adB, hi]
    have e2 : s.ad key = s := by unfold St.ad; rw [e1]; rfl
    rw [e1, e2]
    refine (adopt_in w i S _ _ _ _ _ _ b key hR hs hi).mono fun e w' ⟨he, S', r, hW⟩ => ?_
    exact ⟨he, _, ⟨i, S', rfl, rfl, r.mono (by omega), hp, by omega⟩, hW⟩
  | false =>
    have hi2 := hi
    unfold St.hit at hi2
    rw [Bool.or_eq_false_iff] at hi2
    by_cases hf : s.N.length + s.A.length < s.mo
    · have e1 : s.adB key = true := by simp [St.adB, hi, hf]
      rw [e1]
      refine (adopt_room w i S _ _ _ _ _ _ b key hR hs hi2.1 hi2.2 hf hlen.1 hb).mono fun e w' q => ?_
      unfold St.ad at hok htt ⊢
      rw [if_pos e1] at hok htt ⊢
      exact RPost.ca q hok htt
    · have e1 : s.adB key = false := by simp [St.adB, hi, hf]
      have e2 : s.ad key = s := by unfold St.ad; rw [e1]; rfl
      rw [e1, e2]
      refine (adopt_full w i S _ _ _ _ _ _ b key hR hs hi (by omega)).mono fun e w' ⟨he, S', r, hW⟩ => ?_
      exact ⟨he, _, ⟨i, S', rfl, rfl, r.mono (by omega), hp, by omega⟩, hW⟩
theorem request_ca (hs : key.size ≤ maxLen) (hb : b ≤ 980) : Calls Try.prog 13 #[.pointer (some ⟨c, 0, none⟩), .string key] w (CaPost (s.step key) w c T (s.req key) (b + 1)) := by
  obtain ⟨i, S, rfl, rfl, hR, hp, ht⟩ := h
  have htt := Nat.le_trans (req_tot hp key) (Nat.succ_le_succ ht)
  have hok := hp.req key
  have hnd := hp.nd
  unfold St.all at hnd
  have hle := hp.le
  have htot := ht
  unfold St.tot at htot
  by_cases hm : s.mo = 0
  · have hA : s.A = [] := List.eq_nil_of_length_eq_zero (by omega)
    have hN : s.N = [] := List.eq_nil_of_length_eq_zero (by omega)
    have e2 : s.req key = s := by unfold St.req; rw [if_pos hm]
    have e1 : s.step key = .agg #[.bool false, .string ⟨#[]⟩, .bool false] := by
      unfold St.step St.vic St.out St.hit
      rw [hA, hN]; simp [hm, inn]
    rw [e1, e2]
    refine (req_zero w i S _ _ _ _ _ _ b key hR hs hm (by rw [hN]; rfl) (by rw [hA]; rfl)).mono fun e w' ⟨he, S', r, hW⟩ => ?_
    exact ⟨he, _, ⟨i, S', rfl, rfl, r.mono (by omega), hp, by omega⟩, hW⟩
  cases hA : inn s.A key with
  | true =>
    have hN : inn s.N key = false := by
      rw [inn_no]; intro h2
      exact (List.nodup_append.1 (List.nodup_append.1 hnd).1).2.2 key (inn_iff.1 hA) key h2 rfl
    have e2 : s.req key = s.onA key := by unfold St.req; rw [if_neg hm, if_pos hA]
    have e1 : s.step key = .agg #[.bool true, .string ⟨#[]⟩, .bool false] := by
      unfold St.step St.vic St.out St.hit
      rw [hA, hN]; simp
    rw [e2] at hok htt
    rw [e1, e2]
    exact (req_A w i S _ _ _ _ _ _ b key hR hs hb hm hN hA (by omega)).mono fun e w' q => RPost.ca (s := s.onA key) q hok htt
  | false =>
  cases hN : inn s.N key with
  | true =>
    have e2 : s.req key = (s.onN key).prom key := by unfold St.req; rw [if_neg hm, if_neg (by rw [hA]; simp), if_pos hN]
    have e1 : s.step key = .agg #[.bool true, .string ⟨#[]⟩, .bool false] := by
      unfold St.step St.vic St.out St.hit
      rw [hA, hN]; simp
    rw [e2] at hok htt
    rw [e1, e2]
    cases hf : s.f key with
    | true =>
      refine (req_No w i S _ _ _ _ _ _ b key hR hs hb hm hN hA hf (List.nodup_append.1 hnd).1 (by omega)).mono fun e w' q => RPost.ca (s := (s.onN key).prom key) ?_ hok htt
      unfold St.prom St.onN
      simp only [hf, if_true]
      exact q
    | false =>
      refine (req_Nn w i S _ _ _ _ _ _ b key hR hs hb hm hN hA hf (List.nodup_append.1 hnd).1 (by omega)).mono fun e w' q => RPost.ca (s := (s.onN key).prom key) ?_ hok htt
      unfold St.prom St.onN
      simp only [hf]
      exact q
  | false =>
  have hh : s.hit key = false := by unfold St.hit; rw [hA, hN]; rfl
  have hst := step_miss hp hm hh (s.mo - 1) (by omega)
  cases hG : inn s.G key with
  | true =>
    have e2 : s.req key = ((s.onG key).cut (s.mo - 1)).prom key := by unfold St.req; rw [if_neg hm, if_neg (by rw [hA]; simp), if_neg (by rw [hN]; simp), if_pos hG]
    rw [e2] at hok htt
    rw [← hst, e2]
    cases hf : s.f key with
    | true =>
      refine (req_Go w i S _ _ _ _ _ _ b key hR hs hb (s.mo - 1) (by omega) hN hA hG hf hnd (by omega)).mono fun e w' q => RPost.ca (s := ((s.onG key).cut (s.mo - 1)).prom key) ?_ hok htt
      unfold St.prom St.cut St.onG
      simp only [hf, if_true]
      exact q
    | false =>
      refine (req_Gn w i S _ _ _ _ _ _ b key hR hs hb (s.mo - 1) (by omega) hN hA hG hf hnd (by omega)).mono fun e w' q => RPost.ca (s := ((s.onG key).cut (s.mo - 1)).prom key) ?_ hok htt
      unfold St.prom St.cut St.onG
      simp only [hf]
      exact q
  | false =>
    have e2 : s.req key = (s.cut (s.mo - 1)).fr key := by unfold St.req; rw [if_neg hm, if_neg (by rw [hA]; simp), if_neg (by rw [hN]; simp), if_neg (by rw [hG]; simp)]
    rw [e2] at hok htt
    rw [← hst, e2]
    exact (req_new w i S _ _ _ _ _ _ b key hR hs hb (s.mo - 1) (by omega) hN hA hG hnd (by omega)).mono fun e w' q => RPost.ca (s := (s.cut (s.mo - 1)).fr key) q hok htt
/-- What Resize leaves. -/
theorem resize_ca (z : Int) (hz : -9223372036854775808 ≤ z ∧ z ≤ 9223372036854775807) (hb : b ≤ 980) : Calls Try.prog 23 #[.pointer (some ⟨c, 0, none⟩), .int .i64 z] w
    (fun e w' => ∃ v T', e = .returned v ∧ Own w' w.heap.size v ((s.A ++ s.N).reverse.take (s.A.length + s.N.length - z.toNat)) ∧ Ca w' c T' (s.rs z.toNat) b ∧ Went w w' T T' ∧ ∀ g, v.ownBlock = some g → ¬ T' g) := by
  obtain ⟨i, S, rfl, rfl, hR, hp, ht⟩ := h
  have hnd := hp.nd
  unfold St.all at hnd
  have htot := ht
  unfold St.tot at htot
  refine (resizeY w i S _ _ _ _ _ _ b z z.toNat hR hz rfl hnd (by omega) hb).mono ?_
  rintro e w' ⟨v, S', he, hO, r, hW, hv⟩
  exact ⟨v, _, he, hO, ⟨i, S', rfl, rfl, r, hp.rs _, Nat.le_trans (rs_tot s _) ht⟩, hW, hv⟩
end
/-- A new cache in memory of its own. -/
def NewS (s : St) (w : World) (e : Ending) (w' : World) : Prop := ∃ c T, e = .returned (.pointer (some ⟨c, 0, none⟩)) ∧ Ca w' c T s 0 ∧ (∀ k, T k → w.heap.size ≤ k) ∧ Below w.heap.size w w'
theorem new_ca (w : World) (z : Int) (hz : -9223372036854775808 ≤ z ∧ z ≤ 9223372036854775807) : Calls Try.prog 10 #[.int .i64 z] w (NewS (St.start z.toNat) w) := by
  refine (new_any2 w z z.toNat hz rfl).mono ?_
  rintro e w' ⟨i, S, he, r, hS, hB⟩
  exact ⟨i.c, _, he, ⟨i, S, rfl, rfl, r, ok_start _, Nat.le_refl _⟩, hS, hB⟩

def RetB (b : Bool) (w : World) (e : Ending) (w' : World) : Prop := e = .returned (.bool b) ∧ Below w.heap.size w w'
/-- A cache that was made since w0; what was there then is as it was. -/
structure Live (w0 w : World) (c : Nat) (T : Nat → Prop) (s : St) (b : Nat) : Prop where
  ca : Ca w c T s b
  bel : Below w0.heap.size w0 w
  low : ∀ k, T k → w0.heap.size ≤ k
/-- A slice of keys beside a cache. -/
def Mine (w : World) (T : Nat → Prop) (v : Value) (xs : List ByteArray) : Prop := ∃ g, Row w g v xs ∧ ¬ T g
section
variable {w0 w w' : World} {c b b' : Nat} {T T' : Nat → Prop} {s s' : St} {xs : List ByteArray} {r v : Value} {e : Ending}
theorem Live.below (l : Live w0 w c T s b) (hb : Below w.heap.size w w') : Live w0 w' c T s b := ⟨l.ca.below hb, l.bel.trans (hb.mono l.bel.size), l.low⟩
theorem Live.made (hb0 : Below w0.heap.size w0 w) (hc : Ca w' c T s b) (hT : ∀ k, T k → w.heap.size ≤ k) (hb : Below w.heap.size w w') : Live w0 w' c T s b :=
  ⟨hc, hb0.trans (hb.mono hb0.size), fun k hk => Nat.le_trans hb0.size (hT k hk)⟩
theorem Live.went (l : Live w0 w c T s b) (hc : Ca w' c T' s' b') (hW : Went w w' T T') : Live w0 w' c T' s' b' := by
  have hsz := l.bel.size
  exact ⟨hc, l.bel.trans (hW.turn.below l.low hsz), fun k hk => by rcases hW.new k hk with h | h; exact l.low k h; omega⟩
theorem Live.op (l : Live w0 w c T s b) (hp : CaPost r w c T s' b' e w') : e = .returned r ∧ ∃ T', Live w0 w' c T' s' b' ∧ Went w w' T T' := by
  obtain ⟨he, T', h1, h2⟩ := hp
  exact ⟨he, T', l.went h1 h2, h2⟩
theorem Live.lt (l : Live w0 w c T s b) : ∀ k, T k → k < w.heap.size := fun _ hk => l.ca.lt hk
theorem Row.lt {g : Nat} (h : Row w g v xs) (hx : xs ≠ []) : g < w.heap.size := by
  rcases h.2.2 with ⟨h, _⟩ | ⟨o, c, e, h1, _⟩
  · exact absurd h hx
  · exact h1
theorem Mine.made (o : Own w' w.heap.size v xs) (hc : Ca w c T s b) : Mine w' T v xs := by
  obtain ⟨g, hg, hr⟩ := o.row
  exact ⟨g, hr, fun hk => by have := hc.lt hk; omega⟩
theorem Mine.below (m : Mine w T v xs) (hb : Below w.heap.size w w') : Mine w' T v xs := by
  obtain ⟨g, hr, hn⟩ := m
  exact ⟨g, hr.below hb, hn⟩
theorem Mine.went (m : Mine w T v xs) (ht : Went w w' T T') (hl : ∀ k, T' k → k < w'.heap.size) : Mine w' T' v xs := by
  obtain ⟨g, hr, hn⟩ := m
  by_cases hx : xs = []
  · subst hx
    obtain ⟨A, cc, rfl⟩ := hr.shape
    exact ⟨w'.heap.size, Row.nil _ _ _ _, fun hk => by have := hl _ hk; omega⟩
  · have hlt := hr.lt hx
    exact ⟨g, hr.same ht.turn.size (fun _ => ht.turn.block g hlt hn), (went_out ht hlt hn).2⟩
theorem Mine.shape (m : Mine w T v xs) : ∃ A c, v = .slice A xs.length c := by
  obtain ⟨g, r, _⟩ := m
  exact r.shape
end

/-- Steps, each in a variable of its own beside a cache. -/
def Boxes (w : World) (S : Nat → Prop) (L : List (Nat × Bool × ByteArray × Bool)) : Prop := ∀ q ∈ L, Box w q.1 q.2.1 q.2.2.1 q.2.2.2 ∧ ¬ S q.1
theorem Boxes.went {w w' : World} {S S' : Nat → Prop} {L : List (Nat × Bool × ByteArray × Bool)} (h : Boxes w S L) (ht : Went w w' S S') : Boxes w' S' L := by
  intro q hq
  obtain ⟨h1, h2⟩ := h q hq
  refine ⟨(ht.turn.block _ h1.lt h2).trans h1, fun hk => ?_⟩
  rcases ht.new _ hk with h | h
  · exact h2 h
  · have := h1.lt; omega

section
variable (w : World) (a b a' b' : Bool) (s t : ByteArray)
theorem eq34 : (binOp .eql 34 (.agg #[.bool a, .string s, .bool b]) (.agg #[.bool a, .string s, .bool b])).run Try.prog w = .ok (.bool true) w := by
  have u1 := Try.underlying4
  have u3 := Try.underlying9
  have a1 := Try.isAgg4
  have a3 := Try.isAgg9
  have z1 := Try.sizeOf4
  have z3 := Try.sizeOf9
  have hS : Try.prog.underlying 34 = some (.struct (Try.prog.fieldsOf 34)) := by kernel_rfl
  have hp : Try.prog.stoodInHeld 34 = false := by kernel_rfl
  rw [run_eql_struct, show (10000 : Nat) = 9999 + 1 from rfl, run_equalIn_agg w 9999 34 _ _ hS hp]
  simp only [Program.fieldsOf, Try.underlying34]
  go_simp
theorem neq34 : (binOp .neq 34 (.agg #[.bool a, .string s, .bool b]) (.agg #[.bool a, .string s, .bool b])).run Try.prog w = .ok (.bool false) w := by
  have u1 := Try.underlying4
  have u3 := Try.underlying9
  have a1 := Try.isAgg4
  have a3 := Try.isAgg9
  have z1 := Try.sizeOf4
  have z3 := Try.sizeOf9
  have hS : Try.prog.underlying 34 = some (.struct (Try.prog.fieldsOf 34)) := by kernel_rfl
  have hp : Try.prog.stoodInHeld 34 = false := by kernel_rfl
  rw [run_neq_struct, show (10000 : Nat) = 9999 + 1 from rfl, run_equalIn_agg w 9999 34 _ _ hS hp]
  simp only [Program.fieldsOf, Try.underlying34]
  go_simp
theorem guard34 (op : BinOp) (x y : Operand) (xs ys : Array Value) : (eqGuard op 34 x y (.agg xs) (.agg ys)).run Try.prog w = .ok () w :=
  run_eqGuard_agg w op 34 x y xs ys (by kernel_rfl)
end
end Go.Proofs.Ytmnflcidcoejiaa
