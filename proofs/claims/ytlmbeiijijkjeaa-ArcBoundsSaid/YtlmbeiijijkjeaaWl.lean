/- A cache whose blocks are T, and its calls; a cache of a walk's own, beside what was there; steps held against each other. -/
import Derived.Test.YtlmbeiijijkjeaaWk
import Derived.Laws.StructEq
namespace Go.Proofs.Ytlmbeiijijkjeaa
open Go.RowKit Sg

def Ca (w : World) (c : Nat) (T : Nat → Prop) (s : St) (b : Nat) : Prop := ∃ i S, i.c = c ∧ T = blk i S ∧ Raw w i S s.mo s.p s.R b ∧ Ok s ∧ totR s.R ≤ b
def CaPost (v : Value) (w : World) (c : Nat) (T : Nat → Prop) (s : St) (b : Nat) (e : Ending) (w' : World) : Prop := e = .returned v ∧ ∃ T', Ca w' c T' s b ∧ Went w w' T T'
section
variable {w w' : World} {i : Ix} {S : Sx} {c b b' : Nat} {T : Nat → Prop} {s : St} {v : Value} {e : Ending} {k : ByteArray}
theorem RPost.ca (h : RPost v w i S s.mo s.p s.R b e w') (p : Ok s) (ht : totR s.R ≤ b) : CaPost v w i.c (blk i S) s b e w' := by
  obtain ⟨he, S', hR, hW⟩ := h
  exact ⟨he, blk i S', ⟨i, S', rfl, rfl, hR, p, ht⟩, hW⟩
theorem Ca.lt (h : Ca w c T s b) {k : Nat} (hk : T k) : k < w.heap.size := by
  obtain ⟨i, S, rfl, rfl, hR, _⟩ := h
  exact hR.lt hk
theorem Ca.below (h : Ca w c T s b) (hb : Below w.heap.size w w') : Ca w' c T s b := by
  obtain ⟨i, S, rfl, rfl, hR, hp⟩ := h
  exact ⟨i, S, rfl, rfl, hR.below hb, hp⟩
theorem Ca.ok (h : Ca w c T s b) : Ok s := by obtain ⟨i, S, rfl, rfl, hR, hp, _⟩ := h; exact hp
theorem Ca.tot (h : Ca w c T s b) : totR s.R ≤ b := by obtain ⟨i, S, rfl, rfl, hR, hp, ht⟩ := h; exact ht
theorem Ca.top (h : Ca w c T s b) : s.mo ≤ 9223372036854775807 := by obtain ⟨i, S, rfl, rfl, hR, hp, ht⟩ := h; exact hR.top.1
theorem Ca.small (h : Ca w c T s b) : ∀ k, k < 4 → ∀ x ∈ s.R k, x.size ≤ maxLen := by
  obtain ⟨i, S, rfl, rfl, hR, _⟩ := h
  exact fun k hk => (hR.ls k hk).small
theorem Ca.mono (h : Ca w c T s b) (hb : b ≤ b') : Ca w c T s b' := by
  obtain ⟨i, S, rfl, rfl, hR, hp, ht⟩ := h
  exact ⟨i, S, rfl, rfl, hR.mono hb, hp, by omega⟩
theorem Ca.beside (h : Ca w c T s b) {X : Nat → Prop} (ht : Turn X w w') (hx : ∀ k, T k → ¬ X k) : Ca w' c T s b := by
  obtain ⟨i, S, rfl, rfl, hR, hp⟩ := h
  exact ⟨i, S, rfl, rfl, hR.beside ht hx, hp⟩
end

section
variable (w : World) (c : Nat) (T : Nat → Prop) (s : St) (b : Nat) (key : ByteArray) (h : Ca w c T s b)
include h
theorem share_ca : Calls Try.prog 19 #[.pointer (some ⟨c, 0, none⟩)] w (IntPost (s.p : Int) w) := by
  obtain ⟨i, S, rfl, rfl, hR, hp⟩ := h
  exact shareW w i S _ _ _ b hR
theorem sizes_ca : Calls Try.prog 21 #[.pointer (some ⟨c, 0, none⟩)] w (Stl (.agg #[.int .i64 ((s.R 0).length : Int), .int .i64 ((s.R 1).length : Int), .int .i64 ((s.R 2).length : Int), .int .i64 ((s.R 3).length : Int)]) w) := by
  obtain ⟨i, S, rfl, rfl, hR, hp⟩ := h
  exact sizesW w i S _ _ _ b hR
theorem ghosts_ca : Calls Try.prog 17 #[.pointer (some ⟨c, 0, none⟩)] w (RowPost (s.R 2 ++ s.R 3) w) := by
  obtain ⟨i, S, rfl, rfl, hR, hp⟩ := h
  exact ghostsW w i S _ _ _ b hR
theorem has_ca (hs : key.size ≤ maxLen) : Calls Try.prog 11 #[.pointer (some ⟨c, 0, none⟩), .string key] w (BoolPost (hit s.R key) w) := by
  obtain ⟨i, S, rfl, rfl, hR, hp⟩ := h
  exact hasW w i S _ _ _ b hR key hs
theorem len_ca : Calls Try.prog 18 #[.pointer (some ⟨c, 0, none⟩)] w (Stl (.int .i64 (lenR s.R : Int)) w) := by
  obtain ⟨i, S, rfl, rfl, hR, hp⟩ := h
  exact lenW w i S _ _ _ b hR
theorem keys_ca : Calls Try.prog 16 #[.pointer (some ⟨c, 0, none⟩)] w (RowPost (s.R 1 ++ s.R 0).reverse w) := by
  obtain ⟨i, S, rfl, rfl, hR, hp⟩ := h
  exact keysW w i S _ _ _ b hR
theorem drop_ca : Calls Try.prog 14 #[.pointer (some ⟨c, 0, none⟩)] w (CaPost (.tuple #[.string (lastKey (s.R (lv s.R s.p false))), .bool (anyKey (s.R (lv s.R s.p false)))]) w c T s.dr b) := by
  obtain ⟨i, S, rfl, rfl, hR, hp, ht⟩ := h
  exact (dropW w i S _ _ _ b hR).mono fun e w' q => RPost.ca (s := s.dr) q hp.dr (Nat.le_trans (dr_tot s) ht)
theorem remove_ca (hs : key.size ≤ maxLen) : Calls Try.prog 12 #[.pointer (some ⟨c, 0, none⟩), .string key] w (CaPost (.bool (hit s.R key)) w c T (s.rm key) b) := by
  obtain ⟨i, S, rfl, rfl, hR, hp, ht⟩ := h
  exact (removeW w i S _ _ _ b hR key hs).mono fun e w' q => RPost.ca (s := s.rm key) q (hp.rm key) (Nat.le_trans (rm_tot s key) ht)
theorem adopt_ca (hs : key.size ≤ maxLen) (hb : b ≤ 980) : Calls Try.prog 13 #[.pointer (some ⟨c, 0, none⟩), .string key] w (CaPost (.bool (s.adB key)) w c T (s.ad key) (b + 1)) := by
  obtain ⟨i, S, rfl, rfl, hR, hp, ht⟩ := h
  have htt := Nat.le_trans (ad_tot s key) (Nat.succ_le_succ ht)
  have hok := hp.ad key
  cases hi : hit s.R key with
  | true =>
    have e1 : s.adB key = false := by simp [St.adB, hi]
    have e2 : s.ad key = s := by unfold St.ad; rw [e1]; rfl
    rw [e1, e2]
    refine (adopt_in w i S _ _ _ b key hR hs hi).mono fun e w' ⟨he, S', r, hW⟩ => ?_
    exact ⟨he, _, ⟨i, S', rfl, rfl, r.mono (by omega), hp, by omega⟩, hW⟩
  | false =>
    by_cases hf : lenR s.R < s.mo
    · have e1 : s.adB key = true := by simp [St.adB, hi, hf]
      rw [e1]
      refine (adopt_room w i S _ _ _ b key hR hs hi hf (by omega)).mono fun e w' q => ?_
      unfold St.ad at hok htt ⊢
      rw [if_pos e1] at hok htt ⊢
      exact RPost.ca q hok htt
    · have e1 : s.adB key = false := by simp [St.adB, hi, hf]
      have e2 : s.ad key = s := by unfold St.ad; rw [e1]; rfl
      rw [e1, e2]
      refine (adopt_full w i S _ _ _ b key hR hs hi (by unfold lenR at hf; omega)).mono fun e w' ⟨he, S', r, hW⟩ => ?_
      exact ⟨he, _, ⟨i, S', rfl, rfl, r.mono (by omega), hp, by omega⟩, hW⟩
theorem request_ca (hs : key.size ≤ maxLen) (hb : b ≤ 980) : Calls Try.prog 10 #[.pointer (some ⟨c, 0, none⟩), .string key] w (CaPost (s.step key) w c T (s.req key) (b + 1)) := by
  obtain ⟨i, S, rfl, rfl, hR, hp, ht⟩ := h
  have htt := Nat.le_trans (req_tot hp key) (Nat.succ_le_succ ht)
  have hok := hp.req key
  by_cases hm : s.mo = 0
  · obtain ⟨z0, z1⟩ := hp.zero hm
    have e2 : s.req key = s := by unfold St.req; rw [if_pos hm]
    have e1 : s.step key = .agg #[.bool false, .string ⟨#[]⟩, .bool false] := by
      unfold St.step St.vs
      rw [if_pos hm, hit_no.2 ⟨by rw [z0]; simp, by rw [z1]; simp⟩]; rfl
    rw [e1, e2]
    refine (req_zero w i S _ _ _ b key hR hm).mono fun e w' ⟨he, S', r, hW⟩ => ?_
    exact ⟨he, _, ⟨i, S', rfl, rfl, r.mono (by omega), hp, by omega⟩, hW⟩
  have hmm : s.mo = s.mo - 1 + 1 := by omega
  cases hh : hit s.R key with
  | true =>
    have e2 : s.req key = ⟨s.mo, s.p, putR s.R key 1⟩ := by unfold St.req; rw [if_neg hm, if_pos hh]
    have e1 : s.step key = .agg #[.bool true, .string (vicOf []), .bool (!([] : List ByteArray).isEmpty)] := by
      unfold St.step St.vs
      rw [if_neg hm, if_pos hh, hh]
    rw [e2] at hok htt
    rw [e1, e2]
    exact (req_hit w i S _ _ _ b key hR hs (s.mo - 1) hmm (by omega) hh).mono fun e w' q => RPost.ca (s := ⟨s.mo, s.p, putR s.R key 1⟩) q hok htt
  | false =>
  have nh : ¬ hit s.R key = true := by rw [hh]; simp
  cases h2 : inn (s.R 2) key with
  | true =>
    have e2 : s.req key = ⟨s.mo, rpU s.mo s.p s.R, putR (cutn (rpU s.mo s.p s.R) false s.R (lenR s.R - (s.mo - 1))) key 1⟩ := by unfold St.req; rw [if_neg hm, if_neg nh, if_pos h2]
    have e1 : s.step key = .agg #[.bool false, .string (vicOf (outs (rpU s.mo s.p s.R) false s.R (lenR s.R - (s.mo - 1)))), .bool (!(outs (rpU s.mo s.p s.R) false s.R (lenR s.R - (s.mo - 1))).isEmpty)] := by
      unfold St.step St.vs
      rw [if_neg hm, if_neg nh, if_pos h2, hh]
    rw [e2] at hok htt
    rw [e1, e2]
    exact (req_b1 w i S _ _ _ b key hR hs (s.mo - 1) hmm (by omega) hh h2 ht hp.pl).mono fun e w' q => RPost.ca (s := ⟨s.mo, _, _⟩) q hok htt
  | false =>
  have n2 : ¬ inn (s.R 2) key = true := by rw [h2]; simp
  cases h3 : inn (s.R 3) key with
  | true =>
    have e2 : s.req key = ⟨s.mo, lpU s.p s.R, putR (cutn (lpU s.p s.R) true s.R (lenR s.R - (s.mo - 1))) key 1⟩ := by unfold St.req; rw [if_neg hm, if_neg nh, if_neg n2, if_pos h3]
    have e1 : s.step key = .agg #[.bool false, .string (vicOf (outs (lpU s.p s.R) true s.R (lenR s.R - (s.mo - 1)))), .bool (!(outs (lpU s.p s.R) true s.R (lenR s.R - (s.mo - 1))).isEmpty)] := by
      unfold St.step St.vs
      rw [if_neg hm, if_neg nh, if_neg n2, if_pos h3, hh]
    rw [e2] at hok htt
    rw [e1, e2]
    exact (req_b2 w i S _ _ _ b key hR hs (s.mo - 1) hmm (by omega) hh h2 h3 ht hp.pl).mono fun e w' q => RPost.ca (s := ⟨s.mo, _, _⟩) q hok htt
  | false =>
    have n3 : ¬ inn (s.R 3) key = true := by rw [h3]; simp
    have e2 : s.req key = ⟨s.mo, s.p, putR (cutn s.p false (plR s.mo s.R) (lenR (plR s.mo s.R) - (s.mo - 1))) key 0⟩ := by unfold St.req; rw [if_neg hm, if_neg nh, if_neg n2, if_neg n3]
    have e1 : s.step key = .agg #[.bool false, .string (vicOf (plV s.mo s.R ++ outs s.p false (plR s.mo s.R) (lenR (plR s.mo s.R) - (s.mo - 1)))), .bool (!(plV s.mo s.R ++ outs s.p false (plR s.mo s.R) (lenR (plR s.mo s.R) - (s.mo - 1))).isEmpty)] := by
      unfold St.step St.vs
      rw [if_neg hm, if_neg nh, if_neg n2, if_neg n3, hh]
    rw [e2] at hok htt
    rw [e1, e2]
    exact (req_new w i S _ _ _ b key hR hs (s.mo - 1) hmm (by omega) hh h2 h3 ht).mono fun e w' q => RPost.ca (s := ⟨s.mo, _, _⟩) q hok htt
/-- What Resize leaves. -/
theorem resize_ca (z : Int) (hz : -9223372036854775808 ≤ z ∧ z ≤ 9223372036854775807) (hb : b ≤ 980) : Calls Try.prog 15 #[.pointer (some ⟨c, 0, none⟩), .int .i64 z] w
    (fun e w' => ∃ v T', e = .returned v ∧ Own w' w.heap.size v (outs (min s.p z.toNat) false s.R (lenR s.R - z.toNat)) ∧ Ca w' c T' (s.rs z.toNat) b ∧ Went w w' T T' ∧ ∀ g, v.ownBlock = some g → ¬ T' g) := by
  obtain ⟨i, S, rfl, rfl, hR, hp, ht⟩ := h
  refine (resizeW w i S _ _ _ b z z.toNat hR hz rfl ht hb).mono ?_
  rintro e w' ⟨v, S', he, hO, r, hW, hv⟩
  exact ⟨v, _, he, hO, ⟨i, S', rfl, rfl, r, hp.rs _, Nat.le_trans (rs_tot hp _) ht⟩, hW, hv⟩
end
/-- A new cache in memory of its own. -/
def NewS (s : St) (w : World) (e : Ending) (w' : World) : Prop := ∃ c T, e = .returned (.pointer (some ⟨c, 0, none⟩)) ∧ Ca w' c T s 0 ∧ (∀ k, T k → w.heap.size ≤ k) ∧ Below w.heap.size w w'
theorem new_ca (w : World) (z : Int) (hz : -9223372036854775808 ≤ z ∧ z ≤ 9223372036854775807) : Calls Try.prog 9 #[.int .i64 z] w (NewS (St.start z.toNat) w) := by
  refine (newW w z z.toNat hz rfl).mono ?_
  rintro e w' ⟨i, S, he, r, hS, hB⟩
  exact ⟨i.c, _, he, ⟨i, S, rfl, rfl, r, ok_start _, Nat.le_refl _⟩, hS, hB⟩

def RetB (b : Bool) (w : World) (e : Ending) (w' : World) : Prop := e = .returned (.bool b) ∧ Below w.heap.size w w'
/-- A cache that was made since w0; what was there then is as it was. -/
structure Live (w0 w : World) (c : Nat) (T : Nat → Prop) (s : St) (b : Nat) : Prop where
  ca : Ca w c T s b
  bel : Below w0.heap.size w0 w
  low : ∀ k, T k → w0.heap.size ≤ k
/-- A slice of keys beside a cache. -/
def Mine (w : World) (T : Nat → Prop) (v : Value) (xs : List ByteArray) : Prop := ∃ g, Row w g v xs ∧ ¬ T g
section
variable {w0 w w' : World} {c b b' : Nat} {T T' : Nat → Prop} {s s' : St} {xs : List ByteArray} {r v : Value} {e : Ending}
theorem Live.below (l : Live w0 w c T s b) (hb : Below w.heap.size w w') : Live w0 w' c T s b := ⟨l.ca.below hb, l.bel.trans (hb.mono l.bel.size), l.low⟩
theorem Live.made (hb0 : Below w0.heap.size w0 w) (hc : Ca w' c T s b) (hT : ∀ k, T k → w.heap.size ≤ k) (hb : Below w.heap.size w w') : Live w0 w' c T s b :=
  ⟨hc, hb0.trans (hb.mono hb0.size), fun k hk => Nat.le_trans hb0.size (hT k hk)⟩
theorem Live.went (l : Live w0 w c T s b) (hc : Ca w' c T' s' b') (hW : Went w w' T T') : Live w0 w' c T' s' b' := by
  have hsz := l.bel.size
  exact ⟨hc, l.bel.trans (hW.turn.below l.low hsz), fun k hk => by rcases hW.new k hk with h | h; exact l.low k h; omega⟩
theorem Live.op (l : Live w0 w c T s b) (hp : CaPost r w c T s' b' e w') : e = .returned r ∧ ∃ T', Live w0 w' c T' s' b' ∧ Went w w' T T' := by
  obtain ⟨he, T', h1, h2⟩ := hp
  exact ⟨he, T', l.went h1 h2, h2⟩
theorem Live.lt (l : Live w0 w c T s b) : ∀ k, T k → k < w.heap.size := fun _ hk => l.ca.lt hk
theorem Row.lt {g : Nat} (h : Row w g v xs) (hx : xs ≠ []) : g < w.heap.size := by
  rcases h.2.2 with ⟨h, _⟩ | ⟨o, c, e, h1, _⟩
  · exact absurd h hx
  · exact h1
theorem Mine.made (o : Own w' w.heap.size v xs) (hc : Ca w c T s b) : Mine w' T v xs := by
  obtain ⟨g, hg, hr⟩ := o.row
  exact ⟨g, hr, fun hk => by have := hc.lt hk; omega⟩
theorem Mine.below (m : Mine w T v xs) (hb : Below w.heap.size w w') : Mine w' T v xs := by
  obtain ⟨g, hr, hn⟩ := m
  exact ⟨g, hr.below hb, hn⟩
theorem Mine.went (m : Mine w T v xs) (ht : Went w w' T T') (hl : ∀ k, T' k → k < w'.heap.size) : Mine w' T' v xs := by
  obtain ⟨g, hr, hn⟩ := m
  by_cases hx : xs = []
  · subst hx
    obtain ⟨A, cc, rfl⟩ := hr.shape
    exact ⟨w'.heap.size, Row.nil _ _ _ _, fun hk => by have := hl _ hk; omega⟩
  · have hlt := hr.lt hx
    exact ⟨g, hr.same ht.turn.size (fun _ => ht.turn.block g hlt hn), (went_out ht hlt hn).2⟩
theorem Mine.shape (m : Mine w T v xs) : ∃ A c, v = .slice A xs.length c := by
  obtain ⟨g, r, _⟩ := m
  exact r.shape
end

/-- Steps, each in a variable of its own beside a cache. -/
def Boxes (w : World) (S : Nat → Prop) (L : List (Nat × Bool × ByteArray × Bool)) : Prop := ∀ q ∈ L, Box w q.1 q.2.1 q.2.2.1 q.2.2.2 ∧ ¬ S q.1
theorem Boxes.went {w w' : World} {S S' : Nat → Prop} {L : List (Nat × Bool × ByteArray × Bool)} (h : Boxes w S L) (ht : Went w w' S S') : Boxes w' S' L := by
  intro q hq
  obtain ⟨h1, h2⟩ := h q hq
  refine ⟨(ht.turn.block _ h1.lt h2).trans h1, fun hk => ?_⟩
  rcases ht.new _ hk with h | h
  · exact h2 h
  · have := h1.lt; omega

section
variable (w : World) (a b a' b' : Bool) (s t : ByteArray)
theorem eq34 : (binOp .eql 30 (.agg #[.bool a, .string s, .bool b]) (.agg #[.bool a, .string s, .bool b])).run Try.prog w = .ok (.bool true) w := by
  have u1 := Try.underlying4
  have u3 := Try.underlying9
  have a1 := Try.isAgg4
  have a3 := Try.isAgg9
  have z1 := Try.sizeOf4
  have z3 := Try.sizeOf9
  have hS : Try.prog.underlying 30 = some (.struct (Try.prog.fieldsOf 30)) := by kernel_rfl
  have hp : Try.prog.stoodInHeld 30 = false := by kernel_rfl
  rw [run_eql_struct, show (10000 : Nat) = 9999 + 1 from rfl, run_equalIn_agg w 9999 30 _ _ hS hp]
  simp only [Program.fieldsOf, Try.underlying30]
  go_simp
theorem neq34 : (binOp .neq 30 (.agg #[.bool a, .string s, .bool b]) (.agg #[.bool a, .string s, .bool b])).run Try.prog w = .ok (.bool false) w := by
  have u1 := Try.underlying4
  have u3 := Try.underlying9
  have a1 := Try.isAgg4
  have a3 := Try.isAgg9
  have z1 := Try.sizeOf4
  have z3 := Try.sizeOf9
  have hS : Try.prog.underlying 30 = some (.struct (Try.prog.fieldsOf 30)) := by kernel_rfl
  have hp : Try.prog.stoodInHeld 30 = false := by kernel_rfl
  rw [run_neq_struct, show (10000 : Nat) = 9999 + 1 from rfl, run_equalIn_agg w 9999 30 _ _ hS hp]
  simp only [Program.fieldsOf, Try.underlying30]
  go_simp
theorem guard34 (op : BinOp) (x y : Operand) (xs ys : Array Value) : (eqGuard op 30 x y (.agg xs) (.agg ys)).run Try.prog w = .ok () w :=
  run_eqGuard_agg w op 30 x y xs ys (by kernel_rfl)
end
end Go.Proofs.Ytlmbeiijijkjeaa
