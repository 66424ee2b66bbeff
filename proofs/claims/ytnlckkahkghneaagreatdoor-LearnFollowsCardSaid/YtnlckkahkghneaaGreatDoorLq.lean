/- A learner with a tape of its own, and its calls: for the laws. -/
import Derived.Test.YtnlckkahkghneaaGreatDoorLm
import Derived.Test.YtnlckkahkghneaaGreatDoorLo
set_option maxRecDepth 20000
namespace Go.Proofs.YtnlckkahkghneaaGreatDoor.LE
open Go.RowKit Go.Maps Go.WideMaps Sg

theorem TPost.mono {w w' : World} {i : Ix} {S : Sx} {B E : Nat} {L : List (List Nat)} {lane : Int} {s : St} {b b' : Nat} {v : Value} {e : Ending} (h : TPost v w i S B E L lane s b e w') (hb : b ≤ b') : TPost v w i S B E L lane s b' e w' := by
  obtain ⟨he, S', L', h1, h2, h3⟩ := h
  exact ⟨he, S', L', h1.mono hb, h2, h3⟩
theorem zero_keys {s : St} (h : Ok s) (hm : s.mo = 0) : s.keys = [] := by
  have := h.le
  exact List.eq_nil_of_length_eq_zero (by show s.A.keys.length = 0; omega)
/-- Request, whatever is there. -/
theorem request_t (w : World) (i : Ix) (S : Sx) (B E : Nat) (L : List (List Nat)) (lane : Int) (s : St) (b : Nat) (h : LT w i S B E L lane s b) (key : ByteArray) (hs : key.size ≤ maxLen) (hb : b ≤ 880) :
    Calls Tryz.prog 18 #[.pointer (some ⟨i.l, 0, none⟩), .string key] w (TPost (s.step key) w i S B E L lane (s.req key) (b + 4)) := by
  by_cases hm : s.mo = 0
  · have hk : s.has key = false := inn_no.2 (by rw [show s.A.keys = [] from zero_keys h.ok hm]; simp)
    have e1 : s.outB key = false := by unfold St.outB; rw [hm]; simp
    have e2 : s.step key = .agg #[.bool false, .string ⟨#[]⟩, .bool false] := by unfold St.step St.vicV; rw [e1, hk, if_neg (by simp)]
    have e3 : s.req key = s.tick := by unfold St.req; rw [if_pos hm]
    rw [e2, e3]
    exact (request_zero w i S B E L lane s b h key hm hb).mono fun e w' hp => hp.mono (by omega)
  · cases hk : s.has key with
    | true =>
      have e1 : s.outB key = false := by unfold St.outB; rw [hk]; rfl
      have e2 : s.step key = .agg #[.bool true, .string ⟨#[]⟩, .bool false] := by unfold St.step St.vicV; rw [e1, hk, if_neg (by simp)]
      rw [e2, req_hit hm hk]
      exact request_hit w i S B E L lane s b h key hs hk hm hb
    | false =>
      have e1 : s.outB key = s.tick.full := by unfold St.outB; rw [hk, decide_eq_true hm]; rfl
      have e2 : s.step key = .agg #[.bool false, .string (fV s.tick key), .bool s.tick.full] := by unfold St.step St.vicV; rw [e1, hk]; rfl
      rw [e2, req_miss hm hk]
      exact request_miss w i S B E L lane s b h key hs hk hm hb

/-- A learner whose blocks are T, its tape's among them. -/
def LC (w : World) (l : Nat) (T : Nat → Prop) (s : St) (b : Nat) : Prop := ∃ i S B E L, i.l = l ∧ T = tblk i S B E ∧ LT w i S B E L 0 s b
def LCP (v : Value) (w : World) (l : Nat) (T : Nat → Prop) (s : St) (b : Nat) (e : Ending) (w' : World) : Prop := e = .returned v ∧ ∃ T', LC w' l T' s b ∧ Went w w' T T'
section
variable {w w' : World} {l b b' : Nat} {T T' : Nat → Prop} {s s' : St} {v : Value} {e : Ending}
theorem LC.lt (h : LC w l T s b) {k : Nat} (hk : T k) : k < w.heap.size := by
  obtain ⟨i, S, B, E, L, rfl, rfl, h⟩ := h
  exact h.lt hk
theorem LC.below (h : LC w l T s b) (hb : Below w.heap.size w w') : LC w' l T s b := by
  obtain ⟨i, S, B, E, L, rfl, rfl, h⟩ := h
  exact ⟨i, S, B, E, L, rfl, rfl, h.below hb⟩
theorem LC.beside (h : LC w l T s b) {X : Nat → Prop} (ht : Turn X w w') (hx : ∀ k, T k → ¬ X k) : LC w' l T s b := by
  obtain ⟨i, S, B, E, L, rfl, rfl, h⟩ := h
  exact ⟨i, S, B, E, L, rfl, rfl, h.beside ht hx⟩
theorem LC.mono (h : LC w l T s b) (hb : b ≤ b') : LC w l T s b' := by
  obtain ⟨i, S, B, E, L, rfl, rfl, h⟩ := h
  exact ⟨i, S, B, E, L, rfl, rfl, h.mono hb⟩
theorem LC.ok (h : LC w l T s b) : Ok s := by
  obtain ⟨i, S, B, E, L, rfl, rfl, h⟩ := h
  exact h.ok
theorem LC.vs (h : LC w l T s b) : ∀ x ∈ s.vs, x ≤ 18446744073709551615 := by
  obtain ⟨i, S, B, E, L, rfl, rfl, h⟩ := h
  intro x hx
  rw [← h.vs] at hx
  obtain ⟨_, _, _, vs, h4, _, _, h7⟩ := h.tp
  rw [show (0 : Int) = ((0 : Nat) : Int) from rfl, DR.lget_nat] at hx
  by_cases h0 : 0 < L.length
  · exact (h7 0 h0).2.1 x hx
  · have : L = [] := List.eq_nil_of_length_eq_zero (by omega)
    rw [this] at hx
    cases hx
theorem LC.small (h : LC w l T s b) : ∀ x ∈ s.keys, x.size ≤ maxLen := by
  obtain ⟨i, S, B, E, L, rfl, rfl, h⟩ := h
  exact h.raw.pa.small
theorem LC.smallG (h : LC w l T s b) : ∀ x ∈ s.ghosts, x.size ≤ maxLen := by
  obtain ⟨i, S, B, E, L, rfl, rfl, h⟩ := h
  intro x hx
  rcases List.mem_append.1 hx with hx | hx
  · exact h.raw.ra.small x hx
  · exact h.raw.rb.small x hx
theorem LC.len (h : LC w l T s b) : (gk s.HA).length ≤ 999 ∧ (gk s.HB).length ≤ 999 := by
  obtain ⟨i, S, B, E, L, rfl, rfl, h⟩ := h
  exact ⟨h.raw.ra.len.2, h.raw.rb.len.2⟩
theorem TPost.lc {i : Ix} {S : Sx} {B E : Nat} {L : List (List Nat)} (h : TPost v w i S B E L 0 s b e w') : LCP v w i.l (tblk i S B E) s b e w' := by
  obtain ⟨he, S', L', h1, _, h3⟩ := h
  exact ⟨he, _, ⟨i, S', B, E, L', rfl, rfl, h1⟩, h3⟩
end
section
variable (w : World) (l : Nat) (T : Nat → Prop) (s : St) (b : Nat) (h : LC w l T s b)
include h
theorem kind_l : Calls Tryz.prog 43 #[.pointer (some ⟨l, 0, none⟩)] w (Told (.int .i64 ((if s.six then 6 else 5 : Nat) : Int)) w) := by
  obtain ⟨i, S, B, E, L, rfl, rfl, h⟩ := h
  exact kind_t w i S B E L 0 s b h
theorem most_l : Calls Tryz.prog 38 #[.pointer (some ⟨l, 0, none⟩)] w (Told (.int .i64 (s.mo : Int)) w) := by
  obtain ⟨i, S, B, E, L, rfl, rfl, h⟩ := h
  exact most_t w i S B E L 0 s b h
theorem weight_l : Calls Tryz.prog 39 #[.pointer (some ⟨l, 0, none⟩)] w (Told (.int .u64 (s.w : Int)) w) := by
  obtain ⟨i, S, B, E, L, rfl, rfl, h⟩ := h
  exact weight_t w i S B E L 0 s b h
theorem rate_l : Calls Tryz.prog 40 #[.pointer (some ⟨l, 0, none⟩)] w (Told (.int .u64 (s.rate : Int)) w) := by
  obtain ⟨i, S, B, E, L, rfl, rfl, h⟩ := h
  exact rate_t w i S B E L 0 s b h
theorem has_l (key : ByteArray) (hs : key.size ≤ maxLen) : Calls Tryz.prog 34 #[.pointer (some ⟨l, 0, none⟩), .string key] w (Told (.bool (s.has key)) w) := by
  obtain ⟨i, S, B, E, L, rfl, rfl, h⟩ := h
  exact has_t w i S B E L 0 s b h key hs
theorem len_l : Calls Tryz.prog 33 #[.pointer (some ⟨l, 0, none⟩)] w (Told (.int .i64 (s.keys.length : Int)) w) := by
  obtain ⟨i, S, B, E, L, rfl, rfl, h⟩ := h
  exact len_t w i S B E L 0 s b h
theorem keys_l : Calls Tryz.prog 32 #[.pointer (some ⟨l, 0, none⟩)] w (RowPost s.keys w) := by
  obtain ⟨i, S, B, E, L, rfl, rfl, h⟩ := h
  exact keys_t w i S B E L 0 s b h
theorem ghosts_l : Calls Tryz.prog 36 #[.pointer (some ⟨l, 0, none⟩)] w (RowPost s.ghosts w) := by
  obtain ⟨i, S, B, E, L, rfl, rfl, h⟩ := h
  exact ghosts_t w i S B E L 0 s b h
theorem victim_l : Calls Tryz.prog 29 #[.pointer (some ⟨l, 0, none⟩)] w (Told (.tuple #[.string s.vic, .bool s.any]) w) := by
  obtain ⟨i, S, B, E, L, rfl, rfl, h⟩ := h
  exact victim_t w i S B E L 0 s b h
theorem request_l (key : ByteArray) (hs : key.size ≤ maxLen) (hb : b ≤ 880) : Calls Tryz.prog 18 #[.pointer (some ⟨l, 0, none⟩), .string key] w (LCP (s.step key) w l T (s.req key) (b + 4)) := by
  obtain ⟨i, S, B, E, L, rfl, rfl, h⟩ := h
  exact (request_t w i S B E L 0 s b h key hs hb).mono fun e w' hp => hp.lc
end
/-- A new one in memory of its own. -/
def LNew (six : Bool) (mo : Nat) (vs : List Nat) (w : World) (e : Ending) (w' : World) : Prop := ∃ l T, e = .returned (.pointer (some ⟨l, 0, none⟩)) ∧ LC w' l T (St.start six mo vs) 0 ∧ (∀ k, T k → w.heap.size ≤ k) ∧ Below w.heap.size w w'
theorem made_l (w : World) (six : Bool) (mo : Nat) (v : Value) (vs : List Nat) (hm : mo ≤ 16777216) (hv : DR.Lane w 0 w.heap.size v vs) :
    Calls Tryz.prog 41 #[.int .i64 ((if six then 6 else 5 : Nat) : Int), .int .i64 (mo : Int), v] w (LNew six mo vs w) := by
  obtain ⟨A, c, rfl⟩ := hv.shape
  have N1 := Lib.hid (DR.newE_any _ _ _ (DR.one_lanes w _ vs hv))
  have b1 := (Below.refl w.heap.size w).alloc (Nat.le_refl _) (.cells #[.slice A vs.length c] 22)
  have B1 := Lib.hid b1
  have NW := Lib.hid (fun (w2 : World) (B E : Nat) (hT : DR.Tape w2 B E [vs]) => show Calls Tryz.prog 13 #[.int .i64 ((if six then 6 else 5 : Nat) : Int), .int .i64 (mo : Int), .pointer (some ⟨B + 1, 0, none⟩), .int .i64 0] w2 (NewT six mo B E [vs] 0 w2) from by
    cases six with
    | true => exact new_six w2 mo B E [vs] 0 hm hT
    | false => exact new_five w2 mo B E [vs] 0 hm hT)
  generalize ((if six then 6 else 5 : Nat) : Int) = kd at *
  clear hv b1
  go_enter Tryz.func41, Tryz.ntmps41
  go_wp2_with fail
  refine N1.out.mono ?_
  rintro e w2 ⟨B, rfl, hT, hB0, hB⟩
  have T2 := Lib.hid (And.intro hT (And.intro hB0 (B1.out.trans (hB.mono B1.out.size))))
  clear hT hB0 hB N1 B1
  go_wp2_with fail
  refine (NW.out w2 B w2.heap.size T2.out.1).mono ?_
  rintro e w3 ⟨i, S, rfl, h, hl, hB⟩
  have P := Lib.hid (And.intro h (And.intro hl hB))
  clear h hl hB NW
  go_wp2_with fail
  go_ret
  obtain ⟨h, hl, hB⟩ := P.out
  obtain ⟨hT, hB0, hb2⟩ := T2.out
  have hsz : w.heap.size ≤ w2.heap.size := hb2.size
  refine ⟨i.l, _, rfl, ⟨i, S, B, w2.heap.size, [vs], rfl, rfl, h⟩, fun k hk => ?_, hb2.trans (hB.mono hsz)⟩
  rcases hk with hk | hk
  · exact Nat.le_trans hsz (hl k hk)
  · have : (w.alloc (.cells #[.slice A vs.length c] 22)).heap.size = w.heap.size + 1 := by simp
    omega

/-- A learner that was made since w0; what was there then is as it was. -/
structure LL (w0 w : World) (l : Nat) (T : Nat → Prop) (s : St) (b : Nat) : Prop where
  ca : LC w l T s b
  bel : Below w0.heap.size w0 w
  low : ∀ k, T k → w0.heap.size ≤ k
section
variable {w0 w w' : World} {l b b' : Nat} {T T' : Nat → Prop} {s s' : St} {xs : List ByteArray} {r v : Value} {e : Ending}
theorem LL.below (q : LL w0 w l T s b) (hb : Below w.heap.size w w') : LL w0 w' l T s b := ⟨q.ca.below hb, q.bel.trans (hb.mono q.bel.size), q.low⟩
theorem LL.made (hb0 : Below w0.heap.size w0 w) (hc : LC w' l T s b) (hT : ∀ k, T k → w.heap.size ≤ k) (hb : Below w.heap.size w w') : LL w0 w' l T s b :=
  ⟨hc, hb0.trans (hb.mono hb0.size), fun k hk => Nat.le_trans hb0.size (hT k hk)⟩
theorem LL.went (q : LL w0 w l T s b) (hc : LC w' l T' s' b') (hW : Went w w' T T') : LL w0 w' l T' s' b' := by
  have hsz := q.bel.size
  exact ⟨hc, q.bel.trans (hW.turn.below q.low hsz), fun k hk => by rcases hW.new k hk with h | h; exact q.low k h; omega⟩
theorem LL.op (q : LL w0 w l T s b) (hp : LCP r w l T s' b' e w') : e = .returned r ∧ ∃ T', LL w0 w' l T' s' b' ∧ Went w w' T T' := by
  obtain ⟨he, T', h1, h2⟩ := hp
  exact ⟨he, T', q.went h1 h2, h2⟩
theorem LL.lt (q : LL w0 w l T s b) : ∀ k, T k → k < w.heap.size := fun _ hk => q.ca.lt hk
theorem LL.mine (o : Own w' w.heap.size v xs) (hc : LC w l T s b) : PMine w' T v xs := by
  obtain ⟨g, hg, hr⟩ := o.row
  exact ⟨g, hr, fun hk => by have := hc.lt hk; omega⟩
end
end Go.Proofs.YtnlckkahkghneaaGreatDoor.LE
