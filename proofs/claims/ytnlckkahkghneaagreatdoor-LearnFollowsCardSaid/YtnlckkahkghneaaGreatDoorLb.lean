/- A learner by its state: its struct and parts, and its tape beside it. -/
import Derived.Test.YtnlckkahkghneaaGreatDoorLa
set_option maxRecDepth 20000
namespace Go.Proofs.YtnlckkahkghneaaGreatDoor.LE
open Go.RowKit Go.Maps Go.WideMaps Sg

/-- When a ghost of either row went. -/
def fOf (H G : List (ByteArray × Nat)) (k : ByteArray) : Option Nat :=
  match look H k with
  | some t => some t
  | none => look G k
def flOf (s : St) (B : Nat) (lane : Int) : Fl := ⟨if s.six then 6 else 5, s.mo, s.clock, s.w, s.rate, s.asked, if s.six = true then s.hits else 0, s.last, decide (s.ends ≠ 0), s.down, s.still, B, lane⟩
def pOf (s : St) : Nat → Part := pts s.A s.B (gk s.HA) (gk s.HB) (fOf s.HA s.HB)
/-- How great its numbers may be. -/
structure Lim (s : St) (b : Nat) : Prop where
  mo : s.mo ≤ 16777216
  clock : s.clock ≤ b
  asked : s.asked ≤ b
  hits : s.hits ≤ b
  last : s.last ≤ b
  still : s.still ≤ 9
theorem Lim.mono {s : St} {b b' : Nat} (h : Lim s b) (hb : b ≤ b') : Lim s b' := ⟨h.mo, Nat.le_trans h.clock hb, Nat.le_trans h.asked hb, Nat.le_trans h.hits hb, Nat.le_trans h.last hb, h.still⟩

theorem look_wo (H : List (ByteArray × Nat)) (k x : ByteArray) : look (wo H k) x = if x = k then none else look H x := by
  by_cases e : x = k
  · subst e
    rw [if_pos rfl, look_none, gk_wo]
    exact fun h => (rem_mem.1 h).2 rfl
  · rw [if_neg e]
    unfold look wo
    rw [List.find?_filter]
    congr 1
    congr 1
    funext p
    by_cases h : p.1 = x
    · have : p.1 ≠ k := fun g => e (h.symm.trans g)
      simp [h, e]
    · simp [h]
theorem look_cons (k : ByteArray) (t : Nat) (H : List (ByteArray × Nat)) (x : ByteArray) : look ((k, t) :: H) x = if x = k then some t else look H x := by
  unfold look
  by_cases e : x = k
  · subst e; simp
  · rw [if_neg e, List.find?_cons_of_neg (by simpa using fun h => e h.symm)]
theorem fOf_none {H G : List (ByteArray × Nat)} {k : ByteArray} : fOf H G k = none ↔ k ∉ gk H ++ gk G := by
  unfold fOf
  cases h : look H k with
  | some t =>
    have := look_some h
    simp only [reduceCtorEq, false_iff, Classical.not_not]
    exact List.mem_append_left _ (gk_mem.2 ⟨t, this⟩)
  | none =>
    have h1 := look_none.1 h
    show look G k = none ↔ _
    rw [look_none, List.mem_append, not_or]
    exact ⟨fun h => ⟨h1, h⟩, fun h => h.2⟩
theorem fOf_wo (H G : List (ByteArray × Nat)) (k : ByteArray) : fOf (wo H k) (wo G k) = fdel (fOf H G) k := by
  funext x
  unfold fOf fdel
  rw [look_wo, look_wo]
  by_cases e : x = k
  · rw [if_pos e, if_pos e, if_pos e]
  · rw [if_neg e, if_neg e, if_neg e]
theorem fOf_consA (H G : List (ByteArray × Nat)) (k : ByteArray) (t : Nat) : fOf ((k, t) :: H) G = fput (fOf H G) k t := by
  funext x
  unfold fOf fput
  rw [look_cons]
  by_cases e : x = k
  · rw [if_pos e, if_pos e]
  · rw [if_neg e, if_neg e]
theorem fOf_consB {H G : List (ByteArray × Nat)} {k : ByteArray} (t : Nat) (hk : k ∉ gk H) : fOf H ((k, t) :: G) = fput (fOf H G) k t := by
  funext x
  unfold fOf fput
  rw [look_cons]
  by_cases e : x = k
  · subst e
    rw [if_pos rfl, if_pos rfl, look_none.2 hk]
  · rw [if_neg e, if_neg e]
/-- Some keys are let go. -/
def fcut (f : ByteArray → Option Nat) (xs : List ByteArray) : ByteArray → Option Nat := fun x => if inn xs x = true then none else f x
theorem fcut_nil (f : ByteArray → Option Nat) : fcut f [] = f := rfl
theorem fcut_snoc (f : ByteArray → Option Nat) (k : ByteArray) (xs : List ByteArray) : fdel (fcut f xs) k = fcut f (k :: xs) := by
  funext x
  unfold fdel fcut
  by_cases e : x = k
  · subst e
    rw [if_pos rfl, if_pos (inn_iff.2 List.mem_cons_self)]
  · rw [if_neg e]
    have : inn (k :: xs) x = inn xs x := by
      rw [Bool.eq_iff_iff, inn_iff, inn_iff, List.mem_cons]
      exact ⟨fun h => h.resolve_left e, Or.inr⟩
    rw [this]
theorem look_append (H G : List (ByteArray × Nat)) (x : ByteArray) : look (H ++ G) x = fOf H G x := by
  unfold look fOf
  rw [List.find?_append]
  unfold look
  cases h : H.find? fun p => decide (p.1 = x) with
  | none => simp
  | some p => simp
theorem look_take {H : List (ByteArray × Nat)} (hn : (gk H).Nodup) (m : Nat) (x : ByteArray) : look (H.take m) x = if inn (gk (H.drop m)) x = true then none else look H x := by
  have e : H = H.take m ++ H.drop m := (List.take_append_drop m H).symm
  have hd : ∀ x, x ∈ gk (H.take m) → x ∉ gk (H.drop m) := by
    rw [e] at hn
    unfold gk at hn ⊢
    rw [List.map_append] at hn
    exact fun x h1 h2 => (List.nodup_append.1 hn).2.2 x h1 x h2 rfl
  by_cases h : inn (gk (H.drop m)) x = true
  · rw [if_pos h, look_none]
    exact fun g => hd x g (inn_iff.1 h)
  · rw [if_neg h]
    have h2 : look (H.drop m) x = none := look_none.2 fun g => h (inn_iff.2 g)
    conv => rhs; rw [e, look_append]
    unfold fOf
    rw [h2]
    cases look (H.take m) x <;> rfl
theorem fOf_takeA {H G : List (ByteArray × Nat)} (hn : (gk H ++ gk G).Nodup) (m : Nat) : fOf (H.take m) G = fcut (fOf H G) (gk (H.drop m)) := by
  funext x
  unfold fcut
  by_cases h : inn (gk (H.drop m)) x = true
  · rw [if_pos h, fOf_none, List.mem_append, not_or]
    have hx : x ∈ gk H := by
      have := inn_iff.1 h
      unfold gk at this ⊢
      rw [List.map_drop] at this
      exact List.mem_of_mem_drop this
    refine ⟨look_none.1 (by rw [look_take (List.nodup_append.1 hn).1, if_pos h]), fun g => (List.nodup_append.1 hn).2.2 x hx x g rfl⟩
  · rw [if_neg h]
    unfold fOf
    rw [look_take (List.nodup_append.1 hn).1, if_neg h]
theorem fOf_takeB {H G : List (ByteArray × Nat)} (hn : (gk H ++ gk G).Nodup) (m : Nat) : fOf H (G.take m) = fcut (fOf H G) (gk (G.drop m)) := by
  funext x
  unfold fcut
  by_cases h : inn (gk (G.drop m)) x = true
  · rw [if_pos h, fOf_none, List.mem_append, not_or]
    have hx : x ∈ gk G := by
      have := inn_iff.1 h
      unfold gk at this ⊢
      rw [List.map_drop] at this
      exact List.mem_of_mem_drop this
    refine ⟨fun g => (List.nodup_append.1 hn).2.2 x g x hx rfl, look_none.1 (by rw [look_take (List.nodup_append.1 hn).2.1, if_pos h])⟩
  · rw [if_neg h]
    unfold fOf
    rw [look_take (List.nodup_append.1 hn).2.1, if_neg h]

/-- A learner in state s, on that lane of the tape whose blocks lie from B to E. -/
structure LT (w : World) (i : Ix) (S : Sx) (B E : Nat) (L : List (List Nat)) (lane : Int) (s : St) (b : Nat) : Prop where
  raw : Raw w i S (flOf s B lane) (pOf s) fun _ => b
  ok : Ok s
  lim : Lim s b
  tp : DR.Tape w B E L
  sep : ∀ k, blk i S k → ¬ (B ≤ k ∧ k < E)
  vs : DR.lget L lane = s.vs
def tblk (i : Ix) (S : Sx) (B E : Nat) : Nat → Prop := fun k => blk i S k ∨ (B ≤ k ∧ k < E)
def TPost (v : Value) (w : World) (i : Ix) (S : Sx) (B E : Nat) (L : List (List Nat)) (lane : Int) (s' : St) (b' : Nat) (e : Ending) (w' : World) : Prop :=
  e = .returned v ∧ ∃ S' L', LT w' i S' B E L' lane s' b' ∧ (∀ j, j ≠ lane → DR.lget L' j = DR.lget L j) ∧ Went w w' (tblk i S B E) (tblk i S' B E)
section
variable {w w1 w' : World} {i : Ix} {S S1 : Sx} {B E : Nat} {L L1 : List (List Nat)} {lane : Int} {s s' : St} {b b' : Nat} {v : Value} {e : Ending}
theorem LT.lt (h : LT w i S B E L lane s b) {k : Nat} (hk : tblk i S B E k) : k < w.heap.size := by
  rcases hk with hk | hk
  · exact h.raw.lt hk
  · have := h.tp.lt; omega
theorem LT.beside (h : LT w i S B E L lane s b) {X : Nat → Prop} (ht : Turn X w w') (hx : ∀ k, tblk i S B E k → ¬ X k) : LT w' i S B E L lane s b :=
  ⟨h.raw.beside ht fun k hk => hx k (Or.inl hk), h.ok, h.lim, h.tp.same ht.size fun k h1 h2 => ht.block k (by have := h.tp.lt; omega) (hx k (Or.inr ⟨h1, h2⟩)), h.sep, h.vs⟩
theorem LT.below (h : LT w i S B E L lane s b) (hb : Below w.heap.size w w') : LT w' i S B E L lane s b := h.beside (X := fun _ => False) (Turn.of_below hb) fun _ _ e => e
theorem LT.mono (h : LT w i S B E L lane s b) (hb : b ≤ b') : LT w i S B E L lane s b' := ⟨h.raw.mono fun _ _ => hb, h.ok, h.lim.mono hb, h.tp, h.sep, h.vs⟩
/-- What a call that leaves the tape alone leaves. -/
theorem LT.went (h : LT w i S B E L lane s b) (hR : Raw w' i S1 (flOf s' B lane) (pOf s') fun _ => b') (hW : Went w w' (blk i S) (blk i S1)) (ok : Ok s') (lim : Lim s' b') (hv : s'.vs = s.vs) : LT w' i S1 B E L lane s' b' ∧ Went w w' (tblk i S B E) (tblk i S1 B E) := by
  have hlt := h.tp.lt
  refine ⟨⟨hR, ok, lim, h.tp.same hW.turn.size fun k h1 h2 => hW.turn.block k (by omega) fun g => h.sep k g ⟨h1, h2⟩, fun k hk hk2 => ?_, h.vs.trans hv.symm⟩, fun k hk => ?_, hW.turn.wide fun k _ g => Or.inl g⟩
  · rcases hW.new k hk with g | g
    · exact h.sep k g hk2
    · omega
  · rcases hk with hk | hk
    · exact (hW.new k hk).imp Or.inl id
    · exact Or.inl (Or.inr hk)
theorem LT.post (h : LT w i S B E L lane s b) (hp : RPost v w i S (flOf s' B lane) (pOf s') (fun _ => b') e w') (ok : Ok s') (lim : Lim s' b') (hv : s'.vs = s.vs) : TPost v w i S B E L lane s' b' e w' := by
  obtain ⟨he, S', hR, hW⟩ := hp
  obtain ⟨h1, h2⟩ := h.went hR hW ok lim hv
  exact ⟨he, S', L, h1, fun _ _ => rfl, h2⟩
theorem TPost.trans (hW : Went w w1 (tblk i S B E) (tblk i S1 B E)) (hL : ∀ j, j ≠ lane → DR.lget L1 j = DR.lget L j) (hp : TPost v w1 i S1 B E L1 lane s' b' e w') : TPost v w i S B E L lane s' b' e w' := by
  obtain ⟨he, S', L', h1, h2, h3⟩ := hp
  exact ⟨he, S', L', h1, fun j hj => (h2 j hj).trans (hL j hj), hW.trans h3⟩
end
end Go.Proofs.YtnlckkahkghneaaGreatDoor.LE
