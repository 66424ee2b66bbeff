/- The contract of a heap's Set. -/
import Derived.Test.YtdbfojolocelaaaHgS
namespace Go.Proofs.Ytdbfojolocelaaa
namespace HS
open Go.RowKit Ht Go.Maps Go.WideMaps

/-- A heap with an item that is to be given its rank. -/
structure Mid (w : World) (h : Nat) (S : Nat → Prop) (L : List (Ent Key)) (c : Nat) (k : Key) (b : Nat) (W : World) (M : Nat) (v : Value) (T : List Nat) (E : Nat → Ent Key) (f : Key → Option Nat) (p : Nat) : Prop where
  hold : Holds W h M v T E c
  mp : Mp W M f T.length
  spot : ∀ k b, f k = some b ↔ b ∈ T ∧ (E b).key = k
  lt : p < T.length
  item : tg T p = b
  key : (E b).key = k
  perm : ∀ e', (T.map (upd E b e')).Perm (e' :: rem L k)
  up : ∀ e', Up T.length (ord T (upd E b e')) p
  sub : ∀ j, Blk h M v T j → S j ∨ w.heap.size ≤ j
  turn : Turn S w W

theorem split_at {T : List Nat} {b : Nat} (hb : b ∈ T) (hn : T.Nodup) : ∃ A B, T = A ++ b :: B ∧ b ∉ A ∧ b ∉ B := by
  obtain ⟨A, B, rfl⟩ := List.append_of_mem hb
  have := List.nodup_append.1 hn
  refine ⟨A, B, rfl, fun h => this.2.2 b h b List.mem_cons_self rfl, (List.nodup_cons.1 this.2.1).1⟩
theorem map_upd {A : List Nat} {E : Nat → Ent Key} {b : Nat} {e : Ent Key} (h : b ∉ A) : A.map (upd E b e) = A.map E := List.map_congr_left fun _ hx => upd_ne (fun e => h (e ▸ hx))
/-- The entries but that of a key. -/
theorem St.rest {w : World} {h M c : Nat} {v : Value} {T : List Nat} {E : Nat → Ent Key} {f : Key → Option Nat} {L : List (Ent Key)} (s : St w h M v T E f L c) {b : Nat} (hb : b ∈ T) :
    ∃ A B, T = A ++ b :: B ∧ b ∉ A ∧ b ∉ B ∧ ((A ++ B).map E).Perm (rem L (E b).key) := by
  obtain ⟨A, B, rfl, hA, hB⟩ := split_at hb s.hold.nodup
  refine ⟨A, B, rfl, hA, hB, ?_⟩
  have hp : L.Perm (E b :: (A ++ B).map E) := s.perm.trans (by rw [List.map_append, List.map_append, List.map_cons]; exact List.perm_middle)
  have ho := s.once.perm hp
  have := ho.rem_cons
  rw [← this]
  exact (hp.filter _).symm

theorem Mid.old {w : World} {h M c : Nat} {v : Value} {T : List Nat} {E : Nat → Ent Key} {f : Key → Option Nat} {L : List (Ent Key)} (s : St w h M v T E f L c) {k : Key} {b : Nat} (hf : f k = some b) : ∃ p, Mid w h (Blk h M v T) L c k b w M v T E f p := by
  obtain ⟨hb, hk⟩ := (s.spot k b).1 hf
  obtain ⟨p, hp, hi⟩ := mem_tg hb
  refine ⟨p, s.hold, s.mp, s.spot, hp, hi, hk, fun e' => ?_, fun e' => ?_, fun j hj => Or.inl hj, Turn.refl _ _⟩
  · obtain ⟨A, B, hT, hA, hB, hr⟩ := s.rest hb
    rw [hk] at hr
    rw [hT, List.map_append, List.map_cons, upd_same, map_upd hA, map_upd hB]
    refine List.perm_middle.trans (List.Perm.cons _ ?_)
    rw [← List.map_append]; exact hr
  · refine Up.of s.hp (Nat.le_refl _) (fun i hi' hne => ?_)
    show upd E b e' (tg T i) = E (tg T i)
    exact upd_ne (fun e => hne (s.hold.inj hi' hp (e.trans hi.symm)))

theorem Mid.new {w W : World} {h M c : Nat} {v v' : Value} {T : List Nat} {E : Nat → Ent Key} {f : Key → Option Nat} {L : List (Ent Key)} (s : St w h M v T E f L c) {k : Key} (hf : f k = none)
    (hH : Holds W h M v' (T ++ [w.heap.size]) (upd E w.heap.size ⟨k, 0, 0, 0⟩) c) (hM : Mp W M (fput f k w.heap.size) (T.length + 1)) (ht : Turn (Blk h M v T) w W) (hloc : ∀ j, v'.ownBlock = some j → v.ownBlock = some j ∨ w.heap.size ≤ j) :
    Mid w h (Blk h M v T) L c k w.heap.size W M v' (T ++ [w.heap.size]) (upd E w.heap.size ⟨k, 0, 0, 0⟩) (fput f k w.heap.size) T.length := by
  have hfresh : w.heap.size ∉ T := fun hm => by
    obtain ⟨i, hi, he⟩ := mem_tg hm
    have := s.hold.ilt hi
    omega
  have fr : ∀ x ∈ T, x ≠ w.heap.size := fun x hx e => hfresh (e ▸ hx)
  have hno : ∀ e ∈ L, e.key ≠ k := find_none (by rw [← s.look k, hf]; rfl)
  refine ⟨hH, by rw [List.length_append]; exact hM, fun k' b' => ?_, by simp, tg_end _ _, by rw [upd_same], fun e' => ?_, fun e' => ?_, fun j hj => ?_, ht⟩
  · unfold fput
    by_cases e : k' = k
    · subst e
      rw [if_pos rfl]
      constructor
      · intro he; cases he; exact ⟨by simp, by rw [upd_same]⟩
      · rintro ⟨h1, h2⟩
        rcases List.mem_append.1 h1 with h1 | h1
        · rw [upd_ne (fr _ (h1))] at h2
          exact absurd h2 (hno _ (s.mem h1))
        · rw [List.mem_singleton.1 h1]
    · rw [if_neg e, s.spot k' b']
      constructor
      · rintro ⟨h1, h2⟩
        exact ⟨List.mem_append_left _ h1, by rw [upd_ne (fr _ (h1))]; exact h2⟩
      · rintro ⟨h1, h2⟩
        rcases List.mem_append.1 h1 with h1 | h1
        · exact ⟨h1, by rw [upd_ne (fr _ (h1))] at h2; exact h2⟩
        · rw [List.mem_singleton.1 h1, upd_same] at h2; exact absurd h2.symm e
  · rw [rem_none hno, List.map_append, List.map_singleton, upd_same, map_upd hfresh, map_upd hfresh]
    exact (List.perm_append_comm (l₁ := T.map E) (l₂ := [e'])).trans (List.Perm.cons _ s.perm.symm)
  · refine Up.of (m := T.length + 1) (o := ord (T ++ [w.heap.size]) (upd E w.heap.size ⟨k, (E (tg T ((T.length - 1) / 2))).one, (E (tg T ((T.length - 1) / 2))).two, (E (tg T ((T.length - 1) / 2))).set + 1⟩)) ?_ (by simp) (fun i hi hne => ?_)
    · intro i hi hin
      unfold ord
      by_cases e : i = T.length
      · subst e
        rw [tg_end, upd_same, tg_front (by omega), upd_ne (fr _ (tg_mem (by omega)))]
        exact Or.inr ⟨rfl, Or.inr ⟨rfl, Nat.lt_succ_self _⟩⟩
      · have h1 : i < T.length := by omega
        rw [tg_front h1, tg_front (by omega), upd_ne (fr _ (tg_mem (by omega))), upd_ne (fr _ (tg_mem h1))]
        exact s.hp i hi h1
    · have hi' : i < T.length := by rw [List.length_append] at hi; simp at hi; omega
      unfold ord
      rw [tg_front hi', upd_ne (fr _ (tg_mem hi')), upd_ne (fr _ (tg_mem hi')), upd_ne (fr _ (tg_mem hi'))]
  · rcases hj with rfl | rfl | hj | hj
    · exact Or.inl (Or.inl rfl)
    · exact Or.inl (Or.inr (Or.inl rfl))
    · exact (hloc j hj).imp (fun h => Or.inr (Or.inr (Or.inl h))) id
    · rcases List.mem_append.1 hj with h1 | h1
      · exact Or.inl (Or.inr (Or.inr (Or.inr h1)))
      · rw [List.mem_singleton.1 h1]; exact Or.inr (Nat.le_refl _)

section
variable {w W : World} {h M c p b : Nat} {v : Value} {T : List Nat} {E : Nat → Ent Key} {f : Key → Option Nat} {L : List (Ent Key)} {k : Key} {S : Nat → Prop}
/-- .. its rank and its number stored. -/
theorem Mid.ranked (m : Mid w h S L c k b W M v T E f p) (hc : c ≤ 90000) (r1 r2 : Int) :
    Holds ((((W.setCell ⟨h, 2, none⟩ (.int .i64 ((c + 1 : Nat) : Int))).setCell ⟨b, 1, none⟩ (.int .i64 r1)).setCell ⟨b, 2, none⟩ (.int .i64 r2)).setCell ⟨b, 3, none⟩ (.int .i64 ((c + 1 : Nat) : Int))).drew h M v T (upd E b ⟨k, r1, r2, c + 1⟩) (c + 1) ∧
    Turn (fun j => j = h ∨ j = b) W ((((W.setCell ⟨h, 2, none⟩ (.int .i64 ((c + 1 : Nat) : Int))).setCell ⟨b, 1, none⟩ (.int .i64 r1)).setCell ⟨b, 2, none⟩ (.int .i64 r2)).setCell ⟨b, 3, none⟩ (.int .i64 ((c + 1 : Nat) : Int))).drew := by
  have hhb : h ≠ b := m.item ▸ m.hold.hi m.lt
  have other : ∀ x, x ≠ h → x ≠ b → ((((W.setCell ⟨h, 2, none⟩ (.int .i64 ((c + 1 : Nat) : Int))).setCell ⟨b, 1, none⟩ (.int .i64 r1)).setCell ⟨b, 2, none⟩ (.int .i64 r2)).setCell ⟨b, 3, none⟩ (.int .i64 ((c + 1 : Nat) : Int))).drew.heap[x]? = W.heap[x]? := fun x h1 h2 => by
    show ((((W.setCell _ _).setCell _ _).setCell _ _).setCell _ _).heap[x]? = _
    rw [heap_setCell_other _ _ _ _ h2, heap_setCell_other _ _ _ _ h2, heap_setCell_other _ _ _ _ h2, heap_setCell_other _ _ _ _ h1]
  have itb := m.hold.item p m.lt
  rw [m.item] at itb
  refine ⟨⟨?_, ?_, fun i hi => ?_, m.hold.top, by omega⟩, ?_⟩
  · show ((((W.setCell _ _).setCell _ _).setCell _ _).setCell _ _).heap[h]? = _
    rw [heap_setCell_other _ _ _ _ hhb, heap_setCell_other _ _ _ _ hhb, heap_setCell_other _ _ _ _ hhb, heap_setCell_same _ _ _ _ _ _ m.hold.own]; rfl
  · rcases m.hold.tree with hz | ⟨tb, cap, arr, h1, h2, h3⟩
    · exact Or.inl hz
    · exact Or.inr ⟨tb, cap, arr, h1, (other tb (cells_ne h2 m.hold.own (by decide)) (cells_ne h2 itb (by decide))).trans h2, h3⟩
  · by_cases e : tg T i = b
    · have hip : i = p := m.hold.inj hi m.lt (e.trans m.item.symm)
      subst hip
      rw [e, upd_same]
      show ((((W.setCell _ _).setCell _ _).setCell _ _).setCell _ _).heap[b]? = _
      have g0 : (W.setCell ⟨h, 2, none⟩ (.int .i64 ((c + 1 : Nat) : Int))).heap[b]? = _ := (heap_setCell_other _ _ _ _ (Ne.symm hhb)).trans itb
      have g1 := heap_setCell_same _ b 1 _ _ (.int .i64 r1) g0
      have g2 := heap_setCell_same _ b 2 _ _ (.int .i64 r2) g1
      rw [heap_setCell_same _ b 3 _ _ _ g2, ← m.key]
      rfl
    · rw [upd_ne e, other _ (Ne.symm (m.hold.hi hi)) e]; exact m.hold.item i hi
  · exact (((((Turn.refl _ W).setCell (p := ⟨h, 2, none⟩) (Or.inl rfl) _).setCell (p := ⟨b, 1, none⟩) (Or.inr rfl) _).setCell (p := ⟨b, 2, none⟩) (Or.inr rfl) _).setCell (p := ⟨b, 3, none⟩) (Or.inr rfl) _).drew
/-- .. and settled. -/
theorem Mid.done (m : Mid w h S L c k b W M v T E f p) (ho : Once L c) (hs : Srt L) (hok : ∀ e ∈ L, kok e.key) (hk : kok k) (r1 r2 : Int) {w2 w3 : World} {e : Ending} (h2 : Holds w2 h M v T (upd E b ⟨k, r1, r2, c + 1⟩) (c + 1)) (t2 : Turn (fun j => j = h ∨ j = b) W w2)
    (hp : SetPost w2 h M v T (upd E b ⟨k, r1, r2, c + 1⟩) (c + 1) e w3) : OpPost (.tuple #[]) w h S (ins ⟨k, r1, r2, c + 1⟩ (rem L k)) (c + 1) e w3 := by
  obtain ⟨rfl, T', hH, hpm, hHp, ht⟩ := hp
  have hkeys : ∀ x, (upd E b ⟨k, r1, r2, c + 1⟩ x).key = (E x).key := fun x => by
    unfold upd
    split
    · rename_i e; rw [e]; exact m.key.symm
    · rfl
  have hMb : M ≠ b := m.item ▸ m.hold.mi m.mp m.lt
  have hMh := m.hold.hm m.mp
  have mp2 : Mp w2 M f T.length := m.mp.same (t2.block M m.mp.lt (by simp [Ne.symm hMh, hMb]))
  have mp3 : Mp w3 M f T.length := mp2.same (ht.block M mp2.lt (by
    rintro (hl | hl)
    · rcases h2.tree with ⟨rfl, _⟩ | ⟨tb, cap, arr, rfl, g2, _⟩
      · cases hl
      · injection hl with hl
        obtain ⟨es, c', hb⟩ := mp2.obj
        have hl : tb = M := hl
        rw [← hl, g2] at hb; cases hb
    · obtain ⟨i, hi, he⟩ := mem_tg hl
      exact h2.mi mp2 hi he.symm))
  have hno : ∀ e ∈ rem L k, e.key ≠ k := fun e he => (mem_rem.1 he).2
  have hone := (ho.rem k).put k r1 r2 hno
  have hpT : (ins ⟨k, r1, r2, c + 1⟩ (rem L k)).Perm (T'.map (upd E b ⟨k, r1, r2, c + 1⟩)) := (ins_perm _ _).trans ((m.perm _).symm.trans (hpm.map _).symm)
  refine ⟨rfl, Blk h M v T', ⟨M, v, T', _, f, ⟨hH, by rw [hpm.length_eq]; exact mp3, fun k' b' => ?_, hpT, ?_, hone, hHp, ?_⟩, rfl⟩, fun j hj => ?_, ?_⟩
  · rw [hkeys, hpm.mem_iff]; exact m.spot k' b'
  · exact ins_srt _ _ (rem_srt hs k) (fun x hx => by have := (ho.rem k).le x hx; show x.set ≠ c + 1; omega)
  · intro e he
    rcases ins_mem.1 he with rfl | he
    · exact hk
    · exact hok e (mem_rem.1 he).1
  · refine m.sub j ?_
    rcases hj with hj | hj | hj | hj
    · exact Or.inl hj
    · exact Or.inr (Or.inl hj)
    · exact Or.inr (Or.inr (Or.inl hj))
    · exact Or.inr (Or.inr (Or.inr (hpm.mem_iff.1 hj)))
  · refine (m.turn.trans t2 (fun j hj hS => ?_)).trans ht (fun j hj hS => ?_)
    · have : Blk h M v T j := by
        rcases hS with rfl | rfl
        · exact Or.inl rfl
        · exact Or.inr (Or.inr (Or.inr (m.item ▸ tg_mem m.lt)))
      exact (m.sub j this).elim id (by omega)
    · have : Blk h M v T j := by
        rcases hS with h1 | h1
        · exact Or.inr (Or.inr (Or.inl h1))
        · exact Or.inr (Or.inr (Or.inr h1))
      exact (m.sub j this).elim id (by omega)
end
end HS
end Go.Proofs.Ytdbfojolocelaaa
