/- A heap's state, told by its row of entries in their order; the contract of add. -/
import Derived.Test.YtdbfojolocelaaaHeS
namespace Go.Proofs.Ytdbfojolocelaaa
namespace HS
open Go.RowKit Ht Go.Maps Go.WideMaps

structure St (w : World) (h M : Nat) (v : Value) (T : List Nat) (E : Nat → Ent Key) (f : Key → Option Nat) (L : List (Ent Key)) (c : Nat) : Prop where
  hold : Holds w h M v T E c
  mp : Mp w M f T.length
  spot : ∀ k b, f k = some b ↔ b ∈ T ∧ (E b).key = k
  perm : L.Perm (T.map E)
  srt : Srt L
  once : Once L c
  hp : Hp T.length (ord T E)
  ok : ∀ e ∈ L, kok e.key
/-- The heap at block h, whose blocks are S, has the entries L; so many Sets were there. -/
def HS (w : World) (h : Nat) (S : Nat → Prop) (L : List (Ent Key)) (c : Nat) : Prop := ∃ M v T E f, St w h M v T E f L c ∧ S = Blk h M v T
/-- What a call that turns the heap leaves. -/
def OpPost (r : Value) (w : World) (h : Nat) (S : Nat → Prop) (L : List (Ent Key)) (c : Nat) (e : Ending) (w' : World) : Prop := e = .returned r ∧ ∃ S', HS w' h S' L c ∧ (∀ k, S' k → S k ∨ w.heap.size ≤ k) ∧ Turn S w w'

section
variable {w : World} {h M c : Nat} {v : Value} {T : List Nat} {E : Nat → Ent Key} {f : Key → Option Nat} {L : List (Ent Key)} {S : Nat → Prop}
theorem St.dis (s : St w h M v T E f L c) : Dis T E := by
  have := (s.perm.map (·.set)).nodup_iff.1 s.once.sets
  rw [List.map_map] at this
  exact this
theorem St.len (s : St w h M v T E f L c) : L.length = T.length := by rw [s.perm.length_eq, List.length_map]
theorem St.same {w' : World} (s : St w h M v T E f L c) (hs : ∀ k, Blk h M v T k → w'.heap[k]? = w.heap[k]?) : St w' h M v T E f L c :=
  ⟨s.hold.same hs, s.mp.same (hs M (Or.inr (Or.inl rfl))), s.spot, s.perm, s.srt, s.once, s.hp, s.ok⟩
theorem St.mem (s : St w h M v T E f L c) {b : Nat} (hb : b ∈ T) : E b ∈ L := s.perm.mem_iff.2 (List.mem_map_of_mem hb)
theorem St.look (s : St w h M v T E f L c) (k : Key) : (f k).map E = find L k := by
  cases hf : f k with
  | none =>
    cases hg : find L k with
    | none => rfl
    | some e =>
      obtain ⟨h1, h2⟩ := find_some hg
      obtain ⟨b, hb, rfl⟩ := List.mem_map.1 (s.perm.mem_iff.1 h1)
      rw [(s.spot k b).2 ⟨hb, h2⟩] at hf
      cases hf
  | some b =>
    obtain ⟨h1, h2⟩ := (s.spot k b).1 hf
    rw [← h2, s.once.find (s.mem h1)]; rfl
theorem HS.same {w' : World} (s : HS w h S L c) (hs : ∀ k, S k → w'.heap[k]? = w.heap[k]?) : HS w' h S L c := by
  obtain ⟨M, v, T, E, f, h1, rfl⟩ := s
  exact ⟨M, v, T, E, f, h1.same hs, rfl⟩
theorem HS.lt (s : HS w h S L c) {k : Nat} (hk : S k) : k < w.heap.size := by
  obtain ⟨M, v, T, E, f, h1, rfl⟩ := s
  exact h1.hold.blt h1.mp hk
theorem HS.below {w' : World} (s : HS w h S L c) (hb : Below w.heap.size w w') : HS w' h S L c := s.same fun k hk => hb.block k (s.lt hk)
theorem HS.drew (s : HS w h S L c) : HS w.drew h S L c := s.same fun _ _ => rfl
theorem HS.alloc (s : HS w h S L c) (o : Obj) : HS (w.alloc o) h S L c := s.same fun _ hk => Below.heap_alloc _ _ _ (s.lt hk)
/-- A heap is as it was, where its blocks are others. -/
theorem HS.kept {w' : World} {S' : Nat → Prop} (s : HS w h S L c) (ht : Turn S' w w') (hs : ∀ k, S k → ¬ S' k) : HS w' h S L c := s.same fun k hk => ht.block k (s.lt hk) (hs k hk)
theorem HS.once (s : HS w h S L c) : Once L c := by obtain ⟨M, v, T, E, f, h1, rfl⟩ := s; exact h1.once
theorem HS.srt (s : HS w h S L c) : Srt L := by obtain ⟨M, v, T, E, f, h1, rfl⟩ := s; exact h1.srt
theorem HS.ok (s : HS w h S L c) : ∀ e ∈ L, kok e.key := by obtain ⟨M, v, T, E, f, h1, rfl⟩ := s; exact h1.ok
theorem HS.top (s : HS w h S L c) : L.length ≤ 1000 := by obtain ⟨M, v, T, E, f, h1, rfl⟩ := s; rw [h1.len]; exact h1.hold.top
end

/-! add -/
def upd (E : Nat → Ent Key) (b : Nat) (e : Ent Key) : Nat → Ent Key := fun x => if x = b then e else E x
theorem upd_same (E : Nat → Ent Key) (b : Nat) (e : Ent Key) : upd E b e b = e := if_pos rfl
theorem upd_ne {E : Nat → Ent Key} {b x : Nat} {e : Ent Key} (hx : x ≠ b) : upd E b e x = E x := if_neg hx
theorem tg_end (T : List Nat) (b : Nat) : tg (T ++ [b]) T.length = b := by unfold tg; simp [List.getD_eq_getElem?_getD]
theorem tg_front {T : List Nat} {b i : Nat} (hi : i < T.length) : tg (T ++ [b]) i = tg T i := by unfold tg; simp [List.getD_eq_getElem?_getD, List.getElem?_append_left hi]

theorem infoP : (Try.prog.info? 83).map (fun i => (i.zero, i.size, i.bytes)) = some (some (.pointer none), 1, 8) := by kernel_rfl

theorem Tree.own {w : World} {v : Value} {T : List Nat} (h : Tree w v T) : w.ownsRow 0 83 1 v T.length (T.map fun b => Value.pointer (some ⟨b, 0, none⟩)) := by
  refine ⟨by simp, ?_⟩
  rcases h with ⟨rfl, rfl⟩ | ⟨tb, cap, arr, rfl, h2, h3, h4, h5, h6⟩
  · exact Or.inl ⟨rfl, rfl⟩
  · refine Or.inr ⟨tb, cap, arr, rfl, Nat.zero_le _, h2, h4, h5, by omega, ?_⟩
    apply List.ext_getElem?
    intro i
    rw [List.getElem?_take, List.getElem?_map]
    by_cases hi : i < T.length
    · rw [if_pos (by omega), tg_get hi, Array.getElem?_toList, h6 i hi]; rfl
    · rw [if_neg (by omega), List.getElem?_eq_none (by omega)]; rfl
theorem Tree.of_own {w : World} {v : Value} {T : List Nat} {base : Nat} (h : w.ownsRow base 83 1 v T.length (T.map fun b => Value.pointer (some ⟨b, 0, none⟩))) : Tree w v T := by
  rcases h.2 with ⟨h1, h0⟩ | ⟨tb, cap, arr, h1, _, h2, h4, h5, h3, h6⟩
  · exact Or.inl ⟨h1, List.eq_nil_of_length_eq_zero h0⟩
  · refine Or.inr ⟨tb, cap, arr, h1, h2, by omega, h4, h5, fun i hi => ?_⟩
    have := congrArg (fun l => l[i]?) h6
    simp only [List.getElem?_take, List.getElem?_map, tg_get hi] at this
    rw [if_pos (by omega), Array.getElem?_toList] at this
    exact this

/-- 'append(h.tree, it)'. -/
theorem app_ptr {w : World} {v : Value} {T : List Nat} (h : Tree w v T) (hl : T.length ≤ 999) (b : Nat) :
    ∃ (v' : Value) (w2 : World), (Builtin.append_ #[79, 79] 79 #[v, .slice (some ⟨w.heap.size, 0, none⟩) 1 1]).run Try.prog (w.alloc (.cells #[.pointer (some ⟨b, 0, none⟩)] 83)) = .ok v' w2 ∧
      Tree w2 v' (T ++ [b]) ∧ w.grownBy w2 v.ownBlock ∧ (∀ k, v'.ownBlock = some k → v.ownBlock = some k ∨ w.heap.size ≤ k) := by
  obtain ⟨i0, hi, hz0, hz1, hz2⟩ := info_parts infoP
  obtain ⟨v', w2, hrun, hown2, hg, hnil, hloc⟩ := run_append_own_at (P := Try.prog) (w.alloc (.cells #[.pointer (some ⟨b, 0, none⟩)] 83)) 0 79 79 83 i0 _ 1 8
    Try.underlying79 hi hz0 hz1 hz2 rfl (by decide) _ _ _ (h.own.alloc _) ⟨w.heap.size, 0, none⟩ 1 1 [.pointer (some ⟨b, 0, none⟩)] rfl (cell_one_new _ _ _) (by simp [Value.oneCell']) (by unfold maxLen; omega) (by omega) (by simp)
  refine ⟨v', w2, hrun, ?_, (World.grownBy_alloc w _ _).trans hg, ?_⟩
  · refine Tree.of_own (base := 0) ?_
    rw [List.length_append, List.map_append]; exact hown2
  · intro k hk
    rcases hloc with h1 | h1
    · left; rw [← h1]; exact hk
    · right; rw [h1] at hk; injection hk with hk; rw [← hk]; simp

def AddPost (w : World) (h M : Nat) (v : Value) (T : List Nat) (E : Nat → Ent Key) (f : Key → Option Nat) (c : Nat) (k : Key) (e : Ending) (w' : World) : Prop :=
  ∃ v', e = .returned (.pointer (some ⟨w.heap.size, 0, none⟩)) ∧ Holds w' h M v' (T ++ [w.heap.size]) (upd E w.heap.size ⟨k, 0, 0, 0⟩) c ∧ Mp w' M (fput f k w.heap.size) (T.length + 1) ∧ Turn (Blk h M v T) w w' ∧ (∀ j, v'.ownBlock = some j → v.ownBlock = some j ∨ w.heap.size ≤ j)

/-- What stands behind the stores of add. -/
theorem added {w w2 : World} {h M c : Nat} {v v' : Value} {T : List Nat} {E : Nat → Ent Key} {f : Key → Option Nat} {k : Key} (H : Holds w h M v T E c) (hM : Mp w M f T.length) (hl : T.length ≤ 999) (hk : kok k) (hf : f k = none)
    (ht : Tree w2 v' (T ++ [w.heap.size])) (hg : (w.alloc (itemOf ⟨k, 0, 0, 0⟩ T.length)).grownBy w2 v.ownBlock) (hloc : ∀ j, v'.ownBlock = some j → v.ownBlock = some j ∨ w.heap.size + 1 ≤ j) :
    ∃ w3, (Instr.mapUpdate 78 (.map (some M)) (.string k) (.pointer (some ⟨w.heap.size, 0, none⟩))).run Try.prog (w2.setCell ⟨h, 1, none⟩ v') = .ok () w3 ∧
      Holds w3 h M v' (T ++ [w.heap.size]) (upd E w.heap.size ⟨k, 0, 0, 0⟩) c ∧ Mp w3 M (fput f k w.heap.size) (T.length + 1) ∧ Turn (Blk h M v T) w w3 := by
  have hs1 : (w.alloc (itemOf ⟨k, 0, 0, 0⟩ T.length)).heap.size = w.heap.size + 1 := by simp
  have hhlt := H.hlt
  have hMlt := hM.lt
  have own_ne : ∀ {x : Nat} {a : Array Value} {t : TypeId} {u : Nat × Nat}, w.heap[x]? = some (.cells a t u) → t ≠ 83 → some x ≠ v.ownBlock := by
    intro x a t u hx hne e
    rcases H.tree with ⟨rfl, _⟩ | ⟨tb, cap, arr, rfl, h2, _⟩
    · cases e
    · injection e with e
      exact cells_ne hx h2 hne e
  have old : ∀ x, x < w.heap.size → some x ≠ v.ownBlock → w2.heap[x]? = w.heap[x]? := fun x hx hne => by
    rw [hg.block x (by rw [hs1]; omega) hne, Below.heap_alloc _ _ _ hx]
  have h2 : w2.heap[h]? = some (heapOf M v c) := by rw [old h hhlt (own_ne H.own (by decide))]; exact H.own
  have hM2 : w2.heap[M]? = w.heap[M]? := old M hMlt (by
    obtain ⟨es, c', hb⟩ := hM.obj
    intro e
    rcases H.tree with ⟨rfl, _⟩ | ⟨tb, cap, arr, rfl, h2, _⟩
    · cases e
    · injection e with e
      rw [e, h2] at hb; cases hb)
  have hit : w2.heap[w.heap.size]? = some (itemOf ⟨k, 0, 0, 0⟩ T.length) := by
    rw [hg.block _ (by rw [hs1]; omega) (fun e => by
      rcases H.tree with ⟨rfl, _⟩ | ⟨tb, cap, arr, rfl, h2, _⟩
      · cases e
      · injection e with e
        have e : w.heap.size = tb := e
        have := (Array.getElem?_eq_some_iff.1 h2).1
        omega)]
    exact heap_alloc_new w _
  have hhM := H.hm hM
  have hMs : Mp (w2.setCell ⟨h, 1, none⟩ v') M f T.length := hM.same (by rw [heap_setCell_other _ _ _ _ (Ne.symm hhM)]; exact hM2)
  obtain ⟨w3, hrun, hM3, hg3⟩ := hMs.store hk (by omega) hf w.heap.size
  have hw3 : ∀ x, x < w2.heap.size → x ≠ M → w3.heap[x]? = (w2.setCell ⟨h, 1, none⟩ v').heap[x]? := fun x hx hne => hg3.block x (by simpa [World.setCell] using hx) (by simpa using hne)
  have hsz2 := hg.size
  rw [hs1] at hsz2
  have hlenT : (T ++ [w.heap.size]).length = T.length + 1 := by simp
  have itm : ∀ i, i < T.length + 1 → w2.heap[tg (T ++ [w.heap.size]) i]? = some (itemOf (upd E w.heap.size ⟨k, 0, 0, 0⟩ (tg (T ++ [w.heap.size]) i)) i) := by
    intro i hi
    by_cases e : i = T.length
    · subst e; rw [tg_end, upd_same]; exact hit
    · have hi' : i < T.length := by omega
      have hlt := H.ilt hi'
      rw [tg_front hi', upd_ne (by omega), old _ hlt (own_ne (H.item i hi') (by decide))]
      exact H.item i hi'
  have itlt : ∀ i, i < T.length + 1 → tg (T ++ [w.heap.size]) i < w2.heap.size := fun i hi => (Array.getElem?_eq_some_iff.1 (itm i hi)).1
  have itM : ∀ i, i < T.length + 1 → tg (T ++ [w.heap.size]) i ≠ M := fun i hi e => by
    obtain ⟨es, c', hb⟩ := hM.obj
    rw [← hM2, ← e, itm i hi] at hb; cases hb
  have ith : ∀ i, i < T.length + 1 → tg (T ++ [w.heap.size]) i ≠ h := fun i hi => cells_ne (itm i hi) h2 (by decide)
  refine ⟨w3, hrun, ⟨?_, ?_, fun i hi => ?_, by rw [hlenT]; omega, H.ctop⟩, hM3, ?_⟩
  · rw [hw3 h (by omega) hhM, heap_setCell_same _ _ _ _ _ _ h2]; rfl
  · rcases ht with ⟨_, h0⟩ | ⟨tb, cap, arr, rfl, t2, t3⟩
    · exact absurd h0 (by simp)
    · refine Or.inr ⟨tb, cap, arr, rfl, ?_, t3⟩
      have htM : tb ≠ M := by
        obtain ⟨es, c', hb⟩ := hM.obj
        intro e; rw [← hM2, ← e, t2] at hb; cases hb
      rw [hw3 tb (Array.getElem?_eq_some_iff.1 t2).1 htM, heap_setCell_other _ _ _ _ (cells_ne t2 h2 (by decide))]; exact t2
  · rw [hlenT] at hi
    rw [hw3 _ (itlt i hi) (itM i hi), heap_setCell_other _ _ _ _ (ith i hi)]; exact itm i hi
  · have t1 : Turn (Blk h M v T) w w2 := ((Turn.refl _ w).alloc _).grown hg (fun j hj => Or.inl (Or.inr (Or.inr (Or.inl hj))))
    exact (t1.setCell (p := ⟨h, 1, none⟩) (Or.inl rfl) v').grown hg3 (fun j hj => by cases hj; exact Or.inl (Or.inr (Or.inl rfl)))

set_option maxHeartbeats 2000000 in
set_option maxRecDepth 100000 in
theorem add_any (w : World) (h M : Nat) (v : Value) (T : List Nat) (E : Nat → Ent Key) (f : Key → Option Nat) (c : Nat) (k : Key) (H : Holds w h M v T E c) (hM : Mp w M f T.length) (hl : T.length ≤ 999) (hk : kok k) (hf : f k = none) :
    Calls Try.prog 52 #[.pointer (some ⟨h, 0, none⟩), .string k] w (AddPost w h M v T E f c k) := by
  have hT1 : Tree (w.alloc (itemOf ⟨k, 0, 0, 0⟩ T.length)) v T := by
    rcases H.tree with hz | ⟨tb, cap, arr, rfl, h2, h3⟩
    · exact Or.inl hz
    · exact Or.inr ⟨tb, cap, arr, rfl, by rw [Below.heap_alloc _ _ _ (Array.getElem?_eq_some_iff.1 h2).1]; exact h2, h3⟩
  obtain ⟨v', w2, hrun, ht2, hg, hloc⟩ := app_ptr hT1 hl w.heap.size
  have hs1 : (w.alloc (itemOf ⟨k, 0, 0, 0⟩ T.length)).heap.size = w.heap.size + 1 := by simp
  rw [hs1] at hloc hrun
  obtain ⟨g, cap, rfl⟩ : ∃ g cap, v' = .slice (some ⟨g, 0, none⟩) (T.length + 1) cap := by
    rcases ht2 with ⟨_, h0⟩ | ⟨tb, cap, arr, rfl, _⟩
    · exact absurd h0 (by simp)
    · exact ⟨tb, cap, by simp⟩
  obtain ⟨w3, hup, hH3, hM3, hT3⟩ := added H hM hl hk hf ht2 hg hloc
  have R := Lib.hid (And.intro hH3 (And.intro hM3 (And.intro hT3 hloc)))
  have HRUN := Lib.hid hrun
  have c0 := H.c0
  have c1 := H.c1
  have F := Lib.hid (fun w => findable_any w k)
  have hhne : some h ≠ v.ownBlock := by
    intro e
    rcases H.tree with ⟨rfl, _⟩ | ⟨tb, cap, arr, rfl, h2, _⟩
    · cases e
    · injection e with e
      exact cells_ne H.own h2 (by decide) e
  have h2 : w2.heap[h]? = some (heapOf M v c) := by
    rw [hg.block h (by rw [hs1]; have := H.hlt; omega) hhne, Below.heap_alloc _ _ _ H.hlt]; exact H.own
  have d0 : w2.cell? ⟨h, 0, none⟩ = some (.map (some M)) := cell_of_row w2 _ 0 _ _ _ h2
  have d1 : w2.cell? ⟨h, 1, none⟩ = some v := cell_of_row w2 _ 1 _ _ _ h2
  have d2 : w2.frozen? ⟨h, 1, none⟩ = false := frozen_of_row w2 _ 1 _ _ h2
  have hhlt := H.hlt
  obtain ⟨va, vc, hv⟩ := H.tlen
  clear hrun ht2 hg hloc hH3 hM3 hT3 hT1 h2 H hM hk hf hs1 hhne
  unfold itemOf at HRUN
  obtain ⟨n, hn⟩ : ∃ n, T.length = n := ⟨_, rfl⟩
  rw [hn] at hv hl HRUN hup
  clear hn
  subst hv
  go_enter Try.func52, Try.ntmps52
  go_wp2_with (at_builtin; refine wpList_append_run rfl _ _ _ rfl _ _ _ _ rfl rfl HRUN.out ?_)
  refine (F.out _).mono ?_
  rintro e w' ⟨rfl, rfl⟩
  go_wp2_with fail
  go_ret
  exact ⟨_, rfl, R.out.1, R.out.2.1, R.out.2.2.1, fun j hj => (R.out.2.2.2 j hj).imp id (by omega)⟩
end HS
end Go.Proofs.Ytdbfojolocelaaa
