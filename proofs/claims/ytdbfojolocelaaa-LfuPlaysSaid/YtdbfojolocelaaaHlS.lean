/- The contract of a heap's takeOff. -/
import Derived.Test.YtdbfojolocelaaaHkS
import Derived.LaidEqlPtr
namespace Go.Proofs.Ytdbfojolocelaaa
namespace HS
open Go.RowKit Ht Go.Maps Go.WideMaps

theorem neq_same (w : World) (b : Nat) : (binOp .neq 83 (.pointer (some ⟨b, 0, none⟩)) (.pointer (some ⟨b, 0, none⟩))).run Try.prog w = .ok (.bool false) w := by
  obtain ⟨j, hj⟩ : ∃ j, Try.prog.info? 87 = some j := Option.isSome_iff_exists.1 (by kernel_rfl)
  have h : ∀ d : Nat, (Op.equalIn (d + 1) 83 (.pointer (some ⟨b, 0, none⟩)) (.pointer (some ⟨b, 0, none⟩))).run Try.prog w = .ok true w := fun d => by
    simp [Op.equalIn, run_underlying Try.underlying83, sizeOf, typeInfo, hj, run_sameAddr_same]
  simp only [binOp]
  simp [Op.equal, Op.maxDepth, h 9999]
theorem infoI : (Try.prog.info? 87).map (fun i => i.size) = some 5 := by kernel_rfl
theorem neq_other (w : World) (a b : Nat) (e e' : Ent Key) (i i' : Nat) (hne : a ≠ b) (ha : w.heap[a]? = some (itemOf e i)) (hb : w.heap[b]? = some (itemOf e' i')) : (binOp .neq 83 (.pointer (some ⟨a, 0, none⟩)) (.pointer (some ⟨b, 0, none⟩))).run Try.prog w = .ok (.bool true) w := by
  obtain ⟨j, hj, hs⟩ := Option.map_eq_some_iff.1 infoI
  have h : ∀ d : Nat, (Op.equalIn (d + 1) 83 (.pointer (some ⟨a, 0, none⟩)) (.pointer (some ⟨b, 0, none⟩))).run Try.prog w = .ok false w := fun d => by
    simp [Op.equalIn, run_underlying Try.underlying83, sizeOf, typeInfo, hj, show j.size ≠ 0 by omega, run_sameAddr_other w (a := ⟨a, 0, none⟩) (b := ⟨b, 0, none⟩) (by intro e; injection e with e; exact hne e) ha hb]
  simp only [binOp]
  simp [Op.equal, Op.maxDepth, h 9999]

theorem tg_take {T : List Nat} {m i : Nat} (hi : i < m) : tg (T.take m) i = tg T i := by
  unfold tg; rw [List.getD_eq_getElem?_getD, List.getD_eq_getElem?_getD, List.getElem?_take, if_pos hi]

/-- The tree's last place taken off. -/
theorem Holds.cut {w : World} {h M c tb cap m : Nat} {T : List Nat} {E : Nat → Ent Key} (H : Holds w h M (.slice (some ⟨tb, 0, none⟩) (m + 1) cap) T E c) (hm : T.length = m + 1) :
    Holds ((w.setCell ⟨tb, m, none⟩ (.pointer none)).setCell ⟨h, 1, none⟩ (.slice (some ⟨tb, 0, none⟩) m cap)) h M (.slice (some ⟨tb, 0, none⟩) m cap) (T.take m) E c := by
  obtain ⟨_, arr, h2, h3, h4, h5, h6⟩ := H.tree.tl
  have ht : h ≠ tb := cells_ne H.own h2 (by decide)
  have hl : (T.take m).length = m := by rw [List.length_take]; omega
  have hown : (w.setCell ⟨tb, m, none⟩ (.pointer none)).heap[h]? = some (heapOf M (.slice (some ⟨tb, 0, none⟩) (m + 1) cap) c) := (heap_setCell_other _ _ _ _ ht).trans H.own
  refine ⟨?_, ?_, fun i hi => ?_, by rw [hl]; have := H.top; omega, H.ctop⟩
  · rw [heap_setCell_same _ _ _ _ _ _ hown]; rfl
  · refine Or.inr ⟨tb, cap, arr.setIfInBounds m (.pointer none), by rw [hl], ?_, by simpa using h3, by omega, h5, fun i hi => ?_⟩
    · rw [heap_setCell_other _ _ _ _ (Ne.symm ht), heap_setCell_same _ _ _ _ _ _ h2]
    · rw [hl] at hi
      rw [Array.getElem?_setIfInBounds_ne (by omega), tg_take hi]; exact h6 i (by omega)
  · rw [hl] at hi
    have hne : tg T i ≠ tb := cells_ne (H.item i (by omega)) h2 (by decide)
    rw [tg_take hi, heap_setCell_other _ _ _ _ (Ne.symm (H.hi (i := i) (by omega))), heap_setCell_other _ _ _ _ hne]; exact H.item i (by omega)

section
variable {w : World} {h M c m p b : Nat} {v : Value} {T : List Nat} {E : Nat → Ent Key} {f : Key → Option Nat} {L : List (Ent Key)}
/-- The entries that are left. -/
theorem St.left (s : St w h M v T E f L c) (hm : T.length = m + 1) (hp : p < T.length) (hb : tg T p = b) :
    ((tsw T p m).take m ++ [b] = tsw T p m) ∧ (rem L (E b).key).Perm (((tsw T p m).take m).map E) ∧ b ∉ (tsw T p m).take m := by
  have hlen : (tsw T p m).length = m + 1 := by rw [tsw_len, hm]
  have hlast : tg (tsw T p m) m = b := by rw [tg_tsw hp (by omega), if_pos rfl]; exact hb
  have h1 : (tsw T p m).take m ++ [b] = tsw T p m := by
    have h2 := List.take_append_drop m (tsw T p m)
    have h3 : (tsw T p m).drop m = [b] := by
      have h4 := tg_get (T := tsw T p m) (i := m) (by omega)
      rw [hlast] at h4
      apply List.ext_getElem?
      intro i
      rw [List.getElem?_drop]
      cases i with
      | zero => simpa using h4
      | succ i => rw [List.getElem?_eq_none (by omega)]; simp
    rw [h3] at h2; exact h2
  have hpm := tsw_perm hp (show m < T.length by omega)
  have hnd := (hpm.nodup_iff).2 s.hold.nodup
  have hnb : b ∉ (tsw T p m).take m := by
    rw [← h1] at hnd
    have := List.nodup_append.1 hnd
    exact fun hm => this.2.2 b hm b (by simp) rfl
  refine ⟨h1, ?_, hnb⟩
  have hpE : L.Perm (E b :: ((tsw T p m).take m).map E) := by
    refine s.perm.trans ((hpm.symm.map E).trans ?_)
    rw [← h1, List.map_append, List.map_singleton]
    rw [h1]
    exact List.perm_append_comm
  have ho := s.once.perm hpE
  rw [← ho.rem_cons]
  exact hpE.filter _
/-- What takeOff leaves. -/
theorem St.taken (s : St w h M v T E f L c) (hm : T.length = m + 1) (hp : p < T.length) (hb : tg T p = b) {v' : Value} {T' : List Nat} {w' : World} (hv : v'.ownBlock = v.ownBlock) (hT' : T'.Perm ((tsw T p m).take m)) (hH : Holds w' h M v' T' E c) (hM : Mp w' M (fdel f (E b).key) m) (hHp : Hp T'.length (ord T' E)) (ht : Turn (Blk h M v T) w w') :
    OpPost (.tuple #[]) w h (Blk h M v T) (rem L (E b).key) c (.returned (.tuple #[])) w' := by
  obtain ⟨h1, h2, h3⟩ := s.left hm hp hb
  have hmem : ∀ x, x ∈ T' ↔ x ∈ T ∧ x ≠ b := fun x => by
    have hx1 : x ∈ tsw T p m ↔ x ∈ (tsw T p m).take m ∨ x = b := by
      have := congrArg (fun l => x ∈ l) h1
      simp only [List.mem_append, List.mem_singleton] at this
      exact ⟨fun h => this.symm ▸ h, fun h => this ▸ h⟩
    rw [hT'.mem_iff, ← (tsw_perm hp (show m < T.length by omega)).mem_iff, hx1]
    constructor
    · intro hx; exact ⟨Or.inl hx, fun e => h3 (e ▸ hx)⟩
    · rintro ⟨hx | hx, hne⟩
      · exact hx
      · exact absurd hx hne
  have hbT : b ∈ T := hb ▸ tg_mem hp
  have hTl : T'.length = m := by rw [hT'.length_eq, List.length_take, tsw_len]; omega
  refine ⟨rfl, Blk h M v' T', ⟨M, v', T', E, fdel f (E b).key, ⟨hH, by rw [hTl]; exact hM, fun k' b' => ?_, h2.trans (hT'.map E).symm, rem_srt s.srt _, s.once.rem _, hHp, fun e he => s.ok e (mem_rem.1 he).1⟩, rfl⟩, fun j hj => ?_, ht⟩
  · unfold fdel
    rw [hmem]
    by_cases e : k' = (E b).key
    · rw [if_pos e]
      constructor
      · intro h; cases h
      · rintro ⟨⟨g1, g2⟩, g3⟩
        have := (s.spot k' b').2 ⟨g1, g3⟩
        rw [(s.spot k' b).2 ⟨hbT, e.symm⟩] at this
        exact absurd (Option.some.inj this).symm g2
    · rw [if_neg e, s.spot]
      constructor
      · rintro ⟨g1, g2⟩; exact ⟨⟨g1, fun eb => e (by rw [← g2, eb])⟩, g2⟩
      · rintro ⟨⟨g1, _⟩, g3⟩; exact ⟨g1, g3⟩
  · left
    rcases hj with hj | hj | hj | hj
    · exact Or.inl hj
    · exact Or.inr (Or.inl hj)
    · exact Or.inr (Or.inr (Or.inl (hv ▸ hj)))
    · exact Or.inr (Or.inr (Or.inr ((hmem j).1 hj).1))
theorem St.up (s : St w h M v T E f L c) (hm : T.length = m + 1) (hp : p < m) : Up ((tsw T p m).take m).length (ord ((tsw T p m).take m) E) p := by
  have hl : ((tsw T p m).take m).length = m := by rw [List.length_take, tsw_len]; omega
  rw [hl]
  refine Up.of s.hp (by omega) (fun i hi hne => ?_)
  unfold ord
  rw [tg_take hi, tg_tsw (by omega) (by omega), if_neg (by omega), if_neg hne]
theorem St.hpCut (s : St w h M v T E f L c) (hm : T.length = m + 1) : Hp ((tsw T m m).take m).length (ord ((tsw T m m).take m) E) := by
  have hl : ((tsw T m m).take m).length = m := by rw [List.length_take, tsw_len]; omega
  rw [hl]
  intro i hi hin
  unfold ord
  rw [tg_take hin, tg_take (by omega), tg_tsw (by omega) (by omega), tg_tsw (by omega) (by omega), if_neg (by omega), if_neg (by omega), if_neg (by omega), if_neg (by omega)]
  exact s.hp i hi (by omega)
end
end HS
end Go.Proofs.Ytdbfojolocelaaa
