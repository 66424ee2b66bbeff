/- The contract of a heap's takeOff, by what it leaves. -/
import Derived.Test.YtdbfojolocelaaaHlS
namespace Go.Proofs.Ytdbfojolocelaaa
namespace HS
open Go.RowKit Ht Go.Maps Go.WideMaps

theorem Holds.same2 {w w' : World} {h M c : Nat} {v : Value} {T : List Nat} {E : Nat → Ent Key} (H : Holds w h M v T E c) (h1 : w'.heap[h]? = w.heap[h]?) (h2 : ∀ k, v.ownBlock = some k → w'.heap[k]? = w.heap[k]?) (h3 : ∀ k ∈ T, w'.heap[k]? = w.heap[k]?) : Holds w' h M v T E c := by
  refine ⟨h1.trans H.own, ?_, fun i hi => (h3 _ (tg_mem hi)).trans (H.item i hi), H.top, H.ctop⟩
  rcases H.tree with hz | ⟨tb, cap, arr, rfl, g2, g3⟩
  · exact Or.inl hz
  · exact Or.inr ⟨tb, cap, arr, rfl, (h2 tb rfl).trans g2, g3⟩
/-- The map's block is none of the heap's others. -/
theorem Holds.grownM {w w' : World} {h M c n : Nat} {v : Value} {T : List Nat} {E : Nat → Ent Key} {f : Key → Option Nat} (H : Holds w h M v T E c) (hM : Mp w M f n) (hg : w.grownBy w' (some M)) : Holds w' h M v T E c := by
  refine H.same2 (hg.block h H.hlt (by simpa using H.hm hM)) (fun k hk => ?_) (fun k hk => ?_)
  · rcases H.tree with ⟨rfl, _⟩ | ⟨tb, cap, arr, rfl, g2, g3⟩
    · cases hk
    · cases hk
      refine hg.block tb (Array.getElem?_eq_some_iff.1 g2).1 ?_
      obtain ⟨es, c', hb⟩ := hM.obj
      intro e; injection e with e; rw [← e, g2] at hb; cases hb
  · obtain ⟨i, hi, rfl⟩ := mem_tg hk
    exact hg.block _ (H.ilt hi) (by simpa using Ne.symm (H.mi hM hi))

set_option maxHeartbeats 2000000 in
set_option maxRecDepth 100000 in
theorem takeOff_any (w : World) (h M : Nat) (v : Value) (T : List Nat) (E : Nat → Ent Key) (f : Key → Option Nat) (L : List (Ent Key)) (c b p : Nat) (s : St w h M v T E f L c) (hp : p < T.length) (hb : tg T p = b) :
    Calls Try.prog 47 #[.pointer (some ⟨h, 0, none⟩), .pointer (some ⟨b, 0, none⟩)] w (OpPost (.tuple #[]) w h (Blk h M v T) (rem L (E b).key) c) := by
  obtain ⟨tb, cap, rfl, hc1, hc2, arr, h2, h3, h6⟩ := s.hold.at (by omega)
  obtain ⟨m, hm⟩ : ∃ m, T.length = m + 1 := ⟨T.length - 1, by omega⟩
  have hlast : w.cell? ⟨tb, m, none⟩ = some (.pointer (some ⟨tg T m, 0, none⟩)) := (cell_of_row w _ _ _ _ _ h2).trans (h6 m (by omega))
  have c1 := s.hold.c1
  have i4 := s.hold.i4 hp
  have ht := s.hold.top
  rw [hb] at i4
  rw [hm] at c1 hc1 ht
  have em : ((m + 1 : Nat) : Int) - 1 = (m : Int) := by omega
  have SW := Lib.hid (swap_any w h M (.slice (some ⟨tb, 0, none⟩) T.length cap) T E c p m s.hold hp (by omega))
  have HS := Lib.hid s
  have HB := Lib.hid hb
  have HM := Lib.hid hm
  have HP := Lib.hid hp
  have F := Lib.hid (fun w => findable_any w (E b).key)
  have mlt := s.mp.lt
  unfold maxLen at hc2
  obtain ⟨key, hkey⟩ : ∃ k, (E b).key = k := ⟨_, rfl⟩
  have HK := Lib.hid hkey
  have hok : kok key := hkey ▸ s.ok _ (s.mem (hb ▸ tg_mem hp))
  obtain ⟨lb, hlb⟩ : ∃ x, tg T m = x := ⟨_, rfl⟩
  have HLB := Lib.hid hlb
  rw [hlb] at hlast
  rw [hkey] at F
  clear h2 h3 h6 s hb hp hkey hlb
  go_enter Try.func47, Try.ntmps47
  go_wp2_with fail
  refine SW.out.mono ?_
  rintro e w1 ⟨rfl, hH1, hT1⟩
  clear c1 i4 hlast
  have hl1 : (tsw T p m).length = m + 1 := by rw [tsw_len]; exact HM.out
  rw [hm] at hH1
  have hb1 : w1.heap[b]? = some (itemOf (E b) m) := by
    have := hH1.item m (by omega)
    rw [tg_tsw HP.out (by omega), if_pos rfl, HB.out] at this
    exact this
  obtain ⟨_, arr1, g2, g3, g4, g5, g6⟩ := hH1.tree.tl
  have c0 := hH1.c0
  have c1 := hH1.c1
  have t1 : w1.cell? ⟨tb, m, none⟩ = some (.pointer (some ⟨tg (tsw T p m) m, 0, none⟩)) := (cell_of_row w1 _ _ _ _ _ g2).trans (g6 m (by omega))
  have f1 : w1.frozen? ⟨tb, m, none⟩ = false := frozen_of_row w1 _ _ _ _ g2
  have f2 := hH1.hfr 1
  have k0 : w1.cell? ⟨b, 0, none⟩ = some (.string key) := by rw [← HK.out]; exact cell_of_row w1 _ 0 _ _ _ hb1
  have hMlow : ¬ Low (.slice (some ⟨tb, 0, none⟩) T.length cap) T M := by
    rintro (hl | hl)
    · injection hl with hl
      have hl : tb = M := hl
      have := HS.out.mp.obj
      obtain ⟨es, c', hq⟩ := this
      obtain ⟨_, arr0, q2, _⟩ := HS.out.hold.tree.tl
      rw [← hl, q2] at hq; cases hq
    · obtain ⟨i, hi, he⟩ := mem_tg hl
      exact HS.out.hold.mi HS.out.mp hi he.symm
  have mp1 : Mp w1 M f (m + 1) := by have := HS.out.mp.same (hT1.block M mlt hMlow); rw [HM.out] at this; exact this
  have nbh : b ≠ h := cells_ne hb1 hH1.own (by decide)
  have nbt : b ≠ tb := cells_ne hb1 g2 (by decide)
  have nht : h ≠ tb := cells_ne hH1.own g2 (by decide)
  have hH3 := hH1.cut hl1
  have nMh := Ne.symm (hH1.hm mp1)
  have nMt : M ≠ tb := by
    obtain ⟨es, c', hq⟩ := mp1.obj
    intro e; rw [e, g2] at hq; cases hq
  have nMb : M ≠ b := by
    obtain ⟨es, c', hq⟩ := mp1.obj
    intro e; rw [e, hb1] at hq; cases hq
  have mp3 : Mp ((w1.setCell ⟨tb, m, none⟩ (.pointer none)).setCell ⟨h, 1, none⟩ (.slice (some ⟨tb, 0, none⟩) m cap)) M f (m + 1) := mp1.same (by rw [heap_setCell_other _ _ _ _ nMh, heap_setCell_other _ _ _ _ nMt])
  have hb3 : ((w1.setCell ⟨tb, m, none⟩ (.pointer none)).setCell ⟨h, 1, none⟩ (.slice (some ⟨tb, 0, none⟩) m cap)).heap[b]? = some (itemOf (E b) m) := by rw [heap_setCell_other _ _ _ _ nbh, heap_setCell_other _ _ _ _ nbt]; exact hb1
  have T3 := Lib.hid (((hT1.wide (S' := Blk h M (.slice (some ⟨tb, 0, none⟩) T.length cap) T) (fun j _ hj => Or.inr (Or.inr hj))).setCell (p := ⟨tb, m, none⟩) (Or.inr (Or.inr (Or.inl rfl))) (.pointer none)).setCell (p := ⟨h, 1, none⟩) (Or.inl rfl) (.slice (some ⟨tb, 0, none⟩) m cap))
  have H3 := Lib.hid hH3
  have M3 := Lib.hid mp3
  have B3 := Lib.hid hb3
  clear hH1 hT1 hb1 g2 g3 g4 g5 g6 hH3 mp1 mp3 hb3 hMlow
  have HL1 := Lib.hid hl1
  clear hl1
  go_wp2_with fail
  refine (F.out _).mono ?_
  rintro e w' ⟨rfl, rfl⟩
  clear c0 c1 t1 f1 f2 k0
  generalize (w1.setCell ⟨tb, m, none⟩ (.pointer none)).setCell ⟨h, 1, none⟩ (.slice (some ⟨tb, 0, none⟩) m cap) = w3 at T3 H3 M3 B3 ⊢
  have c0 := H3.out.c0
  have k0 : w3.cell? ⟨b, 0, none⟩ = some (.string key) := by rw [← HK.out]; exact cell_of_row w3 _ 0 _ _ _ B3.out
  have hfs : (f key).isSome = true := by rw [← HK.out, (HS.out.spot (E b).key b).2 ⟨HB.out ▸ tg_mem HP.out, rfl⟩]; rfl
  obtain ⟨w4, hd4, hM4, hg4⟩ := Mp.drop (w := w3.drew) (M3.out.same rfl) hok hfs 0
  have hd : ∀ ty, (Builtin.delete_ #[78, 9] ty #[.map (some M), .string key]).run Try.prog w3.drew = .ok (.tuple #[]) w4 := fun _ => hd4
  have hH4 := Holds.grownM (w := w3.drew) (H3.out.same2 rfl (fun _ _ => rfl) (fun _ _ => rfl)) (M3.out.same rfl) hg4
  have hb4 : w4.heap[b]? = some (itemOf (E b) m) := (hg4.block b (Array.getElem?_eq_some_iff.1 B3.out).1 (by simpa using Ne.symm nMb)).trans B3.out
  have T4 := Lib.hid (T3.out.drew.grown hg4 (fun j hj => by cases hj; exact Or.inl (Or.inr (Or.inl rfl))))
  have H4 := Lib.hid hH4
  have B4 := Lib.hid hb4
  have M4 := Lib.hid hM4
  clear hd4 hM4 hg4 hH4 hb4 T3 H3 M3 B3 hfs
  go_wp2_with fail
  go_region
  clear hd c0 k0
  by_cases hpm : p = m
  · have hlbb : lb = b := by rw [← HLB.out, ← HB.out, hpm]
    subst hlbb
    have hq := neq_same w4 lb
    go_wp2_with fail
    go_end0
    have hs := HS.out
    have e1 := HK.out
    subst hpm
    exact hs.taken HM.out HP.out HB.out (v' := .slice (some ⟨tb, 0, none⟩) p cap) rfl (List.Perm.refl _) H4.out (by rw [e1]; exact M4.out) (hs.hpCut HM.out) T4.out
  · have hpl : p < m := by have := HP.out; have := HM.out; omega
    have hlen2 : ((tsw T p m).take m).length = m := by rw [List.length_take, HL1.out]; omega
    have htp : tg ((tsw T p m).take m) p = lb := by
      rw [tg_take hpl, tg_tsw HP.out (by omega), if_neg hpm, if_pos rfl]; exact HLB.out
    have hlb4 : w4.heap[lb]? = some (itemOf (E lb) p) := by
      have := H4.out.item p (by rw [hlen2]; exact hpl)
      rw [htp] at this; exact this
    have hne : lb ≠ b := fun e => hpm (HS.out.hold.inj HP.out (by omega) (by rw [HB.out, HLB.out, e]))
    have hq := neq_other w4 lb b _ _ _ _ hne hlb4 B4.out
    have HTP := Lib.hid htp
    have HL2 := Lib.hid hlen2
    clear htp hlen2 hlb4 hm
    go_wp2_with fail
    refine (settle_any w4 h M _ _ E c lb p ⟨H4.out, List.Perm.refl _, ?_, by rw [HL2.out]; exact hpl, HTP.out, Turn.refl _ _⟩ (HS.out.up HM.out hpl)).mono ?_
    · have := HS.out.dis.sw HP.out (show m < T.length by have := HM.out; omega)
      exact this.sublist ((List.take_sublist _ _).map _)
    rintro e w5 ⟨rfl, T', hH5, hT5, hHp5, ht5⟩
    have R5 := Lib.hid (And.intro hH5 (And.intro hT5 (And.intro hHp5 ht5)))
    clear hH5 hT5 hHp5 ht5 hq
    go_wp2_with fail
    first | go_end0 | refine bodyPost_ret (results_none rfl _ _ _) rfl ?_
    have hs := HS.out
    have e1 := HK.out
    obtain ⟨hH5, hT5, hHp5, ht5⟩ := R5.out
    have hMlow : ¬ Low (.slice (some ⟨tb, 0, none⟩) m cap) ((tsw T p m).take m) M := by
      rintro (hl | hl)
      · injection hl with hl
        exact nMt hl.symm
      · obtain ⟨i, hi, he⟩ := mem_tg hl
        exact H4.out.mi M4.out hi he.symm
    refine hs.taken HM.out HP.out HB.out (v' := .slice (some ⟨tb, 0, none⟩) m cap) rfl hT5 hH5 (by rw [e1]; exact M4.out.same (ht5.block M M4.out.lt hMlow)) hHp5 (T4.out.trans ht5 (fun j _ hj => ?_))
    rcases hj with hj | hj
    · exact Or.inr (Or.inr (Or.inl hj))
    · exact Or.inr (Or.inr (Or.inr ((tsw_perm HP.out (show m < T.length by have := HM.out; omega)).mem_iff.1 (List.mem_of_mem_take hj))))
end HS
end Go.Proofs.Ytdbfojolocelaaa
