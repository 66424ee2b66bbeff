/- The contract of a list's loose: the key's place, linked to no other. -/
import Derived.Test.YtlmbeiijijkjeaaGood
namespace Go.Proofs.Ytlmbeiijijkjeaa
open Go.RowKit Sg

/-- A list in memory that reads as the row xs; its arena has m places. -/
def Lst (w : World) (l M P : Nat) (xs : List ByteArray) (m : Nat) : Prop := ∃ (A : Ar) (row free : List Nat) (f : ByteArray → Option Nat), Holds w l M P A ∧ Mp w M f row.length ∧ Good A row free f ∧ xs = row.map A.K ∧ A.n = m + 1

/-- .. with the key's place loose. -/
def LoosePost (w : World) (l M P : Nat) (xs : List ByteArray) (m : Nat) (key : ByteArray) (e : Ending) (w' : World) : Prop :=
  ∃ (P' a : Nat) (A : Ar) (row free : List Nat) (f : ByteArray → Option Nat), e = .returned (.int .i64 (a : Int)) ∧ (P' = P ∨ w.heap.size ≤ P') ∧ Holds w' l M P' A ∧ Mp w' M f (row.length + 1) ∧ Loose A row free f a ∧ A.K a = key ∧ row.map A.K = rem xs key ∧
    A.n = max m ((rem xs key).length + 1) + 1 ∧ Turned w w' l M P

theorem Holds.own1 {w : World} {l M P : Nat} {A : Ar} (h : Holds w l M P A) : w.cell? ⟨l, 1, none⟩ = some (.map (some M)) := by
  obtain ⟨_, _, _, _, h, _⟩ := h.own; exact h

theorem filter_len (row : List Nat) (K : Nat → ByteArray) (a : Nat) (ha : a ∈ row) (hk : (row.map K).Nodup) : (row.filter fun i => decide (K i ≠ K a)).length + 1 = row.length := by
  obtain ⟨xs, ys, rfl⟩ := List.append_of_mem ha
  rw [filter_split hk]
  simp only [List.length_append, List.length_cons]; omega

set_option maxHeartbeats 1000000 in
theorem loose_here (w : World) (l M P : Nat) (A : Ar) (row free : List Nat) (f : ByteArray → Option Nat) (m : Nat) (key : ByteArray) (a : Nat) (h : Holds w l M P A) (hM : Mp w M f row.length) (hG : Good A row free f) (hn : A.n = m + 1) (hs : key.size ≤ maxLen) (hf : f key = some a) :
    Calls Try.prog 48 #[.pointer (some ⟨l, 0, none⟩), .string key] w (LoosePost w l M P (row.map A.K) m key) := by
  obtain ⟨ha, hk⟩ := (hG.spot key a).1 hf
  have hlt := hG.lt a (List.mem_append_left _ ha)
  have c1 := h.own1
  have hl := hM.look hs
  rw [hf] at hl
  have U := Lib.hid (unlink_any w l M P A a h hlt)
  have HG := Lib.hid hG
  have HM := Lib.hid hM
  have HK := Lib.hid hk
  have HA := Lib.hid ha
  have HN := Lib.hid hn
  have Mlt := h.Mlt
  have lM := h.lM
  have MP := h.MP
  clear h hG hM hk ha hn hf
  simp only [Option.getD_some, Option.isSome_some] at hl
  go_enter Try.func48, Try.ntmps48
  go_wp2_with fail
  refine U.out.mono ?_
  rintro e w1 ⟨rfl, hH, hT⟩
  have H1 := Lib.hid hH
  have T1 := Lib.hid hT
  clear hH hT c1 hl
  go_wp2_with fail
  go_ret
  refine ⟨P, a, _, _, free, f, rfl, Or.inl rfl, H1.out, ?_, HG.out.loosed HA.out, HK.out, ?_, ?_, T1.out.wide⟩
  · rw [filter_len _ _ _ HA.out HG.out.keys]
    exact HM.out.same (T1.out.block M Mlt (Ne.symm lM) MP MP)
  · show (row.filter fun i => decide (A.K i ≠ A.K a)).map A.K = _
    rw [map_filter, HK.out]
  · show A.n = _
    have h1 := filter_len _ _ _ HA.out HG.out.keys
    have h2 := HG.out.len
    have h3 := map_filter A.K (A.K a) row
    rw [HK.out] at h3 h1
    rw [← h3, List.length_map, HN.out]
    have h4 := HN.out
    omega

/-- What stands behind the store of a key into a loose place, and of the place into the map. -/
theorem laid_key {w w1 : World} {l M P P' : Nat} {A : Ar} {f : ByteArray → Option Nat} {n a : Nat} {key : ByteArray} (hT : Turned w w1 l P P) (hP : P' = P ∨ w.heap.size ≤ P') (hH : Holds w1 l M P' A) (hM : Mp w M f n) (Mlt : M < w.heap.size) (lM : l ≠ M) (MP : M ≠ P)
    (ha : a < A.n) (hs : key.size ≤ maxLen) (hn : n ≤ 1000000) (hf : f key = none) :
    ∃ w3, (Instr.mapUpdate 61 (.map (some M)) (.string key) (.int .i64 (a : Int))).run Try.prog (w1.setCell ⟨P', a * 3, none⟩ (.string key)) = .ok () w3 ∧ Holds w3 l M P' { A with K := upd A.K a key } ∧ Mp w3 M (fput f key a) (n + 1) ∧ Turned w w3 l M P := by
  have ht := hH.top
  have hM1 : Mp (w1.setCell ⟨P', a * 3, none⟩ (.string key)) M f n := by
    refine hM.same ?_
    rw [heap_setCell_other _ _ _ _ (show M ≠ P' from hH.MP)]
    exact hT.block M Mlt (Ne.symm lM) MP MP
  obtain ⟨w3, hrun, hM3, hg⟩ := hM1.store hs hn hf (v := a) (by omega)
  have hH2 := hH.setK ha key
  refine ⟨w3, hrun, hH2.same hg.size (hg.block l hH2.llt (by simpa using lM)) (hg.block P' hH2.Plt (by simpa using Ne.symm hH.MP)), hM3, ?_⟩
  refine (Turned.trans' (d := P') hT.wide hP ((Turned.refl w1 l M P').setCell (p := ⟨P', a * 3, none⟩) (Or.inr (Or.inr rfl)) _)).grown hg ?_
  intro k hk
  cases hk
  exact Or.inr (Or.inl rfl)

set_option maxHeartbeats 1000000 in
theorem loose_old (w : World) (l M P : Nat) (A : Ar) (row free : List Nat) (f : ByteArray → Option Nat) (m : Nat) (key : ByteArray) (h : Holds w l M P A) (hM : Mp w M f row.length) (hG : Good A row free f) (hn : A.n = m + 1) (hs : key.size ≤ maxLen) (hf : f key = none) (he : A.e ≠ 0) :
    Calls Try.prog 48 #[.pointer (some ⟨l, 0, none⟩), .string key] w (LoosePost w l M P (row.map A.K) m key) := by
  have c1 := h.own1
  have hl := hM.look hs
  rw [hf] at hl
  have U := Lib.hid (take_old w l M P A h he)
  obtain ⟨free', hfr, hL⟩ := hG.taken he hf hs
  have HL := Lib.hid hL
  have HG := Lib.hid hG
  have HM := Lib.hid hM
  have HN := Lib.hid hn
  have HF := Lib.hid hf
  have HFR := Lib.hid hfr
  have hei := h.ein
  have ht := h.top
  have Mlt := h.Mlt
  have lM := h.lM
  have MP := h.MP
  have hrl : row.length ≤ 1000000 := by have := hG.len; omega
  clear h hG hM hn hf hL hfr he
  simp only [Option.getD_none, Option.isSome_none] at hl
  go_enter Try.func48, Try.ntmps48
  go_wp2_with fail
  refine U.out.mono ?_
  rintro e w1 ⟨rfl, hH, hT⟩
  have H1 := Lib.hid hH
  have T1 := Lib.hid hT
  obtain ⟨cap, hc1, hc2, d0, d1, _⟩ := hH.own
  obtain ⟨k0, _, _⟩ := hH.place (i := A.e) hei
  have fr := hH.freeP (A.e * 3)
  have lP := hH.lP
  have hc1' : A.n ≤ cap := hc1
  obtain ⟨w3, hrun, hH3, hM3, hT3⟩ := laid_key hT (Or.inl rfl) hH HM.out Mlt lM MP (a := A.e) hei hs hrl HF.out
  have H3 := Lib.hid hH3
  have M3 := Lib.hid hM3
  have T3 := Lib.hid hT3
  clear hH hT c1 hl hH3 hM3 hT3 hc1
  unfold maxLen at hc2
  go_wp2_with fail
  go_ret
  have hab := HG.out.absent HF.out
  have hL := HL.out
  have her : A.e ∉ row := fun hr => hL.out.2.1 (List.mem_cons_of_mem _ hr)
  refine ⟨P, A.e, _, row, free', _, rfl, Or.inl rfl, H3.out, M3.out, HL.out, upd_same _ _ _, ?_, ?_, T3.out⟩
  · rw [rem_none hab]
    exact List.map_congr_left fun i hi => upd_ne (fun e => her (e ▸ hi))
  · show A.n = _
    rw [rem_none hab, List.length_map]
    have h1 := HG.out.len
    have h2 := HN.out
    rw [HFR.out, List.length_cons] at h1
    omega

set_option maxHeartbeats 1000000 in
theorem loose_new (w : World) (l M P : Nat) (A : Ar) (row free : List Nat) (f : ByteArray → Option Nat) (m : Nat) (key : ByteArray) (h : Holds w l M P A) (hM : Mp w M f row.length) (hG : Good A row free f) (hn : A.n = m + 1) (hs : key.size ≤ maxLen) (hf : f key = none) (he : A.e = 0) (hm : m ≤ 990) :
    Calls Try.prog 48 #[.pointer (some ⟨l, 0, none⟩), .string key] w (LoosePost w l M P (row.map A.K) m key) := by
  have c1 := h.own1
  have hl := hM.look hs
  rw [hf] at hl
  have U := Lib.hid (take_new w l M P A h he (by omega))
  obtain ⟨hfr, hL⟩ := hG.grown he hf hs
  have HL := Lib.hid hL
  have HG := Lib.hid hG
  have HM := Lib.hid hM
  have HN := Lib.hid hn
  have HF := Lib.hid hf
  have HFR := Lib.hid hfr
  have ht : A.n ≤ 999 := by omega
  have Mlt := h.Mlt
  have lM := h.lM
  have MP := h.MP
  have hrl : row.length ≤ 1000000 := by have := hG.len; omega
  clear h hG hM hn hf hL hfr he
  simp only [Option.getD_none, Option.isSome_none] at hl
  go_enter Try.func48, Try.ntmps48
  go_wp2_with fail
  refine U.out.mono ?_
  rintro e w1 ⟨P', hP', rfl, hH, hT⟩
  have HP := Lib.hid hP'
  have hei : A.n < (grow A).n := by show A.n < A.n + 1; omega
  obtain ⟨cap, hc1, hc2, d0, d1, _⟩ := hH.own
  obtain ⟨k0, _, _⟩ := hH.place (i := A.n) hei
  have fr := hH.freeP (A.n * 3)
  have lP := hH.lP
  have hgn : (grow A).n = A.n + 1 := rfl
  rw [hgn] at hc1 d0
  obtain ⟨w3, hrun, hH3, hM3, hT3⟩ := laid_key hT hP' hH HM.out Mlt lM MP (a := A.n) hei hs hrl HF.out
  have H3 := Lib.hid hH3
  have M3 := Lib.hid hM3
  have T3 := Lib.hid hT3
  clear hH hT c1 hl hH3 hM3 hT3 hP' hei hgn
  unfold maxLen at hc2
  go_wp2_with fail
  go_ret
  have hab := HG.out.absent HF.out
  have hL := HL.out
  have her : A.n ∉ row := fun hr => hL.out.2.1 (List.mem_cons_of_mem _ hr)
  refine ⟨P', A.n, _, row, [], _, rfl, HP.out, H3.out, M3.out, HL.out, upd_same _ _ _, ?_, ?_, T3.out⟩
  · rw [rem_none hab]
    exact List.map_congr_left fun i hi => by
      have hne : i ≠ A.n := fun e => her (e ▸ hi)
      show upd (upd A.K A.n ⟨#[]⟩) A.n key i = _
      rw [upd_ne hne, upd_ne hne]
  · show A.n + 1 = _
    rw [rem_none hab, List.length_map]
    have h1 := HG.out.len
    have h2 := HN.out
    rw [HFR.out, List.length_nil] at h1
    omega

theorem loose_any (w : World) (l M P : Nat) (xs : List ByteArray) (m : Nat) (key : ByteArray) (h : Lst w l M P xs m) (hs : key.size ≤ maxLen) (hm : m ≤ 990) :
    Calls Try.prog 48 #[.pointer (some ⟨l, 0, none⟩), .string key] w (LoosePost w l M P xs m key) := by
  obtain ⟨A, row, free, f, h1, h2, h3, rfl, h5⟩ := h
  cases hf : f key with
  | some a => exact loose_here w l M P A row free f m key a h1 h2 h3 h5 hs hf
  | none =>
    by_cases he : A.e = 0
    · exact loose_new w l M P A row free f m key h1 h2 h3 h5 hs hf he hm
    · exact loose_old w l M P A row free f m key h1 h2 h3 h5 hs hf he
end Go.Proofs.Ytlmbeiijijkjeaa
