/- The contracts of a list's calls but Keys and Clear: New, Len, Has, Places, First, Last, Front, Back, Remove, Pop. -/
import Derived.Test.YtlmbeiijijkjeaaLoose
namespace Go.Proofs.Ytlmbeiijijkjeaa
open Go.RowKit Sg

theorem Lst.llt {w : World} {l M P m : Nat} {xs : List ByteArray} (h : Lst w l M P xs m) : l < w.heap.size ∧ M < w.heap.size ∧ P < w.heap.size := by
  obtain ⟨A, row, free, f, h1, _⟩ := h
  exact ⟨h1.llt, h1.Mlt, h1.Plt⟩
theorem Lst.nodup {w : World} {l M P m : Nat} {xs : List ByteArray} (h : Lst w l M P xs m) : xs.Nodup := by
  obtain ⟨A, row, free, f, _, _, h3, rfl, _⟩ := h
  exact h3.keys
theorem Lst.small {w : World} {l M P m : Nat} {xs : List ByteArray} (h : Lst w l M P xs m) : ∀ x ∈ xs, x.size ≤ maxLen := by
  obtain ⟨A, row, free, f, _, _, h3, rfl, _⟩ := h
  intro x hx
  obtain ⟨i, hi, rfl⟩ := List.mem_map.1 hx
  exact h3.small i hi
theorem Lst.le {w : World} {l M P m : Nat} {xs : List ByteArray} (h : Lst w l M P xs m) : xs.length ≤ m ∧ m ≤ 999 := by
  obtain ⟨A, row, free, f, h1, _, h3, rfl, h5⟩ := h
  have := h3.len
  have := h1.top
  rw [List.length_map]
  omega
theorem Lst.same {w w' : World} {l M P m : Nat} {xs : List ByteArray} (h : Lst w l M P xs m) (hs : w.heap.size ≤ w'.heap.size) (hl : w'.heap[l]? = w.heap[l]?) (hM : w'.heap[M]? = w.heap[M]?) (hP : w'.heap[P]? = w.heap[P]?) : Lst w' l M P xs m := by
  obtain ⟨A, row, free, f, h1, h2, h3⟩ := h
  exact ⟨A, row, free, f, h1.same hs hl hP, h2.same hM, h3⟩
theorem Lst.below {w w' : World} {l M P m : Nat} {xs : List ByteArray} (h : Lst w l M P xs m) (hb : Below w.heap.size w w') : Lst w' l M P xs m :=
  h.same hb.size (hb.block _ h.llt.1) (hb.block _ h.llt.2.1) (hb.block _ h.llt.2.2)
/-- Another list is as it was, where its blocks are others. -/
theorem Lst.kept {w w' : World} {l M P m a b c : Nat} {xs : List ByteArray} (h : Lst w l M P xs m) (ht : Turned w w' a b c) (h1 : l ≠ a ∧ l ≠ b ∧ l ≠ c) (h2 : M ≠ a ∧ M ≠ b ∧ M ≠ c) (h3 : P ≠ a ∧ P ≠ b ∧ P ≠ c) : Lst w' l M P xs m :=
  h.same ht.size (ht.block _ h.llt.1 h1.1 h1.2.1 h1.2.2) (ht.block _ h.llt.2.1 h2.1 h2.2.1 h2.2.2) (ht.block _ h.llt.2.2 h3.1 h3.2.1 h3.2.2)
theorem Lst.drew {w : World} {l M P m : Nat} {xs : List ByteArray} (h : Lst w l M P xs m) : Lst w.drew l M P xs m := h.same (Nat.le_refl _) rfl rfl rfl

def IntPost (z : Int) (w : World) (e : Ending) (w' : World) : Prop := e = .returned (.int .i64 z) ∧ w = w'
def BoolPost (b : Bool) (w : World) (e : Ending) (w' : World) : Prop := e = .returned (.bool b) ∧ w = w'
/-- What a call that turns the list leaves. -/
def OpPost (v : Value) (w : World) (l M P : Nat) (xs : List ByteArray) (m : Nat) (e : Ending) (w' : World) : Prop := ∃ P', e = .returned v ∧ (P' = P ∨ w.heap.size ≤ P') ∧ Lst w' l M P' xs m ∧ Turned w w' l M P

def lastKey (xs : List ByteArray) : ByteArray := xs.getLastD ⟨#[]⟩
def firstKey (xs : List ByteArray) : ByteArray := xs.headD ⟨#[]⟩
def anyKey (xs : List ByteArray) : Bool := !xs.isEmpty

theorem len_any (w : World) (l M P : Nat) (xs : List ByteArray) (m : Nat) (h : Lst w l M P xs m) :
    Calls Try.prog 47 #[.pointer (some ⟨l, 0, none⟩)] w (IntPost (xs.length : Int) w) := by
  obtain ⟨A, row, free, f, h1, h2, h3, rfl, h5⟩ := h
  have c1 := h1.own1
  have hl := fun ty => h2.len ty
  rw [List.length_map]
  clear h1 h2 h3 h5
  go_enter Try.func47, Try.ntmps47
  go_wp2_with fail
  go_ret
  exact ⟨rfl, rfl⟩

theorem has_any (w : World) (l M P : Nat) (xs : List ByteArray) (m : Nat) (key : ByteArray) (h : Lst w l M P xs m) (hs : key.size ≤ maxLen) :
    Calls Try.prog 27 #[.pointer (some ⟨l, 0, none⟩), .string key] w (BoolPost (inn xs key) w) := by
  obtain ⟨A, row, free, f, h1, h2, h3, rfl, h5⟩ := h
  have c1 := h1.own1
  have hl := h2.look hs
  have E := Lib.hid (h3.isSome key)
  clear h1 h2 h3 h5
  go_enter Try.func27, Try.ntmps27
  go_wp2_with fail
  go_ret
  exact ⟨ret_bool E.out, rfl⟩

theorem last_any (w : World) (l M P : Nat) (xs : List ByteArray) (m : Nat) (h : Lst w l M P xs m) :
    Calls Try.prog 46 #[.pointer (some ⟨l, 0, none⟩)] w (KeyPost (lastKey xs) (anyKey xs) w) := by
  obtain ⟨A, row, free, f, h1, h2, h3, rfl, h5⟩ := h
  obtain ⟨cap, hc1, hc2, c0, _, _⟩ := h1.own
  have ht := h1.top
  have hp := h1.pos
  obtain ⟨g1, g2, g3⟩ := h3.last
  have k2 : w.cell? ⟨P, 1, none⟩ = some (.int .i64 (A.pv 0 : Int)) := by have := (h1.place (i := 0) hp).2.1; simpa using this
  have U := Lib.hid (show Calls Try.prog 50 #[.pointer (some ⟨l, 0, none⟩), .int .i64 (A.pv 0 : Int)] w (KeyPost (lastKey (row.map A.K)) (anyKey (row.map A.K)) w) by
    have := keyAt_any w l M P A (A.pv 0) h1 g3
    rw [g1, g2] at this
    exact this)
  unfold maxLen at hc2
  clear h1 h2 h3 h5 g1 g2
  go_enter Try.func46, Try.ntmps46
  go_wp2_with fail
  refine U.out.mono ?_
  rintro e w1 ⟨rfl, rfl⟩
  go_wp2_with fail
  go_ret2
  exact ⟨rfl, rfl⟩

theorem front_any (w : World) (l M P : Nat) (xs : List ByteArray) (m : Nat) (key : ByteArray) (h : Lst w l M P xs m) (hs : key.size ≤ maxLen) (hm : m ≤ 990) :
    Calls Try.prog 40 #[.pointer (some ⟨l, 0, none⟩), .string key] w (OpPost (.tuple #[]) w l M P (key :: rem xs key) (max m ((rem xs key).length + 1))) := by
  have U := Lib.hid (loose_any w l M P xs m key h hs hm)
  clear h
  go_enter Try.func40, Try.ntmps40
  go_wp2_with fail
  refine U.out.mono ?_
  rintro e w1 ⟨P', a, A, row, free, f, rfl, hP, hH, hM, hL, hk, hr, hn, hT⟩
  have U2 := Lib.hid (link_any w1 l M P' A a 0 hH (hL.lt a (by simp)) hH.pos)
  have HP := Lib.hid hP
  have HH := Lib.hid hH
  have HM := Lib.hid hM
  have HL := Lib.hid hL
  have HK := Lib.hid hk
  have HR := Lib.hid hr
  have HN := Lib.hid hn
  have HT := Lib.hid hT
  clear hP hH hM hL hk hr hn hT U
  go_wp2_with fail
  refine Calls.mono U2.out ?_
  rintro e w2 ⟨rfl, hH2, hT2⟩
  go_wp2_with fail
  go_end0
  have hH := HH.out
  refine ⟨P', rfl, HP.out, ⟨_, a :: row, free, f, hH2, ?_, HL.out.front, ?_, HN.out⟩, HT.out.trans' HP.out hT2.wide⟩
  · rw [List.length_cons]
    exact HM.out.same (hT2.block M hH.Mlt (Ne.symm hH.lM) hH.MP hH.MP)
  · show _ = (a :: row).map A.K
    rw [List.map_cons, HK.out, HR.out]

theorem remove_none (w : World) (l M P : Nat) (xs : List ByteArray) (m : Nat) (key : ByteArray) (h : Lst w l M P xs m) (hs : key.size ≤ maxLen) (hi : inn xs key = false) :
    Calls Try.prog 32 #[.pointer (some ⟨l, 0, none⟩), .string key] w (OpPost (.bool (inn xs key)) w l M P (rem xs key) m) := by
  have HH := Lib.hid h
  obtain ⟨A, row, free, f, h1, h2, h3, rfl, h5⟩ := h
  have c1 := h1.own1
  have hl := h2.look hs
  rw [h3.isSome key, hi] at hl
  have E := Lib.hid hi
  clear h1 h2 h3 h5 hi
  go_enter Try.func32, Try.ntmps32
  go_wp2_with fail
  go_ret
  exact ⟨P, ret_bool E.out.symm, Or.inl rfl, by rw [rem_none (inn_no.1 E.out)]; exact HH.out, Turned.refl _ _ _ _⟩

/-- A place freed: its three cells, and the first empty one. -/
theorem emp_holds {w : World} {l M P : Nat} {A : Ar} {a ae : Nat} (h : Holds w l M P A) (ha : a < A.n) (he : A.e = ae) :
    Holds ((((w.setCell ⟨P, a * 3, none⟩ (.string ⟨#[]⟩)).setCell ⟨P, a * 3 + 1, none⟩ (.int .i64 0)).setCell ⟨P, a * 3 + 2, none⟩ (.int .i64 (ae : Int))).setCell ⟨l, 2, none⟩ (.int .i64 (a : Int))).drew l M P (emp A a) := by
  subst he
  have h1 := h.setK ha ⟨#[]⟩
  have h2 := h1.setPv (i := a) (v := 0) ha h.pos
  have h3 := h2.setNx (i := a) (v := A.e) ha h.ein
  exact (h3.setE ha).drew

set_option maxHeartbeats 1000000 in
theorem remove_some (w : World) (l M P : Nat) (A : Ar) (row free : List Nat) (f : ByteArray → Option Nat) (m : Nat) (key : ByteArray) (a : Nat) (h : Holds w l M P A) (hM : Mp w M f row.length) (hG : Good A row free f) (hn : A.n = m + 1) (hs : key.size ≤ maxLen) (hf : f key = some a) :
    Calls Try.prog 32 #[.pointer (some ⟨l, 0, none⟩), .string key] w (OpPost (.bool (inn (row.map A.K) key)) w l M P (rem (row.map A.K) key) m) := by
  obtain ⟨ha, hk⟩ := (hG.spot key a).1 hf
  have hi : inn (row.map A.K) key = true := by rw [← hG.isSome, hf]; rfl
  have hlt := hG.lt a (List.mem_append_left _ ha)
  have c1 := h.own1
  have hl := hM.look hs
  rw [hf] at hl
  have U := Lib.hid (unlink_any w l M P A a h hlt)
  have hrl := filter_len _ _ _ ha hG.keys
  have HG := Lib.hid hG
  have HM := Lib.hid hM
  have HK := Lib.hid hk
  have HA := Lib.hid ha
  have HN := Lib.hid hn
  have HF := Lib.hid hf
  have HI := Lib.hid hi
  have HRL := Lib.hid hrl
  have Mlt := h.Mlt
  have lM := h.lM
  have lP := h.lP
  have MP := h.MP
  have ht := h.top
  clear h hG hM hk ha hn hf hi hrl
  simp only [Option.getD_some, Option.isSome_some] at hl
  go_enter Try.func32, Try.ntmps32
  go_wp2_with fail
  refine U.out.mono ?_
  rintro e w1 ⟨rfl, hH, hT⟩
  have H1 := Lib.hid hH
  have T1 := Lib.hid hT
  clear hl c1 U
  have d1 := hH.own1
  have hM1 := HM.out.same (w' := w1) (hT.block M Mlt (Ne.symm lM) MP MP)
  rw [← HRL.out] at hM1
  obtain ⟨w2, hdel, hM2, hg2⟩ := hM1.drop hs (by rw [HF.out]; rfl) 0
  have hdel' : ∀ ty, (Builtin.delete_ #[61, 9] ty #[.map (some M), .string key]).run Try.prog w1 = .ok (.tuple #[]) w2 := fun _ => hdel
  have hH2 := hH.same hg2.size (hg2.block l hH.llt (by simpa using lM)) (hg2.block P hH.Plt (by simpa using Ne.symm MP))
  have H2 := Lib.hid hH2
  have M2 := Lib.hid hM2
  have G2 := Lib.hid hg2
  clear hH hT hM1 hdel hM2 hg2
  obtain ⟨cap, hc1, hc2, e0, e1, e2⟩ := hH2.own
  have hlt2 : a < (unl A a).n := hlt
  obtain ⟨k0, k1, k2⟩ := hH2.place hlt2
  have f0 := hH2.freeP (a * 3)
  have f1 := hH2.freeP (a * 3 + 1)
  have f2 := hH2.freeP (a * 3 + 2)
  have fl := hH2.freeL 2
  have hun : (unl A a).n = A.n := rfl
  rw [hun] at hc1 e0
  obtain ⟨ae, hae⟩ : ∃ ae, (unl A a).e = ae := ⟨_, rfl⟩
  rw [hae] at e2
  have R := Lib.hid (emp_holds (a := a) hH2 hlt2 hae)
  clear hH2 hae hun hlt2
  unfold maxLen at hc2
  go_wp2_with fail
  go_region
  go_wp2_with fail
  go_ret
  have hG2 := (HG.out.loosed HA.out).freed
  rw [show (unl A a).K a = key from HK.out] at hG2
  refine ⟨P, ret_bool HI.out.symm, Or.inl rfl, ⟨_, _, a :: free, fdel f key, R.out, ?_, hG2, ?_, HN.out⟩, ?_⟩
  · refine M2.out.same ?_
    show (World.setCell _ _ _).heap[_]? = _
    rw [heap_setCell_other _ _ _ _ (Ne.symm lM), heap_setCell_other _ _ _ _ MP, heap_setCell_other _ _ _ _ MP, heap_setCell_other _ _ _ _ MP]
  · rw [← HK.out, ← map_filter]
    refine List.map_congr_left fun i hi => ?_
    have hne : i ≠ a := by
      rintro rfl
      simp at hi
    show A.K i = upd A.K a ⟨#[]⟩ i
    rw [upd_ne hne]
  · exact (((((T1.out.wide.grown G2.out (fun k hk => by cases hk; exact Or.inr (Or.inl rfl))).setCell (p := ⟨P, a * 3, none⟩) (Or.inr (Or.inr rfl)) _).setCell (p := ⟨P, a * 3 + 1, none⟩) (Or.inr (Or.inr rfl)) _).setCell (p := ⟨P, a * 3 + 2, none⟩) (Or.inr (Or.inr rfl)) _).setCell (p := ⟨l, 2, none⟩) (Or.inl rfl) _).drew

theorem remove_any (w : World) (l M P : Nat) (xs : List ByteArray) (m : Nat) (key : ByteArray) (h : Lst w l M P xs m) (hs : key.size ≤ maxLen) :
    Calls Try.prog 32 #[.pointer (some ⟨l, 0, none⟩), .string key] w (OpPost (.bool (inn xs key)) w l M P (rem xs key) m) := by
  have h' := h
  obtain ⟨A, row, free, f, h1, h2, h3, rfl, h5⟩ := h
  cases hf : f key with
  | some a => exact remove_some w l M P A row free f m key a h1 h2 h3 h5 hs hf
  | none => exact remove_none w l M P _ m key h' hs (by rw [← h3.isSome, hf]; rfl)

theorem dropLast_rem {xs : List ByteArray} (h : xs.Nodup) (h0 : xs ≠ []) : rem xs (lastKey xs) = xs.dropLast ∧ lastKey xs ∈ xs := by
  rcases List.eq_nil_or_concat xs with rfl | ⟨ys, x, rfl⟩
  · exact absurd rfl h0
  · rw [List.concat_eq_append] at *
    have h1 := List.nodup_append.1 h
    have e : lastKey (ys ++ [x]) = x := by simp [lastKey]
    rw [e]
    refine ⟨?_, by simp⟩
    have hx : x ∉ ys := fun hx => h1.2.2 x hx x (by simp) rfl
    unfold rem
    rw [List.filter_append]
    have := rem_none hx
    unfold rem at this
    rw [this]
    simp

theorem pop_none (w : World) (l M P : Nat) (m : Nat) (h : Lst w l M P [] m) :
    Calls Try.prog 35 #[.pointer (some ⟨l, 0, none⟩)] w (OpPost (.tuple #[.string ⟨#[]⟩, .bool false]) w l M P [] m) := by
  have HH := Lib.hid h
  have U := Lib.hid (show Calls Try.prog 46 #[.pointer (some ⟨l, 0, none⟩)] w (KeyPost ⟨#[]⟩ false w) from last_any w l M P [] m h)
  clear h
  go_enter Try.func35, Try.ntmps35
  go_wp2_with fail
  refine U.out.mono ?_
  rintro e w1 ⟨rfl, rfl⟩
  go_wp2_with fail
  go_ret2
  exact ⟨P, rfl, Or.inl rfl, HH.out, Turned.refl _ _ _ _⟩

theorem pop_some (w : World) (l M P : Nat) (xs : List ByteArray) (m : Nat) (h : Lst w l M P xs m) (h0 : xs ≠ []) :
    Calls Try.prog 35 #[.pointer (some ⟨l, 0, none⟩)] w (OpPost (.tuple #[.string (lastKey xs), .bool true]) w l M P xs.dropLast m) := by
  have hd := dropLast_rem h.nodup h0
  have ha : anyKey xs = true := by cases xs <;> simp_all [anyKey]
  have U := Lib.hid (last_any w l M P xs m h)
  have U2 := Lib.hid (remove_any w l M P xs m (lastKey xs) h (h.small _ hd.2))
  rw [ha] at U
  rw [hd.1] at U2
  clear h h0 hd ha
  go_enter Try.func35, Try.ntmps35
  go_wp2_with fail
  refine U.out.mono ?_
  rintro e w1 ⟨rfl, rfl⟩
  go_wp2_with fail
  refine U2.out.mono ?_
  rintro e w1 ⟨P', rfl, hP, hL, hT⟩
  have HP := Lib.hid hP
  have HL := Lib.hid hL
  have HT := Lib.hid hT
  clear hP hL hT
  go_wp2_with fail
  go_ret2
  exact ⟨P', rfl, HP.out, HL.out, HT.out⟩

/-- Pop, whatever is there. -/
theorem pop_any (w : World) (l M P : Nat) (xs : List ByteArray) (m : Nat) (h : Lst w l M P xs m) :
    Calls Try.prog 35 #[.pointer (some ⟨l, 0, none⟩)] w (OpPost (.tuple #[.string (lastKey xs), .bool (anyKey xs)]) w l M P xs.dropLast m) := by
  by_cases h0 : xs = []
  · subst h0; exact pop_none w l M P m h
  · have := pop_some w l M P xs m h h0
    rw [show anyKey xs = true by cases xs <;> simp_all [anyKey]]
    exact this
end Go.Proofs.Ytlmbeiijijkjeaa
