/- The contracts of a cache's Request. -/
import Derived.Test.YthbokiebnniifaaCb
namespace Go.Proofs.Ythbokiebnniifaa
open Go.RowKit Sg

theorem load_step {w : World} {sb : Nat} {h o : Bool} {s : ByteArray} (k : Box w sb h s o) : (loadVar 34 ⟨sb, 0, none⟩).run Try.prog w = .ok (.agg #[.bool h, .string s, .bool o]) w := by
  obtain ⟨k0, k1, k2, _, _⟩ := k.cells
  unfold loadVar
  go_simp
theorem results_c {fn : Func} {a : Tmp} {ty : TypeId} (h : fn.results = #[.cell a ty]) (tmps : Array Value) (P : Program) (w : World) (p : Addr) (v : Value) (ha : tmps.getD a undef = .pointer (some p)) (hv : (loadVar ty p).run P w = .ok v w) :
    (results fn tmps).run P w = .ok v w := by
  rw [Array.getD_eq_getD_getElem?] at ha
  simp [results, h, ha, asAddr, hv]
theorem results_ct {fn : Func} {a u : Tmp} {ty : TypeId} (h : fn.results = #[.cell a ty, .tmp u]) (tmps : Array Value) (P : Program) (w : World) (p : Addr) (v : Value) (ha : tmps.getD a undef = .pointer (some p)) (hv : (loadVar ty p).run P w = .ok v w) :
    (results fn tmps).run P w = .ok (.tuple #[v, tmps.getD u undef]) w := by
  rw [Array.getD_eq_getD_getElem?] at ha
  simp [results, h, ha, asAddr, hv]
theorem results_cc {fn : Func} {a u : Tmp} {ty tu : TypeId} (h : fn.results = #[.cell a ty, .cell u tu]) (tmps : Array Value) (P : Program) (w : World) (p q : Addr) (v x : Value) (ha : tmps.getD a undef = .pointer (some p)) (hv : (loadVar ty p).run P w = .ok v w)
    (hu : tmps.getD u undef = .pointer (some q)) (hx : (loadVar tu q).run P w = .ok x w) : (results fn tmps).run P w = .ok (.tuple #[v, x]) w := by
  rw [Array.getD_eq_getD_getElem?] at ha hu
  simp [results, h, ha, hu, asAddr, hv, hx]

/-- The step is written out. -/
theorem Box.put {w : World} {sb : Nat} {h o : Bool} {s : ByteArray} (k : Box w sb h s o) (h' o' : Bool) (s' : ByteArray) : Box (((w.setCell ⟨sb, 0, none⟩ (.bool h')).setCell ⟨sb, 1, none⟩ (.string s')).setCell ⟨sb, 2, none⟩ (.bool o')) sb h' s' o' := by
  unfold Box at *
  have r1 : (w.setCell ⟨sb, 0, none⟩ (.bool h')).heap[sb]? = some (.cells #[.bool h', .string s, .bool o] 34 (0, 0)) := by rw [heap_setCell_same _ _ _ _ _ _ k]; rfl
  have r2 : ((w.setCell ⟨sb, 0, none⟩ (.bool h')).setCell ⟨sb, 1, none⟩ (.string s')).heap[sb]? = some (.cells #[.bool h', .string s', .bool o] 34 (0, 0)) := by rw [heap_setCell_same _ _ _ _ _ _ r1]; rfl
  rw [heap_setCell_same _ _ _ _ _ _ r2]; rfl

theorem req_zero (w : World) (c l M P : Nat) (ks : List ByteArray) (b : Nat) (key : ByteArray) (h : Raw w c l M P 0 ks b) (hl : ks.length ≤ 0) :
    Calls Try.prog 14 #[.pointer (some ⟨c, 0, none⟩), .string key] w (CaPost (stepV 0 ks key) w c (blk c l M P) 0 (reqK 0 ks key) b) := by
  have clt := h.clt
  have c0 := h.c0
  have hb := (Below.refl w.heap.size w).alloc (Nat.le_refl _) (.cells #[.bool false, .string ⟨#[]⟩, .bool false] 34)
  have R := Lib.hid (show CaPost (stepV 0 ks key) w c (blk c l M P) 0 (reqK 0 ks key) b (.returned (.agg #[.bool false, .string ⟨#[]⟩, .bool false])) (w.alloc (.cells #[.bool false, .string ⟨#[]⟩, .bool false] 34)) by
    refine ⟨rfl, _, ⟨l, M, P, rfl, ?_, by rw [reqK_zero]; simp⟩, fun k hk => Or.inl hk, Turn.of_below hb⟩
    rw [reqK_zero]
    obtain rfl : ks = [] := List.eq_nil_of_length_eq_zero (by omega)
    exact h.below hb)
  have B := Lib.hid (show Box (w.alloc (.cells #[.bool false, .string ⟨#[]⟩, .bool false] 34)) w.heap.size false ⟨#[]⟩ false from heap_alloc_new _ _)
  clear h hb
  go_enter Try.func14, Try.ntmps14
  go_wp2_with fail
  refine bodyPost_ret (results_c rfl _ _ _ ⟨w.heap.size, 0, none⟩ _ rfl (load_step B.out)) rfl ?_
  exact R.out

/-- What Request has laid ahead of its cut: the variable of its result, and that of its step. -/
abbrev two (w : World) (h : Bool) : World := (w.alloc (.cells #[.bool false, .string ⟨#[]⟩, .bool false] 34)).alloc (.cells #[.bool h, .string ⟨#[]⟩, .bool false] 34)
structure Mid (w W : World) (c l M P P' mo : Nat) (ks : List ByteArray) (b : Nat) (h o : Bool) (s : ByteArray) : Prop where
  raw : Raw W c l M P' mo ks b
  res : Box W w.heap.size false ⟨#[]⟩ false
  step : Box W (w.heap.size + 1) h s o
  turn : Turn (blk c l M P) w W
  next : P' = P ∨ w.heap.size + 2 ≤ P'
section
variable {w W W' : World} {c l M P P' mo b mo0 b0 : Nat} {ks ks0 : List ByteArray} {h o : Bool} {s : ByteArray}
theorem two_size (w : World) (h : Bool) : (two w h).heap.size = w.heap.size + 2 := by simp [two]
theorem Mid.start (hR : Raw w c l M P mo ks b) (h : Bool) : Mid w (two w h) c l M P P mo ks b h false ⟨#[]⟩ := by
  have b1 := (Below.refl w.heap.size w).alloc (Nat.le_refl _) (.cells #[.bool false, .string ⟨#[]⟩, .bool false] 34)
  have s1 : (w.alloc (.cells #[.bool false, .string ⟨#[]⟩, .bool false] 34)).heap.size = w.heap.size + 1 := by simp
  have b2 := b1.alloc (by omega) (.cells #[.bool h, .string ⟨#[]⟩, .bool false] 34)
  refine ⟨hR.below b2, ?_, ?_, Turn.of_below b2, Or.inl rfl⟩
  · exact (Below.heap_alloc _ _ _ (by omega)).trans (heap_alloc_new _ _)
  · have := heap_alloc_new (w.alloc (.cells #[.bool false, .string ⟨#[]⟩, .bool false] 34)) (.cells #[.bool h, .string ⟨#[]⟩, .bool false] 34)
    rw [s1] at this
    exact this
theorem Mid.sep (m : Mid w W c l M P P' mo ks b h o s) (hR : Raw w c l M P mo0 ks0 b0) : ¬ blk c l M P' w.heap.size ∧ ¬ blk c l M P' (w.heap.size + 1) := by
  have h1 := hR.clt
  have h2 := hR.llt
  have h3 := m.next
  constructor
  · rintro (h | h | h | h) <;> omega
  · rintro (h | h | h | h) <;> omega
/-- Front, and the step handed out. -/
theorem Mid.last (m : Mid w W c l M P P' mo ks b h o s) (hR : Raw w c l M P mo0 ks0 b0) {key : ByteArray} {e : Ending} {v : Value} {mm : Nat} (hp : OpPost v W l M P' (key :: rem ks.reverse key) mm e W') (hm : mm ≤ b + 1) :
    e = .returned v ∧ ∃ P2, Mid w W' c l M P P2 mo (rem ks key ++ [key]) (b + 1) h o s := by
  obtain ⟨P2, he, hP, hL, hT⟩ := hp
  have hT' : Turn (blk c l M P') W W' := turned_turn hT
  obtain ⟨n1, n2⟩ := m.sep hR
  have hsz := m.turn.size
  have hst := m.step.lt
  have h1 := hR.clt
  have h2 := hR.llt
  have h3 := m.next
  refine ⟨he, P2, m.raw.next hP hT hL hm (by rw [rem_rev]; simp), (hT'.block _ m.res.lt n1).trans m.res, (hT'.block _ m.step.lt n2).trans m.step, m.turn.trans hT' (fun k hk hS => ?_), ?_⟩
  · rcases hS with h | h | h | h
    · exact Or.inl h
    · exact Or.inr (Or.inl h)
    · exact Or.inr (Or.inr (Or.inl h))
    · rcases h3 with h3 | h3
      · exact Or.inr (Or.inr (Or.inr (h.trans h3)))
      · omega
  · rcases hP with rfl | hP
    · exact h3
    · exact Or.inr (by omega)
/-- The result's variable is written. -/
theorem Mid.out (m : Mid w W c l M P P' mo ks b h o s) (hR : Raw w c l M P mo0 ks0 b0) (hl : ks.length ≤ mo) :
    Box (((W.setCell ⟨w.heap.size, 0, none⟩ (.bool h)).setCell ⟨w.heap.size, 1, none⟩ (.string s)).setCell ⟨w.heap.size, 2, none⟩ (.bool o)) w.heap.size h s o ∧
    CaPost (.agg #[.bool h, .string s, .bool o]) w c (blk c l M P) mo ks b (.returned (.agg #[.bool h, .string s, .bool o])) (((W.setCell ⟨w.heap.size, 0, none⟩ (.bool h)).setCell ⟨w.heap.size, 1, none⟩ (.string s)).setCell ⟨w.heap.size, 2, none⟩ (.bool o)) := by
  obtain ⟨n1, n2⟩ := m.sep hR
  refine ⟨m.res.put h o s, rfl, _, ⟨l, M, P', rfl, ?_, hl⟩, blk_next (by rcases m.next with h | h; exact Or.inl h; exact Or.inr (by omega)), ((m.turn.setCell (p := ⟨w.heap.size, 0, none⟩) (Or.inr (Nat.le_refl _)) _).setCell (p := ⟨w.heap.size, 1, none⟩) (Or.inr (Nat.le_refl _)) _).setCell (p := ⟨w.heap.size, 2, none⟩) (Or.inr (Nat.le_refl _)) _⟩
  have q : ∀ k, blk c l M P' k → (((W.setCell ⟨w.heap.size, 0, none⟩ (.bool h)).setCell ⟨w.heap.size, 1, none⟩ (.string s)).setCell ⟨w.heap.size, 2, none⟩ (.bool o)).heap[k]? = W.heap[k]? := fun k hk => by
    have hne : k ≠ w.heap.size := fun e => n1 (e ▸ hk)
    rw [Below.heap_setCell _ _ _ _ hne, Below.heap_setCell _ _ _ _ hne, Below.heap_setCell _ _ _ _ hne]
  exact m.raw.same (by simp [World.setCell]) (q _ (Or.inl rfl)) (q _ (Or.inr (Or.inl rfl))) (q _ (Or.inr (Or.inr (Or.inl rfl)))) (q _ (Or.inr (Or.inr (Or.inr rfl))))
end

theorem req_hit (w : World) (c l M P mo : Nat) (ks : List ByteArray) (b : Nat) (key : ByteArray) (h : Raw w c l M P (mo + 1) ks b) (hl : ks.length ≤ mo + 1) (hi : inn ks key = true) (hs : key.size ≤ maxLen) (hb : b ≤ 980) :
    Calls Try.prog 14 #[.pointer (some ⟨c, 0, none⟩), .string key] w (CaPost (.agg #[.bool true, .string ⟨#[]⟩, .bool false]) w c (blk c l M P) (mo + 1) (rem ks key ++ [key]) (b + 1)) := by
  have clt := h.clt
  have c0 := h.c0
  have c1 := h.c1
  have ht := h.top
  have h1 := (h.below ((Below.refl w.heap.size w).alloc (Nat.le_refl _) (.cells #[.bool false, .string ⟨#[]⟩, .bool false] 34)))
  have U := hasC _ c l M P _ ks b key h1 hs
  rw [hi] at U
  have U := Lib.hid U
  have M0 := Lib.hid (Mid.start h true)
  have HH := Lib.hid h
  obtain ⟨m, hm, hL⟩ := M0.out.raw.lst
  have hmle := hL.le
  have U2 := Lib.hid (front_any _ l M P _ m key hL hs (by omega))
  have HM := Lib.hid (show max m ((rem ks.reverse key).length + 1) ≤ b + 1 by
    have := rem_le ks.reverse key
    have := hL.le
    omega)
  have HF := Lib.hid (show (rem ks key ++ [key]).length ≤ mo + 1 by
    have := rem_len h.nodup (inn_iff.1 hi)
    rw [List.length_append, List.length_cons, List.length_nil]; omega)
  clear h h1 hL hmle hm
  go_enter Try.func14, Try.ntmps14
  go_wp2_with fail
  refine U.out.mono ?_
  rintro e w1 ⟨rfl, rfl⟩
  go_wp2_with fail
  refine U2.out.mono ?_
  intro e w2 hp
  obtain ⟨rfl, P2, M2⟩ := M0.out.last HH.out hp HM.out
  have F := Lib.hid (M2.out HH.out HF.out)
  obtain ⟨k0, k1, k2, f1, f2⟩ := M2.step.cells
  obtain ⟨r0, r1, r2, g1, g2⟩ := M2.res.cells
  have g0 : w2.frozen? ⟨w.heap.size, 0, none⟩ = false := frozen_of_row w2 _ 0 _ _ M2.res
  clear hp M0 U2 M2 HM
  go_wp2_with fail
  refine bodyPost_ret (results_c rfl _ _ _ ⟨w.heap.size, 0, none⟩ _ rfl (load_step F.out.1)) rfl ?_
  exact F.out.2
theorem req_room (w : World) (c l M P mo : Nat) (ks : List ByteArray) (b : Nat) (key : ByteArray) (h : Raw w c l M P (mo + 1) ks b) (hl : ks.length ≤ mo) (hi : inn ks key = false) (hs : key.size ≤ maxLen) (hb : b ≤ 980) :
    Calls Try.prog 14 #[.pointer (some ⟨c, 0, none⟩), .string key] w (CaPost (.agg #[.bool false, .string ⟨#[]⟩, .bool false]) w c (blk c l M P) (mo + 1) (rem ks key ++ [key]) (b + 1)) := by
  have clt := h.clt
  have c0 := h.c0
  have c1 := h.c1
  have ht := h.top
  have h1 := (h.below ((Below.refl w.heap.size w).alloc (Nat.le_refl _) (.cells #[.bool false, .string ⟨#[]⟩, .bool false] 34)))
  have U := hasC _ c l M P _ ks b key h1 hs
  rw [hi] at U
  have U := Lib.hid U
  have M0 := Lib.hid (Mid.start h false)
  have HH := Lib.hid h
  have V := Lib.hid (fun f => cutQ_none _ c l M P _ ks b mo f M0.out.raw hl)
  obtain ⟨m, hm, hL⟩ := M0.out.raw.lst
  have hmle := hL.le
  have U2 := Lib.hid (front_any _ l M P _ m key hL hs (by omega))
  have HM := Lib.hid (show max m ((rem ks.reverse key).length + 1) ≤ b + 1 by
    have := rem_le ks.reverse key
    have := hL.le
    omega)
  have HF := Lib.hid (show (rem ks key ++ [key]).length ≤ mo + 1 by
    have := rem_le ks key
    rw [List.length_append, List.length_cons, List.length_nil]; omega)
  clear h h1 hL hmle hm
  go_enter Try.func14, Try.ntmps14
  go_wp2_with fail
  refine U.out.mono ?_
  rintro e w1 ⟨rfl, rfl⟩
  go_wp2_with fail
  refine (V.out _).mono ?_
  rintro e w1 ⟨rfl, rfl⟩
  go_wp2_with fail
  refine U2.out.mono ?_
  intro e w2 hp
  obtain ⟨rfl, P2, M2⟩ := M0.out.last HH.out hp HM.out
  have F := Lib.hid (M2.out HH.out HF.out)
  obtain ⟨k0, k1, k2, f1, f2⟩ := M2.step.cells
  obtain ⟨r0, r1, r2, g1, g2⟩ := M2.res.cells
  have g0 : w2.frozen? ⟨w.heap.size, 0, none⟩ = false := frozen_of_row w2 _ 0 _ _ M2.res
  clear hp M0 U2 M2 HM
  go_wp2_with fail
  refine bodyPost_ret (results_c rfl _ _ _ ⟨w.heap.size, 0, none⟩ _ rfl (load_step F.out.1)) rfl ?_
  exact F.out.2

theorem Mid.cut {w W W' : World} {c l M P P' mo b : Nat} {x : ByteArray} {ks : List ByteArray} {h o : Bool} {s : ByteArray} (m : Mid w W c l M P P' mo (x :: ks) b h o s) (hR : Raw w c l M P mo (x :: ks) b) (q : QRel W c l M P' mo x ks b (w.heap.size + 1) h o s 0 W') :
    ∃ P2, Mid w W' c l M P P2 mo ks b h true x := by
  obtain ⟨P2, hP, hT, hn, ⟨h0, _⟩ | ⟨_, hR2, hB2⟩⟩ := q
  · omega
  obtain ⟨n1, n2⟩ := m.sep hR
  have hsz := m.turn.size
  have hst := m.step.lt
  have h3 := m.next
  refine ⟨P2, hR2, (hT.block _ m.res.lt (fun e => by rcases e with e | e; exact n1 e; omega)).trans m.res, hB2, m.turn.trans hT (fun k hk hS => ?_), ?_⟩
  · rcases hS with h | h
    · rcases h with h | h | h | h
      · exact Or.inl h
      · exact Or.inr (Or.inl h)
      · exact Or.inr (Or.inr (Or.inl h))
      · rcases h3 with h3 | h3
        · exact Or.inr (Or.inr (Or.inr (h.trans h3)))
        · omega
    · omega
  · rcases hP with rfl | hP
    · exact h3
    · exact Or.inr (by omega)

theorem req_full (w : World) (c l M P : Nat) (x : ByteArray) (ks : List ByteArray) (b : Nat) (key : ByteArray) (h : Raw w c l M P (ks.length + 1) (x :: ks) b) (hi : inn (x :: ks) key = false) (hs : key.size ≤ maxLen) (hb : b ≤ 980) :
    Calls Try.prog 14 #[.pointer (some ⟨c, 0, none⟩), .string key] w (CaPost (.agg #[.bool false, .string x, .bool true]) w c (blk c l M P) (ks.length + 1) (rem ks key ++ [key]) (b + 1)) := by
  have clt := h.clt
  have c0 := h.c0
  have c1 := h.c1
  have ht := h.top
  have h1 := (h.below ((Below.refl w.heap.size w).alloc (Nat.le_refl _) (.cells #[.bool false, .string ⟨#[]⟩, .bool false] 34)))
  have U := hasC _ c l M P _ _ b key h1 hs
  rw [hi] at U
  have U := Lib.hid U
  have M0 := Lib.hid (Mid.start h false)
  have HH := Lib.hid h
  have V := Lib.hid (cutQ_one _ c l M P _ x ks b (w.heap.size + 1) _ _ _ M0.out.raw (M0.out.sep h).2 M0.out.step)
  have HF := Lib.hid (show (rem ks key ++ [key]).length ≤ ks.length + 1 by
    have := rem_le ks key
    rw [List.length_append, List.length_cons, List.length_nil]; omega)
  clear h h1
  go_enter Try.func14, Try.ntmps14
  go_wp2_with fail
  refine U.out.mono ?_
  rintro e w1 ⟨rfl, rfl⟩
  go_wp2_with fail
  refine V.out.mono ?_
  rintro e w2 ⟨rfl, hq⟩
  obtain ⟨P2, M2⟩ := M0.out.cut HH.out hq
  have d1 := M2.raw.c1
  obtain ⟨m, hm, hL⟩ := M2.raw.lst
  have hmle := hL.le
  have U2 := Lib.hid (front_any _ l M P2 _ m key hL hs (by omega))
  have HM := Lib.hid (show max m ((rem ks.reverse key).length + 1) ≤ b + 1 by
    have := rem_le ks.reverse key
    have := hL.le
    omega)
  have N2 := Lib.hid M2
  clear hq M0 hL hmle hm M2 U V c0 c1
  go_wp2_with fail
  refine U2.out.mono ?_
  intro e w3 hp
  obtain ⟨rfl, P3, M3⟩ := N2.out.last HH.out hp HM.out
  have F := Lib.hid (M3.out HH.out HF.out)
  obtain ⟨k0, k1, k2, f1, f2⟩ := M3.step.cells
  obtain ⟨r0, r1, r2, g1, g2⟩ := M3.res.cells
  have g0 : w3.frozen? ⟨w.heap.size, 0, none⟩ = false := frozen_of_row w3 _ 0 _ _ M3.res
  clear hp N2 U2 M3 HM
  go_wp2_with fail
  refine bodyPost_ret (results_c rfl _ _ _ ⟨w.heap.size, 0, none⟩ _ rfl (load_step F.out.1)) rfl ?_
  exact F.out.2

/-- Request, whatever is there. -/
theorem request_ca (w : World) (c : Nat) (S : Nat → Prop) (mo : Nat) (ks : List ByteArray) (b : Nat) (key : ByteArray) (h : Ca w c S mo ks b) (hs : key.size ≤ maxLen) (hb : b ≤ 980) :
    Calls Try.prog 14 #[.pointer (some ⟨c, 0, none⟩), .string key] w (CaPost (stepV mo ks key) w c S mo (reqK mo ks key) (b + 1)) := by
  obtain ⟨l, M, P, rfl, hR, hl⟩ := h
  have hnd := hR.nodup
  cases mo with
  | zero =>
    refine (req_zero w c l M P ks b key hR hl).mono ?_
    rintro e w' ⟨he, S', h1, h2⟩
    exact ⟨he, S', h1.mono (by omega), h2⟩
  | succ mo =>
    cases hi : inn ks key with
    | true =>
      have e1 : stepV (mo + 1) ks key = .agg #[.bool true, .string ⟨#[]⟩, .bool false] := by simp [stepV, hitB, vicK, outB, hi]
      rw [e1, reqK_hit hnd (inn_iff.1 hi) hl]
      exact req_hit w c l M P mo ks b key hR hl hi hs hb
    | false =>
      by_cases hf : ks.length ≤ mo
      · have e1 : stepV (mo + 1) ks key = .agg #[.bool false, .string ⟨#[]⟩, .bool false] := by
          have : ¬ (mo + 1 ≤ ks.length) := by omega
          simp [stepV, hitB, vicK, outB, hi, this]
        rw [e1, reqK_room (by omega)]
        exact req_room w c l M P mo ks b key hR hf hi hs hb
      · cases ks with
        | nil => simp at hf
        | cons x ks =>
          obtain rfl : mo = ks.length := by rw [List.length_cons] at hf hl; omega
          have e1 : stepV (ks.length + 1) (x :: ks) key = .agg #[.bool false, .string x, .bool true] := by simp [stepV, hitB, vicK, outB, hi]
          rw [e1, reqK_full (mo := ks.length + 1) (inn_no.1 hi) rfl]
          exact req_full w c l M P x ks b key hR hi hs hb
end Go.Proofs.Ythbokiebnniifaa
