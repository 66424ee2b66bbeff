/- The contracts of cutTo at Request's closure, and of Request. -/
import Derived.Test.YtdbfojolocelaaaFb
namespace Go.Proofs.Ytdbfojolocelaaa
open Go.RowKit Ht HS Lf

/-- The step of a request under way, in a variable of its own. -/
def Box (w : World) (sb : Nat) (h : Bool) (s : ByteArray) (o : Bool) : Prop := w.heap[sb]? = some (.cells #[.bool h, .string s, .bool o] 34 (0, 0))
section
variable {w : World} {sb : Nat} {h o : Bool} {s : ByteArray}
theorem Box.set (k : Box w sb h s o) (x : ByteArray) : Box ((w.setCell ⟨sb, 1, none⟩ (.string x)).setCell ⟨sb, 2, none⟩ (.bool true)) sb h x true := by
  unfold Box at *
  have r1 : (w.setCell ⟨sb, 1, none⟩ (.string x)).heap[sb]? = some (.cells #[.bool h, .string x, .bool o] 34 (0, 0)) := by rw [heap_setCell_same _ _ _ _ _ _ k]; rfl
  rw [heap_setCell_same _ _ _ _ _ _ r1]; rfl
theorem Box.cells (k : Box w sb h s o) : w.cell? ⟨sb, 0, none⟩ = some (.bool h) ∧ w.cell? ⟨sb, 1, none⟩ = some (.string s) ∧ w.cell? ⟨sb, 2, none⟩ = some (.bool o) ∧ w.frozen? ⟨sb, 1, none⟩ = false ∧ w.frozen? ⟨sb, 2, none⟩ = false :=
  ⟨cell_of_row w _ 0 _ _ _ k, cell_of_row w _ 1 _ _ _ k, cell_of_row w _ 2 _ _ _ k, frozen_of_row w _ 1 _ _ k, frozen_of_row w _ 2 _ _ k⟩
theorem Box.lt (k : Box w sb h s o) : sb < w.heap.size := (Array.getElem?_eq_some_iff.1 k).1
theorem Box.put (k : Box w sb h s o) (h' o' : Bool) (s' : ByteArray) : Box (((w.setCell ⟨sb, 0, none⟩ (.bool h')).setCell ⟨sb, 1, none⟩ (.string s')).setCell ⟨sb, 2, none⟩ (.bool o')) sb h' s' o' := by
  unfold Box at *
  have r1 : (w.setCell ⟨sb, 0, none⟩ (.bool h')).heap[sb]? = some (.cells #[.bool h', .string s, .bool o] 34 (0, 0)) := by rw [heap_setCell_same _ _ _ _ _ _ k]; rfl
  have r2 : ((w.setCell ⟨sb, 0, none⟩ (.bool h')).setCell ⟨sb, 1, none⟩ (.string s')).heap[sb]? = some (.cells #[.bool h', .string s', .bool o] 34 (0, 0)) := by rw [heap_setCell_same _ _ _ _ _ _ r1]; rfl
  rw [heap_setCell_same _ _ _ _ _ _ r2]; rfl
theorem load_step (k : Box w sb h s o) : (loadVar 34 ⟨sb, 0, none⟩).run Try.prog w = .ok (.agg #[.bool h, .string s, .bool o]) w := by
  obtain ⟨k0, k1, k2, _, _⟩ := k.cells
  unfold loadVar
  go_simp
end
theorem results_c {fn : Func} {a : Tmp} {ty : TypeId} (h : fn.results = #[.cell a ty]) (tmps : Array Value) (P : Program) (w : World) (p : Addr) (v : Value) (ha : tmps.getD a undef = .pointer (some p)) (hv : (loadVar ty p).run P w = .ok v w) :
    (results fn tmps).run P w = .ok v w := by
  rw [Array.getD_eq_getD_getElem?] at ha
  simp [results, h, ha, asAddr, hv]

theorem cloQ (w : World) (sb : Nat) (h o : Bool) (s x : ByteArray) (k : Box w sb h s o) :
    Calls Try.prog 36 #[.string x, .pointer (some ⟨sb, 0, none⟩)] w (fun e w' => e = .returned (.tuple #[]) ∧ Box w' sb h x true ∧ Turn (fun k => k = sb) w w') := by
  obtain ⟨k0, k1, k2, f1, f2⟩ := k.cells
  have R := Lib.hid (k.set x)
  clear k
  go_enter Try.func36, Try.ntmps36
  go_wp2_with fail
  go_end0
  exact ⟨rfl, R.out, ((Turn.refl (fun k => k = sb) w).put (p := ⟨sb, 1, none⟩) (Or.inl rfl) _).put (p := ⟨sb, 2, none⟩) (Or.inl rfl) _⟩

theorem cutQ_none (w : World) (c h : Nat) (T : Nat → Prop) (mo : Nat) (ch : Bool) (mk : Int) (L : List (Ent Key)) (n : Nat) (m : Nat) (f : Value) (r : Raw w c h T mo ch mk L n) (hn : L.length ≤ m) :
    Calls Try.prog 35 #[.pointer (some ⟨c, 0, none⟩), .int .i64 (m : Int), f] w (fun e w' => e = .returned (.tuple #[]) ∧ w = w') := by
  have U := Lib.hid (lenC w c h T mo ch mk L n r)
  have e0 : decide (m < L.length) = false := by simp; omega
  clear r
  go_enter Try.func35, Try.ntmps35
  go_wp2_with fail
  go_loopg [] 0 (fun k W => W = w)
  case atStart => rfl
  case round =>
    obtain rfl := hrel
    go_wp2_with fail
    refine U.out.mono ?_
    rintro e w1 ⟨rfl, rfl⟩
    go_wp2_with fail
    go_end0
    exact ⟨rfl, rfl⟩

/-- Where Request stands with its cut. -/
def QRel (w : World) (c h : Nat) (T : Nat → Prop) (mo : Nat) (ch : Bool) (mk : Int) (x : Ent Key) (L : List (Ent Key)) (n sb : Nat) (hb o : Bool) (s : ByteArray) (k : Nat) (W : World) : Prop :=
  ∃ T', (∀ k, T' k → T k ∨ w.heap.size ≤ k) ∧ Turn (fun k => T k ∨ k = sb) w W ∧ ¬ T' sb ∧ ((k = 1 ∧ Raw W c h T' mo ch mk (x :: L) n ∧ Box W sb hb s o) ∨ (k = 0 ∧ Raw W c h T' mo ch mk L n ∧ Box W sb hb x.key true))
theorem box_ne {w : World} {c h : Nat} {T : Nat → Prop} {mo : Nat} {ch : Bool} {mk : Int} {L : List (Ent Key)} {n sb : Nat} {hb o : Bool} {s : ByteArray} (r : Raw w c h T mo ch mk L n) (k : Box w sb hb s o) : c ≠ sb := cells_ne r.box k (by decide)

theorem cutQ_one (w : World) (c h : Nat) (T : Nat → Prop) (mo : Nat) (ch : Bool) (mk : Int) (x : Ent Key) (L : List (Ent Key)) (n sb : Nat) (hb o : Bool) (s : ByteArray) (r : Raw w c h T mo ch mk (x :: L) n) (hs : ¬ T sb) (hB : Box w sb hb s o) :
    Calls Try.prog 35 #[.pointer (some ⟨c, 0, none⟩), .int .i64 (L.length : Int), .func (.func 36) #[] #[.pointer (some ⟨sb, 0, none⟩)]] w (fun e w' => e = .returned (.tuple #[]) ∧ QRel w c h T mo ch mk x L n sb hb o s 0 w') := by
  have HH := Lib.hid r
  have HS := Lib.hid hs
  have HB := Lib.hid hB
  clear r hs hB
  go_enter Try.func35, Try.ntmps35
  go_wp2_with fail
  go_loopg [] 1 (fun k W => QRel w c h T mo ch mk x L n sb hb o s k W)
  case atStart => exact ⟨T, fun _ h => Or.inl h, Turn.refl _ _, HS.out, Or.inl ⟨rfl, HH.out, HB.out⟩⟩
  case round =>
    obtain ⟨T', hN, hT, hn, hrel | hrel⟩ := hrel
    · obtain ⟨rfl, hR, hB⟩ := hrel
      have U1 := lenC wr c h T' mo ch mk _ n hR
      rw [List.length_cons] at U1
      have U1 := Lib.hid U1
      have U2 := Lib.hid (show Calls Try.prog 19 #[.pointer (some ⟨c, 0, none⟩)] wr (OpR (.tuple #[.string x.key, .bool true]) wr c h T' mo ch mk L n) from dropC wr c h T' mo ch mk _ n hR)
      have H1 := Lib.hid hN
      have H2 := Lib.hid hT
      have H3 := Lib.hid hn
      have H4 := Lib.hid hB
      have H5 := Lib.hid hR
      have hlen := hR.len
      rw [List.length_cons] at hlen
      have e0 : decide (L.length < L.length + 1) = true := by simp
      clear hN hT hn hB hR
      go_wp2_with fail
      refine U1.out.mono ?_
      rintro e wr ⟨rfl, rfl⟩
      go_wp2_with fail
      refine U2.out.mono ?_
      rintro e w2 ⟨rfl, T2, hR, hN, hT⟩
      have N2 : ¬ T2 sb := fun hk => by
        rcases hN sb hk with h | h
        · exact H3.out h
        · have := H4.out.lt; omega
      have B2 : Box w2 sb hb s o := (hT.block sb H4.out.lt H3.out).trans H4.out
      have H6 := Lib.hid hN
      have H7 := Lib.hid hR
      have H8 := Lib.hid hT
      have H9 := Lib.hid N2
      have U3 := Lib.hid (cloQ w2 sb hb o s x.key B2)
      clear hN hR hT N2 B2 U1 U2
      go_wp2_with fail
      refine U3.out.mono ?_
      rintro e w3 ⟨rfl, hB3, hT3⟩
      have R3 := Lib.hid (show QRel w c h T mo ch mk x L n sb hb o s 0 w3 by
        have hsz := H2.out.size
        have t12 : Turn (fun k => T k ∨ k = sb) w w2 := H2.out.trans H8.out (fun k hk hS => by
          rcases H1.out k hS with h | h
          · exact Or.inl h
          · omega)
        refine ⟨T2, ?_, t12.trans hT3 (fun k _ e => Or.inr e), H9.out, Or.inr ⟨rfl, ?_, hB3⟩⟩
        · intro k hk
          rcases H6.out k hk with h | h
          · exact H1.out k h
          · exact Or.inr (by omega)
        · have hR := H7.out
          have hne := box_ne H5.out H4.out
          exact hR.keep fun k hk => hT3.block k (hR.lt hk) (fun e => by
            rcases hk with hk | hk
            · exact hne (hk ▸ e)
            · exact H9.out (by have e : k = sb := e; exact e ▸ hk)))
      clear hB3 hT3
      go_wp2_with fail
      go_roundg 0
      case measure => omega
      case rel => exact R3.out
    · obtain ⟨rfl, hR, hB⟩ := hrel
      have U1 := Lib.hid (lenC wr c h T' mo ch mk _ n hR)
      have R3 := Lib.hid (show QRel w c h T mo ch mk x L n sb hb o s 0 wr from ⟨T', hN, hT, hn, Or.inr ⟨rfl, hR, hB⟩⟩)
      have e0 : decide (L.length < L.length) = false := by simp
      clear hN hT hn hB hR
      go_wp2_with fail
      refine U1.out.mono ?_
      rintro e wr ⟨rfl, rfl⟩
      go_wp2_with fail
      go_end0
      exact ⟨rfl, R3.out⟩

/-! Request -/
abbrev zStep : Obj := .cells #[.bool false, .string ⟨#[]⟩, .bool false] 34
/-- Request under way: its result's variable is rb, its step's is sb. -/
structure Mid (w W : World) (c h : Nat) (T T' : Nat → Prop) (mo : Nat) (ch : Bool) (L : List (Ent Key)) (n rb sb : Nat) (hh o : Bool) (s : ByteArray) : Prop where
  raw : Raw W c h T' mo ch (sg ch * (n : Int)) L n
  res : Box W rb false ⟨#[]⟩ false
  step : Box W sb hh s o
  turn : Turn (blk c T) w W
  new : ∀ k, T' k → T k ∨ w.heap.size ≤ k
  rbT : ¬ T' rb
  sbT : ¬ T' sb
  ne : rb ≠ sb
  rb0 : w.heap.size ≤ rb
  sb0 : w.heap.size ≤ sb
section
variable {w w1 W W' : World} {c h mo n rb sb : Nat} {T T' : Nat → Prop} {ch : Bool} {L : List (Ent Key)} {hh o : Bool} {s : ByteArray}
theorem Mid.start (r : Raw w c h T mo ch (sg ch * (n : Int)) L n) (hb : Below (w.alloc zStep).heap.size (w.alloc zStep) w1) (hh : Bool) :
    Mid w (w1.alloc (.cells #[.bool hh, .string ⟨#[]⟩, .bool false] 34)) c h T T mo ch L n w.heap.size w1.heap.size hh false ⟨#[]⟩ := by
  have s1 : (w.alloc zStep).heap.size = w.heap.size + 1 := by simp
  have s2 := hb.size
  have b1 := (Below.refl w.heap.size w).alloc (Nat.le_refl _) zStep
  have b2 : Below w.heap.size w w1 := b1.trans (hb.mono (by omega))
  have b3 := b2.alloc (by omega) (.cells #[.bool hh, .string ⟨#[]⟩, .bool false] 34)
  have rlt : ∀ k, T k → k < w.heap.size := fun k hk => r.hs.lt hk
  refine ⟨r.below b3, ?_, heap_alloc_new _ _, Turn.of_below b3, fun k hk => Or.inl hk, fun hk => ?_, fun hk => ?_, by omega, Nat.le_refl _, by omega⟩
  · exact (Below.heap_alloc _ _ _ (by omega)).trans ((hb.block w.heap.size (by omega)).trans (heap_alloc_new _ _))
  · have := rlt _ hk; omega
  · have := rlt _ hk; omega
theorem Mid.count (m : Mid w W c h T T' mo ch L n rb sb hh o s) {key : Key} {e : Ending} (hp : CntPost W c h T' mo ch L n key e W') :
    e = .returned (.tuple #[]) ∧ ∃ T2, Mid w W' c h T T2 mo ch (put ch n L key) (n + 1) rb sb hh o s := by
  obtain ⟨he, T2, hR, hN, hT⟩ := hp
  have hsz := m.turn.size
  have n1 := box_ne m.raw m.res
  have n2 := box_ne m.raw m.step
  have q : ∀ k, k < W.heap.size → c ≠ k → ¬ T' k → W'.heap[k]? = W.heap[k]? := fun k hk h1 h2 => hT.block k hk (fun e => by rcases e with e | e; exact h1 e.symm; exact h2 e)
  refine ⟨he, T2, hR, (q _ m.res.lt n1 m.rbT).trans m.res, (q _ m.step.lt n2 m.sbT).trans m.step, m.turn.trans hT (fun k hk hS => ?_), fun k hk => ?_, fun hk => ?_, fun hk => ?_, m.ne, m.rb0, m.sb0⟩
  · rcases hS with h | h
    · exact Or.inl h
    · rcases m.new k h with h | h
      · exact Or.inr h
      · omega
  · rcases hN k hk with h | h
    · exact m.new k h
    · exact Or.inr (by omega)
  · rcases hN _ hk with h | h
    · exact m.rbT h
    · have := m.res.lt; omega
  · rcases hN _ hk with h | h
    · exact m.sbT h
    · have := m.step.lt; omega
theorem Mid.cut {x : Ent Key} (m : Mid w W c h T T' mo ch (x :: L) n rb sb hh o s) (q : QRel W c h T' mo ch (sg ch * (n : Int)) x L n sb hh o s 0 W') :
    ∃ T2, Mid w W' c h T T2 mo ch L n rb sb hh true x.key := by
  obtain ⟨T2, hN, hT, hn, ⟨h0, _⟩ | ⟨_, hR2, hB2⟩⟩ := q
  · omega
  have hsz := m.turn.size
  refine ⟨T2, hR2, (hT.block _ m.res.lt (fun e => by rcases e with e | e; exact m.rbT e; exact m.ne e)).trans m.res, hB2, m.turn.trans hT (fun k hk hS => ?_), fun k hk => ?_, fun hk => ?_, hn, m.ne, m.rb0, m.sb0⟩
  · rcases hS with h | h
    · rcases m.new k h with h | h
      · exact Or.inr h
      · omega
    · have := m.sb0; omega
  · rcases hN k hk with h | h
    · exact m.new k h
    · exact Or.inr (by omega)
  · rcases hN _ hk with h | h
    · exact m.rbT h
    · have := m.res.lt; omega
/-- The result's variable is written. -/
theorem Mid.out (m : Mid w W c h T T' mo ch L n rb sb hh o s) (hl : L.length ≤ mo) :
    Box (((W.setCell ⟨rb, 0, none⟩ (.bool hh)).setCell ⟨rb, 1, none⟩ (.string s)).setCell ⟨rb, 2, none⟩ (.bool o)) rb hh s o ∧
    CaPost (.agg #[.bool hh, .string s, .bool o]) w c (blk c T) mo ch L n (.returned (.agg #[.bool hh, .string s, .bool o])) (((W.setCell ⟨rb, 0, none⟩ (.bool hh)).setCell ⟨rb, 1, none⟩ (.string s)).setCell ⟨rb, 2, none⟩ (.bool o)) := by
  have n1 := box_ne m.raw m.res
  refine ⟨m.res.put hh o s, rfl, _, ⟨h, T', rfl, m.raw.keep fun k hk => ?_, hl⟩, blk_next m.new, ((m.turn.put (p := ⟨rb, 0, none⟩) (Or.inr m.rb0) _).put (p := ⟨rb, 1, none⟩) (Or.inr m.rb0) _).put (p := ⟨rb, 2, none⟩) (Or.inr m.rb0) _⟩
  have hne : k ≠ rb := fun e => by
    subst e
    rcases hk with h | h
    · exact n1 h.symm
    · exact m.rbT h
  rw [Below.heap_setCell _ _ _ _ hne, Below.heap_setCell _ _ _ _ hne, Below.heap_setCell _ _ _ _ hne]
end

theorem req_zero (w : World) (c h : Nat) (T : Nat → Prop) (ch : Bool) (L : List (Ent Key)) (n : Nat) (key : Key) (r : Raw w c h T 0 ch (sg ch * (n : Int)) L n) (hl : L.length ≤ 0) :
    Calls Try.prog 13 #[.pointer (some ⟨c, 0, none⟩), .string key] w (CaPost (.agg #[.bool false, .string ⟨#[]⟩, .bool false]) w c (blk c T) 0 ch L n) := by
  have clt := r.clt
  have c0 := r.c0
  have hb := (Below.refl w.heap.size w).alloc (Nat.le_refl _) zStep
  have R := Lib.hid (show CaPost (.agg #[.bool false, .string ⟨#[]⟩, .bool false]) w c (blk c T) 0 ch L n (.returned (.agg #[.bool false, .string ⟨#[]⟩, .bool false])) (w.alloc zStep) from
    ⟨rfl, _, ⟨h, T, rfl, r.below hb, hl⟩, fun k hk => Or.inl hk, Turn.of_below hb⟩)
  have B := Lib.hid (show Box (w.alloc zStep) w.heap.size false ⟨#[]⟩ false from heap_alloc_new _ _)
  clear r hb
  go_enter Try.func13, Try.ntmps13
  go_wp2_with fail
  refine bodyPost_ret (results_c rfl _ _ _ ⟨w.heap.size, 0, none⟩ _ rfl (load_step B.out)) rfl ?_
  exact R.out

set_option maxHeartbeats 1000000 in
theorem req_hit (w : World) (c h : Nat) (T : Nat → Prop) (mo : Nat) (ch : Bool) (L : List (Ent Key)) (n : Nat) (key : Key) (r : Raw w c h T (mo + 1) ch (sg ch * (n : Int)) L n) (hl : L.length ≤ mo + 1) (hi : isIn L key = true) (hs : key.size ≤ maxLen) (hn : n ≤ 90000) (h9 : L.length ≤ 999) :
    Calls Try.prog 13 #[.pointer (some ⟨c, 0, none⟩), .string key] w (CaPost (.agg #[.bool true, .string ⟨#[]⟩, .bool false]) w c (blk c T) (mo + 1) ch (put ch n L key) (n + 1)) := by
  have clt := r.clt
  have c0 := r.c0
  have ht := r.top
  have U := hasC _ c h T _ ch _ L n key (r.below ((Below.refl w.heap.size w).alloc (Nat.le_refl _) zStep)) hs
  rw [hi] at U
  have U := Lib.hid U
  have HH := Lib.hid r
  have HF := Lib.hid (show (put ch n L key).length ≤ mo + 1 by rw [put_len]; have := Lf.rem_len r.hs.once hi; omega)
  clear r
  go_enter Try.func13, Try.ntmps13
  go_wp2_with fail
  refine U.out.mono ?_
  rintro e w1 ⟨rfl, hb⟩
  have m0 := Mid.start HH.out hb true
  have M0 := Lib.hid m0
  have U2 := Lib.hid (countC _ c h T _ ch L n key m0.raw hs h9 hn)
  clear hb m0 U
  go_wp2_with fail
  refine U2.out.mono ?_
  intro e w2 hp
  obtain ⟨rfl, T2, M2⟩ := M0.out.count hp
  have F := Lib.hid (M2.out HF.out)
  obtain ⟨k0, k1, k2, f1, f2⟩ := M2.step.cells
  obtain ⟨r0, r1, r2, g1, g2⟩ := M2.res.cells
  have g0 : w2.frozen? ⟨w.heap.size, 0, none⟩ = false := frozen_of_row w2 _ 0 _ _ M2.res
  have hne := M2.ne
  clear hp M0 U2 M2
  go_wp2_with fail
  refine bodyPost_ret (results_c rfl _ _ _ ⟨w.heap.size, 0, none⟩ _ rfl (load_step F.out.1)) rfl ?_
  exact F.out.2
set_option maxHeartbeats 1000000 in
theorem req_room (w : World) (c h : Nat) (T : Nat → Prop) (mo : Nat) (ch : Bool) (L : List (Ent Key)) (n : Nat) (key : Key) (r : Raw w c h T (mo + 1) ch (sg ch * (n : Int)) L n) (hl : L.length ≤ mo) (hi : isIn L key = false) (hs : key.size ≤ maxLen) (hn : n ≤ 90000) (h9 : L.length ≤ 999) :
    Calls Try.prog 13 #[.pointer (some ⟨c, 0, none⟩), .string key] w (CaPost (.agg #[.bool false, .string ⟨#[]⟩, .bool false]) w c (blk c T) (mo + 1) ch (put ch n L key) (n + 1)) := by
  have clt := r.clt
  have c0 := r.c0
  have ht := r.top
  have U := hasC _ c h T _ ch _ L n key (r.below ((Below.refl w.heap.size w).alloc (Nat.le_refl _) zStep)) hs
  rw [hi] at U
  have U := Lib.hid U
  have HH := Lib.hid r
  have HF := Lib.hid (show (put ch n L key).length ≤ mo + 1 by rw [put_len]; have := Lf.rem_le L key; omega)
  clear r
  go_enter Try.func13, Try.ntmps13
  go_wp2_with fail
  refine U.out.mono ?_
  rintro e w1 ⟨rfl, hb⟩
  have m0 := Mid.start HH.out hb false
  have M0 := Lib.hid m0
  have d0 := m0.raw.c0
  have V := Lib.hid (fun f => cutQ_none _ c h T _ ch _ L n mo f m0.raw hl)
  have U2 := Lib.hid (countC _ c h T _ ch L n key m0.raw hs h9 hn)
  clear hb m0 U
  go_wp2_with fail
  refine (V.out _).mono ?_
  rintro e w1 ⟨rfl, rfl⟩
  go_wp2_with fail
  refine U2.out.mono ?_
  intro e w2 hp
  obtain ⟨rfl, T2, M2⟩ := M0.out.count hp
  have F := Lib.hid (M2.out HF.out)
  obtain ⟨k0, k1, k2, f1, f2⟩ := M2.step.cells
  obtain ⟨r0, r1, r2, g1, g2⟩ := M2.res.cells
  have g0 : w2.frozen? ⟨w.heap.size, 0, none⟩ = false := frozen_of_row w2 _ 0 _ _ M2.res
  have hne := M2.ne
  clear hp M0 U2 M2
  go_wp2_with fail
  refine bodyPost_ret (results_c rfl _ _ _ ⟨w.heap.size, 0, none⟩ _ rfl (load_step F.out.1)) rfl ?_
  exact F.out.2
set_option maxHeartbeats 1000000 in
theorem req_full (w : World) (c h : Nat) (T : Nat → Prop) (ch : Bool) (x : Ent Key) (L : List (Ent Key)) (n : Nat) (key : Key) (r : Raw w c h T (L.length + 1) ch (sg ch * (n : Int)) (x :: L) n) (hi : isIn (x :: L) key = false) (hs : key.size ≤ maxLen) (hn : n ≤ 90000) :
    Calls Try.prog 13 #[.pointer (some ⟨c, 0, none⟩), .string key] w (CaPost (.agg #[.bool false, .string x.key, .bool true]) w c (blk c T) (L.length + 1) ch (put ch n L key) (n + 1)) := by
  have clt := r.clt
  have c0 := r.c0
  have ht := r.top
  have h9 : L.length ≤ 999 := by have := r.len; rw [List.length_cons] at this; omega
  have U := hasC _ c h T _ ch _ (x :: L) n key (r.below ((Below.refl w.heap.size w).alloc (Nat.le_refl _) zStep)) hs
  rw [hi] at U
  have U := Lib.hid U
  have HH := Lib.hid r
  have HF := Lib.hid (show (put ch n L key).length ≤ L.length + 1 by rw [put_len]; have := Lf.rem_le L key; omega)
  clear r
  go_enter Try.func13, Try.ntmps13
  go_wp2_with fail
  refine U.out.mono ?_
  rintro e w1 ⟨rfl, hb⟩
  have m0 := Mid.start HH.out hb false
  have M0 := Lib.hid m0
  have d0 := m0.raw.c0
  have V := Lib.hid (cutQ_one _ c h T _ ch _ x L n w1.heap.size _ _ _ m0.raw m0.sbT m0.step)
  clear hb m0 U
  go_wp2_with fail
  refine V.out.mono ?_
  rintro e w2 ⟨rfl, hq⟩
  obtain ⟨T2, m2⟩ := M0.out.cut hq
  have U2 := Lib.hid (countC _ c h T2 _ ch L n key m2.raw hs h9 hn)
  have M2 := Lib.hid m2
  clear hq M0 m2 V c0 d0
  go_wp2_with fail
  refine U2.out.mono ?_
  intro e w3 hp
  obtain ⟨rfl, T3, M3⟩ := M2.out.count hp
  have F := Lib.hid (M3.out HF.out)
  obtain ⟨k0, k1, k2, f1, f2⟩ := M3.step.cells
  obtain ⟨r0, r1, r2, g1, g2⟩ := M3.res.cells
  have g0 : w3.frozen? ⟨w.heap.size, 0, none⟩ = false := frozen_of_row w3 _ 0 _ _ M3.res
  have hne := M3.ne
  clear hp M2 U2 M3
  go_wp2_with fail
  refine bodyPost_ret (results_c rfl _ _ _ ⟨w.heap.size, 0, none⟩ _ rfl (load_step F.out.1)) rfl ?_
  exact F.out.2

/-- Request, whatever is there. -/
theorem request_ca (w : World) (c : Nat) (S : Nat → Prop) (mo : Nat) (ch : Bool) (L : List (Ent Key)) (n : Nat) (key : Key) (a : Ca w c S mo ch L n) (hs : key.size ≤ maxLen) (hn : n ≤ 900) :
    Calls Try.prog 13 #[.pointer (some ⟨c, 0, none⟩), .string key] w (CaPost (stepV mo L key) w c S mo ch (reqL ch mo n L key) (reqN mo n)) := by
  have h9 : L.length ≤ 999 := by have := once_len a.once; omega
  obtain ⟨h, T, rfl, hR, hl⟩ := a
  cases mo with
  | zero => exact req_zero w c h T ch L n key hR hl
  | succ mo =>
    have en : reqN (mo + 1) n = n + 1 := by simp [reqN]
    rw [en]
    cases hi : isIn L key with
    | true =>
      have e1 : stepV (mo + 1) L key = .agg #[.bool true, .string ⟨#[]⟩, .bool false] := by simp [stepV, hitB, vicK, outB, hi]
      have e2 : reqL ch (mo + 1) n L key = put ch n L key := by simp [reqL, hi]
      rw [e1, e2]
      exact req_hit w c h T mo ch L n key hR hl hi hs (by omega) h9
    | false =>
      by_cases hf : L.length ≤ mo
      · have e1 : stepV (mo + 1) L key = .agg #[.bool false, .string ⟨#[]⟩, .bool false] := by
          have : ¬ (mo + 1 ≤ L.length) := by omega
          simp [stepV, hitB, vicK, outB, hi, this]
        have e2 : reqL ch (mo + 1) n L key = put ch n L key := by
          simp only [reqL, hi, show L.length + 1 - (mo + 1) = 0 by omega, List.drop_zero]; simp
        rw [e1, e2]
        exact req_room w c h T mo ch L n key hR hf hi hs (by omega) h9
      · cases L with
        | nil => simp at hf
        | cons x L =>
          obtain rfl : mo = L.length := by rw [List.length_cons] at hf hl; omega
          have e1 : stepV (L.length + 1) (x :: L) key = .agg #[.bool false, .string x.key, .bool true] := by simp [stepV, hitB, vicK, outB, hi, hdK]
          have e2 : reqL ch (L.length + 1) n (x :: L) key = put ch n L key := by
            simp only [reqL, hi, List.length_cons, show L.length + 1 + 1 - (L.length + 1) = 1 by omega, List.drop_succ_cons, List.drop_zero]; simp
          rw [e1, e2]
          exact req_full w c h T ch x L n key hR hi hs (by omega)
end Go.Proofs.Ytdbfojolocelaaa
