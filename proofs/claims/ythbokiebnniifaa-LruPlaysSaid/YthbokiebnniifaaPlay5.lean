/- The cache, the reference's cache and a call, side by side; the laws' own helper Few. -/
import Derived.Test.YthbokiebnniifaaRr
namespace Go.Proofs.Ythbokiebnniifaa
open Go.RowKit Sg

/-- The cache at c has ks, the reference's in block bm has ys. -/
structure PyS (w0 W : World) (c : Nat) (T : Nat → Prop) (bm mo : Nat) (ks : List ByteArray) (b mo' : Nat) (v : Value) (ys : List ByteArray) : Prop where
  live : Live w0 W c T mo ks b
  box : CBox W bm mo' v
  row : ∃ g, Row W g v ys ∧ ¬ T g ∧ g ≠ bm
  out : ¬ T bm ∧ w0.heap.size ≤ bm
/-- .. and the call that is gone through lies in block ga. -/
structure PyA (w0 W : World) (c : Nat) (T : Nat → Prop) (bm mo : Nat) (ks : List ByteArray) (b mo' : Nat) (v : Value) (ys : List ByteArray) (ga : Nat) (kd : Int) (key : ByteArray) (nn : Int) : Prop where
  st : PyS w0 W c T bm mo ks b mo' v ys
  act : W.heap[ga]? = some (.cells #[.int .i64 kd, .string key, .int .i64 nn] 32 (0, 0))
  away : ¬ T ga ∧ ga ≠ bm
section
variable {w0 W W' : World} {c bm mo b mo' ga b' : Nat} {T T' : Nat → Prop} {ks ks' ys : List ByteArray} {v r : Value} {kd nn : Int} {key : ByteArray} {e : Ending}
theorem PyS.below (s : PyS w0 W c T bm mo ks b mo' v ys) (hb : Below W.heap.size W W') : PyS w0 W' c T bm mo ks b mo' v ys := by
  obtain ⟨g, h1, h2⟩ := s.row
  exact ⟨s.live.below hb, s.box.below hb, ⟨g, h1.below hb, h2⟩, s.out⟩
theorem PyA.alt (s : PyA w0 W c T bm mo ks b mo' v ys ga kd key nn) : ga < W.heap.size := (Array.getElem?_eq_some_iff.1 s.act).1
theorem PyA.below (s : PyA w0 W c T bm mo ks b mo' v ys ga kd key nn) (hb : Below W.heap.size W W') : PyA w0 W' c T bm mo ks b mo' v ys ga kd key nn :=
  ⟨s.st.below hb, (hb.block ga s.alt).trans s.act, s.away⟩
theorem PyA.drew (s : PyA w0 W c T bm mo ks b mo' v ys ga kd key nn) : PyA w0 W.drew c T bm mo ks b mo' v ys ga kd key nn := s.below ⟨rfl, rfl, rfl, Nat.le_refl _, fun _ _ => rfl⟩
theorem PyS.alloc (s : PyS w0 W c T bm mo ks b mo' v ys) (kd : Int) (key : ByteArray) (nn : Int) : PyA w0 (W.alloc (.cells #[.int .i64 kd, .string key, .int .i64 nn] 32)) c T bm mo ks b mo' v ys W.heap.size kd key nn := by
  have hb := (Below.refl W.heap.size W).alloc (Nat.le_refl _) (.cells #[.int .i64 kd, .string key, .int .i64 nn] 32)
  have h1 := s.box.lt
  exact ⟨s.below hb, heap_alloc_new _ _, fun hk => by have := s.live.lt _ hk; omega, by omega⟩
theorem PyA.op (s : PyA w0 W c T bm mo ks b mo' v ys ga kd key nn) (hp : CaPost r W c T mo ks' b' e W') : e = .returned r ∧ ∃ T', PyA w0 W' c T' bm mo ks' b' mo' v ys ga kd key nn := by
  obtain ⟨he, T', h1, h2⟩ := s.st.live.op hp
  have key1 : ∀ g, g < W.heap.size → ¬ T g → ¬ T' g := fun g hg hn hk => by
    rcases h2.new g hk with h | h
    · exact hn h
    · omega
  obtain ⟨g, q1, q2, q3⟩ := s.st.row
  have q4 : Mine W T v ys := ⟨g, q1, q2⟩
  refine ⟨he, T', ⟨h1, (h2.turn.block bm s.st.box.lt s.st.out.1).trans s.st.box, ?_, key1 bm s.st.box.lt s.st.out.1, s.st.out.2⟩, (h2.turn.block ga s.alt s.away.1).trans s.act, key1 ga s.alt s.away.1, s.away.2⟩
  by_cases hy : ys = []
  · subst hy
    obtain ⟨A, cc, rfl⟩ := q1.shape
    refine ⟨W'.heap.size, Row.nil _ _ _ _, fun hk => by have := h1.lt _ hk; omega, ?_⟩
    have := s.st.box.lt
    have := h2.turn.size
    omega
  · have hlt := q1.lt hy
    exact ⟨g, q1.same h2.turn.size (fun _ => h2.turn.block g hlt q2), key1 g hlt q2, q3⟩
theorem PyA.res {n : Nat} (s : PyA w0 W c T bm mo ks b mo' v ys ga kd key nn) (hp : ResPost W c T n ks b e W') : ∃ u T' g, e = .returned u ∧ Row W' g u (ks.take (ks.length - n)) ∧ PyA w0 W' c T' bm n (lastN n ks) b mo' v ys ga kd key nn ∧ (∀ g u zs, Row W g u zs → ¬ T g → Row W' g u zs) := by
  obtain ⟨u, T', he, hO, hC, hn, hT, hv⟩ := hp
  obtain ⟨gu, _, hru⟩ := hO.row
  have hsz := s.st.live.bel.size
  have hl : Live w0 W' c T' n (lastN n ks) b := ⟨hC, s.st.live.bel.trans (hT.below s.st.live.low hsz), fun k hk => by rcases hn k hk with h | h; exact s.st.live.low k h; omega⟩
  have key1 : ∀ g, g < W.heap.size → ¬ T g → ¬ T' g := fun g hg hng hk => by
    rcases hn g hk with h | h
    · exact hng h
    · omega
  obtain ⟨g, q1, q2, q3⟩ := s.st.row
  refine ⟨u, T', gu, he, hru, ⟨⟨hl, (hT.block bm s.st.box.lt s.st.out.1).trans s.st.box, ?_, key1 bm s.st.box.lt s.st.out.1, s.st.out.2⟩, (hT.block ga s.alt s.away.1).trans s.act, key1 ga s.alt s.away.1, s.away.2⟩, fun g u zs hr hg => hr.same hT.size (fun hlt => hT.block g hlt hg)⟩
  by_cases hy : ys = []
  · subst hy
    obtain ⟨A, cc, rfl⟩ := q1.shape
    refine ⟨W'.heap.size, Row.nil _ _ _ _, fun hk => by have := hl.lt _ hk; omega, ?_⟩
    have := s.st.box.lt
    have := hT.size
    omega
  · have hlt := q1.lt hy
    exact ⟨g, q1.same hT.size (fun _ => hT.block g hlt q2), key1 g hlt q2, q3⟩
theorem live_set (l : Live w0 W c T mo ks b) (h1 : ¬ T bm) (h2 : w0.heap.size ≤ bm) (o : Nat) (u : Value) : Live w0 (W.setCell ⟨bm, o, none⟩ u) c T mo ks b := by
  have t : Turn (fun k => k = bm) W (W.setCell ⟨bm, o, none⟩ u) := (Turn.refl (fun k => k = bm) W).setCell (p := ⟨bm, o, none⟩) (Or.inl rfl) u
  exact ⟨l.ca.kept t (fun k hk e => h1 (e ▸ hk)), l.bel.setCell (p := ⟨bm, o, none⟩) h2 _, l.low⟩
/-- The reference's row is laid anew. -/
theorem PyA.setl {g : Nat} {u : Value} {zs : List ByteArray} (s : PyA w0 W c T bm mo ks b mo' v ys ga kd key nn) (hr : Row W g u zs) (h1 : ¬ T g) (h2 : g ≠ bm) : PyA w0 (W.setCell ⟨bm, 1, none⟩ u) c T bm mo ks b mo' u zs ga kd key nn :=
  ⟨⟨live_set s.st.live s.st.out.1 s.st.out.2 _ _, s.st.box.setL u, ⟨g, hr.set (q := ⟨bm, 1, none⟩) h2 _, h1, h2⟩, s.st.out⟩, (Below.heap_setCell _ _ _ _ s.away.2).trans s.act, s.away⟩
theorem PyA.setm {g : Nat} {u : Value} {zs : List ByteArray} (s : PyA w0 W c T bm mo ks b mo' v ys ga kd key nn) (hr : Row W g u zs) (h1 : ¬ T g) (h2 : g ≠ bm) (m : Nat) : PyA w0 ((W.setCell ⟨bm, 0, none⟩ (.int .i64 (m : Int))).setCell ⟨bm, 1, none⟩ u) c T bm mo ks b m u zs ga kd key nn := by
  have s1 : PyA w0 (W.setCell ⟨bm, 0, none⟩ (.int .i64 (m : Int))) c T bm mo ks b m v ys ga kd key nn := by
    obtain ⟨g', q1, q2, q3⟩ := s.st.row
    exact ⟨⟨live_set s.st.live s.st.out.1 s.st.out.2 _ _, s.st.box.setM m, ⟨g', q1.set (q := ⟨bm, 0, none⟩) q3 _, q2, q3⟩, s.st.out⟩, (Below.heap_setCell _ _ _ _ s.away.2).trans s.act, s.away⟩
  exact s1.setl (hr.set (q := ⟨bm, 0, none⟩) h2 _) h1 h2
theorem PyA.k (s : PyA w0 W c T bm mo ks b mo' v ys ga kd key nn) : W.cell? ⟨ga, 0, none⟩ = some (.int .i64 kd) ∧ W.cell? ⟨ga, 1, none⟩ = some (.string key) ∧ W.cell? ⟨ga, 2, none⟩ = some (.int .i64 nn) :=
  ⟨cell_of_row W _ 0 _ _ _ s.act, cell_of_row W _ 1 _ _ _ s.act, cell_of_row W _ 2 _ _ _ s.act⟩
/-- What the reference's calls hand back lies beside. -/
theorem PyA.beside {g g' : Nat} (s : PyA w0 W c T bm mo ks b mo' v ys ga kd key nn) (h1 : ¬ T g) (h2 : g ≠ bm) (hg : g' = g ∨ W.heap.size ≤ g') : ¬ T g' ∧ g' ≠ bm := by
  rcases hg with rfl | hg
  · exact ⟨h1, h2⟩
  · exact ⟨fun hk => by have := s.st.live.lt _ hk; omega, by have := s.st.box.lt; omega⟩
theorem PyA.fresh (s : PyA w0 W c T bm mo ks b mo' v ys ga kd key nn) {g : Nat} (hg : W.heap.size ≤ g) : ¬ T g ∧ g ≠ bm ∧ ga ≠ g :=
  ⟨fun hk => by have := s.st.live.lt _ hk; omega, by have := s.st.box.lt; omega, by have := s.alt; omega⟩
/-- A step in a variable of its own, behind a call. -/
theorem PyA.opBox {z : Nat} {h o : Bool} {t : ByteArray} (s : PyA w0 W c T bm mo ks b mo' v ys ga kd key nn) (k : Box W z h t o) (hz : ¬ T z) (hp : CaPost r W c T mo ks' b' e W') : Box W' z h t o := by
  obtain ⟨_, T', h1, h2⟩ := s.st.live.op hp
  exact (h2.turn.block z k.lt hz).trans k
end

/-- Few, told by what it leaves open alone. -/
def FewPost (n : Nat) (w : World) (e : Ending) (w' : World) : Prop := ∃ t : Bool, e = .returned (.bool t) ∧ w = w' ∧ (t = true → n ≤ 200)
theorem few_any (A : Option Addr) (n cc : Nat) (w : World) (S : Nat → ByteArray) (hn : n ≤ maxLen) (hS : ∀ i, i < n → (S i).size ≤ maxLen)
    (hc : 0 < n → ∃ g o, A = some ⟨g, o, none⟩ ∧ g < w.heap.size ∧ n ≤ cc ∧ cc ≤ maxLen ∧ ∀ i, i < n → w.cell? ⟨g, o + i * 3 + 1, none⟩ = some (.string (S i))) :
    Calls Try.prog 10 #[.slice A n cc] w (FewPost n w) := by
  have HC := Lib.hid hc
  have HS := Lib.hid hS
  unfold maxLen at hn
  clear hc hS
  go_enter Try.func10, Try.ntmps10
  go_wp2_with fail
  go_loop [3] (fun i => ∃ k : Nat, i = .int .i64 (k : Int) ∧ k ≤ n ∧ k ≤ 200) (fun i => n - (intOf i).toNat)
  case atStart => exact ⟨0, rfl, Nat.zero_le _, by omega⟩
  case round =>
    obtain ⟨k, rfl, hk, hk2⟩ := hrel
    by_cases hlt : k < n
    · have e0 : decide (k < n) = true := by simpa using hlt
      obtain ⟨g, o, rfl, hg, hc1, hc2, hcell⟩ := HC.out (by omega)
      have h1 := hcell k hlt
      have hsk := HS.out k hlt
      clear hcell
      unfold maxLen at hc2 hsk
      by_cases hb : k < 200
      · have e1 : decide (200 ≤ (k : Int)) = false := by simp; omega
        by_cases hbig : (S k).size ≤ 200
        · have e2 : decide (200 < ((S k).size : Int)) = false := by simp; omega
          go_wp2_with fail
          go_round
          case rel => exact ⟨k + 1, by go_num, by omega, by omega⟩
          case measure => simp [intOf]; omega
        · have e2 : decide (200 < ((S k).size : Int)) = true := by simp; omega
          go_wp2_with fail
          go_ret
          exact ⟨false, rfl, rfl, fun h => by cases h⟩
      · have e1 : decide (200 ≤ (k : Int)) = true := by simp; omega
        go_wp2_with fail
        go_ret
        exact ⟨false, rfl, rfl, fun h => by cases h⟩
    · have e0 : decide (k < n) = false := by simpa using hlt
      go_wp2_with fail
      go_ret
      exact ⟨true, rfl, rfl, fun _ => by omega⟩
end Go.Proofs.Ythbokiebnniifaa
