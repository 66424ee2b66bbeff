/- The cache, the reference's cache and a call, side by side; the laws' own helper Few. -/
import Derived.Test.YtdbfojolocelaaaZh
namespace Go.Proofs.Ytdbfojolocelaaa
open Go.RowKit Ht HS Lf

/-- The cache at c has ks, the reference's in block bm has ys. -/
structure PyS (w0 W : World) (c : Nat) (T : Nat → Prop) (bm mo : Nat) (ch : Bool) (L : List (Ent Key)) (n mo' : Nat) (v : Value) (B : List (Ent Key)) : Prop where
  live : Live w0 W c T mo ch L n
  box : CBox W bm mo' ch v
  row : ∃ g, ZRow W g v B ∧ ¬ T g ∧ g ≠ bm
  out : ¬ T bm ∧ w0.heap.size ≤ bm
/-- .. and the call that is gone through lies in block ga. -/
structure PyA (w0 W : World) (c : Nat) (T : Nat → Prop) (bm mo : Nat) (ch : Bool) (L : List (Ent Key)) (n mo' : Nat) (v : Value) (B : List (Ent Key)) (ga : Nat) (kd : Int) (key : ByteArray) (nn : Int) : Prop where
  st : PyS w0 W c T bm mo ch L n mo' v B
  act : W.heap[ga]? = some (.cells #[.int .i64 kd, .string key, .int .i64 nn] 32 (0, 0))
  away : ¬ T ga ∧ ga ≠ bm
section
variable {w0 W W' : World} {c bm mo n mo' ga n' : Nat} {T T' : Nat → Prop} {ch : Bool} {L L' B : List (Ent Key)} {v r : Value} {kd nn : Int} {key : ByteArray} {e : Ending}
theorem PyS.below (s : PyS w0 W c T bm mo ch L n mo' v B) (hb : Below W.heap.size W W') : PyS w0 W' c T bm mo ch L n mo' v B := by
  obtain ⟨g, h1, h2⟩ := s.row
  exact ⟨s.live.below hb, s.box.below hb, ⟨g, h1.below hb, h2⟩, s.out⟩
theorem PyA.alt (s : PyA w0 W c T bm mo ch L n mo' v B ga kd key nn) : ga < W.heap.size := (Array.getElem?_eq_some_iff.1 s.act).1
theorem PyA.below (s : PyA w0 W c T bm mo ch L n mo' v B ga kd key nn) (hb : Below W.heap.size W W') : PyA w0 W' c T bm mo ch L n mo' v B ga kd key nn :=
  ⟨s.st.below hb, (hb.block ga s.alt).trans s.act, s.away⟩
theorem PyA.drew (s : PyA w0 W c T bm mo ch L n mo' v B ga kd key nn) : PyA w0 W.drew c T bm mo ch L n mo' v B ga kd key nn := s.below ⟨rfl, rfl, rfl, Nat.le_refl _, fun _ _ => rfl⟩
theorem PyS.alloc (s : PyS w0 W c T bm mo ch L n mo' v B) (kd : Int) (key : ByteArray) (nn : Int) : PyA w0 (W.alloc (.cells #[.int .i64 kd, .string key, .int .i64 nn] 32)) c T bm mo ch L n mo' v B W.heap.size kd key nn := by
  have hb := (Below.refl W.heap.size W).alloc (Nat.le_refl _) (.cells #[.int .i64 kd, .string key, .int .i64 nn] 32)
  have h1 := s.box.lt
  exact ⟨s.below hb, heap_alloc_new _ _, fun hk => by have := s.live.lt _ hk; omega, by omega⟩
theorem PyA.op (s : PyA w0 W c T bm mo ch L n mo' v B ga kd key nn) (hp : CaPost r W c T mo ch L' n' e W') : e = .returned r ∧ ∃ T', PyA w0 W' c T' bm mo ch L' n' mo' v B ga kd key nn := by
  obtain ⟨he, T', h1, h2⟩ := s.st.live.op hp
  have key1 : ∀ g, g < W.heap.size → ¬ T g → ¬ T' g := fun g hg hn hk => by
    rcases h2.new g hk with h | h
    · exact hn h
    · omega
  obtain ⟨g, q1, q2, q3⟩ := s.st.row
  refine ⟨he, T', ⟨h1, (h2.turn.block bm s.st.box.lt s.st.out.1).trans s.st.box, ?_, key1 bm s.st.box.lt s.st.out.1, s.st.out.2⟩, (h2.turn.block ga s.alt s.away.1).trans s.act, key1 ga s.alt s.away.1, s.away.2⟩
  by_cases hy : B = []
  · subst hy
    obtain ⟨A, cc, rfl⟩ := q1.shape
    refine ⟨W'.heap.size, ZRow.nil _ _ _ _, fun hk => by have := h1.lt _ hk; omega, ?_⟩
    have := s.st.box.lt
    have := h2.turn.size
    omega
  · have hlt := q1.lt hy
    exact ⟨g, q1.same h2.turn.size (fun _ => h2.turn.block g hlt q2), key1 g hlt q2, q3⟩
theorem PyA.res {m : Nat} (s : PyA w0 W c T bm mo ch L n mo' v B ga kd key nn) (hp : ResPost W c T m ch L n e W') : ∃ u T' g, e = .returned u ∧ Row W' g u ((keysL L).take (L.length - m)) ∧ PyA w0 W' c T' bm m ch (L.drop (L.length - m)) n mo' v B ga kd key nn ∧ (∀ g u zs, Row W g u zs → ¬ T g → Row W' g u zs) := by
  obtain ⟨u, T', he, hO, hC, hn, hT, hv⟩ := hp
  obtain ⟨gu, _, hru⟩ := hO.row
  have hsz := s.st.live.bel.size
  have hl : Live w0 W' c T' m ch (L.drop (L.length - m)) n := ⟨hC, s.st.live.bel.trans (hT.below s.st.live.low hsz), fun k hk => by rcases hn k hk with h | h; exact s.st.live.low k h; omega⟩
  have key1 : ∀ g, g < W.heap.size → ¬ T g → ¬ T' g := fun g hg hng hk => by
    rcases hn g hk with h | h
    · exact hng h
    · omega
  obtain ⟨g, q1, q2, q3⟩ := s.st.row
  refine ⟨u, T', gu, he, hru, ⟨⟨hl, (hT.block bm s.st.box.lt s.st.out.1).trans s.st.box, ?_, key1 bm s.st.box.lt s.st.out.1, s.st.out.2⟩, (hT.block ga s.alt s.away.1).trans s.act, key1 ga s.alt s.away.1, s.away.2⟩, fun g u zs hr hg => hr.same hT.size (fun hlt => hT.block g hlt hg)⟩
  by_cases hy : B = []
  · subst hy
    obtain ⟨A, cc, rfl⟩ := q1.shape
    refine ⟨W'.heap.size, ZRow.nil _ _ _ _, fun hk => by have := hl.lt _ hk; omega, ?_⟩
    have := s.st.box.lt
    have := hT.size
    omega
  · have hlt := q1.lt hy
    exact ⟨g, q1.same hT.size (fun _ => hT.block g hlt q2), key1 g hlt q2, q3⟩
/-- The reference's cache is laid anew. -/
theorem PyA.set {g : Nat} {u : Value} {B' : List (Ent Key)} (s : PyA w0 W c T bm mo ch L n mo' v B ga kd key nn) (hr : ZRow W g u B') (h1 : ¬ T g) (h2 : g ≠ bm) (m : Nat) : PyA w0 (((W.setCell ⟨bm, 0, none⟩ (.int .i64 (m : Int))).setCell ⟨bm, 1, none⟩ (.bool ch)).setCell ⟨bm, 2, none⟩ u) c T bm mo ch L n m u B' ga kd key nn := by
  have t : Turn (fun k => k = bm) W (((W.setCell ⟨bm, 0, none⟩ (.int .i64 (m : Int))).setCell ⟨bm, 1, none⟩ (.bool ch)).setCell ⟨bm, 2, none⟩ u) := (((Turn.refl (fun k => k = bm) _).put (p := ⟨bm, 0, none⟩) (Or.inl rfl) _).put (p := ⟨bm, 1, none⟩) (Or.inl rfl) _).put (p := ⟨bm, 2, none⟩) (Or.inl rfl) _
  refine ⟨⟨⟨s.st.live.ca.kept t (fun k hk e => s.st.out.1 (by have e : k = bm := e; exact e ▸ hk)), s.st.live.bel.trans (t.below (fun k hk => by have hk : k = bm := hk; subst hk; exact s.st.out.2) s.st.live.bel.size), s.st.live.low⟩, s.st.box.put m ch u, ⟨g, hr.three h2 _ _ _, h1, h2⟩, s.st.out⟩, (three_other _ _ _ _ _ _ s.away.2).trans s.act, s.away⟩
theorem PyA.k (s : PyA w0 W c T bm mo ch L n mo' v B ga kd key nn) : W.cell? ⟨ga, 0, none⟩ = some (.int .i64 kd) ∧ W.cell? ⟨ga, 1, none⟩ = some (.string key) ∧ W.cell? ⟨ga, 2, none⟩ = some (.int .i64 nn) :=
  ⟨cell_of_row W _ 0 _ _ _ s.act, cell_of_row W _ 1 _ _ _ s.act, cell_of_row W _ 2 _ _ _ s.act⟩
/-- What the reference's calls hand back lies beside. -/
theorem PyA.beside {g g' : Nat} (s : PyA w0 W c T bm mo ch L n mo' v B ga kd key nn) (h1 : ¬ T g) (h2 : g ≠ bm) (hg : g' = g ∨ W.heap.size ≤ g') : ¬ T g' ∧ g' ≠ bm := by
  rcases hg with rfl | hg
  · exact ⟨h1, h2⟩
  · exact ⟨fun hk => by have := s.st.live.lt _ hk; omega, by have := s.st.box.lt; omega⟩
theorem PyA.fresh (s : PyA w0 W c T bm mo ch L n mo' v B ga kd key nn) {g : Nat} (hg : W.heap.size ≤ g) : ¬ T g ∧ g ≠ bm ∧ ga ≠ g :=
  ⟨fun hk => by have := s.st.live.lt _ hk; omega, by have := s.st.box.lt; omega, by have := s.alt; omega⟩
/-- A step in a variable of its own, behind a call. -/
theorem PyA.opBox {z : Nat} {h o : Bool} {t : ByteArray} (s : PyA w0 W c T bm mo ch L n mo' v B ga kd key nn) (k : Box W z h t o) (hz : ¬ T z) (hp : CaPost r W c T mo ch L' n' e W') : Box W' z h t o := by
  obtain ⟨_, T', h1, h2⟩ := s.st.live.op hp
  exact (h2.turn.block z k.lt hz).trans k
end

/-- Few, told by what it leaves open alone. -/
def FewPost (n : Nat) (w : World) (e : Ending) (w' : World) : Prop := ∃ t : Bool, e = .returned (.bool t) ∧ w = w' ∧ (t = true → n ≤ 200)
theorem few_any (A : Option Addr) (n cc : Nat) (w : World) (S : Nat → ByteArray) (hn : n ≤ maxLen) (hS : ∀ i, i < n → (S i).size ≤ maxLen)
    (hc : 0 < n → ∃ g o, A = some ⟨g, o, none⟩ ∧ g < w.heap.size ∧ n ≤ cc ∧ cc ≤ maxLen ∧ ∀ i, i < n → w.cell? ⟨g, o + i * 3 + 1, none⟩ = some (.string (S i))) :
    Calls Try.prog 9 #[.slice A n cc] w (FewPost n w) := by
  have HC := Lib.hid hc
  have HS := Lib.hid hS
  unfold maxLen at hn
  clear hc hS
  go_enter Try.func9, Try.ntmps9
  go_wp2_with fail
  go_loop [3] (fun i => ∃ k : Nat, i = .int .i64 (k : Int) ∧ k ≤ n ∧ k ≤ 200) (fun i => n - (intOf i).toNat)
  case atStart => exact ⟨0, rfl, Nat.zero_le _, by omega⟩
  case round =>
    obtain ⟨k, rfl, hk, hk2⟩ := hrel
    by_cases hlt : k < n
    · have e0 : decide (k < n) = true := by simpa using hlt
      obtain ⟨g, o, rfl, hg, hc1, hc2, hcell⟩ := HC.out (by omega)
      have h1 := hcell k hlt
      have hsk := HS.out k hlt
      clear hcell
      unfold maxLen at hc2 hsk
      by_cases hb : k < 200
      · have e1 : decide (200 ≤ (k : Int)) = false := by simp; omega
        by_cases hbig : (S k).size ≤ 200
        · have e2 : decide (200 < ((S k).size : Int)) = false := by simp; omega
          go_wp2_with fail
          go_round
          case rel => exact ⟨k + 1, by go_num, by omega, by omega⟩
          case measure => simp [intOf]; omega
        · have e2 : decide (200 < ((S k).size : Int)) = true := by simp; omega
          go_wp2_with fail
          go_ret
          exact ⟨false, rfl, rfl, fun h => by cases h⟩
      · have e1 : decide (200 ≤ (k : Int)) = true := by simp; omega
        go_wp2_with fail
        go_ret
        exact ⟨false, rfl, rfl, fun h => by cases h⟩
    · have e0 : decide (k < n) = false := by simpa using hlt
      go_wp2_with fail
      go_ret
      exact ⟨true, rfl, rfl, fun _ => by omega⟩
end Go.Proofs.Ytdbfojolocelaaa
