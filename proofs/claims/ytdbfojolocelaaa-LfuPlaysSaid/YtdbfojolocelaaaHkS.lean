/- The contract of a heap's Set, by what it leaves. -/
import Derived.Test.YtdbfojolocelaaaHjS
namespace Go.Proofs.Ytdbfojolocelaaa
namespace HS
open Go.RowKit Ht Go.Maps Go.WideMaps

theorem OpPost.before {w w1 w' : World} {h c : Nat} {S : Nat → Prop} {L : List (Ent Key)} {r : Value} {e : Ending} (hb : Below w.heap.size w w1) (hp : OpPost r w1 h S L c e w') : OpPost r w h S L c e w' := by
  obtain ⟨he, S', h1, h2, h3⟩ := hp
  exact ⟨he, S', h1, fun k hk => (h2 k hk).imp id (fun h => Nat.le_trans hb.size h), (Turn.of_below (S := S) hb).trans h3 (fun _ _ h => h)⟩

set_option maxHeartbeats 2000000 in
set_option maxRecDepth 100000 in
theorem set_any (w : World) (h : Nat) (S : Nat → Prop) (L : List (Ent Key)) (c : Nat) (k : Key) (r1 r2 : Int) (s : HS w h S L c) (hk : kok k) (hl : L.length ≤ 999) (hc : c ≤ 90000) :
    Calls Try.prog 45 #[.pointer (some ⟨h, 0, none⟩), .string k, .agg #[.int .i64 r1, .int .i64 r2]] w (OpPost (.tuple #[]) w h S (ins ⟨k, r1, r2, c + 1⟩ (rem L k)) (c + 1)) := by
  have B1 := Lib.hid ((Below.refl w.heap.size w).alloc (Nat.le_refl _) (.cells #[.int .i64 r1, .int .i64 r2] 73 (0, 0)))
  have BX := Lib.hid (heap_alloc_new w (.cells #[.int .i64 r1, .int .i64 r2] 73 (0, 0)))
  have HO := Lib.hid (And.intro s.once (And.intro s.srt s.ok))
  have s1 := s.alloc (.cells #[.int .i64 r1, .int .i64 r2] 73 (0, 0))
  have hbS : ¬ S w.heap.size := fun hs => by have := s.lt hs; omega
  obtain ⟨M, v, T, E, f, st, rfl⟩ := s1
  have FI := Lib.hid (find_any _ h M T.length f k st.hold.c0 st.mp hk)
  have hTl : T.length ≤ 999 := by rw [← st.len]; exact hl
  have hsz : w.heap.size < (w.alloc (.cells #[.int .i64 r1, .int .i64 r2] 73 (0, 0))).heap.size := by simp
  obtain ⟨w1, hw1⟩ : ∃ w1, w.alloc (.cells #[.int .i64 r1, .int .i64 r2] 73 (0, 0)) = w1 := ⟨_, rfl⟩
  rw [hw1] at B1 BX st FI hsz
  obtain ⟨bx, hbx⟩ : ∃ bx, w.heap.size = bx := ⟨_, rfl⟩
  have HBX := Lib.hid hbx
  rw [hbx] at BX hsz hbS
  cases hf : f k with
  | some b =>
    rw [hf] at FI
    obtain ⟨p, m1⟩ := Mid.old st hf
    have B2 := BX
    have MM := Lib.hid m1
    clear s st hf m1 hTl
    go_enter Try.func45, Try.ntmps45
    go_wp2_with fail
    clear hw1 hbx
    refine FI.out.mono ?_
    rintro e W ⟨rfl, rfl⟩
    unfold optr
    have m1 := MM.out
    obtain ⟨W, hW⟩ : ∃ W, w1 = W := ⟨_, rfl⟩
    subst hW
    have hh2 := m1.hold.c2
    have hf2 := m1.hold.hfr 2
    have i1 := m1.hold.i1 m1.lt
    have i2 := m1.hold.i2 m1.lt
    have i3 := m1.hold.i3 m1.lt
    have g1 := m1.hold.ifr m1.lt 1
    have g2 := m1.hold.ifr m1.lt 2
    have g3 := m1.hold.ifr m1.lt 3
    have hb := m1.item
    rw [hb] at i1 i2 i3 g1 g2 g3
    have hhb : h ≠ b := hb ▸ m1.hold.hi m1.lt
    have hbb : bx ≠ b := fun e => cells_ne B2.out (hb ▸ m1.hold.item _ m1.lt) (by decide) e
    have hbh : bx ≠ h := fun e => cells_ne B2.out m1.hold.own (by decide) e
    have x0 : w1.cell? ⟨bx, 0, none⟩ = some (.int .i64 r1) := cell_of_row w1 _ 0 _ _ _ B2.out
    have x1 : w1.cell? ⟨bx, 1, none⟩ = some (.int .i64 r2) := cell_of_row w1 _ 1 _ _ _ B2.out
    have R := Lib.hid (m1.ranked hc r1 r2)
    have M1 := Lib.hid m1
    have ec : (c : Int) + 1 = ((c + 1 : Nat) : Int) := by omega
    obtain ⟨c', hc'⟩ : ∃ c', c' = c + 1 := ⟨_, rfl⟩
    rw [← hc'] at ec R
    have HC := Lib.hid hc'
    have hcb : c' ≤ 100000 := by omega
    clear m1 hb hc'
    go_wp2_with fail
    go_region
    generalize ((((w1.setCell ⟨h, 2, none⟩ (.int .i64 (c' : Int))).setCell ⟨b, 1, none⟩ (.int .i64 r1)).setCell ⟨b, 2, none⟩ (.int .i64 r2)).setCell ⟨b, 3, none⟩ (.int .i64 (c' : Int))).drew = w2 at R ⊢
    clear hh2 hf2 i1 i2 i3 g1 g2 g3 x0 x1
    go_wp2_with fail
    have hdis : Dis T (upd E b ⟨k, r1, r2, c'⟩) := by
      have := (M1.out.perm ⟨k, r1, r2, c'⟩).map (·.set)
      unfold Dis
      rw [List.map_map] at this
      refine this.nodup_iff.2 (List.nodup_cons.2 ⟨fun hm => ?_, (HO.out.1.rem k).sets⟩)
      obtain ⟨e, he, hes⟩ := List.mem_map.1 hm
      have h1 := (HO.out.1.rem k).le e he
      have h2 : e.set = c' := hes
      have := HC.out
      omega
    refine (settle_any w2 h M v T (upd E b ⟨k, r1, r2, c'⟩) c' b p ⟨R.out.1, List.Perm.refl _, hdis, M1.out.lt, M1.out.item, Turn.refl _ _⟩ (M1.out.up _)).mono ?_
    intro e w3 hp
    have P3 := Lib.hid hp
    obtain rfl := hp.1
    clear hp
    go_wp2_with fail
    first | go_end0 | refine bodyPost_ret (results_none rfl _ _ _) rfl ?_
    have hc' := HC.out
    subst hc'
    exact OpPost.before B1.out (M1.out.done HO.out.1 HO.out.2.1 HO.out.2.2 hk r1 r2 R.out.1 R.out.2 P3.out)
  | none =>
    rw [hf] at FI
    have AD := Lib.hid (add_any w1 h M v T E f c k st.hold st.mp hTl hk hf)
    have ST := Lib.hid st
    have HF := Lib.hid hf
    clear s st hf hTl
    go_enter Try.func45, Try.ntmps45
    go_wp2_with fail
    clear hw1 hbx
    refine FI.out.mono ?_
    rintro e W ⟨rfl, rfl⟩
    unfold optr
    go_wp2_with fail
    refine AD.out.mono ?_
    rintro e W ⟨v', rfl, hH2, hM2, hT2, hloc⟩
    have B2 := Lib.hid ((hT2.block bx hsz hbS).trans BX.out)
    have m1 := Mid.new ST.out HF.out hH2 hM2 hT2 hloc
    clear hH2 hM2 hT2 hloc AD
    generalize T.length = p at m1
    generalize T ++ [w1.heap.size] = T at m1
    generalize upd E w1.heap.size ⟨k, 0, 0, 0⟩ = E at m1
    generalize w1.heap.size = b at m1 ⊢
    generalize v' = v at m1
    have hh2 := m1.hold.c2
    have hf2 := m1.hold.hfr 2
    have i1 := m1.hold.i1 m1.lt
    have i2 := m1.hold.i2 m1.lt
    have i3 := m1.hold.i3 m1.lt
    have g1 := m1.hold.ifr m1.lt 1
    have g2 := m1.hold.ifr m1.lt 2
    have g3 := m1.hold.ifr m1.lt 3
    have hb := m1.item
    rw [hb] at i1 i2 i3 g1 g2 g3
    have hhb : h ≠ b := hb ▸ m1.hold.hi m1.lt
    have hbb : bx ≠ b := fun e => cells_ne B2.out (hb ▸ m1.hold.item _ m1.lt) (by decide) e
    have hbh : bx ≠ h := fun e => cells_ne B2.out m1.hold.own (by decide) e
    have x0 : W.cell? ⟨bx, 0, none⟩ = some (.int .i64 r1) := cell_of_row W _ 0 _ _ _ B2.out
    have x1 : W.cell? ⟨bx, 1, none⟩ = some (.int .i64 r2) := cell_of_row W _ 1 _ _ _ B2.out
    have R := Lib.hid (m1.ranked hc r1 r2)
    have M1 := Lib.hid m1
    have ec : (c : Int) + 1 = ((c + 1 : Nat) : Int) := by omega
    obtain ⟨c', hc'⟩ : ∃ c', c' = c + 1 := ⟨_, rfl⟩
    rw [← hc'] at ec R
    have HC := Lib.hid hc'
    have hcb : c' ≤ 100000 := by omega
    clear m1 hb hc'
    go_wp2_with fail
    go_region
    generalize ((((W.setCell ⟨h, 2, none⟩ (.int .i64 (c' : Int))).setCell ⟨b, 1, none⟩ (.int .i64 r1)).setCell ⟨b, 2, none⟩ (.int .i64 r2)).setCell ⟨b, 3, none⟩ (.int .i64 (c' : Int))).drew = w2 at R ⊢
    clear hh2 hf2 i1 i2 i3 g1 g2 g3 x0 x1
    go_wp2_with fail
    have hdis : Dis T (upd E b ⟨k, r1, r2, c'⟩) := by
      have := (M1.out.perm ⟨k, r1, r2, c'⟩).map (·.set)
      unfold Dis
      rw [List.map_map] at this
      refine this.nodup_iff.2 (List.nodup_cons.2 ⟨fun hm => ?_, (HO.out.1.rem k).sets⟩)
      obtain ⟨e, he, hes⟩ := List.mem_map.1 hm
      have h1 := (HO.out.1.rem k).le e he
      have h2 : e.set = c' := hes
      have := HC.out
      omega
    refine (settle_any w2 h M v T (upd E b ⟨k, r1, r2, c'⟩) c' b p ⟨R.out.1, List.Perm.refl _, hdis, M1.out.lt, M1.out.item, Turn.refl _ _⟩ (M1.out.up _)).mono ?_
    intro e w3 hp
    have P3 := Lib.hid hp
    obtain rfl := hp.1
    clear hp
    go_wp2_with fail
    first | go_end0 | refine bodyPost_ret (results_none rfl _ _ _) rfl ?_
    have hc' := HC.out
    subst hc'
    exact OpPost.before B1.out (M1.out.done HO.out.1 HO.out.2.1 HO.out.2.2 hk r1 r2 R.out.1 R.out.2 P3.out)
end HS
end Go.Proofs.Ytdbfojolocelaaa
