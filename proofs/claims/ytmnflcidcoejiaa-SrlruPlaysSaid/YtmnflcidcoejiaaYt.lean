/- The contracts of a cache's Resize, Adopt, New. -/
import Derived.Test.YtmnflcidcoejiaaYs
import Derived.Deep.RegionLaw
import Derived.BigRegion
namespace Go.Proofs.Ytmnflcidcoejiaa
open Go.RowKit Sg

/-- 'append(gone, x)', and where it lies then. -/
theorem app_at {w : World} {base : Nat} {v : Value} {xs : List ByteArray} (h : Own w base v xs) (x : ByteArray) (hx : x.size ≤ maxLen) (hl : xs.length ≤ 1999) (hb : base ≤ w.heap.size) :
    ∃ (A : Option Addr) (cap : Nat) (w2 : World), (Builtin.append_ #[47, 47] 47 #[v, .slice (some ⟨w.heap.size, 0, none⟩) 1 1]).run Try.prog (w.alloc (.cells #[.string x] 9)) = .ok (.slice A (xs.length + 1) cap) w2 ∧
      Own w2 base (.slice A (xs.length + 1) cap) (xs ++ [x]) ∧ w.grownBy w2 v.ownBlock ∧ (∀ g, (Value.slice A (xs.length + 1) cap).ownBlock = some g → v.ownBlock = some g ∨ w.heap.size ≤ g) := by
  obtain ⟨i0, hi, hz0, hz1, hz2⟩ := info_parts infoStr
  obtain ⟨v', w2, hrun, hown2, hg, hnil, hloc⟩ := run_append_own_at (P := Try.prog) (w.alloc (.cells #[.string x] 9)) base 47 47 9 i0 _ 1 16
    Try.underlying47 hi hz0 hz1 hz2 rfl (by decide) _ _ _ (h.1.alloc _) ⟨w.heap.size, 0, none⟩ 1 1 [.string x] rfl (cell_one_new _ _ _) (by simp [Value.oneCell']) (by unfold maxLen; omega) (by omega) (by simp; omega)
  have hown3 := hown2
  rcases hown2.2 with ⟨_, h0⟩ | ⟨g, cap, cur, rfl, _⟩
  · omega
  refine ⟨_, cap, w2, hrun, ⟨?_, by rw [List.length_append]; simp only [List.length_cons, List.length_nil]; omega, fun y hy => ?_⟩, (World.grownBy_alloc w _ _).trans hg, fun g' hg' => ?_⟩
  · rw [List.map_append, List.length_append]; exact hown3
  · rcases List.mem_append.1 hy with h1 | h1
    · exact h.2.2 y h1
    · rw [List.mem_singleton.1 h1]; exact hx
  · rcases hloc with h1 | h1
    · exact Or.inl (h1 ▸ hg')
    · rw [h1] at hg'
      injection hg' with hg'
      rw [show (w.alloc (.cells #[.string x] 9)).heap.size = w.heap.size + 1 by simp] at hg'
      exact Or.inr (by omega)

/-- Who went, in a variable of its own. -/
def GBox (w : World) (gb : Nat) (v : Value) : Prop := w.heap[gb]? = some (.cells #[v] 47 (0, 0))
theorem GBox.lt {w : World} {gb : Nat} {v : Value} (k : GBox w gb v) : gb < w.heap.size := (Array.getElem?_eq_some_iff.1 k).1
theorem GBox.put {w : World} {gb : Nat} {v : Value} (k : GBox w gb v) (u : Value) : GBox (w.setCell ⟨gb, 0, none⟩ u) gb u := by
  unfold GBox at *
  rw [heap_setCell_same _ _ _ _ _ _ k]; rfl

theorem cloR (w : World) (gb base : Nat) (v : Value) (ts : List ByteArray) (x : ByteArray) (k : GBox w gb v) (o : Own w base v ts) (hl : ts.length ≤ 1999) (hx : x.size ≤ maxLen) (hb : base ≤ w.heap.size) (hne : v.ownBlock ≠ some gb) :
    Calls Try.prog 55 #[.string x, .pointer (some ⟨gb, 0, none⟩)] w (fun e w' => e = .returned (.tuple #[]) ∧ ∃ v', GBox w' gb v' ∧ Own w' base v' (ts ++ [x]) ∧ (∀ g, v'.ownBlock = some g → v.ownBlock = some g ∨ w.heap.size ≤ g) ∧ Turn (fun k => k = gb ∨ v.ownBlock = some k) w w') := by
  obtain ⟨A2, cap, w2, hrun, hown, hg, hloc⟩ := app_at o x hx hl hb
  obtain ⟨A1, c1, rfl⟩ := o.len
  have hgb := k.lt
  have k1 : w.cell? ⟨gb, 0, none⟩ = some (.slice A1 ts.length c1) := cell_of_row w _ 0 _ _ _ k
  have k2 : GBox w2 gb (.slice A1 ts.length c1) := (hg.block gb hgb (fun e => hne e.symm)).trans k
  have k3 : w2.cell? ⟨gb, 0, none⟩ = some (.slice A1 ts.length c1) := cell_of_row w2 _ 0 _ _ _ k2
  have k4 : w2.frozen? ⟨gb, 0, none⟩ = false := frozen_of_row w2 _ 0 _ _ k2
  have HRUN := Lib.hid hrun
  have R := Lib.hid (show ∃ v', GBox (w2.setCell ⟨gb, 0, none⟩ (.slice A2 (ts.length + 1) cap)) gb v' ∧ Own (w2.setCell ⟨gb, 0, none⟩ (.slice A2 (ts.length + 1) cap)) base v' (ts ++ [x]) ∧ (∀ g, v'.ownBlock = some g → (Value.slice A1 ts.length c1).ownBlock = some g ∨ w.heap.size ≤ g) ∧ Turn (fun k => k = gb ∨ (Value.slice A1 ts.length c1).ownBlock = some k) w (w2.setCell ⟨gb, 0, none⟩ (.slice A2 (ts.length + 1) cap)) by
    refine ⟨_, k2.put _, hown.same (fun g hg' => ?_), hloc, ?_⟩
    · refine Below.heap_setCell _ _ _ _ (fun e => ?_)
      have e : g = gb := e
      subst e
      rcases hloc g hg' with h | h
      · exact hne h
      · omega
    · have t1 : Turn (fun k => k = gb ∨ (Value.slice A1 ts.length c1).ownBlock = some k) w w2 := ⟨hg.os, hg.tape, hg.output, hg.size, fun i hi h1 => hg.block i hi (fun e => h1 (Or.inr e.symm))⟩
      exact t1.setCell (p := ⟨gb, 0, none⟩) (Or.inl (Or.inl rfl)) _)
  clear hrun hown hg hloc k k2 o hne
  go_enter Try.func55, Try.ntmps55
  go_wp2_with (at_builtin; refine wpList_append_run rfl _ _ _ rfl _ _ _ _ rfl rfl HRUN.out ?_)
  go_end0
  exact ⟨rfl, R.out⟩
def KR (gb base : Nat) (vs : List ByteArray) (X : Nat → Prop) (W : World) : Prop := ∃ v, X = (fun k => k = gb ∨ v.ownBlock = some k) ∧ GBox W gb v ∧ Own W base v vs ∧ base ≤ W.heap.size ∧ v.ownBlock ≠ some gb
theorem sideR (gb base : Nat) : Side 55 ⟨gb, 0, none⟩ (KR gb base) where
  enter := fun args w => by kernel_rfl
  lt := by
    rintro vs X W ⟨v, rfl, hB, hO, _⟩ k hk
    rcases hk with rfl | hk
    · exact hB.lt
    · exact (hO.lt hk).1
  same := by
    rintro vs X W W' ⟨v, rfl, hB, hO, hb, hn⟩ hs hk
    exact ⟨v, rfl, (hk gb (Or.inl rfl)).trans hB, hO.same fun g hg => hk g (Or.inr hg), by omega, hn⟩
  call := by
    rintro vs X W x ⟨v, rfl, hB, hO, hb, hn⟩ hl hx
    refine (cloR W gb base v vs x hB hO (by omega) hx hb hn).mono ?_
    rintro e W' ⟨he, v', hB', hO', hv, hT⟩
    have hsz := hT.size
    refine ⟨he, _, ⟨v', rfl, hB', hO', by omega, fun h => ?_⟩, fun k hk => ?_, hT⟩
    · rcases hv gb h with h | h
      · exact hn h
      · have := hB.lt; omega
    · rcases hk with rfl | hk
      · exact Or.inl (Or.inl rfl)
      · exact (hv k hk).imp Or.inr id

/-- What Resize leaves: n gone. -/
def ResPost (w : World) (i : Ix) (S : Sx) (mo t : Nat) (N A G : List ByteArray) (f : Told) (b : Nat) (gone : List ByteArray) (e : Ending) (w' : World) : Prop :=
  ∃ v S', e = .returned v ∧ Own w' w.heap.size v gone ∧ Raw w' i S' mo t N A G f b ∧ Went w w' (blk i S) (blk i S') ∧ ∀ g, v.ownBlock = some g → ¬ blk i S' g
def gone (n : Nat) (N A : List ByteArray) : Nat := A.length + N.length - n
abbrev cutN (n : Nat) (N A : List ByteArray) : List ByteArray := N.take (N.length - gone n N A)
abbrev cutA (n : Nat) (N A : List ByteArray) : List ByteArray := A.take (A.length + N.length - gone n N A)
abbrev cutQ (n : Nat) (N A G : List ByteArray) : List ByteArray := (A ++ N).drop (A.length + N.length - gone n N A) ++ G
theorem res_end {w w0 w1 w4 : World} {i : Ix} {S S1 : Sx} {mo t : Nat} {N A G : List ByteArray} {f : Told} {b n : Nat} (h0 : Went w w0 (blk i S) (blk i S1)) (hgb : ¬ blk i S1 w0.heap.size) (hb : Below w0.heap.size w0 w1) (hlt : w0.heap.size < w1.heap.size) (hgs : w.heap.size ≤ w0.heap.size)
    (h : CuPost w1 i S1 (fun k => k = w0.heap.size) (KR w0.heap.size w.heap.size) mo t N A G f b n (.returned (.tuple #[])) w4) :
    ∃ A1 m1 c1, w4.cell? ⟨w0.heap.size, 0, none⟩ = some (.slice A1 m1 c1) ∧ ResPost w i S mo t (N.take (N.length - n)) (A.take (A.length + N.length - n)) (((A ++ N).drop (A.length + N.length - n) ++ G).take mo) (tcut f (((A ++ N).drop (A.length + N.length - n) ++ G).drop mo)) b ((A ++ N).reverse.take n) (.returned (.slice A1 m1 c1)) w4 := by
  obtain ⟨_, S4, X4, r4, ⟨v, rfl, hB, hO, hbs, hn⟩, hW, hd⟩ := h
  have hs1 := hb.size
  have hs2 := hW.turn.size
  obtain ⟨A1, c1, rfl⟩ := hO.len
  refine ⟨A1, _, c1, cell_of_row w4 _ 0 _ _ _ hB, _, S4, rfl, hO, r4, ⟨fun k hk => ?_, ?_⟩, fun g hg => hd g (Or.inr hg)⟩
  · rcases hW.new k (Or.inl hk) with h | h
    · rcases h with h | h
      · exact h0.new k h
      · exact Or.inr (by omega)
    · exact Or.inr (by omega)
  · refine (h0.turn.trans (Turn.of_below (S := blk i S1) hb) (fun k hk hS => ?_)).trans hW.turn (fun k hk hS => ?_)
    · rcases h0.new k hS with h | h
      · exact h
      · omega
    · rcases hS with h | h
      · rcases h0.new k h with h | h
        · exact h
        · omega
      · omega

def mn (t mo : Nat) : Nat := if mo < t then mo else t
set_option maxHeartbeats 1000000 in
theorem resizeY (w : World) (i : Ix) (S : Sx) (mo t : Nat) (N A G : List ByteArray) (f : Told) (b : Nat) (z : Int) (n : Nat) (r : Raw w i S mo t N A G f b) (hz : -9223372036854775808 ≤ z ∧ z ≤ 9223372036854775807) (hn : n = z.toNat)
    (nd : (A ++ N ++ G).Nodup) (hl : A.length + N.length + G.length ≤ b) (hb : b ≤ 980) :
    Calls Try.prog 23 #[.pointer (some ⟨i.c, 0, none⟩), .int .i64 z] w (ResPost w i S n (mn t n) (cutN n N A) (cutA n N A) ((cutQ n N A G).take n) (tcut f ((cutQ n N A G).drop n)) b ((A ++ N).reverse.take (gone n N A))) := by
  obtain ⟨c0, _⟩ := r.cells
  obtain ⟨f0, _⟩ := r.froz
  have ht := r.top
  have e1 : (if z < 0 then (0 : Int) else z) = (n : Int) := by split <;> omega
  obtain ⟨r1, T1⟩ := r.setM n (by omega)
  have hmax : max z 0 = (n : Int) := by omega
  obtain ⟨u, hu⟩ : ∃ u, u = mn t n := ⟨_, rfl⟩
  have e2 : (if n < t then (n : Int) else (t : Int)) = (u : Int) := by rw [hu]; unfold mn; split <;> rfl
  have hult : u ≤ 9223372036854775807 := by rw [hu]; unfold mn; split <;> omega
  have HU := Lib.hid hu
  have R1 := Lib.hid r1
  have HT1 := Lib.hid T1
  clear hn hu
  go_enter Try.func23, Try.ntmps23
  go_upto_region 2 with fail
  generalize w.setCell ⟨i.c, 0, none⟩ (.int .i64 (n : Int)) = W1 at R1 HT1 ⊢
  clear r1 T1 c0 f0
  obtain ⟨c0, c1, _⟩ := R1.out.cells
  obtain ⟨_, f1⟩ := R1.out.froz
  have R2 := Lib.hid (R1.out.setT u hult)
  clear r
  go_region
  have R3 := Lib.hid (show Raw ((W1.setCell ⟨i.c, 1, none⟩ (.int .i64 (u : Int))).drew) i S n u N A G f b from R2.out.1.below ⟨rfl, rfl, rfl, Nat.le_refl _, fun _ _ => rfl⟩)
  have T3 := Lib.hid (show Went w ((W1.setCell ⟨i.c, 1, none⟩ (.int .i64 (u : Int))).drew) (blk i S) (blk i S) from Went.same ((HT1.out.trans R2.out.2 fun _ _ h => h).drew))
  generalize (W1.setCell ⟨i.c, 1, none⟩ (.int .i64 (u : Int))).drew = W2 at R3 T3 ⊢
  clear R2 c0 c1 f1 R1 HT1 hmax e1 e2
  have B := Lib.hid ((Below.refl W2.heap.size W2).alloc (Nat.le_refl _) (.cells #[.slice none 0 0] 47))
  have GB := Lib.hid (show GBox (W2.alloc (.cells #[.slice none 0 0] 47)) W2.heap.size (.slice none 0 0) from heap_alloc_new _ _)
  have NB := Lib.hid (show ¬ blk i S W2.heap.size from fun h => by have := R3.out.lt h; omega)
  have SZ := Lib.hid (show (W2.alloc (.cells #[.slice none 0 0] 47)).heap.size = W2.heap.size + 1 by simp)
  have U := Lib.hid (cutTo_any _ i S n u N A G f b n (fun k => k = W2.heap.size) (KR W2.heap.size w.heap.size) 55 ⟨W2.heap.size, 0, none⟩ (R3.out.below B.out) ⟨.slice none 0 0, by funext k; simp [Value.ownBlock], GB.out, Own.nil _ _, by have := T3.out.turn.size; have := SZ.out; omega, by simp [Value.ownBlock]⟩ (by rintro k rfl; exact NB.out) (sideR _ _) nd hl (by omega))
  have d0 := (R3.out.below B.out).cells.1
  clear nd
  go_wp2_with fail
  refine U.out.mono ?_
  intro e w4 hp
  obtain ⟨rfl, _⟩ := id hp
  obtain ⟨A1, m1, c1, k1, hq⟩ := res_end T3.out NB.out B.out (by have := SZ.out; omega) T3.out.turn.size hp
  have P := Lib.hid hq
  clear hp hq U
  go_wp2_with fail
  go_ret
  rw [← HU.out]
  exact P.out
end Go.Proofs.Ytmnflcidcoejiaa
