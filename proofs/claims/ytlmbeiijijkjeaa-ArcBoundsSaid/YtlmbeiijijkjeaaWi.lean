/- The contracts of a cache's Adopt, Resize. -/
import Derived.Test.YtlmbeiijijkjeaaWh
import Derived.Deep.CutBlock
import Derived.Deep.DeepCutAuto
namespace Go.Proofs.Ytlmbeiijijkjeaa
open Go.RowKit Sg

theorem putR_len (R : Rw4) (key : ByteArray) : (putR R key 0 0).length + (putR R key 0 1).length ≤ (R 0).length + (R 1).length + 1 := by
  have r0 := rem_le (R 0) key
  have r1 := rem_le (R 1) key
  unfold putR
  rw [upd_same, upd_ne (by omega), List.length_cons]
  show (rem (R 0) key).length + 1 + (rem (R 1) key).length ≤ _
  omega
section
variable (w : World) (i : Ix) (S : Sx) (mo p : Nat) (R : Rw4) (b : Nat) (key : ByteArray) (r : Raw w i S mo p R b) (hs : key.size ≤ maxLen)
include r hs
theorem adopt_in (hi : hit R key = true) : Calls Try.prog 13 #[.pointer (some ⟨i.c, 0, none⟩), .string key] w (RPost (.bool false) w i S mo p R b) := by
  obtain ⟨c0, _⟩ := r.cells
  have U := Lib.hid (show ∀ m, Calls Try.prog 11 #[.pointer (some ⟨i.c, 0, none⟩), .string key] (w.drewN m) (fun e w' => e = .returned (.bool true) ∧ w' = w.drewN m) from fun m => by
    have := hasW (w.drewN m) i S mo p R b (r.drewN m) key hs
    rw [hi] at this
    exact this.mono fun _ _ h => ⟨h.1, h.2.symm⟩)
  have HH := Lib.hid r
  clear r hi
  go_enter Try.func13, Try.ntmps13
  go_wp2_with fail
  go_quiet ((go_at_call 11; exact Calls.quiet_of_same (U.out _)))
  go_wp2_with fail
  go_ret
  exact ⟨rfl, S, HH.out.drewN _, Went.below (below_drewN w _)⟩
theorem adopt_full (hi : hit R key = false) (hf : mo ≤ (R 0).length + (R 1).length) : Calls Try.prog 13 #[.pointer (some ⟨i.c, 0, none⟩), .string key] w (RPost (.bool false) w i S mo p R b) := by
  have C := Lib.hid (show ∀ w1, Below w.heap.size w w1 → w1.cell? ⟨i.c, 0, none⟩ = some (.int .i64 (mo : Int)) from fun w1 h => (r.below h).cells.1)
  obtain ⟨c0, _⟩ := r.cells
  have HH := Lib.hid r
  have BD := Lib.hid (show ∀ w1, Below w.drew.heap.size w.drew w1 → Below w.heap.size w w1 from fun w1 h => (below_drewN w 1).trans h)
  obtain ⟨q, hq⟩ : ∃ q, q = (R 0).length + (R 1).length := ⟨_, rfl⟩
  have e0 : decide (mo ≤ q) = true := by simp; omega
  have U := hasW w.drew i S mo p R b (r.below (below_drewN w 1)) key hs
  rw [hi] at U
  have V := lenW w.drew i S mo p R b (r.below (below_drewN w 1))
  rw [← hq] at V
  have U := Lib.hid U
  have V := Lib.hid V
  clear r hi hq hf
  go_enter Try.func13, Try.ntmps13
  go_wp2_with fail
  go_region_held3 (fun w' => w'.cell? ⟨i.c, 0, none⟩ = some (.int .i64 (mo : Int))) (first | (with_reducible exact c1) | (with_reducible exact c0) | go_keep)
    (first
      | (go_at_call 11; refine U.out.mono ?_; rintro e w1 ⟨rfl, rfl⟩; clear U)
      | (go_at_call 18; refine V.out.mono ?_; rintro e w1 ⟨rfl, hB⟩; have c1 := C.out w1 (BD.out w1 hB); have B1 := Lib.hid (BD.out w1 hB); clear hB V))
  go_wp2_with fail
  go_ret
  exact ⟨rfl, S, HH.out.below B1.out, Went.below B1.out⟩
theorem adopt_room (hi : hit R key = false) (hf : (R 0).length + (R 1).length < mo) (hb : b ≤ 985) : Calls Try.prog 13 #[.pointer (some ⟨i.c, 0, none⟩), .string key] w (RPost (.bool true) w i S mo p (trimR mo (putR R key 0)) (b + 1)) := by
  have h0 : (putR R key 0 0).length + (putR R key 0 1).length ≤ mo := by
    have := putR_len R key
    omega
  have C := Lib.hid (show ∀ w1, Below w.heap.size w w1 → w1.cell? ⟨i.c, 0, none⟩ = some (.int .i64 (mo : Int)) from fun w1 h => (r.below h).cells.1)
  obtain ⟨c0, _⟩ := r.cells
  have HH := Lib.hid r
  have BD := Lib.hid (show ∀ w1, Below w.drew.heap.size w.drew w1 → Below w.heap.size w w1 from fun w1 h => (below_drewN w 1).trans h)
  obtain ⟨q, hq⟩ : ∃ q, q = (R 0).length + (R 1).length := ⟨_, rfl⟩
  have e0 : decide (mo ≤ q) = false := by simp; omega
  have U := hasW w.drew i S mo p R b (r.below (below_drewN w 1)) key hs
  rw [hi] at U
  have V := lenW w.drew i S mo p R b (r.below (below_drewN w 1))
  rw [← hq] at V
  have U := Lib.hid U
  have V := Lib.hid V
  have HL := Lib.hid (And.intro hf (And.intro h0 hb))
  clear r hi hq hf hb h0
  go_enter Try.func13, Try.ntmps13
  go_wp2_with fail
  go_region_held3 (fun w' => w'.cell? ⟨i.c, 0, none⟩ = some (.int .i64 (mo : Int))) (first | (with_reducible exact c1) | (with_reducible exact c0) | go_keep)
    (first
      | (go_at_call 11; refine U.out.mono ?_; rintro e w1 ⟨rfl, rfl⟩; clear U)
      | (go_at_call 18; refine V.out.mono ?_; rintro e w1 ⟨rfl, hB⟩; have c1 := C.out w1 (BD.out w1 hB); have B1 := Lib.hid (BD.out w1 hB); clear hB V))
  go_wp2_with fail
  refine (putW0 w1 i S mo p R b (HH.out.below B1.out) key hs HL.out.2.2).mono ?_
  rintro e w2 ⟨rfl, S2, r2, hW2⟩
  have T := Lib.hid (trimW w2 i S2 mo p _ _ r2 HL.out.2.1)
  have W2 := Lib.hid ((Went.below B1.out : Went w w1 (blk i S) (blk i S)).trans hW2)
  clear r2 hW2 HH c0
  go_wp2_with fail
  refine T.out.mono ?_
  rintro e w3 ⟨rfl, S3, r3, hW3⟩
  have F := Lib.hid (show RPost (.bool true) w i S mo p (trimR mo (putR R key 0)) (b + 1) (.returned (.bool true)) w3 from ⟨rfl, S3, r3, W2.out.trans hW3⟩)
  clear r3 hW3 T
  go_wp2_with fail
  go_ret
  exact F.out
end

/-- 'append(gone, x)', and where it lies then. -/
theorem app_at {w : World} {base : Nat} {v : Value} {xs : List ByteArray} (h : Own w base v xs) (x : ByteArray) (hx : x.size ≤ maxLen) (hl : xs.length ≤ 1999) (hb : base ≤ w.heap.size) :
    ∃ (A : Option Addr) (cap : Nat) (w2 : World), (Builtin.append_ #[35, 35] 35 #[v, .slice (some ⟨w.heap.size, 0, none⟩) 1 1]).run Try.prog (w.alloc (.cells #[.string x] 9)) = .ok (.slice A (xs.length + 1) cap) w2 ∧
      Own w2 base (.slice A (xs.length + 1) cap) (xs ++ [x]) ∧ w.grownBy w2 v.ownBlock ∧ (∀ g, (Value.slice A (xs.length + 1) cap).ownBlock = some g → v.ownBlock = some g ∨ w.heap.size ≤ g) := by
  obtain ⟨i0, hi, hz0, hz1, hz2⟩ := info_parts infoStr
  obtain ⟨v', w2, hrun, hown2, hg, hnil, hloc⟩ := run_append_own_at (P := Try.prog) (w.alloc (.cells #[.string x] 9)) base 35 35 9 i0 _ 1 16
    Try.underlying35 hi hz0 hz1 hz2 rfl (by decide) _ _ _ (h.1.alloc _) ⟨w.heap.size, 0, none⟩ 1 1 [.string x] rfl (cell_one_new _ _ _) (by simp [Value.oneCell']) (by unfold maxLen; omega) (by omega) (by simp; omega)
  have hown3 := hown2
  rcases hown2.2 with ⟨_, h0⟩ | ⟨g, cap, cur, rfl, _⟩
  · omega
  refine ⟨_, cap, w2, hrun, ⟨?_, by rw [List.length_append]; simp only [List.length_cons, List.length_nil]; omega, fun y hy => ?_⟩, (World.grownBy_alloc w _ _).trans hg, fun g' hg' => ?_⟩
  · rw [List.map_append, List.length_append]; exact hown3
  · rcases List.mem_append.1 hy with h1 | h1
    · exact h.2.2 y h1
    · rw [List.mem_singleton.1 h1]; exact hx
  · rcases hloc with h1 | h1
    · exact Or.inl (h1 ▸ hg')
    · rw [h1] at hg'
      injection hg' with hg'
      rw [show (w.alloc (.cells #[.string x] 9)).heap.size = w.heap.size + 1 by simp] at hg'
      exact Or.inr (by omega)

/-- Who went, in a variable of its own. -/
def GBox (w : World) (gb : Nat) (v : Value) : Prop := w.heap[gb]? = some (.cells #[v] 35 (0, 0))
theorem GBox.lt {w : World} {gb : Nat} {v : Value} (k : GBox w gb v) : gb < w.heap.size := (Array.getElem?_eq_some_iff.1 k).1
theorem GBox.put {w : World} {gb : Nat} {v : Value} (k : GBox w gb v) (u : Value) : GBox (w.setCell ⟨gb, 0, none⟩ u) gb u := by
  unfold GBox at *
  rw [heap_setCell_same _ _ _ _ _ _ k]; rfl

theorem cloR (w : World) (gb base : Nat) (v : Value) (ts : List ByteArray) (x : ByteArray) (k : GBox w gb v) (o : Own w base v ts) (hl : ts.length ≤ 1999) (hx : x.size ≤ maxLen) (hb : base ≤ w.heap.size) (hne : v.ownBlock ≠ some gb) :
    Calls Try.prog 36 #[.string x, .pointer (some ⟨gb, 0, none⟩)] w (fun e w' => e = .returned (.tuple #[]) ∧ ∃ v', GBox w' gb v' ∧ Own w' base v' (ts ++ [x]) ∧ (∀ g, v'.ownBlock = some g → v.ownBlock = some g ∨ w.heap.size ≤ g) ∧ Turn (fun k => k = gb ∨ v.ownBlock = some k) w w') := by
  obtain ⟨A2, cap, w2, hrun, hown, hg, hloc⟩ := app_at o x hx hl hb
  obtain ⟨A1, c1, rfl⟩ := o.len
  have hgb := k.lt
  have k1 : w.cell? ⟨gb, 0, none⟩ = some (.slice A1 ts.length c1) := cell_of_row w _ 0 _ _ _ k
  have k2 : GBox w2 gb (.slice A1 ts.length c1) := (hg.block gb hgb (fun e => hne e.symm)).trans k
  have k3 : w2.cell? ⟨gb, 0, none⟩ = some (.slice A1 ts.length c1) := cell_of_row w2 _ 0 _ _ _ k2
  have k4 : w2.frozen? ⟨gb, 0, none⟩ = false := frozen_of_row w2 _ 0 _ _ k2
  have HRUN := Lib.hid hrun
  have R := Lib.hid (show ∃ v', GBox (w2.setCell ⟨gb, 0, none⟩ (.slice A2 (ts.length + 1) cap)) gb v' ∧ Own (w2.setCell ⟨gb, 0, none⟩ (.slice A2 (ts.length + 1) cap)) base v' (ts ++ [x]) ∧ (∀ g, v'.ownBlock = some g → (Value.slice A1 ts.length c1).ownBlock = some g ∨ w.heap.size ≤ g) ∧ Turn (fun k => k = gb ∨ (Value.slice A1 ts.length c1).ownBlock = some k) w (w2.setCell ⟨gb, 0, none⟩ (.slice A2 (ts.length + 1) cap)) by
    refine ⟨_, k2.put _, hown.same (fun g hg' => ?_), hloc, ?_⟩
    · refine Below.heap_setCell _ _ _ _ (fun e => ?_)
      have e : g = gb := e
      subst e
      rcases hloc g hg' with h | h
      · exact hne h
      · omega
    · have t1 : Turn (fun k => k = gb ∨ (Value.slice A1 ts.length c1).ownBlock = some k) w w2 := ⟨hg.os, hg.tape, hg.output, hg.size, fun i hi h1 => hg.block i hi (fun e => h1 (Or.inr e.symm))⟩
      exact t1.setCell (p := ⟨gb, 0, none⟩) (Or.inl (Or.inl rfl)) _)
  clear hrun hown hg hloc k k2 o hne
  go_enter Try.func36, Try.ntmps36
  go_wp2_with (at_builtin; refine wpList_append_run rfl _ _ _ rfl _ _ _ _ rfl rfl HRUN.out ?_)
  go_end0
  exact ⟨rfl, R.out⟩
def KR (gb base : Nat) (vs : List ByteArray) (X : Nat → Prop) (W : World) : Prop := ∃ v, X = (fun k => k = gb ∨ v.ownBlock = some k) ∧ GBox W gb v ∧ Own W base v vs ∧ base ≤ W.heap.size ∧ v.ownBlock ≠ some gb
theorem sideR (gb base : Nat) : Side 36 ⟨gb, 0, none⟩ (KR gb base) where
  enter := fun args w => by kernel_rfl
  lt := by
    rintro vs X W ⟨v, rfl, hB, hO, _⟩ k hk
    rcases hk with rfl | hk
    · exact hB.lt
    · exact (hO.lt hk).1
  same := by
    rintro vs X W W' ⟨v, rfl, hB, hO, hb, hn⟩ hs hk
    exact ⟨v, rfl, (hk gb (Or.inl rfl)).trans hB, hO.same fun g hg => hk g (Or.inr hg), by omega, hn⟩
  call := by
    rintro vs X W x ⟨v, rfl, hB, hO, hb, hn⟩ hl hx
    refine (cloR W gb base v vs x hB hO (by omega) hx hb hn).mono ?_
    rintro e W' ⟨he, v', hB', hO', hv, hT⟩
    have hsz := hT.size
    refine ⟨he, _, ⟨v', rfl, hB', hO', by omega, fun h => ?_⟩, fun k hk => ?_, hT⟩
    · rcases hv gb h with h | h
      · exact hn h
      · have := hB.lt; omega
    · rcases hk with rfl | hk
      · exact Or.inl (Or.inl rfl)
      · exact (hv k hk).imp Or.inr id


/-- What Resize leaves. -/
def ResPost (w : World) (i : Ix) (S : Sx) (mo p : Nat) (R : Rw4) (b : Nat) (gone : List ByteArray) (e : Ending) (w' : World) : Prop :=
  ∃ v S', e = .returned v ∧ Own w' w.heap.size v gone ∧ Raw w' i S' mo p R b ∧ Went w w' (blk i S) (blk i S') ∧ ∀ g, v.ownBlock = some g → ¬ blk i S' g
theorem res_end {w w0 w1 w4 : World} {i : Ix} {S S1 S4 : Sx} {X4 : Nat → Prop} {mo p : Nat} {R : Rw4} {b : Nat} {gone : List ByteArray} (h0 : Went w w0 (blk i S) (blk i S1)) (hb : Below w0.heap.size w0 w1) (hlt : w0.heap.size < w1.heap.size) (hgs : w.heap.size ≤ w0.heap.size)
    (h : CAt w1 w4 i S1 S4 (fun k => k = w0.heap.size) X4 (KR w0.heap.size w.heap.size) mo p R b gone) :
    ∃ A1 m1 c1, w4.cell? ⟨w0.heap.size, 0, none⟩ = some (.slice A1 m1 c1) ∧ ResPost w i S mo p R b gone (.returned (.slice A1 m1 c1)) w4 := by
  obtain ⟨r4, ⟨v, rfl, hB, hO, hbs, hn⟩, hW, hd⟩ := h
  have hs1 := hb.size
  have hs2 := hW.turn.size
  obtain ⟨A1, c1, rfl⟩ := hO.len
  refine ⟨A1, _, c1, cell_of_row w4 _ 0 _ _ _ hB, _, S4, rfl, hO, r4, ⟨fun k hk => ?_, ?_⟩, fun g hg => hd g (Or.inr hg)⟩
  · rcases hW.new k (Or.inl hk) with h | h
    · rcases h with h | h
      · exact h0.new k h
      · exact Or.inr (by omega)
    · exact Or.inr (by omega)
  · refine (h0.turn.trans (Turn.of_below (S := blk i S1) hb) (fun k hk hS => ?_)).trans hW.turn (fun k hk hS => ?_)
    · rcases h0.new k hS with h | h
      · exact h
      · omega
    · rcases hS with h | h
      · rcases h0.new k h with h | h
        · exact h
        · omega
      · omega
theorem cutn_two {p : Nat} {q : Bool} {R : Rw4} (n : Nat) : lenR (cutn p q R (lenR R - n)) = min n (lenR R) := by
  have := cutn_len (R := R) (p := p) (q := q) (n := lenR R - n) (by omega)
  omega
/-- The rows behind a resize to n. -/
def resR (p n : Nat) (R : Rw4) : Rw4 := trimR n (cutn (min p n) false R (lenR R - n))
set_option maxHeartbeats 1000000 in
theorem resizeW (w : World) (i : Ix) (S : Sx) (mo p : Nat) (R : Rw4) (b : Nat) (z : Int) (n : Nat) (r : Raw w i S mo p R b) (hz : -9223372036854775808 ≤ z ∧ z ≤ 9223372036854775807) (hn : n = z.toNat) (hl : totR R ≤ b) (hb : b ≤ 980) :
    Calls Try.prog 15 #[.pointer (some ⟨i.c, 0, none⟩), .int .i64 z] w (ResPost w i S n (min p n) (resR p n R) b (outs (min p n) false R (lenR R - n))) := by
  obtain ⟨c0, _⟩ := r.cells
  obtain ⟨f0, _⟩ := r.froz
  have ht := r.top
  have e1 : (if z < 0 then (0 : Int) else z) = (n : Int) := by split <;> omega
  obtain ⟨r1, T1⟩ := r.setM n (by omega)
  have hmax : max z 0 = (n : Int) := by omega
  unfold resR
  obtain ⟨u, hu⟩ : ∃ u, u = min p n := ⟨_, rfl⟩
  have e2 : (if n < p then (n : Int) else (p : Int)) = (u : Int) := by rw [hu]; split <;> omega
  have e3 : min (p : Int) (n : Int) = (u : Int) := by omega
  have hult : u ≤ 9223372036854775807 := by omega
  rw [← hu]
  have R1 := Lib.hid r1
  have HT1 := Lib.hid T1
  clear hn hu
  go_enter Try.func15, Try.ntmps15
  go_upto_region 2 with fail
  generalize w.setCell ⟨i.c, 0, none⟩ (.int .i64 (n : Int)) = W1 at R1 HT1 ⊢
  clear r1 T1 c0 f0
  obtain ⟨c0, c1, _⟩ := R1.out.cells
  obtain ⟨_, f1⟩ := R1.out.froz
  have R2 := Lib.hid (R1.out.setP u hult)
  clear r
  go_region
  have R3 := Lib.hid (show Raw ((W1.setCell ⟨i.c, 1, none⟩ (.int .i64 (u : Int))).drew) i S n u R b from R2.out.1.below ⟨rfl, rfl, rfl, Nat.le_refl _, fun _ _ => rfl⟩)
  have T3 := Lib.hid (show Went w ((W1.setCell ⟨i.c, 1, none⟩ (.int .i64 (u : Int))).drew) (blk i S) (blk i S) from Went.same ((HT1.out.trans R2.out.2 fun _ _ h => h).drew))
  generalize (W1.setCell ⟨i.c, 1, none⟩ (.int .i64 (u : Int))).drew = W2 at R3 T3 ⊢
  clear R2 c0 c1 f1 R1 HT1 hmax e1 e2 e3
  have B := Lib.hid ((Below.refl W2.heap.size W2).alloc (Nat.le_refl _) (.cells #[.slice none 0 0] 35))
  have GB := Lib.hid (show GBox (W2.alloc (.cells #[.slice none 0 0] 35)) W2.heap.size (.slice none 0 0) from heap_alloc_new _ _)
  have NB := Lib.hid (show ¬ blk i S W2.heap.size from fun h => by have := R3.out.lt h; omega)
  have SZ := Lib.hid (show (W2.alloc (.cells #[.slice none 0 0] 35)).heap.size = W2.heap.size + 1 by simp)
  have U := Lib.hid (cutTo_any _ i S n u R b n false (fun k => k = W2.heap.size) (KR W2.heap.size w.heap.size) 36 ⟨W2.heap.size, 0, none⟩ [] (R3.out.below B.out) ⟨.slice none 0 0, by funext k; simp [Value.ownBlock], GB.out, Own.nil _ _, by have := T3.out.turn.size; have := SZ.out; omega, by simp [Value.ownBlock]⟩ (by rintro k rfl; exact NB.out) (sideR _ _) (by simp) hl (by omega))
  have d0 := (R3.out.below B.out).cells.1
  have HC := Lib.hid (show lenR (cutn u false R (lenR R - n)) ≤ n by rw [cutn_two]; omega)
  rw [List.nil_append] at U
  clear hl hb
  go_wp2_with fail
  refine U.out.mono ?_
  rintro e w4 ⟨rfl, S4, X4, h4⟩
  have C4 := Lib.hid h4
  have V := Lib.hid (trimW w4 i S4 n u _ b C4.out.raw HC.out)
  clear h4 U d0
  go_wp2_with fail
  refine V.out.mono ?_
  intro e w5 hp
  obtain ⟨rfl, S5, h5⟩ := C4.out.op (sideR _ _) hp
  obtain ⟨A1, m1, c1, k1, hq⟩ := res_end T3.out B.out (by have := SZ.out; omega) T3.out.turn.size h5
  have P := Lib.hid hq
  clear hp hq h5 V C4
  go_wp2_with fail
  go_ret
  exact P.out
end Go.Proofs.Ytlmbeiijijkjeaa
