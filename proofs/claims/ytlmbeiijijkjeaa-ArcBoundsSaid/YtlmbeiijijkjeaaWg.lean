/- The contracts of trim and its closures. -/
import Derived.Test.YtlmbeiijijkjeaaWf
namespace Go.Proofs.Ytlmbeiijijkjeaa
open Go.RowKit Sg

def trim2 (mo : Nat) (R : Rw4) : Rw4 := upd R 2 ((R 2).take (mo - (R 0).length))
def trim3 (mo : Nat) (R : Rw4) : Rw4 := upd R 3 ((R 3).take (2 * mo - ((R 0).length + (R 1).length + (R 2).length)))
def trimR (mo : Nat) (R : Rw4) : Rw4 := trim3 mo (trim2 mo R)
theorem upd_upd (R : Rw4) (k : Nat) (xs ys : List ByteArray) : upd (upd R k xs) k ys = upd R k ys := by funext j; unfold upd; split <;> rfl
theorem upd_self (R : Rw4) (k : Nat) : upd R k (R k) = R := by
  funext j
  by_cases e : j = k
  · subst e; exact upd_same _ _ _
  · exact upd_ne e
theorem take_last {xs : List ByteArray} {j : Nat} (h : j < xs.length) : anyKey (xs.take (j + 1)) = true ∧ (xs.take (j + 1)).dropLast = xs.take j := by
  rw [take_snoc xs j ⟨#[]⟩ h]
  refine ⟨?_, by simp⟩
  unfold anyKey
  cases h2 : xs.take j <;> rfl
theorem take_min (xs : List ByteArray) (m : Nat) : xs.take (min m xs.length) = xs.take m := by
  by_cases h : m ≤ xs.length
  · rw [Nat.min_eq_left h]
  · rw [Nat.min_eq_right (by omega), List.take_length, List.take_of_length_le (by omega)]

/-- The cache's pointer in a variable of its own. -/
def CB (w : World) (cb : Nat) (i : Ix) : Prop := w.heap[cb]? = some (.cells #[.pointer (some ⟨i.c, 0, none⟩)] 25 (0, 0))
theorem CB.lt {w : World} {cb : Nat} {i : Ix} (k : CB w cb i) : cb < w.heap.size := (Array.getElem?_eq_some_iff.1 k).1
theorem CB.cell {w : World} {cb : Nat} {i : Ix} (k : CB w cb i) : w.cell? ⟨cb, 0, none⟩ = some (.pointer (some ⟨i.c, 0, none⟩)) := cell_of_row w _ 0 _ _ _ k

section
variable (w : World) (cb : Nat) (i : Ix) (S : Sx) (mo p : Nat) (R : Rw4) (b : Nat) (r : Raw w i S mo p R b) (kb : CB w cb i)
include r kb
theorem many2 : Calls Try.prog 44 #[.pointer (some ⟨cb, 0, none⟩)] w (Stl (.bool (decide (mo < (R 0).length + (R 2).length))) w) := by
  obtain ⟨c0, _⟩ := r.cells
  have K0 := kb.cell
  have hb := ((Below.refl w.heap.size w).trans (below_drewN w 1)).alloc (Nat.le_refl _) (.cells #[.int .i64 0, .int .i64 2] 3)
  have c1 : (w.drew.alloc (.cells #[.int .i64 0, .int .i64 2] 3)).cell? ⟨i.c, 0, none⟩ = some (.int .i64 (mo : Int)) := (r.below hb).cells.1
  have K1 : (w.drew.alloc (.cells #[.int .i64 0, .int .i64 2] 3)).cell? ⟨cb, 0, none⟩ = some (.pointer (some ⟨i.c, 0, none⟩)) := CB.cell (i := i) ((hb.block _ kb.lt).trans kb)
  have U := count_two w.drew i S mo p R b (r.below (below_drewN w 1)) 0 2 (by omega) (by omega)
  have B := Lib.hid hb
  obtain ⟨q, hq⟩ : ∃ q, q = (R 0).length + (R 2).length := ⟨_, rfl⟩
  rw [← hq] at U ⊢
  have U := Lib.hid (show Calls Try.prog 39 #[.pointer (some ⟨i.c, 0, none⟩), .slice (some ⟨w.drew.heap.size, 0, none⟩) 2 2] (w.drew.alloc (.cells #[.int .i64 0, .int .i64 2] 3)) (IntPost (q : Int) (w.drew.alloc (.cells #[.int .i64 0, .int .i64 2] 3))) from U)
  clear hb hq r kb
  go_enter Try.func44, Try.ntmps44
  go_wp2_with fail
  go_region_held3 (fun w' => w'.cell? ⟨cb, 0, none⟩ = some (.pointer (some ⟨i.c, 0, none⟩)) ∧ w'.cell? ⟨i.c, 0, none⟩ = some (.int .i64 (mo : Int))) (first | (with_reducible exact ⟨K1, c1⟩) | (with_reducible exact ⟨K0, c0⟩) | go_keep)
    ((go_at_call 39; refine U.out.mono ?_; rintro e w1 ⟨rfl, rfl⟩))
  all_goals
    go_wp2_with fail
    go_ret
    exact ⟨rfl, B.out⟩
theorem many3 : Calls Try.prog 45 #[.pointer (some ⟨cb, 0, none⟩)] w (Stl (.bool (decide (2 * mo < (R 0).length + (R 1).length + (R 2).length + (R 3).length))) w) := by
  obtain ⟨c0, _⟩ := r.cells
  have K0 := kb.cell
  have U := overW w.drew i S mo p R b (r.below (below_drewN w 1))
  have C := Lib.hid (show ∀ w1, Below w.heap.size w w1 → w1.cell? ⟨cb, 0, none⟩ = some (.pointer (some ⟨i.c, 0, none⟩)) ∧ w1.cell? ⟨i.c, 0, none⟩ = some (.int .i64 (mo : Int)) from fun w1 h => ⟨CB.cell (i := i) ((h.block _ kb.lt).trans kb), (r.below h).cells.1⟩)
  have BD := Lib.hid (show ∀ w1, Below w.drew.heap.size w.drew w1 → Below w.heap.size w w1 from fun w1 h => (below_drewN w 1).trans h)
  obtain ⟨q, hq⟩ : ∃ q, q = (R 0).length + (R 1).length + (R 2).length + (R 3).length := ⟨_, rfl⟩
  rw [← hq] at U ⊢
  obtain ⟨d, hd⟩ : ∃ d : Int, d = (q : Int) - (mo : Int) := ⟨_, rfl⟩
  rw [← hd] at U
  obtain ⟨z, hz⟩ : ∃ z, z = decide (2 * mo < q) := ⟨_, rfl⟩
  have e0 : decide ((mo : Int) < d) = z := by rw [hz]; by_cases h : 2 * mo < q <;> simp only [h, decide_true, decide_false] <;> simp <;> omega
  rw [← hz]
  have U := Lib.hid U
  clear hq r kb hz hd
  go_enter Try.func45, Try.ntmps45
  go_wp2_with fail
  go_region_held3 (fun w' => w'.cell? ⟨cb, 0, none⟩ = some (.pointer (some ⟨i.c, 0, none⟩)) ∧ w'.cell? ⟨i.c, 0, none⟩ = some (.int .i64 (mo : Int))) (first | (with_reducible exact ⟨K1, c1⟩) | (with_reducible exact ⟨K0, c0⟩) | go_keep)
    ((go_at_call 41; refine U.out.mono ?_; rintro e w1 ⟨rfl, hB⟩; obtain ⟨K1, c1⟩ := C.out w1 (BD.out w1 hB); have B := Lib.hid (BD.out w1 hB); clear hB))
  all_goals
    go_wp2_with fail
    go_ret
    exact ⟨rfl, B.out⟩
end

/-- Ghosts trimmed to j. -/
def TRel (w : World) (cb : Nat) (i : Ix) (S : Sx) (mo p : Nat) (R : Rw4) (b k j : Nat) (W : World) : Prop :=
  ∃ S', Raw W i S' mo p (upd R k ((R k).take j)) b ∧ Went w W (blk i S) (blk i S') ∧ CB W cb i ∧ ¬ blk i S' cb
set_option maxHeartbeats 1000000 in
theorem cutG2 (w : World) (cb : Nat) (i : Ix) (S : Sx) (mo p : Nat) (R : Rw4) (b m : Nat) (r : Raw w i S mo p R b) (kb : CB w cb i) (hn : ¬ blk i S cb) (FT : FuncId) (hF : ∀ args w, (callFunc FT args).run Try.prog w = .ok (.enter FT args) w)
    (hT : ∀ W S' j, Raw W i S' mo p (upd R 2 ((R 2).take j)) b → CB W cb i → j ≤ (R 2).length → Calls Try.prog FT #[.pointer (some ⟨cb, 0, none⟩)] W (Stl (.bool (decide (m < j))) W)) :
    Calls Try.prog 43 #[.int .i64 2, .func (.func FT) #[] #[.pointer (some ⟨cb, 0, none⟩)], .pointer (some ⟨cb, 0, none⟩)] w (fun e w' => e = .returned (.tuple #[]) ∧ TRel w cb i S mo p R b 2 m w') := by
  obtain ⟨n, hnn⟩ : ∃ n, n = (R 2).length := ⟨_, rfl⟩
  have H0 := Lib.hid (show TRel w cb i S mo p R b 2 n w from ⟨S, by rw [hnn, List.take_length, upd_self]; exact r, Went.refl _ _, kb, hn⟩)
  have HT := Lib.hid hT
  have HN := Lib.hid hnn
  have TM := Lib.hid (show (R 2).take (min m n) = (R 2).take m by rw [hnn]; exact take_min _ _)
  clear r kb hn hT hnn
  go_enter Try.func43, Try.ntmps43
  go_wp2_with fail
  go_loopg [] (n - m) (fun g W => g ≤ n - m ∧ TRel w cb i S mo p R b 2 (min m n + g) W)
  case atStart => exact ⟨Nat.le_refl _, by rw [show min m n + (n - m) = n by omega]; exact H0.out⟩
  case round =>
    obtain ⟨hg, S', hR, hW, hK, hnb⟩ := hrel
    have K0 := hK.cell
    have U := Lib.hid (HT.out wr S' (min m n + gk) hR hK (by have := HN.out; omega))
    have HR := Lib.hid (And.intro hR (And.intro hW (And.intro hK hnb)))
    clear hR hW hK hnb
    cases gk with
    | zero =>
      have U := Lib.hid (show Calls Try.prog FT #[.pointer (some ⟨cb, 0, none⟩)] wr (Stl (.bool false) wr) by
        have := U.out
        rw [show decide (m < min m n + 0) = false by simp; omega] at this
        exact this)
      go_wp2_with fail
      refine U.out.mono ?_
      rintro e w1 ⟨rfl, hB⟩
      have B1 := Lib.hid hB
      clear hB
      go_wp2_with fail
      go_end0
      obtain ⟨hR, hW, hK, hnb⟩ := HR.out
      refine ⟨rfl, S', ?_, hW.trans (Went.below B1.out), (B1.out.block _ hK.lt).trans hK, hnb⟩
      have := hR.below B1.out
      rw [Nat.add_zero, TM.out] at this
      exact this
    | succ gk =>
      have U := Lib.hid (show Calls Try.prog FT #[.pointer (some ⟨cb, 0, none⟩)] wr (Stl (.bool true) wr) by
        have := U.out
        rw [show decide (m < min m n + (gk + 1)) = true by simp; omega] at this
        exact this)
      obtain ⟨j, hj⟩ : ∃ j, j = min m n + gk := ⟨_, rfl⟩
      have HJ := Lib.hid hj
      have hjn : j < (R 2).length := by have := HN.out; omega
      rw [show min m n + (gk + 1) = j + 1 by omega] at HR
      have TL := Lib.hid (take_last hjn)
      clear hj
      go_wp2_with fail
      refine U.out.mono ?_
      rintro e w1 ⟨rfl, hB⟩
      have B1 := Lib.hid hB
      have R1 := Lib.hid (HR.out.1.below hB)
      have k1 : CB w1 cb i := (hB.block _ HR.out.2.2.1.lt).trans HR.out.2.2.1
      have K1 := k1.cell
      have V := count_one w1 i S' mo p _ b R1.out 2 (by omega)
      rw [upd_same, List.length_take, Nat.min_eq_left (by omega)] at V
      have V := Lib.hid (show Calls Try.prog 39 #[.pointer (some ⟨i.c, 0, none⟩), .slice (some ⟨w1.heap.size, 0, none⟩) 1 1] (w1.alloc (.cells #[.int .i64 2] 3)) (IntPost ((j + 1 : Nat) : Int) (w1.alloc (.cells #[.int .i64 2] 3))) from V)
      have hb2 := (Below.refl w1.heap.size w1).alloc (Nat.le_refl _) (.cells #[.int .i64 2] 3)
      have R2 := R1.out.below hb2
      have k2 : CB (w1.alloc (.cells #[.int .i64 2] 3)) cb i := (hb2.block _ k1.lt).trans k1
      have K2 := k2.cell
      have c4 : (w1.alloc (.cells #[.int .i64 2] 3)).cell? ⟨i.c, 4, none⟩ = some (.pointer (some ⟨i.r 2, 0, none⟩)) := R2.cells.2.2.2.2.1
      have Z := ls_pop _ (i.r 2) (S' 2) _ b (R2.ls 2 (by omega))
      rw [upd_same, TL.out.1, TL.out.2] at Z
      have Z := Lib.hid Z
      have HR2 := Lib.hid (And.intro R2 (And.intro ((HR.out.2.1.trans (Went.below B1.out)).trans (Went.below hb2)) (And.intro k2 HR.out.2.2.2)))
      clear hB k1 R1 U HR K0 hb2 R2 k2
      go_wp2_with fail
      refine V.out.mono ?_
      rintro e w2 ⟨rfl, rfl⟩
      clear K1 V
      go_wp2_with fail
      refine Z.out.mono ?_
      intro e w3 hp
      obtain ⟨R2, W2, k2, hnb⟩ := HR2.out
      obtain ⟨rfl, S3, r3, hW3⟩ := R2.on (show 2 < 4 by omega) hp (Nat.le_refl _)
      rw [upd_upd] at r3
      have o3 := went_out hW3 k2.lt hnb
      have N3 := Lib.hid (show TRel w cb i S mo p R b 2 (min m n + gk) w3 from ⟨S3, by rw [← HJ.out]; exact r3, W2.trans hW3, o3.1.trans k2, o3.2⟩)
      clear hp r3 hW3 o3 R2 W2 k2 hnb HR2 Z c4 K2
      go_wp2_with fail
      go_roundg gk
      case measure => omega
      case rel => exact ⟨by omega, N3.out⟩
set_option maxHeartbeats 1000000 in
theorem cutG3 (w : World) (cb : Nat) (i : Ix) (S : Sx) (mo p : Nat) (R : Rw4) (b m : Nat) (r : Raw w i S mo p R b) (kb : CB w cb i) (hn : ¬ blk i S cb) (FT : FuncId) (hF : ∀ args w, (callFunc FT args).run Try.prog w = .ok (.enter FT args) w)
    (hT : ∀ W S' j, Raw W i S' mo p (upd R 3 ((R 3).take j)) b → CB W cb i → j ≤ (R 3).length → Calls Try.prog FT #[.pointer (some ⟨cb, 0, none⟩)] W (Stl (.bool (decide (m < j))) W)) :
    Calls Try.prog 43 #[.int .i64 3, .func (.func FT) #[] #[.pointer (some ⟨cb, 0, none⟩)], .pointer (some ⟨cb, 0, none⟩)] w (fun e w' => e = .returned (.tuple #[]) ∧ TRel w cb i S mo p R b 3 m w') := by
  obtain ⟨n, hnn⟩ : ∃ n, n = (R 3).length := ⟨_, rfl⟩
  have H0 := Lib.hid (show TRel w cb i S mo p R b 3 n w from ⟨S, by rw [hnn, List.take_length, upd_self]; exact r, Went.refl _ _, kb, hn⟩)
  have HT := Lib.hid hT
  have HN := Lib.hid hnn
  have TM := Lib.hid (show (R 3).take (min m n) = (R 3).take m by rw [hnn]; exact take_min _ _)
  clear r kb hn hT hnn
  go_enter Try.func43, Try.ntmps43
  go_wp2_with fail
  go_loopg [] (n - m) (fun g W => g ≤ n - m ∧ TRel w cb i S mo p R b 3 (min m n + g) W)
  case atStart => exact ⟨Nat.le_refl _, by rw [show min m n + (n - m) = n by omega]; exact H0.out⟩
  case round =>
    obtain ⟨hg, S', hR, hW, hK, hnb⟩ := hrel
    have K0 := hK.cell
    have U := Lib.hid (HT.out wr S' (min m n + gk) hR hK (by have := HN.out; omega))
    have HR := Lib.hid (And.intro hR (And.intro hW (And.intro hK hnb)))
    clear hR hW hK hnb
    cases gk with
    | zero =>
      have U := Lib.hid (show Calls Try.prog FT #[.pointer (some ⟨cb, 0, none⟩)] wr (Stl (.bool false) wr) by
        have := U.out
        rw [show decide (m < min m n + 0) = false by simp; omega] at this
        exact this)
      go_wp2_with fail
      refine U.out.mono ?_
      rintro e w1 ⟨rfl, hB⟩
      have B1 := Lib.hid hB
      clear hB
      go_wp2_with fail
      go_end0
      obtain ⟨hR, hW, hK, hnb⟩ := HR.out
      refine ⟨rfl, S', ?_, hW.trans (Went.below B1.out), (B1.out.block _ hK.lt).trans hK, hnb⟩
      have := hR.below B1.out
      rw [Nat.add_zero, TM.out] at this
      exact this
    | succ gk =>
      have U := Lib.hid (show Calls Try.prog FT #[.pointer (some ⟨cb, 0, none⟩)] wr (Stl (.bool true) wr) by
        have := U.out
        rw [show decide (m < min m n + (gk + 1)) = true by simp; omega] at this
        exact this)
      obtain ⟨j, hj⟩ : ∃ j, j = min m n + gk := ⟨_, rfl⟩
      have HJ := Lib.hid hj
      have hjn : j < (R 3).length := by have := HN.out; omega
      rw [show min m n + (gk + 1) = j + 1 by omega] at HR
      have TL := Lib.hid (take_last hjn)
      clear hj
      go_wp2_with fail
      refine U.out.mono ?_
      rintro e w1 ⟨rfl, hB⟩
      have B1 := Lib.hid hB
      have R1 := Lib.hid (HR.out.1.below hB)
      have k1 : CB w1 cb i := (hB.block _ HR.out.2.2.1.lt).trans HR.out.2.2.1
      have K1 := k1.cell
      have V := count_one w1 i S' mo p _ b R1.out 3 (by omega)
      rw [upd_same, List.length_take, Nat.min_eq_left (by omega)] at V
      have V := Lib.hid (show Calls Try.prog 39 #[.pointer (some ⟨i.c, 0, none⟩), .slice (some ⟨w1.heap.size, 0, none⟩) 1 1] (w1.alloc (.cells #[.int .i64 3] 3)) (IntPost ((j + 1 : Nat) : Int) (w1.alloc (.cells #[.int .i64 3] 3))) from V)
      have hb2 := (Below.refl w1.heap.size w1).alloc (Nat.le_refl _) (.cells #[.int .i64 3] 3)
      have R2 := R1.out.below hb2
      have k2 : CB (w1.alloc (.cells #[.int .i64 3] 3)) cb i := (hb2.block _ k1.lt).trans k1
      have K2 := k2.cell
      have c5 : (w1.alloc (.cells #[.int .i64 3] 3)).cell? ⟨i.c, 5, none⟩ = some (.pointer (some ⟨i.r 3, 0, none⟩)) := R2.cells.2.2.2.2.2
      have Z := ls_pop _ (i.r 3) (S' 3) _ b (R2.ls 3 (by omega))
      rw [upd_same, TL.out.1, TL.out.2] at Z
      have Z := Lib.hid Z
      have HR2 := Lib.hid (And.intro R2 (And.intro ((HR.out.2.1.trans (Went.below B1.out)).trans (Went.below hb2)) (And.intro k2 HR.out.2.2.2)))
      clear hB k1 R1 U HR K0 hb2 R2 k2
      go_wp2_with fail
      refine V.out.mono ?_
      rintro e w2 ⟨rfl, rfl⟩
      clear K1 V
      go_wp2_with fail
      refine Z.out.mono ?_
      intro e w3 hp
      obtain ⟨R2, W2, k2, hnb⟩ := HR2.out
      obtain ⟨rfl, S3, r3, hW3⟩ := R2.on (show 3 < 4 by omega) hp (Nat.le_refl _)
      rw [upd_upd] at r3
      have o3 := went_out hW3 k2.lt hnb
      have N3 := Lib.hid (show TRel w cb i S mo p R b 3 (min m n + gk) w3 from ⟨S3, by rw [← HJ.out]; exact r3, W2.trans hW3, o3.1.trans k2, o3.2⟩)
      clear hp r3 hW3 o3 R2 W2 k2 hnb HR2 Z c5 K2
      go_wp2_with fail
      go_roundg gk
      case measure => omega
      case rel => exact ⟨by omega, N3.out⟩
theorem fn2 : ∀ args w, (callFunc 44 args).run Try.prog w = .ok (.enter 44 args) w := fun args w => by kernel_rfl
theorem fn3 : ∀ args w, (callFunc 45 args).run Try.prog w = .ok (.enter 45 args) w := fun args w => by kernel_rfl
theorem trim_two (w : World) (cb : Nat) (i : Ix) (S : Sx) (mo p : Nat) (R : Rw4) (b : Nat) (r : Raw w i S mo p R b) (kb : CB w cb i) (hn : ¬ blk i S cb) (h0 : (R 0).length ≤ mo) :
    Calls Try.prog 43 #[.int .i64 2, .func (.func 44) #[] #[.pointer (some ⟨cb, 0, none⟩)], .pointer (some ⟨cb, 0, none⟩)] w (fun e w' => e = .returned (.tuple #[]) ∧ ∃ S', Raw w' i S' mo p (trim2 mo R) b ∧ Went w w' (blk i S) (blk i S') ∧ CB w' cb i ∧ ¬ blk i S' cb) := by
  refine (cutG2 w cb i S mo p R b (mo - (R 0).length) r kb hn _ fn2 ?_).mono fun e w' h => h
  intro W S' j hR hK hj
  have := many2 W cb i S' mo p _ b hR hK
  rw [upd_same, upd_ne (by omega), List.length_take, Nat.min_eq_left hj] at this
  rw [show decide (mo - (R 0).length < j) = decide (mo < (R 0).length + j) by congr 1; simp only [eq_iff_iff]; omega]
  exact this
theorem trim_three (w : World) (cb : Nat) (i : Ix) (S : Sx) (mo p : Nat) (R : Rw4) (b : Nat) (r : Raw w i S mo p R b) (kb : CB w cb i) (hn : ¬ blk i S cb) (h0 : (R 0).length + (R 1).length + (R 2).length ≤ 2 * mo) :
    Calls Try.prog 43 #[.int .i64 3, .func (.func 45) #[] #[.pointer (some ⟨cb, 0, none⟩)], .pointer (some ⟨cb, 0, none⟩)] w (fun e w' => e = .returned (.tuple #[]) ∧ ∃ S', Raw w' i S' mo p (trim3 mo R) b ∧ Went w w' (blk i S) (blk i S') ∧ CB w' cb i ∧ ¬ blk i S' cb) := by
  refine (cutG3 w cb i S mo p R b (2 * mo - ((R 0).length + (R 1).length + (R 2).length)) r kb hn _ fn3 ?_).mono fun e w' h => h
  intro W S' j hR hK hj
  have := many3 W cb i S' mo p _ b hR hK
  rw [upd_same, upd_ne (by omega), upd_ne (by omega), upd_ne (by omega), List.length_take, Nat.min_eq_left hj] at this
  rw [show decide (2 * mo - ((R 0).length + (R 1).length + (R 2).length) < j) = decide (2 * mo < (R 0).length + (R 1).length + (R 2).length + j) by congr 1; simp only [eq_iff_iff]; omega]
  exact this
theorem trim2_len (mo : Nat) (R : Rw4) : (trim2 mo R 2).length ≤ mo - (R 0).length := by
  unfold trim2
  rw [upd_same, List.length_take]; omega
theorem trimW (w : World) (i : Ix) (S : Sx) (mo p : Nat) (R : Rw4) (b : Nat) (r : Raw w i S mo p R b) (h0 : (R 0).length + (R 1).length ≤ mo) : Calls Try.prog 33 #[.pointer (some ⟨i.c, 0, none⟩)] w (RPost (.tuple #[]) w i S mo p (trimR mo R) b) := by
  have hb := (Below.refl w.heap.size w).alloc (Nat.le_refl _) (.cells #[.pointer (some ⟨i.c, 0, none⟩)] 25)
  have kb : CB (w.alloc (.cells #[.pointer (some ⟨i.c, 0, none⟩)] 25)) w.heap.size i := heap_alloc_new _ _
  have U := Lib.hid (trim_two _ w.heap.size i S mo p R b (r.below hb) kb (fun h => by have := r.lt h; omega) (by omega))
  have B := Lib.hid hb
  have h3 := Lib.hid (show (trim2 mo R 0).length + (trim2 mo R 1).length + (trim2 mo R 2).length ≤ 2 * mo by
    have := trim2_len mo R
    rw [show trim2 mo R 0 = R 0 from upd_ne (by omega), show trim2 mo R 1 = R 1 from upd_ne (by omega)]
    omega)
  clear r hb kb h0
  go_enter Try.func33, Try.ntmps33
  go_wp2_with fail
  refine U.out.mono ?_
  rintro e w1 ⟨rfl, S1, r1, hW1, k1, n1⟩
  have V := Lib.hid (trim_three w1 w.heap.size i S1 mo p _ b r1 k1 n1 h3.out)
  have W1 := Lib.hid ((Went.below B.out : Went w _ (blk i S) (blk i S)).trans hW1)
  clear r1 hW1 k1 n1 U
  go_wp2_with fail
  refine V.out.mono ?_
  rintro e w2 ⟨rfl, S2, r2, hW2, k2, n2⟩
  have P := Lib.hid (show RPost (.tuple #[]) w i S mo p (trimR mo R) b (.returned (.tuple #[])) w2 from ⟨rfl, S2, r2, W1.out.trans hW2⟩)
  clear r2 hW2 k2 n2 V
  go_wp2_with fail
  go_end0
  exact P.out
end Go.Proofs.Ytlmbeiijijkjeaa
