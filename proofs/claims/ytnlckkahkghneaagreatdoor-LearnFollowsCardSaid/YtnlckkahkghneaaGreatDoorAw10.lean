/- The laws' own helper awake of layer 10: it returns true; what was there is as it was. -/
import Derived.Test.YtnlckkahkghneaaGreatDoorLq
import Derived.Test.YtnlckkahkghneaaGreatDoorLw
import Derived.Test.YtnlckkahkghneaaGreatDoorLiftb
import Derived.Deep.MidRow
import Derived.Deep.RegionHeld3
import Derived.Deep.RegionLaw
import Derived.Deep.CutBlock
import Derived.Deep.DeepCutAuto
set_option maxRecDepth 20000
namespace Go.Proofs.YtnlckkahkghneaaGreatDoor.LE
open Go.RowKit Sg
def RetB (b : Bool) (w : World) (e : Ending) (w' : World) : Prop := e = .returned (.bool b) ∧ Below w.heap.size w w'
theorem beq_eq {a b : ByteArray} (h : beq a b = true) : a = b := by
  obtain ⟨⟨a⟩⟩ := a
  obtain ⟨⟨b⟩⟩ := b
  have : a = b := by simpa [beq] using h
  rw [this]
structure Wake (six : Bool) : Prop where
  s1 : (w1 six).step ka = .agg #[.bool true, .string ⟨#[]⟩, .bool false]
  o3 : (w3 six).step kc = .agg #[.bool ((w3 six).has kc), .string ((w3 six).vicV kc), .bool true]
  ln : (w4 six).keys.length = 2
  hs : (w4 six).has kc = true
  gh : (w4 six).ghosts = [(w3 six).vicV kc]
  wt : (w4 six).w = 2305843009213693952
  wl : (w5 six).w < 2305843009213693952
  sx : (w4 six).six = six
  mx : (w4 six).mo = 2
theorem six_all (six : Bool) : (w4 six).six = six := by cases six <;> kernel_rfl
theorem mo_all (six : Bool) : (w4 six).mo = 2 := by cases six <;> kernel_rfl
theorem chk_all (six : Bool) : chk six = true := by cases six; exact chk_no; exact chk_yes
theorem wake10 (six : Bool) : Wake six := by
  have h := chk_all six
  unfold chk at h
  simp only [Bool.and_eq_true] at h
  obtain ⟨⟨⟨⟨⟨⟨⟨⟨h1, h2⟩, h3⟩, h4⟩, h5⟩, h6⟩, h7⟩, h8⟩, h9⟩ := h
  have h2' : (w1 six).outB ka = false := by simpa using h2
  refine ⟨?_, ?_, by simpa using h4, h5, ?_, by simpa [half] using h8, of_decide_eq_true h9, six_all six, mo_all six⟩
  · unfold St.step St.vicV
    rw [h1, h2', if_neg (by simp)]
  · unfold St.step
    rw [h3]
  · have h6' : (w4 six).ghosts.length = 1 := by simpa using h6
    have h7' := beq_eq h7
    generalize (w4 six).ghosts = gs at *
    match gs, h6' with
    | [x], _ => rw [← h7']; rfl

/-- New where it may not be: an error. -/
def LNo (n : Int) (w : World) (e : Ending) (w' : World) : Prop := ∃ v, e = .returned (.tuple #[.pointer none, v]) ∧ Flt w' ⟨#[108, 101, 97, 114, 110]⟩ n v ∧ Below w.heap.size w w'
theorem new_kindL (w : World) (z : Int) (h5 : ¬ z = 5) (h6 : ¬ z = 6) (y : Int) (t : Value) (ln : Int) : Calls Tryz.prog 13 #[.int .i64 z, .int .i64 y, t, .int .i64 ln] w (LNo 7 w) := by
  have X := Lib.hid (experts_none w z h5 h6)
  clear h5 h6
  go_enter Tryz.func13, Tryz.ntmps13
  go_wp2_with fail
  refine X.out.mono ?_
  rintro e w1 ⟨rfl, hB1⟩
  have B1 := Lib.hid hB1
  clear hB1 X
  go_upto_region 2 with fail
  have B2 := Lib.hid (B1.out.alloc B1.out.size (.cells #[.int .i64 0, .int .i64 0] 92))
  clear B1
  generalize w1.alloc (.cells #[.int .i64 0, .int .i64 0] 92) = w2 at B2 ⊢
  go_wp2_with fail
  go_ret2
  exact ⟨_, rfl, ⟨_, rfl, by simp, heap_alloc_new _ _⟩, B2.out.alloc B2.out.size _⟩
theorem new_sizeL (w : World) (y : Int) (hy : y < 0 ∨ 16777216 < y) (t : Value) (ln : Int) : Calls Tryz.prog 13 #[.int .i64 5, .int .i64 y, t, .int .i64 ln] w (LNo 1 w) := by
  have X := Lib.hid (experts_five w)
  have I := Lib.hid (fun w1 => show Calls Tryz.prog 45 #[.int .i64 y] w1 (fun e w' => e = .returned (.bool false) ∧ w1 = w') by
    have := isRoom_l w1 y
    rw [show (decide (0 ≤ y) && decide (y ≤ 16777216)) = false by
      rcases hy with h | h
      · rw [decide_eq_false (by omega)]; rfl
      · rw [decide_eq_false (p := y ≤ 16777216) (by omega), Bool.and_false]] at this
    exact this)
  clear hy
  go_enter Tryz.func13, Tryz.ntmps13
  go_wp2_with fail
  refine X.out.mono ?_
  rintro e w1 ⟨rfl, hB1⟩
  have B1 := Lib.hid hB1
  clear hB1 X
  go_upto_region 4 with fail
  have B2 := Lib.hid (B1.out.alloc B1.out.size (.cells #[.int .i64 0, .int .i64 1] 92))
  clear B1
  generalize w1.alloc (.cells #[.int .i64 0, .int .i64 1] 92) = w2 at B2 ⊢
  go_wp2_with fail
  refine (I.out _).mono ?_
  rintro e w2' ⟨rfl, rfl⟩
  go_wp2_with fail
  go_ret2
  exact ⟨_, rfl, ⟨_, rfl, by simp, heap_alloc_new _ _⟩, B2.out.alloc B2.out.size _⟩

theorem nil_lanes (w : World) : DR.Lanes w w.heap.size (.slice none 0 0) [] := ⟨by simp, Or.inl ⟨rfl, none, 0, rfl⟩⟩
def BX (w : World) (S : Nat → Prop) (L : List (Nat × Bool × ByteArray × Bool)) : Prop := ∀ q ∈ L, LR.Box w q.1 q.2.1 q.2.2.1 q.2.2.2 ∧ ¬ S q.1
theorem BX.went {w w' : World} {S S' : Nat → Prop} {L : List (Nat × Bool × ByteArray × Bool)} (h : BX w S L) (ht : Went w w' S S') : BX w' S' L := by
  intro q hq
  obtain ⟨h1, h2⟩ := h q hq
  refine ⟨(ht.turn.block _ h1.lt h2).trans h1, fun hk => ?_⟩
  rcases ht.new _ hk with h | h
  · exact h2 h
  · have := h1.lt; omega
theorem box_new10 {w : World} {T : Nat → Prop} {L : List (Nat × Bool × ByteArray × Bool)} (h : BX w T L) (hl : ∀ k, T k → k < w.heap.size) (x y : Bool) (s : ByteArray) : BX (w.alloc (.cells #[.bool x, .string s, .bool y] 57)) T ((w.heap.size, x, s, y) :: L) := by
  intro q hq
  rcases List.mem_cons.1 hq with rfl | hq
  · exact ⟨heap_alloc_new _ _, fun hk => by have := hl _ hk; omega⟩
  obtain ⟨h1, h2⟩ := h q hq
  refine ⟨(Below.heap_alloc _ _ _ h1.lt).trans h1, h2⟩
def AwR (w : World) (i : Value) (W : World) : Prop := ∃ k : Nat, i = .int .i64 (k : Int) ∧ 5 ≤ k ∧ k ≤ 7 ∧ Below w.heap.size w W

set_option maxHeartbeats 4000000 in
set_option maxRecDepth 100000 in
/-- A round of awake: one kind. -/
theorem made_two (w : World) (six : Bool) (kd : Int) (hk : ((if six then 6 else 5 : Nat) : Int) = kd) : Calls Tryz.prog 41 #[.int .i64 kd, .int .i64 2, .slice (some ⟨w.heap.size, 0, none⟩) 2 2] (w.alloc (.cells #[.int .u64 0, .int .u64 18446744073709551615] 47)) (LNew six 2 [0, 18446744073709551615] (w.alloc (.cells #[.int .u64 0, .int .u64 18446744073709551615] 47))) := by
  subst hk
  exact made_l _ six 2 _ _ (by omega) (DR.two_lane w 0 18446744073709551615 (by omega) (by omega))

set_option maxHeartbeats 8000000 in
set_option maxRecDepth 100000 in
theorem awake_any (w : World) (hl : Laid w) : Calls Tryz.prog 11 #[] w (RetB true w) := by
  have HN := Lib.hid hl
  have MD := Lib.hid made_two
  have g34 := fun (w : World) => LR.guard34 (w := w)
  have q34 := fun (w : World) (a : Bool) (s : ByteArray) (b : Bool) => LR.neq34 (w := w) (a := a) (s := s) (b := b)
  clear hl
  go_enter Tryz.func11, Tryz.ntmps11
  go_wp2_with fail
  go_loopw [1] (fun i W => AwR w i W) (fun i _ => 7 - (intOf i).toNat)
  case atStart => exact ⟨5, rfl, by omega, by omega, Below.refl _ _⟩
  case round =>
    obtain ⟨k, rfl, hk0, hk5, hB⟩ := hrel
    have HB := Lib.hid hB
    clear hB
    by_cases hk : k < 7
    · have e0 : decide ((k : Int) ≤ 6) = true := decide_eq_true (by omega)
      obtain ⟨six, hsix⟩ : ∃ six : Bool, ((if six then 6 else 5 : Nat) : Int) = (k : Int) := by
        by_cases h : k = 6
        · exact ⟨true, by rw [if_pos rfl]; omega⟩
        · exact ⟨false, by rw [if_neg (by simp)]; omega⟩
      have SX := Lib.hid hsix
      have B1 := Lib.hid (HB.out.alloc HB.out.size (.cells #[.int .u64 0, .int .u64 18446744073709551615] 47))
      clear hsix
      go_wp2_with fail
      refine (MD.out wr six (k : Int) SX.out).mono ?_
      rintro e u2 ⟨l, T, rfl, hC, hT, hB2⟩
      have L2 := Lib.hid (LL.made B1.out hC hT hB2)
      clear hC hT hB2 B1 HB
      go_wp2_with fail
      have WK := Lib.hid (wake10 six)
      have U1 := request_l u2 l T (w0 six) 0 L2.out.ca ka (by decide) (by omega)
      rw [show (w0 six).req ka = w1 six from rfl] at U1
      generalize (w0 six).step ka = v1 at U1
      have U1 := Lib.hid U1
      refine Calls.mono (show Calls Tryz.prog 18 #[.pointer (some ⟨l, 0, none⟩), .string ⟨#[97]⟩] u2 (LCP v1 u2 l T (w1 six) 4) from U1.out) ?_
      intro e u3 hp
      obtain ⟨rfl, T3, hL, _⟩ := L2.out.op hp
      have L3 := Lib.hid hL
      clear hp hL L2 U1
      go_wp2_with fail
      have U2 := request_l u3 l T3 (w1 six) 4 L3.out.ca ka (by decide) (by omega)
      rw [show (w1 six).req ka = w2 six from rfl, WK.out.s1] at U2
      refine Calls.mono (show Calls Tryz.prog 18 #[.pointer (some ⟨l, 0, none⟩), .string ⟨#[97]⟩] u3 (LCP (.agg #[.bool true, .string ⟨#[]⟩, .bool false]) u3 l T3 (w2 six) 8) from U2) ?_
      intro e u4 hp
      obtain ⟨rfl, T4, hL, _⟩ := L3.out.op hp
      have X5 := Lib.hid (box_new10 (w := u4) (T := T4) (L := []) (by intro q hq; cases hq) hL.lt true false ⟨#[]⟩)
      have L5 := Lib.hid (hL.below ((Below.refl u4.heap.size u4).alloc (Nat.le_refl _) (.cells #[.bool true, .string ⟨#[]⟩, .bool false] 57)))
      clear hp hL L3 U2
      go_upto_region 9 with fail
      generalize u4.alloc (.cells #[.bool true, .string ⟨#[]⟩, .bool false] 57) = w5x at L5 X5 ⊢
      generalize u4.heap.size = n3 at *
      have U3 := request_l w5x l T4 (w2 six) 8 L5.out.ca kb (by decide) (by omega)
      rw [show (w2 six).req kb = w3 six from rfl] at U3
      generalize (w2 six).step kb = v3 at U3
      have U3 := Lib.hid U3
      go_wp2_with fail
      refine Calls.mono (show Calls Tryz.prog 18 #[.pointer (some ⟨l, 0, none⟩), .string ⟨#[98]⟩] w5x (LCP v3 w5x l T4 (w3 six) 12) from U3.out) ?_
      intro e u6 hp
      obtain ⟨rfl, T6, hL, hW⟩ := L5.out.op hp
      have X6 := Lib.hid (X5.out.went hW)
      have L6 := Lib.hid hL
      clear hp hL hW L5 U3 X5
      go_wp2_with fail
      have U4 := request_l u6 l T6 (w3 six) 12 L6.out.ca kc (by decide) (by omega)
      rw [show (w3 six).req kc = w4 six from rfl, WK.out.o3] at U4
      obtain ⟨x, hx⟩ : ∃ x, x = (w3 six).has kc := ⟨_, rfl⟩
      obtain ⟨y, hy⟩ : ∃ y, y = (w3 six).vicV kc := ⟨_, rfl⟩
      rw [← hx, ← hy] at U4
      refine Calls.mono (show Calls Tryz.prog 18 #[.pointer (some ⟨l, 0, none⟩), .string ⟨#[99]⟩] u6 (LCP (.agg #[.bool x, .string y, .bool true]) u6 l T6 (w4 six) 16) from U4) ?_
      intro e u7 hp
      obtain ⟨rfl, T7, hL, hW⟩ := L6.out.op hp
      have X8 := Lib.hid (box_new10 (X6.out.went hW) hL.lt x true y)
      have L8 := Lib.hid (hL.below ((Below.refl u7.heap.size u7).alloc (Nat.le_refl _) (.cells #[.bool x, .string y, .bool true] 57)))
      have HG := Lib.hid (show (w4 six).ghosts = [y] from by rw [hy]; exact WK.out.gh)
      have HY := Lib.hid (show (w4 six).req y = w5 six from by rw [hy]; rfl)
      have YS := Lib.hid (show y.size ≤ maxLen from hL.ca.smallG y (by rw [HG.out]; exact List.mem_singleton.2 rfl))
      clear hp hL hW L6 U4 X6 hx hy
      go_upto_region 11 with fail
      generalize u7.alloc (.cells #[.bool x, .string y, .bool true] 57) = u8 at L8 X8 ⊢
      generalize u7.heap.size = n7 at *
      have B0 := Lib.hid (show Below u8.heap.size u8 u8.drew from ⟨rfl, rfl, rfl, Nat.le_refl _, fun _ _ => rfl⟩)
      have FF := Lib.hid (show ∀ W, Below u8.heap.size u8 W → W.cell? ⟨n3, 0, none⟩ = some (.bool true) ∧ W.cell? ⟨n3, 1, none⟩ = some (.string ⟨#[]⟩) ∧ W.cell? ⟨n3, 2, none⟩ = some (.bool false) ∧ W.cell? ⟨n7, 1, none⟩ = some (.string y) ∧ W.cell? ⟨n7, 2, none⟩ = some (.bool true) from fun W hB => by
        have X9 := X8.out.went (Went.below hB)
        obtain ⟨x1, x2, x3, _, _⟩ := (X9 (n3, true, ⟨#[]⟩, false) (by simp)).1.cells
        obtain ⟨_, x5, x6, _, _⟩ := (X9 (n7, x, y, true) (by simp)).1.cells
        exact ⟨x1, x2, x3, x5, x6⟩)
      clear X8
      have hk4 : (w4 six).six = six := WK.out.sx
      have C1 := Lib.hid (show ∀ W, Below u8.heap.size u8 W → Calls Tryz.prog 33 #[.pointer (some ⟨l, 0, none⟩)] W (Told (.int .i64 2) W) from fun W hB => by
        have := len_l W l T7 (w4 six) 16 (L8.out.below hB).ca
        rw [WK.out.ln] at this
        exact this)
      have C2 := Lib.hid (show ∀ W, Below u8.heap.size u8 W → Calls Tryz.prog 34 #[.pointer (some ⟨l, 0, none⟩), .string ⟨#[99]⟩] W (Told (.bool true) W) from fun W hB => by
        have := has_l W l T7 (w4 six) 16 (L8.out.below hB).ca kc (by decide)
        rw [WK.out.hs] at this
        exact this)
      have C3 := Lib.hid (show ∀ W, Below u8.heap.size u8 W → Calls Tryz.prog 36 #[.pointer (some ⟨l, 0, none⟩)] W (RowPost [y] W) from fun W hB => by
        have := ghosts_l W l T7 (w4 six) 16 (L8.out.below hB).ca
        rw [HG.out] at this
        exact this)
      have C4 := Lib.hid (show ∀ W, Below u8.heap.size u8 W → Calls Tryz.prog 39 #[.pointer (some ⟨l, 0, none⟩)] W (Told (.int .u64 2305843009213693952) W) from fun W hB => by
        have := weight_l W l T7 (w4 six) 16 (L8.out.below hB).ca
        rw [WK.out.wt] at this
        exact this)
      have C5 := Lib.hid (show ∀ W, Below u8.heap.size u8 W → Calls Tryz.prog 43 #[.pointer (some ⟨l, 0, none⟩)] W (Told (.int .i64 (k : Int)) W) from fun W hB => by
        have := kind_l W l T7 (w4 six) 16 (L8.out.below hB).ca
        rw [hk4, SX.out] at this
        exact this)
      have C6 := Lib.hid (show ∀ W, Below u8.heap.size u8 W → Calls Tryz.prog 38 #[.pointer (some ⟨l, 0, none⟩)] W (Told (.int .i64 2) W) from fun W hB => by
        have := most_l W l T7 (w4 six) 16 (L8.out.below hB).ca
        rw [WK.out.mx] at this
        exact this)
      have G1 := Lib.hid (show [y].length = 1 from rfl)
      have G0 := Lib.hid (show 0 < [y].length from by simp)
      have GH := Lib.hid (show [y].getD 0 ⟨#[]⟩ = y from rfl)
      have LT := Lib.hid WK.out.wl
      clear hk4 WK HG
      generalize w5 six = s5 at *
      generalize w4 six = s4 at *
      go_wp2_with fail
      refine wp_region_noPanic ?_
      refine wp_region_held_drew (S := fun W => W.cell? ⟨n3, 0, none⟩ = some (.bool true) ∧ W.cell? ⟨n3, 1, none⟩ = some (.string ⟨#[]⟩) ∧ W.cell? ⟨n3, 2, none⟩ = some (.bool false) ∧ W.cell? ⟨n7, 1, none⟩ = some (.string y) ∧ W.cell? ⟨n7, 2, none⟩ = some (.bool true)) (by kernel_rfl) ?_ (fun hHeld => ?_)
      · exact FF.out _ B0.out
      refine wpAnyH_take (i := 0) (oi := { dst := some 26, op := Go.Op.load 57 (Go.Operand.tmp 3), type := 57, pos := "law.go:35", after := #[], guard := none }) (v := ?_) rfl (by kernel_rfl) (by kernel_rfl) (by kernel_rfl) (fun _ _ _ h => h) (Or.inl ⟨by rfl, ?_⟩) (by assumption) ?_
      rotate_left
      · (intro w hSw; (try dsimp only at hSw); obtain ⟨s0, s1, s2, s3, s4⟩ := hSw; go_simp; (try with_reducible rfl))
      (try simp only [Act.put, List.setIfInBounds_toArray, List.set_cons_zero, List.set_cons_succ])
      refine wpAnyH_take (i := 1) (oi := { dst := some 27, op := Go.Op.build 57 #[(0, Go.Operand.const (Go.Value.bool true))], type := 57, pos := "law.go:35", after := #[], guard := none }) (v := ?_) rfl (by kernel_rfl) (by kernel_rfl) (by kernel_rfl) (fun _ _ _ h => h) (Or.inl ⟨by rfl, ?_⟩) (by assumption) ?_
      rotate_left
      · (intro w hSw; (try dsimp only at hSw); go_simp; (try with_reducible rfl))
      (try simp only [Act.put, List.setIfInBounds_toArray, List.set_cons_zero, List.set_cons_succ])
      refine wpAnyH_take (i := 2) (oi := { dst := some 28, op := Go.Op.binOp Go.BinOp.neq 57 (Go.Operand.tmp 26) (Go.Operand.tmp 27) 57, type := 4, pos := "law.go:35", after := #[{ on := 0, ground := Go.Ground.data }, { on := 1, ground := Go.Ground.data }], guard := none }) (v := ?_) rfl (by kernel_rfl) (by kernel_rfl) (by kernel_rfl) (fun _ _ _ h => h) (Or.inl ⟨by rfl, ?_⟩) (by assumption) ?_
      rotate_left
      · (intro w hSw; (try dsimp only at hSw); go_simp; (try with_reducible rfl))
      (try simp only [Act.put, List.setIfInBounds_toArray, List.set_cons_zero, List.set_cons_succ])
      refine wpAnyH_take (i := 3) (oi := { dst := some 29, op := Go.Op.move (Go.Operand.tmp 28), type := 4, pos := "law.go:35", after := #[{ on := 2, ground := Go.Ground.data }], guard := none }) (v := ?_) rfl (by kernel_rfl) (by kernel_rfl) (by kernel_rfl) (fun _ _ _ h => h) (Or.inl ⟨by rfl, ?_⟩) (by assumption) ?_
      rotate_left
      · (intro w hSw; (try dsimp only at hSw); go_simp; (try with_reducible rfl))
      (try simp only [Act.put, List.setIfInBounds_toArray, List.set_cons_zero, List.set_cons_succ])
      refine wpAnyH_take (i := 4) (oi := { dst := some 30, op := Go.Op.fieldAddr 57 (Go.Operand.tmp 4) 2, type := 0, pos := "law.go:35", after := #[{ on := 3, ground := Go.Ground.guard }], guard := some (3, false) }) (v := ?_) rfl (by kernel_rfl) (by kernel_rfl) (by kernel_rfl) (fun _ _ _ h => h) (Or.inl ⟨by rfl, ?_⟩) (by assumption) ?_
      rotate_left
      · (intro w hSw; (try dsimp only at hSw); go_simp; (try with_reducible rfl))
      (try simp only [Act.put, List.setIfInBounds_toArray, List.set_cons_zero, List.set_cons_succ])
      refine wpAnyH_take (i := 5) (oi := { dst := some 31, op := Go.Op.load 4 (Go.Operand.tmp 30), type := 4, pos := "law.go:35", after := #[{ on := 4, ground := Go.Ground.data }, { on := 3, ground := Go.Ground.guard }], guard := some (3, false) }) (v := ?_) rfl (by kernel_rfl) (by kernel_rfl) (by kernel_rfl) (fun _ _ _ h => h) (Or.inl ⟨by rfl, ?_⟩) (by assumption) ?_
      rotate_left
      · (intro w hSw; (try dsimp only at hSw); obtain ⟨s0, s1, s2, s3, s4⟩ := hSw; go_simp; (try with_reducible rfl))
      (try simp only [Act.put, List.setIfInBounds_toArray, List.set_cons_zero, List.set_cons_succ])
      refine wpAnyH_take (i := 6) (oi := { dst := some 32, op := Go.Op.unOp Go.UnOp.not 4 (Go.Operand.tmp 31), type := 4, pos := "law.go:35", after := #[{ on := 5, ground := Go.Ground.data }, { on := 3, ground := Go.Ground.guard }], guard := some (3, false) }) (v := ?_) rfl (by kernel_rfl) (by kernel_rfl) (by kernel_rfl) (fun _ _ _ h => h) (Or.inl ⟨by rfl, ?_⟩) (by assumption) ?_
      rotate_left
      · (intro w hSw; (try dsimp only at hSw); go_simp; (try with_reducible rfl))
      (try simp only [Act.put, List.setIfInBounds_toArray, List.set_cons_zero, List.set_cons_succ])
      refine wpAnyH_take (i := 7) (oi := { dst := some 33, op := Go.Op.pick (Go.Operand.tmp 29) (Go.Operand.const (Go.Value.bool true)) (Go.Operand.tmp 32), type := 4, pos := "law.go:35", after := #[{ on := 3, ground := Go.Ground.data }, { on := 6, ground := Go.Ground.data }], guard := none }) (v := ?_) rfl (by kernel_rfl) (by kernel_rfl) (by kernel_rfl) (fun _ _ _ h => h) (Or.inl ⟨by rfl, ?_⟩) (by assumption) ?_
      rotate_left
      · (intro w hSw; (try dsimp only at hSw); go_simp; (try with_reducible rfl))
      (try simp only [Act.put, List.setIfInBounds_toArray, List.set_cons_zero, List.set_cons_succ])
      refine wpAnyH_take (i := 8) (oi := { dst := some 34, op := Go.Op.move (Go.Operand.tmp 33), type := 4, pos := "law.go:35", after := #[{ on := 7, ground := Go.Ground.data }, { on := 3, ground := Go.Ground.chain }], guard := none }) (v := ?_) rfl (by kernel_rfl) (by kernel_rfl) (by kernel_rfl) (fun _ _ _ h => h) (Or.inl ⟨by rfl, ?_⟩) (by assumption) ?_
      rotate_left
      · (intro w hSw; (try dsimp only at hSw); go_simp; (try with_reducible rfl))
      (try simp only [Act.put, List.setIfInBounds_toArray, List.set_cons_zero, List.set_cons_succ])
      refine wpAnyH_take (i := 9) (oi := { dst := some 35, op := Go.Op.move (Go.Operand.tmp 2), type := 26, pos := "law.go:35", after := #[{ on := 8, ground := Go.Ground.guard }], guard := some (8, false) }) (v := ?_) rfl (by kernel_rfl) (by kernel_rfl) (by kernel_rfl) (fun _ _ _ h => h) (Or.inl ⟨by rfl, ?_⟩) (by assumption) ?_
      rotate_left
      · (intro w hSw; (try dsimp only at hSw); go_simp; (try with_reducible rfl))
      (try simp only [Act.put, List.setIfInBounds_toArray, List.set_cons_zero, List.set_cons_succ])
      refine wpAnyH_ready (rs := [10]) (by kernel_rfl) (by simp) ?_
      refine AllReadyH.cons (o := { dst := some 36, op := Go.Op.call { callee := Go.Callee.value (Go.Operand.func 33), args := #[Go.Operand.tmp 35], argTypes := #[26] }, type := 3, pos := "law.go:35", after := #[{ on := 9, ground := Go.Ground.data }, { on := 8, ground := Go.Ground.chain }, { on := 8, ground := Go.Ground.guard }], guard := some (8, false) }) rfl (fun K hK => ?_) AllReadyH.nil
      go_simp
      refine (C1.out _ B0.out).mono ?_
      rintro e q1 ⟨rfl, hB⟩
      have B1 := Lib.hid (B0.out.trans (hB.mono B0.out.size))
      clear hB
      go_wp2_with fail
      refine hK.out _ _ ?_ (fun hHeld => ?_)
      · exact FF.out _ B1.out
      clear hK K
      (try simp only [Act.put, List.setIfInBounds_toArray, List.set_cons_zero, List.set_cons_succ])
      refine wpAnyH_take (i := 11) (oi := { dst := some 37, op := Go.Op.binOp Go.BinOp.neq 3 (Go.Operand.tmp 36) (Go.Operand.const (Go.Value.int Go.IntKind.i64 2)) 3, type := 4, pos := "law.go:35", after := #[{ on := 10, ground := Go.Ground.data }, { on := 8, ground := Go.Ground.guard }], guard := some (8, false) }) (v := ?_) rfl (by kernel_rfl) (by kernel_rfl) (by kernel_rfl) (fun _ _ _ h => h) (Or.inl ⟨by rfl, ?_⟩) (by assumption) ?_
      rotate_left
      · (intro w hSw; (try dsimp only at hSw); go_simp; (try with_reducible rfl))
      (try simp only [Act.put, List.setIfInBounds_toArray, List.set_cons_zero, List.set_cons_succ])
      refine wpAnyH_take (i := 12) (oi := { dst := some 38, op := Go.Op.pick (Go.Operand.tmp 34) (Go.Operand.const (Go.Value.bool true)) (Go.Operand.tmp 37), type := 4, pos := "law.go:35", after := #[{ on := 8, ground := Go.Ground.data }, { on := 11, ground := Go.Ground.data }], guard := none }) (v := ?_) rfl (by kernel_rfl) (by kernel_rfl) (by kernel_rfl) (fun _ _ _ h => h) (Or.inl ⟨by rfl, ?_⟩) (by assumption) ?_
      rotate_left
      · (intro w hSw; (try dsimp only at hSw); go_simp; (try with_reducible rfl))
      (try simp only [Act.put, List.setIfInBounds_toArray, List.set_cons_zero, List.set_cons_succ])
      refine wpAnyH_take (i := 13) (oi := { dst := some 39, op := Go.Op.move (Go.Operand.tmp 38), type := 4, pos := "law.go:35", after := #[{ on := 12, ground := Go.Ground.data }, { on := 10, ground := Go.Ground.chain }], guard := none }) (v := ?_) rfl (by kernel_rfl) (by kernel_rfl) (by kernel_rfl) (fun _ _ _ h => h) (Or.inl ⟨by rfl, ?_⟩) (by assumption) ?_
      rotate_left
      · (intro w hSw; (try dsimp only at hSw); go_simp; (try with_reducible rfl))
      (try simp only [Act.put, List.setIfInBounds_toArray, List.set_cons_zero, List.set_cons_succ])
      refine wpAnyH_take (i := 14) (oi := { dst := some 40, op := Go.Op.move (Go.Operand.tmp 2), type := 26, pos := "law.go:35", after := #[{ on := 13, ground := Go.Ground.guard }], guard := some (13, false) }) (v := ?_) rfl (by kernel_rfl) (by kernel_rfl) (by kernel_rfl) (fun _ _ _ h => h) (Or.inl ⟨by rfl, ?_⟩) (by assumption) ?_
      rotate_left
      · (intro w hSw; (try dsimp only at hSw); go_simp; (try with_reducible rfl))
      (try simp only [Act.put, List.setIfInBounds_toArray, List.set_cons_zero, List.set_cons_succ])
      refine wpAnyH_ready (rs := [15]) (by kernel_rfl) (by simp) ?_
      refine AllReadyH.cons (o := { dst := some 41, op := Go.Op.call { callee := Go.Callee.value (Go.Operand.func 34), args := #[Go.Operand.tmp 40, Go.Operand.const (Go.Value.string { data := #[99] })], argTypes := #[26, 9] }, type := 4, pos := "law.go:35", after := #[{ on := 14, ground := Go.Ground.data }, { on := 13, ground := Go.Ground.chain }, { on := 13, ground := Go.Ground.guard }], guard := some (13, false) }) rfl (fun K hK => ?_) AllReadyH.nil
      go_simp
      refine (C2.out _ B1.out).mono ?_
      rintro e q2 ⟨rfl, hB⟩
      have B2 := Lib.hid (B1.out.trans (hB.mono B1.out.size))
      clear hB
      go_wp2_with fail
      refine hK.out _ _ ?_ (fun hHeld => ?_)
      · exact FF.out _ B2.out
      clear hK K
      (try simp only [Act.put, List.setIfInBounds_toArray, List.set_cons_zero, List.set_cons_succ])
      refine wpAnyH_take (i := 16) (oi := { dst := some 42, op := Go.Op.unOp Go.UnOp.not 4 (Go.Operand.tmp 41), type := 4, pos := "law.go:35", after := #[{ on := 15, ground := Go.Ground.data }, { on := 13, ground := Go.Ground.guard }], guard := some (13, false) }) (v := ?_) rfl (by kernel_rfl) (by kernel_rfl) (by kernel_rfl) (fun _ _ _ h => h) (Or.inl ⟨by rfl, ?_⟩) (by assumption) ?_
      rotate_left
      · (intro w hSw; (try dsimp only at hSw); go_simp; (try with_reducible rfl))
      (try simp only [Act.put, List.setIfInBounds_toArray, List.set_cons_zero, List.set_cons_succ])
      refine wpAnyH_take (i := 17) (oi := { dst := some 43, op := Go.Op.pick (Go.Operand.tmp 39) (Go.Operand.const (Go.Value.bool true)) (Go.Operand.tmp 42), type := 4, pos := "law.go:35", after := #[{ on := 13, ground := Go.Ground.data }, { on := 16, ground := Go.Ground.data }], guard := none }) (v := ?_) rfl (by kernel_rfl) (by kernel_rfl) (by kernel_rfl) (fun _ _ _ h => h) (Or.inl ⟨by rfl, ?_⟩) (by assumption) ?_
      rotate_left
      · (intro w hSw; (try dsimp only at hSw); go_simp; (try with_reducible rfl))
      (try simp only [Act.put, List.setIfInBounds_toArray, List.set_cons_zero, List.set_cons_succ])
      refine wpAnyH_take (i := 18) (oi := { dst := some 44, op := Go.Op.move (Go.Operand.tmp 43), type := 4, pos := "law.go:35", after := #[{ on := 17, ground := Go.Ground.data }, { on := 15, ground := Go.Ground.chain }], guard := none }) (v := ?_) rfl (by kernel_rfl) (by kernel_rfl) (by kernel_rfl) (fun _ _ _ h => h) (Or.inl ⟨by rfl, ?_⟩) (by assumption) ?_
      rotate_left
      · (intro w hSw; (try dsimp only at hSw); go_simp; (try with_reducible rfl))
      (try simp only [Act.put, List.setIfInBounds_toArray, List.set_cons_zero, List.set_cons_succ])
      refine wpAnyH_take (i := 19) (oi := { dst := some 45, op := Go.Op.move (Go.Operand.tmp 2), type := 26, pos := "law.go:35", after := #[{ on := 18, ground := Go.Ground.guard }], guard := some (18, false) }) (v := ?_) rfl (by kernel_rfl) (by kernel_rfl) (by kernel_rfl) (fun _ _ _ h => h) (Or.inl ⟨by rfl, ?_⟩) (by assumption) ?_
      rotate_left
      · (intro w hSw; (try dsimp only at hSw); go_simp; (try with_reducible rfl))
      (try simp only [Act.put, List.setIfInBounds_toArray, List.set_cons_zero, List.set_cons_succ])
      refine wpAnyH_ready (rs := [20]) (by kernel_rfl) (by simp) ?_
      refine AllReadyH.cons (o := { dst := some 46, op := Go.Op.call { callee := Go.Callee.value (Go.Operand.func 36), args := #[Go.Operand.tmp 45], argTypes := #[26] }, type := 33, pos := "law.go:35", after := #[{ on := 19, ground := Go.Ground.data }, { on := 18, ground := Go.Ground.chain }, { on := 18, ground := Go.Ground.guard }], guard := some (18, false) }) rfl (fun K hK => ?_) AllReadyH.nil
      go_simp
      refine (C3.out _ B2.out).mono ?_
      rintro e q3 ⟨vy, rfl, hO, hB⟩
      obtain ⟨Ay, cy, rfl⟩ := hO.len
      rw [G1.out]
      have B3 := Lib.hid (B2.out.trans (hB.mono B2.out.size))
      clear hO hB
      go_wp2_with fail
      refine hK.out _ _ ?_ (fun hHeld => ?_)
      · exact FF.out _ B3.out
      clear hK K
      (try simp only [Act.put, List.setIfInBounds_toArray, List.set_cons_zero, List.set_cons_succ])
      refine wpAnyH_take (i := 21) (oi := { dst := some 47, op := Go.Op.call { callee := Go.Callee.builtin Go.Builtin.len, args := #[Go.Operand.tmp 46], argTypes := #[33] }, type := 3, pos := "law.go:35", after := #[{ on := 20, ground := Go.Ground.data }, { on := 18, ground := Go.Ground.guard }], guard := some (18, false) }) (v := ?_) rfl (by kernel_rfl) (by kernel_rfl) (by kernel_rfl) (fun _ _ _ h => h) (Or.inl ⟨by rfl, ?_⟩) (by assumption) ?_
      rotate_left
      · (intro w hSw; (try dsimp only at hSw); go_simp; (try with_reducible rfl))
      (try simp only [Act.put, List.setIfInBounds_toArray, List.set_cons_zero, List.set_cons_succ])
      refine wpAnyH_take (i := 22) (oi := { dst := some 48, op := Go.Op.binOp Go.BinOp.neq 3 (Go.Operand.tmp 47) (Go.Operand.const (Go.Value.int Go.IntKind.i64 1)) 3, type := 4, pos := "law.go:35", after := #[{ on := 21, ground := Go.Ground.data }, { on := 18, ground := Go.Ground.guard }], guard := some (18, false) }) (v := ?_) rfl (by kernel_rfl) (by kernel_rfl) (by kernel_rfl) (fun _ _ _ h => h) (Or.inl ⟨by rfl, ?_⟩) (by assumption) ?_
      rotate_left
      · (intro w hSw; (try dsimp only at hSw); go_simp; (try with_reducible rfl))
      (try simp only [Act.put, List.setIfInBounds_toArray, List.set_cons_zero, List.set_cons_succ])
      refine wpAnyH_take (i := 23) (oi := { dst := some 49, op := Go.Op.pick (Go.Operand.tmp 44) (Go.Operand.const (Go.Value.bool true)) (Go.Operand.tmp 48), type := 4, pos := "law.go:35", after := #[{ on := 18, ground := Go.Ground.data }, { on := 22, ground := Go.Ground.data }], guard := none }) (v := ?_) rfl (by kernel_rfl) (by kernel_rfl) (by kernel_rfl) (fun _ _ _ h => h) (Or.inl ⟨by rfl, ?_⟩) (by assumption) ?_
      rotate_left
      · (intro w hSw; (try dsimp only at hSw); go_simp; (try with_reducible rfl))
      (try simp only [Act.put, List.setIfInBounds_toArray, List.set_cons_zero, List.set_cons_succ])
      refine wpAnyH_take (i := 24) (oi := { dst := some 50, op := Go.Op.move (Go.Operand.tmp 49), type := 4, pos := "law.go:35", after := #[{ on := 23, ground := Go.Ground.data }, { on := 20, ground := Go.Ground.chain }], guard := none }) (v := ?_) rfl (by kernel_rfl) (by kernel_rfl) (by kernel_rfl) (fun _ _ _ h => h) (Or.inl ⟨by rfl, ?_⟩) (by assumption) ?_
      rotate_left
      · (intro w hSw; (try dsimp only at hSw); go_simp; (try with_reducible rfl))
      (try simp only [Act.put, List.setIfInBounds_toArray, List.set_cons_zero, List.set_cons_succ])
      refine wpAnyH_take (i := 25) (oi := { dst := some 51, op := Go.Op.move (Go.Operand.tmp 2), type := 26, pos := "law.go:35", after := #[{ on := 24, ground := Go.Ground.guard }], guard := some (24, false) }) (v := ?_) rfl (by kernel_rfl) (by kernel_rfl) (by kernel_rfl) (fun _ _ _ h => h) (Or.inl ⟨by rfl, ?_⟩) (by assumption) ?_
      rotate_left
      · (intro w hSw; (try dsimp only at hSw); go_simp; (try with_reducible rfl))
      (try simp only [Act.put, List.setIfInBounds_toArray, List.set_cons_zero, List.set_cons_succ])
      refine wpAnyH_take (i := 29) (oi := { dst := some 55, op := Go.Op.fieldAddr 57 (Go.Operand.tmp 4) 1, type := 0, pos := "law.go:35", after := #[{ on := 24, ground := Go.Ground.guard }], guard := some (24, false) }) (v := ?_) rfl (by kernel_rfl) (by kernel_rfl) (by kernel_rfl) (fun _ _ _ h => h) (Or.inl ⟨by rfl, ?_⟩) (by assumption) ?_
      rotate_left
      · (intro w hSw; (try dsimp only at hSw); go_simp; (try with_reducible rfl))
      (try simp only [Act.put, List.setIfInBounds_toArray, List.set_cons_zero, List.set_cons_succ])
      refine wpAnyH_take (i := 30) (oi := { dst := some 56, op := Go.Op.load 9 (Go.Operand.tmp 55), type := 9, pos := "law.go:35", after := #[{ on := 29, ground := Go.Ground.data }, { on := 24, ground := Go.Ground.guard }], guard := some (24, false) }) (v := ?_) rfl (by kernel_rfl) (by kernel_rfl) (by kernel_rfl) (fun _ _ _ h => h) (Or.inl ⟨by rfl, ?_⟩) (by assumption) ?_
      rotate_left
      · (intro w hSw; (try dsimp only at hSw); obtain ⟨s0, s1, s2, s3, s4⟩ := hSw; go_simp; (try with_reducible rfl))
      (try simp only [Act.put, List.setIfInBounds_toArray, List.set_cons_zero, List.set_cons_succ])
      refine wpAnyH_ready (rs := [26]) (by kernel_rfl) (by simp) ?_
      refine AllReadyH.cons (o := { dst := some 52, op := Go.Op.call { callee := Go.Callee.value (Go.Operand.func 36), args := #[Go.Operand.tmp 51], argTypes := #[26] }, type := 33, pos := "law.go:35", after := #[{ on := 25, ground := Go.Ground.data }, { on := 24, ground := Go.Ground.chain }, { on := 24, ground := Go.Ground.guard }], guard := some (24, false) }) rfl (fun K hK => ?_) AllReadyH.nil
      go_simp
      refine (C3.out _ B3.out).mono ?_
      rintro e q4 ⟨vz, rfl, hO, hB⟩
      obtain ⟨Az, cz, rfl⟩ := hO.len
      obtain ⟨gz, _, hRz⟩ := hO.row
      obtain ⟨oz, rfl, hgz, hcz, hxz, hcvz⟩ := hRz.at (k := 0) G0.out
      rw [GH.out, Nat.add_zero] at hcz
      rw [G1.out] at hxz ⊢
      have B4 := Lib.hid (B3.out.trans (hB.mono B3.out.size))
      unfold maxLen at hcvz
      clear hO hB hRz
      go_wp2_with fail
      refine hK.out _ _ ?_ (fun hHeld => ?_)
      · exact FF.out _ B4.out
      clear hK K
      (try simp only [Act.put, List.setIfInBounds_toArray, List.set_cons_zero, List.set_cons_succ])
      refine wpAnyH_take (i := 27) (oi := { dst := some 53, op := Go.Op.indexAddr 33 (Go.Operand.tmp 52) (Go.Operand.const (Go.Value.int Go.IntKind.i64 0)), type := 0, pos := "law.go:35", after := #[{ on := 26, ground := Go.Ground.data }, { on := 24, ground := Go.Ground.guard }], guard := some (24, false) }) (v := ?_) rfl (by kernel_rfl) (by kernel_rfl) (by kernel_rfl) (fun _ _ _ h => h) (Or.inl ⟨by rfl, ?_⟩) (by assumption) ?_
      rotate_left
      · (intro w hSw; (try dsimp only at hSw); go_simp; (try with_reducible rfl))
      (try simp only [Act.put, List.setIfInBounds_toArray, List.set_cons_zero, List.set_cons_succ])
      refine wpAnyH_ready (rs := [28]) (by kernel_rfl) (by simp) ?_
      refine AllReadyH.cons (o := { dst := some 54, op := Go.Op.load 9 (Go.Operand.tmp 53), type := 9, pos := "law.go:35", after := #[{ on := 27, ground := Go.Ground.data }, { on := 24, ground := Go.Ground.guard }], guard := some (24, false) }) rfl (fun K hK => ?_) AllReadyH.nil
      go_simp
      refine hK.out _ _ ?_ (fun hHeld => ?_)
      · exact FF.out _ B4.out
      clear hK K
      (try simp only [Act.put, List.setIfInBounds_toArray, List.set_cons_zero, List.set_cons_succ])
      refine wpAnyH_take (i := 31) (oi := { dst := some 57, op := Go.Op.binOp Go.BinOp.neq 9 (Go.Operand.tmp 54) (Go.Operand.tmp 56) 9, type := 4, pos := "law.go:35", after := #[{ on := 28, ground := Go.Ground.data }, { on := 30, ground := Go.Ground.data }, { on := 24, ground := Go.Ground.guard }], guard := some (24, false) }) (v := ?_) rfl (by kernel_rfl) (by kernel_rfl) (by kernel_rfl) (fun _ _ _ h => h) (Or.inl ⟨by rfl, ?_⟩) (by assumption) ?_
      rotate_left
      · (intro w hSw; (try dsimp only at hSw); go_simp; (try with_reducible rfl))
      (try simp only [Act.put, List.setIfInBounds_toArray, List.set_cons_zero, List.set_cons_succ])
      refine wpAnyH_take (i := 32) (oi := { dst := some 58, op := Go.Op.pick (Go.Operand.tmp 50) (Go.Operand.const (Go.Value.bool true)) (Go.Operand.tmp 57), type := 4, pos := "law.go:35", after := #[{ on := 24, ground := Go.Ground.data }, { on := 31, ground := Go.Ground.data }], guard := none }) (v := ?_) rfl (by kernel_rfl) (by kernel_rfl) (by kernel_rfl) (fun _ _ _ h => h) (Or.inl ⟨by rfl, ?_⟩) (by assumption) ?_
      rotate_left
      · (intro w hSw; (try dsimp only at hSw); go_simp; (try with_reducible rfl))
      (try simp only [Act.put, List.setIfInBounds_toArray, List.set_cons_zero, List.set_cons_succ])
      refine wpAnyH_take (i := 33) (oi := { dst := some 59, op := Go.Op.move (Go.Operand.tmp 58), type := 4, pos := "law.go:35", after := #[{ on := 32, ground := Go.Ground.data }, { on := 26, ground := Go.Ground.chain }], guard := none }) (v := ?_) rfl (by kernel_rfl) (by kernel_rfl) (by kernel_rfl) (fun _ _ _ h => h) (Or.inl ⟨by rfl, ?_⟩) (by assumption) ?_
      rotate_left
      · (intro w hSw; (try dsimp only at hSw); go_simp; (try with_reducible rfl))
      (try simp only [Act.put, List.setIfInBounds_toArray, List.set_cons_zero, List.set_cons_succ])
      refine wpAnyH_take (i := 34) (oi := { dst := some 60, op := Go.Op.move (Go.Operand.tmp 2), type := 26, pos := "law.go:35", after := #[{ on := 33, ground := Go.Ground.guard }], guard := some (33, false) }) (v := ?_) rfl (by kernel_rfl) (by kernel_rfl) (by kernel_rfl) (fun _ _ _ h => h) (Or.inl ⟨by rfl, ?_⟩) (by assumption) ?_
      rotate_left
      · (intro w hSw; (try dsimp only at hSw); go_simp; (try with_reducible rfl))
      (try simp only [Act.put, List.setIfInBounds_toArray, List.set_cons_zero, List.set_cons_succ])
      refine wpAnyH_ready (rs := [35]) (by kernel_rfl) (by simp) ?_
      refine AllReadyH.cons (o := { dst := some 61, op := Go.Op.call { callee := Go.Callee.value (Go.Operand.func 39), args := #[Go.Operand.tmp 60], argTypes := #[26] }, type := 48, pos := "law.go:35", after := #[{ on := 34, ground := Go.Ground.data }, { on := 33, ground := Go.Ground.chain }, { on := 33, ground := Go.Ground.guard }], guard := some (33, false) }) rfl (fun K hK => ?_) AllReadyH.nil
      go_simp
      refine (C4.out _ B4.out).mono ?_
      rintro e q5 ⟨rfl, hB⟩
      have B5 := Lib.hid (B4.out.trans (hB.mono B4.out.size))
      clear hB
      go_wp2_with fail
      refine hK.out _ _ ?_ (fun hHeld => ?_)
      · exact FF.out _ B5.out
      clear hK K
      (try simp only [Act.put, List.setIfInBounds_toArray, List.set_cons_zero, List.set_cons_succ])
      refine wpAnyH_take (i := 36) (oi := { dst := some 62, op := Go.Op.binOp Go.BinOp.neq 48 (Go.Operand.tmp 61) (Go.Operand.const (Go.Value.int Go.IntKind.u64 2305843009213693952)) 48, type := 4, pos := "law.go:35", after := #[{ on := 35, ground := Go.Ground.data }, { on := 33, ground := Go.Ground.guard }], guard := some (33, false) }) (v := ?_) rfl (by kernel_rfl) (by kernel_rfl) (by kernel_rfl) (fun _ _ _ h => h) (Or.inl ⟨by rfl, ?_⟩) (by assumption) ?_
      rotate_left
      · (intro w hSw; (try dsimp only at hSw); go_simp; (try with_reducible rfl))
      (try simp only [Act.put, List.setIfInBounds_toArray, List.set_cons_zero, List.set_cons_succ])
      refine wpAnyH_take (i := 37) (oi := { dst := some 63, op := Go.Op.pick (Go.Operand.tmp 59) (Go.Operand.const (Go.Value.bool true)) (Go.Operand.tmp 62), type := 4, pos := "law.go:35", after := #[{ on := 33, ground := Go.Ground.data }, { on := 36, ground := Go.Ground.data }], guard := none }) (v := ?_) rfl (by kernel_rfl) (by kernel_rfl) (by kernel_rfl) (fun _ _ _ h => h) (Or.inl ⟨by rfl, ?_⟩) (by assumption) ?_
      rotate_left
      · (intro w hSw; (try dsimp only at hSw); go_simp; (try with_reducible rfl))
      (try simp only [Act.put, List.setIfInBounds_toArray, List.set_cons_zero, List.set_cons_succ])
      refine wpAnyH_take (i := 38) (oi := { dst := some 64, op := Go.Op.move (Go.Operand.tmp 63), type := 4, pos := "law.go:35", after := #[{ on := 37, ground := Go.Ground.data }, { on := 35, ground := Go.Ground.chain }], guard := none }) (v := ?_) rfl (by kernel_rfl) (by kernel_rfl) (by kernel_rfl) (fun _ _ _ h => h) (Or.inl ⟨by rfl, ?_⟩) (by assumption) ?_
      rotate_left
      · (intro w hSw; (try dsimp only at hSw); go_simp; (try with_reducible rfl))
      (try simp only [Act.put, List.setIfInBounds_toArray, List.set_cons_zero, List.set_cons_succ])
      refine wpAnyH_take (i := 39) (oi := { dst := some 65, op := Go.Op.move (Go.Operand.tmp 2), type := 26, pos := "law.go:35", after := #[{ on := 38, ground := Go.Ground.guard }], guard := some (38, false) }) (v := ?_) rfl (by kernel_rfl) (by kernel_rfl) (by kernel_rfl) (fun _ _ _ h => h) (Or.inl ⟨by rfl, ?_⟩) (by assumption) ?_
      rotate_left
      · (intro w hSw; (try dsimp only at hSw); go_simp; (try with_reducible rfl))
      (try simp only [Act.put, List.setIfInBounds_toArray, List.set_cons_zero, List.set_cons_succ])
      refine wpAnyH_take (i := 41) (oi := { dst := some 67, op := Go.Op.move (Go.Operand.tmp 1), type := 3, pos := "law.go:35", after := #[{ on := 38, ground := Go.Ground.guard }], guard := some (38, false) }) (v := ?_) rfl (by kernel_rfl) (by kernel_rfl) (by kernel_rfl) (fun _ _ _ h => h) (Or.inl ⟨by rfl, ?_⟩) (by assumption) ?_
      rotate_left
      · (intro w hSw; (try dsimp only at hSw); go_simp; (try with_reducible rfl))
      (try simp only [Act.put, List.setIfInBounds_toArray, List.set_cons_zero, List.set_cons_succ])
      refine wpAnyH_ready (rs := [40]) (by kernel_rfl) (by simp) ?_
      refine AllReadyH.cons (o := { dst := some 66, op := Go.Op.call { callee := Go.Callee.value (Go.Operand.func 43), args := #[Go.Operand.tmp 65], argTypes := #[26] }, type := 3, pos := "law.go:35", after := #[{ on := 39, ground := Go.Ground.data }, { on := 38, ground := Go.Ground.chain }, { on := 38, ground := Go.Ground.guard }], guard := some (38, false) }) rfl (fun K hK => ?_) AllReadyH.nil
      go_simp
      refine (C5.out _ B5.out).mono ?_
      rintro e q6 ⟨rfl, hB⟩
      have B6 := Lib.hid (B5.out.trans (hB.mono B5.out.size))
      clear hB
      go_wp2_with fail
      refine hK.out _ _ ?_ (fun hHeld => ?_)
      · exact FF.out _ B6.out
      clear hK K
      (try simp only [Act.put, List.setIfInBounds_toArray, List.set_cons_zero, List.set_cons_succ])
      refine wpAnyH_take (i := 42) (oi := { dst := some 68, op := Go.Op.binOp Go.BinOp.neq 3 (Go.Operand.tmp 66) (Go.Operand.tmp 67) 3, type := 4, pos := "law.go:35", after := #[{ on := 40, ground := Go.Ground.data }, { on := 41, ground := Go.Ground.data }, { on := 38, ground := Go.Ground.guard }], guard := some (38, false) }) (v := ?_) rfl (by kernel_rfl) (by kernel_rfl) (by kernel_rfl) (fun _ _ _ h => h) (Or.inl ⟨by rfl, ?_⟩) (by assumption) ?_
      rotate_left
      · (intro w hSw; (try dsimp only at hSw); go_simp; (try with_reducible rfl))
      (try simp only [Act.put, List.setIfInBounds_toArray, List.set_cons_zero, List.set_cons_succ])
      refine wpAnyH_take (i := 43) (oi := { dst := some 69, op := Go.Op.pick (Go.Operand.tmp 64) (Go.Operand.const (Go.Value.bool true)) (Go.Operand.tmp 68), type := 4, pos := "law.go:35", after := #[{ on := 38, ground := Go.Ground.data }, { on := 42, ground := Go.Ground.data }], guard := none }) (v := ?_) rfl (by kernel_rfl) (by kernel_rfl) (by kernel_rfl) (fun _ _ _ h => h) (Or.inl ⟨by rfl, ?_⟩) (by assumption) ?_
      rotate_left
      · (intro w hSw; (try dsimp only at hSw); go_simp; (try with_reducible rfl))
      (try simp only [Act.put, List.setIfInBounds_toArray, List.set_cons_zero, List.set_cons_succ])
      refine wpAnyH_take (i := 44) (oi := { dst := some 70, op := Go.Op.move (Go.Operand.tmp 69), type := 4, pos := "law.go:35", after := #[{ on := 43, ground := Go.Ground.data }, { on := 40, ground := Go.Ground.chain }], guard := none }) (v := ?_) rfl (by kernel_rfl) (by kernel_rfl) (by kernel_rfl) (fun _ _ _ h => h) (Or.inl ⟨by rfl, ?_⟩) (by assumption) ?_
      rotate_left
      · (intro w hSw; (try dsimp only at hSw); go_simp; (try with_reducible rfl))
      (try simp only [Act.put, List.setIfInBounds_toArray, List.set_cons_zero, List.set_cons_succ])
      refine wpAnyH_take (i := 45) (oi := { dst := some 71, op := Go.Op.move (Go.Operand.tmp 2), type := 26, pos := "law.go:35", after := #[{ on := 44, ground := Go.Ground.guard }], guard := some (44, false) }) (v := ?_) rfl (by kernel_rfl) (by kernel_rfl) (by kernel_rfl) (fun _ _ _ h => h) (Or.inl ⟨by rfl, ?_⟩) (by assumption) ?_
      rotate_left
      · (intro w hSw; (try dsimp only at hSw); go_simp; (try with_reducible rfl))
      (try simp only [Act.put, List.setIfInBounds_toArray, List.set_cons_zero, List.set_cons_succ])
      refine wpAnyH_ready (rs := [46]) (by kernel_rfl) (by simp) ?_
      refine AllReadyH.cons (o := { dst := some 72, op := Go.Op.call { callee := Go.Callee.value (Go.Operand.func 38), args := #[Go.Operand.tmp 71], argTypes := #[26] }, type := 3, pos := "law.go:35", after := #[{ on := 45, ground := Go.Ground.data }, { on := 44, ground := Go.Ground.chain }, { on := 44, ground := Go.Ground.guard }], guard := some (44, false) }) rfl (fun K hK => ?_) AllReadyH.nil
      go_simp
      refine (C6.out _ B6.out).mono ?_
      rintro e q7 ⟨rfl, hB⟩
      have B7 := Lib.hid (B6.out.trans (hB.mono B6.out.size))
      clear hB
      go_wp2_with fail
      refine hK.out _ _ ?_ (fun hHeld => ?_)
      · exact FF.out _ B7.out
      clear hK K
      (try simp only [Act.put, List.setIfInBounds_toArray, List.set_cons_zero, List.set_cons_succ])
      refine wpAnyH_take (i := 47) (oi := { dst := some 73, op := Go.Op.binOp Go.BinOp.neq 3 (Go.Operand.tmp 72) (Go.Operand.const (Go.Value.int Go.IntKind.i64 2)) 3, type := 4, pos := "law.go:35", after := #[{ on := 46, ground := Go.Ground.data }, { on := 44, ground := Go.Ground.guard }], guard := some (44, false) }) (v := ?_) rfl (by kernel_rfl) (by kernel_rfl) (by kernel_rfl) (fun _ _ _ h => h) (Or.inl ⟨by rfl, ?_⟩) (by assumption) ?_
      rotate_left
      · (intro w hSw; (try dsimp only at hSw); go_simp; (try with_reducible rfl))
      (try simp only [Act.put, List.setIfInBounds_toArray, List.set_cons_zero, List.set_cons_succ])
      refine wpAnyH_take (i := 48) (oi := { dst := some 74, op := Go.Op.pick (Go.Operand.tmp 70) (Go.Operand.const (Go.Value.bool true)) (Go.Operand.tmp 73), type := 4, pos := "law.go:35", after := #[{ on := 44, ground := Go.Ground.data }, { on := 47, ground := Go.Ground.data }], guard := none }) (v := ?_) rfl (by kernel_rfl) (by kernel_rfl) (by kernel_rfl) (fun _ _ _ h => h) (Or.inl ⟨by rfl, ?_⟩) (by assumption) ?_
      rotate_left
      · (intro w hSw; (try dsimp only at hSw); go_simp; (try with_reducible rfl))
      (try simp only [Act.put, List.setIfInBounds_toArray, List.set_cons_zero, List.set_cons_succ])
      refine wpAnyH_done (by kernel_rfl) ?_ _
      refine NoPanic.normal ?_
      obtain ⟨t0, t1, t2, t3, t4⟩ := FF.out _ B7.out
      have LQ := Lib.hid (L8.out.below B7.out)
      clear FF C1 C2 C3 C4 C5 C6 L8
      have U5 := request_l _ l T7 s4 16 LQ.out.ca y YS.out (by omega)
      rw [HY.out] at U5
      generalize s4.step y = v5 at U5
      have U5 := Lib.hid U5
      go_wp2_with fail
      refine U5.out.mono ?_
      intro e wa hp
      obtain ⟨rfl, Ta, hL, _⟩ := LQ.out.op hp
      have La := Lib.hid hL
      clear hp hL LQ U5 t0 t1 t2 t3 t4
      go_wp2_with fail
      refine (weight_l wa l Ta s5 20 La.out.ca).mono ?_
      rintro e wb ⟨rfl, hB⟩
      have Lb := Lib.hid (La.out.below hB)
      clear hB La
      have e9 : decide (2305843009213693952 ≤ s5.w) = false := decide_eq_false (by have := LT.out; omega)
      have e8 : decide (2305843009213693952 ≤ (s5.w : Int)) = false := decide_eq_false (by have := LT.out; omega)
      go_wp2_with fail
      go_roundw
      case rel => exact ⟨k + 1, by go_num, by omega, by omega, Lb.out.bel⟩
      case measure => simp [intOf]; omega
    · obtain rfl : k = 7 := by omega
      have HL := Lib.hid (HN.out.below HB.out (Nat.le_refl _))
      go_wp2_with fail
      refine (DR.newE_any _ _ wr (nil_lanes wr)).mono ?_
      rintro e u2 ⟨B, rfl, _, _, hB2⟩
      have B2 := Lib.hid hB2
      clear hB2
      go_wp2_with fail
      refine (new_kindL u2 4 (by omega) (by omega) 1 _ 0).mono ?_
      rintro e u3 ⟨v1, rfl, hF, hB⟩
      have F1 := Lib.hid hF
      have B3 := Lib.hid (B2.out.trans (hB.mono B2.out.size))
      clear hF hB B2
      go_wp2_with fail
      refine (DR.newE_any _ _ u3 (nil_lanes u3)).mono ?_
      rintro e u4 ⟨B', rfl, _, _, hB⟩
      have F1 := Lib.hid (F1.out.below hB)
      have B4 := Lib.hid (B3.out.trans (hB.mono B3.out.size))
      clear hB B3
      go_wp2_with fail
      refine (new_sizeL u4 (-1) (by omega) _ 0).mono ?_
      rintro e u5 ⟨v2, rfl, hF, hB⟩
      have F2 := Lib.hid hF
      have F1 := Lib.hid (F1.out.below hB)
      have B5 := Lib.hid (B4.out.trans (hB.mono B4.out.size))
      have HL5 := Lib.hid (HL.out.below B5.out (Nat.le_refl _))
      clear hF hB B4
      go_wp2_with fail
      refine Calls.mono (F1.out.wraps (by omega) HL5.out) ?_
      rintro e u6 ⟨rfl, hB⟩
      have F2 := Lib.hid (F2.out.below hB)
      have HL6 := Lib.hid (HL5.out.below hB (Nat.le_refl _))
      have B6 := Lib.hid (B5.out.trans (hB.mono B5.out.size))
      clear hB F1 HL5 B5
      go_wp2_with fail
      refine Calls.mono (F2.out.wraps (by omega) HL6.out) ?_
      rintro e u7 ⟨rfl, hB⟩
      have B7 := Lib.hid (HB.out.trans ((B6.out.trans (hB.mono B6.out.size)).mono HB.out.size))
      clear hB
      go_wp2_with fail
      go_ret
      exact ⟨rfl, B7.out⟩
end Go.Proofs.YtnlckkahkghneaaGreatDoor.LE
