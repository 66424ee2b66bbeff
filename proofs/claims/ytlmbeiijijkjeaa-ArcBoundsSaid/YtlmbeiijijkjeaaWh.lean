/- The contract of makePlace at any closure that keeps to memory of its own; of Adopt. -/
import Derived.Test.YtlmbeiijijkjeaaWg
namespace Go.Proofs.Ytlmbeiijijkjeaa
open Go.RowKit Sg

/-- .. and then cutTo. -/
theorem place_end (w : World) (i : Ix) (S : Sx) (mo p m : Nat) (R : Rw4) (b : Nat) (X : Nat → Prop) (K : List ByteArray → (Nat → Prop) → World → Prop) (F : FuncId) (a : Addr) (sd : Side F a K) (hl : totR R ≤ b) (hb : b ≤ 985) {w1 : World} {S1 : Sx} {X1 : Nat → Prop} {R1 : Rw4} {vs : List ByteArray} (C : CAt w w1 i S S1 X X1 K mo p R1 b vs) (hv : vs.length ≤ 5) (ht : totR R1 ≤ totR R) :
    Calls Try.prog 29 #[.pointer (some ⟨i.c, 0, none⟩), .int .i64 (m : Int), .bool false, .func (.func F) #[] #[.pointer (some a)]] w1 (CuPost w i S X K mo p (cutn p false R1 (lenR R1 - m)) b (vs ++ outs p false R1 (lenR R1 - m))) :=
  (cutTo_any w1 i S1 mo p R1 b m false X1 K F a vs C.raw C.side C.dis sd hv (Nat.le_trans ht hl) hb).mono fun _ _ ⟨he, S2, X2, h⟩ => ⟨he, S2, X2, C.trans h⟩
section
variable (w : World) (i : Ix) (S : Sx) (mo p m : Nat) (R : Rw4) (b : Nat) (X : Nat → Prop) (K : List ByteArray → (Nat → Prop) → World → Prop) (F : FuncId) (a : Addr) (r : Raw w i S mo p R b) (k : K [] X w) (hdis : ∀ k, X k → ¬ blk i S k) (sd : Side F a K)
    (hl : totR R ≤ b) (hb : b ≤ 985) (hm : mo = m + 1)
include r k hdis sd hl hb hm
set_option maxHeartbeats 1000000 in
theorem place_full (h1 : (R 0).length + (R 2).length < mo) (h2 : 2 * mo ≤ totR R) : Calls Try.prog 31 #[.pointer (some ⟨i.c, 0, none⟩), .func (.func F) #[] #[.pointer (some a)]] w (CuPost w i S X K mo p (cutn p false (upd R 3 (R 3).dropLast) (lenR (upd R 3 (R 3).dropLast) - m)) b ([] ++ outs p false (upd R 3 (R 3).dropLast) (lenR (upd R 3 (R 3).dropLast) - m))) := by
  have HP := Lib.hid (fun (w1 : World) (S1 : Sx) (X1 : Nat → Prop) (R1 : Rw4) (vs : List ByteArray) C hv ht => place_end w i S mo p m R b X K F a sd hl hb (w1 := w1) (S1 := S1) (X1 := X1) (R1 := R1) (vs := vs) C hv ht)
  have C0 := CAt.start r k hdis
  have SD := Lib.hid sd
  have hF := sd.enter
  have hb1 := (below_drewN w 1).alloc (Nat.le_refl _) (.cells #[.int .i64 0, .int .i64 2] 3)
  obtain ⟨c0, _⟩ := r.cells
  have c1 : (w.drew.alloc (.cells #[.int .i64 0, .int .i64 2] 3)).cell? ⟨i.c, 0, none⟩ = some (.int .i64 (mo : Int)) := (r.below hb1).cells.1
  have U := count_two w.drew i S mo p R b (r.below (below_drewN w 1)) 0 2 (by omega) (by omega)
  have U := Lib.hid (show Calls Try.prog 39 #[.pointer (some ⟨i.c, 0, none⟩), .slice (some ⟨w.drew.heap.size, 0, none⟩) 2 2] (w.drew.alloc (.cells #[.int .i64 0, .int .i64 2] 3)) (IntPost (((R 0).length + (R 2).length : Nat) : Int) (w.drew.alloc (.cells #[.int .i64 0, .int .i64 2] 3))) from U)
  have C1 := Lib.hid (show CAt w ((w.alloc (.cells #[.int .i64 0, .int .i64 2] 3)).drew) i S S X X K mo p R b [] from C0.below SD.out hb1)
  have ht := r.top.1
  have HW : IntKind.i64.wrap ((mo : Int) - 1) = (m : Int) := by rw [IntWalk.i64_in _ (by omega)]; omega
  obtain ⟨q, hq⟩ : ∃ q, q = (R 0).length + (R 2).length := ⟨_, rfl⟩
  rw [← hq] at U
  have e0 : decide (q < mo) = true := by simp; omega
  obtain ⟨d, hd⟩ : ∃ d : Int, d = ((((R 0).length + (R 1).length + (R 2).length + (R 3).length : Nat) : Int) - (mo : Int)) := ⟨_, rfl⟩
  have e2 : decide ((mo : Int) ≤ d) = true := by unfold totR at h2; simp; omega
  have HD := Lib.hid hd
  clear hd
  have H2 := Lib.hid (And.intro hm (And.intro h1 h2))
  clear r k hdis sd hb1 C0 hq ht hl hb hm h1 h2
  go_enter Try.func31, Try.ntmps31
  go_wp2_with fail
  go_region_held3 (fun w' => w'.cell? ⟨i.c, 0, none⟩ = some (.int .i64 (mo : Int))) (first | (with_reducible exact c1) | (with_reducible exact c0) | go_keep)
    ((go_at_call 39; refine U.out.mono ?_; rintro e w1 ⟨rfl, rfl⟩))
  clear c0 c1 U
  generalize (w.alloc (.cells #[.int .i64 0, .int .i64 2] 3)).drew = w2 at C1 ⊢
  have c1 : w2.cell? ⟨i.c, 0, none⟩ = some (.int .i64 (mo : Int)) := C1.out.raw.cells.1
  go_wp2_with fail
  have V := overW w2.drew i S mo p R b (C1.out.raw.below (below_drewN w2 1))
  rw [← HD.out] at V
  have V := Lib.hid V
  have CC := Lib.hid (show ∀ w3, Below w2.drew.heap.size w2.drew w3 → w3.cell? ⟨i.c, 0, none⟩ = some (.int .i64 (mo : Int)) ∧ CAt w w3 i S S X X K mo p R b [] from fun w3 h => ⟨(C1.out.raw.below ((below_drewN w2 1).trans h)).cells.1, C1.out.below SD.out ((below_drewN w2 1).trans h)⟩)
  go_region_held3 (fun w' => w'.cell? ⟨i.c, 0, none⟩ = some (.int .i64 (mo : Int))) (first | (with_reducible exact c3) | (with_reducible exact c1) | go_keep)
    ((go_at_call 41; refine V.out.mono ?_; rintro e w3 ⟨rfl, hB⟩; obtain ⟨c3, C3'⟩ := CC.out w3 hB; have C3 := Lib.hid C3'; clear hB C3'))
  clear V CC C1 c1
  have d3 : w3.cell? ⟨i.c, 5, none⟩ = some (.pointer (some ⟨i.r 3, 0, none⟩)) := C3.out.raw.cells.2.2.2.2.2
  have Z := ls_pop w3 (i.r 3) (S 3) _ b (C3.out.raw.ls 3 (by omega))
  have Z := Lib.hid Z
  go_wp2_with fail
  refine Z.out.mono ?_
  intro e w4 hp
  obtain ⟨rfl, S4, C4'⟩ := C3.out.op SD.out (C3.out.raw.on (show 3 < 4 by omega) hp (Nat.le_refl _))
  have C4 := Lib.hid C4'
  clear hp Z C3 c3
  have c4 : w4.cell? ⟨i.c, 0, none⟩ = some (.int .i64 (mo : Int)) := C4'.raw.cells.1
  have E := Lib.hid (HP.out w4 S4 X _ [] C4.out (by simp) (by simp [totR, upd]))
  clear C4' 
  go_wp2_with fail
  refine E.out.mono ?_
  intro e w6 hp
  have P6 := Lib.hid hp
  obtain ⟨rfl, _⟩ := hp
  go_wp2_with fail
  go_end0
  exact P6.out
set_option maxHeartbeats 1000000 in
theorem place_room (h1 : (R 0).length + (R 2).length < mo) (h2 : totR R < 2 * mo) : Calls Try.prog 31 #[.pointer (some ⟨i.c, 0, none⟩), .func (.func F) #[] #[.pointer (some a)]] w (CuPost w i S X K mo p (cutn p false R (lenR R - m)) b ([] ++ outs p false R (lenR R - m))) := by
  have HP := Lib.hid (fun (w1 : World) (S1 : Sx) (X1 : Nat → Prop) (R1 : Rw4) (vs : List ByteArray) C hv ht => place_end w i S mo p m R b X K F a sd hl hb (w1 := w1) (S1 := S1) (X1 := X1) (R1 := R1) (vs := vs) C hv ht)
  have C0 := CAt.start r k hdis
  have SD := Lib.hid sd
  have hF := sd.enter
  have hb1 := (below_drewN w 1).alloc (Nat.le_refl _) (.cells #[.int .i64 0, .int .i64 2] 3)
  obtain ⟨c0, _⟩ := r.cells
  have c1 : (w.drew.alloc (.cells #[.int .i64 0, .int .i64 2] 3)).cell? ⟨i.c, 0, none⟩ = some (.int .i64 (mo : Int)) := (r.below hb1).cells.1
  have U := count_two w.drew i S mo p R b (r.below (below_drewN w 1)) 0 2 (by omega) (by omega)
  have U := Lib.hid (show Calls Try.prog 39 #[.pointer (some ⟨i.c, 0, none⟩), .slice (some ⟨w.drew.heap.size, 0, none⟩) 2 2] (w.drew.alloc (.cells #[.int .i64 0, .int .i64 2] 3)) (IntPost (((R 0).length + (R 2).length : Nat) : Int) (w.drew.alloc (.cells #[.int .i64 0, .int .i64 2] 3))) from U)
  have C1 := Lib.hid (show CAt w ((w.alloc (.cells #[.int .i64 0, .int .i64 2] 3)).drew) i S S X X K mo p R b [] from C0.below SD.out hb1)
  have ht := r.top.1
  have HW : IntKind.i64.wrap ((mo : Int) - 1) = (m : Int) := by rw [IntWalk.i64_in _ (by omega)]; omega
  obtain ⟨q, hq⟩ : ∃ q, q = (R 0).length + (R 2).length := ⟨_, rfl⟩
  rw [← hq] at U
  have e0 : decide (q < mo) = true := by simp; omega
  obtain ⟨d, hd⟩ : ∃ d : Int, d = ((((R 0).length + (R 1).length + (R 2).length + (R 3).length : Nat) : Int) - (mo : Int)) := ⟨_, rfl⟩
  have e2 : decide ((mo : Int) ≤ d) = false := by unfold totR at h2; simp; omega
  have HD := Lib.hid hd
  clear hd
  have H2 := Lib.hid (And.intro hm (And.intro h1 h2))
  clear r k hdis sd hb1 C0 hq ht hl hb hm h1 h2
  go_enter Try.func31, Try.ntmps31
  go_wp2_with fail
  go_region_held3 (fun w' => w'.cell? ⟨i.c, 0, none⟩ = some (.int .i64 (mo : Int))) (first | (with_reducible exact c1) | (with_reducible exact c0) | go_keep)
    ((go_at_call 39; refine U.out.mono ?_; rintro e w1 ⟨rfl, rfl⟩))
  clear c0 c1 U
  generalize (w.alloc (.cells #[.int .i64 0, .int .i64 2] 3)).drew = w2 at C1 ⊢
  have c1 : w2.cell? ⟨i.c, 0, none⟩ = some (.int .i64 (mo : Int)) := C1.out.raw.cells.1
  go_wp2_with fail
  have V := overW w2.drew i S mo p R b (C1.out.raw.below (below_drewN w2 1))
  rw [← HD.out] at V
  have V := Lib.hid V
  have CC := Lib.hid (show ∀ w3, Below w2.drew.heap.size w2.drew w3 → w3.cell? ⟨i.c, 0, none⟩ = some (.int .i64 (mo : Int)) ∧ CAt w w3 i S S X X K mo p R b [] from fun w3 h => ⟨(C1.out.raw.below ((below_drewN w2 1).trans h)).cells.1, C1.out.below SD.out ((below_drewN w2 1).trans h)⟩)
  go_region_held3 (fun w' => w'.cell? ⟨i.c, 0, none⟩ = some (.int .i64 (mo : Int))) (first | (with_reducible exact c3) | (with_reducible exact c1) | go_keep)
    ((go_at_call 41; refine V.out.mono ?_; rintro e w3 ⟨rfl, hB⟩; obtain ⟨c3, C3'⟩ := CC.out w3 hB; have C3 := Lib.hid C3'; clear hB C3'))
  clear V CC C1 c1
  have E := Lib.hid (HP.out w3 S X R [] C3.out (by simp) (Nat.le_refl _))
  go_wp2_with fail
  refine E.out.mono ?_
  intro e w5 hp
  have P5 := Lib.hid hp
  obtain ⟨rfl, _⟩ := hp
  go_wp2_with fail
  go_end0
  exact P5.out
set_option maxHeartbeats 1000000 in
theorem place_b1 (h1 : mo ≤ (R 0).length + (R 2).length) (h2 : (R 0).length < mo) : Calls Try.prog 31 #[.pointer (some ⟨i.c, 0, none⟩), .func (.func F) #[] #[.pointer (some a)]] w (CuPost w i S X K mo p (cutn p false (upd R 2 (R 2).dropLast) (lenR (upd R 2 (R 2).dropLast) - m)) b ([] ++ outs p false (upd R 2 (R 2).dropLast) (lenR (upd R 2 (R 2).dropLast) - m))) := by
  have HP := Lib.hid (fun (w1 : World) (S1 : Sx) (X1 : Nat → Prop) (R1 : Rw4) (vs : List ByteArray) C hv ht => place_end w i S mo p m R b X K F a sd hl hb (w1 := w1) (S1 := S1) (X1 := X1) (R1 := R1) (vs := vs) C hv ht)
  have C0 := CAt.start r k hdis
  have SD := Lib.hid sd
  have hF := sd.enter
  have hb1 := (below_drewN w 1).alloc (Nat.le_refl _) (.cells #[.int .i64 0, .int .i64 2] 3)
  obtain ⟨c0, _⟩ := r.cells
  have c1 : (w.drew.alloc (.cells #[.int .i64 0, .int .i64 2] 3)).cell? ⟨i.c, 0, none⟩ = some (.int .i64 (mo : Int)) := (r.below hb1).cells.1
  have U := count_two w.drew i S mo p R b (r.below (below_drewN w 1)) 0 2 (by omega) (by omega)
  have U := Lib.hid (show Calls Try.prog 39 #[.pointer (some ⟨i.c, 0, none⟩), .slice (some ⟨w.drew.heap.size, 0, none⟩) 2 2] (w.drew.alloc (.cells #[.int .i64 0, .int .i64 2] 3)) (IntPost (((R 0).length + (R 2).length : Nat) : Int) (w.drew.alloc (.cells #[.int .i64 0, .int .i64 2] 3))) from U)
  have C1 := Lib.hid (show CAt w ((w.alloc (.cells #[.int .i64 0, .int .i64 2] 3)).drew) i S S X X K mo p R b [] from C0.below SD.out hb1)
  have ht := r.top.1
  have HW : IntKind.i64.wrap ((mo : Int) - 1) = (m : Int) := by rw [IntWalk.i64_in _ (by omega)]; omega
  obtain ⟨q, hq⟩ : ∃ q, q = (R 0).length + (R 2).length := ⟨_, rfl⟩
  rw [← hq] at U
  have e0 : decide (q < mo) = false := by simp; omega
  have e2 : decide ((R 0).length < mo) = true := by simp; omega
  have H2 := Lib.hid (And.intro hm (And.intro h1 h2))
  clear r k hdis sd hb1 C0 hq ht hl hb hm h1 h2
  go_enter Try.func31, Try.ntmps31
  go_wp2_with fail
  go_region_held3 (fun w' => w'.cell? ⟨i.c, 0, none⟩ = some (.int .i64 (mo : Int))) (first | (with_reducible exact c1) | (with_reducible exact c0) | go_keep)
    ((go_at_call 39; refine U.out.mono ?_; rintro e w1 ⟨rfl, rfl⟩))
  clear c0 c1 U
  generalize (w.alloc (.cells #[.int .i64 0, .int .i64 2] 3)).drew = w2 at C1 ⊢
  have c1 : w2.cell? ⟨i.c, 0, none⟩ = some (.int .i64 (mo : Int)) := C1.out.raw.cells.1
  go_wp2_with fail
  have V := count_one w2.drew i S mo p R b (C1.out.raw.below (below_drewN w2 1)) 0 (by omega)
  have V := Lib.hid (show Calls Try.prog 39 #[.pointer (some ⟨i.c, 0, none⟩), .slice (some ⟨w2.drew.heap.size, 0, none⟩) 1 1] (w2.drew.alloc (.cells #[.int .i64 0] 3)) (IntPost ((R 0).length : Int) (w2.drew.alloc (.cells #[.int .i64 0] 3))) from V)
  have hb3 := (below_drewN w2 1).alloc (Nat.le_refl _) (.cells #[.int .i64 0] 3)
  have c3 : (w2.drew.alloc (.cells #[.int .i64 0] 3)).cell? ⟨i.c, 0, none⟩ = some (.int .i64 (mo : Int)) := (C1.out.raw.below hb3).cells.1
  have C3 := Lib.hid (show CAt w ((w2.alloc (.cells #[.int .i64 0] 3)).drew) i S S X X K mo p R b [] from C1.out.below SD.out hb3)
  clear hb3
  go_region_held3 (fun w' => w'.cell? ⟨i.c, 0, none⟩ = some (.int .i64 (mo : Int))) (first | (with_reducible exact c3) | (with_reducible exact c1) | go_keep)
    ((go_at_call 39; refine V.out.mono ?_; rintro e w1 ⟨rfl, rfl⟩))
  clear V C1 c1 c3
  generalize (w2.alloc (.cells #[.int .i64 0] 3)).drew = w3 at C3 ⊢
  have c3 : w3.cell? ⟨i.c, 0, none⟩ = some (.int .i64 (mo : Int)) := C3.out.raw.cells.1
  have d2 : w3.cell? ⟨i.c, 4, none⟩ = some (.pointer (some ⟨i.r 2, 0, none⟩)) := C3.out.raw.cells.2.2.2.2.1
  have Z := ls_pop w3 (i.r 2) (S 2) _ b (C3.out.raw.ls 2 (by omega))
  have Z := Lib.hid Z
  go_wp2_with fail
  refine Z.out.mono ?_
  intro e w4 hp
  obtain ⟨rfl, S4, C4'⟩ := C3.out.op SD.out (C3.out.raw.on (show 2 < 4 by omega) hp (Nat.le_refl _))
  have C4 := Lib.hid C4'
  clear hp Z C3 c3
  have c4 : w4.cell? ⟨i.c, 0, none⟩ = some (.int .i64 (mo : Int)) := C4'.raw.cells.1
  have E := Lib.hid (HP.out w4 S4 X _ [] C4.out (by simp) (by simp [totR, upd]))
  clear C4' 
  go_wp2_with fail
  refine E.out.mono ?_
  intro e w6 hp
  have P6 := Lib.hid hp
  obtain ⟨rfl, _⟩ := hp
  go_wp2_with fail
  go_end0
  exact P6.out
set_option maxHeartbeats 1000000 in
theorem place_t1 (h1 : mo ≤ (R 0).length + (R 2).length) (h2 : mo ≤ (R 0).length) : Calls Try.prog 31 #[.pointer (some ⟨i.c, 0, none⟩), .func (.func F) #[] #[.pointer (some a)]] w (CuPost w i S X K mo p (cutn p false (upd R 0 (R 0).dropLast) (lenR (upd R 0 (R 0).dropLast) - m)) b (([] ++ [lastKey (R 0)]) ++ outs p false (upd R 0 (R 0).dropLast) (lenR (upd R 0 (R 0).dropLast) - m))) := by
  have HP := Lib.hid (fun (w1 : World) (S1 : Sx) (X1 : Nat → Prop) (R1 : Rw4) (vs : List ByteArray) C hv ht => place_end w i S mo p m R b X K F a sd hl hb (w1 := w1) (S1 := S1) (X1 := X1) (R1 := R1) (vs := vs) C hv ht)
  have C0 := CAt.start r k hdis
  have SD := Lib.hid sd
  have hF := sd.enter
  have hb1 := (below_drewN w 1).alloc (Nat.le_refl _) (.cells #[.int .i64 0, .int .i64 2] 3)
  obtain ⟨c0, _⟩ := r.cells
  have c1 : (w.drew.alloc (.cells #[.int .i64 0, .int .i64 2] 3)).cell? ⟨i.c, 0, none⟩ = some (.int .i64 (mo : Int)) := (r.below hb1).cells.1
  have U := count_two w.drew i S mo p R b (r.below (below_drewN w 1)) 0 2 (by omega) (by omega)
  have U := Lib.hid (show Calls Try.prog 39 #[.pointer (some ⟨i.c, 0, none⟩), .slice (some ⟨w.drew.heap.size, 0, none⟩) 2 2] (w.drew.alloc (.cells #[.int .i64 0, .int .i64 2] 3)) (IntPost (((R 0).length + (R 2).length : Nat) : Int) (w.drew.alloc (.cells #[.int .i64 0, .int .i64 2] 3))) from U)
  have C1 := Lib.hid (show CAt w ((w.alloc (.cells #[.int .i64 0, .int .i64 2] 3)).drew) i S S X X K mo p R b [] from C0.below SD.out hb1)
  have ht := r.top.1
  have HW : IntKind.i64.wrap ((mo : Int) - 1) = (m : Int) := by rw [IntWalk.i64_in _ (by omega)]; omega
  obtain ⟨q, hq⟩ : ∃ q, q = (R 0).length + (R 2).length := ⟨_, rfl⟩
  rw [← hq] at U
  have e0 : decide (q < mo) = false := by simp; omega
  have e2 : decide ((R 0).length < mo) = false := by simp; omega
  have H2 := Lib.hid (And.intro hm (And.intro h1 h2))
  clear r k hdis sd hb1 C0 hq ht hl hb hm h1 h2
  go_enter Try.func31, Try.ntmps31
  go_wp2_with fail
  go_region_held3 (fun w' => w'.cell? ⟨i.c, 0, none⟩ = some (.int .i64 (mo : Int))) (first | (with_reducible exact c1) | (with_reducible exact c0) | go_keep)
    ((go_at_call 39; refine U.out.mono ?_; rintro e w1 ⟨rfl, rfl⟩))
  clear c0 c1 U
  generalize (w.alloc (.cells #[.int .i64 0, .int .i64 2] 3)).drew = w2 at C1 ⊢
  have c1 : w2.cell? ⟨i.c, 0, none⟩ = some (.int .i64 (mo : Int)) := C1.out.raw.cells.1
  go_wp2_with fail
  have V := count_one w2.drew i S mo p R b (C1.out.raw.below (below_drewN w2 1)) 0 (by omega)
  have V := Lib.hid (show Calls Try.prog 39 #[.pointer (some ⟨i.c, 0, none⟩), .slice (some ⟨w2.drew.heap.size, 0, none⟩) 1 1] (w2.drew.alloc (.cells #[.int .i64 0] 3)) (IntPost ((R 0).length : Int) (w2.drew.alloc (.cells #[.int .i64 0] 3))) from V)
  have hb3 := (below_drewN w2 1).alloc (Nat.le_refl _) (.cells #[.int .i64 0] 3)
  have c3 : (w2.drew.alloc (.cells #[.int .i64 0] 3)).cell? ⟨i.c, 0, none⟩ = some (.int .i64 (mo : Int)) := (C1.out.raw.below hb3).cells.1
  have C3 := Lib.hid (show CAt w ((w2.alloc (.cells #[.int .i64 0] 3)).drew) i S S X X K mo p R b [] from C1.out.below SD.out hb3)
  clear hb3
  go_region_held3 (fun w' => w'.cell? ⟨i.c, 0, none⟩ = some (.int .i64 (mo : Int))) (first | (with_reducible exact c3) | (with_reducible exact c1) | go_keep)
    ((go_at_call 39; refine V.out.mono ?_; rintro e w1 ⟨rfl, rfl⟩))
  clear V C1 c1 c3
  generalize (w2.alloc (.cells #[.int .i64 0] 3)).drew = w3 at C3 ⊢
  have c3 : w3.cell? ⟨i.c, 0, none⟩ = some (.int .i64 (mo : Int)) := C3.out.raw.cells.1
  have d0 : w3.cell? ⟨i.c, 2, none⟩ = some (.pointer (some ⟨i.r 0, 0, none⟩)) := C3.out.raw.cells.2.2.1
  have Z := ls_pop w3 (i.r 0) (S 0) _ b (C3.out.raw.ls 0 (by omega))
  have hpos : 0 < (R 0).length := by have := H2.out; omega
  have hsm := Lib.hid ((C3.out.raw.ls 0 (by omega)).small _ (last_mem hpos))
  rw [any_pos hpos] at Z
  obtain ⟨x, hx⟩ : ∃ x, x = lastKey (R 0) := ⟨_, rfl⟩
  rw [← hx] at Z hsm
  have HX := Lib.hid hx
  clear hx hpos
  have Z := Lib.hid Z
  go_wp2_with fail
  refine Z.out.mono ?_
  intro e w4 hp
  obtain ⟨rfl, S4, C4'⟩ := C3.out.op SD.out (C3.out.raw.on (show 0 < 4 by omega) hp (Nat.le_refl _))
  have C4 := Lib.hid C4'
  clear hp Z C3 c3
  have TK := Lib.hid (SD.out.call _ _ _ x C4'.side (by simp) hsm.out)
  clear C4'
  go_wp2_with fail
  refine TK.out.mono ?_
  rintro e w5 ⟨rfl, X5, hk, hW⟩
  have C5 := Lib.hid (C4.out.take hk hW)
  have c5 : w5.cell? ⟨i.c, 0, none⟩ = some (.int .i64 (mo : Int)) := C5.out.raw.cells.1
  have E := HP.out w5 S4 X5 _ _ C5.out (by simp) (by simp [totR, upd])
  rw [HX.out] at E
  have E := Lib.hid E
  clear hk hW TK C4
  go_wp2_with fail
  refine E.out.mono ?_
  intro e w6 hp
  have P6 := Lib.hid hp
  obtain ⟨rfl, _⟩ := hp
  go_wp2_with fail
  go_end0
  exact P6.out
end
end Go.Proofs.Ytlmbeiijijkjeaa
