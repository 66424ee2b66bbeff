/- The contract of the reference's Request. -/
import Derived.Test.YtdbfojolocelaaaZf
namespace Go.Proofs.Ytdbfojolocelaaa
open Go.RowKit Ht HS Lf

set_option maxHeartbeats 4000000 in
set_option maxRecDepth 100000 in
theorem rq_hit (w : World) (g mo : Nat) (ch : Bool) (A : Option Addr) (m c : Nat) (L B : List (Ent Key)) (n : Nat) (key : Key) (h : ZRow w g (.slice A m c) B) (hm : B.length = m) (hl : m ≤ 1900) (hmo : mo ≤ 9223372036854775807) (y : By ch L B n) (hn : n ≤ 90000) (hs : key.size ≤ maxLen) (hpos : 1 ≤ mo) (hi : isIn L key = true) :
    Calls Try.prog 12 #[.agg #[.int .i64 ((mo : Nat) : Int), .bool ch, .slice A m c], .string key] w (ZtPost w g (mo) ch (.agg #[.bool true, .string ⟨#[]⟩, .bool false]) (askB ch n L B key)) := by
  have V0 := rv_start w (mo) ch (.slice A m c)
  have U := rtimes_any _ g (mo) ch A m c B key (h.below V0.bel) hm
  rw [y.tms] at U
  have tp := tms_pos y.fit key
  have ht := tms_rng y.fit key
  have e9 : ((mo : Int) == 0) = false := by simp; omega
  have e8 : (mo == 0) = false := by simp; omega
  have AS := Lib.hid (fun (W : World) (hz : ZRow W g (.slice A m c) B) => rask_any W g mo ch A m c L B n key hz hm hl y hn hs)
  rw [hi] at tp
  generalize askB ch n L B key = B2 at *
  generalize tms L key = t at U tp ht
  have U := Lib.hid U
  have HH := Lib.hid h
  have HV := Lib.hid V0
  clear h y V0 hi
  go_enter Try.func12, Try.ntmps12
  go_wp2_with fail
  refine U.out.mono ?_
  rintro e W ⟨rfl, hb⟩
  have V0 := HV.out.below hb
  clear hb U HV
  generalize w.heap.size + 1 + 1 + 1 = p3 at V0 ⊢
  generalize w.heap.size + 1 + 1 = p2 at V0 ⊢
  generalize w.heap.size + 1 = p1 at V0 ⊢
  obtain ⟨p0, hp0⟩ : ∃ p, p = w.heap.size := ⟨_, rfl⟩
  rw [← hp0] at V0 ⊢
  have HP0 := Lib.hid hp0
  clear hp0
  obtain ⟨c0, c1, c2⟩ := V0.c.c
  obtain ⟨s0, s1, s2, s3, s4, s5⟩ := V0.s.six
  obtain ⟨⟨n1, n2, n3⟩, ⟨n4, n5, n6⟩, ⟨n7, n8, n9⟩, ⟨m1, m2, m3'⟩⟩ := V0.ne
  have V1 := V0.hit true
  obtain ⟨W1, hW1⟩ : ∃ W1, W1 = W.setCell ⟨p3, 0, none⟩ (.bool true) := ⟨_, rfl⟩
  rw [← hW1] at V1
  have R1 := Lib.hid V1
  have HW1 := Lib.hid hW1
  clear hW1 V0
  clear V1
  go_upto_region 7 with fail
  rw [← HW1.out]
  clear c0 c1 c2 s0 s1 s2 s3 s4 s5 HW1
  have R2 := R1.out
  obtain ⟨c0, c1, c2⟩ := R2.c.c
  obtain ⟨s0, s1, s2, s3, s4, s5⟩ := R2.s.six
  have AS2 := Lib.hid (AS.out W1.drew (HH.out.below R2.bel.drew))
  clear R2 AS
  have BD := Lib.hid (show ∀ w3, Below W1.drew.heap.size W1.drew w3 → Below W1.heap.size W1 w3 from fun w3 hB => ⟨hB.os, hB.tape, hB.output, hB.size, hB.block⟩)
  refine wp_region_noPanic ?_
  refine wp_region_held_drew (S := fun w' => w'.cell? ⟨p0, 0, none⟩ = some (.int .i64 (mo : Int)) ∧ w'.cell? ⟨p0, 1, none⟩ = some (.bool ch) ∧ w'.cell? ⟨p0, 2, none⟩ = some (.slice A m c) ∧ w'.cell? ⟨p3, 0, none⟩ = some (.bool true) ∧ w'.cell? ⟨p3, 1, none⟩ = some (.string ⟨#[]⟩) ∧ w'.cell? ⟨p3, 2, none⟩ = some (.bool false)) (by kernel_rfl) ?_ (fun hHeld => ?_)
  · exact ⟨c0, c1, c2, s0, s1, s2⟩
  refine wpAnyH_take (i := 0) (oi := { dst := some 36, op := Go.Op.load 29 (Go.Operand.tmp 2), type := 29, pos := "ref.go:90", after := #[], guard := none }) (v := ?_) rfl (by kernel_rfl) (by kernel_rfl) (by kernel_rfl) (fun _ _ _ h => h) (Or.inl ⟨by rfl, ?_⟩) (by assumption) ?_
  rotate_left
  · (intro w hSw; (try dsimp only at hSw); go_simp; (try with_reducible rfl))
  (try simp only [Act.put, List.setIfInBounds_toArray, List.set_cons_zero, List.set_cons_succ])
  refine wpAnyH_take (i := 1) (oi := { dst := some 37, op := Go.Op.move (Go.Operand.tmp 1), type := 9, pos := "ref.go:90", after := #[], guard := none }) (v := ?_) rfl (by kernel_rfl) (by kernel_rfl) (by kernel_rfl) (fun _ _ _ h => h) (Or.inl ⟨by rfl, ?_⟩) (by assumption) ?_
  rotate_left
  · (intro w hSw; (try dsimp only at hSw); go_simp; (try with_reducible rfl))
  (try simp only [Act.put, List.setIfInBounds_toArray, List.set_cons_zero, List.set_cons_succ])
  refine wpAnyH_take (i := 3) (oi := { dst := some 39, op := Go.Op.load 34 (Go.Operand.tmp 6), type := 34, pos := "ref.go:90", after := #[{ on := 4, ground := Go.Ground.gcOnly Go.Departure.lateStores }], guard := none }) (v := ?_) rfl (by kernel_rfl) (by kernel_rfl) (by kernel_rfl) (fun _ _ _ h => h) (Or.inl ⟨by rfl, ?_⟩) (by assumption) ?_
  rotate_left
  · (intro w hSw; (try dsimp only at hSw); go_simp; (try with_reducible rfl))
  (try simp only [Act.put, List.setIfInBounds_toArray, List.set_cons_zero, List.set_cons_succ])
  refine wpAnyH_ready (rs := [2]) (by kernel_rfl) (by simp) ?_
  refine AllReadyH.cons (o := { dst := some 38, op := Go.Op.call { callee := Go.Callee.value (Go.Operand.func 34), args := #[Go.Operand.tmp 36, Go.Operand.tmp 37], argTypes := #[29, 9] }, type := 29, pos := "ref.go:90", after := #[{ on := 0, ground := Go.Ground.data }, { on := 1, ground := Go.Ground.data }], guard := none }) rfl (fun K hK => ?_) AllReadyH.nil
  go_simp
  refine AS2.out.mono ?_
  rintro e w3 ⟨A3, m3, c3, rfl, hO, hB⟩
  have X3 := R1.out.below (BD.out w3 hB)
  have O3 := Lib.hid hO
  have M3 := Lib.hid (zlen hO)
  have R3 := Lib.hid X3
  clear hO hB X3 BD
  go_wp2_with fail
  refine hK.out _ _ ?_ (fun hHeld => ?_)
  · exact ⟨R3.out.c.c.1, R3.out.c.c.2.1, R3.out.c.c.2.2, R3.out.s.cells.1, R3.out.s.cells.2.1, R3.out.s.cells.2.2.1⟩
  clear hK K c0 c1 c2 s0 s1 s2
  (try simp only [Act.put, List.setIfInBounds_toArray, List.set_cons_zero, List.set_cons_succ])
  have Yc := Lib.hid (((R3.out.c.other (q := ⟨p1, 0, none⟩) n1 (.int .i64 (mo : Int))).other (q := ⟨p1, 1, none⟩) n1 (.bool ch)).other (q := ⟨p1, 2, none⟩) n1 (.slice A3 m3 c3))
  have Ys := Lib.hid (((R3.out.s.other (q := ⟨p1, 0, none⟩) m2 (.int .i64 (mo : Int))).other (q := ⟨p1, 1, none⟩) m2 (.bool ch)).other (q := ⟨p1, 2, none⟩) m2 (.slice A3 m3 c3))
  have Yr := Lib.hid (((R3.out.r2.other (q := ⟨p1, 0, none⟩) n8 (.int .i64 (mo : Int))).other (q := ⟨p1, 1, none⟩) n8 (.bool ch)).other (q := ⟨p1, 2, none⟩) n8 (.slice A3 m3 c3))
  refine wpAnyH_ready (rs := [4]) (by kernel_rfl) (by simp) ?_
  refine AllReadyH.cons (o := { dst := none, op := Go.Op.store 29 (Go.Operand.tmp 4) (Go.Operand.tmp 38), type := 0, pos := "ref.go:90", after := #[{ on := 2, ground := Go.Ground.data }, { on := 2, ground := Go.Ground.chain }, { on := 0, ground := Go.Ground.phase }, { on := 1, ground := Go.Ground.phase }, { on := 2, ground := Go.Ground.phase }, { on := 3, ground := Go.Ground.textOnly Go.Departure.lateStores }], guard := none }) rfl (fun K hK => ?_) AllReadyH.nil
  obtain ⟨r0, r1, r2⟩ := R3.out.r1.c
  obtain ⟨u0, u1, u2⟩ := R3.out.r1.f
  go_simp
  refine hK.out _ _ ?_ (fun hHeld => ?_)
  · exact ⟨Yc.out.c.1, Yc.out.c.2.1, Yc.out.c.2.2, Ys.out.cells.1, Ys.out.cells.2.1, Ys.out.cells.2.2.1⟩
  clear hK K r0 r1 r2 u0 u1 u2
  (try simp only [Act.put, List.setIfInBounds_toArray, List.set_cons_zero, List.set_cons_succ])
  obtain ⟨w4, hw4⟩ : ∃ w4, w4 = ((w3.setCell ⟨p1, 0, none⟩ (.int .i64 (mo : Int))).setCell ⟨p1, 1, none⟩ (.bool ch)).setCell ⟨p1, 2, none⟩ (.slice A3 m3 c3) := ⟨_, rfl⟩
  rw [← hw4] at Yc Ys Yr hHeld ⊢
  have HW4 := Lib.hid hw4
  clear hw4
  refine wpAnyH_ready (rs := [5]) (by kernel_rfl) (by simp) ?_
  refine AllReadyH.cons (o := { dst := none, op := Go.Op.store 34 (Go.Operand.tmp 5) (Go.Operand.tmp 39), type := 0, pos := "ref.go:90", after := #[{ on := 3, ground := Go.Ground.data }, { on := 4, ground := Go.Ground.chain }, { on := 0, ground := Go.Ground.phase }, { on := 1, ground := Go.Ground.phase }, { on := 2, ground := Go.Ground.phase }, { on := 3, ground := Go.Ground.phase }, { on := 4, ground := Go.Ground.phase }], guard := none }) rfl (fun K hK => ?_) AllReadyH.nil
  obtain ⟨q0, q1, q2, q3, q4, q5⟩ := Yr.out.six
  go_simp
  have Zc := Lib.hid (((Yc.out.other (q := ⟨p2, 0, none⟩) n2 (.bool true)).other (q := ⟨p2, 1, none⟩) n2 (.string ⟨#[]⟩)).other (q := ⟨p2, 2, none⟩) n2 (.bool false))
  have Zs := Lib.hid (((Ys.out.other (q := ⟨p2, 0, none⟩) m3' (.bool true)).other (q := ⟨p2, 1, none⟩) m3' (.string ⟨#[]⟩)).other (q := ⟨p2, 2, none⟩) m3' (.bool false))
  refine hK.out _ _ ?_ (fun hHeld => ?_)
  · exact ⟨Zc.out.c.1, Zc.out.c.2.1, Zc.out.c.2.2, Zs.out.cells.1, Zs.out.cells.2.1, Zs.out.cells.2.2.1⟩
  clear hK K q0 q1 q2 q3 q4 q5 Yc Ys Yr Zc Zs
  (try simp only [Act.put, List.setIfInBounds_toArray, List.set_cons_zero, List.set_cons_succ])
  refine wpAnyH_done (by kernel_rfl) ?_ _
  refine NoPanic.normal ?_
  clear hHeld
  rw [HW4.out]
  go_wp2_with fail
  have F := R3.out.out mo ch (.slice A3 m3 c3) _ rfl
  have hp1 := R1.out.r1.lt
  have hp2 := R1.out.r2.lt
  have O4 := (O3.out.six (p1 := p1) (p2 := p2) hp1 hp2 (.int .i64 (mo : Int)) (.bool ch) (.slice A3 m3 c3) (.bool true) (.string ⟨#[]⟩) (.bool false)).mono R1.out.bel.size
  refine bodyPost_ret (results_cc rfl _ _ _ ⟨p1, 0, none⟩ ⟨p2, 0, none⟩ _ _ rfl (load_c (mo := mo) F.1) rfl (load_step F.2.1)) rfl ?_
  exact ⟨_, _, _, rfl, kp_own O4, M3.out, F.2.2⟩

set_option maxHeartbeats 4000000 in
set_option maxRecDepth 100000 in
theorem rq_room (w : World) (g mo : Nat) (ch : Bool) (A : Option Addr) (m c : Nat) (L B : List (Ent Key)) (n : Nat) (key : Key) (h : ZRow w g (.slice A m c) B) (hm : B.length = m) (hl : m ≤ 1900) (hmo : mo ≤ 9223372036854775807) (y : By ch L B n) (hn : n ≤ 90000) (hs : key.size ≤ maxLen) (hpos : 1 ≤ mo) (hi : isIn L key = false) (hr : m < mo) :
    Calls Try.prog 12 #[.agg #[.int .i64 ((mo : Nat) : Int), .bool ch, .slice A m c], .string key] w (ZtPost w g (mo) ch (.agg #[.bool false, .string ⟨#[]⟩, .bool false]) (askB ch n L B key)) := by
  have V0 := rv_start w (mo) ch (.slice A m c)
  have U := rtimes_any _ g (mo) ch A m c B key (h.below V0.bel) hm
  rw [y.tms] at U
  have tp := tms_pos y.fit key
  have ht := tms_rng y.fit key
  have e9 : ((mo : Int) == 0) = false := by simp; omega
  have e8 : (mo == 0) = false := by simp; omega
  have AS := Lib.hid (fun (W : World) (hz : ZRow W g (.slice A m c) B) => rask_any W g mo ch A m c L B n key hz hm hl y hn hs)
  rw [hi] at tp
  generalize askB ch n L B key = B2 at *
  generalize tms L key = t at U tp ht
  have U := Lib.hid U
  have HH := Lib.hid h
  have HV := Lib.hid V0
  have e1 : decide (mo ≤ m) = false := by simp; omega
  clear h y V0 hi
  go_enter Try.func12, Try.ntmps12
  go_wp2_with fail
  refine U.out.mono ?_
  rintro e W ⟨rfl, hb⟩
  have V0 := HV.out.below hb
  clear hb U HV
  generalize w.heap.size + 1 + 1 + 1 = p3 at V0 ⊢
  generalize w.heap.size + 1 + 1 = p2 at V0 ⊢
  generalize w.heap.size + 1 = p1 at V0 ⊢
  obtain ⟨p0, hp0⟩ : ∃ p, p = w.heap.size := ⟨_, rfl⟩
  rw [← hp0] at V0 ⊢
  have HP0 := Lib.hid hp0
  clear hp0
  obtain ⟨c0, c1, c2⟩ := V0.c.c
  obtain ⟨s0, s1, s2, s3, s4, s5⟩ := V0.s.six
  obtain ⟨⟨n1, n2, n3⟩, ⟨n4, n5, n6⟩, ⟨n7, n8, n9⟩, ⟨m1, m2, m3'⟩⟩ := V0.ne
  have V1 := V0.hit false
  obtain ⟨W1, hW1⟩ : ∃ W1, W1 = W.setCell ⟨p3, 0, none⟩ (.bool false) := ⟨_, rfl⟩
  rw [← hW1] at V1
  have R1 := Lib.hid V1
  have HW1 := Lib.hid hW1
  clear hW1 V0
  clear V1
  go_upto_region 7 with fail
  rw [← HW1.out]
  clear c0 c1 c2 s0 s1 s2 s3 s4 s5 HW1
  have R2 := R1.out
  obtain ⟨c0, c1, c2⟩ := R2.c.c
  obtain ⟨s0, s1, s2, s3, s4, s5⟩ := R2.s.six
  have AS2 := Lib.hid (AS.out W1.drew (HH.out.below R2.bel.drew))
  clear R2 AS
  have BD := Lib.hid (show ∀ w3, Below W1.drew.heap.size W1.drew w3 → Below W1.heap.size W1 w3 from fun w3 hB => ⟨hB.os, hB.tape, hB.output, hB.size, hB.block⟩)
  refine wp_region_noPanic ?_
  refine wp_region_held_drew (S := fun w' => w'.cell? ⟨p0, 0, none⟩ = some (.int .i64 (mo : Int)) ∧ w'.cell? ⟨p0, 1, none⟩ = some (.bool ch) ∧ w'.cell? ⟨p0, 2, none⟩ = some (.slice A m c) ∧ w'.cell? ⟨p3, 0, none⟩ = some (.bool false) ∧ w'.cell? ⟨p3, 1, none⟩ = some (.string ⟨#[]⟩) ∧ w'.cell? ⟨p3, 2, none⟩ = some (.bool false)) (by kernel_rfl) ?_ (fun hHeld => ?_)
  · exact ⟨c0, c1, c2, s0, s1, s2⟩
  refine wpAnyH_take (i := 0) (oi := { dst := some 36, op := Go.Op.load 29 (Go.Operand.tmp 2), type := 29, pos := "ref.go:90", after := #[], guard := none }) (v := ?_) rfl (by kernel_rfl) (by kernel_rfl) (by kernel_rfl) (fun _ _ _ h => h) (Or.inl ⟨by rfl, ?_⟩) (by assumption) ?_
  rotate_left
  · (intro w hSw; (try dsimp only at hSw); go_simp; (try with_reducible rfl))
  (try simp only [Act.put, List.setIfInBounds_toArray, List.set_cons_zero, List.set_cons_succ])
  refine wpAnyH_take (i := 1) (oi := { dst := some 37, op := Go.Op.move (Go.Operand.tmp 1), type := 9, pos := "ref.go:90", after := #[], guard := none }) (v := ?_) rfl (by kernel_rfl) (by kernel_rfl) (by kernel_rfl) (fun _ _ _ h => h) (Or.inl ⟨by rfl, ?_⟩) (by assumption) ?_
  rotate_left
  · (intro w hSw; (try dsimp only at hSw); go_simp; (try with_reducible rfl))
  (try simp only [Act.put, List.setIfInBounds_toArray, List.set_cons_zero, List.set_cons_succ])
  refine wpAnyH_take (i := 3) (oi := { dst := some 39, op := Go.Op.load 34 (Go.Operand.tmp 6), type := 34, pos := "ref.go:90", after := #[{ on := 4, ground := Go.Ground.gcOnly Go.Departure.lateStores }], guard := none }) (v := ?_) rfl (by kernel_rfl) (by kernel_rfl) (by kernel_rfl) (fun _ _ _ h => h) (Or.inl ⟨by rfl, ?_⟩) (by assumption) ?_
  rotate_left
  · (intro w hSw; (try dsimp only at hSw); go_simp; (try with_reducible rfl))
  (try simp only [Act.put, List.setIfInBounds_toArray, List.set_cons_zero, List.set_cons_succ])
  refine wpAnyH_ready (rs := [2]) (by kernel_rfl) (by simp) ?_
  refine AllReadyH.cons (o := { dst := some 38, op := Go.Op.call { callee := Go.Callee.value (Go.Operand.func 34), args := #[Go.Operand.tmp 36, Go.Operand.tmp 37], argTypes := #[29, 9] }, type := 29, pos := "ref.go:90", after := #[{ on := 0, ground := Go.Ground.data }, { on := 1, ground := Go.Ground.data }], guard := none }) rfl (fun K hK => ?_) AllReadyH.nil
  go_simp
  refine AS2.out.mono ?_
  rintro e w3 ⟨A3, m3, c3, rfl, hO, hB⟩
  have X3 := R1.out.below (BD.out w3 hB)
  have O3 := Lib.hid hO
  have M3 := Lib.hid (zlen hO)
  have R3 := Lib.hid X3
  clear hO hB X3 BD
  go_wp2_with fail
  refine hK.out _ _ ?_ (fun hHeld => ?_)
  · exact ⟨R3.out.c.c.1, R3.out.c.c.2.1, R3.out.c.c.2.2, R3.out.s.cells.1, R3.out.s.cells.2.1, R3.out.s.cells.2.2.1⟩
  clear hK K c0 c1 c2 s0 s1 s2
  (try simp only [Act.put, List.setIfInBounds_toArray, List.set_cons_zero, List.set_cons_succ])
  have Yc := Lib.hid (((R3.out.c.other (q := ⟨p1, 0, none⟩) n1 (.int .i64 (mo : Int))).other (q := ⟨p1, 1, none⟩) n1 (.bool ch)).other (q := ⟨p1, 2, none⟩) n1 (.slice A3 m3 c3))
  have Ys := Lib.hid (((R3.out.s.other (q := ⟨p1, 0, none⟩) m2 (.int .i64 (mo : Int))).other (q := ⟨p1, 1, none⟩) m2 (.bool ch)).other (q := ⟨p1, 2, none⟩) m2 (.slice A3 m3 c3))
  have Yr := Lib.hid (((R3.out.r2.other (q := ⟨p1, 0, none⟩) n8 (.int .i64 (mo : Int))).other (q := ⟨p1, 1, none⟩) n8 (.bool ch)).other (q := ⟨p1, 2, none⟩) n8 (.slice A3 m3 c3))
  refine wpAnyH_ready (rs := [4]) (by kernel_rfl) (by simp) ?_
  refine AllReadyH.cons (o := { dst := none, op := Go.Op.store 29 (Go.Operand.tmp 4) (Go.Operand.tmp 38), type := 0, pos := "ref.go:90", after := #[{ on := 2, ground := Go.Ground.data }, { on := 2, ground := Go.Ground.chain }, { on := 0, ground := Go.Ground.phase }, { on := 1, ground := Go.Ground.phase }, { on := 2, ground := Go.Ground.phase }, { on := 3, ground := Go.Ground.textOnly Go.Departure.lateStores }], guard := none }) rfl (fun K hK => ?_) AllReadyH.nil
  obtain ⟨r0, r1, r2⟩ := R3.out.r1.c
  obtain ⟨u0, u1, u2⟩ := R3.out.r1.f
  go_simp
  refine hK.out _ _ ?_ (fun hHeld => ?_)
  · exact ⟨Yc.out.c.1, Yc.out.c.2.1, Yc.out.c.2.2, Ys.out.cells.1, Ys.out.cells.2.1, Ys.out.cells.2.2.1⟩
  clear hK K r0 r1 r2 u0 u1 u2
  (try simp only [Act.put, List.setIfInBounds_toArray, List.set_cons_zero, List.set_cons_succ])
  obtain ⟨w4, hw4⟩ : ∃ w4, w4 = ((w3.setCell ⟨p1, 0, none⟩ (.int .i64 (mo : Int))).setCell ⟨p1, 1, none⟩ (.bool ch)).setCell ⟨p1, 2, none⟩ (.slice A3 m3 c3) := ⟨_, rfl⟩
  rw [← hw4] at Yc Ys Yr hHeld ⊢
  have HW4 := Lib.hid hw4
  clear hw4
  refine wpAnyH_ready (rs := [5]) (by kernel_rfl) (by simp) ?_
  refine AllReadyH.cons (o := { dst := none, op := Go.Op.store 34 (Go.Operand.tmp 5) (Go.Operand.tmp 39), type := 0, pos := "ref.go:90", after := #[{ on := 3, ground := Go.Ground.data }, { on := 4, ground := Go.Ground.chain }, { on := 0, ground := Go.Ground.phase }, { on := 1, ground := Go.Ground.phase }, { on := 2, ground := Go.Ground.phase }, { on := 3, ground := Go.Ground.phase }, { on := 4, ground := Go.Ground.phase }], guard := none }) rfl (fun K hK => ?_) AllReadyH.nil
  obtain ⟨q0, q1, q2, q3, q4, q5⟩ := Yr.out.six
  go_simp
  have Zc := Lib.hid (((Yc.out.other (q := ⟨p2, 0, none⟩) n2 (.bool false)).other (q := ⟨p2, 1, none⟩) n2 (.string ⟨#[]⟩)).other (q := ⟨p2, 2, none⟩) n2 (.bool false))
  have Zs := Lib.hid (((Ys.out.other (q := ⟨p2, 0, none⟩) m3' (.bool false)).other (q := ⟨p2, 1, none⟩) m3' (.string ⟨#[]⟩)).other (q := ⟨p2, 2, none⟩) m3' (.bool false))
  refine hK.out _ _ ?_ (fun hHeld => ?_)
  · exact ⟨Zc.out.c.1, Zc.out.c.2.1, Zc.out.c.2.2, Zs.out.cells.1, Zs.out.cells.2.1, Zs.out.cells.2.2.1⟩
  clear hK K q0 q1 q2 q3 q4 q5 Yc Ys Yr Zc Zs
  (try simp only [Act.put, List.setIfInBounds_toArray, List.set_cons_zero, List.set_cons_succ])
  refine wpAnyH_done (by kernel_rfl) ?_ _
  refine NoPanic.normal ?_
  clear hHeld
  rw [HW4.out]
  go_wp2_with fail
  have F := R3.out.out mo ch (.slice A3 m3 c3) _ rfl
  have hp1 := R1.out.r1.lt
  have hp2 := R1.out.r2.lt
  have O4 := (O3.out.six (p1 := p1) (p2 := p2) hp1 hp2 (.int .i64 (mo : Int)) (.bool ch) (.slice A3 m3 c3) (.bool false) (.string ⟨#[]⟩) (.bool false)).mono R1.out.bel.size
  refine bodyPost_ret (results_cc rfl _ _ _ ⟨p1, 0, none⟩ ⟨p2, 0, none⟩ _ _ rfl (load_c (mo := mo) F.1) rfl (load_step F.2.1)) rfl ?_
  exact ⟨_, _, _, rfl, kp_own O4, M3.out, F.2.2⟩
end Go.Proofs.Ytdbfojolocelaaa
