/- The contract of Adopt. -/
import Derived.Test.YtdbfojolocelaaaFd
namespace Go.Proofs.Ytdbfojolocelaaa
open Go.RowKit Ht HS Lf

set_option maxHeartbeats 1000000 in
set_option maxRecDepth 100000 in
theorem adopt_in (w : World) (c h : Nat) (T : Nat → Prop) (mo : Nat) (ch : Bool) (L : List (Ent Key)) (n : Nat) (key : Key) (r : Raw w c h T mo ch (sg ch * (n : Int)) L n) (hl : L.length ≤ mo) (hi : isIn L key = true) (hs : key.size ≤ maxLen) :
    Calls Try.prog 18 #[.pointer (some ⟨c, 0, none⟩), .string key] w (CaPost (.bool false) w c (blk c T) mo ch L n) := by
  have HH := Lib.hid r
  have HL := Lib.hid hl
  have HI := Lib.hid hi
  have BD := Lib.hid (show ∀ w2, Below w.drew.heap.size w.drew w2 → Below w.heap.size w w2 from fun w2 hB => ⟨hB.os, hB.tape, hB.output, hB.size, hB.block⟩)
  clear r hl hi
  go_enter Try.func18, Try.ntmps18
  go_wp2_with fail
  refine wp_region_noPanic ?_
  refine wp_region_held_drew (S := fun _ => True) (by kernel_rfl) trivial (fun hHeld => ?_)
  refine wpAnyH_take (i := 0) (oi := { dst := some 5, op := Go.Op.move (Go.Operand.tmp 0), type := 25, pos := "lfu.go:61", after := #[], guard := none }) (v := ?_) rfl (by kernel_rfl) (by kernel_rfl) (by kernel_rfl) (fun _ _ _ h => h) (Or.inl ⟨by rfl, ?_⟩) (by assumption) ?_
  rotate_left
  · (intro w hSw; (try dsimp only at hSw); go_simp; (try with_reducible rfl))
  (try simp only [Act.put, List.setIfInBounds_toArray, List.set_cons_zero, List.set_cons_succ])
  refine wpAnyH_take (i := 1) (oi := { dst := some 6, op := Go.Op.move (Go.Operand.tmp 1), type := 9, pos := "lfu.go:61", after := #[], guard := none }) (v := ?_) rfl (by kernel_rfl) (by kernel_rfl) (by kernel_rfl) (fun _ _ _ h => h) (Or.inl ⟨by rfl, ?_⟩) (by assumption) ?_
  rotate_left
  · (intro w hSw; (try dsimp only at hSw); go_simp; (try with_reducible rfl))
  (try simp only [Act.put, List.setIfInBounds_toArray, List.set_cons_zero, List.set_cons_succ])
  refine wpAnyH_ready (rs := [2]) (by kernel_rfl) (by simp) ?_
  refine AllReadyH.cons (o := { dst := some 7, op := Go.Op.call { callee := Go.Callee.value (Go.Operand.func 30), args := #[Go.Operand.tmp 5, Go.Operand.tmp 6], argTypes := #[25, 9] }, type := 4, pos := "lfu.go:61", after := #[{ on := 0, ground := Go.Ground.data }, { on := 1, ground := Go.Ground.data }], guard := none }) rfl (fun K hK => ?_) AllReadyH.nil
  go_simp
  refine (hasC w.drew c h T mo ch _ L n key (HH.out.below ⟨rfl, rfl, rfl, Nat.le_refl _, fun _ _ => rfl⟩) hs).mono ?_
  rintro e w2 ⟨rfl, hB⟩
  rw [HI.out]
  have B2 := Lib.hid (BD.out w2 hB)
  clear hB
  go_wp2_with fail
  refine hK.out _ _ ?_ (fun hHeld => ?_)
  · exact trivial
  clear hK K
  (try simp only [Act.put, List.setIfInBounds_toArray, List.set_cons_zero, List.set_cons_succ])
  refine wpAnyH_take (i := 3) (oi := { dst := some 8, op := Go.Op.move (Go.Operand.tmp 7), type := 4, pos := "lfu.go:61", after := #[{ on := 2, ground := Go.Ground.data }, { on := 2, ground := Go.Ground.chain }], guard := none }) (v := ?_) rfl (by kernel_rfl) (by kernel_rfl) (by kernel_rfl) (fun _ _ _ h => h) (Or.inl ⟨by rfl, ?_⟩) (by assumption) ?_
  rotate_left
  · (intro w hSw; (try dsimp only at hSw); go_simp; (try with_reducible rfl))
  (try simp only [Act.put, List.setIfInBounds_toArray, List.set_cons_zero, List.set_cons_succ])
  refine wpAnyH_take (i := 4) (oi := { dst := some 9, op := Go.Op.move (Go.Operand.tmp 0), type := 25, pos := "lfu.go:61", after := #[{ on := 3, ground := Go.Ground.guard }], guard := some (3, false) }) (v := undef) rfl (by kernel_rfl) (by kernel_rfl) (by kernel_rfl) (fun _ _ _ h => h) (Or.inr ⟨by rfl, rfl⟩) (by assumption) ?_
  (try simp only [Act.put, List.setIfInBounds_toArray, List.set_cons_zero, List.set_cons_succ])
  refine wpAnyH_take (i := 5) (oi := { dst := some 10, op := Go.Op.call { callee := Go.Callee.value (Go.Operand.func 28), args := #[Go.Operand.tmp 9], argTypes := #[25] }, type := 3, pos := "lfu.go:61", after := #[{ on := 4, ground := Go.Ground.data }, { on := 3, ground := Go.Ground.chain }, { on := 3, ground := Go.Ground.guard }], guard := some (3, false) }) (v := undef) rfl (by kernel_rfl) (by kernel_rfl) (by kernel_rfl) (fun _ _ _ h => h) (Or.inr ⟨by rfl, rfl⟩) (by assumption) ?_
  (try simp only [Act.put, List.setIfInBounds_toArray, List.set_cons_zero, List.set_cons_succ])
  refine wpAnyH_take (i := 6) (oi := { dst := some 11, op := Go.Op.move (Go.Operand.tmp 0), type := 25, pos := "lfu.go:61", after := #[{ on := 3, ground := Go.Ground.guard }], guard := some (3, false) }) (v := undef) rfl (by kernel_rfl) (by kernel_rfl) (by kernel_rfl) (fun _ _ _ h => h) (Or.inr ⟨by rfl, rfl⟩) (by assumption) ?_
  (try simp only [Act.put, List.setIfInBounds_toArray, List.set_cons_zero, List.set_cons_succ])
  refine wpAnyH_take (i := 7) (oi := { dst := some 12, op := Go.Op.nilCheck (Go.Operand.tmp 11), type := 0, pos := "lfu.go:61", after := #[{ on := 6, ground := Go.Ground.data }, { on := 3, ground := Go.Ground.guard }], guard := some (3, false) }) (v := undef) rfl (by kernel_rfl) (by kernel_rfl) (by kernel_rfl) (fun _ _ _ h => h) (Or.inr ⟨by rfl, rfl⟩) (by assumption) ?_
  (try simp only [Act.put, List.setIfInBounds_toArray, List.set_cons_zero, List.set_cons_succ])
  refine wpAnyH_take (i := 8) (oi := { dst := some 13, op := Go.Op.fieldAddr 67 (Go.Operand.tmp 12) 0, type := 0, pos := "lfu.go:61", after := #[{ on := 7, ground := Go.Ground.data }, { on := 3, ground := Go.Ground.guard }], guard := some (3, false) }) (v := undef) rfl (by kernel_rfl) (by kernel_rfl) (by kernel_rfl) (fun _ _ _ h => h) (Or.inr ⟨by rfl, rfl⟩) (by assumption) ?_
  (try simp only [Act.put, List.setIfInBounds_toArray, List.set_cons_zero, List.set_cons_succ])
  refine wpAnyH_take (i := 9) (oi := { dst := some 14, op := Go.Op.load 3 (Go.Operand.tmp 13), type := 3, pos := "lfu.go:61", after := #[{ on := 8, ground := Go.Ground.data }, { on := 3, ground := Go.Ground.guard }], guard := some (3, false) }) (v := undef) rfl (by kernel_rfl) (by kernel_rfl) (by kernel_rfl) (fun _ _ _ h => h) (Or.inr ⟨by rfl, rfl⟩) (by assumption) ?_
  (try simp only [Act.put, List.setIfInBounds_toArray, List.set_cons_zero, List.set_cons_succ])
  refine wpAnyH_take (i := 10) (oi := { dst := some 15, op := Go.Op.binOp Go.BinOp.geq 3 (Go.Operand.tmp 10) (Go.Operand.tmp 14) 3, type := 4, pos := "lfu.go:61", after := #[{ on := 5, ground := Go.Ground.data }, { on := 9, ground := Go.Ground.data }, { on := 3, ground := Go.Ground.guard }], guard := some (3, false) }) (v := undef) rfl (by kernel_rfl) (by kernel_rfl) (by kernel_rfl) (fun _ _ _ h => h) (Or.inr ⟨by rfl, rfl⟩) (by assumption) ?_
  (try simp only [Act.put, List.setIfInBounds_toArray, List.set_cons_zero, List.set_cons_succ])
  refine wpAnyH_take (i := 11) (oi := { dst := some 16, op := Go.Op.pick (Go.Operand.tmp 8) (Go.Operand.const (Go.Value.bool true)) (Go.Operand.tmp 15), type := 4, pos := "lfu.go:61", after := #[{ on := 3, ground := Go.Ground.data }, { on := 10, ground := Go.Ground.data }], guard := none }) (v := ?_) rfl (by kernel_rfl) (by kernel_rfl) (by kernel_rfl) (fun _ _ _ h => h) (Or.inl ⟨by rfl, ?_⟩) (by assumption) ?_
  rotate_left
  · (intro w hSw; (try dsimp only at hSw); go_simp; (try with_reducible rfl))
  (try simp only [Act.put, List.setIfInBounds_toArray, List.set_cons_zero, List.set_cons_succ])
  refine wpAnyH_done (by kernel_rfl) ?_ _
  refine NoPanic.normal ?_
  go_wp2_with fail
  go_ret
  exact ⟨rfl, _, ⟨h, T, rfl, HH.out.below B2.out, HL.out⟩, fun k hk => Or.inl hk, Turn.of_below B2.out⟩

set_option maxHeartbeats 2000000 in
set_option maxRecDepth 100000 in
theorem adopt_full (w : World) (c h : Nat) (T : Nat → Prop) (mo : Nat) (ch : Bool) (L : List (Ent Key)) (n : Nat) (key : Key) (r : Raw w c h T mo ch (sg ch * (n : Int)) L n) (hl : L.length ≤ mo) (hi : isIn L key = false) (hf : mo ≤ L.length) (hs : key.size ≤ maxLen) :
    Calls Try.prog 18 #[.pointer (some ⟨c, 0, none⟩), .string key] w (CaPost (.bool false) w c (blk c T) mo ch L n) := by
  have c0 := r.c0
  have e0 : decide (mo ≤ L.length) = true := by simpa using hf
  have HH := Lib.hid r
  have HL := Lib.hid hl
  have HF := Lib.hid hf
  have HA := Lib.hid (show Calls Try.prog 30 #[.pointer (some ⟨c, 0, none⟩), .string key] w.drew (ValBelow (.bool false) w.drew) from by
    have := hasC w.drew c h T mo ch _ L n key (r.below ⟨rfl, rfl, rfl, Nat.le_refl _, fun _ _ => rfl⟩) hs
    rw [hi] at this
    exact this)
  have BD := Lib.hid (show ∀ w2, Below w.drew.heap.size w.drew w2 → Below w.heap.size w w2 ∧ w2.cell? ⟨c, 0, none⟩ = some (.int .i64 (mo : Int)) from fun w2 hB => by
    have hb : Below w.heap.size w w2 := ⟨hB.os, hB.tape, hB.output, hB.size, hB.block⟩
    exact ⟨hb, (hb.cell (p := ⟨c, 0, none⟩) (cell_lt c0)).trans c0⟩)
  clear r hl hi hf
  go_enter Try.func18, Try.ntmps18
  go_wp2_with fail
  go_region_held3 (fun w' => w'.cell? ⟨c, 0, none⟩ = some (.int .i64 (mo : Int))) (first | assumption | go_keep)
    (first
      | (go_at_call 30; refine HA.out.mono ?_; rintro e w2 ⟨rfl, hB⟩; have B2 := Lib.hid (BD.out w2 hB).1; have z1 := (BD.out w2 hB).2; clear hB)
      | (go_at_call 28; refine (lenC w2 c h T mo ch _ L n (HH.out.below B2.out)).mono ?_; rintro e w3 ⟨rfl, rfl⟩))
  go_wp2_with fail
  go_ret
  exact ⟨rfl, _, ⟨h, T, rfl, HH.out.below B2.out, HL.out⟩, fun k hk => Or.inl hk, Turn.of_below B2.out⟩

set_option maxHeartbeats 2000000 in
set_option maxRecDepth 100000 in
theorem adopt_room (w : World) (c h : Nat) (T : Nat → Prop) (mo : Nat) (ch : Bool) (L : List (Ent Key)) (n : Nat) (key : Key) (r : Raw w c h T mo ch (sg ch * (n : Int)) L n) (hl : L.length ≤ mo) (hi : isIn L key = false) (hf : L.length < mo) (hs : key.size ≤ maxLen) (hn : n ≤ 90000) (h9 : L.length ≤ 999) :
    Calls Try.prog 18 #[.pointer (some ⟨c, 0, none⟩), .string key] w (CaPost (.bool true) w c (blk c T) mo ch (put ch n L key) (n + 1)) := by
  have c0 := r.c0
  have e0 : decide (mo ≤ L.length) = false := by simpa using hf
  have HH := Lib.hid r
  have HL := Lib.hid hl
  have HF := Lib.hid hf
  have HA := Lib.hid (show Calls Try.prog 30 #[.pointer (some ⟨c, 0, none⟩), .string key] w.drew (ValBelow (.bool false) w.drew) from by
    have := hasC w.drew c h T mo ch _ L n key (r.below ⟨rfl, rfl, rfl, Nat.le_refl _, fun _ _ => rfl⟩) hs
    rw [hi] at this
    exact this)
  have BD := Lib.hid (show ∀ w2, Below w.drew.heap.size w.drew w2 → Below w.heap.size w w2 ∧ w2.cell? ⟨c, 0, none⟩ = some (.int .i64 (mo : Int)) from fun w2 hB => by
    have hb : Below w.heap.size w w2 := ⟨hB.os, hB.tape, hB.output, hB.size, hB.block⟩
    exact ⟨hb, (hb.cell (p := ⟨c, 0, none⟩) (cell_lt c0)).trans c0⟩)
  clear r hl hi hf
  go_enter Try.func18, Try.ntmps18
  go_wp2_with fail
  go_region_held3 (fun w' => w'.cell? ⟨c, 0, none⟩ = some (.int .i64 (mo : Int))) (first | assumption | go_keep)
    (first
      | (go_at_call 30; refine HA.out.mono ?_; rintro e w2 ⟨rfl, hB⟩; have B2 := Lib.hid (BD.out w2 hB).1; have z1 := (BD.out w2 hB).2; clear hB)
      | (go_at_call 28; refine (lenC w2 c h T mo ch _ L n (HH.out.below B2.out)).mono ?_; rintro e w3 ⟨rfl, rfl⟩))
  go_wp2_with fail
  refine (countC w2 c h T mo ch L n key (HH.out.below B2.out) hs h9 hn).mono ?_
  rintro e w3 ⟨rfl, T3, hR, hN, hT⟩
  have R := Lib.hid (show CaPost (.bool true) w c (blk c T) mo ch (put ch n L key) (n + 1) (.returned (.bool true)) w3 from by
    have hsz := B2.out.size
    refine ⟨rfl, _, ⟨h, T3, rfl, hR, ?_⟩, fun k hk => ?_, (Turn.of_below (S := blk c T) B2.out).trans hT (fun _ _ h => h)⟩
    · rw [put_len]; have := HF.out; have := Lf.rem_le L key; omega
    · rcases blk_next hN k hk with h | h
      · exact Or.inl h
      · exact Or.inr (by omega))
  clear hR hN hT z1
  go_wp2_with fail
  go_ret
  exact R.out

theorem adopt_ca (w : World) (c : Nat) (S : Nat → Prop) (mo : Nat) (ch : Bool) (L : List (Ent Key)) (n : Nat) (key : Key) (a : Ca w c S mo ch L n) (hs : key.size ≤ maxLen) (hn : n ≤ 900) :
    Calls Try.prog 18 #[.pointer (some ⟨c, 0, none⟩), .string key] w (CaPost (.bool (adB mo L key)) w c S mo ch (adL ch mo n L key) (adN mo n L key)) := by
  have h9 : L.length ≤ 999 := by have := once_len a.once; omega
  obtain ⟨h, T, rfl, hR, hl⟩ := a
  cases hi : isIn L key with
  | true =>
    have e1 : adB mo L key = false := by simp [adB, hi]
    rw [show adL ch mo n L key = L by unfold adL; rw [e1]; rfl, show adN mo n L key = n by unfold adN; rw [e1]; rfl, e1]
    exact adopt_in w c h T mo ch L n key hR hl hi hs
  | false =>
    by_cases hf : L.length < mo
    · have e1 : adB mo L key = true := by simp [adB, hi, hf]
      rw [show adL ch mo n L key = put ch n L key by unfold adL; rw [e1]; rfl, show adN mo n L key = n + 1 by unfold adN; rw [e1]; rfl, e1]
      exact adopt_room w c h T mo ch L n key hR hl hi hf hs (by omega) h9
    · have e1 : adB mo L key = false := by simp [adB, hi, hf]
      rw [show adL ch mo n L key = L by unfold adL; rw [e1]; rfl, show adN mo n L key = n by unfold adN; rw [e1]; rfl, e1]
      exact adopt_full w c h T mo ch L n key hR hl hi (by omega) hs
end Go.Proofs.Ytdbfojolocelaaa
