/- 'cachewiselaw03.ListPlays' returns true for every row of calls, and leaves what was there as it was. No condition. -/
import Derived.Test.YtlncfelglmhbdaaPlain3
import Derived.Deep.LoopGhost
import Derived.Deep.DeepCutAuto
import Derived.Deep.CutBlock
import Derived.Deep.RegionHeld3
namespace Go.Proofs.Ytlncfelglmhbdaa
open Go.ChangeShapes Go.WideShapes Go.ChangeAt Go.RowKit

theorem refSame_self (w : World) (g g' : Nat) (v u : Value) (xs : List ByteArray) (h : Row w g v xs) (k : Row w g' u xs) : Calls Try.prog 26 #[v, u] w (SamePost true w) := by
  have := refSame_any w g g' v u xs xs h k
  rw [decide_eq_true (rfl : xs = xs)] at this
  exact this

/-- The list, the reference's row, and how many places there were at most. -/
structure PyS (l M : Nat) (w0 W : World) (P : Nat) (xs : List ByteArray) (m : Nat) (v : Value) : Prop where
  lst : Lst W l M P xs m
  kept : Kept w0 W l M P
  mine : Mine W l M P v xs
def PyR (n l M : Nat) (w0 : World) (g : Nat) (v t i : Value) (W : World) : Prop := ∃ (k P m : Nat) (xs : List ByteArray), g = n - k ∧ i = .int .i64 (k : Int) ∧ k ≤ n ∧ t = .int .i64 (m : Int) ∧ xs.length ≤ k ∧ m ≤ k ∧ PyS l M w0 W P xs m v
/-- The list, the reference's row, and the call that is gone through, in block g. -/
structure PyA (l M : Nat) (w0 W : World) (P : Nat) (xs ys : List ByteArray) (m : Nat) (v : Value) (g : Nat) (key : ByteArray) : Prop where
  lst : Lst W l M P xs m
  kept : Kept w0 W l M P
  mine : Mine W l M P v ys
  ap : g ≠ l ∧ g ≠ M ∧ g ≠ P
  glt : g < W.heap.size
  cell : W.cell? ⟨g, 1, none⟩ = some (.string key)
section
variable {l M : Nat} {w0 W w2 : World} {P m m' : Nat} {xs ys zs : List ByteArray} {v u : Value} {g : Nat} {key : ByteArray} {e : Ending}
theorem PyS.alloc (h : PyS l M w0 W P xs m v) (kd : Int) : PyA l M w0 (W.alloc (.cells #[.int .i64 kd, .string key] 28)) P xs xs m v W.heap.size key := by
  have hb := (Below.refl W.heap.size W).alloc (Nat.le_refl _) (.cells #[.int .i64 kd, .string key] 28)
  have hl := h.lst.llt
  exact ⟨h.lst.below hb, h.kept.new hb, h.mine.below hb, ⟨by omega, by omega, by omega⟩, by simp, cell_of_row _ _ 1 _ _ _ (heap_alloc_new W _)⟩
theorem PyA.op (h : PyA l M w0 W P xs ys m v g key) (hp : OpPost u W l M P zs m' e w2) : ∃ P', PyA l M w0 w2 P' zs ys m' v g key := by
  obtain ⟨P', _, hP, hL, hT⟩ := hp
  have h1 := h.ap
  have h2 := h.glt
  have h3 := hT.size
  exact ⟨P', hL, h.kept.next hP hT, h.mine.next hP hT, ⟨h1.1, h1.2.1, by rcases hP with rfl | hP <;> omega⟩, by omega, (World.cell?_of_block (a := ⟨g, 1, none⟩) (hT.block g h2 h1.1 h1.2.1 h1.2.2)).trans h.cell⟩
theorem PyA.below (h : PyA l M w0 W P xs ys m v g key) (hb : Below W.heap.size W w2) : PyA l M w0 w2 P xs ys m v g key :=
  ⟨h.lst.below hb, h.kept.new hb, h.mine.below hb, h.ap, by have := hb.size; have := h.glt; omega, (hb.cell (p := ⟨g, 1, none⟩) h.glt).trans h.cell⟩
theorem PyA.drew (h : PyA l M w0 W P xs ys m v g key) : PyA l M w0 W.drew P xs ys m v g key := h.below ((Below.refl _ _).drew)
theorem PyA.made (h : PyA l M w0 W P xs ys m v g key) (hO : Own w2 W.heap.size u zs) (hb : Below W.heap.size W w2) : PyA l M w0 w2 P xs zs m u g key := by
  have h1 := h.below hb
  exact ⟨h1.lst, h1.kept, hO.mine h.lst, h1.ap, h1.glt, h1.cell⟩
end
/-- Behind the call: the places are the greater one of what there were, and what there are. -/
def PyM (k l M : Nat) (w0 : World) (g : Nat) (key : ByteArray) (v t : Value) (W : World) : Prop := ∃ (P m m' : Nat) (xs : List ByteArray), t = .int .i64 (m : Int) ∧ xs.length ≤ k + 1 ∧ m ≤ k ∧ m' = max m xs.length ∧ PyA l M w0 W P xs xs m' v g key

set_option maxHeartbeats 4000000 in
set_option maxRecDepth 100000 in
theorem plays_main (A : Option Addr) (n c : Nat) (w : World) (K : Nat → Int) (S : Nat → ByteArray) (hn : n ≤ 300) (hS : ∀ i, i < n → (S i).size ≤ maxLen)
    (hc : 0 < n → ∃ g o, A = some ⟨g, o, none⟩ ∧ g < w.heap.size ∧ n ≤ c ∧ c ≤ maxLen ∧ ∀ i, i < n → w.cell? ⟨g, o + i * 2, none⟩ = some (.int .i64 (K i)) ∧ w.cell? ⟨g, o + i * 2 + 1, none⟩ = some (.string (S i))) :
    Calls Try.prog 3 #[.slice A n c] w (RetB true w) := by
  have e0 : decide (300 < (n : Int)) = false := by simp; omega
  have HC := Lib.hid hc
  have HS := Lib.hid hS
  clear hc hS
  go_enter Try.func3, Try.ntmps3
  go_wp2_with fail
  refine (awake_any _).mono ?_
  rintro e w0 ⟨rfl, hb0⟩
  have b0 := Lib.hid hb0; clear hb0
  go_wp2_with fail
  refine (new_any w0).mono ?_
  rintro e w1 ⟨l, M, P, rfl, hl, hM, hP, hL, hB⟩
  have hs0 := b0.out.size
  have S1 := Lib.hid (show PyS l M w w1 P [] 0 (.slice none 0 0) from ⟨hL, ⟨b0.out.trans (hB.mono hs0), by omega, by omega, by omega⟩, Mine.nil _ _ _ _ _ _⟩)
  clear hl hM hP hL hB hs0 b0
  go_wp2_with fail
  clear e0
  go_loopg [4, 5, 6] n (fun g v t i W => PyR n l M w g v t i W)
  case atStart => exact ⟨0, P, 0, [], by omega, rfl, Nat.zero_le _, rfl, Nat.le_refl _, Nat.le_refl _, S1.out⟩
  case round =>
    obtain ⟨k, P, m, xs, hgk, rfl, hk, rfl, hxl, hmk, hS⟩ := hrel
    have HGK := Lib.hid hgk
    have HPy := Lib.hid hS
    clear hgk hS S1
    by_cases hlt : k < n
    · have e0 : decide (k < n) = true := by simpa using hlt
      obtain ⟨g, o, rfl, hg, hc1, hc2, hcell⟩ := HC.out (by omega)
      have hc3 := hcell k hlt
      have h1 := (HPy.out.kept.bel.cell (p := ⟨g, o + k * 2, none⟩) hg).trans hc3.1
      have h2 := (HPy.out.kept.bel.cell (p := ⟨g, o + k * 2 + 1, none⟩) hg).trans hc3.2
      have hsk := HS.out k hlt
      clear hcell hc3
      unfold maxLen at hc2
      by_cases hkl : (S k).size ≤ 1000
      · have e1 : decide (1000 < ((S k).size : Int)) = false := by simp; omega
        have S2 := Lib.hid (HPy.out.alloc (key := S k) (K k))
        have d1 := S2.out.cell
        have hxm := HPy.out.lst.le
        go_upto_block 2 with fail
        clear h1 h2 e1
        generalize wr.alloc (.cells #[.int .i64 (K k), .string (S k)] 28) = w2 at S2 d1 ⊢
        generalize wr.heap.size = ga at S2 d1 ⊢
        generalize S k = key at S2 d1 hsk hkl ⊢
        generalize K k = kd
        go_cut [4, 5] (fun v t W => PyM k l M w ga key v t W)
        case first =>
          as_aux_lemma =>
          have hrl := rem_le xs key
          obtain ⟨gm, hgm, _⟩ := S2.out.mine
          obtain ⟨Am, cm, rfl⟩ := hgm.shape
          cases c0 : (kd == 0) with
          | true =>
            go_wp2_with fail
            refine (front_any w2 l M P xs m key S2.out.lst hsk (by omega)).mono ?_
            intro e w3 hp
            obtain rfl := hp.val
            obtain ⟨P3, h3⟩ := S2.out.op hp
            obtain ⟨g3, hr3, _⟩ := h3.mine
            have d3 := h3.cell
            have S3 := Lib.hid h3
            have U := Lib.hid (refFront_any w3 g3 _ xs key hr3 (by omega) hsk)
            clear hp h3 hr3 d1 hgm
            go_wp2_with fail
            refine U.out.mono ?_
            rintro e w4 ⟨v4, rfl, hO, hB⟩
            have S4 := Lib.hid (S3.out.made hO hB)
            clear hO hB d3 U
            go_wp2_with fail
            go_meet
            exact ⟨P3, m, _, _, rfl, by rw [List.length_cons]; omega, hmk, by rw [List.length_cons], S4.out⟩
          | false =>
          cases c1 : (kd == 1) with
          | true =>
            go_wp2_with fail
            refine (back_any w2 l M P xs m key S2.out.lst hsk (by omega)).mono ?_
            intro e w3 hp
            obtain rfl := hp.val
            obtain ⟨P3, h3⟩ := S2.out.op hp
            obtain ⟨g3, hr3, _⟩ := h3.mine
            have d3 := h3.cell
            have S3 := Lib.hid h3
            have U := Lib.hid (refBack_any w3 g3 _ xs key hr3 (by omega) hsk)
            clear hp h3 hr3 d1 hgm
            go_wp2_with fail
            refine U.out.mono ?_
            rintro e w4 ⟨v4, rfl, hO, hB⟩
            have S4 := Lib.hid (S3.out.made hO hB)
            clear hO hB d3 U
            go_wp2_with fail
            go_meet
            exact ⟨P3, m, _, _, rfl, by rw [List.length_append, List.length_cons, List.length_nil]; omega, hmk, by rw [List.length_append, List.length_cons, List.length_nil], S4.out⟩
          | false =>
          cases c2 : (kd == 2) with
          | true =>
            have SD := Lib.hid S2.out.drew
            clear hgm
            go_wp2_with fail
            go_region_held3 (fun w' => w'.cell? ⟨ga, 1, none⟩ = some (.string key)) (first | assumption | go_keep)
              (first
                | (go_at_call 14; refine (remove_any _ l M P xs m key SD.out.lst hsk).mono ?_; intro e w3 hp; obtain rfl := hp.val; obtain ⟨P3, h3⟩ := SD.out.op hp; obtain ⟨g3, hr3, hg3⟩ := h3.mine; have d3 := h3.cell; have S3 := Lib.hid h3; have R3 := Lib.hid hr3; clear hp h3 hg3 hr3)
                | (go_at_call 15; refine (refHas_any _ g3 _ xs key R3.out).mono ?_; rintro e w4 ⟨rfl, rfl⟩))
            all_goals
              have U := Lib.hid (refRemove_any w3 g3 _ xs key R3.out (by omega))
              clear d1
              go_wp2_with fail
              refine U.out.mono ?_
              rintro e w4 ⟨v4, rfl, hO, hB⟩
              have S4 := Lib.hid (S3.out.made hO hB)
              clear hO hB U
              go_wp2_with fail
              go_meet
              exact ⟨P3, m, _, _, rfl, by omega, hmk, by omega, S4.out⟩
          | false =>
          cases c3 : (kd == 3) with
          | true =>
            go_wp2_with fail
            refine (pop_any w2 l M P xs m S2.out.lst).mono ?_
            intro e w3 hp
            obtain rfl := hp.val
            obtain ⟨P3, h3⟩ := S2.out.op hp
            obtain ⟨g3, hr3, hg3⟩ := h3.mine
            have S3 := Lib.hid h3
            have U := Lib.hid (refLast_any w3 g3 _ xs hr3)
            have U2 := Lib.hid (refPop_any w3 g3 _ xs hr3)
            have eb := beqS_yes (rfl : lastKey xs = lastKey xs)
            have G3 := Lib.hid hg3
            clear hp h3 hr3 d1 hgm hg3
            go_wp2_with fail
            refine U.out.mono ?_
            rintro e w3 ⟨rfl, rfl⟩
            go_wp2_with fail
            refine U2.out.mono ?_
            rintro e w3 ⟨v4, rfl, hR, rfl⟩
            have S4 := Lib.hid (show PyA l M w w3 P3 xs.dropLast xs.dropLast m v4 ga key from ⟨S3.out.lst, S3.out.kept, ⟨g3, hR, G3.out⟩, S3.out.ap, S3.out.glt, S3.out.cell⟩)
            clear hR
            go_wp2_with fail
            go_meet
            exact ⟨P3, m, _, _, rfl, by rw [List.length_dropLast]; omega, hmk, by rw [List.length_dropLast]; omega, S4.out⟩
          | false =>
          cases c4 : (kd == 4) with
          | true =>
            go_wp2_with fail
            refine (clear_any w2 l M P xs m S2.out.lst).mono ?_
            intro e w3 hp
            obtain rfl := hp.val
            obtain ⟨P3, h3⟩ := S2.out.op hp
            have S4 := Lib.hid (show PyA l M w w3 P3 [] [] 0 (.slice none 0 0) ga key from ⟨h3.lst, h3.kept, Mine.nil _ _ _ _ _ _, h3.ap, h3.glt, h3.cell⟩)
            clear hp h3 d1 hgm
            go_wp2_with fail
            go_meet
            exact ⟨P3, 0, 0, [], rfl, by simp, Nat.zero_le _, rfl, S4.out⟩
          | false =>
            clear d1 hgm
            go_wp2_with fail
            go_meet
            exact ⟨P, m, m, xs, rfl, by omega, hmk, by omega, S2.out⟩
        case rest =>
          clear S2 d1 HPy
          obtain ⟨P, m, m', xs, rfl, hxl, hmk, hm', hS⟩ := hcut
          have HM' := Lib.hid hm'
          have S3 := Lib.hid hS
          obtain ⟨gm, hgm, _⟩ := hS.mine
          obtain ⟨Am, cm, rfl⟩ := hgm.shape
          have RM := Lib.hid hgm
          clear hm' hS hgm
          have hmax : ∀ (ts : Array TypeId) (ty : TypeId) (W : World), (Builtin.max_ ts ty #[.int .i64 (m : Int), .int .i64 (xs.length : Int)]).run Try.prog W = .ok (.int .i64 (m' : Int)) W := by
            intro ts ty W
            rw [run_max_int2, HM'.out]
            congr 2
            split <;> omega
          go_wp2_with fail
          clear hmax
          refine (last_any wc l M P xs m' S3.out.lst).mono ?_
          rintro e wc ⟨rfl, rfl⟩
          go_wp2_with fail
          refine (refLast_any wc gm _ xs RM.out).mono ?_
          rintro e wc ⟨rfl, rfl⟩
          go_wp2_with fail
          refine (first_any wc l M P xs m' S3.out.lst).mono ?_
          rintro e wc ⟨rfl, rfl⟩
          go_wp2_with fail
          have SD := Lib.hid S3.out.drew
          have RD := Lib.hid (RM.out.below ((Below.refl _ _).drew))
          have d1 := S3.out.cell
          have HL := Lib.hid (show xs.length ≤ k + 1 ∧ m' ≤ k + 1 from ⟨hxl, by rw [HM'.out]; omega⟩)
          by_cases hx : xs = []
          · as_aux_lemma =>
            have h1 : firstKey xs = ⟨#[]⟩ := by rw [hx]; rfl
            have h2 : anyKey xs = false := by rw [hx]; rfl
            rw [h1, h2]
            clear h1 h2 hx
            generalize lastKey xs = lk
            refine wp_region_noPanic ?_
            refine wp_region_held_drew (S := fun w' => w'.cell? ⟨ga, 1, none⟩ = some (.string key)) (by kernel_rfl) ?_ (fun hHeld => ?_)
            · exact d1
            refine wpAnyH_take (i := 0) (oi := { dst := some 122, op := Go.Op.move (Go.Operand.tmp 12), type := 9, pos := "law.go:77", after := #[], guard := none }) (v := ?_) rfl (by kernel_rfl) (by kernel_rfl) (by kernel_rfl) (fun _ _ _ h => h) (Or.inl ⟨by rfl, ?_⟩) (by assumption) ?_
            rotate_left
            · (intro w hSw; (try dsimp only at hSw); go_simp; (try with_reducible rfl))
            (try simp only [Act.put, List.setIfInBounds_toArray, List.set_cons_zero, List.set_cons_succ])
            refine wpAnyH_take (i := 1) (oi := { dst := some 123, op := Go.Op.move (Go.Operand.tmp 14), type := 9, pos := "law.go:77", after := #[], guard := none }) (v := ?_) rfl (by kernel_rfl) (by kernel_rfl) (by kernel_rfl) (fun _ _ _ h => h) (Or.inl ⟨by rfl, ?_⟩) (by assumption) ?_
            rotate_left
            · (intro w hSw; (try dsimp only at hSw); go_simp; (try with_reducible rfl))
            (try simp only [Act.put, List.setIfInBounds_toArray, List.set_cons_zero, List.set_cons_succ])
            refine wpAnyH_take (i := 2) (oi := { dst := some 124, op := Go.Op.binOp Go.BinOp.neq 9 (Go.Operand.tmp 122) (Go.Operand.tmp 123) 9, type := 4, pos := "law.go:77", after := #[{ on := 0, ground := Go.Ground.data }, { on := 1, ground := Go.Ground.data }], guard := none }) (v := ?_) rfl (by kernel_rfl) (by kernel_rfl) (by kernel_rfl) (fun _ _ _ h => h) (Or.inl ⟨by rfl, ?_⟩) (by assumption) ?_
            rotate_left
            · (intro w hSw; (try dsimp only at hSw); go_simp; (try with_reducible rfl))
            (try simp only [Act.put, List.setIfInBounds_toArray, List.set_cons_zero, List.set_cons_succ])
            refine wpAnyH_take (i := 3) (oi := { dst := some 125, op := Go.Op.move (Go.Operand.tmp 124), type := 4, pos := "law.go:77", after := #[{ on := 2, ground := Go.Ground.data }], guard := none }) (v := ?_) rfl (by kernel_rfl) (by kernel_rfl) (by kernel_rfl) (fun _ _ _ h => h) (Or.inl ⟨by rfl, ?_⟩) (by assumption) ?_
            rotate_left
            · (intro w hSw; (try dsimp only at hSw); go_simp; (try with_reducible rfl))
            (try simp only [Act.put, List.setIfInBounds_toArray, List.set_cons_zero, List.set_cons_succ])
            refine wpAnyH_take (i := 4) (oi := { dst := some 126, op := Go.Op.move (Go.Operand.tmp 13), type := 4, pos := "law.go:77", after := #[{ on := 3, ground := Go.Ground.guard }], guard := some (3, false) }) (v := ?_) rfl (by kernel_rfl) (by kernel_rfl) (by kernel_rfl) (fun _ _ _ h => h) (Or.inl ⟨by rfl, ?_⟩) (by assumption) ?_
            rotate_left
            · (intro w hSw; (try dsimp only at hSw); go_simp; (try with_reducible rfl))
            (try simp only [Act.put, List.setIfInBounds_toArray, List.set_cons_zero, List.set_cons_succ])
            refine wpAnyH_take (i := 5) (oi := { dst := some 127, op := Go.Op.move (Go.Operand.tmp 15), type := 4, pos := "law.go:77", after := #[{ on := 3, ground := Go.Ground.guard }], guard := some (3, false) }) (v := ?_) rfl (by kernel_rfl) (by kernel_rfl) (by kernel_rfl) (fun _ _ _ h => h) (Or.inl ⟨by rfl, ?_⟩) (by assumption) ?_
            rotate_left
            · (intro w hSw; (try dsimp only at hSw); go_simp; (try with_reducible rfl))
            (try simp only [Act.put, List.setIfInBounds_toArray, List.set_cons_zero, List.set_cons_succ])
            refine wpAnyH_take (i := 6) (oi := { dst := some 128, op := Go.Op.binOp Go.BinOp.neq 4 (Go.Operand.tmp 126) (Go.Operand.tmp 127) 4, type := 4, pos := "law.go:77", after := #[{ on := 4, ground := Go.Ground.data }, { on := 5, ground := Go.Ground.data }, { on := 3, ground := Go.Ground.guard }], guard := some (3, false) }) (v := ?_) rfl (by kernel_rfl) (by kernel_rfl) (by kernel_rfl) (fun _ _ _ h => h) (Or.inl ⟨by rfl, ?_⟩) (by assumption) ?_
            rotate_left
            · (intro w hSw; (try dsimp only at hSw); go_simp; (try with_reducible rfl))
            (try simp only [Act.put, List.setIfInBounds_toArray, List.set_cons_zero, List.set_cons_succ])
            refine wpAnyH_take (i := 7) (oi := { dst := some 129, op := Go.Op.pick (Go.Operand.tmp 125) (Go.Operand.const (Go.Value.bool true)) (Go.Operand.tmp 128), type := 4, pos := "law.go:77", after := #[{ on := 3, ground := Go.Ground.data }, { on := 6, ground := Go.Ground.data }], guard := none }) (v := ?_) rfl (by kernel_rfl) (by kernel_rfl) (by kernel_rfl) (fun _ _ _ h => h) (Or.inl ⟨by rfl, ?_⟩) (by assumption) ?_
            rotate_left
            · (intro w hSw; (try dsimp only at hSw); go_simp; (try with_reducible rfl))
            (try simp only [Act.put, List.setIfInBounds_toArray, List.set_cons_zero, List.set_cons_succ])
            refine wpAnyH_take (i := 8) (oi := { dst := some 130, op := Go.Op.move (Go.Operand.tmp 129), type := 4, pos := "law.go:77", after := #[{ on := 7, ground := Go.Ground.data }, { on := 3, ground := Go.Ground.chain }], guard := none }) (v := ?_) rfl (by kernel_rfl) (by kernel_rfl) (by kernel_rfl) (fun _ _ _ h => h) (Or.inl ⟨by rfl, ?_⟩) (by assumption) ?_
            rotate_left
            · (intro w hSw; (try dsimp only at hSw); go_simp; (try with_reducible rfl))
            (try simp only [Act.put, List.setIfInBounds_toArray, List.set_cons_zero, List.set_cons_succ])
            refine wpAnyH_take (i := 9) (oi := { dst := some 131, op := Go.Op.move (Go.Operand.tmp 17), type := 4, pos := "law.go:77", after := #[{ on := 8, ground := Go.Ground.guard }], guard := some (8, false) }) (v := ?_) rfl (by kernel_rfl) (by kernel_rfl) (by kernel_rfl) (fun _ _ _ h => h) (Or.inl ⟨by rfl, ?_⟩) (by assumption) ?_
            rotate_left
            · (intro w hSw; (try dsimp only at hSw); go_simp; (try with_reducible rfl))
            (try simp only [Act.put, List.setIfInBounds_toArray, List.set_cons_zero, List.set_cons_succ])
            refine wpAnyH_take (i := 10) (oi := { dst := some 132, op := Go.Op.move (Go.Operand.tmp 15), type := 4, pos := "law.go:77", after := #[{ on := 8, ground := Go.Ground.guard }], guard := some (8, false) }) (v := ?_) rfl (by kernel_rfl) (by kernel_rfl) (by kernel_rfl) (fun _ _ _ h => h) (Or.inl ⟨by rfl, ?_⟩) (by assumption) ?_
            rotate_left
            · (intro w hSw; (try dsimp only at hSw); go_simp; (try with_reducible rfl))
            (try simp only [Act.put, List.setIfInBounds_toArray, List.set_cons_zero, List.set_cons_succ])
            refine wpAnyH_take (i := 11) (oi := { dst := some 133, op := Go.Op.binOp Go.BinOp.neq 4 (Go.Operand.tmp 131) (Go.Operand.tmp 132) 4, type := 4, pos := "law.go:77", after := #[{ on := 9, ground := Go.Ground.data }, { on := 10, ground := Go.Ground.data }, { on := 8, ground := Go.Ground.guard }], guard := some (8, false) }) (v := ?_) rfl (by kernel_rfl) (by kernel_rfl) (by kernel_rfl) (fun _ _ _ h => h) (Or.inl ⟨by rfl, ?_⟩) (by assumption) ?_
            rotate_left
            · (intro w hSw; (try dsimp only at hSw); go_simp; (try with_reducible rfl))
            (try simp only [Act.put, List.setIfInBounds_toArray, List.set_cons_zero, List.set_cons_succ])
            refine wpAnyH_take (i := 12) (oi := { dst := some 134, op := Go.Op.pick (Go.Operand.tmp 130) (Go.Operand.const (Go.Value.bool true)) (Go.Operand.tmp 133), type := 4, pos := "law.go:77", after := #[{ on := 8, ground := Go.Ground.data }, { on := 11, ground := Go.Ground.data }], guard := none }) (v := ?_) rfl (by kernel_rfl) (by kernel_rfl) (by kernel_rfl) (fun _ _ _ h => h) (Or.inl ⟨by rfl, ?_⟩) (by assumption) ?_
            rotate_left
            · (intro w hSw; (try dsimp only at hSw); go_simp; (try with_reducible rfl))
            (try simp only [Act.put, List.setIfInBounds_toArray, List.set_cons_zero, List.set_cons_succ])
            refine wpAnyH_take (i := 13) (oi := { dst := some 135, op := Go.Op.move (Go.Operand.tmp 134), type := 4, pos := "law.go:77", after := #[{ on := 12, ground := Go.Ground.data }, { on := 8, ground := Go.Ground.chain }], guard := none }) (v := ?_) rfl (by kernel_rfl) (by kernel_rfl) (by kernel_rfl) (fun _ _ _ h => h) (Or.inl ⟨by rfl, ?_⟩) (by assumption) ?_
            rotate_left
            · (intro w hSw; (try dsimp only at hSw); go_simp; (try with_reducible rfl))
            (try simp only [Act.put, List.setIfInBounds_toArray, List.set_cons_zero, List.set_cons_succ])
            refine wpAnyH_take (i := 14) (oi := { dst := some 136, op := Go.Op.move (Go.Operand.tmp 17), type := 4, pos := "law.go:77", after := #[{ on := 13, ground := Go.Ground.guard }], guard := some (13, false) }) (v := ?_) rfl (by kernel_rfl) (by kernel_rfl) (by kernel_rfl) (fun _ _ _ h => h) (Or.inl ⟨by rfl, ?_⟩) (by assumption) ?_
            rotate_left
            · (intro w hSw; (try dsimp only at hSw); go_simp; (try with_reducible rfl))
            (try simp only [Act.put, List.setIfInBounds_toArray, List.set_cons_zero, List.set_cons_succ])
            refine wpAnyH_take (i := 15) (oi := { dst := some 137, op := Go.Op.move (Go.Operand.tmp 136), type := 4, pos := "law.go:77", after := #[{ on := 14, ground := Go.Ground.data }, { on := 13, ground := Go.Ground.chain }, { on := 13, ground := Go.Ground.guard }], guard := some (13, false) }) (v := ?_) rfl (by kernel_rfl) (by kernel_rfl) (by kernel_rfl) (fun _ _ _ h => h) (Or.inl ⟨by rfl, ?_⟩) (by assumption) ?_
            rotate_left
            · (intro w hSw; (try dsimp only at hSw); go_simp; (try with_reducible rfl))
            (try simp only [Act.put, List.setIfInBounds_toArray, List.set_cons_zero, List.set_cons_succ])
            refine wpAnyH_take (i := 16) (oi := { dst := some 138, op := Go.Op.move (Go.Operand.tmp 16), type := 9, pos := "law.go:77", after := #[{ on := 15, ground := Go.Ground.guard }], guard := some (15, true) }) (v := undef) rfl (by kernel_rfl) (by kernel_rfl) (by kernel_rfl) (fun _ _ _ h => h) (Or.inr ⟨by rfl, rfl⟩) (by assumption) ?_
            (try simp only [Act.put, List.setIfInBounds_toArray, List.set_cons_zero, List.set_cons_succ])
            refine wpAnyH_take (i := 17) (oi := { dst := some 139, op := Go.Op.move (Go.Operand.tmp 4), type := 26, pos := "law.go:77", after := #[{ on := 15, ground := Go.Ground.guard }], guard := some (15, true) }) (v := undef) rfl (by kernel_rfl) (by kernel_rfl) (by kernel_rfl) (fun _ _ _ h => h) (Or.inr ⟨by rfl, rfl⟩) (by assumption) ?_
            (try simp only [Act.put, List.setIfInBounds_toArray, List.set_cons_zero, List.set_cons_succ])
            refine wpAnyH_take (i := 18) (oi := { dst := some 140, op := Go.Op.indexAddr 26 (Go.Operand.tmp 139) (Go.Operand.const (Go.Value.int Go.IntKind.i64 0)), type := 0, pos := "law.go:77", after := #[{ on := 17, ground := Go.Ground.data }, { on := 15, ground := Go.Ground.guard }], guard := some (15, true) }) (v := undef) rfl (by kernel_rfl) (by kernel_rfl) (by kernel_rfl) (fun _ _ _ h => h) (Or.inr ⟨by rfl, rfl⟩) (by assumption) ?_
            (try simp only [Act.put, List.setIfInBounds_toArray, List.set_cons_zero, List.set_cons_succ])
            refine wpAnyH_take (i := 19) (oi := { dst := some 141, op := Go.Op.load 9 (Go.Operand.tmp 140), type := 9, pos := "law.go:77", after := #[{ on := 18, ground := Go.Ground.data }, { on := 15, ground := Go.Ground.guard }], guard := some (15, true) }) (v := undef) rfl (by kernel_rfl) (by kernel_rfl) (by kernel_rfl) (fun _ _ _ h => h) (Or.inr ⟨by rfl, rfl⟩) (by assumption) ?_
            (try simp only [Act.put, List.setIfInBounds_toArray, List.set_cons_zero, List.set_cons_succ])
            refine wpAnyH_take (i := 20) (oi := { dst := some 142, op := Go.Op.binOp Go.BinOp.neq 9 (Go.Operand.tmp 138) (Go.Operand.tmp 141) 9, type := 4, pos := "law.go:77", after := #[{ on := 16, ground := Go.Ground.data }, { on := 19, ground := Go.Ground.data }, { on := 15, ground := Go.Ground.guard }], guard := some (15, true) }) (v := undef) rfl (by kernel_rfl) (by kernel_rfl) (by kernel_rfl) (fun _ _ _ h => h) (Or.inr ⟨by rfl, rfl⟩) (by assumption) ?_
            (try simp only [Act.put, List.setIfInBounds_toArray, List.set_cons_zero, List.set_cons_succ])
            refine wpAnyH_take (i := 21) (oi := { dst := some 143, op := Go.Op.pick (Go.Operand.tmp 137) (Go.Operand.tmp 142) (Go.Operand.const (Go.Value.bool false)), type := 4, pos := "law.go:77", after := #[{ on := 15, ground := Go.Ground.data }, { on := 20, ground := Go.Ground.data }, { on := 13, ground := Go.Ground.guard }], guard := some (13, false) }) (v := ?_) rfl (by kernel_rfl) (by kernel_rfl) (by kernel_rfl) (fun _ _ _ h => h) (Or.inl ⟨by rfl, ?_⟩) (by assumption) ?_
            rotate_left
            · (intro w hSw; (try dsimp only at hSw); go_simp; (try with_reducible rfl))
            (try simp only [Act.put, List.setIfInBounds_toArray, List.set_cons_zero, List.set_cons_succ])
            refine wpAnyH_take (i := 22) (oi := { dst := some 144, op := Go.Op.pick (Go.Operand.tmp 135) (Go.Operand.const (Go.Value.bool true)) (Go.Operand.tmp 143), type := 4, pos := "law.go:77", after := #[{ on := 13, ground := Go.Ground.data }, { on := 21, ground := Go.Ground.data }], guard := none }) (v := ?_) rfl (by kernel_rfl) (by kernel_rfl) (by kernel_rfl) (fun _ _ _ h => h) (Or.inl ⟨by rfl, ?_⟩) (by assumption) ?_
            rotate_left
            · (intro w hSw; (try dsimp only at hSw); go_simp; (try with_reducible rfl))
            (try simp only [Act.put, List.setIfInBounds_toArray, List.set_cons_zero, List.set_cons_succ])
            refine wpAnyH_take (i := 23) (oi := { dst := some 145, op := Go.Op.move (Go.Operand.tmp 144), type := 4, pos := "law.go:77", after := #[{ on := 22, ground := Go.Ground.data }, { on := 15, ground := Go.Ground.chain }], guard := none }) (v := ?_) rfl (by kernel_rfl) (by kernel_rfl) (by kernel_rfl) (fun _ _ _ h => h) (Or.inl ⟨by rfl, ?_⟩) (by assumption) ?_
            rotate_left
            · (intro w hSw; (try dsimp only at hSw); go_simp; (try with_reducible rfl))
            (try simp only [Act.put, List.setIfInBounds_toArray, List.set_cons_zero, List.set_cons_succ])
            refine wpAnyH_take (i := 24) (oi := { dst := some 146, op := Go.Op.move (Go.Operand.tmp 17), type := 4, pos := "law.go:77", after := #[{ on := 23, ground := Go.Ground.guard }], guard := some (23, false) }) (v := ?_) rfl (by kernel_rfl) (by kernel_rfl) (by kernel_rfl) (fun _ _ _ h => h) (Or.inl ⟨by rfl, ?_⟩) (by assumption) ?_
            rotate_left
            · (intro w hSw; (try dsimp only at hSw); go_simp; (try with_reducible rfl))
            (try simp only [Act.put, List.setIfInBounds_toArray, List.set_cons_zero, List.set_cons_succ])
            refine wpAnyH_take (i := 25) (oi := { dst := some 147, op := Go.Op.unOp Go.UnOp.not 4 (Go.Operand.tmp 146), type := 4, pos := "law.go:77", after := #[{ on := 24, ground := Go.Ground.data }, { on := 23, ground := Go.Ground.guard }], guard := some (23, false) }) (v := ?_) rfl (by kernel_rfl) (by kernel_rfl) (by kernel_rfl) (fun _ _ _ h => h) (Or.inl ⟨by rfl, ?_⟩) (by assumption) ?_
            rotate_left
            · (intro w hSw; (try dsimp only at hSw); go_simp; (try with_reducible rfl))
            (try simp only [Act.put, List.setIfInBounds_toArray, List.set_cons_zero, List.set_cons_succ])
            refine wpAnyH_take (i := 26) (oi := { dst := some 148, op := Go.Op.move (Go.Operand.tmp 147), type := 4, pos := "law.go:77", after := #[{ on := 25, ground := Go.Ground.data }, { on := 23, ground := Go.Ground.chain }, { on := 23, ground := Go.Ground.guard }], guard := some (23, false) }) (v := ?_) rfl (by kernel_rfl) (by kernel_rfl) (by kernel_rfl) (fun _ _ _ h => h) (Or.inl ⟨by rfl, ?_⟩) (by assumption) ?_
            rotate_left
            · (intro w hSw; (try dsimp only at hSw); go_simp; (try with_reducible rfl))
            (try simp only [Act.put, List.setIfInBounds_toArray, List.set_cons_zero, List.set_cons_succ])
            refine wpAnyH_take (i := 27) (oi := { dst := some 149, op := Go.Op.move (Go.Operand.tmp 16), type := 9, pos := "law.go:77", after := #[{ on := 26, ground := Go.Ground.guard }], guard := some (26, true) }) (v := ?_) rfl (by kernel_rfl) (by kernel_rfl) (by kernel_rfl) (fun _ _ _ h => h) (Or.inl ⟨by rfl, ?_⟩) (by assumption) ?_
            rotate_left
            · (intro w hSw; (try dsimp only at hSw); go_simp; (try with_reducible rfl))
            (try simp only [Act.put, List.setIfInBounds_toArray, List.set_cons_zero, List.set_cons_succ])
            refine wpAnyH_take (i := 28) (oi := { dst := some 150, op := Go.Op.binOp Go.BinOp.neq 9 (Go.Operand.tmp 149) (Go.Operand.const (Go.Value.string { data := #[] })) 9, type := 4, pos := "law.go:77", after := #[{ on := 27, ground := Go.Ground.data }, { on := 26, ground := Go.Ground.guard }], guard := some (26, true) }) (v := ?_) rfl (by kernel_rfl) (by kernel_rfl) (by kernel_rfl) (fun _ _ _ h => h) (Or.inl ⟨by rfl, ?_⟩) (by assumption) ?_
            rotate_left
            · (intro w hSw; (try dsimp only at hSw); go_simp; (try with_reducible rfl))
            (try simp only [Act.put, List.setIfInBounds_toArray, List.set_cons_zero, List.set_cons_succ])
            refine wpAnyH_take (i := 29) (oi := { dst := some 151, op := Go.Op.pick (Go.Operand.tmp 148) (Go.Operand.tmp 150) (Go.Operand.const (Go.Value.bool false)), type := 4, pos := "law.go:77", after := #[{ on := 26, ground := Go.Ground.data }, { on := 28, ground := Go.Ground.data }, { on := 23, ground := Go.Ground.guard }], guard := some (23, false) }) (v := ?_) rfl (by kernel_rfl) (by kernel_rfl) (by kernel_rfl) (fun _ _ _ h => h) (Or.inl ⟨by rfl, ?_⟩) (by assumption) ?_
            rotate_left
            · (intro w hSw; (try dsimp only at hSw); go_simp; (try with_reducible rfl))
            (try simp only [Act.put, List.setIfInBounds_toArray, List.set_cons_zero, List.set_cons_succ])
            refine wpAnyH_take (i := 30) (oi := { dst := some 152, op := Go.Op.pick (Go.Operand.tmp 145) (Go.Operand.const (Go.Value.bool true)) (Go.Operand.tmp 151), type := 4, pos := "law.go:77", after := #[{ on := 23, ground := Go.Ground.data }, { on := 29, ground := Go.Ground.data }], guard := none }) (v := ?_) rfl (by kernel_rfl) (by kernel_rfl) (by kernel_rfl) (fun _ _ _ h => h) (Or.inl ⟨by rfl, ?_⟩) (by assumption) ?_
            rotate_left
            · (intro w hSw; (try dsimp only at hSw); go_simp; (try with_reducible rfl))
            (try simp only [Act.put, List.setIfInBounds_toArray, List.set_cons_zero, List.set_cons_succ])
            refine wpAnyH_take (i := 31) (oi := { dst := some 153, op := Go.Op.move (Go.Operand.tmp 152), type := 4, pos := "law.go:77", after := #[{ on := 30, ground := Go.Ground.data }, { on := 26, ground := Go.Ground.chain }], guard := none }) (v := ?_) rfl (by kernel_rfl) (by kernel_rfl) (by kernel_rfl) (fun _ _ _ h => h) (Or.inl ⟨by rfl, ?_⟩) (by assumption) ?_
            rotate_left
            · (intro w hSw; (try dsimp only at hSw); go_simp; (try with_reducible rfl))
            (try simp only [Act.put, List.setIfInBounds_toArray, List.set_cons_zero, List.set_cons_succ])
            refine wpAnyH_take (i := 32) (oi := { dst := some 154, op := Go.Op.move (Go.Operand.tmp 3), type := 24, pos := "law.go:77", after := #[{ on := 31, ground := Go.Ground.guard }], guard := some (31, false) }) (v := ?_) rfl (by kernel_rfl) (by kernel_rfl) (by kernel_rfl) (fun _ _ _ h => h) (Or.inl ⟨by rfl, ?_⟩) (by assumption) ?_
            rotate_left
            · (intro w hSw; (try dsimp only at hSw); go_simp; (try with_reducible rfl))
            (try simp only [Act.put, List.setIfInBounds_toArray, List.set_cons_zero, List.set_cons_succ])
            refine wpAnyH_take (i := 34) (oi := { dst := some 156, op := Go.Op.move (Go.Operand.tmp 4), type := 26, pos := "law.go:77", after := #[{ on := 31, ground := Go.Ground.guard }], guard := some (31, false) }) (v := ?_) rfl (by kernel_rfl) (by kernel_rfl) (by kernel_rfl) (fun _ _ _ h => h) (Or.inl ⟨by rfl, ?_⟩) (by assumption) ?_
            rotate_left
            · (intro w hSw; (try dsimp only at hSw); go_simp; (try with_reducible rfl))
            (try simp only [Act.put, List.setIfInBounds_toArray, List.set_cons_zero, List.set_cons_succ])
            refine wpAnyH_take (i := 35) (oi := { dst := some 157, op := Go.Op.call { callee := Go.Callee.builtin Go.Builtin.len, args := #[Go.Operand.tmp 156], argTypes := #[26] }, type := 3, pos := "law.go:77", after := #[{ on := 34, ground := Go.Ground.data }, { on := 31, ground := Go.Ground.guard }], guard := some (31, false) }) (v := ?_) rfl (by kernel_rfl) (by kernel_rfl) (by kernel_rfl) (fun _ _ _ h => h) (Or.inl ⟨by rfl, ?_⟩) (by assumption) ?_
            rotate_left
            · (intro w hSw; (try dsimp only at hSw); go_simp; (try with_reducible rfl))
            (try simp only [Act.put, List.setIfInBounds_toArray, List.set_cons_zero, List.set_cons_succ])
            refine wpAnyH_ready (rs := [33]) (by kernel_rfl) (by simp) ?_
            refine AllReadyH.cons (o := { dst := some 155, op := Go.Op.call { callee := Go.Callee.value (Go.Operand.func 23), args := #[Go.Operand.tmp 154], argTypes := #[24] }, type := 3, pos := "law.go:77", after := #[{ on := 32, ground := Go.Ground.data }, { on := 31, ground := Go.Ground.chain }, { on := 31, ground := Go.Ground.guard }], guard := some (31, false) }) rfl (fun K hK => ?_) AllReadyH.nil
            go_simp
            refine (len_any _ l M P xs m' SD.out.lst).mono ?_
            rintro e wx ⟨rfl, rfl⟩
            go_wp2_with fail
            refine hK.out _ _ ?_ (fun hHeld => ?_)
            · exact hHeld
            clear hK K
            (try simp only [Act.put, List.setIfInBounds_toArray, List.set_cons_zero, List.set_cons_succ])
            refine wpAnyH_take (i := 36) (oi := { dst := some 158, op := Go.Op.binOp Go.BinOp.neq 3 (Go.Operand.tmp 155) (Go.Operand.tmp 157) 3, type := 4, pos := "law.go:77", after := #[{ on := 33, ground := Go.Ground.data }, { on := 35, ground := Go.Ground.data }, { on := 31, ground := Go.Ground.guard }], guard := some (31, false) }) (v := ?_) rfl (by kernel_rfl) (by kernel_rfl) (by kernel_rfl) (fun _ _ _ h => h) (Or.inl ⟨by rfl, ?_⟩) (by assumption) ?_
            rotate_left
            · (intro w hSw; (try dsimp only at hSw); go_simp; (try with_reducible rfl))
            (try simp only [Act.put, List.setIfInBounds_toArray, List.set_cons_zero, List.set_cons_succ])
            refine wpAnyH_take (i := 37) (oi := { dst := some 159, op := Go.Op.pick (Go.Operand.tmp 153) (Go.Operand.const (Go.Value.bool true)) (Go.Operand.tmp 158), type := 4, pos := "law.go:77", after := #[{ on := 31, ground := Go.Ground.data }, { on := 36, ground := Go.Ground.data }], guard := none }) (v := ?_) rfl (by kernel_rfl) (by kernel_rfl) (by kernel_rfl) (fun _ _ _ h => h) (Or.inl ⟨by rfl, ?_⟩) (by assumption) ?_
            rotate_left
            · (intro w hSw; (try dsimp only at hSw); go_simp; (try with_reducible rfl))
            (try simp only [Act.put, List.setIfInBounds_toArray, List.set_cons_zero, List.set_cons_succ])
            refine wpAnyH_take (i := 38) (oi := { dst := some 160, op := Go.Op.move (Go.Operand.tmp 159), type := 4, pos := "law.go:77", after := #[{ on := 37, ground := Go.Ground.data }, { on := 33, ground := Go.Ground.chain }], guard := none }) (v := ?_) rfl (by kernel_rfl) (by kernel_rfl) (by kernel_rfl) (fun _ _ _ h => h) (Or.inl ⟨by rfl, ?_⟩) (by assumption) ?_
            rotate_left
            · (intro w hSw; (try dsimp only at hSw); go_simp; (try with_reducible rfl))
            (try simp only [Act.put, List.setIfInBounds_toArray, List.set_cons_zero, List.set_cons_succ])
            refine wpAnyH_take (i := 39) (oi := { dst := some 161, op := Go.Op.move (Go.Operand.tmp 3), type := 24, pos := "law.go:77", after := #[{ on := 38, ground := Go.Ground.guard }], guard := some (38, false) }) (v := ?_) rfl (by kernel_rfl) (by kernel_rfl) (by kernel_rfl) (fun _ _ _ h => h) (Or.inl ⟨by rfl, ?_⟩) (by assumption) ?_
            rotate_left
            · (intro w hSw; (try dsimp only at hSw); go_simp; (try with_reducible rfl))
            (try simp only [Act.put, List.setIfInBounds_toArray, List.set_cons_zero, List.set_cons_succ])
            refine wpAnyH_take (i := 41) (oi := { dst := some 163, op := Go.Op.move (Go.Operand.tmp 5), type := 3, pos := "law.go:77", after := #[{ on := 38, ground := Go.Ground.guard }], guard := some (38, false) }) (v := ?_) rfl (by kernel_rfl) (by kernel_rfl) (by kernel_rfl) (fun _ _ _ h => h) (Or.inl ⟨by rfl, ?_⟩) (by assumption) ?_
            rotate_left
            · (intro w hSw; (try dsimp only at hSw); go_simp; (try with_reducible rfl))
            (try simp only [Act.put, List.setIfInBounds_toArray, List.set_cons_zero, List.set_cons_succ])
            refine wpAnyH_ready (rs := [40]) (by kernel_rfl) (by simp) ?_
            refine AllReadyH.cons (o := { dst := some 162, op := Go.Op.call { callee := Go.Callee.value (Go.Operand.func 24), args := #[Go.Operand.tmp 161], argTypes := #[24] }, type := 3, pos := "law.go:77", after := #[{ on := 39, ground := Go.Ground.data }, { on := 38, ground := Go.Ground.chain }, { on := 38, ground := Go.Ground.guard }], guard := some (38, false) }) rfl (fun K hK => ?_) AllReadyH.nil
            go_simp
            refine (places_any _ l M P xs m' SD.out.lst).mono ?_
            rintro e wx ⟨rfl, rfl⟩
            go_wp2_with fail
            refine hK.out _ _ ?_ (fun hHeld => ?_)
            · exact hHeld
            clear hK K
            (try simp only [Act.put, List.setIfInBounds_toArray, List.set_cons_zero, List.set_cons_succ])
            refine wpAnyH_take (i := 42) (oi := { dst := some 164, op := Go.Op.binOp Go.BinOp.neq 3 (Go.Operand.tmp 162) (Go.Operand.tmp 163) 3, type := 4, pos := "law.go:77", after := #[{ on := 40, ground := Go.Ground.data }, { on := 41, ground := Go.Ground.data }, { on := 38, ground := Go.Ground.guard }], guard := some (38, false) }) (v := ?_) rfl (by kernel_rfl) (by kernel_rfl) (by kernel_rfl) (fun _ _ _ h => h) (Or.inl ⟨by rfl, ?_⟩) (by assumption) ?_
            rotate_left
            · (intro w hSw; (try dsimp only at hSw); go_simp; (try with_reducible rfl))
            (try simp only [Act.put, List.setIfInBounds_toArray, List.set_cons_zero, List.set_cons_succ])
            refine wpAnyH_take (i := 43) (oi := { dst := some 165, op := Go.Op.pick (Go.Operand.tmp 160) (Go.Operand.const (Go.Value.bool true)) (Go.Operand.tmp 164), type := 4, pos := "law.go:77", after := #[{ on := 38, ground := Go.Ground.data }, { on := 42, ground := Go.Ground.data }], guard := none }) (v := ?_) rfl (by kernel_rfl) (by kernel_rfl) (by kernel_rfl) (fun _ _ _ h => h) (Or.inl ⟨by rfl, ?_⟩) (by assumption) ?_
            rotate_left
            · (intro w hSw; (try dsimp only at hSw); go_simp; (try with_reducible rfl))
            (try simp only [Act.put, List.setIfInBounds_toArray, List.set_cons_zero, List.set_cons_succ])
            refine wpAnyH_take (i := 44) (oi := { dst := some 166, op := Go.Op.move (Go.Operand.tmp 165), type := 4, pos := "law.go:77", after := #[{ on := 43, ground := Go.Ground.data }, { on := 40, ground := Go.Ground.chain }], guard := none }) (v := ?_) rfl (by kernel_rfl) (by kernel_rfl) (by kernel_rfl) (fun _ _ _ h => h) (Or.inl ⟨by rfl, ?_⟩) (by assumption) ?_
            rotate_left
            · (intro w hSw; (try dsimp only at hSw); go_simp; (try with_reducible rfl))
            (try simp only [Act.put, List.setIfInBounds_toArray, List.set_cons_zero, List.set_cons_succ])
            refine wpAnyH_take (i := 45) (oi := { dst := some 167, op := Go.Op.move (Go.Operand.tmp 3), type := 24, pos := "law.go:77", after := #[{ on := 44, ground := Go.Ground.guard }], guard := some (44, false) }) (v := ?_) rfl (by kernel_rfl) (by kernel_rfl) (by kernel_rfl) (fun _ _ _ h => h) (Or.inl ⟨by rfl, ?_⟩) (by assumption) ?_
            rotate_left
            · (intro w hSw; (try dsimp only at hSw); go_simp; (try with_reducible rfl))
            (try simp only [Act.put, List.setIfInBounds_toArray, List.set_cons_zero, List.set_cons_succ])
            refine wpAnyH_take (i := 46) (oi := { dst := some 168, op := Go.Op.fieldAddr 28 (Go.Operand.tmp 7) 1, type := 0, pos := "law.go:77", after := #[{ on := 44, ground := Go.Ground.guard }], guard := some (44, false) }) (v := ?_) rfl (by kernel_rfl) (by kernel_rfl) (by kernel_rfl) (fun _ _ _ h => h) (Or.inl ⟨by rfl, ?_⟩) (by assumption) ?_
            rotate_left
            · (intro w hSw; (try dsimp only at hSw); go_simp; (try with_reducible rfl))
            (try simp only [Act.put, List.setIfInBounds_toArray, List.set_cons_zero, List.set_cons_succ])
            refine wpAnyH_take (i := 47) (oi := { dst := some 169, op := Go.Op.load 9 (Go.Operand.tmp 168), type := 9, pos := "law.go:77", after := #[{ on := 46, ground := Go.Ground.data }, { on := 44, ground := Go.Ground.guard }], guard := some (44, false) }) (v := ?_) rfl (by kernel_rfl) (by kernel_rfl) (by kernel_rfl) (fun _ _ _ h => h) (Or.inl ⟨by rfl, ?_⟩) (by assumption) ?_
            rotate_left
            · (intro w hSw; (try dsimp only at hSw); go_simp; (try with_reducible rfl))
            (try simp only [Act.put, List.setIfInBounds_toArray, List.set_cons_zero, List.set_cons_succ])
            refine wpAnyH_take (i := 49) (oi := { dst := some 171, op := Go.Op.move (Go.Operand.tmp 4), type := 26, pos := "law.go:77", after := #[{ on := 44, ground := Go.Ground.guard }], guard := some (44, false) }) (v := ?_) rfl (by kernel_rfl) (by kernel_rfl) (by kernel_rfl) (fun _ _ _ h => h) (Or.inl ⟨by rfl, ?_⟩) (by assumption) ?_
            rotate_left
            · (intro w hSw; (try dsimp only at hSw); go_simp; (try with_reducible rfl))
            (try simp only [Act.put, List.setIfInBounds_toArray, List.set_cons_zero, List.set_cons_succ])
            refine wpAnyH_take (i := 50) (oi := { dst := some 172, op := Go.Op.fieldAddr 28 (Go.Operand.tmp 7) 1, type := 0, pos := "law.go:77", after := #[{ on := 44, ground := Go.Ground.guard }], guard := some (44, false) }) (v := ?_) rfl (by kernel_rfl) (by kernel_rfl) (by kernel_rfl) (fun _ _ _ h => h) (Or.inl ⟨by rfl, ?_⟩) (by assumption) ?_
            rotate_left
            · (intro w hSw; (try dsimp only at hSw); go_simp; (try with_reducible rfl))
            (try simp only [Act.put, List.setIfInBounds_toArray, List.set_cons_zero, List.set_cons_succ])
            refine wpAnyH_take (i := 51) (oi := { dst := some 173, op := Go.Op.load 9 (Go.Operand.tmp 172), type := 9, pos := "law.go:77", after := #[{ on := 50, ground := Go.Ground.data }, { on := 44, ground := Go.Ground.guard }], guard := some (44, false) }) (v := ?_) rfl (by kernel_rfl) (by kernel_rfl) (by kernel_rfl) (fun _ _ _ h => h) (Or.inl ⟨by rfl, ?_⟩) (by assumption) ?_
            rotate_left
            · (intro w hSw; (try dsimp only at hSw); go_simp; (try with_reducible rfl))
            (try simp only [Act.put, List.setIfInBounds_toArray, List.set_cons_zero, List.set_cons_succ])
            refine wpAnyH_ready (rs := [48]) (by kernel_rfl) (by simp) ?_
            refine AllReadyH.cons (o := { dst := some 170, op := Go.Op.call { callee := Go.Callee.value (Go.Operand.func 25), args := #[Go.Operand.tmp 167, Go.Operand.tmp 169], argTypes := #[24, 9] }, type := 4, pos := "law.go:77", after := #[{ on := 45, ground := Go.Ground.data }, { on := 47, ground := Go.Ground.data }, { on := 44, ground := Go.Ground.chain }, { on := 44, ground := Go.Ground.guard }], guard := some (44, false) }) rfl (fun K hK => ?_) AllReadyH.nil
            go_simp
            refine (has_any _ l M P xs m' key SD.out.lst hsk).mono ?_
            rintro e wx ⟨rfl, rfl⟩
            go_wp2_with fail
            refine hK.out _ _ ?_ (fun hHeld => ?_)
            · exact hHeld
            clear hK K
            (try simp only [Act.put, List.setIfInBounds_toArray, List.set_cons_zero, List.set_cons_succ])
            refine wpAnyH_ready (rs := [52]) (by kernel_rfl) (by simp) ?_
            refine AllReadyH.cons (o := { dst := some 174, op := Go.Op.call { callee := Go.Callee.value (Go.Operand.func 15), args := #[Go.Operand.tmp 171, Go.Operand.tmp 173], argTypes := #[26, 9] }, type := 4, pos := "law.go:77", after := #[{ on := 49, ground := Go.Ground.data }, { on := 51, ground := Go.Ground.data }, { on := 48, ground := Go.Ground.chain }, { on := 44, ground := Go.Ground.guard }], guard := some (44, false) }) rfl (fun K hK => ?_) AllReadyH.nil
            go_simp
            refine (refHas_any _ gm _ xs key RD.out).mono ?_
            rintro e wx ⟨rfl, rfl⟩
            go_wp2_with fail
            refine hK.out _ _ ?_ (fun hHeld => ?_)
            · exact hHeld
            clear hK K
            (try simp only [Act.put, List.setIfInBounds_toArray, List.set_cons_zero, List.set_cons_succ])
            refine wpAnyH_take (i := 53) (oi := { dst := some 175, op := Go.Op.binOp Go.BinOp.neq 4 (Go.Operand.tmp 170) (Go.Operand.tmp 174) 4, type := 4, pos := "law.go:77", after := #[{ on := 48, ground := Go.Ground.data }, { on := 52, ground := Go.Ground.data }, { on := 44, ground := Go.Ground.guard }], guard := some (44, false) }) (v := ?_) rfl (by kernel_rfl) (by kernel_rfl) (by kernel_rfl) (fun _ _ _ h => h) (Or.inl ⟨by rfl, ?_⟩) (by assumption) ?_
            rotate_left
            · (intro w hSw; (try dsimp only at hSw); go_simp; (try with_reducible rfl))
            (try simp only [Act.put, List.setIfInBounds_toArray, List.set_cons_zero, List.set_cons_succ])
            refine wpAnyH_take (i := 54) (oi := { dst := some 176, op := Go.Op.pick (Go.Operand.tmp 166) (Go.Operand.const (Go.Value.bool true)) (Go.Operand.tmp 175), type := 4, pos := "law.go:77", after := #[{ on := 44, ground := Go.Ground.data }, { on := 53, ground := Go.Ground.data }], guard := none }) (v := ?_) rfl (by kernel_rfl) (by kernel_rfl) (by kernel_rfl) (fun _ _ _ h => h) (Or.inl ⟨by rfl, ?_⟩) (by assumption) ?_
            rotate_left
            · (intro w hSw; (try dsimp only at hSw); go_simp; (try with_reducible rfl))
            (try simp only [Act.put, List.setIfInBounds_toArray, List.set_cons_zero, List.set_cons_succ])
            refine wpAnyH_take (i := 55) (oi := { dst := some 177, op := Go.Op.move (Go.Operand.tmp 176), type := 4, pos := "law.go:77", after := #[{ on := 54, ground := Go.Ground.data }, { on := 52, ground := Go.Ground.chain }], guard := none }) (v := ?_) rfl (by kernel_rfl) (by kernel_rfl) (by kernel_rfl) (fun _ _ _ h => h) (Or.inl ⟨by rfl, ?_⟩) (by assumption) ?_
            rotate_left
            · (intro w hSw; (try dsimp only at hSw); go_simp; (try with_reducible rfl))
            (try simp only [Act.put, List.setIfInBounds_toArray, List.set_cons_zero, List.set_cons_succ])
            refine wpAnyH_take (i := 56) (oi := { dst := some 178, op := Go.Op.move (Go.Operand.tmp 3), type := 24, pos := "law.go:77", after := #[{ on := 55, ground := Go.Ground.guard }], guard := some (55, false) }) (v := ?_) rfl (by kernel_rfl) (by kernel_rfl) (by kernel_rfl) (fun _ _ _ h => h) (Or.inl ⟨by rfl, ?_⟩) (by assumption) ?_
            rotate_left
            · (intro w hSw; (try dsimp only at hSw); go_simp; (try with_reducible rfl))
            (try simp only [Act.put, List.setIfInBounds_toArray, List.set_cons_zero, List.set_cons_succ])
            refine wpAnyH_take (i := 58) (oi := { dst := some 180, op := Go.Op.move (Go.Operand.tmp 4), type := 26, pos := "law.go:77", after := #[{ on := 55, ground := Go.Ground.guard }], guard := some (55, false) }) (v := ?_) rfl (by kernel_rfl) (by kernel_rfl) (by kernel_rfl) (fun _ _ _ h => h) (Or.inl ⟨by rfl, ?_⟩) (by assumption) ?_
            rotate_left
            · (intro w hSw; (try dsimp only at hSw); go_simp; (try with_reducible rfl))
            (try simp only [Act.put, List.setIfInBounds_toArray, List.set_cons_zero, List.set_cons_succ])
            refine wpAnyH_ready (rs := [57]) (by kernel_rfl) (by simp) ?_
            refine AllReadyH.cons (o := { dst := some 179, op := Go.Op.call { callee := Go.Callee.value (Go.Operand.func 27), args := #[Go.Operand.tmp 178], argTypes := #[24] }, type := 26, pos := "law.go:77", after := #[{ on := 56, ground := Go.Ground.data }, { on := 55, ground := Go.Ground.chain }, { on := 55, ground := Go.Ground.guard }], guard := some (55, false) }) rfl (fun K hK => ?_) AllReadyH.nil
            go_simp
            refine (keys_any _ l M P xs m' SD.out.lst).mono ?_
            rintro e w4 ⟨v4, rfl, hO, hB⟩
            have S4 := Lib.hid (SD.out.below hB)
            have R4 := Lib.hid (RD.out.below hB)
            have O4 := Lib.hid hO
            have d4 := S4.out.cell
            clear hO hB
            go_wp2_with fail
            refine hK.out _ _ ?_ (fun hHeld => ?_)
            · exact d4
            clear hK K
            (try simp only [Act.put, List.setIfInBounds_toArray, List.set_cons_zero, List.set_cons_succ])
            have U4 := Lib.hid (show Calls Try.prog 26 #[v4, .slice Am xs.length cm] w4 (SamePost true w4) from by
              obtain ⟨g4, _, hg4⟩ := O4.out.row
              exact refSame_self w4 g4 gm _ _ xs hg4 R4.out)
            refine wpAnyH_ready (rs := [59]) (by kernel_rfl) (by simp) ?_
            refine AllReadyH.cons (o := { dst := some 181, op := Go.Op.call { callee := Go.Callee.value (Go.Operand.func 26), args := #[Go.Operand.tmp 179, Go.Operand.tmp 180], argTypes := #[26, 26] }, type := 4, pos := "law.go:77", after := #[{ on := 57, ground := Go.Ground.data }, { on := 58, ground := Go.Ground.data }, { on := 57, ground := Go.Ground.chain }, { on := 55, ground := Go.Ground.guard }], guard := some (55, false) }) rfl (fun K hK => ?_) AllReadyH.nil
            go_simp
            refine U4.out.mono ?_
            rintro e w5 ⟨rfl, q, rfl⟩
            go_wp2_with fail
            refine hK.out _ _ ?_ (fun hHeld => ?_)
            · exact d4
            clear hK K
            (try simp only [Act.put, List.setIfInBounds_toArray, List.set_cons_zero, List.set_cons_succ])
            refine wpAnyH_take (i := 60) (oi := { dst := some 182, op := Go.Op.unOp Go.UnOp.not 4 (Go.Operand.tmp 181), type := 4, pos := "law.go:77", after := #[{ on := 59, ground := Go.Ground.data }, { on := 55, ground := Go.Ground.guard }], guard := some (55, false) }) (v := ?_) rfl (by kernel_rfl) (by kernel_rfl) (by kernel_rfl) (fun _ _ _ h => h) (Or.inl ⟨by rfl, ?_⟩) (by assumption) ?_
            rotate_left
            · (intro w hSw; (try dsimp only at hSw); go_simp; (try with_reducible rfl))
            (try simp only [Act.put, List.setIfInBounds_toArray, List.set_cons_zero, List.set_cons_succ])
            refine wpAnyH_take (i := 61) (oi := { dst := some 183, op := Go.Op.pick (Go.Operand.tmp 177) (Go.Operand.const (Go.Value.bool true)) (Go.Operand.tmp 182), type := 4, pos := "law.go:77", after := #[{ on := 55, ground := Go.Ground.data }, { on := 60, ground := Go.Ground.data }], guard := none }) (v := ?_) rfl (by kernel_rfl) (by kernel_rfl) (by kernel_rfl) (fun _ _ _ h => h) (Or.inl ⟨by rfl, ?_⟩) (by assumption) ?_
            rotate_left
            · (intro w hSw; (try dsimp only at hSw); go_simp; (try with_reducible rfl))
            (try simp only [Act.put, List.setIfInBounds_toArray, List.set_cons_zero, List.set_cons_succ])
            refine wpAnyH_done (by kernel_rfl) ?_ _
            refine NoPanic.normal ?_
            clear hHeld SD RD R4 O4 U4 d4
            go_wp2_with fail
            go_roundg (n - (k + 1))
            case measure => have := HGK.out; omega
            case rel =>
              have h := S4.out.below (below_drewN _ q)
              exact ⟨k + 1, P, m', xs, rfl, by go_num, by omega, rfl, HL.out.1, HL.out.2, ⟨h.lst, h.kept, h.mine⟩⟩
          · as_aux_lemma =>
            obtain ⟨om, rfl, hgl, hm0, hcm1, hcm2⟩ := RM.out.at (k := 0) (by rcases xs with _ | ⟨x, xs⟩; exact absurd rfl hx; simp)
            have h1 : xs.getD 0 ⟨#[]⟩ = firstKey xs := by cases xs <;> rfl
            have h2 : anyKey xs = true := by cases xs with | nil => exact absurd rfl hx | cons => rfl
            rw [h1, Nat.add_zero] at hm0
            rw [h2]
            have hx0 : (0 : Int) < (xs.length : Int) := by rcases xs with _ | ⟨x, xs⟩; exact absurd rfl hx; simp
            have hx1 : 0 < xs.length := by omega
            unfold maxLen at hcm2
            clear h1 h2 hx
            generalize lastKey xs = lk
            generalize firstKey xs = fk at hm0 ⊢
            refine wp_region_noPanic ?_
            refine wp_region_held_drew (S := fun w' => w'.cell? ⟨ga, 1, none⟩ = some (.string key) ∧ w'.cell? ⟨gm, om, none⟩ = some (.string fk)) (by kernel_rfl) ?_ (fun hHeld => ?_)
            · exact ⟨d1, hm0⟩
            refine wpAnyH_take (i := 0) (oi := { dst := some 122, op := Go.Op.move (Go.Operand.tmp 12), type := 9, pos := "law.go:77", after := #[], guard := none }) (v := ?_) rfl (by kernel_rfl) (by kernel_rfl) (by kernel_rfl) (fun _ _ _ h => h) (Or.inl ⟨by rfl, ?_⟩) (by assumption) ?_
            rotate_left
            · (intro w hSw; (try dsimp only at hSw); go_simp; (try with_reducible rfl))
            (try simp only [Act.put, List.setIfInBounds_toArray, List.set_cons_zero, List.set_cons_succ])
            refine wpAnyH_take (i := 1) (oi := { dst := some 123, op := Go.Op.move (Go.Operand.tmp 14), type := 9, pos := "law.go:77", after := #[], guard := none }) (v := ?_) rfl (by kernel_rfl) (by kernel_rfl) (by kernel_rfl) (fun _ _ _ h => h) (Or.inl ⟨by rfl, ?_⟩) (by assumption) ?_
            rotate_left
            · (intro w hSw; (try dsimp only at hSw); go_simp; (try with_reducible rfl))
            (try simp only [Act.put, List.setIfInBounds_toArray, List.set_cons_zero, List.set_cons_succ])
            refine wpAnyH_take (i := 2) (oi := { dst := some 124, op := Go.Op.binOp Go.BinOp.neq 9 (Go.Operand.tmp 122) (Go.Operand.tmp 123) 9, type := 4, pos := "law.go:77", after := #[{ on := 0, ground := Go.Ground.data }, { on := 1, ground := Go.Ground.data }], guard := none }) (v := ?_) rfl (by kernel_rfl) (by kernel_rfl) (by kernel_rfl) (fun _ _ _ h => h) (Or.inl ⟨by rfl, ?_⟩) (by assumption) ?_
            rotate_left
            · (intro w hSw; (try dsimp only at hSw); go_simp; (try with_reducible rfl))
            (try simp only [Act.put, List.setIfInBounds_toArray, List.set_cons_zero, List.set_cons_succ])
            refine wpAnyH_take (i := 3) (oi := { dst := some 125, op := Go.Op.move (Go.Operand.tmp 124), type := 4, pos := "law.go:77", after := #[{ on := 2, ground := Go.Ground.data }], guard := none }) (v := ?_) rfl (by kernel_rfl) (by kernel_rfl) (by kernel_rfl) (fun _ _ _ h => h) (Or.inl ⟨by rfl, ?_⟩) (by assumption) ?_
            rotate_left
            · (intro w hSw; (try dsimp only at hSw); go_simp; (try with_reducible rfl))
            (try simp only [Act.put, List.setIfInBounds_toArray, List.set_cons_zero, List.set_cons_succ])
            refine wpAnyH_take (i := 4) (oi := { dst := some 126, op := Go.Op.move (Go.Operand.tmp 13), type := 4, pos := "law.go:77", after := #[{ on := 3, ground := Go.Ground.guard }], guard := some (3, false) }) (v := ?_) rfl (by kernel_rfl) (by kernel_rfl) (by kernel_rfl) (fun _ _ _ h => h) (Or.inl ⟨by rfl, ?_⟩) (by assumption) ?_
            rotate_left
            · (intro w hSw; (try dsimp only at hSw); go_simp; (try with_reducible rfl))
            (try simp only [Act.put, List.setIfInBounds_toArray, List.set_cons_zero, List.set_cons_succ])
            refine wpAnyH_take (i := 5) (oi := { dst := some 127, op := Go.Op.move (Go.Operand.tmp 15), type := 4, pos := "law.go:77", after := #[{ on := 3, ground := Go.Ground.guard }], guard := some (3, false) }) (v := ?_) rfl (by kernel_rfl) (by kernel_rfl) (by kernel_rfl) (fun _ _ _ h => h) (Or.inl ⟨by rfl, ?_⟩) (by assumption) ?_
            rotate_left
            · (intro w hSw; (try dsimp only at hSw); go_simp; (try with_reducible rfl))
            (try simp only [Act.put, List.setIfInBounds_toArray, List.set_cons_zero, List.set_cons_succ])
            refine wpAnyH_take (i := 6) (oi := { dst := some 128, op := Go.Op.binOp Go.BinOp.neq 4 (Go.Operand.tmp 126) (Go.Operand.tmp 127) 4, type := 4, pos := "law.go:77", after := #[{ on := 4, ground := Go.Ground.data }, { on := 5, ground := Go.Ground.data }, { on := 3, ground := Go.Ground.guard }], guard := some (3, false) }) (v := ?_) rfl (by kernel_rfl) (by kernel_rfl) (by kernel_rfl) (fun _ _ _ h => h) (Or.inl ⟨by rfl, ?_⟩) (by assumption) ?_
            rotate_left
            · (intro w hSw; (try dsimp only at hSw); go_simp; (try with_reducible rfl))
            (try simp only [Act.put, List.setIfInBounds_toArray, List.set_cons_zero, List.set_cons_succ])
            refine wpAnyH_take (i := 7) (oi := { dst := some 129, op := Go.Op.pick (Go.Operand.tmp 125) (Go.Operand.const (Go.Value.bool true)) (Go.Operand.tmp 128), type := 4, pos := "law.go:77", after := #[{ on := 3, ground := Go.Ground.data }, { on := 6, ground := Go.Ground.data }], guard := none }) (v := ?_) rfl (by kernel_rfl) (by kernel_rfl) (by kernel_rfl) (fun _ _ _ h => h) (Or.inl ⟨by rfl, ?_⟩) (by assumption) ?_
            rotate_left
            · (intro w hSw; (try dsimp only at hSw); go_simp; (try with_reducible rfl))
            (try simp only [Act.put, List.setIfInBounds_toArray, List.set_cons_zero, List.set_cons_succ])
            refine wpAnyH_take (i := 8) (oi := { dst := some 130, op := Go.Op.move (Go.Operand.tmp 129), type := 4, pos := "law.go:77", after := #[{ on := 7, ground := Go.Ground.data }, { on := 3, ground := Go.Ground.chain }], guard := none }) (v := ?_) rfl (by kernel_rfl) (by kernel_rfl) (by kernel_rfl) (fun _ _ _ h => h) (Or.inl ⟨by rfl, ?_⟩) (by assumption) ?_
            rotate_left
            · (intro w hSw; (try dsimp only at hSw); go_simp; (try with_reducible rfl))
            (try simp only [Act.put, List.setIfInBounds_toArray, List.set_cons_zero, List.set_cons_succ])
            refine wpAnyH_take (i := 9) (oi := { dst := some 131, op := Go.Op.move (Go.Operand.tmp 17), type := 4, pos := "law.go:77", after := #[{ on := 8, ground := Go.Ground.guard }], guard := some (8, false) }) (v := ?_) rfl (by kernel_rfl) (by kernel_rfl) (by kernel_rfl) (fun _ _ _ h => h) (Or.inl ⟨by rfl, ?_⟩) (by assumption) ?_
            rotate_left
            · (intro w hSw; (try dsimp only at hSw); go_simp; (try with_reducible rfl))
            (try simp only [Act.put, List.setIfInBounds_toArray, List.set_cons_zero, List.set_cons_succ])
            refine wpAnyH_take (i := 10) (oi := { dst := some 132, op := Go.Op.move (Go.Operand.tmp 15), type := 4, pos := "law.go:77", after := #[{ on := 8, ground := Go.Ground.guard }], guard := some (8, false) }) (v := ?_) rfl (by kernel_rfl) (by kernel_rfl) (by kernel_rfl) (fun _ _ _ h => h) (Or.inl ⟨by rfl, ?_⟩) (by assumption) ?_
            rotate_left
            · (intro w hSw; (try dsimp only at hSw); go_simp; (try with_reducible rfl))
            (try simp only [Act.put, List.setIfInBounds_toArray, List.set_cons_zero, List.set_cons_succ])
            refine wpAnyH_take (i := 11) (oi := { dst := some 133, op := Go.Op.binOp Go.BinOp.neq 4 (Go.Operand.tmp 131) (Go.Operand.tmp 132) 4, type := 4, pos := "law.go:77", after := #[{ on := 9, ground := Go.Ground.data }, { on := 10, ground := Go.Ground.data }, { on := 8, ground := Go.Ground.guard }], guard := some (8, false) }) (v := ?_) rfl (by kernel_rfl) (by kernel_rfl) (by kernel_rfl) (fun _ _ _ h => h) (Or.inl ⟨by rfl, ?_⟩) (by assumption) ?_
            rotate_left
            · (intro w hSw; (try dsimp only at hSw); go_simp; (try with_reducible rfl))
            (try simp only [Act.put, List.setIfInBounds_toArray, List.set_cons_zero, List.set_cons_succ])
            refine wpAnyH_take (i := 12) (oi := { dst := some 134, op := Go.Op.pick (Go.Operand.tmp 130) (Go.Operand.const (Go.Value.bool true)) (Go.Operand.tmp 133), type := 4, pos := "law.go:77", after := #[{ on := 8, ground := Go.Ground.data }, { on := 11, ground := Go.Ground.data }], guard := none }) (v := ?_) rfl (by kernel_rfl) (by kernel_rfl) (by kernel_rfl) (fun _ _ _ h => h) (Or.inl ⟨by rfl, ?_⟩) (by assumption) ?_
            rotate_left
            · (intro w hSw; (try dsimp only at hSw); go_simp; (try with_reducible rfl))
            (try simp only [Act.put, List.setIfInBounds_toArray, List.set_cons_zero, List.set_cons_succ])
            refine wpAnyH_take (i := 13) (oi := { dst := some 135, op := Go.Op.move (Go.Operand.tmp 134), type := 4, pos := "law.go:77", after := #[{ on := 12, ground := Go.Ground.data }, { on := 8, ground := Go.Ground.chain }], guard := none }) (v := ?_) rfl (by kernel_rfl) (by kernel_rfl) (by kernel_rfl) (fun _ _ _ h => h) (Or.inl ⟨by rfl, ?_⟩) (by assumption) ?_
            rotate_left
            · (intro w hSw; (try dsimp only at hSw); go_simp; (try with_reducible rfl))
            (try simp only [Act.put, List.setIfInBounds_toArray, List.set_cons_zero, List.set_cons_succ])
            refine wpAnyH_take (i := 14) (oi := { dst := some 136, op := Go.Op.move (Go.Operand.tmp 17), type := 4, pos := "law.go:77", after := #[{ on := 13, ground := Go.Ground.guard }], guard := some (13, false) }) (v := ?_) rfl (by kernel_rfl) (by kernel_rfl) (by kernel_rfl) (fun _ _ _ h => h) (Or.inl ⟨by rfl, ?_⟩) (by assumption) ?_
            rotate_left
            · (intro w hSw; (try dsimp only at hSw); go_simp; (try with_reducible rfl))
            (try simp only [Act.put, List.setIfInBounds_toArray, List.set_cons_zero, List.set_cons_succ])
            refine wpAnyH_take (i := 15) (oi := { dst := some 137, op := Go.Op.move (Go.Operand.tmp 136), type := 4, pos := "law.go:77", after := #[{ on := 14, ground := Go.Ground.data }, { on := 13, ground := Go.Ground.chain }, { on := 13, ground := Go.Ground.guard }], guard := some (13, false) }) (v := ?_) rfl (by kernel_rfl) (by kernel_rfl) (by kernel_rfl) (fun _ _ _ h => h) (Or.inl ⟨by rfl, ?_⟩) (by assumption) ?_
            rotate_left
            · (intro w hSw; (try dsimp only at hSw); go_simp; (try with_reducible rfl))
            (try simp only [Act.put, List.setIfInBounds_toArray, List.set_cons_zero, List.set_cons_succ])
            refine wpAnyH_take (i := 16) (oi := { dst := some 138, op := Go.Op.move (Go.Operand.tmp 16), type := 9, pos := "law.go:77", after := #[{ on := 15, ground := Go.Ground.guard }], guard := some (15, true) }) (v := ?_) rfl (by kernel_rfl) (by kernel_rfl) (by kernel_rfl) (fun _ _ _ h => h) (Or.inl ⟨by rfl, ?_⟩) (by assumption) ?_
            rotate_left
            · (intro w hSw; (try dsimp only at hSw); go_simp; (try with_reducible rfl))
            (try simp only [Act.put, List.setIfInBounds_toArray, List.set_cons_zero, List.set_cons_succ])
            refine wpAnyH_take (i := 17) (oi := { dst := some 139, op := Go.Op.move (Go.Operand.tmp 4), type := 26, pos := "law.go:77", after := #[{ on := 15, ground := Go.Ground.guard }], guard := some (15, true) }) (v := ?_) rfl (by kernel_rfl) (by kernel_rfl) (by kernel_rfl) (fun _ _ _ h => h) (Or.inl ⟨by rfl, ?_⟩) (by assumption) ?_
            rotate_left
            · (intro w hSw; (try dsimp only at hSw); go_simp; (try with_reducible rfl))
            (try simp only [Act.put, List.setIfInBounds_toArray, List.set_cons_zero, List.set_cons_succ])
            refine wpAnyH_take (i := 18) (oi := { dst := some 140, op := Go.Op.indexAddr 26 (Go.Operand.tmp 139) (Go.Operand.const (Go.Value.int Go.IntKind.i64 0)), type := 0, pos := "law.go:77", after := #[{ on := 17, ground := Go.Ground.data }, { on := 15, ground := Go.Ground.guard }], guard := some (15, true) }) (v := ?_) rfl (by kernel_rfl) (by kernel_rfl) (by kernel_rfl) (fun _ _ _ h => h) (Or.inl ⟨by rfl, ?_⟩) (by assumption) ?_
            rotate_left
            · (intro w hSw; (try dsimp only at hSw); go_simp; (try with_reducible rfl))
            (try simp only [Act.put, List.setIfInBounds_toArray, List.set_cons_zero, List.set_cons_succ])
            refine wpAnyH_take (i := 19) (oi := { dst := some 141, op := Go.Op.load 9 (Go.Operand.tmp 140), type := 9, pos := "law.go:77", after := #[{ on := 18, ground := Go.Ground.data }, { on := 15, ground := Go.Ground.guard }], guard := some (15, true) }) (v := ?_) rfl (by kernel_rfl) (by kernel_rfl) (by kernel_rfl) (fun _ _ _ h => h) (Or.inl ⟨by rfl, ?_⟩) (by assumption) ?_
            rotate_left
            · (intro w hSw; (try dsimp only at hSw); go_simp; (try with_reducible rfl))
            (try simp only [Act.put, List.setIfInBounds_toArray, List.set_cons_zero, List.set_cons_succ])
            refine wpAnyH_take (i := 20) (oi := { dst := some 142, op := Go.Op.binOp Go.BinOp.neq 9 (Go.Operand.tmp 138) (Go.Operand.tmp 141) 9, type := 4, pos := "law.go:77", after := #[{ on := 16, ground := Go.Ground.data }, { on := 19, ground := Go.Ground.data }, { on := 15, ground := Go.Ground.guard }], guard := some (15, true) }) (v := ?_) rfl (by kernel_rfl) (by kernel_rfl) (by kernel_rfl) (fun _ _ _ h => h) (Or.inl ⟨by rfl, ?_⟩) (by assumption) ?_
            rotate_left
            · (intro w hSw; (try dsimp only at hSw); go_simp; (try with_reducible rfl))
            (try simp only [Act.put, List.setIfInBounds_toArray, List.set_cons_zero, List.set_cons_succ])
            refine wpAnyH_take (i := 21) (oi := { dst := some 143, op := Go.Op.pick (Go.Operand.tmp 137) (Go.Operand.tmp 142) (Go.Operand.const (Go.Value.bool false)), type := 4, pos := "law.go:77", after := #[{ on := 15, ground := Go.Ground.data }, { on := 20, ground := Go.Ground.data }, { on := 13, ground := Go.Ground.guard }], guard := some (13, false) }) (v := ?_) rfl (by kernel_rfl) (by kernel_rfl) (by kernel_rfl) (fun _ _ _ h => h) (Or.inl ⟨by rfl, ?_⟩) (by assumption) ?_
            rotate_left
            · (intro w hSw; (try dsimp only at hSw); go_simp; (try with_reducible rfl))
            (try simp only [Act.put, List.setIfInBounds_toArray, List.set_cons_zero, List.set_cons_succ])
            refine wpAnyH_take (i := 22) (oi := { dst := some 144, op := Go.Op.pick (Go.Operand.tmp 135) (Go.Operand.const (Go.Value.bool true)) (Go.Operand.tmp 143), type := 4, pos := "law.go:77", after := #[{ on := 13, ground := Go.Ground.data }, { on := 21, ground := Go.Ground.data }], guard := none }) (v := ?_) rfl (by kernel_rfl) (by kernel_rfl) (by kernel_rfl) (fun _ _ _ h => h) (Or.inl ⟨by rfl, ?_⟩) (by assumption) ?_
            rotate_left
            · (intro w hSw; (try dsimp only at hSw); go_simp; (try with_reducible rfl))
            (try simp only [Act.put, List.setIfInBounds_toArray, List.set_cons_zero, List.set_cons_succ])
            refine wpAnyH_take (i := 23) (oi := { dst := some 145, op := Go.Op.move (Go.Operand.tmp 144), type := 4, pos := "law.go:77", after := #[{ on := 22, ground := Go.Ground.data }, { on := 15, ground := Go.Ground.chain }], guard := none }) (v := ?_) rfl (by kernel_rfl) (by kernel_rfl) (by kernel_rfl) (fun _ _ _ h => h) (Or.inl ⟨by rfl, ?_⟩) (by assumption) ?_
            rotate_left
            · (intro w hSw; (try dsimp only at hSw); go_simp; (try with_reducible rfl))
            (try simp only [Act.put, List.setIfInBounds_toArray, List.set_cons_zero, List.set_cons_succ])
            refine wpAnyH_take (i := 24) (oi := { dst := some 146, op := Go.Op.move (Go.Operand.tmp 17), type := 4, pos := "law.go:77", after := #[{ on := 23, ground := Go.Ground.guard }], guard := some (23, false) }) (v := ?_) rfl (by kernel_rfl) (by kernel_rfl) (by kernel_rfl) (fun _ _ _ h => h) (Or.inl ⟨by rfl, ?_⟩) (by assumption) ?_
            rotate_left
            · (intro w hSw; (try dsimp only at hSw); go_simp; (try with_reducible rfl))
            (try simp only [Act.put, List.setIfInBounds_toArray, List.set_cons_zero, List.set_cons_succ])
            refine wpAnyH_take (i := 25) (oi := { dst := some 147, op := Go.Op.unOp Go.UnOp.not 4 (Go.Operand.tmp 146), type := 4, pos := "law.go:77", after := #[{ on := 24, ground := Go.Ground.data }, { on := 23, ground := Go.Ground.guard }], guard := some (23, false) }) (v := ?_) rfl (by kernel_rfl) (by kernel_rfl) (by kernel_rfl) (fun _ _ _ h => h) (Or.inl ⟨by rfl, ?_⟩) (by assumption) ?_
            rotate_left
            · (intro w hSw; (try dsimp only at hSw); go_simp; (try with_reducible rfl))
            (try simp only [Act.put, List.setIfInBounds_toArray, List.set_cons_zero, List.set_cons_succ])
            refine wpAnyH_take (i := 26) (oi := { dst := some 148, op := Go.Op.move (Go.Operand.tmp 147), type := 4, pos := "law.go:77", after := #[{ on := 25, ground := Go.Ground.data }, { on := 23, ground := Go.Ground.chain }, { on := 23, ground := Go.Ground.guard }], guard := some (23, false) }) (v := ?_) rfl (by kernel_rfl) (by kernel_rfl) (by kernel_rfl) (fun _ _ _ h => h) (Or.inl ⟨by rfl, ?_⟩) (by assumption) ?_
            rotate_left
            · (intro w hSw; (try dsimp only at hSw); go_simp; (try with_reducible rfl))
            (try simp only [Act.put, List.setIfInBounds_toArray, List.set_cons_zero, List.set_cons_succ])
            refine wpAnyH_take (i := 27) (oi := { dst := some 149, op := Go.Op.move (Go.Operand.tmp 16), type := 9, pos := "law.go:77", after := #[{ on := 26, ground := Go.Ground.guard }], guard := some (26, true) }) (v := undef) rfl (by kernel_rfl) (by kernel_rfl) (by kernel_rfl) (fun _ _ _ h => h) (Or.inr ⟨by rfl, rfl⟩) (by assumption) ?_
            (try simp only [Act.put, List.setIfInBounds_toArray, List.set_cons_zero, List.set_cons_succ])
            refine wpAnyH_take (i := 28) (oi := { dst := some 150, op := Go.Op.binOp Go.BinOp.neq 9 (Go.Operand.tmp 149) (Go.Operand.const (Go.Value.string { data := #[] })) 9, type := 4, pos := "law.go:77", after := #[{ on := 27, ground := Go.Ground.data }, { on := 26, ground := Go.Ground.guard }], guard := some (26, true) }) (v := undef) rfl (by kernel_rfl) (by kernel_rfl) (by kernel_rfl) (fun _ _ _ h => h) (Or.inr ⟨by rfl, rfl⟩) (by assumption) ?_
            (try simp only [Act.put, List.setIfInBounds_toArray, List.set_cons_zero, List.set_cons_succ])
            refine wpAnyH_take (i := 29) (oi := { dst := some 151, op := Go.Op.pick (Go.Operand.tmp 148) (Go.Operand.tmp 150) (Go.Operand.const (Go.Value.bool false)), type := 4, pos := "law.go:77", after := #[{ on := 26, ground := Go.Ground.data }, { on := 28, ground := Go.Ground.data }, { on := 23, ground := Go.Ground.guard }], guard := some (23, false) }) (v := ?_) rfl (by kernel_rfl) (by kernel_rfl) (by kernel_rfl) (fun _ _ _ h => h) (Or.inl ⟨by rfl, ?_⟩) (by assumption) ?_
            rotate_left
            · (intro w hSw; (try dsimp only at hSw); go_simp; (try with_reducible rfl))
            (try simp only [Act.put, List.setIfInBounds_toArray, List.set_cons_zero, List.set_cons_succ])
            refine wpAnyH_take (i := 30) (oi := { dst := some 152, op := Go.Op.pick (Go.Operand.tmp 145) (Go.Operand.const (Go.Value.bool true)) (Go.Operand.tmp 151), type := 4, pos := "law.go:77", after := #[{ on := 23, ground := Go.Ground.data }, { on := 29, ground := Go.Ground.data }], guard := none }) (v := ?_) rfl (by kernel_rfl) (by kernel_rfl) (by kernel_rfl) (fun _ _ _ h => h) (Or.inl ⟨by rfl, ?_⟩) (by assumption) ?_
            rotate_left
            · (intro w hSw; (try dsimp only at hSw); go_simp; (try with_reducible rfl))
            (try simp only [Act.put, List.setIfInBounds_toArray, List.set_cons_zero, List.set_cons_succ])
            refine wpAnyH_take (i := 31) (oi := { dst := some 153, op := Go.Op.move (Go.Operand.tmp 152), type := 4, pos := "law.go:77", after := #[{ on := 30, ground := Go.Ground.data }, { on := 26, ground := Go.Ground.chain }], guard := none }) (v := ?_) rfl (by kernel_rfl) (by kernel_rfl) (by kernel_rfl) (fun _ _ _ h => h) (Or.inl ⟨by rfl, ?_⟩) (by assumption) ?_
            rotate_left
            · (intro w hSw; (try dsimp only at hSw); go_simp; (try with_reducible rfl))
            (try simp only [Act.put, List.setIfInBounds_toArray, List.set_cons_zero, List.set_cons_succ])
            refine wpAnyH_take (i := 32) (oi := { dst := some 154, op := Go.Op.move (Go.Operand.tmp 3), type := 24, pos := "law.go:77", after := #[{ on := 31, ground := Go.Ground.guard }], guard := some (31, false) }) (v := ?_) rfl (by kernel_rfl) (by kernel_rfl) (by kernel_rfl) (fun _ _ _ h => h) (Or.inl ⟨by rfl, ?_⟩) (by assumption) ?_
            rotate_left
            · (intro w hSw; (try dsimp only at hSw); go_simp; (try with_reducible rfl))
            (try simp only [Act.put, List.setIfInBounds_toArray, List.set_cons_zero, List.set_cons_succ])
            refine wpAnyH_take (i := 34) (oi := { dst := some 156, op := Go.Op.move (Go.Operand.tmp 4), type := 26, pos := "law.go:77", after := #[{ on := 31, ground := Go.Ground.guard }], guard := some (31, false) }) (v := ?_) rfl (by kernel_rfl) (by kernel_rfl) (by kernel_rfl) (fun _ _ _ h => h) (Or.inl ⟨by rfl, ?_⟩) (by assumption) ?_
            rotate_left
            · (intro w hSw; (try dsimp only at hSw); go_simp; (try with_reducible rfl))
            (try simp only [Act.put, List.setIfInBounds_toArray, List.set_cons_zero, List.set_cons_succ])
            refine wpAnyH_take (i := 35) (oi := { dst := some 157, op := Go.Op.call { callee := Go.Callee.builtin Go.Builtin.len, args := #[Go.Operand.tmp 156], argTypes := #[26] }, type := 3, pos := "law.go:77", after := #[{ on := 34, ground := Go.Ground.data }, { on := 31, ground := Go.Ground.guard }], guard := some (31, false) }) (v := ?_) rfl (by kernel_rfl) (by kernel_rfl) (by kernel_rfl) (fun _ _ _ h => h) (Or.inl ⟨by rfl, ?_⟩) (by assumption) ?_
            rotate_left
            · (intro w hSw; (try dsimp only at hSw); go_simp; (try with_reducible rfl))
            (try simp only [Act.put, List.setIfInBounds_toArray, List.set_cons_zero, List.set_cons_succ])
            refine wpAnyH_ready (rs := [33]) (by kernel_rfl) (by simp) ?_
            refine AllReadyH.cons (o := { dst := some 155, op := Go.Op.call { callee := Go.Callee.value (Go.Operand.func 23), args := #[Go.Operand.tmp 154], argTypes := #[24] }, type := 3, pos := "law.go:77", after := #[{ on := 32, ground := Go.Ground.data }, { on := 31, ground := Go.Ground.chain }, { on := 31, ground := Go.Ground.guard }], guard := some (31, false) }) rfl (fun K hK => ?_) AllReadyH.nil
            go_simp
            refine (len_any _ l M P xs m' SD.out.lst).mono ?_
            rintro e wx ⟨rfl, rfl⟩
            go_wp2_with fail
            refine hK.out _ _ ?_ (fun hHeld => ?_)
            · exact hHeld
            clear hK K
            (try simp only [Act.put, List.setIfInBounds_toArray, List.set_cons_zero, List.set_cons_succ])
            refine wpAnyH_take (i := 36) (oi := { dst := some 158, op := Go.Op.binOp Go.BinOp.neq 3 (Go.Operand.tmp 155) (Go.Operand.tmp 157) 3, type := 4, pos := "law.go:77", after := #[{ on := 33, ground := Go.Ground.data }, { on := 35, ground := Go.Ground.data }, { on := 31, ground := Go.Ground.guard }], guard := some (31, false) }) (v := ?_) rfl (by kernel_rfl) (by kernel_rfl) (by kernel_rfl) (fun _ _ _ h => h) (Or.inl ⟨by rfl, ?_⟩) (by assumption) ?_
            rotate_left
            · (intro w hSw; (try dsimp only at hSw); go_simp; (try with_reducible rfl))
            (try simp only [Act.put, List.setIfInBounds_toArray, List.set_cons_zero, List.set_cons_succ])
            refine wpAnyH_take (i := 37) (oi := { dst := some 159, op := Go.Op.pick (Go.Operand.tmp 153) (Go.Operand.const (Go.Value.bool true)) (Go.Operand.tmp 158), type := 4, pos := "law.go:77", after := #[{ on := 31, ground := Go.Ground.data }, { on := 36, ground := Go.Ground.data }], guard := none }) (v := ?_) rfl (by kernel_rfl) (by kernel_rfl) (by kernel_rfl) (fun _ _ _ h => h) (Or.inl ⟨by rfl, ?_⟩) (by assumption) ?_
            rotate_left
            · (intro w hSw; (try dsimp only at hSw); go_simp; (try with_reducible rfl))
            (try simp only [Act.put, List.setIfInBounds_toArray, List.set_cons_zero, List.set_cons_succ])
            refine wpAnyH_take (i := 38) (oi := { dst := some 160, op := Go.Op.move (Go.Operand.tmp 159), type := 4, pos := "law.go:77", after := #[{ on := 37, ground := Go.Ground.data }, { on := 33, ground := Go.Ground.chain }], guard := none }) (v := ?_) rfl (by kernel_rfl) (by kernel_rfl) (by kernel_rfl) (fun _ _ _ h => h) (Or.inl ⟨by rfl, ?_⟩) (by assumption) ?_
            rotate_left
            · (intro w hSw; (try dsimp only at hSw); go_simp; (try with_reducible rfl))
            (try simp only [Act.put, List.setIfInBounds_toArray, List.set_cons_zero, List.set_cons_succ])
            refine wpAnyH_take (i := 39) (oi := { dst := some 161, op := Go.Op.move (Go.Operand.tmp 3), type := 24, pos := "law.go:77", after := #[{ on := 38, ground := Go.Ground.guard }], guard := some (38, false) }) (v := ?_) rfl (by kernel_rfl) (by kernel_rfl) (by kernel_rfl) (fun _ _ _ h => h) (Or.inl ⟨by rfl, ?_⟩) (by assumption) ?_
            rotate_left
            · (intro w hSw; (try dsimp only at hSw); go_simp; (try with_reducible rfl))
            (try simp only [Act.put, List.setIfInBounds_toArray, List.set_cons_zero, List.set_cons_succ])
            refine wpAnyH_take (i := 41) (oi := { dst := some 163, op := Go.Op.move (Go.Operand.tmp 5), type := 3, pos := "law.go:77", after := #[{ on := 38, ground := Go.Ground.guard }], guard := some (38, false) }) (v := ?_) rfl (by kernel_rfl) (by kernel_rfl) (by kernel_rfl) (fun _ _ _ h => h) (Or.inl ⟨by rfl, ?_⟩) (by assumption) ?_
            rotate_left
            · (intro w hSw; (try dsimp only at hSw); go_simp; (try with_reducible rfl))
            (try simp only [Act.put, List.setIfInBounds_toArray, List.set_cons_zero, List.set_cons_succ])
            refine wpAnyH_ready (rs := [40]) (by kernel_rfl) (by simp) ?_
            refine AllReadyH.cons (o := { dst := some 162, op := Go.Op.call { callee := Go.Callee.value (Go.Operand.func 24), args := #[Go.Operand.tmp 161], argTypes := #[24] }, type := 3, pos := "law.go:77", after := #[{ on := 39, ground := Go.Ground.data }, { on := 38, ground := Go.Ground.chain }, { on := 38, ground := Go.Ground.guard }], guard := some (38, false) }) rfl (fun K hK => ?_) AllReadyH.nil
            go_simp
            refine (places_any _ l M P xs m' SD.out.lst).mono ?_
            rintro e wx ⟨rfl, rfl⟩
            go_wp2_with fail
            refine hK.out _ _ ?_ (fun hHeld => ?_)
            · exact hHeld
            clear hK K
            (try simp only [Act.put, List.setIfInBounds_toArray, List.set_cons_zero, List.set_cons_succ])
            refine wpAnyH_take (i := 42) (oi := { dst := some 164, op := Go.Op.binOp Go.BinOp.neq 3 (Go.Operand.tmp 162) (Go.Operand.tmp 163) 3, type := 4, pos := "law.go:77", after := #[{ on := 40, ground := Go.Ground.data }, { on := 41, ground := Go.Ground.data }, { on := 38, ground := Go.Ground.guard }], guard := some (38, false) }) (v := ?_) rfl (by kernel_rfl) (by kernel_rfl) (by kernel_rfl) (fun _ _ _ h => h) (Or.inl ⟨by rfl, ?_⟩) (by assumption) ?_
            rotate_left
            · (intro w hSw; (try dsimp only at hSw); go_simp; (try with_reducible rfl))
            (try simp only [Act.put, List.setIfInBounds_toArray, List.set_cons_zero, List.set_cons_succ])
            refine wpAnyH_take (i := 43) (oi := { dst := some 165, op := Go.Op.pick (Go.Operand.tmp 160) (Go.Operand.const (Go.Value.bool true)) (Go.Operand.tmp 164), type := 4, pos := "law.go:77", after := #[{ on := 38, ground := Go.Ground.data }, { on := 42, ground := Go.Ground.data }], guard := none }) (v := ?_) rfl (by kernel_rfl) (by kernel_rfl) (by kernel_rfl) (fun _ _ _ h => h) (Or.inl ⟨by rfl, ?_⟩) (by assumption) ?_
            rotate_left
            · (intro w hSw; (try dsimp only at hSw); go_simp; (try with_reducible rfl))
            (try simp only [Act.put, List.setIfInBounds_toArray, List.set_cons_zero, List.set_cons_succ])
            refine wpAnyH_take (i := 44) (oi := { dst := some 166, op := Go.Op.move (Go.Operand.tmp 165), type := 4, pos := "law.go:77", after := #[{ on := 43, ground := Go.Ground.data }, { on := 40, ground := Go.Ground.chain }], guard := none }) (v := ?_) rfl (by kernel_rfl) (by kernel_rfl) (by kernel_rfl) (fun _ _ _ h => h) (Or.inl ⟨by rfl, ?_⟩) (by assumption) ?_
            rotate_left
            · (intro w hSw; (try dsimp only at hSw); go_simp; (try with_reducible rfl))
            (try simp only [Act.put, List.setIfInBounds_toArray, List.set_cons_zero, List.set_cons_succ])
            refine wpAnyH_take (i := 45) (oi := { dst := some 167, op := Go.Op.move (Go.Operand.tmp 3), type := 24, pos := "law.go:77", after := #[{ on := 44, ground := Go.Ground.guard }], guard := some (44, false) }) (v := ?_) rfl (by kernel_rfl) (by kernel_rfl) (by kernel_rfl) (fun _ _ _ h => h) (Or.inl ⟨by rfl, ?_⟩) (by assumption) ?_
            rotate_left
            · (intro w hSw; (try dsimp only at hSw); go_simp; (try with_reducible rfl))
            (try simp only [Act.put, List.setIfInBounds_toArray, List.set_cons_zero, List.set_cons_succ])
            refine wpAnyH_take (i := 46) (oi := { dst := some 168, op := Go.Op.fieldAddr 28 (Go.Operand.tmp 7) 1, type := 0, pos := "law.go:77", after := #[{ on := 44, ground := Go.Ground.guard }], guard := some (44, false) }) (v := ?_) rfl (by kernel_rfl) (by kernel_rfl) (by kernel_rfl) (fun _ _ _ h => h) (Or.inl ⟨by rfl, ?_⟩) (by assumption) ?_
            rotate_left
            · (intro w hSw; (try dsimp only at hSw); go_simp; (try with_reducible rfl))
            (try simp only [Act.put, List.setIfInBounds_toArray, List.set_cons_zero, List.set_cons_succ])
            refine wpAnyH_take (i := 47) (oi := { dst := some 169, op := Go.Op.load 9 (Go.Operand.tmp 168), type := 9, pos := "law.go:77", after := #[{ on := 46, ground := Go.Ground.data }, { on := 44, ground := Go.Ground.guard }], guard := some (44, false) }) (v := ?_) rfl (by kernel_rfl) (by kernel_rfl) (by kernel_rfl) (fun _ _ _ h => h) (Or.inl ⟨by rfl, ?_⟩) (by assumption) ?_
            rotate_left
            · (intro w hSw; (try dsimp only at hSw); go_simp; (try with_reducible rfl))
            (try simp only [Act.put, List.setIfInBounds_toArray, List.set_cons_zero, List.set_cons_succ])
            refine wpAnyH_take (i := 49) (oi := { dst := some 171, op := Go.Op.move (Go.Operand.tmp 4), type := 26, pos := "law.go:77", after := #[{ on := 44, ground := Go.Ground.guard }], guard := some (44, false) }) (v := ?_) rfl (by kernel_rfl) (by kernel_rfl) (by kernel_rfl) (fun _ _ _ h => h) (Or.inl ⟨by rfl, ?_⟩) (by assumption) ?_
            rotate_left
            · (intro w hSw; (try dsimp only at hSw); go_simp; (try with_reducible rfl))
            (try simp only [Act.put, List.setIfInBounds_toArray, List.set_cons_zero, List.set_cons_succ])
            refine wpAnyH_take (i := 50) (oi := { dst := some 172, op := Go.Op.fieldAddr 28 (Go.Operand.tmp 7) 1, type := 0, pos := "law.go:77", after := #[{ on := 44, ground := Go.Ground.guard }], guard := some (44, false) }) (v := ?_) rfl (by kernel_rfl) (by kernel_rfl) (by kernel_rfl) (fun _ _ _ h => h) (Or.inl ⟨by rfl, ?_⟩) (by assumption) ?_
            rotate_left
            · (intro w hSw; (try dsimp only at hSw); go_simp; (try with_reducible rfl))
            (try simp only [Act.put, List.setIfInBounds_toArray, List.set_cons_zero, List.set_cons_succ])
            refine wpAnyH_take (i := 51) (oi := { dst := some 173, op := Go.Op.load 9 (Go.Operand.tmp 172), type := 9, pos := "law.go:77", after := #[{ on := 50, ground := Go.Ground.data }, { on := 44, ground := Go.Ground.guard }], guard := some (44, false) }) (v := ?_) rfl (by kernel_rfl) (by kernel_rfl) (by kernel_rfl) (fun _ _ _ h => h) (Or.inl ⟨by rfl, ?_⟩) (by assumption) ?_
            rotate_left
            · (intro w hSw; (try dsimp only at hSw); go_simp; (try with_reducible rfl))
            (try simp only [Act.put, List.setIfInBounds_toArray, List.set_cons_zero, List.set_cons_succ])
            refine wpAnyH_ready (rs := [48]) (by kernel_rfl) (by simp) ?_
            refine AllReadyH.cons (o := { dst := some 170, op := Go.Op.call { callee := Go.Callee.value (Go.Operand.func 25), args := #[Go.Operand.tmp 167, Go.Operand.tmp 169], argTypes := #[24, 9] }, type := 4, pos := "law.go:77", after := #[{ on := 45, ground := Go.Ground.data }, { on := 47, ground := Go.Ground.data }, { on := 44, ground := Go.Ground.chain }, { on := 44, ground := Go.Ground.guard }], guard := some (44, false) }) rfl (fun K hK => ?_) AllReadyH.nil
            go_simp
            refine (has_any _ l M P xs m' key SD.out.lst hsk).mono ?_
            rintro e wx ⟨rfl, rfl⟩
            go_wp2_with fail
            refine hK.out _ _ ?_ (fun hHeld => ?_)
            · exact hHeld
            clear hK K
            (try simp only [Act.put, List.setIfInBounds_toArray, List.set_cons_zero, List.set_cons_succ])
            refine wpAnyH_ready (rs := [52]) (by kernel_rfl) (by simp) ?_
            refine AllReadyH.cons (o := { dst := some 174, op := Go.Op.call { callee := Go.Callee.value (Go.Operand.func 15), args := #[Go.Operand.tmp 171, Go.Operand.tmp 173], argTypes := #[26, 9] }, type := 4, pos := "law.go:77", after := #[{ on := 49, ground := Go.Ground.data }, { on := 51, ground := Go.Ground.data }, { on := 48, ground := Go.Ground.chain }, { on := 44, ground := Go.Ground.guard }], guard := some (44, false) }) rfl (fun K hK => ?_) AllReadyH.nil
            go_simp
            refine (refHas_any _ gm _ xs key RD.out).mono ?_
            rintro e wx ⟨rfl, rfl⟩
            go_wp2_with fail
            refine hK.out _ _ ?_ (fun hHeld => ?_)
            · exact hHeld
            clear hK K
            (try simp only [Act.put, List.setIfInBounds_toArray, List.set_cons_zero, List.set_cons_succ])
            refine wpAnyH_take (i := 53) (oi := { dst := some 175, op := Go.Op.binOp Go.BinOp.neq 4 (Go.Operand.tmp 170) (Go.Operand.tmp 174) 4, type := 4, pos := "law.go:77", after := #[{ on := 48, ground := Go.Ground.data }, { on := 52, ground := Go.Ground.data }, { on := 44, ground := Go.Ground.guard }], guard := some (44, false) }) (v := ?_) rfl (by kernel_rfl) (by kernel_rfl) (by kernel_rfl) (fun _ _ _ h => h) (Or.inl ⟨by rfl, ?_⟩) (by assumption) ?_
            rotate_left
            · (intro w hSw; (try dsimp only at hSw); go_simp; (try with_reducible rfl))
            (try simp only [Act.put, List.setIfInBounds_toArray, List.set_cons_zero, List.set_cons_succ])
            refine wpAnyH_take (i := 54) (oi := { dst := some 176, op := Go.Op.pick (Go.Operand.tmp 166) (Go.Operand.const (Go.Value.bool true)) (Go.Operand.tmp 175), type := 4, pos := "law.go:77", after := #[{ on := 44, ground := Go.Ground.data }, { on := 53, ground := Go.Ground.data }], guard := none }) (v := ?_) rfl (by kernel_rfl) (by kernel_rfl) (by kernel_rfl) (fun _ _ _ h => h) (Or.inl ⟨by rfl, ?_⟩) (by assumption) ?_
            rotate_left
            · (intro w hSw; (try dsimp only at hSw); go_simp; (try with_reducible rfl))
            (try simp only [Act.put, List.setIfInBounds_toArray, List.set_cons_zero, List.set_cons_succ])
            refine wpAnyH_take (i := 55) (oi := { dst := some 177, op := Go.Op.move (Go.Operand.tmp 176), type := 4, pos := "law.go:77", after := #[{ on := 54, ground := Go.Ground.data }, { on := 52, ground := Go.Ground.chain }], guard := none }) (v := ?_) rfl (by kernel_rfl) (by kernel_rfl) (by kernel_rfl) (fun _ _ _ h => h) (Or.inl ⟨by rfl, ?_⟩) (by assumption) ?_
            rotate_left
            · (intro w hSw; (try dsimp only at hSw); go_simp; (try with_reducible rfl))
            (try simp only [Act.put, List.setIfInBounds_toArray, List.set_cons_zero, List.set_cons_succ])
            refine wpAnyH_take (i := 56) (oi := { dst := some 178, op := Go.Op.move (Go.Operand.tmp 3), type := 24, pos := "law.go:77", after := #[{ on := 55, ground := Go.Ground.guard }], guard := some (55, false) }) (v := ?_) rfl (by kernel_rfl) (by kernel_rfl) (by kernel_rfl) (fun _ _ _ h => h) (Or.inl ⟨by rfl, ?_⟩) (by assumption) ?_
            rotate_left
            · (intro w hSw; (try dsimp only at hSw); go_simp; (try with_reducible rfl))
            (try simp only [Act.put, List.setIfInBounds_toArray, List.set_cons_zero, List.set_cons_succ])
            refine wpAnyH_take (i := 58) (oi := { dst := some 180, op := Go.Op.move (Go.Operand.tmp 4), type := 26, pos := "law.go:77", after := #[{ on := 55, ground := Go.Ground.guard }], guard := some (55, false) }) (v := ?_) rfl (by kernel_rfl) (by kernel_rfl) (by kernel_rfl) (fun _ _ _ h => h) (Or.inl ⟨by rfl, ?_⟩) (by assumption) ?_
            rotate_left
            · (intro w hSw; (try dsimp only at hSw); go_simp; (try with_reducible rfl))
            (try simp only [Act.put, List.setIfInBounds_toArray, List.set_cons_zero, List.set_cons_succ])
            refine wpAnyH_ready (rs := [57]) (by kernel_rfl) (by simp) ?_
            refine AllReadyH.cons (o := { dst := some 179, op := Go.Op.call { callee := Go.Callee.value (Go.Operand.func 27), args := #[Go.Operand.tmp 178], argTypes := #[24] }, type := 26, pos := "law.go:77", after := #[{ on := 56, ground := Go.Ground.data }, { on := 55, ground := Go.Ground.chain }, { on := 55, ground := Go.Ground.guard }], guard := some (55, false) }) rfl (fun K hK => ?_) AllReadyH.nil
            go_simp
            refine (keys_any _ l M P xs m' SD.out.lst).mono ?_
            rintro e w4 ⟨v4, rfl, hO, hB⟩
            have S4 := Lib.hid (SD.out.below hB)
            have R4 := Lib.hid (RD.out.below hB)
            have O4 := Lib.hid hO
            have d4 := S4.out.cell
            have c4 : w4.cell? ⟨gm, om, none⟩ = some (.string fk) := (hB.cell (p := ⟨gm, om, none⟩) hgl).trans hm0
            clear hO hB
            go_wp2_with fail
            refine hK.out _ _ ?_ (fun hHeld => ?_)
            · exact ⟨d4, c4⟩
            clear hK K
            (try simp only [Act.put, List.setIfInBounds_toArray, List.set_cons_zero, List.set_cons_succ])
            have U4 := Lib.hid (show Calls Try.prog 26 #[v4, .slice (some ⟨gm, om, none⟩) xs.length cm] w4 (SamePost true w4) from by
              obtain ⟨g4, _, hg4⟩ := O4.out.row
              exact refSame_self w4 g4 gm _ _ xs hg4 R4.out)
            refine wpAnyH_ready (rs := [59]) (by kernel_rfl) (by simp) ?_
            refine AllReadyH.cons (o := { dst := some 181, op := Go.Op.call { callee := Go.Callee.value (Go.Operand.func 26), args := #[Go.Operand.tmp 179, Go.Operand.tmp 180], argTypes := #[26, 26] }, type := 4, pos := "law.go:77", after := #[{ on := 57, ground := Go.Ground.data }, { on := 58, ground := Go.Ground.data }, { on := 57, ground := Go.Ground.chain }, { on := 55, ground := Go.Ground.guard }], guard := some (55, false) }) rfl (fun K hK => ?_) AllReadyH.nil
            go_simp
            refine U4.out.mono ?_
            rintro e w5 ⟨rfl, q, rfl⟩
            go_wp2_with fail
            refine hK.out _ _ ?_ (fun hHeld => ?_)
            · exact ⟨d4, c4⟩
            clear hK K
            (try simp only [Act.put, List.setIfInBounds_toArray, List.set_cons_zero, List.set_cons_succ])
            refine wpAnyH_take (i := 60) (oi := { dst := some 182, op := Go.Op.unOp Go.UnOp.not 4 (Go.Operand.tmp 181), type := 4, pos := "law.go:77", after := #[{ on := 59, ground := Go.Ground.data }, { on := 55, ground := Go.Ground.guard }], guard := some (55, false) }) (v := ?_) rfl (by kernel_rfl) (by kernel_rfl) (by kernel_rfl) (fun _ _ _ h => h) (Or.inl ⟨by rfl, ?_⟩) (by assumption) ?_
            rotate_left
            · (intro w hSw; (try dsimp only at hSw); go_simp; (try with_reducible rfl))
            (try simp only [Act.put, List.setIfInBounds_toArray, List.set_cons_zero, List.set_cons_succ])
            refine wpAnyH_take (i := 61) (oi := { dst := some 183, op := Go.Op.pick (Go.Operand.tmp 177) (Go.Operand.const (Go.Value.bool true)) (Go.Operand.tmp 182), type := 4, pos := "law.go:77", after := #[{ on := 55, ground := Go.Ground.data }, { on := 60, ground := Go.Ground.data }], guard := none }) (v := ?_) rfl (by kernel_rfl) (by kernel_rfl) (by kernel_rfl) (fun _ _ _ h => h) (Or.inl ⟨by rfl, ?_⟩) (by assumption) ?_
            rotate_left
            · (intro w hSw; (try dsimp only at hSw); go_simp; (try with_reducible rfl))
            (try simp only [Act.put, List.setIfInBounds_toArray, List.set_cons_zero, List.set_cons_succ])
            refine wpAnyH_done (by kernel_rfl) ?_ _
            refine NoPanic.normal ?_
            clear hHeld SD RD R4 O4 U4 d4 c4
            go_wp2_with fail
            go_roundg (n - (k + 1))
            case measure => have := HGK.out; omega
            case rel =>
              have h := S4.out.below (below_drewN _ q)
              exact ⟨k + 1, P, m', xs, rfl, by go_num, by omega, rfl, HL.out.1, HL.out.2, ⟨h.lst, h.kept, h.mine⟩⟩
      · have e1 : decide (1000 < ((S k).size : Int)) = true := by simp; omega
        have hsk' := hsk
        unfold maxLen at hsk'
        go_wp2_with fail
        go_ret
        exact ⟨rfl, (HPy.out.kept.bel).alloc HPy.out.kept.bel.size _⟩
    · have e0 : decide (k < n) = false := by simpa using hlt
      go_wp2_with fail
      go_ret
      exact ⟨rfl, HPy.out.kept.bel⟩

set_option maxRecDepth 100000 in
theorem walk_listPlays (v0 : Value) (w : World) (w0 : CameA w v0) : Calls Try.prog 3 #[v0] w (RetB true w) := by
  obtain ⟨A, n, c, rfl, hn, K, S, hr, hc⟩ := w0
  by_cases hbig : n ≤ 300
  · exact plays_main A n c w K S hbig (fun i hi => (hr i hi).2) hc
  · have e0 : decide (300 < (n : Int)) = true := by simp; omega
    unfold maxLen at hn
    clear hr hc
    go_enter Try.func3, Try.ntmps3
    go_wp2_with fail
    refine (awake_any _).mono ?_
    rintro e w0 ⟨rfl, hb0⟩
    go_wp2_with fail
    go_ret
    exact ⟨rfl, hb0⟩

namespace LListPlays
set_option maxRecDepth 100000 in
theorem lifted (os : Os) (started : os.Started) (H : Type) (enc : TypeId × Value → H) :
    ReturnsInHanded {} Try.checked os 3 .any (Rows.listPlaysSpec.pre6 enc Try.prog Try.f3 Rows.listPlaysRow.domain false) (Rows.listPlaysSpec.post enc Try.prog Try.f3 false true false false) := by
  refine returnsInHanded_of_change (C := Try.checked) own started (by kernel_rfl) Try.func3
    (ChangeSpec.witness6 (enc := enc) (C := Try.checked) false ⟨#[], #[.slice none 0 0], []⟩ 8 (by kernel_rfl) (by kernel_rfl) (by kernel_rfl) (by kernel_rfl)) ?_
  intro W base args ds gs before hval0 hW _ _
  have hval : ∀ (j : Nat) t v, Try.f3.params[j]? = some t → args[j]? = some v → Value.okWide Try.prog W .any base t v := hval0
  have hW' := hW
  obtain ⟨p, q, hA0, hV, rfl, hfz, hnd⟩ := hW
  have hA : DataW.TrodAll enc Try.prog W 0 (fun _ => true) true Try.f3.params.toList args.toList ds p := hA0
  rw [Try.params3] at hA hval
  obtain ⟨v0, vs0, d0, ds0, p0, q0, hargs, rfl, rfl, h0, r0⟩ := trodAll_cons hA
  obtain ⟨rfl, rfl, rfl⟩ := trodAll_nil r0
  obtain rfl : args = #[v0] := by cases args; simp_all
  obtain ⟨rfl, rfl⟩ := trodVars_none hV
  have k0 := h0
  have lt0 : ∀ x ∈ p0, x.block < W.heap.size := by obtain ⟨m, hm⟩ := k0; exact DataW.trod_lt m _ _ _ hm
  have w0 := open_a (hval 0 22 v0 rfl rfl) h0
  clear hA0 hval0
  refine (walk_listPlays v0 W w0).mono fun e W' ⟨he, bel⟩ => ?_
  subst he
  exact ⟨_, rfl, _, _, _, [], _, [], hW', trodAll_mk1 (shut_bool Try.underlying4 _), (trodAll_cons_mk (Below.trod laidOut (by kernel_rfl) (of_decide_eq_true (by kernel_rfl)) k0 bel lt0) trodAll_mk0), rfl, bel.frame _, fun h => by cases h⟩

theorem said : Rows.ListPlaysSaid :=
  OpenClaim.holds_of_wide 3 Try.f3 rfl rfl rfl rfl rfl rfl rfl ⟨rfl, rfl, rfl, rfl, rfl⟩ rfl rfl rfl rfl rfl (by kernel_rfl) Try.func3 (by kernel_rfl)
    (of_decide_eq_true (by kernel_rfl)) (by unfold Func.isWrapper; rw [if_neg (of_decide_eq_false (by kernel_rfl))]; exact ⟨rfl, rfl⟩)
    (fun os started H enc _ => lifted os started H enc)
#print axioms said
end LListPlays
end Go.Proofs.Ytlncfelglmhbdaa
