/- The contracts of the reference's Adopt and Resize of layer 5. -/
import Derived.Test.YthbokiebnniifaaRq
namespace Go.Proofs.Ythbokiebnniifaa
open Go.RowKit Sg

/-- The variables of a call under way: the cache, and the result. -/
structure Rw (w W : World) (p0 p1 mo : Nat) (v : Value) : Prop where
  c : CBox W p0 mo v
  r1 : CBox W p1 0 (.slice none 0 0)
  bel : Below w.heap.size w W
  ne : p0 ≠ p1 ∧ p1 ≠ p0
  low : w.heap.size ≤ p0 ∧ w.heap.size ≤ p1
abbrev rw0 (w : World) (mo : Nat) (v : Value) : World := (w.alloc (.cells #[.int .i64 (mo : Int), v] 29)).alloc (.cells #[.int .i64 0, .slice none 0 0] 29)
theorem rw_start (w : World) (mo : Nat) (v : Value) : Rw w (rw0 w mo v) w.heap.size (w.heap.size + 1) mo v := by
  have a1 : (w.alloc (.cells #[.int .i64 (mo : Int), v] 29)).heap.size = w.heap.size + 1 := by simp
  have b1 := heap_alloc_new w (.cells #[.int .i64 (mo : Int), v] 29)
  have b2 := heap_alloc_new (w.alloc (.cells #[.int .i64 (mo : Int), v] 29)) (.cells #[.int .i64 0, .slice none 0 0] 29)
  rw [a1] at b2
  refine ⟨?_, b2, ?_, by omega, by omega⟩
  · exact (Below.heap_alloc _ _ _ (by omega)).trans b1
  · exact ((Below.refl _ _).alloc (Nat.le_refl _) _).alloc (by omega) _
section
variable {w W W' : World} {p0 p1 mo : Nat} {v : Value}
theorem Rw.setL (r : Rw w W p0 p1 mo v) (u : Value) : Rw w (W.setCell ⟨p0, 1, none⟩ u) p0 p1 mo u := ⟨r.c.setL u, r.r1.other r.ne.2 _, r.bel.setCell (p := ⟨p0, 1, none⟩) r.low.1 _, r.ne, r.low⟩
theorem Rw.setM (r : Rw w W p0 p1 mo v) (m : Nat) : Rw w (W.setCell ⟨p0, 0, none⟩ (.int .i64 (m : Int))) p0 p1 m v := ⟨r.c.setM m, r.r1.other r.ne.2 _, r.bel.setCell (p := ⟨p0, 0, none⟩) r.low.1 _, r.ne, r.low⟩
theorem Rw.below (r : Rw w W p0 p1 mo v) (hb : Below W.heap.size W W') : Rw w W' p0 p1 mo v := ⟨r.c.below hb, r.r1.below hb, r.bel.trans (hb.mono r.bel.size), r.ne, r.low⟩
theorem Rw.out (r : Rw w W p0 p1 mo v) (W' : World) (hW : W' = (W.setCell ⟨p1, 0, none⟩ (.int .i64 (mo : Int))).setCell ⟨p1, 1, none⟩ v) : CBox W' p1 mo v ∧ Below w.heap.size w W' := by
  subst hW
  exact ⟨r.r1.put mo v, (r.bel.setCell (p := ⟨p1, 0, none⟩) r.low.2 _).setCell (p := ⟨p1, 1, none⟩) r.low.2 _⟩
end

theorem ra_no (w : World) (g : Nat) (A : Option Addr) (n c mo : Nat) (xs : List ByteArray) (key : ByteArray) (t : Bool) (h : Row w g (.slice A n c) xs) (hmo : mo ≤ 9223372036854775807) (hn : xs.length = n) (hl : xs.length ≤ 1900) (hi : inn xs key = t) (hf : t = true ∨ mo ≤ n) :
    Calls Try.prog 18 #[.agg #[.int .i64 (mo : Int), .slice A n c], .string key] w (RqPost w g mo (.bool false) xs) := by
  have V0 := rw_start w mo (.slice A n c)
  have U := refHas_any _ g _ xs key (h.below V0.bel)
  rw [hi] at U
  have U := Lib.hid U
  have HH := Lib.hid h
  have e1 : t = false → decide (mo ≤ n) = true := fun e => by rcases hf with h | h; rw [e] at h; cases h; simpa using h
  clear h hi hf
  cases t with
  | true =>
    clear e1
    go_enter Try.func18, Try.ntmps18
    go_wp2_with fail
    refine U.out.mono ?_
    rintro e W ⟨rfl, hW⟩
    rw [hW] at V0
    clear hW U
    generalize w.heap.size + 1 = p1 at V0 ⊢
    obtain ⟨p0, hp0⟩ : ∃ p, p = w.heap.size := ⟨_, rfl⟩
    rw [← hp0] at V0 ⊢
    clear hp0
    obtain ⟨c0, c1, c2, c3⟩ := V0.c.four
    obtain ⟨r0, r1, r2, r3⟩ := V0.r1.four
    obtain ⟨n1, n2⟩ := V0.ne
    have R := Lib.hid V0
    clear V0
    go_wp2_with fail
    have F := R.out.out _ rfl
    refine bodyPost_ret (results_ct rfl _ _ _ ⟨p1, 0, none⟩ _ rfl (load_c F.1)) rfl ?_
    exact ⟨_, _, _, g, rfl, HH.out.below F.2, Or.inl rfl, F.2⟩
  | false =>
    have e2 := e1 rfl
    clear e1
    go_enter Try.func18, Try.ntmps18
    go_wp2_with fail
    refine U.out.mono ?_
    rintro e W ⟨rfl, hW⟩
    rw [hW] at V0
    clear hW U
    generalize w.heap.size + 1 = p1 at V0 ⊢
    obtain ⟨p0, hp0⟩ : ∃ p, p = w.heap.size := ⟨_, rfl⟩
    rw [← hp0] at V0 ⊢
    clear hp0
    obtain ⟨c0, c1, c2, c3⟩ := V0.c.four
    obtain ⟨r0, r1, r2, r3⟩ := V0.r1.four
    obtain ⟨n1, n2⟩ := V0.ne
    have R := Lib.hid V0
    clear V0
    go_wp2_with fail
    have F := R.out.out _ rfl
    refine bodyPost_ret (results_ct rfl _ _ _ ⟨p1, 0, none⟩ _ rfl (load_c F.1)) rfl ?_
    exact ⟨_, _, _, g, rfl, HH.out.below F.2, Or.inl rfl, F.2⟩

theorem ra_yes (w : World) (g : Nat) (A : Option Addr) (n c mo : Nat) (xs : List ByteArray) (key : ByteArray) (h : Row w g (.slice A n c) xs) (hmo : mo ≤ 9223372036854775807) (hn : xs.length = n) (hl : xs.length ≤ 1900) (hi : inn xs key = false) (hf : n < mo) (hs : key.size ≤ maxLen) :
    Calls Try.prog 18 #[.agg #[.int .i64 (mo : Int), .slice A n c], .string key] w (RqPost w g mo (.bool true) (rem xs key ++ [key])) := by
  have V0 := rw_start w mo (.slice A n c)
  have U := refHas_any _ g _ xs key (h.below V0.bel)
  rw [hi] at U
  have U := Lib.hid U
  have HH := Lib.hid h
  have e1 : decide (mo ≤ n) = false := by simpa using hf
  clear h hi hf
  go_enter Try.func18, Try.ntmps18
  go_wp2_with fail
  refine U.out.mono ?_
  rintro e W ⟨rfl, hW⟩
  rw [hW] at V0
  clear hW U
  generalize w.heap.size + 1 = p1 at V0 ⊢
  obtain ⟨p0, hp0⟩ : ∃ p, p = w.heap.size := ⟨_, rfl⟩
  rw [← hp0] at V0 ⊢
  clear hp0
  obtain ⟨c0, c1, c2, c3⟩ := V0.c.four
  have U2 := Lib.hid (refBack_any W g _ xs key (HH.out.below V0.bel) (by omega) hs)
  have R1 := Lib.hid V0
  clear V0
  go_wp2_with fail
  refine U2.out.mono ?_
  rintro e W2 ⟨v4, rfl, hO, hB⟩
  obtain ⟨A4, c4, rfl⟩ := hO.len
  have V0 := R1.out.below hB
  clear c0 c1 c2 c3
  obtain ⟨c0, c1, c2, c3⟩ := V0.c.four
  obtain ⟨r0, r1, r2, r3⟩ := V0.r1.four
  obtain ⟨n1, n2⟩ := V0.ne
  have R := Lib.hid (V0.setL (.slice A4 (rem xs key ++ [key]).length c4))
  obtain ⟨g4, hg4, hr4⟩ := hO.row
  have HR4 := Lib.hid hr4
  have HG4 := Lib.hid (show w.heap.size ≤ g4 from Nat.le_trans R1.out.bel.size hg4)
  have HN4 := Lib.hid (show g4 ≠ p0 ∧ g4 ≠ p1 from ⟨by have := R1.out.c.lt; omega, by have := R1.out.r1.lt; omega⟩)
  clear V0 hO hB hr4 hg4 U2 R1
  generalize (rem xs key ++ [key]).length = l4 at *
  go_wp2_with fail
  have F := R.out.out _ rfl
  refine bodyPost_ret (results_ct rfl _ _ _ ⟨p1, 0, none⟩ _ rfl (load_c F.1)) rfl ?_
  exact ⟨_, _, _, g4, rfl, ((HR4.out.set (q := ⟨p0, 1, none⟩) HN4.out.1 _).set (q := ⟨p1, 0, none⟩) HN4.out.2 _).set (q := ⟨p1, 1, none⟩) HN4.out.2 _, Or.inr HG4.out, F.2⟩

theorem ra_any (w : World) (g : Nat) (A : Option Addr) (n c mo : Nat) (xs : List ByteArray) (key : ByteArray) (h : Row w g (.slice A n c) xs) (hmo : mo ≤ 9223372036854775807) (hn : xs.length = n) (hl : xs.length ≤ 1900) (hs : key.size ≤ maxLen) :
    Calls Try.prog 18 #[.agg #[.int .i64 (mo : Int), .slice A n c], .string key] w (RqPost w g mo (.bool (adB mo xs key)) (adK mo xs key)) := by
  cases hi : inn xs key with
  | true =>
    have e1 : adB mo xs key = false := by simp [adB, hi]
    have e2 : adK mo xs key = xs := by unfold adK; rw [e1]; rfl
    rw [e1, e2]
    exact ra_no w g A n c mo xs key true h hmo hn hl hi (Or.inl rfl)
  | false =>
    by_cases hf : xs.length < mo
    · have e1 : adB mo xs key = true := by simp [adB, hi, hf]
      have e2 : adK mo xs key = rem xs key ++ [key] := by unfold adK; rw [e1]; rfl
      rw [e1, e2]
      exact ra_yes w g A n c mo xs key h hmo hn hl hi (by omega) hs
    · have e1 : adB mo xs key = false := by simp [adB, hi, hf]
      have e2 : adK mo xs key = xs := by unfold adK; rw [e1]; rfl
      rw [e1, e2]
      exact ra_no w g A n c mo xs key false h hmo hn hl hi (Or.inr (by omega))

/-- What Resize of the reference leaves: the cache behind, and who went. -/
def RzPost (w : World) (g mo : Nat) (xs : List ByteArray) (e : Ending) (w' : World) : Prop := ∃ A n c A2 n2 c2, e = .returned (.tuple #[.agg #[.int .i64 (mo : Int), .slice A n c], .slice A2 n2 c2]) ∧ Row w' g (.slice A n c) (lastN mo xs) ∧ Row w' g (.slice A2 n2 c2) (xs.take (xs.length - mo)) ∧ Below w.heap.size w w'

theorem rz_any (w : World) (g : Nat) (A : Option Addr) (n c mo m : Nat) (z : Int) (xs : List ByteArray) (h : Row w g (.slice A n c) xs) (hn : xs.length = n) (hl : xs.length ≤ 1900) (hz : -9223372036854775808 ≤ z ∧ z ≤ 9223372036854775807) (hm : m = z.toNat) :
    Calls Try.prog 21 #[.agg #[.int .i64 (mo : Int), .slice A n c], .int .i64 z] w (RzPost w g m xs) := by
  have V0 := rw_start w mo (.slice A n c)
  have U := Lib.hid (hm ▸ rnew_any (rw0 w mo (.slice A n c)) z hz : Calls Try.prog 12 #[.int .i64 z] (rw0 w mo (.slice A n c)) (RNew m (rw0 w mo (.slice A n c))))
  have HH := Lib.hid h
  have hmt : m ≤ 9223372036854775807 := by omega
  clear h hm
  go_enter Try.func21, Try.ntmps21
  go_wp2_with fail
  refine U.out.mono ?_
  rintro e W ⟨rfl, hB⟩
  have V1 := V0.below hB
  clear hB U V0
  generalize w.heap.size + 1 = p1 at V1 ⊢
  obtain ⟨p0, hp0⟩ : ∃ p, p = w.heap.size := ⟨_, rfl⟩
  rw [← hp0] at V1 ⊢
  clear hp0
  obtain ⟨c0, c1, c2, c3⟩ := V1.c.four
  obtain ⟨r0, r1, r2, r3⟩ := V1.r1.four
  obtain ⟨n1, n2⟩ := V1.ne
  have hnl : n ≤ 1900 := by omega
  have hfd : ∀ W : World, (Instr.field 29 (.agg #[.int .i64 (m : Int), .slice none 0 0]) 0).run Try.prog W = .ok (.int .i64 (m : Int)) W := fun _ => by kernel_rfl
  by_cases hmn : m ≤ n
  · obtain ⟨q, hq⟩ : ∃ q, n = m + q := ⟨n - m, by omega⟩
    have e1 : decide (((n : Int) - (m : Int)) < 0) = false := by simp; omega
    obtain ⟨At, t1, t2, hT⟩ := row_to HH.out hn (p := q) (by omega)
    obtain ⟨Af, f1, f2, hF⟩ := row_from HH.out hn (p := q) (by omega)
    have R := Lib.hid ((V1.setM m).setL (.slice Af (n - q) (c - q)))
    have HE := Lib.hid (show xs.length - m = q by omega)
    have E := Lib.hid (show ((n : Int) - (m : Int)) = (q : Int) by omega)
    rw [← E.out] at t1 t2 f1 f2
    have HT := Lib.hid hT
    have HF := Lib.hid hF
    clear V1 hT hF hq
    go_wp2_with fail
    have F := R.out.out _ rfl
    refine bodyPost_ret (results_ct rfl _ _ _ ⟨p1, 0, none⟩ _ rfl (load_c F.1)) rfl ?_
    refine ⟨_, _, _, _, _, _, rfl, ?_, ?_, F.2⟩
    · unfold lastN
      rw [HE.out]
      exact HF.out.below F.2
    · rw [HE.out]
      exact HT.out.below F.2
  · have e1 : decide (((n : Int) - (m : Int)) < 0) = true := by simp; omega
    obtain ⟨At, t1, t2, hT⟩ := row_to HH.out hn (p := 0) (by omega)
    obtain ⟨Af, f1, f2, hF⟩ := row_from HH.out hn (p := 0) (by omega)
    have t1 : ∀ W : World, (Instr.sliceAt 27 (.slice A n c) none (some (.int .i64 0)) none).run Try.prog W = .ok (.slice At 0 c) W := t1
    have t2 : ∀ W : World, (Instr.slice 27 (.slice A n c) none (some (.int .i64 0)) none).run Try.prog W = .ok (.slice At 0 c) W := t2
    have f1 : ∀ W : World, (Instr.sliceAt 27 (.slice A n c) (some (.int .i64 0)) none none).run Try.prog W = .ok (.slice Af n c) W := f1
    have f2 : ∀ W : World, (Instr.slice 27 (.slice A n c) (some (.int .i64 0)) none none).run Try.prog W = .ok (.slice Af n c) W := f2
    have R := Lib.hid ((V1.setM m).setL (.slice Af n c))
    have HE := Lib.hid (show xs.length - m = 0 by omega)
    have HT := Lib.hid hT
    have HF := Lib.hid hF
    clear V1 hT hF
    go_wp2_with fail
    have F := R.out.out _ rfl
    refine bodyPost_ret (results_ct rfl _ _ _ ⟨p1, 0, none⟩ _ rfl (load_c F.1)) rfl ?_
    refine ⟨_, _, _, _, _, _, rfl, ?_, ?_, F.2⟩
    · unfold lastN
      rw [HE.out]
      exact HF.out.below F.2
    · rw [HE.out]
      exact HT.out.below F.2
end Go.Proofs.Ythbokiebnniifaa
