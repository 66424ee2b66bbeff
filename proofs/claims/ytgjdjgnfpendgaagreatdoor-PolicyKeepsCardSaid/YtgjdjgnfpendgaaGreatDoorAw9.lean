/- The laws' own helper awake of layer 9: it returns true, for every kind at once; what was there is as it was. -/
import Derived.Test.YtgjdjgnfpendgaaGreatDoorPn
import Derived.Test.YtgjdjgnfpendgaaGreatDoorRc9
import Derived.Deep.MidRow
import Derived.Deep.RegionHeld3
import Derived.Deep.RegionLaw
import Derived.Deep.CutBlock
import Derived.Deep.DeepCutAuto
set_option maxRecDepth 20000
namespace Go.Proofs.YtgjdjgnfpendgaaGreatDoor
open Go.RowKit Sg
def RetB (b : Bool) (w : World) (e : Ending) (w' : World) : Prop := e = .returned (.bool b) ∧ Below w.heap.size w w'
def AwR (w : World) (i : Value) (W : World) : Prop := ∃ k : Nat, i = .int .i64 (k : Int) ∧ k ≤ 5 ∧ Below w.heap.size w W
def sa : ByteArray := ⟨#[97]⟩
def sb : ByteArray := ⟨#[98]⟩
def sc : ByteArray := ⟨#[99]⟩
theorem box_new9 {w : World} {T : Nat → Prop} {L : List (Nat × Bool × ByteArray × Bool)} (h : AR.Boxes w T L) (hl : ∀ k, T k → k < w.heap.size) (x y : Bool) (s : ByteArray) : AR.Boxes (w.alloc (.cells #[.bool x, .string s, .bool y] 49)) T ((w.heap.size, x, s, y) :: L) := by
  intro q hq
  rcases List.mem_cons.1 hq with rfl | hq
  · exact ⟨heap_alloc_new _ _, fun hk => by have := hl _ hk; omega⟩
  obtain ⟨h1, h2⟩ := h q hq
  exact ⟨(Below.heap_alloc _ _ _ h1.lt).trans h1, h2⟩
set_option maxHeartbeats 4000000 in
theorem awake_any (w : World) (hl : Laid w ∧ Named w) : Calls Tryz.prog 11 #[] w (RetB true w) := by
  have N := Lib.hid (fun (w : World) (k : Nat) (hk : k < 5) => new_p w k hk 2 (by omega))
  have HN := Lib.hid hl
  have g34 := fun (w : World) => AR.guard34 (w := w)
  have q34 := fun (w : World) (a : Bool) (s : ByteArray) (b : Bool) => AR.neq34 (w := w) (a := a) (s := s) (b := b)
  clear hl
  go_enter Tryz.func11, Tryz.ntmps11
  go_wp2_with fail
  go_loopw [1] (fun i W => AwR w i W) (fun i _ => 5 - (intOf i).toNat)
  case atStart => exact ⟨0, rfl, by omega, Below.refl _ _⟩
  case round =>
    obtain ⟨k, rfl, hk5, hB⟩ := hrel
    have HB := Lib.hid hB
    clear hB
    by_cases hk : k < 5
    · have e0 : decide ((k : Int) < 5) = true := decide_eq_true (by omega)
      go_wp2_with fail
      refine Calls.mono (show Calls Tryz.prog 13 #[.int .i64 (k : Int), .int .i64 2] wr (PNew k 2 wr) from N.out wr k hk) ?_
      rintro e w2 ⟨p, U, rfl, hC, hU, hB2⟩
      have L2 := Lib.hid (PLive.made HB.out hC hU hB2)
      clear hC hU hB2
      go_wp2_with fail
      have K0 := KSt.start_kind hk 2
      have a1 := Lib.hid (KSt.tell_room (st := KSt.start k 2) L2.out.ca.ok (by rw [K0.2.1]; omega) (k := sa) (by rw [K0.2.2.1]; simp) (by rw [K0.2.2.1, K0.2.1]; simp))
      have U1 := request_p w2 p U (KSt.start k 2) 0 sa L2.out.ca (by decide) (by omega)
      generalize h0 : KSt.start k 2 = s0 at *
      unfold KSt.step at U1
      rw [a1.out] at U1
      refine Calls.mono (show Calls Tryz.prog 17 #[.pointer (some ⟨p, 0, none⟩), .string ⟨#[97]⟩] w2 (PPost (.agg #[.bool false, .string ⟨#[]⟩, .bool false]) w2 p U (s0.req sa) 1) from U1) ?_
      intro e w3 hp
      obtain ⟨rfl, T3, hL, hW⟩ := L2.out.op hp
      have L3 := Lib.hid hL
      have O0 := Lib.hid L2.out.ca.ok
      clear hp hL hW L2 a1 U1
      go_wp2_with fail
      have m1 : (s0.req sa).mo ≠ 0 := by rw [KSt.mo_req, K0.2.1]; omega
      have a2 := Lib.hid (KSt.tell_hit (st := s0.req sa) L3.out.ca.ok m1 (k := sa) (KSt.req_f O0.out (by rw [K0.2.1]; omega) sa).has)
      have U2 := request_p w3 p T3 (s0.req sa) 1 sa L3.out.ca (by decide) (by omega)
      generalize h1 : s0.req sa = s1 at *
      unfold KSt.step at U2
      rw [a2.out] at U2
      refine Calls.mono (show Calls Tryz.prog 17 #[.pointer (some ⟨p, 0, none⟩), .string ⟨#[97]⟩] w3 (PPost (.agg #[.bool true, .string ⟨#[]⟩, .bool false]) w3 p T3 (s1.req sa) 2) from U2) ?_
      intro e w4 hp
      obtain ⟨rfl, T4, hL, hW⟩ := L3.out.op hp
      have O1 := Lib.hid L3.out.ca.ok
      have L4 := Lib.hid hL
      clear hp hL hW L3 a2 U2 m1
      go_wp2_with fail
      have X5 := Lib.hid (box_new9 (box_new9 (w := w4) (T := T4) (L := []) (by intro q hq; cases hq) L4.out.lt false false ⟨#[]⟩) (fun k hk => Nat.lt_of_lt_of_le (L4.out.lt k hk) (by simp)) true false ⟨#[]⟩)
      have hb5 : Below w4.heap.size w4 ((w4.alloc (.cells #[.bool false, .string ⟨#[]⟩, .bool false] 49)).alloc (.cells #[.bool true, .string ⟨#[]⟩, .bool false] 49)) := ((Below.refl _ _).alloc (Nat.le_refl _) _).alloc (by simp) _
      have L5 := Lib.hid (L4.out.below hb5)
      have e5 : (w4.alloc (.cells #[.bool false, .string ⟨#[]⟩, .bool false] 49)).heap.size = w4.heap.size + 1 := by simp
      rw [e5] at X5
      clear L4 hb5 e5
      generalize (w4.alloc (.cells #[.bool false, .string ⟨#[]⟩, .bool false] 49)).alloc (.cells #[.bool true, .string ⟨#[]⟩, .bool false] 49) = w5 at L5 X5 ⊢
      generalize w4.heap.size = n4 at *
      have U3 := request_p w5 p T4 (s1.req sa) 2 sb L5.out.ca (by decide) (by omega)
      generalize h2 : s1.req sa = s2 at *
      generalize hv3 : s2.step sb = v3 at U3
      refine Calls.mono (show Calls Tryz.prog 17 #[.pointer (some ⟨p, 0, none⟩), .string ⟨#[98]⟩] w5 (PPost v3 w5 p T4 (s2.req sb) 3) from U3) ?_
      intro e w6 hp
      obtain ⟨rfl, T6, hL, hW⟩ := L5.out.op hp
      have O2 := Lib.hid L5.out.ca.ok
      have X6 := Lib.hid (X5.out.went hW)
      have L6 := Lib.hid hL
      clear hp hL hW L5 U3 X5 hv3
      go_wp2_with fail
      have U4 := request_p w6 p T6 (s2.req sb) 3 sc L6.out.ca (by decide) (by omega)
      generalize h3 : s2.req sb = s3 at *
      unfold KSt.step at U4
      obtain ⟨x, hx⟩ : ∃ x, x = (s3.tell sc).1 := ⟨_, rfl⟩
      obtain ⟨y, hy⟩ : ∃ y, y = (s3.tell sc).2.1 := ⟨_, rfl⟩
      obtain ⟨o, ho⟩ : ∃ o, o = (s3.tell sc).2.2 := ⟨_, rfl⟩
      rw [← hx, ← hy, ← ho] at U4
      refine Calls.mono (show Calls Tryz.prog 17 #[.pointer (some ⟨p, 0, none⟩), .string ⟨#[99]⟩] w6 (PPost (.agg #[.bool x, .string y, .bool o]) w6 p T6 (s3.req sc) 4) from U4) ?_
      intro e w7 hp
      obtain ⟨rfl, T7, hL, hW⟩ := L6.out.op hp
      have O3 := Lib.hid L6.out.ca.ok
      have X7 := Lib.hid (box_new9 (X6.out.went hW) hL.lt x o y)
      have L7 := Lib.hid (hL.below ((Below.refl _ _).alloc (Nat.le_refl _) (.cells #[.bool x, .string y, .bool o] 49)))
      obtain ⟨q0, q1, q2, q3, q4, q5, q6, q7⟩ := KSt.wake h1.symm h2.symm h3.symm (s4 := s3.req sc) rfl O0.out O1.out O2.out O3.out hL.ca.ok K0.2.1 K0.2.2.1 (by decide) (by decide) (by decide)
      obtain rfl : o = true := ho.trans q2
      have hk4 : (s3.req sc).kind = k := by rw [KSt.kind_req, ← h3, KSt.kind_req, ← h2, KSt.kind_req, ← h1, KSt.kind_req]; exact K0.1
      have Q := Lib.hid (show (s3.req sc).keys.length = 2 ∧ (s3.req sc).has sc = true ∧ (s3.req sc).any = true ∧ (s3.req sc).has (s3.req sc).vic = true ∧ (s3.req sc).mo = 2 ∧ (s3.req sc).kind = k from ⟨q3, q4, q5, q6, q7, hk4⟩)
      clear hp hL hW L6 U4 X6 hx hy q0 q1 q2 q3 q4 q5 q6 q7 hk4 O0 O1 O2 O3 h1 h2 h3 h0 K0 ho
      generalize s3.req sc = s4 at *
      clear s0 s1 s2 s3
      go_upto_region 10 with fail
      generalize w7.alloc (.cells #[.bool x, .string y, .bool true] 49) = w8 at L7 X7 ⊢
      generalize w7.heap.size = n7 at *
      have V := victim_p w8 p T7 s4 4 L7.out.ca
      rw [Q.out.2.2.1] at V
      have V := Lib.hid V
      generalize s4.vic = vk at *
      go_wp2_with fail
      refine V.out.mono ?_
      rintro e w9 ⟨rfl, hB⟩
      have X9 := Lib.hid (X7.out.went (Went.below hB))
      have L9 := Lib.hid (L7.out.below hB)
      clear hB X7 L7 V
      have c4 := Lib.hid (X9.out (n4, false, ⟨#[]⟩, false) (by simp)).1
      have c5 := Lib.hid (X9.out (n4 + 1, true, ⟨#[]⟩, false) (by simp)).1
      have c7 := Lib.hid (X9.out (n7, x, y, true) (by simp)).1
      obtain ⟨x1, x2, x3, _, _⟩ := c4.out.cells
      obtain ⟨x4, x5, x6, _, _⟩ := c5.out.cells
      obtain ⟨_, _, x9, _, _⟩ := c7.out.cells
      simp only at x1 x2 x3 x4 x5 x6 x9
      clear c4 c5 c7 X9
      go_wp2_with fail
      refine Calls.mono (show Calls Tryz.prog 32 #[.pointer (some ⟨p, 0, none⟩)] w9 (Told (.int .i64 2) w9) from by
        have := len_p w9 p T7 s4 4 L9.out.ca
        rw [Q.out.1] at this
        exact this) ?_
      rintro e wa ⟨rfl, hB⟩
      have La := Lib.hid (L9.out.below hB)
      have x9 := (hB.cell (p := ⟨n7, 2, none⟩) (World.block_lt_of_cell? _ _ x9)).trans x9
      clear hB L9 x1 x2 x3 x4 x5 x6
      go_wp2_with fail
      refine Calls.mono (show Calls Tryz.prog 33 #[.pointer (some ⟨p, 0, none⟩), .string ⟨#[99]⟩] wa (Told (.bool true) wa) from by
        have := has_p wa p T7 s4 4 sc La.out.ca (by decide)
        rw [Q.out.2.1] at this
        exact this) ?_
      rintro e wb ⟨rfl, hB⟩
      have Lb := Lib.hid (La.out.below hB)
      clear hB La x9
      go_wp2_with fail
      refine Calls.mono (show Calls Tryz.prog 38 #[.pointer (some ⟨p, 0, none⟩)] wb (Told (.int .i64 (k : Int)) wb) from by
        have := kind_p wb p T7 s4 4 Lb.out.ca
        rw [Q.out.2.2.2.2.2] at this
        exact this) ?_
      rintro e wc ⟨rfl, hB⟩
      have Lc := Lib.hid (Lb.out.below hB)
      clear hB Lb
      go_wp2_with fail
      refine Calls.mono (show Calls Tryz.prog 37 #[.pointer (some ⟨p, 0, none⟩)] wc (Told (.int .i64 2) wc) from by
        have := most_p wc p T7 s4 4 Lc.out.ca
        rw [Q.out.2.2.2.2.1] at this
        exact this) ?_
      rintro e wd ⟨rfl, hB⟩
      have Ld := Lib.hid (Lc.out.below hB)
      clear hB Lc
      go_wp2_with fail
      refine Calls.mono (show Calls Tryz.prog 33 #[.pointer (some ⟨p, 0, none⟩), .string vk] wd (Told (.bool true) wd) from by
        have := has_p wd p T7 s4 4 vk Ld.out.ca (Ld.out.ca.small _ (inn_iff.1 Q.out.2.2.2.1))
        rw [Q.out.2.2.2.1] at this
        exact this) ?_
      rintro e we ⟨rfl, hB⟩
      have Le := Lib.hid (Ld.out.below hB)
      clear hB Ld
      go_wp2_with fail
      refine Calls.mono (keys_p we p T7 s4 4 Le.out.ca) ?_
      rintro e wf ⟨v, rfl, hO, hB⟩
      obtain ⟨A, cc, rfl⟩ := hO.len
      rw [Q.out.1]
      have Lf := Lib.hid (Le.out.below hB)
      clear hB Le hO
      go_wp2_with fail
      go_roundw
      case rel => exact ⟨k + 1, by go_num, by omega, Lf.out.bel⟩
      case measure => simp [intOf]; omega
    · obtain rfl : k = 5 := by omega
      have HL := Lib.hid (HN.out.1.below HB.out (Nat.le_refl _))
      have HM := Lib.hid (HN.out.2.below HB.out (Nat.le_refl _))
      go_wp2_with fail
      refine Calls.mono (new_kind wr 5 (by omega) 1) ?_
      rintro e w2 ⟨v1, rfl, hF, hB2⟩
      have F1 := Lib.hid hF
      have B2 := Lib.hid hB2
      clear hF hB2
      go_wp2_with fail
      refine Calls.mono (new_size w2 0 (by omega) (-1) (by omega) (by omega)) ?_
      rintro e w3 ⟨v2, rfl, hF, hB3⟩
      have F2 := Lib.hid hF
      have F1 := Lib.hid (F1.out.below hB3)
      have B3 := Lib.hid (B2.out.trans (hB3.mono B2.out.size))
      clear hF hB3 B2
      go_wp2_with fail
      refine Calls.mono (show Calls Tryz.prog 39 #[.int .i64 6] w3 (fun e w' => e = .returned (.tuple #[.string ⟨#[67, 65, 67, 72, 69, 85, 83]⟩, .nilIface]) ∧ w3 = w') from name_any w3 6 (by omega) (HM.out.below B3.out (Nat.le_refl _))) ?_
      rintro e w4 ⟨rfl, rfl⟩
      have HL3 := Lib.hid (HL.out.below B3.out (Nat.le_refl _))
      go_wp2_with fail
      refine Calls.mono (F1.out.wraps (by omega) HL3.out) ?_
      rintro e w5 ⟨rfl, hB5⟩
      have F2 := Lib.hid (F2.out.below hB5)
      have HL5 := Lib.hid (HL3.out.below hB5 (Nat.le_refl _))
      have B5 := Lib.hid (B3.out.trans (hB5.mono B3.out.size))
      clear hB5 F1 HL3 B3
      go_wp2_with fail
      refine Calls.mono (F2.out.wraps (by omega) HL5.out) ?_
      rintro e w6 ⟨rfl, hB6⟩
      have B6 := Lib.hid (HB.out.trans ((B5.out.trans (hB6.mono B5.out.size)).mono HB.out.size))
      clear hB6
      go_wp2_with fail
      go_ret
      exact ⟨rfl, B6.out⟩
end Go.Proofs.YtgjdjgnfpendgaaGreatDoor
