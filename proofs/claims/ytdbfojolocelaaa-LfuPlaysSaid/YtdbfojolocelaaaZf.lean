/- The contract of the reference's Request. -/
import Derived.Test.YtdbfojolocelaaaZe
import Derived.Deep.RegionHeld3
namespace Go.Proofs.Ytdbfojolocelaaa
open Go.RowKit Ht HS Lf

theorem CBox.drew {w : World} {p mo : Nat} {ch : Bool} {v : Value} (k : CBox w p mo ch v) : CBox w.drew p mo ch v := k
theorem Box.drew {w : World} {sb : Nat} {h o : Bool} {s : ByteArray} (k : Box w sb h s o) : Box w.drew sb h s o := k
theorem OwnZ.drew {w : World} {base : Nat} {v : Value} {L : List (Ent Key)} (k : OwnZ w base v L) : OwnZ w.drew base v L := k.same fun _ _ => rfl

set_option maxHeartbeats 2000000 in
set_option maxRecDepth 100000 in
theorem rq_zero (w : World) (g : Nat) (ch : Bool) (A : Option Addr) (c n : Nat) (key : Key) (h : ZRow w g (.slice A 0 c) []) (y : By ch [] [] n) :
    Calls Try.prog 12 #[.agg #[.int .i64 ((0 : Nat) : Int), .bool ch, .slice A 0 c], .string key] w (ZtPost w g 0 ch (.agg #[.bool false, .string ⟨#[]⟩, .bool false]) []) := by
  have V0 := rv_start w 0 ch (.slice A 0 c)
  have U := Lib.hid (show Calls Try.prog 15 #[.agg #[.int .i64 0, .bool ch, .slice A 0 c], .string key] (rv0 w 0 ch (.slice A 0 c)) (ValBelow (.int .i64 0) (rv0 w 0 ch (.slice A 0 c))) from rtimes_any _ g 0 ch A 0 c [] key (h.below V0.bel) rfl)
  have HH := Lib.hid h
  have HV := Lib.hid V0
  clear h y V0
  go_enter Try.func12, Try.ntmps12
  go_wp2_with fail
  refine U.out.mono ?_
  rintro e W ⟨rfl, hb⟩
  have V0 := HV.out.below hb
  clear hb U HV
  generalize w.heap.size + 1 + 1 + 1 = p3 at V0 ⊢
  generalize w.heap.size + 1 + 1 = p2 at V0 ⊢
  generalize w.heap.size + 1 = p1 at V0 ⊢
  obtain ⟨p0, hp0⟩ : ∃ p, p = w.heap.size := ⟨_, rfl⟩
  rw [← hp0] at V0 ⊢
  clear hp0
  obtain ⟨c0, c1, c2⟩ := V0.c.c
  obtain ⟨r0, r1, r2⟩ := V0.r1.c
  obtain ⟨u0, u1, u2⟩ := V0.r1.f
  obtain ⟨q0, q1, q2, q3, q4, q5⟩ := V0.r2.six
  obtain ⟨s0, s1, s2, s3, s4, s5⟩ := V0.s.six
  obtain ⟨⟨n1, n2, n3⟩, ⟨n4, n5, n6⟩, ⟨n7, n8, n9⟩, ⟨m1, m2, m3⟩⟩ := V0.ne
  have R := Lib.hid (V0.hit false)
  clear V0
  go_wp2_with fail
  go_region
  go_wp2_with fail
  have F := R.out.out 0 ch (.slice A 0 c) _ rfl
  refine bodyPost_ret (results_cc rfl _ _ _ ⟨p1, 0, none⟩ ⟨p2, 0, none⟩ _ _ rfl (load_c (mo := 0) F.1.drew) rfl (load_step F.2.1.drew)) rfl ?_
  exact ⟨_, _, _, rfl, ⟨g, HH.out.below F.2.2.drew, Or.inl rfl⟩, rfl, F.2.2.drew⟩
end Go.Proofs.Ytdbfojolocelaaa
