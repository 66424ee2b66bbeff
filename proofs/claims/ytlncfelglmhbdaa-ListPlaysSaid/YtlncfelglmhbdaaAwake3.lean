/- The laws' own helper awake at this program: it returns true, whatever the memory; what was there is as it was. -/
import Derived.Test.YtlncfelglmhbdaaSame
namespace Go.Proofs.Ytlncfelglmhbdaa
open Go.RowKit Sg

def RetB (b : Bool) (w : World) (e : Ending) (w' : World) : Prop := e = .returned (.bool b) ∧ Below w.heap.size w w'

/-- What a call on a list of the walk's own leaves, told over the world at the walk's start. -/
structure Kept (w0 w : World) (l M P : Nat) : Prop where
  bel : Below w0.heap.size w0 w
  l0 : w0.heap.size ≤ l
  M0 : w0.heap.size ≤ M
  P0 : w0.heap.size ≤ P
theorem Kept.next {w0 w w' : World} {l M P P' : Nat} (h : Kept w0 w l M P) (hP : P' = P ∨ w.heap.size ≤ P') (ht : Turned w w' l M P) : Kept w0 w' l M P' := by
  have hs := h.bel.size
  have hp := h.P0
  exact ⟨h.bel.trans (ht.below h.l0 h.M0 h.P0 hs), h.l0, h.M0, by rcases hP with rfl | hP <;> omega⟩
theorem Kept.new {w0 w w' : World} {l M P : Nat} (h : Kept w0 w l M P) (hb : Below w.heap.size w w') : Kept w0 w' l M P :=
  ⟨h.bel.trans (hb.mono h.bel.size), h.l0, h.M0, h.P0⟩
theorem below_drewN (w : World) (n : Nat) : Below w.heap.size w (w.drewN n) := ⟨rfl, rfl, rfl, Nat.le_refl _, fun _ _ => rfl⟩

def sa : ByteArray := ⟨#[97]⟩
def sb : ByteArray := ⟨#[98]⟩
def sc : ByteArray := ⟨#[99]⟩

set_option maxHeartbeats 2000000 in
set_option maxRecDepth 100000 in
theorem awake_any (w : World) : Calls Try.prog 8 #[] w (RetB true w) := by
  go_enter Try.func8, Try.ntmps8
  go_wp2_with fail
  refine (new_any w).mono ?_
  rintro e w1 ⟨l, M, P, rfl, hl, hM, hP, hL, hB⟩
  have K1 := Lib.hid (Kept.mk hB hl hM hP)
  have L1 := Lib.hid hL
  clear hl hM hP hL hB
  go_wp2_with fail
  refine (front_any w1 l M P [] 0 sa L1.out (by decide) (by omega)).mono ?_
  rintro e w2 ⟨P2, rfl, hP, hL, hT⟩
  have K2 := Lib.hid (K1.out.next hP hT)
  have L2 := Lib.hid (show Lst w2 l M P2 [sa] 1 from hL)
  clear hP hL hT
  go_wp2_with fail
  refine (front_any w2 l M P2 [sa] 1 sb L2.out (by decide) (by omega)).mono ?_
  rintro e w3 ⟨P3, rfl, hP, hL, hT⟩
  have K3 := Lib.hid (K2.out.next hP hT)
  have L3 := Lib.hid (show Lst w3 l M P3 [sb, sa] 2 from hL)
  clear hP hL hT
  go_wp2_with fail
  refine (back_any w3 l M P3 [sb, sa] 2 sc L3.out (by decide) (by omega)).mono ?_
  rintro e w4 ⟨P4, rfl, hP, hL, hT⟩
  have K4 := Lib.hid (K3.out.next hP hT)
  have L4 := Lib.hid (show Lst w4 l M P4 [sb, sa, sc] 3 from hL)
  clear hP hL hT
  go_wp2_with fail
  refine Calls.mono (show Calls Try.prog 22 #[.pointer (some ⟨l, 0, none⟩)] w4 (KeyPost ⟨#[98]⟩ true w4) from first_any w4 l M P4 _ 3 L4.out) ?_
  rintro e w4 ⟨rfl, rfl⟩
  go_wp2_with fail
  refine Calls.mono (show Calls Try.prog 17 #[.pointer (some ⟨l, 0, none⟩)] w4 (OpPost (.tuple #[.string ⟨#[99]⟩, .bool true]) w4 l M P4 [sb, sa] 3) from pop_any w4 l M P4 _ 3 L4.out) ?_
  rintro e w5 ⟨P5, rfl, hP, hL, hT⟩
  have K5 := Lib.hid (K4.out.next hP hT)
  have L5 := Lib.hid hL
  clear hP hL hT
  go_wp2_with fail
  refine Calls.mono (show Calls Try.prog 14 #[.pointer (some ⟨l, 0, none⟩), .string ⟨#[98]⟩] w5 (OpPost (.bool true) w5 l M P5 [sa] 3) from remove_any w5 l M P5 [sb, sa] 3 sb L5.out (by decide)) ?_
  rintro e w6 ⟨P6, rfl, hP, hL, hT⟩
  have K6 := Lib.hid (K5.out.next hP hT)
  have L6 := Lib.hid hL
  clear hP hL hT
  go_wp2_with fail
  refine Calls.mono (show Calls Try.prog 14 #[.pointer (some ⟨l, 0, none⟩), .string ⟨#[98]⟩] w6 (OpPost (.bool false) w6 l M P6 [sa] 3) from remove_any w6 l M P6 [sa] 3 sb L6.out (by decide)) ?_
  rintro e w7 ⟨P7, rfl, hP, hL, hT⟩
  have K7 := Lib.hid (K6.out.next hP hT)
  have L7 := Lib.hid hL
  clear hP hL hT K1 K2 K3 K4 K5 K6 L1 L2 L3 L4 L5 L6
  go_wp2_with fail
  refine Calls.mono (show Calls Try.prog 23 #[.pointer (some ⟨l, 0, none⟩)] w7 (IntPost 1 w7) from len_any w7 l M P7 [sa] 3 L7.out) ?_
  rintro e w7 ⟨rfl, rfl⟩
  go_wp2_with fail
  refine Calls.mono (show Calls Try.prog 25 #[.pointer (some ⟨l, 0, none⟩), .string ⟨#[97]⟩] w7 (BoolPost true w7) from has_any w7 l M P7 [sa] 3 sa L7.out (by decide)) ?_
  rintro e w7 ⟨rfl, rfl⟩
  go_wp2_with fail
  refine Calls.mono (show Calls Try.prog 25 #[.pointer (some ⟨l, 0, none⟩), .string ⟨#[98]⟩] w7 (BoolPost false w7) from has_any w7 l M P7 [sa] 3 sb L7.out (by decide)) ?_
  rintro e w7 ⟨rfl, rfl⟩
  go_wp2_with fail
  refine Calls.mono (show Calls Try.prog 24 #[.pointer (some ⟨l, 0, none⟩)] w7 (IntPost 3 w7) from places_any w7 l M P7 [sa] 3 L7.out) ?_
  rintro e w7 ⟨rfl, rfl⟩
  go_wp2_with fail
  refine (keys_any w7 l M P7 [sa] 3 L7.out).mono ?_
  rintro e w8 ⟨v, rfl, hO, hB⟩
  have K8 := Lib.hid (K7.out.new hB)
  obtain ⟨g, _, hR⟩ := hO.row
  have hr2 := hR.below ((Below.refl w8.heap.size w8).alloc (Nat.le_refl _) (.cells #[.string ⟨#[97]⟩] 9))
  obtain ⟨g', _, hR'⟩ := (own_one w8 sa (by decide)).row
  have K9 := Lib.hid (K8.out.new ((Below.refl w8.heap.size w8).alloc (Nat.le_refl _) (.cells #[.string ⟨#[97]⟩] 9)))
  have U := Lib.hid (show Calls Try.prog 26 #[v, .slice (some ⟨w8.heap.size, 0, none⟩) 1 1] (w8.alloc (.cells #[.string ⟨#[97]⟩] 9)) (SamePost true (w8.alloc (.cells #[.string ⟨#[97]⟩] 9))) from refSame_any _ g g' _ _ [sa] [sa] hr2 hR')
  clear hO hB hR hr2 hR' K7 K8 L7
  go_wp2_with fail
  refine Calls.mono U.out ?_
  rintro e w9 ⟨rfl, n, rfl⟩
  go_wp2_with fail
  go_ret
  exact ⟨rfl, (K9.out.new (below_drewN _ n)).bel⟩
end Go.Proofs.Ytlncfelglmhbdaa
