/- The laws' own helper awake at this program: it returns true, whatever the memory; what was there is as it was. -/
import Derived.Test.YtaiejdopmlajmaaLits
import Derived.Test.YtaiejdopmlajmaaSamp
namespace Go.Proofs.Ytaiejdopmlajmaa
open Go.RowKit

def RetB (b : Bool) (w : World) (e : Ending) (w' : World) : Prop := e = .returned (.bool b) ∧ Below w.heap.size w w'

theorem hash_ne : (((Hs.hash [97] : Nat) : Int) != ((Hs.hash [98] : Nat) : Int)) = true := by
  rw [bne_iff_ne]; intro h; exact Hs.empty_ne (by omega)
theorem samp_a : Hs.samp (Hs.hash [97]) 0 = true := Hs.samp_zero (Hs.hash_le _) (by omega)

set_option maxHeartbeats 2000000 in
set_option maxRecDepth 100000 in
theorem awake_any (w : World) : Calls Try.prog 9 #[] w (RetB true w) := by
  go_enter Try.func9, Try.ntmps9
  go_wp2_with fail
  refine (new_two w 5 4611686018427387904 (by omega) (by omega)).mono ?_
  rintro e w1 ⟨B, rfl, hT, hB, hb⟩
  have T1 := Lib.hid hT; clear hT
  have b1 := Lib.hid hb; clear hb
  go_wp2_with fail
  refine (next_at 0 5 [[4611686018427387904]] T1.out (by decide) (by decide)).mono ?_
  rintro e w2 ⟨rfl, hT, hg⟩
  have T2 := Lib.hid hT; clear hT
  have b2 := Lib.hid (b1.out.grown hg b1.out.size (fun k hk => by cases hk; exact hB)); clear hg
  go_wp2_with fail
  refine (pick_at 0 4611686018427387904 true [[]] T2.out (by omega) (by decide) (by decide)).mono ?_
  rintro e w3 ⟨rfl, hT, hg⟩
  have T3 := Lib.hid hT; clear hT
  have b3 := Lib.hid (b2.out.grown hg b2.out.size (fun k hk => by cases hk; exact hB)); clear hg
  go_wp2_with fail
  refine (copyE_any _ _ _ _ T3.out).mono ?_
  rintro e w4 ⟨C, rfl, hT, hC, hb⟩
  have b4 := Lib.hid (b3.out.trans (hb.mono b3.out.size))
  have T4 := Lib.hid (T3.out.below hb); clear hb
  have C4 := Lib.hid hT; clear hT
  have hBC : B + 2 ≤ C := by have := T3.out.lt; omega
  go_wp2_with fail
  refine (next_at 0 0 [[]] T4.out (by decide) (by decide)).mono ?_
  rintro e w5 ⟨rfl, hT, hg⟩
  have T5 := Lib.hid hT; clear hT
  have C5 := Lib.hid (C4.out.kept hg (Or.inl (by omega)))
  have b5 := Lib.hid (b4.out.grown hg b4.out.size (fun k hk => by cases hk; exact hB)); clear hg
  go_wp2_with fail
  refine (left_at 0 0 C5.out (by decide)).mono ?_
  rintro e w5 ⟨rfl, rfl⟩
  go_wp2_with fail
  refine (next_at 7 0 [[]] T5.out (by decide) (by decide)).mono ?_
  rintro e w6 ⟨rfl, hT, hg⟩
  have b6 := Lib.hid (b5.out.grown hg b5.out.size (fun k hk => by cases hk; exact hB)); clear hg hT
  have N := hash_ne
  have S := samp_a
  go_wp2_with fail
  refine (hash_any _ _ (by decide)).mono ?_
  rintro e w6 ⟨rfl, rfl⟩
  go_wp2_with fail
  refine (refHash_any _ _ (by decide)).mono ?_
  rintro e w6 ⟨rfl, rfl⟩
  go_wp2_with fail
  refine (hash_any _ _ (by decide)).mono ?_
  rintro e w6 ⟨rfl, rfl⟩
  go_wp2_with fail
  refine (hash_any _ _ (by decide)).mono ?_
  rintro e w6 ⟨rfl, rfl⟩
  go_wp2_with fail
  refine (samp_any _ 0 _ (by decide) (by omega) (by omega)).mono ?_
  rintro e w6 ⟨rfl, rfl⟩
  go_wp2_with fail
  go_ret
  exact ⟨rfl, b6.out⟩
end Go.Proofs.Ytaiejdopmlajmaa
