/- The contracts of a heap's calls but Set and Order: New, Len, Rank, Remove, Least, Pop. -/
import Derived.Test.YtfjbancceodhhaaHkI
import Derived.Test.YtfjbancceodhhaaHr
namespace Go.Proofs.Ytfjbancceodhhaa
namespace HI
open Go.RowKit Ht Go.Maps Go.WideMaps

def NewPost (w : World) (e : Ending) (w' : World) : Prop := ∃ h S, e = .returned (.pointer (some ⟨h, 0, none⟩)) ∧ HS w' h S [] 0 ∧ (∀ k, S k → w.heap.size ≤ k) ∧ Below w.heap.size w w'

theorem new_any (w : World) : Calls Try.prog 21 #[] w (NewPost w) := by
  have hmm := @run_makeMap Try.prog
  go_enter Try.func21, Try.ntmps21
  go_wp2_with fail
  go_ret
  clear hmm
  have m1 := Mp.made w
  have hs : (w.alloc (.map #[] 0)).heap.size = w.heap.size + 1 := by simp
  have b2 := heap_alloc_new (w.alloc (.map #[] 0)) (heapOf w.heap.size (.slice none 0 0) 0)
  rw [hs] at b2
  refine ⟨w.heap.size + 1, Blk (w.heap.size + 1) w.heap.size (.slice none 0 0) [], rfl, ⟨w.heap.size, .slice none 0 0, [], fun _ => ⟨0, 0, 0, 0⟩, fun _ => none, ⟨⟨b2, Or.inl ⟨rfl, rfl⟩, fun i hi => absurd hi (by simp), by simp, by omega⟩, m1.same (Below.heap_alloc _ _ _ (by rw [hs]; omega)), fun k b => by simp, List.Perm.refl _, List.Pairwise.nil, ⟨List.nodup_nil, List.nodup_nil, by simp⟩, fun i _ hi => absurd hi (by simp), by simp⟩, rfl⟩, ?_, ?_⟩
  · rintro k (rfl | rfl | hk | hk)
    · omega
    · exact Nat.le_refl _
    · cases hk
    · cases hk
  · exact ((Below.refl _ _).alloc (Nat.le_refl _) _).alloc (by rw [hs]; omega) _

end HI
end Go.Proofs.Ytfjbancceodhhaa
