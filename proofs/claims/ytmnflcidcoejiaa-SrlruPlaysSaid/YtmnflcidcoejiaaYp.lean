/- The contract of promote. -/
import Derived.Test.YtmnflcidcoejiaaYf
namespace Go.Proofs.Ytmnflcidcoejiaa
open Go.RowKit Sg

theorem prom_end {w w3 W w4 : World} {i : Ix} {S S3 S4 : Sx} {mo t m : Nat} {N A G : List ByteArray} {f : Told} {b : Nat} {key : ByteArray} (h : Went w w3 (blk i S) (blk i S3)) (d : Below w3.heap.size w3 W) (k : Went W w4 (blk i S3) (blk i S4))
    (r : Raw w4 i S4 mo t ((key :: A).drop (min m (key :: A).length) ++ N) ((key :: A).take (min m (key :: A).length)) G (tput f key) (b + 1)) (hm : m = mx t) : PromPost w i S mo t N A G f b key (.returned (.tuple #[])) w4 := by
  subst hm
  have h1 : (key :: A).take (min (mx t) (key :: A).length) = (key :: A).take (mx t) := by
    by_cases h : mx t ≤ (key :: A).length
    · rw [Nat.min_eq_left h]
    · rw [Nat.min_eq_right (by omega), List.take_length, List.take_of_length_le (by omega)]
  have h2 : (key :: A).drop (min (mx t) (key :: A).length) = (key :: A).drop (mx t) := by
    by_cases h : mx t ≤ (key :: A).length
    · rw [Nat.min_eq_left h]
    · rw [Nat.min_eq_right (by omega), List.drop_length, List.drop_of_length_le (by omega)]
  rw [h1, h2] at r
  exact ⟨rfl, S4, r, h.trans ((Went.below d).trans k)⟩

set_option maxHeartbeats 1000000 in
theorem promoteY (w : World) (i : Ix) (S : Sx) (mo t : Nat) (N A G : List ByteArray) (f : Told) (b : Nat) (key : ByteArray) (r : Raw w i S mo t N A G f b) (hs : key.size ≤ maxLen) (hk : key ∉ A ++ N) (hd : (A ++ N).Nodup) (hb : b ≤ 980) (hl : A.length + N.length + 1 ≤ b + 1) :
    Calls Try.prog 49 #[.pointer (some ⟨i.c, 0, none⟩), .string key] w (PromPost w i S mo t N A G f b key) := by
  obtain ⟨k1, hn, r1, hb1⟩ := cb_start r
  have K0 := k1.cell
  have clt := r.clt
  obtain ⟨_, _, _, _, _, c5⟩ := r1.cells
  obtain ⟨w2, hst, hO, hg⟩ := r1.o.store hs (by omega)
  obtain ⟨r2, hW2⟩ := r1.onO hO hg (by omega)
  have o2 := went_out hW2 k1.lt hn
  have k2 : CB w2 w.heap.size i := o2.1.trans k1
  have K2 := k2.cell
  obtain ⟨_, _, _, d3, _, _⟩ := r2.cells
  have U := Lib.hid (ls_front_new w2 i.a S.a A (b + 1) r2.a key (b + 1) (fun h => hk (List.mem_append_left _ h)) hs (by omega) (Nat.le_refl _) (by omega))

  have R2 := Lib.hid r2
  have KK := Lib.hid k2
  have N2 := Lib.hid o2.2
  have W2 := Lib.hid ((Went.below hb1).trans hW2 : Went w w2 (blk i S) (blk i S))
  have HD := Lib.hid (show ((key :: A) ++ N).Nodup from by rw [List.cons_append, List.nodup_cons]; exact ⟨hk, hd⟩)
  have ht := r.top
  clear r r1 k1 hO hg r2 hW2 o2 k2 hb1 hk hd hn
  go_enter Try.func49, Try.ntmps49
  go_wp2_with fail
  refine U.out.mono ?_
  intro e w3 hp
  obtain ⟨rfl, S3, r3, hW3⟩ := R2.out.onA hp (Nat.le_refl _)
  have o3 := went_out hW3 KK.out.lt N2.out
  have k3 : CB w3 w.heap.size i := o3.1.trans KK.out
  have K3 := k3.cell
  obtain ⟨_, e1, _, e3, _, _⟩ := r3.cells
  have HW := Lib.hid (W2.out.trans hW3)
  have V := Lib.hid (fun (W : World) (g : Below w3.heap.size w3 W) => demote_any W w.heap.size i S3 mo t N (key :: A) G (tput f key) (b + 1) (mx t) (r3.below g) ((g.block _ k3.lt).trans k3) o3.2 HD.out (by omega) (by rw [List.length_cons]; omega))
  obtain ⟨m, hm⟩ : ∃ m, m = mx t := ⟨_, rfl⟩
  have hmax : (if (t : Int) < 1 then (1 : Int) else (t : Int)) = (m : Int) := by rw [hm, mx_max]; split <;> omega
  have HM := Lib.hid hm
  rw [← hm] at V
  clear hm
  clear hp r3 hW3 o3 k3 R2 U K0 K2 c5 d3 hst HD W2 KK N2
  go_wp2_with fail
  have D0 := Lib.hid (show Below w3.heap.size w3 w3.drew from ⟨rfl, rfl, rfl, Nat.le_refl _, fun _ _ => rfl⟩)
  go_region_held3 (fun w' => w'.cell? ⟨w.heap.size, 0, none⟩ = some (.pointer (some ⟨i.c, 0, none⟩)) ∧ w'.cell? ⟨i.c, 1, none⟩ = some (.int .i64 (t : Int)) ∧ w'.cell? ⟨i.c, 3, none⟩ = some (.pointer (some ⟨i.a, 0, none⟩))) (first | (exact ⟨Z0, z1, z3⟩) | (exact ⟨K3, e1, e3⟩) | go_keep)
    ((go_at_call 62; refine (V.out _ D0.out).mono ?_; rintro e w4 ⟨rfl, S4, r4, hW4, hk4, hn4⟩; have R4 := Lib.hid r4; have W4 := Lib.hid hW4; have Z0 := hk4.cell; obtain ⟨_, z1, _, z3, _, _⟩ := r4.cells; clear r4 hW4 hk4 hn4))
  all_goals
    go_wp2_with fail
    go_end0
    exact prom_end HW.out D0.out W4.out R4.out HM.out
end Go.Proofs.Ytmnflcidcoejiaa
