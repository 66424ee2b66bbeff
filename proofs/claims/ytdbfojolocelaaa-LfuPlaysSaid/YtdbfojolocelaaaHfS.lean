/- The contract of a heap's firstChild. -/
import Derived.Test.YtdbfojolocelaaaHsS
namespace Go.Proofs.Ytdbfojolocelaaa
namespace HS
open Go.RowKit Ht Go.Maps Go.WideMaps

/-- Which of a place's children is the first. -/
def FcPost (w : World) (T : List Nat) (E : Nat → Ent Key) (p : Nat) (e : Ending) (w' : World) : Prop := Grw w w' ∧ ((T.length ≤ 2 * p + 1 ∧ e = .returned (.pointer none)) ∨
  ∃ ch, ch < T.length ∧ 0 < ch ∧ (ch - 1) / 2 = p ∧ e = .returned (.pointer (some ⟨tg T ch, 0, none⟩)) ∧ ∀ d, 0 < d → d < T.length → (d - 1) / 2 = p → d ≠ ch → lt (E (tg T ch)) (E (tg T d)))
/-- Numbers of Sets are unlike. -/
def Dis (T : List Nat) (E : Nat → Ent Key) : Prop := (T.map fun b => (E b).set).Nodup
theorem Dis.ne {T : List Nat} {E : Nat → Ent Key} (h : Dis T E) (i j : Nat) (hi : i < T.length) (hj : j < T.length) (hij : i ≠ j) : (E (tg T i)).set ≠ (E (tg T j)).set := by
  have key : ∀ a b, a < b → b < T.length → (E (tg T a)).set ≠ (E (tg T b)).set := by
    intro a b hab hb
    have := List.pairwise_iff_getElem.1 h a b (by simp; omega) (by simpa using hb) hab
    have ea := tg_get (T := T) (i := a) (Nat.lt_trans hab hb)
    have eb := tg_get hb
    rw [List.getElem?_eq_getElem (Nat.lt_trans hab hb)] at ea
    rw [List.getElem?_eq_getElem hb] at eb
    rw [List.getElem_map, List.getElem_map, Option.some.inj ea, Option.some.inj eb] at this
    exact this
  rcases Nat.lt_or_gt_of_ne hij with h1 | h1
  · exact key i j h1 hj
  · exact (key j i h1 hi).symm

theorem Seen.grw {w w' : World} {x : Nat} {a : Ent Key} (h : Seen w x a) (g : Grw w w') : Seen w' x a := ⟨g.cell h.1, g.cell h.2.1, g.cell h.2.2⟩

set_option maxHeartbeats 4000000 in
set_option maxRecDepth 100000 in
theorem firstChild_any (w : World) (h M : Nat) (v : Value) (T : List Nat) (E : Nat → Ent Key) (c p : Nat) (H : Holds w h M v T E c) (hd : Dis T E) (hp : p < T.length) :
    Calls Try.prog 59 #[.pointer (some ⟨h, 0, none⟩), .int .i64 (p : Int)] w (FcPost w T E p) := by
  obtain ⟨tb, cap, rfl, hc1, hc2, arr, h2, h3, h6⟩ := H.at (by omega)
  have c1 := H.c1
  have ht := H.top
  obtain ⟨n, hn⟩ : ∃ n, T.length = n := ⟨_, rfl⟩
  obtain ⟨l, hl⟩ : ∃ l, l = 2 * p + 1 := ⟨_, rfl⟩
  obtain ⟨r, hr⟩ : ∃ r, r = 2 * p + 2 := ⟨_, rfl⟩
  have el : 2 * (p : Int) + 1 = (l : Int) := by omega
  have er : 2 * (p : Int) + 2 = (r : Int) := by omega
  have tcell : ∀ i, i < n → w.cell? ⟨tb, i, none⟩ = some (.pointer (some ⟨tg T i, 0, none⟩)) := fun i hi => (cell_of_row w _ _ _ _ _ h2).trans (h6 i (by omega))
  have seen : ∀ i, i < n → Seen w (tg T i) (E (tg T i)) := fun i hi => H.seen (by omega)
  have HN := Lib.hid hn
  have HD := Lib.hid hd
  have HL := Lib.hid hl
  have HR := Lib.hid hr
  have SE := Lib.hid seen
  have TC := Lib.hid tcell
  rw [hn] at c1 hc1 ht hp
  unfold maxLen at hc2
  clear h2 h3 h6 H seen tcell hd hn
  by_cases hA : n ≤ l
  · have q1 : (n : Int) ≤ (l : Int) := by omega
    have hlb : l ≤ 3000 := by omega
    clear hl hr
    go_enter Try.func59, Try.ntmps59
    go_wp2_with fail
    go_ret
    exact ⟨Grw.refl w, Or.inl ⟨by have := HN.out; have := HL.out; omega, rfl⟩⟩
  have tl := TC.out l (by omega)
  have hlb : l ≤ 3000 := by omega
  have hrb : r ≤ 3000 := by omega
  have q1 : ¬ (n : Int) ≤ (l : Int) := by omega
  have q3 : l < n := by omega
  by_cases hB : n ≤ r
  · have q2 : decide (r < n) = false := by simp; omega
    clear hl hA hr
    go_enter Try.func59, Try.ntmps59
    go_wp2_with fail
    go_quiet (fail)
    go_wp2_with fail
    go_ret
    refine ⟨(Grw.refl w).drewN _, Or.inr ⟨l, by have := HN.out; omega, by have := HL.out; omega, by have := HL.out; omega, rfl, fun d h1 h2 h3 h4 => ?_⟩⟩
    have := HN.out
    have := HL.out
    have := HR.out
    omega
  have tr := TC.out r (by omega)
  have q2 : (r : Int) < (n : Int) := by omega
  have q4 : r < n := by omega
  have AH := Lib.hid (fun (w' : World) (g : Grw w w') => ahead_any w' (tg T r) (tg T l) (E (tg T r)) (E (tg T l)) ((SE.out r q4).grw g) ((SE.out l q3).grw g))
  by_cases hC : lt (E (tg T r)) (E (tg T l))
  · have FIN := Lib.hid (show ∀ d, 0 < d → d < T.length → (d - 1) / 2 = p → d ≠ r → lt (E (tg T r)) (E (tg T d)) from fun d h1 h2 h3 h4 => by
      obtain rfl : d = l := by omega
      exact hC)
    rw [decide_eq_true hC] at AH
    clear hl hA hr hB hC
    go_enter Try.func59, Try.ntmps59
    go_wp2_with fail
    go_region_held3 (fun w' => w'.cell? ⟨h, 1, none⟩ = some (.slice (some ⟨tb, 0, none⟩) n cap) ∧ w'.cell? ⟨tb, l, none⟩ = some (.pointer (some ⟨tg T l, 0, none⟩)) ∧ w'.cell? ⟨tb, r, none⟩ = some (.pointer (some ⟨tg T r, 0, none⟩))) (first | (exact ⟨‹_›, ‹_›, ‹_›⟩) | go_keep)
      (first
        | (go_at_call 51; refine (AH.out _ (Grw.drew (Grw.refl _))).mono ?_; rintro e w2 ⟨rfl, hG⟩; have z1 := hG.cell (show w.drew.cell? ⟨h, 1, none⟩ = some (.slice (some ⟨tb, 0, none⟩) n cap) from c1); have z2 := hG.cell (show w.drew.cell? ⟨tb, l, none⟩ = some (.pointer (some ⟨tg T l, 0, none⟩)) from tl); have z3 := hG.cell (show w.drew.cell? ⟨tb, r, none⟩ = some (.pointer (some ⟨tg T r, 0, none⟩)) from tr); have G2 := Lib.hid hG; clear hG))
    go_wp2_with fail
    go_ret
    exact ⟨Grw.trans (Grw.drew (Grw.refl _)) G2.out, Or.inr ⟨r, by have := HN.out; omega, by have := HR.out; omega, by have := HR.out; omega, rfl, FIN.out⟩⟩
  · have FIN := Lib.hid (show ∀ d, 0 < d → d < T.length → (d - 1) / 2 = p → d ≠ l → lt (E (tg T l)) (E (tg T d)) from fun d h1 h2 h3 h4 => by
      obtain rfl : d = r := by omega
      exact lt.tot (HD.out.ne _ _ (by have := HN.out; omega) (by have := HN.out; omega) (by omega)) hC)
    rw [decide_eq_false hC] at AH
    clear hl hA hr hB hC
    go_enter Try.func59, Try.ntmps59
    go_wp2_with fail
    go_region_held3 (fun w' => w'.cell? ⟨h, 1, none⟩ = some (.slice (some ⟨tb, 0, none⟩) n cap) ∧ w'.cell? ⟨tb, l, none⟩ = some (.pointer (some ⟨tg T l, 0, none⟩)) ∧ w'.cell? ⟨tb, r, none⟩ = some (.pointer (some ⟨tg T r, 0, none⟩))) (first | (exact ⟨‹_›, ‹_›, ‹_›⟩) | go_keep)
      (first
        | (go_at_call 51; refine (AH.out _ (Grw.drew (Grw.refl _))).mono ?_; rintro e w2 ⟨rfl, hG⟩; have z1 := hG.cell (show w.drew.cell? ⟨h, 1, none⟩ = some (.slice (some ⟨tb, 0, none⟩) n cap) from c1); have z2 := hG.cell (show w.drew.cell? ⟨tb, l, none⟩ = some (.pointer (some ⟨tg T l, 0, none⟩)) from tl); have z3 := hG.cell (show w.drew.cell? ⟨tb, r, none⟩ = some (.pointer (some ⟨tg T r, 0, none⟩)) from tr); have G2 := Lib.hid hG; clear hG))
    go_wp2_with fail
    go_ret
    exact ⟨Grw.trans (Grw.drew (Grw.refl _)) G2.out, Or.inr ⟨l, by have := HN.out; omega, by have := HL.out; omega, by have := HL.out; omega, rfl, FIN.out⟩⟩
end HS
end Go.Proofs.Ytdbfojolocelaaa
