/- The calls of a policy by its state. -/
import Derived.Test.YtnlckkahkghneaaGreatDoorPp
set_option maxRecDepth 20000
namespace Go.Proofs.YtnlckkahkghneaaGreatDoor
open Go.RowKit Sg

section
variable (w : World) (p : Nat) (U : Nat → Prop) (st : KSt) (b : Nat) (key : ByteArray) (h : Pc w p U st b)
include h
theorem kind_p : Calls Tryz.prog 235 #[.pointer (some ⟨p, 0, none⟩)] w (Told (.int .i64 (st.kind : Int)) w) := by
  obtain ⟨c, T, rfl, hc, hn, hb⟩ := h
  have c0 := cell_of_row w _ 0 _ _ _ hb
  unfold pcells at c0
  clear hb hc hn
  go_enter Tryz.func235, Tryz.ntmps235
  go_wp2_with fail
  go_ret
  exact ⟨rfl, Below.refl _ _⟩
theorem has_p (hs : key.size ≤ maxLen) : Calls Tryz.prog 85 #[.pointer (some ⟨p, 0, none⟩), .string key] w (Told (.bool (st.has key)) w) := by
  obtain ⟨c, T, rfl, hc, hn, hb⟩ := h
  refine (atHas st.kind_lt w p c key (fun v w' => v = .bool (st.has key) ∧ Below w.heap.size w w') (cell_of_row w _ 2 _ _ _ hb) ((has_k w c T st b key hc hs).mono ?_)).mono ?_
  · rintro e w' ⟨he, hB⟩; exact ⟨_, he, rfl, hB⟩
  · rintro e w' ⟨v, rfl, rfl, hB⟩; exact ⟨rfl, hB⟩
theorem len_p : Calls Tryz.prog 84 #[.pointer (some ⟨p, 0, none⟩)] w (Told (.int .i64 (st.keys.length : Int)) w) := by
  obtain ⟨c, T, rfl, hc, hn, hb⟩ := h
  refine (atLen st.kind_lt w p c (fun v w' => v = .int .i64 (st.keys.length : Int) ∧ Below w.heap.size w w') (cell_of_row w _ 3 _ _ _ hb) ((len_k w c T st b hc).mono ?_)).mono ?_
  · rintro e w' ⟨he, hB⟩; exact ⟨_, he, rfl, hB⟩
  · rintro e w' ⟨v, rfl, rfl, hB⟩; exact ⟨rfl, hB⟩
theorem keys_p : Calls Tryz.prog 83 #[.pointer (some ⟨p, 0, none⟩)] w (RowPost st.keys w) := by
  obtain ⟨c, T, rfl, hc, hn, hb⟩ := h
  refine (atKeys st.kind_lt w p c (fun v w' => Own w' w.heap.size v st.keys ∧ Below w.heap.size w w') (cell_of_row w _ 10 _ _ _ hb) ((keys_k w c T st b hc).mono ?_)).mono ?_
  · rintro e w' ⟨v, he, h1, h2⟩; exact ⟨v, he, h1, h2⟩
  · rintro e w' ⟨v, he, h1, h2⟩; exact ⟨v, he, h1, h2⟩
theorem ghosts_p : Calls Tryz.prog 234 #[.pointer (some ⟨p, 0, none⟩)] w (RowPost st.ghosts w) := by
  obtain ⟨c, T, rfl, hc, hn, hb⟩ := h
  refine (atGhosts st.kind_lt w p c (fun v w' => Own w' w.heap.size v st.ghosts ∧ Below w.heap.size w w') (cell_of_row w _ 11 _ _ _ hb) ((ghosts_k w c T st b hc).mono ?_)).mono ?_
  · rintro e w' ⟨v, he, h1, h2⟩; exact ⟨v, he, h1, h2⟩
  · rintro e w' ⟨v, he, h1, h2⟩; exact ⟨v, he, h1, h2⟩
theorem victim_p : Calls Tryz.prog 81 #[.pointer (some ⟨p, 0, none⟩)] w (Told (.tuple #[.string st.vic, .bool st.any]) w) := by
  obtain ⟨c, T, rfl, hc, hn, hb⟩ := h
  exact atVictim st.kind_lt w p c st.vic st.any (fun w' => Below w.heap.size w w') (cell_of_row w _ 7 _ _ _ hb) (victim_k w c T st b hc)
theorem drop_p : Calls Tryz.prog 233 #[.pointer (some ⟨p, 0, none⟩)] w (PPost (.tuple #[.string st.vic, .bool st.any]) w p U st.dr b) := by
  obtain ⟨c, T, rfl, hc, hn, hb⟩ := h
  refine (atDrop st.kind_lt w p c st.vic st.any (fun w' => ∃ T', KCa w' c T' st.dr b ∧ Went w w' T T') (cell_of_row w _ 8 _ _ _ hb) (drop_k w c T st b hc)).mono ?_
  intro e w' q
  exact KPost.pol q hb hn (KSt.kind_dr st) (KSt.mo_dr st)
theorem remove_p (hs : key.size ≤ maxLen) : Calls Tryz.prog 71 #[.pointer (some ⟨p, 0, none⟩), .string key] w (PPost (.bool (st.has key)) w p U (st.rm key) b) := by
  obtain ⟨c, T, rfl, hc, hn, hb⟩ := h
  refine (atRemove st.kind_lt w p c key (fun v w' => v = .bool (st.has key) ∧ ∃ T', KCa w' c T' (st.rm key) b ∧ Went w w' T T') (cell_of_row w _ 5 _ _ _ hb) ((remove_k w c T st b key hc hs).mono ?_)).mono ?_
  · rintro e w' ⟨he, h1⟩; exact ⟨_, he, rfl, h1⟩
  · rintro e w' ⟨v, he, rfl, h1⟩
    exact KPost.pol ⟨he, h1⟩ hb hn (KSt.kind_rm st key) (KSt.mo_rm st key)
theorem adopt_p (hs : key.size ≤ maxLen) (hB : b ≤ 900) : Calls Tryz.prog 76 #[.pointer (some ⟨p, 0, none⟩), .string key] w (PPost (.bool (st.adB key)) w p U (st.ad key) (b + 1)) := by
  obtain ⟨c, T, rfl, hc, hn, hb⟩ := h
  refine (atAdopt st.kind_lt w p c key (fun v w' => v = .bool (st.adB key) ∧ ∃ T', KCa w' c T' (st.ad key) (b + 1) ∧ Went w w' T T') (cell_of_row w _ 6 _ _ _ hb) ((adopt_k w c T st b key hc hs hB).mono ?_)).mono ?_
  · rintro e w' ⟨he, h1⟩; exact ⟨_, he, rfl, h1⟩
  · rintro e w' ⟨v, he, rfl, h1⟩
    exact KPost.pol ⟨he, h1⟩ hb hn (KSt.kind_ad st key) (KSt.mo_ad st key)
end
end Go.Proofs.YtnlckkahkghneaaGreatDoor
