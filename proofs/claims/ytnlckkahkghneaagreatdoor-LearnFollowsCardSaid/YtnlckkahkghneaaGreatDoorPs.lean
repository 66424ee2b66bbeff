/- Request of a policy, Resize, New; the names. -/
import Derived.Test.YtnlckkahkghneaaGreatDoorPr
set_option maxRecDepth 20000
namespace Go.Proofs.YtnlckkahkghneaaGreatDoor
open Go.RowKit Sg

abbrev zStep : Obj := .cells #[.bool false, .string ⟨#[]⟩, .bool false] 57
theorem atRequest {k : Nat} (hk : k < 5) (w : World) (p c : Nat) (key : ByteArray) (x : Bool) (s : ByteArray) (o : Bool) (Q : World → Prop) (h2 : (w.alloc zStep).cell? ⟨p, 4, none⟩ = some (mV k c "Request"))
    (U : Calls Tryz.prog (fRequest k) #[.pointer (some ⟨c, 0, none⟩), .string key] (w.alloc zStep) (fun e w' => e = .returned (.agg #[.bool x, .string s, .bool o]) ∧ LR.Box w' w.heap.size false ⟨#[]⟩ false ∧ Q w')) :
    Calls Tryz.prog 65 #[.pointer (some ⟨p, 0, none⟩), .string key] w (fun e w' => e = .returned (.agg #[.bool x, .string s, .bool o]) ∧
      ∃ w1, Q w1 ∧ w' = ((w1.setCell ⟨w.heap.size, 0, none⟩ (.bool x)).setCell ⟨w.heap.size, 1, none⟩ (.string s)).setCell ⟨w.heap.size, 2, none⟩ (.bool o)) := by
  have me := meRequest hk ⟨c, 0, none⟩
  have na := naRequest hk ⟨c, 0, none⟩
  have cf := cfRequest hk
  have U := Lib.hid U
  unfold mV cI at h2
  generalize fRequest k = fn at *
  generalize tC k = tn at *
  clear hk
  go_enter Tryz.func65, Tryz.ntmps65
  go_wp2_with fail
  refine U.out.mono ?_
  rintro e w1 ⟨rfl, hB, hQ⟩
  have B := Lib.hid (hB.put x o s)
  have f0 := frozen_of_row w1 _ 0 _ _ hB
  obtain ⟨k0, k1, k2, f1, f2⟩ := hB.cells
  clear hB
  go_wp2_with fail
  refine bodyPost_ret (LR.results_c rfl _ _ _ ⟨w.heap.size, 0, none⟩ _ rfl (LR.load_step B.out)) rfl ?_
  exact ⟨rfl, w1, hQ, rfl⟩
theorem put_turn9 (W : World) (z : Nat) (h o : Bool) (s : ByteArray) : Turn (fun k => k = z) W (((W.setCell ⟨z, 0, none⟩ (.bool h)).setCell ⟨z, 1, none⟩ (.string s)).setCell ⟨z, 2, none⟩ (.bool o)) :=
  (((Turn.refl (fun k => k = z) W).setCell (p := ⟨z, 0, none⟩) (Or.inl rfl) _).setCell (p := ⟨z, 1, none⟩) (Or.inl rfl) _).setCell (p := ⟨z, 2, none⟩) (Or.inl rfl) _
theorem request_p (w : World) (p : Nat) (U : Nat → Prop) (st : KSt) (b : Nat) (key : ByteArray) (h : Pc w p U st b) (hs : key.size ≤ maxLen) (hB : b ≤ 900) :
    Calls Tryz.prog 65 #[.pointer (some ⟨p, 0, none⟩), .string key] w (PPost (st.step key) w p U (st.req key) (b + 1)) := by
  have hb0 := (Below.refl w.heap.size w).alloc (Nat.le_refl _) zStep
  have h' := h.below hb0
  have hlt : ∀ k, U k → k < w.heap.size := fun _ hk => h.lt hk
  obtain ⟨c, T, rfl, hc, hn, hx⟩ := h'
  have hbx : LR.Box (w.alloc zStep) w.heap.size false ⟨#[]⟩ false := heap_alloc_new _ _
  have hnT : ¬ T w.heap.size := fun e => by have := hlt _ (Or.inr e); omega
  have hsz : (w.alloc zStep).heap.size = w.heap.size + 1 := by simp
  refine (atRequest st.kind_lt w p c key (st.tell key).1 (st.tell key).2.1 (st.tell key).2.2 (fun w' => ∃ T', KCa w' c T' (st.req key) (b + 1) ∧ Went (w.alloc zStep) w' T T') (cell_of_row _ _ 4 _ _ _ hx) ((request_k _ c T st b key hc hs hB).mono ?_)).mono ?_
  · rintro e w' ⟨he, T', h1, h2⟩
    exact ⟨he, (h2.turn.block _ (by omega) hnT).trans hbx, T', h1, h2⟩
  · rintro e w' ⟨he, w1, hq, rfl⟩
    obtain ⟨_, U', hP, hW⟩ := KPost.pol (e := .returned (.bool true)) (v := .bool true) ⟨rfl, hq⟩ hx hn (KSt.kind_req st key) (KSt.mo_req st key)
    have ht := put_turn9 w1 w.heap.size (st.tell key).1 (st.tell key).2.2 (st.tell key).2.1
    refine ⟨he, U', hP.beside ht ?_, fun k hk => ?_, ?_⟩
    · intro k hk e
      subst e
      rcases hW.new _ hk with h1 | h1
      · have := hlt _ h1; omega
      · omega
    · rcases hW.new k hk with h1 | h1
      · exact Or.inl h1
      · exact Or.inr (by omega)
    · refine ((Turn.of_below (S := fun k => k = p ∨ T k) hb0).trans hW.turn (fun _ _ hk => hk)).trans ht (fun k hk e => ?_)
      omega

/-- What Resize leaves. -/
def RPostP (st : KSt) (n : Nat) (w : World) (p : Nat) (U : Nat → Prop) (b : Nat) (e : Ending) (w' : World) : Prop :=
  ∃ v U', e = .returned (.tuple #[v, .nilIface]) ∧ Own w' w.heap.size v (st.gone n) ∧ Pc w' p U' (st.rs n) b ∧ Went w w' U U' ∧ ∀ g, v.ownBlock = some g → ¬ U' g
theorem resize_p (w : World) (p : Nat) (U : Nat → Prop) (st : KSt) (b : Nat) (n : Nat) (h : Pc w p U st b) (hB : b ≤ 900) (hn16 : n ≤ 16777216) :
    Calls Tryz.prog 78 #[.pointer (some ⟨p, 0, none⟩), .int .i64 (n : Int)] w (RPostP st n w p U b) := by
  have hlt : ∀ k, U k → k < w.heap.size := fun _ hk => h.lt hk
  obtain ⟨c, T, rfl, hc, hn, hx⟩ := h
  have c1 := cell_of_row w _ 1 _ _ _ hx
  have f1 := frozen_of_row w _ 1 _ _ hx
  have hx1 : (w.setCell ⟨p, 1, none⟩ (.int .i64 (n : Int))).heap[p]? = some (.cells (pcells st.kind n c) 154 (0, 0)) := by
    rw [heap_setCell_same _ _ _ _ _ _ hx]; rfl
  have ht : Turn (fun k => k = p) w (w.setCell ⟨p, 1, none⟩ (.int .i64 (n : Int))) := (Turn.refl (fun k => k = p) w).setCell (p := ⟨p, 1, none⟩) (Or.inl rfl) _
  have hsz : (w.setCell ⟨p, 1, none⟩ (.int .i64 (n : Int))).heap.size = w.heap.size := by simp [World.setCell]
  have hc1 : KCa (w.setCell ⟨p, 1, none⟩ (.int .i64 (n : Int))) c T st b := by
    have hd : ∀ k, T k → ¬ (k = p) := fun k hk e => hn (e ▸ hk)
    cases st with
    | lr mo ks => exact LR.Ca.kept hc ht hd
    | lf ch mo n L => exact ⟨LF.Ca.kept hc.1 ⟨ht.os, ht.tape, ht.output, ht.size, ht.block⟩ hd, hc.2⟩
    | sr s => exact SR.Ca.beside hc ht hd
    | ar _ => exact hc.elim
  refine (atResize st.kind_lt w p c n st.mo hn16 (fun v w' => ∃ T', Own w' w.heap.size v (st.gone n) ∧ KCa w' c T' (st.rs n) b ∧ Went (w.setCell ⟨p, 1, none⟩ (.int .i64 (n : Int))) w' T T' ∧ ∀ g, v.ownBlock = some g → ¬ T' g) c1 f1 (cell_of_row _ _ 9 _ _ _ hx1) ((resize_k _ c T st b hc1 (n : Int) (by omega) hB).mono ?_)).mono ?_
  · rintro e w' ⟨v, T', he, h1, h2, h3, h4⟩
    rw [hsz, Int.toNat_natCast] at h1
    rw [Int.toNat_natCast] at h2
    exact ⟨v, he, T', h1, h2, h3, h4⟩
  · rintro e w' ⟨v, he, T', h1, h2, h3, h4⟩
    have hl := heap_lt hx
    have hpT : ¬ T' p := fun ht' => by
      rcases h3.new p ht' with e | e
      · exact hn e
      · rw [hsz] at e; omega
    refine ⟨v, fun k => k = p ∨ T' k, he, h1, ⟨c, T', rfl, h2, hpT, ?_⟩, ⟨fun k hk => ?_, ?_⟩, fun g hg hk => ?_⟩
    · rw [KSt.kind_rs, KSt.mo_rs]; exact (h3.turn.block p (by rw [hsz]; exact hl) hn).trans hx1
    · rcases hk with rfl | hk
      · exact Or.inl (Or.inl rfl)
      · rcases h3.new k hk with e | e
        · exact Or.inl (Or.inr e)
        · rw [hsz] at e; exact Or.inr e
    · exact (ht.wide (S' := fun k => k = p ∨ T k) (fun _ _ hk => Or.inl hk)).trans h3.turn (fun _ _ hk => Or.inr hk)
    · rcases hk with rfl | hk
      · have := (h1.lt hg).2
        omega
      · exact h4 g hg hk
end Go.Proofs.YtnlckkahkghneaaGreatDoor
