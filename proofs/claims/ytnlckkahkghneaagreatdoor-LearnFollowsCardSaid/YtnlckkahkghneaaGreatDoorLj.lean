/- A learner's miss: fetch. -/
import Derived.Test.YtnlckkahkghneaaGreatDoorLg
import Derived.Test.YtnlckkahkghneaaGreatDoorLi
set_option maxRecDepth 20000
namespace Go.Proofs.YtnlckkahkghneaaGreatDoor.LE
open Go.RowKit Go.Maps Go.WideMaps Sg

/-- A value in a block of its own, beside a learner. -/
structure KB (w : World) (i : Ix) (S : Sx) (B E x : Nat) (v : Value) : Prop where
  cell : w.cell? ⟨x, 0, none⟩ = some v
  out : ¬ tblk i S B E x
section
variable {w w' : World} {i : Ix} {S S' : Sx} {B E x : Nat} {v : Value}
theorem KB.went (n : KB w i S B E x v) (h : Went w w' (tblk i S B E) (tblk i S' B E)) : KB w' i S' B E x v := by
  have hl := World.block_lt_of_cell? _ _ n.cell
  refine ⟨(World.cell?_of_block (a := ⟨x, 0, none⟩) (h.turn.block x hl n.out)).trans n.cell, fun e => ?_⟩
  rcases h.new x e with g | g
  · exact n.out g
  · exact absurd hl (Nat.not_lt.2 g)
theorem KB.below (n : KB w i S B E x v) (h : Below w.heap.size w w') : KB w' i S B E x v := n.went (Went.below h)
end
section
variable (w : World) (i : Ix) (S : Sx) (B E : Nat) (L : List (List Nat)) (lane : Int) (s : St) (b : Nat) (h : LT w i S B E L lane s b)
include h
theorem regret_t (key : ByteArray) (hs : key.size ≤ maxLen) (hb : b ≤ 900) : Calls Tryz.prog 115 #[.pointer (some ⟨i.l, 0, none⟩), .string key] w (TPost (.tuple #[]) w i S B E L lane (s.regret key) b) := by
  by_cases hg : key ∈ s.ghosts
  · rcases List.mem_append.1 hg with hA | hB
    · cases hl : look s.HA key with
      | none => exact absurd hA (look_none.1 hl)
      | some t => exact regret_A w i S B E L lane s b h key t hs hl hb
    · cases hl : look s.HB key with
      | none => exact absurd hB (look_none.1 hl)
      | some t => exact regret_B w i S B E L lane s b h key t hs hl hb
  · exact regret_no w i S B E L lane s b h key hs hg
theorem evict_t (hne : s.A.keys ≠ []) (hb : b ≤ 900) : Calls Tryz.prog 116 #[.pointer (some ⟨i.l, 0, none⟩)] w (TPost (.tuple #[.string s.evV, .bool true]) w i S B E L lane s.evict (b + 1)) := by
  cases hp : s.pick with
  | true => exact evict_A w i S B E L lane s b h hp hne hb
  | false => exact evict_B w i S B E L lane s b h hp hne hb
/-- What a miss tells of who goes. -/
def fV (s : St) (k : ByteArray) : ByteArray := if s.full = true then (s.regret k).evV else ⟨#[]⟩
set_option maxHeartbeats 2000000 in
theorem fetch_t (key : ByteArray) (hs : key.size ≤ maxLen) (hk : key ∉ s.A.keys) (hmo : s.mo ≠ 0) (hb : b ≤ 890) :
    Calls Tryz.prog 66 #[.pointer (some ⟨i.l, 0, none⟩), .string key] w (TPost (.tuple #[.string (fV s key), .bool s.full]) w i S B E L lane ((s.make key).both key) (b + 2)) := by
  obtain ⟨m1, m2, m3⟩ := (make_ok h.ok hmo key).resolve_right hk
  obtain ⟨k1, k2⟩ := make_keys h.ok hmo key
  have hnm : key ∉ (s.make key).A.keys := fun e => by
    cases hf : s.full with
    | true => exact hk (((k1 hf).2.1 key).1 e).1
    | false => exact hk (by rw [k2 hf] at e; exact e)
  have BO := Lib.hid (both_ok m1 hnm m3 (by rw [m2]; exact make_lt h.ok hmo key)).1
  have hb1 := (Below.refl w.heap.size w).alloc (Nat.le_refl _) (.cells #[.string key] 9)
  have h1 := h.below hb1
  have R := Lib.hid (regret_t _ i S B E L lane s b h1 key hs (by omega))
  have X1 := Lib.hid (show KB (w.alloc (.cells #[.string key] 9)) i S B E w.heap.size (.string key) from ⟨sbox_new w _ _, fun e => Nat.lt_irrefl _ (h.lt e)⟩)
  have x1 := X1.out.cell
  have W1 := Lib.hid (Went.below (S := tblk i S B E) hb1)
  obtain ⟨kl, hkl⟩ : ∃ kl, kl = s.keys.length := ⟨_, rfl⟩
  obtain ⟨mm, hmm⟩ : ∃ mm, mm = s.mo := ⟨_, rfl⟩
  have HF := Lib.hid (show s.full = decide (mm ≤ kl) by rw [hkl, hmm]; rfl)
  have HKL := Lib.hid (And.intro hkl hmm)
  have HN := Lib.hid (show s.full = true → (s.regret key).A.keys ≠ [] from fun hf e => by
    have hf2 : s.mo ≤ s.A.keys.length := of_decide_eq_true hf
    have e : s.A.keys = [] := e
    rw [e, List.length_nil] at hf2; omega)
  have HM := Lib.hid (show s.make key = if s.full = true then (s.regret key).evict else s.regret key from rfl)
  have LIM := Lib.hid h.lim
  clear h h1 hb1 m1 m2 m3 k1 k2 hnm hk hkl hmm
  have BTH := Lib.hid (fun (w4 : World) (S4 : Sx) (L4 : List (List Nat)) (m : St) (c : Nat) (hc : c ≤ b + 1) (h4 : LT w4 i S4 B E L4 lane m c) (k4 : KB w4 i S4 B E w.heap.size (.string key)) (om : Ok (m.both key)) =>
    show Calls Tryz.prog 63 #[.pointer (some ⟨i.l, 0, none⟩), .func (.func 117) #[] #[.pointer (some ⟨w.heap.size, 0, none⟩)]] w4 (TPost (.tuple #[]) w4 i S4 B E L4 lane (m.both key) (b + 2)) from
    (both_r w4 i S4 (flOf m B lane) m.A m.B (m.A.ad key) (m.B.ad key) (gk m.HA) (gk m.HB) (fOf m.HA m.HB) (fun _ => c) (fun _ => c + 1) 117 w.heap.size (.string key) h4.raw k4.cell (fun e => k4.out (Or.inl e)) cAdFE (fun _ _ => Nat.le_succ _)
      (fun w1 p U hP hx => cAdF w1 p U m.A c w.heap.size key hP hx hs (by omega)) (fun w1 p U hP hx => cAdF w1 p U m.B c w.heap.size key hP hx hs (by omega))).mono fun e w5 hp => by
        obtain ⟨he, S5, r5, g5, _, _⟩ := hp
        exact h4.post (s' := m.both key) (b' := b + 2) ⟨he, S5, r5.mono (fun _ _ => by omega), g5⟩ om (by
          have l := h4.lim.mono (show c ≤ b + 2 by omega)
          exact ⟨l.mo, l.clock, l.asked, l.hits, l.last, l.still⟩) rfl)
  rw [HM.out] at BO
  have QT := Lib.hid (fun (hf : s.full = true) (e : Ending) (w' : World) (hp : TPost (.tuple #[.string (s.regret key).evV, .bool true]) w i S B E L lane ((s.regret key).evict.both key) (b + 2) e w') => show TPost (.tuple #[.string (fV s key), .bool s.full]) w i S B E L lane ((s.make key).both key) (b + 2) e w' from by
    unfold fV
    rw [HM.out, hf, if_pos rfl, if_pos rfl]
    exact hp)
  have QF := Lib.hid (fun (hf : s.full = false) (e : Ending) (w' : World) (hp : TPost (.tuple #[.string ⟨#[]⟩, .bool false]) w i S B E L lane ((s.regret key).both key) (b + 2) e w') => show TPost (.tuple #[.string (fV s key), .bool s.full]) w i S B E L lane ((s.make key).both key) (b + 2) e w' from by
    unfold fV
    rw [HM.out, hf, if_neg (by simp), if_neg (by simp)]
    exact hp)
  generalize TPost (.tuple #[.string (fV s key), .bool s.full]) w i S B E L lane ((s.make key).both key) (b + 2) = Q at *
  cases hf : s.full with
  | true =>
    have e0 : decide (mm ≤ kl) = true := HF.out.symm.trans hf
    rw [if_pos hf] at BO
    have FF := Lib.hid hf
    clear hf
    go_enter Tryz.func66, Tryz.ntmps66
    go_wp2_with fail
    refine R.out.mono ?_
    rintro e w2 ⟨rfl, S2, L2, h2, hL2, g2⟩
    have X2 := Lib.hid (X1.out.went g2)
    have P2 := Lib.hid (And.intro h2 (And.intro hL2 (W1.out.trans g2)))
    have d1 := h2.cm
    have hd2 := h2.below (FX.bdrew (Below.refl _ _) 1)
    have U := Lib.hid (show Calls Tryz.prog 33 #[.pointer (some ⟨i.l, 0, none⟩)] w2.drew (Told (.int .i64 (kl : Int)) w2.drew) from by
      have := len_t w2.drew i S2 B E L2 lane (s.regret key) b hd2
      rw [show (s.regret key).keys.length = kl from HKL.out.1.symm] at this
      exact this)
    have hmo2 : (s.regret key).mo = mm := HKL.out.2.symm
    rw [hmo2] at d1
    clear h2 hL2 g2 hd2 hmo2 R X1 x1 W1
    go_wp2_with fail
    go_region_held3 (fun w' => w'.cell? ⟨i.l, 1, none⟩ = some (.int .i64 (mm : Int))) (first | (with_reducible exact y1) | (with_reducible exact d1) | go_keep)
      ((go_at_call 33; refine U.out.mono ?_; rintro e w3 ⟨rfl, hB⟩; have P3 := Lib.hid (And.intro (P2.out.1.below (((Below.refl w2.heap.size w2).drew).trans hB)) (And.intro P2.out.2.1 (And.intro (P2.out.2.2.trans (Went.below (((Below.refl w2.heap.size w2).drew).trans hB))) (X2.out.below (((Below.refl w2.heap.size w2).drew).trans hB))))); have y1 : w3.cell? ⟨i.l, 1, none⟩ = some (.int .i64 (mm : Int)) := (by have := P3.out.1.cm; rw [show (s.regret key).mo = mm from HKL.out.2.symm] at this; exact this); clear hB U))
    clear y1 d1 P2 X2
    have EV := Lib.hid (evict_t w3 i S2 B E L2 lane (s.regret key) b P3.out.1 (HN.out FF.out) (by omega))
    generalize (s.regret key).evV = vk at *
    go_wp2_with fail
    refine EV.out.mono ?_
    rintro e w4 ⟨rfl, S4, L4, h4, hL4, g4⟩
    have BB := Lib.hid (BTH.out w4 S4 L4 _ (b + 1) (Nat.le_refl _) h4 (P3.out.2.2.2.went g4) BO.out)
    have P4 := Lib.hid (And.intro (fun (j : Int) (hj : j ≠ lane) => (hL4 j hj).trans (P3.out.2.1 j hj)) (P3.out.2.2.1.trans g4))
    clear h4 hL4 g4 EV P3 BTH
    go_wp2_with fail
    refine BB.out.mono ?_
    intro e w5 hp
    obtain ⟨rfl, h5⟩ := TPost.trans P4.out.2 P4.out.1 hp
    have H5 := Lib.hid h5
    clear h5 hp BB P4
    go_wp2_with fail
    exact QT.out FF.out _ _ ⟨rfl, H5.out⟩
  | false =>
    have e0 : decide (mm ≤ kl) = false := HF.out.symm.trans hf
    rw [if_neg (by rw [hf]; simp)] at BO
    have FF := Lib.hid hf
    clear hf
    go_enter Tryz.func66, Tryz.ntmps66
    go_wp2_with fail
    refine R.out.mono ?_
    rintro e w2 ⟨rfl, S2, L2, h2, hL2, g2⟩
    have X2 := Lib.hid (X1.out.went g2)
    have P2 := Lib.hid (And.intro h2 (And.intro hL2 (W1.out.trans g2)))
    have d1 := h2.cm
    have hd2 := h2.below (FX.bdrew (Below.refl _ _) 1)
    have U := Lib.hid (show Calls Tryz.prog 33 #[.pointer (some ⟨i.l, 0, none⟩)] w2.drew (Told (.int .i64 (kl : Int)) w2.drew) from by
      have := len_t w2.drew i S2 B E L2 lane (s.regret key) b hd2
      rw [show (s.regret key).keys.length = kl from HKL.out.1.symm] at this
      exact this)
    have hmo2 : (s.regret key).mo = mm := HKL.out.2.symm
    rw [hmo2] at d1
    clear h2 hL2 g2 hd2 hmo2 R X1 x1 W1
    go_wp2_with fail
    go_region_held3 (fun w' => w'.cell? ⟨i.l, 1, none⟩ = some (.int .i64 (mm : Int))) (first | (with_reducible exact y1) | (with_reducible exact d1) | go_keep)
      ((go_at_call 33; refine U.out.mono ?_; rintro e w3 ⟨rfl, hB⟩; have P3 := Lib.hid (And.intro (P2.out.1.below (((Below.refl w2.heap.size w2).drew).trans hB)) (And.intro P2.out.2.1 (And.intro (P2.out.2.2.trans (Went.below (((Below.refl w2.heap.size w2).drew).trans hB))) (X2.out.below (((Below.refl w2.heap.size w2).drew).trans hB))))); have y1 : w3.cell? ⟨i.l, 1, none⟩ = some (.int .i64 (mm : Int)) := (by have := P3.out.1.cm; rw [show (s.regret key).mo = mm from HKL.out.2.symm] at this; exact this); clear hB U))
    clear y1 d1 P2 X2
    have BB := Lib.hid (BTH.out w3 S2 L2 _ b (by omega) P3.out.1 P3.out.2.2.2 BO.out)
    have P4 := Lib.hid (And.intro P3.out.2.1 P3.out.2.2.1)
    clear P3 BTH
    go_wp2_with fail
    refine BB.out.mono ?_
    intro e w5 hp
    obtain ⟨rfl, h5⟩ := TPost.trans P4.out.2 P4.out.1 hp
    have H5 := Lib.hid h5
    clear h5 hp BB P4
    go_wp2_with fail
    exact QF.out FF.out _ _ ⟨rfl, H5.out⟩
end
end Go.Proofs.YtnlckkahkghneaaGreatDoor.LE
