/- The contracts of cutRow at both its closures, of promote, and of cutTo at any closure. -/
import Derived.Test.YtmnflcidcoejiaaYd
import Derived.Deep.LoopGhost
namespace Go.Proofs.Ytmnflcidcoejiaa
open Go.RowKit Sg

set_option maxHeartbeats 1000000 in
theorem cutRow_any (w : World) (l m j0 : Nat) (F : FuncId) (hF : ∀ args w, (callFunc F args).run Try.prog w = .ok (.enter F args) w) (p : Addr) (I : Nat → World → Prop) (h0 : I j0 w)
    (hlen : ∀ j W, I j W → Calls Try.prog 60 #[.pointer (some ⟨l, 0, none⟩)] W (IntPost (j : Int) W))
    (hpop : ∀ j W, j < j0 → I (j + 1) W → Calls Try.prog 52 #[.pointer (some ⟨l, 0, none⟩)] W (fun e w' => ∃ x, e = .returned (.tuple #[.string x, .bool true]) ∧ Calls Try.prog F #[.string x, .pointer (some p)] w' (fun e w2 => e = .returned (.tuple #[]) ∧ I j w2))) :
    Calls Try.prog 62 #[.pointer (some ⟨l, 0, none⟩), .int .i64 (m : Int), .func (.func F) #[] #[.pointer (some p)]] w (fun e w' => e = .returned (.tuple #[]) ∧ I (min m j0) w') := by
  have H0 := Lib.hid h0
  have HL := Lib.hid hlen
  have HP := Lib.hid hpop
  clear h0 hlen hpop
  go_enter Try.func62, Try.ntmps62
  go_wp2_with fail
  go_loopg [] (j0 - m) (fun k W => k ≤ j0 - m ∧ I (min m j0 + k) W)
  case atStart => exact ⟨Nat.le_refl _, by rw [show min m j0 + (j0 - m) = j0 by omega]; exact H0.out⟩
  case round =>
    obtain ⟨hk, hI⟩ := hrel
    have U := Lib.hid (HL.out _ _ hI)
    have II := Lib.hid hI
    obtain ⟨q, hq⟩ : ∃ q, q = min m j0 + gk := ⟨_, rfl⟩
    rw [← hq] at U
    have HQ := Lib.hid hq
    clear hI
    cases gk with
    | zero =>
      have e0 : decide (m < q) = false := by simp; omega
      clear hq
      go_wp2_with fail
      refine U.out.mono ?_
      rintro e wr ⟨rfl, rfl⟩
      go_wp2_with fail
      go_end0
      exact ⟨rfl, II.out⟩
    | succ gk =>
      have e0 : decide (m < q) = true := by simp; omega
      have V := Lib.hid (HP.out (min m j0 + gk) _ (by omega) II.out)
      clear hq
      go_wp2_with fail
      refine U.out.mono ?_
      rintro e wr ⟨rfl, rfl⟩
      go_wp2_with fail
      refine V.out.mono ?_
      rintro e w2 ⟨x, rfl, hF⟩
      have Z := Lib.hid hF
      clear hF U V
      go_wp2_with fail
      refine Z.out.mono ?_
      rintro e w3 ⟨rfl, hI⟩
      have I3 := Lib.hid hI
      clear hI Z
      go_wp2_with fail
      go_roundg gk
      case measure => omega
      case rel => exact ⟨by omega, I3.out⟩

/-- The cache's pointer in a variable of its own. -/
def CB (w : World) (cb : Nat) (i : Ix) : Prop := w.heap[cb]? = some (.cells #[.pointer (some ⟨i.c, 0, none⟩)] 25 (0, 0))
theorem CB.lt {w : World} {cb : Nat} {i : Ix} (k : CB w cb i) : cb < w.heap.size := (Array.getElem?_eq_some_iff.1 k).1
theorem CB.cell {w : World} {cb : Nat} {i : Ix} (k : CB w cb i) : w.cell? ⟨cb, 0, none⟩ = some (.pointer (some ⟨i.c, 0, none⟩)) := cell_of_row w _ 0 _ _ _ k
theorem went_out {w w' : World} {S S' : Nat → Prop} {k : Nat} (h : Went w w' S S') (hk : k < w.heap.size) (hn : ¬ S k) : w'.heap[k]? = w.heap[k]? ∧ ¬ S' k :=
  ⟨h.turn.block k hk hn, fun h1 => by rcases h.new k h1 with h | h; exact hn h; omega⟩

theorem cloP (w : World) (cb : Nat) (i : Ix) (S : Sx) (mo t : Nat) (N A G : List ByteArray) (f : Told) (b : Nat) (x : ByteArray) (r : Raw w i S mo t N A G f b) (k : CB w cb i) (hx : x ∉ N) (hs : x.size ≤ maxLen) (hb : b ≤ 990) (hl : N.length + 1 ≤ b) :
    Calls Try.prog 67 #[.string x, .pointer (some ⟨cb, 0, none⟩)] w (RPost (.tuple #[]) w i S mo t (x :: N) A G f b) := by
  have k0 := k.cell
  obtain ⟨_, _, c2, _⟩ := r.cells
  have U := Lib.hid (ls_front_new w i.n S.n N b r.n x b hx hs hb (Nat.le_refl _) hl)
  have HH := Lib.hid r
  clear r k
  go_enter Try.func67, Try.ntmps67
  go_wp2_with fail
  refine U.out.mono ?_
  intro e w1 hp
  have P := Lib.hid (HH.out.onN hp (Nat.le_refl _))
  obtain ⟨rfl, _⟩ := hp
  go_wp2_with fail
  go_end0
  exact P.out
theorem cloG (w : World) (cb : Nat) (i : Ix) (S : Sx) (mo t : Nat) (N A G : List ByteArray) (f : Told) (b : Nat) (x : ByteArray) (r : Raw w i S mo t N A G f b) (k : CB w cb i) (hs : x.size ≤ maxLen) :
    Calls Try.prog 63 #[.string x, .pointer (some ⟨cb, 0, none⟩)] w (RPost (.tuple #[]) w i S mo t N A G (tdel f x) b) := by
  have k0 := k.cell
  obtain ⟨_, _, _, _, _, c5⟩ := r.cells
  obtain ⟨w2, hdel, hO, hg⟩ := r.o.drop hs 0
  have hdel' : ∀ ty, (Builtin.delete_ #[64, 9] ty #[.map (some i.O), .string x]).run Try.prog w = .ok (.tuple #[]) w2 := fun _ => hdel
  have P := Lib.hid (show RPost (.tuple #[]) w i S mo t N A G (tdel f x) b (.returned (.tuple #[])) w2 from ⟨rfl, S, (r.onO hO hg (Nat.le_refl _)).1, (r.onO hO hg (Nat.le_refl _)).2⟩)
  clear r k hdel hO hg
  go_enter Try.func63, Try.ntmps63
  go_wp2_with fail
  go_end0
  exact P.out

theorem fnP : ∀ args w, (callFunc 67 args).run Try.prog w = .ok (.enter 67 args) w := fun args w => by kernel_rfl
theorem fnG : ∀ args w, (callFunc 63 args).run Try.prog w = .ok (.enter 63 args) w := fun args w => by kernel_rfl
theorem take_last {xs : List ByteArray} {j : Nat} (h : j < xs.length) : lastKey (xs.take (j + 1)) = xs.getD j ⟨#[]⟩ ∧ anyKey (xs.take (j + 1)) = true ∧ (xs.take (j + 1)).dropLast = xs.take j := by
  rw [take_snoc xs j ⟨#[]⟩ h]
  refine ⟨by simp [lastKey], ?_, by simp⟩
  unfold anyKey
  cases h2 : xs.take j <;> rfl
theorem drop_cons {xs : List ByteArray} {j : Nat} (h : j < xs.length) : xs.drop j = xs.getD j ⟨#[]⟩ :: xs.drop (j + 1) := by
  rw [List.drop_eq_getElem_cons h, List.getD_eq_getElem?_getD, List.getElem?_eq_getElem h]; rfl
theorem getD_in {xs : List ByteArray} {j : Nat} (h : j < xs.length) : xs.getD j ⟨#[]⟩ ∈ xs := by
  rw [List.getD_eq_getElem?_getD, List.getElem?_eq_getElem h]; exact List.getElem_mem h
theorem tcut_next (f : Told) {xs : List ByteArray} {j : Nat} (h : j < xs.length) : tdel (tcut f (xs.drop (j + 1))) (xs.getD j ⟨#[]⟩) = tcut f (xs.drop j) := by
  rw [drop_cons h]
  generalize xs.getD j ⟨#[]⟩ = k
  funext x
  unfold tdel tcut inn
  by_cases e : x = k
  · rw [if_pos e]; simp [e]
  · rw [if_neg e]
    simp [Ne.symm e]
theorem tcut_nil (f : Told) : tcut f [] = f := by funext x; simp [tcut, inn]

/-- The last ones of A demoted. -/
def PRel (w : World) (cb : Nat) (i : Ix) (S : Sx) (mo t : Nat) (N A G : List ByteArray) (f : Told) (b j : Nat) (W : World) : Prop :=
  ∃ S', Raw W i S' mo t (A.drop j ++ N) (A.take j) G f b ∧ Went w W (blk i S) (blk i S') ∧ CB W cb i ∧ ¬ blk i S' cb
theorem demote_any (w : World) (cb : Nat) (i : Ix) (S : Sx) (mo t : Nat) (N A G : List ByteArray) (f : Told) (b m : Nat) (r : Raw w i S mo t N A G f b) (k : CB w cb i) (hn : ¬ blk i S cb) (hd : (A ++ N).Nodup) (hb : b ≤ 990) (hl : A.length + N.length ≤ b) :
    Calls Try.prog 62 #[.pointer (some ⟨i.a, 0, none⟩), .int .i64 (m : Int), .func (.func 67) #[] #[.pointer (some ⟨cb, 0, none⟩)]] w
      (fun e w' => e = .returned (.tuple #[]) ∧ PRel w cb i S mo t N A G f b (min m A.length) w') := by
  refine cutRow_any w i.a m A.length _ fnP ⟨cb, 0, none⟩ (fun j W => j ≤ A.length ∧ PRel w cb i S mo t N A G f b j W) ?_ ?_ ?_ |>.mono (fun e w' h => ⟨h.1, h.2.2⟩)
  · refine ⟨Nat.le_refl _, S, ?_, Went.refl _ _, k, hn⟩
    rw [List.drop_length, List.take_length]; exact r
  · rintro j W ⟨hj, S', hR, _⟩
    have := ls_len W i.a S'.a _ b hR.a
    rw [List.length_take, Nat.min_eq_left hj] at this
    exact this
  · rintro j W hj ⟨_, S', hR, hW, hK, hN⟩
    have U := ls_pop W i.a S'.a _ b hR.a
    rw [(take_last hj).1, (take_last hj).2.1, (take_last hj).2.2] at U
    refine U.mono ?_
    intro e w1 hp
    obtain ⟨rfl, S1, r1, hW1⟩ := hR.onA hp (Nat.le_refl _)
    have o1 := went_out hW1 hK.lt hN
    have hx : A.getD j ⟨#[]⟩ ∉ A.drop (j + 1) ++ N := by
      have h1 : (A.drop j ++ N).Nodup := hd.sublist ((List.drop_sublist j A).append_right N)
      rw [drop_cons hj, List.cons_append] at h1
      exact (List.nodup_cons.1 h1).1
    refine ⟨_, rfl, (cloP w1 cb i S1 mo t _ _ G f b _ r1 (o1.1.trans hK) hx (r.a.small _ (getD_in hj)) hb ?_).mono ?_⟩
    · rw [List.length_append, List.length_drop]; omega
    rintro e w2 ⟨rfl, S2, r2, hW2⟩
    have o2 := went_out hW2 (Nat.lt_of_lt_of_le hK.lt hW1.turn.size) o1.2
    refine ⟨rfl, by omega, S2, ?_, hW.trans (hW1.trans hW2), o2.1.trans (o1.1.trans hK), o2.2⟩
    rw [drop_cons hj]; exact r2

/-- The last ghosts forgotten. -/
def GRel (w : World) (cb : Nat) (i : Ix) (S : Sx) (mo t : Nat) (N A G : List ByteArray) (f : Told) (b j : Nat) (W : World) : Prop :=
  ∃ S', Raw W i S' mo t N A (G.take j) (tcut f (G.drop j)) b ∧ Went w W (blk i S) (blk i S') ∧ CB W cb i ∧ ¬ blk i S' cb
theorem forget_any (w : World) (cb : Nat) (i : Ix) (S : Sx) (mo t : Nat) (N A G : List ByteArray) (f : Told) (b m : Nat) (r : Raw w i S mo t N A G f b) (k : CB w cb i) (hn : ¬ blk i S cb) :
    Calls Try.prog 62 #[.pointer (some ⟨i.g, 0, none⟩), .int .i64 (m : Int), .func (.func 63) #[] #[.pointer (some ⟨cb, 0, none⟩)]] w
      (fun e w' => e = .returned (.tuple #[]) ∧ GRel w cb i S mo t N A G f b (min m G.length) w') := by
  refine cutRow_any w i.g m G.length _ fnG ⟨cb, 0, none⟩ (fun j W => j ≤ G.length ∧ GRel w cb i S mo t N A G f b j W) ?_ ?_ ?_ |>.mono (fun e w' h => ⟨h.1, h.2.2⟩)
  · refine ⟨Nat.le_refl _, S, ?_, Went.refl _ _, k, hn⟩
    rw [List.drop_length, List.take_length, tcut_nil]; exact r
  · rintro j W ⟨hj, S', hR, _⟩
    have := ls_len W i.g S'.g _ b hR.g
    rw [List.length_take, Nat.min_eq_left hj] at this
    exact this
  · rintro j W hj ⟨_, S', hR, hW, hK, hN⟩
    have U := ls_pop W i.g S'.g _ b hR.g
    rw [(take_last hj).1, (take_last hj).2.1, (take_last hj).2.2] at U
    refine U.mono ?_
    intro e w1 hp
    obtain ⟨rfl, S1, r1, hW1⟩ := hR.onG hp (Nat.le_refl _)
    have o1 := went_out hW1 hK.lt hN
    refine ⟨_, rfl, (cloG w1 cb i S1 mo t _ _ _ _ b _ r1 (o1.1.trans hK) (r.g.small _ (getD_in hj))).mono ?_⟩
    rintro e w2 ⟨rfl, S2, r2, hW2⟩
    have o2 := went_out hW2 (Nat.lt_of_lt_of_le hK.lt hW1.turn.size) o1.2
    refine ⟨rfl, by omega, S2, ?_, hW.trans (hW1.trans hW2), o2.1.trans (o1.1.trans hK), o2.2⟩
    rw [tcut_next f hj] at r2
    exact r2
end Go.Proofs.Ytmnflcidcoejiaa
