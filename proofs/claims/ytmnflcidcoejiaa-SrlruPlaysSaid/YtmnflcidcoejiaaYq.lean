/- The contract of cutTo at any closure that keeps to memory of its own. -/
import Derived.Test.YtmnflcidcoejiaaYp
namespace Go.Proofs.Ytmnflcidcoejiaa
open Go.RowKit Sg

section
variable {w W W2 : World} {i : Ix} {S S' S2 : Sx} {X X' : Nat → Prop} {K : List ByteArray → (Nat → Prop) → World → Prop} {cb mo t : Nat} {N A G : List ByteArray} {f : Told} {b j : Nat} {F : FuncId} {p : Addr} {e : Ending} {v : Value}
theorem CAt.below (c : CAt w W i S S' X X' K cb mo t N A G f b j) (sd : Side F p K) (hb : Below W.heap.size W W2) : CAt w W2 i S S' X X' K cb mo t N A G f b j :=
  ⟨⟨c.duo.went.trans (Went.below hb), c.duo.dis, (hb.block _ c.duo.box.lt).trans c.duo.box, c.duo.out⟩, c.raw.below hb, sd.same _ _ _ _ c.side hb.size fun k hk => hb.block k (sd.lt _ _ _ c.side k hk)⟩
/-- Behind Pop. -/
structure CPo (w W : World) (i : Ix) (S S' : Sx) (X X' : Nat → Prop) (K : List ByteArray → (Nat → Prop) → World → Prop) (cb mo t : Nat) (N A G : List ByteArray) (f : Told) (b j : Nat) : Prop where
  duo : Duo w W i S S' X X' cb
  raw : Raw W i S' mo t (N.take (N.length - (j + 1))) (A.take (A.length + N.length - (j + 1))) ((A ++ N).drop (A.length + N.length - j) ++ G) f b
  side : K ((A ++ N).reverse.take j) X' W
theorem CAt.pop (c : CAt w W i S S' X X' K cb mo t N A G f b j) (sd : Side F p K) (hj : j < A.length + N.length)
    (hp : RPost v W i S' mo t (N.take (N.length - j)).dropLast (dA (N.take (N.length - j)) (A.take (A.length + N.length - j))) ((A ++ N).drop (A.length + N.length - j) ++ G) f b e W2) : e = .returned v ∧ ∃ S2, CPo w W2 i S S2 X X' K cb mo t N A G f b j := by
  obtain ⟨he, S2, r2, hW⟩ := hp
  rw [(gone_step hj).2.2.1, (gone_step hj).2.2.2] at r2
  obtain ⟨d2, q⟩ := c.duo.cache (sd.lt _ _ _ c.side) hW
  exact ⟨he, S2, d2, r2, sd.same _ _ _ _ c.side hW.turn.size q⟩
/-- .. and behind Front at the ghosts. -/
structure CFr (w W : World) (i : Ix) (S S' : Sx) (X X' : Nat → Prop) (K : List ByteArray → (Nat → Prop) → World → Prop) (cb mo t : Nat) (N A G : List ByteArray) (f : Told) (b j : Nat) : Prop where
  duo : Duo w W i S S' X X' cb
  raw : Raw W i S' mo t (N.take (N.length - (j + 1))) (A.take (A.length + N.length - (j + 1))) ((A ++ N).drop (A.length + N.length - (j + 1)) ++ G) f b
  side : K ((A ++ N).reverse.take j) X' W
theorem CPo.front (c : CPo w W i S S' X X' K cb mo t N A G f b j) (sd : Side F p K) (hj : j < A.length + N.length)
    (hp : LPost v W i.g S'.g ((A ++ N).getD (A.length + N.length - (j + 1)) ⟨#[]⟩ :: ((A ++ N).drop (A.length + N.length - j) ++ G)) b e W2) : e = .returned v ∧ ∃ S2, CFr w W2 i S S2 X X' K cb mo t N A G f b j := by
  obtain ⟨he, S2, r2, hW⟩ := c.raw.onG hp (Nat.le_refl _)
  obtain ⟨d2, q⟩ := c.duo.cache (sd.lt _ _ _ c.side) hW
  have hg := gone_row (L := A ++ N) (j := j) (by rw [List.length_append]; exact hj)
  rw [List.length_append] at hg
  rw [← List.cons_append, ← hg.1] at r2
  exact ⟨he, S2, d2, r2, sd.same _ _ _ _ c.side hW.turn.size q⟩
theorem CFr.take (c : CFr w W i S S' X X' K cb mo t N A G f b j) (hj : j < A.length + N.length) {X2 : Nat → Prop} (hk : K ((A ++ N).reverse.take j ++ [(A ++ N).getD (A.length + N.length - (j + 1)) ⟨#[]⟩]) X2 W2) (hW : Went W W2 X' X2) :
    CAt w W2 i S S' X X2 K cb mo t N A G f b (j + 1) := by
  obtain ⟨d2, q⟩ := c.duo.side (fun k hk => c.raw.lt hk) hW
  have hg := gone_row (L := A ++ N) (j := j) (by rw [List.length_append]; exact hj)
  rw [List.length_append] at hg
  rw [← hg.2] at hk
  exact ⟨d2, c.raw.kept hW.turn.size q, hk⟩
end

theorem GRel.post {w W W4 : World} {i : Ix} {S S' : Sx} {X X' : Nat → Prop} {K : List ByteArray → (Nat → Prop) → World → Prop} {cb mo t : Nat} {N A G : List ByteArray} {f : Told} {b j : Nat} {F : FuncId} {p : Addr} (c : CAt w W i S S' X X' K cb mo t N A G f b j) (sd : Side F p K)
    (g : GRel W cb i S' mo t (N.take (N.length - j)) (A.take (A.length + N.length - j)) ((A ++ N).drop (A.length + N.length - j) ++ G) f b (min mo ((A ++ N).drop (A.length + N.length - j) ++ G).length) W4) : CuPost w i S X K mo t N A G f b j (.returned (.tuple #[])) W4 := by
  obtain ⟨S4, r4, hW, _, _⟩ := g
  obtain ⟨d4, q⟩ := c.duo.cache (sd.lt _ _ _ c.side) hW
  unfold CuPost
  generalize (A ++ N).drop (A.length + N.length - j) ++ G = Q at *
  have h1 : Q.take (min mo Q.length) = Q.take mo := by
    by_cases h : mo ≤ Q.length
    · rw [Nat.min_eq_left h]
    · rw [Nat.min_eq_right (by omega), List.take_length, List.take_of_length_le (by omega)]
  have h2 : Q.drop (min mo Q.length) = Q.drop mo := by
    by_cases h : mo ≤ Q.length
    · rw [Nat.min_eq_left h]
    · rw [Nat.min_eq_right (by omega), List.drop_length, List.drop_of_length_le (by omega)]
  rw [h1, h2] at r4
  exact ⟨rfl, S4, X', r4, sd.same _ _ _ _ c.side hW.turn.size q, d4.went, d4.dis⟩

def CRel (w : World) (i : Ix) (S : Sx) (X : Nat → Prop) (K : List ByteArray → (Nat → Prop) → World → Prop) (cb mo t : Nat) (N A G : List ByteArray) (f : Told) (b n k : Nat) (W : World) : Prop :=
  ∃ S' X' j, j + k = n ∧ CAt w W i S S' X X' K cb mo t N A G f b j

set_option maxHeartbeats 2000000 in
theorem cutTo_any (w : World) (i : Ix) (S : Sx) (mo t : Nat) (N A G : List ByteArray) (f : Told) (b left : Nat) (X : Nat → Prop) (K : List ByteArray → (Nat → Prop) → World → Prop) (F : FuncId) (p : Addr) (r : Raw w i S mo t N A G f b) (k : K [] X w) (hdis : ∀ k, X k → ¬ blk i S k) (sd : Side F p K)
    (nd : (A ++ N ++ G).Nodup) (hl : A.length + N.length + G.length ≤ b) (hb : b ≤ 990) :
    Calls Try.prog 42 #[.pointer (some ⟨i.c, 0, none⟩), .int .i64 (left : Int), .func (.func F) #[] #[.pointer (some p)]] w (CuPost w i S X K mo t N A G f b (A.length + N.length - left)) := by
  obtain ⟨k1, hn, r1, hb1⟩ := cb_start r
  have C0 : CAt w (w.alloc (.cells #[.pointer (some ⟨i.c, 0, none⟩)] 25)) i S S X X K w.heap.size mo t N A G f b 0 := by
    refine ⟨⟨Went.below hb1, hdis, k1, fun h => ?_⟩, ?_, ?_⟩
    · rcases h with h | h
      · exact hn h
      · have := sd.lt _ _ _ k _ h; omega
    · rw [Nat.sub_zero, Nat.sub_zero, List.take_length, List.take_of_length_le (by omega), List.drop_of_length_le (by rw [List.length_append]; omega), List.nil_append]; exact r1
    · exact sd.same _ _ _ _ k hb1.size fun k' hk => hb1.block k' (sd.lt _ _ _ k k' hk)
  have HC := Lib.hid C0
  have SD := Lib.hid sd
  have hF := sd.enter
  have hsm := Lib.hid (show ∀ x ∈ A ++ N, x.size ≤ maxLen from fun x hx => by
    rcases List.mem_append.1 hx with h | h
    · exact r.a.small _ h
    · exact r.n.small _ h)
  have ND := Lib.hid nd
  clear r k hdis sd k1 hn r1 hb1 C0 nd
  go_enter Try.func42, Try.ntmps42
  go_wp2_with fail
  obtain ⟨cb, hcb⟩ : ∃ cb, cb = w.heap.size := ⟨_, rfl⟩
  rw [← hcb] at HC ⊢
  clear hcb
  go_loopg [] (A.length + N.length - left) (fun k W => CRel w i S X K cb mo t N A G f b (A.length + N.length - left) k W)
  case atStart => exact ⟨S, X, 0, by omega, HC.out⟩
  case round =>
    obtain ⟨S', X', j, hj, C⟩ := hrel
    have K0 := C.duo.box.cell
    have U := lenY wr i S' mo t _ _ _ f b C.raw
    rw [List.length_take, List.length_take] at U
    obtain ⟨q, hq⟩ : ∃ q, q = min (N.length - j) N.length + min (A.length + N.length - j) A.length := ⟨_, rfl⟩
    rw [← hq] at U
    have U := Lib.hid U
    have CC := Lib.hid C
    have HQ := Lib.hid hq
    have HJ := Lib.hid hj
    cases gk with
    | zero =>
      have e0 : decide (left < q) = false := by simp; omega
      clear C HC hq hj
      go_wp2_with fail
      refine U.out.mono ?_
      rintro e w1 ⟨rfl, m, hm⟩
      have C1 := Lib.hid (show CAt w w1 i S S' X X' K cb mo t N A G f b j from hm ▸ CC.out.below SD.out (below_drewN wr m))
      have K1 := C1.out.duo.box.cell
      clear hm CC U K0
      obtain rfl : j = A.length + N.length - left := HJ.out
      obtain ⟨c0, _, _, _, c4, _⟩ := C1.out.raw.cells
      obtain ⟨d, hd⟩ : ∃ d, d = A.length + N.length - left := ⟨_, rfl⟩
      rw [← hd] at C1
      have HD := Lib.hid hd
      clear hd HJ HQ
      have V := Lib.hid (fun (W : World) (g : Below w1.heap.size w1 W) => forget_any W cb i S' mo t _ _ _ f b mo (C1.out.below SD.out g).raw (C1.out.below SD.out g).duo.box (fun h => C1.out.duo.out (Or.inl h)))
      go_wp2_with fail
      have D0 := Lib.hid (show Below w1.heap.size w1 w1.drew from ⟨rfl, rfl, rfl, Nat.le_refl _, fun _ _ => rfl⟩)
      go_region_held3 (fun w' => w'.cell? ⟨cb, 0, none⟩ = some (.pointer (some ⟨i.c, 0, none⟩)) ∧ w'.cell? ⟨i.c, 0, none⟩ = some (.int .i64 (mo : Int)) ∧ w'.cell? ⟨i.c, 4, none⟩ = some (.pointer (some ⟨i.g, 0, none⟩))) (first | (exact ⟨Z0, z1, z4⟩) | (exact ⟨K1, c0, c4⟩) | go_keep)
        ((go_at_call 62; refine (V.out _ D0.out).mono ?_; rintro e w4 ⟨rfl, hg⟩; have P4 := Lib.hid (GRel.post (C1.out.below SD.out D0.out) SD.out hg); obtain ⟨S4, r4, _, hk4, _⟩ := hg; have Z0 := hk4.cell; obtain ⟨z1, _, _, _, z4, _⟩ := r4.cells; clear r4 hk4))
      all_goals
        go_wp2_with fail
        go_end0
        rw [← HD.out]; exact P4.out
    | succ gk =>
      have e0 : decide (left < q) = true := by simp; omega
      have hjl : j < A.length + N.length := by omega
      clear C HC hq hj
      go_wp2_with fail
      refine U.out.mono ?_
      rintro e w1 ⟨rfl, m, hm⟩
      have C1 := Lib.hid (show CAt w w1 i S S' X X' K cb mo t N A G f b j from hm ▸ CC.out.below SD.out (below_drewN wr m))
      have K1 := C1.out.duo.box.cell
      clear hm CC U K0
      have U1 := Lib.hid (leavingY w1 i S' mo t _ _ _ f b C1.out.raw)
      have U2 := popY w1 i S' mo t _ _ _ f b C1.out.raw
      rw [(gone_step hjl).1, (gone_step hjl).2.1] at U2
      have hx : (A ++ N).getD (A.length + N.length - (j + 1)) ⟨#[]⟩ ∈ A ++ N := getD_in (by rw [List.length_append]; omega)
      have hxs := hsm.out _ hx
      obtain ⟨x, hxe⟩ : ∃ x, x = (A ++ N).getD (A.length + N.length - (j + 1)) ⟨#[]⟩ := ⟨_, rfl⟩
      rw [← hxe] at U2 hx hxs
      have HX := Lib.hid hxe
      generalize (if N.take (N.length - j) = [] then i.a else i.n) = l at U1 U2
      have U2 := Lib.hid U2
      clear hxe hx
      go_wp2_with fail
      refine U1.out.mono ?_
      rintro e w1 ⟨rfl, rfl⟩
      go_wp2_with fail
      refine U2.out.mono ?_
      intro e w2 hp
      obtain ⟨rfl, S2, C2⟩ := C1.out.pop SD.out hjl hp
      have P2 := Lib.hid C2
      have K2 := C2.duo.box.cell
      obtain ⟨_, _, _, _, c4, _⟩ := C2.raw.cells
      have hng : x ∉ (A ++ N).drop (A.length + N.length - j) ++ G := by
        have hg := (gone_row (L := A ++ N) (j := j) (by rw [List.length_append]; exact hjl)).1
        rw [List.length_append] at hg
        have h1 : ((A ++ N).drop (A.length + N.length - (j + 1)) ++ G).Nodup := ND.out.sublist ((List.drop_sublist _ _).append_right G)
        rw [hg, List.cons_append] at h1
        rw [HX.out]
        exact (List.nodup_cons.1 h1).1
      have V := Lib.hid (ls_front_new w2 i.g S2.g _ b C2.raw.g x b hng hxs hb (Nat.le_refl _) (by rw [List.length_append, List.length_drop, List.length_append]; omega))
      clear hp C2 hng U1 U2 C1 K1
      go_wp2_with fail
      refine V.out.mono ?_
      intro e w3 hp
      rw [HX.out] at hp
      obtain ⟨rfl, S3, C3⟩ := P2.out.front SD.out hjl hp
      have P3 := Lib.hid C3
      have K3 := C3.duo.box.cell
      have Z := Lib.hid (SD.out.call _ _ _ x C3.side (by rw [List.length_take, List.length_reverse, List.length_append]; omega) hxs)
      clear hp C3 V P2 K2 c4
      go_wp2_with fail
      refine Z.out.mono ?_
      rintro e w4 ⟨rfl, X4, hk, hW⟩
      rw [HX.out] at hk
      have P4 := Lib.hid (P3.out.take hjl hk hW)
      clear hk hW Z
      go_wp2_with fail
      go_roundg gk
      case measure => omega
      case rel => exact ⟨S3, X4, j + 1, by have := HJ.out; omega, P4.out⟩
end Go.Proofs.Ytmnflcidcoejiaa
