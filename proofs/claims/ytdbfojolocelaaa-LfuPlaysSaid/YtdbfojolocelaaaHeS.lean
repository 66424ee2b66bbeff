/- The contract of a heap's settle. -/
import Derived.Test.YtdbfojolocelaaaHfS
import Derived.Deep.LoopGhost
import Derived.Deep.DeepCutAuto
import Derived.Deep.CutBlock
namespace Go.Proofs.Ytdbfojolocelaaa
namespace HS
open Go.RowKit Ht Go.Maps Go.WideMaps

def ord (T : List Nat) (E : Nat → Ent Key) : Nat → Ent Key := fun i => E (tg T i)
theorem ord_sw {T : List Nat} {E : Nat → Ent Key} {i j : Nat} (hi : i < T.length) (hj : j < T.length) : ord (tsw T i j) E = sw (ord T E) i j := by
  funext k
  show E (tg (tsw T i j) k) = _
  rw [tg_tsw hi hj]
  unfold sw ord
  split
  · rfl
  · split <;> rfl
theorem Dis.sw {T : List Nat} {E : Nat → Ent Key} {i j : Nat} (h : Dis T E) (hi : i < T.length) (hj : j < T.length) : Dis (tsw T i j) E := ((tsw_perm hi hj).map _).nodup_iff.2 h

/-- A tree on its way. -/
structure Way (w : World) (h M : Nat) (v : Value) (T0 : List Nat) (E : Nat → Ent Key) (c b : Nat) (W : World) (T : List Nat) (p : Nat) : Prop where
  hold : Holds W h M v T E c
  perm : T.Perm T0
  dis : Dis T E
  lt : p < T.length
  item : tg T p = b
  turn : Turn (Low v T0) w W
theorem Way.swap {w : World} {h M : Nat} {v : Value} {T0 : List Nat} {E : Nat → Ent Key} {c b : Nat} {W : World} {T : List Nat} {p q : Nat} (H : Way w h M v T0 E c b W T p) (hq : q < T.length) {e : Ending} {w' : World} (hp : SwapPost W h M v T E c p q e w') : Way w h M v T0 E c b w' (tsw T p q) q := by
  obtain ⟨_, h1, h2⟩ := hp
  refine ⟨h1, (tsw_perm H.lt hq).trans H.perm, H.dis.sw H.lt hq, by rw [tsw_len]; exact hq, ?_, H.turn.trans h2 (fun k _ hk => ?_)⟩
  · rw [tg_tsw H.lt hq, if_pos rfl]; exact H.item
  · rcases hk with hk | hk
    · exact Or.inl hk
    · exact Or.inr (H.perm.mem_iff.1 hk)
theorem Way.grw {w : World} {h M : Nat} {v : Value} {T0 : List Nat} {E : Nat → Ent Key} {c b : Nat} {W W' : World} {T : List Nat} {p : Nat} (H : Way w h M v T0 E c b W T p) (g : Grw W W') : Way w h M v T0 E c b W' T p := by
  have hb := g.below
  refine ⟨⟨(hb.block _ H.hold.hlt).trans H.hold.own, ?_, fun i hi => (hb.block _ (H.hold.ilt hi)).trans (H.hold.item i hi), H.hold.top, H.hold.ctop⟩, H.perm, H.dis, H.lt, H.item, H.turn.trans (S' := Low v T0) (Turn.of_below hb) (fun _ _ h => h)⟩
  rcases H.hold.tree with hz | ⟨tb, cap, arr, h1, h2, h3⟩
  · exact Or.inl hz
  · exact Or.inr ⟨tb, cap, arr, h1, (hb.block _ (Array.getElem?_eq_some_iff.1 h2).1).trans h2, h3⟩

def Rel1 (w : World) (h M : Nat) (v : Value) (T0 : List Nat) (E : Nat → Ent Key) (c b : Nat) (k : Nat) (W : World) : Prop := ∃ T, Way w h M v T0 E c b W T k ∧ Up T.length (ord T E) k
def Rel2 (w : World) (h M : Nat) (v : Value) (T0 : List Nat) (E : Nat → Ent Key) (c b : Nat) (k : Nat) (W : World) : Prop := ∃ T p, k + p = T.length ∧ Way w h M v T0 E c b W T p ∧ Dn T.length (ord T E) p
def SetPost (w : World) (h M : Nat) (v : Value) (T0 : List Nat) (E : Nat → Ent Key) (c : Nat) (e : Ending) (w' : World) : Prop := e = .returned (.tuple #[]) ∧ ∃ T, Holds w' h M v T E c ∧ T.Perm T0 ∧ Hp T.length (ord T E) ∧ Turn (Low v T0) w w'

set_option maxHeartbeats 4000000 in
set_option maxRecDepth 100000 in
theorem settle_any (w : World) (h M : Nat) (v : Value) (T0 : List Nat) (E : Nat → Ent Key) (c b p0 : Nat) (H : Way w h M v T0 E c b w T0 p0) (hU : Up T0.length (ord T0 E) p0) :
    Calls Try.prog 53 #[.pointer (some ⟨h, 0, none⟩), .pointer (some ⟨b, 0, none⟩)] w (SetPost w h M v T0 E c) := by
  have HH := Lib.hid H
  have HU := Lib.hid hU
  have mixed : Try.prog.follows .mixedOrders = true := by kernel_rfl
  clear H hU
  go_enter Try.func53, Try.ntmps53
  go_upto_block 0 with fail
  go_cut [] (fun W => ∃ k, Rel2 w h M v T0 E c b k W)
  case first =>
    as_aux_lemma =>
    go_wp2_with fail
    go_loopg [] p0 (fun k W => Rel1 w h M v T0 E c b k W)
    case atStart => exact ⟨T0, HH.out, HU.out⟩
    case round =>
      obtain ⟨T, hW, hUp⟩ := hrel
      have HW := Lib.hid hW
      have UP := Lib.hid hUp
      obtain ⟨tb, cap, rfl, hc1, hc2, arr, h2, h3, h6⟩ := hW.hold.at (by have := hW.lt; omega)
      have c1 := hW.hold.c1
      have ht := hW.hold.top
      have hlt := hW.lt
      have c4 := hW.hold.i4 hW.lt
      rw [hW.item] at c4
      obtain ⟨n, hn⟩ : ∃ n, T.length = n := ⟨_, rfl⟩
      have HN := Lib.hid hn
      rw [hn] at c1 hc1 ht hlt
      have TC := Lib.hid (show ∀ i, i < n → wr.cell? ⟨tb, i, none⟩ = some (.pointer (some ⟨tg T i, 0, none⟩)) from fun i hi => (cell_of_row wr _ _ _ _ _ h2).trans (h6 i (by omega)))
      have SE := Lib.hid (show ∀ i, i < n → Seen wr (tg T i) (E (tg T i)) from fun i hi => hW.hold.seen (by omega))
      have HI := Lib.hid hW.item
      unfold maxLen at hc2
      clear hW hUp h2 h3 h6 hn
      by_cases h0 : gk = 0
      · subst h0
        go_wp2_with fail
        go_quiet (fail)
        go_wp2_with fail
        go_meet
        exact ⟨_, T, 0, Nat.add_zero _, HW.out.grw ((Grw.refl _).drewN _), UP.out.stop (Or.inl rfl)⟩
      obtain ⟨m, hm⟩ : ∃ m, gk = m + 1 := ⟨gk - 1, by omega⟩
      obtain ⟨q, hq⟩ : ∃ q, q = (gk - 1) / 2 := ⟨_, rfl⟩
      have hqn : q < n := by omega
      have hqk : q < gk := by omega
      have q0 : decide (0 < gk) = true := by simp; omega
      have tq := TC.out q hqn
      have AH := Lib.hid (fun (w' : World) (g : Grw wr w') => ahead_any w' b (tg T q) (E b) (E (tg T q)) ((HI.out ▸ SE.out gk (by omega)).grw g) ((SE.out q hqn).grw g))
      have s1 : IntKind.i64.wrap ((gk : Int) - 1) = (m : Int) := by rw [IntWalk.i64_in _ (by omega)]; omega
      have s2 : IntKind.i64.wrap ((m : Int) / 2) = (q : Int) := by rw [IntWalk.i64_in _ (by omega)]; omega
      have HQ := Lib.hid hq
      clear hm hq h0
      by_cases hC : lt (E b) (E (tg T q))
      · rw [decide_eq_true hC] at AH
        go_wp2_with fail
        go_region_held3 (fun w' => w'.cell? ⟨h, 1, none⟩ = some (.slice (some ⟨tb, 0, none⟩) n cap) ∧ w'.cell? ⟨b, 4, none⟩ = some (.int .i64 (gk : Int)) ∧ w'.cell? ⟨tb, q, none⟩ = some (.pointer (some ⟨tg T q, 0, none⟩))) (first | (exact ⟨‹_›, ‹_›, ‹_›⟩) | go_keep)
          (first
            | (go_at_call 51; refine (AH.out _ (Grw.drew (Grw.refl _))).mono ?_; rintro e w2 ⟨rfl, hG⟩; have z1 := hG.cell (show wr.drew.cell? ⟨h, 1, none⟩ = some (.slice (some ⟨tb, 0, none⟩) n cap) from c1); have z2 := hG.cell (show wr.drew.cell? ⟨b, 4, none⟩ = some (.int .i64 (gk : Int)) from c4); have z3 := hG.cell (show wr.drew.cell? ⟨tb, q, none⟩ = some (.pointer (some ⟨tg T q, 0, none⟩)) from tq); have G2 := Lib.hid hG; clear hG))
        have W2 := Lib.hid (HW.out.grw (Grw.trans (Grw.drew (Grw.refl _)) G2.out))
        clear c1 c4 tq z1 z3 AH TC SE
        go_wp2_with fail
        go_still_tail 11, mixed
        go_wp2_with fail
        refine (swap_any w2.drew h M _ T E c gk q (W2.out.grw (Grw.drew (Grw.refl _))).hold W2.out.lt (by have := HN.out; omega)).mono ?_
        intro e w4 hp
        have W4 := Lib.hid ((W2.out.grw (Grw.drew (Grw.refl _))).swap (by have := HN.out; omega) hp)
        obtain rfl := hp.1
        clear hp z2
        go_wp2_with fail
        go_roundg q
        case measure => exact hqk
        case rel =>
          refine ⟨_, W4.out, ?_⟩
          have hk : gk < T.length := by have := HN.out; omega
          rw [ord_sw hk (by have := HN.out; omega), tsw_len, HQ.out]
          refine UP.out.step (by omega) hk ?_
          show lt (E (tg T gk)) (E (tg T ((gk - 1) / 2)))
          rw [← HQ.out, HI.out]; exact hC
      · have HNC := Lib.hid (show lt (E (tg T q)) (E b) from lt.tot (by
            have := HW.out.dis.ne gk q HW.out.lt (by have := HN.out; omega) (by omega)
            rw [HI.out] at this; exact this) hC)
        rw [decide_eq_false hC] at AH
        clear hC
        go_wp2_with fail
        go_region_held3 (fun w' => w'.cell? ⟨h, 1, none⟩ = some (.slice (some ⟨tb, 0, none⟩) n cap) ∧ w'.cell? ⟨b, 4, none⟩ = some (.int .i64 (gk : Int)) ∧ w'.cell? ⟨tb, q, none⟩ = some (.pointer (some ⟨tg T q, 0, none⟩))) (first | (exact ⟨‹_›, ‹_›, ‹_›⟩) | go_keep)
          (first
            | (go_at_call 51; refine (AH.out _ (Grw.drew (Grw.refl _))).mono ?_; rintro e w2 ⟨rfl, hG⟩; have z1 := hG.cell (show wr.drew.cell? ⟨h, 1, none⟩ = some (.slice (some ⟨tb, 0, none⟩) n cap) from c1); have z2 := hG.cell (show wr.drew.cell? ⟨b, 4, none⟩ = some (.int .i64 (gk : Int)) from c4); have z3 := hG.cell (show wr.drew.cell? ⟨tb, q, none⟩ = some (.pointer (some ⟨tg T q, 0, none⟩)) from tq); have G2 := Lib.hid hG; clear hG))
        go_wp2_with fail
        go_meet
        have hlen : gk ≤ T.length := by have := HN.out; omega
        refine ⟨T.length - gk, T, gk, by omega, HW.out.grw (Grw.trans (Grw.drew (Grw.refl _)) G2.out), UP.out.stop (Or.inr ?_)⟩
        show lt (E (tg T ((gk - 1) / 2))) (E (tg T gk))
        rw [← HQ.out, HI.out]; exact HNC.out
  case rest =>
    as_aux_lemma =>
    obtain ⟨k0, hcut⟩ := hcut
    have HC := Lib.hid hcut
    clear hcut HH HU
    go_wp2_with fail
    go_loopg [] k0 (fun k W => Rel2 w h M v T0 E c b k W)
    case atStart => exact HC.out
    case round =>
      obtain ⟨T, p, hkp, hW, hDn⟩ := hrel
      have HW := Lib.hid hW
      have DN := Lib.hid hDn
      have c4 := hW.hold.i4 hW.lt
      rw [hW.item] at c4
      have HI := Lib.hid hW.item
      have HK := Lib.hid hkp
      have FC := Lib.hid (firstChild_any wr h M v T E c p hW.hold hW.dis hW.lt)
      clear hW hDn hkp HC
      go_wp2_with fail
      refine FC.out.mono ?_
      intro e w1 hf
      obtain ⟨hG, ⟨hlen, rfl⟩ | ⟨ch, hch, hch0, hcp, rfl, hmin⟩⟩ := hf
      · have HG := Lib.hid hG
        have HL := Lib.hid hlen
        clear hG hlen FC c4
        go_wp2_with fail
        first | go_end0 | refine bodyPost_ret (results_none rfl _ _ _) rfl ?_
        have W1 := HW.out.grw HG.out
        exact ⟨rfl, T, W1.hold, W1.perm, DN.out.stop (fun d h1 h2 h3 => by have := HL.out; omega), W1.turn⟩
      · have W1 := Lib.hid (HW.out.grw hG)
        have d4 := hG.cell c4
        have d5 := W1.out.hold.i4 hch
        have AH := Lib.hid (ahead_any w1 b (tg T ch) (E b) (E (tg T ch)) (HI.out ▸ W1.out.hold.seen W1.out.lt) (W1.out.hold.seen hch))
        have MIN := Lib.hid hmin
        have CP := Lib.hid (And.intro hch0 (And.intro hch hcp))
        obtain ⟨x, hx⟩ : ∃ x, tg T ch = x := ⟨_, rfl⟩
        have HX := Lib.hid hx
        rw [hx] at d5 AH ⊢
        clear hmin hG FC c4 hcp hch0 hx
        by_cases hC : lt (E b) (E x)
        · rw [decide_eq_true hC] at AH
          go_wp2_with fail
          refine AH.out.mono ?_
          rintro e w2 ⟨rfl, hG2⟩
          have W2 := Lib.hid (W1.out.grw hG2)
          clear hG2 d4 d5
          go_wp2_with fail
          first | go_end0 | refine bodyPost_ret (results_none rfl _ _ _) rfl ?_
          refine ⟨rfl, T, W2.out.hold, W2.out.perm, DN.out.stop (fun d h1 h2 h3 => ?_), W2.out.turn⟩
          show lt (E (tg T p)) (E (tg T d))
          rw [HI.out]
          by_cases hd : d = ch
          · rw [hd, HX.out]; exact hC
          · exact hC.trans (HX.out ▸ MIN.out d h1 h2 h3 hd)
        · have HNC := Lib.hid (show lt (E x) (E b) from lt.tot (by
            have hh := CP.out
            have := W1.out.dis.ne p ch W1.out.lt hch (by omega)
            rw [HI.out, HX.out] at this; exact this) hC)
          rw [decide_eq_false hC] at AH
          go_wp2_with fail
          refine AH.out.mono ?_
          rintro e w2 ⟨rfl, hG2⟩
          have W2 := Lib.hid (W1.out.grw hG2)
          have f4 := hG2.cell d4
          have f5 := hG2.cell d5
          clear hG2 d4 d5
          go_wp2_with fail
          go_still_tail 9, mixed
          go_wp2_with fail
          refine (swap_any w2.drew h M v T E c p ch (W2.out.grw (Grw.drew (Grw.refl _))).hold W2.out.lt hch).mono ?_
          intro e w4 hp
          have W4 := Lib.hid ((W2.out.grw (Grw.drew (Grw.refl _))).swap hch hp)
          obtain rfl := hp.1
          clear hp f4 f5
          go_wp2_with fail
          go_roundg (T.length - ch)
          case measure => have := CP.out; have := HK.out; omega
          case rel =>
            refine ⟨_, ch, by rw [tsw_len]; omega, W4.out, ?_⟩
            obtain ⟨g1, g2, g3⟩ := CP.out
            rw [ord_sw W2.out.lt hch, tsw_len]
            refine DN.out.step g1 g2 g3 ?_ MIN.out
            show lt (E (tg T ch)) (E (tg T p))
            rw [HI.out, HX.out]; exact HNC.out
end HS
end Go.Proofs.Ytdbfojolocelaaa
