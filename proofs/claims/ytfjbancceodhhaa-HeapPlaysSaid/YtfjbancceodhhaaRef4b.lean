/- The contract of the reference's Set. -/
import Derived.Test.YtfjbancceodhhaaRef4
import Derived.Deep.RegionLaw
namespace Go.Proofs.Ytfjbancceodhhaa
open Go.RowKit Ht HS

/-- A slice that reads as a row of items. -/
def Src (w : World) (u : Value) (M : List (Ent Key)) : Prop := (u = .slice none 0 0 ∧ M = []) ∨ ∃ ad cap, u = .slice (some ad) M.length cap ∧ ∀ j x, (cellsI3 M)[j]? = some x → w.cell? (ad.add j) = some x
theorem Src.below {w w' : World} {u : Value} {M : List (Ent Key)} (s : Src w u M) (hb : Below w.heap.size w w') : Src w' u M := by
  rcases s with h | ⟨ad, cap, h1, h2⟩
  · exact Or.inl h
  · exact Or.inr ⟨ad, cap, h1, fun j x hj => (hb.cell (cell_lt (h2 j x hj))).trans (h2 j x hj)⟩
theorem step_app {ops : Array Oper} {o : Oper} {a : Act} {w : World} {K : Act → World → Prop} {Q : Exit → Act → World → Prop} {E : Prop} (hgd : o.guard = none) (s x : Operand)
    (ho : o.op = .call { callee := .builtin .append, args := #[s, x], argTypes := #[26, 26] }) (base : Nat) (v u : Value) (L M : List (Ent Key)) (hs : a.eval s = v) (hx : a.eval x = u)
    (hown : OwnI w base v L) (hr : Src w u M) (hM : ∀ e ∈ M, e.key.size ≤ maxLen) (hl : L.length + M.length ≤ 2000) (hbase : base ≤ w.heap.size)
    (h : ∀ v' w', OwnI w' base v' (L ++ M) → w.grownBy w' v.ownBlock → K (a.put o.dst v') w') :
    if Region.wanted o (yielded ops a.tmps) = true then Oper.wp Try.prog o a w K Q else E := by
  have hw : Region.wanted o (yielded ops a.tmps) = true := by simp [Region.wanted, hgd]
  rw [if_pos hw]
  obtain ⟨i0, hi, hz0, hz1, hz2⟩ := info_parts infoIt
  rcases hr with ⟨rfl, rfl⟩ | ⟨ad, cap, rfl, hc⟩
  · have hrun := run_append_owned_none (P := Try.prog) (w := w) base 26 o.type 41 i0 3 Try.underlying26 hi v L.length (cellsI3 L) hown.1
    have hk := h v w (by rw [List.append_nil]; exact hown) (World.grownBy.refl w _)
    unfold Oper.wp
    simp [execOp, ho, resolve, invoke, builtin, hs, hx, hrun, Result.andThen]
    exact hk
  · refine wp_append_own w s x 26 ho base 41 i0 (.agg #[.string ⟨#[]⟩, .int .i64 0, .int .i64 0]) 3 32 Try.underlying26 hi hz0 hz1 hz2 rfl (by decide) v L.length (cellsI3 L) hs hown.1 ad M.length cap (cellsI3 M) hx (cells3_len M) hc (cells3_one M) (by unfold maxLen; omega) (by omega) hbase (fun v' w' h2 h3 _ => h v' w' ⟨?_, by rw [List.length_append]; exact hl, fun e he => ?_⟩ h3)
    · rw [cells3_app, List.length_append]; exact h2
    · rcases List.mem_append.1 he with h1 | h1
      · exact hown.2.2 e h1
      · exact hM e h1
theorem own_empty (w : World) (base : Nat) (hb : base ≤ w.heap.size) : OwnI (w.alloc (.cells #[] 41)) base (.slice (some ⟨w.heap.size, 0, none⟩) 0 0) [] :=
  ⟨⟨rfl, Or.inr ⟨w.heap.size, 0, #[], rfl, hb, heap_alloc_new w _, Nat.le_refl _, by unfold maxLen; omega, rfl, rfl⟩⟩, by simp, by simp⟩
theorem own_empty' (w : World) (base b : Nat) (hb : base ≤ w.heap.size) (he : w.heap.size = b) : OwnI (w.alloc (.cells #[] 41)) base (.slice (some ⟨b, 0, none⟩) 0 0) [] := by
  subst he; exact own_empty w base hb
theorem src_one (w : World) (x : Ent Key) : Src (w.alloc (.cells #[.string x.key, .int .i64 x.one, .int .i64 x.two] 41)) (.slice (some ⟨w.heap.size, 0, none⟩) 1 1) [x] := by
  refine Or.inr ⟨_, _, rfl, fun j u hj => ?_⟩
  rw [show (⟨w.heap.size, 0, none⟩ : Addr).add j = ⟨w.heap.size, j, none⟩ by unfold Addr.add; split <;> simp_all, cell_of_row _ _ _ _ _ _ (heap_alloc_new w _)]
  simpa [cellsI3] using hj
theorem cells3_take : ∀ (L : List (Ent Key)) (a : Nat), cellsI3 (L.take a) = (cellsI3 L).take (a * 3)
  | [], a => by simp [cellsI3]
  | y :: L, 0 => by simp [cellsI3]
  | y :: L, a + 1 => by
    rw [show (a + 1) * 3 = a * 3 + 3 by omega]
    show Value.string y.key :: .int .i64 y.one :: .int .i64 y.two :: cellsI3 (L.take a) = Value.string y.key :: .int .i64 y.one :: .int .i64 y.two :: (cellsI3 L).take (a * 3)
    rw [cells3_take L a]
theorem cells3_drop : ∀ (L : List (Ent Key)) (a : Nat), cellsI3 (L.drop a) = (cellsI3 L).drop (a * 3)
  | [], a => by simp [cellsI3]
  | y :: L, 0 => by simp [cellsI3]
  | y :: L, a + 1 => by
    rw [show (a + 1) * 3 = a * 3 + 3 by omega]
    show cellsI3 (L.drop a) = (cellsI3 L).drop (a * 3)
    exact cells3_drop L a
theorem src_cut {w : World} {g a : Nat} {L : List (Ent Key)} (hc : ∀ j u, (cellsI3 L)[j]? = some u → w.cell? ⟨g, 0 + j, none⟩ = some u) (ha : a ≤ L.length) (c1 c2 : Nat) :
    Src w (.slice (some ⟨g, 0, none⟩) a c1) (L.take a) ∧ Src w (.slice (some ⟨g, a * 3, none⟩) (L.length - a) c2) (L.drop a) := by
  have key : ∀ o j : Nat, (⟨g, o, none⟩ : Addr).add j = ⟨g, o + j, none⟩ := fun o j => by unfold Addr.add; split <;> simp_all
  refine ⟨Or.inr ⟨_, c1, by rw [List.length_take, Nat.min_eq_left ha], fun j x hj => ?_⟩, Or.inr ⟨_, c2, by rw [List.length_drop], fun j x hj => ?_⟩⟩
  · rw [key]
    rw [cells3_take, List.getElem?_take] at hj
    split at hj
    · exact hc j x hj
    · cases hj
  · rw [key]
    rw [cells3_drop, List.getElem?_drop] at hj
    have := hc (a * 3 + j) x hj
    rw [Nat.zero_add] at this
    exact this

/-- A block that holds one item. -/
def SrcAt (w : World) (b : Nat) (x : Ent Key) : Prop := w.heap[b]? = some (.cells #[.string x.key, .int .i64 x.one, .int .i64 x.two] 41 (0, 0))
theorem SrcAt.src {w : World} {b : Nat} {x : Ent Key} (h : SrcAt w b x) : Src w (.slice (some ⟨b, 0, none⟩) 1 1) [x] := by
  refine Or.inr ⟨_, _, rfl, fun j u hj => ?_⟩
  rw [show (⟨b, 0, none⟩ : Addr).add j = ⟨b, j, none⟩ by unfold Addr.add; split <;> simp_all, cell_of_row _ _ _ _ _ _ h]
  simpa [cellsI3] using hj
theorem SrcAt.grown {w w' : World} {b : Nat} {x : Ent Key} {r : Option Nat} (h : SrcAt w b x) (hg : w.grownBy w' r) (hne : some b ≠ r) : Src w' (.slice (some ⟨b, 0, none⟩) 1 1) [x] :=
  SrcAt.src ((hg.block b (Array.getElem?_eq_some_iff.1 h).1 hne).trans h)
theorem srcAt_new (w : World) (b : Nat) (x : Ent Key) (hb : w.heap.size = b) : SrcAt (w.alloc (.cells #[.string x.key, .int .i64 x.one, .int .i64 x.two] 41)) b x := by
  subst hb; exact heap_alloc_new w _
theorem SrcAt.alloc {w : World} {b : Nat} {x : Ent Key} (h : SrcAt w b x) (o : Obj) : SrcAt (w.alloc o) b x := (Below.heap_alloc _ _ _ (Array.getElem?_eq_some_iff.1 h).1).trans h
theorem OwnI.base {w : World} {b b' : Nat} {v : Value} {L : List (Ent Key)} (h : OwnI w b v L) (hb : b' ≤ b) : OwnI w b' v L := by
  refine ⟨⟨h.1.1, ?_⟩, h.2⟩
  rcases h.1.2 with q | ⟨g, cap, arr, q1, q2, q3⟩
  · exact Or.inl q
  · exact Or.inr ⟨g, cap, arr, q1, Nat.le_trans hb q2, q3⟩

/-- Where a key comes to stand. -/
theorem ins_at {e : Ent Key} : ∀ {M : List (Ent Key)} {a : Nat}, Srt M → a ≤ M.length → (∀ x, 0 < a → M[a - 1]? = some x → lt x e) → (∀ x, M[a]? = some x → ¬ lt x e) → ins e M = M.take a ++ e :: M.drop a
  | [], a, _, ha, _, _ => by
    obtain rfl : a = 0 := by simpa using ha
    rfl
  | y :: M, 0, _, _, _, h2 => by
    have := h2 y rfl
    show (if lt y e then _ else e :: y :: M) = _
    rw [if_neg this]; rfl
  | y :: M, a + 1, hs, ha, h1, h2 => by
    have hy := List.pairwise_cons.1 hs
    have ha' : a ≤ M.length := by simpa using ha
    have hlt : lt y e := by
      cases a with
      | zero => exact h1 y (by omega) rfl
      | succ b =>
        obtain ⟨z, hz⟩ : ∃ z, M[b]? = some z := ⟨_, List.getElem?_eq_getElem (by omega)⟩
        exact (hy.1 z (List.mem_of_getElem? hz)).trans (h1 z (by omega) (by simpa using hz))
    show (if lt y e then y :: ins e M else _) = _
    rw [if_pos hlt, ins_at (a := a) hy.2 ha' (fun x h0 hx => ?_) (fun x hx => h2 x (by simpa using hx))]
    · rfl
    · obtain ⟨b, rfl⟩ : ∃ b, a = b + 1 := ⟨a - 1, by omega⟩
      exact h1 x (by omega) (by simpa using hx)

def SetR (M : List (Ent Key)) (r1 r2 : Int) (w2 : World) (g : Nat) (z : Value) (W : World) : Prop := ∃ a, g = a ∧ z = .int .i64 (a : Int) ∧ a ≤ M.length ∧ Below w2.heap.size w2 W ∧ ∀ x, M[a]? = some x → rless r1 r2 x.one x.two = true
theorem rless_lt {x : Ent Key} {k : Key} {r1 r2 : Int} {c : Nat} (hs : x.set ≤ c) : (rless r1 r2 x.one x.two = true → ¬ lt x ⟨k, r1, r2, c + 1⟩) ∧ (rless r1 r2 x.one x.two = false → lt x ⟨k, r1, r2, c + 1⟩) := by
  unfold rless lt
  by_cases h : r1 = x.one
  · rw [if_pos h]; simp; omega
  · rw [if_neg h]; simp; omega

set_option maxHeartbeats 40000000 in
set_option maxRecDepth 100000 in
theorem refSet_any (w : World) (g : Nat) (v : Value) (L : List (Ent Key)) (key : Key) (r1 r2 : Int) (c : Nat) (h : RRow w g v L) (hl : L.length ≤ 1800) (hsrt : Srt L) (hset : ∀ e ∈ L, e.set ≤ c) (hkey : key.size ≤ maxLen) :
    Calls Try.prog 12 #[v, .string key, .agg #[.int .i64 r1, .int .i64 r2]] w (RowI (ins ⟨key, r1, r2, c + 1⟩ (rem L key)) w) := by
  have mixed : Try.prog.follows .mixedOrders = true := by kernel_rfl
  have B1 := Lib.hid ((Below.refl w.heap.size w).alloc (Nat.le_refl _) (.cells #[.int .i64 r1, .int .i64 r2] 31 (0, 0)))
  have BX := heap_alloc_new w (.cells #[.int .i64 r1, .int .i64 r2] 31 (0, 0))
  have RM := Lib.hid (refRemove_any _ g v L key (h.below B1.out) (by omega))
  obtain ⟨w1, hw1⟩ : ∃ w1, w.alloc (.cells #[.int .i64 r1, .int .i64 r2] 31 (0, 0)) = w1 := ⟨_, rfl⟩
  rw [hw1] at B1 BX RM
  obtain ⟨bx, hbx⟩ : ∃ bx, w.heap.size = bx := ⟨_, rfl⟩
  rw [hbx] at BX
  have HX := Lib.hid BX
  have hle := rem_len_le L key
  have SM := Lib.hid (rem_srt hsrt key)
  have ST := Lib.hid (show ∀ e ∈ rem L key, e.set ≤ c from fun e he => hset e (mem_rem.1 he).1)
  have KM := Lib.hid (show ∀ e ∈ rem L key, e.key.size ≤ maxLen from fun e he => h.2.1 e (mem_rem.1 he).1)
  generalize rem L key = M at RM hle SM ST KM
  clear h BX hsrt hset
  go_enter Try.func12, Try.ntmps12
  go_wp2_with fail
  clear hw1 hbx
  refine RM.out.mono ?_
  rintro e w2 ⟨v2, rfl, hO, hB⟩
  have hlm : M.length ≤ 1800 := by omega
  obtain ⟨g2, hg2, hR⟩ := hO.row
  have RR := Lib.hid hR
  have OO := Lib.hid hO
  have B2 := Lib.hid (B1.out.trans (hB.mono B1.out.size))
  have HX2 := Lib.hid ((hB.block bx (Array.getElem?_eq_some_iff.1 HX.out).1).trans HX.out)
  obtain ⟨A2, c2, rfl⟩ := hO.len
  obtain ⟨n, hn⟩ : ∃ n, M.length = n := ⟨_, rfl⟩
  have HN := Lib.hid hn
  rw [hn]
  have hn18 : n ≤ 1800 := by omega
  clear hO hR hB hn hlm hle hl RM B1 HX
  go_upto_block 0 with fail
  go_cut [7] (fun z W => ∃ a : Nat, z = .int .i64 (a : Int) ∧ a ≤ M.length ∧ Below w2.heap.size w2 W ∧ ins ⟨key, r1, r2, c + 1⟩ M = M.take a ++ ⟨key, r1, r2, c + 1⟩ :: M.drop a)
  case first =>
    as_aux_lemma =>
    go_wp2_with fail
    go_loopg [7] n (fun g z W => SetR M r1 r2 w2 g z W)
    case atStart => exact ⟨n, rfl, rfl, by rw [HN.out]; exact Nat.le_refl _, Below.refl _ _, fun x hx => by rw [List.getElem?_eq_none (by rw [HN.out]; exact Nat.le_refl _)] at hx; cases hx⟩
    case round =>
      obtain ⟨a, rfl, rfl, ha, hB, hx⟩ := hrel
      have HA := Lib.hid ha
      have BB := Lib.hid hB
      have XX := Lib.hid hx
      clear ha hB hx
      by_cases h0 : gk = 0
      · subst h0
        go_wp2_with fail
        go_quiet (fail)
        go_wp2_with fail
        go_meet
        refine ⟨0, rfl, Nat.zero_le _, BB.out.trans ((below_drewN _ _).mono BB.out.size), ins_at SM.out (Nat.zero_le _) (fun x h => by omega) (fun x hx => (rless_lt (ST.out x (List.mem_of_getElem? hx))).1 (XX.out x hx))⟩
      obtain ⟨m, hm⟩ : ∃ m, gk = m + 1 := ⟨gk - 1, by omega⟩
      have q0 : decide (0 < gk) = true := by simp; omega
      obtain ⟨x, hx⟩ : ∃ x, M[m]? = some x := ⟨_, List.getElem?_eq_getElem (by have := HA.out; omega)⟩
      obtain ⟨o, c', hv, hg, hc1, hc2, m0, m1, m2⟩ := (RR.out.below BB.out).at hx
      injection hv with hv1 hvn hv2
      clear hvn
      subst hv1
      subst hv2
      rw [HN.out] at hc1
      unfold maxLen at hc2
      have hmn : m < n := by have := HA.out; have := HN.out; omega
      have y0 : wr.cell? ⟨bx, 0, none⟩ = some (.int .i64 r1) := cell_of_row wr _ 0 _ _ _ ((BB.out.block bx (Array.getElem?_eq_some_iff.1 HX2.out).1).trans HX2.out)
      have y1 : wr.cell? ⟨bx, 1, none⟩ = some (.int .i64 r2) := cell_of_row wr _ 1 _ _ _ ((BB.out.block bx (Array.getElem?_eq_some_iff.1 HX2.out).1).trans HX2.out)
      have s1 : IntKind.i64.wrap ((gk : Int) - 1) = (m : Int) := by rw [IntWalk.i64_in _ (by omega)]; omega
      have EM := Lib.hid (show (gk : Int) - 1 = (m : Int) by omega)
      have HM := Lib.hid hm
      clear hm h0
      have HXX := Lib.hid hx
      have LS := Lib.hid (fun W => refLess_any W r1 r2 x.one x.two)
      cases hrl : rless r1 r2 x.one x.two with
      | true =>
        rw [hrl] at LS
        have HRL := Lib.hid hrl
        clear hrl hx
        go_wp2_with fail
        go_region_held3 (fun w' => w'.cell? ⟨bx, 0, none⟩ = some (.int .i64 r1) ∧ w'.cell? ⟨bx, 1, none⟩ = some (.int .i64 r2) ∧ w'.cell? ⟨g2, o + m * 3 + 1, none⟩ = some (.int .i64 x.one) ∧ w'.cell? ⟨g2, o + m * 3 + 2, none⟩ = some (.int .i64 x.two)) (first | (exact ⟨‹_›, ‹_›, ‹_›, ‹_›⟩) | go_keep)
          (first
            | (go_at_call 27; refine (LS.out _).mono ?_; rintro e w5 ⟨rfl, hG⟩; have z1 := hG.cell (show wr.drew.cell? ⟨bx, 0, none⟩ = some (.int .i64 r1) from y0); have z2 := hG.cell (show wr.drew.cell? ⟨bx, 1, none⟩ = some (.int .i64 r2) from y1); have z3 := hG.cell (show wr.drew.cell? ⟨g2, o + m * 3 + 1, none⟩ = some (.int .i64 x.one) from m1); have z4 := hG.cell (show wr.drew.cell? ⟨g2, o + m * 3 + 2, none⟩ = some (.int .i64 x.two) from m2); have G2 := Lib.hid hG; clear hG))
        clear y0 y1 m0 m1 m2 z1 z2 z3 z4 LS s1
        have em := EM.out
        have B5 := Lib.hid (BB.out.trans ((Grw.trans (Grw.drew (Grw.refl _)) G2.out).below.mono BB.out.size))
        go_wp2_with fail
        go_roundg m
        case measure => have := HM.out; omega
        case rel => exact ⟨m, rfl, by first | rfl | (show Value.int .i64 _ = Value.int .i64 _; rw [em]), by have := HA.out; have := HM.out; omega, B5.out, fun y hy => by rw [HXX.out] at hy; cases hy; exact HRL.out⟩
      | false =>
        rw [hrl] at LS
        have HRL := Lib.hid hrl
        clear hrl hx
        go_wp2_with fail
        go_region_held3 (fun w' => w'.cell? ⟨bx, 0, none⟩ = some (.int .i64 r1) ∧ w'.cell? ⟨bx, 1, none⟩ = some (.int .i64 r2) ∧ w'.cell? ⟨g2, o + m * 3 + 1, none⟩ = some (.int .i64 x.one) ∧ w'.cell? ⟨g2, o + m * 3 + 2, none⟩ = some (.int .i64 x.two)) (first | (exact ⟨‹_›, ‹_›, ‹_›, ‹_›⟩) | go_keep)
          (first
            | (go_at_call 27; refine (LS.out _).mono ?_; rintro e w5 ⟨rfl, hG⟩; have z1 := hG.cell (show wr.drew.cell? ⟨bx, 0, none⟩ = some (.int .i64 r1) from y0); have z2 := hG.cell (show wr.drew.cell? ⟨bx, 1, none⟩ = some (.int .i64 r2) from y1); have z3 := hG.cell (show wr.drew.cell? ⟨g2, o + m * 3 + 1, none⟩ = some (.int .i64 x.one) from m1); have z4 := hG.cell (show wr.drew.cell? ⟨g2, o + m * 3 + 2, none⟩ = some (.int .i64 x.two) from m2); have G2 := Lib.hid hG; clear hG))
        clear y0 y1 m0 m1 m2 z1 z2 z3 z4 LS s1
        have em := EM.out
        have B5 := Lib.hid (BB.out.trans ((Grw.trans (Grw.drew (Grw.refl _)) G2.out).below.mono BB.out.size))
        go_wp2_with fail
        go_meet
        refine ⟨gk, rfl, HA.out, B5.out, ins_at SM.out HA.out (fun y _ hy => ?_) (fun y hy => (rless_lt (ST.out y (List.mem_of_getElem? hy))).1 (XX.out y hy))⟩
        rw [HM.out, Nat.add_sub_cancel, HXX.out] at hy
        cases hy
        exact (rless_lt (ST.out x (List.mem_of_getElem? HXX.out))).2 HRL.out
  case rest =>
    as_aux_lemma =>
    obtain ⟨a, rfl, ha, hB, hins⟩ := hcut
    have INS := Lib.hid hins
    have BC := Lib.hid hB
    have HA := Lib.hid ha
    have han : a ≤ n := by rw [← HN.out]; exact ha
    have y0 : wc.cell? ⟨bx, 0, none⟩ = some (.int .i64 r1) := cell_of_row wc _ 0 _ _ _ ((BC.out.block bx (Array.getElem?_eq_some_iff.1 HX2.out).1).trans HX2.out)
    have y1 : wc.cell? ⟨bx, 1, none⟩ = some (.int .i64 r2) := cell_of_row wc _ 1 _ _ _ ((BC.out.block bx (Array.getElem?_eq_some_iff.1 HX2.out).1).trans HX2.out)
    have KT := Lib.hid (show ∀ e ∈ M.take a, e.key.size ≤ maxLen from fun e he => KM.out e (List.mem_of_mem_take he))
    have KD := Lib.hid (show ∀ e ∈ M.drop a, e.key.size ≤ maxLen from fun e he => KM.out e (List.mem_of_mem_drop he))
    have LT := Lib.hid (show (M.take a).length + (M.drop a).length ≤ 1800 by rw [List.length_take, List.length_drop]; have := HN.out; omega)
    clear hins hB ha
    have BE := Lib.hid (show Below wc.heap.size wc (wc.alloc (.cells #[] 41)).drew from ((Below.refl wc.heap.size wc).alloc (Nat.le_refl _) _).drew)
    have BEI := Lib.hid (show Below wc.heap.size wc ((wc.alloc (.cells #[] 41)).alloc (.cells #[.string key, .int .i64 r1, .int .i64 r2] 41)).drew from (((Below.refl wc.heap.size wc).alloc (Nat.le_refl _) _).alloc (by simp) _).drew)
    have BIE := Lib.hid (show Below wc.heap.size wc ((wc.alloc (.cells #[.string key, .int .i64 r1, .int .i64 r2] 41)).alloc (.cells #[] 41)).drew from (((Below.refl wc.heap.size wc).alloc (Nat.le_refl _) _).alloc (by simp) _).drew)
    have TEI := Lib.hid (show SrcAt ((wc.alloc (.cells #[] 41)).alloc (.cells #[.string key, .int .i64 r1, .int .i64 r2] 41)).drew (wc.heap.size + 1) ⟨key, r1, r2, c + 1⟩ from srcAt_new (wc.alloc (.cells #[] 41)) (wc.heap.size + 1) ⟨key, r1, r2, c + 1⟩ (by simp))
    have TIE := Lib.hid (show SrcAt ((wc.alloc (.cells #[.string key, .int .i64 r1, .int .i64 r2] 41)).alloc (.cells #[] 41)).drew wc.heap.size ⟨key, r1, r2, c + 1⟩ from (srcAt_new wc _ ⟨key, r1, r2, c + 1⟩ rfl).alloc _)
    have ye0 : (wc.alloc (.cells #[] 41)).cell? ⟨bx, 0, none⟩ = some (.int .i64 r1) := (BE.out.cell (p := ⟨bx, 0, none⟩) (cell_lt y0)).trans y0
    have ye1 : (wc.alloc (.cells #[] 41)).cell? ⟨bx, 1, none⟩ = some (.int .i64 r2) := (BE.out.cell (p := ⟨bx, 1, none⟩) (cell_lt y1)).trans y1
    have hbne : bx ≠ wc.heap.size := Nat.ne_of_lt (cell_lt y0)
    have hna : (n : Int) - (a : Int) = ((n - a : Nat) : Int) := by omega
    rcases OO.out.1.2 with ⟨hv, h0⟩ | ⟨g3, cap3, cur3, hv, hb3, hg3, hn3, hm3, hs3, ht3⟩
    · injection hv with hv1 hv2 hv3
      subst hv1
      subst hv3
      have hn0 : n = 0 := by rw [← HN.out]; exact h0
      have ha0 : a = 0 := by omega
      have S30 := Lib.hid (show Src wc (.slice none 0 0) (M.take a) from Or.inl ⟨rfl, by rw [ha0]; rfl⟩)
      have S39 := Lib.hid (show Src wc (.slice none 0 0) (M.drop a) from Or.inl ⟨rfl, by rw [List.eq_nil_of_length_eq_zero h0]; simp⟩)
      clear hv2 h0 hna
      subst hn0
      subst ha0
      go_wp2_with fail
      go_region_law (first
        | (refine step_app rfl (.tmp 27) (.tmp 30) rfl wc.heap.size _ _ [] (M.take 0) rfl rfl (own_empty wc _ (Nat.le_refl _)) (S30.out.below BE.out) KT.out (by have := LT.out; simp only [List.length_nil]; omega) (by simp) ?_; intro v4 w4 ho hg; have Q := Lib.hid (show OwnI w4 wc.heap.size v4 (M.take 0) ∧ Below wc.heap.size wc w4 from ⟨ho, BE.out.grown hg (by simp) (fun k hk => by cases hk; exact Nat.le_refl _)⟩); have k0 := (Q.out.2.cell (p := ⟨bx, 0, none⟩) (cell_lt y0)).trans y0; have k1 := (Q.out.2.cell (p := ⟨bx, 1, none⟩) (cell_lt y1)).trans y1; clear ho hg)
        | (refine step_app rfl (.tmp 27) (.tmp 30) rfl wc.heap.size _ _ [] (M.take 0) rfl rfl ((own_empty wc _ (Nat.le_refl _)).alloc _) (S30.out.below BEI.out) KT.out (by have := LT.out; simp only [List.length_nil]; omega) (by simp; omega) ?_; intro v4 w4 ho hg; have Q := Lib.hid (show OwnI w4 wc.heap.size v4 (M.take 0) ∧ Below wc.heap.size wc w4 from ⟨ho, BEI.out.grown hg (by simp; omega) (fun k hk => by cases hk; exact Nat.le_refl _)⟩); have T := Lib.hid (TEI.out.grown hg (fun e => absurd (Option.some.inj e) (Nat.succ_ne_self _))); clear ho hg)
        | (refine step_app rfl (.tmp 27) (.tmp 30) rfl wc.heap.size _ _ [] (M.take 0) rfl rfl (own_empty' (wc.alloc (.cells #[.string key, .int .i64 r1, .int .i64 r2] 41)) _ (wc.heap.size + 1) (by simp) (by simp)) (S30.out.below BIE.out) KT.out (by have := LT.out; simp only [List.length_nil]; omega) (by simp; omega) ?_; intro v4 w4 ho hg; have Q := Lib.hid (show OwnI w4 wc.heap.size v4 (M.take 0) ∧ Below wc.heap.size wc w4 from ⟨ho, BIE.out.grown hg (by simp; omega) (fun k hk => by cases hk; exact Nat.le_succ _)⟩); have T := Lib.hid (TIE.out.grown hg (fun e => absurd (Option.some.inj e).symm (Nat.succ_ne_self _))); clear ho hg)
        | (refine step_app rfl (.tmp 31) (.tmp 35) rfl wc.heap.size _ _ (M.take 0) [(⟨key, r1, r2, c + 1⟩ : Ent Key)] rfl rfl (Q.out.1.alloc _) (src_one w4 ⟨key, r1, r2, c + 1⟩) (by simpa using hkey) (by have := LT.out; simp only [List.length_cons, List.length_nil]; omega) (by have := Q.out.2.size; simp; omega) ?_; intro v5 w5 ho hg; have Q2 := Lib.hid (And.intro ho (show Below wc.heap.size wc w5 from (Q.out.2.alloc Q.out.2.size _).grown hg (by have := Q.out.2.size; simp; omega) (fun k hk => (Q.out.1.lt hk).2))); clear ho hg)
        | (refine step_app rfl (.tmp 31) (.tmp 35) rfl wc.heap.size _ _ (M.take 0) [(⟨key, r1, r2, c + 1⟩ : Ent Key)] rfl rfl Q.out.1 T.out (by simpa using hkey) (by have := LT.out; simp only [List.length_cons, List.length_nil]; omega) Q.out.2.size ?_; intro v5 w5 ho hg; have Q2 := Lib.hid (And.intro ho (show Below wc.heap.size wc w5 from Q.out.2.grown hg Q.out.2.size (fun k hk => (Q.out.1.lt hk).2))); clear ho hg)
        | (refine step_app rfl (.tmp 36) (.tmp 39) rfl wc.heap.size _ _ (M.take 0 ++ [(⟨key, r1, r2, c + 1⟩ : Ent Key)]) (M.drop 0) rfl rfl Q2.out.1 (S39.out.below Q2.out.2) KD.out (by have := LT.out; rw [List.length_append]; simp only [List.length_cons, List.length_nil]; omega) Q2.out.2.size ?_; intro v6 w6 ho hg; have Q3 := Lib.hid (And.intro ho (show Below wc.heap.size wc w6 from Q2.out.2.grown hg Q2.out.2.size (fun k hk => (Q2.out.1.lt hk).2))); clear ho hg))
      all_goals go_wp2_with fail
      all_goals
        go_ret
        refine ⟨_, rfl, ?_, B2.out.trans ((BC.out.trans (Q3.out.2.mono BC.out.size)).mono B2.out.size)⟩
        rw [INS.out]
        have hq := Q3.out.1
        rw [List.append_assoc] at hq
        exact hq.base (Nat.le_trans B2.out.size BC.out.size)
    · injection hv with hv1 hv2 hv3
      subst hv1
      subst hv3
      have hcells : ∀ j u, (cellsI3 M)[j]? = some u → wc.cell? ⟨g3, 0 + j, none⟩ = some u := fun j u hj => by
        have q := OO.out.1.cells (g := g3) rfl j u hj
        rw [show (⟨g3, 0, none⟩ : Addr).add j = ⟨g3, 0 + j, none⟩ by unfold Addr.add; split <;> simp_all] at q
        exact (BC.out.cell (cell_lt q)).trans q
      have S30 := Lib.hid (src_cut hcells HA.out c2 (c2 - a)).1
      rw [HN.out] at hn3
      have S39 := Lib.hid (show Src wc (.slice (if c2 = a then some ⟨g3, 0, none⟩ else some ⟨g3, a * 3, none⟩) (n - a) (c2 - a)) (M.drop a) from by
        by_cases hca : c2 = a
        · rw [if_pos hca, List.drop_eq_nil_of_le (by rw [HN.out]; omega), show n - a = 0 by omega]
          exact Or.inr ⟨_, _, rfl, fun j x hj => by simp [cellsI3] at hj⟩
        · rw [if_neg hca, ← HN.out]; exact (src_cut hcells HA.out c2 (c2 - a)).2)
      unfold maxLen at hm3
      have hac : a ≤ c2 := by omega
      clear hv2 hb3 hg3 hs3 ht3 hcells
      go_wp2_with fail
      go_region_law (first
        | (refine step_app rfl (.tmp 27) (.tmp 30) rfl wc.heap.size _ _ [] (M.take a) rfl rfl (own_empty wc _ (Nat.le_refl _)) (S30.out.below BE.out) KT.out (by have := LT.out; simp only [List.length_nil]; omega) (by simp) ?_; intro v4 w4 ho hg; have Q := Lib.hid (show OwnI w4 wc.heap.size v4 (M.take a) ∧ Below wc.heap.size wc w4 from ⟨ho, BE.out.grown hg (by simp) (fun k hk => by cases hk; exact Nat.le_refl _)⟩); have k0 := (Q.out.2.cell (p := ⟨bx, 0, none⟩) (cell_lt y0)).trans y0; have k1 := (Q.out.2.cell (p := ⟨bx, 1, none⟩) (cell_lt y1)).trans y1; clear ho hg)
        | (refine step_app rfl (.tmp 27) (.tmp 30) rfl wc.heap.size _ _ [] (M.take a) rfl rfl ((own_empty wc _ (Nat.le_refl _)).alloc _) (S30.out.below BEI.out) KT.out (by have := LT.out; simp only [List.length_nil]; omega) (by simp; omega) ?_; intro v4 w4 ho hg; have Q := Lib.hid (show OwnI w4 wc.heap.size v4 (M.take a) ∧ Below wc.heap.size wc w4 from ⟨ho, BEI.out.grown hg (by simp; omega) (fun k hk => by cases hk; exact Nat.le_refl _)⟩); have T := Lib.hid (TEI.out.grown hg (fun e => absurd (Option.some.inj e) (Nat.succ_ne_self _))); clear ho hg)
        | (refine step_app rfl (.tmp 27) (.tmp 30) rfl wc.heap.size _ _ [] (M.take a) rfl rfl (own_empty' (wc.alloc (.cells #[.string key, .int .i64 r1, .int .i64 r2] 41)) _ (wc.heap.size + 1) (by simp) (by simp)) (S30.out.below BIE.out) KT.out (by have := LT.out; simp only [List.length_nil]; omega) (by simp; omega) ?_; intro v4 w4 ho hg; have Q := Lib.hid (show OwnI w4 wc.heap.size v4 (M.take a) ∧ Below wc.heap.size wc w4 from ⟨ho, BIE.out.grown hg (by simp; omega) (fun k hk => by cases hk; exact Nat.le_succ _)⟩); have T := Lib.hid (TIE.out.grown hg (fun e => absurd (Option.some.inj e).symm (Nat.succ_ne_self _))); clear ho hg)
        | (refine step_app rfl (.tmp 31) (.tmp 35) rfl wc.heap.size _ _ (M.take a) [(⟨key, r1, r2, c + 1⟩ : Ent Key)] rfl rfl (Q.out.1.alloc _) (src_one w4 ⟨key, r1, r2, c + 1⟩) (by simpa using hkey) (by have := LT.out; simp only [List.length_cons, List.length_nil]; omega) (by have := Q.out.2.size; simp; omega) ?_; intro v5 w5 ho hg; have Q2 := Lib.hid (And.intro ho (show Below wc.heap.size wc w5 from (Q.out.2.alloc Q.out.2.size _).grown hg (by have := Q.out.2.size; simp; omega) (fun k hk => (Q.out.1.lt hk).2))); clear ho hg)
        | (refine step_app rfl (.tmp 31) (.tmp 35) rfl wc.heap.size _ _ (M.take a) [(⟨key, r1, r2, c + 1⟩ : Ent Key)] rfl rfl Q.out.1 T.out (by simpa using hkey) (by have := LT.out; simp only [List.length_cons, List.length_nil]; omega) Q.out.2.size ?_; intro v5 w5 ho hg; have Q2 := Lib.hid (And.intro ho (show Below wc.heap.size wc w5 from Q.out.2.grown hg Q.out.2.size (fun k hk => (Q.out.1.lt hk).2))); clear ho hg)
        | (refine step_app rfl (.tmp 36) (.tmp 39) rfl wc.heap.size _ _ (M.take a ++ [(⟨key, r1, r2, c + 1⟩ : Ent Key)]) (M.drop a) rfl rfl Q2.out.1 (S39.out.below Q2.out.2) KD.out (by have := LT.out; rw [List.length_append]; simp only [List.length_cons, List.length_nil]; omega) Q2.out.2.size ?_; intro v6 w6 ho hg; have Q3 := Lib.hid (And.intro ho (show Below wc.heap.size wc w6 from Q2.out.2.grown hg Q2.out.2.size (fun k hk => (Q2.out.1.lt hk).2))); clear ho hg))
      all_goals go_wp2_with fail
      all_goals
        go_ret
        refine ⟨_, rfl, ?_, B2.out.trans ((BC.out.trans (Q3.out.2.mono BC.out.size)).mono B2.out.size)⟩
        rw [INS.out]
        have hq := Q3.out.1
        rw [List.append_assoc] at hq
        exact hq.base (Nat.le_trans B2.out.size BC.out.size)
end Go.Proofs.Ytfjbancceodhhaa
