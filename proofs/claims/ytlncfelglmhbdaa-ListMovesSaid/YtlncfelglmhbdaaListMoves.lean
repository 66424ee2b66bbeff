/- 'cachewiselaw03.ListMoves' returns true for every row of calls and every key, and leaves what was there as it was. No condition. -/
import Derived.Test.YtlncfelglmhbdaaPlain3
namespace Go.Proofs.Ytlncfelglmhbdaa
open Go.ChangeShapes Go.WideShapes Go.ChangeAt Go.RowKit
open Go.ChangeMaps (open_string shut_string)

/-- Two lists and a set side by side. -/
structure MvS (l M l2 M2 b : Nat) (w0 W : World) (P P2 : Nat) (xs ys Z : List ByteArray) (m m2 : Nat) : Prop where
  one : Lst W l M P xs m
  two : Lst W l2 M2 P2 ys m2
  k1 : Kept w0 W l M P
  k2 : Kept w0 W l2 M2 P2
  seen : Seen W b Z
  b0 : w0.heap.size ≤ b
  al : l ≠ l2 ∧ l ≠ M2 ∧ l ≠ P2 ∧ l ≠ b
  aM : M ≠ l2 ∧ M ≠ M2 ∧ M ≠ P2 ∧ M ≠ b
  aP : P ≠ l2 ∧ P ≠ M2 ∧ P ≠ P2 ∧ P ≠ b
  ab : b ≠ l2 ∧ b ≠ M2 ∧ b ≠ P2

theorem Kept.bel' {w0 w w' : World} {l M P : Nat} (h : Kept w0 w l M P) (hb : Below w0.heap.size w0 w') : Kept w0 w' l M P := ⟨hb, h.l0, h.M0, h.P0⟩

section
variable {l M l2 M2 b : Nat} {w0 W w2 : World} {P P2 m m2 m' : Nat} {xs ys Z zs : List ByteArray} {v : Value} {e : Ending}
theorem MvS.opOne (h : MvS l M l2 M2 b w0 W P P2 xs ys Z m m2) (hp : OpPost v W l M P zs m' e w2) : ∃ P', MvS l M l2 M2 b w0 w2 P' P2 zs ys Z m' m2 := by
  obtain ⟨P', _, hP, hL, hT⟩ := hp
  have h1 := h.al
  have h2 := h.aM
  have h3 := h.aP
  have h4 := h.ab
  have hlt := h.two.llt
  have hbl := h.seen.lt
  have hk := h.k1.next hP hT
  refine ⟨P', hL, h.two.kept hT ⟨by omega, by omega, by omega⟩ ⟨by omega, by omega, by omega⟩ ⟨by omega, by omega, by omega⟩, hk, h.k2.bel' hk.bel, h.seen.same (hT.block b hbl (by omega) (by omega) (by omega)), h.b0, h1, h2, ?_, h4⟩
  rcases hP with rfl | hP
  · exact h3
  · exact ⟨by omega, by omega, by omega, by omega⟩
theorem MvS.opTwo (h : MvS l M l2 M2 b w0 W P P2 xs ys Z m m2) (hp : OpPost v W l2 M2 P2 zs m' e w2) : ∃ P', MvS l M l2 M2 b w0 w2 P P' xs zs Z m m' := by
  obtain ⟨P', _, hP, hL, hT⟩ := hp
  have h1 := h.al
  have h2 := h.aM
  have h3 := h.aP
  have h4 := h.ab
  have hlt := h.one.llt
  have hbl := h.seen.lt
  have hk := h.k2.next hP hT
  refine ⟨P', h.one.kept hT ⟨by omega, by omega, by omega⟩ ⟨by omega, by omega, by omega⟩ ⟨by omega, by omega, by omega⟩, hL, h.k1.bel' hk.bel, hk, h.seen.same (hT.block b hbl (by omega) (by omega) (by omega)), h.b0, ?_, ?_, ?_, ?_⟩
  all_goals rcases hP with rfl | hP
  · exact h1
  · exact ⟨by omega, by omega, by omega, by omega⟩
  · exact h2
  · exact ⟨by omega, by omega, by omega, by omega⟩
  · exact h3
  · exact ⟨by omega, by omega, by omega, by omega⟩
  · exact h4
  · exact ⟨by omega, by omega, by omega⟩
theorem MvS.store (h : MvS l M l2 M2 b w0 W P P2 xs ys Z m m2) {s : ByteArray} (hs : s.size ≤ maxLen) (hz : Z.length ≤ 1000) :
    ∃ w', (Instr.mapUpdate 41 (.map (some b)) (.string s) (.bool true)).run Try.prog W = .ok () w' ∧ MvS l M l2 M2 b w0 w' P P2 xs ys (add Z s) m m2 := by
  obtain ⟨w', hrun, hseen, hg⟩ := h.seen.store hs (by omega)
  have h1 := h.al
  have h2 := h.aM
  have h3 := h.aP
  have h4 := h.ab
  have k1 := h.one.llt
  have k2 := h.two.llt
  have hb : Below w0.heap.size w0 w' := h.k1.bel.grown hg h.k1.bel.size (fun k hk => by cases hk; exact h.b0)
  have nb : ∀ k, k ≠ b → some k ≠ some b := fun k hk e => hk (by injection e)
  exact ⟨w', hrun, h.one.same hg.size (hg.block _ k1.1 (nb _ (by omega))) (hg.block _ k1.2.1 (nb _ (by omega))) (hg.block _ k1.2.2 (nb _ (by omega))), h.two.same hg.size (hg.block _ k2.1 (nb _ (by omega))) (hg.block _ k2.2.1 (nb _ (by omega))) (hg.block _ k2.2.2 (nb _ (by omega))), h.k1.bel' hb, h.k2.bel' hb, hseen, h.b0, h1, h2, h3, h4⟩
theorem MvS.below (h : MvS l M l2 M2 b w0 W P P2 xs ys Z m m2) (hb : Below W.heap.size W w2) : MvS l M l2 M2 b w0 w2 P P2 xs ys Z m m2 :=
  ⟨h.one.below hb, h.two.below hb, h.k1.new hb, h.k2.new hb, h.seen.same (hb.block _ h.seen.lt), h.b0, h.al, h.aM, h.aP, h.ab⟩
end

def MvA (n l M l2 M2 b : Nat) (w0 : World) (i : Value) (W : World) : Prop := ∃ (k P P2 : Nat) (xs Z : List ByteArray) (m m2 : Nat), i = .int .i64 (k : Int) ∧ k ≤ n ∧ MvS l M l2 M2 b w0 W P P2 xs xs Z m m2 ∧ m ≤ k ∧ m2 ≤ k ∧ xs.length ≤ k ∧ Z.length ≤ k ∧ Z.Nodup ∧ ∀ s, s ∈ Z ↔ s ∈ xs
theorem mem_front {xs : List ByteArray} {s t : ByteArray} : t ∈ s :: rem xs s ↔ t ∈ xs ∨ t = s := by
  rw [List.mem_cons, rem_mem]
  by_cases e : t = s
  · simp [e]
  · simp [e]
theorem same_len {xs Z : List ByteArray} (h1 : xs.Nodup) (h2 : Z.Nodup) (h : ∀ s, s ∈ Z ↔ s ∈ xs) : xs.length = Z.length :=
  ((List.perm_ext_iff_of_nodup h1 h2).2 fun s => (h s).symm).length_eq

set_option maxHeartbeats 4000000 in
set_option maxRecDepth 100000 in
theorem moves_main (A : Option Addr) (n c : Nat) (w : World) (K : Nat → Int) (S : Nat → ByteArray) (key : ByteArray) (hn : n ≤ 200) (hkey : key.size ≤ 1000) (hS : ∀ i, i < n → (S i).size ≤ maxLen)
    (hc : 0 < n → ∃ g o, A = some ⟨g, o, none⟩ ∧ g < w.heap.size ∧ n ≤ c ∧ c ≤ maxLen ∧ ∀ i, i < n → w.cell? ⟨g, o + i * 2, none⟩ = some (.int .i64 (K i)) ∧ w.cell? ⟨g, o + i * 2 + 1, none⟩ = some (.string (S i))) :
    Calls Try.prog 5 #[.slice A n c, .string key] w (RetB true w) := by
  have e0 : decide (200 < (n : Int)) = false := by simp; omega
  have e1 : decide (1000 < (key.size : Int)) = false := by simp; omega
  have hks : key.size ≤ maxLen := by unfold maxLen; omega
  have HC := Lib.hid hc
  have HS := Lib.hid hS
  clear hc hS
  have hmm := @run_makeMap Try.prog
  go_enter Try.func5, Try.ntmps5
  go_wp2_with fail
  refine (awake_any _).mono ?_
  rintro e w0 ⟨rfl, hb0⟩
  have b0 := Lib.hid hb0; clear hb0
  go_wp2_with fail
  refine (new_any w0).mono ?_
  rintro e w1 ⟨l, M, P, rfl, hl, hM, hP, hL, hB⟩
  have B1 := Lib.hid hB
  have N1 := Lib.hid (And.intro hl (And.intro hM hP))
  have L1 := Lib.hid hL
  clear hl hM hP hL hB
  go_wp2_with fail
  refine (new_any w1).mono ?_
  rintro e w2 ⟨l2, M2, P2, rfl, hl, hM, hP, hL, hB⟩
  have ST := Lib.hid (show MvS l M l2 M2 w2.heap.size w (w2.alloc (.map #[] 0)) P P2 [] [] [] 0 0 from by
    have hs0 := b0.out.size
    have hs1 := B1.out.size
    have hs2 := hB.size
    have n1 := N1.out
    have l1 := L1.out.llt
    have q2 := hL.llt
    have hb1 := (Below.refl w2.heap.size w2).alloc (Nat.le_refl _) (.map #[] 0)
    have hbb : Below w.heap.size w (w2.alloc (.map #[] 0)) := ((b0.out.trans (B1.out.mono hs0)).trans (hB.mono (by omega))).alloc (by omega) _
    exact ⟨(L1.out.below hB).below hb1, hL.below hb1, ⟨hbb, by omega, by omega, by omega⟩, ⟨hbb, by omega, by omega, by omega⟩, Seen.made w2, by omega, ⟨by omega, by omega, by omega, by omega⟩, ⟨by omega, by omega, by omega, by omega⟩, ⟨by omega, by omega, by omega, by omega⟩, ⟨by omega, by omega, by omega⟩⟩)
  clear hl hM hP hL hB b0 B1 N1 L1
  go_wp2_with fail
  clear e0 e1 hmm
  generalize w2.heap.size = b at ST ⊢
  go_loopw [8] (fun i W => MvA n l M l2 M2 b w i W) (fun i _ => n - (intOf i).toNat)
  case atStart => exact ⟨0, P, P2, [], [], 0, 0, rfl, Nat.zero_le _, ST.out, Nat.le_refl _, Nat.le_refl _, Nat.le_refl _, Nat.le_refl _, by simp, by simp⟩
  case round =>
    obtain ⟨k, P, P2, xs, Z, m, m2, rfl, hk, hMv, hm, hm2, hxl, hzl, hnd, hmem⟩ := hrel
    have HMv := Lib.hid hMv
    have HND := Lib.hid hnd
    have HMem := Lib.hid hmem
    clear hMv hnd hmem ST
    by_cases hlt : k < n
    · have e0 : decide (k < n) = true := by simpa using hlt
      obtain ⟨g, o, rfl, hg, hc1, hc2, hcell⟩ := HC.out (by omega)
      have hc3 := (hcell k hlt).2
      have h1 := (HMv.out.k1.bel.cell (p := ⟨g, o + k * 2 + 1, none⟩) hg).trans hc3
      have hsk := HS.out k hlt
      have hrl := rem_le xs (S k)
      clear hcell
      unfold maxLen at hc2
      go_wp2_with fail
      refine (front_any wr l M P xs m (S k) HMv.out.one hsk (by omega)).mono ?_
      intro e w3 hp
      obtain rfl := hp.val
      obtain ⟨P', hMv3⟩ := HMv.out.opOne hp
      have h2 := (hMv3.k1.bel.cell (p := ⟨g, o + k * 2 + 1, none⟩) hg).trans hc3
      have HMv3 := Lib.hid hMv3
      clear hp hMv3 h1
      go_wp2_with fail
      refine (front_any w3 l2 M2 P2 xs m2 (S k) HMv3.out.two hsk (by omega)).mono ?_
      intro e w4 hp
      obtain rfl := hp.val
      obtain ⟨P2', hMv4⟩ := HMv3.out.opTwo hp
      have h3 := (hMv4.k1.bel.cell (p := ⟨g, o + k * 2 + 1, none⟩) hg).trans hc3
      obtain ⟨w5, hrun, hMv5⟩ := hMv4.store hsk (by omega)
      have hal := add_le Z (S k)
      have R := Lib.hid (show MvA n l M l2 M2 b w (.int .i64 ((k + 1 : Nat) : Int)) w5 from ⟨k + 1, P', P2', _, _, _, _, rfl, by omega, hMv5, by omega, by omega, by rw [List.length_cons]; omega, by omega, add_nodup HND.out, fun s => by
        rw [mem_add, mem_front, HMem.out s]⟩)
      clear hp hMv4 hMv5 h2 hal hc3
      go_wp2_with fail
      go_roundw
      case rel => exact R.out
      case measure => simp [intOf]; omega
    · have e0 : decide (k < n) = false := by simpa using hlt
      obtain ⟨w3, hrun, hMv3⟩ := HMv.out.store hks (by omega)
      have HMv3 := Lib.hid hMv3
      have hrl := rem_le xs key
      clear hMv3 HMv
      go_wp2_with fail
      clear hrun e0
      refine (back_any w3 l M P xs m key HMv3.out.one hks (by omega)).mono ?_
      intro e w4 hp
      obtain rfl := hp.val
      obtain ⟨P', hMv4⟩ := HMv3.out.opOne hp
      have HMv4 := Lib.hid hMv4
      clear hp hMv4
      go_wp2_with fail
      refine (front_any w4 l M P' _ _ key HMv4.out.one hks (by omega)).mono ?_
      intro e w5 hp
      obtain rfl := hp.val
      rw [rem_back] at hp
      obtain ⟨P5, hMv5⟩ := HMv4.out.opOne hp
      have HMv5 := Lib.hid hMv5
      clear hp hMv5
      go_wp2_with fail
      refine (remove_any w5 l2 M2 P2 xs m2 key HMv5.out.two hks).mono ?_
      intro e w6 hp
      obtain rfl := hp.val
      obtain ⟨P6, hMv6⟩ := HMv5.out.opTwo hp
      have HMv6 := Lib.hid hMv6
      clear hp hMv6
      go_wp2_with fail
      refine (front_any w6 l2 M2 P6 _ _ key HMv6.out.two hks (by omega)).mono ?_
      intro e w7 hp
      obtain rfl := hp.val
      rw [rem_rem] at hp
      obtain ⟨P7, hMv7⟩ := HMv6.out.opTwo hp
      have HMv7 := Lib.hid hMv7
      clear hp hMv7 HMv3 HMv4 HMv5 HMv6
      have LEN := Lib.hid (show (key :: rem xs key).length = (add Z key).length from same_len HMv7.out.one.nodup (add_nodup HND.out) fun s => by rw [mem_add, mem_front, HMem.out s])
      clear HND HMem
      generalize hzz : add Z key = Z' at HMv7 LEN
      generalize hww : key :: rem xs key = ws at HMv7 LEN
      clear hzz hww
      go_wp2_with fail
      refine (keys_any w7 l M P5 ws _ HMv7.out.one).mono ?_
      rintro e w8 ⟨v, rfl, hO, hB⟩
      have HMv8 := Lib.hid (HMv7.out.below hB)
      have O8 := Lib.hid hO.row
      clear hO hB HMv7
      go_wp2_with fail
      refine (keys_any w8 l2 M2 P7 ws _ HMv8.out.two).mono ?_
      rintro e w9 ⟨u, rfl, hO, hB⟩
      have HMv9 := Lib.hid (HMv8.out.below hB)
      have U := Lib.hid (show Calls Try.prog 26 #[v, u] w9 (SamePost true w9) from by
        obtain ⟨g, _, hg⟩ := O8.out
        obtain ⟨g', _, hg'⟩ := hO.row
        have := refSame_any w9 g g' v u ws ws (hg.below hB) hg'
        rw [decide_eq_true (rfl : ws = ws)] at this
        exact this)
      clear hO hB HMv8 O8
      go_wp2_with fail
      refine U.out.mono ?_
      rintro e w10 ⟨rfl, q, hw10⟩
      have HMv10 := Lib.hid (show MvS l M l2 M2 b w w10 P5 P7 ws ws Z' _ _ by rw [hw10]; exact HMv9.out.below (below_drewN _ _))
      clear hw10 U HMv9
      have hsl := fun ty => HMv10.out.seen.len ty
      have U1 := len_any w10 l M P5 ws _ HMv10.out.one
      have U2 := len_any w10 l2 M2 P7 ws _ HMv10.out.two
      rw [LEN.out] at U1 U2
      have U1 := Lib.hid U1
      have U2 := Lib.hid U2
      go_wp2_with fail
      refine U1.out.mono ?_
      rintro e w10 ⟨rfl, rfl⟩
      go_wp2_with fail
      refine U2.out.mono ?_
      rintro e w10 ⟨rfl, rfl⟩
      go_wp2_with fail
      go_ret
      exact ⟨rfl, HMv10.out.k1.bel⟩

theorem walk_listMoves (v0 : Value) (a1 : ByteArray) (w : World) (w0 : CameA w v0) (w1 : a1.size ≤ maxLen) : Calls Try.prog 5 #[v0, .string a1] w (RetB true w) := by
  obtain ⟨A, n, c, rfl, hn, K, S, hr, hc⟩ := w0
  by_cases hbig : n ≤ 200
  · by_cases hbk : a1.size ≤ 1000
    · exact moves_main A n c w K S a1 hbig hbk (fun i hi => (hr i hi).2) hc
    · have e0 : decide (200 < (n : Int)) = false := by simp; omega
      have e1 : decide (1000 < (a1.size : Int)) = true := by simp; omega
      unfold maxLen at hn w1
      clear hr hc
      go_enter Try.func5, Try.ntmps5
      go_wp2_with fail
      refine (awake_any _).mono ?_
      rintro e w0 ⟨rfl, hb0⟩
      go_wp2_with fail
      go_ret
      exact ⟨rfl, hb0⟩
  · have e0 : decide (200 < (n : Int)) = true := by simp; omega
    unfold maxLen at hn w1
    clear hr hc
    go_enter Try.func5, Try.ntmps5
    go_wp2_with fail
    refine (awake_any _).mono ?_
    rintro e w0 ⟨rfl, hb0⟩
    go_wp2_with fail
    go_ret
    exact ⟨rfl, hb0⟩

namespace LListMoves
set_option maxRecDepth 100000 in
theorem lifted (os : Os) (started : os.Started) (H : Type) (enc : TypeId × Value → H) :
    ReturnsInHanded {} Try.checked os 5 .any (Rows.listMovesSpec.pre6 enc Try.prog Try.f5 Rows.listMovesRow.domain false) (Rows.listMovesSpec.post enc Try.prog Try.f5 false true false false) := by
  refine returnsInHanded_of_change (C := Try.checked) own started (by kernel_rfl) Try.func5
    (ChangeSpec.witness6 (enc := enc) (C := Try.checked) false ⟨#[], #[.slice none 0 0, .string ByteArray.empty], []⟩ 8 (by kernel_rfl) (by kernel_rfl) (by kernel_rfl) (by kernel_rfl)) ?_
  intro W base args ds gs before hval0 hW _ _
  have hval : ∀ (j : Nat) t v, Try.f5.params[j]? = some t → args[j]? = some v → Value.okWide Try.prog W .any base t v := hval0
  have hW' := hW
  obtain ⟨p, q, hA0, hV, rfl, hfz, hnd⟩ := hW
  have hA : DataW.TrodAll enc Try.prog W 0 (fun _ => true) true Try.f5.params.toList args.toList ds p := hA0
  rw [Try.params5] at hA hval
  obtain ⟨v0, vs0, d0, ds0, p0, q0, hargs, rfl, rfl, h0, r0⟩ := trodAll_cons hA
  obtain ⟨v1, vs1, d1, ds1, p1, q1, rfl, rfl, rfl, h1, r1⟩ := trodAll_cons r0
  obtain ⟨rfl, rfl, rfl⟩ := trodAll_nil r1
  obtain rfl : args = #[v0, v1] := by cases args; simp_all
  obtain ⟨rfl, rfl⟩ := trodVars_none hV
  have k0 := h0
  have lt0 : ∀ x ∈ p0, x.block < W.heap.size := by obtain ⟨m, hm⟩ := k0; exact DataW.trod_lt m _ _ _ hm
  have w0 := open_a (hval 0 22 v0 rfl rfl) h0
  obtain ⟨a1, rfl, rfl, rfl, w1⟩ := open_string Try.underlying9 (hval 1 9 v1 rfl rfl) h1
  clear hA0 hval0
  refine (walk_listMoves v0 a1 W w0 w1).mono fun e W' ⟨he, bel⟩ => ?_
  subst he
  exact ⟨_, rfl, _, _, _, [], _, [], hW', trodAll_mk1 (shut_bool Try.underlying4 _), (trodAll_cons_mk (Below.trod laidOut (by kernel_rfl) (of_decide_eq_true (by kernel_rfl)) k0 bel lt0) (trodAll_cons_mk (shut_string Try.underlying9 w1) trodAll_mk0)), rfl, bel.frame _, fun h => by cases h⟩

theorem said : Rows.ListMovesSaid :=
  OpenClaim.holds_of_wide 5 Try.f5 rfl rfl rfl rfl rfl rfl rfl ⟨rfl, rfl, rfl, rfl, rfl⟩ rfl rfl rfl rfl rfl (by kernel_rfl) Try.func5 (by kernel_rfl)
    (of_decide_eq_true (by kernel_rfl)) (by unfold Func.isWrapper; rw [if_neg (of_decide_eq_false (by kernel_rfl))]; exact ⟨rfl, rfl⟩)
    (fun os started H enc _ => lifted os started H enc)
#print axioms said
end LListMoves
end Go.Proofs.Ytlncfelglmhbdaa
