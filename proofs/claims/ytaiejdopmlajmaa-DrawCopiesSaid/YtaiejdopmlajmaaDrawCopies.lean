/- 'cachewiselaw02.DrawCopies' returns true for every lane and every two counts, and leaves what was there as it was. No condition. -/
import Derived.Test.YtaiejdopmlajmaaShapes
import Derived.Deep.RegionHeld3
import Derived.Maps.AppendAt
namespace Go.Proofs.Ytaiejdopmlajmaa
open Go.ChangeShapes Go.WideShapes Go.ChangeAt Go.RowKit

theorem new_lane (w : World) (v : Value) (xs : List Nat) (h : Lane w 0 w.heap.size v xs) :
    Calls Try.prog 10 #[.slice (some ⟨w.heap.size, 0, none⟩) 1 1] (w.alloc (.cells #[v] 25)) (NewE [xs] w) :=
  (newE_any _ _ _ (one_lanes w v xs h)).mono fun e w' ⟨B, h1, h2, h3, h4⟩ => ⟨B, h1, h2, by simp at h3; omega, ((Below.refl _ _).alloc (Nat.le_refl _) _).trans (h4.mono (by simp))⟩

theorem lget_one (ys : List Nat) : lget [ys] 0 = ys := rfl
theorem adv_one (ys : List Nat) : adv [ys] 0 = [ys.tail] := rfl
theorem next_one {w : World} {B E : Nat} {xs : List Nat} (k : Nat) (h : Tape w B E [xs.drop k]) :
    Calls Try.prog 12 #[.pointer (some ⟨B + 1, 0, none⟩), .int .i64 0] w (NextAt w B E ((xs.getD k 0 : Nat) : Int) [xs.drop (k + 1)]) :=
  next_at 0 _ _ h (by rw [lget_one, List.headD_eq_head?_getD, List.head?_drop, List.getD_eq_getElem?_getD]) (by rw [adv_one, List.tail_drop])

def CpA (xs : List Nat) (B E a : Nat) (w : World) (i : Value) (W : World) : Prop := ∃ k : Nat, i = .int .i64 (k : Int) ∧ k ≤ a ∧ Tape W B E [xs.drop k] ∧ Below w.heap.size w W

def uints (xs : List Nat) : List Value := xs.map fun n : Nat => Value.int .u64 (n : Int)
def ans (ys : List Nat) (k : Nat) : List Nat := (List.range k).map fun j => ys.getD j 0
theorem ans_length (ys : List Nat) (k : Nat) : (ans ys k).length = k := by simp [ans]
theorem ans_snoc (ys : List Nat) (k : Nat) : ans ys (k + 1) = ans ys k ++ [ys.getD k 0] := by simp [ans, List.range_succ]
theorem ans_get (ys : List Nat) (k j : Nat) (h : j < k) : (uints (ans ys k))[j]? = some (.int .u64 ((ys.getD j 0 : Nat) : Int)) := by
  simp [uints, ans, h]
theorem uints_snoc (xs : List Nat) (b : Nat) : uints (xs ++ [b]) = uints xs ++ [.int .u64 (b : Int)] := by simp [uints]

def CpB (xs ys : List Nat) (a B E C F b base : Nat) (w : World) (l i : Value) (W : World) : Prop := ∃ k : Nat, i = .int .i64 (k : Int) ∧ k ≤ b ∧ W.ownsRow base 28 1 l k (uints (ans ys k)) ∧
  Tape W B E [xs.drop (a + k)] ∧ Tape W C F [ys] ∧ Below w.heap.size w W ∧ base ≤ W.heap.size

def CpC (xs ys : List Nat) (a B E C F b base : Nat) (l : Value) (w : World) (i : Value) (W : World) : Prop := ∃ k : Nat, i = .int .i64 (k : Int) ∧ k ≤ b ∧ W.ownsRow base 28 1 l b (uints (ans ys b)) ∧
  Tape W B E [xs.drop (a + b)] ∧ Tape W C F [ys.drop k] ∧ Below w.heap.size w W

theorem own_shape {w : World} {base n : Nat} {e : TypeId} {v : Value} {xs : List Value} (h : w.ownsRow base e 1 v n xs) : ∃ A c, v = .slice A n c ∧ (0 < n → ∃ g, A = some ⟨g, 0, none⟩ ∧ base ≤ g ∧ g < w.heap.size) ∧ n ≤ c := by
  rcases h.2 with ⟨rfl, hn⟩ | ⟨g, cap, cur, rfl, hb, hh, hc, _⟩
  · subst hn; exact ⟨none, 0, rfl, fun h => absurd h (by omega), by omega⟩
  · exact ⟨_, cap, rfl, fun _ => ⟨g, rfl, hb, (Array.getElem?_eq_some_iff.1 hh).1⟩, hc⟩

theorem Tape.keptAny {w w' : World} {B E : Nat} {L : List (List Nat)} {row : Option Nat} (h : Tape w B E L) (hg : w.grownBy w' row) (hr : ∀ k, row = some k → E ≤ k) : Tape w' B E L :=
  h.same hg.size fun k _ k2 => hg.block k (by have := h.2.1; omega) (fun e => by have := hr k e.symm; omega)
theorem one_cell (w : World) (y : Int) : ∀ (j : Nat) (u : Value), [Value.int .u64 y][j]? = some u → (w.alloc (.cells #[.int .u64 y] 28)).cell? (Addr.add ⟨w.heap.size, 0, none⟩ j) = some u := by
  intro j u hj
  match j, hj with
  | 0, hj => simp at hj; subst hj; simp [Addr.add]
theorem one_one (y : Int) : ∀ u ∈ [Value.int .u64 y], u.oneCell' = true := by intro u hu; simp at hu; subst hu; rfl

theorem cp_next {xs ys : List Nat} {a B E C F k y : Nat} {w w5 w6 : World} {v v' : Value} {o : Obj} (hy : y = ys.getD k 0) (hown : w5.ownsRow F 28 1 v k (uints (ans ys k)))
    (S : Tape w5 B E [xs.drop (a + k + 1)] ∧ Tape w5 C F [ys] ∧ Below w.heap.size w w5 ∧ F ≤ w5.heap.size)
    (hown' : w6.ownsRow F 28 1 v' (k + 1) (uints (ans ys k) ++ [.int .u64 (y : Int)])) (hg : (w5.alloc o).grownBy w6 v.ownBlock) (hEF : E ≤ F := by omega) (hw : w.heap.size ≤ F := by omega) :
    w6.ownsRow F 28 1 v' (k + 1) (uints (ans ys (k + 1))) ∧ Tape w6 B E [xs.drop (a + (k + 1))] ∧ Tape w6 C F [ys] ∧ Below w.heap.size w w6 ∧ F ≤ w6.heap.size := by
  have hga : w5.grownBy w6 v.ownBlock := (World.grownBy_alloc w5 o _).trans hg
  refine ⟨?_, S.1.keptAny hga fun k hk => Nat.le_trans hEF (hown.lt k hk).1, S.2.1.keptAny hga fun k hk => (hown.lt k hk).1, S.2.2.1.grown hga S.2.2.1.size fun k hk => Nat.le_trans hw (hown.lt k hk).1, Nat.le_trans S.2.2.2 hga.size⟩
  rw [ans_snoc, uints_snoc, ← hy]
  exact hown'

theorem Tape.drewn {w : World} {B E : Nat} {L : List (List Nat)} (h : Tape w B E L) : Tape w.drew B E L := h.same (Nat.le_refl _) (fun _ _ _ => rfl)
theorem own_cap_le {w : World} {base e n m c : Nat} {A : Option Addr} {xs : List Value} (h : w.ownsRow base e 1 (.slice A n c) m xs) : c ≤ 9223372036854775807 := by
  rcases h.2 with ⟨h1, _⟩ | ⟨g, cap, cur, h1, _, _, _, hm, _⟩
  · injection h1 with _ _ h1; omega
  · injection h1 with _ _ h1; unfold maxLen at hm; omega

theorem cp_third {xs ys : List Nat} {a B E C F b k : Nat} {w wr w5 : World} {v : Value} (G : wr.ownsRow F 28 1 v b (uints (ans ys b)) ∧ Tape wr B E [xs.drop (a + b)] ∧ Below w.heap.size w wr)
    (hT : Tape w5 C F [ys.drop (k + 1)]) (hg : wr.drew.grownBy w5 (some C)) (hBC : E ≤ C) (hCF : C + 2 ≤ F) (hC0 : w.heap.size ≤ C) :
    w5.ownsRow F 28 1 v b (uints (ans ys b)) ∧ Tape w5 B E [xs.drop (a + b)] ∧ Tape w5 C F [ys.drop (k + 1)] ∧ Below w.heap.size w w5 :=
  ⟨G.1.drew.kept hg (Or.inr fun e => by have := G.1.lt C e; omega), G.2.1.drewn.kept hg (Or.inr hBC), hT, G.2.2.drew.grown hg G.2.2.size (fun k hk => by cases hk; exact hC0)⟩

set_option maxHeartbeats 4000000 in
set_option maxRecDepth 100000 in
theorem copies_all (v : Value) (xs : List Nat) (a b : Nat) (w : World) (hl : Lane w 0 w.heap.size v xs) (hx : xs.length ≤ 300) (ha : a ≤ 255) (hb : b ≤ 255) :
    Calls Try.prog 7 #[v, .int .u8 (a : Int), .int .u8 (b : Int)] w (RetB true w) := by
  obtain ⟨i0, hi, hz0, hz1, hz2⟩ := info_parts infoU
  obtain ⟨A, c, rfl⟩ := hl.shape
  have e0 : decide (300 < (xs.length : Int)) = false := by simp; omega
  have HL := Lib.hid hl; clear hl
  go_enter Try.func7, Try.ntmps7
  go_wp2_with fail
  refine (awake_any _).mono ?_
  rintro e w0 ⟨rfl, hbl⟩
  have b0 := Lib.hid hbl; clear hbl
  go_wp2_with fail
  refine (new_lane w0 _ xs ((HL.out.same fun k _ hk => b0.out.block k hk).wide (Nat.le_refl _) b0.out.size)).mono ?_
  rintro e w1 ⟨B, rfl, hT, hB, hbl⟩
  have b1 := Lib.hid (b0.out.trans (hbl.mono b0.out.size)); clear hbl
  have hB0 : w.heap.size ≤ B := Nat.le_trans b0.out.size hB
  have T1 := Lib.hid hT; clear hT
  obtain ⟨E, hE⟩ : ∃ E, E = w1.heap.size := ⟨_, rfl⟩
  rw [← hE] at T1
  have HE := Lib.hid hE; clear hE
  go_wp2_with fail
  go_loopw [8] (fun i W => CpA xs B E a w i W) (fun i _ => a - (intOf i).toNat)
  case atStart => exact ⟨0, rfl, by omega, T1.out, b1.out⟩
  case round =>
    obtain ⟨k, rfl, hk, hT, hbl⟩ := hrel
    by_cases hka : k < a
    · have e1 : decide (k < a) = true := by simpa using hka
      have T2 := Lib.hid hT; clear hT
      have b2 := Lib.hid hbl; clear hbl
      go_wp2_with fail
      refine (next_one k T2.out).mono ?_
      rintro e w3 ⟨rfl, hT, hg⟩
      have R := Lib.hid (And.intro hT (b2.out.grown hg b2.out.size (fun k hk => by cases hk; exact hB0))); clear hT hg
      go_wp2_with fail
      go_roundw
      case rel => exact ⟨k + 1, by go_num, by omega, R.out.1, R.out.2⟩
      case measure => simp [intOf]; omega
    · obtain rfl : a = k := by omega
      have e1 : decide (a < a) = false := by simp
      have T2 := Lib.hid hT; clear hT
      have b2 := Lib.hid hbl; clear hbl hk hka
      obtain ⟨ys, hys⟩ : ∃ ys, ys = xs.drop a := ⟨_, rfl⟩
      obtain ⟨q, hq, hqq⟩ : ∃ q : Int, ((ys.length : Nat) : Int) = q ∧ ((a < xs.length ∧ q = (xs.length : Int) - a) ∨ (¬ a < xs.length ∧ q = 0)) := by
        refine ⟨_, rfl, ?_⟩
        have : ys.length = xs.length - a := by rw [hys, List.length_drop]
        omega
      rw [← hys] at T2
      have HY := Lib.hid hys; clear hys
      have HQ := Lib.hid hq; clear hq
      have hyl : ys.length ≤ 300 := by rw [HY.out, List.length_drop]; omega
      rcases hqq with ⟨h1, rfl⟩ | ⟨h1, rfl⟩
      all_goals
        go_wp2_with fail
        refine (copyE_any _ _ _ _ T2.out).mono ?_
        rintro e w3 ⟨C, rfl, hT, hC, hbl⟩
        have b3 := Lib.hid (b2.out.trans (hbl.mono b2.out.size))
        have T3 := Lib.hid (T2.out.below hbl)
        have hBC : E ≤ C := Nat.le_trans T2.out.lt.2 hC
        clear hbl
        obtain ⟨F, hF⟩ : ∃ F, F = w3.heap.size := ⟨_, rfl⟩
        rw [← hF] at hT
        have C3 := Lib.hid hT; clear hT
        have HF := Lib.hid hF; clear hF
        have hBE := T2.out.lt.1
        have hCF := C3.out.lt.1
        have hC0 : w.heap.size ≤ C := Nat.le_trans b2.out.size hC
        go_wp2_with fail
        refine (left_at 0 _ C3.out HQ.out).mono ?_
        rintro e w3 ⟨rfl, rfl⟩
        go_wp2_with fail
        refine (left_at 0 _ T3.out HQ.out).mono ?_
        rintro e w3 ⟨rfl, rfl⟩
        go_wp2_with fail
        refine (left_at 0 _ T3.out HQ.out).mono ?_
        rintro e w3 ⟨rfl, rfl⟩
        go_wp2_with fail
        go_loopw [10, 11] (fun l i W => CpB xs ys a B E C F b F w l i W) (fun _ i _ => b - (intOf i).toNat)
        case atStart => exact ⟨0, rfl, by omega, World.ownsRow_nil _ _ _ _, by rw [Nat.add_zero, ← HY.out]; exact T3.out, C3.out, b3.out, by rw [HF.out]; exact Nat.le_refl _⟩
        case round =>
          obtain ⟨k, rfl, hk, hown, hT, hCt, hbl, hsz⟩ := hrel
          by_cases hkb : k < b
          · have e2 : decide (k < b) = true := by simpa using hkb
            have N := Lib.hid (next_one (a + k) hT)
            rw [show xs.getD (a + k) 0 = ys.getD k 0 by rw [HY.out, List.getD_eq_getElem?_getD, List.getD_eq_getElem?_getD, List.getElem?_drop]] at N
            have G := Lib.hid (And.intro hown (And.intro hCt hbl)); clear hown hCt hbl hT
            obtain ⟨y, hy⟩ : ∃ y, y = ys.getD k 0 := ⟨_, rfl⟩
            rw [← hy] at N
            have HYk := Lib.hid hy; clear hy
            go_wp2_with fail
            refine N.out.mono ?_
            rintro e w5 ⟨rfl, hT, hg⟩
            have hown : w5.ownsRow F 28 1 _ k (uints (ans ys k)) := G.out.1.kept hg (Or.inr (fun e => by have := G.out.1.lt B e; omega))
            have S5 := Lib.hid (show Tape w5 B E [xs.drop (a + k + 1)] ∧ Tape w5 C F [ys] ∧ Below w.heap.size w w5 ∧ F ≤ w5.heap.size from ⟨hT, G.out.2.1.kept hg (Or.inl (by omega)), G.out.2.2.grown hg G.out.2.2.size (fun k hk => by cases hk; exact hB0), Nat.le_trans hsz hg.size⟩)
            have hs5 := S5.out.2.2.2
            clear hT hg G
            go_wp2_with (at_builtin; refine wpList_append_own _ rfl _ _ 25 rfl F 28 i0 (.int .u64 0) 1 8 Try.underlying25 hi hz0 hz1 hz2 rfl (by decide) _ _ _ rfl (hown.alloc _) ⟨w5.heap.size, 0, none⟩ 1 1 [.int .u64 (y : Int)] rfl rfl (one_cell _ _) (one_one _) (by unfold maxLen; omega) (by omega) (by simp; omega) ?_; intro v' w6 hown' hgrow _; have R := Lib.hid (cp_next HYk.out hown S5.out hown' hgrow); clear hown' hgrow hown)
            go_wp2_with fail
            go_roundw
            case rel => exact ⟨k + 1, by go_num, by omega, R.out⟩
            case measure => simp [intOf]; omega
          · obtain rfl : b = k := by omega
            have e2 : decide (b < b) = false := by simp
            have G := Lib.hid (And.intro hown (And.intro hT (And.intro hCt hbl))); clear hown hT hCt hbl
            obtain ⟨A2, c2, rfl, hA2, hc2⟩ := own_shape G.out.1
            have HA2 := Lib.hid hA2; clear hA2
            have hbw : F ≤ wr.heap.size := hsz
            clear hsz hk hkb
            go_wp2_with fail
            go_loopw [12] (fun i W => CpC xs ys a B E C F b F (.slice A2 b c2) w i W) (fun i _ => b - (intOf i).toNat)
            case atStart => exact ⟨0, rfl, by omega, G.out.1, G.out.2.1, G.out.2.2.1, G.out.2.2.2⟩
            case round =>
              obtain ⟨k, rfl, hk, hown, hT, hCt, hbl⟩ := hrel
              by_cases hkb : k < b
              · have e3 : decide (k < b) = true := by simpa using hkb
                obtain ⟨g, rfl, hg1, _⟩ := HA2.out (by omega)
                obtain ⟨y, hy⟩ : ∃ y, y = ys.getD k 0 := ⟨_, rfl⟩
                have hcell := (hown.cellAt k (by omega)).trans (ans_get ys b k hkb)
                rw [← hy] at hcell
                have N := Lib.hid (next_one k hCt.drewn)
                rw [← hy] at N
                clear hy
                have G2 := Lib.hid (And.intro hown (And.intro hT hbl)); clear hown hCt hbl hT
                have hcm : c2 ≤ 9223372036854775807 := own_cap_le G2.out.1
                go_wp2_with fail
                go_region_held3 (fun w' => w'.cell? ⟨g, k, none⟩ = some (.int .u64 (y : Int))) (first | assumption | go_keep)
                  (first | (go_at_call 12; refine N.out.mono ?_; rintro e w5 ⟨rfl, hT, hg⟩; have hc5 := hg.cell (a := ⟨g, k, none⟩) hcell (fun e => by have e2 : g = C := Option.some.inj e; omega); have S5 := Lib.hid (cp_third G2.out hT hg (by omega) (by omega) (by omega)); clear hT hg))
                all_goals
                  clear hc5
                  go_wp2_with fail
                  go_roundw
                  case rel => exact ⟨k + 1, by go_num, by omega, S5.out⟩
                  case measure => simp [intOf]; omega
              · obtain rfl : b = k := by omega
                have e3 : decide (b < b) = false := by simp
                have hlen : xs.drop (a + b) = ys.drop b := by rw [HY.out, List.drop_drop]
                rw [hlen] at hT
                have T7 := Lib.hid hT
                have C7 := Lib.hid hCt
                have b7 := Lib.hid hbl
                clear hT hCt hbl hown hlen
                go_wp2_with fail
                refine (left_at 0 _ C7.out rfl).mono ?_
                rintro e w8 ⟨rfl, rfl⟩
                go_wp2_with fail
                refine (left_at 0 _ T7.out rfl).mono ?_
                rintro e w8 ⟨rfl, rfl⟩
                go_wp2_with fail
                go_ret
                exact ⟨rfl, b7.out⟩

theorem walk_drawCopies (v : Value) (a b : Int) (W : World) (h0 : CameR W v) (h1 : (Lit.int .u8 a).wf = true) (h2 : (Lit.int .u8 b).wf = true) :
    Calls Try.prog 7 #[v, .int .u8 a, .int .u8 b] W (RetB true W) := by
  obtain ⟨a, rfl, ha⟩ := u8_nat h1
  obtain ⟨b, rfl, hb⟩ := u8_nat h2
  obtain ⟨A, n, c, rfl, hn, hr⟩ := h0
  by_cases hx : n ≤ 300
  · obtain ⟨xs, rfl, hl⟩ := hr (by omega)
    exact copies_all _ xs a b W hl hx ha hb
  · clear h1 h2 hr
    unfold maxLen at hn
    have e0 : decide (300 < (n : Int)) = true := by simp; omega
    go_enter Try.func7, Try.ntmps7
    go_wp2_with fail
    refine (awake_any _).mono ?_
    rintro e w0 ⟨rfl, hbl⟩
    have b0 := Lib.hid hbl; clear hbl
    go_wp2_with fail
    go_ret
    exact ⟨rfl, b0.out⟩
namespace LDrawCopies
set_option maxRecDepth 100000 in
theorem lifted (os : Os) (started : os.Started) (H : Type) (enc : TypeId × Value → H) :
    ReturnsInHanded {} Try.checked os 7 .any (Rows.drawCopiesSpec.pre6 enc Try.prog Try.f7 Rows.drawCopiesRow.domain false) (Rows.drawCopiesSpec.post enc Try.prog Try.f7 false true false false) := by
  refine returnsInHanded_of_change (C := Try.checked) own started (by kernel_rfl) Try.func7
    (ChangeSpec.witness6 (enc := enc) (C := Try.checked) false ⟨#[], #[.slice none 0 0, .int .u8 0, .int .u8 0], []⟩ 8 (by kernel_rfl) (by kernel_rfl) (by kernel_rfl) (by kernel_rfl)) ?_
  intro W base args ds gs before hval0 hW _ _
  have hval : ∀ (j : Nat) t v, Try.f7.params[j]? = some t → args[j]? = some v → Value.okWide Try.prog W .any base t v := hval0
  have hW' := hW
  obtain ⟨p, q, hA0, hV, rfl, hfz, hnd⟩ := hW
  have hA : DataW.TrodAll enc Try.prog W 0 (fun _ => true) true Try.f7.params.toList args.toList ds p := hA0
  rw [Try.params7] at hA hval
  obtain ⟨v0, vs0, d0, ds0, p0, q0, hargs, rfl, rfl, h0, r0⟩ := trodAll_cons hA
  obtain ⟨v1, vs1, d1, ds1, p1, q1, rfl, rfl, rfl, h1, r1⟩ := trodAll_cons r0
  obtain ⟨v2, vs2, d2, ds2, p2, q2, rfl, rfl, rfl, h2, r2⟩ := trodAll_cons r1
  obtain ⟨rfl, rfl, rfl⟩ := trodAll_nil r2
  obtain rfl : args = #[v0, v1, v2] := by cases args; simp_all
  obtain ⟨rfl, rfl⟩ := trodVars_none hV
  have k0 := h0
  have lt0 : ∀ x ∈ p0, x.block < W.heap.size := by obtain ⟨m, hm⟩ := k0; exact DataW.trod_lt m _ _ _ hm
  have w0 := open_r (hval 0 25 v0 rfl rfl) h0
  obtain ⟨a1, rfl, rfl, rfl, w1⟩ := open_int Try.underlying5 (hval 1 5 v1 rfl rfl) h1
  obtain ⟨a2, rfl, rfl, rfl, w2⟩ := open_int Try.underlying5 (hval 2 5 v2 rfl rfl) h2
  clear hA0 hval0
  refine (walk_drawCopies v0 a1 a2 W w0 w1 w2).mono fun e W' ⟨he, bel⟩ => ?_
  subst he
  exact ⟨_, rfl, _, _, _, [], _, [], hW', trodAll_mk1 (shut_bool Try.underlying4 _), (trodAll_cons_mk (Below.trod laidOut (by kernel_rfl) (of_decide_eq_true (by kernel_rfl)) k0 bel lt0) (trodAll_cons_mk (shut_int Try.underlying5 w1) (trodAll_cons_mk (shut_int Try.underlying5 w2) trodAll_mk0))), rfl, bel.frame _, fun h => by cases h⟩

theorem said : Rows.DrawCopiesSaid :=
  OpenClaim.holds_of_wide 7 Try.f7 rfl rfl rfl rfl rfl rfl rfl ⟨rfl, rfl, rfl, rfl, rfl⟩ rfl rfl rfl rfl rfl (by kernel_rfl) Try.func7 (by kernel_rfl)
    (of_decide_eq_true (by kernel_rfl)) (by unfold Func.isWrapper; rw [if_neg (of_decide_eq_false (by kernel_rfl))]; exact ⟨rfl, rfl⟩)
    (fun os started H enc _ => lifted os started H enc)
#print axioms said
end LDrawCopies
end Go.Proofs.Ytaiejdopmlajmaa
