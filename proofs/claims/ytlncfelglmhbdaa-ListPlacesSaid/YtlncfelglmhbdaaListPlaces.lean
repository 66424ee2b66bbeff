/- 'cachewiselaw03.ListPlaces' returns true for every row of keys and every number of rounds, and leaves what was there as it was. No condition. -/
import Derived.Test.YtlncfelglmhbdaaPlain3
namespace Go.Proofs.Ytlncfelglmhbdaa
open Go.ChangeShapes Go.WideShapes Go.ChangeAt Go.RowKit

/-- A list, its places as many as the keys that were seen. -/
structure PlS (n : Nat) (S : Nat → ByteArray) (l M b : Nat) (w0 W : World) (P : Nat) (xs Z : List ByteArray) : Prop where
  lst : Lst W l M P xs Z.length
  kept : Kept w0 W l M P
  seen : Seen W b Z
  b0 : w0.heap.size ≤ b
  bl : b ≠ l ∧ b ≠ M ∧ b ≠ P
  nodup : Z.Nodup
  len : Z.length ≤ n
  sub : ∀ s ∈ xs, s ∈ Z
  keys : ∀ s ∈ Z, ∃ j, j < n ∧ s = S j

theorem nodup_len {xs Z : List ByteArray} (h : xs.Nodup) (hs : ∀ s ∈ xs, s ∈ Z) : xs.length ≤ Z.length := by
  induction xs generalizing Z with
  | nil => simp
  | cons x xs ih =>
    have h1 := List.nodup_cons.1 h
    obtain ⟨ps, qs, rfl⟩ := List.append_of_mem (hs x (by simp))
    have := ih (Z := ps ++ qs) h1.2 (fun s hx => by
      have h2 := hs s (List.mem_cons_of_mem _ hx)
      rcases List.mem_append.1 h2 with h3 | h3
      · exact List.mem_append_left _ h3
      · rcases List.mem_cons.1 h3 with h4 | h4
        · exact absurd (h4 ▸ hx) h1.1
        · exact List.mem_append_right _ h4)
    simp only [List.length_append, List.length_cons] at this ⊢
    omega

theorem inj_len {n : Nat} {S : Nat → ByteArray} {Z : List ByteArray} (h : Z.Nodup) (hk : ∀ s ∈ Z, ∃ j, j < n ∧ s = S j) : Z.length ≤ n := by
  have := nodup_len (Z := (List.range n).map S) h (fun s hs => by
    obtain ⟨j, hj, rfl⟩ := hk s hs
    exact List.mem_map_of_mem (by simpa using hj))
  simpa using this

/-- Front of a key, and the key into the set. -/
theorem PlS.step {n : Nat} {S : Nat → ByteArray} {l M b : Nat} {w0 W : World} {P k : Nat} {xs Z : List ByteArray} (h : PlS n S l M b w0 W P xs Z) (hk : k < n) (hs : (S k).size ≤ maxLen) (hn : n ≤ 50) (hor : (∀ s ∈ Z, s ∈ xs) ∨ ∀ j, j < n → S j ∈ Z)
    {v : Value} {e : Ending} {w2 : World} (hp : OpPost v W l M P (S k :: rem xs (S k)) (max Z.length ((rem xs (S k)).length + 1)) e w2) :
    ∃ w3 P', (Instr.mapUpdate 41 (.map (some b)) (.string (S k)) (.bool true)).run Try.prog w2 = .ok () w3 ∧ PlS n S l M b w0 w3 P' (S k :: rem xs (S k)) (add Z (S k)) ∧ ((∀ s ∈ add Z (S k), s ∈ S k :: rem xs (S k)) ∨ ∀ j, j < n → S j ∈ add Z (S k)) ∧ Below w0.heap.size w0 w2 := by
  obtain ⟨P', _, hP, hL, hT⟩ := hp
  have hblt := h.seen.lt
  have hb := h.bl
  have hseen2 : Seen w2 b Z := h.seen.same (hT.block b hblt hb.1 hb.2.1 hb.2.2)
  have hlen := h.len
  obtain ⟨w3, hrun, hseen3, hg⟩ := hseen2.store hs (by omega)
  have hK2 := h.kept.next hP hT
  have hbP : b ≠ P' := by rcases hP with rfl | hP <;> omega
  have hllt := hL.llt
  have hL3 : Lst w3 l M P' (S k :: rem xs (S k)) (max Z.length ((rem xs (S k)).length + 1)) :=
    hL.same hg.size (hg.block _ hllt.1 (by simpa using Ne.symm hb.1)) (hg.block _ hllt.2.1 (by simpa using Ne.symm hb.2.1)) (hg.block _ hllt.2.2 (by simpa using Ne.symm hbP))
  have hsub : ∀ s ∈ S k :: rem xs (S k), s ∈ add Z (S k) := fun s hs => by
    rcases List.mem_cons.1 hs with h1 | h1
    · exact mem_add.2 (Or.inr h1)
    · exact mem_add.2 (Or.inl (h.sub s (rem_mem.1 h1).1))
  have hnd := add_nodup (s := S k) h.nodup
  have hle := nodup_len hL3.nodup hsub
  have hkeys : ∀ s ∈ add Z (S k), ∃ j, j < n ∧ s = S j := fun s hs => by
    rcases mem_add.1 hs with h1 | h1
    · exact h.keys s h1
    · exact ⟨k, hk, h1⟩
  have hm : max Z.length ((rem xs (S k)).length + 1) = (add Z (S k)).length := by
    rw [List.length_cons] at hle
    by_cases hz : S k ∈ Z
    · rw [add_in hz] at hle ⊢
      omega
    · rw [add_len hz] at hle ⊢
      rcases hor with h1 | h1
      · have hzx := nodup_len h.nodup h1
        have hx : S k ∉ xs := fun hx => hz (h.sub _ hx)
        rw [rem_none hx] at hle ⊢
        omega
      · exact absurd (h1 k hk) hz
  refine ⟨w3, P', hrun, ⟨hL3.eq rfl hm, ⟨hK2.bel.grown hg hK2.bel.size (fun k hk => by cases hk; exact h.b0), hK2.l0, hK2.M0, hK2.P0⟩, hseen3, h.b0, ⟨hb.1, hb.2.1, hbP⟩, hnd, inj_len hnd hkeys, hsub, hkeys⟩, ?_, hK2.bel⟩
  rcases hor with h1 | h1
  · left
    intro s hs
    by_cases e : s = S k
    · rw [e]; simp
    · rcases mem_add.1 hs with h2 | h2
      · exact List.mem_cons_of_mem _ (rem_mem.2 ⟨h1 s h2, e⟩)
      · exact absurd h2 e
  · right
    exact fun j hj => mem_add.2 (Or.inl (h1 j hj))
/-- A key removed. -/
theorem PlS.gone {n : Nat} {S : Nat → ByteArray} {l M b : Nat} {w0 W : World} {P k : Nat} {xs Z : List ByteArray} (h : PlS n S l M b w0 W P xs Z) {v : Value} {e : Ending} {w2 : World} (hp : OpPost v W l M P (rem xs (S k)) Z.length e w2) :
    ∃ P', PlS n S l M b w0 w2 P' (rem xs (S k)) Z := by
  obtain ⟨P', _, hP, hL, hT⟩ := hp
  have hblt := h.seen.lt
  have hb := h.bl
  exact ⟨P', hL, h.kept.next hP hT, h.seen.same (hT.block b hblt hb.1 hb.2.1 hb.2.2), h.b0, ⟨hb.1, hb.2.1, by rcases hP with rfl | hP <;> omega⟩, h.nodup, h.len, fun s hs => h.sub s (rem_mem.1 hs).1, h.keys⟩

def PlA (n : Nat) (S : Nat → ByteArray) (l M b : Nat) (w0 : World) (R : Nat) (r : Value) (W : World) : Prop := ∃ (k P : Nat) (Z : List ByteArray), r = .int .i64 (k : Int) ∧ k ≤ R ∧ PlS n S l M b w0 W P [] Z ∧ ((∀ s ∈ Z, s ∈ ([] : List ByteArray)) ∨ ∀ j, j < n → S j ∈ Z)
def PlB (n : Nat) (S : Nat → ByteArray) (l M b : Nat) (w0 : World) (i : Value) (W : World) : Prop := ∃ (k P : Nat) (xs Z : List ByteArray), i = .int .i64 (k : Int) ∧ k ≤ n ∧ PlS n S l M b w0 W P xs Z ∧ ((∀ s ∈ Z, s ∈ xs) ∨ ∀ j, j < n → S j ∈ Z) ∧ ∀ j, j < k → S j ∈ Z
def PlC (n : Nat) (S : Nat → ByteArray) (l M b : Nat) (w0 : World) (i : Value) (W : World) : Prop := ∃ (k P : Nat) (xs Z : List ByteArray), i = .int .i64 (k : Int) ∧ k ≤ n ∧ PlS n S l M b w0 W P xs Z ∧ (∀ j, j < n → S j ∈ Z) ∧ ∀ s ∈ xs, ∃ j, k ≤ j ∧ j < n ∧ s = S j

def sx : ByteArray := ⟨#[120]⟩

set_option maxHeartbeats 4000000 in
set_option maxRecDepth 100000 in
theorem places_main (A : Option Addr) (n c : Nat) (w : World) (S : Nat → ByteArray) (q R : Nat) (hn : n ≤ 50) (hq : q ≤ 255) (hR : R = q % 8 + 1) (hS : ∀ i, i < n → (S i).size ≤ maxLen)
    (hc : 0 < n → ∃ g o, A = some ⟨g, o, none⟩ ∧ g < w.heap.size ∧ n ≤ c ∧ c ≤ maxLen ∧ ∀ i, i < n → w.cell? ⟨g, o + i, none⟩ = some (.string (S i))) :
    Calls Try.prog 7 #[.slice A n c, .int .u8 (q : Int)] w (RetB true w) := by
  have e0 : decide (50 < (n : Int)) = false := by simp; omega
  have HC := Lib.hid hc
  have HS := Lib.hid hS
  have HR := Lib.hid hR
  clear hc hS hR
  have hmm := @run_makeMap Try.prog
  go_enter Try.func7, Try.ntmps7
  go_wp2_with fail
  refine (awake_any _).mono ?_
  rintro e w0 ⟨rfl, hb0⟩
  have b0 := Lib.hid hb0; clear hb0
  go_wp2_with fail
  refine (new_any w0).mono ?_
  rintro e w1 ⟨l, M, P, rfl, hl, hM, hP, hL, hB⟩
  have hs0 := b0.out.size
  have hs1 := hB.size
  have hll := hL.llt
  have hb1 := (Below.refl w1.heap.size w1).alloc (Nat.le_refl _) (.map #[] 0)
  have ST := Lib.hid (show PlS n S l M w1.heap.size w (w1.alloc (.map #[] 0)) P [] [] from
    ⟨hL.below hb1, ⟨(b0.out.trans (hB.mono hs0)).alloc (by omega) _, by omega, by omega, by omega⟩, Seen.made w1, by omega, ⟨by omega, by omega, by omega⟩, by simp, by simp, by simp, by simp⟩)
  clear hl hM hP hL hB hs0 hs1 hll hb1 b0
  go_wp2_with fail
  clear e0 hmm
  generalize w1.heap.size = b at ST ⊢
  go_loopw [7] (fun r W => PlA n S l M b w R r W) (fun r _ => R - (intOf r).toNat)
  case atStart => exact ⟨0, P, [], rfl, Nat.zero_le _, ST.out, Or.inl (by simp)⟩
  case round =>
    obtain ⟨r, P, Z, rfl, hr, hPl, hor⟩ := hrel
    have HPl := Lib.hid hPl
    have HOR := Lib.hid hor
    clear hPl hor ST
    have hR8 : R ≤ 8 := by rw [HR.out]; omega
    by_cases hlt : r < R
    · have e0 : decide ((r : Int) < (q : Int) % 8 + 1) = true := by have := HR.out; simp; omega
      go_wp2_with fail
      clear e0
      go_loopw [8] (fun i W => PlB n S l M b w i W) (fun i _ => n - (intOf i).toNat)
      case atStart => exact ⟨0, P, [], Z, rfl, Nat.zero_le _, HPl.out, HOR.out, fun j hj => by omega⟩
      case round =>
        obtain ⟨k, P, xs, Z, rfl, hk, hPl, hor, hin⟩ := hrel
        have HPl := Lib.hid hPl
        have HOR := Lib.hid hor
        have HIN := Lib.hid hin
        clear hPl hor hin
        by_cases hlt2 : k < n
        · have e0 : decide (k < n) = true := by simpa using hlt2
          obtain ⟨g, o, rfl, hg, hc1, hc2, hcell⟩ := HC.out (by omega)
          have hc0 := hcell k hlt2
          have h1 := (HPl.out.kept.bel.cell (p := ⟨g, o + k, none⟩) hg).trans hc0
          have hsk := HS.out k hlt2
          have hle := HPl.out.lst.le
          have hzl := HPl.out.len
          clear hcell
          unfold maxLen at hc2
          go_wp2_with fail
          refine (front_any wr l M P xs _ (S k) HPl.out.lst hsk (by omega)).mono ?_
          intro e w2 hp
          obtain rfl := hp.val
          obtain ⟨w3, P', hrun, hPl3, hor3, hb2⟩ := HPl.out.step hlt2 hsk hn HOR.out hp
          have h2 := (hb2.cell (p := ⟨g, o + k, none⟩) hg).trans hc0
          have R3 := Lib.hid (show PlB n S l M b w (.int .i64 ((k + 1 : Nat) : Int)) w3 from ⟨k + 1, P', _, _, rfl, by omega, hPl3, hor3, fun j hj => by
            by_cases e : j = k
            · rw [e]; exact mem_add.2 (Or.inr rfl)
            · exact mem_add.2 (Or.inl (HIN.out j (by omega)))⟩)
          clear hp hPl3 hor3 hb2 h1 hc0 hle hzl
          go_wp2_with fail
          go_roundw
          case rel => exact R3.out
          case measure => simp [intOf]; omega
        · have e0 : decide (k < n) = false := by simpa using hlt2
          have hkn : k = n := by omega
          have HIN2 := Lib.hid (show ∀ j, j < n → S j ∈ Z by rw [← hkn]; exact HIN.out)
          clear hkn HIN HOR
          go_wp2_with fail
          clear e0
          go_loopw [9] (fun i W => PlC n S l M b w i W) (fun i _ => n - (intOf i).toNat)
          case atStart => exact ⟨0, P, xs, Z, rfl, Nat.zero_le _, HPl.out, HIN2.out, fun s hs => by
            obtain ⟨j, hj, e⟩ := HPl.out.keys s (HPl.out.sub s hs)
            exact ⟨j, Nat.zero_le _, hj, e⟩⟩
          case round =>
            obtain ⟨k3, P, xs, Z, rfl, hk3, hPl, hin, hto⟩ := hrel
            have HPl := Lib.hid hPl
            have HIN := Lib.hid hin
            have HTO := Lib.hid hto
            clear hPl hin hto HIN2
            by_cases hlt3 : k3 < n
            · have e0 : decide (k3 < n) = true := by simpa using hlt3
              obtain ⟨g, o, rfl, hg, hc1, hc2, hcell⟩ := HC.out (by omega)
              have hc0 := hcell k3 hlt3
              have h1 := (HPl.out.kept.bel.cell (p := ⟨g, o + k3, none⟩) hg).trans hc0
              have hsk := HS.out k3 hlt3
              clear hcell hc0
              unfold maxLen at hc2
              go_wp2_with fail
              refine (remove_any wr l M P xs _ (S k3) HPl.out.lst hsk).mono ?_
              intro e w2 hp
              obtain rfl := hp.val
              obtain ⟨P', hPl3⟩ := HPl.out.gone hp
              have R3 := Lib.hid (show PlC n S l M b w (.int .i64 ((k3 + 1 : Nat) : Int)) w2 from ⟨k3 + 1, P', _, _, rfl, by omega, hPl3, HIN.out, fun s hs => by
                obtain ⟨h3, h4⟩ := rem_mem.1 hs
                obtain ⟨j, hj1, hj2, rfl⟩ := HTO.out s h3
                have : j ≠ k3 := fun e => h4 (by rw [e])
                exact ⟨j, by omega, hj2, rfl⟩⟩)
              clear hp hPl3 h1
              go_wp2_with fail
              go_roundw
              case rel => exact R3.out
              case measure => simp [intOf]; omega
            · have e0 : decide (k3 < n) = false := by simpa using hlt3
              have hxs : xs = [] := by
                cases xs with
                | nil => rfl
                | cons x xs =>
                  obtain ⟨j, hj1, hj2, _⟩ := HTO.out x (by simp)
                  omega
              subst hxs
              have hsl := fun ty => HPl.out.seen.len ty
              have U := Lib.hid (show Calls Try.prog 23 #[.pointer (some ⟨l, 0, none⟩)] wr (IntPost 0 wr) from len_any wr l M P [] _ HPl.out.lst)
              clear HTO
              go_wp2_with fail
              refine (places_any wr l M P [] _ HPl.out.lst).mono ?_
              rintro e wr ⟨rfl, rfl⟩
              go_wp2_with fail
              refine U.out.mono ?_
              rintro e wr ⟨rfl, rfl⟩
              clear hsl
              go_wp2_with fail
              go_roundw
              case rel => exact ⟨r + 1, P, Z, by go_num, by omega, HPl.out, Or.inr HIN.out⟩
              case measure => simp [intOf]; omega
    · have e0 : decide ((r : Int) < (q : Int) % 8 + 1) = false := by have := HR.out; simp; omega
      go_wp2_with fail
      refine (clear_any wr l M P [] _ HPl.out.lst).mono ?_
      rintro e w2 ⟨P2, rfl, hP, hL, hT⟩
      have K2 := Lib.hid (HPl.out.kept.next hP hT)
      have L2 := Lib.hid hL
      clear hP hL hT
      go_wp2_with fail
      refine Calls.mono (show Calls Try.prog 12 #[.pointer (some ⟨l, 0, none⟩), .string ⟨#[120]⟩] w2 (OpPost (.tuple #[]) w2 l M P2 [sx] 1) from back_any w2 l M P2 [] 0 sx L2.out (by decide) (by omega)) ?_
      rintro e w3 ⟨P3, rfl, hP, hL, hT⟩
      have K3 := Lib.hid (K2.out.next hP hT)
      have L3 := Lib.hid hL
      clear hP hL hT
      go_wp2_with fail
      refine Calls.mono (show Calls Try.prog 24 #[.pointer (some ⟨l, 0, none⟩)] w3 (IntPost 1 w3) from places_any w3 l M P3 _ _ L3.out) ?_
      rintro e w3 ⟨rfl, rfl⟩
      go_wp2_with fail
      refine Calls.mono (show Calls Try.prog 23 #[.pointer (some ⟨l, 0, none⟩)] w3 (IntPost 1 w3) from len_any w3 l M P3 _ _ L3.out) ?_
      rintro e w3 ⟨rfl, rfl⟩
      go_wp2_with fail
      go_ret
      exact ⟨rfl, K3.out.bel⟩

theorem walk_listPlaces (v0 : Value) (a1 : Int) (w : World) (w0 : CameS w v0) (w1 : (Lit.int .u8 a1).wf = true) : Calls Try.prog 7 #[v0, .int .u8 a1] w (RetB true w) := by
  obtain ⟨q, rfl, hq⟩ := u8_nat w1
  obtain ⟨A, n, c, rfl, hn, S, hr, hc⟩ := w0
  by_cases hbig : n ≤ 50
  · exact places_main A n c w S q _ hbig hq rfl hr hc
  · have e0 : decide (50 < (n : Int)) = true := by simp; omega
    unfold maxLen at hn
    clear hr hc w1
    go_enter Try.func7, Try.ntmps7
    go_wp2_with fail
    refine (awake_any _).mono ?_
    rintro e w0 ⟨rfl, hb0⟩
    go_wp2_with fail
    go_ret
    exact ⟨rfl, hb0⟩

namespace LListPlaces
set_option maxRecDepth 100000 in
theorem lifted (os : Os) (started : os.Started) (H : Type) (enc : TypeId × Value → H) :
    ReturnsInHanded {} Try.checked os 7 .any (Rows.listPlacesSpec.pre6 enc Try.prog Try.f7 Rows.listPlacesRow.domain false) (Rows.listPlacesSpec.post enc Try.prog Try.f7 false true false false) := by
  refine returnsInHanded_of_change (C := Try.checked) own started (by kernel_rfl) Try.func7
    (ChangeSpec.witness6 (enc := enc) (C := Try.checked) false ⟨#[], #[.slice none 0 0, .int .u8 0], []⟩ 8 (by kernel_rfl) (by kernel_rfl) (by kernel_rfl) (by kernel_rfl)) ?_
  intro W base args ds gs before hval0 hW _ _
  have hval : ∀ (j : Nat) t v, Try.f7.params[j]? = some t → args[j]? = some v → Value.okWide Try.prog W .any base t v := hval0
  have hW' := hW
  obtain ⟨p, q, hA0, hV, rfl, hfz, hnd⟩ := hW
  have hA : DataW.TrodAll enc Try.prog W 0 (fun _ => true) true Try.f7.params.toList args.toList ds p := hA0
  rw [Try.params7] at hA hval
  obtain ⟨v0, vs0, d0, ds0, p0, q0, hargs, rfl, rfl, h0, r0⟩ := trodAll_cons hA
  obtain ⟨v1, vs1, d1, ds1, p1, q1, rfl, rfl, rfl, h1, r1⟩ := trodAll_cons r0
  obtain ⟨rfl, rfl, rfl⟩ := trodAll_nil r1
  obtain rfl : args = #[v0, v1] := by cases args; simp_all
  obtain ⟨rfl, rfl⟩ := trodVars_none hV
  have k0 := h0
  have lt0 : ∀ x ∈ p0, x.block < W.heap.size := by obtain ⟨m, hm⟩ := k0; exact DataW.trod_lt m _ _ _ hm
  have w0 := open_z (hval 0 26 v0 rfl rfl) h0
  obtain ⟨a1, rfl, rfl, rfl, w1⟩ := open_int Try.underlying5 (hval 1 5 v1 rfl rfl) h1
  clear hA0 hval0
  refine (walk_listPlaces v0 a1 W w0 w1).mono fun e W' ⟨he, bel⟩ => ?_
  subst he
  exact ⟨_, rfl, _, _, _, [], _, [], hW', trodAll_mk1 (shut_bool Try.underlying4 _), (trodAll_cons_mk (Below.trod laidOut (by kernel_rfl) (of_decide_eq_true (by kernel_rfl)) k0 bel lt0) (trodAll_cons_mk (shut_int Try.underlying5 w1) trodAll_mk0)), rfl, bel.frame _, fun h => by cases h⟩

theorem said : Rows.ListPlacesSaid :=
  OpenClaim.holds_of_wide 7 Try.f7 rfl rfl rfl rfl rfl rfl rfl ⟨rfl, rfl, rfl, rfl, rfl⟩ rfl rfl rfl rfl rfl (by kernel_rfl) Try.func7 (by kernel_rfl)
    (of_decide_eq_true (by kernel_rfl)) (by unfold Func.isWrapper; rw [if_neg (of_decide_eq_false (by kernel_rfl))]; exact ⟨rfl, rfl⟩)
    (fun os started H enc _ => lifted os started H enc)
#print axioms said
end LListPlaces
end Go.Proofs.Ytlncfelglmhbdaa
