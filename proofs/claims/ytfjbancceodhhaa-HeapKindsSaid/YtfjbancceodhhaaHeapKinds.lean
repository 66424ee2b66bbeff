/- 'cachewiselaw04.HeapKinds' returns true for every row of ranks, and leaves what was there as it was. No condition. -/
import Derived.Test.YtfjbancceodhhaaPlain4
import Derived.Test.YtfjbancceodhhaaHvI
import Derived.Laws.BytesArg
import Derived.Deep.RegionWith
namespace Go.Proofs.Ytfjbancceodhhaa
open Go.ChangeShapes Go.WideShapes Go.ChangeAt Go.RowKit Ht

/-- The text of one letter. -/
def oneB (i : Nat) : ByteArray := ⟨#[UInt8.ofNat i]⟩
/-- The same entries, under other keys. -/
def Alike (L : List (Ent ByteArray)) (M : List (Ent Int)) : Prop := L = M.map fun e => ⟨oneB e.key.toNat, e.one, e.two, e.set⟩
theorem ins_alike {L : List (Ent ByteArray)} {M : List (Ent Int)} (h : Alike L M) (k : Nat) (a b : Int) (s : Nat) : Alike (ins ⟨oneB k, a, b, s⟩ L) (ins ⟨(k : Int), a, b, s⟩ M) := by
  unfold Alike at h ⊢
  subst h
  induction M with
  | nil => rfl
  | cons e M ih =>
    show (if lt ⟨oneB e.key.toNat, e.one, e.two, e.set⟩ ⟨oneB k, a, b, s⟩ then _ else _) = List.map _ (if lt e ⟨(k : Int), a, b, s⟩ then _ else _)
    by_cases hl : lt e ⟨(k : Int), a, b, s⟩
    · rw [if_pos hl, if_pos (show lt ⟨oneB e.key.toNat, e.one, e.two, e.set⟩ ⟨oneB k, a, b, s⟩ from hl), ih]; rfl
    · rw [if_neg hl, if_neg (show ¬ lt ⟨oneB e.key.toNat, e.one, e.two, e.set⟩ ⟨oneB k, a, b, s⟩ from hl)]; rfl
theorem oneB_inj {i j : Nat} (hi : i < 256) (hj : j < 256) (h : oneB i = oneB j) : i = j := by
  have h1 := congrArg (fun b : ByteArray => b.data[0]?) h
  have h2 : UInt8.ofNat i = UInt8.ofNat j := by simpa [oneB] using h1
  have h3 := congrArg UInt8.toNat h2
  simpa [UInt8.toNat_ofNat', Nat.mod_eq_of_lt hi, Nat.mod_eq_of_lt hj] using h3

/-- Two heaps side by side. -/
structure Two (w0 W : World) (h h2 : Nat) (S S2 : Nat → Prop) (L : List (Ent ByteArray)) (M : List (Ent Int)) (i : Nat) : Prop where
  one : HS.Live w0 W h S L i
  two : HI.Live w0 W h2 S2 M i
  apart : ∀ k, S k → ¬ S2 k
  alike : Alike L M
  keys : ∀ e ∈ M, 0 ≤ e.key ∧ e.key < i
  len : M.length = i
section
variable {w0 W W' : World} {h h2 i : Nat} {S S2 : Nat → Prop} {L L' : List (Ent ByteArray)} {M M' : List (Ent Int)} {e : Ending} {r : Value}
theorem op_one (h1 : HS.Live w0 W h S L i) (h2' : HI.Live w0 W h2 S2 M i) (ha : ∀ k, S k → ¬ S2 k) (hp : HS.OpPost r W h S L' (i + 1) e W') : e = .returned r ∧ ∃ S', HS.Live w0 W' h S' L' (i + 1) ∧ HI.Live w0 W' h2 S2 M i ∧ ∀ k, S' k → ¬ S2 k := by
  obtain ⟨he, S', g1, g2, g3⟩ := h1.op hp
  refine ⟨he, S', g1, ⟨h2'.hs.kept g3 (fun k hk hk' => ha k hk' hk), g1.bel, h2'.low⟩, fun k hk hk2 => ?_⟩
  rcases g2 k hk with hh | hh
  · exact ha k hh hk2
  · have := h2'.hs.lt hk2; omega
theorem op_two {j : Nat} (h1 : HS.Live w0 W h S L j) (h2' : HI.Live w0 W h2 S2 M i) (ha : ∀ k, S k → ¬ S2 k) (hp : HI.OpPost r W h2 S2 M' (i + 1) e W') : e = .returned r ∧ ∃ S', HS.Live w0 W' h S L j ∧ HI.Live w0 W' h2 S' M' (i + 1) ∧ ∀ k, S k → ¬ S' k := by
  obtain ⟨he, S', g1, g2, g3⟩ := h2'.op hp
  refine ⟨he, S', ⟨h1.hs.kept g3 ha, g1.bel, h1.low⟩, g1, fun k hk hk2 => ?_⟩
  rcases g2 k hk2 with hh | hh
  · exact ha k hk hh
  · have := h1.hs.lt hk; omega
end
/-- A key that is not there yet. -/
theorem Two.fresh {w0 W : World} {h h2 i : Nat} {S S2 : Nat → Prop} {L : List (Ent ByteArray)} {M : List (Ent Int)} (t : Two w0 W h h2 S S2 L M i) (hi : i < 200) : rem L (oneB i) = L ∧ rem M (i : Int) = M := by
  constructor
  · refine rem_none fun e he hk => ?_
    rw [t.alike] at he
    obtain ⟨e', he', rfl⟩ := List.mem_map.1 he
    have h1 := t.keys e' he'
    have h2 := oneB_inj (i := e'.key.toNat) (j := i) (by omega) (by omega) hk
    omega
  · refine rem_none fun e he hk => ?_
    have := t.keys e he
    omega
def TwoR (n h h2 : Nat) (w0 : World) (g : Nat) (iz : Value) (W : World) : Prop := ∃ i S S2 L M, g + i = n ∧ iz = .int .i64 (i : Int) ∧ Two w0 W h h2 S S2 L M i

theorem kokI {i : Nat} (h : i < 100) : HI.kok (i : Int) := ⟨by show (-9223372036854775808 : Int) ≤ (i : Int); omega, by show (i : Int) ≤ 9223372036854775807; omega⟩
theorem conv_one (W : World) (b i cap : Nat) (h : W.cell? ⟨b, 0, none⟩ = some (.int .u8 (i : Int))) : (convert 58 9 (.slice (some ⟨b, 0, none⟩) 1 cap)).run Try.prog W = .ok (.string (oneB i)) W := by
  have := run_convert_bytes_arg (P := Try.prog) W 58 5 Try.underlying58 Try.underlying5 b 0 1 cap [(i : Int)] rfl (fun j hj => by
    obtain rfl : j = 0 := by omega
    simpa using h) 9 Try.underlying9
  rw [this]
  simp [strOfNums, oneB]
theorem conv_new (W : World) (i : Nat) : (convert 58 9 (.slice (some ⟨W.heap.size, 0, none⟩) 1 1)).run Try.prog (W.alloc (.cells #[.int .u8 (i : Int)] 5)).drew = .ok (.string (oneB i)) (W.alloc (.cells #[.int .u8 (i : Int)] 5)).drew :=
  conv_one _ _ _ _ (cell_of_row (W.alloc (.cells #[.int .u8 (i : Int)] 5)) _ 0 _ _ _ (heap_alloc_new W _))

def TwoE (xs : List ByteArray) (ys : List Int) (S S2 : Nat → Prop) (w0 : World) (v v2 : Value) (g : Nat) (iz : Value) (W : World) : Prop := ∃ i, g + i = ys.length ∧ iz = .int .i64 (i : Int) ∧ Below w0.heap.size w0 W ∧ HS.Mine W S v xs ∧ HI.Mine W S2 v2 ys

set_option maxHeartbeats 4000000 in
set_option maxRecDepth 100000 in
theorem kinds_main (A : Option Addr) (n c : Nat) (w : World) (R1 R2 : Nat → Int) (hn : n ≤ 60)
    (hc : 0 < n → ∃ g o, A = some ⟨g, o, none⟩ ∧ g < w.heap.size ∧ n ≤ c ∧ c ≤ maxLen ∧ ∀ i, i < n → w.cell? ⟨g, o + i * 2, none⟩ = some (.int .i64 (R1 i)) ∧ w.cell? ⟨g, o + i * 2 + 1, none⟩ = some (.int .i64 (R2 i))) :
    Calls Try.prog 7 #[.slice A n c] w (RetB true w) := by
  have e0 : decide (60 < (n : Int)) = false := by simp; omega
  have HC := Lib.hid hc
  clear hc
  go_enter Try.func7, Try.ntmps7
  go_wp2_with fail
  refine (awake_any _).mono ?_
  rintro e w0 ⟨rfl, hb0⟩
  have b0 := Lib.hid hb0; clear hb0
  go_wp2_with fail
  refine (HS.new_any w0).mono ?_
  rintro e w1 ⟨h, S0, rfl, hH, hS0, hB⟩
  have L1 := Lib.hid (HS.Live.made b0.out hH hS0 hB)
  clear hH hS0 hB b0
  go_wp2_with fail
  refine (HI.new_any w1).mono ?_
  rintro e w2 ⟨h2, S2, rfl, hH, hS2, hB⟩
  have T2 := Lib.hid (show Two w w2 h h2 S0 S2 [] [] 0 from ⟨L1.out.below hB, HI.Live.made L1.out.bel hH hS2 hB, fun k hk hk2 => by have := L1.out.hs.lt hk; have := hS2 k hk2; omega, rfl, by simp, rfl⟩)
  clear hH hS2 hB L1
  go_wp2_with fail
  clear e0
  go_loopg [5] n (fun g i W => TwoR n h h2 w g i W)
  case atStart => exact ⟨0, S0, S2, [], [], by omega, rfl, T2.out⟩
  case round =>
    obtain ⟨i, S, S2, L, M, hgi, rfl, hT⟩ := hrel
    have TW := Lib.hid hT
    have HG := Lib.hid hgi
    clear hT T2
    by_cases hlt : i < n
    · have e0 : decide (i < n) = true := by simpa using hlt
      obtain ⟨g, o, rfl, hg, hc1, hc2, hcell⟩ := HC.out (by omega)
      obtain ⟨q1, q2⟩ := hcell i hlt
      have h1 := (TW.out.one.bel.cell (p := ⟨g, o + i * 2, none⟩) hg).trans q1
      have h3 := (TW.out.one.bel.cell (p := ⟨g, o + i * 2 + 1, none⟩) hg).trans q2
      have h1a : (wr.alloc (.cells #[.int .u8 (i : Int)] 5)).cell? ⟨g, o + i * 2, none⟩ = some (.int .i64 (R1 i)) := (World.cell?_of_block (a := ⟨g, o + i * 2, none⟩) (Below.heap_alloc wr _ g (cell_lt h1))).trans h1
      have h3a : (wr.alloc (.cells #[.int .u8 (i : Int)] 5)).cell? ⟨g, o + i * 2 + 1, none⟩ = some (.int .i64 (R2 i)) := (World.cell?_of_block (a := ⟨g, o + i * 2 + 1, none⟩) (Below.heap_alloc wr _ g (cell_lt h3))).trans h3
      have hgne : g ≠ wr.heap.size := by have := cell_lt h1; exact Nat.ne_of_lt this
      have hcv := conv_new wr i
      have hw8 : IntKind.u8.wrap (i : Int) = (i : Int) := by simp [IntKind.wrap, IntKind.bits, IntKind.signed]; omega
      obtain ⟨fr1, fr2⟩ := TW.out.fresh (by omega)
      have hlenL : L.length = i := by rw [TW.out.alike, List.length_map]; exact TW.out.len
      have hlenM := TW.out.len
      have Q := Lib.hid (And.intro q1 q2)
      have FR := Lib.hid (And.intro fr1 fr2)
      have LE := Lib.hid (And.intro hlenL hlenM)
      have hsz1 : wr.heap.size ≤ (wr.alloc (.cells #[.int .u8 (i : Int)] 5)).heap.size := by simp
      have bl1 := Lib.hid ((Below.refl wr.heap.size wr).alloc (Nat.le_refl _) (.cells #[.int .u8 (i : Int)] 5)).drew
      have KI := Lib.hid (kokI (show i < 100 by omega))
      have HB := Lib.hid (show (oneB i).size ≤ maxLen by unfold maxLen oneB; simp [ByteArray.size])
      clear hcell q1 q2 hgi fr1 fr2 hlenL hlenM hsz1
      unfold maxLen at hc2
      obtain ⟨key, hkey⟩ : ∃ k, oneB i = k := ⟨_, rfl⟩
      have KEY := Lib.hid hkey
      rw [hkey] at hcv FR HB
      clear hkey
      go_wp2_with fail
      go_region_with (go_at_call 11; refine (HS.set_any _ h S L i key (R1 i) (R2 i) (TW.out.one.hs.below bl1.out) HB.out (by have := LE.out; omega) (by omega)).mono ?_; intro e w3 hp; have P3 := Lib.hid hp; obtain rfl := hp.1; clear hp)
      all_goals
        obtain ⟨_, S3, hA, hB3, hap⟩ := op_one (TW.out.one.below bl1.out) (TW.out.two.below bl1.out) TW.out.apart P3.out
        have A3 := Lib.hid hA
        have C3 := Lib.hid hB3
        have AP := Lib.hid hap
        have k1 := (A3.out.bel.cell (p := ⟨g, o + i * 2, none⟩) hg).trans Q.out.1
        have k3 := (A3.out.bel.cell (p := ⟨g, o + i * 2 + 1, none⟩) hg).trans Q.out.2
        clear hA hB3 hap h1 h3 h1a h3a hcv P3 hw8
        go_wp2_with fail
        refine (HI.set_any w3 h2 S2 M i (i : Int) (R1 i) (R2 i) C3.out.hs KI.out (by have := LE.out; omega) (by omega)).mono ?_
        intro e w4 hp
        obtain ⟨rfl, S4, hA4, hB4, hap4⟩ := op_two A3.out C3.out AP.out hp
        have A4 := Lib.hid hA4
        have B4 := Lib.hid hB4
        have AP4 := Lib.hid hap4
        clear hp hA4 hB4 hap4 k1 k3
        go_wp2_with fail
        go_roundg (n - (i + 1))
        case measure => have := HG.out; omega
        case rel =>
          have KE := KEY.out
          subst KE
          obtain ⟨f1, f2⟩ := FR.out
          have a4 := A4.out
          have b4 := B4.out
          rw [f1] at a4
          rw [f2] at b4
          refine ⟨i + 1, S3, S4, _, _, by omega, rfl, ⟨a4, b4, AP4.out, ins_alike TW.out.alike i _ _ _, fun e he => ?_, by rw [ins_len, TW.out.len]⟩⟩
          rcases ins_mem.1 he with rfl | he
          · exact ⟨by show (0 : Int) ≤ (i : Int); omega, by show (i : Int) < ((i + 1 : Nat) : Int); omega⟩
          · have := TW.out.keys e he; omega
    · have e0 : decide (i < n) = false := by simpa using hlt
      obtain rfl : i = n := by have := HG.out; omega
      clear hgi
      go_wp2_with fail
      refine (HS.order_any wr h S L i TW.out.one.hs).mono ?_
      rintro e w3 ⟨v3, rfl, hO, hB⟩
      have M3 := Lib.hid (HS.Mine.of hO TW.out.one.hs)
      have A3 := Lib.hid (TW.out.one.below hB)
      have B3 := Lib.hid (TW.out.two.below hB)
      clear hO hB
      go_wp2_with fail
      refine (HI.order_any w3 h2 S2 M i B3.out.hs).mono ?_
      rintro e w4 ⟨v4, rfl, hO, hB⟩
      have N4 := Lib.hid (HI.Mine.of hO B3.out.hs)
      have M4 := Lib.hid (M3.out.below hB)
      have BL := Lib.hid (A3.out.below hB).bel
      clear hO hB M3 A3 B3
      have YL := Lib.hid (show (M.map (·.key)).length = i by rw [List.length_map]; exact TW.out.len)
      have XL := Lib.hid (show (L.map (·.key)).length = i by rw [List.length_map, TW.out.alike, List.length_map]; exact TW.out.len)
      have XY := Lib.hid (show ∀ (j : Nat) (z : Int), (M.map (·.key))[j]? = some z → (L.map (·.key))[j]? = some (oneB z.toNat) ∧ 0 ≤ z ∧ z < 60 from fun j z hz => by
        rw [List.getElem?_map] at hz
        obtain ⟨e, he, rfl⟩ := Option.map_eq_some_iff.1 hz
        refine ⟨?_, ?_⟩
        · rw [TW.out.alike, List.map_map, List.getElem?_map, he]; rfl
        · have := TW.out.keys e (List.mem_of_getElem? he); omega)
      obtain ⟨ys, hys⟩ : ∃ ys, M.map (·.key) = ys := ⟨_, rfl⟩
      obtain ⟨xs, hxs⟩ : ∃ xs, L.map (·.key) = xs := ⟨_, rfl⟩
      rw [hys] at N4 YL XY
      rw [hxs] at M4 XL XY
      clear hys hxs
      obtain ⟨a1, c1, rfl⟩ := M4.out.len
      obtain ⟨a2, c2, rfl⟩ := N4.out.len
      rw [XL.out, YL.out]
      go_wp2_with fail
      go_loopg [8] i (fun g iz W => TwoE xs ys S S2 w (.slice a1 xs.length c1) (.slice a2 ys.length c2) g iz W)
      case atStart => exact ⟨0, by rw [YL.out]; omega, rfl, BL.out, M4.out, N4.out⟩
      case round =>
        obtain ⟨j, hgj, rfl, hB, hM, hN⟩ := hrel
        have B6 := Lib.hid hB
        have M6 := Lib.hid hM
        have N6 := Lib.hid hN
        have G6 := Lib.hid hgj
        clear hB hM hN hgj
        by_cases hj : j < i
        · have e1 : decide (j < i) = true := by simpa using hj
          obtain ⟨z, hz⟩ : ∃ z, ys[j]? = some z := ⟨_, List.getElem?_eq_getElem (by rw [YL.out]; exact hj)⟩
          obtain ⟨hx, z0, z1⟩ := XY.out j z hz
          obtain ⟨zn, rfl⟩ : ∃ m : Nat, z = (m : Int) := ⟨z.toNat, by omega⟩
          obtain ⟨g1, cp1, hv1, hg1, _, hc1, hc2, m1⟩ := M6.out.at hx
          injection hv1 with hv1 _ hv2
          subst hv1
          subst hv2
          obtain ⟨g2, cp2, hv1, hg2, _, hc3, hc4, m2⟩ := N6.out.at hz
          injection hv1 with hv1 _ hv2
          subst hv1
          subst hv2
          rw [XL.out] at hc1
          rw [YL.out] at hc3
          unfold maxLen at hc2 hc4
          have hw8 : IntKind.u8.wrap (zn : Int) = (zn : Int) := by simp [IntKind.wrap, IntKind.bits, IntKind.signed]; omega
          have hcv := conv_new wr zn
          rw [Int.toNat_natCast] at m1
          have m1a : (wr.alloc (.cells #[.int .u8 (zn : Int)] 5)).cell? ⟨g1, j, none⟩ = some (.string (oneB zn)) := (World.cell?_of_block (a := ⟨g1, j, none⟩) (Below.heap_alloc wr _ g1 hg1)).trans m1
          have bl2 := Lib.hid ((Below.refl wr.heap.size wr).alloc (Nat.le_refl _) (.cells #[.int .u8 (zn : Int)] 5)).drew
          have hne1 : g1 ≠ wr.heap.size := Nat.ne_of_lt hg1
          have hne2 : g2 ≠ wr.heap.size := Nat.ne_of_lt hg2
          generalize oneB zn = key at m1 m1a hcv
          clear hx hz z0 z1 hg1 hg2
          go_wp2_with fail
          go_region
          all_goals
            clear hcv m1 m1a m2
            go_wp2_with fail
            go_roundg (i - (j + 1))
            case measure => have := G6.out; have := YL.out; omega
            case rel => exact ⟨j + 1, by rw [YL.out]; omega, rfl, B6.out.trans (bl2.out.mono B6.out.size), M6.out.below bl2.out, N6.out.below bl2.out⟩
        · have e1 : decide (j < i) = false := by simpa using hj
          go_wp2_with fail
          go_ret
          exact ⟨rfl, B6.out⟩

theorem walk_heapKinds (v0 : Value) (w : World) (w0 : CameKs w v0) : Calls Try.prog 7 #[v0] w (RetB true w) := by
  obtain ⟨A, n, c, rfl, hn, R1, R2, hc⟩ := w0
  by_cases hbig : n ≤ 60
  · exact kinds_main A n c w R1 R2 hbig hc
  · have e0 : decide (60 < (n : Int)) = true := by simp; omega
    unfold maxLen at hn
    clear hc
    go_enter Try.func7, Try.ntmps7
    go_wp2_with fail
    refine (awake_any _).mono ?_
    rintro e w0 ⟨rfl, hb0⟩
    go_wp2_with fail
    go_ret
    exact ⟨rfl, hb0⟩

namespace LHeapKinds
set_option maxRecDepth 100000 in
theorem lifted (os : Os) (started : os.Started) (H : Type) (enc : TypeId × Value → H) :
    ReturnsInHanded {} Try.checked os 7 .any (Rows.heapKindsSpec.pre6 enc Try.prog Try.f7 Rows.heapKindsRow.domain false) (Rows.heapKindsSpec.post enc Try.prog Try.f7 false true false false) := by
  refine returnsInHanded_of_change (C := Try.checked) own started (by kernel_rfl) Try.func7
    (ChangeSpec.witness6 (enc := enc) (C := Try.checked) false ⟨#[], #[.slice none 0 0], []⟩ 8 (by kernel_rfl) (by kernel_rfl) (by kernel_rfl) (by kernel_rfl)) ?_
  intro W base args ds gs before hval0 hW _ _
  have hval : ∀ (j : Nat) t v, Try.f7.params[j]? = some t → args[j]? = some v → Value.okWide Try.prog W .any base t v := hval0
  have hW' := hW
  obtain ⟨p, q, hA0, hV, rfl, hfz, hnd⟩ := hW
  have hA : DataW.TrodAll enc Try.prog W 0 (fun _ => true) true Try.f7.params.toList args.toList ds p := hA0
  rw [Try.params7] at hA hval
  obtain ⟨v0, vs0, d0, ds0, p0, q0, hargs, rfl, rfl, h0, r0⟩ := trodAll_cons hA
  obtain ⟨rfl, rfl, rfl⟩ := trodAll_nil r0
  obtain rfl : args = #[v0] := by cases args; simp_all
  obtain ⟨rfl, rfl⟩ := trodVars_none hV
  have k0 := h0
  have lt0 : ∀ x ∈ p0, x.block < W.heap.size := by obtain ⟨m, hm⟩ := k0; exact DataW.trod_lt m _ _ _ hm
  have w0 := open_K (hval 0 55 v0 rfl rfl) h0
  clear hA0 hval0
  refine (walk_heapKinds v0 W w0).mono fun e W' ⟨he, bel⟩ => ?_
  subst he
  exact ⟨_, rfl, _, _, _, [], _, [], hW', trodAll_mk1 (shut_bool Try.underlying4 _), (trodAll_cons_mk (Below.trod laidOut (by kernel_rfl) (of_decide_eq_true (by kernel_rfl)) k0 bel lt0) trodAll_mk0), rfl, bel.frame _, fun h => by cases h⟩

theorem said : Rows.HeapKindsSaid :=
  OpenClaim.holds_of_wide 7 Try.f7 rfl rfl rfl rfl rfl rfl rfl ⟨rfl, rfl, rfl, rfl, rfl⟩ rfl rfl rfl rfl rfl (by kernel_rfl) Try.func7 (by kernel_rfl)
    (of_decide_eq_true (by kernel_rfl)) (by unfold Func.isWrapper; rw [if_neg (of_decide_eq_false (by kernel_rfl))]; exact ⟨rfl, rfl⟩)
    (fun os started H enc _ => lifted os started H enc)
#print axioms said
end LHeapKinds
end Go.Proofs.Ytfjbancceodhhaa
