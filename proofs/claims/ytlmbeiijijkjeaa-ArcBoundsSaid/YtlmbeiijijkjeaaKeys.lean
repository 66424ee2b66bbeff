/- The contracts of list.New, and of a list's Clear and Keys; slices of strings of the call's own. -/
import Derived.Test.YtlmbeiijijkjeaaList
namespace Go.Proofs.Ytlmbeiijijkjeaa
open Go.RowKit Sg

/-- A new list in memory of its own. -/
def NewPost (w : World) (e : Ending) (w' : World) : Prop := ∃ l M P, e = .returned (.pointer (some ⟨l, 0, none⟩)) ∧ w.heap.size ≤ l ∧ w.heap.size ≤ M ∧ w.heap.size ≤ P ∧ Lst w' l M P [] 0 ∧ Below w.heap.size w w'

theorem mkP (W : World) : (Instr.makeSlice 60 (.int .i64 1) (.int .i64 1)).run Try.prog W = .ok (.slice (some ⟨W.heap.size, 0, none⟩) 1 1) (W.alloc (.cells #[.string ⟨#[]⟩, .int .i64 0, .int .i64 0] 67)) := by kernel_rfl

def arena0 : Ar := ⟨1, fun _ => ⟨#[]⟩, fun _ => 0, fun _ => 0, 0⟩
theorem good0 : Good arena0 [] [] (fun _ => none) :=
  ⟨⟨rfl, rfl⟩, rfl, by simp, by simp, rfl, rfl, by simp, by simp, by simp⟩
theorem arena0_cells (arr : Array Value) (h0 : arr[0]? = some (.string ⟨#[]⟩)) (h1 : arr[1]? = some (.int .i64 0)) (h2 : arr[2]? = some (.int .i64 0)) :
    ∀ i, i < arena0.n → arr[i * 3]? = some (.string (arena0.K i)) ∧ arr[i * 3 + 1]? = some (.int .i64 (arena0.pv i : Int)) ∧ arr[i * 3 + 2]? = some (.int .i64 (arena0.nx i : Int)) := by
  intro i hi
  have : i < 1 := hi
  obtain rfl : i = 0 := by omega
  exact ⟨h0, h1, h2⟩

theorem new_any (w : World) : Calls Try.prog 24 #[] w (NewPost w) := by
  have h1 := @mkP
  have h2 := @run_makeMap Try.prog
  go_enter Try.func24, Try.ntmps24
  go_wp2_with fail
  go_ret
  have s1 : (w.alloc (.cells #[.string ⟨#[]⟩, .int .i64 0, .int .i64 0] 67)).heap.size = w.heap.size + 1 := by simp
  have s2 : ((w.alloc (.cells #[.string ⟨#[]⟩, .int .i64 0, .int .i64 0] 67)).alloc (.map #[] 0)).heap.size = w.heap.size + 2 := by simp
  have b1 := heap_alloc_new w (.cells #[.string ⟨#[]⟩, .int .i64 0, .int .i64 0] 67)
  have m1 := Mp.made (w.alloc (.cells #[.string ⟨#[]⟩, .int .i64 0, .int .i64 0] 67))
  have b3 := heap_alloc_new ((w.alloc (.cells #[.string ⟨#[]⟩, .int .i64 0, .int .i64 0] 67)).alloc (.map #[] 0)) (.cells #[.slice (some ⟨w.heap.size, 0, none⟩) 1 1, .map (some (w.heap.size + 1)), .int .i64 0] 63)
  rw [s1] at m1
  rw [s2] at b3
  refine ⟨w.heap.size + 2, w.heap.size + 1, w.heap.size, rfl, by omega, by omega, Nat.le_refl _, ⟨arena0, [], [], fun _ => none, ⟨by omega, by omega, by omega, by simp, ⟨1, #[.string ⟨#[]⟩, .int .i64 0, .int .i64 0], b3, ?_, rfl, Nat.le_refl _, by unfold maxLen; omega, arena0_cells _ rfl rfl rfl⟩, Nat.le_refl _, by show 1 ≤ 1000; omega, by show 0 < 1; omega, fun _ _ => by show 0 < 1; omega, fun _ _ => by show 0 < 1; omega⟩, ?_, good0, rfl, rfl⟩, ?_⟩
  · rw [Below.heap_alloc _ _ _ (by rw [s2]; omega), Below.heap_alloc _ _ _ (by rw [s1]; omega)]; exact b1
  · exact m1.same (Below.heap_alloc _ _ _ (by rw [s2]; omega))
  · exact (((Below.refl _ _).alloc (Nat.le_refl _) _).alloc (by rw [s1]; omega) _).alloc (by rw [s2]; omega) _

/-- 'clear(l.places)'. -/
theorem clear_places {w : World} {P n cap : Nat} {arr : Array Value} (hP : w.heap[P]? = some (.cells arr 67 (0, 0))) (hs : arr.size = cap * 3) (hn : n ≤ cap) (h1 : 1 ≤ n) (ty : TypeId) :
    ∃ (w' : World) (arr' : Array Value), (Builtin.clear_ #[60] ty #[.slice (some ⟨P, 0, none⟩) n cap]).run Try.prog w = .ok (.tuple #[]) w' ∧ w'.heap[P]? = some (.cells arr' 67 (0, 0)) ∧ arr'.size = cap * 3 ∧
      arr'[0]? = some (.string ⟨#[]⟩) ∧ arr'[1]? = some (.int .i64 0) ∧ arr'[2]? = some (.int .i64 0) ∧ w.grownBy w' (some P) := by
  have hz : ∀ w, (zeroValue 67).run Try.prog w = .ok (.agg #[.string ⟨#[]⟩, .int .i64 0, .int .i64 0]) w := fun w => by kernel_rfl
  have hl : (Builtin.zeroCells #[.string ⟨#[]⟩, .int .i64 0, .int .i64 0] n).toList.length = n * 3 := by rw [Array.length_toList, size_zeroCells]; rfl
  have hone : ∀ v ∈ (Builtin.zeroCells #[.string ⟨#[]⟩, .int .i64 0, .int .i64 0] n).toList, v.oneCell' = true := by
    intro v hv
    simp only [Builtin.zeroCells, Array.toList_map, List.mem_map] at hv
    obtain ⟨i, _, rfl⟩ := hv
    have : i % 3 < 3 := Nat.mod_lt _ (by omega)
    show (#[Value.string ⟨#[]⟩, Value.int .i64 0, Value.int .i64 0][i % 3]!).oneCell' = true
    generalize i % 3 = r at this
    rcases r with _ | _ | _ | r
    · rfl
    · rfl
    · rfl
    · omega
  have hst := run_storeCells_at Try.prog P 0 67 _ 0 arr w hP (by rw [hl]; omega) hone
  simp only [Nat.add_zero, Nat.zero_add, List.take_zero, List.nil_append] at hst
  obtain ⟨N, hN⟩ : ∃ N, N = (Builtin.zeroCells #[.string ⟨#[]⟩, .int .i64 0, .int .i64 0] n).toList ++ arr.toList.drop (Builtin.zeroCells #[.string ⟨#[]⟩, .int .i64 0, .int .i64 0] n).toList.length := ⟨_, rfl⟩
  rw [← hN] at hst
  have hget : ∀ k, k < 3 → N[k]? = [Value.string ⟨#[]⟩, Value.int .i64 0, Value.int .i64 0][k]? := by
    intro k hk
    rw [hN, List.getElem?_append_left (by rw [hl]; omega)]
    have hk' : k < n * 3 := by omega
    rcases k with _ | _ | _ | k
    · simp [Builtin.zeroCells, hk']
    · simp [Builtin.zeroCells, hk']
    · simp [Builtin.zeroCells, hk']
    · omega
  have hNl : N.length = cap * 3 := by rw [hN, List.length_append, hl, List.length_drop, Array.length_toList]; omega
  clear hN hl hone
  obtain ⟨m, rfl⟩ : ∃ m, n = m + 1 := ⟨n - 1, by omega⟩
  refine ⟨w.setRow P N.toArray, N.toArray, ?_, setRow_heap w P arr _ _ _ hP, by simpa using hNl, ?_, ?_, ?_, ⟨rfl, rfl, rfl, by simp, fun k _ hk => setRow_other w P k _ (fun e => hk (by rw [e]))⟩⟩
  · simp [Builtin.clear_, run_underlying Try.underlying60, hz, Value.cells, hst]
  · rw [List.getElem?_toArray]; exact hget 0 (by omega)
  · rw [List.getElem?_toArray]; exact hget 1 (by omega)
  · rw [List.getElem?_toArray]; exact hget 2 (by omega)

/-- A slice of strings of the call's own. -/
def Own (w : World) (base : Nat) (v : Value) (xs : List ByteArray) : Prop := w.ownsRow base 9 1 v xs.length (xs.map Value.string) ∧ xs.length ≤ 2000 ∧ ∀ x ∈ xs, x.size ≤ maxLen
theorem infoStr : (Try.prog.info? 9).map (fun i => (i.zero, i.size, i.bytes)) = some (some (.string ⟨#[]⟩), 1, 16) := by kernel_rfl

/-- 'append(xs, x)'. -/
theorem app_str {w : World} {base : Nat} {v : Value} {xs : List ByteArray} (h : Own w base v xs) (x : ByteArray) (hx : x.size ≤ maxLen) (hl : xs.length ≤ 1999) (hb : base ≤ w.heap.size) :
    ∃ (g cap : Nat) (w2 : World), (Builtin.append_ #[35, 35] 35 #[v, .slice (some ⟨w.heap.size, 0, none⟩) 1 1]).run Try.prog (w.alloc (.cells #[.string x] 9)) = .ok (.slice (some ⟨g, 0, none⟩) (xs.length + 1) cap) w2 ∧
      Own w2 base (.slice (some ⟨g, 0, none⟩) (xs.length + 1) cap) (xs ++ [x]) ∧ w.grownBy w2 v.ownBlock := by
  obtain ⟨i0, hi, hz0, hz1, hz2⟩ := info_parts infoStr
  obtain ⟨v', w2, hrun, hown2, hg, hnil, hloc⟩ := run_append_own_at (P := Try.prog) (w.alloc (.cells #[.string x] 9)) base 35 35 9 i0 _ 1 16
    Try.underlying35 hi hz0 hz1 hz2 rfl (by decide) _ _ _ (h.1.alloc _) ⟨w.heap.size, 0, none⟩ 1 1 [.string x] rfl (cell_one_new _ _ _) (by simp [Value.oneCell']) (by unfold maxLen; omega) (by omega) (by simp; omega)
  have hown3 := hown2
  rcases hown2.2 with ⟨_, h0⟩ | ⟨g, cap, cur, rfl, _⟩
  · omega
  refine ⟨g, cap, w2, hrun, ⟨?_, by rw [List.length_append]; simp only [List.length_cons, List.length_nil]; omega, fun y hy => ?_⟩, (World.grownBy_alloc w _ _).trans hg⟩
  · rw [List.map_append, List.length_append]; exact hown3
  · rcases List.mem_append.1 hy with h1 | h1
    · exact h.2.2 y h1
    · rw [List.mem_singleton.1 h1]; exact hx

theorem mkStr (W : World) (m : Nat) (hm : m ≤ 2000) : (Instr.makeSlice 35 (.int .i64 0) (.int .i64 (m : Int))).run Try.prog W = .ok (.slice (some ⟨W.heap.size, 0, none⟩) 0 m) (W.alloc (.cells (madeCells #[.string ⟨#[]⟩] m) 9)) := by
  obtain ⟨i0, hi, hz0, hz1, hz2⟩ := info_parts infoStr
  have h := run_make (P := Try.prog) W 35 9 i0 (.string ⟨#[]⟩) Try.underlying35 hi hz0 .i64 .i64 0 m (by omega) (by omega) (by rw [hz2]; omega) (by omega)
  rw [h, hz1, Int.toNat_natCast, Nat.mul_one]
  rfl
theorem own_made (w : World) (m : Nat) (hm : m ≤ 2000) : Own (w.alloc (.cells (madeCells #[.string ⟨#[]⟩] m) 9)) w.heap.size (.slice (some ⟨w.heap.size, 0, none⟩) 0 m) [] :=
  ⟨World.ownsRow_made w _ m (Nat.le_refl _) (by unfold maxLen; omega) (by simp [madeCells]), by simp, by simp⟩

def lenV : Value → Nat | .slice _ n _ => n | _ => 0
theorem Own.len {w : World} {base : Nat} {v : Value} {xs : List ByteArray} (h : Own w base v xs) : ∃ A c, v = .slice A xs.length c := by
  rcases h.1.2 with ⟨rfl, h0⟩ | ⟨g, cap, cur, rfl, _⟩
  · exact ⟨none, 0, by rw [h0]⟩
  · exact ⟨_, _, rfl⟩

/-- What a call that makes a slice of strings leaves. -/
def RowPost (xs : List ByteArray) (w : World) (e : Ending) (w' : World) : Prop := ∃ v, e = .returned v ∧ Own w' w.heap.size v xs ∧ Below w.heap.size w w'

def KeysRel (A : Ar) (row : List Nat) (w : World) (v z : Value) (W : World) : Prop := ∃ (done rest : List Nat) (n : Int), row = done ++ rest ∧ z = .int .i64 n ∧ n = ((rest.headD 0 : Nat) : Int) ∧ Own W w.heap.size v (done.map A.K) ∧ Below w.heap.size w W

set_option maxHeartbeats 1000000 in
theorem keys_any (w : World) (l M P : Nat) (xs : List ByteArray) (m : Nat) (h : Lst w l M P xs m) :
    Calls Try.prog 37 #[.pointer (some ⟨l, 0, none⟩)] w (RowPost xs w) := by
  have U := Lib.hid (len_any w l M P xs m h)
  have hle := h.le
  obtain ⟨A, row, free, f, hH, hM, hG, rfl, hn⟩ := h
  rw [List.length_map] at U hle
  have hmk := mkStr w row.length (by omega)
  have hz := Lib.hid (own_made w row.length (by omega))
  have hf := hG.first
  have hH1 := hH.alloc (.cells (madeCells #[.string ⟨#[]⟩] row.length) 9)
  obtain ⟨cap, hc1, hc2, c0, _, _⟩ := hH1.own
  have k2 : (w.alloc (.cells (madeCells #[.string ⟨#[]⟩] row.length) 9)).cell? ⟨P, 2, none⟩ = some (.int .i64 (A.nx 0 : Int)) := by have := (hH1.place (i := 0) hH.pos).2.2; simpa using this
  have hp := hH.pos
  have ht := hH.top
  have HH := Lib.hid hH
  have HG := Lib.hid hG
  unfold maxLen at hc2
  clear hH hM hG hn hH1 hf
  go_enter Try.func37, Try.ntmps37
  go_wp2_with fail
  refine U.out.mono ?_
  rintro e w1 ⟨rfl, rfl⟩
  go_wp2_with fail
  clear hmk c0 k2
  go_loopw [3, 4] (fun v z W => KeysRel A row w v z W) (fun v _ _ => row.length - lenV v)
  case atStart =>
    refine ⟨[], row, _, rfl, rfl, ?_, hz.out, (Below.refl _ _).alloc (Nat.le_refl _) _⟩
    have hr := HG.out.ring
    cases row with
    | nil => exact congrArg Int.ofNat hr.1
    | cons x row => exact congrArg Int.ofNat hr.1
  case round =>
    obtain ⟨done, rest, n, hrow, rfl, hn, hown, hbel⟩ := hrel
    have HO := Lib.hid hown
    have hsz := hbel.size
    cases rest with
    | nil =>
      obtain rfl : n = 0 := hn
      have HR := Lib.hid hrow
      clear hown hrow
      go_wp2_with fail
      go_ret
      refine ⟨_, rfl, ?_, hbel⟩
      rw [HR.out, List.append_nil]; exact HO.out
    | cons a r =>
      obtain rfl : n = (a : Int) := hn
      have har : a ∈ row := by rw [hrow]; simp
      have halt := HG.out.lt a (List.mem_append_left _ har)
      have ha0 : a ≠ 0 := fun e => (List.nodup_cons.1 HG.out.nodup).1 (List.mem_append_left _ (e ▸ har))
      have e0 : ((a : Int) != 0) = true := by simp; omega
      have hHW := HH.out.same hbel.size (hbel.block l HH.out.llt) (hbel.block P HH.out.Plt)
      obtain ⟨capW, hcW1, hcW2, c0, _, _⟩ := hHW.own
      obtain ⟨k0, _, _⟩ := hHW.place halt
      have hdl : done.length ≤ 999 := by have := congrArg List.length hrow; rw [List.length_append] at this; omega
      obtain ⟨g, cap', w2, hrun, hown2, hg⟩ := app_str hown (A.K a) (HG.out.small a har) (by rw [List.length_map]; omega) hsz
      have hbel2 := hbel.grown hg hsz (fun k hk => (hown.1.lt k hk).1)
      have hH2 := HH.out.same hbel2.size (hbel2.block l HH.out.llt) (hbel2.block P HH.out.Plt)
      obtain ⟨cap2, hc21, hc22, d0, _, _⟩ := hH2.own
      obtain ⟨_, _, d2⟩ := hH2.place halt
      rw [List.length_map] at hrun hown2
      have HRUN := Lib.hid hrun
      have HOWN := Lib.hid hown2
      have HB := Lib.hid hbel2
      have HR := Lib.hid hrow
      have hll : (done.map A.K).length = done.length := List.length_map _
      obtain ⟨Av, cv, rfl⟩ := hown.len
      rw [hll] at HRUN HO ⊢
      unfold maxLen at hcW2 hc22
      clear hown hrun hown2 hbel2 hrow hHW hH2 hg hll ha0
      go_wp2_with (at_builtin; refine wpList_append_run rfl _ _ _ rfl _ _ _ _ rfl rfl HRUN.out ?_)
      go_roundw
      case rel =>
        refine ⟨done ++ [a], r, _, by rw [HR.out]; simp, rfl, ?_, ?_, HB.out⟩
        · have hs := HG.out.ring
          rw [HR.out] at hs
          have hs2 := (seg_append.1 hs).2
          cases r with
          | nil => exact congrArg Int.ofNat hs2.1
          | cons y r => exact congrArg Int.ofNat hs2.1
        · rw [List.map_append]; exact HOWN.out
      case measure =>
        have := congrArg List.length HR.out
        rw [List.length_append, List.length_cons] at this
        simp [lenV]; omega
end Go.Proofs.Ytlmbeiijijkjeaa
