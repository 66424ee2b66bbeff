/- A fault's text at this program: strconv.Quote of no text, strconv.Itoa of 1, the errors' own Error. -/
import Derived.Test.YtkcecmofbppodaaDoorRefF
import Derived.Laws.BytesArg
import Derived.Deep.RegionHeld3
import Derived.Lib.IfaceNeq
namespace Go.Proofs.YtkcecmofbppodaaDoor
open Go.RowKit

theorem itoa_one (w : World) : Calls Tryd.prog 83 #[.int .i64 1] w fun e w' => e = .returned (.string ⟨#[49]⟩) ∧ w = w' := by
  go_enter Tryd.func83, Tryd.ntmps83
  go_wp2
  go_ret
  exact ⟨rfl, rfl⟩

theorem errno_error (w : World) : Calls Tryd.prog 82 #[.int .i64 1] w fun e w' => e = .returned (.string ⟨#[99, 97, 99, 104, 101, 119, 105, 115, 101, 58, 32, 49]⟩) ∧ w = w' := by
  go_enter Tryd.func82, Tryd.ntmps82
  go_wp2_with (go_at_call 83; refine (itoa_one _).mono ?_; rintro e w' ⟨rfl, rfl⟩)
  go_ret
  exact ⟨rfl, rfl⟩

theorem infoByte : (Tryd.prog.info? 5).map (fun i => (i.zero, i.size, i.bytes)) = some (some (.int .u8 0), 1, 1) := by kernel_rfl
theorem make00 (W : World) : (Instr.makeSlice 122 (.int .i64 0) (.int .i64 0)).run Tryd.prog W = .ok (.slice (some ⟨W.heap.size, 0, none⟩) 0 0) (W.alloc (.cells #[] 5)) := by kernel_rfl

theorem one_new (W : World) (x : Value) (t : TypeId) : ∀ j u, [x][j]? = some u → (W.alloc (.cells #[x] t)).cell? ((⟨W.heap.size, 0, none⟩ : Addr).add j) = some u := by
  intro j u hj
  match j, hj with
  | 0, hj => simp at hj; subst hj; simp [Addr.add]
theorem one_byte (n : Int) : ∀ u ∈ [Value.int .u8 n], u.oneCell' = true := by intro u hu; simp at hu; subst hu; rfl
def QuPost (base : Nat) (w : World) (e : Ending) (w' : World) : Prop := ∃ r, e = .returned r ∧ w'.ownsRow base 5 1 r 2 [.int .u8 34, .int .u8 34] ∧ Below base w w'
set_option maxHeartbeats 2000000 in
theorem quoted_empty (v : Value) (base : Nat) (w : World) (hv : v = .slice (some ⟨base, 0, none⟩) 0 0) (hown : w.ownsRow base 5 1 v 0 []) (hbase : base ≤ w.heap.size) :
    Calls Tryd.prog 100 #[v, .string ⟨#[]⟩, .int .u8 34, .bool false, .bool false] w (QuPost base w) := by
  obtain ⟨i0, hi, hz0, hz1, hz2⟩ := info_parts infoByte
  subst hv
  go_enter Tryd.func100, Tryd.ntmps100
  go_wp2_with (at_builtin; refine wpList_append_own _ rfl (.tmp 36) (.tmp 38) 122 rfl base 5 i0 (.int .u8 0) 1 1 Tryd.underlying122 hi hz0 hz1 hz2 rfl (by decide) _ _ _ rfl (hown.alloc _) ⟨w.heap.size, 0, none⟩ 1 1 [.int .u8 34] rfl rfl (one_new _ _ _) (one_byte _) (by unfold maxLen; omega) (by omega) (by simp; omega) ?_; intro v1 w1 hown1 hg1 _; have S1 := Lib.hid (And.intro hown1 hg1); clear hown1 hg1)
  have B1 := Lib.hid (((Below.refl base w).alloc hbase _).grown S1.out.2 (by simp; omega) (fun k hk => (hown.lt k hk).1))
  have O1 := Lib.hid S1.out.1
  have hs1 : base ≤ w1.heap.size := by have := B1.out.size; omega
  clear S1 hown
  refine wp_loop_rounds 1 ?_
  rw [rounds_succ]
  go_wp2_with (at_builtin; refine wpList_append_own _ rfl (.tmp 79) (.tmp 81) 122 rfl base 5 i0 (.int .u8 0) 1 1 Tryd.underlying122 hi hz0 hz1 hz2 rfl (by decide) _ _ _ rfl (O1.out.alloc _) ⟨w1.heap.size, 0, none⟩ 1 1 [.int .u8 34] rfl rfl (one_new _ _ _) (one_byte _) (by unfold maxLen; omega) (by omega) (by simp; omega) ?_; intro v2 w2 hown2 hg2 _; have S2 := Lib.hid (And.intro hown2 hg2); clear hown2 hg2)
  have B2 := Lib.hid ((B1.out.alloc hs1 _).grown S2.out.2 (by simp; omega) (fun k hk => (O1.out.lt k hk).1))
  go_ret
  exact ⟨_, rfl, S2.out.1, B2.out⟩

theorem qu_conv {w : World} {base : Nat} {r : Value} (h : w.ownsRow base 5 1 r 2 [.int .u8 34, .int .u8 34]) : (convert 122 9 r).run Tryd.prog w = .ok (.string ⟨#[34, 34]⟩) w := by
  rcases h.2 with ⟨_, hn⟩ | ⟨g, cap, cur, rfl, _⟩
  · omega
  · have hc := run_convert_bytes_arg (P := Tryd.prog) w 122 5 Tryd.underlying122 Tryd.underlying5 g 0 2 cap [34, 34] rfl (fun i hi => by
      rw [Nat.zero_add, h.cellAt i (by omega)]
      match i, hi with
      | 0, _ => rfl
      | 1, _ => rfl) 9 Tryd.underlying9
    exact hc

set_option maxRecDepth 100000 in
set_option maxHeartbeats 2000000 in
theorem quote_empty (w : World) : Calls Tryd.prog 98 #[.string ⟨#[]⟩] w fun e w' => e = .returned (.string ⟨#[34, 34]⟩) ∧ Below w.heap.size w w' := by
  have hmk := make00
  have hown : (w.alloc (.cells #[] 5)).ownsRow w.heap.size 5 1 (.slice (some ⟨w.heap.size, 0, none⟩) 0 0) 0 [] := World.ownsRow_made w #[] 0 (Nat.le_refl _) (by unfold maxLen; omega) rfl
  have C := Lib.hid (quoted_empty _ w.heap.size _ rfl hown (by simp))
  clear hown
  go_enter Tryd.func98, Tryd.ntmps98
  go_wp2_with (first | (go_at_call 100; refine C.out.mono ?_; rintro e w1 ⟨r, rfl, hown1, hb1⟩; have hcv := qu_conv hown1; have B1 := Lib.hid hb1; clear hown1 hb1) | go_in)
  go_ret
  exact ⟨rfl, (((Below.refl w.heap.size w).alloc (Nat.le_refl _) _)).trans B1.out⟩

def ErrPost (w : World) (e : Ending) (w' : World) : Prop := e = .returned (.string ⟨#[112, 111, 119, 32, 34, 34, 58, 32, 99, 97, 99, 104, 101, 119, 105, 115, 101, 58, 32, 49]⟩) ∧ Below w.heap.size w w'
theorem methodErrorN (v : Value) (w : World) : (Go.method 267 47 v "Error").run Tryd.prog w = .ok (82, v) w := by kernel_rfl
def QuAt (g : Nat) (w0 : World) (e : Ending) (w' : World) : Prop := e = .returned (.string ⟨#[34, 34]⟩) ∧ w'.cell? ⟨g, 0, none⟩ = some (.string ⟨#[112, 111, 119]⟩) ∧ w'.cell? ⟨g, 1, none⟩ = some (.string ⟨#[]⟩) ∧ w'.cell? ⟨g, 2, none⟩ = some (.iface 47 (.int .i64 1)) ∧ Below w0.heap.size w0 w'
theorem quote_at (g : Nat) (w0 W : World) (h0 : W.cell? ⟨g, 0, none⟩ = some (.string ⟨#[112, 111, 119]⟩)) (h1 : W.cell? ⟨g, 1, none⟩ = some (.string ⟨#[]⟩)) (h2 : W.cell? ⟨g, 2, none⟩ = some (.iface 47 (.int .i64 1))) (hb : Below w0.heap.size w0 W) :
    Calls Tryd.prog 98 #[.string ⟨#[]⟩] W (QuAt g w0) :=
  (quote_empty W).mono fun _ _ h => ⟨h.1, (h.2.cell (p := ⟨g, 0, none⟩) (cell_lt h0)).trans h0, (h.2.cell (p := ⟨g, 1, none⟩) (cell_lt h1)).trans h1, (h.2.cell (p := ⟨g, 2, none⟩) (cell_lt h2)).trans h2, hb.trans (h.2.mono hb.size)⟩

set_option maxRecDepth 100000 in
set_option maxHeartbeats 2000000 in
theorem fault_error (g : Nat) (w : World) (h0 : w.cell? ⟨g, 0, none⟩ = some (.string ⟨#[112, 111, 119]⟩)) (h1 : w.cell? ⟨g, 1, none⟩ = some (.string ⟨#[]⟩)) (h2 : w.cell? ⟨g, 2, none⟩ = some (.iface 47 (.int .i64 1))) :
    Calls Tryd.prog 96 #[.pointer (some ⟨g, 0, none⟩)] w (ErrPost w) := by
  have mE := methodErrorN
  have hb0 : Below w.heap.size w w := Below.refl _ _
  go_enter Tryd.func96, Tryd.ntmps96
  go_wp2_with fail
  go_region_held3 (fun w' => w'.cell? ⟨g, 0, none⟩ = some (.string ⟨#[112, 111, 119]⟩) ∧ w'.cell? ⟨g, 1, none⟩ = some (.string ⟨#[]⟩) ∧ w'.cell? ⟨g, 2, none⟩ = some (.iface 47 (.int .i64 1)) ∧ Below w.heap.size w w') (refine ⟨?_, ?_, ?_, ?_⟩ <;> first | assumption | (exact Below.drew (by assumption)) | go_keep)
    (first
      | (go_at_call 98; refine (quote_at g w _ (by assumption) (by assumption) (by assumption) (by first | assumption | exact Below.drew (by assumption))).mono ?_; rintro e w1 ⟨rfl, k0, k1, k2, hb1⟩)
      | (go_at_call 82; refine (errno_error _).mono ?_; rintro e w1 ⟨rfl, rfl⟩))
  all_goals
    go_wp2_with fail
    go_ret
    exact ⟨rfl, hb1⟩

set_option maxHeartbeats 1000000 in
theorem unwrap_any (g : Nat) (w : World) (h : w.cell? ⟨g, 2, none⟩ = some (.iface 47 (.int .i64 1))) :
    Calls Tryd.prog 33 #[.iface 62 (.pointer (some ⟨g, 0, none⟩))] w fun e w' => e = .returned (.iface 47 (.int .i64 1)) ∧ w = w' := by
  have uP := Er.hasUnwrapP
  have mU := Er.methodUnwrapP
  go_enter Tryd.func33, Tryd.ntmps33
  go_wp2
  go_ret
  exact ⟨rfl, rfl⟩
theorem methodErrorP (v : Value) (w : World) : (Go.method 267 62 v "Error").run Tryd.prog w = .ok (96, v) w := by kernel_rfl
theorem neqN (w : World) : (binOp .neq 26 (.iface 47 (.int .i64 1)) (.iface 47 (.int .i64 1))).run Tryd.prog w = .ok (.bool false) w :=
  Lib.run_neq_iface_int w 1 1 Tryd.underlying26 (by kernel_rfl) Tryd.underlying47
end Go.Proofs.YtkcecmofbppodaaDoor
