/- The contracts of Request's closure, and of Request, way by way. -/
import Derived.Test.YtlmbeiijijkjeaaWi
namespace Go.Proofs.Ytlmbeiijijkjeaa
open Go.RowKit Sg

/-- The rows when the place for a new key is made, ahead of cutTo; who went then. -/
def plR (mo : Nat) (R : Rw4) : Rw4 := if (R 0).length + (R 2).length < mo then (if 2 * mo ≤ totR R then upd R 3 (R 3).dropLast else R) else if (R 0).length < mo then upd R 2 (R 2).dropLast else upd R 0 (R 0).dropLast
def plV (mo : Nat) (R : Rw4) : List ByteArray := if (R 0).length + (R 2).length < mo then [] else if (R 0).length < mo then [] else [lastKey (R 0)]
theorem makePlace_any (w : World) (i : Ix) (S : Sx) (mo p m : Nat) (R : Rw4) (b : Nat) (X : Nat → Prop) (K : List ByteArray → (Nat → Prop) → World → Prop) (F : FuncId) (a : Addr) (r : Raw w i S mo p R b) (k : K [] X w) (hdis : ∀ k, X k → ¬ blk i S k) (sd : Side F a K) (hl : totR R ≤ b) (hb : b ≤ 985) (hm : mo = m + 1) :
    Calls Try.prog 31 #[.pointer (some ⟨i.c, 0, none⟩), .func (.func F) #[] #[.pointer (some a)]] w (CuPost w i S X K mo p (cutn p false (plR mo R) (lenR (plR mo R) - m)) b (plV mo R ++ outs p false (plR mo R) (lenR (plR mo R) - m))) := by
  unfold plR plV
  by_cases h1 : (R 0).length + (R 2).length < mo
  · simp only [h1, if_true]
    by_cases h2 : 2 * mo ≤ totR R
    · simp only [h2, if_true]; exact place_full w i S mo p m R b X K F a r k hdis sd hl hb hm h1 h2
    · simp only [h2, if_false]; exact place_room w i S mo p m R b X K F a r k hdis sd hl hb hm h1 (by omega)
  · simp only [h1, if_false]
    by_cases h2 : (R 0).length < mo
    · simp only [h2, if_true]; exact place_b1 w i S mo p m R b X K F a r k hdis sd hl hb hm (by omega) h2
    · simp only [h2, if_false]; exact place_t1 w i S mo p m R b X K F a r k hdis sd hl hb hm (by omega) (by omega)

/-- A step in a variable of its own. -/
def Box (w : World) (sb : Nat) (h : Bool) (s : ByteArray) (o : Bool) : Prop := w.heap[sb]? = some (.cells #[.bool h, .string s, .bool o] 30 (0, 0))
section
variable {w : World} {sb : Nat} {h o : Bool} {s : ByteArray}
theorem Box.set (k : Box w sb h s o) (x : ByteArray) : Box ((w.setCell ⟨sb, 1, none⟩ (.string x)).setCell ⟨sb, 2, none⟩ (.bool true)) sb h x true := by
  unfold Box at *
  have r1 : (w.setCell ⟨sb, 1, none⟩ (.string x)).heap[sb]? = some (.cells #[.bool h, .string x, .bool o] 30 (0, 0)) := by rw [heap_setCell_same _ _ _ _ _ _ k]; rfl
  rw [heap_setCell_same _ _ _ _ _ _ r1]; rfl
theorem Box.cells (k : Box w sb h s o) : w.cell? ⟨sb, 0, none⟩ = some (.bool h) ∧ w.cell? ⟨sb, 1, none⟩ = some (.string s) ∧ w.cell? ⟨sb, 2, none⟩ = some (.bool o) ∧ w.frozen? ⟨sb, 1, none⟩ = false ∧ w.frozen? ⟨sb, 2, none⟩ = false :=
  ⟨cell_of_row w _ 0 _ _ _ k, cell_of_row w _ 1 _ _ _ k, cell_of_row w _ 2 _ _ _ k, frozen_of_row w _ 1 _ _ k, frozen_of_row w _ 2 _ _ k⟩
theorem Box.lt (k : Box w sb h s o) : sb < w.heap.size := (Array.getElem?_eq_some_iff.1 k).1
theorem load_step (k : Box w sb h s o) : (loadVar 30 ⟨sb, 0, none⟩).run Try.prog w = .ok (.agg #[.bool h, .string s, .bool o]) w := by
  obtain ⟨k0, k1, k2, _, _⟩ := k.cells
  unfold loadVar
  go_simp
theorem Box.put (k : Box w sb h s o) (h' o' : Bool) (s' : ByteArray) : Box (((w.setCell ⟨sb, 0, none⟩ (.bool h')).setCell ⟨sb, 1, none⟩ (.string s')).setCell ⟨sb, 2, none⟩ (.bool o')) sb h' s' o' := by
  unfold Box at *
  have r1 : (w.setCell ⟨sb, 0, none⟩ (.bool h')).heap[sb]? = some (.cells #[.bool h', .string s, .bool o] 30 (0, 0)) := by rw [heap_setCell_same _ _ _ _ _ _ k]; rfl
  have r2 : ((w.setCell ⟨sb, 0, none⟩ (.bool h')).setCell ⟨sb, 1, none⟩ (.string s')).heap[sb]? = some (.cells #[.bool h', .string s', .bool o] 30 (0, 0)) := by rw [heap_setCell_same _ _ _ _ _ _ r1]; rfl
  rw [heap_setCell_same _ _ _ _ _ _ r2]; rfl
end

/-- Whom Request's closure was handed last. -/
def vicOf (vs : List ByteArray) : ByteArray := if vs = [] then ⟨#[]⟩ else lastKey vs
def KQ (sb : Nat) (h : Bool) (vs : List ByteArray) (X : Nat → Prop) (W : World) : Prop := X = (fun k => k = sb) ∧ Box W sb h (vicOf vs) (!vs.isEmpty)
theorem cloQ (w : World) (sb : Nat) (h o : Bool) (s x : ByteArray) (k : Box w sb h s o) :
    Calls Try.prog 25 #[.string x, .pointer (some ⟨sb, 0, none⟩)] w (fun e w' => e = .returned (.tuple #[]) ∧ Box w' sb h x true ∧ Turn (fun k => k = sb) w w') := by
  obtain ⟨k0, k1, k2, f1, f2⟩ := k.cells
  have R := Lib.hid (k.set x)
  clear k
  go_enter Try.func25, Try.ntmps25
  go_wp2_with fail
  go_end0
  exact ⟨rfl, R.out, ((Turn.refl (fun k => k = sb) w).setCell (p := ⟨sb, 1, none⟩) (Or.inl rfl) _).setCell (p := ⟨sb, 2, none⟩) (Or.inl rfl) _⟩
theorem sideQ (sb : Nat) (h : Bool) : Side 25 ⟨sb, 0, none⟩ (KQ sb h) where
  enter := fun args w => by kernel_rfl
  lt := by rintro vs X W ⟨rfl, hB⟩ k rfl; exact hB.lt
  same := by rintro vs X W W' ⟨rfl, hB⟩ _ hk; exact ⟨rfl, (hk sb rfl).trans hB⟩
  call := by
    rintro vs X W x ⟨rfl, hB⟩ _ _
    refine (cloQ W sb h _ _ x hB).mono ?_
    rintro e W' ⟨he, hB', hT⟩
    refine ⟨he, _, ⟨rfl, ?_⟩, Went.same hT⟩
    rw [show vicOf (vs ++ [x]) = x by unfold vicOf; rw [if_neg (by simp)]; simp [lastKey], show (!(vs ++ [x]).isEmpty) = true by simp]
    exact hB'


abbrev sObj (h : Bool) (s : ByteArray) (o : Bool) : Obj := .cells #[.bool h, .string s, .bool o] 30
/-- Request's memory when it has asked whether the key is resident. -/
structure Mid (w : World) (i : Ix) (S : Sx) (h : Bool) (W0 : World) : Prop where
  bel : Below w.heap.size w W0
  res : Box W0 w.heap.size false ⟨#[]⟩ false
  step : Box W0 (w.heap.size + 1) h ⟨#[]⟩ false
  n0 : ¬ blk i S w.heap.size
  n1 : ¬ blk i S (w.heap.size + 1)
section
variable {w W W' : World} {i : Ix} {S S' S2 : Sx} {X' : Nat → Prop} {mo p mo' p' b b' : Nat} {R R' : Rw4} {h o : Bool} {vs : List ByteArray} {e : Ending} {v : Value}
theorem Mid.start (r : Raw w i S mo p R b) (h : Bool) : Mid w i S h ((w.alloc (sObj false ⟨#[]⟩ false)).alloc (sObj h ⟨#[]⟩ false)) := by
  have s1 : (w.alloc (sObj false ⟨#[]⟩ false)).heap.size = w.heap.size + 1 := by simp
  have b1 := (Below.refl w.heap.size w).alloc (Nat.le_refl _) (sObj false ⟨#[]⟩ false)
  have b2 := b1.alloc (by rw [s1]; omega) (sObj h ⟨#[]⟩ false)
  have q2 := heap_alloc_new (w.alloc (sObj false ⟨#[]⟩ false)) (sObj h ⟨#[]⟩ false)
  rw [s1] at q2
  exact ⟨b2, (Below.heap_alloc _ _ _ (by rw [s1]; omega)).trans (heap_alloc_new _ _), q2, fun hk => by have := r.lt hk; omega, fun hk => by have := r.lt hk; omega⟩
theorem Mid.at (m : Mid w i S h W) (r : Raw w i S mo p R b) : CAt W W i S S (fun k => k = w.heap.size + 1) (fun k => k = w.heap.size + 1) (KQ (w.heap.size + 1) h) mo p R b [] :=
  CAt.start (r.below m.bel) ⟨rfl, m.step⟩ (by rintro k rfl; exact m.n1)
/-- The step and the result's variable, and the result's variable written. -/
theorem Mid.out (m : Mid w i S h W) (c : CAt W W' i S S' (fun k => k = w.heap.size + 1) X' (KQ (w.heap.size + 1) h) mo p R b vs) :
    (W'.cell? ⟨w.heap.size + 1, 0, none⟩ = some (.bool h) ∧ W'.cell? ⟨w.heap.size + 1, 1, none⟩ = some (.string (vicOf vs)) ∧ W'.cell? ⟨w.heap.size + 1, 2, none⟩ = some (.bool (!vs.isEmpty))) ∧
    (W'.cell? ⟨w.heap.size, 0, none⟩ = some (.bool false) ∧ W'.cell? ⟨w.heap.size, 1, none⟩ = some (.string ⟨#[]⟩) ∧ W'.cell? ⟨w.heap.size, 2, none⟩ = some (.bool false)) ∧ (W'.frozen? ⟨w.heap.size, 0, none⟩ = false ∧ W'.frozen? ⟨w.heap.size, 1, none⟩ = false ∧ W'.frozen? ⟨w.heap.size, 2, none⟩ = false) ∧
    Box (((W'.setCell ⟨w.heap.size, 0, none⟩ (.bool h)).setCell ⟨w.heap.size, 1, none⟩ (.string (vicOf vs))).setCell ⟨w.heap.size, 2, none⟩ (.bool (!vs.isEmpty))) w.heap.size h (vicOf vs) (!vs.isEmpty) ∧
    RPost (.agg #[.bool h, .string (vicOf vs), .bool (!vs.isEmpty)]) w i S mo p R b (.returned (.agg #[.bool h, .string (vicOf vs), .bool (!vs.isEmpty)])) (((W'.setCell ⟨w.heap.size, 0, none⟩ (.bool h)).setCell ⟨w.heap.size, 1, none⟩ (.string (vicOf vs))).setCell ⟨w.heap.size, 2, none⟩ (.bool (!vs.isEmpty))) := by
  obtain ⟨r, ⟨rfl, hB⟩, hW, hd⟩ := c
  have hs0 := m.bel.size
  have hs1 := hW.turn.size
  have ores := went_out hW m.res.lt (fun hk => by
    rcases hk with hk | hk
    · exact m.n0 hk
    · have hk : w.heap.size = w.heap.size + 1 := hk
      omega)
  have hr : Box W' w.heap.size false ⟨#[]⟩ false := ores.1.trans m.res
  have hn : ¬ blk i S' w.heap.size := fun hk => ores.2 (Or.inl hk)
  refine ⟨⟨hB.cells.1, hB.cells.2.1, hB.cells.2.2.1⟩, ⟨hr.cells.1, hr.cells.2.1, hr.cells.2.2.1⟩, ⟨frozen_of_row W' _ 0 _ _ hr, frozen_of_row W' _ 1 _ _ hr, frozen_of_row W' _ 2 _ _ hr⟩, hr.put _ _ _, rfl, S', r.kept (by simp [World.setCell]) (fun k hk => ?_), fun k hk => ?_, ?_⟩
  · have hne : k ≠ w.heap.size := fun e => hn (e ▸ hk)
    rw [Below.heap_setCell _ _ _ _ hne, Below.heap_setCell _ _ _ _ hne, Below.heap_setCell _ _ _ _ hne]
  · rcases hW.new k (Or.inl hk) with h1 | h1
    · rcases h1 with h1 | h1
      · exact Or.inl h1
      · have h1 : k = w.heap.size + 1 := h1
        exact Or.inr (by omega)
    · exact Or.inr (by omega)
  · have t1 : Turn (blk i S) w W' := (Turn.of_below (S := blk i S) m.bel).trans hW.turn (fun k hk hS => by
      rcases hS with h1 | h1
      · exact h1
      · have h1 : k = w.heap.size + 1 := h1
        omega)
    exact ((t1.setCell (p := ⟨w.heap.size, 0, none⟩) (Or.inr (Nat.le_refl _)) _).setCell (p := ⟨w.heap.size, 1, none⟩) (Or.inr (Nat.le_refl _)) _).setCell (p := ⟨w.heap.size, 2, none⟩) (Or.inr (Nat.le_refl _)) _
end

section
variable (w : World) (i : Ix) (S : Sx) (mo p : Nat) (R : Rw4) (b : Nat) (key : ByteArray) (r : Raw w i S mo p R b)
include r
theorem req_zero (hm : mo = 0) : Calls Try.prog 10 #[.pointer (some ⟨i.c, 0, none⟩), .string key] w (RPost (.agg #[.bool false, .string ⟨#[]⟩, .bool false]) w i S mo p R b) := by
  have b1 := (Below.refl w.heap.size w).alloc (Nat.le_refl _) (sObj false ⟨#[]⟩ false)
  have hB : Box (w.alloc (sObj false ⟨#[]⟩ false)) w.heap.size false ⟨#[]⟩ false := heap_alloc_new _ _
  obtain ⟨g0, g1, g2, f1, f2⟩ := hB.cells
  have f0 : (w.alloc (sObj false ⟨#[]⟩ false)).frozen? ⟨w.heap.size, 0, none⟩ = false := frozen_of_row _ _ 0 _ _ hB
  have c0 := (r.below b1).cells.1
  have e9 : ((mo : Int) == 0) = true := by rw [hm]; rfl
  have e8 : (mo == 0) = true := by rw [hm]; rfl
  have F := Lib.hid hB
  have P := Lib.hid (show RPost (.agg #[.bool false, .string ⟨#[]⟩, .bool false]) w i S mo p R b (.returned (.agg #[.bool false, .string ⟨#[]⟩, .bool false])) (w.alloc (sObj false ⟨#[]⟩ false)) from ⟨rfl, S, r.below b1, Went.below b1⟩)
  clear r b1 hB hm
  go_enter Try.func10, Try.ntmps10
  go_wp2_with fail
  refine bodyPost_ret (results_c rfl _ _ _ ⟨w.heap.size, 0, none⟩ _ rfl (load_step F.out)) rfl ?_
  exact P.out
variable (hs : key.size ≤ maxLen)
include hs
theorem has_mid (h : Bool) (hh : hit R key = h) : Calls Try.prog 11 #[.pointer (some ⟨i.c, 0, none⟩), .string key] (w.alloc (sObj false ⟨#[]⟩ false)) (BoolPost h (w.alloc (sObj false ⟨#[]⟩ false))) := by
  have b1 := (Below.refl w.heap.size w).alloc (Nat.le_refl _) (sObj false ⟨#[]⟩ false)
  have := hasW _ i S mo p R b (r.below b1) key hs
  rw [hh] at this
  exact this
variable (m : Nat) (hm : mo = m + 1) (hb : b ≤ 985)
include hm hb
theorem req_hit (h1 : hit R key = true) : Calls Try.prog 10 #[.pointer (some ⟨i.c, 0, none⟩), .string key] w (RPost (.agg #[.bool true, .string (vicOf []), .bool (!([] : List ByteArray).isEmpty)]) w i S mo p (putR R key 1) (b + 1)) := by
  have U := Lib.hid (has_mid w i S mo p R b key r hs true h1)
  have b1 := (Below.refl w.heap.size w).alloc (Nat.le_refl _) (sObj false ⟨#[]⟩ false)
  have c0 := (r.below b1).cells.1
  have M0 := Lib.hid (Mid.start r true)
  have A0 := Lib.hid (M0.out.at r)
  have ht := r.top.1
  have e9 : ((mo : Int) == 0) = false := by simp; omega
  have e8 : (mo == 0) = false := by simp; omega
  have HW : IntKind.i64.wrap ((mo : Int) - 1) = (m : Int) := by rw [IntWalk.i64_in _ (by omega)]; omega
  have HB := Lib.hid hb
  have HS := Lib.hid hs
  clear r b1 h1 ht hb hm
  go_enter Try.func10, Try.ntmps10
  go_wp2_with fail
  refine U.out.mono ?_
  rintro e w1 ⟨rfl, rfl⟩
  go_upto_region 4 with fail
  clear c0 U
  generalize (w.alloc (sObj false ⟨#[]⟩ false)).alloc (sObj true ⟨#[]⟩ false) = w0 at M0 A0 ⊢
  obtain ⟨s0, _, _⟩ := A0.out.side.2.cells
  have Z := Lib.hid (putW1 w0 i S mo p R b A0.out.raw key hs HB.out)
  go_wp2_with fail
  refine Z.out.mono ?_
  intro e w2 hp
  obtain ⟨rfl, S2, A2'⟩ := A0.out.op (sideQ _ _) hp
  have A2 := Lib.hid A2'
  clear hp A2' Z s0 e9 e8 HW A0
  obtain ⟨⟨s0, s1, s2⟩, ⟨g0, g1, g2⟩, ⟨f0, f1, f2⟩, F1, F2⟩ := M0.out.out A2.out
  have F1 := Lib.hid F1
  have F2 := Lib.hid F2
  go_wp2_with fail
  refine bodyPost_ret (results_c rfl _ _ _ ⟨w.heap.size, 0, none⟩ _ rfl (load_step F1.out)) rfl ?_
  exact F2.out
set_option maxHeartbeats 1000000 in
theorem req_b1 (h1 : hit R key = false) (h2 : inn (R 2) key = true) (hl : totR R ≤ b) (hp : p ≤ mo) : Calls Try.prog 10 #[.pointer (some ⟨i.c, 0, none⟩), .string key] w (RPost (.agg #[.bool false, .string (vicOf (outs (rpU mo p R) false R (lenR R - m))), .bool (!(outs (rpU mo p R) false R (lenR R - m)).isEmpty)]) w i S mo (rpU mo p R) (putR (cutn (rpU mo p R) false R (lenR R - m)) key 1) (b + 1)) := by
  have U := Lib.hid (has_mid w i S mo p R b key r hs false h1)
  have b1 := (Below.refl w.heap.size w).alloc (Nat.le_refl _) (sObj false ⟨#[]⟩ false)
  have c0 := (r.below b1).cells.1
  have M0 := Lib.hid (Mid.start r false)
  have A0 := Lib.hid (M0.out.at r)
  have ht := r.top.1
  have e9 : ((mo : Int) == 0) = false := by simp; omega
  have e8 : (mo == 0) = false := by simp; omega
  have HW : IntKind.i64.wrap ((mo : Int) - 1) = (m : Int) := by rw [IntWalk.i64_in _ (by omega)]; omega
  have HB := Lib.hid hb
  have H2 := Lib.hid (show 0 < (R 2).length from by
    rw [inn_iff] at h2
    exact List.length_pos_of_mem h2)
  have HL := Lib.hid (And.intro hl hp)
  have V2 := ls_has _ (i.r 2) (S 2) (R 2) b (A0.out.raw.ls 2 (by omega)) key hs
  rw [h2] at V2
  have V2 := Lib.hid V2
  clear r b1 h1 ht hb hm h2 hl hp
  go_enter Try.func10, Try.ntmps10
  go_wp2_with fail
  refine U.out.mono ?_
  rintro e w1 ⟨rfl, rfl⟩
  go_upto_region 4 with fail
  clear c0 U
  generalize (w.alloc (sObj false ⟨#[]⟩ false)).alloc (sObj false ⟨#[]⟩ false) = w0 at M0 A0 V2 ⊢
  obtain ⟨s0, _, _⟩ := A0.out.side.2.cells
  have c4 : w0.cell? ⟨i.c, 4, none⟩ = some (.pointer (some ⟨i.r 2, 0, none⟩)) := A0.out.raw.cells.2.2.2.2.1
  go_wp2_with fail
  refine V2.out.mono ?_
  rintro e w1 ⟨rfl, rfl⟩
  clear V2
  have Y := Lib.hid (raiseW w0 i S mo p R b A0.out.raw H2.out HL.out.2)
  go_wp2_with fail
  refine Y.out.mono ?_
  intro e w2 hp
  obtain ⟨rfl, S2, A2'⟩ := A0.out.op (sideQ _ _) hp
  have A2 := Lib.hid A2'
  have c0 : w2.cell? ⟨i.c, 0, none⟩ = some (.int .i64 (mo : Int)) := A2'.raw.cells.1
  clear hp A2' Y s0 c4 e9 e8
  obtain ⟨u, hu⟩ : ∃ u, u = (rpU mo p R) := ⟨_, rfl⟩
  rw [← hu] at A2
  have HU := Lib.hid hu
  clear hu
  have Z := Lib.hid (cutTo_any w2 i S2 mo u R b m false _ _ 25 ⟨w.heap.size + 1, 0, none⟩ [] A2.out.raw A2.out.side A2.out.dis (sideQ _ _) (by simp) HL.out.1 HB.out)
  rw [List.nil_append] at Z
  go_wp2_with fail
  refine Z.out.mono ?_
  rintro e w3 ⟨rfl, S3, X3, A3'⟩
  have A3 := Lib.hid (A2.out.trans A3')
  clear A3' A2 Z c0 HW
  generalize hvs : outs u false R (lenR R - m) = vs at *
  generalize hQ : cutn u false R (lenR R - m) = Q at *
  have HV := Lib.hid (And.intro hvs hQ)
  clear hvs hQ
  have T := Lib.hid (putW1 w3 i S3 mo u Q b A3.out.raw key hs HB.out)
  go_wp2_with fail
  refine T.out.mono ?_
  intro e w4 hp
  obtain ⟨rfl, S4, A4'⟩ := A3.out.op (sideQ _ _) hp
  have A4 := Lib.hid A4'
  clear hp A4' T A0 A3
  obtain ⟨⟨s0, s1, s2⟩, ⟨g0, g1, g2⟩, ⟨f0, f1, f2⟩, F1, F2⟩ := M0.out.out A4.out
  have F1 := Lib.hid F1
  have F2 := Lib.hid F2
  go_wp2_with fail
  refine bodyPost_ret (results_c rfl _ _ _ ⟨w.heap.size, 0, none⟩ _ rfl (load_step F1.out)) rfl ?_
  obtain ⟨e2, e3⟩ := HV.out
  subst e2 e3
  have e1 := HU.out
  subst e1
  exact F2.out
set_option maxHeartbeats 1000000 in
theorem req_b2 (h1 : hit R key = false) (h2 : inn (R 2) key = false) (h3 : inn (R 3) key = true) (hl : totR R ≤ b) (hp : p ≤ mo) : Calls Try.prog 10 #[.pointer (some ⟨i.c, 0, none⟩), .string key] w (RPost (.agg #[.bool false, .string (vicOf (outs (lpU p R) true R (lenR R - m))), .bool (!(outs (lpU p R) true R (lenR R - m)).isEmpty)]) w i S mo (lpU p R) (putR (cutn (lpU p R) true R (lenR R - m)) key 1) (b + 1)) := by
  have U := Lib.hid (has_mid w i S mo p R b key r hs false h1)
  have b1 := (Below.refl w.heap.size w).alloc (Nat.le_refl _) (sObj false ⟨#[]⟩ false)
  have c0 := (r.below b1).cells.1
  have M0 := Lib.hid (Mid.start r false)
  have A0 := Lib.hid (M0.out.at r)
  have ht := r.top.1
  have e9 : ((mo : Int) == 0) = false := by simp; omega
  have e8 : (mo == 0) = false := by simp; omega
  have HW : IntKind.i64.wrap ((mo : Int) - 1) = (m : Int) := by rw [IntWalk.i64_in _ (by omega)]; omega
  have HB := Lib.hid hb
  have H2 := Lib.hid (show 0 < (R 3).length from by
    rw [inn_iff] at h3
    exact List.length_pos_of_mem h3)
  have HL := Lib.hid (And.intro hl hp)
  have V2 := ls_has _ (i.r 2) (S 2) (R 2) b (A0.out.raw.ls 2 (by omega)) key hs
  rw [h2] at V2
  have V2 := Lib.hid V2
  have V3 := ls_has _ (i.r 3) (S 3) (R 3) b (A0.out.raw.ls 3 (by omega)) key hs
  rw [h3] at V3
  have V3 := Lib.hid V3
  clear r b1 h1 ht hb hm h2 hl hp h3
  go_enter Try.func10, Try.ntmps10
  go_wp2_with fail
  refine U.out.mono ?_
  rintro e w1 ⟨rfl, rfl⟩
  go_upto_region 4 with fail
  clear c0 U
  generalize (w.alloc (sObj false ⟨#[]⟩ false)).alloc (sObj false ⟨#[]⟩ false) = w0 at M0 A0 V2 V3 ⊢
  obtain ⟨s0, _, _⟩ := A0.out.side.2.cells
  have c4 : w0.cell? ⟨i.c, 4, none⟩ = some (.pointer (some ⟨i.r 2, 0, none⟩)) := A0.out.raw.cells.2.2.2.2.1
  have c5 : w0.cell? ⟨i.c, 5, none⟩ = some (.pointer (some ⟨i.r 3, 0, none⟩)) := A0.out.raw.cells.2.2.2.2.2
  go_wp2_with fail
  refine V2.out.mono ?_
  rintro e w1 ⟨rfl, rfl⟩
  clear V2
  go_wp2_with fail
  refine V3.out.mono ?_
  rintro e w1 ⟨rfl, rfl⟩
  clear V3
  have Y := Lib.hid (lowerW w0 i S mo p R b A0.out.raw H2.out HL.out.2)
  go_wp2_with fail
  refine Y.out.mono ?_
  intro e w2 hp
  obtain ⟨rfl, S2, A2'⟩ := A0.out.op (sideQ _ _) hp
  have A2 := Lib.hid A2'
  have c0 : w2.cell? ⟨i.c, 0, none⟩ = some (.int .i64 (mo : Int)) := A2'.raw.cells.1
  clear hp A2' Y s0 c4 c5 e9 e8
  obtain ⟨u, hu⟩ : ∃ u, u = (lpU p R) := ⟨_, rfl⟩
  rw [← hu] at A2
  have HU := Lib.hid hu
  clear hu
  have Z := Lib.hid (cutTo_any w2 i S2 mo u R b m true _ _ 25 ⟨w.heap.size + 1, 0, none⟩ [] A2.out.raw A2.out.side A2.out.dis (sideQ _ _) (by simp) HL.out.1 HB.out)
  rw [List.nil_append] at Z
  go_wp2_with fail
  refine Z.out.mono ?_
  rintro e w3 ⟨rfl, S3, X3, A3'⟩
  have A3 := Lib.hid (A2.out.trans A3')
  clear A3' A2 Z c0 HW
  generalize hvs : outs u true R (lenR R - m) = vs at *
  generalize hQ : cutn u true R (lenR R - m) = Q at *
  have HV := Lib.hid (And.intro hvs hQ)
  clear hvs hQ
  have T := Lib.hid (putW1 w3 i S3 mo u Q b A3.out.raw key hs HB.out)
  go_wp2_with fail
  refine T.out.mono ?_
  intro e w4 hp
  obtain ⟨rfl, S4, A4'⟩ := A3.out.op (sideQ _ _) hp
  have A4 := Lib.hid A4'
  clear hp A4' T A0 A3
  obtain ⟨⟨s0, s1, s2⟩, ⟨g0, g1, g2⟩, ⟨f0, f1, f2⟩, F1, F2⟩ := M0.out.out A4.out
  have F1 := Lib.hid F1
  have F2 := Lib.hid F2
  go_wp2_with fail
  refine bodyPost_ret (results_c rfl _ _ _ ⟨w.heap.size, 0, none⟩ _ rfl (load_step F1.out)) rfl ?_
  obtain ⟨e2, e3⟩ := HV.out
  subst e2 e3
  have e1 := HU.out
  subst e1
  exact F2.out
set_option maxHeartbeats 1000000 in
theorem req_new (h1 : hit R key = false) (h2 : inn (R 2) key = false) (h3 : inn (R 3) key = false) (hl : totR R ≤ b) : Calls Try.prog 10 #[.pointer (some ⟨i.c, 0, none⟩), .string key] w
    (RPost (.agg #[.bool false, .string (vicOf (plV mo R ++ outs p false (plR mo R) (lenR (plR mo R) - m))), .bool (!(plV mo R ++ outs p false (plR mo R) (lenR (plR mo R) - m)).isEmpty)]) w i S mo p (putR (cutn p false (plR mo R) (lenR (plR mo R) - m)) key 0) (b + 1)) := by
  have U := Lib.hid (has_mid w i S mo p R b key r hs false h1)
  have b1 := (Below.refl w.heap.size w).alloc (Nat.le_refl _) (sObj false ⟨#[]⟩ false)
  have c0 := (r.below b1).cells.1
  have M0 := Lib.hid (Mid.start r false)
  have A0 := Lib.hid (M0.out.at r)
  have ht := r.top.1
  have e9 : ((mo : Int) == 0) = false := by simp; omega
  have e8 : (mo == 0) = false := by simp; omega
  have HW : IntKind.i64.wrap ((mo : Int) - 1) = (m : Int) := by rw [IntWalk.i64_in _ (by omega)]; omega
  have HB := Lib.hid hb
  have HL := Lib.hid (And.intro hl hm)
  have V2 := ls_has _ (i.r 2) (S 2) (R 2) b (A0.out.raw.ls 2 (by omega)) key hs
  rw [h2] at V2
  have V2 := Lib.hid V2
  have V3 := ls_has _ (i.r 3) (S 3) (R 3) b (A0.out.raw.ls 3 (by omega)) key hs
  rw [h3] at V3
  have V3 := Lib.hid V3
  clear r b1 h1 ht hb hm h2 hl h3
  go_enter Try.func10, Try.ntmps10
  go_wp2_with fail
  refine U.out.mono ?_
  rintro e w1 ⟨rfl, rfl⟩
  go_upto_region 4 with fail
  clear c0 U
  generalize (w.alloc (sObj false ⟨#[]⟩ false)).alloc (sObj false ⟨#[]⟩ false) = w0 at M0 A0 V2 V3 ⊢
  obtain ⟨s0, _, _⟩ := A0.out.side.2.cells
  have c4 : w0.cell? ⟨i.c, 4, none⟩ = some (.pointer (some ⟨i.r 2, 0, none⟩)) := A0.out.raw.cells.2.2.2.2.1
  have c5 : w0.cell? ⟨i.c, 5, none⟩ = some (.pointer (some ⟨i.r 3, 0, none⟩)) := A0.out.raw.cells.2.2.2.2.2
  go_wp2_with fail
  refine V2.out.mono ?_
  rintro e w1 ⟨rfl, rfl⟩
  clear V2
  go_wp2_with fail
  refine V3.out.mono ?_
  rintro e w1 ⟨rfl, rfl⟩
  clear V3
  have Z := Lib.hid (makePlace_any w0 i S mo p m R b _ _ 25 ⟨w.heap.size + 1, 0, none⟩ A0.out.raw A0.out.side A0.out.dis (sideQ _ _) HL.out.1 HB.out HL.out.2)
  generalize plV mo R ++ outs p false (plR mo R) (lenR (plR mo R) - m) = vs at *
  generalize cutn p false (plR mo R) (lenR (plR mo R) - m) = Q at *
  go_wp2_with fail
  refine Z.out.mono ?_
  rintro e w3 ⟨rfl, S3, X3, A3'⟩
  have A3 := Lib.hid A3'
  clear A3' Z s0 c4 c5 e9 e8 HW
  have T := Lib.hid (putW0 w3 i S3 mo p Q b A3.out.raw key hs HB.out)
  go_wp2_with fail
  refine T.out.mono ?_
  intro e w4 hp
  obtain ⟨rfl, S4, A4'⟩ := A3.out.op (sideQ _ _) hp
  have A4 := Lib.hid A4'
  clear hp A4' T A0 A3
  obtain ⟨⟨s0, s1, s2⟩, ⟨g0, g1, g2⟩, ⟨f0, f1, f2⟩, F1, F2⟩ := M0.out.out A4.out
  have F1 := Lib.hid F1
  have F2 := Lib.hid F2
  go_wp2_with fail
  refine bodyPost_ret (results_c rfl _ _ _ ⟨w.heap.size, 0, none⟩ _ rfl (load_step F1.out)) rfl ?_
  exact F2.out
end
end Go.Proofs.Ytlmbeiijijkjeaa
