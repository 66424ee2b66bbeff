/- A learner in memory: its struct, its two policies, its two rows of ghosts, its map of when they went; each part by its number. -/
import Derived.Test.YtnlckkahkghneaaGreatDoorLn
import Derived.Test.YtnlckkahkghneaaGreatDoorPs
import Derived.Test.YtnlckkahkghneaaGreatDoorGDr
import Derived.Deep.QuietTactic
import Derived.BigQuiet
set_option maxRecDepth 20000
namespace Go.Proofs.YtnlckkahkghneaaGreatDoor.LE
open Go.RowKit Go.Maps Go.WideMaps Sg

/-- A part: a policy, a row of ghosts, the map. -/
inductive Part where
  | pol (st : KSt)
  | row (xs : List ByteArray)
  | map (f : ByteArray → Option Nat)
def PartIn (w : World) (p : Nat) (S : Nat → Prop) (b : Nat) : Part → Prop
  | .pol st => Pc w p S st b
  | .row xs => LS w p S xs b
  | .map f => S = (fun k => k = p) ∧ ∃ n, n ≤ b ∧ Mp w p f n
section
variable {w w' : World} {p b b' n : Nat} {S : Nat → Prop} {x : Part} {f : ByteArray → Option Nat}
theorem PartIn.lt (h : PartIn w p S b x) {k : Nat} (hk : S k) : k < w.heap.size := by
  cases x with
  | pol st => exact Pc.lt h hk
  | row xs => exact LS.lt h hk
  | map f =>
    obtain ⟨rfl, n, _, hm⟩ := h
    have := hm.lt
    have hk : k = p := hk
    omega
theorem PartIn.beside (h : PartIn w p S b x) {X : Nat → Prop} (ht : Turn X w w') (hx : ∀ k, S k → ¬ X k) : PartIn w' p S b x := by
  have hlt := fun k (hk : S k) => h.lt hk
  cases x with
  | pol st => exact Pc.beside h ht hx
  | row xs => exact LS.kept h ht.size fun k hk => ht.block k (hlt k hk) (hx k hk)
  | map f =>
    obtain ⟨rfl, n, hn, hm⟩ := h
    exact ⟨rfl, n, hn, hm.same (ht.block p hm.lt (hx p rfl))⟩
theorem PartIn.below (h : PartIn w p S b x) (hb : Below w.heap.size w w') : PartIn w' p S b x := h.beside (X := fun _ => False) (Turn.of_below hb) fun _ _ e => e
theorem PartIn.mono (h : PartIn w p S b x) (hb : b ≤ b') : PartIn w p S b' x := by
  cases x with
  | pol st => exact Pc.mono h hb
  | row xs => exact LS.mono h hb
  | map f =>
    obtain ⟨rfl, n, hn, hm⟩ := h
    exact ⟨rfl, n, Nat.le_trans hn hb, hm⟩
theorem Mp.dropAny (h : Mp w p f n) {s : ByteArray} (hs : s.size ≤ maxLen) (ty : TypeId) :
    ∃ w' n', (Builtin.delete_ #[88, 9] ty #[.map (some p), .string s]).run Tryz.prog w = .ok (.tuple #[]) w' ∧ Mp w' p (fdel f s) n' ∧ n' ≤ n ∧ w.grownBy w' (some p) := by
  obtain ⟨D, h1, h2, h3⟩ := h
  obtain ⟨w', hrun, hown, hg⟩ := h1.drop lawS Tryz.underlying88 (keyOf_string_mk Tryz.underlying9 hs) ty
  have hsz : Maps.size (D.del (.string s.data.toList)) ≤ n := by
    have := size_del (k := .string s.data.toList) (h1.tidy lawS)
    rw [h2] at this
    rw [← this]
    exact Nat.le_add_right _ _
  refine ⟨w', _, hrun, ⟨_, owns_size hown, rfl, fun t => ?_⟩, hsz, hg.grown⟩
  unfold fdel
  by_cases e : t = s
  · subst e
    rw [if_pos rfl, has_del_same, atKey_del_same]
    exact ⟨rfl, rfl⟩
  · rw [if_neg e, has_del_other (str_ne e), atKey_del_other (str_ne e)]
    exact h3 t
end

/-- Where the parts lie. -/
structure Ix where
  l : Nat
  r : Nat → Nat
abbrev Sx := Nat → Nat → Prop
def blk (i : Ix) (S : Sx) : Nat → Prop := fun x => x = i.l ∨ ∃ k, k < 5 ∧ S k x
/-- The struct's plain fields. -/
structure Fl where
  kd : Nat
  mo : Nat
  clock : Nat
  w : Nat
  rate : Nat
  asked : Nat
  hits : Nat
  last : Nat
  ended : Bool
  down : Bool
  still : Nat
  B : Nat
  lane : Int
def lcells (i : Ix) (F : Fl) : Array Value := #[.int .i64 (F.kd : Int), .int .i64 (F.mo : Int), .pointer (some ⟨i.r 0, 0, none⟩), .pointer (some ⟨i.r 1, 0, none⟩), .pointer (some ⟨i.r 2, 0, none⟩), .pointer (some ⟨i.r 3, 0, none⟩),
  .map (some (i.r 4)), .int .i64 (F.clock : Int), .int .u64 (F.w : Int), .int .u64 (F.rate : Int), .int .i64 (F.asked : Int), .int .i64 (F.hits : Int), .int .i64 (F.last : Int), .bool F.ended, .bool F.down, .int .i64 (F.still : Int), .pointer (some ⟨F.B + 1, 0, none⟩), .int .i64 F.lane]
def LBox (w : World) (l : Nat) (cs : Array Value) : Prop := w.heap[l]? = some (.cells cs 108 (0, 0))
/-- b: how great each part may be. -/
structure Raw (w : World) (i : Ix) (S : Sx) (F : Fl) (R : Nat → Part) (b : Nat → Nat) : Prop where
  box : LBox w i.l (lcells i F)
  pt : ∀ k, k < 5 → PartIn w (i.r k) (S k) (b k) (R k)
  sep : ∀ j k, j < 5 → k < 5 → j ≠ k → ∀ x, S j x → ¬ S k x
  out : ∀ k, k < 5 → ¬ S k i.l
def RPost (v : Value) (w : World) (i : Ix) (S : Sx) (F : Fl) (R : Nat → Part) (b : Nat → Nat) (e : Ending) (w' : World) : Prop :=
  e = .returned v ∧ ∃ S', Raw w' i S' F R b ∧ Went w w' (blk i S) (blk i S')
def updP (R : Nat → Part) (k : Nat) (x : Part) : Nat → Part := fun j => if j = k then x else R j
section
variable {w w' : World} {i : Ix} {S : Sx} {F F' : Fl} {b b' : Nat → Nat} {R R' : Nat → Part} {v : Value} {e : Ending}
theorem Raw.clt (r : Raw w i S F R b) : i.l < w.heap.size := (Array.getElem?_eq_some_iff.1 r.box).1
theorem Raw.lt (r : Raw w i S F R b) {k : Nat} (hk : blk i S k) : k < w.heap.size := by
  rcases hk with h | ⟨j, hj, h⟩
  · have := r.clt; omega
  · exact (r.pt j hj).lt h
theorem Raw.beside (r : Raw w i S F R b) {X : Nat → Prop} (ht : Turn X w w') (hx : ∀ k, blk i S k → ¬ X k) : Raw w' i S F R b :=
  ⟨(ht.block _ r.clt (hx _ (Or.inl rfl))).trans r.box, fun j hj => (r.pt j hj).beside ht fun k hk => hx k (Or.inr ⟨j, hj, hk⟩), r.sep, r.out⟩
theorem Raw.below (r : Raw w i S F R b) (hb : Below w.heap.size w w') : Raw w' i S F R b := r.beside (X := fun _ => False) (Turn.of_below hb) fun _ _ e => e
theorem Raw.mono (r : Raw w i S F R b) (hb : ∀ k, k < 5 → b k ≤ b' k) : Raw w i S F R b' := ⟨r.box, fun j hj => (r.pt j hj).mono (hb j hj), r.sep, r.out⟩
theorem Raw.congr (r : Raw w i S F R b) (h : ∀ k, k < 5 → R' k = R k) : Raw w i S F R' b := ⟨r.box, fun j hj => by rw [h j hj]; exact r.pt j hj, r.sep, r.out⟩
theorem RPost.congr (r : RPost v w i S F R b e w') (h : ∀ k, k < 5 → R' k = R k) : RPost v w i S F R' b e w' := by
  obtain ⟨he, S', r', hW⟩ := r
  exact ⟨he, S', r'.congr h, hW⟩
theorem RPost.mono (r : RPost v w i S F R b e w') (hb : ∀ k, k < 5 → b k ≤ b' k) : RPost v w i S F R b' e w' := by
  obtain ⟨he, S', r', hW⟩ := r
  exact ⟨he, S', r'.mono hb, hW⟩
theorem RPost.trans {F1 : Fl} {b1 : Nat → Nat} {R1 : Nat → Part} {S1 : Sx} {w1 : World} (hW : Went w w1 (blk i S) (blk i S1)) (hp : RPost v w1 i S1 F1 R1 b1 e w') : RPost v w i S F1 R1 b1 e w' := by
  obtain ⟨he, S2, hR, h2⟩ := hp
  exact ⟨he, S2, hR, hW.trans h2⟩
/-- Behind a call of one of the parts. -/
theorem Raw.on (r : Raw w i S F R b) {k : Nat} (hk : k < 5) {x : Part} {n : Nat} (hp : e = .returned v ∧ ∃ S', PartIn w' (i.r k) S' n x ∧ Went w w' (S k) S') (hn : n ≤ b' k) (hb : ∀ j, j < 5 → j ≠ k → b j ≤ b' j) : RPost v w i S F (updP R k x) b' e w' := by
  obtain ⟨he, S', hL, hW⟩ := hp
  have q : ∀ x, x < w.heap.size → ¬ S k x → w'.heap[x]? = w.heap[x]? := fun x hx hn => hW.turn.block x hx hn
  have z : ∀ x, x < w.heap.size → ¬ S k x → ¬ S' x := fun x hx hn h => by
    rcases hW.new x h with h | h
    · exact hn h
    · omega
  refine ⟨he, fun j => if j = k then S' else S j, ⟨(q _ r.clt (r.out k hk)).trans r.box, fun j hj => ?_, fun j l hj hl hne x hx hx2 => ?_, fun j hj => ?_⟩, fun x hx => ?_, hW.turn.wide fun x _ h => Or.inr ⟨k, hk, h⟩⟩
  · unfold updP
    by_cases e : j = k
    · subst e
      rw [if_pos rfl, if_pos rfl]; exact hL.mono hn
    · rw [if_neg e, if_neg e]
      exact ((r.pt j hj).beside hW.turn fun x hx => r.sep j k hj hk e x hx).mono (hb j hj e)
  · by_cases e : j = k
    · subst e
      rw [if_pos rfl] at hx
      rw [if_neg (Ne.symm hne)] at hx2
      exact z x ((r.pt l hl).lt hx2) (r.sep l j hl hj (Ne.symm hne) x hx2) hx
    · rw [if_neg e] at hx
      by_cases e2 : l = k
      · subst e2
        rw [if_pos rfl] at hx2
        exact z x ((r.pt j hj).lt hx) (r.sep j l hj hl e x hx) hx2
      · rw [if_neg e2] at hx2
        exact r.sep j l hj hl hne x hx hx2
  · by_cases e : j = k
    · rw [if_pos e]; exact z _ r.clt (r.out k hk)
    · rw [if_neg e]; exact r.out j hj
  · rcases hx with h | ⟨j, hj, h⟩
    · exact Or.inl (Or.inl h)
    · by_cases e : j = k
      · rw [if_pos e] at h
        exact (hW.new x h).imp (fun h => Or.inr ⟨k, hk, h⟩) id
      · rw [if_neg e] at h
        exact Or.inl (Or.inr ⟨j, hj, h⟩)
/-- Behind a store into its struct. -/
theorem Raw.set (r : Raw w i S F R b) (o : Nat) (x : Value) (hc : (lcells i F).setIfInBounds o x = lcells i F') : Raw (w.setCell ⟨i.l, o, none⟩ x) i S F' R b ∧ Went w (w.setCell ⟨i.l, o, none⟩ x) (blk i S) (blk i S) := by
  have ht : Turn (fun k => k = i.l) w (w.setCell ⟨i.l, o, none⟩ x) := (Turn.refl (fun k => k = i.l) w).setCell (p := ⟨i.l, o, none⟩) (Or.inl rfl) _
  refine ⟨⟨?_, fun j hj => (r.pt j hj).beside ht fun k hk e => r.out j hj (by rw [← (show k = i.l from e)]; exact hk), r.sep, r.out⟩, Went.same (ht.wide fun k _ h => Or.inl h)⟩
  have := r.box
  unfold LBox at this ⊢
  rw [heap_setCell_same _ _ _ _ _ _ this, hc]
theorem Raw.c (r : Raw w i S F R b) (o : Nat) {x : Value} (hx : (lcells i F)[o]? = some x) : w.cell? ⟨i.l, o, none⟩ = some x := (cell_of_row w i.l o _ _ _ r.box).trans hx
theorem Raw.f (r : Raw w i S F R b) (o : Nat) : w.frozen? ⟨i.l, o, none⟩ = false := frozen_of_row w i.l o _ _ r.box
end

/-- Two policies, two rows, a map. -/
def pts (A B : KSt) (G H : List ByteArray) (f : ByteArray → Option Nat) : Nat → Part
  | 0 => .pol A
  | 1 => .pol B
  | 2 => .row G
  | 3 => .row H
  | _ => .map f
section
variable {w w' : World} {i : Ix} {S : Sx} {F : Fl} {A B A' B' : KSt} {G H G' H' : List ByteArray} {f f' : ByteArray → Option Nat} {b b' : Nat → Nat} {n : Nat} {v : Value} {e : Ending}
theorem Raw.pa (r : Raw w i S F (pts A B G H f) b) : Pc w (i.r 0) (S 0) A (b 0) := r.pt 0 (by omega)
theorem Raw.pb (r : Raw w i S F (pts A B G H f) b) : Pc w (i.r 1) (S 1) B (b 1) := r.pt 1 (by omega)
theorem Raw.ra (r : Raw w i S F (pts A B G H f) b) : LS w (i.r 2) (S 2) G (b 2) := r.pt 2 (by omega)
theorem Raw.rb (r : Raw w i S F (pts A B G H f) b) : LS w (i.r 3) (S 3) H (b 3) := r.pt 3 (by omega)
theorem Raw.mp (r : Raw w i S F (pts A B G H f) b) : S 4 = (fun k => k = i.r 4) ∧ ∃ n, n ≤ b 4 ∧ Mp w (i.r 4) f n := r.pt 4 (by omega)
theorem five {P : Nat → Prop} (h0 : P 0) (h1 : P 1) (h2 : P 2) (h3 : P 3) (h4 : P 4) : ∀ k, k < 5 → P k := by
  intro k hk
  rcases k with _ | _ | _ | _ | _ | k
  · exact h0
  · exact h1
  · exact h2
  · exact h3
  · exact h4
  · omega
theorem Raw.onA (r : Raw w i S F (pts A B G H f) b) (hp : PPost v w (i.r 0) (S 0) A' n e w') (hn : n ≤ b' 0) (hb : ∀ j, j < 5 → j ≠ 0 → b j ≤ b' j) : RPost v w i S F (pts A' B G H f) b' e w' := (r.on (k := 0) (by omega) (x := .pol A') hp hn hb).congr (five rfl rfl rfl rfl rfl)
theorem Raw.onB (r : Raw w i S F (pts A B G H f) b) (hp : PPost v w (i.r 1) (S 1) B' n e w') (hn : n ≤ b' 1) (hb : ∀ j, j < 5 → j ≠ 1 → b j ≤ b' j) : RPost v w i S F (pts A B' G H f) b' e w' := (r.on (k := 1) (by omega) (x := .pol B') hp hn hb).congr (five rfl rfl rfl rfl rfl)
theorem Raw.onG (r : Raw w i S F (pts A B G H f) b) (hp : LPost v w (i.r 2) (S 2) G' n e w') (hn : n ≤ b' 2) (hb : ∀ j, j < 5 → j ≠ 2 → b j ≤ b' j) : RPost v w i S F (pts A B G' H f) b' e w' := (r.on (k := 2) (by omega) (x := .row G') hp hn hb).congr (five rfl rfl rfl rfl rfl)
theorem Raw.onH (r : Raw w i S F (pts A B G H f) b) (hp : LPost v w (i.r 3) (S 3) H' n e w') (hn : n ≤ b' 3) (hb : ∀ j, j < 5 → j ≠ 3 → b j ≤ b' j) : RPost v w i S F (pts A B G H' f) b' e w' := (r.on (k := 3) (by omega) (x := .row H') hp hn hb).congr (five rfl rfl rfl rfl rfl)
theorem grown_turn {p : Nat} (hg : w.grownBy w' (some p)) : Turn (fun k => k = p) w w' := ⟨hg.os, hg.tape, hg.output, hg.size, fun k hk hn => hg.block k hk (fun e => hn (by injection e))⟩
theorem Raw.onM (r : Raw w i S F (pts A B G H f) b) (hn : n ≤ b' 4) (hm : Mp w' (i.r 4) f' n) (hg : w.grownBy w' (some (i.r 4))) (hb : ∀ j, j < 5 → j ≠ 4 → b j ≤ b' j) : RPost (.tuple #[]) w i S F (pts A B G H f') b' (.returned (.tuple #[])) w' := by
  have e4 := r.mp.1
  have := r.on (k := 4) (by omega) (v := .tuple #[]) (e := .returned (.tuple #[])) (w' := w') (b' := b') (n := b' 4) (x := .map f') ⟨rfl, S 4, ⟨e4, n, hn, hm⟩, by rw [e4]; exact Went.same (grown_turn hg)⟩ (Nat.le_refl _) hb
  exact this.congr (five rfl rfl rfl rfl rfl)
/-- A ghost's time is looked up; a new one is kept; one is let go. -/
theorem Raw.look (r : Raw w i S F (pts A B G H f) b) {s : ByteArray} (hs : s.size ≤ maxLen) :
    (Instr.lookup 88 (.map (some (i.r 4))) (.string s) true).run Tryz.prog w = .ok (.tuple #[.int .i64 (((f s).getD 0 : Nat) : Int), .bool (f s).isSome]) w := by
  obtain ⟨_, n, _, hm⟩ := r.mp
  exact hm.look hs
theorem Raw.keep (r : Raw w i S F (pts A B G H f) b) {s : ByteArray} (hs : s.size ≤ maxLen) (hb : b 4 ≤ 900) (hf : f s = none) {t : Nat} (ht : t ≤ 1000) (hc : ∀ j, j < 5 → j ≠ 4 → b j ≤ b' j) (h4 : b 4 + 1 ≤ b' 4) :
    ∃ w', (Instr.mapUpdate 88 (.map (some (i.r 4))) (.string s) (.int .i64 (t : Int))).run Tryz.prog w = .ok () w' ∧ RPost (.tuple #[]) w i S F (pts A B G H (fput f s t)) b' (.returned (.tuple #[])) w' := by
  obtain ⟨_, n, hn, hm⟩ := r.mp
  obtain ⟨w', h1, h2, h3⟩ := hm.store hs (by omega) hf (v := t) (by omega)
  exact ⟨w', h1, r.onM (by omega) h2 h3 hc⟩
theorem Raw.let_go (r : Raw w i S F (pts A B G H f) b) {s : ByteArray} (hs : s.size ≤ maxLen) (ty : TypeId) :
    ∃ w', (Builtin.delete_ #[88, 9] ty #[.map (some (i.r 4)), .string s]).run Tryz.prog w = .ok (.tuple #[]) w' ∧ RPost (.tuple #[]) w i S F (pts A B G H (fdel f s)) b (.returned (.tuple #[])) w' := by
  obtain ⟨_, n, hn, hm⟩ := r.mp
  obtain ⟨w', n', h1, h2, h3, h4⟩ := Mp.dropAny hm hs ty
  exact ⟨w', h1, r.onM (by omega) h2 h4 fun _ _ _ => Nat.le_refl _⟩
end
end Go.Proofs.YtnlckkahkghneaaGreatDoor.LE
