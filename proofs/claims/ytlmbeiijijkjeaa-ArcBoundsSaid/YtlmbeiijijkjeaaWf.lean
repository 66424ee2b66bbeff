/- The contract of cutTo at any closure that keeps to memory of its own. -/
import Derived.Test.YtlmbeiijijkjeaaWe
namespace Go.Proofs.Ytlmbeiijijkjeaa
open Go.RowKit Sg

def lenR (R : Rw4) : Nat := (R 0).length + (R 1).length
def totR (R : Rw4) : Nat := (R 0).length + (R 1).length + (R 2).length + (R 3).length
/-- One goes, for a key that is in B2 (q), or isn't. -/
def cut1 (p : Nat) (q : Bool) (R : Rw4) : Rw4 := upd (upd R (lv R p q) (R (lv R p q)).dropLast) (lv R p q + 2) (lastKey (R (lv R p q)) :: rem (R (lv R p q + 2)) (lastKey (R (lv R p q))))
def cutn (p : Nat) (q : Bool) (R : Rw4) : Nat → Rw4
  | 0 => R
  | n + 1 => cut1 p q (cutn p q R n)
/-- Who went. -/
def outs (p : Nat) (q : Bool) (R : Rw4) : Nat → List ByteArray
  | 0 => []
  | n + 1 => outs p q R n ++ [lastKey (cutn p q R n (lv (cutn p q R n) p q))]
theorem lv_pos {R : Rw4} {p : Nat} {q : Bool} (h : 0 < lenR R) : 0 < (R (lv R p q)).length := by
  unfold lenR at h
  unfold lv
  split
  · rename_i h2
    rcases h2 with h2 | ⟨h2, _⟩ | h2 <;> omega
  · rename_i h2
    have : (R 1).length ≠ 0 := fun e => h2 (Or.inr (Or.inr e))
    omega
theorem lv_lt (R : Rw4) (p : Nat) (q : Bool) : lv R p q < 4 ∧ lv R p q + 2 < 4 := by rcases lv_two R p q with h | h <;> omega
theorem last_mem {xs : List ByteArray} (h : 0 < xs.length) : lastKey xs ∈ xs := by
  have h2 : xs ≠ [] := fun e => by rw [e] at h; exact Nat.lt_irrefl _ h
  unfold lastKey
  rw [List.getLastD_eq_getLast?, List.getLast?_eq_some_getLast h2]
  exact List.getLast_mem h2
theorem any_pos {xs : List ByteArray} (h : 0 < xs.length) : anyKey xs = true := by cases xs; exact absurd h (Nat.lt_irrefl _); rfl
theorem cut1_len {R : Rw4} {p : Nat} {q : Bool} (h : 0 < lenR R) : lenR (cut1 p q R) + 1 = lenR R := by
  have hp := lv_pos (p := p) (q := q) h
  unfold cut1
  rcases lv_two R p q with e | e <;> rw [e] at hp ⊢ <;> simp [lenR, upd] <;> omega
theorem cut1_tot {R : Rw4} {p : Nat} {q : Bool} (h : 0 < lenR R) : totR (cut1 p q R) ≤ totR R := by
  have hp := lv_pos (p := p) (q := q) h
  have r2 := rem_le (R 2) (lastKey (R 0))
  have r3 := rem_le (R 3) (lastKey (R 1))
  unfold cut1
  rcases lv_two R p q with e | e <;> rw [e] at hp ⊢ <;> simp [totR, upd] <;> omega
theorem cutn_len {R : Rw4} {p : Nat} {q : Bool} : ∀ {n : Nat}, n ≤ lenR R → lenR (cutn p q R n) + n = lenR R
  | 0, _ => rfl
  | n + 1, h => by
    have h1 := cutn_len (R := R) (p := p) (q := q) (n := n) (by omega)
    have h2 := cut1_len (R := cutn p q R n) (p := p) (q := q) (by omega)
    show lenR (cut1 p q (cutn p q R n)) + (n + 1) = _
    omega
theorem cutn_tot {R : Rw4} {p : Nat} {q : Bool} : ∀ {n : Nat}, n ≤ lenR R → totR (cutn p q R n) ≤ totR R
  | 0, _ => Nat.le_refl _
  | n + 1, h => by
    have h1 := cutn_tot (R := R) (p := p) (q := q) (n := n) (by omega)
    have h2 := cutn_len (R := R) (p := p) (q := q) (n := n) (by omega)
    exact Nat.le_trans (cut1_tot (by omega)) h1

/-- What a closure that is handed who went keeps: K tells whom it was handed, and its blocks. -/
structure Side (F : FuncId) (p : Addr) (K : List ByteArray → (Nat → Prop) → World → Prop) : Prop where
  enter : ∀ args w, (callFunc F args).run Try.prog w = .ok (.enter F args) w
  lt : ∀ vs X W, K vs X W → ∀ k, X k → k < W.heap.size
  same : ∀ vs X W W', K vs X W → W.heap.size ≤ W'.heap.size → (∀ k, X k → W'.heap[k]? = W.heap[k]?) → K vs X W'
  call : ∀ vs X W x, K vs X W → vs.length ≤ 1000 → x.size ≤ maxLen → Calls Try.prog F #[.string x, .pointer (some p)] W (fun e W' => e = .returned (.tuple #[]) ∧ ∃ X', K (vs ++ [x]) X' W' ∧ Went W W' X X')
def both (i : Ix) (S : Sx) (X : Nat → Prop) : Nat → Prop := fun k => blk i S k ∨ X k
theorem went_out {w w' : World} {S S' : Nat → Prop} {k : Nat} (h : Went w w' S S') (hk : k < w.heap.size) (hn : ¬ S k) : w'.heap[k]? = w.heap[k]? ∧ ¬ S' k :=
  ⟨h.turn.block k hk hn, fun h1 => by rcases h.new k h1 with h | h; exact hn h; omega⟩
/-- A cache, and a closure's memory beside it. -/
structure CAt (w W : World) (i : Ix) (S S' : Sx) (X X' : Nat → Prop) (K : List ByteArray → (Nat → Prop) → World → Prop) (mo p : Nat) (R : Rw4) (b : Nat) (vs : List ByteArray) : Prop where
  raw : Raw W i S' mo p R b
  side : K vs X' W
  went : Went w W (both i S X) (both i S' X')
  dis : ∀ k, X' k → ¬ blk i S' k
section
variable {w W W2 : World} {i : Ix} {S S' S2 : Sx} {X X' X2 : Nat → Prop} {K : List ByteArray → (Nat → Prop) → World → Prop} {mo p p' mo' b b' : Nat} {R R' : Rw4} {vs vs' : List ByteArray} {F : FuncId} {a : Addr} {e : Ending} {v : Value}
theorem CAt.below (c : CAt w W i S S' X X' K mo p R b vs) (sd : Side F a K) (hb : Below W.heap.size W W2) : CAt w W2 i S S' X X' K mo p R b vs :=
  ⟨c.raw.below hb, sd.same _ _ _ _ c.side hb.size fun k hk => hb.block k (sd.lt _ _ _ c.side k hk), c.went.trans (Went.below hb), c.dis⟩
theorem CAt.op (c : CAt w W i S S' X X' K mo p R b vs) (sd : Side F a K) (hp : RPost v W i S' mo' p' R' b' e W2) : e = .returned v ∧ ∃ S2, CAt w W2 i S S2 X X' K mo' p' R' b' vs := by
  obtain ⟨he, S2, r2, hW⟩ := hp
  have hx := sd.lt _ _ _ c.side
  have o := fun k (hk : X' k) => went_out hW (hx k hk) (c.dis k hk)
  refine ⟨he, S2, r2, sd.same _ _ _ _ c.side hW.turn.size fun k hk => (o k hk).1, c.went.trans ⟨fun k hk => ?_, hW.turn.wide fun k _ h => Or.inl h⟩, fun k hk => (o k hk).2⟩
  rcases hk with h | h
  · exact (hW.new k h).imp Or.inl id
  · exact Or.inl (Or.inr h)
theorem CAt.take (c : CAt w W i S S' X X' K mo p R b vs) (hk : K vs' X2 W2) (hW : Went W W2 X' X2) : CAt w W2 i S S' X X2 K mo p R b vs' := by
  have o := fun k (hk : blk i S' k) => went_out hW (c.raw.lt hk) (fun h => c.dis k h hk)
  refine ⟨c.raw.kept hW.turn.size fun k hk => (o k hk).1, hk, c.went.trans ⟨fun k hk => ?_, hW.turn.wide fun k _ h => Or.inr h⟩, fun k hk h => (o k h).2 hk⟩
  rcases hk with h | h
  · exact Or.inl (Or.inl h)
  · exact (hW.new k h).imp Or.inr id
theorem CAt.start (r : Raw w i S mo p R b) (k : K vs X w) (hdis : ∀ k, X k → ¬ blk i S k) : CAt w w i S S X X K mo p R b vs := ⟨r, k, Went.refl _ _, hdis⟩
theorem CAt.trans {w0 : World} {S0 : Sx} {X0 : Nat → Prop} (c : CAt w0 w i S0 S X0 X K mo p R b vs) (d : CAt w W i S S' X X' K mo' p' R' b' vs') : CAt w0 W i S0 S' X0 X' K mo' p' R' b' vs' := ⟨d.raw, d.side, c.went.trans d.went, d.dis⟩
theorem CAt.congr (c : CAt w W i S S' X X' K mo p R b vs) (h : ∀ k, k < 4 → R' k = R k) (hv : vs' = vs) : CAt w W i S S' X X' K mo p R' b vs' := ⟨c.raw.congr h, hv ▸ c.side, c.went, c.dis⟩
end
/-- What cutTo leaves, and whatever else hands who went to a closure. -/
def CuPost (w : World) (i : Ix) (S : Sx) (X : Nat → Prop) (K : List ByteArray → (Nat → Prop) → World → Prop) (mo p : Nat) (R : Rw4) (b : Nat) (vs : List ByteArray) (e : Ending) (w' : World) : Prop :=
  e = .returned (.tuple #[]) ∧ ∃ S' X', CAt w w' i S S' X X' K mo p R b vs

def CRel (w : World) (i : Ix) (S : Sx) (X : Nat → Prop) (K : List ByteArray → (Nat → Prop) → World → Prop) (mo p : Nat) (q : Bool) (R : Rw4) (b : Nat) (vs : List ByteArray) (n k : Nat) (W : World) : Prop :=
  ∃ S' X' j, j + k = n ∧ CAt w W i S S' X X' K mo p (cutn p q R j) b (vs ++ outs p q R j)

set_option maxHeartbeats 2000000 in
theorem cutTo_any (w : World) (i : Ix) (S : Sx) (mo p : Nat) (R : Rw4) (b left : Nat) (q : Bool) (X : Nat → Prop) (K : List ByteArray → (Nat → Prop) → World → Prop) (F : FuncId) (a : Addr) (vs : List ByteArray) (r : Raw w i S mo p R b) (k : K vs X w) (hdis : ∀ k, X k → ¬ blk i S k) (sd : Side F a K)
    (hv : vs.length ≤ 5) (hl : totR R ≤ b) (hb : b ≤ 985) :
    Calls Try.prog 29 #[.pointer (some ⟨i.c, 0, none⟩), .int .i64 (left : Int), .bool q, .func (.func F) #[] #[.pointer (some a)]] w (CuPost w i S X K mo p (cutn p q R (lenR R - left)) b (vs ++ outs p q R (lenR R - left))) := by
  have C0 : CAt w w i S S X X K mo p (cutn p q R 0) b (vs ++ outs p q R 0) := by
    rw [show outs p q R 0 = [] from rfl, List.append_nil]
    exact CAt.start r k hdis
  have HC := Lib.hid C0
  have SD := Lib.hid sd
  have hF := sd.enter
  have HO := Lib.hid (show ∀ j, (outs p q R j).length = j from fun j => by
    induction j with
    | zero => rfl
    | succ j ih => show (outs p q R j ++ [_]).length = _; rw [List.length_append, ih]; rfl)
  clear r k hdis sd C0
  go_enter Try.func29, Try.ntmps29
  go_wp2_with fail
  go_loopg [] (lenR R - left) (fun k W => CRel w i S X K mo p q R b vs (lenR R - left) k W)
  case atStart => exact ⟨S, X, 0, by omega, HC.out⟩
  case round =>
    obtain ⟨S', X', j, hj, C⟩ := hrel
    have hcl := cutn_len (R := R) (p := p) (q := q) (n := j) (by omega)
    have hct := cutn_tot (R := R) (p := p) (q := q) (n := j) (by omega)
    have U := lenW wr i S' mo p _ b C.raw
    obtain ⟨n, hn⟩ : ∃ n, n = lenR (cutn p q R j) := ⟨_, rfl⟩
    rw [show (cutn p q R j 0).length + (cutn p q R j 1).length = n from hn.symm] at U
    have U := Lib.hid U
    have CC := Lib.hid C
    rw [← hn] at hcl
    have HJ := Lib.hid hj
    have HN := Lib.hid (And.intro hn (And.intro hcl hct))
    cases gk with
    | zero =>
      have e0 : decide (left < n) = false := by simp; omega
      clear C HC hn hj hcl hct
      go_wp2_with fail
      refine U.out.mono ?_
      rintro e w1 ⟨rfl, hB⟩
      have C1 := Lib.hid (CC.out.below SD.out hB)
      clear hB U
      go_wp2_with fail
      go_end0
      obtain rfl : j = lenR R - left := by have := HJ.out; omega
      exact ⟨rfl, S', X', C1.out⟩
    | succ gk =>
      have e0 : decide (left < n) = true := by simp; omega
      have hpos : 0 < lenR (cutn p q R j) := by omega
      have PO := Lib.hid (lv_pos (p := p) (q := q) hpos)
      have HV := Lib.hid (show vs.length + j ≤ 1000 by have : lenR R ≤ totR R := (by unfold lenR totR; omega); omega)
      have HT := Lib.hid hct
      have HB := Lib.hid (And.intro hl hb)
      have NX := Lib.hid (show cutn p q R (j + 1) = cut1 p q (cutn p q R j) ∧ outs p q R (j + 1) = outs p q R j ++ [lastKey (cutn p q R j (lv (cutn p q R j) p q))] from ⟨rfl, rfl⟩)
      have HOJ := Lib.hid (HO.out j)
      generalize outs p q R j = os at *
      generalize cutn p q R j = Q at *
      clear C HC hn hj hcl hct hpos hl hb HN HO
      go_wp2_with fail
      refine U.out.mono ?_
      rintro e w1 ⟨rfl, hB⟩
      have C1 := Lib.hid (CC.out.below SD.out hB)
      have V := leavingW w1 i S' mo p Q b C1.out.raw q
      clear hB U CC
      unfold cut1 at NX
      rcases lv_two Q p q with hlv | hlv
      · rw [hlv] at V PO NX
        have V := Lib.hid (show Calls Try.prog 34 #[.pointer (some ⟨i.c, 0, none⟩), .bool q] w1 (Stl (.int .i64 0) w1) from V)
        clear hlv
        go_wp2_with fail
        refine V.out.mono ?_
        rintro e w2 ⟨rfl, hB⟩
        have C2 := Lib.hid (C1.out.below SD.out hB)
        have c0 : w2.cell? ⟨i.c, 2, none⟩ = some (.pointer (some ⟨i.r 0, 0, none⟩)) := C2.out.raw.cells.2.2.1
        have Z := ls_pop w2 (i.r 0) (S' 0) _ b (C2.out.raw.ls 0 (by omega))
        have hsm := Lib.hid ((C2.out.raw.ls 0 (by omega)).small _ (last_mem PO.out))
        rw [any_pos PO.out] at Z
        obtain ⟨x, hx⟩ : ∃ x, x = lastKey (Q 0) := ⟨_, rfl⟩
        rw [← hx] at Z hsm NX
        have Z := Lib.hid Z
        clear hB V C1 hx
        go_wp2_with fail
        refine Z.out.mono ?_
        intro e w3 hp
        obtain ⟨rfl, S3, C3'⟩ := C2.out.op SD.out (C2.out.raw.on (show 0 < 4 by omega) hp (Nat.le_refl _))
        have C3 := Lib.hid C3'
        have d0 : w3.cell? ⟨i.c, 4, none⟩ = some (.pointer (some ⟨i.r 2, 0, none⟩)) := C3'.raw.cells.2.2.2.2.1
        have Y := ls_front w3 (i.r 2) (S3 2) _ b (C3'.raw.ls 2 (by omega)) x b hsm.out (by have := HB.out; omega) (Nat.le_refl _) (by
          rw [upd_ne (by omega)]
          have h1 := rem_le (Q 2) x
          have h2 := HT.out
          have h3 := PO.out
          have h4 := HB.out.1
          unfold totR at h2 h4
          omega)
        rw [upd_ne (by omega)] at Y
        have Y := Lib.hid Y
        clear hp C3' Z c0 C2
        go_wp2_with fail
        refine Y.out.mono ?_
        intro e w4 hp
        obtain ⟨rfl, S4, C4'⟩ := C3.out.op SD.out (C3.out.raw.on (show 2 < 4 by omega) hp (Nat.le_refl _))
        have C4 := Lib.hid C4'
        have TK := Lib.hid (SD.out.call _ _ _ x C4'.side (by rw [List.length_append, HOJ.out]; exact HV.out) hsm.out)
        clear hp C4' Y d0 C3
        go_wp2_with fail
        refine TK.out.mono ?_
        rintro e w5 ⟨rfl, X5, hk, hW⟩
        have C5 := Lib.hid (C4.out.take hk hW)
        clear hk hW TK C4
        go_wp2_with fail
        go_roundg gk
        case measure => omega
        case rel =>
          refine ⟨S4, X5, j + 1, by have := HJ.out; omega, ?_⟩
          rw [NX.out.1, NX.out.2, ← List.append_assoc]
          exact C5.out
      · rw [hlv] at V PO NX
        have V := Lib.hid (show Calls Try.prog 34 #[.pointer (some ⟨i.c, 0, none⟩), .bool q] w1 (Stl (.int .i64 1) w1) from V)
        clear hlv
        go_wp2_with fail
        refine V.out.mono ?_
        rintro e w2 ⟨rfl, hB⟩
        have C2 := Lib.hid (C1.out.below SD.out hB)
        have c1 : w2.cell? ⟨i.c, 3, none⟩ = some (.pointer (some ⟨i.r 1, 0, none⟩)) := C2.out.raw.cells.2.2.2.1
        have Z := ls_pop w2 (i.r 1) (S' 1) _ b (C2.out.raw.ls 1 (by omega))
        have hsm := Lib.hid ((C2.out.raw.ls 1 (by omega)).small _ (last_mem PO.out))
        rw [any_pos PO.out] at Z
        obtain ⟨x, hx⟩ : ∃ x, x = lastKey (Q 1) := ⟨_, rfl⟩
        rw [← hx] at Z hsm NX
        have Z := Lib.hid Z
        clear hB V C1 hx
        go_wp2_with fail
        refine Z.out.mono ?_
        intro e w3 hp
        obtain ⟨rfl, S3, C3'⟩ := C2.out.op SD.out (C2.out.raw.on (show 1 < 4 by omega) hp (Nat.le_refl _))
        have C3 := Lib.hid C3'
        have d1 : w3.cell? ⟨i.c, 5, none⟩ = some (.pointer (some ⟨i.r 3, 0, none⟩)) := C3'.raw.cells.2.2.2.2.2
        have Y := ls_front w3 (i.r 3) (S3 3) _ b (C3'.raw.ls 3 (by omega)) x b hsm.out (by have := HB.out; omega) (Nat.le_refl _) (by
          rw [upd_ne (by omega)]
          have h1 := rem_le (Q 3) x
          have h2 := HT.out
          have h3 := PO.out
          have h4 := HB.out.1
          unfold totR at h2 h4
          omega)
        rw [upd_ne (by omega)] at Y
        have Y := Lib.hid Y
        clear hp C3' Z c1 C2
        go_wp2_with fail
        refine Y.out.mono ?_
        intro e w4 hp
        obtain ⟨rfl, S4, C4'⟩ := C3.out.op SD.out (C3.out.raw.on (show 3 < 4 by omega) hp (Nat.le_refl _))
        have C4 := Lib.hid C4'
        have TK := Lib.hid (SD.out.call _ _ _ x C4'.side (by rw [List.length_append, HOJ.out]; exact HV.out) hsm.out)
        clear hp C4' Y d1 C3
        go_wp2_with fail
        refine TK.out.mono ?_
        rintro e w5 ⟨rfl, X5, hk, hW⟩
        have C5 := Lib.hid (C4.out.take hk hW)
        clear hk hW TK C4
        go_wp2_with fail
        go_roundg gk
        case measure => omega
        case rel =>
          refine ⟨S4, X5, j + 1, by have := HJ.out; omega, ?_⟩
          rw [NX.out.1, NX.out.2, ← List.append_assoc]
          exact C5.out
end Go.Proofs.Ytlmbeiijijkjeaa
