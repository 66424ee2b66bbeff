/- What requests of residents and of ghosts leave and tell, as plain lists; four numbers in a variable beside a cache; a cache asked for keys that came in. -/
import Derived.Test.YtlmbeiijijkjeaaCut8
namespace Go.Proofs.Ytlmbeiijijkjeaa
open Go.RowKit Sg

def keysL (R : Rw4) : List ByteArray := (R 1 ++ R 0).reverse
def ghL (R : Rw4) : List ByteArray := R 2 ++ R 3
theorem keysL_len (R : Rw4) : (keysL R).length = lenR R := by unfold keysL lenR; rw [List.length_reverse, List.length_append]; omega
theorem keysL_mem {R : Rw4} {x : ByteArray} : x ∈ keysL R ↔ hit R x = true := by
  unfold keysL
  rw [List.mem_reverse, List.mem_append, hit_iff]
  exact Or.comm
theorem getD_in {xs : List ByteArray} {j : Nat} (h : j < xs.length) : xs.getD j ⟨#[]⟩ ∈ xs := by
  rw [List.getD_eq_getElem?_getD, List.getElem?_eq_getElem h]; exact List.getElem_mem h
theorem keysL_put (R : Rw4) (k : ByteArray) : keysL (putR R k 1) = (rem (R 1) k ++ rem (R 0) k).reverse ++ [k] := by
  unfold keysL
  rw [put_at, put_ne (by omega), List.cons_append, List.reverse_cons]
theorem last_put (R : Rw4) (k : ByteArray) : (keysL (putR R k 1)).getD ((keysL (putR R k 1)).length - 1) ⟨#[]⟩ = k := by
  rw [keysL_put, List.length_append, List.length_cons, List.length_nil, List.getD_eq_getElem?_getD, Nat.zero_add, Nat.add_sub_cancel, List.getElem?_concat_length]; rfl
theorem keysL_pos (R : Rw4) (k : ByteArray) : 0 < (keysL (putR R k 1)).length := by rw [keysL_put, List.length_append]; simp
theorem rem_keys (R : Rw4) (k : ByteArray) : rem (keysL (putR R k 1)) k = rem (keysL R) k := by
  rw [keysL_put]
  unfold keysL
  rw [rem_app, rem_rev, rem_rev, rem_app, rem_app]
  have e : ∀ xs : List ByteArray, rem (rem xs k) k = rem xs k := fun xs => rem_none rem_not
  rw [e, e]
  show _ ++ rem [k] k = _
  have : rem [k] k = [] := by unfold rem; simp
  rw [this, List.append_nil]
section
variable {s : St} {k : ByteArray}
theorem hit_req (hm : s.mo ≠ 0) (hh : hit s.R k = true) : s.req k = ⟨s.mo, s.p, putR s.R k 1⟩ ∧ s.step k = .agg #[.bool true, .string ⟨#[]⟩, .bool false] := by
  unfold St.req St.step St.vs
  rw [if_neg hm, if_pos hh, if_neg hm, if_pos hh, hh]
  exact ⟨rfl, rfl⟩
theorem hit_ghosts (h : Ok s) (hh : hit s.R k = true) : ghL (putR s.R k 1) = ghL s.R := by
  have no : ∀ j, 2 ≤ j → j < 4 → k ∉ s.R j := fun j h2 h4 hx => by
    rcases hit_iff.1 hh with hi | hi
    · have := h.pre.dis 0 j (by omega) h4 k hi hx; omega
    · have := h.pre.dis 1 j (by omega) h4 k hi hx; omega
  unfold ghL
  rw [put_ne (by omega), put_ne (by omega), rem_none (no 2 (by omega) (by omega)), rem_none (no 3 (by omega) (by omega))]
theorem hit_counts (h : Ok s) (hh : hit s.R k = true) : (putR s.R k 1 0).length + (putR s.R k 1 1).length = (s.R 0).length + (s.R 1).length ∧ (putR s.R k 1 0).length ≤ (s.R 0).length := by
  rw [put_at, put_ne (by omega), List.length_cons]
  rcases hit_iff.1 hh with hi | hi
  · have h1 := rem_len (h.pre.nd 0 (by omega)) hi
    have h2 : k ∉ s.R 1 := fun hx => by have := h.pre.dis 0 1 (by omega) (by omega) k hi hx; omega
    rw [rem_none h2]; omega
  · have h1 := rem_len (h.pre.nd 1 (by omega)) hi
    have h2 : k ∉ s.R 0 := fun hx => by have := h.pre.dis 0 1 (by omega) (by omega) k hx hi; omega
    rw [rem_none h2]; omega
theorem put_hit (R : Rw4) (k : ByteArray) (j : Nat) (hj : j < 2) : hit (putR R k j) k = true := by
  rw [hit_iff]
  obtain rfl | rfl : j = 0 ∨ j = 1 := by omega
  · exact Or.inl (by rw [put_at]; exact List.mem_cons_self)
  · exact Or.inr (by rw [put_at]; exact List.mem_cons_self)
/-- What was asked for is resident. -/
theorem req_in (hm : s.mo ≠ 0) (k : ByteArray) : hit (s.req k).R k = true := by
  unfold St.req
  rw [if_neg hm]
  split
  · exact put_hit _ _ 1 (by omega)
  split
  · exact put_hit _ _ 1 (by omega)
  split
  · exact put_hit _ _ 1 (by omega)
  · exact put_hit _ _ 0 (by omega)
theorem hit_pos {R : Rw4} (h : hit R k = true) : 0 < lenR R := by
  rw [← keysL_len]
  exact List.length_pos_of_mem (keysL_mem.2 h)
end
theorem stI_pos (S : Nat → ByteArray) (mo : Nat) (hm : 1 ≤ mo) (n : Nat) (hn : 0 < n) : 0 < lenR (stI S mo n).R := by
  obtain ⟨j, rfl⟩ : ∃ j, n = j + 1 := ⟨n - 1, by omega⟩
  exact hit_pos (req_in (by rw [stI_mo]; omega) (S j))

/-- Four numbers in a variable of their own, beside a cache. -/
structure Four (w : World) (T : Nat → Prop) (zb : Nat) (a b c d : Nat) : Prop where
  box : w.heap[zb]? = some (.cells #[.int .i64 (a : Int), .int .i64 (b : Int), .int .i64 (c : Int), .int .i64 (d : Int)] 42 (0, 0))
  out : ¬ T zb
section
variable {w w' : World} {T T' : Nat → Prop} {zb a b c d : Nat}
theorem Four.lt (f : Four w T zb a b c d) : zb < w.heap.size := (Array.getElem?_eq_some_iff.1 f.box).1
theorem Four.made (w : World) (hl : ∀ k, T k → k < w.heap.size) (a b c d : Nat) : Four (w.alloc (.cells #[.int .i64 (a : Int), .int .i64 (b : Int), .int .i64 (c : Int), .int .i64 (d : Int)] 42)) T w.heap.size a b c d :=
  ⟨heap_alloc_new _ _, fun h => by have := hl _ h; omega⟩
theorem Four.went (f : Four w T zb a b c d) (hW : Went w w' T T') : Four w' T' zb a b c d := by
  have o := went_out hW f.lt f.out
  exact ⟨o.1.trans f.box, o.2⟩
theorem Four.below (f : Four w T zb a b c d) (hb : Below w.heap.size w w') : Four w' T zb a b c d := f.went (Went.below hb)
theorem Four.cells (f : Four w T zb a b c d) : w.cell? ⟨zb, 0, none⟩ = some (.int .i64 (a : Int)) ∧ w.cell? ⟨zb, 1, none⟩ = some (.int .i64 (b : Int)) ∧ w.cell? ⟨zb, 2, none⟩ = some (.int .i64 (c : Int)) ∧ w.cell? ⟨zb, 3, none⟩ = some (.int .i64 (d : Int)) :=
  ⟨cell_of_row w _ 0 _ _ _ f.box, cell_of_row w _ 1 _ _ _ f.box, cell_of_row w _ 2 _ _ _ f.box, cell_of_row w _ 3 _ _ _ f.box⟩
end
/-- A step in a variable of its own, beside a cache. -/
structure Bx (w : World) (T : Nat → Prop) (sb : Nat) (h : Bool) (v : ByteArray) (o : Bool) : Prop where
  box : Box w sb h v o
  out : ¬ T sb
section
variable {w w' : World} {T T' : Nat → Prop} {sb : Nat} {h o : Bool} {v : ByteArray}
theorem Bx.made (w : World) (hl : ∀ k, T k → k < w.heap.size) (h o : Bool) (v : ByteArray) : Bx (w.alloc (sObj h v o)) T w.heap.size h v o := ⟨heap_alloc_new _ _, fun hk => by have := hl _ hk; omega⟩
theorem Bx.went (f : Bx w T sb h v o) (hW : Went w w' T T') : Bx w' T' sb h v o := by
  have q := went_out hW f.box.lt f.out
  exact ⟨q.1.trans f.box, q.2⟩
theorem Bx.below (f : Bx w T sb h v o) (hb : Below w.heap.size w w') : Bx w' T sb h v o := f.went (Went.below hb)
end
end Go.Proofs.Ytlmbeiijijkjeaa
