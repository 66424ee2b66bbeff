/- A policy asked for keys out of a slice that came in; and a policy beside two more (pairs of one state). -/
import Derived.Test.YtgjdjgnfpendgaaGreatDoorPc
namespace Go.Proofs.YtgjdjgnfpendgaaGreatDoor
open Go.RowKit Sg

/-- What a policy has behind the first i keys of what came in. -/
def pst (S : Nat → ByteArray) (kind mo : Nat) : Nat → KSt
  | 0 => KSt.start kind mo
  | i + 1 => (pst S kind mo i).req (S i)
theorem pst_kind (S : Nat → ByteArray) {kind : Nat} (hk : kind < 5) (mo : Nat) : ∀ i, (pst S kind mo i).kind = kind
  | 0 => (KSt.start_kind hk mo).1
  | i + 1 => (KSt.kind_req _ _).trans (pst_kind S hk mo i)
theorem pst_mo (S : Nat → ByteArray) {kind : Nat} (hk : kind < 5) (mo : Nat) : ∀ i, (pst S kind mo i).mo = mo
  | 0 => (KSt.start_kind hk mo).2.1
  | i + 1 => (KSt.mo_req _ _).trans (pst_mo S hk mo i)
/-- A policy asked for the first k of the keys that came in. -/
def PFill (S : Nat → ByteArray) (n p kind mo : Nat) (w0 : World) (i : Value) (W : World) : Prop :=
  ∃ (k : Nat) (U : Nat → Prop), i = .int .i64 (k : Int) ∧ k ≤ n ∧ PLive w0 W p U (pst S kind mo k) k ∧ ∀ x ∈ (pst S kind mo k).keys, ∃ j, j < k ∧ x = S j
theorem PFill.next {S : Nat → ByteArray} {n p kind mo k : Nat} {U : Nat → Prop} {w0 w w' : World} {r : Value} {e : Ending} (hk : k < n) (hL : PLive w0 w p U (pst S kind mo k) k) (ho : ∀ x ∈ (pst S kind mo k).keys, ∃ j, j < k ∧ x = S j)
    (hp : PPost r w p U ((pst S kind mo k).req (S k)) (k + 1) e w') : e = .returned r ∧ PFill S n p kind mo w0 (.int .i64 ((k + 1 : Nat) : Int)) w' := by
  obtain ⟨he, U', h1, _⟩ := hL.op hp
  refine ⟨he, k + 1, U', rfl, by omega, h1, fun x hx => ?_⟩
  rcases KSt.req_old hL.ca.ok (S k) x hx with h | h
  · obtain ⟨j, hj, e⟩ := ho x h
    exact ⟨j, by omega, e⟩
  · exact ⟨k, by omega, h⟩
/-- PolicyAdopts' row of calls: each third key is taken off. -/
def pstA (S : Nat → ByteArray) (kind mo : Nat) : Nat → KSt
  | 0 => KSt.start kind mo
  | i + 1 => if i % 3 = 2 then (pstA S kind mo i).rm (S i) else (pstA S kind mo i).req (S i)
theorem pstA_kind (S : Nat → ByteArray) {kind : Nat} (hk : kind < 5) (mo : Nat) : ∀ i, (pstA S kind mo i).kind = kind
  | 0 => (KSt.start_kind hk mo).1
  | i + 1 => by
    have := pstA_kind S hk mo i
    unfold pstA
    split
    · exact (KSt.kind_rm _ _).trans this
    · exact (KSt.kind_req _ _).trans this
theorem pstA_mo (S : Nat → ByteArray) {kind : Nat} (hk : kind < 5) (mo : Nat) : ∀ i, (pstA S kind mo i).mo = mo
  | 0 => (KSt.start_kind hk mo).2.1
  | i + 1 => by
    have := pstA_mo S hk mo i
    unfold pstA
    split
    · exact (KSt.mo_rm _ _).trans this
    · exact (KSt.mo_req _ _).trans this
def AFill (S : Nat → ByteArray) (n p kind mo : Nat) (w0 : World) (i : Value) (W : World) : Prop := ∃ (k : Nat) (U : Nat → Prop), i = .int .i64 (k : Int) ∧ k ≤ n ∧ PLive w0 W p U (pstA S kind mo k) k
theorem AFill.next {S : Nat → ByteArray} {n p kind mo k : Nat} {U : Nat → Prop} {w0 w w' : World} {r : Value} {e : Ending} {st' : KSt} {b : Nat} (hk : k < n) (hL : PLive w0 w p U (pstA S kind mo k) k) (hs : st' = pstA S kind mo (k + 1)) (hb : b ≤ k + 1)
    (hp : PPost r w p U st' b e w') : e = .returned r ∧ AFill S n p kind mo w0 (.int .i64 ((k + 1 : Nat) : Int)) w' := by
  obtain ⟨he, U', h1, _⟩ := hL.op hp
  subst hs
  exact ⟨he, k + 1, U', rfl, by omega, ⟨h1.ca.mono hb, h1.bel, h1.low⟩⟩
/-- PolicyDrops: behind i drops. -/
def pstD (s : KSt) : Nat → KSt
  | 0 => s
  | i + 1 => (pstD s i).dr
/-- What holds behind i drops: so many fewer, all of them there ahead of it; the ghosts are as they were. -/
structure Drp (s t : KSt) (i : Nat) : Prop where
  len : t.keys.length + i = s.keys.length
  old : ∀ x ∈ t.keys, x ∈ s.keys
  gho : t.ghosts = s.ghosts
  mo : t.mo = s.mo
  kind : t.kind = s.kind
theorem Drp.refl (s : KSt) : Drp s s 0 := ⟨rfl, fun _ h => h, rfl, rfl, rfl⟩
theorem Drp.next {s t : KSt} {i : Nat} (d : Drp s t i) (h : t.Ok) (hi : i < s.keys.length) : Drp s t.dr (i + 1) ∧ t.any = true ∧ t.vic ∈ s.keys ∧ t.vic ∉ t.dr.keys := by
  have f := KSt.dr_f h
  have hl := d.len
  have hn : t.keys ≠ [] := fun e => by rw [e, List.length_nil] at hl; omega
  have ha : t.any = true := by rw [f.okE, List.isEmpty_eq_false_iff.2 hn]; rfl
  have h0 := f.len
  rw [ha, if_pos rfl] at h0
  exact ⟨⟨by omega, fun x hx => d.old x ((f.mem x).1 hx).1, f.gho.trans d.gho, (KSt.mo_dr t).trans d.mo, (KSt.kind_dr t).trans d.kind⟩, ha, d.old _ (f.vic ha), fun hx => ((f.mem _).1 hx).2 ha rfl⟩
theorem Drp.last {s t : KSt} (d : Drp s t s.keys.length) (h : t.Ok) (h2 : t.dr.Ok) : t.any = false ∧ t.dr.any = false ∧ t.dr.ghosts = s.ghosts := by
  have f := KSt.dr_f h
  have f2 := KSt.dr_f h2
  have hl := d.len
  have hk : t.keys = [] := List.eq_nil_of_length_eq_zero (by omega)
  have ha : t.any = false := by rw [f.okE, hk]; rfl
  have h0 := f.len
  rw [ha, hk] at h0
  have hk2 : t.dr.keys = [] := List.eq_nil_of_length_eq_zero (by simpa using h0)
  exact ⟨ha, by rw [f2.okE, hk2]; rfl, f.gho.trans d.gho⟩
end Go.Proofs.YtgjdjgnfpendgaaGreatDoor
