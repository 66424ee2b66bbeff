/- The reference's rows as maps of the state's lists. -/
import Derived.Test.YtmnflcidcoejiaaQm
namespace Go.Proofs.Ytmnflcidcoejiaa
open Go.RowKit Sg

def tN (f : Told) (x : ByteArray) : KE := ⟨x, f x, f x⟩
def tA (x : ByteArray) : KE := ⟨x, true, false⟩
def tG (f : Told) (x : ByteArray) : KE := ⟨x, f x, false⟩
def St.rN (s : St) : List KE := s.N.map (tN s.f)
def St.rA (s : St) : List KE := s.A.map tA
def St.rG (s : St) : List KE := s.G.map (tG s.f)
section
variable {L N A G : List ByteArray} {k : ByteArray} {gg : ByteArray → KE} {f f' : Told}
theorem isK_map (hg : ∀ x, (gg x).s = x) : isK (L.map gg) k = inn L k := by
  unfold isK inn
  rw [List.any_map]
  congr 1
  funext x
  simp [hg]
theorem wo_map (hg : ∀ x, (gg x).s = x) : wo (L.map gg) k = (rem L k).map gg := by
  unfold wo rem
  rw [List.filter_map]
  congr 1
  refine List.filter_congr fun x _ => ?_
  simp [hg]
theorem fk_map (hg : ∀ x, (gg x).s = x) (h : inn L k = true) : fk (L.map gg) k = gg k := by
  unfold fk
  rw [List.find?_map]
  cases hf : L.find? ((fun e : KE => decide (e.s = k)) ∘ gg) with
  | none =>
    have := List.find?_eq_none.1 hf k (inn_iff.1 h)
    simp [hg] at this
  | some x =>
    have := List.find?_some hf
    simp [hg] at this
    rw [this]; rfl
theorem nm_map (hg : ∀ x, (gg x).s = x) : nm (L.map gg) = L.reverse := by
  unfold nm
  rw [List.map_map, show KE.s ∘ gg = id from funext hg, List.map_id]
theorem s_map (hg : ∀ x, (gg x).s = x) : (L.map gg).map KE.s = L := by
  rw [List.map_map, show KE.s ∘ gg = id from funext hg, List.map_id]
theorem lastE_map (h : L ≠ []) : lastE (L.map gg) = gg (lastKey L) := by
  unfold lastE lastKey
  rw [List.getLastD_eq_getLast?, List.getLastD_eq_getLast?, List.getLast?_map, List.getLast?_eq_some_getLast h]; rfl
theorem sN (f : Told) : ∀ x, (tN f x).s = x := fun _ => rfl
theorem sA : ∀ x, (tA x).s = x := fun _ => rfl
theorem sG (f : Told) : ∀ x, (tG f x).s = x := fun _ => rfl
theorem map_nil_iff : L.map gg = [] ↔ L = [] := List.map_eq_nil_iff
/-- Who goes. -/
theorem vK_map (h : A ++ N ≠ []) (hf : ∀ x ∈ A, f x = true) : (vK (N.map (tN f)) (A.map tA)).s = lastKey (A ++ N) ∧ (vK (N.map (tN f)) (A.map tA)).o = f (lastKey (A ++ N)) := by
  unfold vK
  by_cases hN : N = []
  · subst hN
    rw [List.append_nil] at h ⊢
    rw [List.map_nil, if_pos rfl, lastE_map h]
    refine ⟨rfl, ?_⟩
    have : lastKey A ∈ A := by
      unfold lastKey
      rw [List.getLastD_eq_getLast?, List.getLast?_eq_some_getLast h]
      exact List.getLast_mem h
    rw [hf _ this]; rfl
  · rw [if_neg (fun e => hN (map_nil_iff.1 e)), lastE_map hN, (last_app (A := A) hN).1]
    exact ⟨rfl, rfl⟩
theorem g1N_map : g1N (L.map gg) = L.dropLast.map gg := by unfold g1N; rw [List.map_dropLast]
theorem g1A_map {hh : ByteArray → KE} : g1A (N.map gg) (A.map hh) = (dA N A).map hh := by
  unfold g1A dA
  by_cases hN : N = []
  · rw [if_pos (map_nil_iff.2 hN), if_pos hN, List.map_dropLast]
  · rw [if_neg (fun e => hN (map_nil_iff.1 e)), if_neg hN]
theorem evG_map (m : Nat) (h : A ++ N ≠ []) (hf : ∀ x ∈ A, f x = true) : evG m (N.map (tN f)) (A.map tA) (G.map (tG f)) = ((lastKey (A ++ N) :: G).take m).map (tG f) := by
  unfold evG
  rw [(vK_map h hf).1, (vK_map h hf).2, List.map_take]; rfl
theorem one_len (h : A ++ N ≠ []) : (dA N A).length + N.dropLast.length + 1 = A.length + N.length := by
  have := congrArg List.length (drop_app N A)
  rw [List.length_append, List.length_dropLast (xs := A ++ N), List.length_append] at this
  have h0 := List.length_pos_iff.2 h
  rw [List.length_append] at h0
  omega
theorem one_app (h : A ++ N ≠ []) : A ++ N = dA N A ++ N.dropLast ++ [lastKey (A ++ N)] := by
  rw [drop_app]
  unfold lastKey
  rw [List.getLastD_eq_getLast?, List.getLast?_eq_some_getLast h]
  exact (List.dropLast_concat_getLast h).symm
/-- One key less first: the same cut. -/
theorem cut_one {n : Nat} (h : A ++ N ≠ []) (hn : n + 1 ≤ A.length + N.length) : cutN n N.dropLast (dA N A) = cutN n N A ∧ cutA n N.dropLast (dA N A) = cutA n N A := by
  have hl := one_len h
  unfold cutN cutA gone
  by_cases hN : N = []
  · subst hN
    unfold dA at hl ⊢
    rw [if_pos rfl] at hl ⊢
    simp only [List.dropLast_nil, List.length_nil, Nat.add_zero, List.take_nil, List.length_dropLast, true_and] at hl hn ⊢
    rw [List.dropLast_eq_take, List.take_take]
    congr 1; omega
  · have h0 := List.length_pos_iff.2 hN
    unfold dA at hl ⊢
    rw [if_neg hN] at hl ⊢
    rw [List.length_dropLast] at hl ⊢
    refine ⟨?_, ?_⟩
    · rw [List.dropLast_eq_take, List.take_take]
      congr 1; omega
    · congr 1; omega
theorem cutQ_one {n : Nat} (h : A ++ N ≠ []) (hn : n + 1 ≤ A.length + N.length) : cutQ n N.dropLast (dA N A) (lastKey (A ++ N) :: G) = cutQ n N A G := by
  have hl := one_len h
  have ha := one_app h
  unfold cutQ gone
  rw [show A.length + N.length - (A.length + N.length - n) = n by omega, show (dA N A).length + N.dropLast.length - ((dA N A).length + N.dropLast.length - n) = n by omega]
  conv => rhs; rw [ha]
  rw [List.drop_append_of_le_length (l₁ := dA N A ++ N.dropLast) (by rw [List.length_append]; omega), List.append_assoc (List.drop n (dA N A ++ N.dropLast))]; rfl
end
/-- Evictions on the rows. -/
theorem evs_rows (f : Told) (m n : Nat) : ∀ (k : Nat) (N A G : List ByteArray), n + k = A.length + N.length → (∀ x ∈ A, f x = true) →
    (evs m k (N.map (tN f)) (A.map tA) (G.map (tG f))).1 = (cutN n N A).map (tN f) ∧ (evs m k (N.map (tN f)) (A.map tA) (G.map (tG f))).2.1 = (cutA n N A).map tA ∧
    ((evs m k (N.map (tN f)) (A.map tA) (G.map (tG f))).2.2.take m) = ((cutQ n N A G).take m).map (tG f) ∧ evo k (N.map (tN f)) (A.map tA) = (A ++ N).reverse.take k
  | 0, N, A, G, h, hf => by
    have h0 : gone n N A = 0 := by unfold gone; omega
    have hQ : cutQ n N A G = G := by
      unfold cutQ
      rw [h0, Nat.sub_zero, List.drop_of_length_le (by rw [List.length_append]; omega)]; rfl
    unfold cutN cutA
    rw [hQ, h0, Nat.sub_zero, Nat.sub_zero, List.take_length, List.take_of_length_le (by omega), List.map_take]
    exact ⟨rfl, rfl, rfl, rfl⟩
  | k + 1, N, A, G, h, hf => by
    have hne : A ++ N ≠ [] := fun e => by have := congrArg List.length e; rw [List.length_append] at this; simp only [List.length_nil] at this; omega
    have hl := one_len hne
    have ih := evs_rows f m n k N.dropLast (dA N A) ((lastKey (A ++ N) :: G).take m) (by omega) fun x hx => hf x ((dA_sub N A).subset hx)
    obtain ⟨i1, i2, i3, i4⟩ := ih
    have e1 : evs m (k + 1) (N.map (tN f)) (A.map tA) (G.map (tG f)) = evs m k (N.dropLast.map (tN f)) ((dA N A).map tA) (((lastKey (A ++ N) :: G).take m).map (tG f)) := by
      show evs m k _ _ _ = _
      rw [g1N_map, g1A_map, evG_map m hne hf]
    have e2 : evo (k + 1) (N.map (tN f)) (A.map tA) = lastKey (A ++ N) :: evo k (N.dropLast.map (tN f)) ((dA N A).map tA) := by
      show (vK _ _).s :: evo k _ _ = _
      rw [g1N_map, g1A_map, (vK_map hne hf).1]
    rw [e1, e2]
    refine ⟨i1.trans (congrArg _ (cut_one hne (by omega)).1), i2.trans (congrArg _ (cut_one hne (by omega)).2), i3.trans (congrArg _ ?_), ?_⟩
    · rw [← cutQ_one (G := G) hne (by omega)]
      unfold cutQ
      rw [List.take_append, List.take_append]
      congr 1
      rw [List.take_take]
      congr 1; omega
    · rw [i4]
      conv => rhs; rw [one_app hne]
      rw [show (dA N A ++ N.dropLast ++ [lastKey (A ++ N)]).reverse = lastKey (A ++ N) :: (dA N A ++ N.dropLast).reverse by simp]; rfl
/-- What a cut forgets is in no row that it leaves. -/
theorem tcut_keep {s : St} {n : Nat} (hnd : s.all.Nodup) {x : ByteArray} (hx : x ∈ (s.cut n).all) : (s.cut n).f x = s.f x := by
  have hw := cut_whole n s.N s.A s.G
  unfold St.all at hnd
  rw [← hw, ← List.take_append_drop s.mo (cutQ n s.N s.A s.G), ← List.append_assoc] at hnd
  have h1 : inn ((cutQ n s.N s.A s.G).drop s.mo) x = false := by
    rw [inn_no]
    intro h2
    exact (List.nodup_append.1 hnd).2.2 x hx x h2 rfl
  show (s.f x && !inn ((cutQ n s.N s.A s.G).drop s.mo) x) = s.f x
  rw [h1]; simp
theorem cut_rows {s : St} {n : Nat} (hnd : s.all.Nodup) : (s.cut n).rN = (cutN n s.N s.A).map (tN s.f) ∧ (s.cut n).rA = (cutA n s.N s.A).map tA ∧ (s.cut n).rG = ((cutQ n s.N s.A s.G).take s.mo).map (tG s.f) := by
  refine ⟨List.map_congr_left fun x hx => ?_, rfl, List.map_congr_left fun x hx => ?_⟩
  · have := tcut_keep (n := n) hnd (x := x) (List.mem_append_left _ (List.mem_append_right _ hx))
    unfold tN; rw [this]
  · have := tcut_keep (n := n) hnd (x := x) (List.mem_append_right _ hx)
    unfold tG; rw [this]
end Go.Proofs.Ytmnflcidcoejiaa
