/- The reference's other calls, held against the state. -/
import Derived.Test.YtmnflcidcoejiaaQo
namespace Go.Proofs.Ytmnflcidcoejiaa
open Go.RowKit Sg

theorem tdel_ne {f : Told} {k x : ByteArray} (h : x ≠ k) : tdel f k x = f x := if_neg h
theorem mapN_del {f : Told} {k : ByteArray} {L : List ByteArray} (h : k ∉ L) : L.map (tN (tdel f k)) = L.map (tN f) := List.map_congr_left fun x hx => by
  have hne : x ≠ k := fun e => h (e ▸ hx)
  unfold tN; rw [tdel_ne hne]
theorem mapG_del {f : Told} {k : ByteArray} {L : List ByteArray} (h : k ∉ L) : L.map (tG (tdel f k)) = L.map (tG f) := List.map_congr_left fun x hx => by
  have hne : x ≠ k := fun e => h (e ▸ hx)
  unfold tG; rw [tdel_ne hne]
theorem last_nil {L : List ByteArray} : anyKey L = !L.isEmpty := by cases L <;> rfl
theorem map_app_nil {s : St} : s.rN ++ s.rA = [] ↔ s.A ++ s.N = [] := by
  unfold St.rN St.rA
  rw [List.append_eq_nil_iff, List.append_eq_nil_iff, List.map_eq_nil_iff, List.map_eq_nil_iff]
  exact And.comm
section
variable (w : World) (P : Nat → Prop) (n a g : Sl) (s : St) (h : Rw w P n a g s.rN s.rA s.rG)
include h
theorem has_ref (key : ByteArray) : Calls Try.prog 15 #[rAgg s.mo s.t n a g, .string key] w (ValB (.bool (s.hit key)) w) := by
  rw [← hit_rows]
  exact has_r w P s.mo s.t n a g _ _ _ h key
theorem victim_ref (hp : Ok s) : Calls Try.prog 25 #[rAgg s.mo s.t n a g] w (ValB (.tuple #[.string (lastKey (s.A ++ s.N)), .bool (anyKey (s.A ++ s.N))]) w) := by
  have e1 : vicE s.rN s.rA = lastKey (s.A ++ s.N) := by
    have e0 : vicE s.rN s.rA = (vK s.rN s.rA).s := by unfold vicE vK; split <;> rfl
    by_cases hne : s.A ++ s.N = []
    · have := List.append_eq_nil_iff.1 hne
      unfold vicE St.rN St.rA
      rw [this.1, this.2]; rfl
    · rw [e0]; exact (vK_map hne hp.fA).1
  have e2 : anyE s.rN s.rA = anyKey (s.A ++ s.N) := by
    rw [last_nil]
    unfold anyE
    by_cases hne : s.A ++ s.N = []
    · rw [hne, map_app_nil.2 hne]; rfl
    · have h1 := List.isEmpty_eq_false_iff.2 hne
      have h2 := List.isEmpty_eq_false_iff.2 (fun e => hne (map_app_nil.1 e) : s.rN ++ s.rA ≠ [])
      rw [h1, h2]
  rw [← e1, ← e2]
  exact victim_r w P s.mo s.t n a g _ _ _ h
theorem keys_ref (htot : s.tot ≤ 1000) : Calls Try.prog 26 #[rAgg s.mo s.t n a g] w (RowPost (s.A ++ s.N).reverse w) := by
  unfold St.tot at htot
  have := keys_r w P s.mo s.t n a g _ _ _ h (by rw [rN_len, rA_len]; omega)
  unfold St.rN St.rA at this
  rw [nm_map (sN _), nm_map sA] at this
  rw [List.reverse_append]; exact this
theorem ghosts_ref (hp : Ok s) (htot : s.tot ≤ 1000) : Calls Try.prog 31 #[rAgg s.mo s.t n a g] w (RowPost s.G w) := by
  unfold St.tot at htot
  have hnd := hp.nd
  unfold St.all at hnd
  have e : s.rG.map KE.s = s.G := by unfold St.rG; exact s_map (sG _)
  have := ghosts_r w P s.mo s.t n a g _ _ _ h (by rw [rG_len]; omega) (by rw [e]; exact (List.nodup_append.1 hnd).2.1)
  rw [e] at this; exact this
variable (hP : Cl w P) (key : ByteArray) (hs : key.size ≤ maxLen) (hp : Ok s) (htot : s.tot ≤ 1000)
include hP hp
theorem drop_ref : Calls Try.prog 20 #[rAgg s.mo s.t n a g] w (CS w P (fun v => .tuple #[v, .string (lastKey (s.A ++ s.N)), .bool (anyKey (s.A ++ s.N))]) s.dr) := by
  have hnd := hp.nd
  unfold St.all at hnd
  by_cases hne : s.A ++ s.N = []
  · have h0 := List.append_eq_nil_iff.1 hne
    have e1 : anyKey (s.A ++ s.N) = false := by rw [hne]; rfl
    have e2 : lastKey (s.A ++ s.N) = ⟨#[]⟩ := by rw [hne]; rfl
    have e3 : s.dr.rN = s.rN := by unfold St.rN; show (s.N.dropLast).map _ = _; rw [h0.2]; rfl
    have e4 : s.dr.rA = s.rA := by unfold St.rA; show (dA s.N s.A).map _ = _; unfold dA; rw [h0.2, h0.1]; rfl
    have e5 : s.dr.rG = s.rG := by unfold St.rG St.dr; rw [e1]; rfl
    rw [e1, e2]
    exact (drop_none w P s.mo s.t n a g _ _ _ h hP (map_app_nil.2 hne)).mono fun e w' q => q.as rfl rfl rfl e3.symm e4.symm e5.symm
  · have e1 : anyKey (s.A ++ s.N) = true := by rw [last_nil, List.isEmpty_eq_false_iff.2 hne]; rfl
    have hf : s.dr.f = tdel s.f (lastKey (s.A ++ s.N)) := by unfold St.dr; rw [e1]; rfl
    have ha := one_app hne
    have nd2 : (dA s.N s.A ++ s.N.dropLast ++ [lastKey (s.A ++ s.N)] ++ s.G).Nodup := by rw [← ha]; exact hnd
    have n1 := List.nodup_append.1 nd2
    have n2 := List.nodup_append.1 n1.1
    have e3 : s.dr.rN = g1N s.rN := by
      unfold St.rN
      rw [g1N_map, hf]
      exact mapN_del fun hx => n2.2.2 _ (List.mem_append_right _ hx) _ (List.mem_singleton.2 rfl) rfl
    have e4 : s.dr.rA = g1A s.rN s.rA := by unfold St.rN St.rA; rw [g1A_map]; rfl
    have e5 : s.dr.rG = s.rG := by
      unfold St.rG
      rw [hf]
      exact mapG_del fun hx => n1.2.2 _ (List.mem_append_right _ (List.mem_singleton.2 rfl)) _ hx rfl
    rw [e1, ← (vK_map hne hp.fA).1]
    exact (drop_some w P s.mo s.t n a g _ _ _ h hP (fun e => hne (map_app_nil.1 e))).mono fun e w' q => q.as rfl rfl rfl e3.symm e4.symm e5.symm
omit hp
include htot
theorem remove_ref : Calls Try.prog 16 #[rAgg s.mo s.t n a g, .string key] w (CS w P id (s.rm key)) := by
  unfold St.tot at htot
  refine (remove_r w P s.mo s.t n a g _ _ _ h hP key (by rw [rN_len, rA_len]; omega) (by rw [rG_len]; omega)).mono fun e w' q => q.as rfl rfl rfl ?_ ?_ ?_
  · unfold St.rN; rw [wo_map (sN _)]; exact (mapN_del rem_not).symm
  · unfold St.rA; rw [wo_map sA]; rfl
  · unfold St.rG; rw [wo_map (sG _)]; exact (mapG_del rem_not).symm
include hs
theorem adopt_ref : Calls Try.prog 17 #[rAgg s.mo s.t n a g, .string key] w (CS w P (fun v => .tuple #[v, .bool (s.adB key)]) (s.ad key)) := by
  unfold St.tot at htot
  cases hb : s.adB key with
  | true =>
    have hb' := hb
    unfold St.adB at hb'
    rw [Bool.and_eq_true, Bool.not_eq_true', decide_eq_true_eq] at hb'
    have hh := hb'.1
    unfold St.hit at hh
    rw [Bool.or_eq_false_iff] at hh
    have e2 : s.ad key = ⟨s.mo, s.t, key :: s.N, s.A, rem s.G key, tdel s.f key⟩ := by unfold St.ad; rw [if_pos hb]
    rw [e2]
    refine (adopt_yes w P s.mo s.t n a g _ _ _ h hP key hs (by rw [rN_len, rA_len]; omega) (by rw [rG_len]; omega) (by rw [hit_rows]; exact hb'.1) (by rw [rN_len, rA_len]; exact hb'.2)).mono fun e w' q => q.as rfl rfl rfl ?_ rfl ?_
    · show _ = tN (tdel s.f key) key :: s.N.map (tN (tdel s.f key))
      rw [mapN_del (inn_no.1 hh.1)]
      unfold tN tdel
      rw [if_pos rfl]; rfl
    · unfold St.rG; rw [wo_map (sG _)]; exact (mapG_del rem_not).symm
  | false =>
    have e2 : s.ad key = s := by unfold St.ad; rw [if_neg (by rw [hb]; simp)]
    rw [e2]
    refine adopt_no w P s.mo s.t n a g _ _ _ h hP key (by rw [rN_len, rA_len]; omega) (s.hit key) hit_rows ?_
    unfold St.adB at hb
    rw [rN_len, rA_len]
    cases hh : s.hit key with
    | true => exact Or.inl rfl
    | false => rw [hh] at hb; simp at hb; exact Or.inr hb
end
theorem resize_ref (w : World) (P : Nat → Prop) (n a g : Sl) (s : St) (h : Rw w P n a g s.rN s.rA s.rG) (hP : Cl w P) (hp : Ok s) (htot : s.tot ≤ 1000) (z : Int) (hz : -9223372036854775808 ≤ z ∧ z ≤ 9223372036854775807) :
    Calls Try.prog 21 #[rAgg s.mo s.t n a g, .int .i64 z] w (fun e w' => ∃ (n' a' g' : Sl) (v : Value), e = .returned (.tuple #[rAgg (s.rs z.toNat).mo (s.rs z.toNat).t n' a' g', v]) ∧ Rw w' P n' a' g' (s.rs z.toNat).rN (s.rs z.toNat).rA (s.rs z.toNat).rG ∧ Own w' w.heap.size v ((s.A ++ s.N).reverse.take (s.A.length + s.N.length - z.toNat)) ∧ Below w.heap.size w w') := by
  unfold St.tot at htot
  have hn : z.toNat = z.toNat := rfl
  generalize hm : z.toNat = m at *
  refine (resize_r w P s.mo s.t n a g _ _ _ h hP z m (s.rs m).t hz hm.symm rfl (by rw [rN_len, rA_len, rG_len]; omega)).mono ?_
  rintro e w' ⟨n', a', g', v, he, hR, hO, hB⟩
  rw [rN_len, rA_len, Nat.add_comm s.N.length] at hR hO
  obtain ⟨i1, i2, i3, i4⟩ := evs_rows s.f m (s.A.length + s.N.length - (s.A.length + s.N.length - m)) (s.A.length + s.N.length - m) s.N s.A s.G (by omega) hp.fA
  have hg : gone (s.A.length + s.N.length - (s.A.length + s.N.length - m)) s.N s.A = gone m s.N s.A := by unfold gone; omega
  have nd : (s.size m).all.Nodup := hp.nd
  obtain ⟨c1, c2, c3⟩ := cut_rows (n := m) nd
  unfold cutN at i1
  unfold cutA at i2
  unfold cutQ at i3
  rw [hg] at i1 i2 i3
  refine ⟨n', a', g', v, he, ?_, ?_, hB⟩
  · have hR' := hR
    unfold St.rN St.rA St.rG at hR'
    rw [i1, i2, i3] at hR'
    show Rw w' P n' a' g' ((s.size m).cut m).rN ((s.size m).cut m).rA ((s.size m).cut m).rG
    rw [c1, c2, c3]
    exact hR'
  · unfold St.rN St.rA at hO
    rw [i4] at hO
    exact hO
end Go.Proofs.Ytmnflcidcoejiaa
