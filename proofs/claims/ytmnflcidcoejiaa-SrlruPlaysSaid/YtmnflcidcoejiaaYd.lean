/- The contracts of a cache's Keys, Victim, Drop, Remove, Adopt, New, raiseTarget, lowerTarget. -/
import Derived.Test.YtmnflcidcoejiaaYc
import Derived.Deep.RegionHeld3
namespace Go.Proofs.Ytmnflcidcoejiaa
open Go.RowKit Sg

theorem step_append_run {P : Program} {ops : Array Oper} {o : Oper} {a : Act} {w : World} {K : Act → World → Prop} {Q : Exit → Act → World → Prop} {E : Prop} (hgd : o.guard = none) (s x : Operand) (t : TypeId)
    (ho : o.op = .call { callee := .builtin .append, args := #[s, x], argTypes := #[t, t] }) (v u v' : Value) (w' : World) (hs : a.eval s = v) (hx : a.eval x = u) (hr : (Builtin.append_ #[t, t] o.type #[v, u]).run P w = .ok v' w')
    (h : K (a.put o.dst v') w') : if Region.wanted o (yielded ops a.tmps) = true then Oper.wp P o a w K Q else E := by
  have hw : Region.wanted o (yielded ops a.tmps) = true := by simp [Region.wanted, hgd]
  rw [if_pos hw]
  unfold Oper.wp execOp
  simp only [ho, resolve, invoke, builtin, Sem.run_bind, Sem.run_pure, Result.andThen_ok, List.map_toArray, List.map_cons, List.map_nil, hs, hx, hr]
  exact h
theorem Own.below {w w' : World} {base : Nat} {v : Value} {xs : List ByteArray} (h : Own w base v xs) (hb : Below w.heap.size w w') : Own w' base v xs := h.same fun g hg => hb.block g (h.lt hg).1

/-- Who goes, and what is left. -/
def dA (N A : List ByteArray) : List ByteArray := if N = [] then A.dropLast else A
theorem last_app {N A : List ByteArray} (h : N ≠ []) : lastKey (A ++ N) = lastKey N ∧ anyKey (A ++ N) = true ∧ anyKey N = true := by
  cases N with
  | nil => exact absurd rfl h
  | cons x N =>
    refine ⟨?_, by cases A <;> rfl, rfl⟩
    unfold lastKey
    rw [List.getLastD_eq_getLast?, List.getLastD_eq_getLast?, List.getLast?_append, List.getLast?_eq_some_getLast (l := x :: N) (by simp)]
    rfl
theorem drop_app (N A : List ByteArray) : dA N A ++ N.dropLast = (A ++ N).dropLast := by
  unfold dA
  cases N with
  | nil => simp
  | cons x N => rw [if_neg (by simp), List.dropLast_append_of_ne_nil (by simp)]

section
variable (w : World) (i : Ix) (S : Sx) (mo t : Nat) (N A G : List ByteArray) (f : Told) (b : Nat) (r : Raw w i S mo t N A G f b)
include r
set_option maxHeartbeats 2000000 in
theorem keysY : Calls Try.prog 27 #[.pointer (some ⟨i.c, 0, none⟩)] w (RowPost (A ++ N).reverse w) := by
  obtain ⟨_, _, c2, c3, _⟩ := r.cells
  have U := Lib.hid (show Calls Try.prog 58 #[.pointer (some ⟨i.a, 0, none⟩)] w.drew (RowPost A w) from (ls_keys w.drew i.a S.a A b (r.below (below_drewN w 1)).a).mono fun _ _ ⟨v, h1, h2, h3⟩ => ⟨v, h1, h2, ⟨h3.os, h3.tape, h3.output, h3.size, h3.block⟩⟩)
  have V := Lib.hid (fun (w1 : World) (h : Below w.heap.size w w1) => ls_keys w1 i.n S.n N b (r.below h).n)
  have C := Lib.hid (show ∀ w1, Below w.heap.size w w1 → w1.cell? ⟨i.c, 2, none⟩ = some (.pointer (some ⟨i.n, 0, none⟩)) ∧ w1.cell? ⟨i.c, 3, none⟩ = some (.pointer (some ⟨i.a, 0, none⟩)) from fun w1 h => ⟨(r.below h).cells.2.2.1, (r.below h).cells.2.2.2.1⟩)
  have h1 := r.n.len
  have h2 := r.a.len
  obtain ⟨ic, n, a, g, O⟩ := i
  simp only at c2 c3 U V C ⊢
  clear r
  go_enter Try.func27, Try.ntmps27
  go_wp2_with fail
  go_region_held3 (fun w' => w'.cell? ⟨ic, 2, none⟩ = some (.pointer (some ⟨n, 0, none⟩)) ∧ w'.cell? ⟨ic, 3, none⟩ = some (.pointer (some ⟨a, 0, none⟩))) (first | (exact ⟨‹_›, ‹_›⟩) | go_keep)
    (first
      | (go_at_call 58; refine U.out.mono ?_; rintro e w1 ⟨v1, rfl, hO1, hB1⟩; obtain ⟨z2, z3⟩ := C.out w1 hB1; have O1 := Lib.hid hO1; have B1 := Lib.hid hB1; clear hO1 hB1 U)
      | (go_at_call 58; refine (V.out w1 B1.out).mono ?_; rintro e w2 ⟨v2, rfl, hO2, hB2⟩; obtain ⟨z4, z5⟩ := C.out w2 (B1.out.trans (hB2.mono B1.out.size)); obtain ⟨v3, w3, hrun, hO3, hg3⟩ := app_all (O1.out.below hB2) hO2 (by omega) (Nat.le_trans B1.out.size hB2.size); have RUN := Lib.hid hrun; have O3 := Lib.hid hO3; have B3 := Lib.hid (show Below w.heap.size w w3 from (B1.out.trans (hB2.mono B1.out.size)).grown hg3 (Nat.le_trans B1.out.size hB2.size) (fun k hk => ((O1.out.below hB2).1.lt k hk).1)); obtain ⟨z6, z7⟩ := C.out w3 B3.out; clear hO2 hB2 hrun hO3 hg3 V O1 B1)
      | (refine step_append_run rfl _ _ _ rfl _ _ _ _ rfl rfl RUN.out ?_))
  go_wp2_with fail
  refine (reverse_any w3 w.heap.size v3 _ O3.out B3.out.size).mono ?_
  rintro e w4 ⟨rfl, hO, hB⟩
  have O4 := Lib.hid hO
  have B4 := Lib.hid hB
  clear hO hB
  go_wp2_with fail
  go_ret
  exact ⟨v3, rfl, O4.out, B3.out.trans B4.out⟩
theorem victimY : Calls Try.prog 24 #[.pointer (some ⟨i.c, 0, none⟩)] w (KeyPost (lastKey (A ++ N)) (anyKey (A ++ N)) w) := by
  have U := Lib.hid (leavingY w i S mo t N A G f b r)
  have V := Lib.hid (show Calls Try.prog 56 #[.pointer (some ⟨if N = [] then i.a else i.n, 0, none⟩)] w (KeyPost (lastKey (A ++ N)) (anyKey (A ++ N)) w) by
    by_cases h : N = []
    · subst h
      rw [if_pos rfl, List.append_nil]; exact ls_last w i.a S.a A b r.a
    · rw [if_neg h, (last_app h).1, (last_app h).2.1]
      have := ls_last w i.n S.n N b r.n
      rw [(last_app (A := A) h).2.2] at this
      exact this)
  generalize lastKey (A ++ N) = x at *
  generalize anyKey (A ++ N) = q at *
  generalize (if N = [] then i.a else i.n) = l at *
  clear r
  go_enter Try.func24, Try.ntmps24
  go_wp2_with fail
  refine U.out.mono ?_
  rintro e w1 ⟨rfl, rfl⟩
  go_wp2_with fail
  refine V.out.mono ?_
  rintro e w1 ⟨rfl, rfl⟩
  go_wp2_with fail
  go_ret2
  exact ⟨rfl, rfl⟩
/-- Pop at the list whose last key is the victim. -/
theorem popY : Calls Try.prog 52 #[.pointer (some ⟨if N = [] then i.a else i.n, 0, none⟩)] w (RPost (.tuple #[.string (lastKey (A ++ N)), .bool (anyKey (A ++ N))]) w i S mo t N.dropLast (dA N A) G f b) := by
  by_cases h : N = []
  · subst h
    unfold dA
    rw [if_pos rfl, if_pos rfl, List.append_nil]
    exact (ls_pop w i.a S.a A b r.a).mono fun e w' hp => r.onA hp (Nat.le_refl _)
  · unfold dA
    rw [if_neg h, if_neg h, (last_app h).1, (last_app h).2.1]
    have := ls_pop w i.n S.n N b r.n
    rw [(last_app (A := A) h).2.2] at this
    exact this.mono fun e w' hp => r.onN hp (Nat.le_refl _)
theorem last_small (h : A ++ N ≠ []) : (lastKey (A ++ N)).size ≤ maxLen := by
  have : lastKey (A ++ N) ∈ A ++ N := by
    unfold lastKey
    rw [List.getLastD_eq_getLast?, List.getLast?_eq_some_getLast h]
    exact List.getLast_mem h
  rcases List.mem_append.1 this with h | h
  · exact r.a.small _ h
  · exact r.n.small _ h
theorem dropY : Calls Try.prog 19 #[.pointer (some ⟨i.c, 0, none⟩)] w (RPost (.tuple #[.string (lastKey (A ++ N)), .bool (anyKey (A ++ N))]) w i S mo t N.dropLast (dA N A) G (if anyKey (A ++ N) = true then tdel f (lastKey (A ++ N)) else f) b) := by
  have U := Lib.hid (leavingY w i S mo t N A G f b r)
  have V := popY w i S mo t N A G f b r
  by_cases h : A ++ N = []
  · have e1 : anyKey (A ++ N) = false := by rw [h]; rfl
    rw [e1] at V ⊢
    rw [if_neg (by simp)]
    have V := Lib.hid V
    generalize lastKey (A ++ N) = x at *
    generalize (if N = [] then i.a else i.n) = l at *
    clear r e1 h
    go_enter Try.func19, Try.ntmps19
    go_wp2_with fail
    refine U.out.mono ?_
    rintro e w1 ⟨rfl, rfl⟩
    go_wp2_with fail
    refine V.out.mono ?_
    rintro e w1 ⟨rfl, hp⟩
    have P := Lib.hid hp
    clear hp
    go_wp2_with fail
    go_ret2
    exact ⟨rfl, P.out⟩
  · have e1 : anyKey (A ++ N) = true := by cases hq : A ++ N <;> simp_all [anyKey]
    have hx := last_small w i S mo t N A G f b r h
    rw [e1] at V ⊢
    rw [if_pos rfl]
    have V := Lib.hid V
    generalize lastKey (A ++ N) = x at *
    generalize (if N = [] then i.a else i.n) = l at *
    clear r e1 h
    go_enter Try.func19, Try.ntmps19
    go_wp2_with fail
    refine U.out.mono ?_
    rintro e w1 ⟨rfl, rfl⟩
    go_wp2_with fail
    refine V.out.mono ?_
    rintro e w1 ⟨rfl, S1, r1, hW⟩
    obtain ⟨_, _, _, _, _, c5⟩ := r1.cells
    obtain ⟨w2, hdel, hO, hg⟩ := r1.o.drop hx 0
    have hdel' : ∀ ty, (Builtin.delete_ #[64, 9] ty #[.map (some i.O), .string x]).run Try.prog w1 = .ok (.tuple #[]) w2 := fun _ => hdel
    have P := Lib.hid (show RPost (.tuple #[.string x, .bool true]) w i S mo t N.dropLast (dA N A) G (tdel f x) b (.returned (.tuple #[.string x, .bool true])) w2 from ⟨rfl, S1, (r1.onO hO hg (Nat.le_refl _)).1, hW.trans (r1.onO hO hg (Nat.le_refl _)).2⟩)
    clear r1 hW hdel hO hg U V
    go_wp2_with fail
    go_ret2
    exact P.out
/-- Remove, where no key is both in N and in A. -/
theorem removeY (key : ByteArray) (hs : key.size ≤ maxLen) (hd : inn N key = true → inn A key = false) :
    Calls Try.prog 14 #[.pointer (some ⟨i.c, 0, none⟩), .string key] w (RPost (.bool (inn N key || inn A key)) w i S mo t (rem N key) (rem A key) (rem G key) (tdel f key) b) := by
  obtain ⟨_, _, _, _, c4, _⟩ := r.cells
  have U := Lib.hid (ls_remove w i.g S.g G b r.g key hs)
  have HH := Lib.hid r
  clear r
  cases hi : inn N key with
  | true =>
    have ha := Lib.hid (hd hi)
    have HI := Lib.hid hi
    clear hi hd
    rw [Bool.true_or]
    go_enter Try.func14, Try.ntmps14
    go_wp2_with fail
    refine U.out.mono ?_
    intro e w1 hp
    obtain ⟨rfl, S1, r1, hW1⟩ := HH.out.onG hp (Nat.le_refl _)
    obtain ⟨_, _, c2, _, _, c5⟩ := r1.cells
    obtain ⟨w2, hdel, hO, hg⟩ := r1.o.drop hs 0
    have hdel' : ∀ ty, (Builtin.delete_ #[64, 9] ty #[.map (some i.O), .string key]).run Try.prog w1 = .ok (.tuple #[]) w2 := fun _ => hdel
    obtain ⟨r2, hW2⟩ := r1.onO hO hg (Nat.le_refl _)
    obtain ⟨_, _, d2, _⟩ := r2.cells
    have V := ls_remove w2 i.n S1.n N b r2.n key hs
    rw [HI.out] at V
    have V := Lib.hid V
    have R2 := Lib.hid r2
    have W2 := Lib.hid (hW1.trans hW2)
    clear hp r1 hW1 hdel hO hg r2 hW2 U c4
    go_wp2_with fail
    refine V.out.mono ?_
    intro e w3 hp
    obtain ⟨rfl, S3, r3, hW3⟩ := R2.out.onN hp (Nat.le_refl _)
    have R3 := Lib.hid r3
    have W3 := Lib.hid (W2.out.trans hW3)
    clear hp r3 hW3 V
    go_wp2_with fail
    go_ret
    refine ⟨rfl, S3, ?_, W3.out⟩
    rw [rem_none (inn_no.1 ha.out)]
    exact R3.out
  | false =>
    have HI := Lib.hid hi
    clear hi hd
    rw [Bool.false_or]
    go_enter Try.func14, Try.ntmps14
    go_wp2_with fail
    refine U.out.mono ?_
    intro e w1 hp
    obtain ⟨rfl, S1, r1, hW1⟩ := HH.out.onG hp (Nat.le_refl _)
    obtain ⟨_, _, c2, _, _, c5⟩ := r1.cells
    obtain ⟨w2, hdel, hO, hg⟩ := r1.o.drop hs 0
    have hdel' : ∀ ty, (Builtin.delete_ #[64, 9] ty #[.map (some i.O), .string key]).run Try.prog w1 = .ok (.tuple #[]) w2 := fun _ => hdel
    obtain ⟨r2, hW2⟩ := r1.onO hO hg (Nat.le_refl _)
    obtain ⟨_, _, d2, _⟩ := r2.cells
    have V := ls_remove w2 i.n S1.n N b r2.n key hs
    rw [HI.out] at V
    have V := Lib.hid V
    have R2 := Lib.hid r2
    have W2 := Lib.hid (hW1.trans hW2)
    clear hp r1 hW1 hdel hO hg r2 hW2 U c4
    go_wp2_with fail
    refine V.out.mono ?_
    intro e w3 hp
    obtain ⟨rfl, S3, r3, hW3⟩ := R2.out.onN hp (Nat.le_refl _)
    obtain ⟨_, _, _, c3, _⟩ := r3.cells
    have Z := Lib.hid (ls_remove w3 i.a S3.a A b r3.a key hs)
    have R3 := Lib.hid r3
    have W3 := Lib.hid (W2.out.trans hW3)
    clear hp r3 hW3 V
    go_wp2_with fail
    refine Z.out.mono ?_
    intro e w4 hp
    obtain ⟨rfl, S4, r4, hW4⟩ := R3.out.onA hp (Nat.le_refl _)
    have R4 := Lib.hid r4
    have W4 := Lib.hid (W3.out.trans hW4)
    clear hp r4 hW4 Z
    go_wp2_with fail
    go_ret
    exact ⟨rfl, S4, R4.out, W4.out⟩
theorem raiseY (h : t < mo) : Calls Try.prog 47 #[.pointer (some ⟨i.c, 0, none⟩)] w (RPost (.tuple #[]) w i S mo (t + 1) N A G f b) := by
  obtain ⟨c0, c1, _⟩ := r.cells
  obtain ⟨_, f1⟩ := r.froz
  have ht := r.top
  have e0 : decide (t < mo) = true := by simpa using h
  have R := Lib.hid (fun m => (r.drewN m).setT (t + 1) (by omega))
  clear r
  go_enter Try.func47, Try.ntmps47
  go_wp2_with fail
  go_quiet (fail)
  go_wp2_with fail
  go_end0
  exact ⟨rfl, S, (R.out _).1, (Went.below (below_drewN w _)).trans (Went.same (R.out _).2)⟩
theorem raiseY_no (h : ¬ t < mo) : Calls Try.prog 47 #[.pointer (some ⟨i.c, 0, none⟩)] w (RPost (.tuple #[]) w i S mo t N A G f b) := by
  obtain ⟨c0, c1, _⟩ := r.cells
  have e0 : decide (t < mo) = false := by simpa using h
  have R := Lib.hid (fun m => (r.drewN m))
  clear r
  go_enter Try.func47, Try.ntmps47
  go_wp2_with fail
  go_quiet (fail)
  go_wp2_with fail
  go_end0
  exact ⟨rfl, S, R.out _, Went.below (below_drewN w _)⟩
theorem lowerY (h : 1 < t) : Calls Try.prog 50 #[.pointer (some ⟨i.c, 0, none⟩)] w (RPost (.tuple #[]) w i S mo (t - 1) N A G f b) := by
  obtain ⟨c0, c1, _⟩ := r.cells
  obtain ⟨_, f1⟩ := r.froz
  have ht := r.top
  have R := r.setT (t - 1) (by omega)
  obtain ⟨u, rfl⟩ : ∃ u, t = u + 1 := ⟨t - 1, by omega⟩
  have e0 : decide (1 < ((u + 1 : Nat) : Int)) = true := by simp; omega
  rw [show u + 1 - 1 = u by omega] at R ⊢
  have R := Lib.hid R
  clear r
  go_enter Try.func50, Try.ntmps50
  go_wp2_with fail
  go_end0
  exact ⟨rfl, S, R.out.1, Went.same R.out.2⟩
theorem lowerY_no (h : ¬ 1 < t) : Calls Try.prog 50 #[.pointer (some ⟨i.c, 0, none⟩)] w (RPost (.tuple #[]) w i S mo t N A G f b) := by
  obtain ⟨c0, c1, _⟩ := r.cells
  have e0 : decide (1 < (t : Int)) = false := by simp; omega
  have R := Lib.hid r
  clear r
  go_enter Try.func50, Try.ntmps50
  go_wp2_with fail
  go_end0
  exact ⟨rfl, S, R.out, Went.refl _ _⟩
end
end Go.Proofs.Ytmnflcidcoejiaa
