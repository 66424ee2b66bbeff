/- A learner as plain lists: its state, its calls, and what holds of them. No program is spoken of. -/
import Derived.Test.YtnlckkahkghneaaGreatDoorKo
import Derived.Test.YtnlckkahkghneaaGreatDoorGFn
namespace Go.Proofs.YtnlckkahkghneaaGreatDoor.LE
open Sg

structure St where
  six : Bool
  mo : Nat
  clock : Nat
  A : KSt
  B : KSt
  HA : List (ByteArray × Nat)
  HB : List (ByteArray × Nat)
  w : Nat
  rate : Nat
  asked : Nat
  hits : Nat
  last : Nat
  still : Nat
  ends : Nat
  down : Bool
  vs : List Nat

def gk (H : List (ByteArray × Nat)) : List ByteArray := H.map Prod.fst
def wo (H : List (ByteArray × Nat)) (k : ByteArray) : List (ByteArray × Nat) := H.filter fun p => decide (p.1 ≠ k)
/-- When a ghost went, where it is one. -/
def look (H : List (ByteArray × Nat)) (k : ByteArray) : Option Nat := (H.find? fun p => decide (p.1 = k)).map Prod.snd
def least : Nat := Fx.quo 1 100
def slow : Nat := Fx.quo 1 1000
def one : Nat := 4611686018427387904
def half : Nat := 2305843009213693952
theorem least_val : least = 46116860184273879 := by decide
theorem slow_val : slow = 4611686018427387 := by decide
theorem start_val : Fx.quo 45 100 = 2075258708292324556 := by decide
namespace St
def fallOf (s : St) (t : Nat) : Nat := Fx.fall (Fx.mul s.rate (Fx.pw (Fx.quo s.mo (s.mo + 1)) (s.clock - t) 4611686018427387904))
def wA (s : St) (t : Nat) : Nat := Fx.share (Fx.mul s.w (s.fallOf t)) (one - s.w) least
def wB (s : St) (t : Nat) : Nat := Fx.share s.w (Fx.mul (one - s.w) (s.fallOf t)) least
/-- The weight behind a regret. -/
def wR (s : St) (k : ByteArray) : Nat :=
  match look s.HA k with
  | some t => s.wA t
  | none => match look s.HB k with
    | some t => s.wB t
    | none => s.w
def regret (s : St) (k : ByteArray) : St := { s with w := s.wR k, HA := wo s.HA k, HB := wo s.HB k }
def pick (s : St) : Bool := decide (s.vs.headD 0 / 4 < s.w)
def evV (s : St) : ByteArray := if s.pick = true then s.A.vic else s.B.vic
/-- The one that a draw picks goes, and is a ghost. -/
def evict (s : St) : St :=
  if s.pick = true then { s with vs := s.vs.tail, HA := ((s.A.vic, s.clock) :: s.HA).take s.mo, A := s.A.rm s.A.vic, B := s.B.rm s.A.vic }
  else { s with vs := s.vs.tail, HB := ((s.B.vic, s.clock) :: s.HB).take s.mo, A := s.A.rm s.B.vic, B := s.B.rm s.B.vic }
def both (s : St) (k : ByteArray) : St := { s with A := s.A.ad k, B := s.B.ad k }
def tick (s : St) : St := { s with clock := s.clock + 1 }
def full (s : St) : Bool := decide (s.mo ≤ s.A.keys.length)
def make (s : St) (k : ByteArray) : St := if s.full = true then (s.regret k).evict else s.regret k
def drawn (n : Nat) : Nat := max (n / 4) slow
def moved (d : Bool) (r : Nat) : Nat := max (min (if d = true then r - r / 4 else r + r / 4) one) slow
def turnD (s : St) : Bool := if s.hits < s.last then !s.down else s.down
def endW (s : St) : St := { s with ends := s.ends + 1, last := s.hits, hits := 0, asked := 0 }
/-- One request more of a window. -/
def window (s : St) : St :=
  if s.six = false then s
  else if s.asked + 1 < s.mo then { s with asked := s.asked + 1 }
  else if s.ends = 0 then s.endW
  else if s.hits = s.last then
    if s.still = 9 then { s.endW with still := 0, rate := drawn (s.vs.headD 0), vs := s.vs.tail } else { s.endW with still := s.still + 1 }
  else { s.endW with still := 0, down := s.turnD, rate := moved s.turnD s.rate }
def onHit (s : St) (k : ByteArray) : St := { s with hits := s.hits + 1, A := s.A.req k, B := s.B.req k }
def req (s : St) (k : ByteArray) : St :=
  if s.mo = 0 then s.tick
  else if s.A.has k = true then (s.tick.onHit k).window
  else ((s.tick.make k).both k).window
def keys (s : St) : List ByteArray := s.A.keys
def ghosts (s : St) : List ByteArray := gk s.HA ++ gk s.HB
def has (s : St) (k : ByteArray) : Bool := s.A.has k
def outB (s : St) (k : ByteArray) : Bool := !s.has k && (decide (s.mo ≠ 0) && s.full)
def vicV (s : St) (k : ByteArray) : ByteArray := if s.outB k = true then (s.tick.regret k).evV else ⟨#[]⟩
def step (s : St) (k : ByteArray) : Value := .agg #[.bool (s.has k), .string (s.vicV k), .bool (s.outB k)]
def out (s : St) (k : ByteArray) : St := { s with A := s.A.rm k, B := s.B.rm k }
def rm (s : St) (k : ByteArray) : St := { s with A := s.A.rm k, B := s.B.rm k, HA := wo s.HA k, HB := wo s.HB k }
def adB (s : St) (k : ByteArray) : Bool := !s.has k && decide (s.A.keys.length < s.mo)
def ad (s : St) (k : ByteArray) : St := if s.adB k = true then (s.rm k).both k else s
def lead (s : St) : KSt := if s.w < half then s.B else s.A
def vic (s : St) : ByteArray := s.lead.vic
def any (s : St) : Bool := s.lead.any
def dr (s : St) : St := if s.any = true then s.out s.vic else s
def drn : Nat → St → St
  | 0, s => s
  | n + 1, s => drn n s.dr
def outs : Nat → St → List ByteArray
  | 0, _ => []
  | n + 1, s => s.vic :: outs n s.dr
def sized (s : St) (m : Nat) : St := { s with mo := m, A := s.A.rs m, B := s.B.rs m, HA := s.HA.take m, HB := s.HB.take m }
def rs (s : St) (m : Nat) : St := (drn (s.A.keys.length - m) s).sized m
def gone (s : St) (m : Nat) : List ByteArray := outs (s.A.keys.length - m) s
def start (six : Bool) (m : Nat) (vs : List Nat) : St := ⟨six, m, 0, KSt.start (if six then 3 else 0) m, KSt.start (if six then 2 else 1) m, [], [], half, Fx.quo 45 100, 0, 0, 0, 0, 0, false, vs⟩
end St

/-! Ghosts. -/
theorem wo_mem {H : List (ByteArray × Nat)} {k : ByteArray} {p : ByteArray × Nat} : p ∈ wo H k ↔ p ∈ H ∧ p.1 ≠ k := by simp [wo]
theorem gk_mem {H : List (ByteArray × Nat)} {x : ByteArray} : x ∈ gk H ↔ ∃ t, (x, t) ∈ H := by
  unfold gk
  rw [List.mem_map]
  exact ⟨fun ⟨p, h, e⟩ => ⟨p.2, e ▸ h⟩, fun ⟨t, h⟩ => ⟨_, h, rfl⟩⟩
theorem gk_wo (H : List (ByteArray × Nat)) (k : ByteArray) : gk (wo H k) = rem (gk H) k := by unfold gk wo rem; rw [List.filter_map]; rfl
theorem gk_take (H : List (ByteArray × Nat)) (m : Nat) : gk (H.take m) = (gk H).take m := by unfold gk; rw [List.map_take]
theorem gk_len (H : List (ByteArray × Nat)) : (gk H).length = H.length := by unfold gk; rw [List.length_map]
theorem wo_len (H : List (ByteArray × Nat)) (k : ByteArray) : (wo H k).length ≤ H.length := List.length_filter_le _ _
theorem wo_none {H : List (ByteArray × Nat)} {k : ByteArray} (h : k ∉ gk H) : wo H k = H := by
  unfold wo
  rw [List.filter_eq_self]
  intro p hp
  exact decide_eq_true fun e => h (gk_mem.2 ⟨p.2, e ▸ hp⟩)
theorem look_some {H : List (ByteArray × Nat)} {k : ByteArray} {t : Nat} (h : look H k = some t) : (k, t) ∈ H := by
  unfold look at h
  cases hf : H.find? fun p => decide (p.1 = k) with
  | none => rw [hf] at h; cases h
  | some p =>
    rw [hf] at h
    have h1 := List.mem_of_find?_eq_some hf
    have h2 := List.find?_some hf
    obtain rfl : p.2 = t := Option.some.inj h
    obtain rfl : p.1 = k := of_decide_eq_true h2
    exact h1
theorem look_none {H : List (ByteArray × Nat)} {k : ByteArray} : look H k = none ↔ k ∉ gk H := by
  unfold look
  rw [Option.map_eq_none_iff, List.find?_eq_none]
  constructor
  · intro h hk
    obtain ⟨t, ht⟩ := gk_mem.1 hk
    exact h _ ht (decide_eq_true rfl)
  · intro h p hp e
    obtain rfl : p.1 = k := of_decide_eq_true e
    exact h (gk_mem.2 ⟨p.2, hp⟩)

/-! What holds of a state. -/
structure Ok (s : St) : Prop where
  okA : s.A.Ok
  okB : s.B.Ok
  moA : s.A.mo = s.mo
  moB : s.B.mo = s.mo
  kdA : s.A.kind = if s.six then 3 else 0
  kdB : s.B.kind = if s.six then 2 else 1
  mem : ∀ x, x ∈ s.A.keys ↔ x ∈ s.B.keys
  nd : (gk s.HA ++ gk s.HB).Nodup
  dis : ∀ x, x ∈ s.A.keys → x ∉ gk s.HA ++ gk s.HB
  lA : s.HA.length ≤ s.mo
  lB : s.HB.length ≤ s.mo
  old : ∀ p ∈ s.HA ++ s.HB, p.2 ≤ s.clock
  wl : least ≤ s.w
  wh : s.w ≤ one - least
  rl : slow ≤ s.rate
  rh : s.rate ≤ one
  r5 : s.six = false → s.rate = Fx.quo 45 100
theorem Ok.len {s : St} (h : Ok s) : s.A.keys.length = s.B.keys.length := ((List.perm_ext_iff_of_nodup (KSt.nd h.okA) (KSt.nd h.okB)).2 h.mem).length_eq
theorem Ok.le {s : St} (h : Ok s) : s.A.keys.length ≤ s.mo := h.moA ▸ KSt.le h.okA

theorem tick_ok {s : St} (h : Ok s) : Ok s.tick := { h with old := fun p hp => Nat.le_succ_of_le (h.old p hp) }
theorem drawn_in (n : Nat) (h : n ≤ 18446744073709551615) : slow ≤ St.drawn n ∧ St.drawn n ≤ one := by
  unfold St.drawn one
  have := slow_val
  omega
theorem moved_in (d : Bool) (r : Nat) : slow ≤ St.moved d r ∧ St.moved d r ≤ one := by
  unfold St.moved
  have := slow_val
  have : one = 4611686018427387904 := rfl
  omega
theorem window_ok {s : St} (h : Ok s) (hv : ∀ x ∈ s.vs, x ≤ 18446744073709551615) : Ok s.window := by
  unfold St.window
  have e : ∀ {s : St}, Ok s → Ok s.endW := fun h => { h with }
  split
  · exact h
  · rename_i h6
    split
    · exact { h with }
    · split
      · exact e h
      · split
        · split
          · have hd : s.vs.headD 0 ≤ 18446744073709551615 := by
              cases hs : s.vs with
              | nil => exact Nat.zero_le _
              | cons x xs => exact hv x (by rw [hs]; exact List.mem_cons_self)
            exact { h with rl := (drawn_in _ hd).1, rh := (drawn_in _ hd).2, r5 := fun h5 => absurd h5 h6 }
          · exact { h with }
        · exact { h with rl := (moved_in _ _).1, rh := (moved_in _ _).2, r5 := fun h5 => absurd h5 h6 }
theorem window_same (s : St) : s.window.six = s.six ∧ s.window.mo = s.mo ∧ s.window.clock = s.clock ∧ s.window.A = s.A ∧ s.window.B = s.B ∧ s.window.HA = s.HA ∧ s.window.HB = s.HB ∧ s.window.w = s.w := by
  unfold St.window
  (repeat' split) <;> exact ⟨rfl, rfl, rfl, rfl, rfl, rfl, rfl, rfl⟩

/-! The weight. -/
theorem share_in (a b : Nat) : least ≤ Fx.share a b least ∧ Fx.share a b least ≤ one - least := by
  have hl := least_val
  refine ⟨Fx.share_ge a b least (by omega), ?_⟩
  exact Fx.share_le a b least
theorem wR_in {s : St} (h : Ok s) (k : ByteArray) : least ≤ s.wR k ∧ s.wR k ≤ one - least := by
  unfold St.wR
  cases look s.HA k with
  | some t => exact share_in _ _
  | none =>
    cases look s.HB k with
    | some t => exact share_in _ _
    | none => exact ⟨h.wl, h.wh⟩
/-- A smaller part of one never makes its share greater. -/
theorem part_left {a b c : Nat} (hb : 0 < b) (h : a ≤ c) (hs : b + c = one) : Fx.part a b ≤ c := by
  unfold one at hs
  unfold Fx.part
  rw [if_neg (by omega), Fx.quo_frac _ _ (by omega) (by omega)]
  refine Nat.div_le_of_le_mul ?_
  have h1 : a * 4611686018427387904 = a * b + a * c := by rw [← Nat.mul_add, hs]
  have h2 : (a + b) * c = a * c + b * c := Nat.add_mul _ _ _
  have h3 : a * b ≤ b * c := by rw [Nat.mul_comm a b]; exact Nat.mul_le_mul_left b h
  omega
theorem part_right {a b c : Nat} (hc : 0 < a) (h : b ≤ c) (hs : a + c = one) : a ≤ Fx.part a b := by
  unfold one at hs
  unfold Fx.part
  rw [if_neg (by omega), Fx.quo_frac _ _ (by omega) (by omega)]
  rw [Nat.le_div_iff_mul_le (by omega)]
  exact Nat.mul_le_mul_left a (by omega)
theorem fallOf_le (s : St) (t : Nat) : s.fallOf t ≤ 4611686018427387904 := Fx.fall_le _
theorem wA_le {s : St} (h : Ok s) (t : Nat) : s.wA t ≤ s.w := by
  have hl := least_val
  have h1 := h.wl
  have h2 := h.wh
  have h3 := Fx.mul_le_left s.w (s.fallOf t) (by unfold one at h2; omega) (fallOf_le s t)
  have h4 := part_left (a := Fx.mul s.w (s.fallOf t)) (b := one - s.w) (c := s.w) (by unfold one at *; omega) h3 (by unfold one at *; omega)
  unfold St.wA Fx.share
  omega
theorem wB_ge {s : St} (h : Ok s) (t : Nat) : s.w ≤ s.wB t := by
  have hl := least_val
  have h1 := h.wl
  have h2 := h.wh
  have h3 := Fx.mul_le_left (one - s.w) (s.fallOf t) (by unfold one; omega) (fallOf_le s t)
  have h4 := part_right (a := s.w) (b := Fx.mul (one - s.w) (s.fallOf t)) (c := one - s.w) (by omega) h3 (by unfold one at *; omega)
  unfold one at h2
  unfold St.wB Fx.share
  omega

/-! The calls. -/
section
variable {s : St}
theorem regret_ok (h : Ok s) (k : ByteArray) : Ok (s.regret k) := by
  have hw := wR_in h k
  have hm : ∀ x, x ∈ gk (wo s.HA k) ++ gk (wo s.HB k) → x ∈ gk s.HA ++ gk s.HB := fun x hx => by
    rw [gk_wo, gk_wo, ← rem_app] at hx
    exact (rem_mem.1 hx).1
  refine { h with nd := ?_, dis := fun x hx hg => h.dis x hx (hm x hg), lA := Nat.le_trans (wo_len _ _) h.lA, lB := Nat.le_trans (wo_len _ _) h.lB, old := fun p hp => ?_, wl := hw.1, wh := hw.2 }
  · show (gk (wo s.HA k) ++ gk (wo s.HB k)).Nodup
    rw [gk_wo, gk_wo, ← rem_app]
    exact rem_nodup h.nd
  · refine h.old p ?_
    rcases List.mem_append.1 hp with hp | hp
    · exact List.mem_append_left _ (wo_mem.1 hp).1
    · exact List.mem_append_right _ (wo_mem.1 hp).1
theorem regret_gho (s : St) (k x : ByteArray) : x ∈ (s.regret k).ghosts ↔ x ∈ s.ghosts ∧ x ≠ k := by
  show x ∈ gk (wo s.HA k) ++ gk (wo s.HB k) ↔ _
  rw [gk_wo, gk_wo, ← rem_app]
  exact rem_mem
/-- Where it is no ghost, nothing is regretted. -/
theorem regret_none {k : ByteArray} (h : k ∉ s.ghosts) : s.regret k = s := by
  have h1 : k ∉ gk s.HA := fun e => h (List.mem_append_left _ e)
  have h2 : k ∉ gk s.HB := fun e => h (List.mem_append_right _ e)
  unfold St.regret St.wR
  rw [wo_none h1, wo_none h2, look_none.2 h1, look_none.2 h2]
theorem vicA (h : Ok s) (hn : s.A.keys ≠ []) : s.A.vic ∈ s.A.keys := by
  have d := KSt.dr_f h.okA
  refine d.vic ?_
  rw [d.okE]
  cases hk : s.A.keys with
  | nil => exact absurd hk hn
  | cons x xs => rfl
theorem vicB (h : Ok s) (hn : s.A.keys ≠ []) : s.B.vic ∈ s.A.keys := by
  have d := KSt.dr_f h.okB
  rw [h.mem]
  refine d.vic ?_
  rw [d.okE]
  have hl := h.len
  cases hk : s.B.keys with
  | nil => rw [hk] at hl; exact absurd (List.eq_nil_of_length_eq_zero hl) hn
  | cons x xs => rfl
theorem evV_mem (h : Ok s) (hn : s.A.keys ≠ []) : s.evV ∈ s.A.keys := by
  unfold St.evV
  split
  · exact vicA h hn
  · exact vicB h hn
theorem take_nodup {x : ByteArray} {H G : List ByteArray} {m : Nat} (nd : (H ++ G).Nodup) (hx : x ∉ H ++ G) : ((x :: H).take m ++ G).Nodup := by
  have h1 : (x :: (H ++ G)).Nodup := List.nodup_cons.2 ⟨hx, nd⟩
  exact List.Nodup.sublist (List.Sublist.append (List.take_sublist m (x :: H)) (List.Sublist.refl G)) h1
theorem take_nodup2 {x : ByteArray} {H G : List ByteArray} {m : Nat} (nd : (G ++ H).Nodup) (hx : x ∉ G ++ H) : (G ++ (x :: H).take m).Nodup := by
  have h1 : (G ++ x :: H).Nodup := by
    refine (List.perm_middle.nodup_iff).2 (List.nodup_cons.2 ⟨hx, nd⟩)
  exact List.Nodup.sublist (List.Sublist.append (List.Sublist.refl G) (List.take_sublist m (x :: H))) h1
theorem out_mem (h : Ok s) (v x : ByteArray) : (x ∈ (s.A.rm v).keys ↔ x ∈ s.A.keys ∧ x ≠ v) ∧ (x ∈ (s.A.rm v).keys ↔ x ∈ (s.B.rm v).keys) := by
  have a := KSt.rm_f h.okA v
  have b := KSt.rm_f h.okB v
  exact ⟨a.mem x, by rw [a.mem, b.mem, h.mem]⟩
theorem out_len (h : Ok s) {v : ByteArray} (hv : v ∈ s.A.keys) : (s.A.rm v).keys.length + 1 = s.A.keys.length := by
  have a := KSt.rm_f h.okA v
  have e : s.A.has v = true := inn_iff.2 hv
  have := a.len
  rw [e] at this
  exact this
theorem out_ok (h : Ok s) (v : ByteArray) : Ok (s.out v) :=
  { h with okA := KSt.ok_rm h.okA v, okB := KSt.ok_rm h.okB v, moA := (KSt.mo_rm _ _).trans h.moA, moB := (KSt.mo_rm _ _).trans h.moB, kdA := (KSt.kind_rm _ _).trans h.kdA, kdB := (KSt.kind_rm _ _).trans h.kdB, mem := fun x => (out_mem h v x).2, dis := fun x hx => h.dis x ((out_mem h v x).1.1 hx).1 }
theorem evict_ok (h : Ok s) (hn : s.A.keys ≠ []) : Ok s.evict ∧ (∀ x, x ∈ s.evict.A.keys ↔ x ∈ s.A.keys ∧ x ≠ s.evV) ∧ s.evict.A.keys.length + 1 = s.A.keys.length ∧ (∀ x, x ∈ s.evict.ghosts → x ∈ s.ghosts ∨ x = s.evV) ∧ s.evict.mo = s.mo ∧ s.evict.vs = s.vs.tail := by
  unfold St.evict St.evV
  by_cases hp : s.pick = true
  · rw [if_pos hp, if_pos hp]
    have hv := vicA h hn
    have hg := h.dis _ hv
    have o := out_ok h s.A.vic
    have gh : ∀ x, x ∈ gk (((s.A.vic, s.clock) :: s.HA).take s.mo) ++ gk s.HB → x ∈ s.ghosts ∨ x = s.A.vic := fun x hx => by
      rw [gk_take] at hx
      rcases List.mem_append.1 hx with hx | hx
      · rcases List.mem_cons.1 (List.mem_of_mem_take hx) with e | hx
        · exact Or.inr e
        · exact Or.inl (List.mem_append_left _ hx)
      · exact Or.inl (List.mem_append_right _ hx)
    refine ⟨{ o with nd := ?_, dis := fun x hx hx2 => ?_, lA := ?_, old := fun p hp => ?_ }, fun x => (out_mem h s.A.vic x).1, out_len h hv, gh, rfl, rfl⟩
    · show (gk (((s.A.vic, s.clock) :: s.HA).take s.mo) ++ gk s.HB).Nodup
      rw [gk_take]
      exact take_nodup h.nd hg
    · rcases gh x hx2 with g | g
      · exact o.dis x hx g
      · exact ((out_mem h s.A.vic x).1.1 hx).2 g
    · show (((s.A.vic, s.clock) :: s.HA).take s.mo).length ≤ s.mo
      rw [List.length_take]; omega
    · rcases List.mem_append.1 hp with hp | hp
      · rcases List.mem_cons.1 (List.mem_of_mem_take hp) with e | hp
        · rw [e]; exact Nat.le_refl _
        · exact h.old p (List.mem_append_left _ hp)
      · exact h.old p (List.mem_append_right _ hp)
  · rw [if_neg hp, if_neg hp]
    have hv := vicB h hn
    have hg := h.dis _ hv
    have o := out_ok h s.B.vic
    have gh : ∀ x, x ∈ gk s.HA ++ gk (((s.B.vic, s.clock) :: s.HB).take s.mo) → x ∈ s.ghosts ∨ x = s.B.vic := fun x hx => by
      rw [gk_take] at hx
      rcases List.mem_append.1 hx with hx | hx
      · exact Or.inl (List.mem_append_left _ hx)
      · rcases List.mem_cons.1 (List.mem_of_mem_take hx) with e | hx
        · exact Or.inr e
        · exact Or.inl (List.mem_append_right _ hx)
    refine ⟨{ o with nd := ?_, dis := fun x hx hx2 => ?_, lB := ?_, old := fun p hp => ?_ }, fun x => (out_mem h s.B.vic x).1, out_len h hv, gh, rfl, rfl⟩
    · show (gk s.HA ++ gk (((s.B.vic, s.clock) :: s.HB).take s.mo)).Nodup
      rw [gk_take]
      exact take_nodup2 h.nd hg
    · rcases gh x hx2 with g | g
      · exact o.dis x hx g
      · exact ((out_mem h s.B.vic x).1.1 hx).2 g
    · show (((s.B.vic, s.clock) :: s.HB).take s.mo).length ≤ s.mo
      rw [List.length_take]; omega
    · rcases List.mem_append.1 hp with hp | hp
      · exact h.old p (List.mem_append_left _ hp)
      · rcases List.mem_cons.1 (List.mem_of_mem_take hp) with e | hp
        · rw [e]; exact Nat.le_refl _
        · exact h.old p (List.mem_append_right _ hp)
theorem both_ok (h : Ok s) {k : ByteArray} (hk : k ∉ s.A.keys) (hg : k ∉ s.ghosts) (hl : s.A.keys.length < s.mo) :
    Ok (s.both k) ∧ (∀ x, x ∈ (s.both k).A.keys ↔ x ∈ s.A.keys ∨ x = k) ∧ (s.both k).A.keys.length = s.A.keys.length + 1 := by
  have a := KSt.ad_f h.okA k
  have b := KSt.ad_f h.okB k
  have ea : s.A.adB k = true := by rw [a.adE, inn_no.2 hk, h.moA, decide_eq_true hl]; rfl
  have eb : s.B.adB k = true := by rw [b.adE, inn_no.2 (fun e => hk ((h.mem k).2 e)), h.moB, ← h.len, decide_eq_true hl]; rfl
  have ma : ∀ x, x ∈ (s.A.ad k).keys ↔ x ∈ s.A.keys ∨ x = k := fun x => by rw [a.mem, ea]; simp
  have mb : ∀ x, x ∈ (s.B.ad k).keys ↔ x ∈ s.B.keys ∨ x = k := fun x => by rw [b.mem, eb]; simp
  refine ⟨{ h with okA := KSt.ok_ad h.okA k, okB := KSt.ok_ad h.okB k, moA := (KSt.mo_ad _ _).trans h.moA, moB := (KSt.mo_ad _ _).trans h.moB, kdA := (KSt.kind_ad _ _).trans h.kdA, kdB := (KSt.kind_ad _ _).trans h.kdB, mem := fun x => ?_, dis := fun x hx => ?_ }, ma, ?_⟩
  · show x ∈ (s.A.ad k).keys ↔ x ∈ (s.B.ad k).keys
    rw [ma, mb, h.mem]
  · rcases (ma x).1 hx with hx | rfl
    · exact h.dis x hx
    · exact hg
  · have := a.len
    rw [ea] at this
    exact this
theorem make_ok (h : Ok s) (hm : s.mo ≠ 0) (k : ByteArray) : Ok (s.make k) ∧ (s.make k).mo = s.mo ∧ k ∉ (s.make k).ghosts ∨ k ∈ s.A.keys := by
  by_cases hk : k ∈ s.A.keys
  · exact Or.inr hk
  · have r := regret_ok h k
    refine Or.inl ?_
    unfold St.make
    by_cases hf : s.full = true
    · rw [if_pos hf]
      have hf2 : s.mo ≤ s.A.keys.length := of_decide_eq_true hf
      have hn : (s.regret k).A.keys ≠ [] := fun e => by
        have e : s.A.keys = [] := e
        rw [e, List.length_nil] at hf2; omega
      obtain ⟨h1, h2, h3, h4, h5, h6⟩ := evict_ok r hn
      refine ⟨h1, h5, fun e => ?_⟩
      rcases h4 k e with g | g
      · exact ((regret_gho s k k).1 g).2 rfl
      · exact hk (g ▸ evV_mem r hn)
    · rw [if_neg hf]
      exact ⟨r, rfl, fun e => ((regret_gho s k k).1 e).2 rfl⟩
theorem make_keys (h : Ok s) (hm : s.mo ≠ 0) (k : ByteArray) :
    (s.full = true → (s.regret k).evV ∈ s.A.keys ∧ (∀ x, x ∈ (s.make k).A.keys ↔ x ∈ s.A.keys ∧ x ≠ (s.regret k).evV) ∧ (s.make k).A.keys.length + 1 = s.A.keys.length) ∧ (s.full = false → (s.make k).A.keys = s.A.keys) := by
  have r := regret_ok h k
  refine ⟨fun hf => ?_, fun hf => ?_⟩
  · have hf2 : s.mo ≤ s.A.keys.length := of_decide_eq_true hf
    have hn : (s.regret k).A.keys ≠ [] := fun e => by
      have e : s.A.keys = [] := e
      rw [e, List.length_nil] at hf2; omega
    obtain ⟨h1, h2, h3, h4, h5, h6⟩ := evict_ok r hn
    unfold St.make
    rw [if_pos hf]
    exact ⟨evV_mem r hn, h2, h3⟩
  · unfold St.make
    rw [if_neg (by rw [hf]; simp)]; rfl
theorem make_lt (h : Ok s) (hm : s.mo ≠ 0) (k : ByteArray) : (s.make k).A.keys.length < s.mo := by
  have hl := h.le
  obtain ⟨h1, h2⟩ := make_keys h hm k
  cases hf : s.full with
  | true => have := (h1 hf).2.2; omega
  | false =>
    rw [h2 hf]
    have : ¬ s.mo ≤ s.A.keys.length := of_decide_eq_false hf
    omega
theorem make_vs (s : St) (k : ByteArray) : (s.make k).vs = if s.full = true then s.vs.tail else s.vs := by
  unfold St.make
  split
  · unfold St.evict
    split <;> rfl
  · rfl
theorem onHit_ok (h : Ok s) (hm : s.mo ≠ 0) {k : ByteArray} (hk : k ∈ s.A.keys) : Ok (s.onHit k) ∧ ∀ x, x ∈ (s.onHit k).A.keys ↔ x ∈ s.A.keys := by
  have a := KSt.req_f h.okA (by rw [h.moA]; exact hm) k
  have b := KSt.req_f h.okB (by rw [h.moB]; exact hm) k
  have hp : ∀ {K K' : List ByteArray} {mo : Nat} {t : Bool} {v : ByteArray} {o : Bool}, k ∈ K → ReqF K K' mo k t v o → ∀ x, x ∈ K' ↔ x ∈ K := by
    intro K K' mo t v o hk f x
    have e : o = false := by rw [f.outE, inn_iff.2 hk]; rfl
    refine ⟨fun hx => (f.old x hx).elim id fun e => e ▸ hk, fun hx => (f.stay x hx).elim id fun g => ?_⟩
    rw [e] at g
    exact absurd g.1 (by simp)
  have ma := hp hk a
  have mb := hp ((h.mem k).1 hk) b
  refine ⟨{ h with okA := KSt.ok_req h.okA k, okB := KSt.ok_req h.okB k, moA := (KSt.mo_req _ _).trans h.moA, moB := (KSt.mo_req _ _).trans h.moB, kdA := (KSt.kind_req _ _).trans h.kdA, kdB := (KSt.kind_req _ _).trans h.kdB, mem := fun x => ?_, dis := fun x hx => h.dis x ((ma x).1 hx) }, ma⟩
  show x ∈ (s.A.req k).keys ↔ x ∈ (s.B.req k).keys
  rw [ma, mb, h.mem]
theorem req_ok (h : Ok s) (hv : ∀ x ∈ s.vs, x ≤ 18446744073709551615) (k : ByteArray) : Ok (s.req k) := by
  unfold St.req
  have t := tick_ok h
  by_cases hm : s.mo = 0
  · rw [if_pos hm]; exact t
  · rw [if_neg hm]
    by_cases hk : s.A.has k = true
    · rw [if_pos hk]
      exact window_ok (onHit_ok t hm (inn_iff.1 hk)).1 hv
    · rw [if_neg hk]
      have hk2 : k ∉ s.A.keys := fun e => hk (inn_iff.2 e)
      obtain ⟨h1, h2, h3⟩ := (make_ok t hm k).resolve_right hk2
      have hv2 : ∀ x ∈ (s.tick.make k).vs, x ≤ 18446744073709551615 := fun x hx => by
        rw [make_vs] at hx
        split at hx
        · exact hv x (List.mem_of_mem_tail hx)
        · exact hv x hx
      refine window_ok (both_ok h1 (fun e => ?_) h3 (by rw [h2]; exact make_lt t hm k)).1 hv2
      obtain ⟨k1, k2⟩ := make_keys t hm k
      cases hf : s.tick.full with
      | true => exact hk2 (((k1 hf).2.1 k).1 e).1
      | false => exact hk2 (by rw [k2 hf] at e; exact e)
/-- What a request does to the residents. -/
theorem req_f (h : Ok s) (hm : s.mo ≠ 0) (k : ByteArray) : ReqF s.keys (s.req k).keys s.mo k (s.has k) (s.vicV k) (s.outB k) := by
  have t := tick_ok h
  unfold St.keys St.req
  rw [if_neg hm]
  cases hk : s.A.has k with
  | true =>
    have hk2 : k ∈ s.A.keys := inn_iff.1 hk
    have e1 : s.outB k = false := by unfold St.outB St.has; rw [hk]; rfl
    have e2 : s.vicV k = ⟨#[]⟩ := by unfold St.vicV; rw [e1]; rfl
    have e3 : s.has k = true := hk
    rw [if_pos rfl, e1, e2, e3, (window_same _).2.2.2.1]
    have a := KSt.req_f h.okA (by rw [h.moA]; exact hm) k
    have hl : (s.A.req k).keys.length = s.A.keys.length := by
      have := a.len
      have e0 : inn s.A.keys k = true := inn_iff.2 hk2
      have e : (s.A.tell k).1 = true := a.hitE.trans e0
      have e' : (s.A.tell k).2.2 = false := by rw [a.outE, e0]; rfl
      rw [e, e'] at this
      exact this
    exact hit_permF hk2 (onHit_ok t hm hk2).2 hl
  | false =>
    rw [if_neg (by simp), (window_same _).2.2.2.1]
    have hk2 : k ∉ s.A.keys := inn_no.1 hk
    obtain ⟨h1, h2, h3⟩ := (make_ok t hm k).resolve_right hk2
    obtain ⟨k1, k2⟩ := make_keys t hm k
    have hn : k ∉ (s.tick.make k).A.keys := fun e => by
      cases hf : s.tick.full with
      | true => exact hk2 (((k1 hf).2.1 k).1 e).1
      | false => exact hk2 (by rw [k2 hf] at e; exact e)
    obtain ⟨b1, b2, b3⟩ := both_ok h1 hn h3 (by rw [h2]; exact make_lt t hm k)
    have e3 : s.has k = false := hk
    have e1 : s.outB k = s.tick.full := by unfold St.outB; rw [e3, decide_eq_true hm]; rfl
    have e0 : inn s.A.keys k = false := hk
    have ef : s.tick.full = decide (s.mo ≤ s.A.keys.length) := rfl
    unfold St.vicV
    rw [e1, e3]
    cases hf : s.tick.full with
    | true =>
      obtain ⟨g1, g2, g3⟩ := k1 hf
      rw [if_pos rfl]
      refine ⟨e0.symm, by rw [e0, ← ef, hf]; rfl, fun _ => ⟨g1, fun e => ?_⟩, fun e => (by cases e), (b2 k).2 (Or.inr rfl), fun x hx => ?_, fun x hx => ?_, ?_⟩
      · rcases (b2 _).1 e with e | e
        · exact ((g2 _).1 e).2 rfl
        · exact hk2 (by rw [← e]; exact g1)
      · by_cases e : x = (s.tick.regret k).evV
        · exact Or.inr ⟨rfl, e⟩
        · exact Or.inl ((b2 x).2 (Or.inl ((g2 x).2 ⟨hx, e⟩)))
      · exact ((b2 x).1 hx).imp (fun e => ((g2 x).1 e).1) id
      · rw [b3]
        have : s.tick.A.keys.length = s.A.keys.length := rfl
        show _ = s.A.keys.length + 0
        omega
    | false =>
      rw [if_neg (by simp)]
      have g2 := k2 hf
      refine ⟨e0.symm, by rw [e0, ← ef, hf]; rfl, fun e => (by cases e), fun _ => rfl, (b2 k).2 (Or.inr rfl), fun x hx => Or.inl ((b2 x).2 (Or.inl (by rw [g2]; exact hx))), fun x hx => ((b2 x).1 hx).imp (fun e => by rw [g2] at e; exact e) id, ?_⟩
      rw [b3, g2]; rfl
theorem rm_eq (s : St) (k : ByteArray) : s.rm k = { s.out k with HA := wo s.HA k, HB := wo s.HB k } := rfl
theorem rm_ok (h : Ok s) (k : ByteArray) : Ok (s.rm k) := by
  have r := regret_ok h k
  exact { out_ok h k with nd := r.nd, dis := fun x hx => r.dis x ((out_mem h k x).1.1 hx).1, lA := r.lA, lB := r.lB, old := r.old }
theorem rm_gho (s : St) (k x : ByteArray) : x ∈ (s.rm k).ghosts ↔ x ∈ s.ghosts ∧ x ≠ k := regret_gho s k x
theorem rm_f (h : Ok s) (k : ByteArray) : RmF s.keys (s.rm k).keys (s.rm k).ghosts k (s.has k) := by
  have a := KSt.rm_f h.okA k
  exact ⟨a.wasE, a.mem, fun e => ((rm_gho s k k).1 e).2 rfl, a.len⟩
theorem ad_ok (h : Ok s) (k : ByteArray) : Ok (s.ad k) ∧ AdF s.keys (s.ad k).keys (s.ad k).ghosts s.mo k (s.adB k) := by
  have eb : s.adB k = (!inn s.keys k && decide (s.keys.length < s.mo)) := rfl
  unfold St.ad
  cases hb : s.adB k with
  | false =>
    rw [if_neg (by simp)]
    rw [← eb.symm.trans hb, ← eb, hb]
    refine ⟨h, ?_⟩
    have := ad_noneF (K := s.keys) (G' := s.ghosts) (mo := s.mo) (k := k) (eb ▸ hb)
    rw [← eb, hb] at this
    exact this
  | true =>
    rw [if_pos rfl]
    have hb2 := hb
    rw [eb, Bool.and_eq_true, Bool.not_eq_true', inn_no, decide_eq_true_eq] at hb2
    have r := rm_ok h k
    have f := rm_f h k
    have hw : s.has k = false := inn_no.2 hb2.1
    have hn : k ∉ (s.rm k).A.keys := fun e => ((f.mem k).1 e).2 rfl
    have hl : (s.rm k).A.keys.length = s.keys.length := by have := f.len; rw [hw] at this; exact this
    obtain ⟨b1, b2, b3⟩ := both_ok r hn f.gho (by rw [hl]; exact hb2.2)
    refine ⟨b1, ⟨eb ▸ hb.symm, fun x => ?_, fun _ => f.gho, ?_⟩⟩
    · refine (b2 x).trans ?_
      constructor
      · rintro (e | e)
        · exact Or.inl ((f.mem x).1 e).1
        · exact Or.inr ⟨rfl, e⟩
      · rintro (e | ⟨_, e⟩)
        · exact Or.inl ((f.mem x).2 ⟨e, fun g => hb2.1 (g ▸ e)⟩)
        · exact Or.inr e
    · show (((s.rm k).both k).A.keys).length = s.keys.length + 1
      rw [b3, hl]
theorem lead_ok (h : Ok s) : s.any = (!s.A.keys.isEmpty) ∧ (s.any = true → s.vic ∈ s.A.keys) := by
  unfold St.any St.vic St.lead
  split
  · have d := KSt.dr_f h.okB
    have e : s.B.keys.isEmpty = s.A.keys.isEmpty := by
      have := h.len
      cases h1 : s.B.keys <;> cases h2 : s.A.keys <;> rw [h1, h2] at this <;> first | rfl | (simp at this)
    exact ⟨by rw [d.okE, e], fun g => (h.mem _).2 (d.vic g)⟩
  · have d := KSt.dr_f h.okA
    exact ⟨d.okE, d.vic⟩
theorem dr_f (h : Ok s) : Ok s.dr ∧ DrF s.keys s.dr.keys s.ghosts s.dr.ghosts s.vic s.any := by
  obtain ⟨l1, l2⟩ := lead_ok h
  unfold St.dr
  cases ha : s.any with
  | true =>
    rw [if_pos rfl]
    have hv := l2 ha
    refine ⟨out_ok h _, ⟨ha ▸ l1, fun _ => hv, fun x => ?_, rfl, out_len h hv⟩⟩
    refine ((out_mem h s.vic x).1).trans ⟨fun g => ⟨g.1, fun _ => g.2⟩, fun g => ⟨g.1, g.2 rfl⟩⟩
  | false =>
    rw [if_neg (by simp)]
    exact ⟨h, ⟨ha ▸ l1, fun e => (by cases e), fun x => ⟨fun g => ⟨g, fun e => (by cases e)⟩, fun g => g.1⟩, rfl, rfl⟩⟩
theorem dr_same (s : St) : s.dr.mo = s.mo ∧ s.dr.vs = s.vs ∧ s.dr.HA = s.HA ∧ s.dr.HB = s.HB ∧ s.dr.w = s.w ∧ s.dr.rate = s.rate := by
  unfold St.dr
  split <;> exact ⟨rfl, rfl, rfl, rfl, rfl, rfl⟩
theorem drn_same : ∀ (n : Nat) (s : St), (St.drn n s).mo = s.mo ∧ (St.drn n s).vs = s.vs ∧ (St.drn n s).HA = s.HA ∧ (St.drn n s).HB = s.HB ∧ (St.drn n s).w = s.w ∧ (St.drn n s).rate = s.rate
  | 0, _ => ⟨rfl, rfl, rfl, rfl, rfl, rfl⟩
  | n + 1, s => by
    obtain ⟨a, b, c, d, e, f⟩ := drn_same n s.dr
    obtain ⟨a', b', c', d', e', f'⟩ := dr_same s
    exact ⟨a.trans a', b.trans b', c.trans c', d.trans d', e.trans e', f.trans f'⟩
/-- Behind so many drops. -/
theorem drn_f : ∀ (n : Nat) {s : St}, Ok s → n ≤ s.keys.length → Ok (St.drn n s) ∧ (St.outs n s).length = n ∧ (St.drn n s).keys.length + n = s.keys.length ∧ (∀ x ∈ St.outs n s, x ∈ s.keys ∧ x ∉ (St.drn n s).keys) ∧ (∀ x ∈ s.keys, x ∈ (St.drn n s).keys ∨ x ∈ St.outs n s) ∧ (∀ x ∈ (St.drn n s).keys, x ∈ s.keys)
  | 0, s, h, _ => ⟨h, rfl, rfl, fun x hx => (by cases hx), fun x hx => Or.inl hx, fun x hx => hx⟩
  | n + 1, s, h, hn => by
    obtain ⟨o, f⟩ := dr_f h
    have ha : s.any = true := by
      rw [f.okE]
      cases hk : s.keys with
      | nil => rw [hk] at hn; exact absurd hn (by simp)
      | cons x xs => rfl
    have hl := f.len
    rw [ha] at hl
    have hl : s.dr.keys.length + 1 = s.keys.length := hl
    obtain ⟨h1, h2, h3, h4, h5, h6⟩ := drn_f n o (by omega)
    have hm : ∀ x, x ∈ s.dr.keys ↔ x ∈ s.keys ∧ x ≠ s.vic := fun x => (f.mem x).trans ⟨fun g => ⟨g.1, g.2 ha⟩, fun g => ⟨g.1, fun _ => g.2⟩⟩
    refine ⟨h1, by show (St.outs n s.dr).length + 1 = n + 1; rw [h2], by show (St.drn n s.dr).keys.length + (n + 1) = _; omega, fun x hx => ?_, fun x hx => ?_, fun x hx => ((hm x).1 (h6 x hx)).1⟩
    · rcases List.mem_cons.1 hx with rfl | hx
      · exact ⟨f.vic ha, fun e => ((hm _).1 (h6 _ e)).2 rfl⟩
      · exact ⟨((hm x).1 (h4 x hx).1).1, (h4 x hx).2⟩
    · by_cases e : x = s.vic
      · exact Or.inr (e ▸ List.mem_cons_self)
      · exact (h5 x ((hm x).2 ⟨hx, e⟩)).imp id (List.mem_cons_of_mem _)
theorem sized_ok (h : Ok s) {m : Nat} (hl : s.keys.length ≤ m) : Ok (s.sized m) ∧ ∀ x, x ∈ (s.sized m).keys ↔ x ∈ s.keys := by
  have a := KSt.rs_f h.okA m
  have b := KSt.rs_f h.okB m
  have e : ∀ {K K' out : List ByteArray}, K.length ≤ m → RsF K K' m out → ∀ x, x ∈ K' ↔ x ∈ K := by
    intro K K' out hl f x
    have : out = [] := List.eq_nil_of_length_eq_zero (by rw [f.num]; omega)
    refine ⟨f.old x, fun hx => (f.stay x hx).elim id fun g => ?_⟩
    rw [this] at g
    cases g
  have ma := e hl a
  have mb := e (by rw [← h.len]; exact hl) b
  have sub : ∀ {H G : List (ByteArray × Nat)}, (gk (H.take m) ++ gk (G.take m)).Sublist (gk H ++ gk G) := by
    intro H G
    rw [gk_take, gk_take]
    exact List.Sublist.append (List.take_sublist _ _) (List.take_sublist _ _)
  refine ⟨{ h with okA := KSt.ok_rs h.okA m, okB := KSt.ok_rs h.okB m, moA := KSt.mo_rs _ _, moB := KSt.mo_rs _ _, kdA := (KSt.kind_rs _ _).trans h.kdA, kdB := (KSt.kind_rs _ _).trans h.kdB, mem := fun x => ?_, nd := List.Nodup.sublist sub h.nd, dis := fun x hx hg => h.dis x ((ma x).1 hx) (sub.subset hg), lA := ?_, lB := ?_, old := fun p hp => ?_ }, ma⟩
  · exact (ma x).trans ((h.mem x).trans (mb x).symm)
  · show (s.HA.take m).length ≤ m
    rw [List.length_take]; omega
  · show (s.HB.take m).length ≤ m
    rw [List.length_take]; omega
  · rcases List.mem_append.1 hp with hp | hp
    · exact h.old p (List.mem_append_left _ (List.mem_of_mem_take hp))
    · exact h.old p (List.mem_append_right _ (List.mem_of_mem_take hp))
theorem rs_f (h : Ok s) (m : Nat) : Ok (s.rs m) ∧ RsF s.keys (s.rs m).keys m (s.gone m) := by
  obtain ⟨h1, h2, h3, h4, h5, h6⟩ := drn_f (s.keys.length - m) h (by omega)
  obtain ⟨g1, g2⟩ := sized_ok h1 (m := m) (by omega)
  have hl : (s.rs m).keys.length = (St.drn (s.keys.length - m) s).keys.length := ((List.perm_ext_iff_of_nodup (KSt.nd g1.okA) (KSt.nd h1.okA)).2 g2).length_eq
  refine ⟨g1, ⟨h2, ?_, fun x hx => ⟨(h4 x hx).1, fun e => (h4 x hx).2 ((g2 x).1 e)⟩, fun x hx => (h5 x hx).imp (g2 x).2 id, fun x hx => h6 x ((g2 x).1 hx)⟩⟩
  show (s.rs m).keys.length + (St.outs (s.keys.length - m) s).length = s.keys.length
  rw [hl, h2]; exact h3
end
theorem start_ok (six : Bool) (m : Nat) (vs : List Nat) : Ok (St.start six m vs) := by
  have hk : ∀ k : Nat, k < 5 → (KSt.start k m).kind = k ∧ (KSt.start k m).mo = m ∧ (KSt.start k m).keys = [] ∧ (KSt.start k m).ghosts = [] := fun k h => KSt.start_kind h m
  have a := hk (if six then 3 else 0) (by split <;> omega)
  have b := hk (if six then 2 else 1) (by split <;> omega)
  have hl := least_val
  have hs := slow_val
  have hq := start_val
  refine ⟨KSt.ok_start _ _, KSt.ok_start _ _, a.2.1, b.2.1, a.1, b.1, fun x => ?_, List.nodup_nil, fun x hx => ?_, Nat.zero_le _, Nat.zero_le _, fun p hp => (by cases hp), ?_, ?_, ?_, ?_, fun _ => rfl⟩
  · show x ∈ (KSt.start _ m).keys ↔ x ∈ (KSt.start _ m).keys
    rw [a.2.2.1, b.2.2.1]
  · have hx : x ∈ (KSt.start (if six then 3 else 0) m).keys := hx
    rw [a.2.2.1] at hx
    cases hx
  · show least ≤ half; unfold half; omega
  · show half ≤ one - least; unfold half one; omega
  · show slow ≤ Fx.quo 45 100; omega
  · show Fx.quo 45 100 ≤ one; unfold one; omega
end Go.Proofs.YtnlckkahkghneaaGreatDoor.LE
