/- A cache of any kind by one form (for layer 9): its state as plain lists, and the contracts of its calls. -/
import Derived.Test.YtnlckkahkghneaaGreatDoorGLr
import Derived.Test.YtnlckkahkghneaaGreatDoorGLf
import Derived.Test.YtnlckkahkghneaaGreatDoorGSr
import Derived.Test.YtnlckkahkghneaaGreatDoorGAf
namespace Go.Proofs.YtnlckkahkghneaaGreatDoor
open Go.RowKit Sg

inductive KSt where
  | lr (mo : Nat) (ks : List ByteArray)
  | lf (ch : Bool) (mo n : Nat) (L : List (LF.Ht.Ent ByteArray))
  | sr (s : SR.St)
  | ar (s : AR.St)
/-- What a call that turns nothing tells. -/
def Told (v : Value) (w : World) (e : Ending) (w' : World) : Prop := e = .returned v ∧ Below w.heap.size w w'
namespace KSt
def kind : KSt → Nat
  | lr _ _ => 0
  | lf false _ _ _ => 1
  | lf true _ _ _ => 2
  | sr _ => 3
  | ar _ => 4
def mo : KSt → Nat
  | lr mo _ => mo
  | lf _ mo _ _ => mo
  | sr s => s.mo
  | ar s => s.mo
def keys : KSt → List ByteArray
  | lr _ ks => ks
  | lf _ _ _ L => LF.Lf.keysL L
  | sr s => (s.A ++ s.N).reverse
  | ar s => AR.keysL s.R
def ghosts : KSt → List ByteArray
  | lr _ _ => []
  | lf _ _ _ _ => []
  | sr s => s.G
  | ar s => AR.ghL s.R
def has (st : KSt) (k : ByteArray) : Bool := inn st.keys k
/-- What a request tells: a hit, who goes, whether one goes. -/
def tell : KSt → ByteArray → Bool × ByteArray × Bool
  | lr mo ks, k => (hitB mo ks k, vicK mo ks k, outB mo ks k)
  | lf _ mo _ L, k => (LF.Lf.hitB mo L k, LF.Lf.vicK mo L k, LF.Lf.outB mo L k)
  | sr s, k => (s.hit k, s.vic k, s.out k)
  | ar s, k => (AR.hit s.R k, AR.vicOf (s.vs k), !(s.vs k).isEmpty)
def step (st : KSt) (k : ByteArray) : Value := .agg #[.bool (st.tell k).1, .string (st.tell k).2.1, .bool (st.tell k).2.2]
def req : KSt → ByteArray → KSt
  | lr mo ks, k => lr mo (reqK mo ks k)
  | lf ch mo n L, k => lf ch mo (LF.Lf.reqN mo n) (LF.Lf.reqL ch mo n L k)
  | sr s, k => sr (s.req k)
  | ar s, k => ar (s.req k)
def rm : KSt → ByteArray → KSt
  | lr mo ks, k => lr mo (rem ks k)
  | lf ch mo n L, k => lf ch mo n (LF.Ht.rem L k)
  | sr s, k => sr (s.rm k)
  | ar s, k => ar (s.rm k)
def adB (st : KSt) (k : ByteArray) : Bool := !st.has k && decide (st.keys.length < st.mo)
def ad : KSt → ByteArray → KSt
  | lr mo ks, k => lr mo (LR.adK mo ks k)
  | lf ch mo n L, k => lf ch mo (LF.Lf.adN mo n L k) (LF.Lf.adL ch mo n L k)
  | sr s, k => sr (s.ad k)
  | ar s, k => ar (s.ad k)
/-- Who would go. -/
def vic : KSt → ByteArray
  | lr _ ks => ks.headD ⟨#[]⟩
  | lf _ _ _ L => LF.Lf.hdK L
  | sr s => lastKey (s.A ++ s.N)
  | ar s => lastKey (s.R (AR.lv s.R s.p false))
def any : KSt → Bool
  | lr _ ks => !ks.isEmpty
  | lf _ _ _ L => !L.isEmpty
  | sr s => anyKey (s.A ++ s.N)
  | ar s => anyKey (s.R (AR.lv s.R s.p false))
def dr : KSt → KSt
  | lr mo ks => lr mo ks.tail
  | lf ch mo n L => lf ch mo n L.tail
  | sr s => sr s.dr
  | ar s => ar s.dr
def rs : KSt → Nat → KSt
  | lr _ ks, m => lr m (lastN m ks)
  | lf ch _ n L, m => lf ch m n (L.drop (L.length - m))
  | sr s, m => sr (s.rs m)
  | ar s, m => ar (s.rs m)
/-- Who goes when it is made smaller. -/
def gone : KSt → Nat → List ByteArray
  | lr _ ks, m => ks.take (ks.length - m)
  | lf _ _ _ L, m => (LF.Lf.keysL L).take (L.length - m)
  | sr s, m => (s.A ++ s.N).reverse.take (s.A.length + s.N.length - m)
  | ar s, m => AR.outs (min s.p m) false s.R (AR.lenR s.R - m)
def start (kind m : Nat) : KSt :=
  match kind with
  | 0 => lr m []
  | 1 => lf false m 0 []
  | 2 => lf true m 0 []
  | 3 => sr (SR.St.start m)
  | _ => ar (AR.St.start m)
def Ok : KSt → Prop
  | lr mo ks => ks.Nodup ∧ ks.length ≤ mo
  | lf ch mo n L => LF.Ht.Once L n ∧ L.length ≤ mo ∧ LF.Lf.Fit ch L n ∧ LF.Ht.Srt L
  | sr s => SR.Ok s
  | ar s => AR.Ok s
theorem kind_req (st : KSt) (k : ByteArray) : (st.req k).kind = st.kind := by
  cases st with
  | lf ch _ _ _ => cases ch <;> rfl
  | _ => rfl
theorem kind_rm (st : KSt) (k : ByteArray) : (st.rm k).kind = st.kind := by
  cases st with
  | lf ch _ _ _ => cases ch <;> rfl
  | _ => rfl
theorem kind_ad (st : KSt) (k : ByteArray) : (st.ad k).kind = st.kind := by
  cases st with
  | lf ch _ _ _ => cases ch <;> rfl
  | _ => rfl
theorem kind_dr (st : KSt) : st.dr.kind = st.kind := by
  cases st with
  | lf ch _ _ _ => cases ch <;> rfl
  | _ => rfl
theorem kind_rs (st : KSt) (m : Nat) : (st.rs m).kind = st.kind := by
  cases st with
  | lf ch _ _ _ => cases ch <;> rfl
  | _ => rfl
end KSt

/-- A cache whose blocks are T. -/
def KCa (w : World) (c : Nat) (T : Nat → Prop) (st : KSt) (b : Nat) : Prop :=
  match st with
  | .lr mo ks => LR.Ca w c T mo ks b
  | .lf ch mo n L => LF.Ca w c T mo ch L n ∧ n ≤ b
  | .sr s => SR.Ca w c T s b
  | .ar _ => False
def KPost (v : Value) (w : World) (c : Nat) (T : Nat → Prop) (st : KSt) (b : Nat) (e : Ending) (w' : World) : Prop := e = .returned v ∧ ∃ T', KCa w' c T' st b ∧ Went w w' T T'
def fHas : Nat → Nat | 0 => 244 | 3 => 310 | 4 => 332 | _ => 258
def fLen : Nat → Nat | 0 => 246 | 3 => 312 | 4 => 334 | _ => 260
def fRequest : Nat → Nat | 0 => 248 | 3 => 314 | 4 => 336 | _ => 262
def fRemove : Nat → Nat | 0 => 247 | 3 => 313 | 4 => 335 | _ => 261
def fAdopt : Nat → Nat | 0 => 241 | 3 => 307 | 4 => 329 | _ => 255
def fDrop : Nat → Nat | 0 => 242 | 3 => 308 | 4 => 330 | _ => 256
def fResize : Nat → Nat | 0 => 249 | 3 => 315 | 4 => 337 | _ => 263
def fKeys : Nat → Nat | 0 => 245 | 3 => 311 | 4 => 333 | _ => 259
def fGhosts : Nat → Nat | 0 => 243 | 3 => 309 | 4 => 331 | _ => 257

section
variable {w w' : World} {c b b' : Nat} {T T' : Nat → Prop} {st st' : KSt} {v : Value} {e : Ending}
theorem told_same (h : e = .returned v ∧ w = w') : Told v w e w' := ⟨h.1, h.2 ▸ Below.refl _ _⟩
theorem told_qt (h : SR.Qt v w e w') : Told v w e w' := by
  obtain ⟨he, n, rfl⟩ := h
  exact ⟨he, SR.below_drewN w n⟩
theorem turn_lf (h : LF.Turn T w w') : Turn T w w' := ⟨h.os, h.tape, h.output, h.size, h.block⟩
theorem post_lr {mo : Nat} {ks : List ByteArray} (h : LR.CaPost v w c T mo ks b e w') : KPost v w c T (.lr mo ks) b e w' := by
  obtain ⟨he, T', h1, h2, h3⟩ := h
  exact ⟨he, T', h1, h2, h3⟩
theorem post_lf {mo n : Nat} {ch : Bool} {L : List (LF.Ht.Ent ByteArray)} (h : LF.CaPost v w c T mo ch L n e w') (hn : n ≤ b) : KPost v w c T (.lf ch mo n L) b e w' := by
  obtain ⟨he, T', h1, h2, h3⟩ := h
  exact ⟨he, T', ⟨h1, hn⟩, h2, turn_lf h3⟩
theorem KCa.lt (h : KCa w c T st b) {k : Nat} (hk : T k) : k < w.heap.size := by
  cases st with
  | lr mo ks => exact LR.Ca.lt h hk
  | lf ch mo n L => exact LF.Ca.lt h.1 hk
  | sr s => exact SR.Ca.lt h hk
  | ar _ => exact h.elim
theorem KCa.below (h : KCa w c T st b) (hb : Below w.heap.size w w') : KCa w' c T st b := by
  cases st with
  | lr mo ks => exact LR.Ca.below h hb
  | lf ch mo n L => exact ⟨LF.Ca.below h.1 hb, h.2⟩
  | sr s => exact SR.Ca.below h hb
  | ar _ => exact h.elim
theorem KCa.mono (h : KCa w c T st b) (hb : b ≤ b') : KCa w c T st b' := by
  cases st with
  | lr mo ks => exact LR.Ca.mono h hb
  | lf ch mo n L => exact ⟨h.1, Nat.le_trans h.2 hb⟩
  | sr s => exact SR.Ca.mono h hb
  | ar _ => exact h.elim
theorem KCa.ok (h : KCa w c T st b) : st.Ok := by
  cases st with
  | lr mo ks => exact ⟨LR.Ca.nodup h, (LR.Ca.le h).1⟩
  | lf ch mo n L => exact ⟨LF.Ca.once h.1, (LF.Ca.le h.1).1, LF.Ca.fit h.1, LF.Ca.srt h.1⟩
  | sr s => exact SR.Ca.ok h
  | ar _ => exact h.elim
theorem KCa.top (h : KCa w c T st b) : st.mo ≤ 9223372036854775807 := by
  cases st with
  | lr mo ks => exact LR.Ca.top h
  | lf ch mo n L => exact LF.Ca.top h.1
  | sr s => exact SR.Ca.top h
  | ar _ => exact h.elim
theorem KCa.small (h : KCa w c T st b) : ∀ x ∈ st.keys, x.size ≤ maxLen := by
  cases st with
  | lr mo ks => exact LR.Ca.small h
  | lf ch mo n L =>
    intro x hx
    obtain ⟨e, he, rfl⟩ := List.mem_map.1 hx
    exact LF.Ca.ok h.1 e he
  | sr s => exact fun x hx => SR.Ca.small h x (List.mem_append_left _ (List.mem_reverse.1 hx))
  | ar _ => exact h.elim
theorem has_lf {L : List (LF.Ht.Ent ByteArray)} {k : ByteArray} : LF.Lf.isIn L k = inn (LF.Lf.keysL L) k := by
  rw [Bool.eq_iff_iff, LF.Lf.isIn_iff, inn_iff]
  unfold LF.Lf.keysL
  rw [List.mem_map]
theorem has_sr {s : SR.St} {k : ByteArray} : s.hit k = inn (s.A ++ s.N).reverse k := by
  rw [Bool.eq_iff_iff, inn_iff, List.mem_reverse, List.mem_append]
  unfold SR.St.hit
  rw [Bool.or_eq_true, inn_iff, inn_iff]
  exact Or.comm
theorem has_ar {s : AR.St} {k : ByteArray} : AR.hit s.R k = inn (AR.keysL s.R) k := by
  rw [Bool.eq_iff_iff, inn_iff, AR.keysL_mem]
end

section
variable (w : World) (c : Nat) (T : Nat → Prop) (st : KSt) (b : Nat) (key : ByteArray) (h : KCa w c T st b)
include h
theorem len_k : Calls Tryz.prog (fLen st.kind) #[.pointer (some ⟨c, 0, none⟩)] w (Told (.int .i64 (st.keys.length : Int)) w) := by
  cases st with
  | lr mo ks => exact (LR.len_ca w c T mo ks b h).mono fun e w' q => told_same q
  | lf ch mo n L =>
    have e1 : (KSt.lf ch mo n L).keys.length = L.length := by show (LF.Lf.keysL L).length = _; unfold LF.Lf.keysL; rw [List.length_map]
    rw [e1]
    have := (LF.len_ca w c T mo ch L n h.1).mono fun e w' q => told_same q
    cases ch <;> exact this
  | sr s =>
    have e1 : (KSt.sr s).keys.length = s.N.length + s.A.length := by show (s.A ++ s.N).reverse.length = _; rw [List.length_reverse, List.length_append]; omega
    rw [e1]
    exact (SR.len_ca w c T s b h).mono fun e w' q => told_qt q
  | ar _ => exact h.elim
theorem has_k (hs : key.size ≤ maxLen) : Calls Tryz.prog (fHas st.kind) #[.pointer (some ⟨c, 0, none⟩), .string key] w (Told (.bool (st.has key)) w) := by
  unfold KSt.has
  cases st with
  | lr mo ks => exact (LR.has_ca w c T mo ks b key h hs).mono fun e w' q => told_same q
  | lf ch mo n L =>
    show Calls _ _ _ _ (Told (.bool (inn (LF.Lf.keysL L) key)) w)
    rw [← has_lf]
    have := LF.has_ca w c T mo ch L n key h.1 hs
    cases ch <;> exact this
  | sr s =>
    show Calls _ _ _ _ (Told (.bool (inn (s.A ++ s.N).reverse key)) w)
    rw [← has_sr]
    exact (SR.has_ca w c T s b key h hs).mono fun e w' q => told_same q
  | ar _ => exact h.elim
theorem keys_k : Calls Tryz.prog (fKeys st.kind) #[.pointer (some ⟨c, 0, none⟩)] w (RowPost st.keys w) := by
  cases st with
  | lr mo ks => exact LR.keys_ca w c T mo ks b h
  | lf ch mo n L =>
    have := LF.keys_ca w c T mo ch L n h.1
    cases ch <;> exact this
  | sr s => exact SR.keys_ca w c T s b h
  | ar _ => exact h.elim
theorem ghosts_k : Calls Tryz.prog (fGhosts st.kind) #[.pointer (some ⟨c, 0, none⟩)] w (RowPost st.ghosts w) := by
  have nil : ∀ e w', (e = .returned (.slice none 0 0) ∧ w = w') → RowPost [] w e w' := fun e w' ⟨he, hw⟩ => ⟨_, he, Own.nil _ _, hw ▸ Below.refl _ _⟩
  cases st with
  | lr mo ks => exact (LR.ghostsC w c).mono nil
  | lf ch mo n L =>
    have := (LF.ghostsC w c).mono nil
    cases ch <;> exact this
  | sr s => exact SR.ghosts_ca w c T s b h
  | ar _ => exact h.elim
theorem drop_k : Calls Tryz.prog (fDrop st.kind) #[.pointer (some ⟨c, 0, none⟩)] w (KPost (.tuple #[.string st.vic, .bool st.any]) w c T st.dr b) := by
  cases st with
  | lr mo ks => exact (LR.drop_ca w c T mo ks b h).mono fun e w' q => post_lr q
  | lf ch mo n L =>
    have := (LF.drop_ca w c T mo ch L n h.1).mono fun e w' q => post_lf q h.2
    cases ch <;> exact this
  | sr s => exact SR.drop_ca w c T s b h
  | ar _ => exact h.elim
theorem remove_k (hs : key.size ≤ maxLen) : Calls Tryz.prog (fRemove st.kind) #[.pointer (some ⟨c, 0, none⟩), .string key] w (KPost (.bool (st.has key)) w c T (st.rm key) b) := by
  unfold KSt.has
  cases st with
  | lr mo ks => exact (LR.remove_ca w c T mo ks b key h hs).mono fun e w' q => post_lr q
  | lf ch mo n L =>
    show Calls _ _ _ _ (KPost (.bool (inn (LF.Lf.keysL L) key)) w c T _ b)
    rw [← has_lf]
    have := (LF.remove_ca w c T mo ch L n key h.1 hs).mono fun e w' q => post_lf q h.2
    cases ch <;> exact this
  | sr s =>
    show Calls _ _ _ _ (KPost (.bool (inn (s.A ++ s.N).reverse key)) w c T _ b)
    rw [← has_sr]
    exact SR.remove_ca w c T s b key h hs
  | ar _ => exact h.elim
theorem adopt_k (hs : key.size ≤ maxLen) (hb : b ≤ 900) : Calls Tryz.prog (fAdopt st.kind) #[.pointer (some ⟨c, 0, none⟩), .string key] w (KPost (.bool (st.adB key)) w c T (st.ad key) (b + 1)) := by
  unfold KSt.adB KSt.has
  cases st with
  | lr mo ks => exact (LR.adopt_ca w c T mo ks b key h hs (by omega)).mono fun e w' q => post_lr q
  | lf ch mo n L =>
    have e1 : (!inn (KSt.lf ch mo n L).keys key && decide ((KSt.lf ch mo n L).keys.length < (KSt.lf ch mo n L).mo)) = LF.Lf.adB mo L key := by
      show (!inn (LF.Lf.keysL L) key && decide ((LF.Lf.keysL L).length < mo)) = _
      rw [← has_lf, LF.Lf.keysL_len]; rfl
    rw [e1]
    have := (LF.adopt_ca w c T mo ch L n key h.1 hs (by have := h.2; omega)).mono fun e w' q => post_lf (b := b + 1) q (by have := LF.Lf.adN_le mo n L key; have := h.2; omega)
    cases ch <;> exact this
  | sr s =>
    have e1 : (!inn (KSt.sr s).keys key && decide ((KSt.sr s).keys.length < (KSt.sr s).mo)) = s.adB key := by
      show (!inn (s.A ++ s.N).reverse key && decide ((s.A ++ s.N).reverse.length < s.mo)) = _
      rw [← has_sr, List.length_reverse, List.length_append, Nat.add_comm]; rfl
    rw [e1]
    exact SR.adopt_ca w c T s b key h hs (by omega)
  | ar _ => exact h.elim
theorem request_k (hs : key.size ≤ maxLen) (hb : b ≤ 900) : Calls Tryz.prog (fRequest st.kind) #[.pointer (some ⟨c, 0, none⟩), .string key] w (KPost (st.step key) w c T (st.req key) (b + 1)) := by
  cases st with
  | lr mo ks => exact (LR.request_ca w c T mo ks b key h hs (by omega)).mono fun e w' q => post_lr q
  | lf ch mo n L =>
    have := (LF.request_ca w c T mo ch L n key h.1 hs (by have := h.2; omega)).mono fun e w' q => post_lf (b := b + 1) q (by have := LF.Lf.reqN_le mo n; have := h.2; omega)
    cases ch <;> exact this
  | sr s => exact SR.request_ca w c T s b key h hs (by omega)
  | ar _ => exact h.elim
/-- What Resize leaves. -/
theorem resize_k (z : Int) (hz : -9223372036854775808 ≤ z ∧ z ≤ 9223372036854775807) (hb : b ≤ 900) : Calls Tryz.prog (fResize st.kind) #[.pointer (some ⟨c, 0, none⟩), .int .i64 z] w
    (fun e w' => ∃ v T', e = .returned v ∧ Own w' w.heap.size v (st.gone z.toNat) ∧ KCa w' c T' (st.rs z.toNat) b ∧ Went w w' T T' ∧ ∀ g, v.ownBlock = some g → ¬ T' g) := by
  cases st with
  | lr mo ks =>
    refine (LR.resize_ca w c T mo ks b z hz h).mono ?_
    rintro e w' ⟨v, T', he, hO, hC, hN, hT, hv⟩
    exact ⟨v, T', he, hO, hC, ⟨hN, hT⟩, hv⟩
  | lf ch mo n L =>
    have := (LF.resize_ca w c T mo ch L n z hz h.1).mono (R' := fun e w' => ∃ v T', e = .returned v ∧ Own w' w.heap.size v ((KSt.lf ch mo n L).gone z.toNat) ∧ KCa w' c T' ((KSt.lf ch mo n L).rs z.toNat) b ∧ Went w w' T T' ∧ ∀ g, v.ownBlock = some g → ¬ T' g) (by
      rintro e w' ⟨v, T', he, hO, hC, hN, hT, hv⟩
      exact ⟨v, T', he, hO, ⟨hC, h.2⟩, ⟨hN, turn_lf hT⟩, hv⟩)
    cases ch <;> exact this
  | sr s => exact SR.resize_ca w c T s b h z hz (by omega)
  | ar _ => exact h.elim
end
end Go.Proofs.YtnlckkahkghneaaGreatDoor
