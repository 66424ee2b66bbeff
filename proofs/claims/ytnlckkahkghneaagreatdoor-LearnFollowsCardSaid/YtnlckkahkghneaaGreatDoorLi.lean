/- Who goes for a learner's miss. -/
import Derived.Test.YtnlckkahkghneaaGreatDoorLh
set_option maxRecDepth 20000
namespace Go.Proofs.YtnlckkahkghneaaGreatDoor.LE
open Go.RowKit Go.Maps Go.WideMaps Sg

/-- A key in a block of its own. -/
theorem sbox_new (w : World) (v : Value) (t : TypeId) : (w.alloc (.cells #[v] t)).cell? ⟨w.heap.size, 0, none⟩ = some v := cell_of_row _ _ 0 _ _ _ (heap_alloc_new w _)
theorem gk_drop (H : List (ByteArray × Nat)) (m : Nat) : gk (H.drop m) = (gk H).drop m := by unfold gk; rw [List.map_drop]
theorem evict_any {s : St} (h : Ok s) (hn : s.A.keys ≠ []) : s.A.any = true ∧ s.B.any = true := by
  have a := (KSt.dr_f h.okA).okE
  have b := (KSt.dr_f h.okB).okE
  have hl := h.len
  constructor
  · rw [a]
    cases hk : s.A.keys with
    | nil => exact absurd hk hn
    | cons x xs => rfl
  · rw [b]
    cases hk : s.B.keys with
    | nil => rw [hk] at hl; exact absurd (List.eq_nil_of_length_eq_zero hl) hn
    | cons x xs => rfl
section
variable (w : World) (i : Ix) (S : Sx) (B E : Nat) (L : List (List Nat)) (lane : Int) (s : St) (b : Nat) (h : LT w i S B E L lane s b)
include h
set_option maxHeartbeats 4000000 in
theorem evict_A (hp : s.pick = true) (hne : s.A.keys ≠ []) (hb : b ≤ 900) : Calls Tryz.prog 116 #[.pointer (some ⟨i.l, 0, none⟩)] w (TPost (.tuple #[.string s.evV, .bool true]) w i S B E L lane s.evict (b + 1)) := by
  have hvv : s.evV = s.A.vic := by unfold St.evV; rw [if_pos hp]
  have hev := evict_ok h.ok hne
  have hvA : s.A.vic ∈ s.A.keys := vicA h.ok hne
  have hsz := h.raw.pa.small _ (hvA)
  have hgh := h.ok.dis _ hvA
  have hnA : s.A.vic ∉ gk s.HA := fun e => hgh (List.mem_append_left _ e)
  have hnB : s.A.vic ∉ gk s.HB := fun e => hgh (List.mem_append_right _ e)
  have hany := (evict_any h.ok hne).1
  have hst : s.evict = { s with vs := s.vs.tail, HA := ((s.A.vic, s.clock) :: s.HA).take s.mo, A := s.A.rm s.A.vic, B := s.B.rm s.A.vic } := by unfold St.evict; rw [if_pos hp]
  have hf0 : fOf s.HA s.HB s.A.vic = none := fOf_none.2 hgh
  obtain ⟨v, hv⟩ : ∃ v, v = s.A.vic := ⟨_, rfl⟩
  rw [hvv, ← hv]
  rw [← hv] at hsz hnA hnB hst hf0
  have hd := h.below (FX.bdrew (Below.refl _ _) 1)
  have hE := h.tp.lt
  have hT1 := fun (w1 : World) (hT : DR.Tape w1 B E (DR.adv L lane)) (hg : (w.drewN 1).grownBy w1 (some B)) => hd.tape (s' := { s with vs := s.vs.tail }) hT hg { h.ok with } ⟨h.lim.mo, h.lim.clock, h.lim.asked, h.lim.hits, h.lim.last, h.lim.still⟩ rfl rfl (by rw [DR.lget_adv, if_pos rfl, h.vs])
  have HT1 := Lib.hid (show ∀ w1, DR.Tape w1 B E (DR.adv L lane) → w.drew.grownBy w1 (some B) → LT w1 i S B E (DR.adv L lane) lane { s with vs := s.vs.tail } b ∧ Went w w1 (tblk i S B E) (tblk i S B E) from fun w1 a1 a2 => ⟨hT1 w1 a1 a2, (Went.below ((Below.refl _ _).drew)).trans (Went.same ((grown_turn a2).wide fun k _ e => Or.inr (by have e : k = B := e; omega)))⟩)
  have U := Lib.hid (show Calls Tryz.prog 171 #[.pointer (some ⟨B + 1, 0, none⟩), .int .i64 lane, .int .u64 (s.w : Int)] w.drew (DR.PickAt w.drew B E true (DR.adv L lane)) from DR.pick_at lane (s.w : Int) true (DR.adv L lane) hd.tp (by omega) (by rw [h.vs, Int.toNat_natCast]; exact hp) rfl)
  have c16 := h.ct
  have c17 := h.cl
  have c8 := h.cw
  have LIM := Lib.hid h.lim
  have OK := Lib.hid h.ok
  have HNA := Lib.hid hnA
  have HNB := Lib.hid hnB
  have HSZ := Lib.hid hsz
  have HF0 := Lib.hid hf0
  have HST := Lib.hid hst
  have HEV := Lib.hid hev.1
  have HANY := Lib.hid hany
  have HV := Lib.hid hv
  clear h hd hT1 hvv hev hvA hsz hgh hnA hnB hany hst hf0 hv hp hne hE
  go_enter Tryz.func116, Tryz.ntmps116
  go_wp2_with fail
  go_region_held3 (fun w' => w'.cell? ⟨i.l, 16, none⟩ = some (.pointer (some ⟨B + 1, 0, none⟩)) ∧ w'.cell? ⟨i.l, 17, none⟩ = some (.int .i64 lane) ∧ w'.cell? ⟨i.l, 8, none⟩ = some (.int .u64 (s.w : Int))) (first | (with_reducible exact ⟨y1, y2, y3⟩) | (with_reducible exact ⟨c16, c17, c8⟩) | go_keep)
    ((go_at_call 171; refine U.out.mono ?_; rintro e w1 ⟨rfl, hT, hg⟩; obtain ⟨h1, g1⟩ := HT1.out w1 hT hg; have y1 := h1.ct; have y2 := h1.cl; have y3 : w1.cell? ⟨i.l, 8, none⟩ = some (.int .u64 (s.w : Int)) := h1.cw; have P1 := Lib.hid (And.intro h1 g1); clear h1 g1 hT hg U))
  clear y1 y2 y3 c16 c17 c8 HT1
  have p0 := P1.out.1.p0
  have VV := victim_p w1 (i.r 0) (S 0) s.A b P1.out.1.raw.pa
  rw [← HV.out, HANY.out] at VV
  have VV := Lib.hid VV
  go_wp2_with fail
  refine VV.out.mono ?_
  rintro e w2 ⟨rfl, hB⟩
  have P2 := Lib.hid (And.intro (P1.out.1.below hB) (P1.out.2.trans (Went.below hB)))
  clear hB VV p0 P1
  go_upto_region 5 with fail
  have hx0 := sbox_new w2 (.string v) 9
  have hb3 := (Below.refl w2.heap.size w2).alloc (Nat.le_refl _) (.cells #[.string v] 9)
  have P3 := Lib.hid (And.intro (P2.out.1.below hb3) (P2.out.2.trans (Went.below hb3)))
  have XN := Lib.hid (show ¬ tblk i S B E w2.heap.size from fun e => Nat.lt_irrefl _ (P2.out.1.lt e))
  clear hb3 P2
  generalize w2.heap.size = x at hx0 XN ⊢
  generalize w2.alloc (.cells #[.string v] 9) = w3 at hx0 P3 ⊢
  have BT := Lib.hid (both_r w3 i S (flOf { s with vs := s.vs.tail } B lane) s.A s.B (s.A.rm v) (s.B.rm v) (gk s.HA) (gk s.HB) (fOf s.HA s.HB) (fun _ => b) (fun _ => b) 172 x (.string v) P3.out.1.raw hx0 (fun e => XN.out (Or.inl e)) cRmEE (fun _ _ => Nat.le_refl _)
    (fun w1 p U hP hx => cRmE w1 p U s.A b x v hP hx HSZ.out) (fun w1 p U hP hx => cRmE w1 p U s.B b x v hP hx HSZ.out))
  clear hx0
  go_wp2_with fail
  refine BT.out.mono ?_
  rintro e w4 ⟨rfl, S4, r4, g4, n4, x4⟩
  have R4 := Lib.hid (And.intro r4 (And.intro g4 n4))
  have k4 : w4.cell? ⟨i.l, 4, none⟩ = some (.pointer (some ⟨i.r 2, 0, none⟩)) := r4.c 4 rfl
  have hxl := World.block_lt_of_cell? _ _ x4
  have rd := r4.below (show Below w4.heap.size w4 w4.drew from (Below.refl _ _).drew)
  have FR := Lib.hid (ls_front_new w4.drew (i.r 2) (S4 2) (gk s.HA) b rd.ra v (b + 1) HNA.out HSZ.out (by omega) (by omega) (by have := rd.ra.len; omega))
  have ON := Lib.hid (fun (e : Ending) (w5 : World) (hp : LPost (.tuple #[]) w4.drew (i.r 2) (S4 2) (v :: gk s.HA) (b + 1) e w5) => rd.onG (b' := fun j => if j = 4 then b else b + 1) hp (by simp) (fun j _ _ => by show b ≤ (if j = 4 then b else b + 1); split <;> omega))
  clear r4 g4 n4 rd BT
  go_wp2_with fail
  go_region_held3 (fun w' => w'.cell? ⟨i.l, 4, none⟩ = some (.pointer (some ⟨i.r 2, 0, none⟩)) ∧ w'.cell? ⟨x, 0, none⟩ = some (.string v)) (first | (with_reducible exact ⟨z1, z2⟩) | (with_reducible exact ⟨k4, x4⟩) | go_keep)
    ((go_at_call 173; refine FR.out.mono ?_; intro e w5 hp; obtain ⟨rfl, S5, r5, g5⟩ := ON.out e w5 hp; have o5 := SR.went_out g5 (show x < w4.drew.heap.size from hxl) R4.out.2.2; have z1 : w5.cell? ⟨i.l, 4, none⟩ = some (.pointer (some ⟨i.r 2, 0, none⟩)) := r5.c 4 rfl; have z2 : w5.cell? ⟨x, 0, none⟩ = some (.string v) := (World.cell?_of_block (a := ⟨x, 0, none⟩) o5.1).trans x4; have R5 := Lib.hid (And.intro r5 (And.intro ((R4.out.2.1.trans (Went.below (show Below w4.heap.size w4 w4.drew from (Below.refl _ _).drew))).trans g5) o5.2)); clear hp r5 g5 o5 FR))
  clear z1 k4 x4 ON
  have k6 : w5.cell? ⟨i.l, 6, none⟩ = some (.map (some (i.r 4))) := R5.out.1.c 6 rfl
  have k7 : w5.cell? ⟨i.l, 7, none⟩ = some (.int .i64 (s.clock : Int)) := R5.out.1.c 7 rfl
  have rd := R5.out.1.below (show Below w5.heap.size w5 w5.drew from (Below.refl _ _).drew)
  have hxl5 := World.block_lt_of_cell? _ _ z2
  obtain ⟨w6, hup, hp6⟩ := rd.keep (b' := fun _ => b + 1) HSZ.out (by simp; omega) HF0.out (t := s.clock) (by have := LIM.out.clock; omega) (fun j _ _ => by show (if j = 4 then b else b + 1) ≤ b + 1; split <;> omega) (by simp)
  obtain ⟨_, S6, r6, g6⟩ := hp6
  have o6 := SR.went_out g6 (show x < w5.drew.heap.size from hxl5) R5.out.2.2
  have x6 : w6.cell? ⟨x, 0, none⟩ = some (.string v) := (World.cell?_of_block (a := ⟨x, 0, none⟩) o6.1).trans z2
  have R6 := Lib.hid (And.intro r6 (And.intro ((R5.out.2.1.trans (Went.below (show Below w5.heap.size w5 w5.drew from (Below.refl _ _).drew))).trans g6) o6.2))
  clear rd r6 g6 o6
  go_wp2_with fail
  go_region
  have CU := Lib.hid (cut_r0 w6 i S6 (flOf { s with vs := s.vs.tail } B lane) (s.A.rm v) (s.B.rm v) (v :: gk s.HA) (gk s.HB) (fput (fOf s.HA s.HB) v s.clock) _ R6.out.1)
  clear hup k6 k7 z2 hxl5
  go_wp2_with fail
  refine CU.out.mono ?_
  rintro e w7 ⟨rfl, S7, r7, g7⟩
  have o7 := SR.went_out g7 (World.block_lt_of_cell? _ _ x6) R6.out.2.2
  have x7 : w7.cell? ⟨x, 0, none⟩ = some (.string v) := (World.cell?_of_block (a := ⟨x, 0, none⟩) o7.1).trans x6
  have FIN := Lib.hid (P3.out.1.went (s' := s.evict) (b' := b + 1) (w' := w7) (S1 := S7) (by
    rw [HST.out]
    have e1 : pOf ({ s with vs := s.vs.tail, HA := ((v, s.clock) :: s.HA).take s.mo, A := s.A.rm v, B := s.B.rm v }) = pts (s.A.rm v) (s.B.rm v) ((v :: gk s.HA).take s.mo) (gk s.HB) (fcut (fput (fOf s.HA s.HB) v s.clock) ((v :: gk s.HA).drop s.mo)) := by
      unfold pOf
      have nd : (gk ((v, s.clock) :: s.HA) ++ gk s.HB).Nodup := List.nodup_cons.2 ⟨fun e => (List.mem_append.1 e).elim HNA.out HNB.out, OK.out.nd⟩
      rw [fOf_takeA nd, gk_take, gk_drop]
      rw [fOf_consA]
      rfl
    rw [e1]
    exact r7) ((R6.out.2.1).trans g7) HEV.out ⟨by rw [HST.out]; exact LIM.out.mo, by rw [HST.out]; have := LIM.out.clock; show s.clock ≤ b + 1; omega, by rw [HST.out]; have := LIM.out.asked; show s.asked ≤ b + 1; omega, by rw [HST.out]; have := LIM.out.hits; show s.hits ≤ b + 1; omega, by rw [HST.out]; have := LIM.out.last; show s.last ≤ b + 1; omega, by rw [HST.out]; exact LIM.out.still⟩ (by rw [HST.out]))
  have G3 := Lib.hid P3.out.2
  clear r7 g7 o7 x6 R6 R5 R4 CU P3
  go_wp2_with fail
  go_ret2
  exact ⟨rfl, S7, DR.adv L lane, FIN.out.1, fun j hj => by rw [DR.lget_adv, if_neg hj], G3.out.trans FIN.out.2⟩
set_option maxHeartbeats 4000000 in
theorem evict_B (hp : s.pick = false) (hne : s.A.keys ≠ []) (hb : b ≤ 900) : Calls Tryz.prog 116 #[.pointer (some ⟨i.l, 0, none⟩)] w (TPost (.tuple #[.string s.evV, .bool true]) w i S B E L lane s.evict (b + 1)) := by
  have hvv : s.evV = s.B.vic := by unfold St.evV; rw [if_neg (by rw [hp]; simp)]
  have hev := evict_ok h.ok hne
  have hvA : s.B.vic ∈ s.A.keys := vicB h.ok hne
  have hsz := h.raw.pb.small _ ((h.ok.mem _).1 hvA)
  have hgh := h.ok.dis _ hvA
  have hnA : s.B.vic ∉ gk s.HA := fun e => hgh (List.mem_append_left _ e)
  have hnB : s.B.vic ∉ gk s.HB := fun e => hgh (List.mem_append_right _ e)
  have hany := (evict_any h.ok hne).2
  have hst : s.evict = { s with vs := s.vs.tail, HB := ((s.B.vic, s.clock) :: s.HB).take s.mo, A := s.A.rm s.B.vic, B := s.B.rm s.B.vic } := by unfold St.evict; rw [if_neg (by rw [hp]; simp)]
  have hf0 : fOf s.HA s.HB s.B.vic = none := fOf_none.2 hgh
  obtain ⟨v, hv⟩ : ∃ v, v = s.B.vic := ⟨_, rfl⟩
  rw [hvv, ← hv]
  rw [← hv] at hsz hnA hnB hst hf0
  have hd := h.below (FX.bdrew (Below.refl _ _) 1)
  have hE := h.tp.lt
  have hT1 := fun (w1 : World) (hT : DR.Tape w1 B E (DR.adv L lane)) (hg : (w.drewN 1).grownBy w1 (some B)) => hd.tape (s' := { s with vs := s.vs.tail }) hT hg { h.ok with } ⟨h.lim.mo, h.lim.clock, h.lim.asked, h.lim.hits, h.lim.last, h.lim.still⟩ rfl rfl (by rw [DR.lget_adv, if_pos rfl, h.vs])
  have HT1 := Lib.hid (show ∀ w1, DR.Tape w1 B E (DR.adv L lane) → w.drew.grownBy w1 (some B) → LT w1 i S B E (DR.adv L lane) lane { s with vs := s.vs.tail } b ∧ Went w w1 (tblk i S B E) (tblk i S B E) from fun w1 a1 a2 => ⟨hT1 w1 a1 a2, (Went.below ((Below.refl _ _).drew)).trans (Went.same ((grown_turn a2).wide fun k _ e => Or.inr (by have e : k = B := e; omega)))⟩)
  have U := Lib.hid (show Calls Tryz.prog 171 #[.pointer (some ⟨B + 1, 0, none⟩), .int .i64 lane, .int .u64 (s.w : Int)] w.drew (DR.PickAt w.drew B E false (DR.adv L lane)) from DR.pick_at lane (s.w : Int) false (DR.adv L lane) hd.tp (by omega) (by rw [h.vs, Int.toNat_natCast]; exact hp) rfl)
  have c16 := h.ct
  have c17 := h.cl
  have c8 := h.cw
  have LIM := Lib.hid h.lim
  have OK := Lib.hid h.ok
  have HNA := Lib.hid hnA
  have HNB := Lib.hid hnB
  have HSZ := Lib.hid hsz
  have HF0 := Lib.hid hf0
  have HST := Lib.hid hst
  have HEV := Lib.hid hev.1
  have HANY := Lib.hid hany
  have HV := Lib.hid hv
  clear h hd hT1 hvv hev hvA hsz hgh hnA hnB hany hst hf0 hv hp hne hE
  go_enter Tryz.func116, Tryz.ntmps116
  go_wp2_with fail
  go_region_held3 (fun w' => w'.cell? ⟨i.l, 16, none⟩ = some (.pointer (some ⟨B + 1, 0, none⟩)) ∧ w'.cell? ⟨i.l, 17, none⟩ = some (.int .i64 lane) ∧ w'.cell? ⟨i.l, 8, none⟩ = some (.int .u64 (s.w : Int))) (first | (with_reducible exact ⟨y1, y2, y3⟩) | (with_reducible exact ⟨c16, c17, c8⟩) | go_keep)
    ((go_at_call 171; refine U.out.mono ?_; rintro e w1 ⟨rfl, hT, hg⟩; obtain ⟨h1, g1⟩ := HT1.out w1 hT hg; have y1 := h1.ct; have y2 := h1.cl; have y3 : w1.cell? ⟨i.l, 8, none⟩ = some (.int .u64 (s.w : Int)) := h1.cw; have P1 := Lib.hid (And.intro h1 g1); clear h1 g1 hT hg U))
  clear y1 y2 y3 c16 c17 c8 HT1
  have p0 := P1.out.1.p1
  have VV := victim_p w1 (i.r 1) (S 1) s.B b P1.out.1.raw.pb
  rw [← HV.out, HANY.out] at VV
  have VV := Lib.hid VV
  go_wp2_with fail
  refine VV.out.mono ?_
  rintro e w2 ⟨rfl, hB⟩
  have P2 := Lib.hid (And.intro (P1.out.1.below hB) (P1.out.2.trans (Went.below hB)))
  clear hB VV p0 P1
  go_upto_region 5 with fail
  have hx0 := sbox_new w2 (.string v) 9
  have hb3 := (Below.refl w2.heap.size w2).alloc (Nat.le_refl _) (.cells #[.string v] 9)
  have P3 := Lib.hid (And.intro (P2.out.1.below hb3) (P2.out.2.trans (Went.below hb3)))
  have XN := Lib.hid (show ¬ tblk i S B E w2.heap.size from fun e => Nat.lt_irrefl _ (P2.out.1.lt e))
  clear hb3 P2
  generalize w2.heap.size = x at hx0 XN ⊢
  generalize w2.alloc (.cells #[.string v] 9) = w3 at hx0 P3 ⊢
  have BT := Lib.hid (both_r w3 i S (flOf { s with vs := s.vs.tail } B lane) s.A s.B (s.A.rm v) (s.B.rm v) (gk s.HA) (gk s.HB) (fOf s.HA s.HB) (fun _ => b) (fun _ => b) 172 x (.string v) P3.out.1.raw hx0 (fun e => XN.out (Or.inl e)) cRmEE (fun _ _ => Nat.le_refl _)
    (fun w1 p U hP hx => cRmE w1 p U s.A b x v hP hx HSZ.out) (fun w1 p U hP hx => cRmE w1 p U s.B b x v hP hx HSZ.out))
  clear hx0
  go_wp2_with fail
  refine BT.out.mono ?_
  rintro e w4 ⟨rfl, S4, r4, g4, n4, x4⟩
  have R4 := Lib.hid (And.intro r4 (And.intro g4 n4))
  have k4 : w4.cell? ⟨i.l, 5, none⟩ = some (.pointer (some ⟨i.r 3, 0, none⟩)) := r4.c 5 rfl
  have hxl := World.block_lt_of_cell? _ _ x4
  have rd := r4.below (show Below w4.heap.size w4 w4.drew from (Below.refl _ _).drew)
  have FR := Lib.hid (ls_front_new w4.drew (i.r 3) (S4 3) (gk s.HB) b rd.rb v (b + 1) HNB.out HSZ.out (by omega) (by omega) (by have := rd.rb.len; omega))
  have ON := Lib.hid (fun (e : Ending) (w5 : World) (hp : LPost (.tuple #[]) w4.drew (i.r 3) (S4 3) (v :: gk s.HB) (b + 1) e w5) => rd.onH (b' := fun j => if j = 4 then b else b + 1) hp (by simp) (fun j _ _ => by show b ≤ (if j = 4 then b else b + 1); split <;> omega))
  clear r4 g4 n4 rd BT
  go_wp2_with fail
  go_region_held3 (fun w' => w'.cell? ⟨i.l, 5, none⟩ = some (.pointer (some ⟨i.r 3, 0, none⟩)) ∧ w'.cell? ⟨x, 0, none⟩ = some (.string v)) (first | (with_reducible exact ⟨z1, z2⟩) | (with_reducible exact ⟨k4, x4⟩) | go_keep)
    ((go_at_call 173; refine FR.out.mono ?_; intro e w5 hp; obtain ⟨rfl, S5, r5, g5⟩ := ON.out e w5 hp; have o5 := SR.went_out g5 (show x < w4.drew.heap.size from hxl) R4.out.2.2; have z1 : w5.cell? ⟨i.l, 5, none⟩ = some (.pointer (some ⟨i.r 3, 0, none⟩)) := r5.c 5 rfl; have z2 : w5.cell? ⟨x, 0, none⟩ = some (.string v) := (World.cell?_of_block (a := ⟨x, 0, none⟩) o5.1).trans x4; have R5 := Lib.hid (And.intro r5 (And.intro ((R4.out.2.1.trans (Went.below (show Below w4.heap.size w4 w4.drew from (Below.refl _ _).drew))).trans g5) o5.2)); clear hp r5 g5 o5 FR))
  clear z1 k4 x4 ON
  have k6 : w5.cell? ⟨i.l, 6, none⟩ = some (.map (some (i.r 4))) := R5.out.1.c 6 rfl
  have k7 : w5.cell? ⟨i.l, 7, none⟩ = some (.int .i64 (s.clock : Int)) := R5.out.1.c 7 rfl
  have rd := R5.out.1.below (show Below w5.heap.size w5 w5.drew from (Below.refl _ _).drew)
  have hxl5 := World.block_lt_of_cell? _ _ z2
  obtain ⟨w6, hup, hp6⟩ := rd.keep (b' := fun _ => b + 1) HSZ.out (by simp; omega) HF0.out (t := s.clock) (by have := LIM.out.clock; omega) (fun j _ _ => by show (if j = 4 then b else b + 1) ≤ b + 1; split <;> omega) (by simp)
  obtain ⟨_, S6, r6, g6⟩ := hp6
  have o6 := SR.went_out g6 (show x < w5.drew.heap.size from hxl5) R5.out.2.2
  have x6 : w6.cell? ⟨x, 0, none⟩ = some (.string v) := (World.cell?_of_block (a := ⟨x, 0, none⟩) o6.1).trans z2
  have R6 := Lib.hid (And.intro r6 (And.intro ((R5.out.2.1.trans (Went.below (show Below w5.heap.size w5 w5.drew from (Below.refl _ _).drew))).trans g6) o6.2))
  clear rd r6 g6 o6
  go_wp2_with fail
  go_region
  have CU := Lib.hid (cut_r1 w6 i S6 (flOf { s with vs := s.vs.tail } B lane) (s.A.rm v) (s.B.rm v) (gk s.HA) (v :: gk s.HB) (fput (fOf s.HA s.HB) v s.clock) _ R6.out.1)
  clear hup k6 k7 z2 hxl5
  go_wp2_with fail
  refine CU.out.mono ?_
  rintro e w7 ⟨rfl, S7, r7, g7⟩
  have o7 := SR.went_out g7 (World.block_lt_of_cell? _ _ x6) R6.out.2.2
  have x7 : w7.cell? ⟨x, 0, none⟩ = some (.string v) := (World.cell?_of_block (a := ⟨x, 0, none⟩) o7.1).trans x6
  have FIN := Lib.hid (P3.out.1.went (s' := s.evict) (b' := b + 1) (w' := w7) (S1 := S7) (by
    rw [HST.out]
    have e1 : pOf ({ s with vs := s.vs.tail, HB := ((v, s.clock) :: s.HB).take s.mo, A := s.A.rm v, B := s.B.rm v }) = pts (s.A.rm v) (s.B.rm v) (gk s.HA) ((v :: gk s.HB).take s.mo) (fcut (fput (fOf s.HA s.HB) v s.clock) ((v :: gk s.HB).drop s.mo)) := by
      unfold pOf
      have nd : (gk s.HA ++ gk ((v, s.clock) :: s.HB)).Nodup := (List.perm_middle.nodup_iff).2 (List.nodup_cons.2 ⟨fun e => (List.mem_append.1 e).elim HNA.out HNB.out, OK.out.nd⟩)
      rw [fOf_takeB nd, gk_take, gk_drop]
      rw [fOf_consB _ HNA.out]
      rfl
    rw [e1]
    exact r7) ((R6.out.2.1).trans g7) HEV.out ⟨by rw [HST.out]; exact LIM.out.mo, by rw [HST.out]; have := LIM.out.clock; show s.clock ≤ b + 1; omega, by rw [HST.out]; have := LIM.out.asked; show s.asked ≤ b + 1; omega, by rw [HST.out]; have := LIM.out.hits; show s.hits ≤ b + 1; omega, by rw [HST.out]; have := LIM.out.last; show s.last ≤ b + 1; omega, by rw [HST.out]; exact LIM.out.still⟩ (by rw [HST.out]))
  have G3 := Lib.hid P3.out.2
  clear r7 g7 o7 x6 R6 R5 R4 CU P3
  go_wp2_with fail
  go_ret2
  exact ⟨rfl, S7, DR.adv L lane, FIN.out.1, fun j hj => by rw [DR.lget_adv, if_neg hj], G3.out.trans FIN.out.2⟩
end
end Go.Proofs.YtnlckkahkghneaaGreatDoor.LE
