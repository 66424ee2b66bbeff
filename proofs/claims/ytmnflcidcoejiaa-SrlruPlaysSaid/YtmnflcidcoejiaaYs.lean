/- The contracts of a cache's Request, way by way. -/
import Derived.Test.YtmnflcidcoejiaaYr
import Derived.Deep.CutBlock
import Derived.Deep.DeepCutAuto
namespace Go.Proofs.Ytmnflcidcoejiaa
open Go.RowKit Sg

def upT (mo t : Nat) : Nat := if t < mo then t + 1 else t
def dnT (t : Nat) : Nat := if 1 < t then t - 1 else t
section
variable (w : World) (i : Ix) (S : Sx) (mo t : Nat) (N A G : List ByteArray) (f : Told) (b : Nat) (key : ByteArray) (r : Raw w i S mo t N A G f b) (hs : key.size ≤ maxLen) (hb : b ≤ 980)
include r
theorem raise_any : Calls Try.prog 47 #[.pointer (some ⟨i.c, 0, none⟩)] w (RPost (.tuple #[]) w i S mo (upT mo t) N A G f b) := by
  unfold upT
  by_cases h : t < mo
  · rw [if_pos h]; exact raiseY w i S mo t N A G f b r h
  · rw [if_neg h]; exact raiseY_no w i S mo t N A G f b r h
theorem lower_any : Calls Try.prog 50 #[.pointer (some ⟨i.c, 0, none⟩)] w (RPost (.tuple #[]) w i S mo (dnT t) N A G f b) := by
  unfold dnT
  by_cases h : 1 < t
  · rw [if_pos h]; exact lowerY w i S mo t N A G f b r h
  · rw [if_neg h]; exact lowerY_no w i S mo t N A G f b r h
include hs
/-- What Request asks first, in the memory that it has then. -/
theorem has_mid (h : Bool) (hh : (inn N key || inn A key) = h) : Calls Try.prog 29 #[.pointer (some ⟨i.c, 0, none⟩), .string key] ((w.alloc (pObj i)).alloc (sObj false ⟨#[]⟩ false)) (BoolPost h ((w.alloc (pObj i)).alloc (sObj false ⟨#[]⟩ false))) := by
  have b2 := ((Below.refl w.heap.size w).alloc (Nat.le_refl _) (pObj i)).alloc (by simp) (sObj false ⟨#[]⟩ false)
  have := hasY _ i S mo t N A G f b (r.below b2) key hs
  rw [hh] at this
  exact this
theorem req_zero (hm : mo = 0) (h1 : inn N key = false) (h2 : inn A key = false) :
    Calls Try.prog 13 #[.pointer (some ⟨i.c, 0, none⟩), .string key] w (RPost (.agg #[.bool false, .string ⟨#[]⟩, .bool false]) w i S mo t N A G f b) := by
  have U := Lib.hid (has_mid w i S mo t N A G f b key r hs false (by rw [h1, h2]; rfl))
  have M0 := Lib.hid (Mid.start r false)
  have e9 : ((mo : Int) == 0) = true := by rw [hm]; rfl
  clear r hm h1 h2
  go_enter Try.func13, Try.ntmps13
  go_wp2_with fail
  refine U.out.mono ?_
  rintro e w1 ⟨rfl, rfl⟩
  go_upto_region 2 with fail
  generalize ((w.alloc (pObj i)).alloc (sObj false ⟨#[]⟩ false)).alloc (sObj false ⟨#[]⟩ false) = W0 at M0 ⊢
  have K0 := M0.out.cb.cell
  obtain ⟨c0, c1, c2, c3, c4, c5⟩ := M0.out.raw.cells
  have F := Lib.hid M0.out.out
  obtain ⟨⟨s0, s1, s2⟩, ⟨r0, r1, r2⟩, g0, g1, g2⟩ := M0.out.six
  clear M0
  go_wp2_with fail
  refine bodyPost_ret (results_c rfl _ _ _ ⟨w.heap.size + 1, 0, none⟩ _ rfl (load_step F.out.1)) rfl ?_
  exact F.out.2
include hb
theorem req_A (hm : mo ≠ 0) (h1 : inn N key = false) (h2 : inn A key = true) (hl : A.length ≤ b) :
    Calls Try.prog 13 #[.pointer (some ⟨i.c, 0, none⟩), .string key] w (RPost (.agg #[.bool true, .string ⟨#[]⟩, .bool false]) w i S mo t N (key :: rem A key) G f (b + 1)) := by
  have U := Lib.hid (has_mid w i S mo t N A G f b key r hs true (by rw [h1, h2]; rfl))
  have M0 := Lib.hid (Mid.start r true)
  have e9 : ((mo : Int) == 0) = false := by simp; omega
  have e8 : (mo == 0) = false := by simp; omega
  have V := ls_has _ i.a S.a A b M0.out.raw.a key hs
  rw [h2] at V
  have V := Lib.hid V
  have Z := Lib.hid (ls_front _ i.a S.a A b M0.out.raw.a key (b + 1) hs (by omega) (by omega) (by have := rem_le A key; omega))
  clear r hm h1 h2
  go_enter Try.func13, Try.ntmps13
  go_wp2_with fail
  refine U.out.mono ?_
  rintro e w1 ⟨rfl, rfl⟩
  go_upto_region 2 with fail
  generalize ((w.alloc (pObj i)).alloc (sObj false ⟨#[]⟩ false)).alloc (sObj true ⟨#[]⟩ false) = W0 at M0 V Z ⊢
  have K0 := M0.out.cb.cell
  obtain ⟨c0, c1, c2, c3, c4, c5⟩ := M0.out.raw.cells
  go_wp2_with fail
  refine V.out.mono ?_
  rintro e w1 ⟨rfl, rfl⟩
  go_wp2_with fail
  refine Z.out.mono ?_
  intro e W1 hp
  obtain ⟨rfl, S1, m1⟩ := M0.out.op (M0.out.raw.onA hp (by omega))
  have M1 := Lib.hid m1
  clear hp m1 M0 V Z K0 c0 c1 c2 c3 c4 c5
  have F := Lib.hid M1.out.out
  obtain ⟨⟨s0, s1, s2⟩, ⟨r0, r1, r2⟩, g0, g1, g2⟩ := M1.out.six
  clear M1
  go_wp2_with fail
  refine bodyPost_ret (results_c rfl _ _ _ ⟨w.heap.size + 1, 0, none⟩ _ rfl (load_step F.out.1)) rfl ?_
  exact F.out.2
theorem req_No (hm : mo ≠ 0) (h1 : inn N key = true) (h2 : inn A key = false) (hf : f key = true) (nd : (A ++ N).Nodup) (hl : A.length + N.length ≤ b) :
    Calls Try.prog 13 #[.pointer (some ⟨i.c, 0, none⟩), .string key] w (RPost (.agg #[.bool true, .string ⟨#[]⟩, .bool false]) w i S mo (upT mo t) ((key :: A).drop (mx (upT mo t)) ++ rem N key) ((key :: A).take (mx (upT mo t))) G (tput f key) (b + 1)) := by
  have U := Lib.hid (has_mid w i S mo t N A G f b key r hs true (by rw [h1, h2]; rfl))
  have M0 := Lib.hid (Mid.start r true)
  have e9 : ((mo : Int) == 0) = false := by simp; omega
  have e8 : (mo == 0) = false := by simp; omega
  have V := ls_has _ i.a S.a A b M0.out.raw.a key hs
  rw [h2] at V
  have V := Lib.hid V
  have V2 := ls_has _ i.n S.n N b M0.out.raw.n key hs
  rw [h1] at V2
  have V2 := Lib.hid V2
  have V3 := isOldY _ i S mo t N A G f b M0.out.raw key hs
  rw [hf] at V3
  have V3 := Lib.hid V3
  have HNO := Lib.hid (show key ∉ A ++ rem N key from fun h => by
    rcases List.mem_append.1 h with h | h
    · exact inn_no.1 h2 h
    · exact rem_not h)
  have ND := Lib.hid (show (A ++ rem N key).Nodup from nd.sublist (List.Sublist.append_left List.filter_sublist A))
  have HLE := Lib.hid (show A.length + (rem N key).length + 1 ≤ b + 1 by have := rem_le N key; omega)
  clear r hm h1 h2 hf nd
  go_enter Try.func13, Try.ntmps13
  go_wp2_with fail
  refine U.out.mono ?_
  rintro e w1 ⟨rfl, rfl⟩
  go_upto_region 2 with fail
  generalize ((w.alloc (pObj i)).alloc (sObj false ⟨#[]⟩ false)).alloc (sObj true ⟨#[]⟩ false) = W0 at M0 V V2 V3 ⊢
  have K0 := M0.out.cb.cell
  obtain ⟨c0, c1, c2, c3, c4, c5⟩ := M0.out.raw.cells
  go_wp2_with fail
  refine V.out.mono ?_
  rintro e w1 ⟨rfl, rfl⟩
  go_wp2_with fail
  refine V2.out.mono ?_
  rintro e w1 ⟨rfl, rfl⟩
  go_wp2_with fail
  refine V3.out.mono ?_
  rintro e W1 ⟨rfl, hB⟩
  have M1 := Lib.hid (M0.out.below hB)
  have K1 := M1.out.cb.cell
  clear hB M0 K0 c0 c1 c2 c3 c4 c5 V V2 V3
  obtain ⟨c0, c1, c2, c3, c4, c5⟩ := M1.out.raw.cells
  go_wp2_with fail
  refine (raise_any W1 i S mo t N A G f b M1.out.raw).mono ?_
  intro e W2 hp
  obtain ⟨rfl, S2, m2⟩ := M1.out.op hp
  have M2 := Lib.hid m2
  have K2 := M2.out.cb.cell
  clear hp m2 M1 K1 c0 c1 c2 c3 c4 c5
  obtain ⟨c0, c1, c2, c3, c4, c5⟩ := M2.out.raw.cells
  go_wp2_with fail
  refine (ls_remove W2 i.n S2.n N b M2.out.raw.n key hs).mono ?_
  intro e W3 hp
  obtain ⟨rfl, S3, m3⟩ := M2.out.op (M2.out.raw.onN hp (Nat.le_refl _))
  have M3 := Lib.hid m3
  have K3 := M3.out.cb.cell
  clear hp m3 M2 K2 c0 c1 c2 c3 c4 c5
  go_wp2_with fail
  refine (promoteY W3 i S3 mo (upT mo t) (rem N key) A G f b key M3.out.raw hs HNO.out ND.out hb HLE.out).mono ?_
  intro e W4 hp
  obtain ⟨rfl, S4, m4⟩ := M3.out.op hp
  have M4 := Lib.hid m4
  clear hp m4 M3 K3
  have F := Lib.hid M4.out.out
  obtain ⟨⟨s0, s1, s2⟩, ⟨r0, r1, r2⟩, g0, g1, g2⟩ := M4.out.six
  clear M4
  go_wp2_with fail
  refine bodyPost_ret (results_c rfl _ _ _ ⟨w.heap.size + 1, 0, none⟩ _ rfl (load_step F.out.1)) rfl ?_
  exact F.out.2
theorem req_Nn (hm : mo ≠ 0) (h1 : inn N key = true) (h2 : inn A key = false) (hf : f key = false) (nd : (A ++ N).Nodup) (hl : A.length + N.length ≤ b) :
    Calls Try.prog 13 #[.pointer (some ⟨i.c, 0, none⟩), .string key] w (RPost (.agg #[.bool true, .string ⟨#[]⟩, .bool false]) w i S mo t ((key :: A).drop (mx t) ++ rem N key) ((key :: A).take (mx t)) G (tput f key) (b + 1)) := by
  have U := Lib.hid (has_mid w i S mo t N A G f b key r hs true (by rw [h1, h2]; rfl))
  have M0 := Lib.hid (Mid.start r true)
  have e9 : ((mo : Int) == 0) = false := by simp; omega
  have e8 : (mo == 0) = false := by simp; omega
  have V := ls_has _ i.a S.a A b M0.out.raw.a key hs
  rw [h2] at V
  have V := Lib.hid V
  have V2 := ls_has _ i.n S.n N b M0.out.raw.n key hs
  rw [h1] at V2
  have V2 := Lib.hid V2
  have V3 := isOldY _ i S mo t N A G f b M0.out.raw key hs
  rw [hf] at V3
  have V3 := Lib.hid V3
  have HNO := Lib.hid (show key ∉ A ++ rem N key from fun h => by
    rcases List.mem_append.1 h with h | h
    · exact inn_no.1 h2 h
    · exact rem_not h)
  have ND := Lib.hid (show (A ++ rem N key).Nodup from nd.sublist (List.Sublist.append_left List.filter_sublist A))
  have HLE := Lib.hid (show A.length + (rem N key).length + 1 ≤ b + 1 by have := rem_le N key; omega)
  clear r hm h1 h2 hf nd
  go_enter Try.func13, Try.ntmps13
  go_wp2_with fail
  refine U.out.mono ?_
  rintro e w1 ⟨rfl, rfl⟩
  go_upto_region 2 with fail
  generalize ((w.alloc (pObj i)).alloc (sObj false ⟨#[]⟩ false)).alloc (sObj true ⟨#[]⟩ false) = W0 at M0 V V2 V3 ⊢
  have K0 := M0.out.cb.cell
  obtain ⟨c0, c1, c2, c3, c4, c5⟩ := M0.out.raw.cells
  go_wp2_with fail
  refine V.out.mono ?_
  rintro e w1 ⟨rfl, rfl⟩
  go_wp2_with fail
  refine V2.out.mono ?_
  rintro e w1 ⟨rfl, rfl⟩
  go_wp2_with fail
  refine V3.out.mono ?_
  rintro e W1 ⟨rfl, hB⟩
  have M1 := Lib.hid (M0.out.below hB)
  have K1 := M1.out.cb.cell
  clear hB M0 K0 c0 c1 c2 c3 c4 c5 V V2 V3
  obtain ⟨c0, c1, c2, c3, c4, c5⟩ := M1.out.raw.cells
  go_wp2_with fail
  refine (ls_remove W1 i.n S.n N b M1.out.raw.n key hs).mono ?_
  intro e W3 hp
  obtain ⟨rfl, S3, m3⟩ := M1.out.op (M1.out.raw.onN hp (Nat.le_refl _))
  have M3 := Lib.hid m3
  have K3 := M3.out.cb.cell
  clear hp m3 M1 K1 c0 c1 c2 c3 c4 c5
  go_wp2_with fail
  refine (promoteY W3 i S3 mo t (rem N key) A G f b key M3.out.raw hs HNO.out ND.out hb HLE.out).mono ?_
  intro e W4 hp
  obtain ⟨rfl, S4, m4⟩ := M3.out.op hp
  have M4 := Lib.hid m4
  clear hp m4 M3 K3
  have F := Lib.hid M4.out.out
  obtain ⟨⟨s0, s1, s2⟩, ⟨r0, r1, r2⟩, g0, g1, g2⟩ := M4.out.six
  clear M4
  go_wp2_with fail
  refine bodyPost_ret (results_c rfl _ _ _ ⟨w.heap.size + 1, 0, none⟩ _ rfl (load_step F.out.1)) rfl ?_
  exact F.out.2
theorem req_Go (m : Nat) (hm : mo = m + 1) (h1 : inn N key = false) (h2 : inn A key = false) (h3 : inn G key = true) (hf : f key = true) (nd : (A ++ N ++ G).Nodup) (hl : A.length + N.length + G.length ≤ b) :
    Calls Try.prog 13 #[.pointer (some ⟨i.c, 0, none⟩), .string key] w (RPost (.agg #[.bool false, .string (vicOf ((A ++ N).reverse.take (A.length + N.length - m))), .bool (!((A ++ N).reverse.take (A.length + N.length - m)).isEmpty)]) w i S mo t ((key :: (A.take (A.length + N.length - (A.length + N.length - m)))).drop (mx t) ++ (N.take (N.length - (A.length + N.length - m)))) ((key :: (A.take (A.length + N.length - (A.length + N.length - m)))).take (mx t)) (((A ++ N).drop (A.length + N.length - (A.length + N.length - m)) ++ rem G key).take mo) (tput (tcut f (((A ++ N).drop (A.length + N.length - (A.length + N.length - m)) ++ rem G key).drop mo)) key) (b + 1)) := by
  have U := Lib.hid (has_mid w i S mo t N A G f b key r hs false (by rw [h1, h2]; rfl))
  have M0 := Lib.hid (Mid.start r false)
  have e9 : ((mo : Int) == 0) = false := by simp; omega
  have e8 : (mo == 0) = false := by simp; omega
  have V := ls_has _ i.a S.a A b M0.out.raw.a key hs
  rw [h2] at V
  have V := Lib.hid V
  have V2 := ls_has _ i.n S.n N b M0.out.raw.n key hs
  rw [h1] at V2
  have V2 := Lib.hid V2
  have V4 := ls_has _ i.g S.g G b M0.out.raw.g key hs
  rw [h3] at V4
  have V4 := Lib.hid V4
  have V3 := isOldY _ i S mo t N A G f b M0.out.raw key hs
  rw [hf] at V3
  have V3 := Lib.hid V3
  have HNO := Lib.hid (show key ∉ (A.take (A.length + N.length - (A.length + N.length - m))) ++ (N.take (N.length - (A.length + N.length - m))) from fun h => by
    rcases List.mem_append.1 h with h | h
    · exact inn_no.1 h2 (List.mem_of_mem_take h)
    · exact inn_no.1 h1 (List.mem_of_mem_take h))
  have ND := Lib.hid (show ((A.take (A.length + N.length - (A.length + N.length - m))) ++ (N.take (N.length - (A.length + N.length - m)))).Nodup from (List.nodup_append.1 nd).1.sublist (List.Sublist.append (List.take_sublist _ _) (List.take_sublist _ _)))
  have ND2 := Lib.hid (show (A ++ N ++ rem G key).Nodup from nd.sublist (List.Sublist.append_left List.filter_sublist _))
  have HL2 := Lib.hid (show A.length + N.length + (rem G key).length ≤ b by have := rem_le G key; omega)
  have HLE := Lib.hid (show ((A.take (A.length + N.length - (A.length + N.length - m)))).length + ((N.take (N.length - (A.length + N.length - m)))).length + 1 ≤ b + 1 by rw [List.length_take, List.length_take]; omega)
  have R := Lib.hid (fun (W3 : World) (S3 : Sx) (M3 : Mid w W3 i S S3 mo t N A (rem G key) f b false ⟨#[]⟩ false) => roomY W3 i S3 w.heap.size (w.heap.size + 1 + 1) mo m t N A (rem G key) f b false M3.raw M3.cb M3.step M3.n2 hm (by omega) M3.n0 ND2.out HL2.out (by omega))
  clear ND2 HL2
  generalize (N.take (N.length - (A.length + N.length - m))) = N1 at *
  generalize (A.take (A.length + N.length - (A.length + N.length - m))) = A1 at *
  generalize (((A ++ N).drop (A.length + N.length - (A.length + N.length - m)) ++ rem G key).take mo) = G1 at *
  generalize (tcut f (((A ++ N).drop (A.length + N.length - (A.length + N.length - m)) ++ rem G key).drop mo)) = f1 at *
  generalize vicOf ((A ++ N).reverse.take (A.length + N.length - m)) = x1 at *
  generalize (!((A ++ N).reverse.take (A.length + N.length - m)).isEmpty) = o1 at *
  clear r hm h1 h2 h3 hf nd
  go_enter Try.func13, Try.ntmps13
  go_wp2_with fail
  refine U.out.mono ?_
  rintro e w1 ⟨rfl, rfl⟩
  go_upto_region 2 with fail
  generalize ((w.alloc (pObj i)).alloc (sObj false ⟨#[]⟩ false)).alloc (sObj false ⟨#[]⟩ false) = W0 at M0 V V2 V3 V4 ⊢
  have K0 := M0.out.cb.cell
  obtain ⟨c0, c1, c2, c3, c4, c5⟩ := M0.out.raw.cells
  go_wp2_with fail
  refine V.out.mono ?_
  rintro e w1 ⟨rfl, rfl⟩
  go_wp2_with fail
  refine V2.out.mono ?_
  rintro e w1 ⟨rfl, rfl⟩
  go_wp2_with fail
  refine V4.out.mono ?_
  rintro e w1 ⟨rfl, rfl⟩
  go_wp2_with fail
  refine V3.out.mono ?_
  rintro e W1 ⟨rfl, hB⟩
  have M1 := Lib.hid (M0.out.below hB)
  have K1 := M1.out.cb.cell
  clear hB M0 K0 c0 c1 c2 c3 c4 c5 V V2 V3 V4
  obtain ⟨c0, c1, c2, c3, c4, c5⟩ := M1.out.raw.cells
  go_wp2_with fail
  refine (ls_remove W1 i.g S.g G b M1.out.raw.g key hs).mono ?_
  intro e W3 hp
  obtain ⟨rfl, S3, m3⟩ := M1.out.op (M1.out.raw.onG hp (Nat.le_refl _))
  have M3 := Lib.hid m3
  have K3 := M3.out.cb.cell
  clear hp m3 M1 K1 c0 c1 c2 c3 c4 c5
  go_wp2_with fail
  refine (R.out W3 S3 M3.out).mono ?_
  intro e W4 hp
  obtain ⟨rfl, S4, m4⟩ := M3.out.room hp
  have M4 := Lib.hid m4
  have K4 := M4.out.cb.cell
  clear hp m4 M3 K3
  go_wp2_with fail
  refine (promoteY W4 i S4 mo t N1 A1 G1 f1 b key M4.out.raw hs HNO.out ND.out hb HLE.out).mono ?_
  intro e W5 hp
  obtain ⟨rfl, S5, m5⟩ := M4.out.op hp
  have M5 := Lib.hid m5
  clear hp m5 M4 K4
  have F := Lib.hid M5.out.out
  obtain ⟨⟨s0, s1, s2⟩, ⟨r0, r1, r2⟩, g0, g1, g2⟩ := M5.out.six
  clear M5
  go_wp2_with fail
  refine bodyPost_ret (results_c rfl _ _ _ ⟨w.heap.size + 1, 0, none⟩ _ rfl (load_step F.out.1)) rfl ?_
  exact F.out.2
theorem req_Gn (m : Nat) (hm : mo = m + 1) (h1 : inn N key = false) (h2 : inn A key = false) (h3 : inn G key = true) (hf : f key = false) (nd : (A ++ N ++ G).Nodup) (hl : A.length + N.length + G.length ≤ b) :
    Calls Try.prog 13 #[.pointer (some ⟨i.c, 0, none⟩), .string key] w (RPost (.agg #[.bool false, .string (vicOf ((A ++ N).reverse.take (A.length + N.length - m))), .bool (!((A ++ N).reverse.take (A.length + N.length - m)).isEmpty)]) w i S mo (dnT t) ((key :: (A.take (A.length + N.length - (A.length + N.length - m)))).drop (mx (dnT t)) ++ (N.take (N.length - (A.length + N.length - m)))) ((key :: (A.take (A.length + N.length - (A.length + N.length - m)))).take (mx (dnT t))) (((A ++ N).drop (A.length + N.length - (A.length + N.length - m)) ++ rem G key).take mo) (tput (tcut f (((A ++ N).drop (A.length + N.length - (A.length + N.length - m)) ++ rem G key).drop mo)) key) (b + 1)) := by
  have U := Lib.hid (has_mid w i S mo t N A G f b key r hs false (by rw [h1, h2]; rfl))
  have M0 := Lib.hid (Mid.start r false)
  have e9 : ((mo : Int) == 0) = false := by simp; omega
  have e8 : (mo == 0) = false := by simp; omega
  have V := ls_has _ i.a S.a A b M0.out.raw.a key hs
  rw [h2] at V
  have V := Lib.hid V
  have V2 := ls_has _ i.n S.n N b M0.out.raw.n key hs
  rw [h1] at V2
  have V2 := Lib.hid V2
  have V4 := ls_has _ i.g S.g G b M0.out.raw.g key hs
  rw [h3] at V4
  have V4 := Lib.hid V4
  have V3 := isOldY _ i S mo t N A G f b M0.out.raw key hs
  rw [hf] at V3
  have V3 := Lib.hid V3
  have HNO := Lib.hid (show key ∉ (A.take (A.length + N.length - (A.length + N.length - m))) ++ (N.take (N.length - (A.length + N.length - m))) from fun h => by
    rcases List.mem_append.1 h with h | h
    · exact inn_no.1 h2 (List.mem_of_mem_take h)
    · exact inn_no.1 h1 (List.mem_of_mem_take h))
  have ND := Lib.hid (show ((A.take (A.length + N.length - (A.length + N.length - m))) ++ (N.take (N.length - (A.length + N.length - m)))).Nodup from (List.nodup_append.1 nd).1.sublist (List.Sublist.append (List.take_sublist _ _) (List.take_sublist _ _)))
  have ND2 := Lib.hid (show (A ++ N ++ rem G key).Nodup from nd.sublist (List.Sublist.append_left List.filter_sublist _))
  have HL2 := Lib.hid (show A.length + N.length + (rem G key).length ≤ b by have := rem_le G key; omega)
  have HLE := Lib.hid (show ((A.take (A.length + N.length - (A.length + N.length - m)))).length + ((N.take (N.length - (A.length + N.length - m)))).length + 1 ≤ b + 1 by rw [List.length_take, List.length_take]; omega)
  have R := Lib.hid (fun (W3 : World) (S3 : Sx) (M3 : Mid w W3 i S S3 mo (dnT t) N A (rem G key) f b false ⟨#[]⟩ false) => roomY W3 i S3 w.heap.size (w.heap.size + 1 + 1) mo m (dnT t) N A (rem G key) f b false M3.raw M3.cb M3.step M3.n2 hm (by omega) M3.n0 ND2.out HL2.out (by omega))
  clear ND2 HL2
  generalize (N.take (N.length - (A.length + N.length - m))) = N1 at *
  generalize (A.take (A.length + N.length - (A.length + N.length - m))) = A1 at *
  generalize (((A ++ N).drop (A.length + N.length - (A.length + N.length - m)) ++ rem G key).take mo) = G1 at *
  generalize (tcut f (((A ++ N).drop (A.length + N.length - (A.length + N.length - m)) ++ rem G key).drop mo)) = f1 at *
  generalize vicOf ((A ++ N).reverse.take (A.length + N.length - m)) = x1 at *
  generalize (!((A ++ N).reverse.take (A.length + N.length - m)).isEmpty) = o1 at *
  clear r hm h1 h2 h3 hf nd
  go_enter Try.func13, Try.ntmps13
  go_wp2_with fail
  refine U.out.mono ?_
  rintro e w1 ⟨rfl, rfl⟩
  go_upto_region 2 with fail
  generalize ((w.alloc (pObj i)).alloc (sObj false ⟨#[]⟩ false)).alloc (sObj false ⟨#[]⟩ false) = W0 at M0 V V2 V3 V4 ⊢
  have K0 := M0.out.cb.cell
  obtain ⟨c0, c1, c2, c3, c4, c5⟩ := M0.out.raw.cells
  go_wp2_with fail
  refine V.out.mono ?_
  rintro e w1 ⟨rfl, rfl⟩
  go_wp2_with fail
  refine V2.out.mono ?_
  rintro e w1 ⟨rfl, rfl⟩
  go_wp2_with fail
  refine V4.out.mono ?_
  rintro e w1 ⟨rfl, rfl⟩
  go_wp2_with fail
  refine V3.out.mono ?_
  rintro e W1 ⟨rfl, hB⟩
  have M1 := Lib.hid (M0.out.below hB)
  have K1 := M1.out.cb.cell
  clear hB M0 K0 c0 c1 c2 c3 c4 c5 V V2 V3 V4
  obtain ⟨c0, c1, c2, c3, c4, c5⟩ := M1.out.raw.cells
  go_wp2_with fail
  refine (lower_any W1 i S mo t N A G f b M1.out.raw).mono ?_
  intro e W2 hp
  obtain ⟨rfl, S2, m2⟩ := M1.out.op hp
  have M2 := Lib.hid m2
  have K2 := M2.out.cb.cell
  clear hp m2 M1 K1 c0 c1 c2 c3 c4 c5
  obtain ⟨c0, c1, c2, c3, c4, c5⟩ := M2.out.raw.cells
  go_wp2_with fail
  refine (ls_remove W2 i.g S2.g G b M2.out.raw.g key hs).mono ?_
  intro e W3 hp
  obtain ⟨rfl, S3, m3⟩ := M2.out.op (M2.out.raw.onG hp (Nat.le_refl _))
  have M3 := Lib.hid m3
  have K3 := M3.out.cb.cell
  clear hp m3 M2 K2 c0 c1 c2 c3 c4 c5
  go_wp2_with fail
  refine (R.out W3 S3 M3.out).mono ?_
  intro e W4 hp
  obtain ⟨rfl, S4, m4⟩ := M3.out.room hp
  have M4 := Lib.hid m4
  have K4 := M4.out.cb.cell
  clear hp m4 M3 K3
  go_wp2_with fail
  refine (promoteY W4 i S4 mo (dnT t) N1 A1 G1 f1 b key M4.out.raw hs HNO.out ND.out hb HLE.out).mono ?_
  intro e W5 hp
  obtain ⟨rfl, S5, m5⟩ := M4.out.op hp
  have M5 := Lib.hid m5
  clear hp m5 M4 K4
  have F := Lib.hid M5.out.out
  obtain ⟨⟨s0, s1, s2⟩, ⟨r0, r1, r2⟩, g0, g1, g2⟩ := M5.out.six
  clear M5
  go_wp2_with fail
  refine bodyPost_ret (results_c rfl _ _ _ ⟨w.heap.size + 1, 0, none⟩ _ rfl (load_step F.out.1)) rfl ?_
  exact F.out.2
theorem req_new (m : Nat) (hm : mo = m + 1) (h1 : inn N key = false) (h2 : inn A key = false) (h3 : inn G key = false) (nd : (A ++ N ++ G).Nodup) (hl : A.length + N.length + G.length ≤ b) :
    Calls Try.prog 13 #[.pointer (some ⟨i.c, 0, none⟩), .string key] w (RPost (.agg #[.bool false, .string (vicOf ((A ++ N).reverse.take (A.length + N.length - m))), .bool (!((A ++ N).reverse.take (A.length + N.length - m)).isEmpty)]) w i S mo t (key :: (N.take (N.length - (A.length + N.length - m)))) (A.take (A.length + N.length - (A.length + N.length - m))) (((A ++ N).drop (A.length + N.length - (A.length + N.length - m)) ++ G).take mo) (tcut f (((A ++ N).drop (A.length + N.length - (A.length + N.length - m)) ++ G).drop mo)) (b + 1)) := by
  have U := Lib.hid (has_mid w i S mo t N A G f b key r hs false (by rw [h1, h2]; rfl))
  have M0 := Lib.hid (Mid.start r false)
  have e9 : ((mo : Int) == 0) = false := by simp; omega
  have e8 : (mo == 0) = false := by simp; omega
  have V := ls_has _ i.a S.a A b M0.out.raw.a key hs
  rw [h2] at V
  have V := Lib.hid V
  have V2 := ls_has _ i.n S.n N b M0.out.raw.n key hs
  rw [h1] at V2
  have V2 := Lib.hid V2
  have V4 := ls_has _ i.g S.g G b M0.out.raw.g key hs
  rw [h3] at V4
  have V4 := Lib.hid V4
  have R := Lib.hid (roomY _ i S w.heap.size (w.heap.size + 1 + 1) mo m t N A G f b false M0.out.raw M0.out.cb M0.out.step M0.out.n2 hm (by omega) M0.out.n0 nd hl (by omega))
  have HNO := Lib.hid (show key ∉ (N.take (N.length - (A.length + N.length - m))) from fun h => inn_no.1 h1 (List.mem_of_mem_take h))
  have HLE := Lib.hid (show ((N.take (N.length - (A.length + N.length - m)))).length + 1 ≤ b + 1 by rw [List.length_take]; omega)
  generalize (N.take (N.length - (A.length + N.length - m))) = N1 at *
  generalize (A.take (A.length + N.length - (A.length + N.length - m))) = A1 at *
  generalize (((A ++ N).drop (A.length + N.length - (A.length + N.length - m)) ++ G).take mo) = G1 at *
  generalize (tcut f (((A ++ N).drop (A.length + N.length - (A.length + N.length - m)) ++ G).drop mo)) = f1 at *
  generalize vicOf ((A ++ N).reverse.take (A.length + N.length - m)) = x1 at *
  generalize (!((A ++ N).reverse.take (A.length + N.length - m)).isEmpty) = o1 at *
  clear r hm h1 h2 h3 nd
  go_enter Try.func13, Try.ntmps13
  go_wp2_with fail
  refine U.out.mono ?_
  rintro e w1 ⟨rfl, rfl⟩
  go_upto_region 2 with fail
  generalize ((w.alloc (pObj i)).alloc (sObj false ⟨#[]⟩ false)).alloc (sObj false ⟨#[]⟩ false) = W0 at M0 V V2 V4 R ⊢
  have K0 := M0.out.cb.cell
  obtain ⟨c0, c1, c2, c3, c4, c5⟩ := M0.out.raw.cells
  go_wp2_with fail
  refine V.out.mono ?_
  rintro e w1 ⟨rfl, rfl⟩
  go_wp2_with fail
  refine V2.out.mono ?_
  rintro e w1 ⟨rfl, rfl⟩
  go_wp2_with fail
  refine V4.out.mono ?_
  rintro e w1 ⟨rfl, rfl⟩
  go_wp2_with fail
  refine R.out.mono ?_
  intro e W4 hp
  obtain ⟨rfl, S4, m4⟩ := M0.out.room hp
  have M4 := Lib.hid m4
  have K4 := M4.out.cb.cell
  clear hp m4 M0 K0 R V V2 V4 c0 c1 c2 c3 c4 c5
  obtain ⟨c0, c1, c2, c3, c4, c5⟩ := M4.out.raw.cells
  go_wp2_with fail
  refine (ls_front_new W4 i.n S4.n _ b M4.out.raw.n key (b + 1) HNO.out hs (by omega) (by omega) HLE.out).mono ?_
  intro e W5 hp
  obtain ⟨rfl, S5, m5⟩ := M4.out.op (M4.out.raw.onN hp (by omega))
  have M5 := Lib.hid m5
  clear hp m5 M4 K4 c0 c1 c2 c3 c4 c5
  have F := Lib.hid M5.out.out
  obtain ⟨⟨s0, s1, s2⟩, ⟨r0, r1, r2⟩, g0, g1, g2⟩ := M5.out.six
  clear M5
  go_wp2_with fail
  refine bodyPost_ret (results_c rfl _ _ _ ⟨w.heap.size + 1, 0, none⟩ _ rfl (load_step F.out.1)) rfl ?_
  exact F.out.2
end
end Go.Proofs.Ytmnflcidcoejiaa
