/- A learner's small calls: fractions, sizes, what it tells, what both experts do. -/
import Derived.Test.YtdmmciggopmglaaGreatDoorY4
import Derived.Test.YtdmmciggopmglaaGreatDoorGFx
import Derived.Deep.RegionHeld3
import Derived.Deep.RegionLaw
set_option maxRecDepth 20000
namespace Go.Proofs.YtdmmciggopmglaaGreatDoor.LE
open Go.RowKit Go.Maps Go.WideMaps Sg
def Num(v:Nat)(w:World)(e:Ending)(w':World):Prop:=e= .returned (.int .u64 (v:Int))/\Below w.heap.size w w'
theorem part_l(a b:Nat)(w:World)(ha:a<=9223372036854775807)(hb:b<=9223372036854775807)(h0:0 < b):Calls Tryz.prog 61 #[.int .i64 (a:Int),.int .i64 (b:Int)] w (Num (Fx.quo a b) w):=by
 have U:=Lib.hid (FX.whole_yes a b w ha hb h0);clear ha hb h0;go_enter Tryz.func61,Tryz.ntmps61;go_wp2_with fail
 refine U.out.mono ?_;rintro e w1 ⟨rfl,hB⟩;go_wp2_with fail
 go_ret;exact⟨rfl,hB⟩
theorem least_l(w:World):Calls Tryz.prog 61 #[.int .i64 1,.int .i64 100] w (Num least w):=part_l 1 100 w (by omega) (by omega) (by omega)
theorem slow_l(w:World):Calls Tryz.prog 163 #[] w (Num slow w):=by
 have U:=Lib.hid (show Calls Tryz.prog 61 #[.int .i64 1,.int .i64 1000] w (Num slow w) from part_l 1 1000 w (by omega) (by omega) (by omega));go_enter Tryz.func163,Tryz.ntmps163;go_wp2_with fail
 refine U.out.mono ?_;rintro e w1 ⟨rfl,hB⟩;go_wp2_with fail
 go_ret;exact⟨rfl,hB⟩
theorem isRoom_l(w:World)(z:Int):Calls Tryz.prog 53 #[.int .i64 z] w (λe w'=>e= .returned (.bool (decide (0<=z)&&decide (z<=16777216)))/\w=w'):=by
 go_enter Tryz.func53,Tryz.ntmps53
 by_cases h0:0<=z
 . by_cases h1:z<=16777216
   . rw[decide_eq_true h0,decide_eq_true h1];go_wp2_with fail
     go_ret;exact⟨rfl,rfl⟩
   . rw[decide_eq_true h0,decide_eq_false h1];go_wp2_with fail
     go_ret;exact⟨rfl,rfl⟩
 . rw[decide_eq_false h0];go_wp2_with fail
   go_ret;exact⟨rfl,rfl⟩
theorem idx2p_0(w:World)(x0 x1:Value):(Instr.index 116 (.agg #[x0,x1]) (.int .i64 0)).run Tryz.prog w= .ok x0 w:=by kernel_rfl
theorem idx2p_1(w:World)(x0 x1:Value):(Instr.index 116 (.agg #[x0,x1]) (.int .i64 1)).run Tryz.prog w= .ok x1 w:=by kernel_rfl
theorem idx2l_0(w:World)(x0 x1:Value):(Instr.index 118 (.agg #[x0,x1]) (.int .i64 0)).run Tryz.prog w= .ok x0 w:=by kernel_rfl
theorem idx2l_1(w:World)(x0 x1:Value):(Instr.index 118 (.agg #[x0,x1]) (.int .i64 1)).run Tryz.prog w= .ok x1 w:=by kernel_rfl
theorem both_any(w:World)(l p q:Nat)(F:FuncId)(x:Addr)(R Q:World->Prop)(c2:w.cell? ⟨l,2,none⟩=some (.pointer (some ⟨p,0,none⟩)))(c3:w.cell? ⟨l,3,none⟩=some (.pointer (some ⟨q,0,none⟩)))
 (hF:∀args w,(callFunc F args).run Tryz.prog w= .ok (.enter F args) w)
 (h1:Calls Tryz.prog F #[.pointer (some ⟨p,0,none⟩),.pointer (some x)] w (λe w'=>e= .returned (.tuple #[])/\R w'))
 (h2:∀w1,R w1->Calls Tryz.prog F #[.pointer (some ⟨q,0,none⟩),.pointer (some x)] w1 (λe w'=>e= .returned (.tuple #[])/\Q w')):
 Calls Tryz.prog 116 #[.pointer (some ⟨l,0,none⟩),.func (.func F) #[] #[.pointer (some x)]] w (λe w'=>e= .returned (.tuple #[])/\Q w'):=by
 have H1:=Lib.hid h1;have H2:=Lib.hid h2;have X0:=idx2p_0;have X1:=idx2p_1;clear h1 h2;go_enter Tryz.func116,Tryz.ntmps116;go_wp2_with fail
 go_loopw [10] (λz W=>(z= .int .i64 0/\W=w)\/(z= .int .i64 1/\R W)\/(z= .int .i64 2/\Q W)) (λz _=>2 - (intOf z).toNat)
 case atStart=>exact Or.inl ⟨rfl,rfl⟩
 case round=>
  clear c2 c3;rcases hrel with⟨rfl,rfl⟩|⟨rfl,hR⟩|⟨rfl,hQ⟩
  . go_wp2_with fail
    refine H1.out.mono ?_;rintro e w2 ⟨rfl,hR⟩;go_wp2_with fail
    go_roundw
    case rel=>exact Or.inr (Or.inl ⟨by go_num,hR⟩)
    case measure=>simp[intOf]
  . go_wp2_with fail
    refine(H2.out _ hR).mono ?_;rintro e w2 ⟨rfl,hQ⟩;go_wp2_with fail
    go_roundw
    case rel=>exact Or.inr (Or.inr ⟨by go_num,hQ⟩)
    case measure=>simp[intOf]
  . go_wp2_with fail
    go_end0;exact⟨rfl,hQ⟩
section
variable{w w':World}{i:Ix}{S:Sx}{B E:Nat}{L:List (List Nat)}{lane:Int}{s s':St}{b b':Nat}
theorem LT.p0(h:LT w i S B E L lane s b):w.cell? ⟨i.l,2,none⟩=some (.pointer (some ⟨i.r 0,0,none⟩)):=h.raw.c 2 rfl
theorem LT.p1(h:LT w i S B E L lane s b):w.cell? ⟨i.l,3,none⟩=some (.pointer (some ⟨i.r 1,0,none⟩)):=h.raw.c 3 rfl
theorem LT.p2(h:LT w i S B E L lane s b):w.cell? ⟨i.l,4,none⟩=some (.pointer (some ⟨i.r 2,0,none⟩)):=h.raw.c 4 rfl
theorem LT.p3(h:LT w i S B E L lane s b):w.cell? ⟨i.l,5,none⟩=some (.pointer (some ⟨i.r 3,0,none⟩)):=h.raw.c 5 rfl
theorem LT.p4(h:LT w i S B E L lane s b):w.cell? ⟨i.l,6,none⟩=some (.map (some (i.r 4))):=h.raw.c 6 rfl
theorem LT.kd(h:LT w i S B E L lane s b):w.cell? ⟨i.l,0,none⟩=some (.int .i64 ((if s.six then 6 else 5:Nat):Int)):=h.raw.c 0 rfl
theorem LT.cm(h:LT w i S B E L lane s b):w.cell? ⟨i.l,1,none⟩=some (.int .i64 (s.mo:Int)):=h.raw.c 1 rfl
theorem LT.cc(h:LT w i S B E L lane s b):w.cell? ⟨i.l,7,none⟩=some (.int .i64 (s.clock:Int)):=h.raw.c 7 rfl
theorem LT.cw(h:LT w i S B E L lane s b):w.cell? ⟨i.l,8,none⟩=some (.int .u64 (s.w:Int)):=h.raw.c 8 rfl
theorem LT.cr(h:LT w i S B E L lane s b):w.cell? ⟨i.l,9,none⟩=some (.int .u64 (s.rate:Int)):=h.raw.c 9 rfl
theorem LT.c10(h:LT w i S B E L lane s b):w.cell? ⟨i.l,10,none⟩=some (.int .i64 (s.asked:Int)):=h.raw.c 10 rfl
theorem LT.c11(h:LT w i S B E L lane s b)(h6:s.six=true):w.cell? ⟨i.l,11,none⟩=some (.int .i64 (s.hits:Int)):=by
 have:=h.raw.c 11 (x:= .int .i64 (((flOf s B lane).hits:Nat):Int)) rfl;rw[show(flOf s B lane).hits=s.hits from if_pos h6] at this;exact this
theorem LT.c12(h:LT w i S B E L lane s b):w.cell? ⟨i.l,12,none⟩=some (.int .i64 (s.last:Int)):=h.raw.c 12 rfl
theorem LT.c13(h:LT w i S B E L lane s b):w.cell? ⟨i.l,13,none⟩=some (.bool (decide (s.ends≠0))):=h.raw.c 13 rfl
theorem LT.c14(h:LT w i S B E L lane s b):w.cell? ⟨i.l,14,none⟩=some (.bool s.down):=h.raw.c 14 rfl
theorem LT.c15(h:LT w i S B E L lane s b):w.cell? ⟨i.l,15,none⟩=some (.int .i64 (s.still:Int)):=h.raw.c 15 rfl
theorem LT.ct(h:LT w i S B E L lane s b):w.cell? ⟨i.l,16,none⟩=some (.pointer (some ⟨B+1,0,none⟩)):=h.raw.c 16 rfl
theorem LT.cl(h:LT w i S B E L lane s b):w.cell? ⟨i.l,17,none⟩=some (.int .i64 lane):=h.raw.c 17 rfl
theorem LT.fr(h:LT w i S B E L lane s b)(o:Nat):w.frozen? ⟨i.l,o,none⟩=false:=h.raw.f o
theorem LT.set(h:LT w i S B E L lane s b)(o:Nat)(x:Value)(hc:(lcells i (flOf s B lane)).setIfInBounds o x=lcells i (flOf s' B lane))(hp:pOf s'=pOf s)(hb:b<=b')(ok:Ok s')(lim:Lim s' b')(hv:s'.vs=s.vs):
 LT (w.setCell ⟨i.l,o,none⟩ x) i S B E L lane s' b'/\Went w (w.setCell ⟨i.l,o,none⟩ x) (tblk i S B E) (tblk i S B E):=by
 obtain⟨h1,h2⟩:=h.raw.set o x hc;exact h.went (s':=s') (by rw[hp];exact h1.mono λ_ _=>hb) h2 ok lim hv
end
section
variable(w:World)(i:Ix)(S:Sx)(B E:Nat)(L:List (List Nat))(lane:Int)(s:St)(b:Nat)(h:LT w i S B E L lane s b)
include h
theorem most_t:Calls Tryz.prog 111 #[.pointer (some ⟨i.l,0,none⟩)] w (Told (.int .i64 (s.mo:Int)) w):=by
 have c:=h.cm;clear h;go_enter Tryz.func111,Tryz.ntmps111;go_wp2_with fail
 go_ret;exact⟨rfl,Below.refl _ _⟩
theorem has_t(key:ByteArray)(hs:key.size<=maxLen):Calls Tryz.prog 107 #[.pointer (some ⟨i.l,0,none⟩),.string key] w (Told (.bool (s.has key)) w):=by
 have c:=h.p0;have U:=Lib.hid (has_p w _ _ _ _ key h.raw.pa hs);clear h;generalize i.r 0=p at*;go_enter Tryz.func107,Tryz.ntmps107;go_wp2_with fail
 refine U.out.mono ?_;rintro e w1 ⟨rfl,hB⟩;go_wp2_with fail
 go_ret;exact⟨rfl,hB⟩
theorem len_t:Calls Tryz.prog 110 #[.pointer (some ⟨i.l,0,none⟩)] w (Told (.int .i64 (s.keys.length:Int)) w):=by
 have c:=h.p0;have U:=Lib.hid (len_p w _ _ _ _ h.raw.pa);have U:=Lib.hid (show Calls Tryz.prog 123 #[.pointer (some ⟨i.r 0,0,none⟩)] w (Told (.int .i64 (s.keys.length:Int)) w) from U.out);clear h;generalize i.r 0=p at*;go_enter Tryz.func110,Tryz.ntmps110;go_wp2_with fail
 refine U.out.mono ?_;rintro e w1 ⟨rfl,hB⟩;go_wp2_with fail
 go_ret;exact⟨rfl,hB⟩
theorem keys_t:Calls Tryz.prog 108 #[.pointer (some ⟨i.l,0,none⟩)] w (RowPost s.keys w):=by
 have c:=h.p0;have U:=Lib.hid (keys_p w _ _ _ _ h.raw.pa);have U:=Lib.hid (show Calls Tryz.prog 122 #[.pointer (some ⟨i.r 0,0,none⟩)] w (RowPost s.keys w) from U.out);clear h;generalize i.r 0=p at*;go_enter Tryz.func108,Tryz.ntmps108;go_wp2_with fail
 refine U.out.mono ?_;rintro e w1 ⟨v,rfl,hO,hB⟩;go_wp2_with fail
 go_ret;exact⟨v,rfl,hO,hB⟩
theorem victim_t:Calls Tryz.prog 115 #[.pointer (some ⟨i.l,0,none⟩)] w (Told (.tuple #[.string s.vic,.bool s.any]) w):=by
 have c:=h.cw;have c0:=h.p0;have c1:=h.p1;have UA:=Lib.hid (victim_p w _ _ _ _ h.raw.pa);have UB:=Lib.hid (victim_p w _ _ _ _ h.raw.pb);unfold St.vic St.any St.lead half;clear h
 by_cases hw:s.w < 2305843009213693952
 . have e1:decide (2305843009213693952<=(s.w:Int))=false:=by simp;omega
   rw[if_pos hw];generalize s.w=n at*;generalize s.B.vic=vk at*;generalize s.B.any=va at*;generalize i.r 0=p at*;generalize i.r 1=q at*;clear hw;go_enter Tryz.func115,Tryz.ntmps115;go_wp2_with fail
   refine UB.out.mono ?_;rintro e w1 ⟨rfl,hB⟩;go_wp2_with fail
   go_ret2
   exact⟨rfl,hB⟩
 . have e1:decide (2305843009213693952<=(s.w:Int))=true:=by simp;omega
   rw[if_neg hw];generalize s.w=n at*;generalize s.A.vic=vk at*;generalize s.A.any=va at*;generalize i.r 0=p at*;generalize i.r 1=q at*;clear hw;go_enter Tryz.func115,Tryz.ntmps115;go_wp2_with fail
   refine UA.out.mono ?_;rintro e w1 ⟨rfl,hB⟩;go_wp2_with fail
   go_ret2
   exact⟨rfl,hB⟩
end
end Go.Proofs.YtdmmciggopmglaaGreatDoor.LE
