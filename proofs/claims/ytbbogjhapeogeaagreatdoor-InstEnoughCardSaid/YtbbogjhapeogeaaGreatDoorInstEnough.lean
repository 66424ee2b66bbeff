/- 'cachewiselaw11.InstEnough' returns true for every kind, every number of places too many, every lane and every row of keys, and leaves what was there as it was. The listed variables read as the program's text lays them. -/
import Derived.Test.YtbbogjhapeogeaaGreatDoorYd
import Derived.Test.YtbbogjhapeogeaaGreatDoorCards
import Derived.Test.YtbbogjhapeogeaaGreatDoorTie
import Derived.SevenTiedAt
import Derived.Deep.DeepCutAuto
import Derived.Deep.CutBlock
import Derived.Test.YtbbogjhapeogeaaGreatDoorSeen11
import Derived.Deep.QuietTactic
import Derived.BigQuiet
set_option maxRecDepth 20000
namespace Go.Proofs.YtbbogjhapeogeaaGreatDoor.IN
open Go.Maps Go.ChangeShapes Go.WideShapes Go.ChangeAt Go.RowKit Sg
structure EnR(w0 W:World)(x:Nat)(U:Nat->Prop)(s:ISt)(k h b db sb:Nat)(D Z:List ByteArray):Prop where
 lv:IL w0 W x U s k h b
 dm:Seen W db D
 sm:Seen W sb Z
 d0:w0.heap.size<=db
 s0:w0.heap.size<=sb
 dn:¬U db
 sn:¬U sb
 ne:db≠sb
section
variable{w0 W W':World}{x k h b k' h' b' db sb:Nat}{U:Nat->Prop}{s s':ISt}{D Z:List ByteArray}{r:Value}{e:Ending}
theorem EnR.below(q:EnR w0 W x U s k h b db sb D Z)(hb:Below W.heap.size W W'):EnR w0 W' x U s k h b db sb D Z:=
 ⟨q.lv.below hb,q.dm.same (hb.block _ q.dm.lt),q.sm.same (hb.block _ q.sm.lt),q.d0,q.s0,q.dn,q.sn,q.ne⟩
theorem EnR.op(q:EnR w0 W x U s k h b db sb D Z)(hp:IPost r W x U s' k' h' b' e W'):e= .returned r/\∃U',EnR w0 W' x U' s' k' h' b' db sb D Z:=by
 obtain⟨he,U',h1,h2⟩:=q.lv.op hp
 have out:∀g,g < W.heap.size->¬U g->¬U' g:=λg hg hn hk=>by
  rcases h2.new g hk with h|h
  . exact hn h
  . omega
 exact⟨he,U',h1,q.dm.same (h2.turn.block _ q.dm.lt q.dn),q.sm.same (h2.turn.block _ q.sm.lt q.sn),q.d0,q.s0,out _ q.dm.lt q.dn,out _ q.sm.lt q.sn,q.ne⟩
theorem EnR.store(q:EnR w0 W x U s k h b db sb D Z){key:ByteArray}(hs:key.size<=maxLen)(hn:Z.length<=1000):
 ∃w',(Instr.mapUpdate 42 (.map (some sb)) (.string key) (.bool true)).run Tryz.prog W= .ok () w'/\EnR w0 w' x U s k h b db sb D (add Z key):=by
 obtain⟨w',hrun,hZ,hG⟩:=q.sm.store hs (by omega);have tn:Turn (λg=>g=sb) W w':=⟨hG.os,hG.tape,hG.output,hG.size,λg hg hn=>hG.block g hg λe=>hn (Option.some.inj e)⟩;refine⟨w',hrun,⟨q.lv.ca.beside tn λg hg e=>q.sn (e▸hg),q.lv.bel.trans ⟨hG.os,hG.tape,hG.output,hG.size,λg hg=>hG.block g (Nat.lt_of_lt_of_le hg q.lv.bel.size) λe=>?_⟩,q.lv.low⟩,q.dm.same (tn.block _ q.dm.lt q.ne),hZ,q.d0,q.s0,q.dn,q.sn,q.ne⟩;have:=q.s0;have e:g=sb:=Option.some.inj e;omega
end
def EnF(w0:World)(S:Nat->ByteArray)(n db:Nat)(i:Value)(W:World):Prop:=∃k:Nat,i= .int .i64 (k:Int)/\k<=n/\Below w0.heap.size w0 W/\Seen W db (dst S k)
def EnQ(w0:World)(S:Nat->ByteArray)(x mo n db sb:Nat)(D:List ByteArray)(i:Value)(W:World):Prop:=∃(k:Nat) (T:Nat->Prop) (s:ISt) (h:Nat),i= .int .i64 (k:Int)/\k<=n/\h<=k/\EnR w0 W x T s k h (4*k) db sb D (dst S k)/\Eno S mo s k h
set_option maxHeartbeats 8000000 in
set_option maxRecDepth 100000 in
theorem instEnough_main(kd mr:Nat)(vs:List Nat)(Al:Option Addr)(cl:Nat)(A:Option Addr)(n cc:Nat)(w:World)(S:Nat->ByteArray)(hkd:kd < 7)(hmr:mr<=100)(hn:n<=200)(hvl:vs.length<=300)
 (hv:DR.Lane w 0 w.heap.size (.slice Al vs.length cl) vs) (hk:KRow w A n cc S) (hl:Laid w/\Named w):
 Calls Tryz.prog 4 #[.int .i64 (kd:Int),.int .i64 (mr:Int),.slice Al vs.length cl,.slice A n cc] w (RetB true w):=by
 have AW:=Lib.hid (awake_i w hl);have TP:=Lib.hid (tape_of hv);have NW:=Lib.hid (λ(w1:World) (mo B E:Nat) (hm:mo<=16777216) (hT:DR.Tape w1 B E [vs])=>new_i w1 kd mo B E [vs] hkd hm hT);have KD:=Lib.hid hkd;have g0:decide ((kd:Int) < 0)=false:=decide_eq_false (by omega);have g1:decide (6 < (kd:Int))=false:=decide_eq_false (by omega);have g2:decide ((mr:Int) < 0)=false:=decide_eq_false (by omega);have g3:decide (100 < (mr:Int))=false:=decide_eq_false (by omega);have g4:decide (200 < (n:Int))=false:=decide_eq_false (by omega);have g5:decide (300 < (vs.length:Int))=false:=decide_eq_false (by omega);have KR:=Lib.hid hk;have HN:=Lib.hid hn;have HMR:=Lib.hid hmr;have hmk:=@run_makeMap Tryz.prog;generalize hvn:vs.length=vn at*;clear hk hl hv hkd hvn hn;go_enter Tryz.func4,Tryz.ntmps4;go_wp2_with fail
 refine AW.out.mono ?_;rintro e w0 ⟨rfl,hb0⟩;have b0:=Lib.hid hb0;clear hb0 AW;go_upto_region 6 with fail
 have F0:=Lib.hid (show EnF w S n w0.heap.size (.int .i64 0) (w0.alloc (.map #[] 0)) from⟨0,rfl,Nat.zero_le _,b0.out.alloc b0.out.size _,Seen.made w0⟩);have D0:=Lib.hid (show w.heap.size<=w0.heap.size from b0.out.size);clear b0;generalize w0.heap.size=db at*;generalize w0.alloc (.map #[] 0)=w1 at F0|-;clear g0 g1 g2 g3 g4 g5;go_wp2_with fail
 go_loopw [10] (λi W=>EnF w S n db i W) (λi _=>n - (intOf i).toNat)
 case atStart=>exact F0.out
 case round=>
  obtain⟨k,rfl,hk,hB,hS⟩:=hrel;have HS:=Lib.hid (And.intro hB hS);clear hB hS F0;have hn2:=HN.out
  by_cases hlt:k < n
  . have e0:decide (k < n)=true:=by simpa using hlt
    obtain⟨g,o,rfl,hg,hc1,hc2,hcell⟩:=KR.out.2 (by omega);have h1:=(HS.out.1.cell (p:=⟨g,o+k,none⟩) hg).trans (hcell k hlt);have HSK:=Lib.hid (KR.out.1 k hlt);obtain⟨w2,hrun,hZ,hG⟩:=HS.out.2.store HSK.out (by have:=dst_le S k;omega);have FIN:=Lib.hid (show EnF w S n db (.int .i64 ((k:Int)+1)) w2 from⟨k+1,by go_num,by omega,HS.out.1.trans ⟨hG.os,hG.tape,hG.output,hG.size,λg hg=>hG.block g (Nat.lt_of_lt_of_le hg HS.out.1.size) λe=>by have:=D0.out;have e:g=db:=Option.some.inj e;omega⟩,hZ⟩);clear hcell hZ hG HS HSK;unfold maxLen at hc2;generalize S k=key at*;go_wp2_with fail
    go_roundw
    case rel=>exact FIN.out
    case measure=>simp[intOf] <;> omega
  . have e0:decide (k < n)=false:=by simpa using hlt
    obtain rfl:k=n:=by omega
    obtain⟨dl,hdl⟩:∃y,y=(dst S k).length:=⟨_,rfl⟩;have hdk:dl<=k:=by rw[hdl];exact dst_le S k
    have hmr2:=HMR.out;obtain⟨mo,hmo⟩:∃y,y=dl+mr:=⟨_,rfl⟩;have hw1:IntKind.i64.wrap ((dl:Int)+(mr:Int))=(mo:Int):=by rw[IntWalk.i64_in _ (by omega)];omega
    have hln:∀(W:World),Seen W db (dst S k)->∀ty,(Builtin.len_ #[42] ty #[.map (some db)]).run Tryz.prog W= .ok (.int .i64 (dl:Int)) W:=λW h ty=>by rw[hdl];exact h.len ty
    have LN:=Lib.hid hln;have HDL:=Lib.hid (And.intro hdl hmo);have hl1:=LN.out _ HS.out.2;have hmo2:mo<=300:=by omega
    have hlm:dl<=mo:=by omega
    clear hln hdl hmo hlt hk;go_wp2_with fail
    refine(TP.out wr HS.out.1).mono ?_;rintro e w2 ⟨B,rfl,hT,hB0,hB⟩;have T1:=Lib.hid (And.intro hT (And.intro hB0 hB));clear hT hB0 hB TP hl1;go_wp2_with fail
    refine Calls.mono (show Calls Tryz.prog 11 #[.int .i64 (kd:Int),.int .i64 (mo:Int),.pointer (some ⟨B+1,0,none⟩),.int .i64 0] w2 (INew kd mo (DR.lget [vs] 0) B w2) from NW.out w2 mo B _ (by omega) T1.out.1) ?_;rintro e w3 ⟨x,U,rfl,hC,hU,hB⟩;have L1:=Lib.hid (made_i HS.out.1 T1.out.2.1 T1.out.2.2 hC hU hB)
    have SM:=Lib.hid (show Seen w3 db (dst S k)/\¬U db from by
     have h1:=HS.out.2.lt;have h2:=T1.out.2.1;have h3:=T1.out.2.2;have e1:(wr.alloc (.cells #[.slice Al vn cl] 22)).heap.size=wr.heap.size+1:=by simp
     refine⟨HS.out.2.same ((hB.block db (by have:=h3.size;omega)).trans ((h3.block db (by omega)).trans (Below.heap_alloc _ _ _ h1))),λe=>?_⟩;have:=hU db e;omega)
    have K0:=Lib.hid (Eno.start (S:=S) (mo:=mo) KD.out (DR.lget [vs] 0));generalize ISt.start kd mo (DR.lget [vs] 0)=s0 at*;clear hC hU hB T1 NW HS;go_upto_region 14 with fail
    have Q0:=Lib.hid (show EnR w (w3.alloc (.map #[] 0)) x U s0 0 0 0 db w3.heap.size (dst S k) [] from by
     have hb:=(Below.refl w3.heap.size w3).alloc (Nat.le_refl _) (.map #[] 0);exact⟨L1.out.below hb,SM.out.1.same (hb.block _ SM.out.1.lt),Seen.made w3,D0.out,L1.out.bel.size,SM.out.2,λe=>by have:=L1.out.lt _ e;omega,λe=>by have:=SM.out.1.lt;omega⟩)
    clear L1 SM D0;generalize w3.heap.size=sb at*;generalize w3.alloc (.map #[] 0)=w4 at Q0|-;go_wp2_with fail
    go_loopw [14] (λi W=>EnQ w S x mo k db sb (dst S k) i W) (λi _=>k - (intOf i).toNat)
    case atStart=>exact⟨0,U,s0,0,rfl,Nat.zero_le _,Nat.le_refl _,Q0.out,K0.out⟩
    case round=>
     obtain⟨j,T,s,h,rfl,hj,hh,hR,hE⟩:=hrel;have R5:=Lib.hid hR;have E5:=Lib.hid hE;clear hR hE Q0 K0
     by_cases hlt:j < k
     . have e1:decide (j < k)=true:=by simpa using hlt
       obtain⟨g,o,rfl,hg,hc1,hc2,hcell⟩:=KR.out.2 (by omega);have h1:=(R5.out.lv.bel.cell (p:=⟨g,o+j,none⟩) hg).trans (hcell j hlt);have HC1:=Lib.hid (And.intro hg (hcell j hlt));have HSK:=Lib.hid (KR.out.1 j hlt);clear hcell hg;unfold maxLen at hc2;obtain⟨q1,q2,q3,q4⟩:=E5.out.next R5.out.lv.ca.ok hlt (by rw[← HDL.out.1];exact hlm)
       have U:=request_i wr x T s _ _ _ R5.out.lv.ca (S j) HSK.out (by omega) (by omega) (by omega);unfold ISt.step at U;rw[q2,q3] at U;obtain⟨hb,hhb⟩:∃y,y=inn (dst S j) (S j):=⟨_,rfl⟩;rw[← hhb] at q1;rw[q1] at U q4
       replace U:=Lib.hid U
       have E6:=Lib.hid q4;have HHB:=Lib.hid hhb;have hdj:=dst_le S j;have DJ:=Lib.hid hdj;have hh3:(if hb=true then h+1 else h)<=j+1:=by split <;> omega
       generalize(if hb=true then h+1 else h)=h3 at*;clear q1 q2 q3 q4 hhb E5 hdj;go_wp2_with fail
       refine U.out.mono ?_;intro e w5 hp;obtain⟨rfl,T5,hR5⟩:=R5.out.op hp;have X6:=Lib.hid (box_newI (w:=w5) (T:=T5) (L:=[]) (by intro q hq;cases hq) hR5.lv.lt hb false ⟨#[]⟩);have R6:=Lib.hid (hR5.below ((Below.refl _ _).alloc (Nat.le_refl _) (.cells #[.bool hb,.string ⟨#[]⟩,.bool false] 34)));clear hp hR5 R5 U h1;go_upto_region 18 with fail
       generalize w5.alloc (.cells #[.bool hb,.string ⟨#[]⟩,.bool false] 34)=w6 at R6 X6|-;generalize w5.heap.size=nb at*
       have LK:=Lib.hid (show ∀N,(Instr.lookup 42 (.map (some sb)) (.string (S j)) false).run Tryz.prog (w6.drewN N)= .ok (.bool hb) (w6.drewN N) from λN=>by
        rw[HHB.out];exact(R6.out.below (SR.below_drewN w6 N)).sm.look HSK.out)
       have lk:=LK.out;have hkey:=(R6.out.lv.bel.cell (p:=⟨g,o+j,none⟩) HC1.out.1).trans HC1.out.2;obtain⟨x1,x2,x3,_,_⟩:=(X6.out (nb,hb,⟨#[]⟩,false) (by simp)).1.cells;simp only at x1 x2 x3;generalize hkk:S j=key at*;go_quiet(fail)
       clear lk LK hkey x1 x2 x3;have R7:=Lib.hid (R6.out.below (SR.below_drewN w6 nq));have hkey:=(R7.out.lv.bel.cell (p:=⟨g,o+j,none⟩) HC1.out.1).trans HC1.out.2;clear R6 X6;generalize w6.drewN nq=w7 at R7 hkey|-;obtain⟨w8,hrun,hR8⟩:=R7.out.store HSK.out (by have:=DJ.out;omega);have R8:=Lib.hid hR8;clear hR8 R7;have bb:(hb != hb)=false:=by cases hb <;> rfl
       go_wp2_with fail
       go_roundw
       case rel=>exact⟨j+1,T5,_,h3,by go_num,by omega,hh3,by rw[← hkk] at R8;exact R8.out,by rw[← hkk] at E6;exact E6.out⟩
       case measure=>simp[intOf] <;> omega
     . have e1:decide (j < k)=false:=by simpa using hlt
       obtain rfl:j=k:=by omega
       have V:=Lib.hid (count_i wr x T s _ _ _ R5.out.lv.ca);have hhd:=E5.out.hits;rw[← HDL.out.1] at hhd;have hhi:(h:Int)=(j:Int) - (dl:Int):=by omega
       have hw2:IntKind.i64.wrap ((j:Int) - (dl:Int))=(h:Int):=by rw[IntWalk.i64_in _ (by omega)];omega
       have z1:((h:Int)==(h:Int))=true:=by simp
       have z2:((j:Int)==(j:Int))=true:=by simp
       have z3:((dl:Int)==(dl:Int))=true:=by simp
       clear hhd hhi;go_wp2_with fail
       refine V.out.mono ?_;rintro e w5 ⟨rfl,hB⟩;have R6:=Lib.hid (R5.out.below hB);clear hB V R5;have hl1:=LN.out _ R6.out.dm;go_wp2_with fail
       refine Calls.mono (show Calls Tryz.prog 18 #[.pointer (some ⟨x,0,none⟩)] w5 (Told (.int .i64 (dl:Int)) w5) from by
        have:=len_i w5 x T s _ _ _ R6.out.lv.ca;rw[E5.out.len,<-HDL.out.1] at this;exact this) ?_
       rintro e w6 ⟨rfl,hB⟩;have R7:=Lib.hid (R6.out.below hB);clear hB R6 hl1;have hl1:=LN.out _ R7.out.dm;go_wp2_with fail
       refine(ghosts_i w6 x T s _ _ _ R7.out.lv.ca).mono ?_;rintro e w7 ⟨v7,rfl,hO,hB⟩;obtain⟨A7,c7,rfl⟩:=hO.len;rw[E5.out.gho];have L8:=Lib.hid (R7.out.below hB);clear hO hB R7 hl1;go_wp2_with fail
       go_ret;exact⟨rfl,L8.out.lv.bel⟩
end Go.Proofs.YtbbogjhapeogeaaGreatDoor.IN
namespace Go.Proofs.YtbbogjhapeogeaaGreatDoor
open Go.ChangeShapes Go.WideShapes Go.ChangeAt Go.RowKit Sg
open Go.ChangeMaps (open_string shut_string)
theorem walk_instEnough(a0:Int)(a1:Int)(v2:Value)(v3:Value)(w:World)(w0:(Lit.int .i64 a0).wf=true)(w1:(Lit.int .i64 a1).wf=true)(w2:CameR w v2)(w3:CameS w v3)(hl:Laid w/\Named w):Calls Tryz.prog 4 #[.int .i64 a0,.int .i64 a1,v2,v3] w (IN.RetB true w):=by
 obtain⟨A,n,c,rfl,hn,S,hr,hc⟩:=w3;obtain⟨Al,nl,cl,rfl,hnl,vs,hvs⟩:=pick_lane w2;have hz0:=i64_rng w0;have hz1:=i64_rng w1
 by_cases hok:¬a0 < 0/\¬6 < a0/\¬a1 < 0/\¬100 < a1/\¬200 < (n:Int)/\¬300 < (nl:Int)
 . obtain⟨q0,q1,q2,q3,q4,q5⟩:=hok;obtain⟨kd,rfl⟩:∃m:Nat,a0=(m:Int):=⟨a0.toNat,by omega⟩;obtain⟨mo,rfl⟩:∃m:Nat,a1=(m:Int):=⟨a1.toNat,by omega⟩;obtain⟨hv1,hv2⟩:=hvs (by omega);subst hv1;exact IN.instEnough_main kd mo vs Al cl A n c w S (by omega) (by omega) (by omega) (by omega) hv2 ⟨hr,hc⟩ hl
 . have PW:=Lib.hid (show(decide (a0 < 0)=true)\/(decide (a0 < 0)=false/\decide (6 < a0)=true)\/(decide (a0 < 0)=false/\decide (6 < a0)=false/\decide (a1 < 0)=true)\/(decide (a0 < 0)=false/\decide (6 < a0)=false/\decide (a1 < 0)=false/\decide (100 < a1)=true)\/(decide (a0 < 0)=false/\decide (6 < a0)=false/\decide (a1 < 0)=false/\decide (100 < a1)=false/\decide (200 < (n:Int))=true)\/(decide (a0 < 0)=false/\decide (6 < a0)=false/\decide (a1 < 0)=false/\decide (100 < a1)=false/\decide (200 < (n:Int))=false/\decide (300 < (nl:Int))=true) from by
    by_cases p0:decide (a0 < 0)=true
    . exact Or.inl p0
    rw[Bool.not_eq_true] at p0
    by_cases p1:decide (6 < a0)=true
    . exact Or.inr (Or.inl ⟨p0,p1⟩)
    rw[Bool.not_eq_true] at p1
    by_cases p2:decide (a1 < 0)=true
    . exact Or.inr (Or.inr (Or.inl ⟨p0,p1,p2⟩))
    rw[Bool.not_eq_true] at p2
    by_cases p3:decide (100 < a1)=true
    . exact Or.inr (Or.inr (Or.inr (Or.inl ⟨p0,p1,p2,p3⟩)))
    rw[Bool.not_eq_true] at p3
    by_cases p4:decide (200 < (n:Int))=true
    . exact Or.inr (Or.inr (Or.inr (Or.inr (Or.inl ⟨p0,p1,p2,p3,p4⟩))))
    rw[Bool.not_eq_true] at p4
    by_cases p5:decide (300 < (nl:Int))=true
    . exact Or.inr (Or.inr (Or.inr (Or.inr (Or.inr (⟨p0,p1,p2,p3,p4,p5⟩)))))
    rw[Bool.not_eq_true] at p5;exact absurd ⟨of_decide_eq_false p0,of_decide_eq_false p1,of_decide_eq_false p2,of_decide_eq_false p3,of_decide_eq_false p4,of_decide_eq_false p5⟩ hok)
   have AW:=Lib.hid (IN.awake_i w hl);unfold maxLen at hn hnl;clear hr hc hok hl hvs hz0 hz1 w0 w1 w2;rcases PW.out with e0|⟨e0,e1⟩|⟨e0,e1,e2⟩|⟨e0,e1,e2,e3⟩|⟨e0,e1,e2,e3,e4⟩|⟨e0,e1,e2,e3,e4,e5⟩
   all_goals
    clear PW;go_enter Tryz.func4,Tryz.ntmps4;go_wp2_with fail
    refine AW.out.mono ?_;rintro e w0 ⟨rfl,hb0⟩;have b0:=Lib.hid hb0;clear hb0;go_wp2_with fail
    go_ret;exact⟨rfl,b0.out⟩
namespace LInstEnough
set_option maxRecDepth 100000 in
theorem lifted(os:Os)(started:os.Started)(H:Type)(enc:TypeId × Value->H):
 ReturnsInHanded {} Tryz.checked os 4 .any (λw args=>(Rows.instEnoughSpec.pre enc Tryz.prog Tryz.f4 [] false w args/\laidMetH Tryz.prog seatLaid w)/\sizedMet enc Tryz.prog Tryz.f4 (OpenSpec.ofChange Rows.instEnoughSpec) false w args)
  (Rows.instEnoughSpec.post enc Tryz.prog Tryz.f4 false true false false):=by
 refine returnsInHanded_of_change_and (C:=Tryz.checked) (X:=λw _=>laidMetH Tryz.prog seatLaid w) (λ_ _ _ hh h=>h.of_heap hh) own started (by kernel_rfl) Tryz.func4
  (ChangeSpec.witness_at (enc:=enc) (C:=Tryz.checked) (os:=os) (X:=λw _=>laidMetH Tryz.prog seatLaid w) false (laidWorld os) #[.int .i64 0,.int .i64 0,.slice none 0 0,.slice none 0 0] 8 rfl (by kernel_rfl) (by kernel_rfl) (by kernel_rfl) (by kernel_rfl) (by kernel_rfl) (laidWorld_met os _)) ?_
 intro W base args ds gs before hval0 hW _ _ hL _;have hval:∀(j:Nat) t v,Tryz.f4.params[j]?=some t->args[j]?=some v->Value.okWide Tryz.prog W .any base t v:=hval0
 have hW':=hW;obtain⟨p,q,hA0,hV,rfl,hfz,hnd⟩:=hW;have hA:DataW.TrodAll enc Tryz.prog W 0 (λ_=>true) true Tryz.f4.params.toList args.toList ds p:=hA0;rw[Tryz.params4] at hA hval;obtain⟨v0,vs0,d0,ds0,p0,q0,hargs,rfl,rfl,h0,r0⟩:=trodAll_cons hA;obtain⟨v1,vs1,d1,ds1,p1,q1,rfl,rfl,rfl,h1,r1⟩:=trodAll_cons r0;obtain⟨v2,vs2,d2,ds2,p2,q2,rfl,rfl,rfl,h2,r2⟩:=trodAll_cons r1;obtain⟨v3,vs3,d3,ds3,p3,q3,rfl,rfl,rfl,h3,r3⟩:=trodAll_cons r2;obtain⟨rfl,rfl,rfl⟩:=trodAll_nil r3;obtain rfl:args= #[v0,v1,v2,v3]:=by cases args;simp_all
 obtain⟨rfl,rfl⟩:=trodVars_none hV;obtain⟨a0,rfl,rfl,rfl,w0⟩:=open_int Tryz.underlying3 (hval 0 3 v0 rfl rfl) h0;obtain⟨a1,rfl,rfl,rfl,w1⟩:=open_int Tryz.underlying3 (hval 1 3 v1 rfl rfl) h1;have k2:=h2;have lt2:∀x∈p2,x.block < W.heap.size:=by obtain⟨m,hm⟩:=k2;exact DataW.trod_lt m _ _ _ hm
 have w2:=open_r (hval 2 22 v2 rfl rfl) h2;have k3:=h3;have lt3:∀x∈p3,x.block < W.heap.size:=by obtain⟨m,hm⟩:=k3;exact DataW.trod_lt m _ _ _ hm
 have w3:=open_z (hval 3 23 v3 rfl rfl) h3;clear hA0 hval0;refine(walk_instEnough a0 a1 v2 v3 W w0 w1 w2 w3 (laid_of hL)).mono λe W' ⟨he,bel⟩=>?_;subst he;exact⟨_,rfl,_,_,_,[],_,[],hW',trodAll_mk1 (shut_bool Tryz.underlying4 _),(trodAll_cons_mk (shut_int Tryz.underlying3 w0) (trodAll_cons_mk (shut_int Tryz.underlying3 w1) (trodAll_cons_mk (Below.trod laidOut (by kernel_rfl) (of_decide_eq_true (by kernel_rfl)) k2 bel lt2) (trodAll_cons_mk (Below.trod laidOut (by kernel_rfl) (of_decide_eq_true (by kernel_rfl)) k3 bel lt3) trodAll_mk0)))),rfl,bel.frame _,λh=>by cases h⟩
theorem band{x y:Bool}(h:x=true)(k:y=true):(x&&y)=true:=by rw[h,k];rfl
set_option maxRecDepth 100000
theorem cj0:(Rows.instEnoughRow.wf (OpenSpec.ofChange Rows.instEnoughSpec))=true:=by kernel_rfl
theorem cj1:(laidOutB Tryz.pinned.checked.prog)=true:=by kernel_rfl
theorem cj2:(mapsRowed Tryz.pinned.checked.prog)=true:=by kernel_rfl
theorem cj9:(Rows.instEnoughRow.inPlace==Tryz.pinned.checked.prog.inPlace 4)=true:=by kernel_rfl
theorem cj10:(Rows.instEnoughRow.unfollowed==Tryz.pinned.checked.prog.unfollowed 4)=true:=by kernel_rfl
theorem cj11:(Rows.instEnoughRow.recurses==Tryz.pinned.checked.prog.recurses 4)=true:=by kernel_rfl
theorem cj12:(Rows.instEnoughRow.named==Tryz.pinned.checked.prog.varsNamed 4)=true:=by kernel_rfl
theorem cj22:(Rows.instEnoughRow.plainKeys==Tryz.pinned.checked.prog.plainKeys)=true:=by kernel_rfl
theorem cj24:(Tryz.pinned.checked.prog.stopsHeard)=true:=by kernel_rfl
theorem cj25:(Tryz.pinned.checked.prog.mayEnter)=true:=by kernel_rfl
theorem cj26:(Rows.instEnoughRow.lifted==Tryz.pinned.checked.prog.liftsFinal)=true:=by kernel_rfl
theorem cj27:(Tryz.pinned.checked.prog.make==some Rows.instEnoughRow.make)=true:=by kernel_rfl
theorem closed:joinedFacts Tryz.pinned.checked.prog 4 Tryz.f4 Rows.instEnoughSpec Rows.instEnoughRow=true:=by
 unfold joinedFacts;exact band (band (band (band (band (band (band (band (band (band (band (band (band (band (band (band (band (band (band (band (band (band (band (band (band (band (band (band (band (band (band (cj0) cj1) cj2) (by kernel_rfl)) (by kernel_rfl)) (by kernel_rfl)) (by kernel_rfl)) (by kernel_rfl)) (by kernel_rfl)) cj9) cj10) cj11) cj12) (by kernel_rfl)) (by kernel_rfl)) (by kernel_rfl)) (by kernel_rfl)) (by kernel_rfl)) (by kernel_rfl)) (by kernel_rfl)) (by kernel_rfl)) (by kernel_rfl)) cj22) (by kernel_rfl)) cj24) cj25) cj26) cj27) (by kernel_rfl)) (by kernel_rfl)) (by kernel_rfl)) (by kernel_rfl)
theorem fnm:Tryz.pinned.checked.prog.funcNamed "cachewise/cachewiselaw11.InstEnough" =some 4:=by kernel_rfl
theorem isIn:Tryz.f4.isInstance Tryz.pinned.checked.prog Rows.instEnoughRow.origin Rows.instEnoughRow.targs:=of_decide_eq_true (by kernel_rfl)
theorem isWr:Tryz.f4.isWrapper Tryz.pinned.checked.prog Rows.instEnoughRow.wrapper Rows.instEnoughRow.mainSum:=by unfold Func.isWrapper;rw[if_neg (of_decide_eq_false (by kernel_rfl))];exact⟨rfl,rfl⟩
theorem said:Rows.InstEnoughSaid:=
 OpenClaim.holds_of_wide 4 Tryz.f4 rfl rfl rfl rfl rfl rfl rfl ⟨rfl,rfl,rfl,rfl,rfl⟩ rfl rfl rfl rfl rfl fnm Tryz.func4 closed isIn isWr
  (λos started H enc _=>lifted os started H enc)
theorem hwT:Rows.instEnoughRow.wfByText (OpenSpec.ofChange Rows.instEnoughSpec)=true:=by kernel_rfl
theorem mnI:Tryz.pinned.checked.prog.mainIs=some (Rows.instEnoughCard.stood.harness.1,Rows.instEnoughCard.stood.harness.2.toList):=by kernel_rfl
theorem lkT:Rows.instEnoughCard.stood.looks=Tryz.pinned.checked.prog.looks []:=by kernel_rfl
theorem gsB:false=Rows.instEnoughRow.goesBy Tryz.pinned.checked.prog:=by kernel_rfl
theorem sii:Tryz.prog.wantsStandIn 3=false:=by kernel_rfl
theorem sir:Tryz.prog.wantsStandIn 22=false:=by kernel_rfl
theorem siz:Tryz.prog.wantsStandIn 23=false:=by kernel_rfl
theorem card:Rows.InstEnoughCardSaid:=
 Claim7.holds_tied_plain_at .later [] _ _ _ _ said (λ_ h=>by cases h) hwT (λ_ h=>by cases h) instEnough_row_tie rfl ⟨rfl,rfl⟩ mnI rfl
  (λf fn hf hfn=>by
    obtain rfl:f=4:=Option.some.inj (fnm.symm.trans hf) |>.symm;obtain rfl:fn=Tryz.f4:=(Option.some.inj (Tryz.func4.symm.trans hfn)).symm;refine⟨lkT,λj t ht=>?_⟩;rw[Tryz.params4] at ht;rcases j with _|_|_|_|j
    . obtain rfl:t=3:=by simpa using ht.symm
      exact sii
    . obtain rfl:t=3:=by simpa using ht.symm
      exact sii
    . obtain rfl:t=22:=by simpa using ht.symm
      exact sir
    . obtain rfl:t=23:=by simpa using ht.symm
      exact siz
    . simp at ht)
  gsB
#print axioms card
end LInstEnough
end Go.Proofs.YtbbogjhapeogeaaGreatDoor
