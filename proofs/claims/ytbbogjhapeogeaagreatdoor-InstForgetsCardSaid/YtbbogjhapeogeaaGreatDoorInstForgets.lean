/- 'cachewiselaw11.InstForgets' returns true for every kind, every size, every lane, every row of keys and every number of a key, and leaves what was there as it was. The listed variables read as the program's text lays them. -/
import Derived.Test.YtbbogjhapeogeaaGreatDoorYd
import Derived.Test.YtbbogjhapeogeaaGreatDoorCards
import Derived.Test.YtbbogjhapeogeaaGreatDoorTie
import Derived.SevenTiedAt
import Derived.Deep.DeepCutAuto
import Derived.Deep.CutBlock
set_option maxRecDepth 20000
namespace Go.Proofs.YtbbogjhapeogeaaGreatDoor.IN
open Go.ChangeShapes Go.WideShapes Go.ChangeAt Go.RowKit Sg
set_option maxHeartbeats 8000000 in
set_option maxRecDepth 100000 in
theorem instForgets_main(kd:Nat)(mo wh:Nat)(vs:List Nat)(Al:Option Addr)(cl:Nat)(A:Option Addr)(n cc:Nat)(w:World)(S:Nat->ByteArray)(hkd:kd < 7)(hlo:1<=mo)(hmo:mo<=1000)(hn0:0 < n)(hwh:wh<=9223372036854775807)(hn:n<=200)(hvl:vs.length<=300)
 (hv:DR.Lane w 0 w.heap.size (.slice Al vs.length cl) vs) (hk:KRow w A n cc S) (hl:Laid w/\Named w):
 Calls Tryz.prog 9 #[.int .i64 (kd:Int),.int .i64 (mo:Int),.slice Al vs.length cl,.slice A n cc,.int .i64 (wh:Int)] w (RetB true w):=by
 have AW:=Lib.hid (awake_i w hl);have TP:=Lib.hid (tape_of hv);have NW:=Lib.hid (λ(w1:World) (B E:Nat) (hT:DR.Tape w1 B E [vs])=>new_i w1 kd mo B E [vs] hkd (by omega) hT);have KD:=Lib.hid hkd;have g0:decide ((kd:Int) < 0)=false:=decide_eq_false (by omega);have g1:decide (6 < (kd:Int))=false:=decide_eq_false (by omega);have g2:decide ((mo:Int) < 1)=false:=decide_eq_false (by omega);have g3:decide (1000 < (mo:Int))=false:=decide_eq_false (by omega);have g4:((n:Int)==0)=false:=by rw[beq_eq_false_iff_ne];omega
 have g5:decide (200 < (n:Int))=false:=decide_eq_false (by omega);have g6:decide (300 < (vs.length:Int))=false:=decide_eq_false (by omega);have g7:decide ((wh:Int) < 0)=false:=decide_eq_false (by omega);have KR:=Lib.hid hk;have HN:=Lib.hid hn;have LO:=Lib.hid hlo;have N0:=Lib.hid hn0;generalize hvn:vs.length=vn at*;clear hk hl hv hkd hvn hn;clear hlo hn0;go_enter Tryz.func9,Tryz.ntmps9;go_wp2_with fail
 refine AW.out.mono ?_;rintro e w0 ⟨rfl,hb0⟩;have b0:=Lib.hid hb0;clear hb0;go_wp2_with fail
 refine(TP.out w0 b0.out).mono ?_;rintro e w1 ⟨B,rfl,hT,hB0,hB⟩;have T1:=Lib.hid (And.intro hT (And.intro hB0 hB));clear hT hB0 hB TP AW;go_wp2_with fail
 refine Calls.mono (show Calls Tryz.prog 11 #[.int .i64 (kd:Int),.int .i64 (mo:Int),.pointer (some ⟨B+1,0,none⟩),.int .i64 0] w1 (INew kd mo (DR.lget [vs] 0) B w1) from NW.out w1 B _ T1.out.1) ?_;rintro e w2 ⟨x,U,rfl,hC,hU,hB⟩;have L1:=Lib.hid (made_i b0.out T1.out.2.1 T1.out.2.2 hC hU hB);have K0:=Lib.hid (ISt.start_kind KD.out mo (DR.lget [vs] 0));generalize ISt.start kd mo (DR.lget [vs] 0)=s0 at*;clear hC hU hB b0 T1 NW;go_wp2_with fail
 clear g0 g1 g2 g3 g4 g5 g6 g7;go_loopw [13] (λi W=>IFill w x mo n i W) (λi _=>n - (intOf i).toNat)
 case atStart=>exact⟨0,U,s0,0,rfl,Nat.zero_le _,Nat.le_refl _,L1.out,K0.out.2.1⟩
 case round=>
  obtain⟨k,T,s,h,rfl,hk,hh,hL,hm⟩:=hrel;have HL:=Lib.hid hL;have SM:=Lib.hid hm;clear hL L1 hm K0
  by_cases hlt:k < n
  . have e0:decide (k < n)=true:=by simpa using hlt
    have hn2:=HN.out;obtain⟨g,o,rfl,hg,hc1,hc2,hcell⟩:=KR.out.2 (by omega);have h1:=(HL.out.bel.cell (p:=⟨g,o+k,none⟩) hg).trans (hcell k hlt);have HSK:=Lib.hid (KR.out.1 k hlt);clear hcell;unfold maxLen at hc2;have U:=Lib.hid (request_i wr x T s k h (4*k) HL.out.ca (S k) HSK.out (by omega) (by omega) (by omega));go_wp2_with fail
    refine U.out.mono ?_;intro e w4 hp;obtain⟨rfl,hF⟩:=IFill.next hlt hh HL.out SM.out hp
    have FIN:=Lib.hid hF;clear hp hF U HL;generalize s.step (S k)=sv;go_wp2_with fail
    go_roundw
    case rel=>exact FIN.out
    case measure=>simp[intOf] <;> omega
  . have e0:decide (k < n)=false:=by simpa using hlt
    obtain rfl:k=n:=by omega
    clear hlt hk;have hn0:=N0.out;have hn2:=HN.out;obtain⟨j,hj⟩:∃j,j=wh % k:=⟨_,rfl⟩;have hjk:j < k:=by rw[hj];exact Nat.mod_lt _ (by omega)
    obtain⟨g,o,rfl,hg,hc1,hc2,hcell⟩:=KR.out.2 (by omega);have h1:=(HL.out.bel.cell (p:=⟨g,o+j,none⟩) hg).trans (hcell j hjk);have HSK:=Lib.hid (KR.out.1 j hjk);have hsk:=HSK.out;clear hcell;unfold maxLen at hc2 hsk;generalize S j=key at*;have e5:((k:Int)==0)=false:=by rw[beq_eq_false_iff_ne];omega
    have e9:(wh:Int).tmod (k:Int)=(j:Int):=by rw[hj,Int.tmod_eq_emod_of_nonneg (by omega)];rfl
    have e10:IntKind.i64.wrap (j:Int)=(j:Int):=IntWalk.i64_in _ (by omega);have e7:(k:Int)≠0:=by omega
    clear hj;obtain⟨was,hwas⟩:∃y,y=s.has key:=⟨_,rfl⟩;obtain⟨n1,hn1⟩:∃y,y=s.keys.length:=⟨_,rfl⟩;have hn1m:n1<=mo:=by rw[hn1,<-SM.out];exact ISt.le HL.out.ca.ok
    have V1:=has_i wr x T s _ _ _ HL.out.ca key HSK.out;rw[← hwas] at V1
    replace V1:=Lib.hid V1
    have OK0:=Lib.hid HL.out.ca.ok;have HW:=Lib.hid (And.intro hwas hn1);clear hwas hn1;go_wp2_with fail
    refine V1.out.mono ?_;rintro e w2 ⟨rfl,hB⟩;have L2:=Lib.hid (HL.out.below hB);clear hB V1 HL h1;go_wp2_with fail
    refine Calls.mono (show Calls Tryz.prog 18 #[.pointer (some ⟨x,0,none⟩)] w2 (Told (.int .i64 (n1:Int)) w2) from by
     have:=len_i w2 x T s _ _ _ L2.out.ca;rw[← HW.out.2] at this;exact this) ?_
    rintro e w3 ⟨rfl,hB⟩;have L3:=Lib.hid (L2.out.below hB);clear hB L2;have R:=remove_i w3 x T s _ _ _ L3.out.ca key HSK.out;rw[← HW.out.1] at R
    replace R:=Lib.hid R
    go_wp2_with fail
    refine R.out.mono ?_;intro e w4 hp;obtain⟨rfl,T4,hL4,_⟩:=L3.out.op hp;have L4:=Lib.hid hL4;have OK1:=Lib.hid hL4.ca.ok;clear hp hL4 L3 R;have FF:=Lib.hid (λh2=>forget_facts OK0.out OK1.out h2 SM.out (by have:=LO.out;omega));have e1:(s.rm key).has key=false:=inn_no.2 λe=>((ISt.rm_f OK0.out key).mem key |>.1 e).2 rfl;have e2:inn (s.rm key).ghosts key=false:=inn_no.2 (ISt.rm_f OK0.out key).gho;obtain⟨s1,hs1⟩:∃y,y=s.rm key:=⟨_,rfl⟩;rw[← hs1] at FF L4 e1 e2;rw[← HW.out.1,<-HW.out.2] at FF;have E1:=Lib.hid e1;have E2:=Lib.hid e2;clear e1 e2 OK0 OK1 HW hs1 SM;have VA:=has_i w4 x T4 s1 _ _ _ L4.out.ca key HSK.out;rw[E1.out] at VA
    replace VA:=Lib.hid VA
    go_wp2_with fail
    refine VA.out.mono ?_;rintro e w5 ⟨rfl,hB⟩;have L5:=Lib.hid (L4.out.below hB);clear hB VA L4;go_wp2_with fail
    refine(ghosts_i w5 x _ s1 _ _ _ L5.out.ca).mono ?_;rintro e w6 ⟨vg,rfl,hO,hB⟩;have L6:=Lib.hid (L5.out.below hB);obtain⟨gg,_,hRg⟩:=hO.row;have VH:=Lib.hid (E2.out▸refHas_any w6 gg vg _ key hRg:Calls Tryz.prog 16 #[vg,.string key] w6 (BoolPost false w6));clear hO hB hRg L5;go_wp2_with fail
    refine VH.out.mono ?_;rintro e wx ⟨rfl,rfl⟩;clear VH;have R:=remove_i w6 x T4 s1 _ _ _ L6.out.ca key HSK.out;rw[E1.out] at R
    replace R:=Lib.hid R
    go_wp2_with fail
    refine R.out.mono ?_;intro e w7 hp;obtain⟨rfl,T7,hL7,_⟩:=L6.out.op hp;have L7:=Lib.hid hL7;have FF2:=Lib.hid (FF.out hL7.ca.ok);clear hp hL7 L6 R FF E1 E2;generalize s1.rm key=s2 at*;go_wp2_with fail
    have W3:=request_i w7 x T7 s2 _ _ _ L7.out.ca key HSK.out (by omega) (by omega) (by omega);unfold ISt.step at W3;rw[FF2.out.2.2.1] at W3;obtain⟨vk,hvk⟩:∃y,y=s2.vicV key:=⟨_,rfl⟩;rw[← hvk] at W3;obtain⟨ob,hob⟩:∃y,y=s2.outB key:=⟨_,rfl⟩;rw[← hob] at W3;have W3:=Lib.hid W3;have HH:=Lib.hid FF2.out.2.2.2.1;have WAY:=FF2.out.2.2.2.2;rw[← hob] at WAY
    replace WAY:=Lib.hid WAY
    clear hvk hob FF2;refine W3.out.mono ?_;intro e w8 hp;obtain⟨rfl,T8,hL8,_⟩:=L7.out.op hp;have X8:=Lib.hid (box_newI (w:=w8) (T:=T8) (L:=[]) (by intro q hq;cases hq) hL8.lt false ob vk);have L8:=Lib.hid (hL8.below ((Below.refl _ _).alloc (Nat.le_refl _) (.cells #[.bool false,.string vk,.bool ob] 34)));clear hp hL8 L7 W3;go_upto_region 17 with fail
    generalize w8.alloc (.cells #[.bool false,.string vk,.bool ob] 34)=w9 at L8 X8|-;generalize w8.heap.size=nb at*;have VB:=has_i w9 x T8 (s2.req key) _ _ _ L8.out.ca key HSK.out;rw[HH.out] at VB
    replace VB:=Lib.hid VB
    obtain⟨x1,x2,x3,_,_⟩:=(X8.out (nb,false,vk,ob) (by simp)).1.cells;simp only at x1 x2 x3;go_wp2_with fail
    refine VB.out.mono ?_;rintro e wa ⟨rfl,hB⟩;have La:=Lib.hid (L8.out.below hB);clear x1 x2 x3;obtain⟨x1,x2,x3,_,_⟩:=((X8.out.went (Went.below hB)) (nb,false,vk,ob) (by simp)).1.cells;simp only at x1 x2 x3;clear hB L8 X8 VB;rcases WAY.out with⟨rfl,rfl⟩|⟨rfl,hq,rfl⟩|⟨rfl,hq,rfl⟩
    . go_wp2_with fail
      go_ret;exact⟨rfl,La.out.bel⟩
    . have hq1:((n1:Int)==(mo:Int))=true:=by rw[beq_iff_eq];omega
      have hq2:decide ((n1:Int)=(mo:Int))=true:=decide_eq_true (by omega);have hq3:(n1==mo)=true:=by rw[beq_iff_eq];omega
      clear hq;go_wp2_with fail
      go_ret;exact⟨rfl,La.out.bel⟩
    . have hq1:((n1:Int)==(mo:Int))=false:=by rw[beq_eq_false_iff_ne];omega
      have hq2:decide ((n1:Int)=(mo:Int))=false:=decide_eq_false (by omega);have hq3:(n1==mo)=false:=by rw[beq_eq_false_iff_ne];omega
      clear hq;go_wp2_with fail
      go_ret;exact⟨rfl,La.out.bel⟩
end Go.Proofs.YtbbogjhapeogeaaGreatDoor.IN
namespace Go.Proofs.YtbbogjhapeogeaaGreatDoor
open Go.ChangeShapes Go.WideShapes Go.ChangeAt Go.RowKit Sg
open Go.ChangeMaps (open_string shut_string)
theorem walk_instForgets(a0:Int)(a1:Int)(v2:Value)(v3:Value)(a4:Int)(w:World)(w0:(Lit.int .i64 a0).wf=true)(w1:(Lit.int .i64 a1).wf=true)(w2:CameR w v2)(w3:CameS w v3)(w4:(Lit.int .i64 a4).wf=true)(hl:Laid w/\Named w):Calls Tryz.prog 9 #[.int .i64 a0,.int .i64 a1,v2,v3,.int .i64 a4] w (IN.RetB true w):=by
 obtain⟨A,n,c,rfl,hn,S,hr,hc⟩:=w3;obtain⟨Al,nl,cl,rfl,hnl,vs,hvs⟩:=pick_lane w2;have hz0:=i64_rng w0;have hz1:=i64_rng w1;have hz4:=i64_rng w4
 by_cases hok:¬a0 < 0/\¬6 < a0/\¬a1 < 1/\¬1000 < a1/\¬(n:Int)=0/\¬200 < (n:Int)/\¬300 < (nl:Int)/\¬a4 < 0
 . obtain⟨q0,q1,q2,q3,q4,q5,q6,q7⟩:=hok;obtain⟨kd,rfl⟩:∃m:Nat,a0=(m:Int):=⟨a0.toNat,by omega⟩;obtain⟨mo,rfl⟩:∃m:Nat,a1=(m:Int):=⟨a1.toNat,by omega⟩;obtain⟨wh,rfl⟩:∃m:Nat,a4=(m:Int):=⟨a4.toNat,by omega⟩;obtain⟨hv1,hv2⟩:=hvs (by omega);subst hv1;exact IN.instForgets_main kd mo wh vs Al cl A n c w S (by omega) (by omega) (by omega) (by omega) (by omega) (by omega) (by omega) hv2 ⟨hr,hc⟩ hl
 . have PW:=Lib.hid (show(decide (a0 < 0)=true)\/(decide (a0 < 0)=false/\decide (6 < a0)=true)\/(decide (a0 < 0)=false/\decide (6 < a0)=false/\decide (a1 < 1)=true)\/(decide (a0 < 0)=false/\decide (6 < a0)=false/\decide (a1 < 1)=false/\decide (1000 < a1)=true)\/(decide (a0 < 0)=false/\decide (6 < a0)=false/\decide (a1 < 1)=false/\decide (1000 < a1)=false/\((n:Int)==0)=true)\/(decide (a0 < 0)=false/\decide (6 < a0)=false/\decide (a1 < 1)=false/\decide (1000 < a1)=false/\((n:Int)==0)=false/\decide (200 < (n:Int))=true)\/(decide (a0 < 0)=false/\decide (6 < a0)=false/\decide (a1 < 1)=false/\decide (1000 < a1)=false/\((n:Int)==0)=false/\decide (200 < (n:Int))=false/\decide (300 < (nl:Int))=true)\/(decide (a0 < 0)=false/\decide (6 < a0)=false/\decide (a1 < 1)=false/\decide (1000 < a1)=false/\((n:Int)==0)=false/\decide (200 < (n:Int))=false/\decide (300 < (nl:Int))=false/\decide (a4 < 0)=true) from by
    by_cases p0:decide (a0 < 0)=true
    . exact Or.inl p0
    rw[Bool.not_eq_true] at p0
    by_cases p1:decide (6 < a0)=true
    . exact Or.inr (Or.inl ⟨p0,p1⟩)
    rw[Bool.not_eq_true] at p1
    by_cases p2:decide (a1 < 1)=true
    . exact Or.inr (Or.inr (Or.inl ⟨p0,p1,p2⟩))
    rw[Bool.not_eq_true] at p2
    by_cases p3:decide (1000 < a1)=true
    . exact Or.inr (Or.inr (Or.inr (Or.inl ⟨p0,p1,p2,p3⟩)))
    rw[Bool.not_eq_true] at p3
    by_cases p4:((n:Int)==0)=true
    . exact Or.inr (Or.inr (Or.inr (Or.inr (Or.inl ⟨p0,p1,p2,p3,p4⟩))))
    rw[Bool.not_eq_true] at p4
    by_cases p5:decide (200 < (n:Int))=true
    . exact Or.inr (Or.inr (Or.inr (Or.inr (Or.inr (Or.inl ⟨p0,p1,p2,p3,p4,p5⟩)))))
    rw[Bool.not_eq_true] at p5
    by_cases p6:decide (300 < (nl:Int))=true
    . exact Or.inr (Or.inr (Or.inr (Or.inr (Or.inr (Or.inr (Or.inl ⟨p0,p1,p2,p3,p4,p5,p6⟩))))))
    rw[Bool.not_eq_true] at p6
    by_cases p7:decide (a4 < 0)=true
    . exact Or.inr (Or.inr (Or.inr (Or.inr (Or.inr (Or.inr (Or.inr (⟨p0,p1,p2,p3,p4,p5,p6,p7⟩)))))))
    rw[Bool.not_eq_true] at p7;exact absurd ⟨of_decide_eq_false p0,of_decide_eq_false p1,of_decide_eq_false p2,of_decide_eq_false p3,beq_eq_false_iff_ne.1 p4,of_decide_eq_false p5,of_decide_eq_false p6,of_decide_eq_false p7⟩ hok)
   have AW:=Lib.hid (IN.awake_i w hl);unfold maxLen at hn hnl;clear hr hc hok hl hvs hz0 hz1 hz4 w0 w1 w2 w4;rcases PW.out with e0|⟨e0,e1⟩|⟨e0,e1,e2⟩|⟨e0,e1,e2,e3⟩|⟨e0,e1,e2,e3,e4⟩|⟨e0,e1,e2,e3,e4,e5⟩|⟨e0,e1,e2,e3,e4,e5,e6⟩|⟨e0,e1,e2,e3,e4,e5,e6,e7⟩
   all_goals
    clear PW;go_enter Tryz.func9,Tryz.ntmps9;go_wp2_with fail
    refine AW.out.mono ?_;rintro e w0 ⟨rfl,hb0⟩;have b0:=Lib.hid hb0;clear hb0;go_wp2_with fail
    go_ret;exact⟨rfl,b0.out⟩
namespace LInstForgets
set_option maxRecDepth 100000 in
theorem lifted(os:Os)(started:os.Started)(H:Type)(enc:TypeId × Value->H):
 ReturnsInHanded {} Tryz.checked os 9 .any (λw args=>(Rows.instForgetsSpec.pre enc Tryz.prog Tryz.f9 [] false w args/\laidMetH Tryz.prog seatLaid w)/\sizedMet enc Tryz.prog Tryz.f9 (OpenSpec.ofChange Rows.instForgetsSpec) false w args)
  (Rows.instForgetsSpec.post enc Tryz.prog Tryz.f9 false true false false):=by
 refine returnsInHanded_of_change_and (C:=Tryz.checked) (X:=λw _=>laidMetH Tryz.prog seatLaid w) (λ_ _ _ hh h=>h.of_heap hh) own started (by kernel_rfl) Tryz.func9
  (ChangeSpec.witness_at (enc:=enc) (C:=Tryz.checked) (os:=os) (X:=λw _=>laidMetH Tryz.prog seatLaid w) false (laidWorld os) #[.int .i64 0,.int .i64 0,.slice none 0 0,.slice none 0 0,.int .i64 0] 8 rfl (by kernel_rfl) (by kernel_rfl) (by kernel_rfl) (by kernel_rfl) (by kernel_rfl) (laidWorld_met os _)) ?_
 intro W base args ds gs before hval0 hW _ _ hL _;have hval:∀(j:Nat) t v,Tryz.f9.params[j]?=some t->args[j]?=some v->Value.okWide Tryz.prog W .any base t v:=hval0
 have hW':=hW;obtain⟨p,q,hA0,hV,rfl,hfz,hnd⟩:=hW;have hA:DataW.TrodAll enc Tryz.prog W 0 (λ_=>true) true Tryz.f9.params.toList args.toList ds p:=hA0;rw[Tryz.params9] at hA hval;obtain⟨v0,vs0,d0,ds0,p0,q0,hargs,rfl,rfl,h0,r0⟩:=trodAll_cons hA;obtain⟨v1,vs1,d1,ds1,p1,q1,rfl,rfl,rfl,h1,r1⟩:=trodAll_cons r0;obtain⟨v2,vs2,d2,ds2,p2,q2,rfl,rfl,rfl,h2,r2⟩:=trodAll_cons r1;obtain⟨v3,vs3,d3,ds3,p3,q3,rfl,rfl,rfl,h3,r3⟩:=trodAll_cons r2;obtain⟨v4,vs4,d4,ds4,p4,q4,rfl,rfl,rfl,h4,r4⟩:=trodAll_cons r3;obtain⟨rfl,rfl,rfl⟩:=trodAll_nil r4;obtain rfl:args= #[v0,v1,v2,v3,v4]:=by cases args;simp_all
 obtain⟨rfl,rfl⟩:=trodVars_none hV;obtain⟨a0,rfl,rfl,rfl,w0⟩:=open_int Tryz.underlying3 (hval 0 3 v0 rfl rfl) h0;obtain⟨a1,rfl,rfl,rfl,w1⟩:=open_int Tryz.underlying3 (hval 1 3 v1 rfl rfl) h1;have k2:=h2;have lt2:∀x∈p2,x.block < W.heap.size:=by obtain⟨m,hm⟩:=k2;exact DataW.trod_lt m _ _ _ hm
 have w2:=open_r (hval 2 22 v2 rfl rfl) h2;have k3:=h3;have lt3:∀x∈p3,x.block < W.heap.size:=by obtain⟨m,hm⟩:=k3;exact DataW.trod_lt m _ _ _ hm
 have w3:=open_z (hval 3 23 v3 rfl rfl) h3;obtain⟨a4,rfl,rfl,rfl,w4⟩:=open_int Tryz.underlying3 (hval 4 3 v4 rfl rfl) h4;clear hA0 hval0;refine(walk_instForgets a0 a1 v2 v3 a4 W w0 w1 w2 w3 w4 (laid_of hL)).mono λe W' ⟨he,bel⟩=>?_;subst he;exact⟨_,rfl,_,_,_,[],_,[],hW',trodAll_mk1 (shut_bool Tryz.underlying4 _),(trodAll_cons_mk (shut_int Tryz.underlying3 w0) (trodAll_cons_mk (shut_int Tryz.underlying3 w1) (trodAll_cons_mk (Below.trod laidOut (by kernel_rfl) (of_decide_eq_true (by kernel_rfl)) k2 bel lt2) (trodAll_cons_mk (Below.trod laidOut (by kernel_rfl) (of_decide_eq_true (by kernel_rfl)) k3 bel lt3) (trodAll_cons_mk (shut_int Tryz.underlying3 w4) trodAll_mk0))))),rfl,bel.frame _,λh=>by cases h⟩
theorem band{x y:Bool}(h:x=true)(k:y=true):(x&&y)=true:=by rw[h,k];rfl
set_option maxRecDepth 100000
theorem cj0:(Rows.instForgetsRow.wf (OpenSpec.ofChange Rows.instForgetsSpec))=true:=by kernel_rfl
theorem cj1:(laidOutB Tryz.pinned.checked.prog)=true:=by kernel_rfl
theorem cj2:(mapsRowed Tryz.pinned.checked.prog)=true:=by kernel_rfl
theorem cj9:(Rows.instForgetsRow.inPlace==Tryz.pinned.checked.prog.inPlace 9)=true:=by kernel_rfl
theorem cj10:(Rows.instForgetsRow.unfollowed==Tryz.pinned.checked.prog.unfollowed 9)=true:=by kernel_rfl
theorem cj11:(Rows.instForgetsRow.recurses==Tryz.pinned.checked.prog.recurses 9)=true:=by kernel_rfl
theorem cj12:(Rows.instForgetsRow.named==Tryz.pinned.checked.prog.varsNamed 9)=true:=by kernel_rfl
theorem cj22:(Rows.instForgetsRow.plainKeys==Tryz.pinned.checked.prog.plainKeys)=true:=by kernel_rfl
theorem cj24:(Tryz.pinned.checked.prog.stopsHeard)=true:=by kernel_rfl
theorem cj25:(Tryz.pinned.checked.prog.mayEnter)=true:=by kernel_rfl
theorem cj26:(Rows.instForgetsRow.lifted==Tryz.pinned.checked.prog.liftsFinal)=true:=by kernel_rfl
theorem cj27:(Tryz.pinned.checked.prog.make==some Rows.instForgetsRow.make)=true:=by kernel_rfl
theorem closed:joinedFacts Tryz.pinned.checked.prog 9 Tryz.f9 Rows.instForgetsSpec Rows.instForgetsRow=true:=by
 unfold joinedFacts;exact band (band (band (band (band (band (band (band (band (band (band (band (band (band (band (band (band (band (band (band (band (band (band (band (band (band (band (band (band (band (band (cj0) cj1) cj2) (by kernel_rfl)) (by kernel_rfl)) (by kernel_rfl)) (by kernel_rfl)) (by kernel_rfl)) (by kernel_rfl)) cj9) cj10) cj11) cj12) (by kernel_rfl)) (by kernel_rfl)) (by kernel_rfl)) (by kernel_rfl)) (by kernel_rfl)) (by kernel_rfl)) (by kernel_rfl)) (by kernel_rfl)) (by kernel_rfl)) cj22) (by kernel_rfl)) cj24) cj25) cj26) cj27) (by kernel_rfl)) (by kernel_rfl)) (by kernel_rfl)) (by kernel_rfl)
theorem fnm:Tryz.pinned.checked.prog.funcNamed "cachewise/cachewiselaw11.InstForgets" =some 9:=by kernel_rfl
theorem isIn:Tryz.f9.isInstance Tryz.pinned.checked.prog Rows.instForgetsRow.origin Rows.instForgetsRow.targs:=of_decide_eq_true (by kernel_rfl)
theorem isWr:Tryz.f9.isWrapper Tryz.pinned.checked.prog Rows.instForgetsRow.wrapper Rows.instForgetsRow.mainSum:=by unfold Func.isWrapper;rw[if_neg (of_decide_eq_false (by kernel_rfl))];exact⟨rfl,rfl⟩
theorem said:Rows.InstForgetsSaid:=
 OpenClaim.holds_of_wide 9 Tryz.f9 rfl rfl rfl rfl rfl rfl rfl ⟨rfl,rfl,rfl,rfl,rfl⟩ rfl rfl rfl rfl rfl fnm Tryz.func9 closed isIn isWr
  (λos started H enc _=>lifted os started H enc)
theorem hwT:Rows.instForgetsRow.wfByText (OpenSpec.ofChange Rows.instForgetsSpec)=true:=by kernel_rfl
theorem mnI:Tryz.pinned.checked.prog.mainIs=some (Rows.instForgetsCard.stood.harness.1,Rows.instForgetsCard.stood.harness.2.toList):=by kernel_rfl
theorem lkT:Rows.instForgetsCard.stood.looks=Tryz.pinned.checked.prog.looks []:=by kernel_rfl
theorem gsB:false=Rows.instForgetsRow.goesBy Tryz.pinned.checked.prog:=by kernel_rfl
theorem sii:Tryz.prog.wantsStandIn 3=false:=by kernel_rfl
theorem sir:Tryz.prog.wantsStandIn 22=false:=by kernel_rfl
theorem siz:Tryz.prog.wantsStandIn 23=false:=by kernel_rfl
theorem card:Rows.InstForgetsCardSaid:=
 Claim7.holds_tied_plain_at .later [] _ _ _ _ said (λ_ h=>by cases h) hwT (λ_ h=>by cases h) instForgets_row_tie rfl ⟨rfl,rfl⟩ mnI rfl
  (λf fn hf hfn=>by
    obtain rfl:f=9:=Option.some.inj (fnm.symm.trans hf) |>.symm;obtain rfl:fn=Tryz.f9:=(Option.some.inj (Tryz.func9.symm.trans hfn)).symm;refine⟨lkT,λj t ht=>?_⟩;rw[Tryz.params9] at ht;rcases j with _|_|_|_|_|j
    . obtain rfl:t=3:=by simpa using ht.symm
      exact sii
    . obtain rfl:t=3:=by simpa using ht.symm
      exact sii
    . obtain rfl:t=22:=by simpa using ht.symm
      exact sir
    . obtain rfl:t=23:=by simpa using ht.symm
      exact siz
    . obtain rfl:t=3:=by simpa using ht.symm
      exact sii
    . simp at ht)
  gsB
#print axioms card
end LInstForgets
end Go.Proofs.YtbbogjhapeogeaaGreatDoor
