/- 'cachewiselaw12.ShadowForgets' returns true for every size, every row of lanes, every row of keys and every key, and leaves what was there as it was. The listed variables read as the program's text lays them. -/
import Derived.Test.YtdmmciggopmglaaGreatDoorYh
import Derived.Test.YtdmmciggopmglaaGreatDoorYd
import Derived.Test.YtdmmciggopmglaaGreatDoorHd
import Derived.Test.YtdmmciggopmglaaGreatDoorCards
import Derived.Test.YtdmmciggopmglaaGreatDoorTie
import Derived.SevenTiedAt
import Derived.Deep.DeepCutAuto
import Derived.Deep.CutBlock
import Derived.Deep.RegionHeld3
import Derived.Deep.RegionLaw
set_option maxRecDepth 20000
namespace Go.Proofs.YtdmmciggopmglaaGreatDoor.SW
open Go.Maps Go.ChangeShapes Go.WideShapes Go.ChangeAt Go.RowKit Sg IN HS
theorem back_in{x:ISt}(h:x.Ok)(key:ByteArray)(h1:(x.rm key).Ok)(hm:x.mo≠0):key∉(x.rm key).keys/\(x.rm key).hitB key=false/\key∈((x.rm key).req key).keys:=by
 have f:=ISt.rm_f h key;have hn:key∉(x.rm key).keys:=λe=>((f.mem key).1 e).2 rfl;have g:=ISt.req_f h1 (by rw[ISt.mo_rm];exact hm) key;exact⟨hn,g.hitE.trans (inn_no.2 hn),g.has⟩
theorem run_mo(K:Nat->ByteArray)(n:Nat)(s:Sh)(j:Nat):((runS K n s).st j).mo=(s.st j).mo:=by
 rw[runS_st,run1_mo]
set_option maxHeartbeats 8000000 in
set_option maxRecDepth 100000 in
theorem shadowForgets_main(w:World)(size:Nat)(Al:Option Addr)(nl cl:Nat)(V:Nat->Value)(L:List (List Nat))(A:Option Addr)(n cc:Nat)(S:Nat->ByteArray)(a3:ByteArray)(g0:¬(100 < (a3.size:Int)))(g1:¬((size:Int) < 0))(g2:¬(1000 < (size:Int)))(hn:n<=maxLen)(hnl:nl<=maxLen)(hk:KRow w A n cc S)(hv:VRow w Al nl cl V)(hL:DR.Lanes w w.heap.size (.slice Al nl cl) L)(hf:FewB n nl S V)(hl:Laid w/\Named w):
 Calls Tryz.prog 7 #[.int .i64 (size:Int),.slice Al nl cl,.slice A n cc,.string a3] w (RetB true w):=by
 have AW:=Lib.hid (awake_any w hl.1);have FW:=Lib.hid (λw1 hb=>few_told (w:=w) hn hnl hk hv (fb:=true) ⟨λ_=>hf,λ_=>rfl⟩ w1 hb);have LN:DR.Lanes w w.heap.size (.slice Al nl cl) L:=hL;have TP:=Lib.hid (λ(w1:World) (hb:Below w.heap.size w w1)=>DR.newE_any _ _ w1 (lanes_below LN hb));have KR:=Lib.hid hk;have FB:=Lib.hid hf;have e0:decide (100 < (a3.size:Int))=false:=decide_eq_false g0;have e1:decide ((size:Int) < 0)=false:=decide_eq_false g1;have e2:decide (1000 < (size:Int))=false:=decide_eq_false g2;have SZ:=Lib.hid (show size<=1000/\a3.size<=100 from⟨by omega,by omega⟩);clear hk hl hf hn LN hv hL hnl g0 g1 g2;go_enter Tryz.func7,Tryz.ntmps7;go_wp2_with fail
 refine AW.out.mono ?_;rintro e w0 ⟨rfl,hb0⟩;have b0:=Lib.hid hb0;clear hb0 AW;go_wp2_with fail
 refine(FW.out w0 b0.out).mono ?_;rintro e w1 ⟨rfl,hB⟩;have b1:=Lib.hid (b0.out.trans (hB.mono b0.out.size));clear hB b0 FW;go_wp2_with fail
 refine(TP.out w1 b1.out).mono ?_;rintro e w2 ⟨B,rfl,hT,hB0,hB⟩;have T1:=Lib.hid (And.intro hT (And.intro hB0 hB));clear hT hB0 hB;go_wp2_with fail
 refine Calls.mono (show Calls Tryz.prog 11 #[.int .i64 (size:Int),.int .i64 0,.int .i64 1048576,.pointer (some ⟨B+1,0,none⟩)] w2 (SNew size 0 1048576 B w2.heap.size L w2) from new_any w2 size 0 1048576 B w2.heap.size L (by have:=SZ.out.1;omega) (by omega) (by omega) (by omega) T1.out.1) ?_;rintro e w3 ⟨p,X,U,rfl,hC,hU,hB⟩;have L3:=Lib.hid (ShL.made b1.out T1.out.2.1 T1.out.2.2 hC hU hB);generalize w2.heap.size=E at*;obtain⟨s0,hs0⟩:∃s,s=Sh.start 0 1048576 (sml size 0) L:=⟨_,rfl⟩
 have S0:=Lib.hid (show s0.shift=0/\s0.left=1048576/\∀k,k < 7->(s0.st k).mo≠0 from by
  rw[hs0];refine⟨rfl,rfl,λk hk=>?_⟩;rw[show((Sh.start 0 1048576 (sml size 0) L).st k).mo=sml size 0 from(ISt.start_kind hk _ _).2.1];have:=(sml_le (n:=size) 0 (by have:=SZ.out.1;omega)).1;omega)
 rw[← hs0] at L3;clear hs0 hC hU hB T1 TP b1;go_wp2_with fail
 go_loopw [11] (λi W=>RqR w p X B E S s0 n i W) (λi _=>n - (intOf i).toNat)
 case atStart=>exact⟨0,U,_,rfl,Nat.zero_le _,L3.out⟩
 case round=>
  obtain⟨j,U1,L1,rfl,hj,hR⟩:=hrel;have R:=Lib.hid hR;clear hR L3;have hn150:=FB.out.1;have GO:=Lib.hid (runS_go S j s0 (by rw[S0.out.2.1];omega))
  by_cases hlt:j < n
  . have e0:decide (j < n)=true:=by simpa using hlt
    obtain⟨g,o,rfl,hg,hc1,hc2,hcell⟩:=KR.out.2 (by omega);have h1:=(R.out.bel.cell (p:=⟨g,o+j,none⟩) hg).trans (hcell j hlt);have hsz:=FB.out.2.2.1 j hlt;have V1:=Lib.hid (request_any wr p X U1 B E L1 (runS S j s0) _ (S j) R.out.ca (by omega) (by rw[GO.out.1,S0.out.2.1];omega) (λ_ _=>by show 4*j<=96800;omega));generalize decide ((runS S j s0).left=1)=bb at*;clear hcell hg hsz;unfold maxLen at hc2;obtain⟨kj,hkj⟩:∃y,y=S j:=⟨_,rfl⟩;rw[← hkj] at h1 V1;have HK:=Lib.hid hkj;clear hkj;go_wp2_with fail
    refine V1.out.mono ?_;intro e w5 hp;obtain⟨rfl,U5,L5,hR5,_⟩:=R.out.op hp;have R5:=Lib.hid (hR5.mono (c:=λ_=>4*(j+1)) (λ_ _=>by show 4*j+4<=4*(j+1);omega));rw[HK.out] at R5;clear hp hR5 R V1 h1 GO;go_wp2_with fail
    go_roundw
    case rel=>exact⟨j+1,U5,L5,by go_num,by omega,R5.out⟩
    case measure=>simp[intOf] <;> omega
  . have e0:decide (j < n)=false:=by simpa using hlt
    obtain rfl:j=n:=by omega
    clear hlt hj;obtain⟨t,ht⟩:∃t,t=runS S j s0:=⟨_,rfl⟩
    have T0:=Lib.hid (show t.shift=0/\t.left=1048576 - j/\∀k,k < 7->(t.st k).mo≠0 from by
     rw[ht];refine⟨(runS_same S j s0).1.trans S0.out.1,by rw[GO.out.1,S0.out.2.1],λk hk=>?_⟩;rw[run_mo];exact S0.out.2.2 k hk)
    rw[← ht] at R;have O1:=Lib.hid (λk hk=>R.out.ok (k:=k) hk);have V:=Lib.hid (misses_any wr p _ _ _ _ _ _ R.out.ca.box);obtain⟨m1,hm1⟩:∃m,m=t.mis:=⟨_,rfl⟩;rw[← hm1] at V;have HM:=Lib.hid hm1;clear ht hm1 GO S0;go_wp2_with fail
    refine V.out.mono ?_;rintro e wb ⟨rfl,hB⟩;have Lb:=Lib.hid (R.out.below hB);clear hB R V;obtain⟨b1,b2⟩:=laid7_box wb m1 (T:=sblk p U1 B E) Lb.out.lt;obtain⟨wc,hwc⟩:∃q,q=laid7 wb m1:=⟨_,rfl⟩;rw[← hwc] at b1 b2;unfold laid7 at hwc;have LD:=Lib.hid (And.intro b1 (And.intro b2 hwc));clear b1 b2 hwc;unfold agg7;go_upto_region 13 with fail
    rw[← LD.out.2.2];have Lc:=Lib.hid (Lb.out.below LD.out.2.1);have AM:=Lib.hid LD.out.1;clear LD Lb;generalize wb.heap.size=xm at*;have V:=Lib.hid (remove_any wc p X U1 B E L1 t _ a3 Lc.out.ca (by have:=SZ.out.2;unfold maxLen;omega));obtain⟨u,hu⟩:∃u,u=rmA t a3:=⟨_,rfl⟩;rw[← hu] at V;have U0:=Lib.hid (show u.shift=0/\u.left=t.left/\u.mis=t.mis/\(∀k,u.st k=(t.st k).rm a3) from by rw[hu];exact⟨T0.out.1,rfl,rfl,λ_=>rfl⟩);clear hu;go_wp2_with fail
    refine V.out.mono ?_;intro e wd hp;obtain⟨rfl,Ud,Md,hL,hW⟩:=Lc.out.op hp;have Ld:=Lib.hid hL;have AM:=Lib.hid (AM.out.went hW);have BK:=Lib.hid (λk (hk:k < 7)=>back_in (O1.out k hk) a3 (by rw[← U0.out.2.2.2 k];exact hL.ok hk) (T0.out.2.2 k hk));clear hp hL hW Lc V O1;have V:=misses_any wd.drew p _ _ _ _ _ _ (Ld.out.below (bdrew wd)).ca.box;rw[U0.out.2.2.1,<-HM.out] at V
    replace V:=Lib.hid V
    obtain⟨a0,a1,a2,a3',a4,a5,a6⟩:=AM.out.cells;have q1:=λW=>neq7 W (m1 0:Int) (m1 1:Int) (m1 2:Int) (m1 3:Int) (m1 4:Int) (m1 5:Int) (m1 6:Int);have q2:=λ(W:World)=>guard7 W;unfold agg7 at V;go_wp2_with fail
    go_region_held3(λw'=>w'.cell? ⟨xm,0,none⟩=some (.int .i64 (m1 0:Int))/\w'.cell? ⟨xm,1,none⟩=some (.int .i64 (m1 1:Int))/\w'.cell? ⟨xm,2,none⟩=some (.int .i64 (m1 2:Int))/\w'.cell? ⟨xm,3,none⟩=some (.int .i64 (m1 3:Int))/\w'.cell? ⟨xm,4,none⟩=some (.int .i64 (m1 4:Int))/\w'.cell? ⟨xm,5,none⟩=some (.int .i64 (m1 5:Int))/\w'.cell? ⟨xm,6,none⟩=some (.int .i64 (m1 6:Int))) (first|(with_reducible exact⟨y0,y1,y2,y3,y4,y5,y6⟩)|(with_reducible exact⟨a0,a1,a2,a3',a4,a5,a6⟩)|go_keep)
     ((go_at_call 14;refine V.out.mono ?_;rintro e we ⟨rfl,hB⟩;have Le:=Lib.hid ((Ld.out.below (bdrew wd)).below hB);have AM2:=Lib.hid ((AM.out.below (bdrew wd)).below hB);obtain⟨y0,y1,y2,y3,y4,y5,y6⟩:=AM2.out.cells;clear hB V))
    clear y0 y1 y2 y3 y4 y5 y6 a0 a1 a2 a3' a4 a5 a6 q1 q2;have AM:=Lib.hid AM2.out;clear AM2 Ld;go_wp2_with fail
    go_loopw [13] (λv W=>∃k:Nat,v= .int .i64 (k:Int)/\k<=7/\ShL w W p X Ud B E Md u (λ_=>4*j)/\A7 W (sblk p Ud B E) xm m1) (λv _=>7 - (intOf v).toNat)
    case atStart=>exact⟨0,rfl,by omega,Le.out,AM.out⟩
    case round=>
     obtain⟨k,rfl,hk,hL,hA⟩:=hrel;have L1:=Lib.hid (And.intro hL hA);clear hL hA Le AM
     by_cases hlt:k < 7
     . have e1:decide ((k:Int) < 7)=true:=decide_eq_true (by omega);have V:=Lib.hid (keys_any wr p X Ud B E Md u _ L1.out.1.ca k hlt);have HN:=Lib.hid (show inn (u.st k).keys a3=false from by rw[U0.out.2.2.2 k];exact inn_no.2 (BK.out k hlt).1);generalize(u.st k).keys=ks at*;go_wp2_with fail
       refine V.out.mono ?_;rintro e we ⟨v,rfl,hO,hB⟩;obtain⟨gv,_,hr⟩:=hO.row;have L2:=Lib.hid (And.intro (L1.out.1.below hB) (L1.out.2.below hB));obtain⟨A9,c9,rfl⟩:=hr.shape;have VH:=refHas_any we gv _ ks a3 hr;rw[HN.out] at VH
       replace VH:=Lib.hid VH
       clear hO hB hr V L1;go_wp2_with fail
       refine VH.out.mono ?_;rintro e wf ⟨rfl,hw⟩;have L3:=Lib.hid (hw▸L2.out);clear L2 VH hw;go_wp2_with fail
       go_roundw
       case rel=>exact⟨k+1,by go_num,by omega,L3.out.1,L3.out.2⟩
       case measure=>simp[intOf] <;> omega
     . obtain rfl:k=7:=by omega
       have hl0:u.left=1048576 - j:=by rw[U0.out.2.1];exact T0.out.2.1
       have V:=request_any wr p X Ud B E Md u _ a3 L1.out.1.ca (by have:=SZ.out.2;omega) (by omega) (λ_ _=>by show 4*j<=96800;omega);rw[decide_eq_false (by omega)] at V
       replace V:=Lib.hid V
       have Z0:=Lib.hid (Sh.req_go0 (s:=u) a3 U0.out.1 (by omega))
       have ZF:=Lib.hid (show ∀k,k < 7->(u.req a3).mis k=m1 k+1/\inn ((u.req a3).st k).keys a3=true from λk hk=>by
        refine⟨?_,?_⟩
        . rw[Z0.out.2.2.2.2.2 k,U0.out.2.2.1,<-HM.out,U0.out.2.2.2 k,(BK.out k hk).2.1,if_pos rfl]
        . rw[Z0.out.2.2.2.2.1 k,U0.out.2.2.2 k];exact inn_iff.2 (BK.out k hk).2.2)
       have MZ:=Lib.hid (λk hk=>(ZF.out k hk).1);generalize u.req a3=z at*;clear hl0 Z0 hlt;go_wp2_with fail
       refine V.out.mono ?_;intro e we hp;obtain⟨rfl,Ue,Me,hL,hW⟩:=L1.out.1.op hp;have L2:=Lib.hid (And.intro hL (L1.out.2.went hW));clear hp hL hW L1 V;have V:=Lib.hid (misses_any we p _ _ _ _ _ _ L2.out.1.ca.box);obtain⟨m3,hm3⟩:∃m,m=z.mis:=⟨_,rfl⟩;rw[← hm3] at V;have ZF:=Lib.hid (show ∀k,k < 7->m3 k=m1 k+1/\inn (z.st k).keys a3=true from λk hk=>by rw[hm3];exact ZF.out k hk);clear hm3;go_wp2_with fail
       refine V.out.mono ?_;rintro e wf ⟨rfl,hB⟩;have L3:=Lib.hid (And.intro (L2.out.1.below hB) (L2.out.2.below hB));clear hB L2 V;obtain⟨b1,b2⟩:=laid7_box wf m3 (T:=sblk p Ue B E) L3.out.1.lt;have hxn:xm≠wf.heap.size:=λe=>by have:=heap_lt L3.out.2.1;omega
       obtain⟨wg,hwc⟩:∃q,q=laid7 wf m3:=⟨_,rfl⟩;rw[← hwc] at b1 b2;unfold laid7 at hwc;have LD:=Lib.hid (And.intro b1 (And.intro b2 (And.intro hwc hxn)));clear b1 b2 hwc hxn;unfold agg7;go_upto_region 23 with fail
       rw[← LD.out.2.2.1];have L4:=Lib.hid (And.intro (L3.out.1.below LD.out.2.1) (And.intro (L3.out.2.below LD.out.2.1) LD.out.1));clear LD L3;generalize wf.heap.size=xn at*;go_wp2_with fail
       go_loopw [15] (λv W=>∃k:Nat,v= .int .i64 (k:Int)/\k<=7/\ShL w W p X Ue B E Me z (λ_=>4*j+4)/\A7 W (sblk p Ue B E) xm m1/\A7 W (sblk p Ue B E) xn m3) (λv _=>7 - (intOf v).toNat)
       case atStart=>exact⟨0,rfl,by omega,L4.out⟩
       case round=>
        obtain⟨k,rfl,hk,hL⟩:=hrel;have L1:=Lib.hid hL;clear hL L4
        by_cases hlt:k < 7
        . have e1:decide ((k:Int) < 7)=true:=decide_eq_true (by omega);have V:=Lib.hid (keys_any wr.drew p X Ue B E Me z _ (L1.out.1.below (bdrew wr)).ca k hlt);have HN:=Lib.hid (ZF.out k hlt).2;have a0:=L1.out.2.1.cell hlt;have a1:=L1.out.2.2.cell hlt;rw[(ZF.out k hlt).1] at a1;have mb:=L1.out.1.ca.mis k hlt;have mz:=(ZF.out k hlt).1;have hj150:j<=150:=FB.out.1;have i0:=ix0 hlt xm;have i1:=ix0 hlt xn;obtain⟨c,hc⟩:∃c,c=m1 k:=⟨_,rfl⟩;obtain⟨c1,hc1⟩:∃c1,c1=c+1:=⟨_,rfl⟩
          have hcb:c<=100000:=by
           rw[show z.mis k=m1 k+1 from MZ.out k hlt] at mb;omega
          rw[← hc,<-hc1] at a1;rw[← hc] at a0;have wr1:IntKind.i64.wrap ((c:Int)+1)=(c1:Int):=by rw[IntWalk.i64_in _ (by omega)];omega
          have WR:=Lib.hid (show wrap64 ((c:Int)+1)=(c1:Int) from by rw[IntWalk.wrap64_in _ (by omega)];omega);have HC:=Lib.hid (show m1 k=c/\m3 k=c1 from⟨hc.symm,by rw[(ZF.out k hlt).1,hc1,hc]⟩);have e2:((c1:Int) != (c1:Int))=false:=by simp
          have HKK:=Lib.hid (And.intro hlt hk);generalize(z.st k).keys=ks at*;clear mb mz hc hc1 hcb hj150;go_wp2_with fail
          go_region_held3(λw'=>w'.cell? ⟨xm,k,none⟩=some (.int .i64 (c:Int))/\w'.cell? ⟨xn,k,none⟩=some (.int .i64 (c1:Int))) (first|(with_reducible exact⟨a0,a1⟩)|(with_reducible exact⟨y0,y1⟩)|(with_reducible exact⟨x0,x1⟩)|go_keep)
           (first
           |(go_at_call 19;refine V.out.mono ?_;rintro e we ⟨v,rfl,hO,hB⟩;have L5:=Lib.hid (And.intro ((L1.out.1.below (bdrew wr)).below hB) (And.intro ((L1.out.2.1.below (bdrew wr)).below hB) ((L1.out.2.2.below (bdrew wr)).below hB)));obtain⟨gv,_,hr⟩:=hO.row;have HR:=Lib.hid hr;obtain⟨A9,c9,rfl⟩:=hr.shape;have y0:=L5.out.2.1.cell hlt;have y1:=L5.out.2.2.cell hlt;rw[HC.out.1] at y0;rw[HC.out.2] at y1;clear hr hO hB)
           |(go_at_call 23;refine(refHas_any _ gv _ ks a3 HR.out).mono ?_;rw[HN.out];rintro e wf ⟨rfl,hw⟩;have x0:=hw▸y0;have x1:=hw▸y1;have L6:=Lib.hid (hw▸L5.out);clear hw))
          clear x0 x1 y0 y1 a0 a1 V;go_wp2_with fail
          go_roundw
          case rel=>exact⟨k+1,by go_num,by omega,L6.out⟩
          case measure=>simp[intOf] <;> omega
        . obtain rfl:k=7:=by omega
          go_wp2_with fail
          go_ret;exact⟨rfl,L1.out.1.bel⟩
end Go.Proofs.YtdmmciggopmglaaGreatDoor.SW
namespace Go.Proofs.YtdmmciggopmglaaGreatDoor
open Go.ChangeShapes Go.WideShapes Go.ChangeAt Go.RowKit Sg
open Go.ChangeMaps (open_string shut_string)
theorem walk_shadowForgets(a0:Int)(v1:Value)(v2:Value)(a3:ByteArray)(w:World)(w0:(Lit.int .i64 a0).wf=true)(w1:CameRR w v1)(w2:CameS w v2)(_w3:a3.size<=maxLen)(hl:Laid w/\Named w):Calls Tryz.prog 7 #[.int .i64 a0,v1,v2,.string a3] w (IN.RetB true w):=by
 obtain⟨A,n,cc,rfl,hn,S,hr,hc⟩:=w2;obtain⟨Al,nl,cl,V,rfl,hnl,hv1,hv2,hL⟩:=pick_lanes2 w1;have hz0:=i64_rng w0;obtain⟨fb,hfb⟩:=SW.few_bool n nl S V
 by_cases hok:fb=true/\¬(100 < (a3.size:Int))/\¬(a0 < 0)/\¬(1000 < a0)
 . obtain⟨q,q0,q1,q2⟩:=hok;obtain⟨size,rfl⟩:∃m:Nat,a0=(m:Int):=⟨a0.toNat,by omega⟩;have hf:=hfb.1 q
   obtain⟨L,hL1,_⟩:=hL hf.2.1 λi hi=>by
    obtain⟨a,m,d,e,_⟩:=hv1 i hi;have h3:=hf.2.2.2 i hi;rw[e] at h3;exact⟨a,m,d,e,h3⟩
   exact SW.shadowForgets_main w size Al nl cl V L A n cc S a3 q0 q1 q2 hn hnl ⟨hr,hc⟩ ⟨hv1,hv2⟩ hL1 hf hl
 . have PW:=Lib.hid (show fb=false\/(fb=true/\decide (100 < (a3.size:Int))=true)\/(fb=true/\decide (100 < (a3.size:Int))=false/\decide (a0 < 0)=true)\/(fb=true/\decide (100 < (a3.size:Int))=false/\decide (a0 < 0)=false/\decide (1000 < a0)=true) from by
    by_cases pf:fb=true
    . refine Or.inr ?_
      by_cases p0:decide (100 < (a3.size:Int))=true
      . exact Or.inl ⟨pf,p0⟩
      rw[Bool.not_eq_true] at p0
      by_cases p1:decide (a0 < 0)=true
      . exact Or.inr (Or.inl ⟨pf,p0,p1⟩)
      rw[Bool.not_eq_true] at p1
      by_cases p2:decide (1000 < a0)=true
      . exact Or.inr (Or.inr (⟨pf,p0,p1,p2⟩))
      rw[Bool.not_eq_true] at p2;exact absurd ⟨pf,of_decide_eq_false p0,of_decide_eq_false p1,of_decide_eq_false p2⟩ hok
    . exact Or.inl (by simpa using pf))
   have AW:=Lib.hid (SW.awake_any w hl.1);have FW:=Lib.hid (λw1 hb=>SW.few_told (w:=w) hn hnl ⟨hr,hc⟩ ⟨hv1,hv2⟩ hfb w1 hb);unfold maxLen at hn hnl;clear hr hc hok hl hfb hv1 hv2 hL hz0 w0 w1;rcases PW.out with rfl|⟨rfl,e0⟩|⟨rfl,e0,e1⟩|⟨rfl,e0,e1,e2⟩
   all_goals
    clear PW;go_enter Tryz.func7,Tryz.ntmps7;go_wp2_with fail
    refine AW.out.mono ?_;rintro e w0 ⟨rfl,hb0⟩;have b0:=Lib.hid hb0;clear hb0 AW;go_wp2_with fail
    refine(FW.out w0 b0.out).mono ?_;rintro e w1 ⟨rfl,hB⟩;have b1:=Lib.hid (b0.out.trans (hB.mono b0.out.size));clear hB b0;go_wp2_with fail
    go_ret;exact⟨rfl,b1.out⟩
namespace LShadowForgets
set_option maxRecDepth 100000 in
theorem lifted(os:Os)(started:os.Started)(H:Type)(enc:TypeId × Value->H):
 ReturnsInHanded {} Tryz.checked os 7 .any (λw args=>(Rows.shadowForgetsSpec.pre enc Tryz.prog Tryz.f7 [] false w args/\laidMetH Tryz.prog seatLaid w)/\sizedMet enc Tryz.prog Tryz.f7 (OpenSpec.ofChange Rows.shadowForgetsSpec) false w args)
  (Rows.shadowForgetsSpec.post enc Tryz.prog Tryz.f7 false true false false):=by
 refine returnsInHanded_of_change_and (C:=Tryz.checked) (X:=λw _=>laidMetH Tryz.prog seatLaid w) (λ_ _ _ hh h=>h.of_heap hh) own started (by kernel_rfl) Tryz.func7
  (ChangeSpec.witness_at (enc:=enc) (C:=Tryz.checked) (os:=os) (X:=λw _=>laidMetH Tryz.prog seatLaid w) false (laidWorld os) #[.int .i64 0,.slice none 0 0,.slice none 0 0,.string ByteArray.empty] 8 rfl (by kernel_rfl) (by kernel_rfl) (by kernel_rfl) (by kernel_rfl) (by kernel_rfl) (laidWorld_met os _)) ?_
 intro W base args ds gs before hval0 hW _ _ hL _;have hval:∀(j:Nat) t v,Tryz.f7.params[j]?=some t->args[j]?=some v->Value.okWide Tryz.prog W .any base t v:=hval0
 have hW':=hW;obtain⟨p,q,hA0,hV,rfl,hfz,hnd⟩:=hW;have hA:DataW.TrodAll enc Tryz.prog W 0 (λ_=>true) true Tryz.f7.params.toList args.toList ds p:=hA0;rw[Tryz.params7] at hA hval;obtain⟨v0,vs0,d0,ds0,p0,q0,hargs,rfl,rfl,h0,r0⟩:=trodAll_cons hA;obtain⟨v1,vs1,d1,ds1,p1,q1,rfl,rfl,rfl,h1,r1⟩:=trodAll_cons r0;obtain⟨v2,vs2,d2,ds2,p2,q2,rfl,rfl,rfl,h2,r2⟩:=trodAll_cons r1;obtain⟨v3,vs3,d3,ds3,p3,q3,rfl,rfl,rfl,h3,r3⟩:=trodAll_cons r2;obtain⟨rfl,rfl,rfl⟩:=trodAll_nil r3;obtain rfl:args= #[v0,v1,v2,v3]:=by cases args;simp_all
 obtain⟨rfl,rfl⟩:=trodVars_none hV;obtain⟨a0,rfl,rfl,rfl,w0⟩:=open_int Tryz.underlying3 (hval 0 3 v0 rfl rfl) h0;have k1:=h1;have lt1:∀x∈p1,x.block < W.heap.size:=by obtain⟨m,hm⟩:=k1;exact DataW.trod_lt m _ _ _ hm
 have w1:=open_R (hval 1 22 v1 rfl rfl) h1;have k2:=h2;have lt2:∀x∈p2,x.block < W.heap.size:=by obtain⟨m,hm⟩:=k2;exact DataW.trod_lt m _ _ _ hm
 have w2:=open_z (hval 2 23 v2 rfl rfl) h2;obtain⟨a3,rfl,rfl,rfl,w3⟩:=open_string Tryz.underlying9 (hval 3 9 v3 rfl rfl) h3;clear hA0 hval0;refine(walk_shadowForgets a0 v1 v2 a3 W w0 w1 w2 w3 (laid_of hL)).mono λe W' ⟨he,bel⟩=>?_;subst he;exact⟨_,rfl,_,_,_,[],_,[],hW',trodAll_mk1 (shut_bool Tryz.underlying4 _),(trodAll_cons_mk (shut_int Tryz.underlying3 w0) (trodAll_cons_mk (Below.trod laidOut (by kernel_rfl) (of_decide_eq_true (by kernel_rfl)) k1 bel lt1) (trodAll_cons_mk (Below.trod laidOut (by kernel_rfl) (of_decide_eq_true (by kernel_rfl)) k2 bel lt2) (trodAll_cons_mk (shut_string Tryz.underlying9 w3) trodAll_mk0)))),rfl,bel.frame _,λh=>by cases h⟩
theorem band{x y:Bool}(h:x=true)(k:y=true):(x&&y)=true:=by rw[h,k];rfl
set_option maxRecDepth 100000
theorem cj0:(Rows.shadowForgetsRow.wf (OpenSpec.ofChange Rows.shadowForgetsSpec))=true:=by kernel_rfl
theorem cj1:(laidOutB Tryz.pinned.checked.prog)=true:=by kernel_rfl
theorem cj2:(mapsRowed Tryz.pinned.checked.prog)=true:=by kernel_rfl
theorem cj9:(Rows.shadowForgetsRow.inPlace==Tryz.pinned.checked.prog.inPlace 7)=true:=by kernel_rfl
theorem cj10:(Rows.shadowForgetsRow.unfollowed==Tryz.pinned.checked.prog.unfollowed 7)=true:=by kernel_rfl
theorem cj11:(Rows.shadowForgetsRow.recurses==Tryz.pinned.checked.prog.recurses 7)=true:=by kernel_rfl
theorem cj12:(Rows.shadowForgetsRow.named==Tryz.pinned.checked.prog.varsNamed 7)=true:=by kernel_rfl
theorem cj22:(Rows.shadowForgetsRow.plainKeys==Tryz.pinned.checked.prog.plainKeys)=true:=by kernel_rfl
theorem cj24:(Tryz.pinned.checked.prog.stopsHeard)=true:=by kernel_rfl
theorem cj25:(Tryz.pinned.checked.prog.mayEnter)=true:=by kernel_rfl
theorem cj26:(Rows.shadowForgetsRow.lifted==Tryz.pinned.checked.prog.liftsFinal)=true:=by kernel_rfl
theorem cj27:(Tryz.pinned.checked.prog.make==some Rows.shadowForgetsRow.make)=true:=by kernel_rfl
theorem closed:joinedFacts Tryz.pinned.checked.prog 7 Tryz.f7 Rows.shadowForgetsSpec Rows.shadowForgetsRow=true:=by
 unfold joinedFacts;exact band (band (band (band (band (band (band (band (band (band (band (band (band (band (band (band (band (band (band (band (band (band (band (band (band (band (band (band (band (band (band (cj0) cj1) cj2) (by kernel_rfl)) (by kernel_rfl)) (by kernel_rfl)) (by kernel_rfl)) (by kernel_rfl)) (by kernel_rfl)) cj9) cj10) cj11) cj12) (by kernel_rfl)) (by kernel_rfl)) (by kernel_rfl)) (by kernel_rfl)) (by kernel_rfl)) (by kernel_rfl)) (by kernel_rfl)) (by kernel_rfl)) (by kernel_rfl)) cj22) (by kernel_rfl)) cj24) cj25) cj26) cj27) (by kernel_rfl)) (by kernel_rfl)) (by kernel_rfl)) (by kernel_rfl)
theorem fnm:Tryz.pinned.checked.prog.funcNamed "cachewise/cachewiselaw12.ShadowForgets" =some 7:=by kernel_rfl
theorem isIn:Tryz.f7.isInstance Tryz.pinned.checked.prog Rows.shadowForgetsRow.origin Rows.shadowForgetsRow.targs:=of_decide_eq_true (by kernel_rfl)
theorem isWr:Tryz.f7.isWrapper Tryz.pinned.checked.prog Rows.shadowForgetsRow.wrapper Rows.shadowForgetsRow.mainSum:=by unfold Func.isWrapper;rw[if_neg (of_decide_eq_false (by kernel_rfl))];exact⟨rfl,rfl⟩
theorem said:Rows.ShadowForgetsSaid:=
 OpenClaim.holds_of_wide 7 Tryz.f7 rfl rfl rfl rfl rfl rfl rfl ⟨rfl,rfl,rfl,rfl,rfl⟩ rfl rfl rfl rfl rfl fnm Tryz.func7 closed isIn isWr
  (λos started H enc _=>lifted os started H enc)
theorem hwT:Rows.shadowForgetsRow.wfByText (OpenSpec.ofChange Rows.shadowForgetsSpec)=true:=by kernel_rfl
theorem mnI:Tryz.pinned.checked.prog.mainIs=some (Rows.shadowForgetsCard.stood.harness.1,Rows.shadowForgetsCard.stood.harness.2.toList):=by kernel_rfl
theorem lkT:Rows.shadowForgetsCard.stood.looks=Tryz.pinned.checked.prog.looks []:=by kernel_rfl
theorem gsB:false=Rows.shadowForgetsRow.goesBy Tryz.pinned.checked.prog:=by kernel_rfl
theorem siR:Tryz.prog.wantsStandIn 22=false:=by kernel_rfl
theorem sii:Tryz.prog.wantsStandIn 3=false:=by kernel_rfl
theorem sis:Tryz.prog.wantsStandIn 9=false:=by kernel_rfl
theorem siz:Tryz.prog.wantsStandIn 23=false:=by kernel_rfl
theorem card:Rows.ShadowForgetsCardSaid:=
 Claim7.holds_tied_plain_at .later [] _ _ _ _ said (λ_ h=>by cases h) hwT (λ_ h=>by cases h) shadowForgets_row_tie rfl ⟨rfl,rfl⟩ mnI rfl
  (λf fn hf hfn=>by
    obtain rfl:f=7:=Option.some.inj (fnm.symm.trans hf) |>.symm;obtain rfl:fn=Tryz.f7:=(Option.some.inj (Tryz.func7.symm.trans hfn)).symm;refine⟨lkT,λj t ht=>?_⟩;rw[Tryz.params7] at ht;rcases j with _|_|_|_|j
    . obtain rfl:t=3:=by simpa using ht.symm
      exact sii
    . obtain rfl:t=22:=by simpa using ht.symm
      exact siR
    . obtain rfl:t=23:=by simpa using ht.symm
      exact siz
    . obtain rfl:t=9:=by simpa using ht.symm
      exact sis
    . simp at ht)
  gsB
#print axioms card
end LShadowForgets
end Go.Proofs.YtdmmciggopmglaaGreatDoor
