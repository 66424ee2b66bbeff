/- 'cachewiselaw11.InstKeeps' returns true for every kind, every size, every lane and every row of keys, and leaves what was there as it was. The listed variables read as the program's text lays them. -/
import Derived.Test.YtbbogjhapeogeaaGreatDoorYd
import Derived.Test.YtbbogjhapeogeaaGreatDoorCards
import Derived.Test.YtbbogjhapeogeaaGreatDoorTie
import Derived.SevenTiedAt
import Derived.Deep.DeepCutAuto
import Derived.Deep.CutBlock
set_option maxRecDepth 20000
namespace Go.Proofs.YtbbogjhapeogeaaGreatDoor.IN
open Go.ChangeShapes Go.WideShapes Go.ChangeAt Go.RowKit Sg
def IKp(w0:World)(x mo n:Nat)(a i:Value)(W:World):Prop:=∃(k:Nat) (T:Nat->Prop) (s:ISt) (h:Nat),i= .int .i64 (k:Int)/\a= .int .i64 (h:Int)/\k<=n/\h<=k/\IL w0 W x T s k h (4*k)/\s.mo=mo
def IKr(w0:World)(x:Nat)(T:Nat->Prop)(s:ISt)(n h b:Nat)(va:Value)(xs:List ByteArray)(nb:Nat)(hit:Bool)(vk:ByteArray)(out:Bool)(q:Nat)(i:Value)(W:World):Prop:=∃j:Nat,i= .int .i64 (j:Int)/\j<=q/\IRB w0 W x T s n h b va xs nb hit vk out
set_option maxHeartbeats 8000000 in
set_option maxRecDepth 100000 in
theorem instKeeps_main(kd:Nat)(mo:Nat)(vs:List Nat)(Al:Option Addr)(cl:Nat)(A:Option Addr)(n cc:Nat)(w:World)(S:Nat->ByteArray)(hkd:kd < 7)(hlo:1<=mo)(hmo:mo<=1000)(hn:n<=200)(hvl:vs.length<=300)
 (hv:DR.Lane w 0 w.heap.size (.slice Al vs.length cl) vs) (hk:KRow w A n cc S) (hl:Laid w/\Named w):
 Calls Tryz.prog 3 #[.int .i64 (kd:Int),.int .i64 (mo:Int),.slice Al vs.length cl,.slice A n cc] w (RetB true w):=by
 have AW:=Lib.hid (awake_i w hl);have TP:=Lib.hid (tape_of hv);have NW:=Lib.hid (λ(w1:World) (B E:Nat) (hT:DR.Tape w1 B E [vs])=>new_i w1 kd mo B E [vs] hkd (by omega) hT);have KD:=Lib.hid hkd;have g0:decide ((kd:Int) < 0)=false:=decide_eq_false (by omega);have g1:decide (6 < (kd:Int))=false:=decide_eq_false (by omega);have g2:decide ((mo:Int) < 1)=false:=decide_eq_false (by omega);have g3:decide (1000 < (mo:Int))=false:=decide_eq_false (by omega);have g4:decide (200 < (n:Int))=false:=decide_eq_false (by omega);have g5:decide (300 < (vs.length:Int))=false:=decide_eq_false (by omega);have KR:=Lib.hid hk;have HN:=Lib.hid hn;have HM:=Lib.hid hmo;have LO:=Lib.hid hlo;generalize hvn:vs.length=vn at*;clear hk hl hv hkd hvn hn;clear hlo;go_enter Tryz.func3,Tryz.ntmps3;go_wp2_with fail
 refine AW.out.mono ?_;rintro e w0 ⟨rfl,hb0⟩;have b0:=Lib.hid hb0;clear hb0;go_wp2_with fail
 refine(TP.out w0 b0.out).mono ?_;rintro e w1 ⟨B,rfl,hT,hB0,hB⟩;have T1:=Lib.hid (And.intro hT (And.intro hB0 hB));clear hT hB0 hB TP AW;go_wp2_with fail
 refine Calls.mono (show Calls Tryz.prog 11 #[.int .i64 (kd:Int),.int .i64 (mo:Int),.pointer (some ⟨B+1,0,none⟩),.int .i64 0] w1 (INew kd mo (DR.lget [vs] 0) B w1) from NW.out w1 B _ T1.out.1) ?_;rintro e w2 ⟨x,U,rfl,hC,hU,hB⟩;have L1:=Lib.hid (made_i b0.out T1.out.2.1 T1.out.2.2 hC hU hB);have K0:=Lib.hid (ISt.start_kind KD.out mo (DR.lget [vs] 0));generalize ISt.start kd mo (DR.lget [vs] 0)=s0 at*;clear hC hU hB b0 T1 NW;go_wp2_with fail
 clear g0 g1 g2 g3 g4 g5;go_loopw [11,12] (λa i W=>IKp w x mo n a i W) (λ_ i _=>n - (intOf i).toNat)
 case atStart=>exact⟨0,U,s0,0,rfl,rfl,Nat.zero_le _,Nat.le_refl _,L1.out,K0.out.2.1⟩
 case round=>
  obtain⟨k,T,s,h,rfl,rfl,hk,hh,hL,hm⟩:=hrel;have HL:=Lib.hid hL;have SM:=Lib.hid hm;clear hL L1 hm K0;have hn2:=HN.out;have hmo2:=HM.out
  by_cases hlt:k < n
  . have e0:decide (k < n)=true:=by simpa using hlt
    obtain⟨g,o,rfl,hg,hc1,hc2,hcell⟩:=KR.out.2 (by omega);have h1:=(HL.out.bel.cell (p:=⟨g,o+k,none⟩) hg).trans (hcell k hlt);have HCELL:=Lib.hid (hcell k hlt);have HSK:=Lib.hid (KR.out.1 k hlt);have hsk:=HSK.out;clear hcell;unfold maxLen at hc2 hsk;generalize S k=key at*
    by_cases hbig:key.size<=200
    . have g1:decide (200 < (key.size:Int))=false:=decide_eq_false (by omega);obtain⟨k1,hk1⟩:∃y,y=k+1:=⟨_,rfl⟩;have hwk:IntKind.i64.wrap ((k:Int)+1)=(k1:Int):=by rw[IntWalk.i64_in _ (by omega)];omega
      have HK4:=Lib.hid (show 4*k1=4*k+4 from by omega);obtain⟨q,hq⟩:∃y,y=s.keys.length:=⟨_,rfl⟩;have hqm:q<=mo:=by rw[hq,<-SM.out];exact ISt.le HL.out.ca.ok
      have HQ:=Lib.hid hq;have WAY:=Lib.hid (keep_facts (key:=key) HL.out.ca.ok SM.out (by have:=LO.out;omega) hq);clear hq;go_wp2_with fail
      refine(keys_i wr x T s _ _ _ HL.out.ca).mono ?_;rintro e w2 ⟨v2,rfl,hO,hB⟩;obtain⟨A2,c2,rfl⟩:=hO.len;have M2:=Lib.hid (IL.mine hO HL.out.ca);have L2:=Lib.hid (HL.out.below hB);rw[← HQ.out] at M2|-;clear hO hB HL h1;rcases WAY.out with⟨hi,hx1,hx2,hx3⟩|⟨hi,hqm2,hx1,hx2,hx3⟩|⟨hi,hqm2,hx1,hx3,hv,hn1⟩
      . have HI:=Lib.hid hi;have U:=request_i w2 x T s k h (4*k) L2.out.ca key HSK.out (by omega) (by omega) (by omega);unfold ISt.step at U;rw[hx1,hx3,hx2] at U;rw[if_pos rfl] at U;obtain⟨h1,hh1⟩:∃y,y=h+1:=⟨_,rfl⟩;rw[← hh1] at U;have hw1:IntKind.i64.wrap ((h:Int)+1)=(h1:Int):=by rw[IntWalk.i64_in _ (by omega)];omega
        have HH1:=Lib.hid hh1;clear hh1;rw[← hk1] at U
        replace U:=Lib.hid U
        have ST:=Lib.hid (ISt.req_f L2.out.ca.ok (by rw[SM.out];have:=LO.out;omega) key).stay;have HHAS:=Lib.hid (show(s.req key).has key=true from inn_iff.2 (ISt.req_f L2.out.ca.ok (by rw[SM.out];have:=LO.out;omega) key).has);rw[hx3,hx2] at ST;clear hi hx1 hx2 hx3;have hkey:=(L2.out.bel.cell (p:=⟨g,o+k,none⟩) hg).trans HCELL.out;go_wp2_with fail
        refine U.out.mono ?_;intro e w3 hp;obtain⟨rfl,T3,hL3,hW3⟩:=L2.out.op hp
        have Q3:=Lib.hid (show IRB w (w3.alloc (.cells #[.bool true,.string ⟨#[]⟩,.bool false] 34)) x T3 (s.req key) k1 h1 (4*k+4) (.slice A2 q c2) s.keys w3.heap.size true ⟨#[]⟩ false from
         ⟨hL3.below ((Below.refl _ _).alloc (Nat.le_refl _) _),(M2.out.went hW3 hL3.lt).below ((Below.refl _ _).alloc (Nat.le_refl _) _),box_newI (by intro q hq;cases hq) hL3.lt true false ⟨#[]⟩⟩)
        have MO3:=Lib.hid ((ISt.mo_req s key).trans SM.out);clear hp hL3 hW3 L2 M2 U hkey SM;go_upto_region 16 with fail
        generalize w3.heap.size=nb at Q3|-;generalize w3.alloc (.cells #[.bool true,.string ⟨#[]⟩,.bool false] 34)=w4 at Q3|-;generalize s.req key=s2 at*;obtain⟨x1,x2,x3⟩:=Q3.out.cells;have V3:=Lib.hid (count_i w4 x T3 s2 _ _ _ Q3.out.lv.ca);go_wp2_with fail
        refine V3.out.mono ?_;rintro e w5 ⟨rfl,hB⟩;have Q5:=Lib.hid (Q3.out.below hB);clear hB Q3 V3 x1 x2 x3;have hkey:=(Q5.out.lv.bel.cell (p:=⟨g,o+k,none⟩) hg).trans HCELL.out;obtain⟨x1,x2,x3⟩:=Q5.out.cells
        have VH:=Lib.hid (show Calls Tryz.prog 16 #[.slice A2 q c2,.string key] w5 (BoolPost true w5) from by
         obtain⟨g,hr⟩:=Q5.out.ra.row;have:=refHas_any w5 g _ _ key hr;rw[HI.out] at this;exact this)
        go_wp2_with fail
        refine VH.out.mono ?_;rintro e wx ⟨rfl,rfl⟩;clear VH;have VA:=has_i w5 x T3 s2 _ _ _ Q5.out.lv.ca key HSK.out;rw[HHAS.out] at VA
        replace VA:=Lib.hid VA
        go_wp2_with fail
        refine VA.out.mono ?_;rintro e w6 ⟨rfl,hB⟩;have Q6:=Lib.hid (Q5.out.below hB);clear hB Q5 VA x1 x2 x3 hkey;obtain⟨x1,x2,x3⟩:=Q6.out.cells;go_wp2_with fail
        clear x1 x2 x3;go_loopw [18] (λi W=>IKr w x T3 s2 k1 h1 (4*k+4) (.slice A2 q c2) s.keys nb true ⟨#[]⟩ false q i W) (λi _=>q - (intOf i).toNat)
        case atStart=>exact⟨0,rfl,Nat.zero_le _,Q6.out⟩
        case round=>
         obtain⟨j,rfl,hj,hQ⟩:=hrel;have Q8:=Lib.hid hQ;clear hQ Q6
         by_cases hlt2:j < q
         . have e1:decide (j < q)=true:=by simpa using hlt2
           obtain⟨g2,hr⟩:=Q8.out.ra.row;have hjq:j < s.keys.length:=by rw[← HQ.out];exact hlt2
           obtain⟨o2,rfl,hg2,hcell2,hc12,hc22⟩:=hr.at hjq;have hmem:s.keys.getD j ⟨#[]⟩∈s.keys:=by rw[List.getD_eq_getElem?_getD,List.getElem?_eq_getElem hjq];exact List.getElem_mem hjq
           have YS:=Lib.hid (hr.2.1 _ hmem);have HST:=Lib.hid (ST.out _ hmem);generalize s.keys.getD j ⟨#[]⟩=y at*;rw[← HQ.out] at hc12;unfold maxLen at hc22;clear hr hmem hjq
           have hyt:s2.has y=true:=by
            rcases HST.out with h|h
            . exact inn_iff.2 h
            . cases h.1
           have VX:=λ(W:World) (hb:Below wr.heap.size wr W)=>has_i W x T3 s2 _ _ _ (Q8.out.below hb).lv.ca y YS.out;rw[hyt] at VX
           replace VX:=Lib.hid VX
           clear hyt;have FF:=Lib.hid (show ∀W,Below wr.heap.size wr W->(λW=>W.cell? ⟨g2,o2+j,none⟩=some (.string y)/\W.cell? ⟨nb,1,none⟩=some (.string ⟨#[]⟩)/\W.cell? ⟨nb,2,none⟩=some (.bool false)) W from λW hb=>⟨(hb.cell (p:=⟨g2,o2+j,none⟩) hg2).trans hcell2,(Q8.out.below hb).cells.2.1,(Q8.out.below hb).cells.2.2⟩);clear hg2 hcell2;have D0:=Lib.hid (show Below wr.heap.size wr wr.drew from(Below.refl _ _).drew);go_wp2_with fail
           refine rg (λW=>W.cell? ⟨g2,o2+j,none⟩=some (.string y)/\W.cell? ⟨nb,1,none⟩=some (.string ⟨#[]⟩)/\W.cell? ⟨nb,2,none⟩=some (.bool false)) (FF.out _ D0.out) (λhHeld=>?_);refine tk 0 ?_;refine tk 1 ?_;refine tk 2 ?_;refine tk 3 ?_;refine tk 4 ?_;refine rdy 5 (λK hK=>?_);go_simp;refine(VX.out _ D0.out).mono ?_;rintro e w9 ⟨rfl,hB⟩;have B9:=Lib.hid (D0.out.trans (hB.mono D0.out.size));clear hB;go_wp2_with fail
           refine hK.out _ _ ?_ (λhHeld=>?_)
           . exact FF.out _ B9.out
           clear hK K;refine tk 6 ?_;refine tk 7 ?_;refine tn 8 ?_;refine tn 9 ?_;refine tn 10 ?_;refine tn 11 ?_;refine tn 12 ?_;refine tn 13 ?_;refine tn 14 ?_;refine tn 15 ?_;refine tn 16 ?_;refine tn 17 ?_;refine tn 18 ?_;refine tn 19 ?_;refine tk 20 ?_;refine dn (NoPanic.normal ?_);have Q9:=Lib.hid (Q8.out.below B9.out);clear VX Q8 FF D0 B9 hHeld;go_wp2_with fail
           go_roundw
           case rel=>exact⟨j+1,by go_num,by omega,Q9.out⟩
           case measure=>simp[intOf] <;> omega
         . have e1:decide (j < q)=false:=by simpa using hlt2
           have FIN:=Lib.hid (show IKp w x mo n (.int .i64 (h1:Int)) (.int .i64 ((k:Int)+1)) wr from⟨k1,T3,s2,h1,by rw[show(k:Int)+1=(k1:Int) from by omega],rfl,by omega,by have:=HH1.out;omega,by have:=Q8.out.lv;rw[← HK4.out] at this;exact this,MO3.out⟩);go_wp2_with fail
           go_roundw
           case rel=>exact FIN.out
           case measure=>simp[intOf] <;> omega
      . have HI:=Lib.hid hi;have U:=request_i w2 x T s k h (4*k) L2.out.ca key HSK.out (by omega) (by omega) (by omega);unfold ISt.step at U;rw[hx1,hx3,hx2] at U;rw[if_neg (by simp)] at U;rw[← hk1] at U
        replace U:=Lib.hid U
        have ST:=Lib.hid (ISt.req_f L2.out.ca.ok (by rw[SM.out];have:=LO.out;omega) key).stay;have HHAS:=Lib.hid (show(s.req key).has key=true from inn_iff.2 (ISt.req_f L2.out.ca.ok (by rw[SM.out];have:=LO.out;omega) key).has);rw[hx3,hx2] at ST;clear hi hx1 hx2 hx3;have hb1:((q:Int)==(mo:Int))=false:=by rw[beq_eq_false_iff_ne];omega
        have hb2:decide ((q:Int)=(mo:Int))=false:=decide_eq_false (by omega);have hb3:(q==mo)=false:=by rw[beq_eq_false_iff_ne];omega
        clear hqm2;have hkey:=(L2.out.bel.cell (p:=⟨g,o+k,none⟩) hg).trans HCELL.out;go_wp2_with fail
        refine U.out.mono ?_;intro e w3 hp;obtain⟨rfl,T3,hL3,hW3⟩:=L2.out.op hp
        have Q3:=Lib.hid (show IRB w (w3.alloc (.cells #[.bool false,.string ⟨#[]⟩,.bool false] 34)) x T3 (s.req key) k1 h (4*k+4) (.slice A2 q c2) s.keys w3.heap.size false ⟨#[]⟩ false from
         ⟨hL3.below ((Below.refl _ _).alloc (Nat.le_refl _) _),(M2.out.went hW3 hL3.lt).below ((Below.refl _ _).alloc (Nat.le_refl _) _),box_newI (by intro q hq;cases hq) hL3.lt false false ⟨#[]⟩⟩)
        have MO3:=Lib.hid ((ISt.mo_req s key).trans SM.out);clear hp hL3 hW3 L2 M2 U hkey SM;go_upto_region 16 with fail
        generalize w3.heap.size=nb at Q3|-;generalize w3.alloc (.cells #[.bool false,.string ⟨#[]⟩,.bool false] 34)=w4 at Q3|-;generalize s.req key=s2 at*;obtain⟨x1,x2,x3⟩:=Q3.out.cells;have V3:=Lib.hid (count_i w4 x T3 s2 _ _ _ Q3.out.lv.ca);go_wp2_with fail
        refine V3.out.mono ?_;rintro e w5 ⟨rfl,hB⟩;have Q5:=Lib.hid (Q3.out.below hB);clear hB Q3 V3 x1 x2 x3;have hkey:=(Q5.out.lv.bel.cell (p:=⟨g,o+k,none⟩) hg).trans HCELL.out;obtain⟨x1,x2,x3⟩:=Q5.out.cells
        have VH:=Lib.hid (show Calls Tryz.prog 16 #[.slice A2 q c2,.string key] w5 (BoolPost false w5) from by
         obtain⟨g,hr⟩:=Q5.out.ra.row;have:=refHas_any w5 g _ _ key hr;rw[HI.out] at this;exact this)
        go_wp2_with fail
        refine VH.out.mono ?_;rintro e wx ⟨rfl,rfl⟩;clear VH;have VA:=has_i w5 x T3 s2 _ _ _ Q5.out.lv.ca key HSK.out;rw[HHAS.out] at VA
        replace VA:=Lib.hid VA
        go_wp2_with fail
        refine VA.out.mono ?_;rintro e w6 ⟨rfl,hB⟩;have Q6:=Lib.hid (Q5.out.below hB);clear hB Q5 VA x1 x2 x3 hkey;obtain⟨x1,x2,x3⟩:=Q6.out.cells;go_wp2_with fail
        clear x1 x2 x3;clear hb1 hb2 hb3;go_loopw [18] (λi W=>IKr w x T3 s2 k1 h (4*k+4) (.slice A2 q c2) s.keys nb false ⟨#[]⟩ false q i W) (λi _=>q - (intOf i).toNat)
        case atStart=>exact⟨0,rfl,Nat.zero_le _,Q6.out⟩
        case round=>
         obtain⟨j,rfl,hj,hQ⟩:=hrel;have Q8:=Lib.hid hQ;clear hQ Q6
         by_cases hlt2:j < q
         . have e1:decide (j < q)=true:=by simpa using hlt2
           obtain⟨g2,hr⟩:=Q8.out.ra.row;have hjq:j < s.keys.length:=by rw[← HQ.out];exact hlt2
           obtain⟨o2,rfl,hg2,hcell2,hc12,hc22⟩:=hr.at hjq;have hmem:s.keys.getD j ⟨#[]⟩∈s.keys:=by rw[List.getD_eq_getElem?_getD,List.getElem?_eq_getElem hjq];exact List.getElem_mem hjq
           have YS:=Lib.hid (hr.2.1 _ hmem);have HST:=Lib.hid (ST.out _ hmem);generalize s.keys.getD j ⟨#[]⟩=y at*;rw[← HQ.out] at hc12;unfold maxLen at hc22;clear hr hmem hjq
           have hyt:s2.has y=true:=by
            rcases HST.out with h|h
            . exact inn_iff.2 h
            . cases h.1
           have VX:=λ(W:World) (hb:Below wr.heap.size wr W)=>has_i W x T3 s2 _ _ _ (Q8.out.below hb).lv.ca y YS.out;rw[hyt] at VX
           replace VX:=Lib.hid VX
           clear hyt;have FF:=Lib.hid (show ∀W,Below wr.heap.size wr W->(λW=>W.cell? ⟨g2,o2+j,none⟩=some (.string y)/\W.cell? ⟨nb,1,none⟩=some (.string ⟨#[]⟩)/\W.cell? ⟨nb,2,none⟩=some (.bool false)) W from λW hb=>⟨(hb.cell (p:=⟨g2,o2+j,none⟩) hg2).trans hcell2,(Q8.out.below hb).cells.2.1,(Q8.out.below hb).cells.2.2⟩);clear hg2 hcell2;have D0:=Lib.hid (show Below wr.heap.size wr wr.drew from(Below.refl _ _).drew);go_wp2_with fail
           refine rg (λW=>W.cell? ⟨g2,o2+j,none⟩=some (.string y)/\W.cell? ⟨nb,1,none⟩=some (.string ⟨#[]⟩)/\W.cell? ⟨nb,2,none⟩=some (.bool false)) (FF.out _ D0.out) (λhHeld=>?_);refine tk 0 ?_;refine tk 1 ?_;refine tk 2 ?_;refine tk 3 ?_;refine tk 4 ?_;refine rdy 5 (λK hK=>?_);go_simp;refine(VX.out _ D0.out).mono ?_;rintro e w9 ⟨rfl,hB⟩;have B9:=Lib.hid (D0.out.trans (hB.mono D0.out.size));clear hB;go_wp2_with fail
           refine hK.out _ _ ?_ (λhHeld=>?_)
           . exact FF.out _ B9.out
           clear hK K;refine tk 6 ?_;refine tk 7 ?_;refine tn 8 ?_;refine tn 9 ?_;refine tn 10 ?_;refine tn 11 ?_;refine tn 12 ?_;refine tn 13 ?_;refine tn 14 ?_;refine tn 15 ?_;refine tn 16 ?_;refine tn 17 ?_;refine tn 18 ?_;refine tn 19 ?_;refine tk 20 ?_;refine dn (NoPanic.normal ?_);have Q9:=Lib.hid (Q8.out.below B9.out);clear VX Q8 FF D0 B9 hHeld;go_wp2_with fail
           go_roundw
           case rel=>exact⟨j+1,by go_num,by omega,Q9.out⟩
           case measure=>simp[intOf] <;> omega
         . have e1:decide (j < q)=false:=by simpa using hlt2
           have FIN:=Lib.hid (show IKp w x mo n (.int .i64 (h:Int)) (.int .i64 ((k:Int)+1)) wr from⟨k1,T3,s2,h,by rw[show(k:Int)+1=(k1:Int) from by omega],rfl,by omega,by omega,by have:=Q8.out.lv;rw[← HK4.out] at this;exact this,MO3.out⟩);go_wp2_with fail
           go_roundw
           case rel=>exact FIN.out
           case measure=>simp[intOf] <;> omega
      . obtain⟨vk,hvk⟩:∃y,y=s.vicV key:=⟨_,rfl⟩;rw[← hvk] at hv hn1;have HV:=Lib.hid (And.intro hv hn1);have hx2:=hvk.symm;clear hv hn1 hvk;have HI:=Lib.hid hi;have U:=request_i w2 x T s k h (4*k) L2.out.ca key HSK.out (by omega) (by omega) (by omega);unfold ISt.step at U;rw[hx1,hx3,hx2] at U;rw[if_neg (by simp)] at U;rw[← hk1] at U
        replace U:=Lib.hid U
        have ST:=Lib.hid (ISt.req_f L2.out.ca.ok (by rw[SM.out];have:=LO.out;omega) key).stay;have HHAS:=Lib.hid (show(s.req key).has key=true from inn_iff.2 (ISt.req_f L2.out.ca.ok (by rw[SM.out];have:=LO.out;omega) key).has);rw[hx3,hx2] at ST;clear hi hx1 hx2 hx3;have hb1:((q:Int)==(mo:Int))=true:=by rw[beq_iff_eq];omega
        have hb2:decide ((q:Int)=(mo:Int))=true:=decide_eq_true (by omega);have hb3:(q==mo)=true:=by rw[beq_iff_eq];omega
        clear hqm2;have hkey:=(L2.out.bel.cell (p:=⟨g,o+k,none⟩) hg).trans HCELL.out;go_wp2_with fail
        refine U.out.mono ?_;intro e w3 hp;obtain⟨rfl,T3,hL3,hW3⟩:=L2.out.op hp
        have Q3:=Lib.hid (show IRB w (w3.alloc (.cells #[.bool false,.string vk,.bool true] 34)) x T3 (s.req key) k1 h (4*k+4) (.slice A2 q c2) s.keys w3.heap.size false vk true from
         ⟨hL3.below ((Below.refl _ _).alloc (Nat.le_refl _) _),(M2.out.went hW3 hL3.lt).below ((Below.refl _ _).alloc (Nat.le_refl _) _),box_newI (by intro q hq;cases hq) hL3.lt false true vk⟩)
        have MO3:=Lib.hid ((ISt.mo_req s key).trans SM.out);clear hp hL3 hW3 L2 M2 U hkey SM;go_upto_region 16 with fail
        generalize w3.heap.size=nb at Q3|-;generalize w3.alloc (.cells #[.bool false,.string vk,.bool true] 34)=w4 at Q3|-;generalize s.req key=s2 at*;obtain⟨x1,x2,x3⟩:=Q3.out.cells;have V3:=Lib.hid (count_i w4 x T3 s2 _ _ _ Q3.out.lv.ca);go_wp2_with fail
        refine V3.out.mono ?_;rintro e w5 ⟨rfl,hB⟩;have Q5:=Lib.hid (Q3.out.below hB);clear hB Q3 V3 x1 x2 x3;have hkey:=(Q5.out.lv.bel.cell (p:=⟨g,o+k,none⟩) hg).trans HCELL.out;obtain⟨x1,x2,x3⟩:=Q5.out.cells
        have VH:=Lib.hid (show Calls Tryz.prog 16 #[.slice A2 q c2,.string key] w5 (BoolPost false w5) from by
         obtain⟨g,hr⟩:=Q5.out.ra.row;have:=refHas_any w5 g _ _ key hr;rw[HI.out] at this;exact this)
        go_wp2_with fail
        refine VH.out.mono ?_;rintro e wx ⟨rfl,rfl⟩;clear VH;have VA:=has_i w5 x T3 s2 _ _ _ Q5.out.lv.ca key HSK.out;rw[HHAS.out] at VA
        replace VA:=Lib.hid VA
        go_wp2_with fail
        refine VA.out.mono ?_;rintro e w6 ⟨rfl,hB⟩;have Q6:=Lib.hid (Q5.out.below hB);clear hB Q5 VA x1 x2 x3 hkey;obtain⟨x1,x2,x3⟩:=Q6.out.cells;have VS:=Lib.hid (show vk.size<=maxLen from by obtain⟨g,hr⟩:=Q6.out.ra.row;exact hr.2.1 _ HV.out.1);have VA:=has_i w6 x T3 s2 _ _ _ Q6.out.lv.ca vk VS.out;rw[show s2.has vk=false from inn_no.2 HV.out.2] at VA
        replace VA:=Lib.hid VA
        go_wp2_with fail
        refine VA.out.mono ?_;rintro e w7 ⟨rfl,hB⟩;have Q7:=Lib.hid (Q6.out.below hB);clear hB Q6 VA x1 x2 x3;obtain⟨x1,x2,x3⟩:=Q7.out.cells
        have VH:=Lib.hid (show Calls Tryz.prog 16 #[.slice A2 q c2,.string vk] w7 (BoolPost true w7) from by
         obtain⟨g,hr⟩:=Q7.out.ra.row;have:=refHas_any w7 g _ _ vk hr;rw[inn_iff.2 HV.out.1] at this;exact this)
        go_wp2_with fail
        refine VH.out.mono ?_;rintro e wx ⟨rfl,rfl⟩;clear VH;go_wp2_with fail
        clear x1 x2 x3;clear hb1 hb2 hb3;go_loopw [18] (λi W=>IKr w x T3 s2 k1 h (4*k+4) (.slice A2 q c2) s.keys nb false vk true q i W) (λi _=>q - (intOf i).toNat)
        case atStart=>exact⟨0,rfl,Nat.zero_le _,Q7.out⟩
        case round=>
         obtain⟨j,rfl,hj,hQ⟩:=hrel;have Q8:=Lib.hid hQ;clear hQ Q7
         by_cases hlt2:j < q
         . have e1:decide (j < q)=true:=by simpa using hlt2
           obtain⟨g2,hr⟩:=Q8.out.ra.row;have hjq:j < s.keys.length:=by rw[← HQ.out];exact hlt2
           obtain⟨o2,rfl,hg2,hcell2,hc12,hc22⟩:=hr.at hjq;have hmem:s.keys.getD j ⟨#[]⟩∈s.keys:=by rw[List.getD_eq_getElem?_getD,List.getElem?_eq_getElem hjq];exact List.getElem_mem hjq
           have YS:=Lib.hid (hr.2.1 _ hmem);have HST:=Lib.hid (ST.out _ hmem);generalize s.keys.getD j ⟨#[]⟩=y at*;rw[← HQ.out] at hc12;unfold maxLen at hc22;clear hr hmem hjq;cases hyt:s2.has y with
           |true=>
            have VX:=λ(W:World) (hb:Below wr.heap.size wr W)=>has_i W x T3 s2 _ _ _ (Q8.out.below hb).lv.ca y YS.out;rw[hyt] at VX
            replace VX:=Lib.hid VX
            clear hyt;have FF:=Lib.hid (show ∀W,Below wr.heap.size wr W->(λW=>W.cell? ⟨g2,o2+j,none⟩=some (.string y)/\W.cell? ⟨nb,1,none⟩=some (.string vk)/\W.cell? ⟨nb,2,none⟩=some (.bool true)) W from λW hb=>⟨(hb.cell (p:=⟨g2,o2+j,none⟩) hg2).trans hcell2,(Q8.out.below hb).cells.2.1,(Q8.out.below hb).cells.2.2⟩);clear hg2 hcell2;have D0:=Lib.hid (show Below wr.heap.size wr wr.drew from(Below.refl _ _).drew);go_wp2_with fail
            refine rg (λW=>W.cell? ⟨g2,o2+j,none⟩=some (.string y)/\W.cell? ⟨nb,1,none⟩=some (.string vk)/\W.cell? ⟨nb,2,none⟩=some (.bool true)) (FF.out _ D0.out) (λhHeld=>?_);refine tk 0 ?_;refine tk 1 ?_;refine tk 2 ?_;refine tk 3 ?_;refine tk 4 ?_;refine rdy 5 (λK hK=>?_);go_simp;refine(VX.out _ D0.out).mono ?_;rintro e w9 ⟨rfl,hB⟩;have B9:=Lib.hid (D0.out.trans (hB.mono D0.out.size));clear hB;go_wp2_with fail
            refine hK.out _ _ ?_ (λhHeld=>?_)
            . exact FF.out _ B9.out
            clear hK K;refine tk 6 ?_;refine tk 7 ?_;refine tn 8 ?_;refine tn 9 ?_;refine tn 10 ?_;refine tn 11 ?_;refine tn 12 ?_;refine tn 13 ?_;refine tn 14 ?_;refine tn 15 ?_;refine tn 16 ?_;refine tn 17 ?_;refine tn 18 ?_;refine tn 19 ?_;refine tk 20 ?_;refine dn (NoPanic.normal ?_);have Q9:=Lib.hid (Q8.out.below B9.out);clear VX Q8 FF D0 B9 hHeld;go_wp2_with fail
            go_roundw
            case rel=>exact⟨j+1,by go_num,by omega,Q9.out⟩
            case measure=>simp[intOf] <;> omega
           |false=>
            obtain rfl:y=vk:=by
               rcases HST.out with h|h
               . rw[show s2.has y=true from inn_iff.2 h] at hyt;cases hyt
               . exact h.2
            have VX:=λ(W:World) (hb:Below wr.heap.size wr W)=>has_i W x T3 s2 _ _ _ (Q8.out.below hb).lv.ca y YS.out;rw[hyt] at VX
            replace VX:=Lib.hid VX
            clear hyt;have FF:=Lib.hid (show ∀W,Below wr.heap.size wr W->(λW=>W.cell? ⟨g2,o2+j,none⟩=some (.string y)/\W.cell? ⟨nb,1,none⟩=some (.string y)/\W.cell? ⟨nb,2,none⟩=some (.bool true)) W from λW hb=>⟨(hb.cell (p:=⟨g2,o2+j,none⟩) hg2).trans hcell2,(Q8.out.below hb).cells.2.1,(Q8.out.below hb).cells.2.2⟩);clear hg2 hcell2;have D0:=Lib.hid (show Below wr.heap.size wr wr.drew from(Below.refl _ _).drew);go_wp2_with fail
            refine rg (λW=>W.cell? ⟨g2,o2+j,none⟩=some (.string y)/\W.cell? ⟨nb,1,none⟩=some (.string y)/\W.cell? ⟨nb,2,none⟩=some (.bool true)) (FF.out _ D0.out) (λhHeld=>?_);refine tk 0 ?_;refine tk 1 ?_;refine tk 2 ?_;refine tk 3 ?_;refine tk 4 ?_;refine rdy 5 (λK hK=>?_);go_simp;refine(VX.out _ D0.out).mono ?_;rintro e w9 ⟨rfl,hB⟩;have B9:=Lib.hid (D0.out.trans (hB.mono D0.out.size));clear hB;go_wp2_with fail
            refine hK.out _ _ ?_ (λhHeld=>?_)
            . exact FF.out _ B9.out
            clear hK K;refine tk 6 ?_;refine tk 7 ?_;refine tk 8 ?_;refine tk 9 ?_;refine tk 10 ?_;refine tk 11 ?_;refine tk 12 ?_;refine tk 13 ?_;refine tk 14 ?_;refine tk 15 ?_;refine tk 16 ?_;refine tk 17 ?_;refine tk 18 ?_;refine tk 19 ?_;refine tk 20 ?_;refine dn (NoPanic.normal ?_);have Q9:=Lib.hid (Q8.out.below B9.out);clear VX Q8 FF D0 B9 hHeld;go_wp2_with fail
            go_roundw
            case rel=>exact⟨j+1,by go_num,by omega,Q9.out⟩
            case measure=>simp[intOf] <;> omega
         . have e1:decide (j < q)=false:=by simpa using hlt2
           have FIN:=Lib.hid (show IKp w x mo n (.int .i64 (h:Int)) (.int .i64 ((k:Int)+1)) wr from⟨k1,T3,s2,h,by rw[show(k:Int)+1=(k1:Int) from by omega],rfl,by omega,by omega,by have:=Q8.out.lv;rw[← HK4.out] at this;exact this,MO3.out⟩);go_wp2_with fail
           go_roundw
           case rel=>exact FIN.out
           case measure=>simp[intOf] <;> omega
    . have g1:decide (200 < (key.size:Int))=true:=decide_eq_true (by omega);go_wp2_with fail
      go_ret;exact⟨rfl,HL.out.bel⟩
  . have e0:decide (k < n)=false:=by simpa using hlt
    obtain⟨q,hq⟩:∃y,y=s.keys.length:=⟨_,rfl⟩;have hqm:q<=mo:=by rw[hq,<-SM.out];exact ISt.le HL.out.ca.ok
    have V:=len_i wr x T s _ _ _ HL.out.ca;rw[← hq] at V
    replace V:=Lib.hid V
    have q1:decide ((q:Int)<=(mo:Int))=true:=decide_eq_true (by omega);have q2:decide (q<=mo)=true:=decide_eq_true hqm;clear hq hqm;go_wp2_with fail
    refine V.out.mono ?_;rintro e w4 ⟨rfl,hB⟩;have L4:=Lib.hid (HL.out.below hB);clear hB HL V;go_wp2_with fail
    go_ret;exact⟨rfl,L4.out.bel⟩
end Go.Proofs.YtbbogjhapeogeaaGreatDoor.IN
namespace Go.Proofs.YtbbogjhapeogeaaGreatDoor
open Go.ChangeShapes Go.WideShapes Go.ChangeAt Go.RowKit Sg
open Go.ChangeMaps (open_string shut_string)
theorem walk_instKeeps(a0:Int)(a1:Int)(v2:Value)(v3:Value)(w:World)(w0:(Lit.int .i64 a0).wf=true)(w1:(Lit.int .i64 a1).wf=true)(w2:CameR w v2)(w3:CameS w v3)(hl:Laid w/\Named w):Calls Tryz.prog 3 #[.int .i64 a0,.int .i64 a1,v2,v3] w (IN.RetB true w):=by
 obtain⟨A,n,c,rfl,hn,S,hr,hc⟩:=w3;obtain⟨Al,nl,cl,rfl,hnl,vs,hvs⟩:=pick_lane w2;have hz0:=i64_rng w0;have hz1:=i64_rng w1
 by_cases hok:¬a0 < 0/\¬6 < a0/\¬a1 < 1/\¬1000 < a1/\¬200 < (n:Int)/\¬300 < (nl:Int)
 . obtain⟨q0,q1,q2,q3,q4,q5⟩:=hok;obtain⟨kd,rfl⟩:∃m:Nat,a0=(m:Int):=⟨a0.toNat,by omega⟩;obtain⟨mo,rfl⟩:∃m:Nat,a1=(m:Int):=⟨a1.toNat,by omega⟩;obtain⟨hv1,hv2⟩:=hvs (by omega);subst hv1;exact IN.instKeeps_main kd mo vs Al cl A n c w S (by omega) (by omega) (by omega) (by omega) (by omega) hv2 ⟨hr,hc⟩ hl
 . have PW:=Lib.hid (show(decide (a0 < 0)=true)\/(decide (a0 < 0)=false/\decide (6 < a0)=true)\/(decide (a0 < 0)=false/\decide (6 < a0)=false/\decide (a1 < 1)=true)\/(decide (a0 < 0)=false/\decide (6 < a0)=false/\decide (a1 < 1)=false/\decide (1000 < a1)=true)\/(decide (a0 < 0)=false/\decide (6 < a0)=false/\decide (a1 < 1)=false/\decide (1000 < a1)=false/\decide (200 < (n:Int))=true)\/(decide (a0 < 0)=false/\decide (6 < a0)=false/\decide (a1 < 1)=false/\decide (1000 < a1)=false/\decide (200 < (n:Int))=false/\decide (300 < (nl:Int))=true) from by
    by_cases p0:decide (a0 < 0)=true
    . exact Or.inl p0
    rw[Bool.not_eq_true] at p0
    by_cases p1:decide (6 < a0)=true
    . exact Or.inr (Or.inl ⟨p0,p1⟩)
    rw[Bool.not_eq_true] at p1
    by_cases p2:decide (a1 < 1)=true
    . exact Or.inr (Or.inr (Or.inl ⟨p0,p1,p2⟩))
    rw[Bool.not_eq_true] at p2
    by_cases p3:decide (1000 < a1)=true
    . exact Or.inr (Or.inr (Or.inr (Or.inl ⟨p0,p1,p2,p3⟩)))
    rw[Bool.not_eq_true] at p3
    by_cases p4:decide (200 < (n:Int))=true
    . exact Or.inr (Or.inr (Or.inr (Or.inr (Or.inl ⟨p0,p1,p2,p3,p4⟩))))
    rw[Bool.not_eq_true] at p4
    by_cases p5:decide (300 < (nl:Int))=true
    . exact Or.inr (Or.inr (Or.inr (Or.inr (Or.inr (⟨p0,p1,p2,p3,p4,p5⟩)))))
    rw[Bool.not_eq_true] at p5;exact absurd ⟨of_decide_eq_false p0,of_decide_eq_false p1,of_decide_eq_false p2,of_decide_eq_false p3,of_decide_eq_false p4,of_decide_eq_false p5⟩ hok)
   have AW:=Lib.hid (IN.awake_i w hl);unfold maxLen at hn hnl;clear hr hc hok hl hvs hz0 hz1 w0 w1 w2;rcases PW.out with e0|⟨e0,e1⟩|⟨e0,e1,e2⟩|⟨e0,e1,e2,e3⟩|⟨e0,e1,e2,e3,e4⟩|⟨e0,e1,e2,e3,e4,e5⟩
   all_goals
    clear PW;go_enter Tryz.func3,Tryz.ntmps3;go_wp2_with fail
    refine AW.out.mono ?_;rintro e w0 ⟨rfl,hb0⟩;have b0:=Lib.hid hb0;clear hb0;go_wp2_with fail
    go_ret;exact⟨rfl,b0.out⟩
namespace LInstKeeps
set_option maxRecDepth 100000 in
theorem lifted(os:Os)(started:os.Started)(H:Type)(enc:TypeId × Value->H):
 ReturnsInHanded {} Tryz.checked os 3 .any (λw args=>(Rows.instKeepsSpec.pre enc Tryz.prog Tryz.f3 [] false w args/\laidMetH Tryz.prog seatLaid w)/\sizedMet enc Tryz.prog Tryz.f3 (OpenSpec.ofChange Rows.instKeepsSpec) false w args)
  (Rows.instKeepsSpec.post enc Tryz.prog Tryz.f3 false true false false):=by
 refine returnsInHanded_of_change_and (C:=Tryz.checked) (X:=λw _=>laidMetH Tryz.prog seatLaid w) (λ_ _ _ hh h=>h.of_heap hh) own started (by kernel_rfl) Tryz.func3
  (ChangeSpec.witness_at (enc:=enc) (C:=Tryz.checked) (os:=os) (X:=λw _=>laidMetH Tryz.prog seatLaid w) false (laidWorld os) #[.int .i64 0,.int .i64 0,.slice none 0 0,.slice none 0 0] 8 rfl (by kernel_rfl) (by kernel_rfl) (by kernel_rfl) (by kernel_rfl) (by kernel_rfl) (laidWorld_met os _)) ?_
 intro W base args ds gs before hval0 hW _ _ hL _;have hval:∀(j:Nat) t v,Tryz.f3.params[j]?=some t->args[j]?=some v->Value.okWide Tryz.prog W .any base t v:=hval0
 have hW':=hW;obtain⟨p,q,hA0,hV,rfl,hfz,hnd⟩:=hW;have hA:DataW.TrodAll enc Tryz.prog W 0 (λ_=>true) true Tryz.f3.params.toList args.toList ds p:=hA0;rw[Tryz.params3] at hA hval;obtain⟨v0,vs0,d0,ds0,p0,q0,hargs,rfl,rfl,h0,r0⟩:=trodAll_cons hA;obtain⟨v1,vs1,d1,ds1,p1,q1,rfl,rfl,rfl,h1,r1⟩:=trodAll_cons r0;obtain⟨v2,vs2,d2,ds2,p2,q2,rfl,rfl,rfl,h2,r2⟩:=trodAll_cons r1;obtain⟨v3,vs3,d3,ds3,p3,q3,rfl,rfl,rfl,h3,r3⟩:=trodAll_cons r2;obtain⟨rfl,rfl,rfl⟩:=trodAll_nil r3;obtain rfl:args= #[v0,v1,v2,v3]:=by cases args;simp_all
 obtain⟨rfl,rfl⟩:=trodVars_none hV;obtain⟨a0,rfl,rfl,rfl,w0⟩:=open_int Tryz.underlying3 (hval 0 3 v0 rfl rfl) h0;obtain⟨a1,rfl,rfl,rfl,w1⟩:=open_int Tryz.underlying3 (hval 1 3 v1 rfl rfl) h1;have k2:=h2;have lt2:∀x∈p2,x.block < W.heap.size:=by obtain⟨m,hm⟩:=k2;exact DataW.trod_lt m _ _ _ hm
 have w2:=open_r (hval 2 22 v2 rfl rfl) h2;have k3:=h3;have lt3:∀x∈p3,x.block < W.heap.size:=by obtain⟨m,hm⟩:=k3;exact DataW.trod_lt m _ _ _ hm
 have w3:=open_z (hval 3 23 v3 rfl rfl) h3;clear hA0 hval0;refine(walk_instKeeps a0 a1 v2 v3 W w0 w1 w2 w3 (laid_of hL)).mono λe W' ⟨he,bel⟩=>?_;subst he;exact⟨_,rfl,_,_,_,[],_,[],hW',trodAll_mk1 (shut_bool Tryz.underlying4 _),(trodAll_cons_mk (shut_int Tryz.underlying3 w0) (trodAll_cons_mk (shut_int Tryz.underlying3 w1) (trodAll_cons_mk (Below.trod laidOut (by kernel_rfl) (of_decide_eq_true (by kernel_rfl)) k2 bel lt2) (trodAll_cons_mk (Below.trod laidOut (by kernel_rfl) (of_decide_eq_true (by kernel_rfl)) k3 bel lt3) trodAll_mk0)))),rfl,bel.frame _,λh=>by cases h⟩
theorem band{x y:Bool}(h:x=true)(k:y=true):(x&&y)=true:=by rw[h,k];rfl
set_option maxRecDepth 100000
theorem cj0:(Rows.instKeepsRow.wf (OpenSpec.ofChange Rows.instKeepsSpec))=true:=by kernel_rfl
theorem cj1:(laidOutB Tryz.pinned.checked.prog)=true:=by kernel_rfl
theorem cj2:(mapsRowed Tryz.pinned.checked.prog)=true:=by kernel_rfl
theorem cj9:(Rows.instKeepsRow.inPlace==Tryz.pinned.checked.prog.inPlace 3)=true:=by kernel_rfl
theorem cj10:(Rows.instKeepsRow.unfollowed==Tryz.pinned.checked.prog.unfollowed 3)=true:=by kernel_rfl
theorem cj11:(Rows.instKeepsRow.recurses==Tryz.pinned.checked.prog.recurses 3)=true:=by kernel_rfl
theorem cj12:(Rows.instKeepsRow.named==Tryz.pinned.checked.prog.varsNamed 3)=true:=by kernel_rfl
theorem cj22:(Rows.instKeepsRow.plainKeys==Tryz.pinned.checked.prog.plainKeys)=true:=by kernel_rfl
theorem cj24:(Tryz.pinned.checked.prog.stopsHeard)=true:=by kernel_rfl
theorem cj25:(Tryz.pinned.checked.prog.mayEnter)=true:=by kernel_rfl
theorem cj26:(Rows.instKeepsRow.lifted==Tryz.pinned.checked.prog.liftsFinal)=true:=by kernel_rfl
theorem cj27:(Tryz.pinned.checked.prog.make==some Rows.instKeepsRow.make)=true:=by kernel_rfl
theorem closed:joinedFacts Tryz.pinned.checked.prog 3 Tryz.f3 Rows.instKeepsSpec Rows.instKeepsRow=true:=by
 unfold joinedFacts;exact band (band (band (band (band (band (band (band (band (band (band (band (band (band (band (band (band (band (band (band (band (band (band (band (band (band (band (band (band (band (band (cj0) cj1) cj2) (by kernel_rfl)) (by kernel_rfl)) (by kernel_rfl)) (by kernel_rfl)) (by kernel_rfl)) (by kernel_rfl)) cj9) cj10) cj11) cj12) (by kernel_rfl)) (by kernel_rfl)) (by kernel_rfl)) (by kernel_rfl)) (by kernel_rfl)) (by kernel_rfl)) (by kernel_rfl)) (by kernel_rfl)) (by kernel_rfl)) cj22) (by kernel_rfl)) cj24) cj25) cj26) cj27) (by kernel_rfl)) (by kernel_rfl)) (by kernel_rfl)) (by kernel_rfl)
theorem fnm:Tryz.pinned.checked.prog.funcNamed "cachewise/cachewiselaw11.InstKeeps" =some 3:=by kernel_rfl
theorem isIn:Tryz.f3.isInstance Tryz.pinned.checked.prog Rows.instKeepsRow.origin Rows.instKeepsRow.targs:=of_decide_eq_true (by kernel_rfl)
theorem isWr:Tryz.f3.isWrapper Tryz.pinned.checked.prog Rows.instKeepsRow.wrapper Rows.instKeepsRow.mainSum:=by unfold Func.isWrapper;rw[if_neg (of_decide_eq_false (by kernel_rfl))];exact⟨rfl,rfl⟩
theorem said:Rows.InstKeepsSaid:=
 OpenClaim.holds_of_wide 3 Tryz.f3 rfl rfl rfl rfl rfl rfl rfl ⟨rfl,rfl,rfl,rfl,rfl⟩ rfl rfl rfl rfl rfl fnm Tryz.func3 closed isIn isWr
  (λos started H enc _=>lifted os started H enc)
theorem hwT:Rows.instKeepsRow.wfByText (OpenSpec.ofChange Rows.instKeepsSpec)=true:=by kernel_rfl
theorem mnI:Tryz.pinned.checked.prog.mainIs=some (Rows.instKeepsCard.stood.harness.1,Rows.instKeepsCard.stood.harness.2.toList):=by kernel_rfl
theorem lkT:Rows.instKeepsCard.stood.looks=Tryz.pinned.checked.prog.looks []:=by kernel_rfl
theorem gsB:false=Rows.instKeepsRow.goesBy Tryz.pinned.checked.prog:=by kernel_rfl
theorem sii:Tryz.prog.wantsStandIn 3=false:=by kernel_rfl
theorem sir:Tryz.prog.wantsStandIn 22=false:=by kernel_rfl
theorem siz:Tryz.prog.wantsStandIn 23=false:=by kernel_rfl
theorem card:Rows.InstKeepsCardSaid:=
 Claim7.holds_tied_plain_at .later [] _ _ _ _ said (λ_ h=>by cases h) hwT (λ_ h=>by cases h) instKeeps_row_tie rfl ⟨rfl,rfl⟩ mnI rfl
  (λf fn hf hfn=>by
    obtain rfl:f=3:=Option.some.inj (fnm.symm.trans hf) |>.symm;obtain rfl:fn=Tryz.f3:=(Option.some.inj (Tryz.func3.symm.trans hfn)).symm;refine⟨lkT,λj t ht=>?_⟩;rw[Tryz.params3] at ht;rcases j with _|_|_|_|j
    . obtain rfl:t=3:=by simpa using ht.symm
      exact sii
    . obtain rfl:t=3:=by simpa using ht.symm
      exact sii
    . obtain rfl:t=22:=by simpa using ht.symm
      exact sir
    . obtain rfl:t=23:=by simpa using ht.symm
      exact siz
    . simp at ht)
  gsB
#print axioms card
end LInstKeeps
end Go.Proofs.YtbbogjhapeogeaaGreatDoor
