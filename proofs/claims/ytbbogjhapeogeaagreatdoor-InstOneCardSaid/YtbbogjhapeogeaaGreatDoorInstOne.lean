/- 'cachewiselaw11.InstOne' returns true for every kind, every lane and every row of keys, and leaves what was there as it was. The listed variables read as the program's text lays them. -/
import Derived.Test.YtbbogjhapeogeaaGreatDoorYd
import Derived.Test.YtbbogjhapeogeaaGreatDoorCards
import Derived.Test.YtbbogjhapeogeaaGreatDoorTie
import Derived.SevenTiedAt
import Derived.Deep.DeepCutAuto
import Derived.Deep.CutBlock
set_option maxRecDepth 20000
namespace Go.Proofs.YtbbogjhapeogeaaGreatDoor.IN
open Go.ChangeShapes Go.WideShapes Go.ChangeAt Go.RowKit Sg
theorem row_built(w:World)(key:ByteArray)(hs:key.size<=maxLen):Row (w.alloc (.cells #[.string key] 9)) w.heap.size (.slice (some ⟨w.heap.size,0,none⟩) 1 1) [key]:=by
 refine⟨by simp,λx hx=>by rw[List.mem_singleton.1 hx];exact hs,Or.inr ⟨0,1,rfl,by simp,Nat.le_refl _,by unfold maxLen;omega,λj hj=>?_⟩⟩;obtain rfl:j=0:=by simpa using hj
 exact cell_of_row _ _ 0 _ _ _ (heap_alloc_new w _)
def OneR(w0:World)(x n:Nat)(S:Nat->ByteArray)(i:Value)(W:World):Prop:=
 ∃(k:Nat) (T:Nat->Prop) (s:ISt) (h:Nat),i= .int .i64 (k:Int)/\k<=n/\h<=k/\IL w0 W x T s k h (4*k)/\s.mo=1/\s.keys=(if k=0 then [] else [S (k - 1)])
set_option maxHeartbeats 4000000 in
set_option maxRecDepth 100000 in
theorem instOne_main(kd:Nat)(vs:List Nat)(Al:Option Addr)(cl:Nat)(A:Option Addr)(n cc:Nat)(w:World)(S:Nat->ByteArray)(hkd:kd < 7)(hn:n<=200)(hvl:vs.length<=300)
 (hv:DR.Lane w 0 w.heap.size (.slice Al vs.length cl) vs) (hk:KRow w A n cc S) (hl:Laid w/\Named w):
 Calls Tryz.prog 5 #[.int .i64 (kd:Int),.slice Al vs.length cl,.slice A n cc] w (RetB true w):=by
 have AW:=Lib.hid (awake_i w hl);have TP:=Lib.hid (tape_of hv);have NW:=Lib.hid (λ(w1:World) (B E:Nat) (hT:DR.Tape w1 B E [vs])=>new_i w1 kd 1 B E [vs] hkd (by omega) hT);have KD:=Lib.hid hkd;have g0:decide ((kd:Int) < 0)=false:=decide_eq_false (by omega);have g1:decide (6 < (kd:Int))=false:=decide_eq_false (by omega);have g2:decide (200 < (n:Int))=false:=decide_eq_false (by omega);have g3:decide (300 < (vs.length:Int))=false:=decide_eq_false (by omega);have KR:=Lib.hid hk;have HN:=Lib.hid hn;generalize hvn:vs.length=vn at*;clear hk hl hv hkd hvn hn;go_enter Tryz.func5,Tryz.ntmps5;go_wp2_with fail
 refine AW.out.mono ?_;rintro e w0 ⟨rfl,hb0⟩;have b0:=Lib.hid hb0;clear hb0;go_wp2_with fail
 refine(TP.out w0 b0.out).mono ?_;rintro e w1 ⟨B,rfl,hT,hB0,hB⟩;have T1:=Lib.hid (And.intro hT (And.intro hB0 hB));clear hT hB0 hB TP AW;go_wp2_with fail
 refine Calls.mono (show Calls Tryz.prog 11 #[.int .i64 (kd:Int),.int .i64 1,.pointer (some ⟨B+1,0,none⟩),.int .i64 0] w1 (INew kd 1 (DR.lget [vs] 0) B w1) from NW.out w1 B _ T1.out.1) ?_;rintro e w2 ⟨x,U,rfl,hC,hU,hB⟩;have L1:=Lib.hid (made_i b0.out T1.out.2.1 T1.out.2.2 hC hU hB);have K0:=Lib.hid (ISt.start_kind KD.out 1 (DR.lget [vs] 0));generalize ISt.start kd 1 (DR.lget [vs] 0)=s0 at*;clear hC hU hB b0 T1 NW;go_wp2_with fail
 clear g0 g1 g2 g3;go_loopw [9] (λi W=>OneR w x n S i W) (λi _=>n - (intOf i).toNat)
 case atStart=>exact⟨0,U,s0,0,rfl,Nat.zero_le _,Nat.le_refl _,L1.out,K0.out.2.1,K0.out.2.2.1⟩
 case round=>
  obtain⟨k,T,s,h,rfl,hk,hh,hL,hm,hkeys⟩:=hrel;have HL:=Lib.hid hL;have SM:=Lib.hid (And.intro hm hkeys);clear hL L1 hm hkeys K0
  by_cases hlt:k < n
  . have e0:decide (k < n)=true:=by simpa using hlt
    have hn2:=HN.out;obtain⟨g,o,rfl,hg,hc1,hc2,hcell⟩:=KR.out.2 (by omega);have h1:=(HL.out.bel.cell (p:=⟨g,o+k,none⟩) hg).trans (hcell k hlt);have HC1:=Lib.hid (hcell k hlt);have HG:=Lib.hid hg;have HSK:=Lib.hid (KR.out.1 k hlt);have hsk:=HSK.out;unfold maxLen at hc2 hsk;have OK:=Lib.hid HL.out.ca.ok
    by_cases h0:k=0
    . have RQ:=Lib.hid (show s.hitB (S k)=false/\s.vicV (S k)=⟨#[]⟩/\s.outB (S k)=false/\(s.req (S k)).mo=1/\(s.req (S k)).keys= [S k]/\(if false=true then h+1 else h)<=k+1/\(s.req (S k)).keys=(if k+1=0 then [] else [S (k+1 - 1)]) from by
       have q:=SM.out.2;rw[if_pos h0] at q;obtain⟨a1,a2,a3,a4,a5⟩:=one_key OK.out SM.out.1 q (by simp) (S k);have a3':s.outB (S k)=false:=a3;exact⟨a2,a4 a3',a3',by rw[ISt.mo_req];exact SM.out.1,a1,by split <;> omega,a1⟩)
      have z0:decide ((0:Int) < (k:Int))=false:=decide_eq_false (by omega);have z1:decide (0 < k)=false:=decide_eq_false (by omega);clear hcell SM OK h0;generalize S k=key at*;have U:=request_i wr x T s k h (4*k) HL.out.ca key HSK.out (by omega) (by omega) (by omega);unfold ISt.step at U;rw[RQ.out.1,RQ.out.2.1,RQ.out.2.2.1] at U
      replace U:=Lib.hid U
      go_wp2_with fail
      refine U.out.mono ?_;intro e w2 hp;obtain⟨rfl,T2,hL,hW⟩:=HL.out.op hp;have X3:=Lib.hid (box_newI (w:=w2) (T:=T2) (L:=[]) (by intro q hq;cases hq) hL.lt false false ⟨#[]⟩);have L3:=Lib.hid (hL.below ((Below.refl _ _).alloc (Nat.le_refl _) (.cells #[.bool false,.string ⟨#[]⟩,.bool false] 34)));clear hp hL hW U HL h1;go_upto_region 12 with fail
      generalize w2.alloc (.cells #[.bool false,.string ⟨#[]⟩,.bool false] 34)=w3 at L3 X3|-;generalize w2.heap.size=nb at*
      have FF:=Lib.hid (show ∀W,Below w3.heap.size w3 W->(λW=>W.cell? ⟨g,o+k,none⟩=some (.string key)/\W.cell? ⟨nb,0,none⟩=some (.bool false)/\W.cell? ⟨nb,1,none⟩=some (.string ⟨#[]⟩)/\W.cell? ⟨nb,2,none⟩=some (.bool false)) W from λW hB=>by
       obtain⟨b1,b2,b3,_,_⟩:=(X3.out.went (Went.below hB) (nb,false,⟨#[]⟩,false) (by simp)).1.cells;have q:=L3.out.below hB;exact⟨(q.bel.cell (p:=⟨g,o+k,none⟩) HG.out).trans HC1.out,b1,b2,b3⟩)
      have D0:=Lib.hid (show Below w3.heap.size w3 w3.drew from(Below.refl _ _).drew);refine rg (λW=>W.cell? ⟨g,o+k,none⟩=some (.string key)/\W.cell? ⟨nb,0,none⟩=some (.bool false)/\W.cell? ⟨nb,1,none⟩=some (.string ⟨#[]⟩)/\W.cell? ⟨nb,2,none⟩=some (.bool false)) (FF.out _ D0.out) (λhHeld=>?_);refine tk 0 ?_;refine tk 1 ?_;refine tk 2 ?_;refine tn 3 ?_;refine tn 4 ?_;refine tn 5 ?_;refine tn 6 ?_;refine tn 7 ?_;refine tn 8 ?_;refine tn 9 ?_;refine tn 10 ?_;refine tn 11 ?_;refine tn 12 ?_;refine tk 13 ?_;refine tk 14 ?_;refine dn (NoPanic.normal ?_);have L4:=Lib.hid (L3.out.below D0.out)
      replace FF:=Lib.hid (λW (hB:Below w3.drew.heap.size w3.drew W)=>FF.out W (D0.out.trans hB))
      have D1:=Lib.hid (show Below w3.drew.heap.size w3.drew w3.drew.drew from(Below.refl _ _).drew);clear L3 X3 D0 hHeld;go_upto_region 13 with fail
      generalize w3.drew=w4 at L4 FF D1|-;refine rg (λW=>W.cell? ⟨g,o+k,none⟩=some (.string key)/\W.cell? ⟨nb,0,none⟩=some (.bool false)/\W.cell? ⟨nb,1,none⟩=some (.string ⟨#[]⟩)/\W.cell? ⟨nb,2,none⟩=some (.bool false)) (FF.out _ D1.out) (λhHeld=>?_);refine tk 0 ?_;refine tk 1 ?_;refine tk 2 ?_;refine tk 3 ?_;refine tk 4 ?_;refine tk 5 ?_;refine tk 6 ?_;refine tk 7 ?_;refine tk 8 ?_;refine tk 9 ?_;refine tn 10 ?_;refine tn 11 ?_;refine tk 12 ?_;refine tk 13 ?_;refine tk 14 ?_;refine tk 15 ?_;refine tk 16 ?_;refine tk 17 ?_;refine tk 18 ?_;refine tn 19 ?_;refine tn 20 ?_;refine tn 21 ?_;refine tn 22 ?_;refine tn 23 ?_;refine tn 24 ?_;refine tn 25 ?_;refine tn 26 ?_;refine tk 27 ?_;refine tk 28 ?_;refine tk 29 ?_;refine tk 30 ?_;refine tk 32 ?_;refine tk 33 ?_;refine tk 34 ?_;refine tk 35 ?_;refine rdy2 31 36 (λK hK=>?_) (λK hK=>?_)
      . go_simp;refine(keys_i _ x T2 (s.req key) _ _ _ (L4.out.below D1.out).ca).mono ?_;rintro e w5 ⟨v5,rfl,hO,hB⟩;have B5:=Lib.hid (show Below w4.heap.size w4 w5 from D1.out.trans (hB.mono (D1.out).size));obtain⟨gk,_,hrk⟩:=hO.row;rw[RQ.out.2.2.2.2.1] at hrk;obtain⟨A5,c5,hv5⟩:=hO.len;subst hv5;rw[RQ.out.2.2.2.2.1] at hrk|-;have RK5:=Lib.hid hrk;clear hO hB hrk;go_wp2_with fail
        refine hK.out _ _ ?_ (λhHeld=>?_)
        . exact FF.out _ B5.out
        clear hK K;refine rdy 36 (λK hK=>?_);go_simp;refine hK.out _ _ ?_ (λhHeld=>?_)
        . exact FF.out _ (B5.out.alloc B5.out.size _)
        clear hK K;have B6:=Lib.hid (B5.out.alloc B5.out.size (.cells #[.string key] 9));have RB6:=Lib.hid (row_built w5 key HSK.out);have RK6:=Lib.hid (RK5.out.below ((Below.refl _ _).alloc (Nat.le_refl _) (.cells #[.string key] 9)));generalize w5.heap.size=gb at RB6|-;generalize w5.alloc (.cells #[.string key] 9)=w6 at B6 RB6 RK6 hHeld|-;clear B5 RK5;refine rdy 37 (λK hK=>?_);go_simp;refine(refSame_any w6 gk gb _ _ [key] [key] RK6.out RB6.out).mono ?_;rintro e w7 hq;obtain⟨rfl,hB⟩:=same_below hq;have B7:=Lib.hid (show Below w4.heap.size w4 w7 from B6.out.trans (hB.mono B6.out.size));clear hq hB;rw[decide_eq_true (rfl: [key]= [key])];go_wp2_with fail
        refine hK.out _ _ ?_ (λhHeld=>?_)
        . exact FF.out _ B7.out
        clear hK K;refine tk 38 ?_;refine tk 39 ?_;refine dn (NoPanic.normal ?_);have L7:=Lib.hid (L4.out.below B7.out);clear L4 FF D1 RK6 RB6 B6 B7 hHeld;go_wp2_with fail
        go_roundw
        case rel=>exact⟨k+1,T2,s.req key,_,by go_num,by omega,RQ.out.2.2.2.2.2.1,L7.out,RQ.out.2.2.2.1,RQ.out.2.2.2.2.2.2⟩
        case measure=>simp[intOf] <;> omega
      . go_simp;refine hK.out _ _ ?_ (λhHeld=>?_)
        . exact FF.out _ (D1.out.alloc D1.out.size _)
        clear hK K;have Ba:=Lib.hid (show Below w4.heap.size w4 (w4.alloc (.cells #[.string key] 9)).drew from D1.out.alloc D1.out.size _);have RBa:=Lib.hid (show Row (w4.alloc (.cells #[.string key] 9)).drew w4.heap.size (.slice (some ⟨w4.heap.size,0,none⟩) 1 1) [key] from row_built w4.drew key HSK.out);generalize w4.heap.size=gb at RBa|-;generalize(w4.alloc (.cells #[.string key] 9)).drew=wa at Ba RBa hHeld|-;refine rdy 31 (λK hK=>?_);go_simp;refine(keys_i _ x T2 (s.req key) _ _ _ (L4.out.below Ba.out).ca).mono ?_;rintro e w5 ⟨v5,rfl,hO,hB⟩;have B5:=Lib.hid (show Below w4.heap.size w4 w5 from Ba.out.trans (hB.mono (Ba.out).size));obtain⟨gk,_,hrk⟩:=hO.row;rw[RQ.out.2.2.2.2.1] at hrk;obtain⟨A5,c5,hv5⟩:=hO.len;subst hv5;rw[RQ.out.2.2.2.2.1] at hrk|-;have RK5:=Lib.hid hrk;have RB6:=Lib.hid (RBa.out.below hB);clear hO hB hrk;go_wp2_with fail
        refine hK.out _ _ ?_ (λhHeld=>?_)
        . exact FF.out _ B5.out
        clear hK K;have B6:=B5;have RK6:=RK5
        skip
        refine rdy 37 (λK hK=>?_);go_simp;refine(refSame_any w5 gk gb _ _ [key] [key] RK6.out RB6.out).mono ?_;rintro e w7 hq;obtain⟨rfl,hB⟩:=same_below hq;have B7:=Lib.hid (show Below w4.heap.size w4 w7 from B6.out.trans (hB.mono B6.out.size));clear hq hB;rw[decide_eq_true (rfl: [key]= [key])];go_wp2_with fail
        refine hK.out _ _ ?_ (λhHeld=>?_)
        . exact FF.out _ B7.out
        clear hK K;refine tk 38 ?_;refine tk 39 ?_;refine dn (NoPanic.normal ?_);have L7:=Lib.hid (L4.out.below B7.out);clear L4 FF D1 RK6 RB6 B6 B7 hHeld;go_wp2_with fail
        go_roundw
        case rel=>exact⟨k+1,T2,s.req key,_,by go_num,by omega,RQ.out.2.2.2.2.2.1,L7.out,RQ.out.2.2.2.1,RQ.out.2.2.2.2.2.2⟩
        case measure=>simp[intOf] <;> omega
    . obtain⟨j,hj⟩:∃j,k=j+1:=⟨k - 1,by omega⟩;have hj1:j=k - 1:=by omega
      have hjn:j < n:=by omega
      have hw1:IntKind.i64.wrap ((k:Int) - 1)=(j:Int):=by rw[IntWalk.i64_in _ (by omega)];omega
      have z0:decide ((0:Int) < (k:Int))=true:=decide_eq_true (by omega);have z1:decide (0 < k)=true:=decide_eq_true (by omega);have HC2:=Lib.hid (hcell j hjn);have hq:=SM.out.2;rw[if_neg h0,<-hj1] at hq;obtain⟨a1,a2,a3,a4,a5⟩:=one_key OK.out SM.out.1 hq (by simp) (S k)
      by_cases he:S j=S k
      . have RQ:=Lib.hid (show s.hitB (S k)=true/\s.vicV (S k)=⟨#[]⟩/\s.outB (S k)=false/\(s.req (S k)).mo=1/\(s.req (S k)).keys= [S k]/\(if true=true then h+1 else h)<=k+1/\(s.req (S k)).keys=(if k+1=0 then [] else [S (k+1 - 1)]) from by
         have hi:inn [S j] (S k)=true:=inn_iff.2 (List.mem_singleton.2 he.symm);rw[hi] at a2 a3;have a3':s.outB (S k)=false:=a3;exact⟨a2,a4 a3',a3',by rw[ISt.mo_req];exact SM.out.1,a1,by split <;> omega,a1⟩)
        rw[he] at HC2;clear hcell SM OK h0 a1 a2 a3 a4 a5 hq he hj hj1;generalize S k=key at*;have U:=request_i wr x T s k h (4*k) HL.out.ca key HSK.out (by omega) (by omega) (by omega);unfold ISt.step at U;rw[RQ.out.1,RQ.out.2.1,RQ.out.2.2.1] at U
        replace U:=Lib.hid U
        go_wp2_with fail
        refine U.out.mono ?_;intro e w2 hp;obtain⟨rfl,T2,hL,hW⟩:=HL.out.op hp;have X3:=Lib.hid (box_newI (w:=w2) (T:=T2) (L:=[]) (by intro q hq;cases hq) hL.lt true false ⟨#[]⟩);have L3:=Lib.hid (hL.below ((Below.refl _ _).alloc (Nat.le_refl _) (.cells #[.bool true,.string ⟨#[]⟩,.bool false] 34)));clear hp hL hW U HL h1;go_upto_region 12 with fail
        generalize w2.alloc (.cells #[.bool true,.string ⟨#[]⟩,.bool false] 34)=w3 at L3 X3|-;generalize w2.heap.size=nb at*
        have FF:=Lib.hid (show ∀W,Below w3.heap.size w3 W->(λW=>W.cell? ⟨g,o+k,none⟩=some (.string key)/\W.cell? ⟨nb,0,none⟩=some (.bool true)/\W.cell? ⟨nb,1,none⟩=some (.string ⟨#[]⟩)/\W.cell? ⟨nb,2,none⟩=some (.bool false)/\W.cell? ⟨g,o+j,none⟩=some (.string key)) W from λW hB=>by
         obtain⟨b1,b2,b3,_,_⟩:=(X3.out.went (Went.below hB) (nb,true,⟨#[]⟩,false) (by simp)).1.cells;have q:=L3.out.below hB;exact⟨(q.bel.cell (p:=⟨g,o+k,none⟩) HG.out).trans HC1.out,b1,b2,b3,(q.bel.cell (p:=⟨g,o+j,none⟩) HG.out).trans HC2.out⟩)
        have D0:=Lib.hid (show Below w3.heap.size w3 w3.drew from(Below.refl _ _).drew);refine rg (λW=>W.cell? ⟨g,o+k,none⟩=some (.string key)/\W.cell? ⟨nb,0,none⟩=some (.bool true)/\W.cell? ⟨nb,1,none⟩=some (.string ⟨#[]⟩)/\W.cell? ⟨nb,2,none⟩=some (.bool false)/\W.cell? ⟨g,o+j,none⟩=some (.string key)) (FF.out _ D0.out) (λhHeld=>?_);refine tk 0 ?_;refine tk 1 ?_;refine tk 2 ?_;refine tk 3 ?_;refine tk 4 ?_;refine tk 5 ?_;refine tk 6 ?_;refine tk 7 ?_;refine tk 8 ?_;refine tk 9 ?_;refine tk 10 ?_;refine tk 11 ?_;refine tk 12 ?_;refine tk 13 ?_;refine tk 14 ?_;refine dn (NoPanic.normal ?_);have L4:=Lib.hid (L3.out.below D0.out)
        replace FF:=Lib.hid (λW (hB:Below w3.drew.heap.size w3.drew W)=>FF.out W (D0.out.trans hB))
        have D1:=Lib.hid (show Below w3.drew.heap.size w3.drew w3.drew.drew from(Below.refl _ _).drew);clear L3 X3 D0 hHeld;go_upto_region 13 with fail
        generalize w3.drew=w4 at L4 FF D1|-;refine rg (λW=>W.cell? ⟨g,o+k,none⟩=some (.string key)/\W.cell? ⟨nb,0,none⟩=some (.bool true)/\W.cell? ⟨nb,1,none⟩=some (.string ⟨#[]⟩)/\W.cell? ⟨nb,2,none⟩=some (.bool false)/\W.cell? ⟨g,o+j,none⟩=some (.string key)) (FF.out _ D1.out) (λhHeld=>?_);refine tk 0 ?_;refine tk 1 ?_;refine tk 2 ?_;refine tk 3 ?_;refine tk 4 ?_;refine tk 5 ?_;refine tk 6 ?_;refine tk 7 ?_;refine tk 8 ?_;refine tk 9 ?_;refine tk 10 ?_;refine tk 11 ?_;refine tk 12 ?_;refine tk 13 ?_;refine tk 14 ?_;refine tk 15 ?_;refine tk 16 ?_;refine tk 17 ?_;refine tk 18 ?_;refine tn 19 ?_;refine tn 20 ?_;refine tn 21 ?_;refine tn 22 ?_;refine tn 23 ?_;refine tn 24 ?_;refine tn 25 ?_;refine tn 26 ?_;refine tk 27 ?_;refine tk 28 ?_;refine tk 29 ?_;refine tk 30 ?_;refine tk 32 ?_;refine tk 33 ?_;refine tk 34 ?_;refine tk 35 ?_;refine rdy2 31 36 (λK hK=>?_) (λK hK=>?_)
        . go_simp;refine(keys_i _ x T2 (s.req key) _ _ _ (L4.out.below D1.out).ca).mono ?_;rintro e w5 ⟨v5,rfl,hO,hB⟩;have B5:=Lib.hid (show Below w4.heap.size w4 w5 from D1.out.trans (hB.mono (D1.out).size));obtain⟨gk,_,hrk⟩:=hO.row;rw[RQ.out.2.2.2.2.1] at hrk;obtain⟨A5,c5,hv5⟩:=hO.len;subst hv5;rw[RQ.out.2.2.2.2.1] at hrk|-;have RK5:=Lib.hid hrk;clear hO hB hrk;go_wp2_with fail
          refine hK.out _ _ ?_ (λhHeld=>?_)
          . exact FF.out _ B5.out
          clear hK K;refine rdy 36 (λK hK=>?_);go_simp;refine hK.out _ _ ?_ (λhHeld=>?_)
          . exact FF.out _ (B5.out.alloc B5.out.size _)
          clear hK K;have B6:=Lib.hid (B5.out.alloc B5.out.size (.cells #[.string key] 9));have RB6:=Lib.hid (row_built w5 key HSK.out);have RK6:=Lib.hid (RK5.out.below ((Below.refl _ _).alloc (Nat.le_refl _) (.cells #[.string key] 9)));generalize w5.heap.size=gb at RB6|-;generalize w5.alloc (.cells #[.string key] 9)=w6 at B6 RB6 RK6 hHeld|-;clear B5 RK5;refine rdy 37 (λK hK=>?_);go_simp;refine(refSame_any w6 gk gb _ _ [key] [key] RK6.out RB6.out).mono ?_;rintro e w7 hq;obtain⟨rfl,hB⟩:=same_below hq;have B7:=Lib.hid (show Below w4.heap.size w4 w7 from B6.out.trans (hB.mono B6.out.size));clear hq hB;rw[decide_eq_true (rfl: [key]= [key])];go_wp2_with fail
          refine hK.out _ _ ?_ (λhHeld=>?_)
          . exact FF.out _ B7.out
          clear hK K;refine tk 38 ?_;refine tk 39 ?_;refine dn (NoPanic.normal ?_);have L7:=Lib.hid (L4.out.below B7.out);clear L4 FF D1 RK6 RB6 B6 B7 hHeld;go_wp2_with fail
          go_roundw
          case rel=>exact⟨k+1,T2,s.req key,_,by go_num,by omega,RQ.out.2.2.2.2.2.1,L7.out,RQ.out.2.2.2.1,RQ.out.2.2.2.2.2.2⟩
          case measure=>simp[intOf] <;> omega
        . go_simp;refine hK.out _ _ ?_ (λhHeld=>?_)
          . exact FF.out _ (D1.out.alloc D1.out.size _)
          clear hK K;have Ba:=Lib.hid (show Below w4.heap.size w4 (w4.alloc (.cells #[.string key] 9)).drew from D1.out.alloc D1.out.size _);have RBa:=Lib.hid (show Row (w4.alloc (.cells #[.string key] 9)).drew w4.heap.size (.slice (some ⟨w4.heap.size,0,none⟩) 1 1) [key] from row_built w4.drew key HSK.out);generalize w4.heap.size=gb at RBa|-;generalize(w4.alloc (.cells #[.string key] 9)).drew=wa at Ba RBa hHeld|-;refine rdy 31 (λK hK=>?_);go_simp;refine(keys_i _ x T2 (s.req key) _ _ _ (L4.out.below Ba.out).ca).mono ?_;rintro e w5 ⟨v5,rfl,hO,hB⟩;have B5:=Lib.hid (show Below w4.heap.size w4 w5 from Ba.out.trans (hB.mono (Ba.out).size));obtain⟨gk,_,hrk⟩:=hO.row;rw[RQ.out.2.2.2.2.1] at hrk;obtain⟨A5,c5,hv5⟩:=hO.len;subst hv5;rw[RQ.out.2.2.2.2.1] at hrk|-;have RK5:=Lib.hid hrk;have RB6:=Lib.hid (RBa.out.below hB);clear hO hB hrk;go_wp2_with fail
          refine hK.out _ _ ?_ (λhHeld=>?_)
          . exact FF.out _ B5.out
          clear hK K;have B6:=B5;have RK6:=RK5
          skip
          refine rdy 37 (λK hK=>?_);go_simp;refine(refSame_any w5 gk gb _ _ [key] [key] RK6.out RB6.out).mono ?_;rintro e w7 hq;obtain⟨rfl,hB⟩:=same_below hq;have B7:=Lib.hid (show Below w4.heap.size w4 w7 from B6.out.trans (hB.mono B6.out.size));clear hq hB;rw[decide_eq_true (rfl: [key]= [key])];go_wp2_with fail
          refine hK.out _ _ ?_ (λhHeld=>?_)
          . exact FF.out _ B7.out
          clear hK K;refine tk 38 ?_;refine tk 39 ?_;refine dn (NoPanic.normal ?_);have L7:=Lib.hid (L4.out.below B7.out);clear L4 FF D1 RK6 RB6 B6 B7 hHeld;go_wp2_with fail
          go_roundw
          case rel=>exact⟨k+1,T2,s.req key,_,by go_num,by omega,RQ.out.2.2.2.2.2.1,L7.out,RQ.out.2.2.2.1,RQ.out.2.2.2.2.2.2⟩
          case measure=>simp[intOf] <;> omega
      . have RQ:=Lib.hid (show s.hitB (S k)=false/\s.vicV (S k)=S j/\s.outB (S k)=true/\(s.req (S k)).mo=1/\(s.req (S k)).keys= [S k]/\(if false=true then h+1 else h)<=k+1/\(s.req (S k)).keys=(if k+1=0 then [] else [S (k+1 - 1)]) from by
         have hi:inn [S j] (S k)=false:=inn_no.2 λe=>he (List.mem_singleton.1 e).symm;rw[hi] at a2 a3;have a3':s.outB (S k)=true:=a3;exact⟨a2,List.mem_singleton.1 (a5 a3'),a3',by rw[ISt.mo_req];exact SM.out.1,a1,by split <;> omega,a1⟩)
        have q1:S k≠S j:=λe=>he e.symm;clear hcell SM OK h0 a1 a2 a3 a4 a5 hq he hj hj1;generalize S k=key at*;generalize S j=pk at*;have q2:=beqS_no q1;clear q1;have U:=request_i wr x T s k h (4*k) HL.out.ca key HSK.out (by omega) (by omega) (by omega);unfold ISt.step at U;rw[RQ.out.1,RQ.out.2.1,RQ.out.2.2.1] at U
        replace U:=Lib.hid U
        go_wp2_with fail
        refine U.out.mono ?_;intro e w2 hp;obtain⟨rfl,T2,hL,hW⟩:=HL.out.op hp;have X3:=Lib.hid (box_newI (w:=w2) (T:=T2) (L:=[]) (by intro q hq;cases hq) hL.lt false true pk);have L3:=Lib.hid (hL.below ((Below.refl _ _).alloc (Nat.le_refl _) (.cells #[.bool false,.string pk,.bool true] 34)));clear hp hL hW U HL h1;go_upto_region 12 with fail
        generalize w2.alloc (.cells #[.bool false,.string pk,.bool true] 34)=w3 at L3 X3|-;generalize w2.heap.size=nb at*
        have FF:=Lib.hid (show ∀W,Below w3.heap.size w3 W->(λW=>W.cell? ⟨g,o+k,none⟩=some (.string key)/\W.cell? ⟨nb,0,none⟩=some (.bool false)/\W.cell? ⟨nb,1,none⟩=some (.string pk)/\W.cell? ⟨nb,2,none⟩=some (.bool true)/\W.cell? ⟨g,o+j,none⟩=some (.string pk)) W from λW hB=>by
         obtain⟨b1,b2,b3,_,_⟩:=(X3.out.went (Went.below hB) (nb,false,pk,true) (by simp)).1.cells;have q:=L3.out.below hB;exact⟨(q.bel.cell (p:=⟨g,o+k,none⟩) HG.out).trans HC1.out,b1,b2,b3,(q.bel.cell (p:=⟨g,o+j,none⟩) HG.out).trans HC2.out⟩)
        have D0:=Lib.hid (show Below w3.heap.size w3 w3.drew from(Below.refl _ _).drew);refine rg (λW=>W.cell? ⟨g,o+k,none⟩=some (.string key)/\W.cell? ⟨nb,0,none⟩=some (.bool false)/\W.cell? ⟨nb,1,none⟩=some (.string pk)/\W.cell? ⟨nb,2,none⟩=some (.bool true)/\W.cell? ⟨g,o+j,none⟩=some (.string pk)) (FF.out _ D0.out) (λhHeld=>?_);refine tk 0 ?_;refine tk 1 ?_;refine tk 2 ?_;refine tk 3 ?_;refine tk 4 ?_;refine tk 5 ?_;refine tk 6 ?_;refine tk 7 ?_;refine tk 8 ?_;refine tk 9 ?_;refine tk 10 ?_;refine tk 11 ?_;refine tk 12 ?_;refine tk 13 ?_;refine tk 14 ?_;refine dn (NoPanic.normal ?_);have L4:=Lib.hid (L3.out.below D0.out)
        replace FF:=Lib.hid (λW (hB:Below w3.drew.heap.size w3.drew W)=>FF.out W (D0.out.trans hB))
        have D1:=Lib.hid (show Below w3.drew.heap.size w3.drew w3.drew.drew from(Below.refl _ _).drew);clear L3 X3 D0 hHeld;go_upto_region 13 with fail
        generalize w3.drew=w4 at L4 FF D1|-;refine rg (λW=>W.cell? ⟨g,o+k,none⟩=some (.string key)/\W.cell? ⟨nb,0,none⟩=some (.bool false)/\W.cell? ⟨nb,1,none⟩=some (.string pk)/\W.cell? ⟨nb,2,none⟩=some (.bool true)/\W.cell? ⟨g,o+j,none⟩=some (.string pk)) (FF.out _ D1.out) (λhHeld=>?_);refine tk 0 ?_;refine tk 1 ?_;refine tk 2 ?_;refine tk 3 ?_;refine tk 4 ?_;refine tk 5 ?_;refine tk 6 ?_;refine tk 7 ?_;refine tk 8 ?_;refine tk 9 ?_;refine tk 10 ?_;refine tk 11 ?_;refine tk 12 ?_;refine tk 13 ?_;refine tk 14 ?_;refine tk 15 ?_;refine tk 16 ?_;refine tk 17 ?_;refine tk 18 ?_;refine tk 19 ?_;refine tk 20 ?_;refine tk 21 ?_;refine tk 22 ?_;refine tk 23 ?_;refine tk 24 ?_;refine tk 25 ?_;refine tk 26 ?_;refine tk 27 ?_;refine tk 28 ?_;refine tk 29 ?_;refine tk 30 ?_;refine tk 32 ?_;refine tk 33 ?_;refine tk 34 ?_;refine tk 35 ?_;refine rdy2 31 36 (λK hK=>?_) (λK hK=>?_)
        . go_simp;refine(keys_i _ x T2 (s.req key) _ _ _ (L4.out.below D1.out).ca).mono ?_;rintro e w5 ⟨v5,rfl,hO,hB⟩;have B5:=Lib.hid (show Below w4.heap.size w4 w5 from D1.out.trans (hB.mono (D1.out).size));obtain⟨gk,_,hrk⟩:=hO.row;rw[RQ.out.2.2.2.2.1] at hrk;obtain⟨A5,c5,hv5⟩:=hO.len;subst hv5;rw[RQ.out.2.2.2.2.1] at hrk|-;have RK5:=Lib.hid hrk;clear hO hB hrk;go_wp2_with fail
          refine hK.out _ _ ?_ (λhHeld=>?_)
          . exact FF.out _ B5.out
          clear hK K;refine rdy 36 (λK hK=>?_);go_simp;refine hK.out _ _ ?_ (λhHeld=>?_)
          . exact FF.out _ (B5.out.alloc B5.out.size _)
          clear hK K;have B6:=Lib.hid (B5.out.alloc B5.out.size (.cells #[.string key] 9));have RB6:=Lib.hid (row_built w5 key HSK.out);have RK6:=Lib.hid (RK5.out.below ((Below.refl _ _).alloc (Nat.le_refl _) (.cells #[.string key] 9)));generalize w5.heap.size=gb at RB6|-;generalize w5.alloc (.cells #[.string key] 9)=w6 at B6 RB6 RK6 hHeld|-;clear B5 RK5;refine rdy 37 (λK hK=>?_);go_simp;refine(refSame_any w6 gk gb _ _ [key] [key] RK6.out RB6.out).mono ?_;rintro e w7 hq;obtain⟨rfl,hB⟩:=same_below hq;have B7:=Lib.hid (show Below w4.heap.size w4 w7 from B6.out.trans (hB.mono B6.out.size));clear hq hB;rw[decide_eq_true (rfl: [key]= [key])];go_wp2_with fail
          refine hK.out _ _ ?_ (λhHeld=>?_)
          . exact FF.out _ B7.out
          clear hK K;refine tk 38 ?_;refine tk 39 ?_;refine dn (NoPanic.normal ?_);have L7:=Lib.hid (L4.out.below B7.out);clear L4 FF D1 RK6 RB6 B6 B7 hHeld;go_wp2_with fail
          go_roundw
          case rel=>exact⟨k+1,T2,s.req key,_,by go_num,by omega,RQ.out.2.2.2.2.2.1,L7.out,RQ.out.2.2.2.1,RQ.out.2.2.2.2.2.2⟩
          case measure=>simp[intOf] <;> omega
        . go_simp;refine hK.out _ _ ?_ (λhHeld=>?_)
          . exact FF.out _ (D1.out.alloc D1.out.size _)
          clear hK K;have Ba:=Lib.hid (show Below w4.heap.size w4 (w4.alloc (.cells #[.string key] 9)).drew from D1.out.alloc D1.out.size _);have RBa:=Lib.hid (show Row (w4.alloc (.cells #[.string key] 9)).drew w4.heap.size (.slice (some ⟨w4.heap.size,0,none⟩) 1 1) [key] from row_built w4.drew key HSK.out);generalize w4.heap.size=gb at RBa|-;generalize(w4.alloc (.cells #[.string key] 9)).drew=wa at Ba RBa hHeld|-;refine rdy 31 (λK hK=>?_);go_simp;refine(keys_i _ x T2 (s.req key) _ _ _ (L4.out.below Ba.out).ca).mono ?_;rintro e w5 ⟨v5,rfl,hO,hB⟩;have B5:=Lib.hid (show Below w4.heap.size w4 w5 from Ba.out.trans (hB.mono (Ba.out).size));obtain⟨gk,_,hrk⟩:=hO.row;rw[RQ.out.2.2.2.2.1] at hrk;obtain⟨A5,c5,hv5⟩:=hO.len;subst hv5;rw[RQ.out.2.2.2.2.1] at hrk|-;have RK5:=Lib.hid hrk;have RB6:=Lib.hid (RBa.out.below hB);clear hO hB hrk;go_wp2_with fail
          refine hK.out _ _ ?_ (λhHeld=>?_)
          . exact FF.out _ B5.out
          clear hK K;have B6:=B5;have RK6:=RK5
          skip
          refine rdy 37 (λK hK=>?_);go_simp;refine(refSame_any w5 gk gb _ _ [key] [key] RK6.out RB6.out).mono ?_;rintro e w7 hq;obtain⟨rfl,hB⟩:=same_below hq;have B7:=Lib.hid (show Below w4.heap.size w4 w7 from B6.out.trans (hB.mono B6.out.size));clear hq hB;rw[decide_eq_true (rfl: [key]= [key])];go_wp2_with fail
          refine hK.out _ _ ?_ (λhHeld=>?_)
          . exact FF.out _ B7.out
          clear hK K;refine tk 38 ?_;refine tk 39 ?_;refine dn (NoPanic.normal ?_);have L7:=Lib.hid (L4.out.below B7.out);clear L4 FF D1 RK6 RB6 B6 B7 hHeld;go_wp2_with fail
          go_roundw
          case rel=>exact⟨k+1,T2,s.req key,_,by go_num,by omega,RQ.out.2.2.2.2.2.1,L7.out,RQ.out.2.2.2.1,RQ.out.2.2.2.2.2.2⟩
          case measure=>simp[intOf] <;> omega
  . have e0:decide (k < n)=false:=by simpa using hlt
    go_wp2_with fail
    go_ret;exact⟨rfl,HL.out.bel⟩
end Go.Proofs.YtbbogjhapeogeaaGreatDoor.IN
namespace Go.Proofs.YtbbogjhapeogeaaGreatDoor
open Go.ChangeShapes Go.WideShapes Go.ChangeAt Go.RowKit Sg
open Go.ChangeMaps (open_string shut_string)
theorem walk_instOne(a0:Int)(v1:Value)(v2:Value)(w:World)(w0:(Lit.int .i64 a0).wf=true)(w1:CameR w v1)(w2:CameS w v2)(hl:Laid w/\Named w):Calls Tryz.prog 5 #[.int .i64 a0,v1,v2] w (IN.RetB true w):=by
 obtain⟨A,n,c,rfl,hn,S,hr,hc⟩:=w2;obtain⟨Al,nl,cl,rfl,hnl,vs,hvs⟩:=pick_lane w1;have hz0:=i64_rng w0
 by_cases hok:¬a0 < 0/\¬6 < a0/\¬200 < (n:Int)/\¬300 < (nl:Int)
 . obtain⟨q0,q1,q2,q3⟩:=hok;obtain⟨kd,rfl⟩:∃m:Nat,a0=(m:Int):=⟨a0.toNat,by omega⟩;obtain⟨hv1,hv2⟩:=hvs (by omega);subst hv1;exact IN.instOne_main kd vs Al cl A n c w S (by omega) (by omega) (by omega) hv2 ⟨hr,hc⟩ hl
 . have PW:=Lib.hid (show(decide (a0 < 0)=true)\/(decide (a0 < 0)=false/\decide (6 < a0)=true)\/(decide (a0 < 0)=false/\decide (6 < a0)=false/\decide (200 < (n:Int))=true)\/(decide (a0 < 0)=false/\decide (6 < a0)=false/\decide (200 < (n:Int))=false/\decide (300 < (nl:Int))=true) from by
    by_cases p0:decide (a0 < 0)=true
    . exact Or.inl p0
    rw[Bool.not_eq_true] at p0
    by_cases p1:decide (6 < a0)=true
    . exact Or.inr (Or.inl ⟨p0,p1⟩)
    rw[Bool.not_eq_true] at p1
    by_cases p2:decide (200 < (n:Int))=true
    . exact Or.inr (Or.inr (Or.inl ⟨p0,p1,p2⟩))
    rw[Bool.not_eq_true] at p2
    by_cases p3:decide (300 < (nl:Int))=true
    . exact Or.inr (Or.inr (Or.inr (⟨p0,p1,p2,p3⟩)))
    rw[Bool.not_eq_true] at p3;exact absurd ⟨of_decide_eq_false p0,of_decide_eq_false p1,of_decide_eq_false p2,of_decide_eq_false p3⟩ hok)
   have AW:=Lib.hid (IN.awake_i w hl);unfold maxLen at hn hnl;clear hr hc hok hl hvs hz0 w0 w1;rcases PW.out with e0|⟨e0,e1⟩|⟨e0,e1,e2⟩|⟨e0,e1,e2,e3⟩
   all_goals
    clear PW;go_enter Tryz.func5,Tryz.ntmps5;go_wp2_with fail
    refine AW.out.mono ?_;rintro e w0 ⟨rfl,hb0⟩;have b0:=Lib.hid hb0;clear hb0;go_wp2_with fail
    go_ret;exact⟨rfl,b0.out⟩
namespace LInstOne
set_option maxRecDepth 100000 in
theorem lifted(os:Os)(started:os.Started)(H:Type)(enc:TypeId × Value->H):
 ReturnsInHanded {} Tryz.checked os 5 .any (λw args=>(Rows.instOneSpec.pre enc Tryz.prog Tryz.f5 [] false w args/\laidMetH Tryz.prog seatLaid w)/\sizedMet enc Tryz.prog Tryz.f5 (OpenSpec.ofChange Rows.instOneSpec) false w args)
  (Rows.instOneSpec.post enc Tryz.prog Tryz.f5 false true false false):=by
 refine returnsInHanded_of_change_and (C:=Tryz.checked) (X:=λw _=>laidMetH Tryz.prog seatLaid w) (λ_ _ _ hh h=>h.of_heap hh) own started (by kernel_rfl) Tryz.func5
  (ChangeSpec.witness_at (enc:=enc) (C:=Tryz.checked) (os:=os) (X:=λw _=>laidMetH Tryz.prog seatLaid w) false (laidWorld os) #[.int .i64 0,.slice none 0 0,.slice none 0 0] 8 rfl (by kernel_rfl) (by kernel_rfl) (by kernel_rfl) (by kernel_rfl) (by kernel_rfl) (laidWorld_met os _)) ?_
 intro W base args ds gs before hval0 hW _ _ hL _;have hval:∀(j:Nat) t v,Tryz.f5.params[j]?=some t->args[j]?=some v->Value.okWide Tryz.prog W .any base t v:=hval0
 have hW':=hW;obtain⟨p,q,hA0,hV,rfl,hfz,hnd⟩:=hW;have hA:DataW.TrodAll enc Tryz.prog W 0 (λ_=>true) true Tryz.f5.params.toList args.toList ds p:=hA0;rw[Tryz.params5] at hA hval;obtain⟨v0,vs0,d0,ds0,p0,q0,hargs,rfl,rfl,h0,r0⟩:=trodAll_cons hA;obtain⟨v1,vs1,d1,ds1,p1,q1,rfl,rfl,rfl,h1,r1⟩:=trodAll_cons r0;obtain⟨v2,vs2,d2,ds2,p2,q2,rfl,rfl,rfl,h2,r2⟩:=trodAll_cons r1;obtain⟨rfl,rfl,rfl⟩:=trodAll_nil r2;obtain rfl:args= #[v0,v1,v2]:=by cases args;simp_all
 obtain⟨rfl,rfl⟩:=trodVars_none hV;obtain⟨a0,rfl,rfl,rfl,w0⟩:=open_int Tryz.underlying3 (hval 0 3 v0 rfl rfl) h0;have k1:=h1;have lt1:∀x∈p1,x.block < W.heap.size:=by obtain⟨m,hm⟩:=k1;exact DataW.trod_lt m _ _ _ hm
 have w1:=open_r (hval 1 22 v1 rfl rfl) h1;have k2:=h2;have lt2:∀x∈p2,x.block < W.heap.size:=by obtain⟨m,hm⟩:=k2;exact DataW.trod_lt m _ _ _ hm
 have w2:=open_z (hval 2 23 v2 rfl rfl) h2;clear hA0 hval0;refine(walk_instOne a0 v1 v2 W w0 w1 w2 (laid_of hL)).mono λe W' ⟨he,bel⟩=>?_;subst he;exact⟨_,rfl,_,_,_,[],_,[],hW',trodAll_mk1 (shut_bool Tryz.underlying4 _),(trodAll_cons_mk (shut_int Tryz.underlying3 w0) (trodAll_cons_mk (Below.trod laidOut (by kernel_rfl) (of_decide_eq_true (by kernel_rfl)) k1 bel lt1) (trodAll_cons_mk (Below.trod laidOut (by kernel_rfl) (of_decide_eq_true (by kernel_rfl)) k2 bel lt2) trodAll_mk0))),rfl,bel.frame _,λh=>by cases h⟩
theorem band{x y:Bool}(h:x=true)(k:y=true):(x&&y)=true:=by rw[h,k];rfl
set_option maxRecDepth 100000
theorem cj0:(Rows.instOneRow.wf (OpenSpec.ofChange Rows.instOneSpec))=true:=by kernel_rfl
theorem cj1:(laidOutB Tryz.pinned.checked.prog)=true:=by kernel_rfl
theorem cj2:(mapsRowed Tryz.pinned.checked.prog)=true:=by kernel_rfl
theorem cj9:(Rows.instOneRow.inPlace==Tryz.pinned.checked.prog.inPlace 5)=true:=by kernel_rfl
theorem cj10:(Rows.instOneRow.unfollowed==Tryz.pinned.checked.prog.unfollowed 5)=true:=by kernel_rfl
theorem cj11:(Rows.instOneRow.recurses==Tryz.pinned.checked.prog.recurses 5)=true:=by kernel_rfl
theorem cj12:(Rows.instOneRow.named==Tryz.pinned.checked.prog.varsNamed 5)=true:=by kernel_rfl
theorem cj22:(Rows.instOneRow.plainKeys==Tryz.pinned.checked.prog.plainKeys)=true:=by kernel_rfl
theorem cj24:(Tryz.pinned.checked.prog.stopsHeard)=true:=by kernel_rfl
theorem cj25:(Tryz.pinned.checked.prog.mayEnter)=true:=by kernel_rfl
theorem cj26:(Rows.instOneRow.lifted==Tryz.pinned.checked.prog.liftsFinal)=true:=by kernel_rfl
theorem cj27:(Tryz.pinned.checked.prog.make==some Rows.instOneRow.make)=true:=by kernel_rfl
theorem closed:joinedFacts Tryz.pinned.checked.prog 5 Tryz.f5 Rows.instOneSpec Rows.instOneRow=true:=by
 unfold joinedFacts;exact band (band (band (band (band (band (band (band (band (band (band (band (band (band (band (band (band (band (band (band (band (band (band (band (band (band (band (band (band (band (band (cj0) cj1) cj2) (by kernel_rfl)) (by kernel_rfl)) (by kernel_rfl)) (by kernel_rfl)) (by kernel_rfl)) (by kernel_rfl)) cj9) cj10) cj11) cj12) (by kernel_rfl)) (by kernel_rfl)) (by kernel_rfl)) (by kernel_rfl)) (by kernel_rfl)) (by kernel_rfl)) (by kernel_rfl)) (by kernel_rfl)) (by kernel_rfl)) cj22) (by kernel_rfl)) cj24) cj25) cj26) cj27) (by kernel_rfl)) (by kernel_rfl)) (by kernel_rfl)) (by kernel_rfl)
theorem fnm:Tryz.pinned.checked.prog.funcNamed "cachewise/cachewiselaw11.InstOne" =some 5:=by kernel_rfl
theorem isIn:Tryz.f5.isInstance Tryz.pinned.checked.prog Rows.instOneRow.origin Rows.instOneRow.targs:=of_decide_eq_true (by kernel_rfl)
theorem isWr:Tryz.f5.isWrapper Tryz.pinned.checked.prog Rows.instOneRow.wrapper Rows.instOneRow.mainSum:=by unfold Func.isWrapper;rw[if_neg (of_decide_eq_false (by kernel_rfl))];exact⟨rfl,rfl⟩
theorem said:Rows.InstOneSaid:=
 OpenClaim.holds_of_wide 5 Tryz.f5 rfl rfl rfl rfl rfl rfl rfl ⟨rfl,rfl,rfl,rfl,rfl⟩ rfl rfl rfl rfl rfl fnm Tryz.func5 closed isIn isWr
  (λos started H enc _=>lifted os started H enc)
theorem hwT:Rows.instOneRow.wfByText (OpenSpec.ofChange Rows.instOneSpec)=true:=by kernel_rfl
theorem mnI:Tryz.pinned.checked.prog.mainIs=some (Rows.instOneCard.stood.harness.1,Rows.instOneCard.stood.harness.2.toList):=by kernel_rfl
theorem lkT:Rows.instOneCard.stood.looks=Tryz.pinned.checked.prog.looks []:=by kernel_rfl
theorem gsB:false=Rows.instOneRow.goesBy Tryz.pinned.checked.prog:=by kernel_rfl
theorem sii:Tryz.prog.wantsStandIn 3=false:=by kernel_rfl
theorem sir:Tryz.prog.wantsStandIn 22=false:=by kernel_rfl
theorem siz:Tryz.prog.wantsStandIn 23=false:=by kernel_rfl
theorem card:Rows.InstOneCardSaid:=
 Claim7.holds_tied_plain_at .later [] _ _ _ _ said (λ_ h=>by cases h) hwT (λ_ h=>by cases h) instOne_row_tie rfl ⟨rfl,rfl⟩ mnI rfl
  (λf fn hf hfn=>by
    obtain rfl:f=5:=Option.some.inj (fnm.symm.trans hf) |>.symm;obtain rfl:fn=Tryz.f5:=(Option.some.inj (Tryz.func5.symm.trans hfn)).symm;refine⟨lkT,λj t ht=>?_⟩;rw[Tryz.params5] at ht;rcases j with _|_|_|j
    . obtain rfl:t=3:=by simpa using ht.symm
      exact sii
    . obtain rfl:t=22:=by simpa using ht.symm
      exact sir
    . obtain rfl:t=23:=by simpa using ht.symm
      exact siz
    . simp at ht)
  gsB
#print axioms card
end LInstOne
end Go.Proofs.YtbbogjhapeogeaaGreatDoor
