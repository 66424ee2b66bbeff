/- 'cachewiselaw11.InstShrinks' returns true for every kind, every size, every lesser size, every lane and every row of keys, and leaves what was there as it was. The listed variables read as the program's text lays them. -/
import Derived.Test.YtbbogjhapeogeaaGreatDoorYd
import Derived.Test.YtbbogjhapeogeaaGreatDoorCards
import Derived.Test.YtbbogjhapeogeaaGreatDoorTie
import Derived.SevenTiedAt
import Derived.Deep.DeepCutAuto
import Derived.Deep.CutBlock
set_option maxRecDepth 20000
namespace Go.Proofs.YtbbogjhapeogeaaGreatDoor.IN
open Go.ChangeShapes Go.WideShapes Go.ChangeAt Go.RowKit Sg
structure ShF(s t:ISt)(le q:Nat):Prop where
 num:(s.gone le).length=q - le
 len:t.keys.length+(s.gone le).length=q
 each:∀y∈s.keys,inn (s.gone le) y=!t.has y
 mo:t.mo=le
theorem shf{s:ISt}(h:s.Ok)(le:Nat):ShF s (s.rs le) le s.keys.length:=by
 have f:=ISt.rs_f h le;refine⟨f.num,f.len,λy hy=>?_,ISt.mo_rs s le⟩;cases ho:inn (s.gone le) y with
 |true=>rw[show(s.rs le).has y=false from inn_no.2 (f.gone y (inn_iff.1 ho)).2];rfl
 |false=>rw[show(s.rs le).has y=true from inn_iff.2 ((f.stay y hy).resolve_right (inn_no.1 ho))];rfl
theorem IR2.resized{w0 w w':World}{x n h b m:Nat}{U:Nat->Prop}{st:ISt}{va:Value}{xs:List ByteArray}{e:Ending}(l:IL w0 w x U st n h b)(ra:PMine w U va xs)(hp:RsI w x U st n h b m e w'):
 ∃A c U',e= .returned (.tuple #[.slice A (st.gone m).length c,.nilIface])/\IR2 w0 w' x U' (st.rs m) n h b va xs (.slice A (st.gone m).length c) (st.gone m):=by
 obtain⟨v,U',rfl,hi,hw,ho,hn⟩:=hp;obtain⟨A,c,rfl⟩:=ho.len;have l':=l.went hi hw;exact⟨A,c,U',rfl,l',ra.went hw l'.lt,PMine.of ho hn l'.lt⟩
def ISh(w0:World)(x le k:Nat)(i:Value)(W:World):Prop:=∃(j:Nat) (T:Nat->Prop) (t:ISt) (h:Nat),i= .int .i64 (j:Int)/\j<=40/\h<=k+j/\IL w0 W x T t (k+j) h (4*(k+j))/\t.mo=le
set_option maxHeartbeats 8000000 in
set_option maxRecDepth 100000 in
theorem instShrinks_main(kd:Nat)(mo le:Nat)(vs:List Nat)(Al:Option Addr)(cl:Nat)(A:Option Addr)(n cc:Nat)(w:World)(S:Nat->ByteArray)(hkd:kd < 7)(hmo:mo<=1000)(hle:le<=1000)(hn:n<=200)(hvl:vs.length<=300)
 (hv:DR.Lane w 0 w.heap.size (.slice Al vs.length cl) vs) (hk:KRow w A n cc S) (hl:Laid w/\Named w):
 Calls Tryz.prog 8 #[.int .i64 (kd:Int),.int .i64 (mo:Int),.int .i64 (le:Int),.slice Al vs.length cl,.slice A n cc] w (RetB true w):=by
 have AW:=Lib.hid (awake_i w hl);have TP:=Lib.hid (tape_of hv);have NW:=Lib.hid (λ(w1:World) (B E:Nat) (hT:DR.Tape w1 B E [vs])=>new_i w1 kd mo B E [vs] hkd (by omega) hT);have KD:=Lib.hid hkd;have g0:decide ((kd:Int) < 0)=false:=decide_eq_false (by omega);have g1:decide (6 < (kd:Int))=false:=decide_eq_false (by omega);have g2:decide ((mo:Int) < 0)=false:=decide_eq_false (by omega);have g3:decide (1000 < (mo:Int))=false:=decide_eq_false (by omega);have g4:decide ((le:Int) < 0)=false:=decide_eq_false (by omega);have g5:decide (1000 < (le:Int))=false:=decide_eq_false (by omega);have g6:decide (200 < (n:Int))=false:=decide_eq_false (by omega);have g7:decide (300 < (vs.length:Int))=false:=decide_eq_false (by omega);have KR:=Lib.hid hk;have HN:=Lib.hid hn;have HM:=Lib.hid hmo;have HLE:=Lib.hid hle;generalize hvn:vs.length=vn at*;clear hk hl hv hkd hvn hn;go_enter Tryz.func8,Tryz.ntmps8;go_wp2_with fail
 refine AW.out.mono ?_;rintro e w0 ⟨rfl,hb0⟩;have b0:=Lib.hid hb0;clear hb0;go_wp2_with fail
 refine(TP.out w0 b0.out).mono ?_;rintro e w1 ⟨B,rfl,hT,hB0,hB⟩;have T1:=Lib.hid (And.intro hT (And.intro hB0 hB));clear hT hB0 hB TP AW;go_wp2_with fail
 refine Calls.mono (show Calls Tryz.prog 11 #[.int .i64 (kd:Int),.int .i64 (mo:Int),.pointer (some ⟨B+1,0,none⟩),.int .i64 0] w1 (INew kd mo (DR.lget [vs] 0) B w1) from NW.out w1 B _ T1.out.1) ?_;rintro e w2 ⟨x,U,rfl,hC,hU,hB⟩;have L1:=Lib.hid (made_i b0.out T1.out.2.1 T1.out.2.2 hC hU hB);have K0:=Lib.hid (ISt.start_kind KD.out mo (DR.lget [vs] 0));generalize ISt.start kd mo (DR.lget [vs] 0)=s0 at*;clear hC hU hB b0 T1 NW;go_wp2_with fail
 clear g0 g1 g2 g3 g4 g5 g6 g7;go_loopw [13] (λi W=>IFill w x mo n i W) (λi _=>n - (intOf i).toNat)
 case atStart=>exact⟨0,U,s0,0,rfl,Nat.zero_le _,Nat.le_refl _,L1.out,K0.out.2.1⟩
 case round=>
  obtain⟨k,T,s,h,rfl,hk,hh,hL,hm⟩:=hrel;have HL:=Lib.hid hL;have SM:=Lib.hid hm;clear hL L1 hm K0
  by_cases hlt:k < n
  . have e0:decide (k < n)=true:=by simpa using hlt
    have hn2:=HN.out;obtain⟨g,o,rfl,hg,hc1,hc2,hcell⟩:=KR.out.2 (by omega);have h1:=(HL.out.bel.cell (p:=⟨g,o+k,none⟩) hg).trans (hcell k hlt);have HSK:=Lib.hid (KR.out.1 k hlt);clear hcell;unfold maxLen at hc2;have U:=Lib.hid (request_i wr x T s k h (4*k) HL.out.ca (S k) HSK.out (by omega) (by omega) (by omega));go_wp2_with fail
    refine U.out.mono ?_;intro e w4 hp;obtain⟨rfl,hF⟩:=IFill.next hlt hh HL.out SM.out hp
    have FIN:=Lib.hid hF;clear hp hF U HL;generalize s.step (S k)=sv;go_wp2_with fail
    go_roundw
    case rel=>exact FIN.out
    case measure=>simp[intOf] <;> omega
  . have e0:decide (k < n)=false:=by simpa using hlt
    obtain rfl:k=n:=by omega
    clear hlt hk;have hn2:=HN.out;obtain⟨q,hq⟩:∃y,y=s.keys.length:=⟨_,rfl⟩;have hqm:q<=1000:=by rw[hq];have:=ISt.le HL.out.ca.ok;have:=SM.out;have:=HM.out;omega
    have HQ:=Lib.hid hq;have SF:=shf HL.out.ca.ok le;rw[← hq] at SF
    replace SF:=Lib.hid SF
    clear hq;go_wp2_with fail
    refine(keys_i wr x T s _ _ _ HL.out.ca).mono ?_;rintro e w2 ⟨v2,rfl,hO,hB⟩;obtain⟨A2,c2,rfl⟩:=hO.len;have M2:=Lib.hid (IL.mine hO HL.out.ca);have L2:=Lib.hid (HL.out.below hB);rw[← HQ.out] at M2|-;clear hO hB HL SM;go_wp2_with fail
    refine(resize_i w2 x T s _ _ _ L2.out.ca le (by have:=HLE.out;omega) (by omega) (by rw[← HQ.out];omega)).mono ?_;intro e w3 hp;obtain⟨A3,c3,T6,rfl,hR⟩:=IR2.resized L2.out M2.out hp;have R3:=Lib.hid hR;clear hp hR L2 M2;obtain⟨d,hd⟩:∃y,y=(s.gone le).length:=⟨_,rfl⟩;generalize s.rs le=t at*;obtain⟨m,hm⟩:∃y,y=t.keys.length:=⟨_,rfl⟩;have f1:=SF.out.num;have f2:=SF.out.len;rw[← hd] at f1 f2;rw[← hm] at f2;have MT:=Lib.hid SF.out.mo;have EA:=Lib.hid SF.out.each;rw[← hd] at R3|-;generalize s.gone le=ys at*;have HD:=Lib.hid hm;clear SF hd hm;have hle2:=HLE.out;have hmx:max 0 ((q:Int) - (le:Int))=(d:Int):=by omega
    have hmd:(q:Int) - (d:Int)=(m:Int):=by omega
    have hd2:d<=1000:=by omega
    have hm2:m<=1000:=by omega
    have hw1:IntKind.i64.wrap ((q:Int) - (le:Int))=(q:Int) - (le:Int):=IntWalk.i64_in _ (by omega);have hw2:IntKind.i64.wrap (m:Int)=(m:Int):=IntWalk.i64_in _ (by omega);clear f1 f2;go_wp2_with fail
    refine Calls.mono (show Calls Tryz.prog 18 #[.pointer (some ⟨x,0,none⟩)] w3 (Told (.int .i64 (m:Int)) w3) from by
     have:=len_i w3 x T6 t _ _ _ R3.out.lv.ca;rw[← HD.out] at this;exact this) ?_
    rintro e w4 ⟨rfl,hB⟩;have R4:=Lib.hid (R3.out.below hB);clear hB R3;go_wp2_with fail
    refine Calls.mono (show Calls Tryz.prog 25 #[.pointer (some ⟨x,0,none⟩)] w4 (Told (.int .i64 (le:Int)) w4) from by
     have:=most_i w4 x T6 t _ _ _ R4.out.lv.ca;rw[MT.out] at this;exact this) ?_
    rintro e w5 ⟨rfl,hB⟩;have R5:=Lib.hid (R4.out.below hB);clear hB R4;go_wp2_with fail
    clear hmx hmd hw1 hw2;go_loopw [17] (λi W=>∃j:Nat,i= .int .i64 (j:Int)/\j<=q/\IR2 w W x T6 t k h (4*k) (.slice A2 q c2) s.keys (.slice A3 d c3) ys) (λi _=>q - (intOf i).toNat)
    case atStart=>exact⟨0,rfl,Nat.zero_le _,R5.out⟩
    case round=>
     obtain⟨j,rfl,hj,hR⟩:=hrel;have R8:=Lib.hid hR;clear hR R5
     by_cases hlt2:j < q
     . have e1:decide (j < q)=true:=by simpa using hlt2
       obtain⟨g2,hr⟩:=R8.out.ra.row;have hjq:j < s.keys.length:=by rw[← HQ.out];exact hlt2
       obtain⟨o2,rfl,hg2,hcell2,hc12,hc22⟩:=hr.at hjq;have hmem:s.keys.getD j ⟨#[]⟩∈s.keys:=by rw[List.getD_eq_getElem?_getD,List.getElem?_eq_getElem hjq];exact List.getElem_mem hjq
       have YS:=Lib.hid (hr.2.1 _ hmem);have EACH:=Lib.hid (EA.out _ hmem);generalize s.keys.getD j ⟨#[]⟩=y at*;rw[← HQ.out] at hc12;unfold maxLen at hc22;clear hr hmem hjq;cases hyt:t.has y with
       |true=>
        have FF:=Lib.hid (show ∀W,Below wr.heap.size wr W->(λW=>W.cell? ⟨g2,o2+j,none⟩=some (.string y)) W from λW hb=>(hb.cell (p:=⟨g2,o2+j,none⟩) hg2).trans hcell2);clear hg2 hcell2;have D0:=Lib.hid (show Below wr.heap.size wr wr.drew from(Below.refl _ _).drew)
        have VX:=Lib.hid (λ(W:World) (hb:Below wr.heap.size wr W)=>show Calls Tryz.prog 17 #[.pointer (some ⟨x,0,none⟩),.string y] W (Told (.bool true) W) from by
         have:=has_i W x T6 t _ _ _ (R8.out.below hb).lv.ca y YS.out;rw[hyt] at this;exact this)
        have VH:=Lib.hid (λ(W:World) (hb:Below wr.heap.size wr W)=>show Calls Tryz.prog 16 #[.slice A3 d c3,.string y] W (BoolPost (!true) W) from by
         obtain⟨g,hr⟩:=(R8.out.below hb).rb.row;have:=refHas_any W g _ _ y hr;rw[EACH.out,hyt] at this;exact this)
        clear EACH;go_wp2_with fail
        refine rg (λW=>W.cell? ⟨g2,o2+j,none⟩=some (.string y)) (FF.out _ D0.out) (λhHeld=>?_);refine tk 0 ?_;refine tk 1 ?_;refine tk 2 ?_;refine tk 3 ?_;refine tk 4 ?_;refine tk 6 ?_;refine tk 7 ?_;refine tk 8 ?_;refine tk 9 ?_;refine tk 10 ?_;refine rdy 5 (λK hK=>?_);go_simp;refine(VX.out _ D0.out).mono ?_;rintro e w9 ⟨rfl,hB⟩;have B9:=Lib.hid (D0.out.trans (hB.mono D0.out.size));clear hB;go_wp2_with fail
        refine hK.out _ _ ?_ (λhHeld=>?_)
        . exact FF.out _ B9.out
        clear hK K;refine rdy 11 (λK hK=>?_);go_simp;refine(VH.out _ B9.out).mono ?_;rintro e wa ⟨rfl,rfl⟩;go_wp2_with fail
        refine hK.out _ _ ?_ (λhHeld=>?_)
        . exact FF.out _ B9.out
        clear hK K;refine tk 12 ?_;refine dn (NoPanic.normal ?_);have R9:=Lib.hid (R8.out.below B9.out);clear VX VH R8 FF D0 B9 hHeld hyt;go_wp2_with fail
        go_roundw
        case rel=>exact⟨j+1,by go_num,by omega,R9.out⟩
        case measure=>simp[intOf] <;> omega
       |false=>
        have FF:=Lib.hid (show ∀W,Below wr.heap.size wr W->(λW=>W.cell? ⟨g2,o2+j,none⟩=some (.string y)) W from λW hb=>(hb.cell (p:=⟨g2,o2+j,none⟩) hg2).trans hcell2);clear hg2 hcell2;have D0:=Lib.hid (show Below wr.heap.size wr wr.drew from(Below.refl _ _).drew)
        have VX:=Lib.hid (λ(W:World) (hb:Below wr.heap.size wr W)=>show Calls Tryz.prog 17 #[.pointer (some ⟨x,0,none⟩),.string y] W (Told (.bool false) W) from by
         have:=has_i W x T6 t _ _ _ (R8.out.below hb).lv.ca y YS.out;rw[hyt] at this;exact this)
        have VH:=Lib.hid (λ(W:World) (hb:Below wr.heap.size wr W)=>show Calls Tryz.prog 16 #[.slice A3 d c3,.string y] W (BoolPost (!false) W) from by
         obtain⟨g,hr⟩:=(R8.out.below hb).rb.row;have:=refHas_any W g _ _ y hr;rw[EACH.out,hyt] at this;exact this)
        clear EACH;go_wp2_with fail
        refine rg (λW=>W.cell? ⟨g2,o2+j,none⟩=some (.string y)) (FF.out _ D0.out) (λhHeld=>?_);refine tk 0 ?_;refine tk 1 ?_;refine tk 2 ?_;refine tk 3 ?_;refine tk 4 ?_;refine tk 6 ?_;refine tk 7 ?_;refine tk 8 ?_;refine tk 9 ?_;refine tk 10 ?_;refine rdy 5 (λK hK=>?_);go_simp;refine(VX.out _ D0.out).mono ?_;rintro e w9 ⟨rfl,hB⟩;have B9:=Lib.hid (D0.out.trans (hB.mono D0.out.size));clear hB;go_wp2_with fail
        refine hK.out _ _ ?_ (λhHeld=>?_)
        . exact FF.out _ B9.out
        clear hK K;refine rdy 11 (λK hK=>?_);go_simp;refine(VH.out _ B9.out).mono ?_;rintro e wa ⟨rfl,rfl⟩;go_wp2_with fail
        refine hK.out _ _ ?_ (λhHeld=>?_)
        . exact FF.out _ B9.out
        clear hK K;refine tk 12 ?_;refine dn (NoPanic.normal ?_);have R9:=Lib.hid (R8.out.below B9.out);clear VX VH R8 FF D0 B9 hHeld hyt;go_wp2_with fail
        go_roundw
        case rel=>exact⟨j+1,by go_num,by omega,R9.out⟩
        case measure=>simp[intOf] <;> omega
     . have e1:decide (j < q)=false:=by simpa using hlt2
       have L8:=Lib.hid R8.out.lv;have L80:=Lib.hid (show ISh w x le k (.int .i64 0) wr from⟨0,T6,t,h,rfl,by omega,by omega,L8.out,MT.out⟩);clear R8 L8 hlt2 hj;go_wp2_with fail
       go_loopw [18] (λi W=>ISh w x le k i W) (λi _=>40 - (intOf i).toNat)
       case atStart=>exact L80.out
       case round=>
        obtain⟨j2,T7,t2,h2,rfl,hj2,hh2,hL,hmt⟩:=hrel;have L9:=Lib.hid hL;have MT2:=Lib.hid hmt;clear hL hmt L80;rcases(show le<=j2\/(j2 < le/\j2 < 40)\/(j2 < le/\40<=j2) by omega) with hw|⟨hw,hv⟩|⟨hw,hv⟩
        . have z1:decide ((j2:Int) < (le:Int))=false:=decide_eq_false (by omega);have z2:decide (j2 < le)=false:=decide_eq_false (by omega);go_wp2_with fail
          go_ret;exact⟨rfl,L9.out.bel⟩
        . have z1:decide ((j2:Int) < (le:Int))=true:=decide_eq_true (by omega);have z2:decide (j2 < le)=true:=decide_eq_true (by omega);have z3:decide ((j2:Int) < 40)=true:=decide_eq_true (by omega)
          have cv:=run_convert_bytes_arg (P:=Tryz.prog) (wr.alloc (.cells #[.int .u8 (j2:Int)] 5)) 49 5 Tryz.underlying49 Tryz.underlying5 wr.heap.size 0 1 1 [(j2:Int)] rfl (λi hi=>by
           obtain rfl:i=0:=by omega
           exact cell_of_row _ _ 0 _ _ _ (heap_alloc_new wr (.cells #[.int .u8 (j2:Int)] 5))) 9 Tryz.underlying9
          obtain⟨sk,hsk⟩:∃y,y=strOfNums [(j2:Int)]:=⟨_,rfl⟩;rw[← hsk] at cv
          have SK:=Lib.hid (show((⟨#[110,101,119,32]⟩:ByteArray)++sk).size<=maxLen from by
           rw[ByteArray.size_append,hsk];have h1:(⟨#[110,101,119,32]⟩:ByteArray).size=4:=rfl;have h2:(strOfNums [(j2:Int)]).size=1:=rfl;rw[h1,h2];unfold maxLen;omega)
          have hs1:sk.size=1:=by rw[hsk];rfl
          have hs4:(⟨#[110,101,119,32]⟩:ByteArray).size=4:=rfl;have ad:=λ(W:World)=>run_string_add_sum (P:=Tryz.prog) W ⟨#[110,101,119,32]⟩ sk (by rw[hs1,hs4];omega);clear hsk;have hb0:=(Below.refl wr.heap.size wr).alloc (Nat.le_refl _) (.cells #[.int .u8 (j2:Int)] 5);have La:=Lib.hid (L9.out.below hb0);clear hb0;go_wp2_with fail
          clear cv ad hs1 hs4;generalize wr.alloc (.cells #[.int .u8 (j2:Int)] 5)=wa at La|-;generalize(⟨#[110,101,119,32]⟩:ByteArray)++sk=nk at SK|-;refine(request_i wa x T7 t2 _ _ _ La.out.ca nk SK.out (by omega) (by omega) (by omega)).mono ?_;intro e wb hp;obtain⟨rfl,Tb,hLb,_⟩:=La.out.op hp;have Lb:=Lib.hid hLb;have MT3:=Lib.hid ((ISt.mo_req t2 nk).trans MT2.out);have hh3:(if t2.hitB nk=true then h2+1 else h2)<=k+j2+1:=by split <;> omega
          clear hp hLb La L9 MT2;generalize(if t2.hitB nk=true then h2+1 else h2)=h3 at*;generalize t2.step nk=sv;generalize t2.req nk=t3 at*;obtain⟨m3,hm3⟩:∃y,y=t3.keys.length:=⟨_,rfl⟩;have hml:m3<=le:=by rw[hm3,<-MT3.out];exact ISt.le Lb.out.ca.ok
          have V:=len_i wb x Tb t3 _ _ _ Lb.out.ca;rw[← hm3] at V
          replace V:=Lib.hid V
          have z4:decide ((le:Int) < (m3:Int))=false:=decide_eq_false (by omega);have z5:decide (le < m3)=false:=decide_eq_false (by omega);clear hm3 hml;go_wp2_with fail
          refine V.out.mono ?_;rintro e wc ⟨rfl,hB⟩;have Lc:=Lib.hid (Lb.out.below hB);clear hB Lb V;go_wp2_with fail
          go_roundw
          case rel=>exact⟨j2+1,Tb,t3,h3,by go_num,by omega,by omega,Lc.out,MT3.out⟩
          case measure=>simp[intOf] <;> omega
        . have z1:decide ((j2:Int) < (le:Int))=true:=decide_eq_true (by omega);have z2:decide (j2 < le)=true:=decide_eq_true (by omega);have z3:decide ((j2:Int) < 40)=false:=decide_eq_false (by omega);go_wp2_with fail
          go_ret;exact⟨rfl,L9.out.bel⟩
end Go.Proofs.YtbbogjhapeogeaaGreatDoor.IN
namespace Go.Proofs.YtbbogjhapeogeaaGreatDoor
open Go.ChangeShapes Go.WideShapes Go.ChangeAt Go.RowKit Sg
open Go.ChangeMaps (open_string shut_string)
theorem walk_instShrinks(a0:Int)(a1:Int)(a2:Int)(v3:Value)(v4:Value)(w:World)(w0:(Lit.int .i64 a0).wf=true)(w1:(Lit.int .i64 a1).wf=true)(w2:(Lit.int .i64 a2).wf=true)(w3:CameR w v3)(w4:CameS w v4)(hl:Laid w/\Named w):Calls Tryz.prog 8 #[.int .i64 a0,.int .i64 a1,.int .i64 a2,v3,v4] w (IN.RetB true w):=by
 obtain⟨A,n,c,rfl,hn,S,hr,hc⟩:=w4;obtain⟨Al,nl,cl,rfl,hnl,vs,hvs⟩:=pick_lane w3;have hz0:=i64_rng w0;have hz1:=i64_rng w1;have hz2:=i64_rng w2
 by_cases hok:¬a0 < 0/\¬6 < a0/\¬a1 < 0/\¬1000 < a1/\¬a2 < 0/\¬1000 < a2/\¬200 < (n:Int)/\¬300 < (nl:Int)
 . obtain⟨q0,q1,q2,q3,q4,q5,q6,q7⟩:=hok;obtain⟨kd,rfl⟩:∃m:Nat,a0=(m:Int):=⟨a0.toNat,by omega⟩;obtain⟨mo,rfl⟩:∃m:Nat,a1=(m:Int):=⟨a1.toNat,by omega⟩;obtain⟨le,rfl⟩:∃m:Nat,a2=(m:Int):=⟨a2.toNat,by omega⟩;obtain⟨hv1,hv2⟩:=hvs (by omega);subst hv1;exact IN.instShrinks_main kd mo le vs Al cl A n c w S (by omega) (by omega) (by omega) (by omega) (by omega) hv2 ⟨hr,hc⟩ hl
 . have PW:=Lib.hid (show(decide (a0 < 0)=true)\/(decide (a0 < 0)=false/\decide (6 < a0)=true)\/(decide (a0 < 0)=false/\decide (6 < a0)=false/\decide (a1 < 0)=true)\/(decide (a0 < 0)=false/\decide (6 < a0)=false/\decide (a1 < 0)=false/\decide (1000 < a1)=true)\/(decide (a0 < 0)=false/\decide (6 < a0)=false/\decide (a1 < 0)=false/\decide (1000 < a1)=false/\decide (a2 < 0)=true)\/(decide (a0 < 0)=false/\decide (6 < a0)=false/\decide (a1 < 0)=false/\decide (1000 < a1)=false/\decide (a2 < 0)=false/\decide (1000 < a2)=true)\/(decide (a0 < 0)=false/\decide (6 < a0)=false/\decide (a1 < 0)=false/\decide (1000 < a1)=false/\decide (a2 < 0)=false/\decide (1000 < a2)=false/\decide (200 < (n:Int))=true)\/(decide (a0 < 0)=false/\decide (6 < a0)=false/\decide (a1 < 0)=false/\decide (1000 < a1)=false/\decide (a2 < 0)=false/\decide (1000 < a2)=false/\decide (200 < (n:Int))=false/\decide (300 < (nl:Int))=true) from by
    by_cases p0:decide (a0 < 0)=true
    . exact Or.inl p0
    rw[Bool.not_eq_true] at p0
    by_cases p1:decide (6 < a0)=true
    . exact Or.inr (Or.inl ⟨p0,p1⟩)
    rw[Bool.not_eq_true] at p1
    by_cases p2:decide (a1 < 0)=true
    . exact Or.inr (Or.inr (Or.inl ⟨p0,p1,p2⟩))
    rw[Bool.not_eq_true] at p2
    by_cases p3:decide (1000 < a1)=true
    . exact Or.inr (Or.inr (Or.inr (Or.inl ⟨p0,p1,p2,p3⟩)))
    rw[Bool.not_eq_true] at p3
    by_cases p4:decide (a2 < 0)=true
    . exact Or.inr (Or.inr (Or.inr (Or.inr (Or.inl ⟨p0,p1,p2,p3,p4⟩))))
    rw[Bool.not_eq_true] at p4
    by_cases p5:decide (1000 < a2)=true
    . exact Or.inr (Or.inr (Or.inr (Or.inr (Or.inr (Or.inl ⟨p0,p1,p2,p3,p4,p5⟩)))))
    rw[Bool.not_eq_true] at p5
    by_cases p6:decide (200 < (n:Int))=true
    . exact Or.inr (Or.inr (Or.inr (Or.inr (Or.inr (Or.inr (Or.inl ⟨p0,p1,p2,p3,p4,p5,p6⟩))))))
    rw[Bool.not_eq_true] at p6
    by_cases p7:decide (300 < (nl:Int))=true
    . exact Or.inr (Or.inr (Or.inr (Or.inr (Or.inr (Or.inr (Or.inr (⟨p0,p1,p2,p3,p4,p5,p6,p7⟩)))))))
    rw[Bool.not_eq_true] at p7;exact absurd ⟨of_decide_eq_false p0,of_decide_eq_false p1,of_decide_eq_false p2,of_decide_eq_false p3,of_decide_eq_false p4,of_decide_eq_false p5,of_decide_eq_false p6,of_decide_eq_false p7⟩ hok)
   have AW:=Lib.hid (IN.awake_i w hl);unfold maxLen at hn hnl;clear hr hc hok hl hvs hz0 hz1 hz2 w0 w1 w2 w3;rcases PW.out with e0|⟨e0,e1⟩|⟨e0,e1,e2⟩|⟨e0,e1,e2,e3⟩|⟨e0,e1,e2,e3,e4⟩|⟨e0,e1,e2,e3,e4,e5⟩|⟨e0,e1,e2,e3,e4,e5,e6⟩|⟨e0,e1,e2,e3,e4,e5,e6,e7⟩
   all_goals
    clear PW;go_enter Tryz.func8,Tryz.ntmps8;go_wp2_with fail
    refine AW.out.mono ?_;rintro e w0 ⟨rfl,hb0⟩;have b0:=Lib.hid hb0;clear hb0;go_wp2_with fail
    go_ret;exact⟨rfl,b0.out⟩
namespace LInstShrinks
set_option maxRecDepth 100000 in
theorem lifted(os:Os)(started:os.Started)(H:Type)(enc:TypeId × Value->H):
 ReturnsInHanded {} Tryz.checked os 8 .any (λw args=>(Rows.instShrinksSpec.pre enc Tryz.prog Tryz.f8 [] false w args/\laidMetH Tryz.prog seatLaid w)/\sizedMet enc Tryz.prog Tryz.f8 (OpenSpec.ofChange Rows.instShrinksSpec) false w args)
  (Rows.instShrinksSpec.post enc Tryz.prog Tryz.f8 false true false false):=by
 refine returnsInHanded_of_change_and (C:=Tryz.checked) (X:=λw _=>laidMetH Tryz.prog seatLaid w) (λ_ _ _ hh h=>h.of_heap hh) own started (by kernel_rfl) Tryz.func8
  (ChangeSpec.witness_at (enc:=enc) (C:=Tryz.checked) (os:=os) (X:=λw _=>laidMetH Tryz.prog seatLaid w) false (laidWorld os) #[.int .i64 0,.int .i64 0,.int .i64 0,.slice none 0 0,.slice none 0 0] 8 rfl (by kernel_rfl) (by kernel_rfl) (by kernel_rfl) (by kernel_rfl) (by kernel_rfl) (laidWorld_met os _)) ?_
 intro W base args ds gs before hval0 hW _ _ hL _;have hval:∀(j:Nat) t v,Tryz.f8.params[j]?=some t->args[j]?=some v->Value.okWide Tryz.prog W .any base t v:=hval0
 have hW':=hW;obtain⟨p,q,hA0,hV,rfl,hfz,hnd⟩:=hW;have hA:DataW.TrodAll enc Tryz.prog W 0 (λ_=>true) true Tryz.f8.params.toList args.toList ds p:=hA0;rw[Tryz.params8] at hA hval;obtain⟨v0,vs0,d0,ds0,p0,q0,hargs,rfl,rfl,h0,r0⟩:=trodAll_cons hA;obtain⟨v1,vs1,d1,ds1,p1,q1,rfl,rfl,rfl,h1,r1⟩:=trodAll_cons r0;obtain⟨v2,vs2,d2,ds2,p2,q2,rfl,rfl,rfl,h2,r2⟩:=trodAll_cons r1;obtain⟨v3,vs3,d3,ds3,p3,q3,rfl,rfl,rfl,h3,r3⟩:=trodAll_cons r2;obtain⟨v4,vs4,d4,ds4,p4,q4,rfl,rfl,rfl,h4,r4⟩:=trodAll_cons r3;obtain⟨rfl,rfl,rfl⟩:=trodAll_nil r4;obtain rfl:args= #[v0,v1,v2,v3,v4]:=by cases args;simp_all
 obtain⟨rfl,rfl⟩:=trodVars_none hV;obtain⟨a0,rfl,rfl,rfl,w0⟩:=open_int Tryz.underlying3 (hval 0 3 v0 rfl rfl) h0;obtain⟨a1,rfl,rfl,rfl,w1⟩:=open_int Tryz.underlying3 (hval 1 3 v1 rfl rfl) h1;obtain⟨a2,rfl,rfl,rfl,w2⟩:=open_int Tryz.underlying3 (hval 2 3 v2 rfl rfl) h2;have k3:=h3;have lt3:∀x∈p3,x.block < W.heap.size:=by obtain⟨m,hm⟩:=k3;exact DataW.trod_lt m _ _ _ hm
 have w3:=open_r (hval 3 22 v3 rfl rfl) h3;have k4:=h4;have lt4:∀x∈p4,x.block < W.heap.size:=by obtain⟨m,hm⟩:=k4;exact DataW.trod_lt m _ _ _ hm
 have w4:=open_z (hval 4 23 v4 rfl rfl) h4;clear hA0 hval0;refine(walk_instShrinks a0 a1 a2 v3 v4 W w0 w1 w2 w3 w4 (laid_of hL)).mono λe W' ⟨he,bel⟩=>?_;subst he;exact⟨_,rfl,_,_,_,[],_,[],hW',trodAll_mk1 (shut_bool Tryz.underlying4 _),(trodAll_cons_mk (shut_int Tryz.underlying3 w0) (trodAll_cons_mk (shut_int Tryz.underlying3 w1) (trodAll_cons_mk (shut_int Tryz.underlying3 w2) (trodAll_cons_mk (Below.trod laidOut (by kernel_rfl) (of_decide_eq_true (by kernel_rfl)) k3 bel lt3) (trodAll_cons_mk (Below.trod laidOut (by kernel_rfl) (of_decide_eq_true (by kernel_rfl)) k4 bel lt4) trodAll_mk0))))),rfl,bel.frame _,λh=>by cases h⟩
theorem band{x y:Bool}(h:x=true)(k:y=true):(x&&y)=true:=by rw[h,k];rfl
set_option maxRecDepth 100000
theorem cj0:(Rows.instShrinksRow.wf (OpenSpec.ofChange Rows.instShrinksSpec))=true:=by kernel_rfl
theorem cj1:(laidOutB Tryz.pinned.checked.prog)=true:=by kernel_rfl
theorem cj2:(mapsRowed Tryz.pinned.checked.prog)=true:=by kernel_rfl
theorem cj9:(Rows.instShrinksRow.inPlace==Tryz.pinned.checked.prog.inPlace 8)=true:=by kernel_rfl
theorem cj10:(Rows.instShrinksRow.unfollowed==Tryz.pinned.checked.prog.unfollowed 8)=true:=by kernel_rfl
theorem cj11:(Rows.instShrinksRow.recurses==Tryz.pinned.checked.prog.recurses 8)=true:=by kernel_rfl
theorem cj12:(Rows.instShrinksRow.named==Tryz.pinned.checked.prog.varsNamed 8)=true:=by kernel_rfl
theorem cj22:(Rows.instShrinksRow.plainKeys==Tryz.pinned.checked.prog.plainKeys)=true:=by kernel_rfl
theorem cj24:(Tryz.pinned.checked.prog.stopsHeard)=true:=by kernel_rfl
theorem cj25:(Tryz.pinned.checked.prog.mayEnter)=true:=by kernel_rfl
theorem cj26:(Rows.instShrinksRow.lifted==Tryz.pinned.checked.prog.liftsFinal)=true:=by kernel_rfl
theorem cj27:(Tryz.pinned.checked.prog.make==some Rows.instShrinksRow.make)=true:=by kernel_rfl
theorem closed:joinedFacts Tryz.pinned.checked.prog 8 Tryz.f8 Rows.instShrinksSpec Rows.instShrinksRow=true:=by
 unfold joinedFacts;exact band (band (band (band (band (band (band (band (band (band (band (band (band (band (band (band (band (band (band (band (band (band (band (band (band (band (band (band (band (band (band (cj0) cj1) cj2) (by kernel_rfl)) (by kernel_rfl)) (by kernel_rfl)) (by kernel_rfl)) (by kernel_rfl)) (by kernel_rfl)) cj9) cj10) cj11) cj12) (by kernel_rfl)) (by kernel_rfl)) (by kernel_rfl)) (by kernel_rfl)) (by kernel_rfl)) (by kernel_rfl)) (by kernel_rfl)) (by kernel_rfl)) (by kernel_rfl)) cj22) (by kernel_rfl)) cj24) cj25) cj26) cj27) (by kernel_rfl)) (by kernel_rfl)) (by kernel_rfl)) (by kernel_rfl)
theorem fnm:Tryz.pinned.checked.prog.funcNamed "cachewise/cachewiselaw11.InstShrinks" =some 8:=by kernel_rfl
theorem isIn:Tryz.f8.isInstance Tryz.pinned.checked.prog Rows.instShrinksRow.origin Rows.instShrinksRow.targs:=of_decide_eq_true (by kernel_rfl)
theorem isWr:Tryz.f8.isWrapper Tryz.pinned.checked.prog Rows.instShrinksRow.wrapper Rows.instShrinksRow.mainSum:=by unfold Func.isWrapper;rw[if_neg (of_decide_eq_false (by kernel_rfl))];exact⟨rfl,rfl⟩
theorem said:Rows.InstShrinksSaid:=
 OpenClaim.holds_of_wide 8 Tryz.f8 rfl rfl rfl rfl rfl rfl rfl ⟨rfl,rfl,rfl,rfl,rfl⟩ rfl rfl rfl rfl rfl fnm Tryz.func8 closed isIn isWr
  (λos started H enc _=>lifted os started H enc)
theorem hwT:Rows.instShrinksRow.wfByText (OpenSpec.ofChange Rows.instShrinksSpec)=true:=by kernel_rfl
theorem mnI:Tryz.pinned.checked.prog.mainIs=some (Rows.instShrinksCard.stood.harness.1,Rows.instShrinksCard.stood.harness.2.toList):=by kernel_rfl
theorem lkT:Rows.instShrinksCard.stood.looks=Tryz.pinned.checked.prog.looks []:=by kernel_rfl
theorem gsB:false=Rows.instShrinksRow.goesBy Tryz.pinned.checked.prog:=by kernel_rfl
theorem sii:Tryz.prog.wantsStandIn 3=false:=by kernel_rfl
theorem sir:Tryz.prog.wantsStandIn 22=false:=by kernel_rfl
theorem siz:Tryz.prog.wantsStandIn 23=false:=by kernel_rfl
theorem card:Rows.InstShrinksCardSaid:=
 Claim7.holds_tied_plain_at .later [] _ _ _ _ said (λ_ h=>by cases h) hwT (λ_ h=>by cases h) instShrinks_row_tie rfl ⟨rfl,rfl⟩ mnI rfl
  (λf fn hf hfn=>by
    obtain rfl:f=8:=Option.some.inj (fnm.symm.trans hf) |>.symm;obtain rfl:fn=Tryz.f8:=(Option.some.inj (Tryz.func8.symm.trans hfn)).symm;refine⟨lkT,λj t ht=>?_⟩;rw[Tryz.params8] at ht;rcases j with _|_|_|_|_|j
    . obtain rfl:t=3:=by simpa using ht.symm
      exact sii
    . obtain rfl:t=3:=by simpa using ht.symm
      exact sii
    . obtain rfl:t=3:=by simpa using ht.symm
      exact sii
    . obtain rfl:t=22:=by simpa using ht.symm
      exact sir
    . obtain rfl:t=23:=by simpa using ht.symm
      exact siz
    . simp at ht)
  gsB
#print axioms card
end LInstShrinks
end Go.Proofs.YtbbogjhapeogeaaGreatDoor
