/- 'cachewiselaw11.InstAdopts' returns true for every kind, every size, every lane and every row of keys, and leaves what was there as it was. The listed variables read as the program's text lays them. -/
import Derived.Test.YtbbogjhapeogeaaGreatDoorYd
import Derived.Test.YtbbogjhapeogeaaGreatDoorCards
import Derived.Test.YtbbogjhapeogeaaGreatDoorTie
import Derived.SevenTiedAt
import Derived.Deep.DeepCutAuto
import Derived.Deep.CutBlock
set_option maxRecDepth 20000
namespace Go.Proofs.YtbbogjhapeogeaaGreatDoor.IN
open Go.ChangeShapes Go.WideShapes Go.ChangeAt Go.RowKit Sg
def IAd(w0:World)(x mo n:Nat)(a i:Value)(W:World):Prop:=∃(k:Nat) (T:Nat->Prop) (s:ISt) (m h:Nat),i= .int .i64 (k:Int)/\a= .int .i64 (m:Int)/\k<=n/\m<=k/\h<=m/\IL w0 W x T s m h (4*k)/\s.mo=mo
theorem ad_facts{s:ISt}{mo n1:Nat}{key:ByteArray}(h:s.Ok)(hm:s.mo=mo)(hn:n1=s.keys.length):(s.has key=true/\s.adB key=false/\(s.ad key).keys.length=n1)\/(s.has key=false/\¬n1 < mo/\s.adB key=false/\(s.ad key).keys.length=n1)\/(s.has key=false/\n1 < mo/\s.adB key=true/\(s.ad key).has key=true/\(s.ad key).keys.length=n1+1):=by
 have f:=ISt.ad_f h key;have e:=f.adE;rw[hm,<-hn] at e;have e:s.adB key=(!s.has key&&decide (n1 < mo)):=e;have l:=f.len;rw[← hn] at l;cases hh:s.has key with
 |true=>
  rw[hh] at e;have e:s.adB key=false:=e;rw[e] at l;exact Or.inl ⟨rfl,e,l⟩
 |false=>
  rw[hh] at e
  by_cases hr:n1 < mo
  . rw[decide_eq_true hr] at e;have e:s.adB key=true:=e;rw[e] at l;exact Or.inr (Or.inr ⟨rfl,hr,e,inn_iff.2 ((f.mem key).2 (Or.inr ⟨e,rfl⟩)),l⟩)
  . rw[decide_eq_false hr] at e;have e:s.adB key=false:=e;rw[e] at l;exact Or.inr (Or.inl ⟨rfl,hr,e,l⟩)
set_option maxHeartbeats 8000000 in
set_option maxRecDepth 100000 in
theorem instAdopts_main(kd:Nat)(mo:Nat)(vs:List Nat)(Al:Option Addr)(cl:Nat)(A:Option Addr)(n cc:Nat)(w:World)(S:Nat->ByteArray)(hkd:kd < 7)(hmo:mo<=1000)(hn:n<=200)(hvl:vs.length<=300)
 (hv:DR.Lane w 0 w.heap.size (.slice Al vs.length cl) vs) (hk:KRow w A n cc S) (hl:Laid w/\Named w):
 Calls Tryz.prog 7 #[.int .i64 (kd:Int),.int .i64 (mo:Int),.slice Al vs.length cl,.slice A n cc] w (RetB true w):=by
 have AW:=Lib.hid (awake_i w hl);have TP:=Lib.hid (tape_of hv);have NW:=Lib.hid (λ(w1:World) (B E:Nat) (hT:DR.Tape w1 B E [vs])=>new_i w1 kd mo B E [vs] hkd (by omega) hT);have KD:=Lib.hid hkd;have g0:decide ((kd:Int) < 0)=false:=decide_eq_false (by omega);have g1:decide (6 < (kd:Int))=false:=decide_eq_false (by omega);have g2:decide ((mo:Int) < 0)=false:=decide_eq_false (by omega);have g3:decide (1000 < (mo:Int))=false:=decide_eq_false (by omega);have g4:decide (200 < (n:Int))=false:=decide_eq_false (by omega);have g5:decide (300 < (vs.length:Int))=false:=decide_eq_false (by omega);have KR:=Lib.hid hk;have HN:=Lib.hid hn;have HM:=Lib.hid hmo;generalize hvn:vs.length=vn at*;clear hk hl hv hkd hvn hn;go_enter Tryz.func7,Tryz.ntmps7;go_wp2_with fail
 refine AW.out.mono ?_;rintro e w0 ⟨rfl,hb0⟩;have b0:=Lib.hid hb0;clear hb0;go_wp2_with fail
 refine(TP.out w0 b0.out).mono ?_;rintro e w1 ⟨B,rfl,hT,hB0,hB⟩;have T1:=Lib.hid (And.intro hT (And.intro hB0 hB));clear hT hB0 hB TP AW;go_wp2_with fail
 refine Calls.mono (show Calls Tryz.prog 11 #[.int .i64 (kd:Int),.int .i64 (mo:Int),.pointer (some ⟨B+1,0,none⟩),.int .i64 0] w1 (INew kd mo (DR.lget [vs] 0) B w1) from NW.out w1 B _ T1.out.1) ?_;rintro e w2 ⟨x,U,rfl,hC,hU,hB⟩;have L1:=Lib.hid (made_i b0.out T1.out.2.1 T1.out.2.2 hC hU hB);have K0:=Lib.hid (ISt.start_kind KD.out mo (DR.lget [vs] 0));generalize ISt.start kd mo (DR.lget [vs] 0)=s0 at*;clear hC hU hB b0 T1 NW;go_wp2_with fail
 clear g0 g1 g2 g3 g4 g5;go_loopw [11,12] (λa i W=>IAd w x mo n a i W) (λ_ i _=>n - (intOf i).toNat)
 case atStart=>exact⟨0,U,s0,0,0,rfl,rfl,Nat.zero_le _,Nat.le_refl _,Nat.le_refl _,L1.out,K0.out.2.1⟩
 case round=>
  obtain⟨k,T,s,m,h,rfl,rfl,hk,hmk,hh,hL,hm⟩:=hrel;have HL:=Lib.hid hL;have SM:=Lib.hid hm;clear hL L1 hm K0;have hn2:=HN.out;have hmo2:=HM.out
  by_cases hlt:k < n
  . have e0:decide (k < n)=true:=by simpa using hlt
    obtain⟨g,o,rfl,hg,hc1,hc2,hcell⟩:=KR.out.2 (by omega);have h1:=(HL.out.bel.cell (p:=⟨g,o+k,none⟩) hg).trans (hcell k hlt);have HC1:=Lib.hid (And.intro hg (hcell k hlt));have HSK:=Lib.hid (KR.out.1 k hlt);clear hcell hg;unfold maxLen at hc2;generalize S k=key at*;obtain⟨p,hp⟩:∃p,p=k % 2:=⟨_,rfl⟩;have hp2:p=0\/p=1:=by omega
    have t1:(k:Int).tmod 2=(p:Int):=by rw[hp,Int.tmod_eq_emod_of_nonneg (by omega)];rfl
    have t2:IntKind.i64.wrap (p:Int)=(p:Int):=IntWalk.i64_in _ (by omega);clear hp;rcases hp2 with rfl|rfl
    . have U:=Lib.hid (request_i wr x T s m h (4*k) HL.out.ca key HSK.out (by omega) (by omega) (by omega));have hw1:IntKind.i64.wrap ((m:Int)+1)=((m+1:Nat):Int):=by rw[IntWalk.i64_in _ (by omega)];rfl
      generalize hm1:m+1=m1 at*;go_wp2_with fail
      refine U.out.mono ?_;intro e w4 hp;obtain⟨rfl,T4,hL4,_⟩:=HL.out.op hp;have FIN:=Lib.hid (show IAd w x mo n (.int .i64 (m1:Int)) (.int .i64 ((k:Int)+1)) w4 from⟨k+1,T4,s.req key,m1,_,by go_num,rfl,by omega,by omega,by split <;> omega,hL4,(ISt.mo_req s key).trans SM.out⟩);clear hp hL4 U HL h1 hm1;generalize s.step key=sv;go_wp2_with fail
      go_roundw
      case rel=>exact FIN.out
      case measure=>simp[intOf] <;> omega
    . obtain⟨n1,hn1⟩:∃y,y=s.keys.length:=⟨_,rfl⟩;have hn1m:n1<=mo:=by rw[hn1,<-SM.out];exact ISt.le HL.out.ca.ok
      have WAY:=Lib.hid (ad_facts (key:=key) HL.out.ca.ok SM.out hn1);obtain⟨was,hwas⟩:∃y,y=s.has key:=⟨_,rfl⟩;obtain⟨ab,hab⟩:∃y,y=s.adB key:=⟨_,rfl⟩;have V1:=Lib.hid (λ(w1:World) (hb:Below wr.heap.size wr w1)=>has_i w1 x T s _ _ _ (HL.out.below hb).ca key HSK.out);have V2:=Lib.hid (λ(w1:World) (hb:Below wr.heap.size wr w1)=>len_i w1 x T s _ _ _ (HL.out.below hb).ca);rw[← hwas] at V1 WAY;rw[← hn1] at V2;have AD:=Lib.hid (λ(w1:World) (hb:Below wr.heap.size wr w1)=>adopt_i w1 x T s _ _ _ (HL.out.below hb).ca key HSK.out (by omega));rw[← hab] at AD WAY;have KEY:=Lib.hid (λ(w1:World) (hb:Below wr.heap.size wr w1)=>show w1.cell? ⟨g,o+k,none⟩=some (.string key) from((HL.out.below hb).bel.cell (p:=⟨g,o+k,none⟩) HC1.out.1).trans HC1.out.2);have MA:=Lib.hid ((ISt.mo_ad s key).trans SM.out);clear hn1 hwas hab SM;rcases WAY.out with⟨rfl,rfl,hl⟩|⟨rfl,hr,rfl,hl⟩|⟨rfl,hr,rfl,hkk,hl⟩
      . have HLL:=Lib.hid hl;clear hl WAY;go_wp2_with fail
        refine(V1.out _ (Below.refl _ _)).mono ?_;rintro e w2 ⟨rfl,hB⟩;have B2:=Lib.hid hB;clear hB;go_wp2_with fail
        refine(V2.out _ B2.out).mono ?_;rintro e w4 ⟨rfl,hB⟩;have B4:=Lib.hid (B2.out.trans (hB.mono B2.out.size));have hkey:=KEY.out _ B4.out;clear hB B2 h1;go_wp2_with fail
        refine(AD.out _ B4.out).mono ?_;intro e w5 hp;obtain⟨rfl,T5,hL5,_⟩:=(HL.out.below B4.out).op hp;have L5:=Lib.hid hL5;have hkey5:=(hL5.bel.cell (p:=⟨g,o+k,none⟩) HC1.out.1).trans HC1.out.2;clear hp hL5 AD V1 V2 KEY B4 hkey HL;generalize s.ad key=s2 at*;have L6:=L5;clear L5;have VL:=len_i w5 x T5 s2 _ _ _ L6.out.ca;rw[HLL.out] at VL
        replace VL:=Lib.hid VL
        go_wp2_with fail
        refine VL.out.mono ?_;rintro e w7 ⟨rfl,hB⟩;have L7:=Lib.hid (L6.out.below hB);clear hB L6 VL;go_wp2_with fail
        go_roundw
        case rel=>exact⟨k+1,T5,s2,m,h,by go_num,rfl,by omega,by omega,by omega,⟨L7.out.ca.mono (by omega),L7.out.bel,L7.out.low⟩,MA.out⟩
        case measure=>simp[intOf] <;> omega
      . have HLL:=Lib.hid hl;clear hl WAY;have q1:decide ((n1:Int) < (mo:Int))=false:=decide_eq_false (by omega);have q2:decide (n1 < mo)=false:=decide_eq_false hr;clear hr;go_wp2_with fail
        refine(V1.out _ (Below.refl _ _)).mono ?_;rintro e w2 ⟨rfl,hB⟩;have B2:=Lib.hid hB;clear hB;go_wp2_with fail
        refine(V2.out _ B2.out).mono ?_;rintro e w3 ⟨rfl,hB⟩;have B3:=Lib.hid (B2.out.trans (hB.mono B2.out.size));clear hB B2;go_wp2_with fail
        refine(V2.out _ B3.out).mono ?_;rintro e w4 ⟨rfl,hB⟩;have B4:=Lib.hid (B3.out.trans (hB.mono B3.out.size));have hkey:=KEY.out _ B4.out;clear hB B3 h1;go_wp2_with fail
        refine(AD.out _ B4.out).mono ?_;intro e w5 hp;obtain⟨rfl,T5,hL5,_⟩:=(HL.out.below B4.out).op hp;have L5:=Lib.hid hL5;have hkey5:=(hL5.bel.cell (p:=⟨g,o+k,none⟩) HC1.out.1).trans HC1.out.2;clear hp hL5 AD V1 V2 KEY B4 hkey HL;generalize s.ad key=s2 at*;have L6:=L5;clear L5;have VL:=len_i w5 x T5 s2 _ _ _ L6.out.ca;rw[HLL.out] at VL
        replace VL:=Lib.hid VL
        go_wp2_with fail
        refine VL.out.mono ?_;rintro e w7 ⟨rfl,hB⟩;have L7:=Lib.hid (L6.out.below hB);clear hB L6 VL;go_wp2_with fail
        go_roundw
        case rel=>exact⟨k+1,T5,s2,m,h,by go_num,rfl,by omega,by omega,by omega,⟨L7.out.ca.mono (by omega),L7.out.bel,L7.out.low⟩,MA.out⟩
        case measure=>simp[intOf] <;> omega
      . have HLL:=Lib.hid hl;clear hl WAY;have HKK:=Lib.hid hkk;clear hkk;have q1:decide ((n1:Int) < (mo:Int))=true:=decide_eq_true (by omega);have q2:decide (n1 < mo)=true:=decide_eq_true hr;clear hr;go_wp2_with fail
        refine(V1.out _ (Below.refl _ _)).mono ?_;rintro e w2 ⟨rfl,hB⟩;have B2:=Lib.hid hB;clear hB;go_wp2_with fail
        refine(V2.out _ B2.out).mono ?_;rintro e w3 ⟨rfl,hB⟩;have B3:=Lib.hid (B2.out.trans (hB.mono B2.out.size));clear hB B2;go_wp2_with fail
        refine(V2.out _ B3.out).mono ?_;rintro e w4 ⟨rfl,hB⟩;have B4:=Lib.hid (B3.out.trans (hB.mono B3.out.size));have hkey:=KEY.out _ B4.out;clear hB B3 h1;go_wp2_with fail
        refine(AD.out _ B4.out).mono ?_;intro e w5 hp;obtain⟨rfl,T5,hL5,_⟩:=(HL.out.below B4.out).op hp;have L5:=Lib.hid hL5;have hkey5:=(hL5.bel.cell (p:=⟨g,o+k,none⟩) HC1.out.1).trans HC1.out.2;clear hp hL5 AD V1 V2 KEY B4 hkey HL;generalize s.ad key=s2 at*;obtain⟨n3,hn3⟩:∃y,y=n1+1:=⟨_,rfl⟩;have hw1:IntKind.i64.wrap ((n1:Int)+1)=(n3:Int):=by rw[IntWalk.i64_in _ (by omega)];omega
        replace HLL:=Lib.hid (HLL.out.trans hn3.symm)
        clear hn3;have VH:=has_i w5 x T5 s2 _ _ _ L5.out.ca key HSK.out;rw[HKK.out] at VH
        replace VH:=Lib.hid VH
        go_wp2_with fail
        refine VH.out.mono ?_;rintro e w6 ⟨rfl,hB⟩;have L6:=Lib.hid (L5.out.below hB);clear hB L5 VH hkey5;have VL:=len_i w6 x T5 s2 _ _ _ L6.out.ca;rw[HLL.out] at VL
        replace VL:=Lib.hid VL
        go_wp2_with fail
        refine VL.out.mono ?_;rintro e w7 ⟨rfl,hB⟩;have L7:=Lib.hid (L6.out.below hB);clear hB L6 VL;go_wp2_with fail
        go_roundw
        case rel=>exact⟨k+1,T5,s2,m,h,by go_num,rfl,by omega,by omega,by omega,⟨L7.out.ca.mono (by omega),L7.out.bel,L7.out.low⟩,MA.out⟩
        case measure=>simp[intOf] <;> omega
  . have e0:decide (k < n)=false:=by simpa using hlt
    have V:=Lib.hid (count_i wr x T s _ _ _ HL.out.ca);have ee:((m:Int)==(m:Int))=true:=by simp
    go_wp2_with fail
    refine V.out.mono ?_;rintro e w4 ⟨rfl,hB⟩;have L4:=Lib.hid (HL.out.below hB);clear hB HL V;go_wp2_with fail
    go_ret;exact⟨rfl,L4.out.bel⟩
end Go.Proofs.YtbbogjhapeogeaaGreatDoor.IN
namespace Go.Proofs.YtbbogjhapeogeaaGreatDoor
open Go.ChangeShapes Go.WideShapes Go.ChangeAt Go.RowKit Sg
open Go.ChangeMaps (open_string shut_string)
theorem walk_instAdopts(a0:Int)(a1:Int)(v2:Value)(v3:Value)(w:World)(w0:(Lit.int .i64 a0).wf=true)(w1:(Lit.int .i64 a1).wf=true)(w2:CameR w v2)(w3:CameS w v3)(hl:Laid w/\Named w):Calls Tryz.prog 7 #[.int .i64 a0,.int .i64 a1,v2,v3] w (IN.RetB true w):=by
 obtain⟨A,n,c,rfl,hn,S,hr,hc⟩:=w3;obtain⟨Al,nl,cl,rfl,hnl,vs,hvs⟩:=pick_lane w2;have hz0:=i64_rng w0;have hz1:=i64_rng w1
 by_cases hok:¬a0 < 0/\¬6 < a0/\¬a1 < 0/\¬1000 < a1/\¬200 < (n:Int)/\¬300 < (nl:Int)
 . obtain⟨q0,q1,q2,q3,q4,q5⟩:=hok;obtain⟨kd,rfl⟩:∃m:Nat,a0=(m:Int):=⟨a0.toNat,by omega⟩;obtain⟨mo,rfl⟩:∃m:Nat,a1=(m:Int):=⟨a1.toNat,by omega⟩;obtain⟨hv1,hv2⟩:=hvs (by omega);subst hv1;exact IN.instAdopts_main kd mo vs Al cl A n c w S (by omega) (by omega) (by omega) (by omega) hv2 ⟨hr,hc⟩ hl
 . have PW:=Lib.hid (show(decide (a0 < 0)=true)\/(decide (a0 < 0)=false/\decide (6 < a0)=true)\/(decide (a0 < 0)=false/\decide (6 < a0)=false/\decide (a1 < 0)=true)\/(decide (a0 < 0)=false/\decide (6 < a0)=false/\decide (a1 < 0)=false/\decide (1000 < a1)=true)\/(decide (a0 < 0)=false/\decide (6 < a0)=false/\decide (a1 < 0)=false/\decide (1000 < a1)=false/\decide (200 < (n:Int))=true)\/(decide (a0 < 0)=false/\decide (6 < a0)=false/\decide (a1 < 0)=false/\decide (1000 < a1)=false/\decide (200 < (n:Int))=false/\decide (300 < (nl:Int))=true) from by
    by_cases p0:decide (a0 < 0)=true
    . exact Or.inl p0
    rw[Bool.not_eq_true] at p0
    by_cases p1:decide (6 < a0)=true
    . exact Or.inr (Or.inl ⟨p0,p1⟩)
    rw[Bool.not_eq_true] at p1
    by_cases p2:decide (a1 < 0)=true
    . exact Or.inr (Or.inr (Or.inl ⟨p0,p1,p2⟩))
    rw[Bool.not_eq_true] at p2
    by_cases p3:decide (1000 < a1)=true
    . exact Or.inr (Or.inr (Or.inr (Or.inl ⟨p0,p1,p2,p3⟩)))
    rw[Bool.not_eq_true] at p3
    by_cases p4:decide (200 < (n:Int))=true
    . exact Or.inr (Or.inr (Or.inr (Or.inr (Or.inl ⟨p0,p1,p2,p3,p4⟩))))
    rw[Bool.not_eq_true] at p4
    by_cases p5:decide (300 < (nl:Int))=true
    . exact Or.inr (Or.inr (Or.inr (Or.inr (Or.inr (⟨p0,p1,p2,p3,p4,p5⟩)))))
    rw[Bool.not_eq_true] at p5;exact absurd ⟨of_decide_eq_false p0,of_decide_eq_false p1,of_decide_eq_false p2,of_decide_eq_false p3,of_decide_eq_false p4,of_decide_eq_false p5⟩ hok)
   have AW:=Lib.hid (IN.awake_i w hl);unfold maxLen at hn hnl;clear hr hc hok hl hvs hz0 hz1 w0 w1 w2;rcases PW.out with e0|⟨e0,e1⟩|⟨e0,e1,e2⟩|⟨e0,e1,e2,e3⟩|⟨e0,e1,e2,e3,e4⟩|⟨e0,e1,e2,e3,e4,e5⟩
   all_goals
    clear PW;go_enter Tryz.func7,Tryz.ntmps7;go_wp2_with fail
    refine AW.out.mono ?_;rintro e w0 ⟨rfl,hb0⟩;have b0:=Lib.hid hb0;clear hb0;go_wp2_with fail
    go_ret;exact⟨rfl,b0.out⟩
namespace LInstAdopts
set_option maxRecDepth 100000 in
theorem lifted(os:Os)(started:os.Started)(H:Type)(enc:TypeId × Value->H):
 ReturnsInHanded {} Tryz.checked os 7 .any (λw args=>(Rows.instAdoptsSpec.pre enc Tryz.prog Tryz.f7 [] false w args/\laidMetH Tryz.prog seatLaid w)/\sizedMet enc Tryz.prog Tryz.f7 (OpenSpec.ofChange Rows.instAdoptsSpec) false w args)
  (Rows.instAdoptsSpec.post enc Tryz.prog Tryz.f7 false true false false):=by
 refine returnsInHanded_of_change_and (C:=Tryz.checked) (X:=λw _=>laidMetH Tryz.prog seatLaid w) (λ_ _ _ hh h=>h.of_heap hh) own started (by kernel_rfl) Tryz.func7
  (ChangeSpec.witness_at (enc:=enc) (C:=Tryz.checked) (os:=os) (X:=λw _=>laidMetH Tryz.prog seatLaid w) false (laidWorld os) #[.int .i64 0,.int .i64 0,.slice none 0 0,.slice none 0 0] 8 rfl (by kernel_rfl) (by kernel_rfl) (by kernel_rfl) (by kernel_rfl) (by kernel_rfl) (laidWorld_met os _)) ?_
 intro W base args ds gs before hval0 hW _ _ hL _;have hval:∀(j:Nat) t v,Tryz.f7.params[j]?=some t->args[j]?=some v->Value.okWide Tryz.prog W .any base t v:=hval0
 have hW':=hW;obtain⟨p,q,hA0,hV,rfl,hfz,hnd⟩:=hW;have hA:DataW.TrodAll enc Tryz.prog W 0 (λ_=>true) true Tryz.f7.params.toList args.toList ds p:=hA0;rw[Tryz.params7] at hA hval;obtain⟨v0,vs0,d0,ds0,p0,q0,hargs,rfl,rfl,h0,r0⟩:=trodAll_cons hA;obtain⟨v1,vs1,d1,ds1,p1,q1,rfl,rfl,rfl,h1,r1⟩:=trodAll_cons r0;obtain⟨v2,vs2,d2,ds2,p2,q2,rfl,rfl,rfl,h2,r2⟩:=trodAll_cons r1;obtain⟨v3,vs3,d3,ds3,p3,q3,rfl,rfl,rfl,h3,r3⟩:=trodAll_cons r2;obtain⟨rfl,rfl,rfl⟩:=trodAll_nil r3;obtain rfl:args= #[v0,v1,v2,v3]:=by cases args;simp_all
 obtain⟨rfl,rfl⟩:=trodVars_none hV;obtain⟨a0,rfl,rfl,rfl,w0⟩:=open_int Tryz.underlying3 (hval 0 3 v0 rfl rfl) h0;obtain⟨a1,rfl,rfl,rfl,w1⟩:=open_int Tryz.underlying3 (hval 1 3 v1 rfl rfl) h1;have k2:=h2;have lt2:∀x∈p2,x.block < W.heap.size:=by obtain⟨m,hm⟩:=k2;exact DataW.trod_lt m _ _ _ hm
 have w2:=open_r (hval 2 22 v2 rfl rfl) h2;have k3:=h3;have lt3:∀x∈p3,x.block < W.heap.size:=by obtain⟨m,hm⟩:=k3;exact DataW.trod_lt m _ _ _ hm
 have w3:=open_z (hval 3 23 v3 rfl rfl) h3;clear hA0 hval0;refine(walk_instAdopts a0 a1 v2 v3 W w0 w1 w2 w3 (laid_of hL)).mono λe W' ⟨he,bel⟩=>?_;subst he;exact⟨_,rfl,_,_,_,[],_,[],hW',trodAll_mk1 (shut_bool Tryz.underlying4 _),(trodAll_cons_mk (shut_int Tryz.underlying3 w0) (trodAll_cons_mk (shut_int Tryz.underlying3 w1) (trodAll_cons_mk (Below.trod laidOut (by kernel_rfl) (of_decide_eq_true (by kernel_rfl)) k2 bel lt2) (trodAll_cons_mk (Below.trod laidOut (by kernel_rfl) (of_decide_eq_true (by kernel_rfl)) k3 bel lt3) trodAll_mk0)))),rfl,bel.frame _,λh=>by cases h⟩
theorem band{x y:Bool}(h:x=true)(k:y=true):(x&&y)=true:=by rw[h,k];rfl
set_option maxRecDepth 100000
theorem cj0:(Rows.instAdoptsRow.wf (OpenSpec.ofChange Rows.instAdoptsSpec))=true:=by kernel_rfl
theorem cj1:(laidOutB Tryz.pinned.checked.prog)=true:=by kernel_rfl
theorem cj2:(mapsRowed Tryz.pinned.checked.prog)=true:=by kernel_rfl
theorem cj9:(Rows.instAdoptsRow.inPlace==Tryz.pinned.checked.prog.inPlace 7)=true:=by kernel_rfl
theorem cj10:(Rows.instAdoptsRow.unfollowed==Tryz.pinned.checked.prog.unfollowed 7)=true:=by kernel_rfl
theorem cj11:(Rows.instAdoptsRow.recurses==Tryz.pinned.checked.prog.recurses 7)=true:=by kernel_rfl
theorem cj12:(Rows.instAdoptsRow.named==Tryz.pinned.checked.prog.varsNamed 7)=true:=by kernel_rfl
theorem cj22:(Rows.instAdoptsRow.plainKeys==Tryz.pinned.checked.prog.plainKeys)=true:=by kernel_rfl
theorem cj24:(Tryz.pinned.checked.prog.stopsHeard)=true:=by kernel_rfl
theorem cj25:(Tryz.pinned.checked.prog.mayEnter)=true:=by kernel_rfl
theorem cj26:(Rows.instAdoptsRow.lifted==Tryz.pinned.checked.prog.liftsFinal)=true:=by kernel_rfl
theorem cj27:(Tryz.pinned.checked.prog.make==some Rows.instAdoptsRow.make)=true:=by kernel_rfl
theorem closed:joinedFacts Tryz.pinned.checked.prog 7 Tryz.f7 Rows.instAdoptsSpec Rows.instAdoptsRow=true:=by
 unfold joinedFacts;exact band (band (band (band (band (band (band (band (band (band (band (band (band (band (band (band (band (band (band (band (band (band (band (band (band (band (band (band (band (band (band (cj0) cj1) cj2) (by kernel_rfl)) (by kernel_rfl)) (by kernel_rfl)) (by kernel_rfl)) (by kernel_rfl)) (by kernel_rfl)) cj9) cj10) cj11) cj12) (by kernel_rfl)) (by kernel_rfl)) (by kernel_rfl)) (by kernel_rfl)) (by kernel_rfl)) (by kernel_rfl)) (by kernel_rfl)) (by kernel_rfl)) (by kernel_rfl)) cj22) (by kernel_rfl)) cj24) cj25) cj26) cj27) (by kernel_rfl)) (by kernel_rfl)) (by kernel_rfl)) (by kernel_rfl)
theorem fnm:Tryz.pinned.checked.prog.funcNamed "cachewise/cachewiselaw11.InstAdopts" =some 7:=by kernel_rfl
theorem isIn:Tryz.f7.isInstance Tryz.pinned.checked.prog Rows.instAdoptsRow.origin Rows.instAdoptsRow.targs:=of_decide_eq_true (by kernel_rfl)
theorem isWr:Tryz.f7.isWrapper Tryz.pinned.checked.prog Rows.instAdoptsRow.wrapper Rows.instAdoptsRow.mainSum:=by unfold Func.isWrapper;rw[if_neg (of_decide_eq_false (by kernel_rfl))];exact⟨rfl,rfl⟩
theorem said:Rows.InstAdoptsSaid:=
 OpenClaim.holds_of_wide 7 Tryz.f7 rfl rfl rfl rfl rfl rfl rfl ⟨rfl,rfl,rfl,rfl,rfl⟩ rfl rfl rfl rfl rfl fnm Tryz.func7 closed isIn isWr
  (λos started H enc _=>lifted os started H enc)
theorem hwT:Rows.instAdoptsRow.wfByText (OpenSpec.ofChange Rows.instAdoptsSpec)=true:=by kernel_rfl
theorem mnI:Tryz.pinned.checked.prog.mainIs=some (Rows.instAdoptsCard.stood.harness.1,Rows.instAdoptsCard.stood.harness.2.toList):=by kernel_rfl
theorem lkT:Rows.instAdoptsCard.stood.looks=Tryz.pinned.checked.prog.looks []:=by kernel_rfl
theorem gsB:false=Rows.instAdoptsRow.goesBy Tryz.pinned.checked.prog:=by kernel_rfl
theorem sii:Tryz.prog.wantsStandIn 3=false:=by kernel_rfl
theorem sir:Tryz.prog.wantsStandIn 22=false:=by kernel_rfl
theorem siz:Tryz.prog.wantsStandIn 23=false:=by kernel_rfl
theorem card:Rows.InstAdoptsCardSaid:=
 Claim7.holds_tied_plain_at .later [] _ _ _ _ said (λ_ h=>by cases h) hwT (λ_ h=>by cases h) instAdopts_row_tie rfl ⟨rfl,rfl⟩ mnI rfl
  (λf fn hf hfn=>by
    obtain rfl:f=7:=Option.some.inj (fnm.symm.trans hf) |>.symm;obtain rfl:fn=Tryz.f7:=(Option.some.inj (Tryz.func7.symm.trans hfn)).symm;refine⟨lkT,λj t ht=>?_⟩;rw[Tryz.params7] at ht;rcases j with _|_|_|_|j
    . obtain rfl:t=3:=by simpa using ht.symm
      exact sii
    . obtain rfl:t=3:=by simpa using ht.symm
      exact sii
    . obtain rfl:t=22:=by simpa using ht.symm
      exact sir
    . obtain rfl:t=23:=by simpa using ht.symm
      exact siz
    . simp at ht)
  gsB
#print axioms card
end LInstAdopts
end Go.Proofs.YtbbogjhapeogeaaGreatDoor
