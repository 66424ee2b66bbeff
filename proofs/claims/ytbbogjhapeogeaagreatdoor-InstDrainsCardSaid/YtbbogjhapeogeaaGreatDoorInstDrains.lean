/- 'cachewiselaw11.InstDrains' returns true for every kind, every size, every lane and every row of keys, and leaves what was there as it was. The listed variables read as the program's text lays them. -/
import Derived.Test.YtbbogjhapeogeaaGreatDoorYd
import Derived.Test.YtbbogjhapeogeaaGreatDoorCards
import Derived.Test.YtbbogjhapeogeaaGreatDoorTie
import Derived.SevenTiedAt
import Derived.Deep.DeepCutAuto
import Derived.Deep.CutBlock
set_option maxRecDepth 20000
namespace Go.Proofs.YtbbogjhapeogeaaGreatDoor.IN
open Go.ChangeShapes Go.WideShapes Go.ChangeAt Go.RowKit Sg
set_option maxHeartbeats 8000000 in
set_option maxRecDepth 100000 in
theorem instDrains_main(kd:Nat)(mo:Nat)(vs:List Nat)(Al:Option Addr)(cl:Nat)(A:Option Addr)(n cc:Nat)(w:World)(S:Nat->ByteArray)(hkd:kd < 7)(hlo:1<=mo)(hmo:mo<=1000)(hn:n<=200)(hvl:vs.length<=300)
 (hv:DR.Lane w 0 w.heap.size (.slice Al vs.length cl) vs) (hk:KRow w A n cc S) (hl:Laid w/\Named w):
 Calls Tryz.prog 6 #[.int .i64 (kd:Int),.int .i64 (mo:Int),.slice Al vs.length cl,.slice A n cc] w (RetB true w):=by
 have AW:=Lib.hid (awake_i w hl);have TP:=Lib.hid (tape_of hv);have NW:=Lib.hid (λ(w1:World) (B E:Nat) (hT:DR.Tape w1 B E [vs])=>new_i w1 kd mo B E [vs] hkd (by omega) hT);have KD:=Lib.hid hkd;have g0:decide ((kd:Int) < 0)=false:=decide_eq_false (by omega);have g1:decide (6 < (kd:Int))=false:=decide_eq_false (by omega);have g2:decide ((mo:Int) < 1)=false:=decide_eq_false (by omega);have g3:decide (1000 < (mo:Int))=false:=decide_eq_false (by omega);have g4:decide (200 < (n:Int))=false:=decide_eq_false (by omega);have g5:decide (300 < (vs.length:Int))=false:=decide_eq_false (by omega);have KR:=Lib.hid hk;have HN:=Lib.hid hn;have HM:=Lib.hid hmo;generalize hvn:vs.length=vn at*;clear hk hl hv hkd hvn hn;clear hlo;go_enter Tryz.func6,Tryz.ntmps6;go_wp2_with fail
 refine AW.out.mono ?_;rintro e w0 ⟨rfl,hb0⟩;have b0:=Lib.hid hb0;clear hb0;go_wp2_with fail
 refine(TP.out w0 b0.out).mono ?_;rintro e w1 ⟨B,rfl,hT,hB0,hB⟩;have T1:=Lib.hid (And.intro hT (And.intro hB0 hB));clear hT hB0 hB TP AW;go_wp2_with fail
 refine Calls.mono (show Calls Tryz.prog 11 #[.int .i64 (kd:Int),.int .i64 (mo:Int),.pointer (some ⟨B+1,0,none⟩),.int .i64 0] w1 (INew kd mo (DR.lget [vs] 0) B w1) from NW.out w1 B _ T1.out.1) ?_;rintro e w2 ⟨x,U,rfl,hC,hU,hB⟩;have L1:=Lib.hid (made_i b0.out T1.out.2.1 T1.out.2.2 hC hU hB);have K0:=Lib.hid (ISt.start_kind KD.out mo (DR.lget [vs] 0));generalize ISt.start kd mo (DR.lget [vs] 0)=s0 at*;clear hC hU hB b0 T1 NW;go_wp2_with fail
 clear g0 g1 g2 g3 g4 g5;go_loopw [11] (λi W=>IFill w x mo n i W) (λi _=>n - (intOf i).toNat)
 case atStart=>exact⟨0,U,s0,0,rfl,Nat.zero_le _,Nat.le_refl _,L1.out,K0.out.2.1⟩
 case round=>
  obtain⟨k,T,s,h,rfl,hk,hh,hL,hm⟩:=hrel;have HL:=Lib.hid hL;have SM:=Lib.hid hm;clear hL L1 hm K0
  by_cases hlt:k < n
  . have e0:decide (k < n)=true:=by simpa using hlt
    have hn2:=HN.out;obtain⟨g,o,rfl,hg,hc1,hc2,hcell⟩:=KR.out.2 (by omega);have h1:=(HL.out.bel.cell (p:=⟨g,o+k,none⟩) hg).trans (hcell k hlt);have HSK:=Lib.hid (KR.out.1 k hlt);clear hcell;unfold maxLen at hc2;have U:=Lib.hid (request_i wr x T s k h (4*k) HL.out.ca (S k) HSK.out (by omega) (by omega) (by omega));go_wp2_with fail
    refine U.out.mono ?_;intro e w4 hp;obtain⟨rfl,hF⟩:=IFill.next hlt hh HL.out SM.out hp
    have FIN:=Lib.hid hF;clear hp hF U HL;generalize s.step (S k)=sv;go_wp2_with fail
    go_roundw
    case rel=>exact FIN.out
    case measure=>simp[intOf] <;> omega
  . have e0:decide (k < n)=false:=by simpa using hlt
    obtain rfl:k=n:=by omega
    clear hlt hk;have hn2:=HN.out;obtain⟨q,hq⟩:∃y,y=s.keys.length:=⟨_,rfl⟩;have hqm:q<=1000:=by rw[hq];have:=ISt.le HL.out.ca.ok;have:=SM.out;have:=HM.out;omega
    have HQ:=Lib.hid hq;clear hq;go_wp2_with fail
    refine(keys_i wr x T s _ _ _ HL.out.ca).mono ?_;rintro e w2 ⟨v2,rfl,hO,hB⟩;obtain⟨A2,c2,rfl⟩:=hO.len;have M2:=Lib.hid (IL.mine hO HL.out.ca);have L2:=Lib.hid (HL.out.below hB);rw[← HQ.out] at M2|-;clear hO hB HL;go_wp2_with fail
    refine(ghosts_i w2 x T s _ _ _ L2.out.ca).mono ?_;rintro e w3 ⟨v3,rfl,hO,hB⟩;obtain⟨A3,c3,rfl⟩:=hO.len;have R3:=Lib.hid (show IR2 w w3 x T s _ _ _ (.slice A2 q c2) s.keys (.slice A3 s.ghosts.length c3) s.ghosts from⟨L2.out.below hB,M2.out.below hB,IL.mine hO L2.out.ca⟩);generalize s.ghosts.length=gl at*;clear hO hB L2 M2;go_wp2_with fail
    go_loopw [14] (λi W=>∃(j:Nat) (T:Nat->Prop) (t:ISt),i= .int .i64 (j:Int)/\j<=q/\IR2 w W x T t k h (4*k) (.slice A2 q c2) s.keys (.slice A3 gl c3) s.ghosts/\IDrp s t j) (λi _=>q - (intOf i).toNat)
    case atStart=>exact⟨0,T,s,rfl,Nat.zero_le _,R3.out,IDrp.refl s⟩
    case round=>
     obtain⟨j,T5,t,rfl,hj,hR,hD⟩:=hrel;have R5:=Lib.hid hR;have D5:=Lib.hid hD;clear hR hD R3
     by_cases hlt2:j < q
     . have e1:decide (j < q)=true:=by simpa using hlt2
       obtain⟨d1,d2,d3,d4⟩:=IDrp.next D5.out R5.out.lv.ca.ok (by rw[← HQ.out];exact hlt2)
       have D6:=Lib.hid (And.intro d1 (And.intro d3 d4));have VS:=Lib.hid (show t.vic.size<=maxLen from by obtain⟨g,hr⟩:=R5.out.ra.row;exact hr.2.1 _ d3);have V:=victim_i wr x T5 t _ _ _ R5.out.lv.ca;rw[d2] at V
       replace V:=Lib.hid V
       have DD:=λ(w1:World) (hb:Below wr.heap.size wr w1)=>drop_i w1 x T5 t _ _ _ (R5.out.lv.below hb).ca;rw[d2] at DD
       replace DD:=Lib.hid DD
       clear d1 d2 d3 d4;have hlen:=D6.out.1.len;rw[← HQ.out] at hlen;obtain⟨m,hm⟩:∃y,y=t.dr.keys.length:=⟨_,rfl⟩;rw[← hm] at hlen;have HM2:=Lib.hid hm;have hw1:IntKind.i64.wrap ((q:Int) - (j:Int))=(q:Int) - (j:Int):=IntWalk.i64_in _ (by omega);have hw2:IntKind.i64.wrap ((q:Int) - (j:Int) - 1)=(m:Int):=by rw[IntWalk.i64_in _ (by omega)];omega
       have HLEN:=Lib.hid hlen;clear hm hlen;go_wp2_with fail
       refine V.out.mono ?_;rintro e w6 ⟨rfl,hB⟩;have B6:=Lib.hid hB;have R6:=Lib.hid (R5.out.below hB);clear hB V;generalize hvk:t.vic=vk at*;clear hvk;go_wp2_with fail
       refine(DD.out w6 B6.out).mono ?_;intro e w7 hp;obtain⟨rfl,T7,hR7,_⟩:=R6.out.op hp;have R7:=Lib.hid hR7;clear hp hR7 R6 R5 B6 DD;generalize t.dr=t2 at*;have VA:=has_i w7 x T7 t2 _ _ _ R7.out.lv.ca vk VS.out;rw[D6.out.2.2] at VA
       replace VA:=Lib.hid VA
       go_wp2_with fail
       refine VA.out.mono ?_;rintro e w8 ⟨rfl,hB⟩;have R8:=Lib.hid (R7.out.below hB);clear hB VA R7
       have VH:=Lib.hid (show Calls Tryz.prog 16 #[.slice A2 q c2,.string vk] w8 (BoolPost true w8) from by
        obtain⟨g,hr⟩:=R8.out.ra.row;have:=refHas_any w8 g _ _ vk hr;rw[inn_iff.2 D6.out.2.1] at this;exact this)
       go_wp2_with fail
       refine VH.out.mono ?_;rintro e wx ⟨rfl,rfl⟩;clear VH;go_wp2_with fail
       refine Calls.mono (show Calls Tryz.prog 18 #[.pointer (some ⟨x,0,none⟩)] w8 (Told (.int .i64 (m:Int)) w8) from by
        have:=len_i w8 x T7 t2 _ _ _ R8.out.lv.ca;rw[← HM2.out] at this;exact this) ?_
       rintro e w9 ⟨rfl,hB⟩;have R9:=Lib.hid (R8.out.below hB);clear hB R8;go_wp2_with fail
       go_roundw
       case rel=>exact⟨j+1,T7,t2,by go_num,by omega,R9.out,D6.out.1⟩
       case measure=>simp[intOf] <;> omega
     . have e1:decide (j < q)=false:=by simpa using hlt2
       obtain rfl:j=q:=by omega
       have LA:=IDrp.last (HQ.out▸D5.out) R5.out.lv.ca.ok;have DD:=drop_i wr x T5 t _ _ _ R5.out.lv.ca;rw[LA.1] at DD
       replace DD:=Lib.hid DD
       have LG:=Lib.hid LA.2;clear LA hlt2 hj;generalize t.vic=vk at*;go_wp2_with fail
       refine DD.out.mono ?_;intro e w7 hp;obtain⟨rfl,T7,hR7,_⟩:=R5.out.op hp;have R7:=Lib.hid hR7;clear hp hR7 R5 DD D5;generalize t.dr=t2 at*;go_wp2_with fail
       refine(ghosts_i w7 x T7 t2 _ _ _ R7.out.lv.ca).mono ?_;rintro e w8 ⟨v8,rfl,hO,hB⟩;obtain⟨g8,_,hr8⟩:=hO.row;rw[LG.out] at hr8
       have VH:=Lib.hid (show Calls Tryz.prog 20 #[v8,.slice A3 gl c3] w8 (SamePost true w8) from by
        obtain⟨g,hr⟩:=(R7.out.rb.below hB).row;have:=refSame_any w8 g8 g _ _ _ _ hr8 hr;rw[decide_eq_true rfl] at this;exact this)
       have L8:=Lib.hid (R7.out.lv.below hB);clear hO hB hr8 R7;go_wp2_with fail
       refine VH.out.mono ?_;intro e w9 hq;obtain⟨rfl,hB⟩:=same_below hq;have L9:=Lib.hid (L8.out.below hB);clear hq hB L8 VH;go_wp2_with fail
       go_ret;exact⟨rfl,L9.out.bel⟩
end Go.Proofs.YtbbogjhapeogeaaGreatDoor.IN
namespace Go.Proofs.YtbbogjhapeogeaaGreatDoor
open Go.ChangeShapes Go.WideShapes Go.ChangeAt Go.RowKit Sg
open Go.ChangeMaps (open_string shut_string)
theorem walk_instDrains(a0:Int)(a1:Int)(v2:Value)(v3:Value)(w:World)(w0:(Lit.int .i64 a0).wf=true)(w1:(Lit.int .i64 a1).wf=true)(w2:CameR w v2)(w3:CameS w v3)(hl:Laid w/\Named w):Calls Tryz.prog 6 #[.int .i64 a0,.int .i64 a1,v2,v3] w (IN.RetB true w):=by
 obtain⟨A,n,c,rfl,hn,S,hr,hc⟩:=w3;obtain⟨Al,nl,cl,rfl,hnl,vs,hvs⟩:=pick_lane w2;have hz0:=i64_rng w0;have hz1:=i64_rng w1
 by_cases hok:¬a0 < 0/\¬6 < a0/\¬a1 < 1/\¬1000 < a1/\¬200 < (n:Int)/\¬300 < (nl:Int)
 . obtain⟨q0,q1,q2,q3,q4,q5⟩:=hok;obtain⟨kd,rfl⟩:∃m:Nat,a0=(m:Int):=⟨a0.toNat,by omega⟩;obtain⟨mo,rfl⟩:∃m:Nat,a1=(m:Int):=⟨a1.toNat,by omega⟩;obtain⟨hv1,hv2⟩:=hvs (by omega);subst hv1;exact IN.instDrains_main kd mo vs Al cl A n c w S (by omega) (by omega) (by omega) (by omega) (by omega) hv2 ⟨hr,hc⟩ hl
 . have PW:=Lib.hid (show(decide (a0 < 0)=true)\/(decide (a0 < 0)=false/\decide (6 < a0)=true)\/(decide (a0 < 0)=false/\decide (6 < a0)=false/\decide (a1 < 1)=true)\/(decide (a0 < 0)=false/\decide (6 < a0)=false/\decide (a1 < 1)=false/\decide (1000 < a1)=true)\/(decide (a0 < 0)=false/\decide (6 < a0)=false/\decide (a1 < 1)=false/\decide (1000 < a1)=false/\decide (200 < (n:Int))=true)\/(decide (a0 < 0)=false/\decide (6 < a0)=false/\decide (a1 < 1)=false/\decide (1000 < a1)=false/\decide (200 < (n:Int))=false/\decide (300 < (nl:Int))=true) from by
    by_cases p0:decide (a0 < 0)=true
    . exact Or.inl p0
    rw[Bool.not_eq_true] at p0
    by_cases p1:decide (6 < a0)=true
    . exact Or.inr (Or.inl ⟨p0,p1⟩)
    rw[Bool.not_eq_true] at p1
    by_cases p2:decide (a1 < 1)=true
    . exact Or.inr (Or.inr (Or.inl ⟨p0,p1,p2⟩))
    rw[Bool.not_eq_true] at p2
    by_cases p3:decide (1000 < a1)=true
    . exact Or.inr (Or.inr (Or.inr (Or.inl ⟨p0,p1,p2,p3⟩)))
    rw[Bool.not_eq_true] at p3
    by_cases p4:decide (200 < (n:Int))=true
    . exact Or.inr (Or.inr (Or.inr (Or.inr (Or.inl ⟨p0,p1,p2,p3,p4⟩))))
    rw[Bool.not_eq_true] at p4
    by_cases p5:decide (300 < (nl:Int))=true
    . exact Or.inr (Or.inr (Or.inr (Or.inr (Or.inr (⟨p0,p1,p2,p3,p4,p5⟩)))))
    rw[Bool.not_eq_true] at p5;exact absurd ⟨of_decide_eq_false p0,of_decide_eq_false p1,of_decide_eq_false p2,of_decide_eq_false p3,of_decide_eq_false p4,of_decide_eq_false p5⟩ hok)
   have AW:=Lib.hid (IN.awake_i w hl);unfold maxLen at hn hnl;clear hr hc hok hl hvs hz0 hz1 w0 w1 w2;rcases PW.out with e0|⟨e0,e1⟩|⟨e0,e1,e2⟩|⟨e0,e1,e2,e3⟩|⟨e0,e1,e2,e3,e4⟩|⟨e0,e1,e2,e3,e4,e5⟩
   all_goals
    clear PW;go_enter Tryz.func6,Tryz.ntmps6;go_wp2_with fail
    refine AW.out.mono ?_;rintro e w0 ⟨rfl,hb0⟩;have b0:=Lib.hid hb0;clear hb0;go_wp2_with fail
    go_ret;exact⟨rfl,b0.out⟩
namespace LInstDrains
set_option maxRecDepth 100000 in
theorem lifted(os:Os)(started:os.Started)(H:Type)(enc:TypeId × Value->H):
 ReturnsInHanded {} Tryz.checked os 6 .any (λw args=>(Rows.instDrainsSpec.pre enc Tryz.prog Tryz.f6 [] false w args/\laidMetH Tryz.prog seatLaid w)/\sizedMet enc Tryz.prog Tryz.f6 (OpenSpec.ofChange Rows.instDrainsSpec) false w args)
  (Rows.instDrainsSpec.post enc Tryz.prog Tryz.f6 false true false false):=by
 refine returnsInHanded_of_change_and (C:=Tryz.checked) (X:=λw _=>laidMetH Tryz.prog seatLaid w) (λ_ _ _ hh h=>h.of_heap hh) own started (by kernel_rfl) Tryz.func6
  (ChangeSpec.witness_at (enc:=enc) (C:=Tryz.checked) (os:=os) (X:=λw _=>laidMetH Tryz.prog seatLaid w) false (laidWorld os) #[.int .i64 0,.int .i64 0,.slice none 0 0,.slice none 0 0] 8 rfl (by kernel_rfl) (by kernel_rfl) (by kernel_rfl) (by kernel_rfl) (by kernel_rfl) (laidWorld_met os _)) ?_
 intro W base args ds gs before hval0 hW _ _ hL _;have hval:∀(j:Nat) t v,Tryz.f6.params[j]?=some t->args[j]?=some v->Value.okWide Tryz.prog W .any base t v:=hval0
 have hW':=hW;obtain⟨p,q,hA0,hV,rfl,hfz,hnd⟩:=hW;have hA:DataW.TrodAll enc Tryz.prog W 0 (λ_=>true) true Tryz.f6.params.toList args.toList ds p:=hA0;rw[Tryz.params6] at hA hval;obtain⟨v0,vs0,d0,ds0,p0,q0,hargs,rfl,rfl,h0,r0⟩:=trodAll_cons hA;obtain⟨v1,vs1,d1,ds1,p1,q1,rfl,rfl,rfl,h1,r1⟩:=trodAll_cons r0;obtain⟨v2,vs2,d2,ds2,p2,q2,rfl,rfl,rfl,h2,r2⟩:=trodAll_cons r1;obtain⟨v3,vs3,d3,ds3,p3,q3,rfl,rfl,rfl,h3,r3⟩:=trodAll_cons r2;obtain⟨rfl,rfl,rfl⟩:=trodAll_nil r3;obtain rfl:args= #[v0,v1,v2,v3]:=by cases args;simp_all
 obtain⟨rfl,rfl⟩:=trodVars_none hV;obtain⟨a0,rfl,rfl,rfl,w0⟩:=open_int Tryz.underlying3 (hval 0 3 v0 rfl rfl) h0;obtain⟨a1,rfl,rfl,rfl,w1⟩:=open_int Tryz.underlying3 (hval 1 3 v1 rfl rfl) h1;have k2:=h2;have lt2:∀x∈p2,x.block < W.heap.size:=by obtain⟨m,hm⟩:=k2;exact DataW.trod_lt m _ _ _ hm
 have w2:=open_r (hval 2 22 v2 rfl rfl) h2;have k3:=h3;have lt3:∀x∈p3,x.block < W.heap.size:=by obtain⟨m,hm⟩:=k3;exact DataW.trod_lt m _ _ _ hm
 have w3:=open_z (hval 3 23 v3 rfl rfl) h3;clear hA0 hval0;refine(walk_instDrains a0 a1 v2 v3 W w0 w1 w2 w3 (laid_of hL)).mono λe W' ⟨he,bel⟩=>?_;subst he;exact⟨_,rfl,_,_,_,[],_,[],hW',trodAll_mk1 (shut_bool Tryz.underlying4 _),(trodAll_cons_mk (shut_int Tryz.underlying3 w0) (trodAll_cons_mk (shut_int Tryz.underlying3 w1) (trodAll_cons_mk (Below.trod laidOut (by kernel_rfl) (of_decide_eq_true (by kernel_rfl)) k2 bel lt2) (trodAll_cons_mk (Below.trod laidOut (by kernel_rfl) (of_decide_eq_true (by kernel_rfl)) k3 bel lt3) trodAll_mk0)))),rfl,bel.frame _,λh=>by cases h⟩
theorem band{x y:Bool}(h:x=true)(k:y=true):(x&&y)=true:=by rw[h,k];rfl
set_option maxRecDepth 100000
theorem cj0:(Rows.instDrainsRow.wf (OpenSpec.ofChange Rows.instDrainsSpec))=true:=by kernel_rfl
theorem cj1:(laidOutB Tryz.pinned.checked.prog)=true:=by kernel_rfl
theorem cj2:(mapsRowed Tryz.pinned.checked.prog)=true:=by kernel_rfl
theorem cj9:(Rows.instDrainsRow.inPlace==Tryz.pinned.checked.prog.inPlace 6)=true:=by kernel_rfl
theorem cj10:(Rows.instDrainsRow.unfollowed==Tryz.pinned.checked.prog.unfollowed 6)=true:=by kernel_rfl
theorem cj11:(Rows.instDrainsRow.recurses==Tryz.pinned.checked.prog.recurses 6)=true:=by kernel_rfl
theorem cj12:(Rows.instDrainsRow.named==Tryz.pinned.checked.prog.varsNamed 6)=true:=by kernel_rfl
theorem cj22:(Rows.instDrainsRow.plainKeys==Tryz.pinned.checked.prog.plainKeys)=true:=by kernel_rfl
theorem cj24:(Tryz.pinned.checked.prog.stopsHeard)=true:=by kernel_rfl
theorem cj25:(Tryz.pinned.checked.prog.mayEnter)=true:=by kernel_rfl
theorem cj26:(Rows.instDrainsRow.lifted==Tryz.pinned.checked.prog.liftsFinal)=true:=by kernel_rfl
theorem cj27:(Tryz.pinned.checked.prog.make==some Rows.instDrainsRow.make)=true:=by kernel_rfl
theorem closed:joinedFacts Tryz.pinned.checked.prog 6 Tryz.f6 Rows.instDrainsSpec Rows.instDrainsRow=true:=by
 unfold joinedFacts;exact band (band (band (band (band (band (band (band (band (band (band (band (band (band (band (band (band (band (band (band (band (band (band (band (band (band (band (band (band (band (band (cj0) cj1) cj2) (by kernel_rfl)) (by kernel_rfl)) (by kernel_rfl)) (by kernel_rfl)) (by kernel_rfl)) (by kernel_rfl)) cj9) cj10) cj11) cj12) (by kernel_rfl)) (by kernel_rfl)) (by kernel_rfl)) (by kernel_rfl)) (by kernel_rfl)) (by kernel_rfl)) (by kernel_rfl)) (by kernel_rfl)) (by kernel_rfl)) cj22) (by kernel_rfl)) cj24) cj25) cj26) cj27) (by kernel_rfl)) (by kernel_rfl)) (by kernel_rfl)) (by kernel_rfl)
theorem fnm:Tryz.pinned.checked.prog.funcNamed "cachewise/cachewiselaw11.InstDrains" =some 6:=by kernel_rfl
theorem isIn:Tryz.f6.isInstance Tryz.pinned.checked.prog Rows.instDrainsRow.origin Rows.instDrainsRow.targs:=of_decide_eq_true (by kernel_rfl)
theorem isWr:Tryz.f6.isWrapper Tryz.pinned.checked.prog Rows.instDrainsRow.wrapper Rows.instDrainsRow.mainSum:=by unfold Func.isWrapper;rw[if_neg (of_decide_eq_false (by kernel_rfl))];exact⟨rfl,rfl⟩
theorem said:Rows.InstDrainsSaid:=
 OpenClaim.holds_of_wide 6 Tryz.f6 rfl rfl rfl rfl rfl rfl rfl ⟨rfl,rfl,rfl,rfl,rfl⟩ rfl rfl rfl rfl rfl fnm Tryz.func6 closed isIn isWr
  (λos started H enc _=>lifted os started H enc)
theorem hwT:Rows.instDrainsRow.wfByText (OpenSpec.ofChange Rows.instDrainsSpec)=true:=by kernel_rfl
theorem mnI:Tryz.pinned.checked.prog.mainIs=some (Rows.instDrainsCard.stood.harness.1,Rows.instDrainsCard.stood.harness.2.toList):=by kernel_rfl
theorem lkT:Rows.instDrainsCard.stood.looks=Tryz.pinned.checked.prog.looks []:=by kernel_rfl
theorem gsB:false=Rows.instDrainsRow.goesBy Tryz.pinned.checked.prog:=by kernel_rfl
theorem sii:Tryz.prog.wantsStandIn 3=false:=by kernel_rfl
theorem sir:Tryz.prog.wantsStandIn 22=false:=by kernel_rfl
theorem siz:Tryz.prog.wantsStandIn 23=false:=by kernel_rfl
theorem card:Rows.InstDrainsCardSaid:=
 Claim7.holds_tied_plain_at .later [] _ _ _ _ said (λ_ h=>by cases h) hwT (λ_ h=>by cases h) instDrains_row_tie rfl ⟨rfl,rfl⟩ mnI rfl
  (λf fn hf hfn=>by
    obtain rfl:f=6:=Option.some.inj (fnm.symm.trans hf) |>.symm;obtain rfl:fn=Tryz.f6:=(Option.some.inj (Tryz.func6.symm.trans hfn)).symm;refine⟨lkT,λj t ht=>?_⟩;rw[Tryz.params6] at ht;rcases j with _|_|_|_|j
    . obtain rfl:t=3:=by simpa using ht.symm
      exact sii
    . obtain rfl:t=3:=by simpa using ht.symm
      exact sii
    . obtain rfl:t=22:=by simpa using ht.symm
      exact sir
    . obtain rfl:t=23:=by simpa using ht.symm
      exact siz
    . simp at ht)
  gsB
#print axioms card
end LInstDrains
end Go.Proofs.YtbbogjhapeogeaaGreatDoor
