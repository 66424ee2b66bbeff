/- 'cachewiselaw12.ShadowSamples' returns true for every size, every shift, every row of lanes and every row of keys, and leaves what was there as it was. The listed variables read as the program's text lays them. -/
import Derived.Test.YtdmmciggopmglaaGreatDoorYh
import Derived.Test.YtdmmciggopmglaaGreatDoorYd
import Derived.Test.YtdmmciggopmglaaGreatDoorHd
import Derived.Test.YtdmmciggopmglaaGreatDoorCards
import Derived.Test.YtdmmciggopmglaaGreatDoorTie
import Derived.SevenTiedAt
import Derived.Deep.DeepCutAuto
import Derived.Deep.CutBlock
import Derived.Deep.RegionHeld3
import Derived.Deep.RegionLaw
set_option maxRecDepth 20000
namespace Go.Proofs.YtdmmciggopmglaaGreatDoor.SW
open Go.Maps Go.ChangeShapes Go.WideShapes Go.ChangeAt Go.RowKit Sg IN HS
structure ShT(w0 W:World)(p:Nat)(X:Nat->Nat)(U:Nat->Nat->Prop)(B E:Nat)(L1:List (List Nat))(s:Sh)(b:Nat->Nat)(B2 E2:Nat)(L2:List (List Nat)):Prop where
 sh:ShL w0 W p X U B E L1 s b
 tp:DR.Tape W B2 E2 L2
 off:∀y,sblk p U B E y->¬tb B2 E2 y
 lo:w0.heap.size<=B2
section
variable{w0 W W':World}{p B E B2 E2 x xm bx bx':Nat}{X:Nat->Nat}{U:Nat->Nat->Prop}{L1 L2:List (List Nat)}{s s':Sh}{b c m1:Nat->Nat}{v:Value}{e:Ending}{V:Nat->Prop}{lane:Int}{st st':ISt}
theorem ShT.below(q:ShT w0 W p X U B E L1 s b B2 E2 L2)(hb:Below W.heap.size W W'):ShT w0 W' p X U B E L1 s b B2 E2 L2:=⟨q.sh.below hb,q.tp.below hb,q.off,q.lo⟩
theorem ShT.op(q:ShT w0 W p X U B E L1 s b B2 E2 L2)(hp:SPost v W p X U B E s' c e W'):e= .returned v/\∃U' M',ShT w0 W' p X U' B E M' s' c B2 E2 L2:=by
 obtain⟨he,U',M',h1,h2⟩:=q.sh.op hp;have hE:=q.tp.lt;refine⟨he,U',M',h1,q.tp.same h2.turn.size λk k1 k2=>h2.turn.block k (by omega) λg=>q.off k g ⟨k1,k2⟩,λy hy g=>?_,q.lo⟩;rcases h2.new y hy with h|h
 . exact q.off y h g
 . have:=g.2;omega
structure SmX(w0 W:World)(p:Nat)(X:Nat->Nat)(U:Nat->Nat->Prop)(B E:Nat)(L1:List (List Nat))(s:Sh)(b:Nat->Nat)(B2 E2:Nat)(L2:List (List Nat))(xm:Nat)(m1:Nat->Nat)(x:Nat)(V:Nat->Prop)(lane:Int)(st:ISt)(bx:Nat):Prop where
 t:ShT w0 W p X U B E L1 s b B2 E2 L2
 am:A7 W (λy=>sblk p U B E y\/tb B2 E2 y) xm m1
 ins:InS W x V B2 E2 L2 lane st bx
 vs:∀y,V y->¬sblk p U B E y/\y≠xm
 vlo:∀y,V y->w0.heap.size<=y
theorem SmX.below(q:SmX w0 W p X U B E L1 s b B2 E2 L2 xm m1 x V lane st bx)(hb:Below W.heap.size W W'):SmX w0 W' p X U B E L1 s b B2 E2 L2 xm m1 x V lane st bx:=⟨q.t.below hb,q.am.below hb,q.ins.below hb,q.vs,q.vlo⟩
theorem SmX.op(q:SmX w0 W p X U B E L1 s b B2 E2 L2 xm m1 x V lane st bx)(hp:ISP v W x V B2 E2 L2 lane st' bx' e W'):e= .returned v/\∃V' M',SmX w0 W' p X U B E L1 s b B2 E2 M' xm m1 x V' lane st' bx'/\∀j,j≠lane->DR.lget M' j=DR.lget L2 j:=by
 obtain⟨he,V',M',hi,hL,hW⟩:=hp;have hE:=q.t.tp.lt;have off:∀k,sblk p U B E k->¬un V B2 E2 k:=λk hk g=>g.elim (λg=>(q.vs k g).1 hk) (q.t.off k hk)
 have hV:∀y,V' y->V y\/W.heap.size<=y:=λy hy=>by
  rcases hW.new y (Or.inl hy) with(g|g)|g
  . exact Or.inl g
  . exact absurd g (hi.sep y hy)
  . exact Or.inr g
 have hlo:∀k,un V B2 E2 k->w0.heap.size<=k:=λk hk=>hk.elim (q.vlo k) λg=>Nat.le_trans q.t.lo g.1;have xo:¬un V B2 E2 xm:=λg=>g.elim (λg=>(q.vs xm g).2 rfl) (λg=>q.am.2 (Or.inr g));refine⟨he,V',M',⟨⟨⟨q.t.sh.ca.beside hW.turn off,q.t.sh.bel.trans (hW.turn.below hlo q.t.sh.bel.size),q.t.sh.low⟩,hi.tp,q.t.off,q.t.lo⟩,⟨(hW.turn.block xm (heap_lt q.am.1) xo).trans q.am.1,q.am.2⟩,hi,λy hy=>?_,λy hy=>?_⟩,hL⟩
 . rcases hV y hy with h|h
   . exact q.vs y h
   . exact⟨λg=>by have:=q.t.sh.lt y g;omega,λg=>by have:=heap_lt q.am.1;omega⟩
 . rcases hV y hy with h|h
   . exact q.vlo y h
   . have:=q.t.sh.bel.size;omega
end
set_option maxHeartbeats 8000000 in
set_option maxRecDepth 100000 in
theorem shadowSamples_main(w:World)(size:Nat)(sh:Nat)(Al:Option Addr)(nl cl:Nat)(V:Nat->Value)(L:List (List Nat))(A:Option Addr)(n cc:Nat)(S:Nat->ByteArray)(g0:¬((size:Int) < 0))(g1:¬(1000 < (size:Int)))(g2:¬((sh:Int) < 0))(g3:¬(16 < (sh:Int)))(hn:n<=maxLen)(hnl:nl<=maxLen)(hk:KRow w A n cc S)(hv:VRow w Al nl cl V)(hL:DR.Lanes w w.heap.size (.slice Al nl cl) L)(hf:FewB n nl S V)(hl:Laid w/\Named w):
 Calls Tryz.prog 3 #[.int .i64 (size:Int),.int .i64 (sh:Int),.slice Al nl cl,.slice A n cc] w (RetB true w):=by
 have AW:=Lib.hid (awake_any w hl.1);have FW:=Lib.hid (λw1 hb=>few_told (w:=w) hn hnl hk hv (fb:=true) ⟨λ_=>hf,λ_=>rfl⟩ w1 hb);have LN:DR.Lanes w w.heap.size (.slice Al nl cl) L:=hL;have TP:=Lib.hid (λ(w1:World) (hb:Below w.heap.size w w1)=>DR.newE_any _ _ w1 (lanes_below LN hb));have KR:=Lib.hid hk;have FB:=Lib.hid hf;have e0:decide ((size:Int) < 0)=false:=decide_eq_false g0;have e1:decide (1000 < (size:Int))=false:=decide_eq_false g1;have e2:decide ((sh:Int) < 0)=false:=decide_eq_false g2;have e3:decide (16 < (sh:Int))=false:=decide_eq_false g3;have SZ:=Lib.hid (show size<=1000/\sh<=16 from⟨by omega,by omega⟩);clear hk hl hf hn LN hv hL hnl g0 g1 g2 g3;go_enter Tryz.func3,Tryz.ntmps3;go_wp2_with fail
 refine AW.out.mono ?_;rintro e w0 ⟨rfl,hb0⟩;have b0:=Lib.hid hb0;clear hb0 AW;go_wp2_with fail
 refine(FW.out w0 b0.out).mono ?_;rintro e w1 ⟨rfl,hB⟩;have b1:=Lib.hid (b0.out.trans (hB.mono b0.out.size));clear hB b0 FW;go_wp2_with fail
 refine(TP.out w1 b1.out).mono ?_;rintro e w2 ⟨B,rfl,hT,hB0,hB⟩;have T1:=Lib.hid (And.intro hT (And.intro hB0 hB));clear hT hB0 hB;go_wp2_with fail
 refine Calls.mono (show Calls Tryz.prog 11 #[.int .i64 (size:Int),.int .i64 (sh:Int),.int .i64 1048576,.pointer (some ⟨B+1,0,none⟩)] w2 (SNew size sh 1048576 B w2.heap.size L w2) from new_any w2 size sh 1048576 B w2.heap.size L (by have:=SZ.out.1;omega) SZ.out.2 (by omega) (by omega) T1.out.1) ?_;rintro e w3 ⟨p,X,U,rfl,hC,hU,hB⟩;have L3:=Lib.hid (ShL.made b1.out T1.out.2.1 T1.out.2.2 hC hU hB);have b3:=Lib.hid (b1.out.trans ((T1.out.2.2.trans (hB.mono T1.out.2.2.size)).mono b1.out.size));generalize w2.heap.size=E at*;obtain⟨m,hm⟩:∃m,m=sml size sh:=⟨_,rfl⟩;rw[← hm] at L3
 have hmx:max (1:Int) ((size:Int) / 2 ^ sh)=(m:Int):=by
  rw[show((size:Int) / 2 ^ sh)=((size / 2 ^ sh:Nat):Int) by simp,hm];unfold sml;omega
 have HM:=Lib.hid (And.intro hmx (show m<=16777216 from by rw[hm];exact(sml_le sh (by have:=SZ.out.1;omega)).2));obtain⟨s0,hs0⟩:∃s,s=Sh.start sh 1048576 m L:=⟨_,rfl⟩
 have S0:=Lib.hid (show s0.shift=sh/\s0.left=1048576/\(∀k,s0.st k=ISt.start k m (DR.lget L (k:Int)))/\s0.mis=λ_=>0 from by
  rw[hs0];exact⟨rfl,rfl,λ_=>rfl,rfl⟩)
 rw[← hs0] at L3;clear hs0 hC hU hB T1 b1 hm hmx;go_wp2_with fail
 refine(TP.out w3 b3.out).mono ?_;rintro e w4 ⟨B2,rfl,hT,hB0,hB⟩;have L4:=Lib.hid (show ShT w w4 p X U B E L s0 (λ_=>0) B2 w4.heap.size L from⟨L3.out.below hB,hT,λy hy g=>by have:=L3.out.lt y hy;have:=g.1;omega,Nat.le_trans b3.out.size hB0⟩);clear hT hB0 hB L3 TP b3;generalize w4.heap.size=E2 at*;go_wp2_with fail
 go_loopw [12] (λi W=>∃(k:Nat) (U:Nat->Nat->Prop) (M:List (List Nat)),i= .int .i64 (k:Int)/\k<=n/\ShT w W p X U B E M (runS S k s0) (λ_=>4*k) B2 E2 L) (λi _=>n - (intOf i).toNat)
 case atStart=>exact⟨0,U,_,rfl,Nat.zero_le _,L4.out⟩
 case round=>
  obtain⟨j,U1,L1,rfl,hj,hR⟩:=hrel;have R:=Lib.hid hR;clear hR L4;have hn150:=FB.out.1;have GO:=Lib.hid (runS_go S j s0 (by rw[S0.out.2.1];omega))
  by_cases hlt:j < n
  . have e0:decide (j < n)=true:=by simpa using hlt
    obtain⟨g,o,rfl,hg,hc1,hc2,hcell⟩:=KR.out.2 (by omega);have h1:=(R.out.sh.bel.cell (p:=⟨g,o+j,none⟩) hg).trans (hcell j hlt);have hsz:=FB.out.2.2.1 j hlt;have V1:=request_any wr p X U1 B E L1 (runS S j s0) _ (S j) R.out.sh.ca (by omega) (by rw[GO.out.1,S0.out.2.1];omega) (λ_ _=>by show 4*j<=96800;omega);rw[decide_eq_false (by rw[GO.out.1,S0.out.2.1];omega)] at V1
    replace V1:=Lib.hid V1
    clear hcell hg hsz;unfold maxLen at hc2;obtain⟨kj,hkj⟩:∃y,y=S j:=⟨_,rfl⟩;rw[← hkj] at h1 V1;have HK:=Lib.hid hkj;clear hkj;go_wp2_with fail
    refine V1.out.mono ?_;intro e w5 hp;obtain⟨rfl,U5,L5,hR5⟩:=R.out.op hp
    have R5:=Lib.hid (show ShT w w5 p X U5 B E L5 (runS S (j+1) s0) (λ_=>4*(j+1)) B2 E2 L from by
     rw[HK.out] at hR5;exact⟨hR5.sh.mono (λ_ _=>by show 4*j+4<=4*(j+1);omega),hR5.tp,hR5.off,hR5.lo⟩)
    clear hp hR5 R V1 h1 GO;go_wp2_with fail
    go_roundw
    case rel=>exact⟨j+1,U5,L5,by go_num,by omega,R5.out⟩
    case measure=>simp[intOf] <;> omega
  . have e0:decide (j < n)=false:=by simpa using hlt
    obtain rfl:j=n:=by omega
    clear hlt hj;obtain⟨t,ht⟩:∃t,t=runS S j s0:=⟨_,rfl⟩
    have T0:=Lib.hid (show(∀k,t.st k=run1 sh S j (ISt.start k m (DR.lget L (k:Int))))/\∀k,t.mis k=cnt1 sh S j (ISt.start k m (DR.lget L (k:Int))) from by
     rw[ht];refine⟨λk=>?_,λk=>?_⟩
     . rw[runS_st,S0.out.1,S0.out.2.2.1]
     . rw[GO.out.2.2 k,S0.out.1,S0.out.2.2.1,S0.out.2.2.2];exact Nat.zero_add _)
    rw[← ht] at R;have V:=Lib.hid (misses_any wr p _ _ _ _ _ _ R.out.sh.ca.box);obtain⟨m1,hm1⟩:∃m,m=t.mis:=⟨_,rfl⟩;rw[← hm1] at V;have T0:=Lib.hid (And.intro T0.out.1 (show ∀k,m1 k=cnt1 sh S j (ISt.start k m (DR.lget L (k:Int))) from by rw[hm1];exact T0.out.2));clear ht hm1 GO S0;go_wp2_with fail
    refine V.out.mono ?_;rintro e wb ⟨rfl,hB⟩;have Lb:=Lib.hid (R.out.below hB);clear hB R V;obtain⟨b1,b2⟩:=laid7_box wb m1 (T:=λy=>sblk p U1 B E y\/tb B2 E2 y) (λy hy=>hy.elim (Lb.out.sh.lt y) λg=>by have:=Lb.out.tp.lt;have:=g.2;omega);obtain⟨wc,hwc⟩:∃q,q=laid7 wb m1:=⟨_,rfl⟩;rw[← hwc] at b1 b2;unfold laid7 at hwc;have LD:=Lib.hid (And.intro b1 (And.intro b2 hwc));clear b1 b2 hwc;unfold agg7;go_upto_region 15 with fail
    rw[← LD.out.2.2];have Lc:=Lib.hid (Lb.out.below LD.out.2.1);have AM:=Lib.hid LD.out.1;clear LD Lb;generalize wb.heap.size=xm at*;go_wp2_with fail
    go_loopw [14] (λv W=>∃(k:Nat) (M:List (List Nat)),v= .int .i64 (k:Int)/\k<=7/\ShT w W p X U1 B E L1 t (λ_=>4*j) B2 E2 M/\A7 W (λy=>sblk p U1 B E y\/tb B2 E2 y) xm m1/\∀i:Int,(k:Int)<=i->DR.lget M i=DR.lget L i) (λv _=>7 - (intOf v).toNat)
    case atStart=>exact⟨0,L,rfl,by omega,Lc.out,AM.out,λ_ _=>rfl⟩
    case round=>
     obtain⟨k,M,rfl,hk,hL,hA,hM⟩:=hrel;have L5:=Lib.hid (And.intro hL (And.intro hA hM));clear hL hA hM Lc AM
     by_cases hlt:k < 7
     . have e1:decide ((k:Int) < 7)=true:=decide_eq_true (by omega);have N1:=new_s wr k m B2 E2 M (k:Int) hlt HM.out.2 L5.out.1.tp;rw[← HM.out.1] at N1
       replace N1:=Lib.hid N1
       have s1:decide (64 < (sh:Int))=false:=decide_eq_false (by have:=SZ.out.2;omega);have s2:decide ((sh:Int) < 0)=false:=decide_eq_false (by omega);go_wp2_with fail
       rw[show min sh 64=sh by have:=SZ.out.2;omega];refine N1.out.mono ?_;rintro e w5 ⟨x,V,rfl,hI,hV,hB⟩;rw[L5.out.2.2 k (Int.le_refl _)] at hI;have Q:=Lib.hid (show SmX w w5 p X U1 B E L1 t (λ_=>4*j) B2 E2 M xm m1 x V (k:Int) (ISt.start k m (DR.lget L (k:Int))) 0 from⟨L5.out.1.below hB,L5.out.2.1.below hB,hI,λy hy=>⟨λg=>by have:=L5.out.1.sh.lt y g;have:=hV y hy;omega,λg=>by have:=heap_lt L5.out.2.1.1;have:=hV y hy;omega⟩,λy hy=>Nat.le_trans L5.out.1.sh.bel.size (hV y hy)⟩);have MM:=Lib.hid L5.out.2.2;have T1:=Lib.hid (And.intro (T0.out.1 k) (T0.out.2 k));obtain⟨x0,hx0⟩:∃x0,x0=ISt.start k m (DR.lget L (k:Int)):=⟨_,rfl⟩;rw[← hx0] at Q T1;have SAM:=Lib.hid (λ(key:ByteArray) (W:World) (hs:key.size<=500)=>smp_any key sh W hs SZ.out.2);clear hI hV hB L5 N1 s1 s2 hx0;go_wp2_with fail
       go_loopw [17,18] (λc i W=>∃(a:Nat) (V:Nat->Prop) (M2:List (List Nat)),i= .int .i64 (a:Int)/\a<=j/\c= .int .i64 (cnt1 sh S a x0:Int)/\SmX w W p X U1 B E L1 t (λ_=>4*j) B2 E2 M2 xm m1 x V (k:Int) (run1 sh S a x0) (4*a)/\∀i:Int,i≠(k:Int)->DR.lget M2 i=DR.lget M i) (λ_ i _=>j - (intOf i).toNat)
       case atStart=>exact⟨0,V,M,rfl,Nat.zero_le _,rfl,Q.out,λ_ _=>rfl⟩
       case round=>
        obtain⟨a,V1,M1,rfl,ha,rfl,hQ,hM1⟩:=hrel;have Q1:=Lib.hid (And.intro hQ hM1);clear hQ hM1 Q;have hj150:=FB.out.1
        by_cases hlt2:a < j
        . have e2:decide (a < j)=true:=by simpa using hlt2
          obtain⟨g,o,rfl,hg,hc1,hc2,hcell⟩:=KR.out.2 (by omega);have h1:=(Q1.out.1.t.sh.bel.cell (p:=⟨g,o+a,none⟩) hg).trans (hcell a hlt2);have h2:=λ(W:World) (hb:Below w.heap.size w W)=>(hb.cell (p:=⟨g,o+a,none⟩) hg).trans (hcell a hlt2);have hsz:=FB.out.2.2.1 a hlt2;unfold maxLen at hc2;obtain⟨kj,hkj⟩:∃y,y=S a:=⟨_,rfl⟩;rw[← hkj] at h1 hsz;have HK:=Lib.hid hkj;have HS:=Lib.hid hsz;obtain⟨c,hc⟩:∃c,c=cnt1 sh S a x0:=⟨_,rfl⟩;have hcb:=cnt1_le sh S a x0;rw[← hc] at hcb|-;have HC:=Lib.hid (And.intro hc hcb);clear hcell hg hsz hkj hc hcb h2;have SM:=Lib.hid (SAM.out kj wr (by have:=HS.out;omega));go_wp2_with fail
          refine SM.out.mono ?_;rintro e w6 ⟨rfl,hw⟩;rw[hw];clear hw SM;cases hq:smp kj sh with
          |false=>
           have NX:=Lib.hid (show cnt1 sh S (a+1) x0=c/\run1 sh S (a+1) x0=run1 sh S a x0 from by
            rw[HK.out] at hq;refine⟨?_,?_⟩
            . show cnt1 sh S a x0+(if smp (S a) sh=true/\(run1 sh S a x0).hitB (S a)=false then 1 else 0)=c;rw[hq,if_neg (by simp),HC.out.1];rfl
            . show(if smp (S a) sh=true then(run1 sh S a x0).req (S a) else run1 sh S a x0)=_;rw[hq,if_neg (by simp)])
           clear hq h1;go_wp2_with fail
           go_roundw
           case rel=>
            refine⟨a+1,V1,M1,by go_num,by omega,by rw[NX.out.1],?_,Q1.out.2⟩;rw[NX.out.2];exact⟨Q1.out.1.t,Q1.out.1.am,Q1.out.1.ins.mono (by omega),Q1.out.1.vs,Q1.out.1.vlo⟩
           case measure=>simp[intOf] <;> omega
          |true=>
           have U:=request_s wr x V1 B2 E2 M1 (k:Int) (run1 sh S a x0) (4*a) Q1.out.1.ins kj (by have:=HS.out;unfold maxLen;omega) (by omega);unfold ISt.step at U
           replace U:=Lib.hid U
           have NX:=Lib.hid (show cnt1 sh S (a+1) x0=c+(if(run1 sh S a x0).hitB kj=false then 1 else 0)/\run1 sh S (a+1) x0=(run1 sh S a x0).req kj from by
            rw[HK.out] at hq|-;refine⟨?_,?_⟩
            . show cnt1 sh S a x0+(if smp (S a) sh=true/\(run1 sh S a x0).hitB (S a)=false then 1 else 0)=_;rw[hq,HC.out.1];simp
            . show(if smp (S a) sh=true then(run1 sh S a x0).req (S a) else run1 sh S a x0)=_;rw[hq,if_pos rfl])
           have OP:=Lib.hid (λ(v:Value) (e:Ending) (w':World) (hp:ISP v wr x V1 B2 E2 M1 (k:Int) ((run1 sh S a x0).req kj) (4*a+4) e w')=>Q1.out.1.op hp);generalize(run1 sh S a x0).hitB kj=hit at*;generalize(run1 sh S a x0).vicV kj=vic at*;generalize(run1 sh S a x0).outB kj=out at*;have fld:=fieldH;have wr1:IntKind.i64.wrap ((c:Int)+1)=((c+1:Nat):Int):=by have:=HC.out.2;rw[IntWalk.i64_in _ (by omega)];rfl
           clear hq;go_wp2_with fail
           refine U.out.mono ?_;intro e w7 hp;obtain⟨rfl,V2,M2,hQ2,hM2⟩:=OP.out _ e w7 hp
           have Q2:=Lib.hid (show SmX w w7 p X U1 B E L1 t (λ_=>4*j) B2 E2 M2 xm m1 x V2 (k:Int) (run1 sh S (a+1) x0) (4*(a+1))/\∀i:Int,i≠(k:Int)->DR.lget M2 i=DR.lget M i from by
            rw[NX.out.2];exact⟨⟨hQ2.t,hQ2.am,hQ2.ins.mono (by omega),hQ2.vs,hQ2.vlo⟩,λi hi=>(hM2 i hi).trans (Q1.out.2 i hi)⟩)
           clear hp hQ2 hM2 OP U h1 Q1;cases hit with
           |true=>
            have NX:=Lib.hid (show cnt1 sh S (a+1) x0=c from by rw[NX.out.1];simp);go_wp2_with fail
            go_roundw
            case rel=>exact⟨a+1,V2,M2,by go_num,by omega,by rw[NX.out],Q2.out⟩
            case measure=>simp[intOf] <;> omega
           |false=>
            have NX2:=Lib.hid (show cnt1 sh S (a+1) x0=c+1 from NX.out.1.trans (by simp));clear NX;go_wp2_with fail
            go_roundw
            case rel=>exact⟨a+1,V2,M2,by go_num,by omega,by rw[NX2.out];go_num,Q2.out⟩
            case measure=>simp[intOf] <;> omega
        . have e2:decide (a < j)=false:=by simpa using hlt2
          obtain rfl:a=j:=by omega
          have c0:=Q1.out.1.am.cell hlt;rw[T1.out.2] at c0;have i0:=ix0 hlt xm;obtain⟨c,hc⟩:∃c,c=cnt1 sh S a x0:=⟨_,rfl⟩;rw[← hc] at c0|-;have e3:((c:Int) != (c:Int))=false:=by simp
          have V:=keys_any wr p X U1 B E L1 t _ Q1.out.1.t.sh.ca k hlt;rw[T1.out.1] at V
          replace V:=Lib.hid V
          clear hc;go_wp2_with fail
          refine V.out.mono ?_;rintro e w6 ⟨v6,rfl,hO,hB⟩;have Q2:=Lib.hid (And.intro (Q1.out.1.below hB) Q1.out.2);obtain⟨g6,_,hr6⟩:=hO.row;have V2:=Lib.hid (keys_s w6 x V1 B2 E2 M1 (k:Int) (run1 sh S a x0) (4*a) Q2.out.1.ins);have R6:=Lib.hid hr6;clear hO hB hr6 V c0 Q1;go_wp2_with fail
          refine V2.out.mono ?_;rintro e w7 ⟨v7,rfl,hO,hB⟩;have Q3:=Lib.hid (And.intro (Q2.out.1.below hB) Q2.out.2);obtain⟨g7,_,hr7⟩:=hO.row
          have SMC:=Lib.hid (show Calls Tryz.prog 18 #[v6,v7] w7 (SamePost true w7) from by
           have:=refSame_any _ _ _ _ _ _ _ (R6.out.below hB) hr7;rw[decide_eq_true rfl] at this;exact this)
          clear hO hB hr7 V2 Q2;go_wp2_with fail
          refine SMC.out.mono ?_;intro e w8 hp;obtain⟨rfl,hB⟩:=same_below hp;have Q4:=Lib.hid (show ShT w w8 p X U1 B E L1 t (λ_=>4*a) B2 E2 M1/\A7 w8 (λy=>sblk p U1 B E y\/tb B2 E2 y) xm m1/\∀i:Int,((k+1:Nat):Int)<=i->DR.lget M1 i=DR.lget L i from⟨(Q3.out.1.below hB).t,(Q3.out.1.below hB).am,λi hi=>(Q3.out.2 i (by omega)).trans (MM.out i (by omega))⟩);clear hp hB Q3 SMC;go_wp2_with fail
          go_roundw
          case rel=>exact⟨k+1,M1,by go_num,by omega,Q4.out⟩
          case measure=>simp[intOf] <;> omega
     . obtain rfl:k=7:=by omega
       go_wp2_with fail
       go_ret;exact⟨rfl,L5.out.1.sh.bel⟩
end Go.Proofs.YtdmmciggopmglaaGreatDoor.SW
namespace Go.Proofs.YtdmmciggopmglaaGreatDoor
open Go.ChangeShapes Go.WideShapes Go.ChangeAt Go.RowKit Sg
open Go.ChangeMaps (open_string shut_string)
theorem walk_shadowSamples(a0:Int)(a1:Int)(v2:Value)(v3:Value)(w:World)(w0:(Lit.int .i64 a0).wf=true)(w1:(Lit.int .i64 a1).wf=true)(w2:CameRR w v2)(w3:CameS w v3)(hl:Laid w/\Named w):Calls Tryz.prog 3 #[.int .i64 a0,.int .i64 a1,v2,v3] w (IN.RetB true w):=by
 obtain⟨A,n,cc,rfl,hn,S,hr,hc⟩:=w3;obtain⟨Al,nl,cl,V,rfl,hnl,hv1,hv2,hL⟩:=pick_lanes2 w2;have hz0:=i64_rng w0;have hz1:=i64_rng w1;obtain⟨fb,hfb⟩:=SW.few_bool n nl S V
 by_cases hok:fb=true/\¬(a0 < 0)/\¬(1000 < a0)/\¬(a1 < 0)/\¬(16 < a1)
 . obtain⟨q,q0,q1,q2,q3⟩:=hok;obtain⟨size,rfl⟩:∃m:Nat,a0=(m:Int):=⟨a0.toNat,by omega⟩;obtain⟨sh,rfl⟩:∃m:Nat,a1=(m:Int):=⟨a1.toNat,by omega⟩;have hf:=hfb.1 q
   obtain⟨L,hL1,_⟩:=hL hf.2.1 λi hi=>by
    obtain⟨a,m,d,e,_⟩:=hv1 i hi;have h3:=hf.2.2.2 i hi;rw[e] at h3;exact⟨a,m,d,e,h3⟩
   exact SW.shadowSamples_main w size sh Al nl cl V L A n cc S q0 q1 q2 q3 hn hnl ⟨hr,hc⟩ ⟨hv1,hv2⟩ hL1 hf hl
 . have PW:=Lib.hid (show fb=false\/(fb=true/\decide (a0 < 0)=true)\/(fb=true/\decide (a0 < 0)=false/\decide (1000 < a0)=true)\/(fb=true/\decide (a0 < 0)=false/\decide (1000 < a0)=false/\decide (a1 < 0)=true)\/(fb=true/\decide (a0 < 0)=false/\decide (1000 < a0)=false/\decide (a1 < 0)=false/\decide (16 < a1)=true) from by
    by_cases pf:fb=true
    . refine Or.inr ?_
      by_cases p0:decide (a0 < 0)=true
      . exact Or.inl ⟨pf,p0⟩
      rw[Bool.not_eq_true] at p0
      by_cases p1:decide (1000 < a0)=true
      . exact Or.inr (Or.inl ⟨pf,p0,p1⟩)
      rw[Bool.not_eq_true] at p1
      by_cases p2:decide (a1 < 0)=true
      . exact Or.inr (Or.inr (Or.inl ⟨pf,p0,p1,p2⟩))
      rw[Bool.not_eq_true] at p2
      by_cases p3:decide (16 < a1)=true
      . exact Or.inr (Or.inr (Or.inr (⟨pf,p0,p1,p2,p3⟩)))
      rw[Bool.not_eq_true] at p3;exact absurd ⟨pf,of_decide_eq_false p0,of_decide_eq_false p1,of_decide_eq_false p2,of_decide_eq_false p3⟩ hok
    . exact Or.inl (by simpa using pf))
   have AW:=Lib.hid (SW.awake_any w hl.1);have FW:=Lib.hid (λw1 hb=>SW.few_told (w:=w) hn hnl ⟨hr,hc⟩ ⟨hv1,hv2⟩ hfb w1 hb);unfold maxLen at hn hnl;clear hr hc hok hl hfb hv1 hv2 hL hz0 w0 hz1 w1 w2;rcases PW.out with rfl|⟨rfl,e0⟩|⟨rfl,e0,e1⟩|⟨rfl,e0,e1,e2⟩|⟨rfl,e0,e1,e2,e3⟩
   all_goals
    clear PW;go_enter Tryz.func3,Tryz.ntmps3;go_wp2_with fail
    refine AW.out.mono ?_;rintro e w0 ⟨rfl,hb0⟩;have b0:=Lib.hid hb0;clear hb0 AW;go_wp2_with fail
    refine(FW.out w0 b0.out).mono ?_;rintro e w1 ⟨rfl,hB⟩;have b1:=Lib.hid (b0.out.trans (hB.mono b0.out.size));clear hB b0;go_wp2_with fail
    go_ret;exact⟨rfl,b1.out⟩
namespace LShadowSamples
set_option maxRecDepth 100000 in
theorem lifted(os:Os)(started:os.Started)(H:Type)(enc:TypeId × Value->H):
 ReturnsInHanded {} Tryz.checked os 3 .any (λw args=>(Rows.shadowSamplesSpec.pre enc Tryz.prog Tryz.f3 [] false w args/\laidMetH Tryz.prog seatLaid w)/\sizedMet enc Tryz.prog Tryz.f3 (OpenSpec.ofChange Rows.shadowSamplesSpec) false w args)
  (Rows.shadowSamplesSpec.post enc Tryz.prog Tryz.f3 false true false false):=by
 refine returnsInHanded_of_change_and (C:=Tryz.checked) (X:=λw _=>laidMetH Tryz.prog seatLaid w) (λ_ _ _ hh h=>h.of_heap hh) own started (by kernel_rfl) Tryz.func3
  (ChangeSpec.witness_at (enc:=enc) (C:=Tryz.checked) (os:=os) (X:=λw _=>laidMetH Tryz.prog seatLaid w) false (laidWorld os) #[.int .i64 0,.int .i64 0,.slice none 0 0,.slice none 0 0] 8 rfl (by kernel_rfl) (by kernel_rfl) (by kernel_rfl) (by kernel_rfl) (by kernel_rfl) (laidWorld_met os _)) ?_
 intro W base args ds gs before hval0 hW _ _ hL _;have hval:∀(j:Nat) t v,Tryz.f3.params[j]?=some t->args[j]?=some v->Value.okWide Tryz.prog W .any base t v:=hval0
 have hW':=hW;obtain⟨p,q,hA0,hV,rfl,hfz,hnd⟩:=hW;have hA:DataW.TrodAll enc Tryz.prog W 0 (λ_=>true) true Tryz.f3.params.toList args.toList ds p:=hA0;rw[Tryz.params3] at hA hval;obtain⟨v0,vs0,d0,ds0,p0,q0,hargs,rfl,rfl,h0,r0⟩:=trodAll_cons hA;obtain⟨v1,vs1,d1,ds1,p1,q1,rfl,rfl,rfl,h1,r1⟩:=trodAll_cons r0;obtain⟨v2,vs2,d2,ds2,p2,q2,rfl,rfl,rfl,h2,r2⟩:=trodAll_cons r1;obtain⟨v3,vs3,d3,ds3,p3,q3,rfl,rfl,rfl,h3,r3⟩:=trodAll_cons r2;obtain⟨rfl,rfl,rfl⟩:=trodAll_nil r3;obtain rfl:args= #[v0,v1,v2,v3]:=by cases args;simp_all
 obtain⟨rfl,rfl⟩:=trodVars_none hV;obtain⟨a0,rfl,rfl,rfl,w0⟩:=open_int Tryz.underlying3 (hval 0 3 v0 rfl rfl) h0;obtain⟨a1,rfl,rfl,rfl,w1⟩:=open_int Tryz.underlying3 (hval 1 3 v1 rfl rfl) h1;have k2:=h2;have lt2:∀x∈p2,x.block < W.heap.size:=by obtain⟨m,hm⟩:=k2;exact DataW.trod_lt m _ _ _ hm
 have w2:=open_R (hval 2 22 v2 rfl rfl) h2;have k3:=h3;have lt3:∀x∈p3,x.block < W.heap.size:=by obtain⟨m,hm⟩:=k3;exact DataW.trod_lt m _ _ _ hm
 have w3:=open_z (hval 3 23 v3 rfl rfl) h3;clear hA0 hval0;refine(walk_shadowSamples a0 a1 v2 v3 W w0 w1 w2 w3 (laid_of hL)).mono λe W' ⟨he,bel⟩=>?_;subst he;exact⟨_,rfl,_,_,_,[],_,[],hW',trodAll_mk1 (shut_bool Tryz.underlying4 _),(trodAll_cons_mk (shut_int Tryz.underlying3 w0) (trodAll_cons_mk (shut_int Tryz.underlying3 w1) (trodAll_cons_mk (Below.trod laidOut (by kernel_rfl) (of_decide_eq_true (by kernel_rfl)) k2 bel lt2) (trodAll_cons_mk (Below.trod laidOut (by kernel_rfl) (of_decide_eq_true (by kernel_rfl)) k3 bel lt3) trodAll_mk0)))),rfl,bel.frame _,λh=>by cases h⟩
theorem band{x y:Bool}(h:x=true)(k:y=true):(x&&y)=true:=by rw[h,k];rfl
set_option maxRecDepth 100000
theorem cj0:(Rows.shadowSamplesRow.wf (OpenSpec.ofChange Rows.shadowSamplesSpec))=true:=by kernel_rfl
theorem cj1:(laidOutB Tryz.pinned.checked.prog)=true:=by kernel_rfl
theorem cj2:(mapsRowed Tryz.pinned.checked.prog)=true:=by kernel_rfl
theorem cj9:(Rows.shadowSamplesRow.inPlace==Tryz.pinned.checked.prog.inPlace 3)=true:=by kernel_rfl
theorem cj10:(Rows.shadowSamplesRow.unfollowed==Tryz.pinned.checked.prog.unfollowed 3)=true:=by kernel_rfl
theorem cj11:(Rows.shadowSamplesRow.recurses==Tryz.pinned.checked.prog.recurses 3)=true:=by kernel_rfl
theorem cj12:(Rows.shadowSamplesRow.named==Tryz.pinned.checked.prog.varsNamed 3)=true:=by kernel_rfl
theorem cj22:(Rows.shadowSamplesRow.plainKeys==Tryz.pinned.checked.prog.plainKeys)=true:=by kernel_rfl
theorem cj24:(Tryz.pinned.checked.prog.stopsHeard)=true:=by kernel_rfl
theorem cj25:(Tryz.pinned.checked.prog.mayEnter)=true:=by kernel_rfl
theorem cj26:(Rows.shadowSamplesRow.lifted==Tryz.pinned.checked.prog.liftsFinal)=true:=by kernel_rfl
theorem cj27:(Tryz.pinned.checked.prog.make==some Rows.shadowSamplesRow.make)=true:=by kernel_rfl
theorem closed:joinedFacts Tryz.pinned.checked.prog 3 Tryz.f3 Rows.shadowSamplesSpec Rows.shadowSamplesRow=true:=by
 unfold joinedFacts;exact band (band (band (band (band (band (band (band (band (band (band (band (band (band (band (band (band (band (band (band (band (band (band (band (band (band (band (band (band (band (band (cj0) cj1) cj2) (by kernel_rfl)) (by kernel_rfl)) (by kernel_rfl)) (by kernel_rfl)) (by kernel_rfl)) (by kernel_rfl)) cj9) cj10) cj11) cj12) (by kernel_rfl)) (by kernel_rfl)) (by kernel_rfl)) (by kernel_rfl)) (by kernel_rfl)) (by kernel_rfl)) (by kernel_rfl)) (by kernel_rfl)) (by kernel_rfl)) cj22) (by kernel_rfl)) cj24) cj25) cj26) cj27) (by kernel_rfl)) (by kernel_rfl)) (by kernel_rfl)) (by kernel_rfl)
theorem fnm:Tryz.pinned.checked.prog.funcNamed "cachewise/cachewiselaw12.ShadowSamples" =some 3:=by kernel_rfl
theorem isIn:Tryz.f3.isInstance Tryz.pinned.checked.prog Rows.shadowSamplesRow.origin Rows.shadowSamplesRow.targs:=of_decide_eq_true (by kernel_rfl)
theorem isWr:Tryz.f3.isWrapper Tryz.pinned.checked.prog Rows.shadowSamplesRow.wrapper Rows.shadowSamplesRow.mainSum:=by unfold Func.isWrapper;rw[if_neg (of_decide_eq_false (by kernel_rfl))];exact⟨rfl,rfl⟩
theorem said:Rows.ShadowSamplesSaid:=
 OpenClaim.holds_of_wide 3 Tryz.f3 rfl rfl rfl rfl rfl rfl rfl ⟨rfl,rfl,rfl,rfl,rfl⟩ rfl rfl rfl rfl rfl fnm Tryz.func3 closed isIn isWr
  (λos started H enc _=>lifted os started H enc)
theorem hwT:Rows.shadowSamplesRow.wfByText (OpenSpec.ofChange Rows.shadowSamplesSpec)=true:=by kernel_rfl
theorem mnI:Tryz.pinned.checked.prog.mainIs=some (Rows.shadowSamplesCard.stood.harness.1,Rows.shadowSamplesCard.stood.harness.2.toList):=by kernel_rfl
theorem lkT:Rows.shadowSamplesCard.stood.looks=Tryz.pinned.checked.prog.looks []:=by kernel_rfl
theorem gsB:false=Rows.shadowSamplesRow.goesBy Tryz.pinned.checked.prog:=by kernel_rfl
theorem siR:Tryz.prog.wantsStandIn 22=false:=by kernel_rfl
theorem sii:Tryz.prog.wantsStandIn 3=false:=by kernel_rfl
theorem siz:Tryz.prog.wantsStandIn 23=false:=by kernel_rfl
theorem card:Rows.ShadowSamplesCardSaid:=
 Claim7.holds_tied_plain_at .later [] _ _ _ _ said (λ_ h=>by cases h) hwT (λ_ h=>by cases h) shadowSamples_row_tie rfl ⟨rfl,rfl⟩ mnI rfl
  (λf fn hf hfn=>by
    obtain rfl:f=3:=Option.some.inj (fnm.symm.trans hf) |>.symm;obtain rfl:fn=Tryz.f3:=(Option.some.inj (Tryz.func3.symm.trans hfn)).symm;refine⟨lkT,λj t ht=>?_⟩;rw[Tryz.params3] at ht;rcases j with _|_|_|_|j
    . obtain rfl:t=3:=by simpa using ht.symm
      exact sii
    . obtain rfl:t=3:=by simpa using ht.symm
      exact sii
    . obtain rfl:t=22:=by simpa using ht.symm
      exact siR
    . obtain rfl:t=23:=by simpa using ht.symm
      exact siz
    . simp at ht)
  gsB
#print axioms card
end LShadowSamples
end Go.Proofs.YtdmmciggopmglaaGreatDoor
