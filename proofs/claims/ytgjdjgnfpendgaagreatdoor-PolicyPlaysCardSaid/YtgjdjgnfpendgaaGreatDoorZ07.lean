/- Part 7 of the proof. -/
import Derived.Test.YtgjdjgnfpendgaaGreatDoorZ06
import Derived.Deep.LoopGhost
set_option maxHeartbeats 16000000
set_option maxRecDepth 20000
namespace Go.Proofs.YtgjdjgnfpendgaaGreatDoor
open Go.Proofs.Tryz
namespace AR
open Go.RowKit Sg
section
variable(w:zw)(P:Nat->Prop)(mo s:Nat)(v:S4)(X:L4)(h:R4 w P v X)(hP:Cl w P)
include h hP
def Gh(w:zw)(P:Nat->Prop)(p mo s:Nat)(V:S4)(X:L4)(L L2:zY)(va v i:Value)(W:zw):Prop:=∃j:Nat,i= .int .i64 (j:Int)/\j<=L.length/\Own W w.heap.size v (L.take j).reverse/\Own W w.heap.size va L2/\B1 w W P p mo s V X
theorem tF(hl:(X 2).length+(X 3).length<=1900)(h2:(X 2).Nodup)(h3:(X 3).Nodup):Calls prog 76 #[aU mo s v] w (br ((X 2).reverse++(X 3).reverse) w):=by
 have R0:=J (cB h hP mo s);have H2:=J h2;have H3:=J h3;have HL:=J hl;clear h hP h2 h3 hl;go_enter func76,ntmps76;go_upto_region 1 with fail
 generalize w.alloc (aM mo s v)=W at R0|-;obtain⟨p,hp⟩:=zx w.heap.size;have Xj:=zs (w.heap.size<=W.heap.size) R0.out.az.size;rw[← hp] at R0|-;clear hp;go_wp2_with fail
 go_loopw [3,5] (λva i U=>Gh w (w1 P p) p mo s v X (X 2) [] (.slice none 0 0) va i U) (λ_ i _=>(X 2).length - (intOf i).toNat)
 case atStart=>exact⟨0,rfl,xg _,Own.nil _ _,Own.nil _ _,R0.out⟩
 case round=>
  obtain⟨j,rfl,hj,aS,_,cD⟩:=hrel;have HO:=J aS;have RR:=J cD;have bZ:(X 2).length=(v 2).n:=(R0.out.rows 2 (by omega)).len;obtain⟨c0,c1,c2,c3,c4,c5⟩:=RR.out.box.c
  by_cases aQ:j < (X 2).length
  . have e0:decide (j < (v 2).n)=true:=by rw[← bZ];simpa using aQ
    have e9:j < (v 2).n:=by omega
    obtain⟨g,o,_,hA,hg,m0,cF,bL⟩:=(RR.out.rows 2 (by omega)).at aQ;unfold maxLen at bL;rw[hA] at c4;have oo:=dP (X 2) j ⟨#[]⟩ aQ;have b7:((X 2).getD j ⟨#[]⟩).size<=maxLen:=(RR.out.rows 2 (by omega)).small _ (by rw[zt,zm aQ];exact qy aQ)
    have cu:(X 2).getD j ⟨#[]⟩∉((X 2).take j).reverse:=by
     have cG:=H2.out.sublist (List.take_sublist (j+1) (X 2));rw[oo] at cG;rw[xl];exact λhm=>(List.nodup_append.1 cG).2.2 _ hm _ (List.mem_singleton.2 rfl) rfl
    generalize(X 2).getD j ⟨#[]⟩=x at oo b7 cu m0;obtain⟨g2,dn,qG⟩:=aS.row;have U:=J (nC _ g2 _ _ x qG (by rw[qp,qh];have:=HL.out;omega) b7);rw[aZ cu,show x::((X 2).take j).reverse=((X 2).take (j+1)).reverse by rw[oo,List.reverse_append];rfl] at U;clear oo b7 cu aS cD qG dn;go_wp2_with fail
    refine U.out.mono ?_;rintro e w3 ⟨v3,rfl,jO,eh⟩;have O3:=J (jO.mono RR.out.az.size);have B3:=J (RR.out.below eh);clear jO eh U RR;go_wp2_with fail
    go_roundw
    case rel=>exact⟨j+1,by go_num,by omega,O3.out,Own.nil _ _,B3.out⟩
    case measure=>simp[intOf];omega
  . have e0:decide (j < (v 2).n)=false:=by rw[← bZ];simpa using aQ
    have HJ:=(show((X 2).take j).reverse=(X 2).reverse by rw[qk (by omega)]);rw[HJ] at HO;clear aS cD HJ;obtain⟨Va,ca,Fc⟩:=HO.out.len;rw[qp] at Fc;subst Fc;go_wp2_with fail
    clear c0 c1 c2 c3 c4 c5 bZ;have Sj:=J HO.out;have R1:=J RR.out;clear HO RR;go_loopw [4,6] (λu i U=>Gh w (w1 P p) p mo s v X (X 3) (X 2).reverse (.slice Va (X 2).length ca) u i U) (λ_ i _=>(X 3).length - (intOf i).toNat)
    case atStart=>exact⟨0,rfl,xg _,Own.nil _ _,Sj.out,R1.out⟩
    case round=>
     obtain⟨i,rfl,hi,aS,Fc,cD⟩:=hrel;have HO:=J aS;have HV:=J Fc;have RR:=J cD;clear Fc R1 Sj;have bZ:(X 3).length=(v 3).n:=(RR.out.rows 3 (by omega)).len;obtain⟨c0,c1,c2,c3,c4,c5⟩:=RR.out.box.c
     by_cases aQ:i < (X 3).length
     . have e1:decide (i < (v 3).n)=true:=by rw[← bZ];simpa using aQ
       have e9:i < (v 3).n:=by omega
       obtain⟨g,o,_,hA,hg,m0,cF,bL⟩:=(RR.out.rows 3 (by omega)).at aQ;unfold maxLen at bL;rw[hA] at c5;have oo:=dP (X 3) i ⟨#[]⟩ aQ;have b7:((X 3).getD i ⟨#[]⟩).size<=maxLen:=(RR.out.rows 3 (by omega)).small _ (by rw[zt,zm aQ];exact qy aQ)
       have cu:(X 3).getD i ⟨#[]⟩∉((X 3).take i).reverse:=by
        have cG:=H3.out.sublist (List.take_sublist (i+1) (X 3));rw[oo] at cG;rw[xl];exact λhm=>(List.nodup_append.1 cG).2.2 _ hm _ (List.mem_singleton.2 rfl) rfl
       generalize(X 3).getD i ⟨#[]⟩=x at oo b7 cu m0;obtain⟨g2,dn,qG⟩:=aS.row;have U:=J (nC _ g2 _ _ x qG (by rw[qp,qh];have:=HL.out;omega) b7);rw[aZ cu,show x::((X 3).take i).reverse=((X 3).take (i+1)).reverse by rw[oo,List.reverse_append];rfl] at U;clear oo b7 cu aS cD qG dn;go_wp2_with fail
       refine U.out.mono ?_;rintro e w3 ⟨v3,rfl,jO,eh⟩;have O3:=J (jO.mono RR.out.az.size);have A3:=J (HV.out.below eh);have B3:=J (RR.out.below eh);clear jO eh U RR HV;go_wp2_with fail
       go_roundw
       case rel=>exact⟨i+1,by go_num,by omega,O3.out,A3.out,B3.out⟩
       case measure=>simp[intOf];omega
     . have e1:decide (i < (v 3).n)=false:=by rw[← bZ];simpa using aQ
       have HJ:=(show((X 3).take i).reverse=(X 3).reverse by rw[qk (by omega)]);rw[HJ] at HO;have bW:=RR.out.az.size;obtain⟨v9,w9,aB,Sk,lX⟩:=mj HV.out HO.out (by rw[qp,qp];have:=HL.out;omega) bW;obtain⟨Vb,cb,Sm⟩:=HO.out.len;rw[qp] at Sm;subst Sm;have df:=J aB;have O9:=J Sk;have B9:=J (RR.out.az.grown lX bW (λk hk=>(HV.out.1.lt k hk).1));clear aS cD HJ aB Sk lX bW;go_wp2_with(at_builtin;refine aq rfl _ _ _ rfl _ _ _ _ rfl rfl df.out ?_)
       go_ret;exact⟨_,rfl,O9.out,B9.out⟩
end
end AR
namespace AR
open Go.RowKit Sg
theorem bc{fn:Func}{a u:Tmp}{ty:TypeId}(h:fn.results= #[.cell a ty,.tmp u])(tmps:Array Value)(P:Program)(w:zw)(p:Addr)(v:Value)(ha:tmps.getD a undef= .pointer (some p))(hv:(loadVar ty p).run P w= .ok v w):
 (results fn tmps).run P w= .ok (.tuple #[v,tmps.getD u undef]) w:=by
 rw[qt] at ha;simp[results,h,ha,asAddr,hv]
def VJ(w:zw)(P:Nat->Prop)(p q mo s:Nat)(X:L4)(k:Nat)(W:zw):Prop:=
 ∃(v1:S4) (L2:zY),k=L2.length - (mo - (X 0).length)/\L2.length<=2000/\L2.drop k=ou X mo 2/\B2 w W P p q mo s v1 (af X 2 L2)
def VK(w:zw)(P:Nat->Prop)(p q mo s:Nat)(X:L4)(Y T:zY)(k:Nat)(W:zw):Prop:=
 ∃(v2:S4) (L3:zY),k=L3.length - (2*mo - ((X 0).length+(X 1).length+Y.length))/\L3.length<=2000/\L3.drop k=T/\B2 w W P p q mo s v2 (af (af X 2 Y) 3 L3)
section
variable(w:zw)(P:Nat->Prop)(mo s:Nat)(v:S4)(X:L4)(h:R4 w P v X)(hP:Cl w P)
include h hP
theorem ry(hm:mo<=9223372036854775807)(Fe:(X 0).length+(X 1).length<=mo)(hl:∀k,k < 4->(X k).length<=1900):Calls prog 100 #[aU mo s v] w (CT w P id mo s (rK (ou X mo) mo)):=by
 have HL:=J hl;have HM:=J hm;have Jq:=J Fe;clear hl hm Fe;have R0:=J (bF h hP mo s);clear h hP;go_enter func100,ntmps100;go_upto_region 1 with fail
 generalize(w.alloc (aM mo s v)).alloc (aM 0 0 zV)=W at R0|-;generalize w.heap.size+1=q at R0|-;obtain⟨p,hp⟩:=zx w.heap.size;rw[← hp] at R0|-;have bR:=J hp;clear hp;go_wp2_with fail
 go_loopg [] ((X 2).length - (mo - (X 0).length)) (λk W=>VJ w (w2 P p q) p q mo s X k W)
 case atStart=>exact⟨v,X 2,rfl,by have:=HL.out 2 (by omega);omega,rfl,by rw[show af X 2 (X 2)=X from pW X 2];exact R0.out⟩
 case round=>
  obtain⟨v1,L2,hk,re,BG,r⟩:=hrel;have l0:(X 0).length=(v1 0).n:=(r.b.rows 0 (by omega)).len;have l2:L2.length=(v1 2).n:=(r.b.rows 2 (by omega)).len;have z0:(X 0).length<=2000:=by have:=HL.out 0 (by omega);omega
  obtain⟨c0,c1,c2,c3,c4,c5⟩:=r.b.box.c;have RR:=J r;obtain⟨l,fG⟩:=zx ((v1 0).n+(v1 2).n);have nH:IntKind.i64.wrap (((v1 0).n:Int)+((v1 2).n:Int))=(l:Int):=by rw[qi _ (by omega)];omega
  clear r;cases gk with
  |zero=>
   have e0:decide (mo < l)=false:=by have:=Jq.out;simp;omega
   rw[List.drop_zero] at BG;subst BG;clear hk re l0 l2 fG R0 z0;go_wp2_with fail
   clear e0 nH;generalize hY:ou X mo 2=Y at RR;go_loopg [] ((X 3).length - (2*mo - ((X 0).length+(X 1).length+Y.length))) (λk W=>VK w (w2 P p q) p q mo s X Y ((X 3).drop ((X 3).length - (2*mo - ((X 0).length+(X 1).length+Y.length)))) k W)
   case atStart=>exact⟨v1,X 3,rfl,by have:=HL.out 3 (by omega);omega,rfl,by rw[show af (af X 2 Y) 3 (X 3)=af X 2 Y from pW (af X 2 Y) 3];exact RR.out⟩
   case round=>
    obtain⟨v2,L3,hk,Jr,Js,r⟩:=hrel;have Sp:Y.length<=mo - (X 0).length:=by rw[← hY];show((X 2).drop _).length<=_;rw[xm];omega
    have z0:=HL.out 0 (by omega);have z1:=HL.out 1 (by omega);have z2:Y.length<=2000:=by rw[← hY];show((X 2).drop _).length<=_;rw[xm];have:=HL.out 2 (by omega);omega
    have l3:L3.length=(v2 3).n:=(r.b.rows 3 (by omega)).len;have rd:=r.below (show Below wr.heap.size wr wr.drew from⟨rfl,rfl,rfl,zg _,λ_ _=>rfl⟩);have U0:Calls prog 99 #[aU mo s v2] wr.drew (dV (.int .i64 (((X 0).length+(X 1).length+Y.length+L3.length:Nat):Int)) wr.drew):=xX wr.drew _ mo s v2 _ rd.b.rows rd.b.cl;obtain⟨l,fG⟩:=zx ((X 0).length+(X 1).length+Y.length+L3.length);rw[← fG] at U0;have U:=J U0;have VL:=HM.out;have nH:IntKind.i64.wrap ((l:Int) - (mo:Int))=(l:Int) - (mo:Int):=qi _ (by omega);obtain⟨c0,c1,c2,c3,c4,c5⟩:=r.b.box.c;have Fe:=Jq.out;clear U0 VL;have RR:=J rd;clear rd;cases gk with
    |zero=>
     have e0:decide ((mo:Int) < (l:Int) - (mo:Int))=false:=by simp;omega
     have e1:¬(mo:Int) < (l:Int) - (mo:Int):=by omega
     rw[List.drop_zero] at Js;clear hk Jr Sp z0 z1 z2 l3 fG Fe r;go_upto_region 3 with fail
     refine wp_region_noPanic ?_;refine wp_region_held_drew (S:=(λw'=>w'.cell? ⟨p,0,none⟩=some (.int .i64 (mo:Int))/\w'.cell? ⟨p,1,none⟩=some (.int .i64 (s:Int))/\w'.cell? ⟨p,2,none⟩=some (.slice (v2 0).A (v2 0).n (v2 0).c)/\w'.cell? ⟨p,3,none⟩=some (.slice (v2 1).A (v2 1).n (v2 1).c)/\w'.cell? ⟨p,4,none⟩=some (.slice (v2 2).A (v2 2).n (v2 2).c)/\w'.cell? ⟨p,5,none⟩=some (.slice (v2 3).A (v2 3).n (v2 3).c))) (by kernel_rfl) ?_ (λhHeld=>?_)
     . exact⟨c0,c1,c2,c3,c4,c5⟩
     clear c0 c1 c2 c3 c4 c5;refine zi 0 (v:=?_) rfl (by kernel_rfl) zq ‹_› (by intro w aO;(try dsimp only at aO);go_simp;(try with_reducible rfl)) ?_;(try simp only[Act.put,za,zb,zc])
     iterate 2 (refine zi 1 (v:=?_) rfl (by kernel_rfl) zq ‹_› (by intro w aO;(try dsimp only at aO);go_simp;(try with_reducible rfl)) ?_;(try simp only[Act.put,za,zb,zc]))
     iterate 2 (refine zi 2 (v:=?_) rfl (by kernel_rfl) zq ‹_› (by intro w aO;(try dsimp only at aO);go_simp;(try with_reducible rfl)) ?_;(try simp only[Act.put,za,zb,zc]))
     refine wpAnyH_ready (rs:=[1]) (by kernel_rfl) (by simp) ?_;refine zn rfl (λK hK=>?_);go_simp;refine U.out.mono ?_;rintro e V1 ⟨rfl,hB⟩;have RX:=J (RR.out.below hB);clear hB U;go_wp2_with fail
     refine hK.out _ _ ?_ (λhHeld=>?_)
     . exact⟨RX.out.b.box.c.1,RX.out.b.box.c.2.1,RX.out.b.box.c.2.2.1,RX.out.b.box.c.2.2.2.1,RX.out.b.box.c.2.2.2.2.1,RX.out.b.box.c.2.2.2.2.2⟩
     clear hK K;(try simp only[Act.put,za,zb,zc])
     iterate 3 (refine zi 0 (v:=?_) rfl (by kernel_rfl) zq ‹_› (by intro w aO;(try dsimp only at aO);go_simp;(try with_reducible rfl)) ?_;(try simp only[Act.put,za,zb,zc]))
     iterate 4 (refine zj 0 rfl (by kernel_rfl) zq ‹_› ?_;(try simp only[Act.put,za,zb,zc]))
     refine zi 0 (v:=?_) rfl (by kernel_rfl) zq ‹_› (by intro w aO;(try dsimp only at aO);go_simp;(try with_reducible rfl)) ?_;(try simp only[Act.put,za,zb,zc]);refine wpAnyH_done (by kernel_rfl) ?_ _;refine NoPanic.normal ?_;clear hHeld RR nH e1;obtain⟨c0,c1,c2,c3,c4,c5⟩:=RX.out.b.box.c;go_upto_region 5 with fail
     clear c0 c1 c2 c3 c4 c5;have E:=zs (rK (ou X mo) mo=af (af X 2 Y) 3 L3) (by rw[Js,<-hY];rfl);have RO:=RX.out.out (mo':=mo) (s':=s) (RX.out.b.rows);have O1:=J RO.1;have O2:=J RO.2.1;have O3:=J RO.2.2;clear RO;obtain⟨c0,c1,c2,c3,c4,c5⟩:=RX.out.b.box.c;obtain⟨d0,d1,d2,d3,d4,d5⟩:=RX.out.res.c;obtain⟨f0,f1,f2,f3,f4,f5⟩:=RX.out.res.f;go_wp2_with fail
     refine bodyPost_ret (aV rfl _ _ _ ⟨q,0,none⟩ _ rfl (bf O1.out)) rfl ?_;rw[E.out];exact⟨_,rfl,O2.out,O3.out⟩
    |succ k=>
     have e0:decide ((mo:Int) < (l:Int) - (mo:Int))=true:=by simp;omega
     have e1:(mo:Int) < (l:Int) - (mo:Int):=by omega
     have h0:0 < L3.length:=by omega
     have e2:0 < (v2 3).n:=by omega
     have HK:=zs (k=L3.tail.length - (2*mo - ((X 0).length+(X 1).length+Y.length))/\L3.tail.length<=2000) (by rw[List.length_tail];omega);have NV:=zs (L3.tail.drop k=(X 3).drop ((X 3).length - (2*mo - ((X 0).length+(X 1).length+Y.length)))) (by rw[List.drop_tail];exact Js);clear hk Jr Sp z0 z1 z2 l3 fG Fe r Js;go_upto_region 3 with fail
     refine wp_region_noPanic ?_;refine wp_region_held_drew (S:=(λw'=>w'.cell? ⟨p,0,none⟩=some (.int .i64 (mo:Int))/\w'.cell? ⟨p,1,none⟩=some (.int .i64 (s:Int))/\w'.cell? ⟨p,2,none⟩=some (.slice (v2 0).A (v2 0).n (v2 0).c)/\w'.cell? ⟨p,3,none⟩=some (.slice (v2 1).A (v2 1).n (v2 1).c)/\w'.cell? ⟨p,4,none⟩=some (.slice (v2 2).A (v2 2).n (v2 2).c)/\w'.cell? ⟨p,5,none⟩=some (.slice (v2 3).A (v2 3).n (v2 3).c))) (by kernel_rfl) ?_ (λhHeld=>?_)
     . exact⟨c0,c1,c2,c3,c4,c5⟩
     clear c0 c1 c2 c3 c4 c5;refine zi 0 (v:=?_) rfl (by kernel_rfl) zq ‹_› (by intro w aO;(try dsimp only at aO);go_simp;(try with_reducible rfl)) ?_;(try simp only[Act.put,za,zb,zc])
     iterate 2 (refine zi 1 (v:=?_) rfl (by kernel_rfl) zq ‹_› (by intro w aO;(try dsimp only at aO);go_simp;(try with_reducible rfl)) ?_;(try simp only[Act.put,za,zb,zc]))
     iterate 2 (refine zi 2 (v:=?_) rfl (by kernel_rfl) zq ‹_› (by intro w aO;(try dsimp only at aO);go_simp;(try with_reducible rfl)) ?_;(try simp only[Act.put,za,zb,zc]))
     refine wpAnyH_ready (rs:=[1]) (by kernel_rfl) (by simp) ?_;refine zn rfl (λK hK=>?_);go_simp;refine U.out.mono ?_;rintro e V1 ⟨rfl,hB⟩;have RX:=J (RR.out.below hB);clear hB U;go_wp2_with fail
     refine hK.out _ _ ?_ (λhHeld=>?_)
     . exact⟨RX.out.b.box.c.1,RX.out.b.box.c.2.1,RX.out.b.box.c.2.2.1,RX.out.b.box.c.2.2.2.1,RX.out.b.box.c.2.2.2.2.1,RX.out.b.box.c.2.2.2.2.2⟩
     clear hK K;(try simp only[Act.put,za,zb,zc])
     iterate 8 (refine zi 0 (v:=?_) rfl (by kernel_rfl) zq ‹_› (by intro w aO;(try dsimp only at aO);go_simp;(try with_reducible rfl)) ?_;(try simp only[Act.put,za,zb,zc]))
     refine wpAnyH_done (by kernel_rfl) ?_ _;refine NoPanic.normal ?_;clear hHeld;have R1:=J RX.out;clear RR nH e0 e1 e2;obtain⟨r',sA,sS,hT⟩:=(R1.out.b.rows 3 (by omega)).tail (show 0 < (af (af X 2 Y) 3 L3 3).length from h0);have Sq:L3.length=(v2 3).n:=(R1.out.b.rows 3 (by omega)).len;rw[Sq] at h0;have R2:=zs (B2 w _ (w2 P p q) p q mo s (af v2 3 r') (af (af X 2 Y) 3 L3.tail)) (by have:=R1.out.nO hT;rw[sj] at this;exact this);obtain⟨c0,c1,c2,c3,c4,c5⟩:=R1.out.b.box.c;obtain⟨f0,f1,f2,f3,f4,f5⟩:=R1.out.b.box.f;clear hT R1 RX Sq;go_wp2_with fail
     go_roundg k
     case measure=>omega
     case rel=>exact⟨_,L3.tail,HK.out.1,HK.out.2,NV.out,R2.out⟩
  |succ k=>
   have e0:decide (mo < l)=true:=by simpa using(show mo < l by omega)
   have h0:0 < L2.length:=by omega
   have e2:0 < (v1 2).n:=by omega
   have HK:=zs (k=L2.tail.length - (mo - (X 0).length)/\L2.tail.length<=2000) (by rw[List.length_tail];omega);have NV:=zs (L2.tail.drop k=ou X mo 2) (by rw[List.drop_tail];exact BG);obtain⟨r',sA,sS,hT⟩:=(RR.out.b.rows 2 (by omega)).tail (show 0 < (af X 2 L2 2).length from h0);have R2:=zs (B2 w _ (w2 P p q) p q mo s (af v1 2 r') (af X 2 L2.tail)) (by have:=RR.out.fg hT;rw[sj] at this;exact this);obtain⟨f0,f1,f2,f3,f4,f5⟩:=RR.out.b.box.f;clear hk re BG hT RR l0 l2 z0 h0 fG R0;go_wp2_with fail
   go_roundg k
   case measure=>omega
   case rel=>exact⟨_,L2.tail,HK.out.1,HK.out.2,NV.out,R2.out⟩
theorem tH(key:zy)(cu:(aw (X 0) key||aw (X 1) key)=true\/mo<=(X 0).length+(X 1).length):Calls prog 62 #[aU mo s v,.string key] w (CT w P (λx=> .tuple #[x,.bool false]) mo s X):=by
 have l0:=(h 0 (by omega)).len;have l1:=(h 1 (by omega)).len;have z0:=(h 0 (by omega)).le;have z1:=(h 1 (by omega)).le;have R0:=J (bF h hP mo s);clear h hP;go_enter func62,ntmps62;go_upto_region 1 with fail
 generalize(w.alloc (aM mo s v)).alloc (aM 0 0 zV)=W at R0|-;generalize w.heap.size+1=q at R0|-;obtain⟨p,hp⟩:=zx w.heap.size;rw[← hp] at R0|-;have bR:=J hp;clear hp;have V:=J (et _ _ mo s v X R0.out.b.rows R0.out.b.cl key);obtain⟨c0,c1,c2,c3,c4,c5⟩:=R0.out.b.box.c;obtain⟨l,fG⟩:=zx ((v 0).n+(v 1).n);have nH:IntKind.i64.wrap (((v 0).n:Int)+((v 1).n:Int))=(l:Int):=by rw[qi _ (by omega)];omega
 cases hh:(aw (X 0) key||aw (X 1) key) with
 |true=>
  rw[hh] at V;clear cu hh l0 l1 z0 z1 fG;go_wp2_with fail
  refine V.out.mono ?_;rintro e W1 ⟨rfl,hB⟩;have R1:=J (R0.out.below hB);clear hB V R0 c0 c1 c2 c3 c4 c5;have RO:=R1.out.out (mo':=mo) (s':=s) (R1.out.b.rows);have O1:=J RO.1;have O2:=J RO.2.1;have O3:=J RO.2.2;clear RO;obtain⟨c0,c1,c2,c3,c4,c5⟩:=R1.out.b.box.c;obtain⟨d0,d1,d2,d3,d4,d5⟩:=R1.out.res.c;obtain⟨f0,f1,f2,f3,f4,f5⟩:=R1.out.res.f;go_wp2_with fail
  refine bodyPost_ret (bc rfl _ _ _ ⟨q,0,none⟩ _ rfl (bf O1.out)) rfl ?_;exact⟨_,rfl,O2.out,O3.out⟩
 |false=>
  have cu:mo<=l:=by rcases cu with h|h;rw[hh] at h;cases h;omega
  have e0:decide (mo<=l)=true:=by simpa using cu
  rw[hh] at V;clear cu hh l0 l1 z0 z1 fG;go_wp2_with fail
  refine V.out.mono ?_;rintro e W1 ⟨rfl,hB⟩;have R1:=J (R0.out.below hB);clear hB V R0 c0 c1 c2 c3 c4 c5;have RO:=R1.out.out (mo':=mo) (s':=s) (R1.out.b.rows);have O1:=J RO.1;have O2:=J RO.2.1;have O3:=J RO.2.2;clear RO;obtain⟨c0,c1,c2,c3,c4,c5⟩:=R1.out.b.box.c;obtain⟨d0,d1,d2,d3,d4,d5⟩:=R1.out.res.c;obtain⟨f0,f1,f2,f3,f4,f5⟩:=R1.out.res.f;go_wp2_with fail
  refine bodyPost_ret (bc rfl _ _ _ ⟨q,0,none⟩ _ rfl (bf O1.out)) rfl ?_;exact⟨_,rfl,O2.out,O3.out⟩
theorem rB(key:zy)(hs:key.size<=maxLen)(hm:mo<=9223372036854775807)(hh:(aw (X 0) key||aw (X 1) key)=false)(cu:(X 0).length+(X 1).length < mo)(hl:∀k,k < 4->(X k).length<=1800):Calls prog 62 #[aU mo s v,.string key] w (CT w P (λx=> .tuple #[x,.bool true]) mo s (rK (ou (af (iK X key) 0 (rem (X 0) key++ [key])) mo) mo)):=by
 have l0:=(h 0 (by omega)).len;have l1:=(h 1 (by omega)).len;have z0:=(h 0 (by omega)).le;have z1:=(h 1 (by omega)).le;have HM:=J hm;have iL:=J hs;have HL:=zs (∀k,k < 4->(iK X key k).length<=1800) (λk hk=>zr (aI _ _) (hl k hk));have VM:=zs (∀k,k < 4->(X k).length<=1900) (λk hk=>zr (hl k hk) (by omega))
 have Jq:=J (show(rem (X 0) key++ [key]).length+(rem (X 1) key).length<=mo from by
  have:=aI (X 0) key;have:=aI (X 1) key;rw[zh];simp only[zv,ql];omega)
 clear hs hl hm;have R0:=J (bF h hP mo s);clear h hP;go_enter func62,ntmps62;go_upto_region 1 with fail
 generalize(w.alloc (aM mo s v)).alloc (aM 0 0 zV)=W at R0|-;generalize w.heap.size+1=q at R0|-;obtain⟨p,hp⟩:=zx w.heap.size;rw[← hp] at R0|-;have bR:=J hp;clear hp;have V:=J (et _ _ mo s v X R0.out.b.rows R0.out.b.cl key);obtain⟨c0,c1,c2,c3,c4,c5⟩:=R0.out.b.box.c;obtain⟨l,fG⟩:=zx ((v 0).n+(v 1).n);have nH:IntKind.i64.wrap (((v 0).n:Int)+((v 1).n:Int))=(l:Int):=by rw[qi _ (by omega)];omega
 have e0:decide (mo<=l)=false:=by simp;omega
 rw[hh] at V;clear cu hh l0 l1 z0 z1 fG;go_wp2_with fail
 refine V.out.mono ?_;rintro e W1 ⟨rfl,hB⟩;have R1:=J (R0.out.below hB);clear hB V R0 c0 c1 c2 c3 c4 c5;obtain⟨c0,c1,c2,c3,c4,c5⟩:=R1.out.b.box.c;go_upto_region 3 with fail
 clear e0 nH c0 c1 c2 c3 c4 c5;have U:=J (eu _ _ mo s v X R1.out.b.rows R1.out.b.cl key VM.out);obtain⟨c0,c1,c2,c3,c4,c5⟩:=R1.out.b.box.c;go_wp2_with fail
 refine U.out.mono ?_;rintro e W3 ⟨v9,rfl,hr,hB⟩;have aD:=R1.out.below hB;have R2:=J (aD.dj (mo':=mo) (s':=s) hr);obtain⟨d0,d1,d2,d3,d4,d5⟩:=aD.b.box.c;obtain⟨f0,f1,f2,f3,f4,f5⟩:=aD.b.box.f;clear c0 c1 c2 c3 c4 c5 hr hB aD U;go_upto_region 4 with fail
 clear d0 d1 d2 d3 d4 d5 f0 f1 f2 f3 f4 f5;dsimp only[cX] at R2;generalize(((((W3.setCell ⟨p,0,none⟩ (.int .i64 (mo:Int))).setCell ⟨p,1,none⟩ (.int .i64 (s:Int))).setCell ⟨p,2,none⟩ (.slice (v9 0).A (v9 0).n (v9 0).c)).setCell ⟨p,3,none⟩ (.slice (v9 1).A (v9 1).n (v9 1).c)).setCell ⟨p,4,none⟩ (.slice (v9 2).A (v9 2).n (v9 2).c)).setCell ⟨p,5,none⟩ (.slice (v9 3).A (v9 3).n (v9 3).c)=W4 at R2|-;obtain⟨v1,v2,w1,w2,r1,r2,o2,b1,b2⟩:=hE (R2.out.b.rows 0 (by omega)) key iL.out (by have:=HL.out 0 (by omega);omega);obtain⟨r9,rfl,k9⟩:=SW.made o2 R2.out.b.cl;have RA:=R2.out.below b2;have R3:=J (RA.dO k9);obtain⟨c0,c1,c2,c3,c4,c5⟩:=(R2.out.below ((zo W4.heap.size W4).alloc (zg _) (.cells #[] 9))).b.box.c;obtain⟨d0,d1,d2,d3,d4,d5⟩:=RA.b.box.c;obtain⟨f0,f1,f2,f3,f4,f5⟩:=RA.b.box.f;have fK:=J r1;have dY:=zs (_=_) r2;clear r1 r2 o2 b1 b2 k9 RA R2;go_upto_region 5 with(at_builtin;first|(refine aq rfl _ _ _ rfl _ _ _ _ rfl rfl fK.out ?_)|(refine aq rfl _ _ _ rfl _ _ _ _ rfl rfl dY.out ?_))
 clear c0 c1 c2 c3 c4 c5 d0 d1 d2 d3 d4 d5 f0 f1 f2 f3 f4 f5 fK dY;generalize w2.setCell ⟨p,2,none⟩ (.slice r9.A r9.n r9.c)=W9 at R3|-
 have Y:=J (ry _ _ mo s _ _ R3.out.b.rows R3.out.b.cl HM.out Jq.out (λk hk=>by
  rcases k with _|_|_|_|k
  . have:=HL.out 0 (by omega);show(rem (X 0) key++ [key]).length<=1900;rw[zh];simp only[zv,ql];have:(rem (X 0) key).length<=1800:=this;omega
  . have:=HL.out 1 (by omega);show(rem (X 1) key).length<=1900;have:(rem (X 1) key).length<=1800:=this;omega
  . have:=HL.out 2 (by omega);show(rem (X 2) key).length<=1900;have:(rem (X 2) key).length<=1800:=this;omega
  . have:=HL.out 3 (by omega);show(rem (X 3) key).length<=1900;have:(rem (X 3) key).length<=1800:=this;omega
  . omega))
 obtain⟨c0,c1,c2,c3,c4,c5⟩:=R3.out.b.box.c;go_wp2_with fail
 refine Y.out.mono ?_;rintro e W5 ⟨v8,rfl,hr,hB⟩;have R4:=J (R3.out.below hB);have K9:=J hr;clear hB hr Y R3 c0 c1 c2 c3 c4 c5;have RO:=R4.out.out (mo':=mo) (s':=s) (K9.out);have O1:=J RO.1;have O2:=J RO.2.1;have O3:=J RO.2.2;clear RO;obtain⟨d0,d1,d2,d3,d4,d5⟩:=R4.out.res.c;obtain⟨f0,f1,f2,f3,f4,f5⟩:=R4.out.res.f;go_wp2_with fail
 refine bodyPost_ret (bc rfl _ _ _ ⟨q,0,none⟩ _ rfl (bf O1.out)) rfl ?_;exact⟨_,rfl,O2.out,O3.out⟩
end
end AR
namespace AR
open Go.RowKit Sg
def eX(p:Nat):Nat->L4->L4
 |0,X=>X
 |k+1,X=>eX p k (yX X p false)
def eO(p:Nat):Nat->L4->zY
 |0,_=>[]
 |k+1,X=>yK X p false::eO p k (yX X p false)
def dm(X:L4):Nat:=(X 0).length+(X 1).length+(X 2).length+(X 3).length
theorem BW{X:L4}(h:dm X<=1800)(k:Nat)(hk:k < 4):(X k).length<=1900:=by
 unfold dm at h;rcases(show k=0\/k=1\/k=2\/k=3 by omega) with rfl|rfl|rfl|rfl <;> omega
theorem BY{X:L4}{j:Nat}(hj:j < 2)(h:0 < (X j).length):(jt X j 0).length+(jt X j 1).length+1=(X 0).length+(X 1).length/\dm (jt X j)<=dm X:=by
 have h2:=aI (X 2) (hd (X 0));have h3:=aI (X 3) (hd (X 1));rcases(show j=0\/j=1 by omega) with rfl|rfl
 . have e0:(jt X 0 0).length=(X 0).length - 1:=List.length_tail;have e1:(jt X 0 1)=X 1:=rfl;have e2:(jt X 0 2).length=(rem (X 2) (hd (X 0))).length+1:=by show(rem (X 2) (hd (X 0))++ [hd (X 0)]).length=_;simp
   have e3:(jt X 0 3)=X 3:=rfl;unfold dm;rw[e0,e1,e2,e3];omega
 . have e0:(jt X 1 0)=X 0:=rfl;have e1:(jt X 1 1).length=(X 1).length - 1:=List.length_tail;have e2:(jt X 1 2)=X 2:=rfl;have e3:(jt X 1 3).length=(rem (X 3) (hd (X 1))).length+1:=by show(rem (X 3) (hd (X 1))++ [hd (X 1)]).length=_;simp
   unfold dm;rw[e0,e1,e2,e3];omega
theorem Am{X:L4}{p:Nat}{q:Bool}(h:0 < (X 0).length+(X 1).length):(yX X p q 0).length+(yX X p q 1).length+1=(X 0).length+(X 1).length/\dm (yX X p q)<=dm X:=by
 unfold yX;split
 . rename_i hf
   refine BY (by omega) ?_;unfold eW at hf
   by_cases e:0 < (X 0).length
   . exact e
   . rw[decide_eq_false e] at hf;cases hf
 . split
   . rename_i hf h1
     exfalso;apply hf;unfold eW;rw[decide_eq_true (show 0 < (X 0).length by omega),decide_eq_true h1];simp
   . exact BY (by omega) (by omega)
theorem Ff{L:zY}(h:0 < L.length):hd L∈L:=by
 cases L with
 |nil=>cases h
 |cons a L=>exact xa
theorem G8{X:L4}{p:Nat}{q:Bool}(h:0 < (X 0).length+(X 1).length)(h0:∀x∈X 0,x.size<=maxLen)(h1:∀x∈X 1,x.size<=maxLen):(yK X p q).size<=maxLen:=by
 unfold yK
 by_cases hf:eW X p q=true
 . rw[if_pos hf];refine h0 _ (Ff ?_);unfold eW at hf
   by_cases e:0 < (X 0).length
   . exact e
   . rw[decide_eq_false e] at hf;cases hf
 . rw[if_neg hf];refine h1 _ (Ff ?_)
   by_cases e1:0 < (X 1).length
   . exact e1
   . exfalso;apply hf;unfold eW;rw[decide_eq_true (show 0 < (X 0).length by omega),decide_eq_true (show(X 1).length=0 by omega)];simp
def oY(P:Nat->Prop)(v:Value):Nat->Prop:=λk=>P k/\v.ownBlock≠some k
section
variable{w W W':zw}{P:Nat->Prop}{p q mo s base:Nat}{vv:S4}{X:L4}{L:zY}{v v':Value}{r:Sl}{xs:zY}
theorem SW.pQ(h:SW W (oY P v) r L)(hT:ao (λk=>v.ownBlock=some k) W W')(bw:∀g,v'.ownBlock=some g->v.ownBlock=some g\/W.heap.size<=g):SW W' (oY P v') r L:=
 h.same hT.size (λg hg hl=>hT.block g hl hg.2) λg hg hl=>⟨hg.1,λe=>(bw g e).elim hg.2 λh=>by omega⟩
theorem B2.pQ(k:B2 w W (oY P v) p q mo s vv X)(hP:¬P p/\¬P q)(hc:∀i,W'.heap.size<=i->P i)(hT:ao (λk=>v.ownBlock=some k) W W')(bw:∀g,v'.ownBlock=some g->v.ownBlock=some g\/W.heap.size<=g)(hv:∀g,v.ownBlock=some g->g≠p/\g≠q/\w.heap.size<=g)(No:∀g,v'.ownBlock=some g->g < W'.heap.size):B2 w W' (oY P v') p q mo s vv X:=
 ⟨⟨(hT.block p k.b.box.lt λe=>(hv p e).1 rfl).trans k.b.box,λj hj=>(k.b.rows j hj).pQ hT bw,k.b.az.trans (hT.below (λi e=>(hv i e).2.2) k.b.az.size),k.b.low,λh=>hP.1 h.1,λi hi=>⟨hc i hi,λe=>by have:=No i e;omega⟩⟩,
   (hT.block q k.res.lt λe=>(hv q e).2.1 rfl).trans k.res,k.low,k.ne,λh=>hP.2 h.1⟩
theorem An{w:zw}{base q:Nat}{v:Value}{xs:zY}(o:Own w base v xs)(hq:q < base)(mo s:Nat)(vv:S4):Own (cX w q mo s vv) base v xs:=by
 refine o.same λk hk=>?_;have:k≠q:=by have:=(o.lt hk).2;omega
 exact(((((qc _ ⟨q,5,none⟩ _ _ this).trans (qc _ ⟨q,4,none⟩ _ _ this)).trans (qc _ ⟨q,3,none⟩ _ _ this)).trans (qc _ ⟨q,2,none⟩ _ _ this)).trans (qc _ ⟨q,1,none⟩ _ _ this)).trans (qc _ ⟨q,0,none⟩ _ _ this)
theorem B2.GH(r:B2 w W P p q mo s vv X):B2 w W (oY P (.slice none 0 0)) p q mo s vv X:=
 ⟨⟨r.b.box,r.b.rows.wide λk hk _=>⟨hk,by simp[Value.ownBlock]⟩,r.b.az,r.b.low,λh=>r.b.np h.1,λk hk=>⟨r.b.cl k hk,by simp[Value.ownBlock]⟩⟩,r.res,r.low,r.ne,λh=>r.np h.1⟩
end
theorem zU(m s:Nat)(v:S4)(W:zw):(Instr.field 40 (aU m s v) 0).run prog W= .ok (.int .i64 (m:Int)) W:=by kernel_rfl
def Np(w:zw)(P:Nat->Prop)(p q m s:Nat)(Z:L4)(Y:zY)(k:Nat)(v:Value)(W:zw):Prop:=
 ∃(vv:S4) (X:L4) (out:zY),k=(X 0).length+(X 1).length - m/\dm X<=1800/\out.length+(X 0).length+(X 1).length<=1800/\eX s k X=Z/\out++eO s k X=Y/\
  B2 w W (oY (w2 P p q) v) p q m s vv X/\Own W (q+1) v out
section
variable(w:zw)(P:Nat->Prop)(mo s:Nat)(v:S4)(X:L4)(h:R4 w P v X)(hP:Cl w P)
include h hP
set_option maxRecDepth 8000 in
theorem tI(z:Int)(m s':Nat)(hz: -9223372036854775808<=z/\z<=9223372036854775807)(hm:m=z.toNat)(ht:s'=if m < s then m else s)(hs:s<=9223372036854775807)(hl:dm X<=1800)(hf:∀X',X'=eX s' ((X 0).length+(X 1).length - m) X->(X' 0).length+(X' 1).length<=m/\dm X'<=1800):
 Calls prog 69 #[aU mo s v,.int .i64 z] w (λe w'=>∃(v':S4) (u:Value),e= .returned (.tuple #[aU m s' v',u])/\R4 w' P v' (rK (ou (eX s' ((X 0).length+(X 1).length - m) X) m) m)/\Own w' w.heap.size u (eO s' ((X 0).length+(X 1).length - m) X)/\Below w.heap.size w w'):=by
 obtain⟨Z,hZ⟩:=zx (eX s' ((X 0).length+(X 1).length - m) X);obtain⟨Y,hY⟩:=zx (eO s' ((X 0).length+(X 1).length - m) X);have HF:=J (hf Z hZ);rw[← hZ,<-hY];have uW:=J (xy hZ.symm hY.symm);have HM:=zs (m<=9223372036854775807) (by omega);have VN:=zs (s'<=9223372036854775807) (by rw[ht];split <;> omega);have HL:=J hl;have HT:=J ht;have HZ:=J (xy hz hm);clear hZ hY hl hf ht hz hm hs;have R0:=J (bF h hP mo s);clear h hP;have HQ:=zs (w.heap.size < w.heap.size+1) (by omega);go_enter func69,ntmps69;go_upto_region 1 with fail
 generalize(w.alloc (aM mo s v)).alloc (aM 0 0 zV)=W at R0|-;generalize w.heap.size+1=q at R0 HQ|-;obtain⟨p,hp⟩:=zx w.heap.size;rw[← hp] at R0 HQ|-;have bR:=J hp;clear hp;have U:=J (HZ.out.2▸Jp W (λ_=>True) z HZ.out.1:Calls prog 48 #[.int .i64 z] W (CT W (λ_=>True) id m 0 (λ_=>[])));go_wp2_with fail
 refine U.out.mono ?_;rintro e W1 ⟨v9,rfl,_,B1⟩;have Jb:=zU m 0 v9;have R1:=J ((R0.out.below B1).eV m);obtain⟨d0,d1,d2,d3,d4,d5⟩:=(R0.out.below B1).b.box.c;obtain⟨f0,f1,f2,f3,f4,f5⟩:=(R0.out.below B1).b.box.f;clear B1 R0 U;unfold id;go_upto_region 2 with fail
 clear d0 d1 d2 d3 d4 d5 f0 f1 f2 f3 f4 f5 Jb;generalize W1.setCell ⟨p,0,none⟩ (.int .i64 (m:Int))=W2 at R1|-;obtain⟨c0,c1,c2,c3,c4,c5⟩:=R1.out.b.box.c;go_upto_if 18 with fail
 go_cut [] (λW=>B2 w W (w2 P p q) p q m s' v X)
 case first=>
  obtain⟨_,f1,_,_,_,_⟩:=R1.out.b.box.f;cases hb:decide (m < s) with
  |true=>
   have h1:=HT.out;rw[if_pos (of_decide_eq_true hb)] at h1;have jZ:=J h1;clear h1;go_wp2_with fail
   go_meet
   rw[jZ.out];exact R1.out.gd m
  |false=>
   have h1:=HT.out;rw[if_neg (of_decide_eq_false hb)] at h1;have jZ:=J h1;clear h1;go_wp2_with fail
   go_meet
   rw[jZ.out];exact R1.out
 case rest=>
  have jr:=J hcut;clear hcut c0 c1 c2 c3 c4 c5 R1;go_wp2_with fail
  go_loopg [6] ((X 0).length+(X 1).length - m) (λk v W=>Np w P p q m s' Z Y k v W)
  case atStart=>exact⟨v,X,[],rfl,HL.out,by have:=HL.out;unfold dm at this;simp only[List.length_nil];omega,uW.out.1,uW.out.2,jr.out.GH,Own.nil _ _⟩
  case round=>
   obtain⟨v1,X1,out,hk,oa,re,hX,hY,r,ho⟩:=hrel;have l0:(X1 0).length=(v1 0).n:=(r.b.rows 0 (by omega)).len;have l1:(X1 1).length=(v1 1).n:=(r.b.rows 1 (by omega)).len;obtain⟨l,fG⟩:=zx ((v1 0).n+(v1 1).n);have nH:IntKind.i64.wrap (((v1 0).n:Int)+((v1 1).n:Int))=(l:Int):=by unfold dm at oa;rw[IntWalk.i64_in _ (by omega)];omega
   obtain⟨c0,c1,c2,c3,c4,c5⟩:=r.b.box.c;have RR:=J r;have HO:=J ho;obtain⟨Av,cv,rfl⟩:=ho.len;cases gk with
   |zero=>
    have e0:decide (m < l)=false:=by simpa using(show l<=m by omega)
    have hX:X1=Z:=hX;have hY:out=Y:=by rw[← hY];exact(xq out).symm
    subst hX
    have U:=J (ry wr _ m s' v1 X1 r.b.rows r.b.cl HM.out HF.out.1 (λk hk=>by
     exact BW HF.out.2 k hk))
    have EY:=J hY;clear r ho hY hk oa re l0 l1 fG jr uW;go_upto_region 9 with fail
    go_wp2_with fail
    refine U.out.mono ?_;rintro e w3 ⟨v2,rfl,RW,B⟩;have R3:=J (RR.out.below B);have F1:=zs (RB (cX w3 q m s' v2) q m s' v2) R3.out.res.put;have F2:=zs (R4 (cX w3 q m s' v2) P v2 (rK (ou X1 m) m)) ((RW.cX R3.out.np _ _ _).wide λ_ hk _=>hk.1.1);have F3:=J (l8 R3.out.b.az R3.out.low m s' v2);have O3:=J (An (HO.out.below B) (Nat.lt_succ_self q) m s' v2);have Nq:=zs (w.heap.size<=q+1) (Nat.le_succ_of_le R3.out.low);obtain⟨d0,d1,d2,d3,d4,d5⟩:=R3.out.res.c;obtain⟨f0,f1,f2,f3,f4,f5⟩:=R3.out.res.f;clear RW B U RR HO R3 c0 c1 c2 c3 c4 c5;go_wp2_with fail
    (try simp only[Exit.inBlock,Exit.then]);refine bodyPost_ret (bc rfl _ _ _ ⟨q,0,none⟩ _ rfl (bf F1.out)) rfl ?_;refine⟨v2,_,rfl,F2.out,?_,F3.out⟩;rw[← EY.out];exact O3.out.mono Nq.out
   |succ k=>
    have e0:decide (m < l)=true:=by simpa using(show m < l by omega)
    have al:0 < (X1 0).length+(X1 1).length:=by omega
    have yn:=Am (X:=X1) (p:=s') (q:=false) al;have HK:=zs (k=(yX X1 s' false 0).length+(yX X1 s' false 1).length - m/\dm (yX X1 s' false)<=1800/\(out++ [yK X1 s' false]).length+(yX X1 s' false 0).length+(yX X1 s' false 1).length<=1800/\out.length<=1900) (⟨by omega,by omega,by rw[zh];simp only[zv,ql];omega,by omega⟩);have HX:=zs (eX s' k (yX X1 s' false)=Z) hX;have HY:=zs ((out++ [yK X1 s' false])++eO s' k (yX X1 s' false)=Y) (by rw[xp];exact hY);have qJ:=J (G8 (p:=s') (q:=false) al (r.b.rows 0 (by omega)).small (r.b.rows 1 (by omega)).small)
    have U:=J (BS wr _ m s' v1 X1 r.b.rows r.b.cl false VN.out HM.out (λk hk=>by
     exact BW oa k hk))
    clear r ho hX hY hk oa re l0 l1 fG jr uW al yn;go_wp2_with fail
    refine U.out.mono ?_;rintro e W3 ⟨v3,rfl,ly,B3⟩;unfold rJ;have b1:=(zo W3.heap.size W3).alloc (zg _) (aM m s' v3);have b4:=B3.trans (b1.mono B3.size);have R4:=J (RR.out.below b4);have eF:=J (ly.below b1);have O4:=J (HO.out.below b4);have KY:=zs (RB (W3.alloc (aM m s' v3)) W3.heap.size m s' v3) (heap_alloc_new _ _);clear ly B3 b1 b4 U RR HO c0 c1 c2 c3 c4 c5;generalize VO:yK X1 s' false=yk at*;clear VO;go_upto_region 7 with fail
    generalize W3.alloc (aM m s' v3)=W4 at R4 eF O4 KY|-;generalize W3.heap.size=y at KY|-;obtain⟨y0,y1,y2,y3,y4,y5⟩:=KY.out.c;obtain⟨d0,d1,d2,d3,d4,d5⟩:=R4.out.b.box.c;obtain⟨f0,f1,f2,f3,f4,f5⟩:=R4.out.b.box.f;have R5:=J (R4.out.dj (mo':=m) (s':=s') eF.out);have O5:=J (An O4.out (q:=p) (Nat.lt_succ_of_lt HQ.out) m s' v3);clear R4 eF O4;go_upto_region 8 with fail
    clear y0 y1 y2 y3 y4 y5 d0 d1 d2 d3 d4 d5 f0 f1 f2 f3 f4 f5 KY;dsimp only[cX] at R5 O5;generalize(((((W4.setCell ⟨p,0,none⟩ (.int .i64 (m:Int))).setCell ⟨p,1,none⟩ (.int .i64 (s':Int))).setCell ⟨p,2,none⟩ (.slice (v3 0).A (v3 0).n (v3 0).c)).setCell ⟨p,3,none⟩ (.slice (v3 1).A (v3 1).n (v3 1).c)).setCell ⟨p,4,none⟩ (.slice (v3 2).A (v3 2).n (v3 2).c)).setCell ⟨p,5,none⟩ (.slice (v3 3).A (v3 3).n (v3 3).c)=W5 at R5 O5|-;have R5:=R5.out;obtain⟨A9,c9,W9,aB,zW,lX,bw⟩:=jm O5.out yk qJ.out (by have:=HK.out.2.2.2;omega) R5.res.lt;have hT:ao (λk=>(Value.slice Av out.length cv).ownBlock=some k) W5 W9:=⟨lX.os,lX.tape,lX.output,lX.size,λi hi hn=>lX.block i hi λe=>hn e.symm⟩;have IJ:=HQ.out;have R6:=J (R5.pQ (v':= .slice A9 (out.length+1) c9) ⟨λh=>h.2.1 rfl,λh=>h.2.2 rfl⟩ (λi hi=>R5.b.cl i (zr hT.size hi) |>.1) hT bw (λg hg=>by have:=(O5.out.lt hg).2;have:=R5.low;omega) (λg hg=>(zW.lt hg).1));have df:=J aB;have O9:=J zW;clear aB zW lX bw hT R5 O5 IJ;go_wp2_with(at_builtin;refine aq rfl _ _ _ rfl _ _ _ _ rfl rfl df.out ?_)
    go_roundg k
    case measure=>omega
    case rel=>exact⟨v3,_,out++ [yk],HK.out.1,HK.out.2.1,HK.out.2.2.1,HX.out,HY.out,R6.out,O9.out⟩
end
theorem u9(p:Nat)(q:Bool)(R:aW):∀n,aY p q (dy p q R) n=aY p q R (n+1)/\ah (R (lv R p q))::outs p q (dy p q R) n=outs p q R (n+1)
 |0=>⟨rfl,rfl⟩
 |n+1=>by
  have h:=u9 p q R n;refine⟨?_,?_⟩
  . show dy p q (aY p q (dy p q R) n)=dy p q (aY p q R (n+1));rw[h.1]
  . show ah (R (lv R p q))::(outs p q (dy p q R) n++ [ah (aY p q (dy p q R) n (lv (aY p q (dy p q R) n) p q))])=outs p q R (n+1)++ [ah (aY p q R (n+1) (lv (aY p q R (n+1)) p q))];rw[← List.cons_append,h.2,h.1]
theorem Fg{R:aW}{p:Nat}{q:Bool}(h:0 < ai R):ai (dy p q R)+1=ai R:=by
 have e:=(Am (X:=rv R) (p:=p) (q:=q) (by rw[bG,bG];exact h)).1;rw[(Dj (p:=p) (q:=q) h).1,bG,bG,bG,bG] at e;exact e
theorem Jt(p:Nat):∀(n:Nat) (R:aW),n<=ai R->eX p n (rv R)=rv (aY p false R n)/\eO p n (rv R)=outs p false R n
 |0,_,_=>⟨rfl,rfl⟩
 |n+1,R,h=>by
  have y:=Dj (R:=R) (p:=p) (q:=false) (by omega);have c:=Fg (R:=R) (p:=p) (q:=false) (by omega);have i:=Jt p n (dy p false R) (by omega);have f:=u9 p false R n;refine⟨?_,?_⟩
  . show eX p n (yX (rv R) p false)=_;rw[y.1,i.1,f.1]
  . show yK (rv R) p false::eO p n (yX (rv R) p false)=_;rw[y.1,y.2.1,i.2,f.2]
end AR
namespace AR
open Go.RowKit Sg
abbrev bq(h:Bool)(v:zy)(e:Bool):Obj:= .cells #[.bool h,.string v,.bool e] 49
abbrev gE(h:Bool)(v:zy)(e:Bool):Value:= .agg #[.bool h,.string v,.bool e]
def ZB(w:zw)(p:Nat)(h:Bool)(v:zy)(e:Bool):Prop:=w.heap[p]?=some (.cells #[.bool h,.string v,.bool e] 49 (0,0))
section
variable{w w' W W':zw}{p:Nat}{h:Bool}{v:zy}{e:Bool}
theorem ZB.lt(k:ZB w p h v e):p < w.heap.size:=(Array.getElem?_eq_some_iff.1 k).1
theorem ZB.c(k:ZB w p h v e):w.cell? ⟨p,0,none⟩=some (.bool h)/\w.cell? ⟨p,1,none⟩=some (.string v)/\w.cell? ⟨p,2,none⟩=some (.bool e):=⟨cell_of_row w _ 0 _ _ _ k,cell_of_row w _ 1 _ _ _ k,cell_of_row w _ 2 _ _ _ k⟩
theorem ZB.f(k:ZB w p h v e):w.frozen? ⟨p,0,none⟩=false/\w.frozen? ⟨p,1,none⟩=false/\w.frozen? ⟨p,2,none⟩=false:=⟨frozen_of_row w _ 0 _ _ k,frozen_of_row w _ 1 _ _ k,frozen_of_row w _ 2 _ _ k⟩
theorem ZB.below(k:ZB w p h v e)(hb:Below w.heap.size w w'):ZB w' p h v e:=(hb.block p k.lt).trans k
theorem ZB.other(k:ZB w p h v e){z:Addr}(hz:p≠z.block)(u:Value):ZB (w.setCell z u) p h v e:=(qc _ _ _ _ hz).trans k
theorem ZB.dO(k:ZB w p h v e)(b:Bool):ZB (w.setCell ⟨p,0,none⟩ (.bool b)) p b v e:=by
 unfold ZB at*;rw[heap_setCell_same _ _ _ _ _ _ k];rfl
theorem ZB.eR(k:ZB w p h v e)(b:zy):ZB (w.setCell ⟨p,1,none⟩ (.string b)) p h b e:=by
 unfold ZB at*;rw[heap_setCell_same _ _ _ _ _ _ k];rfl
theorem ZB.fg(k:ZB w p h v e)(b:Bool):ZB (w.setCell ⟨p,2,none⟩ (.bool b)) p h v b:=by
 unfold ZB at*;rw[heap_setCell_same _ _ _ _ _ _ k];rfl
theorem cL(k:ZB w p h v e):(loadVar 49 ⟨p,0,none⟩).run prog w= .ok (gE h v e) w:=by
 obtain⟨k0,k1,k2⟩:=k.c;unfold loadVar;go_simp
end
theorem aP{fn:Func}{a u:Tmp}{ty tu:TypeId}(h:fn.results= #[.cell a ty,.cell u tu])(tmps:Array Value)(P:Program)(w:zw)(p q:Addr)(v x:Value)(ha:tmps.getD a undef= .pointer (some p))(hv:(loadVar ty p).run P w= .ok v w)
 (hu:tmps.getD u undef= .pointer (some q)) (hx:(loadVar tu q).run P w= .ok x w):(results fn tmps).run P w= .ok (.tuple #[v,x]) w:=by
 rw[qt] at ha hu;simp[results,h,ha,hu,asAddr,hv,hx]
theorem aG(w:zw):Below w.heap.size w w.drew:=⟨rfl,rfl,rfl,zg _,λ_ _=>rfl⟩
abbrev gM(w:zw)(p:Nat)(h:Bool)(v:zy)(e:Bool):zw:=((w.setCell ⟨p,0,none⟩ (.bool h)).setCell ⟨p,1,none⟩ (.string v)).setCell ⟨p,2,none⟩ (.bool e)
def wq(P:Nat->Prop)(n:Nat):Nat->Prop:=λk=>P k/\¬(n<=k/\k < n+4)
structure RQ(w W:zw)(P:Nat->Prop)(p q r x mo s:Nat)(v:S4)(X:L4)(h:Bool)(vc:zy)(e:Bool):Prop where
 two:B2 w W P p q mo s v X
 res:ZB W r false ⟨#[]⟩ false
 aH:ZB W x h vc e
 np:¬P r/\¬P x
 ne:r≠p/\r≠q/\x≠p/\x≠q/\r≠x
 low:w.heap.size<=r/\w.heap.size<=x
section
variable{w W W':zw}{P P0:Nat->Prop}{p q r x mo s:Nat}{v v':S4}{X X':L4}{h e:Bool}{vc:zy}{u:Sl}{L:zY}
theorem RQ.start(k:R4 w P v X)(hP:Cl w P)(mo s:Nat):RQ w ((((w.alloc (aM mo s v)).alloc (aM 0 0 zV)).alloc (bq false ⟨#[]⟩ false)).alloc (bq false ⟨#[]⟩ false)) (wq P w.heap.size) w.heap.size (w.heap.size+1) (w.heap.size+1+1) (w.heap.size+1+1+1) mo s v X false ⟨#[]⟩ false:=by
 have z1:(w.alloc (aM mo s v)).heap.size=w.heap.size+1:=by simp
 have z2:((w.alloc (aM mo s v)).alloc (aM 0 0 zV)).heap.size=w.heap.size+1+1:=by simp
 have z3:(((w.alloc (aM mo s v)).alloc (aM 0 0 zV)).alloc (bq false ⟨#[]⟩ false)).heap.size=w.heap.size+1+1+1:=by simp
 have b1:=(zo w.heap.size w).alloc (zg _) (aM mo s v);have b2:=b1.alloc b1.size (aM 0 0 zV);have b3:=b2.alloc b2.size (bq false ⟨#[]⟩ false);have b4:=b3.alloc b3.size (bq false ⟨#[]⟩ false);have q1:=heap_alloc_new w (aM mo s v);have q2:=heap_alloc_new (w.alloc (aM mo s v)) (aM 0 0 zV);have q3:=heap_alloc_new ((w.alloc (aM mo s v)).alloc (aM 0 0 zV)) (bq false ⟨#[]⟩ false);have q4:=heap_alloc_new (((w.alloc (aM mo s v)).alloc (aM 0 0 zV)).alloc (bq false ⟨#[]⟩ false)) (bq false ⟨#[]⟩ false);rw[z1] at q2;rw[z2] at q3;rw[z3] at q4;refine⟨⟨⟨?_,(k.wide λk hk hl=>⟨hk,by omega⟩).below b4,b4,zg _,λh=>h.2 ⟨by omega,by omega⟩,λk hk=>?_⟩,?_,by omega,by omega,λh=>h.2 ⟨by omega,by omega⟩⟩,?_,q4,⟨λh=>h.2 ⟨by omega,by omega⟩,λh=>h.2 ⟨by omega,by omega⟩⟩,⟨by omega,by omega,by omega,by omega,by omega⟩,⟨by omega,by omega⟩⟩
 . exact((qf _ _ _ (by rw[z3];omega)).trans ((qf _ _ _ (by rw[z2];omega)).trans (qf _ _ _ (by rw[z1];omega)))).trans q1
 . have:w.heap.size+1+1+1+1<=k:=by simpa using hk
   exact⟨hP k (by omega),by omega⟩
 . exact((qf _ _ _ (by rw[z3];omega)).trans (qf _ _ _ (by rw[z2];omega))).trans q2
 . exact(qf _ _ _ (by rw[z3];omega)).trans q3
theorem RQ.below(k:RQ w W P p q r x mo s v X h vc e)(hb:Below W.heap.size W W'):RQ w W' P p q r x mo s v X h vc e:=⟨k.two.below hb,k.res.below hb,k.aH.below hb,k.np,k.ne,k.low⟩
theorem RQ.dO(k:RQ w W P p q r x mo s v X h vc e)(l:SW W P u L):RQ w (W.setCell ⟨p,2,none⟩ (.slice u.A u.n u.c)) P p q r x mo s (af v 0 u) (af X 0 L) h vc e:=
 ⟨k.two.dO l,k.res.other (z:=⟨p,2,none⟩) k.ne.1 _,k.aH.other (z:=⟨p,2,none⟩) k.ne.2.2.1 _,k.np,k.ne,k.low⟩
theorem RQ.eR(k:RQ w W P p q r x mo s v X h vc e)(l:SW W P u L):RQ w (W.setCell ⟨p,3,none⟩ (.slice u.A u.n u.c)) P p q r x mo s (af v 1 u) (af X 1 L) h vc e:=
 ⟨k.two.eR l,k.res.other (z:=⟨p,3,none⟩) k.ne.1 _,k.aH.other (z:=⟨p,3,none⟩) k.ne.2.2.1 _,k.np,k.ne,k.low⟩
theorem RQ.fg(k:RQ w W P p q r x mo s v X h vc e)(l:SW W P u L):RQ w (W.setCell ⟨p,4,none⟩ (.slice u.A u.n u.c)) P p q r x mo s (af v 2 u) (af X 2 L) h vc e:=
 ⟨k.two.fg l,k.res.other (z:=⟨p,4,none⟩) k.ne.1 _,k.aH.other (z:=⟨p,4,none⟩) k.ne.2.2.1 _,k.np,k.ne,k.low⟩
theorem RQ.nO(k:RQ w W P p q r x mo s v X h vc e)(l:SW W P u L):RQ w (W.setCell ⟨p,5,none⟩ (.slice u.A u.n u.c)) P p q r x mo s (af v 3 u) (af X 3 L) h vc e:=
 ⟨k.two.nO l,k.res.other (z:=⟨p,5,none⟩) k.ne.1 _,k.aH.other (z:=⟨p,5,none⟩) k.ne.2.2.1 _,k.np,k.ne,k.low⟩
theorem RQ.gd(k:RQ w W P p q r x mo s v X h vc e)(u:Nat):RQ w (W.setCell ⟨p,1,none⟩ (.int .i64 (u:Int))) P p q r x mo u v X h vc e:=
 ⟨k.two.gd u,k.res.other (z:=⟨p,1,none⟩) k.ne.1 _,k.aH.other (z:=⟨p,1,none⟩) k.ne.2.2.1 _,k.np,k.ne,k.low⟩
theorem B2.Ap(k:B2 w W P p q mo s v X)(hx:¬P x)(h1:x≠p)(h2:x≠q)(hl:w.heap.size<=x)(i:Nat)(u:Value):B2 w (W.setCell ⟨x,i,none⟩ u) P p q mo s v X:=
 ⟨⟨k.b.box.other (x:=⟨x,i,none⟩) (qa h1) u,k.b.rows.set (q:=⟨x,i,none⟩) hx u,k.b.az.setCell (p:=⟨x,i,none⟩) hl _,k.b.low,k.b.np,k.b.nG u⟩,k.res.other (x:=⟨x,i,none⟩) (qa h2) u,k.low,k.ne,k.np⟩
theorem RQ.z0(k:RQ w W P p q r x mo s v X h vc e)(b:Bool):RQ w (W.setCell ⟨x,0,none⟩ (.bool b)) P p q r x mo s v X b vc e:=
 ⟨k.two.Ap k.np.2 k.ne.2.2.1 k.ne.2.2.2.1 k.low.2 0 _,k.res.other (z:=⟨x,0,none⟩) k.ne.2.2.2.2 _,k.aH.dO b,k.np,k.ne,k.low⟩
theorem RQ.z1(k:RQ w W P p q r x mo s v X h vc e)(b:zy):RQ w (W.setCell ⟨x,1,none⟩ (.string b)) P p q r x mo s v X h b e:=
 ⟨k.two.Ap k.np.2 k.ne.2.2.1 k.ne.2.2.2.1 k.low.2 1 _,k.res.other (z:=⟨x,1,none⟩) k.ne.2.2.2.2 _,k.aH.eR b,k.np,k.ne,k.low⟩
theorem RQ.z2(k:RQ w W P p q r x mo s v X h vc e)(b:Bool):RQ w (W.setCell ⟨x,2,none⟩ (.bool b)) P p q r x mo s v X h vc b:=
 ⟨k.two.Ap k.np.2 k.ne.2.2.1 k.ne.2.2.2.1 k.low.2 2 _,k.res.other (z:=⟨x,2,none⟩) k.ne.2.2.2.2 _,k.aH.fg b,k.np,k.ne,k.low⟩
theorem ZB.dR(k:ZB W r h vc e)(al:r≠p)(mo s:Nat)(v:S4):ZB (cX W p mo s v) r h vc e:=
 (((((k.other (z:=⟨p,0,none⟩) al _).other (z:=⟨p,1,none⟩) al _).other (z:=⟨p,2,none⟩) al _).other (z:=⟨p,3,none⟩) al _).other (z:=⟨p,4,none⟩) al _).other (z:=⟨p,5,none⟩) al _
theorem RQ.dj{mo' s':Nat}(k:RQ w W P p q r x mo s v X h vc e)(l:R4 W P v' X'):RQ w (cX W p mo' s' v') P p q r x mo' s' v' X' h vc e:=
 ⟨k.two.dj l,k.res.dR k.ne.1 _ _ _,k.aH.dR k.ne.2.2.1 _ _ _,k.np,k.ne,k.low⟩
theorem RQ.out(k:RQ w W P p q r x mo s v X h vc e)(hp:∀k,P k->P0 k):
 RB (gM (cX W q mo s v) r h vc e) q mo s v/\ZB (gM (cX W q mo s v) r h vc e) r h vc e/\R4 (gM (cX W q mo s v) r h vc e) P0 v X/\Below w.heap.size w (gM (cX W q mo s v) r h vc e):=by
 have o1:RB (cX W q mo s v) q mo s v:=k.two.res.put;have o2:R4 (cX W q mo s v) P v X:=k.two.b.rows.cX k.two.np _ _ _;have o3:Below w.heap.size w (cX W q mo s v):=l8 k.two.b.az k.two.low _ _ _;have z:=k.res.dR k.ne.2.1 mo s v;have mH:=k.ne.2.1;have nr:=k.np.1;have lr:=k.low.1;generalize cX W q mo s v=V at o1 o2 o3 z|-
 exact⟨((o1.other (x:=⟨r,0,none⟩) (qa mH) _).other (x:=⟨r,1,none⟩) (qa mH) _).other (x:=⟨r,2,none⟩) (qa mH) _,((z.dO h).eR vc).fg e,
  (((o2.set (q:=⟨r,0,none⟩) nr (.bool h)).set (q:=⟨r,1,none⟩) nr (.string vc)).set (q:=⟨r,2,none⟩) nr (.bool e)).wide λk hk _=>hp k hk,
  ((o3.setCell (p:=⟨r,0,none⟩) lr _).setCell (p:=⟨r,1,none⟩) lr _).setCell (p:=⟨r,2,none⟩) lr _⟩
end
theorem pg{X:L4}{mo p:Nat}{q:Bool}:dm (mX X mo p q)<=dm X:=by
 unfold mX;split
 . exact zg _
 . by_cases h:0 < (X 0).length+(X 1).length
   . exact(Am h).2
   . have e:yX X p q=X:=by
      unfold yX;rw[if_neg,if_pos (by omega)];unfold eW;rw[decide_eq_false (show ¬0 < (X 0).length by omega)];simp
     rw[e];exact zg _
theorem bA{X:L4}{n:Nat}(h:dm X<=n)(k:Nat)(hk:k < 4):(X k).length<=n:=by
 unfold dm at h;rcases(show k=0\/k=1\/k=2\/k=3 by omega) with rfl|rfl|rfl|rfl <;> omega
section
variable(w:zw)(P:Nat->Prop)(mo s:Nat)(v:S4)(X:L4)(h:R4 w P v X)(hP:Cl w P)(key:zy)(fD:key.size<=maxLen)(aF:Bool)(hh:(aw (X 0) key||aw (X 1) key)=aF)(hm:mo<=1000000000000)(b7:s<=mo)(bk:dm X<=1700)
include h hP fD hh hm b7 bk
theorem ku(h0:mo=0):Calls prog 54 #[aU mo s v,.string key] w (CT w P (λx=> .tuple #[x,gE aF ⟨#[]⟩ false]) mo s X):=by
 have e9:((mo:Int)==0)=true:=by rw[h0];rfl
 clear h0;have iL:=J fD;have jE:=J bk;have HM:=zs (mo<=9223372036854775807) (by omega);have HS:=zs (s<=9223372036854775807) (by omega);have qJ:=J (xy hm b7);clear fD bk hm b7;have R0:=J (RQ.start h hP mo s);clear h hP;go_enter func54,ntmps54;go_upto_region 2 with fail
 generalize(((w.alloc (aM mo s v)).alloc (aM 0 0 zV)).alloc (bq false ⟨#[]⟩ false)).alloc (bq false ⟨#[]⟩ false)=W at R0|-;have bB:=zs (∀k,wq P w.heap.size k->P k) (λk hk=>hk.1);generalize wq P w.heap.size=Q at R0 bB;generalize w.heap.size+1+1+1=x at R0|-;generalize w.heap.size+1+1=r at R0|-;generalize w.heap.size+1=q at R0|-;obtain⟨p,hp⟩:=zx w.heap.size;rw[← hp] at R0|-;have bR:=J hp;clear hp;obtain⟨c0,c1,c2,c3,c4,c5⟩:=R0.out.two.b.box.c;have U:=J (et W _ mo s v X R0.out.two.b.rows R0.out.two.b.cl key);rw[hh] at U;go_wp2_with fail
 refine U.out.mono ?_;rintro e W1 ⟨rfl,B1⟩;have R1:=J ((R0.out.below B1).z0 aF);obtain⟨x0,_,_⟩:=(R0.out.below B1).aH.c;obtain⟨g0,_,_⟩:=(R0.out.below B1).aH.f;clear c0 c1 c2 c3 c4 c5 B1 R0 U;go_upto_region 3 with fail
 clear x0 g0;generalize W1.setCell ⟨x,0,none⟩ (.bool aF)=W2 at R1|-;obtain⟨c0,c1,c2,c3,c4,c5⟩:=R1.out.two.b.box.c;(try go_upto_region 4 with fail);clear c0 c1 c2 c3 c4 c5;obtain⟨c0,c1,c2,c3,c4,c5⟩:=R1.out.two.b.box.c;obtain⟨x0,x1,x2⟩:=R1.out.aH.c;obtain⟨d0,d1,d2,d3,d4,d5⟩:=R1.out.two.res.c;obtain⟨f0,f1,f2,f3,f4,f5⟩:=R1.out.two.res.f;obtain⟨r0,r1,r2⟩:=R1.out.res.c;obtain⟨g0,g1,g2⟩:=R1.out.res.f;obtain⟨dC,dD,bl,du,dE⟩:=R1.out.ne;have dg:p≠q:=R1.out.two.ne;have gD:q≠p:=qa dg;have jd:p≠r:=qa dC;have je:q≠r:=qa dD;have cW:p≠x:=qa bl;have ik:q≠x:=qa du;have jf:x≠r:=qa dE;go_region;have F:=J (R1.out.out (P0:=P) bB.out);go_wp2_with fail
 (try simp only[Exit.inBlock,Exit.then]);refine bodyPost_ret (aP rfl _ _ _ ⟨q,0,none⟩ ⟨r,0,none⟩ _ _ rfl (bf (F.out.1.below (aG _))) rfl (cL (F.out.2.1.below (aG _)))) rfl ?_;exact⟨_,rfl,F.out.2.2.1.below (aG _),F.out.2.2.2.trans ((aG _).mono F.out.2.2.2.size)⟩
theorem qW(h0:mo≠0)(h1:aF=true):Calls prog 54 #[aU mo s v,.string key] w (CT w P (λx=> .tuple #[x,gE true ⟨#[]⟩ false]) mo s (af (iK X key) 1 (rem (X 1) key++ [key]))):=by
 subst h1;have e9:((mo:Int)==0)=false:=by simp;omega
 have e8:(mo==0)=false:=by simp;omega
 clear h0;have iL:=J fD;have jE:=J bk;have HM:=zs (mo<=9223372036854775807) (by omega);have HS:=zs (s<=9223372036854775807) (by omega);have qJ:=J (xy hm b7);clear fD bk hm b7;have R0:=J (RQ.start h hP mo s);clear h hP;go_enter func54,ntmps54;go_upto_region 2 with fail
 generalize(((w.alloc (aM mo s v)).alloc (aM 0 0 zV)).alloc (bq false ⟨#[]⟩ false)).alloc (bq false ⟨#[]⟩ false)=W at R0|-;have bB:=zs (∀k,wq P w.heap.size k->P k) (λk hk=>hk.1);generalize wq P w.heap.size=Q at R0 bB;generalize w.heap.size+1+1+1=x at R0|-;generalize w.heap.size+1+1=r at R0|-;generalize w.heap.size+1=q at R0|-;obtain⟨p,hp⟩:=zx w.heap.size;rw[← hp] at R0|-;have bR:=J hp;clear hp;obtain⟨c0,c1,c2,c3,c4,c5⟩:=R0.out.two.b.box.c;have U:=J (et W _ mo s v X R0.out.two.b.rows R0.out.two.b.cl key);rw[hh] at U;go_wp2_with fail
 refine U.out.mono ?_;rintro e W1 ⟨rfl,B1⟩;have R1:=J ((R0.out.below B1).z0 true);obtain⟨x0,_,_⟩:=(R0.out.below B1).aH.c;obtain⟨g0,_,_⟩:=(R0.out.below B1).aH.f;clear c0 c1 c2 c3 c4 c5 B1 R0 U;go_upto_region 3 with fail
 clear x0 g0;generalize W1.setCell ⟨x,0,none⟩ (.bool true)=W2 at R1|-;obtain⟨c0,c1,c2,c3,c4,c5⟩:=R1.out.two.b.box.c;obtain⟨x0,x1,x2⟩:=R1.out.aH.c;go_upto_region 6 with fail
 clear c0 c1 c2 c3 c4 c5 x0 x1 x2 e8 e9;have lS:=zs (∀k,k < 4->(X k).length<=1900) (λk hk=>zr (bA jE.out k hk) (by omega));have U:=J (eu _ _ mo s v X R1.out.two.b.rows R1.out.two.b.cl key lS.out);obtain⟨c0,c1,c2,c3,c4,c5⟩:=R1.out.two.b.box.c;go_wp2_with fail
 refine U.out.mono ?_;rintro e W3 ⟨v9,rfl,hr,hB⟩;have aD:=R1.out.below hB;have R2:=J (aD.dj (mo':=mo) (s':=s) hr);obtain⟨d0,d1,d2,d3,d4,d5⟩:=aD.two.b.box.c;obtain⟨f0,f1,f2,f3,f4,f5⟩:=aD.two.b.box.f;clear c0 c1 c2 c3 c4 c5 hr hB aD U R1;go_upto_region 7 with fail
 clear d0 d1 d2 d3 d4 d5 f0 f1 f2 f3 f4 f5;dsimp only[cX] at R2;generalize(((((W3.setCell ⟨p,0,none⟩ (.int .i64 (mo:Int))).setCell ⟨p,1,none⟩ (.int .i64 (s:Int))).setCell ⟨p,2,none⟩ (.slice (v9 0).A (v9 0).n (v9 0).c)).setCell ⟨p,3,none⟩ (.slice (v9 1).A (v9 1).n (v9 1).c)).setCell ⟨p,4,none⟩ (.slice (v9 2).A (v9 2).n (v9 2).c)).setCell ⟨p,5,none⟩ (.slice (v9 3).A (v9 3).n (v9 3).c)=W4 at R2|-;have rL:=zs ((iK X key 1).length<=1900) (zr (aI _ _) (lS.out 1 (by omega)));obtain⟨v1,v2,w1,w2,r1,r2,o2,b1,b2⟩:=hE (R2.out.two.b.rows 1 (by omega)) key iL.out rL.out;obtain⟨r9,rfl,k9⟩:=SW.made o2 R2.out.two.b.cl;have RA:=R2.out.below b2;have R3:=J (RA.eR k9);obtain⟨c0,c1,c2,c3,c4,c5⟩:=(R2.out.below ((zo W4.heap.size W4).alloc (zg _) (.cells #[] 9))).two.b.box.c;obtain⟨d0,d1,d2,d3,d4,d5⟩:=RA.two.b.box.c;obtain⟨f0,f1,f2,f3,f4,f5⟩:=RA.two.b.box.f;have fK:=J r1;have dY:=zs (_=_) r2;clear r1 r2 o2 b1 b2 k9 RA R2;go_upto_region 8 with(at_builtin;first|(refine aq rfl _ _ _ rfl _ _ _ _ rfl rfl fK.out ?_)|(refine aq rfl _ _ _ rfl _ _ _ _ rfl rfl dY.out ?_))
 clear c0 c1 c2 c3 c4 c5 d0 d1 d2 d3 d4 d5 f0 f1 f2 f3 f4 f5 fK dY;generalize w2.setCell ⟨p,3,none⟩ (.slice r9.A r9.n r9.c)=W9 at R3|-;obtain⟨c0,c1,c2,c3,c4,c5⟩:=R3.out.two.b.box.c;obtain⟨x0,x1,x2⟩:=R3.out.aH.c;obtain⟨d0,d1,d2,d3,d4,d5⟩:=R3.out.two.res.c;obtain⟨f0,f1,f2,f3,f4,f5⟩:=R3.out.two.res.f;obtain⟨r0,r1,r2⟩:=R3.out.res.c;obtain⟨g0,g1,g2⟩:=R3.out.res.f;obtain⟨dC,dD,bl,du,dE⟩:=R3.out.ne;have dg:p≠q:=R3.out.two.ne;have gD:q≠p:=qa dg;have jd:p≠r:=qa dC;have je:q≠r:=qa dD;have cW:p≠x:=qa bl;have ik:q≠x:=qa du;have jf:x≠r:=qa dE;go_region;have F:=J (R3.out.out (P0:=P) bB.out);go_wp2_with fail
 (try simp only[Exit.inBlock,Exit.then]);refine bodyPost_ret (aP rfl _ _ _ ⟨q,0,none⟩ ⟨r,0,none⟩ _ _ rfl (bf (F.out.1.below (aG _))) rfl (cL (F.out.2.1.below (aG _)))) rfl ?_;exact⟨_,rfl,F.out.2.2.1.below (aG _),F.out.2.2.2.trans ((aG _).mono F.out.2.2.2.size)⟩
end
end AR
namespace AR
open Go.RowKit Sg
def xB(mo s d:Nat):Nat:=if mo < s+d then mo else s+d
theorem RQ.zz{w W:zw}{P:Nat->Prop}{p q r x mo s:Nat}{v:S4}{X:L4}{h e:Bool}{vc:zy}(k:RQ w W P p q r x mo s v X h vc e)(z:Int):(W.setCell ⟨p,1,none⟩ (.int .i64 z)).drew.cell? ⟨p,4,none⟩=some (.slice (v 2).A (v 2).n (v 2).c)/\(W.setCell ⟨p,1,none⟩ (.int .i64 z)).drew.cell? ⟨p,5,none⟩=some (.slice (v 3).A (v 3).n (v 3).c):=by
 have h1:(W.setCell ⟨p,1,none⟩ (.int .i64 z)).drew.heap[p]?=some (.cells #[.int .i64 (mo:Int),.int .i64 z,.slice (v 0).A (v 0).n (v 0).c,.slice (v 1).A (v 1).n (v 1).c,.slice (v 2).A (v 2).n (v 2).c,.slice (v 3).A (v 3).n (v 3).c] 40 (0,0)):=by
  have:=k.two.b.box;unfold RB at this;show(W.setCell ⟨p,1,none⟩ (.int .i64 z)).heap[p]?=_
  rw[heap_setCell_same _ _ _ _ _ _ this];rfl
 exact⟨cell_of_row _ _ 4 _ _ _ h1,cell_of_row _ _ 5 _ _ _ h1⟩
theorem RQ.TY{w W:zw}{P:Nat->Prop}{p q r x mo s:Nat}{v:S4}{X:L4}{h e:Bool}{vc:zy}(k:RQ w W.drew P p q r x mo s v X h vc e)(z:Int):(W.setCell ⟨p,1,none⟩ (.int .i64 z)).drew.cell? ⟨p,0,none⟩=some (.int .i64 (mo:Int))/\(W.setCell ⟨p,1,none⟩ (.int .i64 z)).drew.cell? ⟨p,1,none⟩=some (.int .i64 z)/\(W.setCell ⟨p,1,none⟩ (.int .i64 z)).drew.cell? ⟨p,2,none⟩=some (.slice (v 0).A (v 0).n (v 0).c)/\(W.setCell ⟨p,1,none⟩ (.int .i64 z)).drew.cell? ⟨p,3,none⟩=some (.slice (v 1).A (v 1).n (v 1).c)/\(W.setCell ⟨p,1,none⟩ (.int .i64 z)).drew.cell? ⟨p,4,none⟩=some (.slice (v 2).A (v 2).n (v 2).c)/\(W.setCell ⟨p,1,none⟩ (.int .i64 z)).drew.cell? ⟨p,5,none⟩=some (.slice (v 3).A (v 3).n (v 3).c)/\
 (W.setCell ⟨p,1,none⟩ (.int .i64 z)).drew.frozen? ⟨p,0,none⟩=false/\(W.setCell ⟨p,1,none⟩ (.int .i64 z)).drew.frozen? ⟨p,1,none⟩=false/\(W.setCell ⟨p,1,none⟩ (.int .i64 z)).drew.frozen? ⟨p,2,none⟩=false/\(W.setCell ⟨p,1,none⟩ (.int .i64 z)).drew.frozen? ⟨p,3,none⟩=false/\(W.setCell ⟨p,1,none⟩ (.int .i64 z)).drew.frozen? ⟨p,4,none⟩=false/\(W.setCell ⟨p,1,none⟩ (.int .i64 z)).drew.frozen? ⟨p,5,none⟩=false:=by
 have h1:(W.setCell ⟨p,1,none⟩ (.int .i64 z)).drew.heap[p]?=some (.cells #[.int .i64 (mo:Int),.int .i64 z,.slice (v 0).A (v 0).n (v 0).c,.slice (v 1).A (v 1).n (v 1).c,.slice (v 2).A (v 2).n (v 2).c,.slice (v 3).A (v 3).n (v 3).c] 40 (0,0)):=by
  have:=k.two.b.box;unfold RB at this;show(W.setCell ⟨p,1,none⟩ (.int .i64 z)).heap[p]?=_
  rw[heap_setCell_same W _ _ _ _ _ this];rfl
 exact⟨cell_of_row _ _ 0 _ _ _ h1,cell_of_row _ _ 1 _ _ _ h1,cell_of_row _ _ 2 _ _ _ h1,cell_of_row _ _ 3 _ _ _ h1,cell_of_row _ _ 4 _ _ _ h1,cell_of_row _ _ 5 _ _ _ h1,frozen_of_row _ _ 0 _ _ h1,frozen_of_row _ _ 1 _ _ h1,frozen_of_row _ _ 2 _ _ h1,frozen_of_row _ _ 3 _ _ h1,frozen_of_row _ _ 4 _ _ h1,frozen_of_row _ _ 5 _ _ h1⟩
def RZ(w W:zw)(P:Nat->Prop)(p q r x mo s:Nat)(v:S4)(X:L4)(z:Int):Prop:=∃W9,W=(W9.setCell ⟨p,1,none⟩ (.int .i64 z)).drew/\RQ w W9 P p q r x mo s v X false ⟨#[]⟩ false
theorem RQ.Qa{w W:zw}{P:Nat->Prop}{p q r x mo s:Nat}{v:S4}{X:L4}{h e:Bool}{vc:zy}(k:RQ w W P p q r x mo s v X h vc e)(z:Int)(u:Nat):RQ w ((W.setCell ⟨p,1,none⟩ (.int .i64 z)).setCell ⟨p,1,none⟩ (.int .i64 (u:Int))) P p q r x mo u v X h vc e:=by
 have hb:=k.two.b;have np:=hb.np;have lo:=hb.low
 have b1:RB ((W.setCell ⟨p,1,none⟩ (.int .i64 z)).setCell ⟨p,1,none⟩ (.int .i64 (u:Int))) p mo u v:=by
  have h1:(W.setCell ⟨p,1,none⟩ (.int .i64 z)).heap[p]?=some (.cells #[.int .i64 (mo:Int),.int .i64 z,.slice (v 0).A (v 0).n (v 0).c,.slice (v 1).A (v 1).n (v 1).c,.slice (v 2).A (v 2).n (v 2).c,.slice (v 3).A (v 3).n (v 3).c] 40 (0,0)):=by
   have:=hb.box;unfold RB at this;rw[heap_setCell_same _ _ _ _ _ _ this];rfl
  unfold RB;rw[heap_setCell_same _ _ _ _ _ _ h1];rfl
 exact⟨⟨⟨b1,(hb.rows.set (q:=⟨p,1,none⟩) np _).set (q:=⟨p,1,none⟩) np _,(hb.az.setCell (p:=⟨p,1,none⟩) lo _).setCell (p:=⟨p,1,none⟩) lo _,lo,np,λk hk=>hb.cl k (by simpa[eQ] using hk)⟩,(k.two.res.other (x:=⟨p,1,none⟩) (qa k.two.ne) _).other (x:=⟨p,1,none⟩) (qa k.two.ne) _,k.two.low,k.two.ne,k.two.np⟩,
  (k.res.other (z:=⟨p,1,none⟩) k.ne.1 _).other (z:=⟨p,1,none⟩) k.ne.1 _,(k.aH.other (z:=⟨p,1,none⟩) k.ne.2.2.1 _).other (z:=⟨p,1,none⟩) k.ne.2.2.1 _,k.np,k.ne,k.low⟩
section
variable(w:zw)(P:Nat->Prop)(mo s:Nat)(v:S4)(X:L4)(h:R4 w P v X)(hP:Cl w P)(key:zy)(fD:key.size<=maxLen)(aF:Bool)(hh:(aw (X 0) key||aw (X 1) key)=aF)(hm:mo<=1000000000000)(b7:s<=mo)(bk:dm X<=1700)
include h hP fD hh hm b7 bk
theorem Qb(h0:mo≠0)(h1:aF=false)(hg:aw (X 2) key=true):Calls prog 54 #[aU mo s v,.string key] w (CT w P (λx=> .tuple #[x,gE false (mK X mo (xB mo s (mr (X 3).length (X 2).length)) false) (mB X mo (xB mo s (mr (X 3).length (X 2).length)) false)]) mo (xB mo s (mr (X 3).length (X 2).length)) (af (iK (mX X mo (xB mo s (mr (X 3).length (X 2).length)) false) key) 1 (rem (mX X mo (xB mo s (mr (X 3).length (X 2).length)) false 1) key++ [key]))):=by
 subst h1;obtain⟨d,hd⟩:=zx (mr (X 3).length (X 2).length);have rj:0 < (X 2).length:=List.length_pos_iff.2 λe=>by rw[e] at hg;cases hg
 have DS:d<=2000:=by
  have:=(h 3 (by omega)).le;have:=Nat.div_le_self (X 3).length (X 2).length;rw[hd];unfold mr;split <;> omega
 have HG:=J hg;have lA:=(h 3 (by omega)).len;have lB:=(h 2 (by omega)).len;rw[lA,lB] at hd;rw[lA,lB,<-hd];rw[lB] at rj;have U9:=J (λW=>(show Calls prog 97 #[.int .i64 ((v 3).n:Int),.int .i64 ((v 2).n:Int)] W (λe w'=>e= .returned (.int .i64 (d:Int))/\W=w') from by have:=Fa W (v 3).n (v 2).n rj (by have:=(h 3 (by omega)).le;omega) (by have:=(h 2 (by omega)).le;omega);rw[← hd] at this;exact this));obtain⟨t,ht⟩:=zx (s+d);have NZ:IntKind.i64.wrap ((s:Int)+(d:Int))=(t:Int):=by rw[qi _ (by omega)];omega
 obtain⟨sp,sJ⟩:=zx (xB mo s d);have TZ:sp<=mo:=by rw[sJ];unfold xB;split <;> omega
 have Sr:sp=if mo < t then mo else t:=by rw[sJ,ht];rfl
 rw[← sJ];have HT:=J Sr;have Dl:=zs (sp<=9223372036854775807) (by omega);clear sJ Sr ht TZ;clear hd lA lB rj;clear hg;have e9:((mo:Int)==0)=false:=by simp;omega
 have e8:(mo==0)=false:=by simp;omega
 clear h0;have iL:=J fD;have jE:=J bk;have HM:=zs (mo<=9223372036854775807) (by omega);have HS:=zs (s<=9223372036854775807) (by omega);have qJ:=J (xy hm b7);clear fD bk hm b7;have R0:=J (RQ.start h hP mo s);clear h hP;go_enter func54,ntmps54;go_upto_region 2 with fail
 generalize(((w.alloc (aM mo s v)).alloc (aM 0 0 zV)).alloc (bq false ⟨#[]⟩ false)).alloc (bq false ⟨#[]⟩ false)=W at R0|-;have bB:=zs (∀k,wq P w.heap.size k->P k) (λk hk=>hk.1);generalize wq P w.heap.size=Q at R0 bB;generalize w.heap.size+1+1+1=x at R0|-;generalize w.heap.size+1+1=r at R0|-;generalize w.heap.size+1=q at R0|-;obtain⟨p,hp⟩:=zx w.heap.size;rw[← hp] at R0|-;have bR:=J hp;clear hp;obtain⟨c0,c1,c2,c3,c4,c5⟩:=R0.out.two.b.box.c;have U:=J (et W _ mo s v X R0.out.two.b.rows R0.out.two.b.cl key);rw[hh] at U;go_wp2_with fail
 refine U.out.mono ?_;rintro e W1 ⟨rfl,B1⟩;have R1:=J ((R0.out.below B1).z0 false);obtain⟨x0,_,_⟩:=(R0.out.below B1).aH.c;obtain⟨g0,_,_⟩:=(R0.out.below B1).aH.f;clear c0 c1 c2 c3 c4 c5 B1 R0 U;go_upto_region 3 with fail
 clear x0 g0;generalize W1.setCell ⟨x,0,none⟩ (.bool false)=W2 at R1|-;obtain⟨c0,c1,c2,c3,c4,c5⟩:=R1.out.two.b.box.c;obtain⟨x0,x1,x2⟩:=R1.out.aH.c;go_upto_region 9 with fail
 clear x0 x1 x2 e8 e9;have V:=fV W2 _ (v 2) (X 2) key (R1.out.two.b.rows 2 (by omega));rw[HG.out] at V;have V:=J V;go_wp2_with fail
 refine V.out.mono ?_;rintro e W3 ⟨rfl,rfl⟩;clear V;go_upto_region 10 with fail
 obtain⟨f0,f1,f2,f3,f4,f5⟩:=R1.out.two.b.box.f;obtain⟨z4,z5⟩:=((R1.out.gd t).below (aG _)).two.b.box.c.2.2.2.2;go_cut [] (λW=>RQ w W Q p q r x mo t v X false ⟨#[]⟩ false)
 case first=>
  refine wp_region_noPanic ?_;refine wp_region_held_drew (S:=λw'=>w'.cell? ⟨p,4,none⟩=some (.slice (v 2).A (v 2).n (v 2).c)/\w'.cell? ⟨p,5,none⟩=some (.slice (v 3).A (v 3).n (v 3).c)) (by kernel_rfl) ?_ (λhHeld=>?_)
  . exact⟨c4,c5⟩
  refine zi 0 (v:=?_) rfl (by kernel_rfl) zq ‹_› (by intro w aO;(try dsimp only at aO);go_simp;(try with_reducible rfl)) ?_;(try simp only[Act.put,za,zb,zc])
  iterate 6 (refine zi 1 (v:=?_) rfl (by kernel_rfl) zq ‹_› (by intro w aO;(try dsimp only at aO);go_simp;(try with_reducible rfl)) ?_;(try simp only[Act.put,za,zb,zc]))
  refine wpAnyH_ready (rs:=[1,8]) (by kernel_rfl) (by simp) ?_;refine AllReadyH.cons (o:={dst:=some 36,op:=Go.Op.load 3 (Go.Operand.tmp 35),type:=3,pos:= "ref.go:92" ,after:=#[{on:=0,ground:=Go.Ground.data}],guard:=none}) rfl (λK hK=>?_) (AllReadyH.cons (o:={dst:=some 43,op:=Go.Op.call {callee:=Go.Callee.value (Go.Operand.func 97),args:=#[Go.Operand.tmp 39,Go.Operand.tmp 42],argTypes:=#[3,3]},type:=3,pos:= "ref.go:92" ,after:=#[{on:=4,ground:=Go.Ground.data},{on:=7,ground:=Go.Ground.data}],guard:=none}) rfl (λK hK=>?_) AllReadyH.nil)
  . go_simp;refine hK.out _ _ ?_ (λhHeld=>?_)
    . exact⟨c4,c5⟩
    clear hK K;(try simp only[Act.put,za,zb,zc]);refine wpAnyH_ready (rs:=[8]) (by kernel_rfl) (by simp) ?_;refine zn rfl (λK hK=>?_);go_simp;refine(U9.out _).mono ?_;rintro e w1 ⟨rfl,rfl⟩;go_wp2_with fail
    refine hK.out _ _ ?_ (λhHeld=>?_)
    . exact⟨c4,c5⟩
    clear hK K;(try simp only[Act.put,za,zb,zc]);refine zl 9 (v:=?_) rfl (by kernel_rfl) zq ‹_› ?_ ?_;rotate_left
    . (intro w aO;(try dsimp only at aO);go_simp;(try with_reducible rfl))
    (try simp only[Act.put,za,zb,zc]);refine zl 10 (v:=?_) rfl (by kernel_rfl) zq ‹_› ?_ ?_;rotate_left
    . (intro w aO;(try dsimp only at aO);go_simp;(try with_reducible rfl))
    (try simp only[Act.put,za,zb,zc]);refine wpAnyH_ready (rs:=[11]) (by kernel_rfl) (by simp) ?_;refine zn rfl (λK hK=>?_);go_simp;refine hK.out _ _ ?_ (λhHeld=>?_)
    . exact⟨z4,z5⟩
    clear hK K;(try simp only[Act.put,za,zb,zc]);refine wpAnyH_done (by kernel_rfl) ?_ _;refine NoPanic.normal ?_;go_wp2_with fail
    go_meet
    exact(R1.out.gd t).below (aG _)
  . go_simp;refine(U9.out _).mono ?_;rintro e w1 ⟨rfl,rfl⟩;go_wp2_with fail
    refine hK.out _ _ ?_ (λhHeld=>?_)
    . exact⟨c4,c5⟩
    clear hK K;(try simp only[Act.put,za,zb,zc]);refine wpAnyH_ready (rs:=[1]) (by kernel_rfl) (by simp) ?_;refine zn rfl (λK hK=>?_);go_simp;refine hK.out _ _ ?_ (λhHeld=>?_)
    . exact⟨c4,c5⟩
    clear hK K;(try simp only[Act.put,za,zb,zc]);refine zl 9 (v:=?_) rfl (by kernel_rfl) zq ‹_› ?_ ?_;rotate_left
    . (intro w aO;(try dsimp only at aO);go_simp;(try with_reducible rfl))
    (try simp only[Act.put,za,zb,zc]);refine zl 10 (v:=?_) rfl (by kernel_rfl) zq ‹_› ?_ ?_;rotate_left
    . (intro w aO;(try dsimp only at aO);go_simp;(try with_reducible rfl))
    (try simp only[Act.put,za,zb,zc]);refine wpAnyH_ready (rs:=[11]) (by kernel_rfl) (by simp) ?_;refine zn rfl (λK hK=>?_);go_simp;refine hK.out _ _ ?_ (λhHeld=>?_)
    . exact⟨z4,z5⟩
    clear hK K;(try simp only[Act.put,za,zb,zc]);refine wpAnyH_done (by kernel_rfl) ?_ _;refine NoPanic.normal ?_;go_wp2_with fail
    go_meet
    exact(R1.out.gd t).below (aG _)
 case rest=>
  have R2:=J hcut;clear hcut c0 c1 c2 c3 c4 c5 f0 f1 f2 f3 f4 f5 NZ R1 z4 z5;obtain⟨c0,c1,c2,c3,c4,c5⟩:=R2.out.two.b.box.c;go_upto_if 50 with fail
  go_cut [] (λW=>RQ w W Q p q r x mo sp v X false ⟨#[]⟩ false)
  case first=>
   obtain⟨_,f1,_,_,_,_⟩:=R2.out.two.b.box.f;cases hb:decide (mo < t) with
   |true=>
    have h1:=HT.out;rw[if_pos (of_decide_eq_true hb)] at h1;have jZ:=J h1;clear h1;go_wp2_with fail
    go_meet
    rw[jZ.out];exact R2.out.gd mo
   |false=>
    have h1:=HT.out;rw[if_neg (of_decide_eq_false hb)] at h1;have jZ:=J h1;clear h1;go_wp2_with fail
    go_meet
    rw[jZ.out];exact R2.out
  case rest=>
   have R3:=J hcut;clear hcut c0 c1 c2 c3 c4 c5 R2;have U0:=pc _ _ mo sp v X R3.out.two.b.rows R3.out.two.b.cl false Dl.out HM.out (λk hk=>zr (bA jE.out k hk) (by omega));have lS:=zs (∀k,k < 4->(mX X mo sp false k).length<=1900) (λk hk=>zr (bA (zr pg jE.out) k hk) (by omega));obtain⟨Y,hY⟩:=zx (mX X mo sp false);obtain⟨yk,hk⟩:=zx (mK X mo sp false);obtain⟨yb,hb⟩:=zx (mB X mo sp false);rw[← hY,<-hk,<-hb] at U0;rw[← hY] at lS;have HE:=J (xy hY (xy hk hb));clear hY hk hb;have U:=J U0;clear U0;go_upto_region 13 with fail
   obtain⟨c0,c1,c2,c3,c4,c5⟩:=R3.out.two.b.box.c;go_wp2_with fail
   refine U.out.mono ?_;rintro e W5 ⟨v8,rfl,hr,hB⟩;unfold rJ;have aD:=R3.out.below hB;have R4:=J (((aD.dj (mo':=mo) (s':=sp) hr).z1 yk).z2 yb);obtain⟨d0,d1,d2,d3,d4,d5⟩:=aD.two.b.box.c;obtain⟨f0,f1,f2,f3,f4,f5⟩:=aD.two.b.box.f;obtain⟨x0,x1,x2⟩:=aD.aH.c;obtain⟨g0,g1,g2⟩:=aD.aH.f;have bl:x≠p:=aD.ne.2.2.1;have cW:p≠x:=qa bl;clear c0 c1 c2 c3 c4 c5 hr hB aD U R3;go_upto_region 14 with fail
   clear d0 d1 d2 d3 d4 d5 f0 f1 f2 f3 f4 f5 x0 x1 x2 g0 g1 g2 bl cW;dsimp only[cX] at R4;generalize(((((((W5.setCell ⟨p,0,none⟩ (.int .i64 (mo:Int))).setCell ⟨p,1,none⟩ (.int .i64 (sp:Int))).setCell ⟨p,2,none⟩ (.slice (v8 0).A (v8 0).n (v8 0).c)).setCell ⟨p,3,none⟩ (.slice (v8 1).A (v8 1).n (v8 1).c)).setCell ⟨p,4,none⟩ (.slice (v8 2).A (v8 2).n (v8 2).c)).setCell ⟨p,5,none⟩ (.slice (v8 3).A (v8 3).n (v8 3).c)).setCell ⟨x,1,none⟩ (.string yk)).setCell ⟨x,2,none⟩ (.bool yb)=W6 at R4|-;have U:=J (eu _ _ mo sp _ Y R4.out.two.b.rows R4.out.two.b.cl key lS.out);obtain⟨c0,c1,c2,c3,c4,c5⟩:=R4.out.two.b.box.c;go_wp2_with fail
   refine U.out.mono ?_;rintro e W3 ⟨v9,rfl,hr,hB⟩;have aD:=R4.out.below hB;have R5:=J (aD.dj (mo':=mo) (s':=sp) hr);obtain⟨d0,d1,d2,d3,d4,d5⟩:=aD.two.b.box.c;obtain⟨f0,f1,f2,f3,f4,f5⟩:=aD.two.b.box.f;clear c0 c1 c2 c3 c4 c5 hr hB aD U R4;go_upto_region 15 with fail
   clear d0 d1 d2 d3 d4 d5 f0 f1 f2 f3 f4 f5;dsimp only[cX] at R5;generalize(((((W3.setCell ⟨p,0,none⟩ (.int .i64 (mo:Int))).setCell ⟨p,1,none⟩ (.int .i64 (sp:Int))).setCell ⟨p,2,none⟩ (.slice (v9 0).A (v9 0).n (v9 0).c)).setCell ⟨p,3,none⟩ (.slice (v9 1).A (v9 1).n (v9 1).c)).setCell ⟨p,4,none⟩ (.slice (v9 2).A (v9 2).n (v9 2).c)).setCell ⟨p,5,none⟩ (.slice (v9 3).A (v9 3).n (v9 3).c)=W4 at R5|-;have rL:=zs ((iK Y key 1).length<=1900) (zr (aI _ _) (lS.out 1 (by omega)));obtain⟨v1,v2,w1,w2,r1,r2,o2,b1,b2⟩:=hE (R5.out.two.b.rows 1 (by omega)) key iL.out rL.out;obtain⟨r9,rfl,k9⟩:=SW.made o2 R5.out.two.b.cl;have RA:=R5.out.below b2;have R6:=J (RA.eR k9);obtain⟨c0,c1,c2,c3,c4,c5⟩:=(R5.out.below ((zo W4.heap.size W4).alloc (zg _) (.cells #[] 9))).two.b.box.c;obtain⟨d0,d1,d2,d3,d4,d5⟩:=RA.two.b.box.c;obtain⟨f0,f1,f2,f3,f4,f5⟩:=RA.two.b.box.f;have fK:=J r1;have dY:=zs (_=_) r2;clear r1 r2 o2 b1 b2 k9 RA R5;go_upto_region 16 with(at_builtin;first|(refine aq rfl _ _ _ rfl _ _ _ _ rfl rfl fK.out ?_)|(refine aq rfl _ _ _ rfl _ _ _ _ rfl rfl dY.out ?_))
   clear c0 c1 c2 c3 c4 c5 d0 d1 d2 d3 d4 d5 f0 f1 f2 f3 f4 f5 fK dY;generalize w2.setCell ⟨p,3,none⟩ (.slice r9.A r9.n r9.c)=W9 at R6|-;obtain⟨c0,c1,c2,c3,c4,c5⟩:=R6.out.two.b.box.c;obtain⟨x0,x1,x2⟩:=R6.out.aH.c;obtain⟨d0,d1,d2,d3,d4,d5⟩:=R6.out.two.res.c;obtain⟨f0,f1,f2,f3,f4,f5⟩:=R6.out.two.res.f;obtain⟨r0,r1,r2⟩:=R6.out.res.c;obtain⟨g0,g1,g2⟩:=R6.out.res.f;obtain⟨dC,dD,bl,du,dE⟩:=R6.out.ne;have dg:p≠q:=R6.out.two.ne;have gD:q≠p:=qa dg;have jd:p≠r:=qa dC;have je:q≠r:=qa dD;have cW:p≠x:=qa bl;have ik:q≠x:=qa du;have jf:x≠r:=qa dE;go_region;have F:=J (R6.out.out (P0:=P) bB.out);go_wp2_with fail
   (try simp only[Exit.inBlock,Exit.then]);refine bodyPost_ret (aP rfl _ _ _ ⟨q,0,none⟩ ⟨r,0,none⟩ _ _ rfl (bf (F.out.1.below (aG _))) rfl (cL (F.out.2.1.below (aG _)))) rfl ?_;rw[← HE.out.1,<-HE.out.2.1,<-HE.out.2.2];exact⟨_,rfl,F.out.2.2.1.below (aG _),F.out.2.2.2.trans ((aG _).mono F.out.2.2.2.size)⟩
theorem Qc(h0:mo≠0)(h1:aF=false)(dn:aw (X 2) key=false)(hg:aw (X 3) key=true):Calls prog 54 #[aU mo s v,.string key] w (CT w P (λx=> .tuple #[x,gE false (mK X mo (s - mr (X 2).length (X 3).length) true) (mB X mo (s - mr (X 2).length (X 3).length) true)]) mo (s - mr (X 2).length (X 3).length) (af (iK (mX X mo (s - mr (X 2).length (X 3).length) true) key) 1 (rem (mX X mo (s - mr (X 2).length (X 3).length) true 1) key++ [key]))):=by
 subst h1;obtain⟨d,hd⟩:=zx (mr (X 2).length (X 3).length);have rj:0 < (X 3).length:=List.length_pos_iff.2 λe=>by rw[e] at hg;cases hg
 have DS:d<=2000:=by
  have:=(h 2 (by omega)).le;have:=Nat.div_le_self (X 2).length (X 3).length;rw[hd];unfold mr;split <;> omega
 have HG:=J hg;have lA:=(h 2 (by omega)).len;have lB:=(h 3 (by omega)).len;rw[lA,lB] at hd;rw[lA,lB,<-hd];rw[lB] at rj;have U9:=J (λW=>(show Calls prog 97 #[.int .i64 ((v 2).n:Int),.int .i64 ((v 3).n:Int)] W (λe w'=>e= .returned (.int .i64 (d:Int))/\W=w') from by have:=Fa W (v 2).n (v 3).n rj (by have:=(h 2 (by omega)).le;omega) (by have:=(h 3 (by omega)).le;omega);rw[← hd] at this;exact this));obtain⟨sp,sJ⟩:=zx (s - d);obtain⟨z,hz⟩:=zx ((s:Int) - (d:Int));have NZ:IntKind.i64.wrap ((s:Int) - (d:Int))=z:=by rw[qi _ (by omega)];exact hz.symm
 have VP:=J hz;clear hz;rw[← sJ];have HT:=J sJ;have Dl:=zs (sp<=9223372036854775807) (by omega);clear sJ;clear hd lA lB rj;have lY:=J dn;clear dn;clear hg;have e9:((mo:Int)==0)=false:=by simp;omega
 have e8:(mo==0)=false:=by simp;omega
 clear h0;have iL:=J fD;have jE:=J bk;have HM:=zs (mo<=9223372036854775807) (by omega);have HS:=zs (s<=9223372036854775807) (by omega);have qJ:=J (xy hm b7);clear fD bk hm b7;have R0:=J (RQ.start h hP mo s);clear h hP;go_enter func54,ntmps54;go_upto_region 2 with fail
 generalize(((w.alloc (aM mo s v)).alloc (aM 0 0 zV)).alloc (bq false ⟨#[]⟩ false)).alloc (bq false ⟨#[]⟩ false)=W at R0|-;have bB:=zs (∀k,wq P w.heap.size k->P k) (λk hk=>hk.1);generalize wq P w.heap.size=Q at R0 bB;generalize w.heap.size+1+1+1=x at R0|-;generalize w.heap.size+1+1=r at R0|-;generalize w.heap.size+1=q at R0|-;obtain⟨p,hp⟩:=zx w.heap.size;rw[← hp] at R0|-;have bR:=J hp;clear hp;obtain⟨c0,c1,c2,c3,c4,c5⟩:=R0.out.two.b.box.c;have U:=J (et W _ mo s v X R0.out.two.b.rows R0.out.two.b.cl key);rw[hh] at U;go_wp2_with fail
 refine U.out.mono ?_;rintro e W1 ⟨rfl,B1⟩;have R1:=J ((R0.out.below B1).z0 false);obtain⟨x0,_,_⟩:=(R0.out.below B1).aH.c;obtain⟨g0,_,_⟩:=(R0.out.below B1).aH.f;clear c0 c1 c2 c3 c4 c5 B1 R0 U;go_upto_region 3 with fail
 clear x0 g0;generalize W1.setCell ⟨x,0,none⟩ (.bool false)=W2 at R1|-;obtain⟨c0,c1,c2,c3,c4,c5⟩:=R1.out.two.b.box.c;obtain⟨x0,x1,x2⟩:=R1.out.aH.c;go_upto_region 9 with fail
 clear x0 x1 x2 e8 e9;have V:=fV W2 _ (v 2) (X 2) key (R1.out.two.b.rows 2 (by omega));rw[lY.out] at V;have V:=J V;go_wp2_with fail
 refine V.out.mono ?_;rintro e W3 ⟨rfl,rfl⟩;clear V;go_upto_region 17 with fail
 have V:=fV W2 _ (v 3) (X 3) key (R1.out.two.b.rows 3 (by omega));rw[HG.out] at V;have V:=J V;go_wp2_with fail
 refine V.out.mono ?_;rintro e W3 ⟨rfl,rfl⟩;clear V;go_upto_region 18 with fail
 obtain⟨f0,f1,f2,f3,f4,f5⟩:=R1.out.two.b.box.f;obtain⟨z4,z5⟩:=R1.out.zz z;go_cut [] (λW=>RZ w W Q p q r x mo s v X z)
 case first=>
  refine wp_region_noPanic ?_;refine wp_region_held_drew (S:=λw'=>w'.cell? ⟨p,4,none⟩=some (.slice (v 2).A (v 2).n (v 2).c)/\w'.cell? ⟨p,5,none⟩=some (.slice (v 3).A (v 3).n (v 3).c)) (by kernel_rfl) ?_ (λhHeld=>?_)
  . exact⟨c4,c5⟩
  refine zi 0 (v:=?_) rfl (by kernel_rfl) zq ‹_› (by intro w aO;(try dsimp only at aO);go_simp;(try with_reducible rfl)) ?_;(try simp only[Act.put,za,zb,zc])
  iterate 6 (refine zi 1 (v:=?_) rfl (by kernel_rfl) zq ‹_› (by intro w aO;(try dsimp only at aO);go_simp;(try with_reducible rfl)) ?_;(try simp only[Act.put,za,zb,zc]))
  refine wpAnyH_ready (rs:=[1,8]) (by kernel_rfl) (by simp) ?_;refine AllReadyH.cons (o:={dst:=some 80,op:=Go.Op.load 3 (Go.Operand.tmp 79),type:=3,pos:= "ref.go:102" ,after:=#[{on:=0,ground:=Go.Ground.data}],guard:=none}) rfl (λK hK=>?_) (AllReadyH.cons (o:={dst:=some 87,op:=Go.Op.call {callee:=Go.Callee.value (Go.Operand.func 97),args:=#[Go.Operand.tmp 83,Go.Operand.tmp 86],argTypes:=#[3,3]},type:=3,pos:= "ref.go:102" ,after:=#[{on:=4,ground:=Go.Ground.data},{on:=7,ground:=Go.Ground.data}],guard:=none}) rfl (λK hK=>?_) AllReadyH.nil)
  . go_simp;refine hK.out _ _ ?_ (λhHeld=>?_)
    . exact⟨c4,c5⟩
    clear hK K;(try simp only[Act.put,za,zb,zc]);refine wpAnyH_ready (rs:=[8]) (by kernel_rfl) (by simp) ?_;refine zn rfl (λK hK=>?_);go_simp;refine(U9.out _).mono ?_;rintro e w1 ⟨rfl,rfl⟩;go_wp2_with fail
    refine hK.out _ _ ?_ (λhHeld=>?_)
    . exact⟨c4,c5⟩
    clear hK K;(try simp only[Act.put,za,zb,zc]);refine zl 9 (v:=?_) rfl (by kernel_rfl) zq ‹_› ?_ ?_;rotate_left
    . (intro w aO;(try dsimp only at aO);go_simp;(try with_reducible rfl))
    (try simp only[Act.put,za,zb,zc]);refine zl 10 (v:=?_) rfl (by kernel_rfl) zq ‹_› ?_ ?_;rotate_left
    . (intro w aO;(try dsimp only at aO);go_simp;(try with_reducible rfl))
    (try simp only[Act.put,za,zb,zc]);refine wpAnyH_ready (rs:=[11]) (by kernel_rfl) (by simp) ?_;refine zn rfl (λK hK=>?_);go_simp;refine hK.out _ _ ?_ (λhHeld=>?_)
    . exact⟨z4,z5⟩
    clear hK K;(try simp only[Act.put,za,zb,zc]);refine wpAnyH_done (by kernel_rfl) ?_ _;refine NoPanic.normal ?_;go_wp2_with fail
    go_meet
    exact⟨_,rfl,R1.out⟩
  . go_simp;refine(U9.out _).mono ?_;rintro e w1 ⟨rfl,rfl⟩;go_wp2_with fail
    refine hK.out _ _ ?_ (λhHeld=>?_)
    . exact⟨c4,c5⟩
    clear hK K;(try simp only[Act.put,za,zb,zc]);refine wpAnyH_ready (rs:=[1]) (by kernel_rfl) (by simp) ?_;refine zn rfl (λK hK=>?_);go_simp;refine hK.out _ _ ?_ (λhHeld=>?_)
    . exact⟨c4,c5⟩
    clear hK K;(try simp only[Act.put,za,zb,zc]);refine zl 9 (v:=?_) rfl (by kernel_rfl) zq ‹_› ?_ ?_;rotate_left
    . (intro w aO;(try dsimp only at aO);go_simp;(try with_reducible rfl))
    (try simp only[Act.put,za,zb,zc]);refine zl 10 (v:=?_) rfl (by kernel_rfl) zq ‹_› ?_ ?_;rotate_left
    . (intro w aO;(try dsimp only at aO);go_simp;(try with_reducible rfl))
    (try simp only[Act.put,za,zb,zc]);refine wpAnyH_ready (rs:=[11]) (by kernel_rfl) (by simp) ?_;refine zn rfl (λK hK=>?_);go_simp;refine hK.out _ _ ?_ (λhHeld=>?_)
    . exact⟨z4,z5⟩
    clear hK K;(try simp only[Act.put,za,zb,zc]);refine wpAnyH_done (by kernel_rfl) ?_ _;refine NoPanic.normal ?_;go_wp2_with fail
    go_meet
    exact⟨_,rfl,R1.out⟩
 case rest=>
  obtain⟨W9,rfl,r2⟩:=hcut;have R2:=J (r2.below (aG _));clear r2 c0 c1 c2 c3 c4 c5 f0 f1 f2 f3 f4 f5 R1 z4 z5 NZ;have hz:=VP.out;obtain⟨c0,c1,c2,c3,c4,c5,y0,y1,y2,y3,y4,y5⟩:=R2.out.TY z
  by_cases hb:z < 0
  . have Aq:sp=0:=by have:=HT.out;omega
    have Xk:=J Aq
    have R3:=J (show RQ w ((W9.setCell ⟨p,1,none⟩ (.int .i64 z)).setCell ⟨p,1,none⟩ (.int .i64 0)).drew Q p q r x mo sp v X false ⟨#[]⟩ false from by
     rw[Aq];exact R2.out.Qa z 0)
    clear Aq hz;go_upto_region 21 with fail
    clear c0 c1 c2 c3 c4 c5 y0 y1 y2 y3 y4 y5 hb;generalize((W9.setCell ⟨p,1,none⟩ (.int .i64 z)).setCell ⟨p,1,none⟩ (.int .i64 0)).drew=W3 at R3|-;have U0:=pc _ _ mo sp v X R3.out.two.b.rows R3.out.two.b.cl true Dl.out HM.out (λk hk=>zr (bA jE.out k hk) (by omega));have lS:=zs (∀k,k < 4->(mX X mo sp true k).length<=1900) (λk hk=>zr (bA (zr pg jE.out) k hk) (by omega));obtain⟨Y,hY⟩:=zx (mX X mo sp true);obtain⟨yk,hk⟩:=zx (mK X mo sp true);obtain⟨yb,hb⟩:=zx (mB X mo sp true);rw[← hY,<-hk,<-hb] at U0;rw[← hY] at lS;have HE:=J (xy hY (xy hk hb));clear hY hk hb;have U:=J U0;clear U0 R2;obtain⟨c0,c1,c2,c3,c4,c5⟩:=R3.out.two.b.box.c;go_wp2_with fail
    refine U.out.mono ?_;rintro e W5 ⟨v8,rfl,hr,hB⟩;unfold rJ;have aD:=R3.out.below hB;have R4:=J (((aD.dj (mo':=mo) (s':=sp) hr).z1 yk).z2 yb);obtain⟨d0,d1,d2,d3,d4,d5⟩:=aD.two.b.box.c;obtain⟨f0,f1,f2,f3,f4,f5⟩:=aD.two.b.box.f;obtain⟨x0,x1,x2⟩:=aD.aH.c;obtain⟨g0,g1,g2⟩:=aD.aH.f;have bl:x≠p:=aD.ne.2.2.1;have cW:p≠x:=qa bl;clear c0 c1 c2 c3 c4 c5 hr hB aD U R3;go_upto_region 22 with fail
    clear d0 d1 d2 d3 d4 d5 f0 f1 f2 f3 f4 f5 x0 x1 x2 g0 g1 g2 bl cW;dsimp only[cX] at R4;generalize(((((((W5.setCell ⟨p,0,none⟩ (.int .i64 (mo:Int))).setCell ⟨p,1,none⟩ (.int .i64 (sp:Int))).setCell ⟨p,2,none⟩ (.slice (v8 0).A (v8 0).n (v8 0).c)).setCell ⟨p,3,none⟩ (.slice (v8 1).A (v8 1).n (v8 1).c)).setCell ⟨p,4,none⟩ (.slice (v8 2).A (v8 2).n (v8 2).c)).setCell ⟨p,5,none⟩ (.slice (v8 3).A (v8 3).n (v8 3).c)).setCell ⟨x,1,none⟩ (.string yk)).setCell ⟨x,2,none⟩ (.bool yb)=W6 at R4|-;have U:=J (eu _ _ mo sp _ Y R4.out.two.b.rows R4.out.two.b.cl key lS.out);obtain⟨c0,c1,c2,c3,c4,c5⟩:=R4.out.two.b.box.c;go_wp2_with fail
    refine U.out.mono ?_;rintro e W3 ⟨v9,rfl,hr,hB⟩;have aD:=R4.out.below hB;have R5:=J (aD.dj (mo':=mo) (s':=sp) hr);obtain⟨d0,d1,d2,d3,d4,d5⟩:=aD.two.b.box.c;obtain⟨f0,f1,f2,f3,f4,f5⟩:=aD.two.b.box.f;clear c0 c1 c2 c3 c4 c5 hr hB aD U R4;go_upto_region 23 with fail
    clear d0 d1 d2 d3 d4 d5 f0 f1 f2 f3 f4 f5;dsimp only[cX] at R5;generalize(((((W3.setCell ⟨p,0,none⟩ (.int .i64 (mo:Int))).setCell ⟨p,1,none⟩ (.int .i64 (sp:Int))).setCell ⟨p,2,none⟩ (.slice (v9 0).A (v9 0).n (v9 0).c)).setCell ⟨p,3,none⟩ (.slice (v9 1).A (v9 1).n (v9 1).c)).setCell ⟨p,4,none⟩ (.slice (v9 2).A (v9 2).n (v9 2).c)).setCell ⟨p,5,none⟩ (.slice (v9 3).A (v9 3).n (v9 3).c)=W4 at R5|-;have rL:=zs ((iK Y key 1).length<=1900) (zr (aI _ _) (lS.out 1 (by omega)));obtain⟨v1,v2,w1,w2,r1,r2,o2,b1,b2⟩:=hE (R5.out.two.b.rows 1 (by omega)) key iL.out rL.out;obtain⟨r9,rfl,k9⟩:=SW.made o2 R5.out.two.b.cl;have RA:=R5.out.below b2;have R6:=J (RA.eR k9);obtain⟨c0,c1,c2,c3,c4,c5⟩:=(R5.out.below ((zo W4.heap.size W4).alloc (zg _) (.cells #[] 9))).two.b.box.c;obtain⟨d0,d1,d2,d3,d4,d5⟩:=RA.two.b.box.c;obtain⟨f0,f1,f2,f3,f4,f5⟩:=RA.two.b.box.f;have fK:=J r1;have dY:=zs (_=_) r2;clear r1 r2 o2 b1 b2 k9 RA R5;go_upto_region 24 with(at_builtin;first|(refine aq rfl _ _ _ rfl _ _ _ _ rfl rfl fK.out ?_)|(refine aq rfl _ _ _ rfl _ _ _ _ rfl rfl dY.out ?_))
    clear c0 c1 c2 c3 c4 c5 d0 d1 d2 d3 d4 d5 f0 f1 f2 f3 f4 f5 fK dY;generalize w2.setCell ⟨p,3,none⟩ (.slice r9.A r9.n r9.c)=W9 at R6|-;obtain⟨c0,c1,c2,c3,c4,c5⟩:=R6.out.two.b.box.c;obtain⟨x0,x1,x2⟩:=R6.out.aH.c;obtain⟨d0,d1,d2,d3,d4,d5⟩:=R6.out.two.res.c;obtain⟨f0,f1,f2,f3,f4,f5⟩:=R6.out.two.res.f;obtain⟨r0,r1,r2⟩:=R6.out.res.c;obtain⟨g0,g1,g2⟩:=R6.out.res.f;obtain⟨dC,dD,bl,du,dE⟩:=R6.out.ne;have dg:p≠q:=R6.out.two.ne;have gD:q≠p:=qa dg;have jd:p≠r:=qa dC;have je:q≠r:=qa dD;have cW:p≠x:=qa bl;have ik:q≠x:=qa du;have jf:x≠r:=qa dE;go_region;have F:=J (R6.out.out (P0:=P) bB.out);go_wp2_with fail
    (try simp only[Exit.inBlock,Exit.then]);refine bodyPost_ret (aP rfl _ _ _ ⟨q,0,none⟩ ⟨r,0,none⟩ _ _ rfl (bf (F.out.1.below (aG _))) rfl (cL (F.out.2.1.below (aG _)))) rfl ?_;rw[← HE.out.1,<-HE.out.2.1,<-HE.out.2.2];exact⟨_,rfl,F.out.2.2.1.below (aG _),F.out.2.2.2.trans ((aG _).mono F.out.2.2.2.size)⟩
  . have Aq:z=(sp:Int):=by have:=HT.out;omega
    subst Aq;have R3:=zs (RQ w ((W9.setCell ⟨p,1,none⟩ (.int .i64 (sp:Int))).drew) Q p q r x mo sp v X false ⟨#[]⟩ false) (R2.out.gd sp);clear hz;go_upto_region 21 with fail
    clear c0 c1 c2 c3 c4 c5 y0 y1 y2 y3 y4 y5 hb;generalize(W9.setCell ⟨p,1,none⟩ (.int .i64 (sp:Int))).drew=W3 at R3|-;have U0:=pc _ _ mo sp v X R3.out.two.b.rows R3.out.two.b.cl true Dl.out HM.out (λk hk=>zr (bA jE.out k hk) (by omega));have lS:=zs (∀k,k < 4->(mX X mo sp true k).length<=1900) (λk hk=>zr (bA (zr pg jE.out) k hk) (by omega));obtain⟨Y,hY⟩:=zx (mX X mo sp true);obtain⟨yk,hk⟩:=zx (mK X mo sp true);obtain⟨yb,hb⟩:=zx (mB X mo sp true);rw[← hY,<-hk,<-hb] at U0;rw[← hY] at lS;have HE:=J (xy hY (xy hk hb));clear hY hk hb;have U:=J U0;clear U0 R2;obtain⟨c0,c1,c2,c3,c4,c5⟩:=R3.out.two.b.box.c;go_wp2_with fail
    refine U.out.mono ?_;rintro e W5 ⟨v8,rfl,hr,hB⟩;unfold rJ;have aD:=R3.out.below hB;have R4:=J (((aD.dj (mo':=mo) (s':=sp) hr).z1 yk).z2 yb);obtain⟨d0,d1,d2,d3,d4,d5⟩:=aD.two.b.box.c;obtain⟨f0,f1,f2,f3,f4,f5⟩:=aD.two.b.box.f;obtain⟨x0,x1,x2⟩:=aD.aH.c;obtain⟨g0,g1,g2⟩:=aD.aH.f;have bl:x≠p:=aD.ne.2.2.1;have cW:p≠x:=qa bl;clear c0 c1 c2 c3 c4 c5 hr hB aD U R3;go_upto_region 22 with fail
    clear d0 d1 d2 d3 d4 d5 f0 f1 f2 f3 f4 f5 x0 x1 x2 g0 g1 g2 bl cW;dsimp only[cX] at R4;generalize(((((((W5.setCell ⟨p,0,none⟩ (.int .i64 (mo:Int))).setCell ⟨p,1,none⟩ (.int .i64 (sp:Int))).setCell ⟨p,2,none⟩ (.slice (v8 0).A (v8 0).n (v8 0).c)).setCell ⟨p,3,none⟩ (.slice (v8 1).A (v8 1).n (v8 1).c)).setCell ⟨p,4,none⟩ (.slice (v8 2).A (v8 2).n (v8 2).c)).setCell ⟨p,5,none⟩ (.slice (v8 3).A (v8 3).n (v8 3).c)).setCell ⟨x,1,none⟩ (.string yk)).setCell ⟨x,2,none⟩ (.bool yb)=W6 at R4|-;have U:=J (eu _ _ mo sp _ Y R4.out.two.b.rows R4.out.two.b.cl key lS.out);obtain⟨c0,c1,c2,c3,c4,c5⟩:=R4.out.two.b.box.c;go_wp2_with fail
    refine U.out.mono ?_;rintro e W3 ⟨v9,rfl,hr,hB⟩;have aD:=R4.out.below hB;have R5:=J (aD.dj (mo':=mo) (s':=sp) hr);obtain⟨d0,d1,d2,d3,d4,d5⟩:=aD.two.b.box.c;obtain⟨f0,f1,f2,f3,f4,f5⟩:=aD.two.b.box.f;clear c0 c1 c2 c3 c4 c5 hr hB aD U R4;go_upto_region 23 with fail
    clear d0 d1 d2 d3 d4 d5 f0 f1 f2 f3 f4 f5;dsimp only[cX] at R5;generalize(((((W3.setCell ⟨p,0,none⟩ (.int .i64 (mo:Int))).setCell ⟨p,1,none⟩ (.int .i64 (sp:Int))).setCell ⟨p,2,none⟩ (.slice (v9 0).A (v9 0).n (v9 0).c)).setCell ⟨p,3,none⟩ (.slice (v9 1).A (v9 1).n (v9 1).c)).setCell ⟨p,4,none⟩ (.slice (v9 2).A (v9 2).n (v9 2).c)).setCell ⟨p,5,none⟩ (.slice (v9 3).A (v9 3).n (v9 3).c)=W4 at R5|-;have rL:=zs ((iK Y key 1).length<=1900) (zr (aI _ _) (lS.out 1 (by omega)));obtain⟨v1,v2,w1,w2,r1,r2,o2,b1,b2⟩:=hE (R5.out.two.b.rows 1 (by omega)) key iL.out rL.out;obtain⟨r9,rfl,k9⟩:=SW.made o2 R5.out.two.b.cl;have RA:=R5.out.below b2;have R6:=J (RA.eR k9);obtain⟨c0,c1,c2,c3,c4,c5⟩:=(R5.out.below ((zo W4.heap.size W4).alloc (zg _) (.cells #[] 9))).two.b.box.c;obtain⟨d0,d1,d2,d3,d4,d5⟩:=RA.two.b.box.c;obtain⟨f0,f1,f2,f3,f4,f5⟩:=RA.two.b.box.f;have fK:=J r1;have dY:=zs (_=_) r2;clear r1 r2 o2 b1 b2 k9 RA R5;go_upto_region 24 with(at_builtin;first|(refine aq rfl _ _ _ rfl _ _ _ _ rfl rfl fK.out ?_)|(refine aq rfl _ _ _ rfl _ _ _ _ rfl rfl dY.out ?_))
    clear c0 c1 c2 c3 c4 c5 d0 d1 d2 d3 d4 d5 f0 f1 f2 f3 f4 f5 fK dY;generalize w2.setCell ⟨p,3,none⟩ (.slice r9.A r9.n r9.c)=W9 at R6|-;obtain⟨c0,c1,c2,c3,c4,c5⟩:=R6.out.two.b.box.c;obtain⟨x0,x1,x2⟩:=R6.out.aH.c;obtain⟨d0,d1,d2,d3,d4,d5⟩:=R6.out.two.res.c;obtain⟨f0,f1,f2,f3,f4,f5⟩:=R6.out.two.res.f;obtain⟨r0,r1,r2⟩:=R6.out.res.c;obtain⟨g0,g1,g2⟩:=R6.out.res.f;obtain⟨dC,dD,bl,du,dE⟩:=R6.out.ne;have dg:p≠q:=R6.out.two.ne;have gD:q≠p:=qa dg;have jd:p≠r:=qa dC;have je:q≠r:=qa dD;have cW:p≠x:=qa bl;have ik:q≠x:=qa du;have jf:x≠r:=qa dE;go_region;have F:=J (R6.out.out (P0:=P) bB.out);go_wp2_with fail
    (try simp only[Exit.inBlock,Exit.then]);refine bodyPost_ret (aP rfl _ _ _ ⟨q,0,none⟩ ⟨r,0,none⟩ _ _ rfl (bf (F.out.1.below (aG _))) rfl (cL (F.out.2.1.below (aG _)))) rfl ?_;rw[← HE.out.1,<-HE.out.2.1,<-HE.out.2.2];exact⟨_,rfl,F.out.2.2.1.below (aG _),F.out.2.2.2.trans ((aG _).mono F.out.2.2.2.size)⟩
end
end AR
namespace AR
open Go.RowKit Sg
theorem tU{X:L4}(j:Nat)(hj:j < 4):dm (af X j (X j).tail)<=dm X:=by
 have e:(X j).tail.length<=(X j).length:=by rw[List.length_tail];omega
 unfold dm;rcases(show j=0\/j=1\/j=2\/j=3 by omega) with rfl|rfl|rfl|rfl
 . show(X 0).tail.length+(X 1).length+(X 2).length+(X 3).length<=_;omega
 . show(X 0).length+(X 1).tail.length+(X 2).length+(X 3).length<=_;omega
 . show(X 0).length+(X 1).length+(X 2).tail.length+(X 3).length<=_;omega
 . show(X 0).length+(X 1).length+(X 2).length+(X 3).tail.length<=_;omega
section
variable(w:zw)(P:Nat->Prop)(mo s:Nat)(v:S4)(X:L4)(h:R4 w P v X)(hP:Cl w P)(key:zy)(fD:key.size<=maxLen)(hh:(aw (X 0) key||aw (X 1) key)=false)(dn:aw (X 2) key=false)(gA:aw (X 3) key=false)(h0:mo≠0)(hm:mo<=1000000000000)(b7:s<=mo)(bk:dm X<=1700)
include h hP fD hh dn gA h0 hm b7 bk
theorem Qd(h1:mo<=(X 0).length+(X 2).length)(h2:(X 0).length < mo):Calls prog 54 #[aU mo s v,.string key] w (CT w P (λx=> .tuple #[x,gE false (mK (af X 2 (X 2).tail) mo s false) (mB (af X 2 (X 2).tail) mo s false)]) mo s (af (mX (af X 2 (X 2).tail) mo s false) 0 ((mX (af X 2 (X 2).tail) mo s false) 0++ [key]))):=by
 have lY:=J dn;have ov:=J gA;clear dn gA;have l0:=(h 0 (by omega)).len;have l1:=(h 1 (by omega)).len;have l2:=(h 2 (by omega)).len;have l3:=(h 3 (by omega)).len;have z0:=bA bk 0 (by omega);have z1:=bA bk 1 (by omega);have z2:=bA bk 2 (by omega);have z3:=bA bk 3 (by omega);obtain⟨l,fG⟩:=zx ((v 0).n+(v 2).n);have vd:IntKind.i64.wrap (((v 0).n:Int)+((v 2).n:Int))=(l:Int):=by rw[qi _ (by omega)];omega
 have e1:decide (mo<=l)=true:=by simpa using(show mo<=l by omega)
 have e2:(v 0).n < mo:=by omega
 have As:=zs (0 < (X 2).length) (by omega);have xC:=zs (dm (af X 2 (X 2).tail)<=1700) (zr (tU 2 (by omega)) bk);clear fG l0 l1 l2 l3 z0 z1 z2 z3 h1 h2;have e9:((mo:Int)==0)=false:=by simp;omega
 have e8:(mo==0)=false:=by simp;omega
 clear h0;have iL:=J fD;have jE:=J bk;have HM:=zs (mo<=9223372036854775807) (by omega);have HS:=zs (s<=9223372036854775807) (by omega);have qJ:=J (xy hm b7);clear fD bk hm b7;have R0:=J (RQ.start h hP mo s);clear h hP;go_enter func54,ntmps54;go_upto_region 2 with fail
 generalize(((w.alloc (aM mo s v)).alloc (aM 0 0 zV)).alloc (bq false ⟨#[]⟩ false)).alloc (bq false ⟨#[]⟩ false)=W at R0|-;have bB:=zs (∀k,wq P w.heap.size k->P k) (λk hk=>hk.1);generalize wq P w.heap.size=Q at R0 bB;generalize w.heap.size+1+1+1=x at R0|-;generalize w.heap.size+1+1=r at R0|-;generalize w.heap.size+1=q at R0|-;obtain⟨p,hp⟩:=zx w.heap.size;rw[← hp] at R0|-;have bR:=J hp;clear hp;obtain⟨c0,c1,c2,c3,c4,c5⟩:=R0.out.two.b.box.c;have U:=J (et W _ mo s v X R0.out.two.b.rows R0.out.two.b.cl key);rw[hh] at U;go_wp2_with fail
 refine U.out.mono ?_;rintro e W1 ⟨rfl,B1⟩;have R1:=J ((R0.out.below B1).z0 false);obtain⟨x0,_,_⟩:=(R0.out.below B1).aH.c;obtain⟨g0,_,_⟩:=(R0.out.below B1).aH.f;clear c0 c1 c2 c3 c4 c5 B1 R0 U;go_upto_region 3 with fail
 clear x0 g0;generalize W1.setCell ⟨x,0,none⟩ (.bool false)=W2 at R1|-;obtain⟨c0,c1,c2,c3,c4,c5⟩:=R1.out.two.b.box.c;obtain⟨x0,x1,x2⟩:=R1.out.aH.c;go_upto_region 9 with fail
 clear x0 x1 x2 e8 e9;have V:=fV W2 _ (v 2) (X 2) key (R1.out.two.b.rows 2 (by omega));rw[lY.out] at V;have V:=J V;go_wp2_with fail
 refine V.out.mono ?_;rintro e W3 ⟨rfl,rfl⟩;clear V;go_upto_region 17 with fail
 have V:=fV W2 _ (v 3) (X 3) key (R1.out.two.b.rows 3 (by omega));rw[ov.out] at V;have V:=J V;go_wp2_with fail
 refine V.out.mono ?_;rintro e W3 ⟨rfl,rfl⟩;clear V lY ov;go_upto_region 25 with fail
 obtain⟨r',sA,sS,hT⟩:=(R1.out.two.b.rows 2 (by omega)).tail As.out;have Ss:=As.out;rw[(R1.out.two.b.rows 2 (by omega)).len] at Ss;have R2:=J (R1.out.fg hT);obtain⟨f0,f1,f2,f3,f4,f5⟩:=R1.out.two.b.box.f;clear hT;go_upto_region 28 with fail
 clear c0 c1 c2 c3 c4 c5 f0 f1 f2 f3 f4 f5 sA sS e1 e2 vd Ss R1 As;generalize W2.setCell ⟨p,4,none⟩ (.slice r'.A r'.n r'.c)=W4 at R2|-;have U0:=pc _ _ mo s _ (af X 2 (X 2).tail) R2.out.two.b.rows R2.out.two.b.cl false HS.out HM.out (λk hk=>zr (bA xC.out k hk) (by omega));have rM:=zs ((mX (af X 2 (X 2).tail) mo s false 0).length<=1900) (zr (bA (zr pg xC.out) 0 (by omega)) (by omega));obtain⟨Y,hY⟩:=zx (mX (af X 2 (X 2).tail) mo s false);obtain⟨yk,hk⟩:=zx (mK (af X 2 (X 2).tail) mo s false);obtain⟨yb,hb⟩:=zx (mB (af X 2 (X 2).tail) mo s false);rw[← hY,<-hk,<-hb] at U0;rw[← hY] at rM;have HE:=J (xy hY (xy hk hb));have U:=J U0;clear U0 hY hk hb;obtain⟨c0,c1,c2,c3,c4,c5⟩:=R2.out.two.b.box.c;go_wp2_with fail
 refine U.out.mono ?_;rintro e W5 ⟨v8,rfl,hr,hB⟩;unfold rJ;have aD:=R2.out.below hB;have R3:=J (((aD.dj (mo':=mo) (s':=s) hr).z1 yk).z2 yb);obtain⟨d0,d1,d2,d3,d4,d5⟩:=aD.two.b.box.c;obtain⟨f0,f1,f2,f3,f4,f5⟩:=aD.two.b.box.f;obtain⟨x0,x1,x2⟩:=aD.aH.c;obtain⟨g0,g1,g2⟩:=aD.aH.f;have bl:x≠p:=aD.ne.2.2.1;have cW:p≠x:=qa bl;clear c0 c1 c2 c3 c4 c5 hr hB aD U R2;go_upto_region 36 with fail
 clear d0 d1 d2 d3 d4 d5 f0 f1 f2 f3 f4 f5 x0 x1 x2 g0 g1 g2 bl cW;dsimp only[cX] at R3;generalize(((((((W5.setCell ⟨p,0,none⟩ (.int .i64 (mo:Int))).setCell ⟨p,1,none⟩ (.int .i64 (s:Int))).setCell ⟨p,2,none⟩ (.slice (v8 0).A (v8 0).n (v8 0).c)).setCell ⟨p,3,none⟩ (.slice (v8 1).A (v8 1).n (v8 1).c)).setCell ⟨p,4,none⟩ (.slice (v8 2).A (v8 2).n (v8 2).c)).setCell ⟨p,5,none⟩ (.slice (v8 3).A (v8 3).n (v8 3).c)).setCell ⟨x,1,none⟩ (.string yk)).setCell ⟨x,2,none⟩ (.bool yb)=W6 at R3|-;obtain⟨v1,v2,w1,w2,r1,r2,o2,b1,b2⟩:=hE (R3.out.two.b.rows 0 (by omega)) key iL.out rM.out;obtain⟨r9,rfl,k9⟩:=SW.made o2 R3.out.two.b.cl;have RA:=R3.out.below b2;have R4:=J (RA.dO k9);obtain⟨c0,c1,c2,c3,c4,c5⟩:=(R3.out.below ((zo W6.heap.size W6).alloc (zg _) (.cells #[] 9))).two.b.box.c;obtain⟨d0,d1,d2,d3,d4,d5⟩:=RA.two.b.box.c;obtain⟨f0,f1,f2,f3,f4,f5⟩:=RA.two.b.box.f;have fK:=J r1;have dY:=zs (_=_) r2;clear r1 r2 o2 b1 b2 k9 RA R3;go_upto_region 37 with(at_builtin;first|(refine aq rfl _ _ _ rfl _ _ _ _ rfl rfl fK.out ?_)|(refine aq rfl _ _ _ rfl _ _ _ _ rfl rfl dY.out ?_))
 clear c0 c1 c2 c3 c4 c5 d0 d1 d2 d3 d4 d5 f0 f1 f2 f3 f4 f5 fK dY;generalize w2.setCell ⟨p,2,none⟩ (.slice r9.A r9.n r9.c)=W9 at R4|-;obtain⟨c0,c1,c2,c3,c4,c5⟩:=R4.out.two.b.box.c;obtain⟨x0,x1,x2⟩:=R4.out.aH.c;obtain⟨d0,d1,d2,d3,d4,d5⟩:=R4.out.two.res.c;obtain⟨f0,f1,f2,f3,f4,f5⟩:=R4.out.two.res.f;obtain⟨r0,r1,r2⟩:=R4.out.res.c;obtain⟨g0,g1,g2⟩:=R4.out.res.f;obtain⟨dC,dD,bl,du,dE⟩:=R4.out.ne;have dg:p≠q:=R4.out.two.ne;have gD:q≠p:=qa dg;have jd:p≠r:=qa dC;have je:q≠r:=qa dD;have cW:p≠x:=qa bl;have ik:q≠x:=qa du;have jf:x≠r:=qa dE;go_region;have F:=J (R4.out.out (P0:=P) bB.out);go_wp2_with fail
 (try simp only[Exit.inBlock,Exit.then]);refine bodyPost_ret (aP rfl _ _ _ ⟨q,0,none⟩ ⟨r,0,none⟩ _ _ rfl (bf (F.out.1.below (aG _))) rfl (cL (F.out.2.1.below (aG _)))) rfl ?_;rw[← HE.out.1,<-HE.out.2.1,<-HE.out.2.2];exact⟨_,rfl,F.out.2.2.1.below (aG _),F.out.2.2.2.trans ((aG _).mono F.out.2.2.2.size)⟩
theorem Qe(h1:mo<=(X 0).length+(X 2).length)(h2:mo<=(X 0).length):Calls prog 54 #[aU mo s v,.string key] w (CT w P (λx=> .tuple #[x,gE false (hd (X 0)) true]) mo s (af (af X 0 (X 0).tail) 0 ((af X 0 (X 0).tail) 0++ [key]))):=by
 have lY:=J dn;have ov:=J gA;clear dn gA;have l0:=(h 0 (by omega)).len;have l1:=(h 1 (by omega)).len;have l2:=(h 2 (by omega)).len;have l3:=(h 3 (by omega)).len;have z0:=bA bk 0 (by omega);have z1:=bA bk 1 (by omega);have z2:=bA bk 2 (by omega);have z3:=bA bk 3 (by omega);obtain⟨l,fG⟩:=zx ((v 0).n+(v 2).n);have vd:IntKind.i64.wrap (((v 0).n:Int)+((v 2).n:Int))=(l:Int):=by rw[qi _ (by omega)];omega
 have e1:decide (mo<=l)=true:=by simpa using(show mo<=l by omega)
 have e2:¬(v 0).n < mo:=by omega
 have As:=zs (0 < (X 0).length) (by omega);have rL:=zs ((af X 0 (X 0).tail 0).length<=1900) (zr (bA (zr (tU 0 (by omega)) bk) 0 (by omega)) (by omega));clear fG l0 l1 l2 l3 z0 z1 z2 z3 h1 h2;have e9:((mo:Int)==0)=false:=by simp;omega
 have e8:(mo==0)=false:=by simp;omega
 clear h0;have iL:=J fD;have jE:=J bk;have HM:=zs (mo<=9223372036854775807) (by omega);have HS:=zs (s<=9223372036854775807) (by omega);have qJ:=J (xy hm b7);clear fD bk hm b7;have R0:=J (RQ.start h hP mo s);clear h hP;go_enter func54,ntmps54;go_upto_region 2 with fail
 generalize(((w.alloc (aM mo s v)).alloc (aM 0 0 zV)).alloc (bq false ⟨#[]⟩ false)).alloc (bq false ⟨#[]⟩ false)=W at R0|-;have bB:=zs (∀k,wq P w.heap.size k->P k) (λk hk=>hk.1);generalize wq P w.heap.size=Q at R0 bB;generalize w.heap.size+1+1+1=x at R0|-;generalize w.heap.size+1+1=r at R0|-;generalize w.heap.size+1=q at R0|-;obtain⟨p,hp⟩:=zx w.heap.size;rw[← hp] at R0|-;have bR:=J hp;clear hp;obtain⟨c0,c1,c2,c3,c4,c5⟩:=R0.out.two.b.box.c;have U:=J (et W _ mo s v X R0.out.two.b.rows R0.out.two.b.cl key);rw[hh] at U;go_wp2_with fail
 refine U.out.mono ?_;rintro e W1 ⟨rfl,B1⟩;have R1:=J ((R0.out.below B1).z0 false);obtain⟨x0,_,_⟩:=(R0.out.below B1).aH.c;obtain⟨g0,_,_⟩:=(R0.out.below B1).aH.f;clear c0 c1 c2 c3 c4 c5 B1 R0 U;go_upto_region 3 with fail
 clear x0 g0;generalize W1.setCell ⟨x,0,none⟩ (.bool false)=W2 at R1|-;obtain⟨c0,c1,c2,c3,c4,c5⟩:=R1.out.two.b.box.c;obtain⟨x0,x1,x2⟩:=R1.out.aH.c;go_upto_region 9 with fail
 clear x0 x1 x2 e8 e9;have V:=fV W2 _ (v 2) (X 2) key (R1.out.two.b.rows 2 (by omega));rw[lY.out] at V;have V:=J V;go_wp2_with fail
 refine V.out.mono ?_;rintro e W3 ⟨rfl,rfl⟩;clear V;go_upto_region 17 with fail
 have V:=fV W2 _ (v 3) (X 3) key (R1.out.two.b.rows 3 (by omega));rw[ov.out] at V;have V:=J V;go_wp2_with fail
 refine V.out.mono ?_;rintro e W3 ⟨rfl,rfl⟩;clear V lY ov;go_upto_region 25 with fail
 go_upto_region 29 with fail
 have h0:=As.out;have Su:=As.out;have lF:=(R1.out.two.b.rows 0 (by omega)).at (k:=0) h0;obtain⟨g,o,_,hA,hg,bX,lu,iZ⟩:=lF;rw[j4 h0,Nat.add_zero] at bX;unfold maxLen at iZ;rw[hA] at c2;have bZ:=(R1.out.two.b.rows 0 (by omega)).len;rw[bZ] at h0;generalize jl:hd (X 0)=kk at*;have uZ:=J jl;clear jl bZ;obtain⟨x0,x1,x2⟩:=R1.out.aH.c;obtain⟨g0,g1,g2⟩:=R1.out.aH.f;have R2:=J (R1.out.z1 kk);go_upto_region 30 with fail
 clear c0 c1 c2 c3 c4 c5 x0 x1 x2 g0 g1 g2 e1 e2 vd bX lu iZ hA R1;generalize W2.setCell ⟨x,1,none⟩ (.string kk)=W4 at R2|-;obtain⟨x0,x1,x2⟩:=R2.out.aH.c;obtain⟨g0,g1,g2⟩:=R2.out.aH.f;have R3:=J (R2.out.z2 true);go_upto_region 31 with fail
 clear x0 x1 x2 g0 g1 g2 R2;generalize W4.setCell ⟨x,2,none⟩ (.bool true)=W5 at R3|-;obtain⟨r',sA,sS,hT⟩:=(R3.out.two.b.rows 0 (by omega)).tail Su;have R4:=J (R3.out.dO hT);obtain⟨c0,c1,c2,c3,c4,c5⟩:=R3.out.two.b.box.c;obtain⟨f0,f1,f2,f3,f4,f5⟩:=R3.out.two.b.box.f;clear hT Su;go_upto_region 36 with fail
 clear c0 c1 c2 c3 c4 c5 f0 f1 f2 f3 f4 f5 sA sS h0 R3 As;generalize W5.setCell ⟨p,2,none⟩ (.slice r'.A r'.n r'.c)=W6 at R4|-;obtain⟨v1,v2,w1,w2,r1,r2,o2,b1,b2⟩:=hE (R4.out.two.b.rows 0 (by omega)) key iL.out rL.out;obtain⟨r9,rfl,k9⟩:=SW.made o2 R4.out.two.b.cl;have RA:=R4.out.below b2;have R5:=J (RA.dO k9);obtain⟨c0,c1,c2,c3,c4,c5⟩:=(R4.out.below ((zo W6.heap.size W6).alloc (zg _) (.cells #[] 9))).two.b.box.c;obtain⟨d0,d1,d2,d3,d4,d5⟩:=RA.two.b.box.c;obtain⟨f0,f1,f2,f3,f4,f5⟩:=RA.two.b.box.f;have fK:=J r1;have dY:=zs (_=_) r2;clear r1 r2 o2 b1 b2 k9 RA R4;go_upto_region 37 with(at_builtin;first|(refine aq rfl _ _ _ rfl _ _ _ _ rfl rfl fK.out ?_)|(refine aq rfl _ _ _ rfl _ _ _ _ rfl rfl dY.out ?_))
 clear c0 c1 c2 c3 c4 c5 d0 d1 d2 d3 d4 d5 f0 f1 f2 f3 f4 f5 fK dY;generalize w2.setCell ⟨p,2,none⟩ (.slice r9.A r9.n r9.c)=W9 at R5|-;obtain⟨c0,c1,c2,c3,c4,c5⟩:=R5.out.two.b.box.c;obtain⟨x0,x1,x2⟩:=R5.out.aH.c;obtain⟨d0,d1,d2,d3,d4,d5⟩:=R5.out.two.res.c;obtain⟨f0,f1,f2,f3,f4,f5⟩:=R5.out.two.res.f;obtain⟨r0,r1,r2⟩:=R5.out.res.c;obtain⟨g0,g1,g2⟩:=R5.out.res.f;obtain⟨dC,dD,bl,du,dE⟩:=R5.out.ne;have dg:p≠q:=R5.out.two.ne;have gD:q≠p:=qa dg;have jd:p≠r:=qa dC;have je:q≠r:=qa dD;have cW:p≠x:=qa bl;have ik:q≠x:=qa du;have jf:x≠r:=qa dE;go_region;have F:=J (R5.out.out (P0:=P) bB.out);go_wp2_with fail
 (try simp only[Exit.inBlock,Exit.then]);refine bodyPost_ret (aP rfl _ _ _ ⟨q,0,none⟩ ⟨r,0,none⟩ _ _ rfl (bf (F.out.1.below (aG _))) rfl (cL (F.out.2.1.below (aG _)))) rfl ?_;rw[uZ.out];exact⟨_,rfl,F.out.2.2.1.below (aG _),F.out.2.2.2.trans ((aG _).mono F.out.2.2.2.size)⟩
theorem Qf(h1:(X 0).length+(X 2).length < mo)(h2:dm X < mo):Calls prog 54 #[aU mo s v,.string key] w (CT w P (λx=> .tuple #[x,gE false ⟨#[]⟩ false]) mo s (af X 0 (X 0++ [key]))):=by
 have lY:=J dn;have ov:=J gA;clear dn gA;have l0:=(h 0 (by omega)).len;have l1:=(h 1 (by omega)).len;have l2:=(h 2 (by omega)).len;have l3:=(h 3 (by omega)).len;have z0:=bA bk 0 (by omega);have z1:=bA bk 1 (by omega);have z2:=bA bk 2 (by omega);have z3:=bA bk 3 (by omega);obtain⟨l,fG⟩:=zx ((v 0).n+(v 2).n);have vd:IntKind.i64.wrap (((v 0).n:Int)+((v 2).n:Int))=(l:Int):=by rw[qi _ (by omega)];omega
 have e1:decide (mo<=l)=false:=by simpa using(show l < mo by omega)
 obtain⟨a,xD⟩:=zx (dm X)
 have UA:=J (λ(W:zw) {Q:Nat->Prop} {p q r x:Nat} (R:RQ w W Q p q r x mo s v X false ⟨#[]⟩ false)=>(show Calls prog 99 #[aU mo s v] W (dV (.int .i64 (a:Int)) W) from by
  have:=xX W _ mo s v X R.two.b.rows R.two.b.cl;rw[show(X 0).length+(X 1).length+(X 2).length+(X 3).length=a from xD.symm] at this;exact this))
 have Fh:IntKind.i64.wrap ((a:Int) - (mo:Int))=(a:Int) - (mo:Int):=qi _ (by omega);have e2:decide (mo<=a)=false:=by simpa using(show a < mo by omega)
 have rL:=zs ((X 0).length<=1900) (by omega);clear xD Fh;clear fG l0 l1 l2 l3 z0 z1 z2 z3 h1 h2;have e9:((mo:Int)==0)=false:=by simp;omega
 have e8:(mo==0)=false:=by simp;omega
 clear h0;have iL:=J fD;have jE:=J bk;have HM:=zs (mo<=9223372036854775807) (by omega);have HS:=zs (s<=9223372036854775807) (by omega);have qJ:=J (xy hm b7);clear fD bk hm b7;have R0:=J (RQ.start h hP mo s);clear h hP;go_enter func54,ntmps54;go_upto_region 2 with fail
 generalize(((w.alloc (aM mo s v)).alloc (aM 0 0 zV)).alloc (bq false ⟨#[]⟩ false)).alloc (bq false ⟨#[]⟩ false)=W at R0|-;have bB:=zs (∀k,wq P w.heap.size k->P k) (λk hk=>hk.1);generalize wq P w.heap.size=Q at R0 bB;generalize w.heap.size+1+1+1=x at R0|-;generalize w.heap.size+1+1=r at R0|-;generalize w.heap.size+1=q at R0|-;obtain⟨p,hp⟩:=zx w.heap.size;rw[← hp] at R0|-;have bR:=J hp;clear hp;obtain⟨c0,c1,c2,c3,c4,c5⟩:=R0.out.two.b.box.c;have U:=J (et W _ mo s v X R0.out.two.b.rows R0.out.two.b.cl key);rw[hh] at U;go_wp2_with fail
 refine U.out.mono ?_;rintro e W1 ⟨rfl,B1⟩;have R1:=J ((R0.out.below B1).z0 false);obtain⟨x0,_,_⟩:=(R0.out.below B1).aH.c;obtain⟨g0,_,_⟩:=(R0.out.below B1).aH.f;clear c0 c1 c2 c3 c4 c5 B1 R0 U;go_upto_region 3 with fail
 clear x0 g0;generalize W1.setCell ⟨x,0,none⟩ (.bool false)=W2 at R1|-;obtain⟨c0,c1,c2,c3,c4,c5⟩:=R1.out.two.b.box.c;obtain⟨x0,x1,x2⟩:=R1.out.aH.c;go_upto_region 9 with fail
 clear x0 x1 x2 e8 e9;have V:=fV W2 _ (v 2) (X 2) key (R1.out.two.b.rows 2 (by omega));rw[lY.out] at V;have V:=J V;go_wp2_with fail
 refine V.out.mono ?_;rintro e W3 ⟨rfl,rfl⟩;clear V;go_upto_region 17 with fail
 have V:=fV W2 _ (v 3) (X 3) key (R1.out.two.b.rows 3 (by omega));rw[ov.out] at V;have V:=J V;go_wp2_with fail
 refine V.out.mono ?_;rintro e W3 ⟨rfl,rfl⟩;clear V lY ov;go_upto_region 25 with fail
 go_upto_region 32 with fail
 have HD:=J (R1.out.below (aG _));clear R1;refine wp_region_noPanic ?_;refine wp_region_held_drew (S:=(λw'=>w'.cell? ⟨p,0,none⟩=some (.int .i64 (mo:Int))/\w'.cell? ⟨p,1,none⟩=some (.int .i64 (s:Int))/\w'.cell? ⟨p,2,none⟩=some (.slice (v 0).A (v 0).n (v 0).c)/\w'.cell? ⟨p,3,none⟩=some (.slice (v 1).A (v 1).n (v 1).c)/\w'.cell? ⟨p,4,none⟩=some (.slice (v 2).A (v 2).n (v 2).c)/\w'.cell? ⟨p,5,none⟩=some (.slice (v 3).A (v 3).n (v 3).c))) (by kernel_rfl) ?_ (λhHeld=>?_)
 . exact⟨c0,c1,c2,c3,c4,c5⟩
 clear c0 c1 c2 c3 c4 c5;refine zi 0 (v:=?_) rfl (by kernel_rfl) zq ‹_› (by intro w aO;(try dsimp only at aO);go_simp;(try with_reducible rfl)) ?_;(try simp only[Act.put,za,zb,zc])
 iterate 2 (refine zi 1 (v:=?_) rfl (by kernel_rfl) zq ‹_› (by intro w aO;(try dsimp only at aO);go_simp;(try with_reducible rfl)) ?_;(try simp only[Act.put,za,zb,zc]))
 refine wpAnyH_ready (rs:=[1]) (by kernel_rfl) (by simp) ?_;refine zn rfl (λK hK=>?_);go_simp;refine(UA.out _ HD.out).mono ?_;rintro e W4 ⟨rfl,hB⟩;have R2:=J (HD.out.below hB);clear hB;go_wp2_with fail
 refine hK.out _ _ ?_ (λhHeld=>?_)
 . exact⟨R2.out.two.b.box.c.1,R2.out.two.b.box.c.2.1,R2.out.two.b.box.c.2.2.1,R2.out.two.b.box.c.2.2.2.1,R2.out.two.b.box.c.2.2.2.2.1,R2.out.two.b.box.c.2.2.2.2.2⟩
 clear hK K;(try simp only[Act.put,za,zb,zc]);refine zi 0 (v:=?_) rfl (by kernel_rfl) zq ‹_› (by intro w aO;(try dsimp only at aO);go_simp;(try with_reducible rfl)) ?_;(try simp only[Act.put,za,zb,zc]);refine wpAnyH_done (by kernel_rfl) ?_ _;refine NoPanic.normal ?_;clear hHeld HD;obtain⟨c0,c1,c2,c3,c4,c5⟩:=R2.out.two.b.box.c;go_upto_region 36 with fail
 clear c0 c1 c2 c3 c4 c5 e1 e2 vd UA;obtain⟨v1,v2,w1,w2,r1,r2,o2,b1,b2⟩:=hE (R2.out.two.b.rows 0 (by omega)) key iL.out rL.out;obtain⟨r9,rfl,k9⟩:=SW.made o2 R2.out.two.b.cl;have RA:=R2.out.below b2;have R3:=J (RA.dO k9);obtain⟨c0,c1,c2,c3,c4,c5⟩:=(R2.out.below ((zo W4.heap.size W4).alloc (zg _) (.cells #[] 9))).two.b.box.c;obtain⟨d0,d1,d2,d3,d4,d5⟩:=RA.two.b.box.c;obtain⟨f0,f1,f2,f3,f4,f5⟩:=RA.two.b.box.f;have fK:=J r1;have dY:=zs (_=_) r2;clear r1 r2 o2 b1 b2 k9 RA R2;go_upto_region 37 with(at_builtin;first|(refine aq rfl _ _ _ rfl _ _ _ _ rfl rfl fK.out ?_)|(refine aq rfl _ _ _ rfl _ _ _ _ rfl rfl dY.out ?_))
 clear c0 c1 c2 c3 c4 c5 d0 d1 d2 d3 d4 d5 f0 f1 f2 f3 f4 f5 fK dY;generalize w2.setCell ⟨p,2,none⟩ (.slice r9.A r9.n r9.c)=W9 at R3|-;obtain⟨c0,c1,c2,c3,c4,c5⟩:=R3.out.two.b.box.c;obtain⟨x0,x1,x2⟩:=R3.out.aH.c;obtain⟨d0,d1,d2,d3,d4,d5⟩:=R3.out.two.res.c;obtain⟨f0,f1,f2,f3,f4,f5⟩:=R3.out.two.res.f;obtain⟨r0,r1,r2⟩:=R3.out.res.c;obtain⟨g0,g1,g2⟩:=R3.out.res.f;obtain⟨dC,dD,bl,du,dE⟩:=R3.out.ne;have dg:p≠q:=R3.out.two.ne;have gD:q≠p:=qa dg;have jd:p≠r:=qa dC;have je:q≠r:=qa dD;have cW:p≠x:=qa bl;have ik:q≠x:=qa du;have jf:x≠r:=qa dE;go_region;have F:=J (R3.out.out (P0:=P) bB.out);go_wp2_with fail
 (try simp only[Exit.inBlock,Exit.then]);refine bodyPost_ret (aP rfl _ _ _ ⟨q,0,none⟩ ⟨r,0,none⟩ _ _ rfl (bf (F.out.1.below (aG _))) rfl (cL (F.out.2.1.below (aG _)))) rfl ?_;exact⟨_,rfl,F.out.2.2.1.below (aG _),F.out.2.2.2.trans ((aG _).mono F.out.2.2.2.size)⟩
theorem Qg(h1:(X 0).length+(X 2).length < mo)(h2:mo<=dm X)(h3:dm X < 2*mo):Calls prog 54 #[aU mo s v,.string key] w (CT w P (λx=> .tuple #[x,gE false (mK X mo s false) (mB X mo s false)]) mo s (af (mX X mo s false) 0 ((mX X mo s false) 0++ [key]))):=by
 have lY:=J dn;have ov:=J gA;clear dn gA;have l0:=(h 0 (by omega)).len;have l1:=(h 1 (by omega)).len;have l2:=(h 2 (by omega)).len;have l3:=(h 3 (by omega)).len;have z0:=bA bk 0 (by omega);have z1:=bA bk 1 (by omega);have z2:=bA bk 2 (by omega);have z3:=bA bk 3 (by omega);obtain⟨l,fG⟩:=zx ((v 0).n+(v 2).n);have vd:IntKind.i64.wrap (((v 0).n:Int)+((v 2).n:Int))=(l:Int):=by rw[qi _ (by omega)];omega
 have e1:decide (mo<=l)=false:=by simpa using(show l < mo by omega)
 obtain⟨a,xD⟩:=zx (dm X)
 have UA:=J (λ(W:zw) {Q:Nat->Prop} {p q r x:Nat} (R:RQ w W Q p q r x mo s v X false ⟨#[]⟩ false)=>(show Calls prog 99 #[aU mo s v] W (dV (.int .i64 (a:Int)) W) from by
  have:=xX W _ mo s v X R.two.b.rows R.two.b.cl;rw[show(X 0).length+(X 1).length+(X 2).length+(X 3).length=a from xD.symm] at this;exact this))
 have Fh:IntKind.i64.wrap ((a:Int) - (mo:Int))=(a:Int) - (mo:Int):=qi _ (by omega);have e2:decide (mo<=a)=true:=by simpa using(show mo<=a by omega)
 have e3:¬(mo:Int)<=(a:Int) - (mo:Int):=by omega
 have e5:decide ((mo:Int)<=(a:Int) - (mo:Int))=false:=by simpa using e3
 have xC:=J bk;clear xD h3;clear fG l0 l1 l2 l3 z0 z1 z2 z3 h1 h2;have e9:((mo:Int)==0)=false:=by simp;omega
 have e8:(mo==0)=false:=by simp;omega
 clear h0;have iL:=J fD;have jE:=J bk;have HM:=zs (mo<=9223372036854775807) (by omega);have HS:=zs (s<=9223372036854775807) (by omega);have qJ:=J (xy hm b7);clear fD bk hm b7;have R0:=J (RQ.start h hP mo s);clear h hP;go_enter func54,ntmps54;go_upto_region 2 with fail
 generalize(((w.alloc (aM mo s v)).alloc (aM 0 0 zV)).alloc (bq false ⟨#[]⟩ false)).alloc (bq false ⟨#[]⟩ false)=W at R0|-;have bB:=zs (∀k,wq P w.heap.size k->P k) (λk hk=>hk.1);generalize wq P w.heap.size=Q at R0 bB;generalize w.heap.size+1+1+1=x at R0|-;generalize w.heap.size+1+1=r at R0|-;generalize w.heap.size+1=q at R0|-;obtain⟨p,hp⟩:=zx w.heap.size;rw[← hp] at R0|-;have bR:=J hp;clear hp;obtain⟨c0,c1,c2,c3,c4,c5⟩:=R0.out.two.b.box.c;have U:=J (et W _ mo s v X R0.out.two.b.rows R0.out.two.b.cl key);rw[hh] at U;go_wp2_with fail
 refine U.out.mono ?_;rintro e W1 ⟨rfl,B1⟩;have R1:=J ((R0.out.below B1).z0 false);obtain⟨x0,_,_⟩:=(R0.out.below B1).aH.c;obtain⟨g0,_,_⟩:=(R0.out.below B1).aH.f;clear c0 c1 c2 c3 c4 c5 B1 R0 U;go_upto_region 3 with fail
 clear x0 g0;generalize W1.setCell ⟨x,0,none⟩ (.bool false)=W2 at R1|-;obtain⟨c0,c1,c2,c3,c4,c5⟩:=R1.out.two.b.box.c;obtain⟨x0,x1,x2⟩:=R1.out.aH.c;go_upto_region 9 with fail
 clear x0 x1 x2 e8 e9;have V:=fV W2 _ (v 2) (X 2) key (R1.out.two.b.rows 2 (by omega));rw[lY.out] at V;have V:=J V;go_wp2_with fail
 refine V.out.mono ?_;rintro e W3 ⟨rfl,rfl⟩;clear V;go_upto_region 17 with fail
 have V:=fV W2 _ (v 3) (X 3) key (R1.out.two.b.rows 3 (by omega));rw[ov.out] at V;have V:=J V;go_wp2_with fail
 refine V.out.mono ?_;rintro e W3 ⟨rfl,rfl⟩;clear V lY ov;go_upto_region 25 with fail
 go_upto_region 32 with fail
 have HD:=J (R1.out.below (aG _));clear R1;refine wp_region_noPanic ?_;refine wp_region_held_drew (S:=(λw'=>w'.cell? ⟨p,0,none⟩=some (.int .i64 (mo:Int))/\w'.cell? ⟨p,1,none⟩=some (.int .i64 (s:Int))/\w'.cell? ⟨p,2,none⟩=some (.slice (v 0).A (v 0).n (v 0).c)/\w'.cell? ⟨p,3,none⟩=some (.slice (v 1).A (v 1).n (v 1).c)/\w'.cell? ⟨p,4,none⟩=some (.slice (v 2).A (v 2).n (v 2).c)/\w'.cell? ⟨p,5,none⟩=some (.slice (v 3).A (v 3).n (v 3).c))) (by kernel_rfl) ?_ (λhHeld=>?_)
 . exact⟨c0,c1,c2,c3,c4,c5⟩
 clear c0 c1 c2 c3 c4 c5;refine zi 0 (v:=?_) rfl (by kernel_rfl) zq ‹_› (by intro w aO;(try dsimp only at aO);go_simp;(try with_reducible rfl)) ?_;(try simp only[Act.put,za,zb,zc])
 iterate 2 (refine zi 1 (v:=?_) rfl (by kernel_rfl) zq ‹_› (by intro w aO;(try dsimp only at aO);go_simp;(try with_reducible rfl)) ?_;(try simp only[Act.put,za,zb,zc]))
 refine wpAnyH_ready (rs:=[1]) (by kernel_rfl) (by simp) ?_;refine zn rfl (λK hK=>?_);go_simp;refine(UA.out _ HD.out).mono ?_;rintro e W4 ⟨rfl,hB⟩;have R2:=J (HD.out.below hB);clear hB;go_wp2_with fail
 refine hK.out _ _ ?_ (λhHeld=>?_)
 . exact⟨R2.out.two.b.box.c.1,R2.out.two.b.box.c.2.1,R2.out.two.b.box.c.2.2.1,R2.out.two.b.box.c.2.2.2.1,R2.out.two.b.box.c.2.2.2.2.1,R2.out.two.b.box.c.2.2.2.2.2⟩
 clear hK K;(try simp only[Act.put,za,zb,zc]);refine zi 0 (v:=?_) rfl (by kernel_rfl) zq ‹_› (by intro w aO;(try dsimp only at aO);go_simp;(try with_reducible rfl)) ?_;(try simp only[Act.put,za,zb,zc]);refine wpAnyH_done (by kernel_rfl) ?_ _;refine NoPanic.normal ?_;clear hHeld HD;obtain⟨c0,c1,c2,c3,c4,c5⟩:=R2.out.two.b.box.c;go_upto_region 33 with fail
 have HD:=J (R2.out.below (aG _));clear R2;refine wp_region_noPanic ?_;refine wp_region_held_drew (S:=(λw'=>w'.cell? ⟨p,0,none⟩=some (.int .i64 (mo:Int))/\w'.cell? ⟨p,1,none⟩=some (.int .i64 (s:Int))/\w'.cell? ⟨p,2,none⟩=some (.slice (v 0).A (v 0).n (v 0).c)/\w'.cell? ⟨p,3,none⟩=some (.slice (v 1).A (v 1).n (v 1).c)/\w'.cell? ⟨p,4,none⟩=some (.slice (v 2).A (v 2).n (v 2).c)/\w'.cell? ⟨p,5,none⟩=some (.slice (v 3).A (v 3).n (v 3).c))) (by kernel_rfl) ?_ (λhHeld=>?_)
 . exact⟨c0,c1,c2,c3,c4,c5⟩
 clear c0 c1 c2 c3 c4 c5;refine zi 0 (v:=?_) rfl (by kernel_rfl) zq ‹_› (by intro w aO;(try dsimp only at aO);go_simp;(try with_reducible rfl)) ?_;(try simp only[Act.put,za,zb,zc])
 iterate 2 (refine zi 1 (v:=?_) rfl (by kernel_rfl) zq ‹_› (by intro w aO;(try dsimp only at aO);go_simp;(try with_reducible rfl)) ?_;(try simp only[Act.put,za,zb,zc]))
 iterate 2 (refine zi 2 (v:=?_) rfl (by kernel_rfl) zq ‹_› (by intro w aO;(try dsimp only at aO);go_simp;(try with_reducible rfl)) ?_;(try simp only[Act.put,za,zb,zc]))
 refine wpAnyH_ready (rs:=[1]) (by kernel_rfl) (by simp) ?_;refine zn rfl (λK hK=>?_);go_simp;refine(UA.out _ HD.out).mono ?_;rintro e W5 ⟨rfl,hB⟩;have R3:=J (HD.out.below hB);clear hB;go_wp2_with fail
 refine hK.out _ _ ?_ (λhHeld=>?_)
 . exact⟨R3.out.two.b.box.c.1,R3.out.two.b.box.c.2.1,R3.out.two.b.box.c.2.2.1,R3.out.two.b.box.c.2.2.2.1,R3.out.two.b.box.c.2.2.2.2.1,R3.out.two.b.box.c.2.2.2.2.2⟩
 clear hK K;(try simp only[Act.put,za,zb,zc])
 iterate 3 (refine zi 0 (v:=?_) rfl (by kernel_rfl) zq ‹_› (by intro w aO;(try dsimp only at aO);go_simp;(try with_reducible rfl)) ?_;(try simp only[Act.put,za,zb,zc]))
 iterate 4 (refine zj 0 rfl (by kernel_rfl) zq ‹_› ?_;(try simp only[Act.put,za,zb,zc]))
 refine zi 0 (v:=?_) rfl (by kernel_rfl) zq ‹_› (by intro w aO;(try dsimp only at aO);go_simp;(try with_reducible rfl)) ?_;(try simp only[Act.put,za,zb,zc]);refine wpAnyH_done (by kernel_rfl) ?_ _;refine NoPanic.normal ?_;clear hHeld HD;obtain⟨c0,c1,c2,c3,c4,c5⟩:=R3.out.two.b.box.c;go_upto_region 35 with fail
 clear c0 c1 c2 c3 c4 c5 e1 e2 e3 e5 vd Fh UA;have U0:=pc _ _ mo s v X R3.out.two.b.rows R3.out.two.b.cl false HS.out HM.out (λk hk=>zr (bA xC.out k hk) (by omega));have rM:=zs ((mX X mo s false 0).length<=1900) (zr (bA (zr pg xC.out) 0 (by omega)) (by omega));obtain⟨Y,hY⟩:=zx (mX X mo s false);obtain⟨yk,hk⟩:=zx (mK X mo s false);obtain⟨yb,hb⟩:=zx (mB X mo s false);rw[← hY,<-hk,<-hb] at U0;rw[← hY] at rM;have HE:=J (xy hY (xy hk hb));have U:=J U0;clear U0 hY hk hb;obtain⟨c0,c1,c2,c3,c4,c5⟩:=R3.out.two.b.box.c;go_wp2_with fail
 refine U.out.mono ?_;rintro e W5 ⟨v8,rfl,hr,hB⟩;unfold rJ;have aD:=R3.out.below hB;have R4:=J (((aD.dj (mo':=mo) (s':=s) hr).z1 yk).z2 yb);obtain⟨d0,d1,d2,d3,d4,d5⟩:=aD.two.b.box.c;obtain⟨f0,f1,f2,f3,f4,f5⟩:=aD.two.b.box.f;obtain⟨x0,x1,x2⟩:=aD.aH.c;obtain⟨g0,g1,g2⟩:=aD.aH.f;have bl:x≠p:=aD.ne.2.2.1;have cW:p≠x:=qa bl;clear c0 c1 c2 c3 c4 c5 hr hB aD U R3;go_upto_region 36 with fail
 clear d0 d1 d2 d3 d4 d5 f0 f1 f2 f3 f4 f5 x0 x1 x2 g0 g1 g2 bl cW;dsimp only[cX] at R4;generalize(((((((W5.setCell ⟨p,0,none⟩ (.int .i64 (mo:Int))).setCell ⟨p,1,none⟩ (.int .i64 (s:Int))).setCell ⟨p,2,none⟩ (.slice (v8 0).A (v8 0).n (v8 0).c)).setCell ⟨p,3,none⟩ (.slice (v8 1).A (v8 1).n (v8 1).c)).setCell ⟨p,4,none⟩ (.slice (v8 2).A (v8 2).n (v8 2).c)).setCell ⟨p,5,none⟩ (.slice (v8 3).A (v8 3).n (v8 3).c)).setCell ⟨x,1,none⟩ (.string yk)).setCell ⟨x,2,none⟩ (.bool yb)=W6 at R4|-;obtain⟨v1,v2,w1,w2,r1,r2,o2,b1,b2⟩:=hE (R4.out.two.b.rows 0 (by omega)) key iL.out rM.out;obtain⟨r9,rfl,k9⟩:=SW.made o2 R4.out.two.b.cl;have RA:=R4.out.below b2;have R5:=J (RA.dO k9);obtain⟨c0,c1,c2,c3,c4,c5⟩:=(R4.out.below ((zo W6.heap.size W6).alloc (zg _) (.cells #[] 9))).two.b.box.c;obtain⟨d0,d1,d2,d3,d4,d5⟩:=RA.two.b.box.c;obtain⟨f0,f1,f2,f3,f4,f5⟩:=RA.two.b.box.f;have fK:=J r1;have dY:=zs (_=_) r2;clear r1 r2 o2 b1 b2 k9 RA R4;go_upto_region 37 with(at_builtin;first|(refine aq rfl _ _ _ rfl _ _ _ _ rfl rfl fK.out ?_)|(refine aq rfl _ _ _ rfl _ _ _ _ rfl rfl dY.out ?_))
 clear c0 c1 c2 c3 c4 c5 d0 d1 d2 d3 d4 d5 f0 f1 f2 f3 f4 f5 fK dY;generalize w2.setCell ⟨p,2,none⟩ (.slice r9.A r9.n r9.c)=W9 at R5|-;obtain⟨c0,c1,c2,c3,c4,c5⟩:=R5.out.two.b.box.c;obtain⟨x0,x1,x2⟩:=R5.out.aH.c;obtain⟨d0,d1,d2,d3,d4,d5⟩:=R5.out.two.res.c;obtain⟨f0,f1,f2,f3,f4,f5⟩:=R5.out.two.res.f;obtain⟨r0,r1,r2⟩:=R5.out.res.c;obtain⟨g0,g1,g2⟩:=R5.out.res.f;obtain⟨dC,dD,bl,du,dE⟩:=R5.out.ne;have dg:p≠q:=R5.out.two.ne;have gD:q≠p:=qa dg;have jd:p≠r:=qa dC;have je:q≠r:=qa dD;have cW:p≠x:=qa bl;have ik:q≠x:=qa du;have jf:x≠r:=qa dE;go_region;have F:=J (R5.out.out (P0:=P) bB.out);go_wp2_with fail
 (try simp only[Exit.inBlock,Exit.then]);refine bodyPost_ret (aP rfl _ _ _ ⟨q,0,none⟩ ⟨r,0,none⟩ _ _ rfl (bf (F.out.1.below (aG _))) rfl (cL (F.out.2.1.below (aG _)))) rfl ?_;rw[← HE.out.1,<-HE.out.2.1,<-HE.out.2.2];exact⟨_,rfl,F.out.2.2.1.below (aG _),F.out.2.2.2.trans ((aG _).mono F.out.2.2.2.size)⟩
theorem Qh(h1:(X 0).length+(X 2).length < mo)(h2:2*mo<=dm X)(h3:0 < (X 3).length):Calls prog 54 #[aU mo s v,.string key] w (CT w P (λx=> .tuple #[x,gE false (mK (af X 3 (X 3).tail) mo s false) (mB (af X 3 (X 3).tail) mo s false)]) mo s (af (mX (af X 3 (X 3).tail) mo s false) 0 ((mX (af X 3 (X 3).tail) mo s false) 0++ [key]))):=by
 have lY:=J dn;have ov:=J gA;clear dn gA;have l0:=(h 0 (by omega)).len;have l1:=(h 1 (by omega)).len;have l2:=(h 2 (by omega)).len;have l3:=(h 3 (by omega)).len;have z0:=bA bk 0 (by omega);have z1:=bA bk 1 (by omega);have z2:=bA bk 2 (by omega);have z3:=bA bk 3 (by omega);obtain⟨l,fG⟩:=zx ((v 0).n+(v 2).n);have vd:IntKind.i64.wrap (((v 0).n:Int)+((v 2).n:Int))=(l:Int):=by rw[qi _ (by omega)];omega
 have e1:decide (mo<=l)=false:=by simpa using(show l < mo by omega)
 obtain⟨a,xD⟩:=zx (dm X)
 have UA:=J (λ(W:zw) {Q:Nat->Prop} {p q r x:Nat} (R:RQ w W Q p q r x mo s v X false ⟨#[]⟩ false)=>(show Calls prog 99 #[aU mo s v] W (dV (.int .i64 (a:Int)) W) from by
  have:=xX W _ mo s v X R.two.b.rows R.two.b.cl;rw[show(X 0).length+(X 1).length+(X 2).length+(X 3).length=a from xD.symm] at this;exact this))
 have Fh:IntKind.i64.wrap ((a:Int) - (mo:Int))=(a:Int) - (mo:Int):=qi _ (by omega);have e2:decide (mo<=a)=true:=by simpa using(show mo<=a by omega)
 have e3:(mo:Int)<=(a:Int) - (mo:Int):=by omega
 have e5:decide ((mo:Int)<=(a:Int) - (mo:Int))=true:=by simpa using e3
 have Sv:=J h3;have e4:0 < (v 3).n:=by omega
 have xC:=zs (dm (af X 3 (X 3).tail)<=1700) (zr (tU 3 (by omega)) bk);clear xD h3;clear fG l0 l1 l2 l3 z0 z1 z2 z3 h1 h2;have e9:((mo:Int)==0)=false:=by simp;omega
 have e8:(mo==0)=false:=by simp;omega
 clear h0;have iL:=J fD;have jE:=J bk;have HM:=zs (mo<=9223372036854775807) (by omega);have HS:=zs (s<=9223372036854775807) (by omega);have qJ:=J (xy hm b7);clear fD bk hm b7;have R0:=J (RQ.start h hP mo s);clear h hP;go_enter func54,ntmps54;go_upto_region 2 with fail
 generalize(((w.alloc (aM mo s v)).alloc (aM 0 0 zV)).alloc (bq false ⟨#[]⟩ false)).alloc (bq false ⟨#[]⟩ false)=W at R0|-;have bB:=zs (∀k,wq P w.heap.size k->P k) (λk hk=>hk.1);generalize wq P w.heap.size=Q at R0 bB;generalize w.heap.size+1+1+1=x at R0|-;generalize w.heap.size+1+1=r at R0|-;generalize w.heap.size+1=q at R0|-;obtain⟨p,hp⟩:=zx w.heap.size;rw[← hp] at R0|-;have bR:=J hp;clear hp;obtain⟨c0,c1,c2,c3,c4,c5⟩:=R0.out.two.b.box.c;have U:=J (et W _ mo s v X R0.out.two.b.rows R0.out.two.b.cl key);rw[hh] at U;go_wp2_with fail
 refine U.out.mono ?_;rintro e W1 ⟨rfl,B1⟩;have R1:=J ((R0.out.below B1).z0 false);obtain⟨x0,_,_⟩:=(R0.out.below B1).aH.c;obtain⟨g0,_,_⟩:=(R0.out.below B1).aH.f;clear c0 c1 c2 c3 c4 c5 B1 R0 U;go_upto_region 3 with fail
 clear x0 g0;generalize W1.setCell ⟨x,0,none⟩ (.bool false)=W2 at R1|-;obtain⟨c0,c1,c2,c3,c4,c5⟩:=R1.out.two.b.box.c;obtain⟨x0,x1,x2⟩:=R1.out.aH.c;go_upto_region 9 with fail
 clear x0 x1 x2 e8 e9;have V:=fV W2 _ (v 2) (X 2) key (R1.out.two.b.rows 2 (by omega));rw[lY.out] at V;have V:=J V;go_wp2_with fail
 refine V.out.mono ?_;rintro e W3 ⟨rfl,rfl⟩;clear V;go_upto_region 17 with fail
 have V:=fV W2 _ (v 3) (X 3) key (R1.out.two.b.rows 3 (by omega));rw[ov.out] at V;have V:=J V;go_wp2_with fail
 refine V.out.mono ?_;rintro e W3 ⟨rfl,rfl⟩;clear V lY ov;go_upto_region 25 with fail
 go_upto_region 32 with fail
 have HD:=J (R1.out.below (aG _));clear R1;refine wp_region_noPanic ?_;refine wp_region_held_drew (S:=(λw'=>w'.cell? ⟨p,0,none⟩=some (.int .i64 (mo:Int))/\w'.cell? ⟨p,1,none⟩=some (.int .i64 (s:Int))/\w'.cell? ⟨p,2,none⟩=some (.slice (v 0).A (v 0).n (v 0).c)/\w'.cell? ⟨p,3,none⟩=some (.slice (v 1).A (v 1).n (v 1).c)/\w'.cell? ⟨p,4,none⟩=some (.slice (v 2).A (v 2).n (v 2).c)/\w'.cell? ⟨p,5,none⟩=some (.slice (v 3).A (v 3).n (v 3).c))) (by kernel_rfl) ?_ (λhHeld=>?_)
 . exact⟨c0,c1,c2,c3,c4,c5⟩
 clear c0 c1 c2 c3 c4 c5;refine zi 0 (v:=?_) rfl (by kernel_rfl) zq ‹_› (by intro w aO;(try dsimp only at aO);go_simp;(try with_reducible rfl)) ?_;(try simp only[Act.put,za,zb,zc])
 iterate 2 (refine zi 1 (v:=?_) rfl (by kernel_rfl) zq ‹_› (by intro w aO;(try dsimp only at aO);go_simp;(try with_reducible rfl)) ?_;(try simp only[Act.put,za,zb,zc]))
 refine wpAnyH_ready (rs:=[1]) (by kernel_rfl) (by simp) ?_;refine zn rfl (λK hK=>?_);go_simp;refine(UA.out _ HD.out).mono ?_;rintro e W4 ⟨rfl,hB⟩;have R2:=J (HD.out.below hB);clear hB;go_wp2_with fail
 refine hK.out _ _ ?_ (λhHeld=>?_)
 . exact⟨R2.out.two.b.box.c.1,R2.out.two.b.box.c.2.1,R2.out.two.b.box.c.2.2.1,R2.out.two.b.box.c.2.2.2.1,R2.out.two.b.box.c.2.2.2.2.1,R2.out.two.b.box.c.2.2.2.2.2⟩
 clear hK K;(try simp only[Act.put,za,zb,zc]);refine zi 0 (v:=?_) rfl (by kernel_rfl) zq ‹_› (by intro w aO;(try dsimp only at aO);go_simp;(try with_reducible rfl)) ?_;(try simp only[Act.put,za,zb,zc]);refine wpAnyH_done (by kernel_rfl) ?_ _;refine NoPanic.normal ?_;clear hHeld HD;obtain⟨c0,c1,c2,c3,c4,c5⟩:=R2.out.two.b.box.c;go_upto_region 33 with fail
 have HD:=J (R2.out.below (aG _));clear R2;refine wp_region_noPanic ?_;refine wp_region_held_drew (S:=(λw'=>w'.cell? ⟨p,0,none⟩=some (.int .i64 (mo:Int))/\w'.cell? ⟨p,1,none⟩=some (.int .i64 (s:Int))/\w'.cell? ⟨p,2,none⟩=some (.slice (v 0).A (v 0).n (v 0).c)/\w'.cell? ⟨p,3,none⟩=some (.slice (v 1).A (v 1).n (v 1).c)/\w'.cell? ⟨p,4,none⟩=some (.slice (v 2).A (v 2).n (v 2).c)/\w'.cell? ⟨p,5,none⟩=some (.slice (v 3).A (v 3).n (v 3).c))) (by kernel_rfl) ?_ (λhHeld=>?_)
 . exact⟨c0,c1,c2,c3,c4,c5⟩
 clear c0 c1 c2 c3 c4 c5;refine zi 0 (v:=?_) rfl (by kernel_rfl) zq ‹_› (by intro w aO;(try dsimp only at aO);go_simp;(try with_reducible rfl)) ?_;(try simp only[Act.put,za,zb,zc])
 iterate 2 (refine zi 1 (v:=?_) rfl (by kernel_rfl) zq ‹_› (by intro w aO;(try dsimp only at aO);go_simp;(try with_reducible rfl)) ?_;(try simp only[Act.put,za,zb,zc]))
 iterate 2 (refine zi 2 (v:=?_) rfl (by kernel_rfl) zq ‹_› (by intro w aO;(try dsimp only at aO);go_simp;(try with_reducible rfl)) ?_;(try simp only[Act.put,za,zb,zc]))
 refine wpAnyH_ready (rs:=[1]) (by kernel_rfl) (by simp) ?_;refine zn rfl (λK hK=>?_);go_simp;refine(UA.out _ HD.out).mono ?_;rintro e W5 ⟨rfl,hB⟩;have R3:=J (HD.out.below hB);clear hB;go_wp2_with fail
 refine hK.out _ _ ?_ (λhHeld=>?_)
 . exact⟨R3.out.two.b.box.c.1,R3.out.two.b.box.c.2.1,R3.out.two.b.box.c.2.2.1,R3.out.two.b.box.c.2.2.2.1,R3.out.two.b.box.c.2.2.2.2.1,R3.out.two.b.box.c.2.2.2.2.2⟩
 clear hK K;(try simp only[Act.put,za,zb,zc])
 iterate 8 (refine zi 0 (v:=?_) rfl (by kernel_rfl) zq ‹_› (by intro w aO;(try dsimp only at aO);go_simp;(try with_reducible rfl)) ?_;(try simp only[Act.put,za,zb,zc]))
 refine wpAnyH_done (by kernel_rfl) ?_ _;refine NoPanic.normal ?_;clear hHeld HD;obtain⟨c0,c1,c2,c3,c4,c5⟩:=R3.out.two.b.box.c;obtain⟨r',sA,sS,hT⟩:=(R3.out.two.b.rows 3 (by omega)).tail Sv.out;have R4:=J (R3.out.nO hT);obtain⟨f0,f1,f2,f3,f4,f5⟩:=R3.out.two.b.box.f;clear hT;go_upto_region 35 with fail
 clear c0 c1 c2 c3 c4 c5 f0 f1 f2 f3 f4 f5 sA sS e1 e2 e3 e5 e4 vd Fh UA R3 Sv;generalize W5.setCell ⟨p,5,none⟩ (.slice r'.A r'.n r'.c)=W7 at R4|-;have U0:=pc _ _ mo s _ (af X 3 (X 3).tail) R4.out.two.b.rows R4.out.two.b.cl false HS.out HM.out (λk hk=>zr (bA xC.out k hk) (by omega));have rM:=zs ((mX (af X 3 (X 3).tail) mo s false 0).length<=1900) (zr (bA (zr pg xC.out) 0 (by omega)) (by omega));obtain⟨Y,hY⟩:=zx (mX (af X 3 (X 3).tail) mo s false);obtain⟨yk,hk⟩:=zx (mK (af X 3 (X 3).tail) mo s false);obtain⟨yb,hb⟩:=zx (mB (af X 3 (X 3).tail) mo s false);rw[← hY,<-hk,<-hb] at U0;rw[← hY] at rM;have HE:=J (xy hY (xy hk hb));have U:=J U0;clear U0 hY hk hb;obtain⟨c0,c1,c2,c3,c4,c5⟩:=R4.out.two.b.box.c;go_wp2_with fail
 refine U.out.mono ?_;rintro e W8 ⟨v8,rfl,hr,hB⟩;unfold rJ;have aD:=R4.out.below hB;have R5:=J (((aD.dj (mo':=mo) (s':=s) hr).z1 yk).z2 yb);obtain⟨d0,d1,d2,d3,d4,d5⟩:=aD.two.b.box.c;obtain⟨f0,f1,f2,f3,f4,f5⟩:=aD.two.b.box.f;obtain⟨x0,x1,x2⟩:=aD.aH.c;obtain⟨g0,g1,g2⟩:=aD.aH.f;have bl:x≠p:=aD.ne.2.2.1;have cW:p≠x:=qa bl;clear c0 c1 c2 c3 c4 c5 hr hB aD U R4;go_upto_region 36 with fail
 clear d0 d1 d2 d3 d4 d5 f0 f1 f2 f3 f4 f5 x0 x1 x2 g0 g1 g2 bl cW;dsimp only[cX] at R5;generalize(((((((W8.setCell ⟨p,0,none⟩ (.int .i64 (mo:Int))).setCell ⟨p,1,none⟩ (.int .i64 (s:Int))).setCell ⟨p,2,none⟩ (.slice (v8 0).A (v8 0).n (v8 0).c)).setCell ⟨p,3,none⟩ (.slice (v8 1).A (v8 1).n (v8 1).c)).setCell ⟨p,4,none⟩ (.slice (v8 2).A (v8 2).n (v8 2).c)).setCell ⟨p,5,none⟩ (.slice (v8 3).A (v8 3).n (v8 3).c)).setCell ⟨x,1,none⟩ (.string yk)).setCell ⟨x,2,none⟩ (.bool yb)=W6 at R5|-;obtain⟨v1,v2,w1,w2,r1,r2,o2,b1,b2⟩:=hE (R5.out.two.b.rows 0 (by omega)) key iL.out rM.out;obtain⟨r9,rfl,k9⟩:=SW.made o2 R5.out.two.b.cl;have RA:=R5.out.below b2;have R6:=J (RA.dO k9);obtain⟨c0,c1,c2,c3,c4,c5⟩:=(R5.out.below ((zo W6.heap.size W6).alloc (zg _) (.cells #[] 9))).two.b.box.c;obtain⟨d0,d1,d2,d3,d4,d5⟩:=RA.two.b.box.c;obtain⟨f0,f1,f2,f3,f4,f5⟩:=RA.two.b.box.f;have fK:=J r1;have dY:=zs (_=_) r2;clear r1 r2 o2 b1 b2 k9 RA R5;go_upto_region 37 with(at_builtin;first|(refine aq rfl _ _ _ rfl _ _ _ _ rfl rfl fK.out ?_)|(refine aq rfl _ _ _ rfl _ _ _ _ rfl rfl dY.out ?_))
 clear c0 c1 c2 c3 c4 c5 d0 d1 d2 d3 d4 d5 f0 f1 f2 f3 f4 f5 fK dY;generalize w2.setCell ⟨p,2,none⟩ (.slice r9.A r9.n r9.c)=W9 at R6|-;obtain⟨c0,c1,c2,c3,c4,c5⟩:=R6.out.two.b.box.c;obtain⟨x0,x1,x2⟩:=R6.out.aH.c;obtain⟨d0,d1,d2,d3,d4,d5⟩:=R6.out.two.res.c;obtain⟨f0,f1,f2,f3,f4,f5⟩:=R6.out.two.res.f;obtain⟨r0,r1,r2⟩:=R6.out.res.c;obtain⟨g0,g1,g2⟩:=R6.out.res.f;obtain⟨dC,dD,bl,du,dE⟩:=R6.out.ne;have dg:p≠q:=R6.out.two.ne;have gD:q≠p:=qa dg;have jd:p≠r:=qa dC;have je:q≠r:=qa dD;have cW:p≠x:=qa bl;have ik:q≠x:=qa du;have jf:x≠r:=qa dE;go_region;have F:=J (R6.out.out (P0:=P) bB.out);go_wp2_with fail
 (try simp only[Exit.inBlock,Exit.then]);refine bodyPost_ret (aP rfl _ _ _ ⟨q,0,none⟩ ⟨r,0,none⟩ _ _ rfl (bf (F.out.1.below (aG _))) rfl (cL (F.out.2.1.below (aG _)))) rfl ?_;rw[← HE.out.1,<-HE.out.2.1,<-HE.out.2.2];exact⟨_,rfl,F.out.2.2.1.below (aG _),F.out.2.2.2.trans ((aG _).mono F.out.2.2.2.size)⟩
end
end AR
namespace AR
open Go.RowKit Sg
def CS(w:zw)(P:Nat->Prop)(F:Value->Value)(s:St)(e:Ending)(w':zw):Prop:=CT w P F s.mo s.p (rv s.R) e w'
theorem iS{R:aW}:dm (rv R)=a7 R:=by unfold dm a7;rw[bG,bG,bG,bG]
theorem j6{R:aW}{j:Nat}{k:zy}:aw (rv R j) k=aw (R j) k:=by
 rw[Bool.eq_iff_iff,aX,aX];exact xl
theorem G9{X Y:L4}{mo:Nat}(h:wZ X Y):wZ (ou X mo) (ou Y mo):=by
 intro k hk;unfold ou af
 by_cases e:k=2
 . rw[if_pos e,if_pos e,h 2 (by omega),h 0 (by omega)]
 . rw[if_neg e,if_neg e,h k hk]
theorem Ha{X Y:L4}{mo:Nat}(h:wZ X Y):wZ (rK X mo) (rK Y mo):=by
 intro k hk;unfold rK af
 by_cases e:k=3
 . rw[if_pos e,if_pos e,h 3 (by omega),h 0 (by omega),h 1 (by omega),h 2 (by omega)]
 . rw[if_neg e,if_neg e,h k hk]
theorem BZ{L:zY}(h:L.Nodup):L.reverse.Nodup:=List.pairwise_reverse.2 (h.imp qa)
section
variable(w:zw)(P:Nat->Prop)(v:S4)(s:St)(h:R4 w P v (rv s.R))(hP:Cl w P)(hp:Ok s)(hm:s.mo<=1000000000000)(bk:a7 s.R<=1000)
include h hP hp hm bk
theorem tP:Calls prog 74 #[aU s.mo s.p v] w (br (aC s.R) w):=by
 have _:=xy hp hm;have:=zR w P s.mo s.p v (rv s.R) h hP (by rw[bG,bG];unfold a7 at bk;omega);rw[show rv s.R 0++rv s.R 1=aC s.R from by unfold rv aC;rw[List.reverse_append]] at this;exact this
theorem pS:Calls prog 76 #[aU s.mo s.p v] w (br (ki s.R) w):=by
 have hn:=hp.pre.nd;have _:=hm;have:=tF w P s.mo s.p v (rv s.R) h hP (by rw[bG,bG];unfold a7 at bk;omega) (BZ (hn 2 (by omega))) (BZ (hn 3 (by omega)));rw[show(rv s.R 2).reverse++(rv s.R 3).reverse=ki s.R from by unfold rv ki;rw[List.reverse_reverse,List.reverse_reverse]] at this;exact this
theorem pR:Calls prog 71 #[aU s.mo s.p v] w (dV (.tuple #[.string (ah (s.R (lv s.R s.p false))),.bool (bb (s.R (lv s.R s.p false)))]) w):=by
 have _:=bk;have jI:=hp.pl;have:=pN w P s.mo s.p v (rv s.R) h hP (by omega) (by omega);rw[(pf hp).1,(pf hp).2] at this;exact this
theorem B7(k:Nat)(hk:k < 4):(rv s.R k).length<=1000:=by
 have _:=xy h (xy hP (xy hp hm));exact bA (by rw[iS];exact bk) k hk
theorem tQ:Calls prog 65 #[aU s.mo s.p v] w (CS w P (λx=> .tuple #[x,.string (ah (s.R (lv s.R s.p false))),.bool (bb (s.R (lv s.R s.p false)))]) s.dr):=by
 have jI:=hp.pl;have:=NT w P s.mo s.p v (rv s.R) h hP (by omega) (by omega) (λk hk=>zr (B7 w P v s h hP hp hm bk k hk) (by omega));rw[(pf hp).1,(pf hp).2] at this;refine this.mono λe w' q=>q.to ?_;unfold dX;rw[(pf hp).1,(pf hp).2]
 by_cases h0:0 < ai s.R
 . rw[kE (js h0),if_pos rfl,Di];intro k hk;show((rF s.R _) k).reverse=_;rw[PZ hp h0 k hk];rfl
 . have e0:s.R 0= []:=List.eq_nil_of_length_eq_zero (by unfold ai at h0;omega);have e1:s.R 1= []:=List.eq_nil_of_length_eq_zero (by unfold ai at h0;omega);have el:s.R (lv s.R s.p false)= []:=by rcases fq s.R s.p false with h|h <;> rw[h] <;> assumption
   rw[el,if_neg (by decide)];intro k hk;show(s.R k).reverse=(af s.R _ (s.R _).dropLast k).reverse;rw[el]
   by_cases e:k=lv s.R s.p false
   . rw[e,ay,el];rfl
   . rw[au e]
theorem rE(key:zy)(hs:key.size<=maxLen):Calls prog 62 #[aU s.mo s.p v,.string key] w (CS w P (λx=> .tuple #[x,.bool (s.bD key)]) (s.ad key)):=by
 have hh:(aw (rv s.R 0) key||aw (rv s.R 1) key)=aF s.R key:=by rw[j6,j6];rfl
 have hl:(rv s.R 0).length+(rv s.R 1).length=ai s.R:=by rw[bG,bG];rfl
 by_cases hb:s.bD key=true
 . have j9:=hb;unfold St.bD at j9;rw[Bool.and_eq_true,Bool.not_eq_true',decide_eq_true_eq] at j9;refine(rB w P s.mo s.p v (rv s.R) h hP key hs (by omega) (hh.trans j9.1) (by rw[hl];exact j9.2) (λk hk=>zr (B7 w P v s h hP hp hm bk k hk) (by omega))).mono λe w' q=>?_;rw[hb];refine CT.as q rfl ?_ ?_ ?_
   . unfold St.ad;rw[if_pos hb]
   . unfold St.ad;rw[if_pos hb]
   . intro k hk;unfold St.ad;rw[if_pos hb];show _=rv (fa s.mo (bp s.R key 0)) k;rw[← BV];exact Ha (G9 (u7 (by omega))) k hk
 . have hb:s.bD key=false:=by simpa using hb
   have cu:(aw (rv s.R 0) key||aw (rv s.R 1) key)=true\/s.mo<=(rv s.R 0).length+(rv s.R 1).length:=by
    rw[hh,hl];unfold St.bD at hb;cases h1:aF s.R key with
    |true=>exact xz rfl
    |false=>
     rw[h1] at hb;right;have:decide (ai s.R < s.mo)=false:=by simpa using hb
     simpa using this
   refine(tH w P s.mo s.p v (rv s.R) h hP key cu).mono λe w' q=>?_;rw[hb];have ea:s.ad key=s:=by unfold St.ad;rw[if_neg (by rw[hb];simp)]
   rw[ea];exact q
theorem pT(z:Int)(hz: -9223372036854775808<=z/\z<=9223372036854775807):Calls prog 69 #[aU s.mo s.p v,.int .i64 z] w
 (λe w'=>∃(v':S4) (u:Value),e= .returned (.tuple #[aU (s.rs z.toNat).mo (s.rs z.toNat).p v',u])/\R4 w' P v' (rv (s.rs z.toNat).R)/\Own w' w.heap.size u (outs (min s.p z.toNat) false s.R (ai s.R - z.toNat))/\Below w.heap.size w w'):=by
 obtain⟨m,Sw⟩:=zx z.toNat;rw[← Sw];have jI:=hp.pl;have hl:(rv s.R 0).length+(rv s.R 1).length=ai s.R:=by rw[bG,bG];rfl
 have ex:=Jt (min s.p m) (ai s.R - m) s.R (by omega);have em:(if m < s.p then m else s.p)=min s.p m:=by split <;> omega
 have c1:=nM (R:=s.R) (p:=min s.p m) (q:=false) (n:=ai s.R - m) (by omega);have c2:=tS (R:=s.R) (p:=min s.p m) (q:=false) (n:=ai s.R - m) (by omega);refine(tI w P s.mo s.p v (rv s.R) h hP z m (min s.p m) hz Sw em.symm (by omega) (by rw[iS];omega) (λX' hX=>?_)).mono ?_
 . rw[hl,ex.1] at hX;subst hX;rw[bG,bG,iS];exact⟨by have:=c1;unfold ai at this ⊢;omega,by omega⟩
 . rintro e w' ⟨v',u,rfl,hr,ho,hb⟩;rw[hl,ex.1,BV] at hr;rw[hl,ex.2] at ho;exact⟨v',u,rfl,hr,ho,hb⟩
end
theorem rO{Q:aW}{key:zy}(h:∀i,i < 4->key∉Q i):wZ (af (rv Q) 0 (rv Q 0++ [key])) (rv (bp Q key 0)):=by
 intro i hi;show _=(bp Q key 0 i).reverse;rw[Ke h (by omega) i hi];show _=rv (af Q 0 (key::Q 0)) i;rw[j5,List.reverse_cons];rfl
section
variable(w:zw)(P:Nat->Prop)(v:S4)(s:St)(h:R4 w P v (rv s.R))(hP:Cl w P)(hp:Ok s)(hm:s.mo<=1000000000000)(bk:a7 s.R<=1000)(key:zy)(hs:key.size<=maxLen)
include h hP hp hm bk hs
theorem oF:Calls prog 54 #[aU s.mo s.p v,.string key] w (CS w P (λx=> .tuple #[x,s.step key]) (s.aK key)):=by
 have jI:=hp.pl;have hh:(aw (rv s.R 0) key||aw (rv s.R 1) key)=aF s.R key:=by rw[j6,j6];rfl
 have ht:dm (rv s.R)<=1700:=by rw[iS];omega
 unfold CS St.step
 by_cases h0:s.mo=0
 . have e1:s.aK key=s:=by unfold St.aK;rw[if_pos h0]
   have e2:s.vs key= []:=by unfold St.vs;rw[if_pos h0]
   rw[e1,e2];exact ku w P s.mo s.p v (rv s.R) h hP key hs _ hh hm jI ht h0
 cases hb:aF s.R key with
 |true=>
  have e1:s.aK key=⟨s.mo,s.p,bp s.R key 1⟩:=by unfold St.aK;rw[if_neg h0,if_pos hb]
  have e2:s.vs key= []:=by unfold St.vs;rw[if_neg h0,if_pos hb]
  rw[e1,e2];exact(qW w P s.mo s.p v (rv s.R) h hP key hs true (hh.trans hb) hm jI ht h0 rfl).mono λe w' q=>q.to (u7 (by omega))
 |false=>
 have gB:¬aF s.R key=true:=by rw[hb];simp
 cases g2:aw (s.R 2) key with
 |true=>
  have e1:s.aK key=⟨s.mo,gU s.mo s.p s.R,bp (aY (gU s.mo s.p s.R) false s.R (ai s.R - (s.mo - 1))) key 1⟩:=by unfold St.aK;rw[if_neg h0,if_neg gB,if_pos g2]
  have e2:s.vs key=outs (gU s.mo s.p s.R) false s.R (ai s.R - (s.mo - 1)):=by unfold St.vs;rw[if_neg h0,if_neg gB,if_pos g2]
  have e3:xB s.mo s.p (mr (rv s.R 3).length (rv s.R 2).length)=gU s.mo s.p s.R:=by rw[PU jI,bG,bG];rfl
  have u:=Qb w P s.mo s.p v (rv s.R) h hP key hs false (hh.trans hb) hm jI ht h0 rfl (j6.trans g2);have r:=Dk (R:=s.R) (p:=gU s.mo s.p s.R) (q:=false) h0 hp.le;rw[e3,r.1,r.2.1,r.2.2] at u;rw[e1,e2];exact u.mono λe w' q=>q.to (u7 (by omega))
 |false=>
 have rh:¬aw (s.R 2) key=true:=by rw[g2];simp
 cases g3:aw (s.R 3) key with
 |true=>
  have e1:s.aK key=⟨s.mo,gV s.p s.R,bp (aY (gV s.p s.R) true s.R (ai s.R - (s.mo - 1))) key 1⟩:=by unfold St.aK;rw[if_neg h0,if_neg gB,if_neg rh,if_pos g3]
  have e2:s.vs key=outs (gV s.p s.R) true s.R (ai s.R - (s.mo - 1)):=by unfold St.vs;rw[if_neg h0,if_neg gB,if_neg rh,if_pos g3]
  have e3:s.p - mr (rv s.R 2).length (rv s.R 3).length=gV s.p s.R:=by rw[PV,bG,bG];rfl
  have u:=Qc w P s.mo s.p v (rv s.R) h hP key hs false (hh.trans hb) hm jI ht h0 rfl (j6.trans g2) (j6.trans g3);have r:=Dk (R:=s.R) (p:=gV s.p s.R) (q:=true) h0 hp.le;rw[e3,r.1,r.2.1,r.2.2] at u;rw[e1,e2];exact u.mono λe w' q=>q.to (u7 (by omega))
 |false=>
 have BJ:¬aw (s.R 3) key=true:=by rw[g3];simp
 have e1:s.aK key=⟨s.mo,s.p,bp (aY s.p false (bU s.mo s.R) (ai (bU s.mo s.R) - (s.mo - 1))) key 0⟩:=by unfold St.aK;rw[if_neg h0,if_neg gB,if_neg rh,if_neg BJ]
 have e2:s.vs key=gW s.mo s.R++outs s.p false (bU s.mo s.R) (ai (bU s.mo s.R) - (s.mo - 1)):=by unfold St.vs;rw[if_neg h0,if_neg gB,if_neg rh,if_neg BJ]
 rw[e1,e2];have pk:=sk hp h0
 have cu:∀i,i < 4->key∉aY s.p false (bU s.mo s.R) (ai (bU s.mo s.R) - (s.mo - 1)) i:=λi hi hx=>by
  have hR:∀j,j < 4->key∉s.R j:=λj hj hx=>by
   rcases(show j=0\/j=1\/j=2\/j=3 by omega) with rfl|rfl|rfl|rfl
   . exact gB (by unfold aF;rw[Bool.or_eq_true];exact Or.inl (aX.2 hx))
   . exact gB (by unfold aF;rw[Bool.or_eq_true];exact Or.inr (aX.2 hx))
   . exact rh (aX.2 hx)
   . exact BJ (aX.2 hx)
  obtain⟨j,hj,hx⟩:=(fb (p:=s.p) (q:=false) pk.1 (n:=ai (bU s.mo s.R) - (s.mo - 1)) (by omega)).old i hi key hx;exact hR j hj ((pk.2.1 j hj).subset hx)
 have r:=Dk (R:=bU s.mo s.R) (p:=s.p) (q:=false) h0 pk.2.2.2.2;have lU:aw (rv s.R 2) key=false:=j6.trans g2;have Fi:aw (rv s.R 3) key=false:=j6.trans g3;have Jd:(rv s.R 0).length=(s.R 0).length:=bG;have re:(rv s.R 2).length=(s.R 2).length:=bG;have Jr:(rv s.R 3).length=(s.R 3).length:=bG
 by_cases c1:s.mo<=(s.R 0).length+(s.R 2).length
 . by_cases c2:(s.R 0).length < s.mo
   . have u:=Qd w P s.mo s.p v (rv s.R) h hP key hs (hh.trans hb) lU Fi h0 hm jI ht (by omega) (by omega);have ep:af (rv s.R) 2 (rv s.R 2).tail=rv (bU s.mo s.R):=by rw[PW c1 c2,j5];exact congrArg _ pZ
     have ev:gW s.mo s.R= []:=by unfold gW;rw[if_neg (by omega),if_pos c2]
     rw[ep,r.1,r.2.1,r.2.2] at u;rw[ev];exact u.mono λe w' q=>q.to (rO cu)
   . have u:=Qe w P s.mo s.p v (rv s.R) h hP key hs (hh.trans hb) lU Fi h0 hm jI ht (by omega) (by omega);have nf:=G7 (R:=s.R) (mo:=s.mo) hp.le c1 (by omega) h0 s.p;have ep:af (rv s.R) 0 (rv s.R 0).tail=rv (af s.R 0 (s.R 0).dropLast):=by rw[j5];exact congrArg _ pZ
     rw[nf.1] at cu;rw[nf.1,nf.2];rw[ep,show hd (rv s.R 0)=ah (s.R 0) from pe] at u;exact u.mono λe w' q=>q.to (rO cu)
 . have ev:gW s.mo s.R= []:=by unfold gW;rw[if_pos (by omega)]
   by_cases c2:2*s.mo<=a7 s.R
   . have hle:=hp.le;have u:=Qh w P s.mo s.p v (rv s.R) h hP key hs (hh.trans hb) lU Fi h0 hm jI ht (by omega) (by rw[iS];exact c2) (by rw[Jr];unfold a7 at c2;unfold ai at hle;omega);have ep:af (rv s.R) 3 (rv s.R 3).tail=rv (bU s.mo s.R):=by rw[PX (by omega) c2,j5];exact congrArg _ pZ
     rw[ep,r.1,r.2.1,r.2.2] at u;rw[ev];exact u.mono λe w' q=>q.to (rO cu)
   . have ep:=PY (R:=s.R) (mo:=s.mo) (by omega) (by omega);rw[ep] at r cu;rw[ev,ep]
     by_cases c3:s.mo<=a7 s.R
     . have u:=Qg w P s.mo s.p v (rv s.R) h hP key hs (hh.trans hb) lU Fi h0 hm jI ht (by omega) (by rw[iS];exact c3) (by rw[iS];omega);rw[r.1,r.2.1,r.2.2] at u;exact u.mono λe w' q=>q.to (rO cu)
     . have u:=Qf w P s.mo s.p v (rv s.R) h hP key hs (hh.trans hb) lU Fi h0 hm jI ht (by omega) (by rw[iS];omega);have ec:ai s.R - (s.mo - 1)=0:=by unfold a7 at c3;unfold ai;omega
       rw[ec] at cu|-;exact u.mono λe w' q=>q.to (rO cu)
