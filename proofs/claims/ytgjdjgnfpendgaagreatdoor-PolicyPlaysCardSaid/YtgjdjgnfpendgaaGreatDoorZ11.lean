/- 'cachewiselaw09.PolicyPlays' returns true for every kind, every size and every row of calls, and leaves what was there as it was. The listed variables read as the program's text lays them. -/
import Derived.Test.YtgjdjgnfpendgaaGreatDoorZ03
import Derived.Test.YtgjdjgnfpendgaaGreatDoorZ08
import Derived.Test.YtgjdjgnfpendgaaGreatDoorZ09
import Derived.Test.YtgjdjgnfpendgaaGreatDoorZ10
import Derived.ChangeOld
import Derived.Deep.CutBlock
import Derived.Deep.DeepCutAuto
import Derived.Deep.LoopGhost
import Derived.Deep.RegionHeld3
import Derived.Deep.Slices
import Derived.Deep.Strs
import Derived.OpenShut
import Derived.ProofKit
import Derived.SevenTiedAt
import Derived.ShutString
import Derived.SliceStrings
import Derived.Test.YtgjdjgnfpendgaaGreatDoorCards
import Derived.Test.YtgjdjgnfpendgaaGreatDoorRows
import Derived.Test.YtgjdjgnfpendgaaGreatDoorTie
set_option maxHeartbeats 16000000
set_option maxRecDepth 20000
namespace Go.Proofs.YtgjdjgnfpendgaaGreatDoor
open Go.Proofs.Tryz
namespace P9
open Go.RowKit Sg
def gx(w:zw)(q:Nat)(k:Nat)(mo:Nat)(ma:Nat)(la:AR.Sl)(mb:Nat)(ch:Bool)(lb:AR.Sl)(mc:Nat)(tc:Nat)(n:SR.Sl)(a:SR.Sl)(g:SR.Sl)(md:Nat)(pd:Nat)(v:AR.S4):zw:=bH w q k mo ma la mb ch lb mc tc n a g md pd v
theorem lH(w:zw)(q:Nat)(k:Nat)(mo:Nat)(ma:Nat)(la:AR.Sl)(mb:Nat)(ch:Bool)(lb:AR.Sl)(mc:Nat)(tc:Nat)(n:SR.Sl)(a:SR.Sl)(g:SR.Sl)(md:Nat)(pd:Nat)(v:AR.S4):ao (λk=>k=q) w (bH w q k mo ma la mb ch lb mc tc n a g md pd v):=
 (((((((((((((((((((ao.refl (λk=>k=q) w).setCell (p:=⟨q,0,none⟩) (xz rfl) _).setCell (p:=⟨q,1,none⟩) (xz rfl) _).setCell (p:=⟨q,2,none⟩) (xz rfl) _).setCell (p:=⟨q,3,none⟩) (xz rfl) _).setCell (p:=⟨q,4,none⟩) (xz rfl) _).setCell (p:=⟨q,5,none⟩) (xz rfl) _).setCell (p:=⟨q,6,none⟩) (xz rfl) _).setCell (p:=⟨q,7,none⟩) (xz rfl) _).setCell (p:=⟨q,8,none⟩) (xz rfl) _).setCell (p:=⟨q,9,none⟩) (xz rfl) _).setCell (p:=⟨q,10,none⟩) (xz rfl) _).setCell (p:=⟨q,11,none⟩) (xz rfl) _).setCell (p:=⟨q,12,none⟩) (xz rfl) _).setCell (p:=⟨q,13,none⟩) (xz rfl) _).setCell (p:=⟨q,14,none⟩) (xz rfl) _).setCell (p:=⟨q,15,none⟩) (xz rfl) _).setCell (p:=⟨q,16,none⟩) (xz rfl) _).setCell (p:=⟨q,17,none⟩) (xz rfl) _)
section
variable{w w':zw}{P P':Nat->Prop}{q:Nat}
theorem R9.same{la lb:AR.Sl}{n a g:SR.Sl}{v:AR.S4}{xs:zY}{B:List (LF.Ht.aa zy)}{N A G:List SR.KE}{X:AR.L4}(h:R9 w P la lb n a g v xs B N A G X)(hs:w.heap.size<=w'.heap.size)(hb:∀g,P g->g < w.heap.size->w'.heap[g]?=w.heap[g]?)(hp:∀g,P g->g < w.heap.size->P' g):R9 w' P' la lb n a g v xs B N A G X:=
 ⟨h.ra.same hs hb hp,h.rb.same hs hb hp,⟨h.rc.n.same hs hb hp,h.rc.a.same hs hb hp,h.rc.g.same hs hb hp⟩,λk hk=>(h.rd k hk).same hs hb hp⟩
theorem RS.same{st:aN}{ma mb mc tc md pd:Nat}{la lb:AR.Sl}{ch:Bool}{n a g:SR.Sl}{v:AR.S4}(h:RS w P st ma la mb ch lb mc tc n a g md pd v)(hs:w.heap.size<=w'.heap.size)(hb:∀g,P g->g < w.heap.size->w'.heap[g]?=w.heap[g]?)(hp:∀g,P g->g < w.heap.size->P' g):RS w' P' st ma la mb ch lb mc tc n a g md pd v:=by
 obtain⟨xs,B,N,A,G,X,h1,h2⟩:=h;exact⟨xs,B,N,A,G,X,h1.same hs hb hp,h2⟩
end
def Aside(U:Nat->Prop)(bm:Nat):Nat->Prop:=λk=>¬U k/\k≠bm
structure j8(w0 W:zw)(p:Nat)(U:Nat->Prop)(st:aN)(b bm:Nat)(sm:aN)(ma:Nat)(la:AR.Sl)(mb:Nat)(ch:Bool)(lb:AR.Sl)(mc tc:Nat)(n a g:SR.Sl)(md pd:Nat)(v:AR.S4):Prop where
 live:fW w0 W p U st b
 box:RB W bm sm.kind sm.mo ma la mb ch lb mc tc n a g md pd v
 rows:RS W (Aside U bm) sm ma la mb ch lb mc tc n a g md pd v
 nb:¬U bm
 low:w0.heap.size<=bm
section
variable{w0 W W':zw}{p b b' bm:Nat}{U U':Nat->Prop}{st jR sm pq:aN}{ma mb mc tc md pd:Nat}{la lb:AR.Sl}{ch:Bool}{n a g:SR.Sl}{v:AR.S4}{dv bK db dc dd de:Nat}{il im:AR.Sl}{iq:Bool}{n' a' g':SR.Sl}{v':AR.S4}{r:Value}{e:Ending}
theorem j8.cl(h:j8 w0 W p U st b bm sm ma la mb ch lb mc tc n a g md pd v):AR.Cl W (Aside U bm):=λk hk=>⟨λhu=>by have:=h.live.lt k hu;omega,λe=>by have:=h.box.lt;omega⟩
theorem j8.below(h:j8 w0 W p U st b bm sm ma la mb ch lb mc tc n a g md pd v)(hb:Below W.heap.size W W'):j8 w0 W' p U st b bm sm ma la mb ch lb mc tc n a g md pd v:=⟨h.live.below hb,h.box.below hb,h.rows.below hb,h.nb,h.low⟩
theorem j8.dS(h:j8 w0 W p U st b bm sm ma la mb ch lb mc tc n a g md pd v)(hl:fW w0 W' p U' jR b')(hW:aJ W W' U U'):j8 w0 W' p U' jR b' bm sm ma la mb ch lb mc tc n a g md pd v:=by
 have o:=AR.bY hW h.box.lt h.nb;exact⟨hl,o.1.trans h.box,h.rows.same hW.a8.size (λg hg hl=>hW.a8.block g hl hg.1) λg hg hl=>⟨(AR.bY hW hl hg.1).2,hg.2⟩,o.2,h.low⟩
theorem j8.op(h:j8 w0 W p U st b bm sm ma la mb ch lb mc tc n a g md pd v)(hp:iT r W p U jR b' e W'):e= .returned r/\∃U',j8 w0 W' p U' jR b' bm sm ma la mb ch lb mc tc n a g md pd v/\aJ W W' U U':=by
 obtain⟨he,U',h1,h2⟩:=h.live.op hp;exact⟨he,U',h.dS h1 h2,h2⟩
theorem j8.put(h:j8 w0 W p U st b bm sm ma la mb ch lb mc tc n a g md pd v)(k0:RS W (Aside U bm) pq dv il bK iq im db dc n' a' g' dd de v'):j8 w0 (bH W bm pq.kind pq.mo dv il bK iq im db dc n' a' g' dd de v') p U st b bm pq dv il bK iq im db dc n' a' g' dd de v':=by
 have t:=lH W bm pq.kind pq.mo dv il bK iq im db dc n' a' g' dd de v';refine⟨⟨h.live.ca.beside t (λk hu e=>h.nb (e▸hu)),dw h.live.az h.low,h.live.low⟩,h.box.put,k0.same t.size (λg hg hl=>t.block g hl hg.2) λg hg _=>hg,h.nb,h.low⟩
end
structure jS(w0 W:zw)(p:Nat)(U:Nat->Prop)(st:aN)(b bm:Nat)(sm:aN)(ma:Nat)(la:AR.Sl)(mb:Nat)(ch:Bool)(lb:AR.Sl)(mc tc:Nat)(n a g:SR.Sl)(md pd:Nat)(v:AR.S4)(ga:Nat)(kd:Int)(key:zy)(nn:Int):Prop where
 st:j8 w0 W p U st b bm sm ma la mb ch lb mc tc n a g md pd v
 act:W.heap[ga]?=some (.cells #[.int .i64 kd,.string key,.int .i64 nn] 47 (0,0))
 a1:¬U ga
 a2:ga≠bm
section
variable{w0 W W':zw}{p b b' bm ga:Nat}{U U':Nat->Prop}{st jR sm pq:aN}{ma mb mc tc md pd:Nat}{la lb:AR.Sl}{ch:Bool}{n a g:SR.Sl}{v:AR.S4}{dv bK db dc dd de:Nat}{il im:AR.Sl}{iq:Bool}{n' a' g':SR.Sl}{v':AR.S4}{r:Value}{e:Ending}{kd nn:Int}{key:zy}
theorem jS.lt(h:jS w0 W p U st b bm sm ma la mb ch lb mc tc n a g md pd v ga kd key nn):ga < W.heap.size:=(Array.getElem?_eq_some_iff.1 h.act).1
theorem jS.below(h:jS w0 W p U st b bm sm ma la mb ch lb mc tc n a g md pd v ga kd key nn)(hb:Below W.heap.size W W'):jS w0 W' p U st b bm sm ma la mb ch lb mc tc n a g md pd v ga kd key nn:=⟨h.st.below hb,(hb.block ga h.lt).trans h.act,h.a1,h.a2⟩
theorem jS.made(h:j8 w0 W p U st b bm sm ma la mb ch lb mc tc n a g md pd v)(kd:Int)(key:zy)(nn:Int):jS w0 (W.alloc (.cells #[.int .i64 kd,.string key,.int .i64 nn] 47)) p U st b bm sm ma la mb ch lb mc tc n a g md pd v W.heap.size kd key nn:=
 ⟨h.below ((zo W.heap.size W).alloc (zg _) _),heap_alloc_new _ _,λhk=>by have:=h.live.lt _ hk;omega,λe=>by have:=h.box.lt;omega⟩
theorem jS.dS(h:jS w0 W p U st b bm sm ma la mb ch lb mc tc n a g md pd v ga kd key nn)(hs:j8 w0 W' p U' jR b' bm sm ma la mb ch lb mc tc n a g md pd v)(hW:aJ W W' U U'):jS w0 W' p U' jR b' bm sm ma la mb ch lb mc tc n a g md pd v ga kd key nn:=by
 have o:=AR.bY hW h.lt h.a1;exact⟨hs,o.1.trans h.act,o.2,h.a2⟩
theorem jS.op(h:jS w0 W p U st b bm sm ma la mb ch lb mc tc n a g md pd v ga kd key nn)(hp:iT r W p U jR b' e W'):e= .returned r/\∃U',jS w0 W' p U' jR b' bm sm ma la mb ch lb mc tc n a g md pd v ga kd key nn/\aJ W W' U U':=by
 obtain⟨he,U',h1,h2⟩:=h.st.op hp;exact⟨he,U',h.dS h1 h2,h2⟩
theorem jS.put(h:jS w0 W p U st b bm sm ma la mb ch lb mc tc n a g md pd v ga kd key nn)(k0:RS W (Aside U bm) pq dv il bK iq im db dc n' a' g' dd de v'):jS w0 (bH W bm pq.kind pq.mo dv il bK iq im db dc n' a' g' dd de v') p U st b bm pq dv il bK iq im db dc n' a' g' dd de v' ga kd key nn:=
 ⟨h.st.put k0,((lH W bm pq.kind pq.mo dv il bK iq im db dc n' a' g' dd de v').block ga h.lt h.a2).trans h.act,h.a1,h.a2⟩
theorem jS.k(h:jS w0 W p U st b bm sm ma la mb ch lb mc tc n a g md pd v ga kd key nn):W.cell? ⟨ga,0,none⟩=some (.int .i64 kd)/\W.cell? ⟨ga,1,none⟩=some (.string key)/\W.cell? ⟨ga,2,none⟩=some (.int .i64 nn):=
 ⟨cell_of_row W _ 0 _ _ _ h.act,cell_of_row W _ 1 _ _ _ h.act,cell_of_row W _ 2 _ _ _ h.act⟩
end
def Wg(w0:zw)(p bm nL jg gq:Nat)(i:Value)(W:zw):Prop:=∃(k:Nat) (U:Nat->Prop) (st:aN) (b:Nat) (ma:Nat) (la:AR.Sl) (mb:Nat) (ch:Bool) (lb:AR.Sl) (mc tc:Nat) (n a g:SR.Sl) (md pd:Nat) (v:AR.S4),gq=nL - k/\i= .int .i64 (k:Int)/\k<=nL/\b<=k/\st.kind=jg/\st.mo<=16777216/\j8 w0 W p U st b bm st ma la mb ch lb mc tc n a g md pd v
def Wh(w0:zw)(p bm k jg ga:Nat)(kd:Int)(key:zy)(nn:Int)(W:zw):Prop:=∃(U:Nat->Prop) (st:aN) (b:Nat) (ma:Nat) (la:AR.Sl) (mb:Nat) (ch:Bool) (lb:AR.Sl) (mc tc:Nat) (n a g:SR.Sl) (md pd:Nat) (v:AR.S4),b<=k+1/\st.kind=jg/\st.mo<=16777216/\jS w0 W p U st b bm st ma la mb ch lb mc tc n a g md pd v ga kd key nn
theorem FM{ops:Array Oper}{rest:List Oper}{op:Oper}{ac:Act}{w:zw}{Q:Exit->Act->zw->Prop}{q:Nat}{k mo ma mb mc tc md pd:Nat}{la lb:AR.Sl}{ch:Bool}{n a g:SR.Sl}{v:AR.S4}{k' mo' dv bK db dc dd de:Nat}{il im:AR.Sl}{iq:Bool}{n' a' g':SR.Sl}{v':AR.S4}(jT:op.guard=none)(x y:Operand)(ho:op.op= .store 42 x y)(hb:RB w q k' mo' dv il bK iq im db dc n' a' g' dd de v')(hx:ac.eval x= .pointer (some ⟨q,0,none⟩))(hy:ac.eval y=ba k mo ma la mb ch lb mc tc n a g md pd v)
 (h:wpList prog ops Q rest (ac.put op.dst undef) (gx w q k mo ma la mb ch lb mc tc n a g md pd v)):wpList prog ops Q (op::rest) ac w:=dz jT x y ho hb hx hy h
theorem Pc.bd{w:zw}{p b:Nat}{U:Nat->Prop}{st:aN}(h:Pc w p U st b)(hb:b<=900)(hm:st.mo<=16777216):Bd st:=by
 obtain⟨c,T,rfl,hc,_⟩:=h;exact QA hc hb hm
theorem nV(w:zw):RB (w.alloc aR) w.heap.size 0 0 0 zS 0 false zS 0 0 zK zK zK 0 0 AR.zV:=heap_alloc_new _ _
theorem KO{w:zw}{gu bm:Nat}{k mo ma mb mc tc md pd:Nat}{la lb:AR.Sl}{ch:Bool}{n a g:SR.Sl}{v:AR.S4}{u:Value}{ys:zY}(h:Row w gu u ys)(hb:gu≠bm):Row (bH w bm k mo ma la mb ch lb mc tc n a g md pd v) gu u ys:=
 h.same (lH w bm k mo ma la mb ch lb mc tc n a g md pd v).size λhl=>(lH w bm k mo ma la mb ch lb mc tc n a g md pd v).block gu hl hb
theorem O8{w:zw}{P:Nat->Prop}{bm:Nat}{k mo ma mb mc tc md pd:Nat}{la lb:AR.Sl}{ch:Bool}{n a g:SR.Sl}{v:AR.S4}{u:AR.Sl}{ys:zY}(h:AR.SW w P u ys)(hb:¬P bm):AR.SW (bH w bm k mo ma la mb ch lb mc tc n a g md pd v) P u ys:=
 h.same (lH w bm k mo ma la mb ch lb mc tc n a g md pd v).size (λgg hg hl=>(lH w bm k mo ma la mb ch lb mc tc n a g md pd v).block gg hl λe=>hb (e▸hg)) λ_ hg _=>hg
theorem KP{w:zw}{bm:Nat}{k mo ma mb mc tc md pd:Nat}{la lb:AR.Sl}{ch:Bool}{n a g:SR.Sl}{v:AR.S4}{s:zy}{nz:Int}{u:Value}{k' mo' dv bK db dc dd de:Nat}{il im:AR.Sl}{iq:Bool}{n' a' g':SR.Sl}{v':AR.S4}(h:vi w s nz u)(hb:RB w bm k' mo' dv il bK iq im db dc n' a' g' dd de v'):vi (bH w bm k mo ma la mb ch lb mc tc n a g md pd v) s nz u:=by
 obtain⟨gg,rfl,hg,hx⟩:=h
 have al:gg≠bm:=by
  rintro rfl;unfold RB at hb;rw[hx] at hb;injection hb with hb
  injection hb with hb
  have:=congrArg Array.size hb;simp at this
 exact⟨gg,rfl,xd hg (lH w bm k mo ma la mb ch lb mc tc n a g md pd v).size,((lH w bm k mo ma la mb ch lb mc tc n a g md pd v).block gg hg al).trans hx⟩
theorem Cj{w4 w5:zw}{b4:Nat}{v4:Value}{P:Nat->Prop}{u:AR.Sl}{ys:zY}(o4:Own w4 b4 v4 ys)(o5:AR.SW w5 P u ys)(hb:Below w4.heap.size w4 w5):Calls prog 27 #[v4,.slice u.A u.n u.c] w5 (nD true w5):=by
 obtain⟨g4,_,h4⟩:=o4.row;obtain⟨_,g5,_,h5⟩:=o5;have:=sE w5 g4 g5 _ _ _ _ (h4.below hb) h5;rw[show decide (ys=ys)=true from decide_eq_true rfl] at this;exact this
theorem O':(prog.info? 49).map (·.size)=some 3:=by kernel_rfl
theorem KS{w:zw}{q:Nat}{h:Bool}{v:zy}{e:Bool}(hb:AR.ZB w q h v e):w.there q 0 3:=λj hj=>by
 have h1:=cell_of_row w q (0+j) _ _ _ hb;refine⟨?_,frozen_of_row w q (0+j) _ _ hb⟩;rw[h1,Nat.zero_add];rw[Array.getElem?_eq_getElem (show j < 3 from hj)];rfl
def AJ(w:zw)(q:Nat)(h:Bool)(v:zy)(e:Bool):zw:=((w.setCell ⟨q,0,none⟩ (.bool h)).setCell ⟨q,1,none⟩ (.string v)).setCell ⟨q,2,none⟩ (.bool e)
theorem Wi{ops:Array Oper}{rest:List Oper}{op:Oper}{ac:Act}{w:zw}{Q:Exit->Act->zw->Prop}{q:Nat}{h0:Bool}{v0:zy}{e0 h:Bool}{v:zy}{e:Bool}(jT:op.guard=none)(x y:Operand)(ho:op.op= .store 49 x y)(hb:AR.ZB w q h0 v0 e0)(hx:ac.eval x= .pointer (some ⟨q,0,none⟩))(hy:ac.eval y= .agg #[.bool h,.string v,.bool e])
 (hh:wpList prog ops Q rest (ac.put op.dst undef) (AJ w q h v e)):wpList prog ops Q (op::rest) ac w:=
 wpList_store_mid jT 49 x y ho q 0 #[.bool h,.string v,.bool e] hx hy (KS hb) O' (by simp[Value.oneCell']) hh
theorem xG{w:zw}{g4 g5:Nat}{v4 v5:Value}{ys:zY}(h4:Row w g4 v4 ys)(h5:Row w g5 v5 ys):Calls prog 27 #[v4,v5] w (nD true w):=by
 have:=sE w g4 g5 _ _ _ _ h4 h5;rw[show decide (ys=ys)=true from decide_eq_true rfl] at this;exact this
end P9
section
open Go.ChangeShapes Go.WideShapes Go.ChangeAt Go.RowKit Go.Deep
theorem laidOut:laidOutB prog=true:=by kernel_rfl
theorem wB{a:Int}(h:(Lit.int .i64 a).wf=true): -9223372036854775808<=a/\a<=9223372036854775807:=by
 have:=(Bool.and_eq_true _ _).mp h;exact⟨of_decide_eq_true this.1,of_decide_eq_true this.2⟩
theorem AK:prog.cellsOf 3=1:=by kernel_rfl
theorem AL:prog.cellsOf 9=1:=by kernel_rfl
theorem AM:prog.cellsOf 47=3:=by kernel_rfl
section
variable{H:Type}{enc:TypeId × Value->H}{W:zw}
theorem Dy{a:Addr}{v:Value}(h:W.cell? a=some v):∃g o,a=⟨g,o,none⟩/\g < W.heap.size:=by
 obtain⟨g,o,spot⟩:=a;obtain rfl:spot=none:=World.cell?_spot h;exact⟨g,o,rfl,World.block_lt_of_cell? W _ h⟩
theorem AN(g o i:Nat):Addr.add ⟨g,o,none⟩ i=⟨g,o+i,none⟩:=by
 unfold Addr.add;split
 . rename_i h;rw[h];rfl
 . rfl
def JD(W:zw)(v:Value):Prop:=∃A n c,v= .slice A n c/\n<=maxLen/\∃(K:Nat->Int) (S:Nat->zy) (N:Nat->Int),(∀i,i < n->(-9223372036854775808<=N i/\N i<=9223372036854775807)/\(S i).size<=maxLen)/\
 (0 < n->∃g o,A=some ⟨g,o,none⟩/\g < W.heap.size/\n<=c/\c<=maxLen/\∀i,i < n->W.cell? ⟨g,o+i*3,none⟩=some (.int .i64 (K i))/\W.cell? ⟨g,o+i*3+1,none⟩=some (.string (S i))/\W.cell? ⟨g,o+i*3+2,none⟩=some (.int .i64 (N i)))
theorem FN{base fuel:Nat}{spare:Nat->Bool}{held:Bool}{cs:List Value}{x:DataW H × List MemPlace}(h:DataW.trod enc prog W base spare held fuel 47 cs=some x):
 ∃(k:Int) (s:zy) (a:Int),cs= [.int .i64 k,.string s,.int .i64 a]/\(-9223372036854775808<=a/\a<=9223372036854775807)/\s.size<=maxLen:=by
 obtain⟨y0,y1,y2,n,_,hl,h0,h1,h2⟩:=trod_struct3 underlying47 h;rw[AM] at hl
 match cs,hl with
 | [c0,c1,c2],_=>
   have Wj:DataW.trod enc prog W base spare held n 3 [c0]=some y0:=by simpa[AK] using h0
   have yD:DataW.trod enc prog W base spare held n 9 [c1]=some y1:=by simpa[AK,AL] using h1
   have Wk:DataW.trod enc prog W base spare held n 3 [c2]=some y2:=by simpa[AK,AL] using h2
   obtain⟨k,e0,_,_⟩:=DataW.trod_int underlying3 Wj;obtain⟨s,e1,_,w1⟩:=DataW.trod_string underlying9 yD;obtain⟨a,e2,_,w2⟩:=DataW.trod_int underlying3 Wk;simp at e0 e1 e2;subst e0 e1 e2;exact⟨k,s,a,rfl,wB w2,w1⟩
instance:Inhabited (Int × zy × Int):=⟨(0,⟨#[]⟩,0)⟩
theorem Pa{QD:Nat}{v:Value}{d:DataW H}{p:List MemPlace}(hv:Value.okWide prog W .any QD 22 v)(h:DataW.Trod enc prog W 0 (λ_=>true) true 22 v d p):JD W v:=by
 obtain⟨A,n,c,rfl⟩:=okWide_slice underlying22 hv;obtain⟨fuel,hf⟩:=h;rcases open_slice underlying22 hf with⟨uC,_⟩|⟨a,len,cap,m,k,D,Pl,uC,_,hl,hm,iX,_,hx⟩
 . simp[Value.cells] at uC;obtain⟨rfl,rfl,rfl⟩:=uC;exact⟨none,0,0,rfl,by unfold maxLen;omega,λ_=>0,λ_=>⟨#[]⟩,λ_=>0,λi hi=>by omega,λh=>by omega⟩
 . simp[Value.cells] at uC;obtain⟨rfl,rfl,rfl⟩:=uC;have XA:n<=m:=by rw[iX];split <;> omega
   have key:∀i,i < n->∃q:Int × zy × Int,((-9223372036854775808<=q.2.2/\q.2.2<=9223372036854775807)/\q.2.1.size<=maxLen)/\
    W.cell? (a.add (i*3))=some (.int .i64 q.1)/\W.cell? (a.add (i*3+1))=some (.string q.2.1)/\W.cell? (a.add (i*3+2))=some (.int .i64 q.2.2):=by
    intro i hi;obtain⟨cs,hc,ht⟩:=hx i (by omega);rw[AM] at hc;obtain⟨k,s,r,rfl,h1,h2⟩:=FN ht;obtain⟨_,_,lF⟩:=World.cells?_some hc;refine⟨(k,s,r),⟨h1,h2⟩,?_,?_,?_⟩
    . have:=lF 0 (by omega);rw[add_add] at this;simpa using this
    . have:=lF 1 (by omega);rw[add_add] at this;simpa using this
    . have:=lF 2 (by omega);rw[add_add] at this;simpa using this
   obtain⟨q,hq⟩:=choose_lt key;refine⟨some a,n,c,rfl,by omega,λi=>(q i).1,λi=>(q i).2.1,λi=>(q i).2.2,λi hi=>(hq i hi).1,λh0=>?_⟩;have h1:=(hq 0 h0).2.1;rw[show a.add (0*3)=a from rfl] at h1;obtain⟨g,o,rfl,hg⟩:=Dy h1;refine⟨g,o,rfl,hg,hl,hm,λi hi=>?_⟩;have:=(hq i hi).2;rw[AN,AN,AN] at this;exact this
end
end
section
open Go.ChangeShapes Go.WideShapes Go.ChangeAt Go.RowKit Sg
open Go.ChangeMaps (open_string shut_string)
set_option maxRecDepth 100000 in
theorem ua(jg mo:Nat)(A:Option Addr)(nL cc:Nat)(w:zw)(K:Nat->Int)(S:Nat->zy)(N:Nat->Int)(sQ:jg < 5)(ey:mo<=16777216)(lq:¬(jg=4/\1000 < mo))(hn:nL<=maxLen)(hS:∀i,i < nL->(-9223372036854775808<=N i/\N i<=9223372036854775807)/\(S i).size<=maxLen)
 (hc:0 < nL->∃g o,A=some ⟨g,o,none⟩/\g < w.heap.size/\nL<=cc/\cc<=maxLen/\∀i,i < nL->w.cell? ⟨g,o+i*3,none⟩=some (.int .i64 (K i))/\w.cell? ⟨g,o+i*3+1,none⟩=some (.string (S i))/\w.cell? ⟨g,o+i*3+2,none⟩=some (.int .i64 (N i))) (hl:Laid w/\jw w):
 Calls prog 3 #[.int .i64 (jg:Int),.int .i64 (mo:Int),.slice A nL cc] w (AB true w):=by
 have AW:=J (rQ w hl);have NW:=J (λw1=>JA w1 jg sQ mo ey);have NR:=J (λw1=>P9.QC w1 (λ_=>False) jg mo sQ ey);have SN:=J (aN.p7 sQ mo);have Wl:=J ey;have Pb:=J hl.1;have g1:jg=4->¬1000 < mo:=λh1 h2=>lq ⟨h1,h2⟩
 have HG:=J (show((jg:Int)==4)=false\/((jg:Int)==4)=true/\¬1000 < mo from by
  by_cases h:jg=4
  . right;exact⟨by simp;omega,g1 h⟩
  . left;simp;omega)
 have HC:=J hc;have HS:=J hS;have HN:=J hn;have Wa:=λ(w:zw)=>AR.BQ (w:=w);have Wb:=λ(w:zw) (a:Bool) (s:zy) (b:Bool)=>AR.Jm (w:=w) (a:=a) (s:=s) (b:=b);clear hc hS hl sQ hn lq g1 ey;go_enter func3,ntmps3;go_wp2_with fail
 refine AW.out.mono ?_;rintro e w0 ⟨rfl,jX⟩;have b0:=J jX;clear jX;go_upto_region 3 with fail
 go_cut [44] (λx W=>W=w0/\∃t,x= .bool t/\(t=false->nL<=200))
 case first=>
  as_aux_lemma=>
  go_wp2_with fail
  refine(wA A nL cc w0 S HN.out (λi hi=>(HS.out i hi).2) (λh=>by
   obtain⟨g,o,h1,h2,h3,h4,h5⟩:=HC.out h;exact⟨g,o,h1,xd h2 b0.out.size,h3,h4,λi hi=>(b0.out.cell (p:=⟨g,o+i*3+1,none⟩) h2).trans (h5 i hi).2.1⟩)).mono ?_
  rintro e SP ⟨t,rfl,rfl,ht⟩;cases t with
  |false=>
   go_wp2_with fail
   go_meet
   exact⟨rfl,true,rfl,λh=>by cases h⟩
  |true=>
   rcases HG.out with e4|⟨e4,e5⟩
   . go_wp2_with fail
     go_meet
     exact⟨rfl,false,rfl,λ_=>by simpa using ht⟩
   . have e6:decide (1000 < (mo:Int))=false:=decide_eq_false (by omega);go_wp2_with fail
     go_meet
     exact⟨rfl,false,rfl,λ_=>by simpa using ht⟩
 case rest=>
 obtain⟨rfl,t,rfl,ht⟩:=hcut;clear HG;cases t with
 |true=>
  go_wp2_with fail
  go_ret;exact⟨rfl,b0.out⟩
 |false=>
 have hn:=ht rfl;clear ht;go_wp2_with fail
 refine(NW.out wc).mono ?_;rintro e w1 ⟨p,U1,rfl,hC,hT,hB⟩;have L1:=J (fW.made b0.out hC hT hB);clear hC hT hB b0 NW AW;go_wp2_with fail
 refine(NR.out w1).mono ?_;rintro e w2 ⟨ma,la,mb,ch,lb,mc,tc,n,a,g,md,pd,v,rfl,hr,hB⟩;have L2:=J (L1.out.below hB);have R2:=J hr;have SQ:=zs (∀j,U1 j->j < w2.heap.size) (λj hj=>xd (L1.out.lt j hj) hB.size);clear hr hB L1 NR;have HZ:=J (P9.nV w2);generalize aN.start jg mo=vr at*;go_upto_region 7 with(with_reducible refine P9.dz rfl _ _ rfl HZ.out rfl rfl ?_)
 have ie:Below w2.heap.size w2 (P9.bH (w2.alloc P9.aR) w2.heap.size vr.kind vr.mo ma la mb ch lb mc tc n a g md pd v):=P9.dw ((zo _ _).alloc (zg _) _) (zg _)
 have S1:=J (show P9.j8 w (P9.bH (w2.alloc P9.aR) w2.heap.size vr.kind vr.mo ma la mb ch lb mc tc n a g md pd v) p U1 vr 0 w2.heap.size vr ma la mb ch lb mc tc n a g md pd v from
  ⟨L2.out.below ie,HZ.out.put,(R2.out.below ie).wide (λ_ h _=>h.elim),λhu=>by have:=SQ.out _ hu;omega,L2.out.az.size⟩)
 clear ie L2 R2 SQ HZ;generalize P9.bH (w2.alloc P9.aR) w2.heap.size vr.kind vr.mo ma la mb ch lb mc tc n a g md pd v=w3 at S1|-;generalize w2.heap.size=bm at S1|-;go_wp2_with fail
 refine(vf _ _ _).mono ?_;rintro e w4 ⟨rfl,rfl⟩;go_wp2_with fail
 go_loopg [11] nL (λgq i W=>P9.Wg w p bm nL jg gq i W)
 case atStart=>exact⟨0,U1,vr,0,ma,la,mb,ch,lb,mc,tc,n,a,g,md,pd,v,by omega,rfl,xg _,zg _,SN.out.1,by rw[SN.out.2.1];exact Wl.out,S1.out⟩
 case round=>
  obtain⟨k,U,st,b,ma,la,mb,ch,lb,mc,tc,n,a,g,md,pd,v,SS,rfl,hk,FO,sQ,ey,hS⟩:=hrel;have Wm:=J SS;have Ck:=J hS;have rT:=J sQ;have rU:=J ey;clear SS hS S1 sQ ey
  by_cases aQ:k < nL
  . have e0:decide (k < nL)=true:=by simpa using aQ
    obtain⟨g9,o,rfl,hg,cF,bL,bX⟩:=HC.out (by omega);have JE:=bX k aQ;have h1:=(Ck.out.live.az.cell (p:=⟨g9,o+k*3,none⟩) hg).trans JE.1;have h2:=(Ck.out.live.az.cell (p:=⟨g9,o+k*3+1,none⟩) hg).trans JE.2.1;have h3:=(Ck.out.live.az.cell (p:=⟨g9,o+k*3+2,none⟩) hg).trans JE.2.2;have ux:=J (HS.out k aQ).2;have Wn:=J (HS.out k aQ).1;clear bX JE;unfold maxLen at bL;have S2:=J (P9.jS.made Ck.out (K k) (S k) (N k));have kX:=zs (b<=900/\b<=k) (⟨by omega,FO⟩);clear FO;go_upto_block 2 with fail
    clear h1 h2 h3 Ck;generalize wr.alloc (.cells #[.int .i64 (K k),.string (S k),.int .i64 (N k)] 47)=w2 at S2|-;generalize wr.heap.size=ga at S2|-;generalize S k=key at S2 ux|-;generalize K k=kd at S2|-;generalize N k=nn at S2 Wn|-;go_cut [] (λW=>P9.Wh w p bm k jg ga kd key nn W)
    case first=>
     as_aux_lemma=>
     obtain⟨d0,d1,d2⟩:=S2.out.k;have rV:=J (P9.Pc.bd S2.out.st.live.ca kX.out.1 rU.out);cases c0:(kd==0) with
     |true=>
      as_aux_lemma=>
      have U0:=P9.FK w2 (P9.Aside U bm) st ma la mb ch lb mc tc n a g md pd v S2.out.st.rows S2.out.st.cl rV.out key ux.out;have V0:=λ(W:zw) (U:Nat->Prop) (hC:Pc W p U st b)=>lG W p U st b key hC ux.out kX.out.1;have TE:st.step key= .agg #[.bool (st.tell key).1,.string (st.tell key).2.1,.bool (st.tell key).2.2]:=rfl;rw[TE] at U0 V0;generalize(st.tell key).1=th at U0 V0;generalize(st.tell key).2.1=tv at U0 V0;generalize(st.tell key).2.2=tz at U0 V0;obtain⟨s2,fI⟩:=zx (st.aK key);rw[← fI] at U0 V0;have ox:=zs (s2.kind=jg/\s2.mo<=16777216) (by rw[fI,aN.kI,aN.j7];exact⟨rT.out,rU.out⟩);have U9:=J U0;have V1:=J V0;clear U0 V0 TE fI;go_wp2_with(with_reducible refine P9.cN rfl _ rfl S2.out.st.box rfl ?_)
      refine U9.out.mono ?_;rintro e w3 ⟨dF,dG,dH,dI,dJ,dK,dL,n3,a3,g3,dM,dN,v3,rfl,kj,eh⟩;have R3:=J kj;have S3:=J (S2.out.below eh);clear kj eh U9 d0 d1 d2 S2;have oy:=P9.nV w3;have hW:Below w3.heap.size w3 ((w3.alloc P9.aR).alloc (AR.bq false ⟨#[]⟩ false)):=((zo _ _).alloc (zg _) _).alloc (by simp) _;have hz:P9.RB ((w3.alloc P9.aR).alloc (AR.bq false ⟨#[]⟩ false)) w3.heap.size 0 0 0 P9.zS 0 false P9.zS 0 0 P9.zK P9.zK P9.zK 0 0 AR.zV:=(qf _ _ _ (by simp)).trans oy;have HZ:=J hz;have KZ:=zs (P9.RB (P9.gx ((w3.alloc P9.aR).alloc (AR.bq false ⟨#[]⟩ false)) w3.heap.size s2.kind s2.mo dF dG dH dI dJ dK dL n3 a3 g3 dM dN v3) w3.heap.size s2.kind s2.mo dF dG dH dI dJ dK dL n3 a3 g3 dM dN v3) hz.put;have HW:=zs (Below w3.heap.size w3 (P9.gx ((w3.alloc P9.aR).alloc (AR.bq false ⟨#[]⟩ false)) w3.heap.size s2.kind s2.mo dF dG dH dI dJ dK dL n3 a3 g3 dM dN v3)) (P9.dw hW (zg _))
      have zz:AR.ZB ((w3.alloc P9.aR).alloc (AR.bq false ⟨#[]⟩ false)) (w3.heap.size+1) false ⟨#[]⟩ false:=by
       have:=heap_alloc_new (w3.alloc P9.aR) (AR.bq false ⟨#[]⟩ false);rw[show(w3.alloc P9.aR).heap.size=w3.heap.size+1 by simp] at this;exact this
      have ZZ:=zs (AR.ZB (P9.gx ((w3.alloc P9.aR).alloc (AR.bq false ⟨#[]⟩ false)) w3.heap.size s2.kind s2.mo dF dG dH dI dJ dK dL n3 a3 g3 dM dN v3) (w3.heap.size+1) false ⟨#[]⟩ false) (P9.Dx zz (by omega));clear zz;clear oy hW hz;go_upto_region 16 with(first|(with_reducible refine P9.FM rfl _ _ rfl HZ.out rfl rfl ?_)|(with_reducible refine P9.Wi rfl _ _ rfl ZZ.out rfl rfl ?_))
      have JF:=zs (AR.ZB (P9.AJ (P9.gx ((w3.alloc P9.aR).alloc (AR.bq false ⟨#[]⟩ false)) w3.heap.size s2.kind s2.mo dF dG dH dI dJ dK dL n3 a3 g3 dM dN v3) (w3.heap.size+1) th tv tz) (w3.heap.size+1) th tv tz) (((ZZ.out.dO th).eR tv).fg tz);have K9:=zs (P9.RB (P9.AJ (P9.gx ((w3.alloc P9.aR).alloc (AR.bq false ⟨#[]⟩ false)) w3.heap.size s2.kind s2.mo dF dG dH dI dJ dK dL n3 a3 g3 dM dN v3) (w3.heap.size+1) th tv tz) w3.heap.size s2.kind s2.mo dF dG dH dI dJ dK dL n3 a3 g3 dM dN v3) (((KZ.out.other (x:=⟨w3.heap.size+1,0,none⟩) (show w3.heap.size≠w3.heap.size+1 by omega) _).other (x:=⟨w3.heap.size+1,1,none⟩) (show w3.heap.size≠w3.heap.size+1 by omega) _).other (x:=⟨w3.heap.size+1,2,none⟩) (show w3.heap.size≠w3.heap.size+1 by omega) _);have gy:=zs (Below w3.heap.size w3 (P9.AJ (P9.gx ((w3.alloc P9.aR).alloc (AR.bq false ⟨#[]⟩ false)) w3.heap.size s2.kind s2.mo dF dG dH dI dJ dK dL n3 a3 g3 dM dN v3) (w3.heap.size+1) th tv tz)) (((HW.out.setCell (p:=⟨w3.heap.size+1,0,none⟩) (Nat.le_succ _) _).setCell (p:=⟨w3.heap.size+1,1,none⟩) (Nat.le_succ _) _).setCell (p:=⟨w3.heap.size+1,2,none⟩) (Nat.le_succ _) _);have FZ:=zs (w3.heap.size+1≠bm/\¬U (w3.heap.size+1)) (⟨λe=>by have:=S3.out.st.box.lt;omega,λhu=>by have:=S3.out.st.live.lt _ hu;omega⟩);clear KZ ZZ HW HZ;generalize P9.AJ (P9.gx ((w3.alloc P9.aR).alloc (AR.bq false ⟨#[]⟩ false)) w3.heap.size s2.kind s2.mo dF dG dH dI dJ dK dL n3 a3 g3 dM dN v3) (w3.heap.size+1) th tv tz=w4 at JF K9 gy|-;have S4:=J (S3.out.below gy.out);have R4:=J (R3.out.below gy.out);generalize w3.heap.size+1=FP at JF FZ|-;generalize w3.heap.size=z9 at K9|-;clear gy R3 S3;go_upto_region 17 with(first|(with_reducible refine P9.cN rfl _ rfl K9.out rfl ?_)|(with_reducible refine P9.dz rfl _ _ rfl S4.out.st.box rfl rfl ?_))
      have S5:=J (S4.out.put R4.out);have K5:=J (P9.Dx (q:=bm) (k:=s2.kind) (mo:=s2.mo) (ma:=dF) (la:=dG) (mb:=dH) (ch:=dI) (lb:=dJ) (mc:=dK) (tc:=dL) (n:=n3) (a:=a3) (g:=g3) (md:=dM) (pd:=dN) (v:=v3) JF.out FZ.out.1);clear JF;clear S4 R4 K9;obtain⟨w5,oz⟩:=zx (P9.bH w4 bm s2.kind s2.mo dF dG dH dI dJ dK dL n3 a3 g3 dM dN v3);rw[← oz] at S5 K5|-;clear oz;obtain⟨_,d1,_⟩:=(S5.out.below (AR.aG w5)).k;obtain⟨q0,q1,q2⟩:=(K5.out.below (AR.aG w5)).c;have SD:=J (S5.out.below (AR.aG w5));have KD:=J (K5.out.below (AR.aG w5));clear S5 K5
      go_region_held3(λw'=>w'.cell? ⟨ga,1,none⟩=some (.string key)/\w'.cell? ⟨FP,0,none⟩=some (.bool th)/\w'.cell? ⟨FP,1,none⟩=some (.string tv)/\w'.cell? ⟨FP,2,none⟩=some (.bool tz)) (first|(with_reducible exact⟨d3,q3,q4,q5⟩)|(with_reducible exact⟨d1,q0,q1,q2⟩)|go_keep)
       (first
         |(go_at_call 17;refine(V1.out _ _ SD.out.st.live.ca).mono ?_;intro e w6 hp;obtain⟨rfl,U6,h6,SU⟩:=SD.out.op hp;obtain⟨q3,q4,q5⟩:=(show AR.ZB w6 FP th tv tz from(SU.a8.block FP KD.out.lt FZ.out.2).trans KD.out).c;obtain⟨_,d3,_⟩:=h6.k;have S6:=J h6;clear hp h6 SU))
      all_goals
       go_wp2_with fail
       go_meet
       exact⟨U6,s2,b+1,dF,dG,dH,dI,dJ,dK,dL,n3,a3,g3,dM,dN,v3,by have:=kX.out.2;omega,ox.out.1,ox.out.2,S6.out⟩
     |false=>
     cases c1:(kd==1) with
     |true=>
      as_aux_lemma=>
      have SD:=J (S2.out.below (AR.aG w2));obtain⟨tb,Cm⟩:∃t,st.has key=t:=⟨_,rfl⟩;obtain⟨s2,fI⟩:=zx (st.rm key);have ox:=zs (s2.kind=jg/\s2.mo<=16777216) (by rw[fI,aN.Cc,aN.Jv];exact⟨rT.out,rU.out⟩);have V:=J (λ(W:zw) (U:Nat->Prop) (hC:Pc W p U st b)=>(by have:=Ib W p U st b key hC ux.out;rw[Cm,<-fI] at this;exact this:Calls prog 18 #[.pointer (some ⟨p,0,none⟩),.string key] W (iT (.bool tb) W p U s2 b)));have UH:=J (λ(W:zw) (U:Nat->Prop) (hr:P9.RS W (P9.Aside U bm) st ma la mb ch lb mc tc n a g md pd v) (hq:AR.Cl W (P9.Aside U bm))=>(by have:=P9.QB W (P9.Aside U bm) st ma la mb ch lb mc tc n a g md pd v hr hq rV.out key;rw[Cm] at this;exact this:Calls prog 19 #[P9.ba st.kind st.mo ma la mb ch lb mc tc n a g md pd v,.string key] W (AR.dV (.bool tb) W)));have UR:=J (λ(W:zw) (U:Nat->Prop) (hr:P9.RS W (P9.Aside U bm) st ma la mb ch lb mc tc n a g md pd v) (hq:AR.Cl W (P9.Aside U bm))=>(by have:=P9.IG W (P9.Aside U bm) st ma la mb ch lb mc tc n a g md pd v hr hq rV.out key;rw[← fI] at this;exact this:Calls prog 20 #[P9.ba st.kind st.mo ma la mb ch lb mc tc n a g md pd v,.string key] W (P9.aL id W (P9.Aside U bm) s2)));clear Cm fI;go_upto_region 20 with fail
      refine wp_region_noPanic ?_;refine wp_region_held_drew (S:=(λw'=>P9.RB w' bm st.kind st.mo ma la mb ch lb mc tc n a g md pd v/\w'.cell? ⟨ga,1,none⟩=some (.string key)/\w'.cell? ⟨bm,1,none⟩=some (.int .i64 (st.mo:Int)))) (by kernel_rfl) ?_ (λhHeld=>?_)
      . exact⟨SD.out.st.box,d1,SD.out.st.box.c.2.1⟩
      iterate 3 (refine zi 0 (v:=?_) rfl (by kernel_rfl) zq ‹_› (by intro w aO;(try dsimp only at aO);go_simp;(try with_reducible rfl)) ?_;(try simp only[Act.put,za,zb,zc]))
      refine zk 4 (v:=P9.ba st.kind st.mo ma la mb ch lb mc tc n a g md pd v) rfl (by kernel_rfl) zq (P9.tZ (by rfl) _ rfl rfl (λw hw=>hw.1)) ‹_› ?_;(try simp only[Act.put,za,zb,zc])
      iterate 2 (refine zi 1 (v:=?_) rfl (by kernel_rfl) zq ‹_› (by intro w aO;(try dsimp only at aO);go_simp;(try with_reducible rfl)) ?_;(try simp only[Act.put,za,zb,zc]))
      refine wpAnyH_ready (rs:=[3]) (by kernel_rfl) (by simp) ?_;refine zn rfl (λK hK=>?_);go_simp;refine(V.out _ _ SD.out.st.live.ca).mono ?_;intro e w3 hp;obtain⟨rfl,U3,h3,_⟩:=SD.out.op hp;have S3:=J h3;clear hp h3;go_wp2_with fail
      refine hK.out _ _ ?_ (λhHeld=>?_)
      . exact⟨S3.out.st.box,S3.out.k.2.1,S3.out.st.box.c.2.1⟩
      clear hK K;(try simp only[Act.put,za,zb,zc]);refine wpAnyH_ready (rs:=[7]) (by kernel_rfl) (by simp) ?_;refine zn rfl (λK hK=>?_);go_simp;refine(UH.out w3 U3 S3.out.st.rows S3.out.st.cl).mono ?_;rintro e w4 ⟨rfl,hB⟩;have S4:=J (S3.out.below hB);clear hB;go_wp2_with fail
      refine hK.out _ _ ?_ (λhHeld=>?_)
      . exact⟨S4.out.st.box,S4.out.k.2.1,S4.out.st.box.c.2.1⟩
      clear hK K;(try simp only[Act.put,za,zb,zc]);refine zi 0 (v:=?_) rfl (by kernel_rfl) zq ‹_› (by intro w aO;(try dsimp only at aO);go_simp;(try with_reducible rfl)) ?_;(try simp only[Act.put,za,zb,zc]);refine wpAnyH_done (by kernel_rfl) ?_ _;refine NoPanic.normal ?_;clear hHeld SD V S2 d0 d1 d2 S3;obtain⟨_,d1,_⟩:=S4.out.k;go_wp2_with(with_reducible refine P9.cN rfl _ rfl S4.out.st.box rfl ?_)
      refine(UR.out w4 U3 S4.out.st.rows S4.out.st.cl).mono ?_;rintro e w5 ⟨dF,dG,dH,dI,dJ,dK,dL,n3,a3,g3,dM,dN,v3,rfl,kj,eh⟩;unfold id;have S5:=J (S4.out.below eh);have S6:=J (S5.out.put (kj.below (zo _ _)));clear kj eh UR UH S4 d1;go_wp2_with(with_reducible refine P9.dz rfl _ _ rfl S5.out.st.box rfl rfl ?_)
      go_meet
      exact⟨U3,s2,b,dF,dG,dH,dI,dJ,dK,dL,n3,a3,g3,dM,dN,v3,by have:=kX.out.2;omega,ox.out.1,ox.out.2,S6.out⟩
     |false=>
     cases c2:(kd==2) with
     |true=>
      as_aux_lemma=>
      have U0:=P9.KN w2 (P9.Aside U bm) st ma la mb ch lb mc tc n a g md pd v S2.out.st.rows S2.out.st.cl rV.out key ux.out;have V0:=λ(W:zw) (U:Nat->Prop) (hC:Pc W p U st b)=>Ky W p U st b key hC ux.out kX.out.1;generalize st.bD key=tb at U0 V0;obtain⟨s2,fI⟩:=zx (st.ad key);rw[← fI] at U0 V0;have ox:=zs (s2.kind=jg/\s2.mo<=16777216) (by rw[fI,aN.Cd,aN.xY];exact⟨rT.out,rU.out⟩);have U9:=J U0;have V1:=J V0;clear U0 V0 fI;go_wp2_with(with_reducible refine P9.cN rfl _ rfl S2.out.st.box rfl ?_)
      refine U9.out.mono ?_;rintro e w3 ⟨dF,dG,dH,dI,dJ,dK,dL,n3,a3,g3,dM,dN,v3,rfl,kj,eh⟩;have R3:=J kj;have S3:=J (S2.out.below eh);clear kj eh U9 d0 d1 d2 S2;have oy:=P9.nV w3;have hW:Below w3.heap.size w3 (w3.alloc P9.aR):=(zo _ _).alloc (zg _) _;have hz:P9.RB (w3.alloc P9.aR) w3.heap.size 0 0 0 P9.zS 0 false P9.zS 0 0 P9.zK P9.zK P9.zK 0 0 AR.zV:=oy;have HZ:=J hz;have KZ:=zs (P9.RB (P9.gx (w3.alloc P9.aR) w3.heap.size s2.kind s2.mo dF dG dH dI dJ dK dL n3 a3 g3 dM dN v3) w3.heap.size s2.kind s2.mo dF dG dH dI dJ dK dL n3 a3 g3 dM dN v3) hz.put;have HW:=zs (Below w3.heap.size w3 (P9.gx (w3.alloc P9.aR) w3.heap.size s2.kind s2.mo dF dG dH dI dJ dK dL n3 a3 g3 dM dN v3)) (P9.dw hW (zg _));clear oy hW hz;go_upto_region 25 with(with_reducible refine P9.FM rfl _ _ rfl HZ.out rfl rfl ?_)
      have K9:=J KZ.out;have gy:=J HW.out;clear KZ HW HZ;generalize P9.gx (w3.alloc P9.aR) w3.heap.size s2.kind s2.mo dF dG dH dI dJ dK dL n3 a3 g3 dM dN v3=w4 at K9 gy|-;have S4:=J (S3.out.below gy.out);have R4:=J (R3.out.below gy.out);generalize w3.heap.size=z9 at K9|-;clear gy R3 S3;go_upto_region 26 with(first|(with_reducible refine P9.cN rfl _ rfl K9.out rfl ?_)|(with_reducible refine P9.dz rfl _ _ rfl S4.out.st.box rfl rfl ?_))
      have S5:=J (S4.out.put R4.out);clear S4 R4 K9;obtain⟨w5,oz⟩:=zx (P9.bH w4 bm s2.kind s2.mo dF dG dH dI dJ dK dL n3 a3 g3 dM dN v3);rw[← oz] at S5|-;clear oz;obtain⟨_,d1,_⟩:=S5.out.k;go_wp2_with fail
      refine(V1.out _ _ S5.out.st.live.ca).mono ?_;intro e w6 hp;obtain⟨rfl,U6,h6,_⟩:=S5.out.op hp;have S6:=J h6;clear hp h6 S5 V1 d1;go_wp2_with fail
      go_meet
      exact⟨U6,s2,b+1,dF,dG,dH,dI,dJ,dK,dL,n3,a3,g3,dM,dN,v3,by have:=kX.out.2;omega,ox.out.1,ox.out.2,S6.out⟩
     |false=>
     cases c3:(kd==3) with
     |true=>
      as_aux_lemma=>
      obtain⟨s2,fI⟩:=zx st.dr;have ox:=zs (s2.kind=jg/\s2.mo<=16777216) (by rw[fI,aN.Ce,aN.Jw];exact⟨rT.out,rU.out⟩);have V0:=Oz w2 p U st b S2.out.st.live.ca;have U0:=λ(W:zw) (U:Nat->Prop) (hr:P9.RS W (P9.Aside U bm) st ma la mb ch lb mc tc n a g md pd v) (hq:AR.Cl W (P9.Aside U bm))=>P9.O7 W (P9.Aside U bm) st ma la mb ch lb mc tc n a g md pd v hr hq rV.out;generalize st.dW=vk at U0 V0;generalize st.any=vb at U0 V0;rw[← fI] at V0;have U9:=J (λ(W:zw) (U:Nat->Prop) (hr:P9.RS W (P9.Aside U bm) st ma la mb ch lb mc tc n a g md pd v) (hq:AR.Cl W (P9.Aside U bm))=>(by have:=U0 W U hr hq;rw[← fI] at this;exact this:Calls prog 24 #[P9.ba st.kind st.mo ma la mb ch lb mc tc n a g md pd v] W (P9.aL (λx=> .tuple #[x,.string vk,.bool vb]) W (P9.Aside U bm) s2)));have V1:=J V0;clear U0 V0 fI;go_wp2_with fail
      refine V1.out.mono ?_;intro e w6 hp;obtain⟨rfl,U6,h6,_⟩:=S2.out.op hp;have S6:=J h6;clear hp h6 S2 V1 d0 d1 d2;go_wp2_with(with_reducible refine P9.cN rfl _ rfl S6.out.st.box rfl ?_)
      refine(U9.out w6 U6 S6.out.st.rows S6.out.st.cl).mono ?_;rintro e w3 ⟨dF,dG,dH,dI,dJ,dK,dL,n3,a3,g3,dM,dN,v3,rfl,kj,eh⟩;have R3:=J kj;have S3:=J (S6.out.below eh);clear kj eh U9 S6;have oy:=P9.nV w3;have hW:Below w3.heap.size w3 (w3.alloc P9.aR):=(zo _ _).alloc (zg _) _;have hz:P9.RB (w3.alloc P9.aR) w3.heap.size 0 0 0 P9.zS 0 false P9.zS 0 0 P9.zK P9.zK P9.zK 0 0 AR.zV:=oy;have HZ:=J hz;have KZ:=zs (P9.RB (P9.gx (w3.alloc P9.aR) w3.heap.size s2.kind s2.mo dF dG dH dI dJ dK dL n3 a3 g3 dM dN v3) w3.heap.size s2.kind s2.mo dF dG dH dI dJ dK dL n3 a3 g3 dM dN v3) hz.put;have HW:=zs (Below w3.heap.size w3 (P9.gx (w3.alloc P9.aR) w3.heap.size s2.kind s2.mo dF dG dH dI dJ dK dL n3 a3 g3 dM dN v3)) (P9.dw hW (zg _));clear oy hW hz;go_upto_region 31 with(with_reducible refine P9.FM rfl _ _ rfl HZ.out rfl rfl ?_)
      have K9:=J KZ.out;have gy:=J HW.out;clear KZ HW HZ;generalize P9.gx (w3.alloc P9.aR) w3.heap.size s2.kind s2.mo dF dG dH dI dJ dK dL n3 a3 g3 dM dN v3=w4 at K9 gy|-;have S4:=J (S3.out.below gy.out);have R4:=J (R3.out.below gy.out);generalize w3.heap.size=z9 at K9|-;clear gy R3 S3;go_upto_region 32 with(first|(with_reducible refine P9.cN rfl _ rfl K9.out rfl ?_)|(with_reducible refine P9.dz rfl _ _ rfl S4.out.st.box rfl rfl ?_))
      have S5:=J (S4.out.put R4.out);clear S4 R4 K9;obtain⟨w5,oz⟩:=zx (P9.bH w4 bm s2.kind s2.mo dF dG dH dI dJ dK dL n3 a3 g3 dM dN v3);rw[← oz] at S5|-;clear oz;go_wp2_with fail
      go_meet
      exact⟨U6,s2,b,dF,dG,dH,dI,dJ,dK,dL,n3,a3,g3,dM,dN,v3,by have:=kX.out.2;omega,ox.out.1,ox.out.2,S5.out⟩
     |false=>
     cases c4:(kd==4) with
     |true=>
      as_aux_lemma=>
      by_cases hz:0<=nn/\nn<=16777216
      . obtain⟨m,rfl⟩:∃m:Nat,nn=(m:Int):=⟨nn.toNat,by omega⟩;have hm:m<=16777216:=by omega
        have V1:=J (Ic w2 p U st b m S2.out.st.live.ca kX.out.1 hm);have U9:=J (λ(W:zw) (U:Nat->Prop) (hr:P9.RS W (P9.Aside U bm) st ma la mb ch lb mc tc n a g md pd v) (hq:AR.Cl W (P9.Aside U bm))=>P9.IH W (P9.Aside U bm) st ma la mb ch lb mc tc n a g md pd v hr hq rV.out m hm);obtain⟨s2,fI⟩:=zx (st.rs m);have ox:=zs (s2.kind=jg/\s2.mo<=16777216) (by rw[fI,aN.Cf,aN.Jx];exact⟨rT.out,hm⟩);have Pd:=J fI;clear fI hz hm;go_wp2_with fail
        refine V1.out.mono ?_;rintro e w6 ⟨vo,U6,rfl,hO,hC,hW,_⟩;have S6:=J (S2.out.dS (S2.out.st.dS (S2.out.st.live.dS hC hW) hW) hW);obtain⟨gu,Wo,SV⟩:=hO.row;have RU:=zs (Row w6 gu vo (st.gone m)/\gu≠bm) (⟨SV,λe=>by have:=S2.out.st.box.lt;omega⟩);clear hO hC hW Wo SV V1 S2 d0 d1 d2;obtain⟨_,_,d2⟩:=S6.out.k;go_wp2_with(with_reducible refine P9.cN rfl _ rfl S6.out.st.box rfl ?_)
        refine(U9.out w6 U6 S6.out.st.rows S6.out.st.cl).mono ?_;rintro e w3 ⟨uw,⟨dF,dG,dH,dI,dJ,dK,dL,n3,a3,g3,dM,dN,v3,rfl,kj,eh⟩,SX⟩;rw[← Pd.out] at kj;(try rw[← Pd.out]);have R3:=J kj;have S3:=J (S6.out.below eh);have Pe:=J (xy (RU.out.1.below eh) SX);have Wp:=J RU.out.2;clear kj eh SX U9 S6 RU d2;have oy:=P9.nV w3;have hW:Below w3.heap.size w3 (w3.alloc P9.aR):=(zo _ _).alloc (zg _) _;have hz:P9.RB (w3.alloc P9.aR) w3.heap.size 0 0 0 P9.zS 0 false P9.zS 0 0 P9.zK P9.zK P9.zK 0 0 AR.zV:=oy;have HZ:=J hz;have KZ:=zs (P9.RB (P9.gx (w3.alloc P9.aR) w3.heap.size s2.kind s2.mo dF dG dH dI dJ dK dL n3 a3 g3 dM dN v3) w3.heap.size s2.kind s2.mo dF dG dH dI dJ dK dL n3 a3 g3 dM dN v3) hz.put;have HW:=zs (Below w3.heap.size w3 (P9.gx (w3.alloc P9.aR) w3.heap.size s2.kind s2.mo dF dG dH dI dJ dK dL n3 a3 g3 dM dN v3)) (P9.dw hW (zg _));clear oy hW hz;go_upto_region 37 with(with_reducible refine P9.FM rfl _ _ rfl HZ.out rfl rfl ?_)
        have K9:=J KZ.out;have gy:=J HW.out;clear KZ HW HZ;generalize P9.gx (w3.alloc P9.aR) w3.heap.size s2.kind s2.mo dF dG dH dI dJ dK dL n3 a3 g3 dM dN v3=w4 at K9 gy|-;have S4:=J (S3.out.below gy.out);have R4:=J (R3.out.below gy.out);have Pf:=J (xy (Pe.out.1.below gy.out) (Pe.out.2.below gy.out));clear Pe;generalize w3.heap.size=z9 at K9|-;clear gy R3 S3;go_upto_region 38 with(first|(with_reducible refine P9.cN rfl _ rfl K9.out rfl ?_)|(with_reducible refine P9.dz rfl _ _ rfl S4.out.st.box rfl rfl ?_))
        have S5:=J (S4.out.put R4.out);have Pg:=J (P9.xG (P9.KO (bm:=bm) (k:=s2.kind) (mo:=s2.mo) (ma:=dF) (la:=dG) (mb:=dH) (ch:=dI) (lb:=dJ) (mc:=dK) (tc:=dL) (n:=n3) (a:=a3) (g:=g3) (md:=dM) (pd:=dN) (v:=v3) Pf.out.1 Wp.out) (P9.O8 (bm:=bm) (k:=s2.kind) (mo:=s2.mo) (ma:=dF) (la:=dG) (mb:=dH) (ch:=dI) (lb:=dJ) (mc:=dK) (tc:=dL) (n:=n3) (a:=a3) (g:=g3) (md:=dM) (pd:=dN) (v:=v3) Pf.out.2 (λh=>h.2 rfl)).row.choose_spec.2);clear Pf;clear S4 R4 K9;obtain⟨w5,oz⟩:=zx (P9.bH w4 bm s2.kind s2.mo dF dG dH dI dJ dK dL n3 a3 g3 dM dN v3);rw[← oz] at S5 Pg|-;clear oz;go_wp2_with fail
        refine Pg.out.mono ?_;rintro e w7 ⟨rfl,qn,Cn⟩;have S7:=J (S5.out.below (Cn▸SR.av _ qn));clear Cn S5 Pg;go_wp2_with fail
        refine(vf _ _ _).mono ?_;rintro e w8 ⟨rfl,rfl⟩;go_wp2_with fail
        go_meet
        exact⟨U6,s2,b,dF,dG,dH,dI,dJ,dK,dL,n3,a3,g3,dM,dN,v3,by have:=kX.out.2;omega,ox.out.1,ox.out.2,by have h9:=S7.out;rw[← Pd.out] at h9;exact h9⟩
      . have Ph:nn < 0\/16777216 < nn:=by omega
        have V1:=J (H' w2 p nn Ph)
        have cu:(decide (0<=nn)&&decide (nn<=16777216))=false:=by
         rcases Ph with h|h
         . rw[decide_eq_false (show ¬0<=nn by omega)];rfl
         . rw[decide_eq_false (show ¬nn<=16777216 by omega),Bool.and_false]
        have U9:=J (λ(W:zw) (U:Nat->Prop) (hr:P9.RS W (P9.Aside U bm) st ma la mb ch lb mc tc n a g md pd v) (hq:AR.Cl W (P9.Aside U bm))=>P9.Bc W (P9.Aside U bm) st ma la mb ch lb mc tc n a g md pd v hr hq rV.out nn cu);clear hz Ph cu;go_wp2_with fail
        refine V1.out.mono ?_;rintro e w6 ⟨fv,rfl,hF,hB⟩;have S6:=J (S2.out.below hB);have F6:=J hF;clear hF hB V1 S2 d0 d1 d2;obtain⟨_,_,d2⟩:=S6.out.k;go_wp2_with(with_reducible refine P9.cN rfl _ rfl S6.out.st.box rfl ?_)
        refine(U9.out w6 U S6.out.st.rows S6.out.st.cl).mono ?_;rintro e w3 ⟨dF,dG,dH,dI,dJ,dK,dL,n3,a3,g3,dM,dN,v3,rfl,kj,eh⟩;have R3:=J kj;have S3:=J (S6.out.below eh);have F3:=J (F6.out.below eh);clear kj eh U9 S6 F6 d2;have oy:=P9.nV w3;have hW:Below w3.heap.size w3 (w3.alloc P9.aR):=(zo _ _).alloc (zg _) _;have hz:P9.RB (w3.alloc P9.aR) w3.heap.size 0 0 0 P9.zS 0 false P9.zS 0 0 P9.zK P9.zK P9.zK 0 0 AR.zV:=oy;have HZ:=J hz;have KZ:=zs (P9.RB (P9.gx (w3.alloc P9.aR) w3.heap.size st.kind st.mo dF dG dH dI dJ dK dL n3 a3 g3 dM dN v3) w3.heap.size st.kind st.mo dF dG dH dI dJ dK dL n3 a3 g3 dM dN v3) hz.put;have HW:=zs (Below w3.heap.size w3 (P9.gx (w3.alloc P9.aR) w3.heap.size st.kind st.mo dF dG dH dI dJ dK dL n3 a3 g3 dM dN v3)) (P9.dw hW (zg _));clear oy hW hz;go_upto_region 37 with(with_reducible refine P9.FM rfl _ _ rfl HZ.out rfl rfl ?_)
        have K9:=J KZ.out;have gy:=J HW.out;clear KZ HW HZ;generalize P9.gx (w3.alloc P9.aR) w3.heap.size st.kind st.mo dF dG dH dI dJ dK dL n3 a3 g3 dM dN v3=w4 at K9 gy|-;have S4:=J (S3.out.below gy.out);have R4:=J (R3.out.below gy.out);have F4:=J (F3.out.below gy.out);clear F3;generalize w3.heap.size=z9 at K9|-;clear gy R3 S3;go_upto_region 38 with(first|(with_reducible refine P9.cN rfl _ rfl K9.out rfl ?_)|(with_reducible refine P9.dz rfl _ _ rfl S4.out.st.box rfl rfl ?_))
        have S5:=J (S4.out.put R4.out);have F5:=J (P9.KP (k:=st.kind) (mo:=st.mo) (ma:=dF) (la:=dG) (mb:=dH) (ch:=dI) (lb:=dJ) (mc:=dK) (tc:=dL) (n:=n3) (a:=a3) (g:=g3) (md:=dM) (pd:=dN) (v:=v3) F4.out S4.out.st.box);clear F4;clear S4 R4 K9;obtain⟨w5,oz⟩:=zx (P9.bH w4 bm st.kind st.mo dF dG dH dI dJ dK dL n3 a3 g3 dM dN v3);rw[← oz] at S5 F5|-;clear oz;go_wp2_with fail
        refine(P9.xG (Row.nil w5 0 none 0) (Row.nil w5 0 none 0)).mono ?_;rintro e w7 ⟨rfl,qn,Cn⟩;have S7:=J (S5.out.below (Cn▸SR.av _ qn));have F7:=J (F5.out.below (Cn▸SR.av _ qn));clear Cn S5 F5;go_wp2_with fail
        refine(F7.out.xZ (by decide) (Pb.out.below S7.out.st.live.az (zg _))).mono ?_;rintro e w8 ⟨rfl,SY⟩;have S8:=J (S7.out.below SY);clear SY S7 F7;go_wp2_with fail
        go_meet
        exact⟨U,st,b,dF,dG,dH,dI,dJ,dK,dL,n3,a3,g3,dM,dN,v3,by have:=kX.out.2;omega,rT.out,rU.out,S8.out⟩
     |false=>
      go_wp2_with fail
      go_meet
      exact⟨U,st,b,ma,la,mb,ch,lb,mc,tc,n,a,g,md,pd,v,by have:=kX.out.2;omega,rT.out,rU.out,S2.out⟩
    case rest=>
     as_aux_lemma=>
     clear S2 rT rU kX;obtain⟨U,st,b,ma,la,mb,ch,lb,mc,tc,n,a,g,md,pd,v,FO,sQ,ey,hS⟩:=hcut;have S3:=J hS;have rT:=J sQ;have rU:=J ey;have Ta:=J FO;clear hS sQ ey FO;have Tb:b<=900:=by have:=Ta.out;omega
     have rV:=J (P9.Pc.bd S3.out.st.live.ca Tb rU.out);clear Tb;have U0:=Ay _ p U st b S3.out.st.live.ca;have V0:=λ(W:zw) (hr:P9.RS W (P9.Aside U bm) st ma la mb ch lb mc tc n a g md pd v) (hq:AR.Cl W (P9.Aside U bm))=>P9.AI W (P9.Aside U bm) st ma la mb ch lb mc tc n a g md pd v hr hq rV.out;generalize st.dW=vk at U0 V0;generalize st.any=vb at U0 V0;have U1:=J U0;have V1:=J V0;clear U0 V0;go_wp2_with fail
     refine U1.out.mono ?_;rintro e w4 ⟨rfl,hB⟩;have S4:=J (S3.out.below hB);clear hB S3 U1;go_wp2_with(with_reducible refine P9.cN rfl _ rfl S4.out.st.box rfl ?_)
     refine(V1.out w4 S4.out.st.rows S4.out.st.cl).mono ?_;rintro e w5 ⟨rfl,hB⟩;have S5:=J (S4.out.below hB);clear hB S4 V1;go_wp2_with(with_reducible refine P9.cN rfl _ rfl S5.out.st.box rfl ?_)
     refine(P9.rS w5 (P9.Aside U bm) st _ _ _ _ _ _ _ _ _ _ _ _ _ S5.out.st.rows S5.out.st.cl rV.out).mono ?_;rintro e w6 ⟨⟨uA,un,uc⟩,rfl,hu,hB⟩;have S6:=J (S5.out.below hB);have M6:=zs (st.keys.length=un) hu.len;have L6:=J hu;clear hu hB S5;go_upto_region 43 with fail
     have S9:=J (S6.out.below (AR.aG w6));have L9:=J (L6.out.below (AR.aG w6));clear S6 L6;obtain⟨tb,Cm⟩:∃t,st.has key=t:=⟨_,rfl⟩;have Tc:=J Cm;clear Cm;have d1:=S9.out.k.2.1;refine wp_region_noPanic ?_;refine wp_region_held_drew (S:=(λw'=>P9.RB w' bm st.kind st.mo ma la mb ch lb mc tc n a g md pd v/\w'.cell? ⟨ga,1,none⟩=some (.string key)/\w'.cell? ⟨bm,1,none⟩=some (.int .i64 (st.mo:Int)))) (by kernel_rfl) ?_ (λhHeld=>?_)
     . exact⟨S9.out.st.box,d1,S9.out.st.box.c.2.1⟩
     obtain⟨w9,Td⟩:=zx w6.drew;rw[← Td] at S9 L9 hHeld|-;clear Td;clear d1
     iterate 10 (refine zi 0 (v:=?_) rfl (by kernel_rfl) zq ‹_› (by intro w aO;(try dsimp only at aO);go_simp;(try with_reducible rfl)) ?_;(try simp only[Act.put,za,zb,zc]))
     refine zi 1 (v:=?_) rfl (by kernel_rfl) zq ‹_› (by intro w aO;(try dsimp only at aO);go_simp;(try with_reducible rfl)) ?_;(try simp only[Act.put,za,zb,zc]);refine wpAnyH_ready (rs:=[10]) (by kernel_rfl) (by simp) ?_;refine zn rfl (λK hK=>?_);go_simp;refine(Ft w9 p U st b S9.out.st.live.ca).mono ?_;rintro e wa ⟨va,rfl,hO,hB⟩;have Sa:=J (S9.out.below hB);have Ua:=J (P9.Cj hO (L9.out.below hB) (zo _ _));have La:=J (L9.out.below hB);clear hO hB;go_wp2_with fail
     refine hK.out _ _ ?_ (λhHeld=>?_)
     . exact⟨Sa.out.st.box,Sa.out.k.2.1,Sa.out.st.box.c.2.1⟩
     clear hK K;(try simp only[Act.put,za,zb,zc]);refine wpAnyH_ready (rs:=[12]) (by kernel_rfl) (by simp) ?_;refine zn rfl (λK hK=>?_);go_simp;refine Ua.out.mono ?_;rintro e wb ⟨rfl,qb,Te⟩;have DG:Below wa.heap.size wa wb:=Te▸SR.av _ qb;have Sb:=J (Sa.out.below DG);have Lb:=J (La.out.below DG);clear DG Te;go_wp2_with fail
     refine hK.out _ _ ?_ (λhHeld=>?_)
     . exact⟨Sb.out.st.box,Sb.out.k.2.1,Sb.out.st.box.c.2.1⟩
     clear hK K;(try simp only[Act.put,za,zb,zc])
     iterate 4 (refine zi 0 (v:=?_) rfl (by kernel_rfl) zq ‹_› (by intro w aO;(try dsimp only at aO);go_simp;(try with_reducible rfl)) ?_;(try simp only[Act.put,za,zb,zc]))
     iterate 2 (refine zi 1 (v:=?_) rfl (by kernel_rfl) zq ‹_› (by intro w aO;(try dsimp only at aO);go_simp;(try with_reducible rfl)) ?_;(try simp only[Act.put,za,zb,zc]))
     refine wpAnyH_ready (rs:=[17]) (by kernel_rfl) (by simp) ?_;refine zn rfl (λK hK=>?_);go_simp;refine(M6.out▸Jz wb p U st b Sb.out.st.live.ca:Calls prog 32 #[.pointer (some ⟨p,0,none⟩)] wb (Told (.int .i64 (un:Int)) wb)).mono ?_;rintro e wc ⟨rfl,hB⟩;have Sc:=J (Sb.out.below hB);have Lc:=J (Lb.out.below hB);clear hB;go_wp2_with fail
     refine hK.out _ _ ?_ (λhHeld=>?_)
     . exact⟨Sc.out.st.box,Sc.out.k.2.1,Sc.out.st.box.c.2.1⟩
     clear hK K;(try simp only[Act.put,za,zb,zc])
     iterate 6 (refine zi 0 (v:=?_) rfl (by kernel_rfl) zq ‹_› (by intro w aO;(try dsimp only at aO);go_simp;(try with_reducible rfl)) ?_;(try simp only[Act.put,za,zb,zc]))
     iterate 3 (refine zi 1 (v:=?_) rfl (by kernel_rfl) zq ‹_› (by intro w aO;(try dsimp only at aO);go_simp;(try with_reducible rfl)) ?_;(try simp only[Act.put,za,zb,zc]))
     refine wpAnyH_ready (rs:=[26]) (by kernel_rfl) (by simp) ?_;refine zn rfl (λK hK=>?_);go_simp;refine(Tc.out▸Du wc p U st b key Sc.out.st.live.ca ux.out:Calls prog 33 #[.pointer (some ⟨p,0,none⟩),.string key] wc (Told (.bool tb) wc)).mono ?_;rintro e wd ⟨rfl,hB⟩;have Sd:=J (Sc.out.below hB);have Ld:=J (Lc.out.below hB);clear hB;go_wp2_with fail
     refine hK.out _ _ ?_ (λhHeld=>?_)
     . exact⟨Sd.out.st.box,Sd.out.k.2.1,Sd.out.st.box.c.2.1⟩
     clear hK K;(try simp only[Act.put,za,zb,zc]);refine wpAnyH_ready (rs:=[30]) (by kernel_rfl) (by simp) ?_;refine zn rfl (λK hK=>?_);go_simp;refine(Tc.out▸AR.fV wd _ ⟨uA,un,uc⟩ st.keys key Ld.out:Calls prog 34 #[.slice uA un uc,.string key] wd (dq tb wd)).mono ?_;rintro e wx ⟨rfl,rfl⟩;go_wp2_with fail
     refine hK.out _ _ ?_ (λhHeld=>?_)
     . exact⟨Sd.out.st.box,Sd.out.k.2.1,Sd.out.st.box.c.2.1⟩
     clear hK K;(try simp only[Act.put,za,zb,zc])
     iterate 4 (refine zi 0 (v:=?_) rfl (by kernel_rfl) zq ‹_› (by intro w aO;(try dsimp only at aO);go_simp;(try with_reducible rfl)) ?_;(try simp only[Act.put,za,zb,zc]))
     refine zk 36 (v:=P9.ba st.kind st.mo ma la mb ch lb mc tc n a g md pd v) rfl (by kernel_rfl) zq (P9.tZ (by rfl) _ rfl rfl (λw hw=>hw.1)) ‹_› ?_;(try simp only[Act.put,za,zb,zc]);refine wpAnyH_ready (rs:=[35]) (by kernel_rfl) (by simp) ?_;refine zn rfl (λK hK=>?_);go_simp;refine(Ia wd p U st b Sd.out.st.live.ca).mono ?_;rintro e we ⟨ve,rfl,hO,hB⟩;have Se:=J (Sd.out.below hB);have Oe:=J hO;clear hO hB;go_wp2_with fail
     refine hK.out _ _ ?_ (λhHeld=>?_)
     . exact⟨Se.out.st.box,Se.out.k.2.1,Se.out.st.box.c.2.1⟩
     clear hK K;(try simp only[Act.put,za,zb,zc]);refine wpAnyH_ready (rs:=[37]) (by kernel_rfl) (by simp) ?_;refine zn rfl (λK hK=>?_);go_simp;refine(P9.IE we (P9.Aside U bm) st _ _ _ _ _ _ _ _ _ _ _ _ _ Se.out.st.rows Se.out.st.cl rV.out).mono ?_;rintro e wf ⟨uf,rfl,hu,hB⟩;have Sf:=J (Se.out.below hB);have Uf:=J (P9.Cj Oe.out hu hB);clear hu hB;go_wp2_with fail
     refine hK.out _ _ ?_ (λhHeld=>?_)
     . exact⟨Sf.out.st.box,Sf.out.k.2.1,Sf.out.st.box.c.2.1⟩
     clear hK K;(try simp only[Act.put,za,zb,zc]);refine wpAnyH_ready (rs:=[38]) (by kernel_rfl) (by simp) ?_;refine zn rfl (λK hK=>?_);go_simp;refine Uf.out.mono ?_;rintro e wg ⟨rfl,qg,EO⟩;have Tf:Below wf.heap.size wf wg:=EO▸SR.av _ qg;have Sg:=J (Sf.out.below Tf);clear Tf EO;go_wp2_with fail
     refine hK.out _ _ ?_ (λhHeld=>?_)
     . exact⟨Sg.out.st.box,Sg.out.k.2.1,Sg.out.st.box.c.2.1⟩
     clear hK K;(try simp only[Act.put,za,zb,zc])
     iterate 4 (refine zi 0 (v:=?_) rfl (by kernel_rfl) zq ‹_› (by intro w aO;(try dsimp only at aO);go_simp;(try with_reducible rfl)) ?_;(try simp only[Act.put,za,zb,zc]))
     iterate 2 (refine zi 1 (v:=?_) rfl (by kernel_rfl) zq ‹_› (by intro w aO;(try dsimp only at aO);go_simp;(try with_reducible rfl)) ?_;(try simp only[Act.put,za,zb,zc]))
     refine wpAnyH_ready (rs:=[43]) (by kernel_rfl) (by simp) ?_;refine zn rfl (λK hK=>?_);go_simp;refine(Fs wg p U st b Sg.out.st.live.ca).mono ?_;rintro e wh ⟨rfl,hB⟩;have Sh:=J (Sg.out.below hB);clear hB;go_wp2_with fail
     refine hK.out _ _ ?_ (λhHeld=>?_)
     . exact⟨Sh.out.st.box,Sh.out.k.2.1,Sh.out.st.box.c.2.1⟩
     clear hK K;(try simp only[Act.put,za,zb,zc])
     iterate 4 (refine zi 0 (v:=?_) rfl (by kernel_rfl) zq ‹_› (by intro w aO;(try dsimp only at aO);go_simp;(try with_reducible rfl)) ?_;(try simp only[Act.put,za,zb,zc]))
     refine zi 1 (v:=?_) rfl (by kernel_rfl) zq ‹_› (by intro w aO;(try dsimp only at aO);go_simp;(try with_reducible rfl)) ?_;(try simp only[Act.put,za,zb,zc]);refine wpAnyH_ready (rs:=[50]) (by kernel_rfl) (by simp) ?_;refine zn rfl (λK hK=>?_);go_simp;refine(rT.out▸Fq wh p U st b Sh.out.st.live.ca:Calls prog 38 #[.pointer (some ⟨p,0,none⟩)] wh (Told (.int .i64 (jg:Int)) wh)).mono ?_;rintro e wi ⟨rfl,hB⟩;have Si:=J (Sh.out.below hB);clear hB;go_wp2_with fail
     refine hK.out _ _ ?_ (λhHeld=>?_)
     . exact⟨Si.out.st.box,Si.out.k.2.1,Si.out.st.box.c.2.1⟩
     clear hK K;(try simp only[Act.put,za,zb,zc])
     iterate 2 (refine zi 0 (v:=?_) rfl (by kernel_rfl) zq ‹_› (by intro w aO;(try dsimp only at aO);go_simp;(try with_reducible rfl)) ?_;(try simp only[Act.put,za,zb,zc]))
     refine wpAnyH_done (by kernel_rfl) ?_ _;refine NoPanic.normal ?_;clear hHeld S9 L9 Sa Sb Sc Sd Se Sf Sg Sh La Lb Lc Ld Ua Uf Oe;go_wp2_with fail
     go_roundg(nL - (k+1))
     case measure=>have:=Wm.out;omega
     case rel=>exact⟨k+1,U,st,b,ma,la,mb,ch,lb,mc,tc,n,a,g,md,pd,v,rfl,by go_num,by omega,Ta.out,rT.out,rU.out,Si.out.st⟩
  . have e0:decide (k < nL)=false:=by simpa using aQ
    go_wp2_with fail
    go_ret;exact⟨rfl,Ck.out.live.az⟩
set_option maxRecDepth 100000 in
theorem pr(z0 z1:Int)(code:Int)(A:Option Addr)(nL cc:Nat)(w:zw)(K:Nat->Int)(S:Nat->zy)(N:Nat->Int)(hn:nL<=maxLen)(hS:∀i,i < nL->(-9223372036854775808<=N i/\N i<=9223372036854775807)/\(S i).size<=maxLen)
 (hc:0 < nL->∃g o,A=some ⟨g,o,none⟩/\g < w.heap.size/\nL<=cc/\cc<=maxLen/\∀i,i < nL->w.cell? ⟨g,o+i*3,none⟩=some (.int .i64 (K i))/\w.cell? ⟨g,o+i*3+1,none⟩=some (.string (S i))/\w.cell? ⟨g,o+i*3+2,none⟩=some (.int .i64 (N i))) (hl:Laid w/\jw w)
 (QE:code=7\/code=1) (hP:∀w1,Calls prog 13 #[.int .i64 z0,.int .i64 z1] w1 (OD code w1))
 (hR:∀w1,Calls prog 14 #[.int .i64 z0,.int .i64 z1] w1 (λe w'=>e= .returned (.tuple #[P9.ba 0 0 0 P9.zS 0 false P9.zS 0 0 P9.zK P9.zK P9.zK 0 0 AR.zV,.int .i64 code])/\Below w1.heap.size w1 w'))
 (hk:(z0==4)=false\/(z0==4)=true/\decide (1000 < z1)=false):
 Calls prog 3 #[.int .i64 z0,.int .i64 z1,.slice A nL cc] w (AB true w):=by
 have AW:=J (rQ w hl);have NW:=J hP;have NR:=J hR;have Pb:=J hl.1;have HC:=J hc;have HS:=J hS;have HN:=J hn;have HK:=J hk;clear hc hS hl hn hP hR hk;rcases QE with rfl|rfl
 all_goals
  rcases HK.out with e4|⟨e4,e5⟩
  all_goals
   clear HK;go_enter func3,ntmps3;go_wp2_with fail
   refine AW.out.mono ?_;rintro e w0 ⟨rfl,jX⟩;have b0:=J jX;clear jX;go_wp2_with fail
   refine(wA A nL cc w0 S HN.out (λi hi=>(HS.out i hi).2) (λh=>by
    obtain⟨g,o,h1,h2,h3,h4,h5⟩:=HC.out h;exact⟨g,o,h1,xd h2 b0.out.size,h3,h4,λi hi=>(b0.out.cell (p:=⟨g,o+i*3+1,none⟩) h2).trans (h5 i hi).2.1⟩)).mono ?_
   rintro e SP ⟨t,rfl,rfl,ht⟩;clear ht;cases t with
   |false=>
    go_wp2_with fail
    go_ret;exact⟨rfl,b0.out⟩
   |true=>
    go_wp2_with fail
    refine(NW.out _).mono ?_;rintro e w1 ⟨fv,rfl,hF,hB⟩;have F1:=J hF;have B1:=J (b0.out.trans (hB.mono b0.out.size));clear hF hB b0;go_wp2_with fail
    refine(NR.out w1).mono ?_;rintro e w2 ⟨rfl,hB⟩;have F2:=J (F1.out.below hB);have B2:=J (B1.out.trans (hB.mono B1.out.size));clear hB F1 B1;have HZ:=J (P9.nV w2);go_upto_region 7 with(with_reducible refine P9.dz rfl _ _ rfl HZ.out rfl rfl ?_)
    have ie:Below w2.heap.size w2 (P9.bH (w2.alloc P9.aR) w2.heap.size 0 0 0 P9.zS 0 false P9.zS 0 0 P9.zK P9.zK P9.zK 0 0 AR.zV):=P9.dw ((zo _ _).alloc (zg _) _) (zg _);have F3:=J (F2.out.below ie);have B3:=J (B2.out.trans (ie.mono B2.out.size));clear ie F2 B2 HZ;generalize P9.bH (w2.alloc P9.aR) w2.heap.size 0 0 0 P9.zS 0 false P9.zS 0 0 P9.zK P9.zK P9.zK 0 0 AR.zV=w3 at F3 B3|-;go_wp2_with fail
    refine(F3.out.xZ (by decide) (Pb.out.below B3.out (zg _))).mono ?_;rintro e w4 ⟨rfl,hB⟩;have B4:=J (B3.out.trans (hB.mono B3.out.size));clear hB F3 B3;go_wp2_with fail
    go_loopg [11] nL (λgq i W=>i= .int .i64 0/\W=w4)
    case atStart=>exact⟨rfl,rfl⟩
    case round=>
     obtain⟨rfl,rfl⟩:=hrel;go_wp2_with fail
     all_goals
      go_ret;exact⟨rfl,B4.out⟩
set_option maxRecDepth 100000 in
theorem ub(z1:Int)(A:Option Addr)(nL cc:Nat)(w:zw)(K:Nat->Int)(S:Nat->zy)(N:Nat->Int)(hn:nL<=maxLen)(hS:∀i,i < nL->(-9223372036854775808<=N i/\N i<=9223372036854775807)/\(S i).size<=maxLen)
 (hc:0 < nL->∃g o,A=some ⟨g,o,none⟩/\g < w.heap.size/\nL<=cc/\cc<=maxLen/\∀i,i < nL->w.cell? ⟨g,o+i*3,none⟩=some (.int .i64 (K i))/\w.cell? ⟨g,o+i*3+1,none⟩=some (.string (S i))/\w.cell? ⟨g,o+i*3+2,none⟩=some (.int .i64 (N i))) (hl:Laid w/\jw w) (e5:decide (1000 < z1)=true):
 Calls prog 3 #[.int .i64 4,.int .i64 z1,.slice A nL cc] w (AB true w):=by
 have AW:=J (rQ w hl);have HC:=J hc;have HS:=J hS;have HN:=J hn;clear hc hS hl hn;go_enter func3,ntmps3;go_wp2_with fail
 refine AW.out.mono ?_;rintro e w0 ⟨rfl,jX⟩;have b0:=J jX;clear jX;go_wp2_with fail
 refine(wA A nL cc w0 S HN.out (λi hi=>(HS.out i hi).2) (λh=>by
  obtain⟨g,o,h1,h2,h3,h4,h5⟩:=HC.out h;exact⟨g,o,h1,xd h2 b0.out.size,h3,h4,λi hi=>(b0.out.cell (p:=⟨g,o+i*3+1,none⟩) h2).trans (h5 i hi).2.1⟩)).mono ?_
 rintro e SP ⟨t,rfl,rfl,ht⟩;clear ht;cases t with
 |false=>
  go_wp2_with fail
  go_ret;exact⟨rfl,b0.out⟩
 |true=>
  go_wp2_with fail
  go_ret;exact⟨rfl,b0.out⟩
theorem ud(a0 a1:Int)(v2:Value)(w:zw)(w0:(Lit.int .i64 a0).wf=true)(w1:(Lit.int .i64 a1).wf=true)(wk:JD w v2)(hl:Laid w/\jw w):Calls prog 3 #[.int .i64 a0,.int .i64 a1,v2] w (AB true w):=by
 obtain⟨A,n,c,rfl,hn,K,S,N,hr,hc⟩:=wk;have fL:=wB w0;have fC:=wB w1
 by_cases h5:a0=4/\1000 < a1
 . obtain⟨rfl,h6⟩:=h5;exact ub a1 A n c w K S N hn hr hc hl (decide_eq_true h6)
 by_cases hk:0<=a0/\a0<=4
 . obtain⟨kd,rfl⟩:∃m:Nat,a0=(m:Int):=⟨a0.toNat,by omega⟩
   by_cases hm:0<=a1/\a1<=16777216
   . obtain⟨mo,rfl⟩:∃m:Nat,a1=(m:Int):=⟨a1.toNat,by omega⟩;exact ua kd mo A n c w K S N (by omega) (by omega) (by omega) hn hr hc hl
   . refine pr kd a1 1 A n c w K S N hn hr hc hl (ja rfl) (λw1=>AA w1 kd (by omega) a1 (by omega) fC) (λw1=>P9.FA w1 kd a1 1 (ja ⟨?_,?_,rfl⟩)) ?_
     . rw[decide_eq_false (by omega),decide_eq_false (by omega)];rfl
     . by_cases h:0<=a1
       . rw[decide_eq_false (p:=a1<=16777216) (by omega),Bool.and_false]
       . rw[decide_eq_false h];rfl
     . by_cases h:(kd:Int)=4
       . right;exact⟨beq_iff_eq.2 h,decide_eq_false (by omega)⟩
       . left;exact beq_eq_false_iff_ne.2 h
 . refine pr a0 a1 7 A n c w K S N hn hr hc hl (xz rfl) (λw1=>Az w1 a0 (by omega) a1) (λw1=>P9.FA w1 a0 a1 7 (xz ⟨?_,rfl⟩)) (xz (beq_eq_false_iff_ne.2 (by omega)))
   by_cases h:a0 < 0
   . rw[decide_eq_true h];rfl
   . rw[decide_eq_true (p:=4 < a0) (by omega),Bool.or_true]
namespace LPolicyPlays
set_option maxRecDepth 100000 in
theorem lifted(os:Os)(started:os.Started)(H:Type)(enc:TypeId × Value->H):
 ReturnsInHanded {} checked os 3 .any (λw args=>(Rows.policyPlaysSpec.pre enc prog Tryz.f3 [] false w args/\laidMetH prog nQ w)/\sizedMet enc prog Tryz.f3 (OpenSpec.ofChange Rows.policyPlaysSpec) false w args)
  (Rows.policyPlaysSpec.post enc prog Tryz.f3 false true false false):=by
 refine returnsInHanded_of_change_and (C:=checked) (X:=λw _=>laidMetH prog nQ w) (λ_ _ _ hh h=>h.of_heap hh) own started (by kernel_rfl) func3
  (ChangeSpec.witness_at (enc:=enc) (C:=checked) (os:=os) (X:=λw _=>laidMetH prog nQ w) false (xE os) #[.int .i64 0,.int .i64 0,.slice none 0 0] 8 rfl (by kernel_rfl) (by kernel_rfl) (by kernel_rfl) (by kernel_rfl) (by kernel_rfl) (xL os _)) ?_
 intro W base args ds gs before JG hW _ _ hL _;have Dz:∀(j:Nat) t v,Tryz.f3.params[j]?=some t->args[j]?=some v->Value.okWide prog W .any base t v:=JG
 have Wq:=hW;obtain⟨p,q,Tg,hV,rfl,XB,cG⟩:=hW;have hA:DataW.TrodAll enc prog W 0 (λ_=>true) true Tryz.f3.params.toList args.toList ds p:=Tg;rw[params3] at hA Dz;obtain⟨v0,XC,d0,XD,p0,q0,Wt,rfl,rfl,h0,r0⟩:=trodAll_cons hA;obtain⟨v1,XE,d1,XF,p1,q1,rfl,rfl,rfl,h1,r1⟩:=trodAll_cons r0;obtain⟨v2,XG,d2,XH,p2,q2,rfl,rfl,rfl,h2,r2⟩:=trodAll_cons r1;obtain⟨rfl,rfl,rfl⟩:=trodAll_nil r2;obtain rfl:args= #[v0,v1,v2]:=by cases args;simp_all
 obtain⟨rfl,rfl⟩:=trodVars_none hV;obtain⟨a0,rfl,rfl,rfl,w0⟩:=open_int underlying3 (Dz 0 3 v0 rfl rfl) h0;obtain⟨a1,rfl,rfl,rfl,w1⟩:=open_int underlying3 (Dz 1 3 v1 rfl rfl) h1;have k2:=h2;have Wr:∀x∈p2,x.block < W.heap.size:=by obtain⟨m,hm⟩:=k2;exact DataW.trod_lt m _ _ _ hm
 have w2:=Pa (Dz 2 22 v2 rfl rfl) h2;clear Tg JG;refine(ud a0 a1 v2 W w0 w1 w2 (Kq hL)).mono λe W' ⟨he,az⟩=>?_;subst he;exact⟨_,rfl,_,_,_,[],_,[],Wq,trodAll_mk1 (shut_bool underlying4 _),(trodAll_cons_mk (shut_int underlying3 w0) (trodAll_cons_mk (shut_int underlying3 w1) (trodAll_cons_mk (Below.trod laidOut (by kernel_rfl) (of_decide_eq_true (by kernel_rfl)) k2 az Wr) trodAll_mk0))),rfl,az.frame _,λh=>by cases h⟩
theorem band{x y:Bool}(h:x=true)(k:y=true):(x&&y)=true:=by rw[h,k];rfl
set_option maxRecDepth 100000
theorem cj0:(Rows.policyPlaysRow.wf (OpenSpec.ofChange Rows.policyPlaysSpec))=true:=by kernel_rfl
theorem cj1:(laidOutB Tryz.pinned.checked.prog)=true:=by kernel_rfl
theorem cj2:(mapsRowed Tryz.pinned.checked.prog)=true:=by kernel_rfl
theorem cj9:(Rows.policyPlaysRow.inPlace==Tryz.pinned.checked.prog.inPlace 3)=true:=by kernel_rfl
theorem cj10:(Rows.policyPlaysRow.unfollowed==Tryz.pinned.checked.prog.unfollowed 3)=true:=by kernel_rfl
theorem cj11:(Rows.policyPlaysRow.recurses==Tryz.pinned.checked.prog.recurses 3)=true:=by kernel_rfl
theorem cj12:(Rows.policyPlaysRow.named==Tryz.pinned.checked.prog.varsNamed 3)=true:=by kernel_rfl
theorem cj22:(Rows.policyPlaysRow.plainKeys==Tryz.pinned.checked.prog.plainKeys)=true:=by kernel_rfl
theorem cj24:(Tryz.pinned.checked.prog.stopsHeard)=true:=by kernel_rfl
theorem cj25:(Tryz.pinned.checked.prog.mayEnter)=true:=by kernel_rfl
theorem cj26:(Rows.policyPlaysRow.lifted==Tryz.pinned.checked.prog.liftsFinal)=true:=by kernel_rfl
theorem cj27:(Tryz.pinned.checked.prog.make==some Rows.policyPlaysRow.make)=true:=by kernel_rfl
theorem closed:joinedFacts Tryz.pinned.checked.prog 3 Tryz.f3 Rows.policyPlaysSpec Rows.policyPlaysRow=true:=by
 unfold joinedFacts;exact band (band (band (band (band (band (band (band (band (band (band (band (band (band (band (band (band (band (band (band (band (band (band (band (band (band (band (band (band (band (band (cj0) cj1) cj2) (by kernel_rfl)) (by kernel_rfl)) (by kernel_rfl)) (by kernel_rfl)) (by kernel_rfl)) (by kernel_rfl)) cj9) cj10) cj11) cj12) (by kernel_rfl)) (by kernel_rfl)) (by kernel_rfl)) (by kernel_rfl)) (by kernel_rfl)) (by kernel_rfl)) (by kernel_rfl)) (by kernel_rfl)) (by kernel_rfl)) cj22) (by kernel_rfl)) cj24) cj25) cj26) cj27) (by kernel_rfl)) (by kernel_rfl)) (by kernel_rfl)) (by kernel_rfl)
theorem fnm:Tryz.pinned.checked.prog.funcNamed "cachewise/cachewiselaw09.PolicyPlays" =some 3:=by kernel_rfl
theorem da:Tryz.f3.isInstance Tryz.pinned.checked.prog Rows.policyPlaysRow.origin Rows.policyPlaysRow.targs:=of_decide_eq_true (by kernel_rfl)
theorem isWr:Tryz.f3.isWrapper Tryz.pinned.checked.prog Rows.policyPlaysRow.wrapper Rows.policyPlaysRow.mainSum:=by unfold Func.isWrapper;rw[if_neg (of_decide_eq_false (by kernel_rfl))];exact⟨rfl,rfl⟩
theorem said:Rows.PolicyPlaysSaid:=
 OpenClaim.holds_of_wide 3 Tryz.f3 rfl rfl rfl rfl rfl rfl rfl ⟨rfl,rfl,rfl,rfl,rfl⟩ rfl rfl rfl rfl rfl fnm func3 closed da isWr
  (λos started H enc _=>lifted os started H enc)
theorem hwT:Rows.policyPlaysRow.wfByText (OpenSpec.ofChange Rows.policyPlaysSpec)=true:=by kernel_rfl
theorem mnI:Tryz.pinned.checked.prog.mainIs=some (Rows.policyPlaysCard.stood.harness.1,Rows.policyPlaysCard.stood.harness.2.toList):=by kernel_rfl
theorem lkT:Rows.policyPlaysCard.stood.looks=Tryz.pinned.checked.prog.looks []:=by kernel_rfl
theorem gsB:false=Rows.policyPlaysRow.goesBy Tryz.pinned.checked.prog:=by kernel_rfl
theorem sia:Tryz.prog.wantsStandIn 22=false:=by kernel_rfl
theorem sii:Tryz.prog.wantsStandIn 3=false:=by kernel_rfl
theorem card:Rows.PolicyPlaysCardSaid:=
 Claim7.holds_tied_plain_at .later [] _ _ _ _ said (λ_ h=>by cases h) hwT (λ_ h=>by cases h) policyPlays_row_tie rfl ⟨rfl,rfl⟩ mnI rfl
  (λf fn hf Ws=>by
    obtain rfl:f=3:=Option.some.inj (fnm.symm.trans hf) |>.symm;obtain rfl:fn=Tryz.f3:=(Option.some.inj (func3.symm.trans Ws)).symm;refine⟨lkT,λj t ht=>?_⟩;rw[params3] at ht;rcases j with _|_|_|j
    . obtain rfl:t=3:=by simpa using ht.symm
      exact sii
    . obtain rfl:t=3:=by simpa using ht.symm
      exact sii
    . obtain rfl:t=22:=by simpa using ht.symm
      exact sia
    . simp at ht)
  gsB
#print axioms card
