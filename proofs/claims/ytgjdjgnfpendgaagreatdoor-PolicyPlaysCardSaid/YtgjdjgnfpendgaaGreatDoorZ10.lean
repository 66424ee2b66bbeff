/- Part 10 of the proof. -/
import Derived.Test.YtgjdjgnfpendgaaGreatDoorZ02
import Derived.Test.YtgjdjgnfpendgaaGreatDoorZ03
import Derived.Test.YtgjdjgnfpendgaaGreatDoorZ05
import Derived.Test.YtgjdjgnfpendgaaGreatDoorZ06
import Derived.Test.YtgjdjgnfpendgaaGreatDoorZ07
import Derived.Test.YtgjdjgnfpendgaaGreatDoorZ09
import Derived.Deep.MidRow
import Derived.OrdersHeld
set_option maxHeartbeats 16000000
set_option maxRecDepth 20000
namespace Go.Proofs.YtgjdjgnfpendgaaGreatDoor
open Go.Proofs.Tryz
namespace P9
open Go.RowKit Sg
abbrev zS:AR.Sl:=⟨none,0,0⟩
abbrev zK:SR.Sl:=⟨none,0,0⟩
structure ZW(w:zw)(P:Nat->Prop)(r:AR.Sl)(B:List (LF.Ht.aa zy)):Prop where
 len:B.length=r.n
 row:∃g,(B≠ []->P g)/\LF.bO w g (.slice r.A r.n r.c) B
section
variable{w w':zw}{P P':Nat->Prop}{r:AR.Sl}{B:List (LF.Ht.aa zy)}
theorem ZW.same(h:ZW w P r B)(hs:w.heap.size<=w'.heap.size)(hb:∀g,P g->g < w.heap.size->w'.heap[g]?=w.heap[g]?)(hp:∀g,P g->g < w.heap.size->P' g):ZW w' P' r B:=by
 obtain⟨h1,g,h2,h3⟩:=h
 by_cases e:B= []
 . subst e;have hn:r.n=0:=h1.symm;refine⟨h1,g,λh=>absurd rfl h,?_⟩;rw[hn];exact LF.bO.nil _ _ _ _
 . have hl:=h3.lt e;exact⟨h1,g,λ_=>hp g (h2 e) hl,h3.same hs λ_=>hb g (h2 e) hl⟩
theorem ZW.below(h:ZW w P r B)(hb:Below w.heap.size w w'):ZW w' P r B:=h.same hb.size (λg _ hg=>hb.block g hg) λ_ h _=>h
theorem ZW.wide(h:ZW w P r B)(hp:∀g,P g->g < w.heap.size->P' g):ZW w P' r B:=h.same (zg _) (λ_ _ _=>rfl) hp
theorem ZW.set(h:ZW w P r B){q:Addr}(hq:¬P q.block)(u:Value):ZW (w.setCell q u) P r B:=h.same (by simp[World.setCell]) (λg hg _=>qc _ _ _ _ λe=>hq (e▸hg)) λ_ h _=>h
theorem ZW.nil(w:zw)(P:Nat->Prop)(A:Option Addr)(c:Nat):ZW w P ⟨A,0,c⟩ []:=⟨rfl,0,λh=>absurd rfl h,LF.bO.nil _ _ _ _⟩
theorem ZW.kp{A:Option Addr}{m c g:Nat}{B':List (LF.Ht.aa zy)}(h:LF.Kp w w' g (.slice A m c) B')(hm:B'.length=m)(hg:B'≠ []->P g\/w.heap.size<=g)(hP:∀k,w.heap.size<=k->P k):ZW w' P ⟨A,m,c⟩ B':=by
 obtain⟨g',h1,h2⟩:=h;refine⟨hm,g',λe=>?_,h1⟩;rcases h2 with rfl|h2
 . rcases hg e with h|h
   . exact h
   . exact hP _ h
 . exact hP _ h2
end
structure R9(w:zw)(P:Nat->Prop)(la lb:AR.Sl)(n a g:SR.Sl)(v:AR.S4)(xs:zY)(B:List (LF.Ht.aa zy))(N A G:List SR.KE)(X:AR.L4):Prop where
 ra:AR.SW w P la xs
 rb:ZW w P lb B
 rc:SR.Rw w P n a g N A G
 rd:AR.R4 w P v X
section
variable{w w':zw}{P P':Nat->Prop}{la lb:AR.Sl}{n a g:SR.Sl}{v:AR.S4}{xs:zY}{B:List (LF.Ht.aa zy)}{N A G:List SR.KE}{X:AR.L4}
theorem R9.below(h:R9 w P la lb n a g v xs B N A G X)(hb:Below w.heap.size w w'):R9 w' P la lb n a g v xs B N A G X:=⟨h.ra.below hb,h.rb.below hb,h.rc.below hb,h.rd.below hb⟩
theorem R9.wide(h:R9 w P la lb n a g v xs B N A G X)(hp:∀k,P k->k < w.heap.size->P' k):R9 w P' la lb n a g v xs B N A G X:=⟨h.ra.wide hp,h.rb.wide hp,h.rc.wide hp,h.rd.wide hp⟩
theorem R9.set(h:R9 w P la lb n a g v xs B N A G X){q:Addr}(hq:¬P q.block)(u:Value):R9 (w.setCell q u) P la lb n a g v xs B N A G X:=⟨h.ra.set hq u,h.rb.set hq u,h.rc.set hq u,h.rd.set hq u⟩
end
def RB(w:zw)(p:Nat)(k:Nat)(mo:Nat)(ma:Nat)(la:AR.Sl)(mb:Nat)(ch:Bool)(lb:AR.Sl)(mc:Nat)(tc:Nat)(n:SR.Sl)(a:SR.Sl)(g:SR.Sl)(md:Nat)(pd:Nat)(v:AR.S4):Prop:=w.heap[p]?=some (.cells #[.int .i64 (k:Int),.int .i64 (mo:Int),.int .i64 (ma:Int),.slice la.A la.n la.c,.int .i64 (mb:Int),.bool ch,.slice lb.A lb.n lb.c,.int .i64 (mc:Int),.int .i64 (tc:Int),.slice n.A n.n n.c,.slice a.A a.n a.c,.slice g.A g.n g.c,.int .i64 (md:Int),.int .i64 (pd:Int),.slice (v 0).A (v 0).n (v 0).c,.slice (v 1).A (v 1).n (v 1).c,.slice (v 2).A (v 2).n (v 2).c,.slice (v 3).A (v 3).n (v 3).c] 42 (0,0))
abbrev bn(k:Nat)(mo:Nat)(ma:Nat)(la:AR.Sl)(mb:Nat)(ch:Bool)(lb:AR.Sl)(mc:Nat)(tc:Nat)(n:SR.Sl)(a:SR.Sl)(g:SR.Sl)(md:Nat)(pd:Nat)(v:AR.S4):Obj:= .cells #[.int .i64 (k:Int),.int .i64 (mo:Int),.int .i64 (ma:Int),.slice la.A la.n la.c,.int .i64 (mb:Int),.bool ch,.slice lb.A lb.n lb.c,.int .i64 (mc:Int),.int .i64 (tc:Int),.slice n.A n.n n.c,.slice a.A a.n a.c,.slice g.A g.n g.c,.int .i64 (md:Int),.int .i64 (pd:Int),.slice (v 0).A (v 0).n (v 0).c,.slice (v 1).A (v 1).n (v 1).c,.slice (v 2).A (v 2).n (v 2).c,.slice (v 3).A (v 3).n (v 3).c] 42
abbrev ba(k:Nat)(mo:Nat)(ma:Nat)(la:AR.Sl)(mb:Nat)(ch:Bool)(lb:AR.Sl)(mc:Nat)(tc:Nat)(n:SR.Sl)(a:SR.Sl)(g:SR.Sl)(md:Nat)(pd:Nat)(v:AR.S4):Value:= .agg #[.int .i64 (k:Int),.int .i64 (mo:Int),.int .i64 (ma:Int),.slice la.A la.n la.c,.int .i64 (mb:Int),.bool ch,.slice lb.A lb.n lb.c,.int .i64 (mc:Int),.int .i64 (tc:Int),.slice n.A n.n n.c,.slice a.A a.n a.c,.slice g.A g.n g.c,.int .i64 (md:Int),.int .i64 (pd:Int),.slice (v 0).A (v 0).n (v 0).c,.slice (v 1).A (v 1).n (v 1).c,.slice (v 2).A (v 2).n (v 2).c,.slice (v 3).A (v 3).n (v 3).c]
abbrev aR:Obj:=bn 0 0 0 zS 0 false zS 0 0 zK zK zK 0 0 AR.zV
section
variable{w w':zw}{p q:Nat}{k mo ma mb mc tc md pd:Nat}{la lb:AR.Sl}{ch:Bool}{n a g:SR.Sl}{v:AR.S4}
theorem RB.lt(h:RB w p k mo ma la mb ch lb mc tc n a g md pd v):p < w.heap.size:=(Array.getElem?_eq_some_iff.1 h).1
theorem RB.c(h:RB w p k mo ma la mb ch lb mc tc n a g md pd v):w.cell? ⟨p,0,none⟩=some (.int .i64 (k:Int))/\w.cell? ⟨p,1,none⟩=some (.int .i64 (mo:Int))/\w.cell? ⟨p,2,none⟩=some (.int .i64 (ma:Int))/\w.cell? ⟨p,3,none⟩=some (.slice la.A la.n la.c)/\w.cell? ⟨p,4,none⟩=some (.int .i64 (mb:Int))/\w.cell? ⟨p,5,none⟩=some (.bool ch)/\w.cell? ⟨p,6,none⟩=some (.slice lb.A lb.n lb.c)/\w.cell? ⟨p,7,none⟩=some (.int .i64 (mc:Int))/\w.cell? ⟨p,8,none⟩=some (.int .i64 (tc:Int))/\w.cell? ⟨p,9,none⟩=some (.slice n.A n.n n.c)/\w.cell? ⟨p,10,none⟩=some (.slice a.A a.n a.c)/\w.cell? ⟨p,11,none⟩=some (.slice g.A g.n g.c)/\w.cell? ⟨p,12,none⟩=some (.int .i64 (md:Int))/\w.cell? ⟨p,13,none⟩=some (.int .i64 (pd:Int))/\w.cell? ⟨p,14,none⟩=some (.slice (v 0).A (v 0).n (v 0).c)/\w.cell? ⟨p,15,none⟩=some (.slice (v 1).A (v 1).n (v 1).c)/\w.cell? ⟨p,16,none⟩=some (.slice (v 2).A (v 2).n (v 2).c)/\w.cell? ⟨p,17,none⟩=some (.slice (v 3).A (v 3).n (v 3).c):=
 ⟨cell_of_row w _ 0 _ _ _ h,cell_of_row w _ 1 _ _ _ h,cell_of_row w _ 2 _ _ _ h,cell_of_row w _ 3 _ _ _ h,cell_of_row w _ 4 _ _ _ h,cell_of_row w _ 5 _ _ _ h,cell_of_row w _ 6 _ _ _ h,cell_of_row w _ 7 _ _ _ h,cell_of_row w _ 8 _ _ _ h,cell_of_row w _ 9 _ _ _ h,cell_of_row w _ 10 _ _ _ h,cell_of_row w _ 11 _ _ _ h,cell_of_row w _ 12 _ _ _ h,cell_of_row w _ 13 _ _ _ h,cell_of_row w _ 14 _ _ _ h,cell_of_row w _ 15 _ _ _ h,cell_of_row w _ 16 _ _ _ h,cell_of_row w _ 17 _ _ _ h⟩
theorem RB.f(h:RB w p k mo ma la mb ch lb mc tc n a g md pd v):w.frozen? ⟨p,0,none⟩=false/\w.frozen? ⟨p,1,none⟩=false/\w.frozen? ⟨p,2,none⟩=false/\w.frozen? ⟨p,3,none⟩=false/\w.frozen? ⟨p,4,none⟩=false/\w.frozen? ⟨p,5,none⟩=false/\w.frozen? ⟨p,6,none⟩=false/\w.frozen? ⟨p,7,none⟩=false/\w.frozen? ⟨p,8,none⟩=false/\w.frozen? ⟨p,9,none⟩=false/\w.frozen? ⟨p,10,none⟩=false/\w.frozen? ⟨p,11,none⟩=false/\w.frozen? ⟨p,12,none⟩=false/\w.frozen? ⟨p,13,none⟩=false/\w.frozen? ⟨p,14,none⟩=false/\w.frozen? ⟨p,15,none⟩=false/\w.frozen? ⟨p,16,none⟩=false/\w.frozen? ⟨p,17,none⟩=false:=
 ⟨frozen_of_row w _ 0 _ _ h,frozen_of_row w _ 1 _ _ h,frozen_of_row w _ 2 _ _ h,frozen_of_row w _ 3 _ _ h,frozen_of_row w _ 4 _ _ h,frozen_of_row w _ 5 _ _ h,frozen_of_row w _ 6 _ _ h,frozen_of_row w _ 7 _ _ h,frozen_of_row w _ 8 _ _ h,frozen_of_row w _ 9 _ _ h,frozen_of_row w _ 10 _ _ h,frozen_of_row w _ 11 _ _ h,frozen_of_row w _ 12 _ _ h,frozen_of_row w _ 13 _ _ h,frozen_of_row w _ 14 _ _ h,frozen_of_row w _ 15 _ _ h,frozen_of_row w _ 16 _ _ h,frozen_of_row w _ 17 _ _ h⟩
theorem RB.below(h:RB w p k mo ma la mb ch lb mc tc n a g md pd v)(hb:Below w.heap.size w w'):RB w' p k mo ma la mb ch lb mc tc n a g md pd v:=(hb.block p h.lt).trans h
theorem RB.other(h:RB w p k mo ma la mb ch lb mc tc n a g md pd v){x:Addr}(hx:p≠x.block)(u:Value):RB (w.setCell x u) p k mo ma la mb ch lb mc tc n a g md pd v:=(qc _ _ _ _ hx).trans h
theorem RB.s0(h:RB w p k mo ma la mb ch lb mc tc n a g md pd v)(x:Nat):RB (w.setCell ⟨p,0,none⟩ (.int .i64 (x:Int))) p x mo ma la mb ch lb mc tc n a g md pd v:=by unfold RB at *;rw[heap_setCell_same _ _ _ _ _ _ h];rfl
theorem RB.s1(h:RB w p k mo ma la mb ch lb mc tc n a g md pd v)(x:Nat):RB (w.setCell ⟨p,1,none⟩ (.int .i64 (x:Int))) p k x ma la mb ch lb mc tc n a g md pd v:=by unfold RB at *;rw[heap_setCell_same _ _ _ _ _ _ h];rfl
theorem RB.s2(h:RB w p k mo ma la mb ch lb mc tc n a g md pd v)(x:Nat):RB (w.setCell ⟨p,2,none⟩ (.int .i64 (x:Int))) p k mo x la mb ch lb mc tc n a g md pd v:=by unfold RB at *;rw[heap_setCell_same _ _ _ _ _ _ h];rfl
theorem RB.s3(h:RB w p k mo ma la mb ch lb mc tc n a g md pd v)(x:AR.Sl):RB (w.setCell ⟨p,3,none⟩ (.slice x.A x.n x.c)) p k mo ma x mb ch lb mc tc n a g md pd v:=by unfold RB at *;rw[heap_setCell_same _ _ _ _ _ _ h];rfl
theorem RB.s4(h:RB w p k mo ma la mb ch lb mc tc n a g md pd v)(x:Nat):RB (w.setCell ⟨p,4,none⟩ (.int .i64 (x:Int))) p k mo ma la x ch lb mc tc n a g md pd v:=by unfold RB at *;rw[heap_setCell_same _ _ _ _ _ _ h];rfl
theorem RB.s5(h:RB w p k mo ma la mb ch lb mc tc n a g md pd v)(x:Bool):RB (w.setCell ⟨p,5,none⟩ (.bool x)) p k mo ma la mb x lb mc tc n a g md pd v:=by unfold RB at *;rw[heap_setCell_same _ _ _ _ _ _ h];rfl
theorem RB.s6(h:RB w p k mo ma la mb ch lb mc tc n a g md pd v)(x:AR.Sl):RB (w.setCell ⟨p,6,none⟩ (.slice x.A x.n x.c)) p k mo ma la mb ch x mc tc n a g md pd v:=by unfold RB at *;rw[heap_setCell_same _ _ _ _ _ _ h];rfl
theorem RB.s7(h:RB w p k mo ma la mb ch lb mc tc n a g md pd v)(x:Nat):RB (w.setCell ⟨p,7,none⟩ (.int .i64 (x:Int))) p k mo ma la mb ch lb x tc n a g md pd v:=by unfold RB at *;rw[heap_setCell_same _ _ _ _ _ _ h];rfl
theorem RB.s8(h:RB w p k mo ma la mb ch lb mc tc n a g md pd v)(x:Nat):RB (w.setCell ⟨p,8,none⟩ (.int .i64 (x:Int))) p k mo ma la mb ch lb mc x n a g md pd v:=by unfold RB at *;rw[heap_setCell_same _ _ _ _ _ _ h];rfl
theorem RB.s9(h:RB w p k mo ma la mb ch lb mc tc n a g md pd v)(x:SR.Sl):RB (w.setCell ⟨p,9,none⟩ (.slice x.A x.n x.c)) p k mo ma la mb ch lb mc tc x a g md pd v:=by unfold RB at *;rw[heap_setCell_same _ _ _ _ _ _ h];rfl
theorem RB.SF(h:RB w p k mo ma la mb ch lb mc tc n a g md pd v)(x:SR.Sl):RB (w.setCell ⟨p,10,none⟩ (.slice x.A x.n x.c)) p k mo ma la mb ch lb mc tc n x g md pd v:=by unfold RB at *;rw[heap_setCell_same _ _ _ _ _ _ h];rfl
theorem RB.SG(h:RB w p k mo ma la mb ch lb mc tc n a g md pd v)(x:SR.Sl):RB (w.setCell ⟨p,11,none⟩ (.slice x.A x.n x.c)) p k mo ma la mb ch lb mc tc n a x md pd v:=by unfold RB at *;rw[heap_setCell_same _ _ _ _ _ _ h];rfl
theorem RB.SH(h:RB w p k mo ma la mb ch lb mc tc n a g md pd v)(x:Nat):RB (w.setCell ⟨p,12,none⟩ (.int .i64 (x:Int))) p k mo ma la mb ch lb mc tc n a g x pd v:=by unfold RB at *;rw[heap_setCell_same _ _ _ _ _ _ h];rfl
theorem RB.SI(h:RB w p k mo ma la mb ch lb mc tc n a g md pd v)(x:Nat):RB (w.setCell ⟨p,13,none⟩ (.int .i64 (x:Int))) p k mo ma la mb ch lb mc tc n a g md x v:=by unfold RB at *;rw[heap_setCell_same _ _ _ _ _ _ h];rfl
theorem RB.SJ(h:RB w p k mo ma la mb ch lb mc tc n a g md pd v)(x:AR.Sl):RB (w.setCell ⟨p,14,none⟩ (.slice x.A x.n x.c)) p k mo ma la mb ch lb mc tc n a g md pd (af v 0 x):=by unfold RB at *;rw[heap_setCell_same _ _ _ _ _ _ h];rfl
theorem RB.SK(h:RB w p k mo ma la mb ch lb mc tc n a g md pd v)(x:AR.Sl):RB (w.setCell ⟨p,15,none⟩ (.slice x.A x.n x.c)) p k mo ma la mb ch lb mc tc n a g md pd (af v 1 x):=by unfold RB at *;rw[heap_setCell_same _ _ _ _ _ _ h];rfl
theorem RB.SL(h:RB w p k mo ma la mb ch lb mc tc n a g md pd v)(x:AR.Sl):RB (w.setCell ⟨p,16,none⟩ (.slice x.A x.n x.c)) p k mo ma la mb ch lb mc tc n a g md pd (af v 2 x):=by unfold RB at *;rw[heap_setCell_same _ _ _ _ _ _ h];rfl
theorem RB.SM(h:RB w p k mo ma la mb ch lb mc tc n a g md pd v)(x:AR.Sl):RB (w.setCell ⟨p,17,none⟩ (.slice x.A x.n x.c)) p k mo ma la mb ch lb mc tc n a g md pd (af v 3 x):=by unfold RB at *;rw[heap_setCell_same _ _ _ _ _ _ h];rfl
end
abbrev bH(w:zw)(q:Nat)(k:Nat)(mo:Nat)(ma:Nat)(la:AR.Sl)(mb:Nat)(ch:Bool)(lb:AR.Sl)(mc:Nat)(tc:Nat)(n:SR.Sl)(a:SR.Sl)(g:SR.Sl)(md:Nat)(pd:Nat)(v:AR.S4):zw:=(((((((((((((((((w.setCell ⟨q,0,none⟩ (.int .i64 (k:Int))).setCell ⟨q,1,none⟩ (.int .i64 (mo:Int))).setCell ⟨q,2,none⟩ (.int .i64 (ma:Int))).setCell ⟨q,3,none⟩ (.slice la.A la.n la.c)).setCell ⟨q,4,none⟩ (.int .i64 (mb:Int))).setCell ⟨q,5,none⟩ (.bool ch)).setCell ⟨q,6,none⟩ (.slice lb.A lb.n lb.c)).setCell ⟨q,7,none⟩ (.int .i64 (mc:Int))).setCell ⟨q,8,none⟩ (.int .i64 (tc:Int))).setCell ⟨q,9,none⟩ (.slice n.A n.n n.c)).setCell ⟨q,10,none⟩ (.slice a.A a.n a.c)).setCell ⟨q,11,none⟩ (.slice g.A g.n g.c)).setCell ⟨q,12,none⟩ (.int .i64 (md:Int))).setCell ⟨q,13,none⟩ (.int .i64 (pd:Int))).setCell ⟨q,14,none⟩ (.slice (v 0).A (v 0).n (v 0).c)).setCell ⟨q,15,none⟩ (.slice (v 1).A (v 1).n (v 1).c)).setCell ⟨q,16,none⟩ (.slice (v 2).A (v 2).n (v 2).c)).setCell ⟨q,17,none⟩ (.slice (v 3).A (v 3).n (v 3).c)
section
variable{w w':zw}{p q:Nat}{k mo ma mb mc tc md pd:Nat}{la lb:AR.Sl}{ch:Bool}{n a g:SR.Sl}{v:AR.S4}{k' mo' dv bK db dc dd de:Nat}{il im:AR.Sl}{iq:Bool}{n' a' g':SR.Sl}{v':AR.S4}
theorem RB.put(h:RB w q k mo ma la mb ch lb mc tc n a g md pd v):RB (bH w q k' mo' dv il bK iq im db dc n' a' g' dd de v') q k' mo' dv il bK iq im db dc n' a' g' dd de v':=by
 have:=((((((((((((((((((h.s0 k').s1 mo').s2 dv).s3 il).s4 bK).s5 iq).s6 im).s7 db).s8 dc).s9 n').SF a').SG g').SH dd).SI de).SJ (v' 0)).SK (v' 1)).SL (v' 2)).SM (v' 3));unfold RB at this|-;exact this
theorem cy(h:RB w q k mo ma la mb ch lb mc tc n a g md pd v):(loadVar 42 ⟨q,0,none⟩).run prog w= .ok (ba k mo ma la mb ch lb mc tc n a g md pd v) w:=by
 obtain⟨c0,c1,c2,c3,c4,c5,c6,c7,c8,c9,b8,b9,cd,cj,ck,cq,cr,ct⟩:=h.c;unfold loadVar;go_simp
theorem dw{W:zw}{b:Nat}(h:Below b w W)(hq:b<=q):Below b w (bH W q k mo ma la mb ch lb mc tc n a g md pd v):=
 ((((((((((((((((((h.setCell (p:=⟨q,0,none⟩) hq _).setCell (p:=⟨q,1,none⟩) hq _).setCell (p:=⟨q,2,none⟩) hq _).setCell (p:=⟨q,3,none⟩) hq _).setCell (p:=⟨q,4,none⟩) hq _).setCell (p:=⟨q,5,none⟩) hq _).setCell (p:=⟨q,6,none⟩) hq _).setCell (p:=⟨q,7,none⟩) hq _).setCell (p:=⟨q,8,none⟩) hq _).setCell (p:=⟨q,9,none⟩) hq _).setCell (p:=⟨q,10,none⟩) hq _).setCell (p:=⟨q,11,none⟩) hq _).setCell (p:=⟨q,12,none⟩) hq _).setCell (p:=⟨q,13,none⟩) hq _).setCell (p:=⟨q,14,none⟩) hq _).setCell (p:=⟨q,15,none⟩) hq _).setCell (p:=⟨q,16,none⟩) hq _).setCell (p:=⟨q,17,none⟩) hq _)
theorem RB.OG(h:RB w p k mo ma la mb ch lb mc tc n a g md pd v)(al:p≠q):RB (bH w q k' mo' dv il bK iq im db dc n' a' g' dd de v') p k mo ma la mb ch lb mc tc n a g md pd v:=
 ((((((((((((((((((h.other (x:=⟨q,0,none⟩) al _).other (x:=⟨q,1,none⟩) al _).other (x:=⟨q,2,none⟩) al _).other (x:=⟨q,3,none⟩) al _).other (x:=⟨q,4,none⟩) al _).other (x:=⟨q,5,none⟩) al _).other (x:=⟨q,6,none⟩) al _).other (x:=⟨q,7,none⟩) al _).other (x:=⟨q,8,none⟩) al _).other (x:=⟨q,9,none⟩) al _).other (x:=⟨q,10,none⟩) al _).other (x:=⟨q,11,none⟩) al _).other (x:=⟨q,12,none⟩) al _).other (x:=⟨q,13,none⟩) al _).other (x:=⟨q,14,none⟩) al _).other (x:=⟨q,15,none⟩) al _).other (x:=⟨q,16,none⟩) al _).other (x:=⟨q,17,none⟩) al _)
end
section
variable{w W W':zw}{P P0:Nat->Prop}{p q:Nat}{k mo ma mb mc tc md pd:Nat}{la lb:AR.Sl}{ch:Bool}{n a g:SR.Sl}{v:AR.S4}{k' mo' dv bK db dc dd de:Nat}{il im:AR.Sl}{iq:Bool}{n' a' g':SR.Sl}{v':AR.S4}{xs:zY}{B:List (LF.Ht.aa zy)}{N A G:List SR.KE}{X:AR.L4}{rR:zY}{B':List (LF.Ht.aa zy)}{N' A' G':List SR.KE}{X':AR.L4}
theorem R9.bH(h:R9 W P la lb n a g v xs B N A G X)(hq:¬P q):R9 (bH W q k' mo' dv il bK iq im db dc n' a' g' dd de v') P la lb n a g v xs B N A G X:=
 ((((((((((((((((((h.set (q:=⟨q,0,none⟩) hq _).set (q:=⟨q,1,none⟩) hq _).set (q:=⟨q,2,none⟩) hq _).set (q:=⟨q,3,none⟩) hq _).set (q:=⟨q,4,none⟩) hq _).set (q:=⟨q,5,none⟩) hq _).set (q:=⟨q,6,none⟩) hq _).set (q:=⟨q,7,none⟩) hq _).set (q:=⟨q,8,none⟩) hq _).set (q:=⟨q,9,none⟩) hq _).set (q:=⟨q,10,none⟩) hq _).set (q:=⟨q,11,none⟩) hq _).set (q:=⟨q,12,none⟩) hq _).set (q:=⟨q,13,none⟩) hq _).set (q:=⟨q,14,none⟩) hq _).set (q:=⟨q,15,none⟩) hq _).set (q:=⟨q,16,none⟩) hq _).set (q:=⟨q,17,none⟩) hq _)
structure B1(w W:zw)(P:Nat->Prop)(p:Nat)(k:Nat)(mo:Nat)(ma:Nat)(la:AR.Sl)(mb:Nat)(ch:Bool)(lb:AR.Sl)(mc:Nat)(tc:Nat)(n:SR.Sl)(a:SR.Sl)(g:SR.Sl)(md:Nat)(pd:Nat)(v:AR.S4)(xs:zY)(B:List (LF.Ht.aa zy))(N A G:List SR.KE)(X:AR.L4):Prop where
 box:RB W p k mo ma la mb ch lb mc tc n a g md pd v
 rows:R9 W P la lb n a g v xs B N A G X
 az:Below w.heap.size w W
 low:w.heap.size<=p
 np:¬P p
 cl:AR.Cl W P
structure B2(w W:zw)(P:Nat->Prop)(p q:Nat)(k:Nat)(mo:Nat)(ma:Nat)(la:AR.Sl)(mb:Nat)(ch:Bool)(lb:AR.Sl)(mc:Nat)(tc:Nat)(n:SR.Sl)(a:SR.Sl)(g:SR.Sl)(md:Nat)(pd:Nat)(v:AR.S4)(xs:zY)(B:List (LF.Ht.aa zy))(N A G:List SR.KE)(X:AR.L4):Prop where
 b:B1 w W P p k mo ma la mb ch lb mc tc n a g md pd v xs B N A G X
 res:RB W q 0 0 0 zS 0 false zS 0 0 zK zK zK 0 0 AR.zV
 low:w.heap.size<=q
 ne:p≠q
 np:¬P q
theorem cB(h:R9 w P la lb n a g v xs B N A G X)(hP:AR.Cl w P)(k mo ma:Nat)(mb:Nat)(ch:Bool)(mc tc md pd:Nat):B1 w (w.alloc (bn k mo ma la mb ch lb mc tc n a g md pd v)) (AR.w1 P w.heap.size) w.heap.size k mo ma la mb ch lb mc tc n a g md pd v xs B N A G X:=by
 have b1:=(zo w.heap.size w).alloc (zg _) (bn k mo ma la mb ch lb mc tc n a g md pd v);refine⟨heap_alloc_new _ _,(h.wide λk hk hl=>⟨hk,by omega⟩).below b1,b1,zg _,λh=>h.2 rfl,λk hk=>?_⟩;have:w.heap.size+1<=k:=by simpa using hk
 exact⟨hP k (by omega),by omega⟩
theorem bF(h:R9 w P la lb n a g v xs B N A G X)(hP:AR.Cl w P)(k mo ma:Nat)(mb:Nat)(ch:Bool)(mc tc md pd:Nat):B2 w ((w.alloc (bn k mo ma la mb ch lb mc tc n a g md pd v)).alloc aR) (AR.w2 P w.heap.size (w.heap.size+1)) w.heap.size (w.heap.size+1) k mo ma la mb ch lb mc tc n a g md pd v xs B N A G X:=by
 have s1:(w.alloc (bn k mo ma la mb ch lb mc tc n a g md pd v)).heap.size=w.heap.size+1:=by simp
 have b1:=(zo w.heap.size w).alloc (zg _) (bn k mo ma la mb ch lb mc tc n a g md pd v);have b2:=b1.alloc (by rw[s1];omega) aR;have q2:=heap_alloc_new (w.alloc (bn k mo ma la mb ch lb mc tc n a g md pd v)) aR;rw[s1] at q2;refine⟨⟨(qf _ _ _ (by rw[s1];omega)).trans (heap_alloc_new _ _),(h.wide λk hk hl=>⟨hk,by omega,by omega⟩).below b2,b2,zg _,λh=>h.2.1 rfl,λk hk=>?_⟩,q2,by omega,by omega,λh=>h.2.2 rfl⟩;have:w.heap.size+1+1<=k:=by simpa using hk
 exact⟨hP k (by omega),by omega,by omega⟩
theorem B1.below(r:B1 w W P p k mo ma la mb ch lb mc tc n a g md pd v xs B N A G X)(hb:Below W.heap.size W W'):B1 w W' P p k mo ma la mb ch lb mc tc n a g md pd v xs B N A G X:=⟨r.box.below hb,r.rows.below hb,r.az.trans (hb.mono r.az.size),r.low,r.np,r.cl.below hb⟩
theorem B2.below(r:B2 w W P p q k mo ma la mb ch lb mc tc n a g md pd v xs B N A G X)(hb:Below W.heap.size W W'):B2 w W' P p q k mo ma la mb ch lb mc tc n a g md pd v xs B N A G X:=⟨r.b.below hb,r.res.below hb,r.low,r.ne,r.np⟩
theorem B1.nG{x:Addr}(r:B1 w W P p k mo ma la mb ch lb mc tc n a g md pd v xs B N A G X)(u:Value):AR.Cl (W.setCell x u) P:=λk hk=>r.cl k (by rw[AR.eQ] at hk;exact hk)
theorem B1.fE{r:AR.Sl}{L:zY}(h:B1 w W P p k mo ma la mb ch lb mc tc n a g md pd v xs B N A G X)(hr:AR.SW W P r L):B1 w (W.setCell ⟨p,3,none⟩ (.slice r.A r.n r.c)) P p k mo ma r mb ch lb mc tc n a g md pd v L B N A G X:=by
 refine⟨?_,((⟨hr,h.rows.rb,h.rows.rc,h.rows.rd⟩:R9 W P r lb n a g v L B N A G X).set (q:=⟨p,3,none⟩) h.np _),(h.az.setCell (p:=⟨p,3,none⟩) h.low _),h.low,h.np,λk hk=>h.cl k (by simpa[AR.eQ] using hk)⟩;have:=(h.box.s3 r);unfold RB at this|-;exact this
theorem B2.fE{r:AR.Sl}{L:zY}(h:B2 w W P p q k mo ma la mb ch lb mc tc n a g md pd v xs B N A G X)(hr:AR.SW W P r L):B2 w (W.setCell ⟨p,3,none⟩ (.slice r.A r.n r.c)) P p q k mo ma r mb ch lb mc tc n a g md pd v L B N A G X:=⟨h.b.fE hr,(h.res.other (x:=⟨p,3,none⟩) (qa h.ne) _),h.low,h.ne,h.np⟩
theorem B1.jk{u:Nat}{r:AR.Sl}{L:zY}(h:B1 w W P p k mo ma la mb ch lb mc tc n a g md pd v xs B N A G X)(hr:AR.SW W P r L):B1 w ((W.setCell ⟨p,2,none⟩ (.int .i64 (u:Int))).setCell ⟨p,3,none⟩ (.slice r.A r.n r.c)) P p k mo u r mb ch lb mc tc n a g md pd v L B N A G X:=by
 refine⟨?_,(((⟨hr,h.rows.rb,h.rows.rc,h.rows.rd⟩:R9 W P r lb n a g v L B N A G X).set (q:=⟨p,2,none⟩) h.np _).set (q:=⟨p,3,none⟩) h.np _),((h.az.setCell (p:=⟨p,2,none⟩) h.low _).setCell (p:=⟨p,3,none⟩) h.low _),h.low,h.np,λk hk=>h.cl k (by simpa[AR.eQ] using hk)⟩;have:=((h.box.s2 u).s3 r);unfold RB at this|-;exact this
theorem B2.jk{u:Nat}{r:AR.Sl}{L:zY}(h:B2 w W P p q k mo ma la mb ch lb mc tc n a g md pd v xs B N A G X)(hr:AR.SW W P r L):B2 w ((W.setCell ⟨p,2,none⟩ (.int .i64 (u:Int))).setCell ⟨p,3,none⟩ (.slice r.A r.n r.c)) P p q k mo u r mb ch lb mc tc n a g md pd v L B N A G X:=⟨h.b.jk hr,((h.res.other (x:=⟨p,2,none⟩) (qa h.ne) _).other (x:=⟨p,3,none⟩) (qa h.ne) _),h.low,h.ne,h.np⟩
theorem B1.nU{u:Nat}{b:Bool}{r:AR.Sl}{L:List (LF.Ht.aa zy)}(h:B1 w W P p k mo ma la mb ch lb mc tc n a g md pd v xs B N A G X)(hr:ZW W P r L):B1 w (((W.setCell ⟨p,4,none⟩ (.int .i64 (u:Int))).setCell ⟨p,5,none⟩ (.bool b)).setCell ⟨p,6,none⟩ (.slice r.A r.n r.c)) P p k mo ma la u b r mc tc n a g md pd v xs L N A G X:=by
 refine⟨?_,((((⟨h.rows.ra,hr,h.rows.rc,h.rows.rd⟩:R9 W P la r n a g v xs L N A G X).set (q:=⟨p,4,none⟩) h.np _).set (q:=⟨p,5,none⟩) h.np _).set (q:=⟨p,6,none⟩) h.np _),(((h.az.setCell (p:=⟨p,4,none⟩) h.low _).setCell (p:=⟨p,5,none⟩) h.low _).setCell (p:=⟨p,6,none⟩) h.low _),h.low,h.np,λk hk=>h.cl k (by simpa[AR.eQ] using hk)⟩;have:=(((h.box.s4 u).s5 b).s6 r);unfold RB at this|-;exact this
theorem B2.nU{u:Nat}{b:Bool}{r:AR.Sl}{L:List (LF.Ht.aa zy)}(h:B2 w W P p q k mo ma la mb ch lb mc tc n a g md pd v xs B N A G X)(hr:ZW W P r L):B2 w (((W.setCell ⟨p,4,none⟩ (.int .i64 (u:Int))).setCell ⟨p,5,none⟩ (.bool b)).setCell ⟨p,6,none⟩ (.slice r.A r.n r.c)) P p q k mo ma la u b r mc tc n a g md pd v xs L N A G X:=⟨h.b.nU hr,(((h.res.other (x:=⟨p,4,none⟩) (qa h.ne) _).other (x:=⟨p,5,none⟩) (qa h.ne) _).other (x:=⟨p,6,none⟩) (qa h.ne) _),h.low,h.ne,h.np⟩
theorem B1.lK{u t:Nat}(h:B1 w W P p k mo ma la mb ch lb mc tc n a g md pd v xs B N A G X)(hr:SR.Rw W P n' a' g' N' A' G'):B1 w (((((W.setCell ⟨p,7,none⟩ (.int .i64 (u:Int))).setCell ⟨p,8,none⟩ (.int .i64 (t:Int))).setCell ⟨p,9,none⟩ (.slice n'.A n'.n n'.c)).setCell ⟨p,10,none⟩ (.slice a'.A a'.n a'.c)).setCell ⟨p,11,none⟩ (.slice g'.A g'.n g'.c)) P p k mo ma la mb ch lb u t n' a' g' md pd v xs B N' A' G' X:=by
 refine⟨?_,((((((⟨h.rows.ra,h.rows.rb,hr,h.rows.rd⟩:R9 W P la lb n' a' g' v xs B N' A' G' X).set (q:=⟨p,7,none⟩) h.np _).set (q:=⟨p,8,none⟩) h.np _).set (q:=⟨p,9,none⟩) h.np _).set (q:=⟨p,10,none⟩) h.np _).set (q:=⟨p,11,none⟩) h.np _),(((((h.az.setCell (p:=⟨p,7,none⟩) h.low _).setCell (p:=⟨p,8,none⟩) h.low _).setCell (p:=⟨p,9,none⟩) h.low _).setCell (p:=⟨p,10,none⟩) h.low _).setCell (p:=⟨p,11,none⟩) h.low _),h.low,h.np,λk hk=>h.cl k (by simpa[AR.eQ] using hk)⟩;have:=(((((h.box.s7 u).s8 t).s9 n').SF a').SG g');unfold RB at this|-;exact this
theorem B2.lK{u t:Nat}(h:B2 w W P p q k mo ma la mb ch lb mc tc n a g md pd v xs B N A G X)(hr:SR.Rw W P n' a' g' N' A' G'):B2 w (((((W.setCell ⟨p,7,none⟩ (.int .i64 (u:Int))).setCell ⟨p,8,none⟩ (.int .i64 (t:Int))).setCell ⟨p,9,none⟩ (.slice n'.A n'.n n'.c)).setCell ⟨p,10,none⟩ (.slice a'.A a'.n a'.c)).setCell ⟨p,11,none⟩ (.slice g'.A g'.n g'.c)) P p q k mo ma la mb ch lb u t n' a' g' md pd v xs B N' A' G' X:=⟨h.b.lK hr,(((((h.res.other (x:=⟨p,7,none⟩) (qa h.ne) _).other (x:=⟨p,8,none⟩) (qa h.ne) _).other (x:=⟨p,9,none⟩) (qa h.ne) _).other (x:=⟨p,10,none⟩) (qa h.ne) _).other (x:=⟨p,11,none⟩) (qa h.ne) _),h.low,h.ne,h.np⟩
theorem B1.pP{u t:Nat}(h:B1 w W P p k mo ma la mb ch lb mc tc n a g md pd v xs B N A G X)(hr:AR.R4 W P v' X'):B1 w ((((((W.setCell ⟨p,12,none⟩ (.int .i64 (u:Int))).setCell ⟨p,13,none⟩ (.int .i64 (t:Int))).setCell ⟨p,14,none⟩ (.slice (v' 0).A (v' 0).n (v' 0).c)).setCell ⟨p,15,none⟩ (.slice (v' 1).A (v' 1).n (v' 1).c)).setCell ⟨p,16,none⟩ (.slice (v' 2).A (v' 2).n (v' 2).c)).setCell ⟨p,17,none⟩ (.slice (v' 3).A (v' 3).n (v' 3).c)) P p k mo ma la mb ch lb mc tc n a g u t v' xs B N A G X':=by
 refine⟨?_,(((((((⟨h.rows.ra,h.rows.rb,h.rows.rc,hr⟩:R9 W P la lb n a g v' xs B N A G X').set (q:=⟨p,12,none⟩) h.np _).set (q:=⟨p,13,none⟩) h.np _).set (q:=⟨p,14,none⟩) h.np _).set (q:=⟨p,15,none⟩) h.np _).set (q:=⟨p,16,none⟩) h.np _).set (q:=⟨p,17,none⟩) h.np _),((((((h.az.setCell (p:=⟨p,12,none⟩) h.low _).setCell (p:=⟨p,13,none⟩) h.low _).setCell (p:=⟨p,14,none⟩) h.low _).setCell (p:=⟨p,15,none⟩) h.low _).setCell (p:=⟨p,16,none⟩) h.low _).setCell (p:=⟨p,17,none⟩) h.low _),h.low,h.np,λk hk=>h.cl k (by simpa[AR.eQ] using hk)⟩;have:=((((((h.box.SH u).SI t).SJ (v' 0)).SK (v' 1)).SL (v' 2)).SM (v' 3));unfold RB at this|-;exact this
theorem B2.pP{u t:Nat}(h:B2 w W P p q k mo ma la mb ch lb mc tc n a g md pd v xs B N A G X)(hr:AR.R4 W P v' X'):B2 w ((((((W.setCell ⟨p,12,none⟩ (.int .i64 (u:Int))).setCell ⟨p,13,none⟩ (.int .i64 (t:Int))).setCell ⟨p,14,none⟩ (.slice (v' 0).A (v' 0).n (v' 0).c)).setCell ⟨p,15,none⟩ (.slice (v' 1).A (v' 1).n (v' 1).c)).setCell ⟨p,16,none⟩ (.slice (v' 2).A (v' 2).n (v' 2).c)).setCell ⟨p,17,none⟩ (.slice (v' 3).A (v' 3).n (v' 3).c)) P p q k mo ma la mb ch lb mc tc n a g u t v' xs B N A G X':=⟨h.b.pP hr,((((((h.res.other (x:=⟨p,12,none⟩) (qa h.ne) _).other (x:=⟨p,13,none⟩) (qa h.ne) _).other (x:=⟨p,14,none⟩) (qa h.ne) _).other (x:=⟨p,15,none⟩) (qa h.ne) _).other (x:=⟨p,16,none⟩) (qa h.ne) _).other (x:=⟨p,17,none⟩) (qa h.ne) _),h.low,h.ne,h.np⟩
theorem B1.p8{u:Nat}(h:B1 w W P p k mo ma la mb ch lb mc tc n a g md pd v xs B N A G X)(hr:True):B1 w (W.setCell ⟨p,1,none⟩ (.int .i64 (u:Int))) P p k u ma la mb ch lb mc tc n a g md pd v xs B N A G X:=by
 refine⟨?_,((h.rows).set (q:=⟨p,1,none⟩) h.np _),(h.az.setCell (p:=⟨p,1,none⟩) h.low _),h.low,h.np,λk hk=>h.cl k (by simpa[AR.eQ] using hk)⟩;have:=(h.box.s1 u);unfold RB at this|-;exact this
theorem B2.p8{u:Nat}(h:B2 w W P p q k mo ma la mb ch lb mc tc n a g md pd v xs B N A G X)(hr:True):B2 w (W.setCell ⟨p,1,none⟩ (.int .i64 (u:Int))) P p q k u ma la mb ch lb mc tc n a g md pd v xs B N A G X:=⟨h.b.p8 hr,(h.res.other (x:=⟨p,1,none⟩) (qa h.ne) _),h.low,h.ne,h.np⟩
theorem B2.out(h:B2 w W (AR.w2 P0 p q) p q k mo ma la mb ch lb mc tc n a g md pd v xs B N A G X):RB (bH W q k mo ma la mb ch lb mc tc n a g md pd v) q k mo ma la mb ch lb mc tc n a g md pd v/\R9 (bH W q k mo ma la mb ch lb mc tc n a g md pd v) P0 la lb n a g v xs B N A G X/\Below w.heap.size w (bH W q k mo ma la mb ch lb mc tc n a g md pd v):=
 ⟨h.res.put,(h.b.rows.bH h.np).wide λ_ hk _=>hk.1,dw h.b.az h.low⟩
end
def CT(w:zw)(P:Nat->Prop)(F:Value->Value)(k mo ma mb:Nat)(ch:Bool)(mc tc md pd:Nat)(xs:zY)(B:List (LF.Ht.aa zy))(N A G:List SR.KE)(X:AR.L4)(e:Ending)(w':zw):Prop:=
 ∃(la lb:AR.Sl) (n a g:SR.Sl) (v:AR.S4),e= .returned (F (ba k mo ma la mb ch lb mc tc n a g md pd v))/\R9 w' P la lb n a g v xs B N A G X/\Below w.heap.size w w'
end P9
namespace P9
open Go.RowKit Sg
theorem OH{w:zw}{P:Nat->Prop}{r:AR.Sl}{L:zY}(h:AR.SW w P r L)(hP:AR.Cl w P):∃g,P g/\Row w g (.slice r.A r.n r.c) L:=by
 obtain⟨h1,g,h2,h3⟩:=h
 by_cases e:L= []
 . subst e;have hn:r.n=0:=h1.symm;refine⟨w.heap.size,hP _ (zg _),?_⟩;rw[hn];exact Row.nil _ _ _ _
 . exact⟨g,h2 e,h3⟩
theorem Ci{w:zw}{P:Nat->Prop}{r:AR.Sl}{B:List (LF.Ht.aa zy)}(h:ZW w P r B)(hP:AR.Cl w P):∃g,P g/\LF.bO w g (.slice r.A r.n r.c) B:=by
 obtain⟨h1,g,h2,h3⟩:=h
 by_cases e:B= []
 . subst e;have hn:r.n=0:=h1.symm;refine⟨w.heap.size,hP _ (zg _),?_⟩;rw[hn];exact LF.bO.nil _ _ _ _
 . exact⟨g,h2 e,h3⟩
def x7(F:Value->Value)(w:zw)(P:Nat->Prop)(ma:Nat)(xs:zY)(e:Ending)(w':zw):Prop:=
 ∃la:AR.Sl,e= .returned (F (.agg #[.int .i64 (ma:Int),.slice la.A la.n la.c]))/\AR.SW w' P la xs/\Below w.heap.size w w'
def kQ(F:Value->Value)(w:zw)(P:Nat->Prop)(mb:Nat)(ch:Bool)(B:List (LF.Ht.aa zy))(e:Ending)(w':zw):Prop:=
 ∃lb:AR.Sl,e= .returned (F (.agg #[.int .i64 (mb:Int),.bool ch,.slice lb.A lb.n lb.c]))/\ZW w' P lb B/\Below w.heap.size w w'
def OI(w:zw)(P:Nat->Prop)(ma:Nat)(xs out:zY)(e:Ending)(w':zw):Prop:=
 ∃la u:AR.Sl,e= .returned (.tuple #[.agg #[.int .i64 (ma:Int),.slice la.A la.n la.c],.slice u.A u.n u.c])/\AR.SW w' P la xs/\AR.SW w' P u out/\Below w.heap.size w w'
def Dw(w:zw)(P:Nat->Prop)(mb:Nat)(ch:Bool)(B:List (LF.Ht.aa zy))(out:zY)(e:Ending)(w':zw):Prop:=
 ∃lb u:AR.Sl,e= .returned (.tuple #[.agg #[.int .i64 (mb:Int),.bool ch,.slice lb.A lb.n lb.c],.slice u.A u.n u.c])/\ZW w' P lb B/\AR.SW w' P u out/\Below w.heap.size w w'
def OJ(w:zw)(P:Nat->Prop)(mc tc:Nat)(N A G:List SR.KE)(out:zY)(e:Ending)(w':zw):Prop:=
 ∃(n a g:SR.Sl) (u:AR.Sl),e= .returned (.tuple #[SR.aU mc tc n a g,.slice u.A u.n u.c])/\SR.Rw w' P n a g N A G/\AR.SW w' P u out/\Below w.heap.size w w'
def OK(w:zw)(P:Nat->Prop)(md pd:Nat)(X:AR.L4)(out:zY)(e:Ending)(w':zw):Prop:=
 ∃(v:AR.S4) (u:AR.Sl),e= .returned (.tuple #[AR.aU md pd v,.slice u.A u.n u.c])/\AR.R4 w' P v X/\AR.SW w' P u out/\Below w.heap.size w w'
theorem x8{w w':zw}{P:Nat->Prop}{g:Nat}{A:Option Addr}{n c:Nat}{L:zY}(hr:Row w' g (.slice A n c) L)(hg:P g):AR.SW w' P ⟨A,n,c⟩ L:=by
 obtain⟨A',c',e⟩:=hr.shape;have hn:L.length=n:=by injection e with _ h _;exact h.symm
 exact⟨hn,g,λ_=>hg,hr⟩
section
variable(w:zw)(P:Nat->Prop)(la:AR.Sl)(ma:Nat)(xs:zY)(key:zy)(h:AR.SW w P la xs)(hP:AR.Cl w P)(hl:xs.length<=1000)(BL:ma<=9223372036854775807)
include h hP hl BL
theorem Fx(cG:xs.Nodup)(hle:xs.length<=ma)(hs:key.size<=maxLen):Calls prog 51 #[.agg #[.int .i64 (ma:Int),.slice la.A la.n la.c],.string key] w (x7 (λx=> .tuple #[x,cS ma xs key]) w P ma (ia ma xs key)):=by
 obtain⟨g,hg,hr⟩:=OH h hP;refine(LR.yL w g ma la.A la.n la.c xs key hr h.len cG BL hs (by omega) hle).mono ?_;rintro e w' ⟨A,n,c,g',rfl,AE,dB,hb⟩;exact⟨⟨A,n,c⟩,rfl,x8 (w:=w) AE (by rcases dB with rfl|h;exact hg;exact hP _ h),hb⟩
theorem KA(hs:key.size<=maxLen):Calls prog 59 #[.agg #[.int .i64 (ma:Int),.slice la.A la.n la.c],.string key] w (x7 (λx=> .tuple #[x,.bool (LR.bD ma xs key)]) w P ma (LR.ll ma xs key)):=by
 obtain⟨g,hg,hr⟩:=OH h hP;refine(LR.MI w g la.A la.n la.c ma xs key hr BL h.len (by omega) hs).mono ?_;rintro e w' ⟨A,n,c,g',rfl,AE,dB,hb⟩;exact⟨⟨A,n,c⟩,rfl,x8 (w:=w) AE (by rcases dB with rfl|h;exact hg;exact hP _ h),hb⟩
theorem Ig(z:Int)(hz: -9223372036854775808<=z/\z<=9223372036854775807):Calls prog 66 #[.agg #[.int .i64 (ma:Int),.slice la.A la.n la.c],.int .i64 z] w (OI w P z.toNat (gi z.toNat xs) (xs.take (xs.length - z.toNat))):=by
 obtain⟨g,hg,hr⟩:=OH h hP;have _:=BL;refine(LR.MJ w g la.A la.n la.c ma z.toNat z xs hr h.len (by omega) hz rfl).mono ?_;rintro e w' ⟨A,n,c,A2,n2,c2,rfl,AE,ho,hb⟩;exact⟨⟨A,n,c⟩,⟨A2,n2,c2⟩,rfl,x8 (w:=w) AE hg,x8 (w:=w) ho hg,hb⟩
end
section
variable(w:zw)(P:Nat->Prop)(lb:AR.Sl)(mb:Nat)(ch:Bool)(L B:List (LF.Ht.aa zy))(m:Nat)(key:zy)(h:ZW w P lb B)(hP:AR.Cl w P)(hl:B.length<=1000)
include h hP hl
theorem Ih:Calls prog 56 #[.agg #[.int .i64 (mb:Int),.bool ch,.slice lb.A lb.n lb.c],.string key] w (kQ id w P mb ch (LF.Ht.rem B key)):=by
 obtain⟨g,hg,hr⟩:=Ci h hP;refine(LF.oC w g mb ch lb.A lb.n lb.c B key hr h.len (by have:=h.len;omega)).mono ?_;rintro e w' ⟨A,n,c,rfl,ho,hb⟩;obtain⟨g',h1,h2⟩:=ho.row;exact⟨⟨A,n,c⟩,rfl,⟨LF.yH ho,g',λ_=>hP _ h1,h2⟩,hb⟩
variable(y:LF.By ch L B m)
include y
theorem Fy(OL:mb<=9223372036854775807)(hn:m<=90000)(hs:key.size<=maxLen)(Mc:L.length<=mb):Calls prog 52 #[.agg #[.int .i64 (mb:Int),.bool ch,.slice lb.A lb.n lb.c],.string key] w (kQ (λx=> .tuple #[x,LF.Lf.cS mb L key]) w P mb ch (LF.kv ch mb m L B key))/\LF.By ch (LF.Lf.fN ch mb m L key) (LF.kv ch mb m L B key) (LF.Lf.lJ mb m):=by
 obtain⟨g,hg,hr⟩:=Ci h hP;have u:=LF.yL w g mb ch lb.A lb.n lb.c L B m key hr h.len (by have:=h.len;omega) OL y hn hs Mc;refine⟨u.1.mono ?_,u.2⟩;rintro e w' ⟨A,n,c,rfl,hk,k7,hb⟩;exact⟨⟨A,n,c⟩,rfl,ZW.kp hk k7 (λ_=>xz hg) hP,hb⟩
theorem KB(OL:mb<=9223372036854775807)(hn:m<=90000)(hs:key.size<=maxLen):Calls prog 60 #[.agg #[.int .i64 (mb:Int),.bool ch,.slice lb.A lb.n lb.c],.string key] w (kQ (λx=> .tuple #[x,.bool (LF.Lf.bD mb L key)]) w P mb ch (LF.wG ch mb m L B key))/\LF.By ch (LF.Lf.qE ch mb m L key) (LF.wG ch mb m L B key) (LF.Lf.mR mb m L key):=by
 obtain⟨g,hg,hr⟩:=Ci h hP;have u:=LF.JV w g mb ch lb.A lb.n lb.c L B m key hr h.len (by have:=h.len;omega) OL y hn hs;refine⟨u.1.mono ?_,u.2⟩;rintro e w' ⟨A,n,c,rfl,hk,k7,hb⟩;exact⟨⟨A,n,c⟩,rfl,ZW.kp hk k7 (λ_=>xz hg) hP,hb⟩
theorem Ii(nu:∀e∈L,e.key.size<=maxLen)(z:Int)(hz: -9223372036854775808<=z/\z<=9223372036854775807):Calls prog 67 #[.agg #[.int .i64 (mb:Int),.bool ch,.slice lb.A lb.n lb.c],.int .i64 z] w (λe w'=>∃B',Dw w P z.toNat ch B' ((LF.Lf.aC L).take (L.length - z.toNat)) e w'/\LF.By ch (L.drop (L.length - z.toNat)) B' m):=by
 obtain⟨g,hg,hr⟩:=Ci h hP;refine(LF.yN w g mb z.toNat ch lb.A lb.n lb.c L B m z hr h.len (by have:=h.len;omega) hz rfl y nu).mono ?_;rintro e w' ⟨A,n,c,v,g',B',rfl,AE,dB,hn,hy,ho,hb⟩;obtain⟨u,rfl,hu⟩:=AR.SW.made ho hP;exact⟨B',⟨⟨A,n,c⟩,u,rfl,⟨hn,g',λ_=>by rcases dB with rfl|h;exact hg;exact hP _ h,AE⟩,hu,hb⟩,hy⟩
theorem OM(nu:∀e∈L,e.key.size<=maxLen):Calls prog 72 #[.agg #[.int .i64 (mb:Int),.bool ch,.slice lb.A lb.n lb.c]] w (AR.ft w P (LF.Lf.aC L)):=by
 obtain⟨g,hg,hr⟩:=Ci h hP;refine(LF.D6 w g mb ch lb.A lb.n lb.c L B m hr h.len (by have:=h.len;omega) y nu).mono ?_;rintro e w' ⟨v,rfl,ho,hb⟩;obtain⟨u,rfl,hu⟩:=AR.SW.made ho hP;exact⟨u,rfl,hu,hb⟩
end
theorem vj{w w':zw}{P:Nat->Prop}{L:zY}{e:Ending}(hP:AR.Cl w P)(h:br L w e w'):AR.ft w P L e w':=by
 obtain⟨v,rfl,ho,hb⟩:=h;obtain⟨u,rfl,hu⟩:=AR.SW.made ho hP;exact⟨u,rfl,hu,hb⟩
theorem Ij(w:zw)(P:Nat->Prop)(n a g:SR.Sl)(s:SR.St)(h:SR.Rw w P n a g s.rN s.rA s.rG)(hP:AR.Cl w P)(hp:SR.Ok s)(bk:s.cz<=1000)(z:Int)(hz: -9223372036854775808<=z/\z<=9223372036854775807):
 Calls prog 68 #[SR.aU s.mo s.t n a g,.int .i64 z] w (OJ w P (s.rs z.toNat).mo (s.rs z.toNat).t (s.rs z.toNat).rN (s.rs z.toNat).rA (s.rs z.toNat).rG ((s.A++s.N).reverse.take (s.A.length+s.N.length - z.toNat))):=by
 refine(SR.pT w P n a g s h hP hp bk z hz).mono ?_;rintro e w' ⟨n',a',g',v,rfl,hr,ho,hb⟩;obtain⟨u,rfl,hu⟩:=AR.SW.made ho hP;exact⟨n',a',g',u,rfl,hr,hu,hb⟩
theorem Ik(w:zw)(P:Nat->Prop)(v:AR.S4)(s:AR.St)(h:AR.R4 w P v (AR.rv s.R))(hP:AR.Cl w P)(hp:AR.Ok s)(hm:s.mo<=1000000000000)(bk:AR.a7 s.R<=1000)(z:Int)(hz: -9223372036854775808<=z/\z<=9223372036854775807):
 Calls prog 69 #[AR.aU s.mo s.p v,.int .i64 z] w (OK w P (s.rs z.toNat).mo (s.rs z.toNat).p (AR.rv (s.rs z.toNat).R) (AR.outs (min s.p z.toNat) false s.R (AR.ai s.R - z.toNat))):=by
 refine(AR.pT w P v s h hP hp hm bk z hz).mono ?_;rintro e w' ⟨v',u,rfl,hr,ho,hb⟩;obtain⟨u,rfl,hu⟩:=AR.SW.made ho hP;exact⟨v',u,rfl,hr,hu,hb⟩
theorem JC:(prog.info? 42).map (·.size)=some 18:=by kernel_rfl
theorem cN{ops:Array Oper}{rest:List Oper}{op:Oper}{ac:Act}{w:zw}{Q:Exit->Act->zw->Prop}{p:Nat}{k mo ma mb mc tc md pd:Nat}{la lb:AR.Sl}{ch:Bool}{n a g:SR.Sl}{v:AR.S4}(jT:op.guard=none)(x:Operand)(ho:op.op= .load 42 x)(hb:RB w p k mo ma la mb ch lb mc tc n a g md pd v)(hx:ac.eval x= .pointer (some ⟨p,0,none⟩))
 (h:wpList prog ops Q rest (ac.put op.dst (ba k mo ma la mb ch lb mc tc n a g md pd v)) w):wpList prog ops Q (op::rest) ac w:=
 wpList_plain jT λ_ hK=>by
  unfold Oper.wp execOp;simp only[ho,hx,Instr.loadAt,Instr.sureAddr,Sem.run_bind,Sem.run_pure,Result.andThen_ok,cy hb];exact hK _ _ h
theorem Fz{w:zw}{q:Nat}{k mo ma mb mc tc md pd:Nat}{la lb:AR.Sl}{ch:Bool}{n a g:SR.Sl}{v:AR.S4}(hb:RB w q k mo ma la mb ch lb mc tc n a g md pd v):w.there q 0 18:=λj hj=>by
 have h1:=cell_of_row w q (0+j) _ _ _ hb;refine⟨?_,frozen_of_row w q (0+j) _ _ hb⟩;rw[h1,Nat.zero_add];rw[Array.getElem?_eq_getElem (show j < 18 from hj)];rfl
theorem dz{ops:Array Oper}{rest:List Oper}{op:Oper}{ac:Act}{w:zw}{Q:Exit->Act->zw->Prop}{q:Nat}{k mo ma mb mc tc md pd:Nat}{la lb:AR.Sl}{ch:Bool}{n a g:SR.Sl}{v:AR.S4}{k' mo' dv bK db dc dd de:Nat}{il im:AR.Sl}{iq:Bool}{n' a' g':SR.Sl}{v':AR.S4}(jT:op.guard=none)(x y:Operand)(ho:op.op= .store 42 x y)(hb:RB w q k' mo' dv il bK iq im db dc n' a' g' dd de v')(hx:ac.eval x= .pointer (some ⟨q,0,none⟩))(hy:ac.eval y=ba k mo ma la mb ch lb mc tc n a g md pd v)
 (h:wpList prog ops Q rest (ac.put op.dst undef) (bH w q k mo ma la mb ch lb mc tc n a g md pd v)):wpList prog ops Q (op::rest) ac w:=
 wpList_store_mid jT 42 x y ho q 0 #[.int .i64 (k:Int),.int .i64 (mo:Int),.int .i64 (ma:Int),.slice la.A la.n la.c,.int .i64 (mb:Int),.bool ch,.slice lb.A lb.n lb.c,.int .i64 (mc:Int),.int .i64 (tc:Int),.slice n.A n.n n.c,.slice a.A a.n a.c,.slice g.A g.n g.c,.int .i64 (md:Int),.int .i64 (pd:Int),.slice (v 0).A (v 0).n (v 0).c,.slice (v 1).A (v 1).n (v 1).c,.slice (v 2).A (v 2).n (v 2).c,.slice (v 3).A (v 3).n (v 3).c] hx hy (Fz hb) JC (by simp[Value.oneCell']) h
end P9
namespace P9
open Go.RowKit Sg
theorem fP(w:zw)(z:Int):Calls prog 44 #[.int .i64 z] w (λe w'=>e= .returned (.bool (decide (0<=z)&&decide (z<=16777216)))/\w=w'):=by
 go_enter func44,ntmps44
 by_cases h0:0<=z
 . by_cases h1:z<=16777216
   . rw[decide_eq_true h0,decide_eq_true h1];go_wp2_with fail
     go_ret;exact⟨rfl,rfl⟩
   . rw[decide_eq_true h0,decide_eq_false h1];go_wp2_with fail
     go_ret;exact⟨rfl,rfl⟩
 . rw[decide_eq_false h0];go_wp2_with fail
   go_ret;exact⟨rfl,rfl⟩
section
variable(w:zw)(P:Nat->Prop)(mo ma:Nat)(la:AR.Sl)(mb:Nat)(ch:Bool)(lb:AR.Sl)(mc tc:Nat)(n a g:SR.Sl)(md pd:Nat)(v:AR.S4)(xs:zY)(B:List (LF.Ht.aa zy))(N A G:List SR.KE)(X:AR.L4)(h:R9 w P la lb n a g v xs B N A G X)(hP:AR.Cl w P)(L:zY)
include h hP
theorem ON(hL:xs=L):Calls prog 30 #[ba 0 mo ma la mb ch lb mc tc n a g md pd v] w (AR.ft w P L):=by
 subst hL;have R0:=J (cB h hP 0 mo ma mb ch mc tc md pd);clear h hP;have bB:=zs (∀k,AR.w1 P w.heap.size k->P k) (λk hk=>hk.1);go_enter func30,ntmps30;go_upto_region 1 with fail
 generalize w.alloc (bn 0 mo ma la mb ch lb mc tc n a g md pd v)=W at R0|-;generalize AR.w1 P w.heap.size=Q at R0 bB;obtain⟨p,hp⟩:=zx w.heap.size;rw[← hp] at R0|-;have bR:=J hp;clear hp;obtain⟨c0,c1,c2,c3,c4,c5,c6,c7,c8,c9,b8,b9,cd,cj,ck,cq,cr,ct⟩:=R0.out.box.c;have HU:=J (R0.out.rows.ra.wide λk hk _=>bB.out k hk);have HB:=J R0.out.az;go_wp2_with fail
 go_ret;exact⟨la,rfl,HU.out,HB.out⟩
theorem OO(U:∀(W:zw) (Q:Nat->Prop),ZW W Q lb B->AR.Cl W Q->Calls prog 72 #[.agg #[.int .i64 (mb:Int),.bool ch,.slice lb.A lb.n lb.c]] W (AR.ft W Q L)):Calls prog 30 #[ba 1 mo ma la mb ch lb mc tc n a g md pd v] w (AR.ft w P L):=by
 have R0:=J (cB h hP 1 mo ma mb ch mc tc md pd);clear h hP;have bB:=zs (∀k,AR.w1 P w.heap.size k->P k) (λk hk=>hk.1);go_enter func30,ntmps30;go_upto_region 1 with fail
 generalize w.alloc (bn 1 mo ma la mb ch lb mc tc n a g md pd v)=W at R0|-;generalize AR.w1 P w.heap.size=Q at R0 bB;obtain⟨p,hp⟩:=zx w.heap.size;rw[← hp] at R0|-;have bR:=J hp;clear hp;have U1:=J (U W Q R0.out.rows.rb R0.out.cl);obtain⟨c0,c1,c2,c3,c4,c5,c6,c7,c8,c9,b8,b9,cd,cj,ck,cq,cr,ct⟩:=R0.out.box.c;go_wp2_with fail
 refine U1.out.mono ?_;rintro e W1 ⟨u,rfl,hu,hB⟩;have HU:=J (hu.wide λk hk _=>bB.out k hk);have HB:=J (R0.out.az.trans (hB.mono R0.out.az.size));clear hu hB;go_wp2_with fail
 go_ret;exact⟨u,rfl,HU.out,HB.out⟩
theorem OP(U:∀(W:zw) (Q:Nat->Prop),ZW W Q lb B->AR.Cl W Q->Calls prog 72 #[.agg #[.int .i64 (mb:Int),.bool ch,.slice lb.A lb.n lb.c]] W (AR.ft W Q L)):Calls prog 30 #[ba 2 mo ma la mb ch lb mc tc n a g md pd v] w (AR.ft w P L):=by
 have R0:=J (cB h hP 2 mo ma mb ch mc tc md pd);clear h hP;have bB:=zs (∀k,AR.w1 P w.heap.size k->P k) (λk hk=>hk.1);go_enter func30,ntmps30;go_upto_region 1 with fail
 generalize w.alloc (bn 2 mo ma la mb ch lb mc tc n a g md pd v)=W at R0|-;generalize AR.w1 P w.heap.size=Q at R0 bB;obtain⟨p,hp⟩:=zx w.heap.size;rw[← hp] at R0|-;have bR:=J hp;clear hp;have U1:=J (U W Q R0.out.rows.rb R0.out.cl);obtain⟨c0,c1,c2,c3,c4,c5,c6,c7,c8,c9,b8,b9,cd,cj,ck,cq,cr,ct⟩:=R0.out.box.c;go_wp2_with fail
 refine U1.out.mono ?_;rintro e W1 ⟨u,rfl,hu,hB⟩;have HU:=J (hu.wide λk hk _=>bB.out k hk);have HB:=J (R0.out.az.trans (hB.mono R0.out.az.size));clear hu hB;go_wp2_with fail
 go_ret;exact⟨u,rfl,HU.out,HB.out⟩
theorem OQ(U:∀(W:zw) (Q:Nat->Prop),SR.Rw W Q n a g N A G->AR.Cl W Q->Calls prog 73 #[SR.aU mc tc n a g] W (AR.ft W Q L)):Calls prog 30 #[ba 3 mo ma la mb ch lb mc tc n a g md pd v] w (AR.ft w P L):=by
 have R0:=J (cB h hP 3 mo ma mb ch mc tc md pd);clear h hP;have bB:=zs (∀k,AR.w1 P w.heap.size k->P k) (λk hk=>hk.1);go_enter func30,ntmps30;go_upto_region 1 with fail
 generalize w.alloc (bn 3 mo ma la mb ch lb mc tc n a g md pd v)=W at R0|-;generalize AR.w1 P w.heap.size=Q at R0 bB;obtain⟨p,hp⟩:=zx w.heap.size;rw[← hp] at R0|-;have bR:=J hp;clear hp;have U1:=J (U W Q R0.out.rows.rc R0.out.cl);obtain⟨c0,c1,c2,c3,c4,c5,c6,c7,c8,c9,b8,b9,cd,cj,ck,cq,cr,ct⟩:=R0.out.box.c;go_wp2_with fail
 refine U1.out.mono ?_;rintro e W1 ⟨u,rfl,hu,hB⟩;have HU:=J (hu.wide λk hk _=>bB.out k hk);have HB:=J (R0.out.az.trans (hB.mono R0.out.az.size));clear hu hB;go_wp2_with fail
 go_ret;exact⟨u,rfl,HU.out,HB.out⟩
theorem OR(U:∀(W:zw) (Q:Nat->Prop),AR.R4 W Q v X->AR.Cl W Q->Calls prog 74 #[AR.aU md pd v] W (AR.ft W Q L)):Calls prog 30 #[ba 4 mo ma la mb ch lb mc tc n a g md pd v] w (AR.ft w P L):=by
 have R0:=J (cB h hP 4 mo ma mb ch mc tc md pd);clear h hP;have bB:=zs (∀k,AR.w1 P w.heap.size k->P k) (λk hk=>hk.1);go_enter func30,ntmps30;go_upto_region 1 with fail
 generalize w.alloc (bn 4 mo ma la mb ch lb mc tc n a g md pd v)=W at R0|-;generalize AR.w1 P w.heap.size=Q at R0 bB;obtain⟨p,hp⟩:=zx w.heap.size;rw[← hp] at R0|-;have bR:=J hp;clear hp;have U1:=J (U W Q R0.out.rows.rd R0.out.cl);obtain⟨c0,c1,c2,c3,c4,c5,c6,c7,c8,c9,b8,b9,cd,cj,ck,cq,cr,ct⟩:=R0.out.box.c;go_wp2_with fail
 refine U1.out.mono ?_;rintro e W1 ⟨u,rfl,hu,hB⟩;have HU:=J (hu.wide λk hk _=>bB.out k hk);have HB:=J (R0.out.az.trans (hB.mono R0.out.az.size));clear hu hB;go_wp2_with fail
 go_ret;exact⟨u,rfl,HU.out,HB.out⟩
theorem Il(hL:L= []):Calls prog 36 #[ba 0 mo ma la mb ch lb mc tc n a g md pd v] w (AR.ft w P L):=by
 subst hL;have R0:=J (cB h hP 0 mo ma mb ch mc tc md pd);clear h hP;have bB:=zs (∀k,AR.w1 P w.heap.size k->P k) (λk hk=>hk.1);go_enter func36,ntmps36;go_upto_region 1 with fail
 generalize w.alloc (bn 0 mo ma la mb ch lb mc tc n a g md pd v)=W at R0|-;generalize AR.w1 P w.heap.size=Q at R0 bB;obtain⟨p,hp⟩:=zx w.heap.size;rw[← hp] at R0|-;have bR:=J hp;clear hp;obtain⟨c0,c1,c2,c3,c4,c5,c6,c7,c8,c9,b8,b9,cd,cj,ck,cq,cr,ct⟩:=R0.out.box.c;have HB:=J R0.out.az;go_wp2_with fail
 go_ret;exact⟨zS,rfl,AR.SW.nil _ _ _ _,HB.out⟩
theorem Im(hL:L= []):Calls prog 36 #[ba 1 mo ma la mb ch lb mc tc n a g md pd v] w (AR.ft w P L):=by
 subst hL;have R0:=J (cB h hP 1 mo ma mb ch mc tc md pd);clear h hP;have bB:=zs (∀k,AR.w1 P w.heap.size k->P k) (λk hk=>hk.1);go_enter func36,ntmps36;go_upto_region 1 with fail
 generalize w.alloc (bn 1 mo ma la mb ch lb mc tc n a g md pd v)=W at R0|-;generalize AR.w1 P w.heap.size=Q at R0 bB;obtain⟨p,hp⟩:=zx w.heap.size;rw[← hp] at R0|-;have bR:=J hp;clear hp;obtain⟨c0,c1,c2,c3,c4,c5,c6,c7,c8,c9,b8,b9,cd,cj,ck,cq,cr,ct⟩:=R0.out.box.c;have HB:=J R0.out.az;go_wp2_with fail
 go_ret;exact⟨zS,rfl,AR.SW.nil _ _ _ _,HB.out⟩
theorem Io(hL:L= []):Calls prog 36 #[ba 2 mo ma la mb ch lb mc tc n a g md pd v] w (AR.ft w P L):=by
 subst hL;have R0:=J (cB h hP 2 mo ma mb ch mc tc md pd);clear h hP;have bB:=zs (∀k,AR.w1 P w.heap.size k->P k) (λk hk=>hk.1);go_enter func36,ntmps36;go_upto_region 1 with fail
 generalize w.alloc (bn 2 mo ma la mb ch lb mc tc n a g md pd v)=W at R0|-;generalize AR.w1 P w.heap.size=Q at R0 bB;obtain⟨p,hp⟩:=zx w.heap.size;rw[← hp] at R0|-;have bR:=J hp;clear hp;obtain⟨c0,c1,c2,c3,c4,c5,c6,c7,c8,c9,b8,b9,cd,cj,ck,cq,cr,ct⟩:=R0.out.box.c;have HB:=J R0.out.az;go_wp2_with fail
 go_ret;exact⟨zS,rfl,AR.SW.nil _ _ _ _,HB.out⟩
theorem Ip(U:∀(W:zw) (Q:Nat->Prop),SR.Rw W Q n a g N A G->AR.Cl W Q->Calls prog 75 #[SR.aU mc tc n a g] W (AR.ft W Q L)):Calls prog 36 #[ba 3 mo ma la mb ch lb mc tc n a g md pd v] w (AR.ft w P L):=by
 have R0:=J (cB h hP 3 mo ma mb ch mc tc md pd);clear h hP;have bB:=zs (∀k,AR.w1 P w.heap.size k->P k) (λk hk=>hk.1);go_enter func36,ntmps36;go_upto_region 1 with fail
 generalize w.alloc (bn 3 mo ma la mb ch lb mc tc n a g md pd v)=W at R0|-;generalize AR.w1 P w.heap.size=Q at R0 bB;obtain⟨p,hp⟩:=zx w.heap.size;rw[← hp] at R0|-;have bR:=J hp;clear hp;have U1:=J (U W Q R0.out.rows.rc R0.out.cl);obtain⟨c0,c1,c2,c3,c4,c5,c6,c7,c8,c9,b8,b9,cd,cj,ck,cq,cr,ct⟩:=R0.out.box.c;go_wp2_with fail
 refine U1.out.mono ?_;rintro e W1 ⟨u,rfl,hu,hB⟩;have HU:=J (hu.wide λk hk _=>bB.out k hk);have HB:=J (R0.out.az.trans (hB.mono R0.out.az.size));clear hu hB;go_wp2_with fail
 go_ret;exact⟨u,rfl,HU.out,HB.out⟩
theorem Iq(U:∀(W:zw) (Q:Nat->Prop),AR.R4 W Q v X->AR.Cl W Q->Calls prog 76 #[AR.aU md pd v] W (AR.ft W Q L)):Calls prog 36 #[ba 4 mo ma la mb ch lb mc tc n a g md pd v] w (AR.ft w P L):=by
 have R0:=J (cB h hP 4 mo ma mb ch mc tc md pd);clear h hP;have bB:=zs (∀k,AR.w1 P w.heap.size k->P k) (λk hk=>hk.1);go_enter func36,ntmps36;go_upto_region 1 with fail
 generalize w.alloc (bn 4 mo ma la mb ch lb mc tc n a g md pd v)=W at R0|-;generalize AR.w1 P w.heap.size=Q at R0 bB;obtain⟨p,hp⟩:=zx w.heap.size;rw[← hp] at R0|-;have bR:=J hp;clear hp;have U1:=J (U W Q R0.out.rows.rd R0.out.cl);obtain⟨c0,c1,c2,c3,c4,c5,c6,c7,c8,c9,b8,b9,cd,cj,ck,cq,cr,ct⟩:=R0.out.box.c;go_wp2_with fail
 refine U1.out.mono ?_;rintro e W1 ⟨u,rfl,hu,hB⟩;have HU:=J (hu.wide λk hk _=>bB.out k hk);have HB:=J (R0.out.az.trans (hB.mono R0.out.az.size));clear hu hB;go_wp2_with fail
 go_ret;exact⟨u,rfl,HU.out,HB.out⟩
theorem Ir(U:∀(W:zw) (Q:Nat->Prop),R9 W Q la lb n a g v xs B N A G X->AR.Cl W Q->Calls prog 30 #[ba 0 mo ma la mb ch lb mc tc n a g md pd v] W (AR.ft W Q L)):Calls prog 29 #[ba 0 mo ma la mb ch lb mc tc n a g md pd v] w (AR.dV (.tuple #[.string (L.headD ⟨#[]⟩),.bool (!L.isEmpty)]) w):=by
 have R0:=J (cB h hP 0 mo ma mb ch mc tc md pd);clear h hP;have bB:=zs (∀k,AR.w1 P w.heap.size k->P k) (λk hk=>hk.1);go_enter func29,ntmps29;go_upto_region 1 with fail
 generalize w.alloc (bn 0 mo ma la mb ch lb mc tc n a g md pd v)=W at R0|-;generalize AR.w1 P w.heap.size=Q at R0 bB;obtain⟨p,hp⟩:=zx w.heap.size;rw[← hp] at R0|-;have bR:=J hp;clear hp;have U1:=J (U W Q R0.out.rows R0.out.cl);obtain⟨c0,c1,c2,c3,c4,c5,c6,c7,c8,c9,b8,b9,cd,cj,ck,cq,cr,ct⟩:=R0.out.box.c;go_upto_region 6 with fail
 clear c1 c2 c3 c4 c5 c6 c7 c8 c9 b8 b9 cd cj ck cq cr ct;go_wp2_with(refine cN rfl _ rfl R0.out.box rfl ?_)
 refine U1.out.mono ?_;rintro e W1 ⟨⟨uA,un,uc⟩,rfl,hu,hB⟩;have HB:=J (R0.out.az.trans (hB.mono R0.out.az.size));have bZ:=hu.len;cases L with
 |nil=>
  obtain rfl:un=0:=bZ.symm;clear hu hB bZ U1;go_wp2_with fail
  go_ret2
  exact⟨rfl,HB.out⟩
 |cons x L=>
  obtain⟨g9,o9,_,hA,hg,bX,lu,iZ⟩:=hu.at (k:=0) (Nat.succ_pos _);rw[Nat.add_zero] at bX;have bX:W1.cell? ⟨g9,o9,none⟩=some (.string x):=bX;have hA:uA=some ⟨g9,o9,none⟩:=hA;subst hA;have e0:0 < un:=by have:L.length+1=un:=bZ;omega
  have e1:((un:Int)==0)=false:=by simp;omega
  have e2:(un==0)=false:=by simp;omega
  have e3:¬un=0:=by omega
  unfold maxLen at iZ;have lu:un<=uc:=lu;clear hu hB bZ U1;go_wp2_with fail
  go_ret2
  exact⟨rfl,HB.out⟩
theorem Is(U:∀(W:zw) (Q:Nat->Prop),R9 W Q la lb n a g v xs B N A G X->AR.Cl W Q->Calls prog 30 #[ba 1 mo ma la mb ch lb mc tc n a g md pd v] W (AR.ft W Q L)):Calls prog 29 #[ba 1 mo ma la mb ch lb mc tc n a g md pd v] w (AR.dV (.tuple #[.string (L.headD ⟨#[]⟩),.bool (!L.isEmpty)]) w):=by
 have R0:=J (cB h hP 1 mo ma mb ch mc tc md pd);clear h hP;have bB:=zs (∀k,AR.w1 P w.heap.size k->P k) (λk hk=>hk.1);go_enter func29,ntmps29;go_upto_region 1 with fail
 generalize w.alloc (bn 1 mo ma la mb ch lb mc tc n a g md pd v)=W at R0|-;generalize AR.w1 P w.heap.size=Q at R0 bB;obtain⟨p,hp⟩:=zx w.heap.size;rw[← hp] at R0|-;have bR:=J hp;clear hp;have U1:=J (U W Q R0.out.rows R0.out.cl);obtain⟨c0,c1,c2,c3,c4,c5,c6,c7,c8,c9,b8,b9,cd,cj,ck,cq,cr,ct⟩:=R0.out.box.c;go_upto_region 6 with fail
 clear c1 c2 c3 c4 c5 c6 c7 c8 c9 b8 b9 cd cj ck cq cr ct;go_wp2_with(refine cN rfl _ rfl R0.out.box rfl ?_)
 refine U1.out.mono ?_;rintro e W1 ⟨⟨uA,un,uc⟩,rfl,hu,hB⟩;have HB:=J (R0.out.az.trans (hB.mono R0.out.az.size));have bZ:=hu.len;cases L with
 |nil=>
  obtain rfl:un=0:=bZ.symm;clear hu hB bZ U1;go_wp2_with fail
  go_ret2
  exact⟨rfl,HB.out⟩
 |cons x L=>
  obtain⟨g9,o9,_,hA,hg,bX,lu,iZ⟩:=hu.at (k:=0) (Nat.succ_pos _);rw[Nat.add_zero] at bX;have bX:W1.cell? ⟨g9,o9,none⟩=some (.string x):=bX;have hA:uA=some ⟨g9,o9,none⟩:=hA;subst hA;have e0:0 < un:=by have:L.length+1=un:=bZ;omega
  have e1:((un:Int)==0)=false:=by simp;omega
  have e2:(un==0)=false:=by simp;omega
  have e3:¬un=0:=by omega
  unfold maxLen at iZ;have lu:un<=uc:=lu;clear hu hB bZ U1;go_wp2_with fail
  go_ret2
  exact⟨rfl,HB.out⟩
theorem Iu(U:∀(W:zw) (Q:Nat->Prop),R9 W Q la lb n a g v xs B N A G X->AR.Cl W Q->Calls prog 30 #[ba 2 mo ma la mb ch lb mc tc n a g md pd v] W (AR.ft W Q L)):Calls prog 29 #[ba 2 mo ma la mb ch lb mc tc n a g md pd v] w (AR.dV (.tuple #[.string (L.headD ⟨#[]⟩),.bool (!L.isEmpty)]) w):=by
 have R0:=J (cB h hP 2 mo ma mb ch mc tc md pd);clear h hP;have bB:=zs (∀k,AR.w1 P w.heap.size k->P k) (λk hk=>hk.1);go_enter func29,ntmps29;go_upto_region 1 with fail
 generalize w.alloc (bn 2 mo ma la mb ch lb mc tc n a g md pd v)=W at R0|-;generalize AR.w1 P w.heap.size=Q at R0 bB;obtain⟨p,hp⟩:=zx w.heap.size;rw[← hp] at R0|-;have bR:=J hp;clear hp;have U1:=J (U W Q R0.out.rows R0.out.cl);obtain⟨c0,c1,c2,c3,c4,c5,c6,c7,c8,c9,b8,b9,cd,cj,ck,cq,cr,ct⟩:=R0.out.box.c;go_upto_region 6 with fail
 clear c1 c2 c3 c4 c5 c6 c7 c8 c9 b8 b9 cd cj ck cq cr ct;go_wp2_with(refine cN rfl _ rfl R0.out.box rfl ?_)
 refine U1.out.mono ?_;rintro e W1 ⟨⟨uA,un,uc⟩,rfl,hu,hB⟩;have HB:=J (R0.out.az.trans (hB.mono R0.out.az.size));have bZ:=hu.len;cases L with
 |nil=>
  obtain rfl:un=0:=bZ.symm;clear hu hB bZ U1;go_wp2_with fail
  go_ret2
  exact⟨rfl,HB.out⟩
 |cons x L=>
  obtain⟨g9,o9,_,hA,hg,bX,lu,iZ⟩:=hu.at (k:=0) (Nat.succ_pos _);rw[Nat.add_zero] at bX;have bX:W1.cell? ⟨g9,o9,none⟩=some (.string x):=bX;have hA:uA=some ⟨g9,o9,none⟩:=hA;subst hA;have e0:0 < un:=by have:L.length+1=un:=bZ;omega
  have e1:((un:Int)==0)=false:=by simp;omega
  have e2:(un==0)=false:=by simp;omega
  have e3:¬un=0:=by omega
  unfold maxLen at iZ;have lu:un<=uc:=lu;clear hu hB bZ U1;go_wp2_with fail
  go_ret2
  exact⟨rfl,HB.out⟩
theorem Iv(vk:zy)(vb:Bool)(U:∀(W:zw) (Q:Nat->Prop),SR.Rw W Q n a g N A G->AR.Cl W Q->Calls prog 70 #[SR.aU mc tc n a g] W (AR.dV (.tuple #[.string vk,.bool vb]) W)):Calls prog 29 #[ba 3 mo ma la mb ch lb mc tc n a g md pd v] w (AR.dV (.tuple #[.string vk,.bool vb]) w):=by
 have R0:=J (cB h hP 3 mo ma mb ch mc tc md pd);clear h hP;have bB:=zs (∀k,AR.w1 P w.heap.size k->P k) (λk hk=>hk.1);go_enter func29,ntmps29;go_upto_region 1 with fail
 generalize w.alloc (bn 3 mo ma la mb ch lb mc tc n a g md pd v)=W at R0|-;generalize AR.w1 P w.heap.size=Q at R0 bB;obtain⟨p,hp⟩:=zx w.heap.size;rw[← hp] at R0|-;have bR:=J hp;clear hp;have U1:=J (U W Q R0.out.rows.rc R0.out.cl);obtain⟨c0,c1,c2,c3,c4,c5,c6,c7,c8,c9,b8,b9,cd,cj,ck,cq,cr,ct⟩:=R0.out.box.c;go_wp2_with fail
 refine U1.out.mono ?_;rintro e W1 ⟨rfl,hB⟩;have HB:=J (R0.out.az.trans (hB.mono R0.out.az.size));clear hB;go_wp2_with fail
 go_ret2
 exact⟨rfl,HB.out⟩
theorem Iw(vk:zy)(vb:Bool)(U:∀(W:zw) (Q:Nat->Prop),AR.R4 W Q v X->AR.Cl W Q->Calls prog 71 #[AR.aU md pd v] W (AR.dV (.tuple #[.string vk,.bool vb]) W)):Calls prog 29 #[ba 4 mo ma la mb ch lb mc tc n a g md pd v] w (AR.dV (.tuple #[.string vk,.bool vb]) w):=by
 have R0:=J (cB h hP 4 mo ma mb ch mc tc md pd);clear h hP;have bB:=zs (∀k,AR.w1 P w.heap.size k->P k) (λk hk=>hk.1);go_enter func29,ntmps29;go_upto_region 1 with fail
 generalize w.alloc (bn 4 mo ma la mb ch lb mc tc n a g md pd v)=W at R0|-;generalize AR.w1 P w.heap.size=Q at R0 bB;obtain⟨p,hp⟩:=zx w.heap.size;rw[← hp] at R0|-;have bR:=J hp;clear hp;have U1:=J (U W Q R0.out.rows.rd R0.out.cl);obtain⟨c0,c1,c2,c3,c4,c5,c6,c7,c8,c9,b8,b9,cd,cj,ck,cq,cr,ct⟩:=R0.out.box.c;go_wp2_with fail
 refine U1.out.mono ?_;rintro e W1 ⟨rfl,hB⟩;have HB:=J (R0.out.az.trans (hB.mono R0.out.az.size));clear hB;go_wp2_with fail
 go_ret2
 exact⟨rfl,HB.out⟩
end
end P9
namespace P9
open Go.RowKit Sg
section
variable(k:Nat)(w:zw)(P:Nat->Prop)(mo ma:Nat)(la:AR.Sl)(mb:Nat)(ch:Bool)(lb:AR.Sl)(mc tc:Nat)(n a g:SR.Sl)(md pd:Nat)(v:AR.S4)(xs:zY)(B:List (LF.Ht.aa zy))(N A G:List SR.KE)(X:AR.L4)(h:R9 w P la lb n a g v xs B N A G X)(hP:AR.Cl w P)(key:zy)
include h hP
theorem eu(hl:xs.length<=1000/\B.length<=1000/\N.length+A.length<=1000/\G.length<=1000/\∀j,j < 4->(X j).length<=1000):Calls prog 20 #[ba k mo ma la mb ch lb mc tc n a g md pd v,.string key] w (CT w P (id) k mo ma mb ch mc tc md pd (rem xs key) (LF.Ht.rem B key) (SR.wo N key) (SR.wo A key) (SR.wo G key) (AR.iK X key)):=by
 have HL:=J hl;clear hl;have R0:=J (bF h hP k mo ma mb ch mc tc md pd);clear h hP;go_enter func20,ntmps20;go_upto_region 1 with fail
 generalize(w.alloc (bn k mo ma la mb ch lb mc tc n a g md pd v)).alloc aR=W at R0|-;generalize w.heap.size+1=q at R0|-;obtain⟨p,hp⟩:=zx w.heap.size;rw[← hp] at R0|-;have bR:=J hp;clear hp;have U1:=J (AR.sn W _ la xs key R0.out.b.rows.ra R0.out.b.cl (by have:=HL.out.1;omega));obtain⟨c0,c1,c2,c3,c4,c5,c6,c7,c8,c9,b8,b9,cd,cj,ck,cq,cr,ct⟩:=R0.out.b.box.c;go_wp2_with fail
 refine U1.out.mono ?_;rintro e W1 ⟨r1,rfl,hr,hB⟩;(try unfold id);have aD:=R0.out.below hB;have R1:=J (aD.fE hr);obtain⟨_,_,_,d3,_,_,_,_,_,_,_,_,_,_,_,_,_,_⟩:=aD.b.box.c;obtain⟨_,_,_,f3,_,_,_,_,_,_,_,_,_,_,_,_,_,_⟩:=aD.b.box.f;clear c0 c1 c2 c3 c4 c5 c6 c7 c8 c9 b8 b9 cd cj ck cq cr ct hr hB aD U1 R0;go_upto_region 2 with fail
 clear d3 f3;generalize W1.setCell ⟨p,3,none⟩ (.slice r1.A r1.n r1.c)=X1 at R1|-;have U1:=J (Ih X1 _ lb mb ch B key R1.out.b.rows.rb R1.out.b.cl HL.out.2.1);obtain⟨c0,c1,c2,c3,c4,c5,c6,c7,c8,c9,b8,b9,cd,cj,ck,cq,cr,ct⟩:=R1.out.b.box.c;go_wp2_with fail
 refine U1.out.mono ?_;rintro e W2 ⟨r2,rfl,hr,hB⟩;(try unfold id);have aD:=R1.out.below hB;have R2:=J (aD.nU (u:=mb) (b:=ch) hr);obtain⟨_,_,_,_,d4,d5,d6,_,_,_,_,_,_,_,_,_,_,_⟩:=aD.b.box.c;obtain⟨_,_,_,_,f4,f5,f6,_,_,_,_,_,_,_,_,_,_,_⟩:=aD.b.box.f;clear c0 c1 c2 c3 c4 c5 c6 c7 c8 c9 b8 b9 cd cj ck cq cr ct hr hB aD U1 R1;go_upto_region 3 with fail
 clear d4 d5 d6 f4 f5 f6;generalize((W2.setCell ⟨p,4,none⟩ (.int .i64 (mb:Int))).setCell ⟨p,5,none⟩ (.bool ch)).setCell ⟨p,6,none⟩ (.slice r2.A r2.n r2.c)=X2 at R2|-;have U1:=J (SR.eu X2 _ mc tc n a g N A G R2.out.b.rows.rc R2.out.b.cl key (by have:=HL.out.2.2.1;omega) (by have:=HL.out.2.2.2.1;omega));obtain⟨c0,c1,c2,c3,c4,c5,c6,c7,c8,c9,b8,b9,cd,cj,ck,cq,cr,ct⟩:=R2.out.b.box.c;go_wp2_with fail
 refine U1.out.mono ?_;rintro e W3 ⟨n3,a3,g3,rfl,hr,hB⟩;(try unfold id);have aD:=R2.out.below hB;have R3:=J (aD.lK (u:=mc) (t:=tc) hr);obtain⟨_,_,_,_,_,_,_,d7,d8,d9,d10,d11,_,_,_,_,_,_⟩:=aD.b.box.c;obtain⟨_,_,_,_,_,_,_,f7,f8,f9,f10,f11,_,_,_,_,_,_⟩:=aD.b.box.f;clear c0 c1 c2 c3 c4 c5 c6 c7 c8 c9 b8 b9 cd cj ck cq cr ct hr hB aD U1 R2;go_upto_region 4 with fail
 clear d7 d8 d9 d10 d11 f7 f8 f9 f10 f11;generalize((((W3.setCell ⟨p,7,none⟩ (.int .i64 (mc:Int))).setCell ⟨p,8,none⟩ (.int .i64 (tc:Int))).setCell ⟨p,9,none⟩ (.slice n3.A n3.n n3.c)).setCell ⟨p,10,none⟩ (.slice a3.A a3.n a3.c)).setCell ⟨p,11,none⟩ (.slice g3.A g3.n g3.c)=X3 at R3|-;have U1:=J (AR.eu X3 _ md pd v X R3.out.b.rows.rd R3.out.b.cl key (λj hj=>zr (HL.out.2.2.2.2 j hj) (by omega)));obtain⟨c0,c1,c2,c3,c4,c5,c6,c7,c8,c9,b8,b9,cd,cj,ck,cq,cr,ct⟩:=R3.out.b.box.c;go_wp2_with fail
 refine U1.out.mono ?_;rintro e W4 ⟨v4,rfl,hr,hB⟩;(try unfold id);have aD:=R3.out.below hB;have R4:=J (aD.pP (u:=md) (t:=pd) hr);obtain⟨_,_,_,_,_,_,_,_,_,_,_,_,d12,d13,d14,d15,d16,d17⟩:=aD.b.box.c;obtain⟨_,_,_,_,_,_,_,_,_,_,_,_,f12,f13,f14,f15,f16,f17⟩:=aD.b.box.f;clear c0 c1 c2 c3 c4 c5 c6 c7 c8 c9 b8 b9 cd cj ck cq cr ct hr hB aD U1 R3;go_upto_region 5 with fail
 clear d12 d13 d14 d15 d16 d17 f12 f13 f14 f15 f16 f17;generalize(((((W4.setCell ⟨p,12,none⟩ (.int .i64 (md:Int))).setCell ⟨p,13,none⟩ (.int .i64 (pd:Int))).setCell ⟨p,14,none⟩ (.slice (v4 0).A (v4 0).n (v4 0).c)).setCell ⟨p,15,none⟩ (.slice (v4 1).A (v4 1).n (v4 1).c)).setCell ⟨p,16,none⟩ (.slice (v4 2).A (v4 2).n (v4 2).c)).setCell ⟨p,17,none⟩ (.slice (v4 3).A (v4 3).n (v4 3).c)=X4 at R4|-;have RO:=R4.out.out;have O1:=J RO.1;have O2:=J RO.2.1;have O3:=J RO.2.2;clear RO;go_wp2_with(first|(refine cN rfl _ rfl R4.out.b.box rfl ?_)|(refine dz rfl _ _ rfl R4.out.res rfl rfl ?_))
 refine bodyPost_ret (AR.aV rfl _ _ _ ⟨q,0,none⟩ _ rfl (cy O1.out)) rfl ?_;exact⟨_,_,_,_,_,_,rfl,O2.out,O3.out⟩
theorem et(L:zY)(U:∀(W:zw) (Q:Nat->Prop),R9 W Q la lb n a g v xs B N A G X->AR.Cl W Q->Calls prog 30 #[ba k mo ma la mb ch lb mc tc n a g md pd v] W (AR.ft W Q L)):Calls prog 19 #[ba k mo ma la mb ch lb mc tc n a g md pd v,.string key] w (AR.dV (.bool (aw L key)) w):=by
 have R0:=J (cB h hP k mo ma mb ch mc tc md pd);clear h hP;have bB:=zs (∀k,AR.w1 P w.heap.size k->P k) (λk hk=>hk.1);go_enter func19,ntmps19;go_upto_region 1 with fail
 generalize w.alloc (bn k mo ma la mb ch lb mc tc n a g md pd v)=W at R0|-;generalize AR.w1 P w.heap.size=Q at R0 bB;obtain⟨p,hp⟩:=zx w.heap.size;rw[← hp] at R0|-;have bR:=J hp;clear hp;have U1:=J (U W Q R0.out.rows R0.out.cl);go_wp2_with(refine cN rfl _ rfl R0.out.box rfl ?_)
 refine U1.out.mono ?_;rintro e W1 ⟨u,rfl,hu,hB⟩;have HB:=J (R0.out.az.trans (hB.mono R0.out.az.size));have U2:=J (AR.fV W1 _ u L key hu);clear hu hB;go_wp2_with fail
 refine U2.out.mono ?_;rintro e W2 ⟨rfl,rfl⟩;go_wp2_with fail
 go_ret;exact⟨rfl,HB.out⟩
end
theorem OS(w:zw):(Instr.build 42 #[]).run prog w= .ok (ba 0 0 0 zS 0 false zS 0 0 zK zK zK 0 0 AR.zV) w:=by kernel_rfl
theorem OT(w:zw)(k:Nat)(mo:Nat)(ma:Nat)(la:AR.Sl)(mb:Nat)(ch:Bool)(lb:AR.Sl)(mc:Nat)(tc:Nat)(n:SR.Sl)(a:SR.Sl)(g:SR.Sl)(md:Nat)(pd:Nat)(v:AR.S4):(Instr.build 42 #[(0,.int .i64 (k:Int)),(1,.int .i64 (mo:Int)),(2,.agg #[.int .i64 (ma:Int),.slice la.A la.n la.c]),(3,.agg #[.int .i64 (mb:Int),.bool ch,.slice lb.A lb.n lb.c]),(4,SR.aU mc tc n a g),(5,AR.aU md pd v)]).run prog w= .ok (ba k mo ma la mb ch lb mc tc n a g md pd v) w:=by kernel_rfl
theorem Iy{ops:Array Oper}{rest:List Oper}{op:Oper}{ac:Act}{w:zw}{Q:Exit->Act->zw->Prop}(jT:op.guard=none)(ho:op.op= .build 42 #[])(h:wpList prog ops Q rest (ac.put op.dst (ba 0 0 0 zS 0 false zS 0 0 zK zK zK 0 0 AR.zV)) w):wpList prog ops Q (op::rest) ac w:=
 wpList_plain jT λ_ hK=>by
  unfold Oper.wp execOp;simp only[ho,Sem.run_bind,Sem.run_pure,Array.map_empty,List.map_toArray,List.map_nil,OS,Result.andThen_ok];exact hK _ _ h
theorem Ud{ops:Array Oper}{rest:List Oper}{op:Oper}{ac:Act}{w:zw}{Q:Exit->Act->zw->Prop}{k mo ma mb mc tc md pd:Nat}{la lb:AR.Sl}{ch:Bool}{n a g:SR.Sl}{v:AR.S4}(jT:op.guard=none)(o0 o1 o2 o3 o4 o5:Operand)(ho:op.op= .build 42 #[(0,o0),(1,o1),(2,o2),(3,o3),(4,o4),(5,o5)])
 (h0:ac.eval o0= .int .i64 (k:Int)) (h1:ac.eval o1= .int .i64 (mo:Int)) (h2:ac.eval o2= .agg #[.int .i64 (ma:Int),.slice la.A la.n la.c]) (h3:ac.eval o3= .agg #[.int .i64 (mb:Int),.bool ch,.slice lb.A lb.n lb.c]) (h4:ac.eval o4=SR.aU mc tc n a g) (h5:ac.eval o5=AR.aU md pd v)
 (h:wpList prog ops Q rest (ac.put op.dst (ba k mo ma la mb ch lb mc tc n a g md pd v)) w):wpList prog ops Q (op::rest) ac w:=
 wpList_plain jT λ_ hK=>by
  unfold Oper.wp execOp;simp only[ho,Sem.run_bind,Sem.run_pure,List.map_toArray,xb,List.map_nil,h0,h1,h2,h3,h4,h5,OT,Result.andThen_ok];exact hK _ _ h
theorem FA(w:zw)(kd z:Int)(code:Int)(hc:(decide (kd < 0)||decide (4 < kd))=true/\code=7\/(decide (kd < 0)||decide (4 < kd))=false/\(decide (0<=z)&&decide (z<=16777216))=false/\code=1):Calls prog 14 #[.int .i64 kd,.int .i64 z] w (λe w'=>e= .returned (.tuple #[ba 0 0 0 zS 0 false zS 0 0 zK zK zK 0 0 AR.zV,.int .i64 code])/\Below w.heap.size w w'):=by
 have UR:=J fP;have K0:=zs (RB (w.alloc aR) w.heap.size 0 0 0 zS 0 false zS 0 0 zK zK zK 0 0 AR.zV) (heap_alloc_new _ _);have B0:=J ((zo w.heap.size w).alloc (zg _) aR);have HC:=J hc;have We:(decide (kd < 0)||decide (4 < kd))=true\/(decide (kd < 0)||decide (4 < kd))=false:=by cases(decide (kd < 0)||decide (4 < kd)) <;> simp
 clear hc;go_enter func14,ntmps14;go_upto_region 1 with fail
 obtain⟨q,hq⟩:=zx w.heap.size;have HQ:=zs (w.heap.size<=q) (xf hq.symm);rw[← hq] at K0|-;clear hq;generalize w.alloc aR=W at K0 B0|-;have F:=zs (RB (bH W q 0 0 0 zS 0 false zS 0 0 zK zK zK 0 0 AR.zV) q 0 0 0 zS 0 false zS 0 0 zK zK zK 0 0 AR.zV) K0.out.put;have F2:=J (dw (k:=0) (mo:=0) (ma:=0) (la:=zS) (mb:=0) (ch:=false) (lb:=zS) (mc:=0) (tc:=0) (n:=zK) (a:=zK) (g:=zK) (md:=0) (pd:=0) (v:=AR.zV) B0.out HQ.out);rcases HC.out with⟨h1,rfl⟩|⟨h1,h2,rfl⟩
 . by_cases hk:kd < 0
   . go_wp2_with(first|(refine Iy rfl rfl ?_)|(refine dz rfl _ _ rfl K0.out rfl rfl ?_))
     refine bodyPost_ret (AR.bc rfl _ _ _ ⟨q,0,none⟩ _ rfl (cy F.out)) rfl ?_;exact⟨rfl,F2.out⟩
   . have lq:4 < kd:=by simpa[hk] using h1
     go_wp2_with(first|(refine Iy rfl rfl ?_)|(refine dz rfl _ _ rfl K0.out rfl rfl ?_))
     refine bodyPost_ret (AR.bc rfl _ _ _ ⟨q,0,none⟩ _ rfl (cy F.out)) rfl ?_;exact⟨rfl,F2.out⟩
 . have hk:¬kd < 0:=by intro h;rw[decide_eq_true h] at h1;cases h1
   have lq:¬4 < kd:=by intro h;rw[decide_eq_true h,Bool.or_true] at h1;cases h1
   have U1:=J (h2▸UR.out W z:Calls prog 44 #[.int .i64 z] W (λe w'=>e= .returned (.bool false)/\W=w'));clear h1 h2 UR HC We;go_wp2_with fail
   refine U1.out.mono ?_;rintro e W1 ⟨rfl,rfl⟩;go_wp2_with(first|(refine Iy rfl rfl ?_)|(refine dz rfl _ _ rfl K0.out rfl rfl ?_))
   refine bodyPost_ret (AR.bc rfl _ _ _ ⟨q,0,none⟩ _ rfl (cy F.out)) rfl ?_;exact⟨rfl,F2.out⟩
theorem OU{w:zw}{P:Nat->Prop}{r:AR.Sl}(h:r.n=0):AR.SW w P r []:=by
 obtain⟨A,n,c⟩:=r;obtain rfl:n=0:=h;exact AR.SW.nil _ _ _ _
end P9
namespace P9
open Go.RowKit Sg
theorem KC(w:zw)(P:Nat->Prop)(k m:Nat)(hk:k < 5)(hm:m<=16777216):Calls prog 14 #[.int .i64 (k:Int),.int .i64 (m:Int)] w (CT w P (λx=> .tuple #[x,.int .i64 0]) k m m m (decide (k=2)) m (m / 2) m 0 [] [] [] [] [] (λ_=>[])):=by
 have UR:=fP;have hz:(decide (0<=(m:Int))&&decide ((m:Int)<=16777216))=true:=by rw[decide_eq_true (by omega),decide_eq_true (by omega)];rfl
 have K0:=zs (RB (w.alloc aR) w.heap.size 0 0 0 zS 0 false zS 0 0 zK zK zK 0 0 AR.zV) (heap_alloc_new _ _);have B0:=J ((zo w.heap.size w).alloc (zg _) aR);have UA:=J (λW=>LR.nj W m (by omega));obtain⟨c,hc⟩:=zx (decide (k=2));have UB:=J (λW=>LF.nj W m c (by omega));obtain⟨t,ht⟩:=zx (m / 2);have UC:=J (λW=>(ht▸SR.Nl W (m:Int) m (by omega) (by omega):Calls prog 47 #[.int .i64 (m:Int)] W (λe w'=>e= .returned (SR.aU m t ⟨none,0,0⟩ ⟨none,0,0⟩ ⟨none,0,0⟩)/\Below W.heap.size W w')));have UD:=J (λW=>AR.Jp W P (m:Int) (by omega));have wM:(m:Int).toNat=m:=by omega
 rw[wM] at UD;rw[← hc,<-ht];have e2:((k:Int)==2)=c:=by rw[hc];by_cases h:k=2 <;> simp[h];omega
 have Jo:¬(k:Int) < 0:=by omega
 have lq:¬(4:Int) < (k:Int):=by omega
 clear hc ht wM hk hm;go_enter func14,ntmps14;go_upto_region 1 with fail
 obtain⟨q,hq⟩:=zx w.heap.size;have HQ:=zs (w.heap.size<=q) (xf hq.symm);rw[← hq] at K0|-;clear hq;generalize w.alloc aR=W at K0 B0|-;have U1:=J (hz▸UR W (m:Int):Calls prog 44 #[.int .i64 (m:Int)] W (λe w'=>e= .returned (.bool true)/\W=w'));clear UR hz;go_wp2_with fail
 refine U1.out.mono ?_;rintro e W1 ⟨rfl,rfl⟩;clear U1;go_wp2_with fail
 refine(UA.out _).mono ?_;rintro e W1 ⟨rfl,dh⟩;have K1:=J (K0.out.below dh);have B1:=J (B0.out.trans (dh.mono B0.out.size));clear dh UA;go_wp2_with fail
 refine(UB.out _).mono ?_;rintro e W2 ⟨rfl,dh⟩;have K2:=J (K1.out.below dh);have B2:=J (B1.out.trans (dh.mono B1.out.size));clear dh UB;go_wp2_with fail
 refine(UC.out _).mono ?_;rintro e W3 ⟨rfl,dh⟩;have K3:=J (K2.out.below dh);have B3:=J (B2.out.trans (dh.mono B2.out.size));clear dh UC;go_wp2_with fail
 refine(UD.out _).mono ?_;rintro e W4 ⟨v9,rfl,hr,dh⟩;have K4:=J (K3.out.below dh);have B4:=J (B3.out.trans (dh.mono B3.out.size));have F:=zs (RB (bH W4 q k m m zS m c zS m t zK zK zK m 0 v9) q k m m zS m c zS m t zK zK zK m 0 v9) K4.out.put;have F2:=J (dw (k:=k) (mo:=m) (ma:=m) (la:=zS) (mb:=m) (ch:=c) (lb:=zS) (mc:=m) (tc:=t) (n:=zK) (a:=zK) (g:=zK) (md:=m) (pd:=0) (v:=v9) B4.out HQ.out);have HR:=zs (∀j,j < 4->(v9 j).n=0) (λj hj=>(hr j hj).len.symm);clear hr dh UD;go_wp2_with(first|(refine Ud (k:=k) (mo:=m) (ma:=m) (la:=zS) (mb:=m) (ch:=c) (lb:=zS) (mc:=m) (tc:=t) (n:=zK) (a:=zK) (g:=zK) (md:=m) (pd:=0) (v:=v9) rfl _ _ _ _ _ _ rfl rfl rfl rfl rfl rfl rfl ?_)|(refine dz (k:=k) (mo:=m) (ma:=m) (la:=zS) (mb:=m) (ch:=c) (lb:=zS) (mc:=m) (tc:=t) (n:=zK) (a:=zK) (g:=zK) (md:=m) (pd:=0) (v:=v9) rfl _ _ rfl K4.out rfl rfl ?_))
 refine bodyPost_ret (AR.bc rfl _ _ _ ⟨q,0,none⟩ _ rfl (cy F.out)) rfl ?_;exact⟨zS,zS,zK,zK,zK,v9,rfl,⟨AR.SW.nil _ _ _ _,ZW.nil _ _ _ _,⟨SR.KW.nil _ _ _ _,SR.KW.nil _ _ _ _,SR.KW.nil _ _ _ _⟩,λj hj=>OU (HR.out j hj)⟩,F2.out⟩
end P9
namespace P9
open Go.RowKit Sg
section
variable(w:zw)(P:Nat->Prop)(mo ma:Nat)(la:AR.Sl)(mb:Nat)(ch:Bool)(lb:AR.Sl)(mc tc:Nat)(n a g:SR.Sl)(md pd:Nat)(v:AR.S4)(xs:zY)(B:List (LF.Ht.aa zy))(N A G:List SR.KE)(X:AR.L4)(h:R9 w P la lb n a g v xs B N A G X)(hP:AR.Cl w P)(key:zy)(t:Bool)
include h hP
theorem KF(dv:Nat)(rR:zY)(U:∀(W:zw) (Q:Nat->Prop),AR.SW W Q la xs->AR.Cl W Q->Calls prog 59 #[.agg #[.int .i64 (ma:Int),.slice la.A la.n la.c],.string key] W (x7 (λx=> .tuple #[x,.bool t]) W Q dv rR)):Calls prog 21 #[ba 0 mo ma la mb ch lb mc tc n a g md pd v,.string key] w (CT w P (λx=> .tuple #[x,.bool t]) 0 mo dv mb ch mc tc md pd rR B N A G X):=by
 have R0:=J (bF h hP 0 mo ma mb ch mc tc md pd);clear h hP;go_enter func21,ntmps21;go_upto_region 2 with fail
 generalize(w.alloc (bn 0 mo ma la mb ch lb mc tc n a g md pd v)).alloc aR=W at R0|-;generalize w.heap.size+1=q at R0|-;obtain⟨p,hp⟩:=zx w.heap.size;rw[← hp] at R0|-;have bR:=J hp;clear hp;have U1:=J (U W _ R0.out.b.rows.ra R0.out.b.cl);obtain⟨c0,c1,c2,c3,c4,c5,c6,c7,c8,c9,b8,b9,cd,cj,ck,cq,cr,ct⟩:=R0.out.b.box.c;go_wp2_with fail
 refine U1.out.mono ?_;rintro e W1 ⟨r9,rfl,hr,hB⟩;have aD:=R0.out.below hB;have R1:=J (aD.jk (u:=dv) hr);obtain⟨_,_,d2,d3,_,_,_,_,_,_,_,_,_,_,_,_,_,_⟩:=aD.b.box.c;obtain⟨_,_,f2,f3,_,_,_,_,_,_,_,_,_,_,_,_,_,_⟩:=aD.b.box.f;clear c0 c1 c2 c3 c4 c5 c6 c7 c8 c9 b8 b9 cd cj ck cq cr ct hr hB aD U1 R0;go_upto_region 12 with fail
 clear d2 d3 f2 f3;generalize(W1.setCell ⟨p,2,none⟩ (.int .i64 (dv:Int))).setCell ⟨p,3,none⟩ (.slice r9.A r9.n r9.c)=W2 at R1|-;have RO:=R1.out.out;have O1:=J RO.1;have O2:=J RO.2.1;have O3:=J RO.2.2;clear RO;go_wp2_with(first|(refine cN rfl _ rfl R1.out.b.box rfl ?_)|(refine dz rfl _ _ rfl R1.out.res rfl rfl ?_))
 refine bodyPost_ret (AR.bc rfl _ _ _ ⟨q,0,none⟩ _ rfl (cy O1.out)) rfl ?_;exact⟨_,_,_,_,_,_,rfl,O2.out,O3.out⟩
theorem KG(bK:Nat)(B':List (LF.Ht.aa zy))(U:∀(W:zw) (Q:Nat->Prop),ZW W Q lb B->AR.Cl W Q->Calls prog 60 #[.agg #[.int .i64 (mb:Int),.bool ch,.slice lb.A lb.n lb.c],.string key] W (kQ (λx=> .tuple #[x,.bool t]) W Q bK ch B')):Calls prog 21 #[ba 1 mo ma la mb ch lb mc tc n a g md pd v,.string key] w (CT w P (λx=> .tuple #[x,.bool t]) 1 mo ma bK ch mc tc md pd xs B' N A G X):=by
 have R0:=J (bF h hP 1 mo ma mb ch mc tc md pd);clear h hP;go_enter func21,ntmps21;go_upto_region 2 with fail
 generalize(w.alloc (bn 1 mo ma la mb ch lb mc tc n a g md pd v)).alloc aR=W at R0|-;generalize w.heap.size+1=q at R0|-;obtain⟨p,hp⟩:=zx w.heap.size;rw[← hp] at R0|-;have bR:=J hp;clear hp;have U1:=J (U W _ R0.out.b.rows.rb R0.out.b.cl);obtain⟨c0,c1,c2,c3,c4,c5,c6,c7,c8,c9,b8,b9,cd,cj,ck,cq,cr,ct⟩:=R0.out.b.box.c;go_wp2_with fail
 refine U1.out.mono ?_;rintro e W1 ⟨r9,rfl,hr,hB⟩;have aD:=R0.out.below hB;have R1:=J (aD.nU (u:=bK) (b:=ch) hr);obtain⟨_,_,_,_,d4,d5,d6,_,_,_,_,_,_,_,_,_,_,_⟩:=aD.b.box.c;obtain⟨_,_,_,_,f4,f5,f6,_,_,_,_,_,_,_,_,_,_,_⟩:=aD.b.box.f;clear c0 c1 c2 c3 c4 c5 c6 c7 c8 c9 b8 b9 cd cj ck cq cr ct hr hB aD U1 R0;go_upto_region 12 with fail
 clear d4 d5 d6 f4 f5 f6;generalize((W1.setCell ⟨p,4,none⟩ (.int .i64 (bK:Int))).setCell ⟨p,5,none⟩ (.bool ch)).setCell ⟨p,6,none⟩ (.slice r9.A r9.n r9.c)=W2 at R1|-;have RO:=R1.out.out;have O1:=J RO.1;have O2:=J RO.2.1;have O3:=J RO.2.2;clear RO;go_wp2_with(first|(refine cN rfl _ rfl R1.out.b.box rfl ?_)|(refine dz rfl _ _ rfl R1.out.res rfl rfl ?_))
 refine bodyPost_ret (AR.bc rfl _ _ _ ⟨q,0,none⟩ _ rfl (cy O1.out)) rfl ?_;exact⟨_,_,_,_,_,_,rfl,O2.out,O3.out⟩
theorem KH(bK:Nat)(B':List (LF.Ht.aa zy))(U:∀(W:zw) (Q:Nat->Prop),ZW W Q lb B->AR.Cl W Q->Calls prog 60 #[.agg #[.int .i64 (mb:Int),.bool ch,.slice lb.A lb.n lb.c],.string key] W (kQ (λx=> .tuple #[x,.bool t]) W Q bK ch B')):Calls prog 21 #[ba 2 mo ma la mb ch lb mc tc n a g md pd v,.string key] w (CT w P (λx=> .tuple #[x,.bool t]) 2 mo ma bK ch mc tc md pd xs B' N A G X):=by
 have R0:=J (bF h hP 2 mo ma mb ch mc tc md pd);clear h hP;go_enter func21,ntmps21;go_upto_region 2 with fail
 generalize(w.alloc (bn 2 mo ma la mb ch lb mc tc n a g md pd v)).alloc aR=W at R0|-;generalize w.heap.size+1=q at R0|-;obtain⟨p,hp⟩:=zx w.heap.size;rw[← hp] at R0|-;have bR:=J hp;clear hp;have U1:=J (U W _ R0.out.b.rows.rb R0.out.b.cl);obtain⟨c0,c1,c2,c3,c4,c5,c6,c7,c8,c9,b8,b9,cd,cj,ck,cq,cr,ct⟩:=R0.out.b.box.c;go_wp2_with fail
 refine U1.out.mono ?_;rintro e W1 ⟨r9,rfl,hr,hB⟩;have aD:=R0.out.below hB;have R1:=J (aD.nU (u:=bK) (b:=ch) hr);obtain⟨_,_,_,_,d4,d5,d6,_,_,_,_,_,_,_,_,_,_,_⟩:=aD.b.box.c;obtain⟨_,_,_,_,f4,f5,f6,_,_,_,_,_,_,_,_,_,_,_⟩:=aD.b.box.f;clear c0 c1 c2 c3 c4 c5 c6 c7 c8 c9 b8 b9 cd cj ck cq cr ct hr hB aD U1 R0;go_upto_region 12 with fail
 clear d4 d5 d6 f4 f5 f6;generalize((W1.setCell ⟨p,4,none⟩ (.int .i64 (bK:Int))).setCell ⟨p,5,none⟩ (.bool ch)).setCell ⟨p,6,none⟩ (.slice r9.A r9.n r9.c)=W2 at R1|-;have RO:=R1.out.out;have O1:=J RO.1;have O2:=J RO.2.1;have O3:=J RO.2.2;clear RO;go_wp2_with(first|(refine cN rfl _ rfl R1.out.b.box rfl ?_)|(refine dz rfl _ _ rfl R1.out.res rfl rfl ?_))
 refine bodyPost_ret (AR.bc rfl _ _ _ ⟨q,0,none⟩ _ rfl (cy O1.out)) rfl ?_;exact⟨_,_,_,_,_,_,rfl,O2.out,O3.out⟩
theorem KI(db dc:Nat)(N' A' G':List SR.KE)(U:∀(W:zw) (Q:Nat->Prop),SR.Rw W Q n a g N A G->AR.Cl W Q->Calls prog 61 #[SR.aU mc tc n a g,.string key] W (SR.CT W Q (λx=> .tuple #[x,.bool t]) db dc N' A' G')):Calls prog 21 #[ba 3 mo ma la mb ch lb mc tc n a g md pd v,.string key] w (CT w P (λx=> .tuple #[x,.bool t]) 3 mo ma mb ch db dc md pd xs B N' A' G' X):=by
 have R0:=J (bF h hP 3 mo ma mb ch mc tc md pd);clear h hP;go_enter func21,ntmps21;go_upto_region 2 with fail
 generalize(w.alloc (bn 3 mo ma la mb ch lb mc tc n a g md pd v)).alloc aR=W at R0|-;generalize w.heap.size+1=q at R0|-;obtain⟨p,hp⟩:=zx w.heap.size;rw[← hp] at R0|-;have bR:=J hp;clear hp;have U1:=J (U W _ R0.out.b.rows.rc R0.out.b.cl);obtain⟨c0,c1,c2,c3,c4,c5,c6,c7,c8,c9,b8,b9,cd,cj,ck,cq,cr,ct⟩:=R0.out.b.box.c;go_wp2_with fail
 refine U1.out.mono ?_;rintro e W1 ⟨n9,a9,g9,rfl,hr,hB⟩;have aD:=R0.out.below hB;have R1:=J (aD.lK (u:=db) (t:=dc) hr);obtain⟨_,_,_,_,_,_,_,d7,d8,d9,d10,d11,_,_,_,_,_,_⟩:=aD.b.box.c;obtain⟨_,_,_,_,_,_,_,f7,f8,f9,f10,f11,_,_,_,_,_,_⟩:=aD.b.box.f;clear c0 c1 c2 c3 c4 c5 c6 c7 c8 c9 b8 b9 cd cj ck cq cr ct hr hB aD U1 R0;go_upto_region 12 with fail
 clear d7 d8 d9 d10 d11 f7 f8 f9 f10 f11;generalize((((W1.setCell ⟨p,7,none⟩ (.int .i64 (db:Int))).setCell ⟨p,8,none⟩ (.int .i64 (dc:Int))).setCell ⟨p,9,none⟩ (.slice n9.A n9.n n9.c)).setCell ⟨p,10,none⟩ (.slice a9.A a9.n a9.c)).setCell ⟨p,11,none⟩ (.slice g9.A g9.n g9.c)=W2 at R1|-;have RO:=R1.out.out;have O1:=J RO.1;have O2:=J RO.2.1;have O3:=J RO.2.2;clear RO;go_wp2_with(first|(refine cN rfl _ rfl R1.out.b.box rfl ?_)|(refine dz rfl _ _ rfl R1.out.res rfl rfl ?_))
 refine bodyPost_ret (AR.bc rfl _ _ _ ⟨q,0,none⟩ _ rfl (cy O1.out)) rfl ?_;exact⟨_,_,_,_,_,_,rfl,O2.out,O3.out⟩
theorem KJ(dd de:Nat)(X':AR.L4)(U:∀(W:zw) (Q:Nat->Prop),AR.R4 W Q v X->AR.Cl W Q->Calls prog 62 #[AR.aU md pd v,.string key] W (AR.CT W Q (λx=> .tuple #[x,.bool t]) dd de X')):Calls prog 21 #[ba 4 mo ma la mb ch lb mc tc n a g md pd v,.string key] w (CT w P (λx=> .tuple #[x,.bool t]) 4 mo ma mb ch mc tc dd de xs B N A G X'):=by
 have R0:=J (bF h hP 4 mo ma mb ch mc tc md pd);clear h hP;go_enter func21,ntmps21;go_upto_region 2 with fail
 generalize(w.alloc (bn 4 mo ma la mb ch lb mc tc n a g md pd v)).alloc aR=W at R0|-;generalize w.heap.size+1=q at R0|-;obtain⟨p,hp⟩:=zx w.heap.size;rw[← hp] at R0|-;have bR:=J hp;clear hp;have U1:=J (U W _ R0.out.b.rows.rd R0.out.b.cl);obtain⟨c0,c1,c2,c3,c4,c5,c6,c7,c8,c9,b8,b9,cd,cj,ck,cq,cr,ct⟩:=R0.out.b.box.c;go_wp2_with fail
 refine U1.out.mono ?_;rintro e W1 ⟨v9,rfl,hr,hB⟩;have aD:=R0.out.below hB;have R1:=J (aD.pP (u:=dd) (t:=de) hr);obtain⟨_,_,_,_,_,_,_,_,_,_,_,_,d12,d13,d14,d15,d16,d17⟩:=aD.b.box.c;obtain⟨_,_,_,_,_,_,_,_,_,_,_,_,f12,f13,f14,f15,f16,f17⟩:=aD.b.box.f;clear c0 c1 c2 c3 c4 c5 c6 c7 c8 c9 b8 b9 cd cj ck cq cr ct hr hB aD U1 R0;go_upto_region 12 with fail
 clear d12 d13 d14 d15 d16 d17 f12 f13 f14 f15 f16 f17;generalize(((((W1.setCell ⟨p,12,none⟩ (.int .i64 (dd:Int))).setCell ⟨p,13,none⟩ (.int .i64 (de:Int))).setCell ⟨p,14,none⟩ (.slice (v9 0).A (v9 0).n (v9 0).c)).setCell ⟨p,15,none⟩ (.slice (v9 1).A (v9 1).n (v9 1).c)).setCell ⟨p,16,none⟩ (.slice (v9 2).A (v9 2).n (v9 2).c)).setCell ⟨p,17,none⟩ (.slice (v9 3).A (v9 3).n (v9 3).c)=W2 at R1|-;have RO:=R1.out.out;have O1:=J RO.1;have O2:=J RO.2.1;have O3:=J RO.2.2;clear RO;go_wp2_with(first|(refine cN rfl _ rfl R1.out.b.box rfl ?_)|(refine dz rfl _ _ rfl R1.out.res rfl rfl ?_))
 refine bodyPost_ret (AR.bc rfl _ _ _ ⟨q,0,none⟩ _ rfl (cy O1.out)) rfl ?_;exact⟨_,_,_,_,_,_,rfl,O2.out,O3.out⟩
end
end P9
namespace P9
open Go.RowKit Sg
section
variable(w:zw)(P:Nat->Prop)(mo ma:Nat)(la:AR.Sl)(mb:Nat)(ch:Bool)(lb:AR.Sl)(mc tc:Nat)(n a g:SR.Sl)(md pd:Nat)(v:AR.S4)(xs:zY)(B:List (LF.Ht.aa zy))(N A G:List SR.KE)(X:AR.L4)(h:R9 w P la lb n a g v xs B N A G X)(hP:AR.Cl w P)(vk:zy)(vb:Bool)
include h hP
theorem OV(V:∀(W:zw) (Q:Nat->Prop),R9 W Q la lb n a g v xs B N A G X->AR.Cl W Q->Calls prog 29 #[ba 0 mo ma la mb ch lb mc tc n a g md pd v] W (AR.dV (.tuple #[.string vk,.bool vb]) W))(hl:xs.length<=1000):Calls prog 24 #[ba 0 mo ma la mb ch lb mc tc n a g md pd v] w (CT w P (λx=> .tuple #[x,.string vk,.bool vb]) 0 mo ma mb ch mc tc md pd (rem xs vk) B N A G X):=by
 have R0:=J (bF h hP 0 mo ma mb ch mc tc md pd);clear h hP;go_enter func24,ntmps24;go_upto_region 1 with fail
 generalize(w.alloc (bn 0 mo ma la mb ch lb mc tc n a g md pd v)).alloc aR=W at R0|-;generalize w.heap.size+1=q at R0|-;obtain⟨p,hp⟩:=zx w.heap.size;rw[← hp] at R0|-;have bR:=J hp;clear hp;have V1:=J (V W _ R0.out.b.rows R0.out.b.cl);go_wp2_with(refine cN rfl _ rfl R0.out.b.box rfl ?_)
 refine V1.out.mono ?_;rintro e W0 ⟨rfl,hB⟩;have R1:=J (R0.out.below hB);clear hB V1 R0;obtain⟨c0,c1,c2,c3,c4,c5,c6,c7,c8,c9,b8,b9,cd,cj,ck,cq,cr,ct⟩:=R1.out.b.box.c;have U1:=J (AR.sn W0 _ la xs vk R1.out.b.rows.ra R1.out.b.cl (by omega));go_wp2_with fail
 refine U1.out.mono ?_;rintro e W1 ⟨r9,rfl,hr,hB⟩;have aD:=R1.out.below hB;have R2:=J (aD.fE hr);obtain⟨_,_,d2,d3,_,_,_,_,_,_,_,_,_,_,_,_,_,_⟩:=aD.b.box.c;obtain⟨_,_,f2,f3,_,_,_,_,_,_,_,_,_,_,_,_,_,_⟩:=aD.b.box.f;clear c0 c1 c2 c3 c4 c5 c6 c7 c8 c9 b8 b9 cd cj ck cq cr ct hr hB aD U1 R1;go_upto_region 12 with fail
 clear d2 d3 f2 f3;generalize W1.setCell ⟨p,3,none⟩ (.slice r9.A r9.n r9.c)=W2 at R2|-;have RO:=R2.out.out;have O1:=J RO.1;have O2:=J RO.2.1;have O3:=J RO.2.2;clear RO;go_wp2_with(first|(refine cN rfl _ rfl R2.out.b.box rfl ?_)|(refine dz rfl _ _ rfl R2.out.res rfl rfl ?_))
 refine bodyPost_ret (AR.bg rfl _ _ _ ⟨q,0,none⟩ _ rfl (cy O1.out)) rfl ?_;exact⟨_,_,_,_,_,_,rfl,O2.out,O3.out⟩
theorem OW(bK:Nat)(B':List (LF.Ht.aa zy))(V:∀(W:zw) (Q:Nat->Prop),R9 W Q la lb n a g v xs B N A G X->AR.Cl W Q->Calls prog 29 #[ba 1 mo ma la mb ch lb mc tc n a g md pd v] W (AR.dV (.tuple #[.string vk,.bool vb]) W))(k2:zy)(b2:Bool)(U:∀(W:zw) (Q:Nat->Prop),ZW W Q lb B->AR.Cl W Q->Calls prog 63 #[.agg #[.int .i64 (mb:Int),.bool ch,.slice lb.A lb.n lb.c]] W (kQ (λx=> .tuple #[x,.string k2,.bool b2]) W Q bK ch B')):Calls prog 24 #[ba 1 mo ma la mb ch lb mc tc n a g md pd v] w (CT w P (λx=> .tuple #[x,.string vk,.bool vb]) 1 mo ma bK ch mc tc md pd xs B' N A G X):=by
 have R0:=J (bF h hP 1 mo ma mb ch mc tc md pd);clear h hP;go_enter func24,ntmps24;go_upto_region 1 with fail
 generalize(w.alloc (bn 1 mo ma la mb ch lb mc tc n a g md pd v)).alloc aR=W at R0|-;generalize w.heap.size+1=q at R0|-;obtain⟨p,hp⟩:=zx w.heap.size;rw[← hp] at R0|-;have bR:=J hp;clear hp;have V1:=J (V W _ R0.out.b.rows R0.out.b.cl);go_wp2_with(refine cN rfl _ rfl R0.out.b.box rfl ?_)
 refine V1.out.mono ?_;rintro e W0 ⟨rfl,hB⟩;have R1:=J (R0.out.below hB);clear hB V1 R0;obtain⟨c0,c1,c2,c3,c4,c5,c6,c7,c8,c9,b8,b9,cd,cj,ck,cq,cr,ct⟩:=R1.out.b.box.c;have U1:=J (U W0 _ R1.out.b.rows.rb R1.out.b.cl);go_wp2_with fail
 refine U1.out.mono ?_;rintro e W1 ⟨r9,rfl,hr,hB⟩;have aD:=R1.out.below hB;have R2:=J (aD.nU (u:=bK) (b:=ch) hr);obtain⟨_,_,_,_,d4,d5,d6,_,_,_,_,_,_,_,_,_,_,_⟩:=aD.b.box.c;obtain⟨_,_,_,_,f4,f5,f6,_,_,_,_,_,_,_,_,_,_,_⟩:=aD.b.box.f;clear c0 c1 c2 c3 c4 c5 c6 c7 c8 c9 b8 b9 cd cj ck cq cr ct hr hB aD U1 R1;go_upto_region 12 with fail
 clear d4 d5 d6 f4 f5 f6;generalize((W1.setCell ⟨p,4,none⟩ (.int .i64 (bK:Int))).setCell ⟨p,5,none⟩ (.bool ch)).setCell ⟨p,6,none⟩ (.slice r9.A r9.n r9.c)=W2 at R2|-;have RO:=R2.out.out;have O1:=J RO.1;have O2:=J RO.2.1;have O3:=J RO.2.2;clear RO;go_wp2_with(first|(refine cN rfl _ rfl R2.out.b.box rfl ?_)|(refine dz rfl _ _ rfl R2.out.res rfl rfl ?_))
 refine bodyPost_ret (AR.bg rfl _ _ _ ⟨q,0,none⟩ _ rfl (cy O1.out)) rfl ?_;exact⟨_,_,_,_,_,_,rfl,O2.out,O3.out⟩
theorem OX(bK:Nat)(B':List (LF.Ht.aa zy))(V:∀(W:zw) (Q:Nat->Prop),R9 W Q la lb n a g v xs B N A G X->AR.Cl W Q->Calls prog 29 #[ba 2 mo ma la mb ch lb mc tc n a g md pd v] W (AR.dV (.tuple #[.string vk,.bool vb]) W))(k2:zy)(b2:Bool)(U:∀(W:zw) (Q:Nat->Prop),ZW W Q lb B->AR.Cl W Q->Calls prog 63 #[.agg #[.int .i64 (mb:Int),.bool ch,.slice lb.A lb.n lb.c]] W (kQ (λx=> .tuple #[x,.string k2,.bool b2]) W Q bK ch B')):Calls prog 24 #[ba 2 mo ma la mb ch lb mc tc n a g md pd v] w (CT w P (λx=> .tuple #[x,.string vk,.bool vb]) 2 mo ma bK ch mc tc md pd xs B' N A G X):=by
 have R0:=J (bF h hP 2 mo ma mb ch mc tc md pd);clear h hP;go_enter func24,ntmps24;go_upto_region 1 with fail
 generalize(w.alloc (bn 2 mo ma la mb ch lb mc tc n a g md pd v)).alloc aR=W at R0|-;generalize w.heap.size+1=q at R0|-;obtain⟨p,hp⟩:=zx w.heap.size;rw[← hp] at R0|-;have bR:=J hp;clear hp;have V1:=J (V W _ R0.out.b.rows R0.out.b.cl);go_wp2_with(refine cN rfl _ rfl R0.out.b.box rfl ?_)
 refine V1.out.mono ?_;rintro e W0 ⟨rfl,hB⟩;have R1:=J (R0.out.below hB);clear hB V1 R0;obtain⟨c0,c1,c2,c3,c4,c5,c6,c7,c8,c9,b8,b9,cd,cj,ck,cq,cr,ct⟩:=R1.out.b.box.c;have U1:=J (U W0 _ R1.out.b.rows.rb R1.out.b.cl);go_wp2_with fail
 refine U1.out.mono ?_;rintro e W1 ⟨r9,rfl,hr,hB⟩;have aD:=R1.out.below hB;have R2:=J (aD.nU (u:=bK) (b:=ch) hr);obtain⟨_,_,_,_,d4,d5,d6,_,_,_,_,_,_,_,_,_,_,_⟩:=aD.b.box.c;obtain⟨_,_,_,_,f4,f5,f6,_,_,_,_,_,_,_,_,_,_,_⟩:=aD.b.box.f;clear c0 c1 c2 c3 c4 c5 c6 c7 c8 c9 b8 b9 cd cj ck cq cr ct hr hB aD U1 R1;go_upto_region 12 with fail
 clear d4 d5 d6 f4 f5 f6;generalize((W1.setCell ⟨p,4,none⟩ (.int .i64 (bK:Int))).setCell ⟨p,5,none⟩ (.bool ch)).setCell ⟨p,6,none⟩ (.slice r9.A r9.n r9.c)=W2 at R2|-;have RO:=R2.out.out;have O1:=J RO.1;have O2:=J RO.2.1;have O3:=J RO.2.2;clear RO;go_wp2_with(first|(refine cN rfl _ rfl R2.out.b.box rfl ?_)|(refine dz rfl _ _ rfl R2.out.res rfl rfl ?_))
 refine bodyPost_ret (AR.bg rfl _ _ _ ⟨q,0,none⟩ _ rfl (cy O1.out)) rfl ?_;exact⟨_,_,_,_,_,_,rfl,O2.out,O3.out⟩
theorem OY(db dc:Nat)(N' A' G':List SR.KE)(V:∀(W:zw) (Q:Nat->Prop),R9 W Q la lb n a g v xs B N A G X->AR.Cl W Q->Calls prog 29 #[ba 3 mo ma la mb ch lb mc tc n a g md pd v] W (AR.dV (.tuple #[.string vk,.bool vb]) W))(k2:zy)(b2:Bool)(U:∀(W:zw) (Q:Nat->Prop),SR.Rw W Q n a g N A G->AR.Cl W Q->Calls prog 64 #[SR.aU mc tc n a g] W (SR.CT W Q (λx=> .tuple #[x,.string k2,.bool b2]) db dc N' A' G')):Calls prog 24 #[ba 3 mo ma la mb ch lb mc tc n a g md pd v] w (CT w P (λx=> .tuple #[x,.string vk,.bool vb]) 3 mo ma mb ch db dc md pd xs B N' A' G' X):=by
 have R0:=J (bF h hP 3 mo ma mb ch mc tc md pd);clear h hP;go_enter func24,ntmps24;go_upto_region 1 with fail
 generalize(w.alloc (bn 3 mo ma la mb ch lb mc tc n a g md pd v)).alloc aR=W at R0|-;generalize w.heap.size+1=q at R0|-;obtain⟨p,hp⟩:=zx w.heap.size;rw[← hp] at R0|-;have bR:=J hp;clear hp;have V1:=J (V W _ R0.out.b.rows R0.out.b.cl);go_wp2_with(refine cN rfl _ rfl R0.out.b.box rfl ?_)
 refine V1.out.mono ?_;rintro e W0 ⟨rfl,hB⟩;have R1:=J (R0.out.below hB);clear hB V1 R0;obtain⟨c0,c1,c2,c3,c4,c5,c6,c7,c8,c9,b8,b9,cd,cj,ck,cq,cr,ct⟩:=R1.out.b.box.c;have U1:=J (U W0 _ R1.out.b.rows.rc R1.out.b.cl);go_wp2_with fail
 refine U1.out.mono ?_;rintro e W1 ⟨n9,a9,g9,rfl,hr,hB⟩;have aD:=R1.out.below hB;have R2:=J (aD.lK (u:=db) (t:=dc) hr);obtain⟨_,_,_,_,_,_,_,d7,d8,d9,d10,d11,_,_,_,_,_,_⟩:=aD.b.box.c;obtain⟨_,_,_,_,_,_,_,f7,f8,f9,f10,f11,_,_,_,_,_,_⟩:=aD.b.box.f;clear c0 c1 c2 c3 c4 c5 c6 c7 c8 c9 b8 b9 cd cj ck cq cr ct hr hB aD U1 R1;go_upto_region 12 with fail
 clear d7 d8 d9 d10 d11 f7 f8 f9 f10 f11;generalize((((W1.setCell ⟨p,7,none⟩ (.int .i64 (db:Int))).setCell ⟨p,8,none⟩ (.int .i64 (dc:Int))).setCell ⟨p,9,none⟩ (.slice n9.A n9.n n9.c)).setCell ⟨p,10,none⟩ (.slice a9.A a9.n a9.c)).setCell ⟨p,11,none⟩ (.slice g9.A g9.n g9.c)=W2 at R2|-;have RO:=R2.out.out;have O1:=J RO.1;have O2:=J RO.2.1;have O3:=J RO.2.2;clear RO;go_wp2_with(first|(refine cN rfl _ rfl R2.out.b.box rfl ?_)|(refine dz rfl _ _ rfl R2.out.res rfl rfl ?_))
 refine bodyPost_ret (AR.bg rfl _ _ _ ⟨q,0,none⟩ _ rfl (cy O1.out)) rfl ?_;exact⟨_,_,_,_,_,_,rfl,O2.out,O3.out⟩
theorem OZ(dd de:Nat)(X':AR.L4)(V:∀(W:zw) (Q:Nat->Prop),R9 W Q la lb n a g v xs B N A G X->AR.Cl W Q->Calls prog 29 #[ba 4 mo ma la mb ch lb mc tc n a g md pd v] W (AR.dV (.tuple #[.string vk,.bool vb]) W))(k2:zy)(b2:Bool)(U:∀(W:zw) (Q:Nat->Prop),AR.R4 W Q v X->AR.Cl W Q->Calls prog 65 #[AR.aU md pd v] W (AR.CT W Q (λx=> .tuple #[x,.string k2,.bool b2]) dd de X')):Calls prog 24 #[ba 4 mo ma la mb ch lb mc tc n a g md pd v] w (CT w P (λx=> .tuple #[x,.string vk,.bool vb]) 4 mo ma mb ch mc tc dd de xs B N A G X'):=by
 have R0:=J (bF h hP 4 mo ma mb ch mc tc md pd);clear h hP;go_enter func24,ntmps24;go_upto_region 1 with fail
 generalize(w.alloc (bn 4 mo ma la mb ch lb mc tc n a g md pd v)).alloc aR=W at R0|-;generalize w.heap.size+1=q at R0|-;obtain⟨p,hp⟩:=zx w.heap.size;rw[← hp] at R0|-;have bR:=J hp;clear hp;have V1:=J (V W _ R0.out.b.rows R0.out.b.cl);go_wp2_with(refine cN rfl _ rfl R0.out.b.box rfl ?_)
 refine V1.out.mono ?_;rintro e W0 ⟨rfl,hB⟩;have R1:=J (R0.out.below hB);clear hB V1 R0;obtain⟨c0,c1,c2,c3,c4,c5,c6,c7,c8,c9,b8,b9,cd,cj,ck,cq,cr,ct⟩:=R1.out.b.box.c;have U1:=J (U W0 _ R1.out.b.rows.rd R1.out.b.cl);go_wp2_with fail
 refine U1.out.mono ?_;rintro e W1 ⟨v9,rfl,hr,hB⟩;have aD:=R1.out.below hB;have R2:=J (aD.pP (u:=dd) (t:=de) hr);obtain⟨_,_,_,_,_,_,_,_,_,_,_,_,d12,d13,d14,d15,d16,d17⟩:=aD.b.box.c;obtain⟨_,_,_,_,_,_,_,_,_,_,_,_,f12,f13,f14,f15,f16,f17⟩:=aD.b.box.f;clear c0 c1 c2 c3 c4 c5 c6 c7 c8 c9 b8 b9 cd cj ck cq cr ct hr hB aD U1 R1;go_upto_region 12 with fail
 clear d12 d13 d14 d15 d16 d17 f12 f13 f14 f15 f16 f17;generalize(((((W1.setCell ⟨p,12,none⟩ (.int .i64 (dd:Int))).setCell ⟨p,13,none⟩ (.int .i64 (de:Int))).setCell ⟨p,14,none⟩ (.slice (v9 0).A (v9 0).n (v9 0).c)).setCell ⟨p,15,none⟩ (.slice (v9 1).A (v9 1).n (v9 1).c)).setCell ⟨p,16,none⟩ (.slice (v9 2).A (v9 2).n (v9 2).c)).setCell ⟨p,17,none⟩ (.slice (v9 3).A (v9 3).n (v9 3).c)=W2 at R2|-;have RO:=R2.out.out;have O1:=J RO.1;have O2:=J RO.2.1;have O3:=J RO.2.2;clear RO;go_wp2_with(first|(refine cN rfl _ rfl R2.out.b.box rfl ?_)|(refine dz rfl _ _ rfl R2.out.res rfl rfl ?_))
 refine bodyPost_ret (AR.bg rfl _ _ _ ⟨q,0,none⟩ _ rfl (cy O1.out)) rfl ?_;exact⟨_,_,_,_,_,_,rfl,O2.out,O3.out⟩
end
end P9
namespace P9
open Go.RowKit Sg
def FB(w:zw)(P:Nat->Prop)(out:zY)(code:Int)(k mo ma mb:Nat)(ch:Bool)(mc tc md pd:Nat)(xs:zY)(B:List (LF.Ht.aa zy))(N A G:List SR.KE)(X:AR.L4)(e:Ending)(w':zw):Prop:=
 ∃u:AR.Sl,CT w P (λx=> .tuple #[x,.slice u.A u.n u.c,.int .i64 code]) k mo ma mb ch mc tc md pd xs B N A G X e w'/\AR.SW w' P u out
section
variable(w:zw)(P:Nat->Prop)(mo ma:Nat)(la:AR.Sl)(mb:Nat)(ch:Bool)(lb:AR.Sl)(mc tc:Nat)(n a g:SR.Sl)(md pd:Nat)(v:AR.S4)(xs:zY)(B:List (LF.Ht.aa zy))(N A G:List SR.KE)(X:AR.L4)(h:R9 w P la lb n a g v xs B N A G X)(hP:AR.Cl w P)(z:Int)
include h hP
theorem AZ(hz:(decide (0<=z)&&decide (z<=16777216))=false):Calls prog 26 #[ba 0 mo ma la mb ch lb mc tc n a g md pd v,.int .i64 z] w (CT w P (λx=> .tuple #[x,.slice none 0 0,.int .i64 1]) 0 mo ma mb ch mc tc md pd xs B N A G X):=by
 have UR:=fP;have R0:=J (bF h hP 0 mo ma mb ch mc tc md pd);clear h hP;go_enter func26,ntmps26;go_upto_region 1 with fail
 generalize(w.alloc (bn 0 mo ma la mb ch lb mc tc n a g md pd v)).alloc aR=W at R0|-;generalize w.heap.size+1=q at R0|-;obtain⟨p,hp⟩:=zx w.heap.size;rw[← hp] at R0|-;have bR:=J hp;clear hp;have U1:=J (hz▸UR W z:Calls prog 44 #[.int .i64 z] W (λe w'=>e= .returned (.bool false)/\W=w'));clear UR hz;go_wp2_with fail
 refine U1.out.mono ?_;rintro e W1 ⟨rfl,rfl⟩;clear U1;go_upto_region 2 with fail
 have RO:=R0.out.out;have O1:=J RO.1;have O2:=J RO.2.1;have O3:=J RO.2.2;clear RO;go_wp2_with(first|(refine cN rfl _ rfl R0.out.b.box rfl ?_)|(refine dz rfl _ _ rfl R0.out.res rfl rfl ?_))
 refine bodyPost_ret (AR.bg rfl _ _ _ ⟨q,0,none⟩ _ rfl (cy O1.out)) rfl ?_;exact⟨_,_,_,_,_,_,rfl,O2.out,O3.out⟩
theorem Iz(dv:Nat)(rR:zY)(m:Nat)(out:zY)(hm:m<=16777216)(U:∀(W:zw) (Q:Nat->Prop),AR.SW W Q la xs->AR.Cl W Q->Calls prog 66 #[.agg #[.int .i64 (ma:Int),.slice la.A la.n la.c],.int .i64 (m:Int)] W (OI W Q dv rR out)):Calls prog 26 #[ba 0 mo ma la mb ch lb mc tc n a g md pd v,.int .i64 (m:Int)] w (FB w P out 0 0 m dv mb ch mc tc md pd rR B N A G X):=by
 have UR:=fP;have R0:=J (bF h hP 0 mo ma mb ch mc tc md pd);clear h hP;go_enter func26,ntmps26;go_upto_region 1 with fail
 generalize(w.alloc (bn 0 mo ma la mb ch lb mc tc n a g md pd v)).alloc aR=W at R0|-;generalize w.heap.size+1=q at R0|-;obtain⟨p,hp⟩:=zx w.heap.size;rw[← hp] at R0|-;have bR:=J hp;clear hp;have hz:(decide (0<=(m:Int))&&decide ((m:Int)<=16777216))=true:=by rw[decide_eq_true (by omega),decide_eq_true (by omega)];rfl
 have U2:=J (hz▸UR W (m:Int):Calls prog 44 #[.int .i64 (m:Int)] W (λe w'=>e= .returned (.bool true)/\W=w'));clear UR hz hm;go_wp2_with fail
 refine U2.out.mono ?_;rintro e W0 ⟨rfl,rfl⟩;clear U2;have R1:=J (R0.out.p8 (u:=m) trivial);obtain⟨_,d1,_,_,_,_,_,_,_,_,_,_,_,_,_,_,_,_⟩:=R0.out.b.box.c;obtain⟨_,f1,_,_,_,_,_,_,_,_,_,_,_,_,_,_,_,_⟩:=R0.out.b.box.f;clear R0;go_upto_region 5 with fail
 clear d1 f1;generalize W.setCell ⟨p,1,none⟩ (.int .i64 (m:Int))=W3 at R1|-;have U1:=J (U W3 _ R1.out.b.rows.ra R1.out.b.cl);obtain⟨c0,c1,c2,c3,c4,c5,c6,c7,c8,c9,b8,b9,cd,cj,ck,cq,cr,ct⟩:=R1.out.b.box.c;go_wp2_with fail
 refine U1.out.mono ?_;rintro e W1 ⟨r9,u,rfl,hr,hu,hB⟩;have HU:=zs (AR.SW ((W1.setCell ⟨p,2,none⟩ (.int .i64 (dv:Int))).setCell ⟨p,3,none⟩ (.slice r9.A r9.n r9.c)) _ u out) (((hu.set (q:=⟨p,2,none⟩) R1.out.b.np _).set (q:=⟨p,3,none⟩) R1.out.b.np _));have aD:=R1.out.below hB;have R2:=J (aD.jk (u:=dv) hr);obtain⟨_,_,d2,d3,_,_,_,_,_,_,_,_,_,_,_,_,_,_⟩:=aD.b.box.c;obtain⟨_,_,f2,f3,_,_,_,_,_,_,_,_,_,_,_,_,_,_⟩:=aD.b.box.f;clear c0 c1 c2 c3 c4 c5 c6 c7 c8 c9 b8 b9 cd cj ck cq cr ct hr hu hB aD U1 R1;go_upto_region 15 with fail
 clear d2 d3 f2 f3;generalize(W1.setCell ⟨p,2,none⟩ (.int .i64 (dv:Int))).setCell ⟨p,3,none⟩ (.slice r9.A r9.n r9.c)=W2 at R2 HU|-;have vm:=zs (AR.SW (bH W2 q 0 m dv r9 mb ch lb mc tc n a g md pd v) P u out) ((((((((((((((((((((HU.out.set (q:=⟨q,0,none⟩) R2.out.np _).set (q:=⟨q,1,none⟩) R2.out.np _).set (q:=⟨q,2,none⟩) R2.out.np _).set (q:=⟨q,3,none⟩) R2.out.np _).set (q:=⟨q,4,none⟩) R2.out.np _).set (q:=⟨q,5,none⟩) R2.out.np _).set (q:=⟨q,6,none⟩) R2.out.np _).set (q:=⟨q,7,none⟩) R2.out.np _).set (q:=⟨q,8,none⟩) R2.out.np _).set (q:=⟨q,9,none⟩) R2.out.np _).set (q:=⟨q,10,none⟩) R2.out.np _).set (q:=⟨q,11,none⟩) R2.out.np _).set (q:=⟨q,12,none⟩) R2.out.np _).set (q:=⟨q,13,none⟩) R2.out.np _).set (q:=⟨q,14,none⟩) R2.out.np _).set (q:=⟨q,15,none⟩) R2.out.np _).set (q:=⟨q,16,none⟩) R2.out.np _).set (q:=⟨q,17,none⟩) R2.out.np _)).wide λ_ hk _=>hk.1);have RO:=R2.out.out;have O1:=J RO.1;have O2:=J RO.2.1;have O3:=J RO.2.2;clear RO;go_wp2_with(first|(refine cN rfl _ rfl R2.out.b.box rfl ?_)|(refine dz rfl _ _ rfl R2.out.res rfl rfl ?_))
 refine bodyPost_ret (AR.bg rfl _ _ _ ⟨q,0,none⟩ _ rfl (cy O1.out)) rfl ?_;exact⟨u,⟨_,_,_,_,_,_,rfl,O2.out,O3.out⟩,vm.out⟩
theorem A6(hz:(decide (0<=z)&&decide (z<=16777216))=false):Calls prog 26 #[ba 1 mo ma la mb ch lb mc tc n a g md pd v,.int .i64 z] w (CT w P (λx=> .tuple #[x,.slice none 0 0,.int .i64 1]) 1 mo ma mb ch mc tc md pd xs B N A G X):=by
 have UR:=fP;have R0:=J (bF h hP 1 mo ma mb ch mc tc md pd);clear h hP;go_enter func26,ntmps26;go_upto_region 1 with fail
 generalize(w.alloc (bn 1 mo ma la mb ch lb mc tc n a g md pd v)).alloc aR=W at R0|-;generalize w.heap.size+1=q at R0|-;obtain⟨p,hp⟩:=zx w.heap.size;rw[← hp] at R0|-;have bR:=J hp;clear hp;have U1:=J (hz▸UR W z:Calls prog 44 #[.int .i64 z] W (λe w'=>e= .returned (.bool false)/\W=w'));clear UR hz;go_wp2_with fail
 refine U1.out.mono ?_;rintro e W1 ⟨rfl,rfl⟩;clear U1;go_upto_region 2 with fail
 have RO:=R0.out.out;have O1:=J RO.1;have O2:=J RO.2.1;have O3:=J RO.2.2;clear RO;go_wp2_with(first|(refine cN rfl _ rfl R0.out.b.box rfl ?_)|(refine dz rfl _ _ rfl R0.out.res rfl rfl ?_))
 refine bodyPost_ret (AR.bg rfl _ _ _ ⟨q,0,none⟩ _ rfl (cy O1.out)) rfl ?_;exact⟨_,_,_,_,_,_,rfl,O2.out,O3.out⟩
theorem IA(bK:Nat)(Pr:List (LF.Ht.aa zy)->Prop)(m:Nat)(out:zY)(hm:m<=16777216)(U:∀(W:zw) (Q:Nat->Prop),ZW W Q lb B->AR.Cl W Q->Calls prog 67 #[.agg #[.int .i64 (mb:Int),.bool ch,.slice lb.A lb.n lb.c],.int .i64 (m:Int)] W (λe w'=>∃B',Dw W Q bK ch B' out e w'/\Pr B')):Calls prog 26 #[ba 1 mo ma la mb ch lb mc tc n a g md pd v,.int .i64 (m:Int)] w (λe w'=>∃B',FB w P out 0 1 m ma bK ch mc tc md pd xs B' N A G X e w'/\Pr B'):=by
 have UR:=fP;have R0:=J (bF h hP 1 mo ma mb ch mc tc md pd);clear h hP;go_enter func26,ntmps26;go_upto_region 1 with fail
 generalize(w.alloc (bn 1 mo ma la mb ch lb mc tc n a g md pd v)).alloc aR=W at R0|-;generalize w.heap.size+1=q at R0|-;obtain⟨p,hp⟩:=zx w.heap.size;rw[← hp] at R0|-;have bR:=J hp;clear hp;have hz:(decide (0<=(m:Int))&&decide ((m:Int)<=16777216))=true:=by rw[decide_eq_true (by omega),decide_eq_true (by omega)];rfl
 have U2:=J (hz▸UR W (m:Int):Calls prog 44 #[.int .i64 (m:Int)] W (λe w'=>e= .returned (.bool true)/\W=w'));clear UR hz hm;go_wp2_with fail
 refine U2.out.mono ?_;rintro e W0 ⟨rfl,rfl⟩;clear U2;have R1:=J (R0.out.p8 (u:=m) trivial);obtain⟨_,d1,_,_,_,_,_,_,_,_,_,_,_,_,_,_,_,_⟩:=R0.out.b.box.c;obtain⟨_,f1,_,_,_,_,_,_,_,_,_,_,_,_,_,_,_,_⟩:=R0.out.b.box.f;clear R0;go_upto_region 5 with fail
 clear d1 f1;generalize W.setCell ⟨p,1,none⟩ (.int .i64 (m:Int))=W3 at R1|-;have U1:=J (U W3 _ R1.out.b.rows.rb R1.out.b.cl);obtain⟨c0,c1,c2,c3,c4,c5,c6,c7,c8,c9,b8,b9,cd,cj,ck,cq,cr,ct⟩:=R1.out.b.box.c;go_wp2_with fail
 refine U1.out.mono ?_;rintro e W1 ⟨B',⟨r9,u,rfl,hr,hu,hB⟩,O6⟩;have HU:=zs (AR.SW (((W1.setCell ⟨p,4,none⟩ (.int .i64 (bK:Int))).setCell ⟨p,5,none⟩ (.bool ch)).setCell ⟨p,6,none⟩ (.slice r9.A r9.n r9.c)) _ u out) ((((hu.set (q:=⟨p,4,none⟩) R1.out.b.np _).set (q:=⟨p,5,none⟩) R1.out.b.np _).set (q:=⟨p,6,none⟩) R1.out.b.np _));have aD:=R1.out.below hB;have R2:=J (aD.nU (u:=bK) (b:=ch) hr);obtain⟨_,_,_,_,d4,d5,d6,_,_,_,_,_,_,_,_,_,_,_⟩:=aD.b.box.c;obtain⟨_,_,_,_,f4,f5,f6,_,_,_,_,_,_,_,_,_,_,_⟩:=aD.b.box.f;clear c0 c1 c2 c3 c4 c5 c6 c7 c8 c9 b8 b9 cd cj ck cq cr ct hr hu hB aD U1 R1;go_upto_region 15 with fail
 clear d4 d5 d6 f4 f5 f6;generalize((W1.setCell ⟨p,4,none⟩ (.int .i64 (bK:Int))).setCell ⟨p,5,none⟩ (.bool ch)).setCell ⟨p,6,none⟩ (.slice r9.A r9.n r9.c)=W2 at R2 HU|-;have vm:=zs (AR.SW (bH W2 q 1 m ma la bK ch r9 mc tc n a g md pd v) P u out) ((((((((((((((((((((HU.out.set (q:=⟨q,0,none⟩) R2.out.np _).set (q:=⟨q,1,none⟩) R2.out.np _).set (q:=⟨q,2,none⟩) R2.out.np _).set (q:=⟨q,3,none⟩) R2.out.np _).set (q:=⟨q,4,none⟩) R2.out.np _).set (q:=⟨q,5,none⟩) R2.out.np _).set (q:=⟨q,6,none⟩) R2.out.np _).set (q:=⟨q,7,none⟩) R2.out.np _).set (q:=⟨q,8,none⟩) R2.out.np _).set (q:=⟨q,9,none⟩) R2.out.np _).set (q:=⟨q,10,none⟩) R2.out.np _).set (q:=⟨q,11,none⟩) R2.out.np _).set (q:=⟨q,12,none⟩) R2.out.np _).set (q:=⟨q,13,none⟩) R2.out.np _).set (q:=⟨q,14,none⟩) R2.out.np _).set (q:=⟨q,15,none⟩) R2.out.np _).set (q:=⟨q,16,none⟩) R2.out.np _).set (q:=⟨q,17,none⟩) R2.out.np _)).wide λ_ hk _=>hk.1);have RO:=R2.out.out;have O1:=J RO.1;have O2:=J RO.2.1;have O3:=J RO.2.2;clear RO;go_wp2_with(first|(refine cN rfl _ rfl R2.out.b.box rfl ?_)|(refine dz rfl _ _ rfl R2.out.res rfl rfl ?_))
 refine bodyPost_ret (AR.bg rfl _ _ _ ⟨q,0,none⟩ _ rfl (cy O1.out)) rfl ?_;exact⟨B',⟨u,⟨_,_,_,_,_,_,rfl,O2.out,O3.out⟩,vm.out⟩,O6⟩
theorem A8(hz:(decide (0<=z)&&decide (z<=16777216))=false):Calls prog 26 #[ba 2 mo ma la mb ch lb mc tc n a g md pd v,.int .i64 z] w (CT w P (λx=> .tuple #[x,.slice none 0 0,.int .i64 1]) 2 mo ma mb ch mc tc md pd xs B N A G X):=by
 have UR:=fP;have R0:=J (bF h hP 2 mo ma mb ch mc tc md pd);clear h hP;go_enter func26,ntmps26;go_upto_region 1 with fail
 generalize(w.alloc (bn 2 mo ma la mb ch lb mc tc n a g md pd v)).alloc aR=W at R0|-;generalize w.heap.size+1=q at R0|-;obtain⟨p,hp⟩:=zx w.heap.size;rw[← hp] at R0|-;have bR:=J hp;clear hp;have U1:=J (hz▸UR W z:Calls prog 44 #[.int .i64 z] W (λe w'=>e= .returned (.bool false)/\W=w'));clear UR hz;go_wp2_with fail
 refine U1.out.mono ?_;rintro e W1 ⟨rfl,rfl⟩;clear U1;go_upto_region 2 with fail
 have RO:=R0.out.out;have O1:=J RO.1;have O2:=J RO.2.1;have O3:=J RO.2.2;clear RO;go_wp2_with(first|(refine cN rfl _ rfl R0.out.b.box rfl ?_)|(refine dz rfl _ _ rfl R0.out.res rfl rfl ?_))
 refine bodyPost_ret (AR.bg rfl _ _ _ ⟨q,0,none⟩ _ rfl (cy O1.out)) rfl ?_;exact⟨_,_,_,_,_,_,rfl,O2.out,O3.out⟩
theorem IB(bK:Nat)(Pr:List (LF.Ht.aa zy)->Prop)(m:Nat)(out:zY)(hm:m<=16777216)(U:∀(W:zw) (Q:Nat->Prop),ZW W Q lb B->AR.Cl W Q->Calls prog 67 #[.agg #[.int .i64 (mb:Int),.bool ch,.slice lb.A lb.n lb.c],.int .i64 (m:Int)] W (λe w'=>∃B',Dw W Q bK ch B' out e w'/\Pr B')):Calls prog 26 #[ba 2 mo ma la mb ch lb mc tc n a g md pd v,.int .i64 (m:Int)] w (λe w'=>∃B',FB w P out 0 2 m ma bK ch mc tc md pd xs B' N A G X e w'/\Pr B'):=by
 have UR:=fP;have R0:=J (bF h hP 2 mo ma mb ch mc tc md pd);clear h hP;go_enter func26,ntmps26;go_upto_region 1 with fail
 generalize(w.alloc (bn 2 mo ma la mb ch lb mc tc n a g md pd v)).alloc aR=W at R0|-;generalize w.heap.size+1=q at R0|-;obtain⟨p,hp⟩:=zx w.heap.size;rw[← hp] at R0|-;have bR:=J hp;clear hp;have hz:(decide (0<=(m:Int))&&decide ((m:Int)<=16777216))=true:=by rw[decide_eq_true (by omega),decide_eq_true (by omega)];rfl
 have U2:=J (hz▸UR W (m:Int):Calls prog 44 #[.int .i64 (m:Int)] W (λe w'=>e= .returned (.bool true)/\W=w'));clear UR hz hm;go_wp2_with fail
 refine U2.out.mono ?_;rintro e W0 ⟨rfl,rfl⟩;clear U2;have R1:=J (R0.out.p8 (u:=m) trivial);obtain⟨_,d1,_,_,_,_,_,_,_,_,_,_,_,_,_,_,_,_⟩:=R0.out.b.box.c;obtain⟨_,f1,_,_,_,_,_,_,_,_,_,_,_,_,_,_,_,_⟩:=R0.out.b.box.f;clear R0;go_upto_region 5 with fail
 clear d1 f1;generalize W.setCell ⟨p,1,none⟩ (.int .i64 (m:Int))=W3 at R1|-;have U1:=J (U W3 _ R1.out.b.rows.rb R1.out.b.cl);obtain⟨c0,c1,c2,c3,c4,c5,c6,c7,c8,c9,b8,b9,cd,cj,ck,cq,cr,ct⟩:=R1.out.b.box.c;go_wp2_with fail
 refine U1.out.mono ?_;rintro e W1 ⟨B',⟨r9,u,rfl,hr,hu,hB⟩,O6⟩;have HU:=zs (AR.SW (((W1.setCell ⟨p,4,none⟩ (.int .i64 (bK:Int))).setCell ⟨p,5,none⟩ (.bool ch)).setCell ⟨p,6,none⟩ (.slice r9.A r9.n r9.c)) _ u out) ((((hu.set (q:=⟨p,4,none⟩) R1.out.b.np _).set (q:=⟨p,5,none⟩) R1.out.b.np _).set (q:=⟨p,6,none⟩) R1.out.b.np _));have aD:=R1.out.below hB;have R2:=J (aD.nU (u:=bK) (b:=ch) hr);obtain⟨_,_,_,_,d4,d5,d6,_,_,_,_,_,_,_,_,_,_,_⟩:=aD.b.box.c;obtain⟨_,_,_,_,f4,f5,f6,_,_,_,_,_,_,_,_,_,_,_⟩:=aD.b.box.f;clear c0 c1 c2 c3 c4 c5 c6 c7 c8 c9 b8 b9 cd cj ck cq cr ct hr hu hB aD U1 R1;go_upto_region 15 with fail
 clear d4 d5 d6 f4 f5 f6;generalize((W1.setCell ⟨p,4,none⟩ (.int .i64 (bK:Int))).setCell ⟨p,5,none⟩ (.bool ch)).setCell ⟨p,6,none⟩ (.slice r9.A r9.n r9.c)=W2 at R2 HU|-;have vm:=zs (AR.SW (bH W2 q 2 m ma la bK ch r9 mc tc n a g md pd v) P u out) ((((((((((((((((((((HU.out.set (q:=⟨q,0,none⟩) R2.out.np _).set (q:=⟨q,1,none⟩) R2.out.np _).set (q:=⟨q,2,none⟩) R2.out.np _).set (q:=⟨q,3,none⟩) R2.out.np _).set (q:=⟨q,4,none⟩) R2.out.np _).set (q:=⟨q,5,none⟩) R2.out.np _).set (q:=⟨q,6,none⟩) R2.out.np _).set (q:=⟨q,7,none⟩) R2.out.np _).set (q:=⟨q,8,none⟩) R2.out.np _).set (q:=⟨q,9,none⟩) R2.out.np _).set (q:=⟨q,10,none⟩) R2.out.np _).set (q:=⟨q,11,none⟩) R2.out.np _).set (q:=⟨q,12,none⟩) R2.out.np _).set (q:=⟨q,13,none⟩) R2.out.np _).set (q:=⟨q,14,none⟩) R2.out.np _).set (q:=⟨q,15,none⟩) R2.out.np _).set (q:=⟨q,16,none⟩) R2.out.np _).set (q:=⟨q,17,none⟩) R2.out.np _)).wide λ_ hk _=>hk.1);have RO:=R2.out.out;have O1:=J RO.1;have O2:=J RO.2.1;have O3:=J RO.2.2;clear RO;go_wp2_with(first|(refine cN rfl _ rfl R2.out.b.box rfl ?_)|(refine dz rfl _ _ rfl R2.out.res rfl rfl ?_))
 refine bodyPost_ret (AR.bg rfl _ _ _ ⟨q,0,none⟩ _ rfl (cy O1.out)) rfl ?_;exact⟨B',⟨u,⟨_,_,_,_,_,_,rfl,O2.out,O3.out⟩,vm.out⟩,O6⟩
theorem Ba(hz:(decide (0<=z)&&decide (z<=16777216))=false):Calls prog 26 #[ba 3 mo ma la mb ch lb mc tc n a g md pd v,.int .i64 z] w (CT w P (λx=> .tuple #[x,.slice none 0 0,.int .i64 1]) 3 mo ma mb ch mc tc md pd xs B N A G X):=by
 have UR:=fP;have R0:=J (bF h hP 3 mo ma mb ch mc tc md pd);clear h hP;go_enter func26,ntmps26;go_upto_region 1 with fail
 generalize(w.alloc (bn 3 mo ma la mb ch lb mc tc n a g md pd v)).alloc aR=W at R0|-;generalize w.heap.size+1=q at R0|-;obtain⟨p,hp⟩:=zx w.heap.size;rw[← hp] at R0|-;have bR:=J hp;clear hp;have U1:=J (hz▸UR W z:Calls prog 44 #[.int .i64 z] W (λe w'=>e= .returned (.bool false)/\W=w'));clear UR hz;go_wp2_with fail
 refine U1.out.mono ?_;rintro e W1 ⟨rfl,rfl⟩;clear U1;go_upto_region 2 with fail
 have RO:=R0.out.out;have O1:=J RO.1;have O2:=J RO.2.1;have O3:=J RO.2.2;clear RO;go_wp2_with(first|(refine cN rfl _ rfl R0.out.b.box rfl ?_)|(refine dz rfl _ _ rfl R0.out.res rfl rfl ?_))
 refine bodyPost_ret (AR.bg rfl _ _ _ ⟨q,0,none⟩ _ rfl (cy O1.out)) rfl ?_;exact⟨_,_,_,_,_,_,rfl,O2.out,O3.out⟩
theorem IC(db dc:Nat)(N' A' G':List SR.KE)(m:Nat)(out:zY)(hm:m<=16777216)(U:∀(W:zw) (Q:Nat->Prop),SR.Rw W Q n a g N A G->AR.Cl W Q->Calls prog 68 #[SR.aU mc tc n a g,.int .i64 (m:Int)] W (OJ W Q db dc N' A' G' out)):Calls prog 26 #[ba 3 mo ma la mb ch lb mc tc n a g md pd v,.int .i64 (m:Int)] w (FB w P out 0 3 m ma mb ch db dc md pd xs B N' A' G' X):=by
 have UR:=fP;have R0:=J (bF h hP 3 mo ma mb ch mc tc md pd);clear h hP;go_enter func26,ntmps26;go_upto_region 1 with fail
 generalize(w.alloc (bn 3 mo ma la mb ch lb mc tc n a g md pd v)).alloc aR=W at R0|-;generalize w.heap.size+1=q at R0|-;obtain⟨p,hp⟩:=zx w.heap.size;rw[← hp] at R0|-;have bR:=J hp;clear hp;have hz:(decide (0<=(m:Int))&&decide ((m:Int)<=16777216))=true:=by rw[decide_eq_true (by omega),decide_eq_true (by omega)];rfl
 have U2:=J (hz▸UR W (m:Int):Calls prog 44 #[.int .i64 (m:Int)] W (λe w'=>e= .returned (.bool true)/\W=w'));clear UR hz hm;go_wp2_with fail
 refine U2.out.mono ?_;rintro e W0 ⟨rfl,rfl⟩;clear U2;have R1:=J (R0.out.p8 (u:=m) trivial);obtain⟨_,d1,_,_,_,_,_,_,_,_,_,_,_,_,_,_,_,_⟩:=R0.out.b.box.c;obtain⟨_,f1,_,_,_,_,_,_,_,_,_,_,_,_,_,_,_,_⟩:=R0.out.b.box.f;clear R0;go_upto_region 5 with fail
 clear d1 f1;generalize W.setCell ⟨p,1,none⟩ (.int .i64 (m:Int))=W3 at R1|-;have U1:=J (U W3 _ R1.out.b.rows.rc R1.out.b.cl);obtain⟨c0,c1,c2,c3,c4,c5,c6,c7,c8,c9,b8,b9,cd,cj,ck,cq,cr,ct⟩:=R1.out.b.box.c;go_wp2_with fail
 refine U1.out.mono ?_;rintro e W1 ⟨n9,a9,g9,u,rfl,hr,hu,hB⟩;have HU:=zs (AR.SW (((((W1.setCell ⟨p,7,none⟩ (.int .i64 (db:Int))).setCell ⟨p,8,none⟩ (.int .i64 (dc:Int))).setCell ⟨p,9,none⟩ (.slice n9.A n9.n n9.c)).setCell ⟨p,10,none⟩ (.slice a9.A a9.n a9.c)).setCell ⟨p,11,none⟩ (.slice g9.A g9.n g9.c)) _ u out) ((((((hu.set (q:=⟨p,7,none⟩) R1.out.b.np _).set (q:=⟨p,8,none⟩) R1.out.b.np _).set (q:=⟨p,9,none⟩) R1.out.b.np _).set (q:=⟨p,10,none⟩) R1.out.b.np _).set (q:=⟨p,11,none⟩) R1.out.b.np _));have aD:=R1.out.below hB;have R2:=J (aD.lK (u:=db) (t:=dc) hr);obtain⟨_,_,_,_,_,_,_,d7,d8,d9,d10,d11,_,_,_,_,_,_⟩:=aD.b.box.c;obtain⟨_,_,_,_,_,_,_,f7,f8,f9,f10,f11,_,_,_,_,_,_⟩:=aD.b.box.f;clear c0 c1 c2 c3 c4 c5 c6 c7 c8 c9 b8 b9 cd cj ck cq cr ct hr hu hB aD U1 R1;go_upto_region 15 with fail
 clear d7 d8 d9 d10 d11 f7 f8 f9 f10 f11;generalize((((W1.setCell ⟨p,7,none⟩ (.int .i64 (db:Int))).setCell ⟨p,8,none⟩ (.int .i64 (dc:Int))).setCell ⟨p,9,none⟩ (.slice n9.A n9.n n9.c)).setCell ⟨p,10,none⟩ (.slice a9.A a9.n a9.c)).setCell ⟨p,11,none⟩ (.slice g9.A g9.n g9.c)=W2 at R2 HU|-;have vm:=zs (AR.SW (bH W2 q 3 m ma la mb ch lb db dc n9 a9 g9 md pd v) P u out) ((((((((((((((((((((HU.out.set (q:=⟨q,0,none⟩) R2.out.np _).set (q:=⟨q,1,none⟩) R2.out.np _).set (q:=⟨q,2,none⟩) R2.out.np _).set (q:=⟨q,3,none⟩) R2.out.np _).set (q:=⟨q,4,none⟩) R2.out.np _).set (q:=⟨q,5,none⟩) R2.out.np _).set (q:=⟨q,6,none⟩) R2.out.np _).set (q:=⟨q,7,none⟩) R2.out.np _).set (q:=⟨q,8,none⟩) R2.out.np _).set (q:=⟨q,9,none⟩) R2.out.np _).set (q:=⟨q,10,none⟩) R2.out.np _).set (q:=⟨q,11,none⟩) R2.out.np _).set (q:=⟨q,12,none⟩) R2.out.np _).set (q:=⟨q,13,none⟩) R2.out.np _).set (q:=⟨q,14,none⟩) R2.out.np _).set (q:=⟨q,15,none⟩) R2.out.np _).set (q:=⟨q,16,none⟩) R2.out.np _).set (q:=⟨q,17,none⟩) R2.out.np _)).wide λ_ hk _=>hk.1);have RO:=R2.out.out;have O1:=J RO.1;have O2:=J RO.2.1;have O3:=J RO.2.2;clear RO;go_wp2_with(first|(refine cN rfl _ rfl R2.out.b.box rfl ?_)|(refine dz rfl _ _ rfl R2.out.res rfl rfl ?_))
 refine bodyPost_ret (AR.bg rfl _ _ _ ⟨q,0,none⟩ _ rfl (cy O1.out)) rfl ?_;exact⟨u,⟨_,_,_,_,_,_,rfl,O2.out,O3.out⟩,vm.out⟩
theorem Bb(hz:(decide (0<=z)&&decide (z<=16777216))=false):Calls prog 26 #[ba 4 mo ma la mb ch lb mc tc n a g md pd v,.int .i64 z] w (CT w P (λx=> .tuple #[x,.slice none 0 0,.int .i64 1]) 4 mo ma mb ch mc tc md pd xs B N A G X):=by
 have UR:=fP;have R0:=J (bF h hP 4 mo ma mb ch mc tc md pd);clear h hP;go_enter func26,ntmps26;go_upto_region 1 with fail
 generalize(w.alloc (bn 4 mo ma la mb ch lb mc tc n a g md pd v)).alloc aR=W at R0|-;generalize w.heap.size+1=q at R0|-;obtain⟨p,hp⟩:=zx w.heap.size;rw[← hp] at R0|-;have bR:=J hp;clear hp;have U1:=J (hz▸UR W z:Calls prog 44 #[.int .i64 z] W (λe w'=>e= .returned (.bool false)/\W=w'));clear UR hz;go_wp2_with fail
 refine U1.out.mono ?_;rintro e W1 ⟨rfl,rfl⟩;clear U1;go_upto_region 2 with fail
 have RO:=R0.out.out;have O1:=J RO.1;have O2:=J RO.2.1;have O3:=J RO.2.2;clear RO;go_wp2_with(first|(refine cN rfl _ rfl R0.out.b.box rfl ?_)|(refine dz rfl _ _ rfl R0.out.res rfl rfl ?_))
 refine bodyPost_ret (AR.bg rfl _ _ _ ⟨q,0,none⟩ _ rfl (cy O1.out)) rfl ?_;exact⟨_,_,_,_,_,_,rfl,O2.out,O3.out⟩
theorem ID(dd de:Nat)(X':AR.L4)(m:Nat)(out:zY)(hm:m<=16777216)(U:∀(W:zw) (Q:Nat->Prop),AR.R4 W Q v X->AR.Cl W Q->Calls prog 69 #[AR.aU md pd v,.int .i64 (m:Int)] W (OK W Q dd de X' out)):Calls prog 26 #[ba 4 mo ma la mb ch lb mc tc n a g md pd v,.int .i64 (m:Int)] w (FB w P out 0 4 m ma mb ch mc tc dd de xs B N A G X'):=by
 have UR:=fP;have R0:=J (bF h hP 4 mo ma mb ch mc tc md pd);clear h hP;go_enter func26,ntmps26;go_upto_region 1 with fail
 generalize(w.alloc (bn 4 mo ma la mb ch lb mc tc n a g md pd v)).alloc aR=W at R0|-;generalize w.heap.size+1=q at R0|-;obtain⟨p,hp⟩:=zx w.heap.size;rw[← hp] at R0|-;have bR:=J hp;clear hp;have hz:(decide (0<=(m:Int))&&decide ((m:Int)<=16777216))=true:=by rw[decide_eq_true (by omega),decide_eq_true (by omega)];rfl
 have U2:=J (hz▸UR W (m:Int):Calls prog 44 #[.int .i64 (m:Int)] W (λe w'=>e= .returned (.bool true)/\W=w'));clear UR hz hm;go_wp2_with fail
 refine U2.out.mono ?_;rintro e W0 ⟨rfl,rfl⟩;clear U2;have R1:=J (R0.out.p8 (u:=m) trivial);obtain⟨_,d1,_,_,_,_,_,_,_,_,_,_,_,_,_,_,_,_⟩:=R0.out.b.box.c;obtain⟨_,f1,_,_,_,_,_,_,_,_,_,_,_,_,_,_,_,_⟩:=R0.out.b.box.f;clear R0;go_upto_region 5 with fail
 clear d1 f1;generalize W.setCell ⟨p,1,none⟩ (.int .i64 (m:Int))=W3 at R1|-;have U1:=J (U W3 _ R1.out.b.rows.rd R1.out.b.cl);obtain⟨c0,c1,c2,c3,c4,c5,c6,c7,c8,c9,b8,b9,cd,cj,ck,cq,cr,ct⟩:=R1.out.b.box.c;go_wp2_with fail
 refine U1.out.mono ?_;rintro e W1 ⟨v9,u,rfl,hr,hu,hB⟩;have HU:=zs (AR.SW ((((((W1.setCell ⟨p,12,none⟩ (.int .i64 (dd:Int))).setCell ⟨p,13,none⟩ (.int .i64 (de:Int))).setCell ⟨p,14,none⟩ (.slice (v9 0).A (v9 0).n (v9 0).c)).setCell ⟨p,15,none⟩ (.slice (v9 1).A (v9 1).n (v9 1).c)).setCell ⟨p,16,none⟩ (.slice (v9 2).A (v9 2).n (v9 2).c)).setCell ⟨p,17,none⟩ (.slice (v9 3).A (v9 3).n (v9 3).c)) _ u out) (((((((hu.set (q:=⟨p,12,none⟩) R1.out.b.np _).set (q:=⟨p,13,none⟩) R1.out.b.np _).set (q:=⟨p,14,none⟩) R1.out.b.np _).set (q:=⟨p,15,none⟩) R1.out.b.np _).set (q:=⟨p,16,none⟩) R1.out.b.np _).set (q:=⟨p,17,none⟩) R1.out.b.np _));have aD:=R1.out.below hB;have R2:=J (aD.pP (u:=dd) (t:=de) hr);obtain⟨_,_,_,_,_,_,_,_,_,_,_,_,d12,d13,d14,d15,d16,d17⟩:=aD.b.box.c;obtain⟨_,_,_,_,_,_,_,_,_,_,_,_,f12,f13,f14,f15,f16,f17⟩:=aD.b.box.f;clear c0 c1 c2 c3 c4 c5 c6 c7 c8 c9 b8 b9 cd cj ck cq cr ct hr hu hB aD U1 R1;go_upto_region 15 with fail
 clear d12 d13 d14 d15 d16 d17 f12 f13 f14 f15 f16 f17;generalize(((((W1.setCell ⟨p,12,none⟩ (.int .i64 (dd:Int))).setCell ⟨p,13,none⟩ (.int .i64 (de:Int))).setCell ⟨p,14,none⟩ (.slice (v9 0).A (v9 0).n (v9 0).c)).setCell ⟨p,15,none⟩ (.slice (v9 1).A (v9 1).n (v9 1).c)).setCell ⟨p,16,none⟩ (.slice (v9 2).A (v9 2).n (v9 2).c)).setCell ⟨p,17,none⟩ (.slice (v9 3).A (v9 3).n (v9 3).c)=W2 at R2 HU|-;have vm:=zs (AR.SW (bH W2 q 4 m ma la mb ch lb mc tc n a g dd de v9) P u out) ((((((((((((((((((((HU.out.set (q:=⟨q,0,none⟩) R2.out.np _).set (q:=⟨q,1,none⟩) R2.out.np _).set (q:=⟨q,2,none⟩) R2.out.np _).set (q:=⟨q,3,none⟩) R2.out.np _).set (q:=⟨q,4,none⟩) R2.out.np _).set (q:=⟨q,5,none⟩) R2.out.np _).set (q:=⟨q,6,none⟩) R2.out.np _).set (q:=⟨q,7,none⟩) R2.out.np _).set (q:=⟨q,8,none⟩) R2.out.np _).set (q:=⟨q,9,none⟩) R2.out.np _).set (q:=⟨q,10,none⟩) R2.out.np _).set (q:=⟨q,11,none⟩) R2.out.np _).set (q:=⟨q,12,none⟩) R2.out.np _).set (q:=⟨q,13,none⟩) R2.out.np _).set (q:=⟨q,14,none⟩) R2.out.np _).set (q:=⟨q,15,none⟩) R2.out.np _).set (q:=⟨q,16,none⟩) R2.out.np _).set (q:=⟨q,17,none⟩) R2.out.np _)).wide λ_ hk _=>hk.1);have RO:=R2.out.out;have O1:=J RO.1;have O2:=J RO.2.1;have O3:=J RO.2.2;clear RO;go_wp2_with(first|(refine cN rfl _ rfl R2.out.b.box rfl ?_)|(refine dz rfl _ _ rfl R2.out.res rfl rfl ?_))
 refine bodyPost_ret (AR.bg rfl _ _ _ ⟨q,0,none⟩ _ rfl (cy O1.out)) rfl ?_;exact⟨u,⟨_,_,_,_,_,_,rfl,O2.out,O3.out⟩,vm.out⟩
end
end P9
namespace P9
open Go.RowKit Sg
theorem tZ{ops:Array Oper}{S:zw->Prop}{op:Oper}{ac:Act}{p:Nat}{k mo ma mb mc tc md pd:Nat}{la lb:AR.Sl}{ch:Bool}{n a g:SR.Sl}{v:AR.S4}(hw:Region.wanted op (yielded ops ac.tmps)=true)(x:Operand)(ho:op.op= .load 42 x)(hx:ac.eval x= .pointer (some ⟨p,0,none⟩))(hS:∀w,S w->RB w p k mo ma la mb ch lb mc tc n a g md pd v):YieldsIf prog ops S op (ba k mo ma la mb ch lb mc tc n a g md pd v) ac:=
 .inl ⟨hw,λw Wf=>by
  unfold execOp;simp only[ho,hx,Instr.loadAt,Instr.sureAddr,Sem.run_bind,Sem.run_pure,Result.andThen_ok,cy (hS w Wf)]⟩
theorem AF{op:Oper}{ac:Act}{w:zw}{K:Act->zw->Prop}{Q:Exit->Act->zw->Prop}{q:Nat}{k mo ma mb mc tc md pd:Nat}{la lb:AR.Sl}{ch:Bool}{n a g:SR.Sl}{v:AR.S4}{k' mo' dv bK db dc dd de:Nat}{il im:AR.Sl}{iq:Bool}{n' a' g':SR.Sl}{v':AR.S4}(x y:Operand)(ho:op.op= .store 42 x y)(hb:RB w q k' mo' dv il bK iq im db dc n' a' g' dd de v')(hx:ac.eval x= .pointer (some ⟨q,0,none⟩))(hy:ac.eval y=ba k mo ma la mb ch lb mc tc n a g md pd v)
 (h:K (ac.put op.dst undef) (bH w q k mo ma la mb ch lb mc tc n a g md pd v)):op.wp prog ac w K Q:=
 wp_store_mid 42 x y ho q 0 #[.int .i64 (k:Int),.int .i64 (mo:Int),.int .i64 (ma:Int),.slice la.A la.n la.c,.int .i64 (mb:Int),.bool ch,.slice lb.A lb.n lb.c,.int .i64 (mc:Int),.int .i64 (tc:Int),.slice n.A n.n n.c,.slice a.A a.n a.c,.slice g.A g.n g.c,.int .i64 (md:Int),.int .i64 (pd:Int),.slice (v 0).A (v 0).n (v 0).c,.slice (v 1).A (v 1).n (v 1).c,.slice (v 2).A (v 2).n (v 2).c,.slice (v 3).A (v 3).n (v 3).c] hx hy (Fz hb) JC (by simp[Value.oneCell']) h
structure RQ(w W:zw)(P:Nat->Prop)(p q r x:Nat)(k:Nat)(mo:Nat)(ma:Nat)(la:AR.Sl)(mb:Nat)(ch:Bool)(lb:AR.Sl)(mc:Nat)(tc:Nat)(n:SR.Sl)(a:SR.Sl)(g:SR.Sl)(md:Nat)(pd:Nat)(v:AR.S4)(xs:zY)(B:List (LF.Ht.aa zy))(N A G:List SR.KE)(X:AR.L4)(hh:Bool)(vc:zy)(ee:Bool):Prop where
 two:B2 w W P p q k mo ma la mb ch lb mc tc n a g md pd v xs B N A G X
 res:AR.ZB W r false ⟨#[]⟩ false
 aH:AR.ZB W x hh vc ee
 np:¬P r/\¬P x
 ne:r≠p/\r≠q/\x≠p/\x≠q/\r≠x
 low:w.heap.size<=r/\w.heap.size<=x
section
variable{w W W':zw}{P P0:Nat->Prop}{p q r x:Nat}{k mo ma mb mc tc md pd:Nat}{la lb:AR.Sl}{ch:Bool}{n a g:SR.Sl}{v:AR.S4}{xs:zY}{B:List (LF.Ht.aa zy)}{N A G:List SR.KE}{X:AR.L4}{hh ee:Bool}{vc:zy}
theorem RQ.start(k0:R9 w P la lb n a g v xs B N A G X)(hP:AR.Cl w P)(k mo ma mb:Nat)(ch:Bool)(mc tc md pd:Nat):RQ w ((((w.alloc (bn k mo ma la mb ch lb mc tc n a g md pd v)).alloc aR).alloc (AR.bq false ⟨#[]⟩ false)).alloc (AR.bq false ⟨#[]⟩ false)) (AR.wq P w.heap.size) w.heap.size (w.heap.size+1) (w.heap.size+1+1) (w.heap.size+1+1+1) k mo ma la mb ch lb mc tc n a g md pd v xs B N A G X false ⟨#[]⟩ false:=by
 have z1:(w.alloc (bn k mo ma la mb ch lb mc tc n a g md pd v)).heap.size=w.heap.size+1:=by simp
 have z2:((w.alloc (bn k mo ma la mb ch lb mc tc n a g md pd v)).alloc aR).heap.size=w.heap.size+1+1:=by simp
 have z3:(((w.alloc (bn k mo ma la mb ch lb mc tc n a g md pd v)).alloc aR).alloc (AR.bq false ⟨#[]⟩ false)).heap.size=w.heap.size+1+1+1:=by simp
 have b1:=(zo w.heap.size w).alloc (zg _) (bn k mo ma la mb ch lb mc tc n a g md pd v);have b2:=b1.alloc b1.size aR;have b3:=b2.alloc b2.size (AR.bq false ⟨#[]⟩ false);have b4:=b3.alloc b3.size (AR.bq false ⟨#[]⟩ false);have q1:=heap_alloc_new w (bn k mo ma la mb ch lb mc tc n a g md pd v);have q2:=heap_alloc_new (w.alloc (bn k mo ma la mb ch lb mc tc n a g md pd v)) aR;have q3:=heap_alloc_new ((w.alloc (bn k mo ma la mb ch lb mc tc n a g md pd v)).alloc aR) (AR.bq false ⟨#[]⟩ false);have q4:=heap_alloc_new (((w.alloc (bn k mo ma la mb ch lb mc tc n a g md pd v)).alloc aR).alloc (AR.bq false ⟨#[]⟩ false)) (AR.bq false ⟨#[]⟩ false);rw[z1] at q2;rw[z2] at q3;rw[z3] at q4;refine⟨⟨⟨?_,(k0.wide λk hk hl=>⟨hk,by omega⟩).below b4,b4,zg _,λh=>h.2 ⟨by omega,by omega⟩,λk hk=>?_⟩,?_,by omega,by omega,λh=>h.2 ⟨by omega,by omega⟩⟩,?_,q4,⟨λh=>h.2 ⟨by omega,by omega⟩,λh=>h.2 ⟨by omega,by omega⟩⟩,⟨by omega,by omega,by omega,by omega,by omega⟩,⟨by omega,by omega⟩⟩
 . exact((qf _ _ _ (by rw[z3];omega)).trans ((qf _ _ _ (by rw[z2];omega)).trans (qf _ _ _ (by rw[z1];omega)))).trans q1
 . have:w.heap.size+1+1+1+1<=k:=by simpa using hk
   exact⟨hP k (by omega),by omega⟩
 . exact((qf _ _ _ (by rw[z3];omega)).trans (qf _ _ _ (by rw[z2];omega))).trans q2
 . exact(qf _ _ _ (by rw[z3];omega)).trans q3
theorem RQ.below(k0:RQ w W P p q r x k mo ma la mb ch lb mc tc n a g md pd v xs B N A G X hh vc ee)(hb:Below W.heap.size W W'):RQ w W' P p q r x k mo ma la mb ch lb mc tc n a g md pd v xs B N A G X hh vc ee:=⟨k0.two.below hb,k0.res.below hb,k0.aH.below hb,k0.np,k0.ne,k0.low⟩
theorem B2.Ap(k0:B2 w W P p q k mo ma la mb ch lb mc tc n a g md pd v xs B N A G X)(hx:¬P x)(h1:x≠p)(h2:x≠q)(hl:w.heap.size<=x)(i:Nat)(u:Value):B2 w (W.setCell ⟨x,i,none⟩ u) P p q k mo ma la mb ch lb mc tc n a g md pd v xs B N A G X:=
 ⟨⟨k0.b.box.other (x:=⟨x,i,none⟩) (qa h1) u,k0.b.rows.set (q:=⟨x,i,none⟩) hx u,k0.b.az.setCell (p:=⟨x,i,none⟩) hl _,k0.b.low,k0.b.np,k0.b.nG u⟩,k0.res.other (x:=⟨x,i,none⟩) (qa h2) u,k0.low,k0.ne,k0.np⟩
theorem RQ.step(k0:RQ w W P p q r x k mo ma la mb ch lb mc tc n a g md pd v xs B N A G X hh vc ee)(b:Bool)(c:zy)(e:Bool):RQ w (((W.setCell ⟨x,0,none⟩ (.bool b)).setCell ⟨x,1,none⟩ (.string c)).setCell ⟨x,2,none⟩ (.bool e)) P p q r x k mo ma la mb ch lb mc tc n a g md pd v xs B N A G X b c e:=
 ⟨((k0.two.Ap k0.np.2 k0.ne.2.2.1 k0.ne.2.2.2.1 k0.low.2 0 _).Ap k0.np.2 k0.ne.2.2.1 k0.ne.2.2.2.1 k0.low.2 1 _).Ap k0.np.2 k0.ne.2.2.1 k0.ne.2.2.2.1 k0.low.2 2 _,
   ((k0.res.other (z:=⟨x,0,none⟩) k0.ne.2.2.2.2 _).other (z:=⟨x,1,none⟩) k0.ne.2.2.2.2 _).other (z:=⟨x,2,none⟩) k0.ne.2.2.2.2 _,((k0.aH.dO b).eR c).fg e,k0.np,k0.ne,k0.low⟩
theorem Dx{z:Nat}(k0:AR.ZB W z hh vc ee)(hz:z≠q):AR.ZB (bH W q k mo ma la mb ch lb mc tc n a g md pd v) z hh vc ee:=
 ((((((((((((((((((k0.other (z:=⟨q,0,none⟩) hz _).other (z:=⟨q,1,none⟩) hz _).other (z:=⟨q,2,none⟩) hz _).other (z:=⟨q,3,none⟩) hz _).other (z:=⟨q,4,none⟩) hz _).other (z:=⟨q,5,none⟩) hz _).other (z:=⟨q,6,none⟩) hz _).other (z:=⟨q,7,none⟩) hz _).other (z:=⟨q,8,none⟩) hz _).other (z:=⟨q,9,none⟩) hz _).other (z:=⟨q,10,none⟩) hz _).other (z:=⟨q,11,none⟩) hz _).other (z:=⟨q,12,none⟩) hz _).other (z:=⟨q,13,none⟩) hz _).other (z:=⟨q,14,none⟩) hz _).other (z:=⟨q,15,none⟩) hz _).other (z:=⟨q,16,none⟩) hz _).other (z:=⟨q,17,none⟩) hz _)
theorem RQ.AG(k0:RQ w W P p q r x k mo ma la mb ch lb mc tc n a g md pd v xs B N A G X hh vc ee):RB (bH W q k mo ma la mb ch lb mc tc n a g md pd v) p k mo ma la mb ch lb mc tc n a g md pd v/\RB (bH W q k mo ma la mb ch lb mc tc n a g md pd v) q k mo ma la mb ch lb mc tc n a g md pd v/\AR.ZB (bH W q k mo ma la mb ch lb mc tc n a g md pd v) r false ⟨#[]⟩ false/\AR.ZB (bH W q k mo ma la mb ch lb mc tc n a g md pd v) x hh vc ee/\R9 (bH W q k mo ma la mb ch lb mc tc n a g md pd v) P la lb n a g v xs B N A G X/\Below w.heap.size w (bH W q k mo ma la mb ch lb mc tc n a g md pd v):=
 ⟨k0.two.b.box.OG k0.two.ne,k0.two.res.put,Dx k0.res k0.ne.2.1,Dx k0.aH k0.ne.2.2.2.1,k0.two.b.rows.bH k0.two.np,dw k0.two.b.az k0.two.low⟩
end
section
variable{w V V':zw}{P P0:Nat->Prop}{p q r x:Nat}{k mo ma mb mc tc md pd:Nat}{la lb:AR.Sl}{ch:Bool}{n a g:SR.Sl}{v:AR.S4}{xs:zY}{B:List (LF.Ht.aa zy)}{N A G:List SR.KE}{X:AR.L4}{hh ee:Bool}{vc:zy}
theorem vp(hp:RB V p k mo ma la mb ch lb mc tc n a g md pd v)(hq:RB V q k mo ma la mb ch lb mc tc n a g md pd v)(hr:AR.ZB V r false ⟨#[]⟩ false)(hx:AR.ZB V x hh vc ee)(h9:R9 V P la lb n a g v xs B N A G X)(hb:Below w.heap.size w V)(n1:r≠p)(n2:r≠q)(n3:r≠x)(np:¬P r)(lr:w.heap.size<=r)(hP:∀k,P k->P0 k):
 RB (AR.gM V r hh vc ee) p k mo ma la mb ch lb mc tc n a g md pd v/\RB (AR.gM V r hh vc ee) q k mo ma la mb ch lb mc tc n a g md pd v/\AR.ZB (AR.gM V r hh vc ee) r hh vc ee/\AR.ZB (AR.gM V r hh vc ee) x hh vc ee/\R9 (AR.gM V r hh vc ee) P0 la lb n a g v xs B N A G X/\Below w.heap.size w (AR.gM V r hh vc ee):=
 ⟨((hp.other (x:=⟨r,0,none⟩) (qa n1) _).other (x:=⟨r,1,none⟩) (qa n1) _).other (x:=⟨r,2,none⟩) (qa n1) _,((hq.other (x:=⟨r,0,none⟩) (qa n2) _).other (x:=⟨r,1,none⟩) (qa n2) _).other (x:=⟨r,2,none⟩) (qa n2) _,
   ((hr.dO hh).eR vc).fg ee,((hx.other (z:=⟨r,0,none⟩) (qa n3) _).other (z:=⟨r,1,none⟩) (qa n3) _).other (z:=⟨r,2,none⟩) (qa n3) _,
   (((h9.set (q:=⟨r,0,none⟩) np _).set (q:=⟨r,1,none⟩) np _).set (q:=⟨r,2,none⟩) np _).wide λk hk _=>hP k hk,((hb.setCell (p:=⟨r,0,none⟩) lr _).setCell (p:=⟨r,1,none⟩) lr _).setCell (p:=⟨r,2,none⟩) lr _⟩
end
section
variable(w:zw)(P:Nat->Prop)(mo ma:Nat)(la:AR.Sl)(mb:Nat)(ch:Bool)(lb:AR.Sl)(mc tc:Nat)(n a g:SR.Sl)(md pd:Nat)(v:AR.S4)(xs:zY)(B:List (LF.Ht.aa zy))(N A G:List SR.KE)(X:AR.L4)(h:R9 w P la lb n a g v xs B N A G X)(hP:AR.Cl w P)(key:zy)(t1:Bool)(t2:zy)(t3:Bool)
include h hP
theorem FD(dv:Nat)(rR:zY)(U:∀(W:zw) (Q:Nat->Prop),AR.SW W Q la xs->AR.Cl W Q->Calls prog 51 #[.agg #[.int .i64 (ma:Int),.slice la.A la.n la.c],.string key] W (x7 (λx=> .tuple #[x,.agg #[.bool t1,.string t2,.bool t3]]) W Q dv rR)):Calls prog 16 #[ba 0 mo ma la mb ch lb mc tc n a g md pd v,.string key] w (CT w P (λx=> .tuple #[x,.agg #[.bool t1,.string t2,.bool t3]]) 0 mo dv mb ch mc tc md pd rR B N A G X):=by
 have R0:=J (RQ.start h hP 0 mo ma mb ch mc tc md pd);clear h hP;go_enter func16,ntmps16;go_upto_region 2 with fail
 generalize(((w.alloc (bn 0 mo ma la mb ch lb mc tc n a g md pd v)).alloc aR).alloc (AR.bq false ⟨#[]⟩ false)).alloc (AR.bq false ⟨#[]⟩ false)=W at R0|-;have bB:=zs (∀k,AR.wq P w.heap.size k->P k) (λk hk=>hk.1);generalize AR.wq P w.heap.size=Q at R0 bB;generalize w.heap.size+1+1+1=x at R0|-;generalize w.heap.size+1+1=r at R0|-;generalize w.heap.size+1=q at R0|-;obtain⟨p,hp⟩:=zx w.heap.size;rw[← hp] at R0|-;have bR:=J hp;clear hp;have U1:=J (U W _ R0.out.two.b.rows.ra R0.out.two.b.cl);obtain⟨c0,c1,c2,c3,c4,c5,c6,c7,c8,c9,b8,b9,cd,cj,ck,cq,cr,ct⟩:=R0.out.two.b.box.c;go_wp2_with fail
 refine U1.out.mono ?_;rintro e W1 ⟨r9,rfl,hr,hB⟩;have bu:=R0.out.below hB;have cW:p≠x:=qa bu.ne.2.2.1;have bl:x≠p:=bu.ne.2.2.1
 have R1:=J (show RQ w (((((W1.setCell ⟨p,2,none⟩ (.int .i64 (dv:Int))).setCell ⟨p,3,none⟩ (.slice r9.A r9.n r9.c)).setCell ⟨x,0,none⟩ (.bool t1)).setCell ⟨x,1,none⟩ (.string t2)).setCell ⟨x,2,none⟩ (.bool t3)) Q p q r x 0 mo dv r9 mb ch lb mc tc n a g md pd v rR B N A G X t1 t2 t3 from
  (⟨bu.two.jk (u:=dv) hr,((bu.res.other (z:=⟨p,2,none⟩) bu.ne.1 _).other (z:=⟨p,3,none⟩) bu.ne.1 _),((bu.aH.other (z:=⟨p,2,none⟩) bl _).other (z:=⟨p,3,none⟩) bl _),bu.np,bu.ne,bu.low⟩:RQ w _ Q p q r x 0 mo dv r9 mb ch lb mc tc n a g md pd v rR B N A G X false ⟨#[]⟩ false).step t1 t2 t3)
 obtain⟨_,_,d2,d3,_,_,_,_,_,_,_,_,_,_,_,_,_,_⟩:=bu.two.b.box.c;obtain⟨_,_,f2,f3,_,_,_,_,_,_,_,_,_,_,_,_,_,_⟩:=bu.two.b.box.f;obtain⟨x0,x1,x2⟩:=bu.aH.c;obtain⟨g0,g1,g2⟩:=bu.aH.f;clear c0 c1 c2 c3 c4 c5 c6 c7 c8 c9 b8 b9 cd cj ck cq cr ct hr hB bu U1 R0;go_upto_region 12 with fail
 clear d2 d3 f2 f3 x0 x1 x2 g0 g1 g2 cW bl;generalize((((W1.setCell ⟨p,2,none⟩ (.int .i64 (dv:Int))).setCell ⟨p,3,none⟩ (.slice r9.A r9.n r9.c)).setCell ⟨x,0,none⟩ (.bool t1)).setCell ⟨x,1,none⟩ (.string t2)).setCell ⟨x,2,none⟩ (.bool t3)=W2 at R1|-;have RD:=J (R1.out.below (AR.aG W2));clear R1;obtain⟨x0,x1,x2⟩:=RD.out.aH.c;have RX:=J RD.out.two.b.box;refine wp_region_noPanic ?_;refine wp_region_held_drew (S:=(λw'=>RB w' p 0 mo dv r9 mb ch lb mc tc n a g md pd v/\w'.cell? ⟨x,0,none⟩=some (.bool t1)/\w'.cell? ⟨x,1,none⟩=some (.string t2)/\w'.cell? ⟨x,2,none⟩=some (.bool t3))) (by kernel_rfl) ?_ (λhHeld=>?_)
 . exact⟨RX.out,x0,x1,x2⟩
 generalize W2.drew=W3 at RD RX x0 x1 x2 hHeld|-;refine zk 0 (v:=ba 0 mo dv r9 mb ch lb mc tc n a g md pd v) rfl (by kernel_rfl) zq (tZ (by rfl) _ rfl rfl (λw hw=>hw.1)) ‹_› ?_;(try simp only[Act.put,za,zb,zc]);refine zi 0 (v:=?_) rfl (by kernel_rfl) zq ‹_› (by intro w aO;(try dsimp only at aO);obtain⟨_,y0,y1,y2⟩:=aO;go_simp;(try with_reducible rfl)) ?_;(try simp only[Act.put,za,zb,zc]);have Z:=J RD.out.AG;have NE:=J RD.out.ne;have NP:=J RD.out.np;have LO:=J RD.out.low;refine wpAnyH_ready (rs:=[2]) (by kernel_rfl) (by simp) ?_;refine zn rfl (λK hK=>?_);rw[if_pos (by rfl)];refine AF _ _ rfl RD.out.two.res rfl rfl ?_;obtain⟨x0,x1,x2⟩:=Z.out.2.2.2.1.c;refine hK.out _ _ ?_ (λhHeld=>?_)
 . exact⟨Z.out.1,x0,x1,x2⟩
 clear hK K RX RD;(try simp only[Act.put,za,zb,zc]);dsimp only[bH] at Z x0 x1 x2 hHeld|-;generalize(((((((((((((((((W3.setCell ⟨q,0,none⟩ (.int .i64 (0:Int))).setCell ⟨q,1,none⟩ (.int .i64 (mo:Int))).setCell ⟨q,2,none⟩ (.int .i64 (dv:Int))).setCell ⟨q,3,none⟩ (.slice r9.A r9.n r9.c)).setCell ⟨q,4,none⟩ (.int .i64 (mb:Int))).setCell ⟨q,5,none⟩ (.bool ch)).setCell ⟨q,6,none⟩ (.slice lb.A lb.n lb.c)).setCell ⟨q,7,none⟩ (.int .i64 (mc:Int))).setCell ⟨q,8,none⟩ (.int .i64 (tc:Int))).setCell ⟨q,9,none⟩ (.slice n.A n.n n.c)).setCell ⟨q,10,none⟩ (.slice a.A a.n a.c)).setCell ⟨q,11,none⟩ (.slice g.A g.n g.c)).setCell ⟨q,12,none⟩ (.int .i64 (md:Int))).setCell ⟨q,13,none⟩ (.int .i64 (pd:Int))).setCell ⟨q,14,none⟩ (.slice (v 0).A (v 0).n (v 0).c)).setCell ⟨q,15,none⟩ (.slice (v 1).A (v 1).n (v 1).c)).setCell ⟨q,16,none⟩ (.slice (v 2).A (v 2).n (v 2).c)).setCell ⟨q,17,none⟩ (.slice (v 3).A (v 3).n (v 3).c)=W5 at Z x0 x1 x2 hHeld|-;have Y:=J (vp Z.out.1 Z.out.2.1 Z.out.2.2.1 Z.out.2.2.2.1 Z.out.2.2.2.2.1 Z.out.2.2.2.2.2 NE.out.1 NE.out.2.1 NE.out.2.2.2.2 NP.out.1 LO.out.1 bB.out);obtain⟨r0,r1,r2⟩:=Z.out.2.2.1.c;obtain⟨g0,g1,g2⟩:=Z.out.2.2.1.f;refine wpAnyH_ready (rs:=[3]) (by kernel_rfl) (by simp) ?_;refine zn rfl (λK hK=>?_);go_simp;obtain⟨y0,y1,y2⟩:=Y.out.2.2.2.1.c;refine hK.out _ _ ?_ (λhHeld=>?_)
 . exact⟨Y.out.1,y0,y1,y2⟩
 clear hK K;(try simp only[Act.put,za,zb,zc]);refine wpAnyH_done (by kernel_rfl) ?_ _;refine NoPanic.normal ?_;clear hHeld r0 r1 r2 g0 g1 g2 x0 x1 x2 y0 y1 y2;go_wp2_with fail
 (try simp only[Exit.inBlock,Exit.then]);refine bodyPost_ret (AR.aP rfl _ _ _ ⟨q,0,none⟩ ⟨r,0,none⟩ _ _ rfl (cy Y.out.2.1) rfl (AR.cL Y.out.2.2.1)) rfl ?_;exact⟨_,_,_,_,_,_,rfl,Y.out.2.2.2.2.1,Y.out.2.2.2.2.2⟩
theorem FE(bK:Nat)(B':List (LF.Ht.aa zy))(U:∀(W:zw) (Q:Nat->Prop),ZW W Q lb B->AR.Cl W Q->Calls prog 52 #[.agg #[.int .i64 (mb:Int),.bool ch,.slice lb.A lb.n lb.c],.string key] W (kQ (λx=> .tuple #[x,.agg #[.bool t1,.string t2,.bool t3]]) W Q bK ch B')):Calls prog 16 #[ba 1 mo ma la mb ch lb mc tc n a g md pd v,.string key] w (CT w P (λx=> .tuple #[x,.agg #[.bool t1,.string t2,.bool t3]]) 1 mo ma bK ch mc tc md pd xs B' N A G X):=by
 have R0:=J (RQ.start h hP 1 mo ma mb ch mc tc md pd);clear h hP;go_enter func16,ntmps16;go_upto_region 2 with fail
 generalize(((w.alloc (bn 1 mo ma la mb ch lb mc tc n a g md pd v)).alloc aR).alloc (AR.bq false ⟨#[]⟩ false)).alloc (AR.bq false ⟨#[]⟩ false)=W at R0|-;have bB:=zs (∀k,AR.wq P w.heap.size k->P k) (λk hk=>hk.1);generalize AR.wq P w.heap.size=Q at R0 bB;generalize w.heap.size+1+1+1=x at R0|-;generalize w.heap.size+1+1=r at R0|-;generalize w.heap.size+1=q at R0|-;obtain⟨p,hp⟩:=zx w.heap.size;rw[← hp] at R0|-;have bR:=J hp;clear hp;have U1:=J (U W _ R0.out.two.b.rows.rb R0.out.two.b.cl);obtain⟨c0,c1,c2,c3,c4,c5,c6,c7,c8,c9,b8,b9,cd,cj,ck,cq,cr,ct⟩:=R0.out.two.b.box.c;go_wp2_with fail
 refine U1.out.mono ?_;rintro e W1 ⟨r9,rfl,hr,hB⟩;have bu:=R0.out.below hB;have cW:p≠x:=qa bu.ne.2.2.1;have bl:x≠p:=bu.ne.2.2.1
 have R1:=J (show RQ w ((((((W1.setCell ⟨p,4,none⟩ (.int .i64 (bK:Int))).setCell ⟨p,5,none⟩ (.bool ch)).setCell ⟨p,6,none⟩ (.slice r9.A r9.n r9.c)).setCell ⟨x,0,none⟩ (.bool t1)).setCell ⟨x,1,none⟩ (.string t2)).setCell ⟨x,2,none⟩ (.bool t3)) Q p q r x 1 mo ma la bK ch r9 mc tc n a g md pd v xs B' N A G X t1 t2 t3 from
  (⟨bu.two.nU (u:=bK) (b:=ch) hr,(((bu.res.other (z:=⟨p,4,none⟩) bu.ne.1 _).other (z:=⟨p,5,none⟩) bu.ne.1 _).other (z:=⟨p,6,none⟩) bu.ne.1 _),(((bu.aH.other (z:=⟨p,4,none⟩) bl _).other (z:=⟨p,5,none⟩) bl _).other (z:=⟨p,6,none⟩) bl _),bu.np,bu.ne,bu.low⟩:RQ w _ Q p q r x 1 mo ma la bK ch r9 mc tc n a g md pd v xs B' N A G X false ⟨#[]⟩ false).step t1 t2 t3)
 obtain⟨_,_,_,_,d4,d5,d6,_,_,_,_,_,_,_,_,_,_,_⟩:=bu.two.b.box.c;obtain⟨_,_,_,_,f4,f5,f6,_,_,_,_,_,_,_,_,_,_,_⟩:=bu.two.b.box.f;obtain⟨x0,x1,x2⟩:=bu.aH.c;obtain⟨g0,g1,g2⟩:=bu.aH.f;clear c0 c1 c2 c3 c4 c5 c6 c7 c8 c9 b8 b9 cd cj ck cq cr ct hr hB bu U1 R0;go_upto_region 12 with fail
 clear d4 d5 d6 f4 f5 f6 x0 x1 x2 g0 g1 g2 cW bl;generalize(((((W1.setCell ⟨p,4,none⟩ (.int .i64 (bK:Int))).setCell ⟨p,5,none⟩ (.bool ch)).setCell ⟨p,6,none⟩ (.slice r9.A r9.n r9.c)).setCell ⟨x,0,none⟩ (.bool t1)).setCell ⟨x,1,none⟩ (.string t2)).setCell ⟨x,2,none⟩ (.bool t3)=W2 at R1|-;have RD:=J (R1.out.below (AR.aG W2));clear R1;obtain⟨x0,x1,x2⟩:=RD.out.aH.c;have RX:=J RD.out.two.b.box;refine wp_region_noPanic ?_;refine wp_region_held_drew (S:=(λw'=>RB w' p 1 mo ma la bK ch r9 mc tc n a g md pd v/\w'.cell? ⟨x,0,none⟩=some (.bool t1)/\w'.cell? ⟨x,1,none⟩=some (.string t2)/\w'.cell? ⟨x,2,none⟩=some (.bool t3))) (by kernel_rfl) ?_ (λhHeld=>?_)
 . exact⟨RX.out,x0,x1,x2⟩
 generalize W2.drew=W3 at RD RX x0 x1 x2 hHeld|-;refine zk 0 (v:=ba 1 mo ma la bK ch r9 mc tc n a g md pd v) rfl (by kernel_rfl) zq (tZ (by rfl) _ rfl rfl (λw hw=>hw.1)) ‹_› ?_;(try simp only[Act.put,za,zb,zc]);refine zi 0 (v:=?_) rfl (by kernel_rfl) zq ‹_› (by intro w aO;(try dsimp only at aO);obtain⟨_,y0,y1,y2⟩:=aO;go_simp;(try with_reducible rfl)) ?_;(try simp only[Act.put,za,zb,zc]);have Z:=J RD.out.AG;have NE:=J RD.out.ne;have NP:=J RD.out.np;have LO:=J RD.out.low;refine wpAnyH_ready (rs:=[2]) (by kernel_rfl) (by simp) ?_;refine zn rfl (λK hK=>?_);rw[if_pos (by rfl)];refine AF _ _ rfl RD.out.two.res rfl rfl ?_;obtain⟨x0,x1,x2⟩:=Z.out.2.2.2.1.c;refine hK.out _ _ ?_ (λhHeld=>?_)
 . exact⟨Z.out.1,x0,x1,x2⟩
 clear hK K RX RD;(try simp only[Act.put,za,zb,zc]);dsimp only[bH] at Z x0 x1 x2 hHeld|-;generalize(((((((((((((((((W3.setCell ⟨q,0,none⟩ (.int .i64 (1:Int))).setCell ⟨q,1,none⟩ (.int .i64 (mo:Int))).setCell ⟨q,2,none⟩ (.int .i64 (ma:Int))).setCell ⟨q,3,none⟩ (.slice la.A la.n la.c)).setCell ⟨q,4,none⟩ (.int .i64 (bK:Int))).setCell ⟨q,5,none⟩ (.bool ch)).setCell ⟨q,6,none⟩ (.slice r9.A r9.n r9.c)).setCell ⟨q,7,none⟩ (.int .i64 (mc:Int))).setCell ⟨q,8,none⟩ (.int .i64 (tc:Int))).setCell ⟨q,9,none⟩ (.slice n.A n.n n.c)).setCell ⟨q,10,none⟩ (.slice a.A a.n a.c)).setCell ⟨q,11,none⟩ (.slice g.A g.n g.c)).setCell ⟨q,12,none⟩ (.int .i64 (md:Int))).setCell ⟨q,13,none⟩ (.int .i64 (pd:Int))).setCell ⟨q,14,none⟩ (.slice (v 0).A (v 0).n (v 0).c)).setCell ⟨q,15,none⟩ (.slice (v 1).A (v 1).n (v 1).c)).setCell ⟨q,16,none⟩ (.slice (v 2).A (v 2).n (v 2).c)).setCell ⟨q,17,none⟩ (.slice (v 3).A (v 3).n (v 3).c)=W5 at Z x0 x1 x2 hHeld|-;have Y:=J (vp Z.out.1 Z.out.2.1 Z.out.2.2.1 Z.out.2.2.2.1 Z.out.2.2.2.2.1 Z.out.2.2.2.2.2 NE.out.1 NE.out.2.1 NE.out.2.2.2.2 NP.out.1 LO.out.1 bB.out);obtain⟨r0,r1,r2⟩:=Z.out.2.2.1.c;obtain⟨g0,g1,g2⟩:=Z.out.2.2.1.f;refine wpAnyH_ready (rs:=[3]) (by kernel_rfl) (by simp) ?_;refine zn rfl (λK hK=>?_);go_simp;obtain⟨y0,y1,y2⟩:=Y.out.2.2.2.1.c;refine hK.out _ _ ?_ (λhHeld=>?_)
 . exact⟨Y.out.1,y0,y1,y2⟩
 clear hK K;(try simp only[Act.put,za,zb,zc]);refine wpAnyH_done (by kernel_rfl) ?_ _;refine NoPanic.normal ?_;clear hHeld r0 r1 r2 g0 g1 g2 x0 x1 x2 y0 y1 y2;go_wp2_with fail
 (try simp only[Exit.inBlock,Exit.then]);refine bodyPost_ret (AR.aP rfl _ _ _ ⟨q,0,none⟩ ⟨r,0,none⟩ _ _ rfl (cy Y.out.2.1) rfl (AR.cL Y.out.2.2.1)) rfl ?_;exact⟨_,_,_,_,_,_,rfl,Y.out.2.2.2.2.1,Y.out.2.2.2.2.2⟩
theorem FG(bK:Nat)(B':List (LF.Ht.aa zy))(U:∀(W:zw) (Q:Nat->Prop),ZW W Q lb B->AR.Cl W Q->Calls prog 52 #[.agg #[.int .i64 (mb:Int),.bool ch,.slice lb.A lb.n lb.c],.string key] W (kQ (λx=> .tuple #[x,.agg #[.bool t1,.string t2,.bool t3]]) W Q bK ch B')):Calls prog 16 #[ba 2 mo ma la mb ch lb mc tc n a g md pd v,.string key] w (CT w P (λx=> .tuple #[x,.agg #[.bool t1,.string t2,.bool t3]]) 2 mo ma bK ch mc tc md pd xs B' N A G X):=by
 have R0:=J (RQ.start h hP 2 mo ma mb ch mc tc md pd);clear h hP;go_enter func16,ntmps16;go_upto_region 2 with fail
 generalize(((w.alloc (bn 2 mo ma la mb ch lb mc tc n a g md pd v)).alloc aR).alloc (AR.bq false ⟨#[]⟩ false)).alloc (AR.bq false ⟨#[]⟩ false)=W at R0|-;have bB:=zs (∀k,AR.wq P w.heap.size k->P k) (λk hk=>hk.1);generalize AR.wq P w.heap.size=Q at R0 bB;generalize w.heap.size+1+1+1=x at R0|-;generalize w.heap.size+1+1=r at R0|-;generalize w.heap.size+1=q at R0|-;obtain⟨p,hp⟩:=zx w.heap.size;rw[← hp] at R0|-;have bR:=J hp;clear hp;have U1:=J (U W _ R0.out.two.b.rows.rb R0.out.two.b.cl);obtain⟨c0,c1,c2,c3,c4,c5,c6,c7,c8,c9,b8,b9,cd,cj,ck,cq,cr,ct⟩:=R0.out.two.b.box.c;go_wp2_with fail
 refine U1.out.mono ?_;rintro e W1 ⟨r9,rfl,hr,hB⟩;have bu:=R0.out.below hB;have cW:p≠x:=qa bu.ne.2.2.1;have bl:x≠p:=bu.ne.2.2.1
 have R1:=J (show RQ w ((((((W1.setCell ⟨p,4,none⟩ (.int .i64 (bK:Int))).setCell ⟨p,5,none⟩ (.bool ch)).setCell ⟨p,6,none⟩ (.slice r9.A r9.n r9.c)).setCell ⟨x,0,none⟩ (.bool t1)).setCell ⟨x,1,none⟩ (.string t2)).setCell ⟨x,2,none⟩ (.bool t3)) Q p q r x 2 mo ma la bK ch r9 mc tc n a g md pd v xs B' N A G X t1 t2 t3 from
  (⟨bu.two.nU (u:=bK) (b:=ch) hr,(((bu.res.other (z:=⟨p,4,none⟩) bu.ne.1 _).other (z:=⟨p,5,none⟩) bu.ne.1 _).other (z:=⟨p,6,none⟩) bu.ne.1 _),(((bu.aH.other (z:=⟨p,4,none⟩) bl _).other (z:=⟨p,5,none⟩) bl _).other (z:=⟨p,6,none⟩) bl _),bu.np,bu.ne,bu.low⟩:RQ w _ Q p q r x 2 mo ma la bK ch r9 mc tc n a g md pd v xs B' N A G X false ⟨#[]⟩ false).step t1 t2 t3)
 obtain⟨_,_,_,_,d4,d5,d6,_,_,_,_,_,_,_,_,_,_,_⟩:=bu.two.b.box.c;obtain⟨_,_,_,_,f4,f5,f6,_,_,_,_,_,_,_,_,_,_,_⟩:=bu.two.b.box.f;obtain⟨x0,x1,x2⟩:=bu.aH.c;obtain⟨g0,g1,g2⟩:=bu.aH.f;clear c0 c1 c2 c3 c4 c5 c6 c7 c8 c9 b8 b9 cd cj ck cq cr ct hr hB bu U1 R0;go_upto_region 12 with fail
 clear d4 d5 d6 f4 f5 f6 x0 x1 x2 g0 g1 g2 cW bl;generalize(((((W1.setCell ⟨p,4,none⟩ (.int .i64 (bK:Int))).setCell ⟨p,5,none⟩ (.bool ch)).setCell ⟨p,6,none⟩ (.slice r9.A r9.n r9.c)).setCell ⟨x,0,none⟩ (.bool t1)).setCell ⟨x,1,none⟩ (.string t2)).setCell ⟨x,2,none⟩ (.bool t3)=W2 at R1|-;have RD:=J (R1.out.below (AR.aG W2));clear R1;obtain⟨x0,x1,x2⟩:=RD.out.aH.c;have RX:=J RD.out.two.b.box;refine wp_region_noPanic ?_;refine wp_region_held_drew (S:=(λw'=>RB w' p 2 mo ma la bK ch r9 mc tc n a g md pd v/\w'.cell? ⟨x,0,none⟩=some (.bool t1)/\w'.cell? ⟨x,1,none⟩=some (.string t2)/\w'.cell? ⟨x,2,none⟩=some (.bool t3))) (by kernel_rfl) ?_ (λhHeld=>?_)
 . exact⟨RX.out,x0,x1,x2⟩
 generalize W2.drew=W3 at RD RX x0 x1 x2 hHeld|-;refine zk 0 (v:=ba 2 mo ma la bK ch r9 mc tc n a g md pd v) rfl (by kernel_rfl) zq (tZ (by rfl) _ rfl rfl (λw hw=>hw.1)) ‹_› ?_;(try simp only[Act.put,za,zb,zc]);refine zi 0 (v:=?_) rfl (by kernel_rfl) zq ‹_› (by intro w aO;(try dsimp only at aO);obtain⟨_,y0,y1,y2⟩:=aO;go_simp;(try with_reducible rfl)) ?_;(try simp only[Act.put,za,zb,zc]);have Z:=J RD.out.AG;have NE:=J RD.out.ne;have NP:=J RD.out.np;have LO:=J RD.out.low;refine wpAnyH_ready (rs:=[2]) (by kernel_rfl) (by simp) ?_;refine zn rfl (λK hK=>?_);rw[if_pos (by rfl)];refine AF _ _ rfl RD.out.two.res rfl rfl ?_;obtain⟨x0,x1,x2⟩:=Z.out.2.2.2.1.c;refine hK.out _ _ ?_ (λhHeld=>?_)
 . exact⟨Z.out.1,x0,x1,x2⟩
 clear hK K RX RD;(try simp only[Act.put,za,zb,zc]);dsimp only[bH] at Z x0 x1 x2 hHeld|-;generalize(((((((((((((((((W3.setCell ⟨q,0,none⟩ (.int .i64 (2:Int))).setCell ⟨q,1,none⟩ (.int .i64 (mo:Int))).setCell ⟨q,2,none⟩ (.int .i64 (ma:Int))).setCell ⟨q,3,none⟩ (.slice la.A la.n la.c)).setCell ⟨q,4,none⟩ (.int .i64 (bK:Int))).setCell ⟨q,5,none⟩ (.bool ch)).setCell ⟨q,6,none⟩ (.slice r9.A r9.n r9.c)).setCell ⟨q,7,none⟩ (.int .i64 (mc:Int))).setCell ⟨q,8,none⟩ (.int .i64 (tc:Int))).setCell ⟨q,9,none⟩ (.slice n.A n.n n.c)).setCell ⟨q,10,none⟩ (.slice a.A a.n a.c)).setCell ⟨q,11,none⟩ (.slice g.A g.n g.c)).setCell ⟨q,12,none⟩ (.int .i64 (md:Int))).setCell ⟨q,13,none⟩ (.int .i64 (pd:Int))).setCell ⟨q,14,none⟩ (.slice (v 0).A (v 0).n (v 0).c)).setCell ⟨q,15,none⟩ (.slice (v 1).A (v 1).n (v 1).c)).setCell ⟨q,16,none⟩ (.slice (v 2).A (v 2).n (v 2).c)).setCell ⟨q,17,none⟩ (.slice (v 3).A (v 3).n (v 3).c)=W5 at Z x0 x1 x2 hHeld|-;have Y:=J (vp Z.out.1 Z.out.2.1 Z.out.2.2.1 Z.out.2.2.2.1 Z.out.2.2.2.2.1 Z.out.2.2.2.2.2 NE.out.1 NE.out.2.1 NE.out.2.2.2.2 NP.out.1 LO.out.1 bB.out);obtain⟨r0,r1,r2⟩:=Z.out.2.2.1.c;obtain⟨g0,g1,g2⟩:=Z.out.2.2.1.f;refine wpAnyH_ready (rs:=[3]) (by kernel_rfl) (by simp) ?_;refine zn rfl (λK hK=>?_);go_simp;obtain⟨y0,y1,y2⟩:=Y.out.2.2.2.1.c;refine hK.out _ _ ?_ (λhHeld=>?_)
 . exact⟨Y.out.1,y0,y1,y2⟩
 clear hK K;(try simp only[Act.put,za,zb,zc]);refine wpAnyH_done (by kernel_rfl) ?_ _;refine NoPanic.normal ?_;clear hHeld r0 r1 r2 g0 g1 g2 x0 x1 x2 y0 y1 y2;go_wp2_with fail
 (try simp only[Exit.inBlock,Exit.then]);refine bodyPost_ret (AR.aP rfl _ _ _ ⟨q,0,none⟩ ⟨r,0,none⟩ _ _ rfl (cy Y.out.2.1) rfl (AR.cL Y.out.2.2.1)) rfl ?_;exact⟨_,_,_,_,_,_,rfl,Y.out.2.2.2.2.1,Y.out.2.2.2.2.2⟩
theorem FH(db dc:Nat)(N' A' G':List SR.KE)(U:∀(W:zw) (Q:Nat->Prop),SR.Rw W Q n a g N A G->AR.Cl W Q->Calls prog 53 #[SR.aU mc tc n a g,.string key] W (SR.CT W Q (λx=> .tuple #[x,.agg #[.bool t1,.string t2,.bool t3]]) db dc N' A' G')):Calls prog 16 #[ba 3 mo ma la mb ch lb mc tc n a g md pd v,.string key] w (CT w P (λx=> .tuple #[x,.agg #[.bool t1,.string t2,.bool t3]]) 3 mo ma mb ch db dc md pd xs B N' A' G' X):=by
 have R0:=J (RQ.start h hP 3 mo ma mb ch mc tc md pd);clear h hP;go_enter func16,ntmps16;go_upto_region 2 with fail
 generalize(((w.alloc (bn 3 mo ma la mb ch lb mc tc n a g md pd v)).alloc aR).alloc (AR.bq false ⟨#[]⟩ false)).alloc (AR.bq false ⟨#[]⟩ false)=W at R0|-;have bB:=zs (∀k,AR.wq P w.heap.size k->P k) (λk hk=>hk.1);generalize AR.wq P w.heap.size=Q at R0 bB;generalize w.heap.size+1+1+1=x at R0|-;generalize w.heap.size+1+1=r at R0|-;generalize w.heap.size+1=q at R0|-;obtain⟨p,hp⟩:=zx w.heap.size;rw[← hp] at R0|-;have bR:=J hp;clear hp;have U1:=J (U W _ R0.out.two.b.rows.rc R0.out.two.b.cl);obtain⟨c0,c1,c2,c3,c4,c5,c6,c7,c8,c9,b8,b9,cd,cj,ck,cq,cr,ct⟩:=R0.out.two.b.box.c;go_wp2_with fail
 refine U1.out.mono ?_;rintro e W1 ⟨n9,a9,g9,rfl,hr,hB⟩;have bu:=R0.out.below hB;have cW:p≠x:=qa bu.ne.2.2.1;have bl:x≠p:=bu.ne.2.2.1
 have R1:=J (show RQ w ((((((((W1.setCell ⟨p,7,none⟩ (.int .i64 (db:Int))).setCell ⟨p,8,none⟩ (.int .i64 (dc:Int))).setCell ⟨p,9,none⟩ (.slice n9.A n9.n n9.c)).setCell ⟨p,10,none⟩ (.slice a9.A a9.n a9.c)).setCell ⟨p,11,none⟩ (.slice g9.A g9.n g9.c)).setCell ⟨x,0,none⟩ (.bool t1)).setCell ⟨x,1,none⟩ (.string t2)).setCell ⟨x,2,none⟩ (.bool t3)) Q p q r x 3 mo ma la mb ch lb db dc n9 a9 g9 md pd v xs B N' A' G' X t1 t2 t3 from
  (⟨bu.two.lK (u:=db) (t:=dc) hr,(((((bu.res.other (z:=⟨p,7,none⟩) bu.ne.1 _).other (z:=⟨p,8,none⟩) bu.ne.1 _).other (z:=⟨p,9,none⟩) bu.ne.1 _).other (z:=⟨p,10,none⟩) bu.ne.1 _).other (z:=⟨p,11,none⟩) bu.ne.1 _),(((((bu.aH.other (z:=⟨p,7,none⟩) bl _).other (z:=⟨p,8,none⟩) bl _).other (z:=⟨p,9,none⟩) bl _).other (z:=⟨p,10,none⟩) bl _).other (z:=⟨p,11,none⟩) bl _),bu.np,bu.ne,bu.low⟩:RQ w _ Q p q r x 3 mo ma la mb ch lb db dc n9 a9 g9 md pd v xs B N' A' G' X false ⟨#[]⟩ false).step t1 t2 t3)
 obtain⟨_,_,_,_,_,_,_,d7,d8,d9,d10,d11,_,_,_,_,_,_⟩:=bu.two.b.box.c;obtain⟨_,_,_,_,_,_,_,f7,f8,f9,f10,f11,_,_,_,_,_,_⟩:=bu.two.b.box.f;obtain⟨x0,x1,x2⟩:=bu.aH.c;obtain⟨g0,g1,g2⟩:=bu.aH.f;clear c0 c1 c2 c3 c4 c5 c6 c7 c8 c9 b8 b9 cd cj ck cq cr ct hr hB bu U1 R0;go_upto_region 12 with fail
 clear d7 d8 d9 d10 d11 f7 f8 f9 f10 f11 x0 x1 x2 g0 g1 g2 cW bl;generalize(((((((W1.setCell ⟨p,7,none⟩ (.int .i64 (db:Int))).setCell ⟨p,8,none⟩ (.int .i64 (dc:Int))).setCell ⟨p,9,none⟩ (.slice n9.A n9.n n9.c)).setCell ⟨p,10,none⟩ (.slice a9.A a9.n a9.c)).setCell ⟨p,11,none⟩ (.slice g9.A g9.n g9.c)).setCell ⟨x,0,none⟩ (.bool t1)).setCell ⟨x,1,none⟩ (.string t2)).setCell ⟨x,2,none⟩ (.bool t3)=W2 at R1|-;have RD:=J (R1.out.below (AR.aG W2));clear R1;obtain⟨x0,x1,x2⟩:=RD.out.aH.c;have RX:=J RD.out.two.b.box;refine wp_region_noPanic ?_;refine wp_region_held_drew (S:=(λw'=>RB w' p 3 mo ma la mb ch lb db dc n9 a9 g9 md pd v/\w'.cell? ⟨x,0,none⟩=some (.bool t1)/\w'.cell? ⟨x,1,none⟩=some (.string t2)/\w'.cell? ⟨x,2,none⟩=some (.bool t3))) (by kernel_rfl) ?_ (λhHeld=>?_)
 . exact⟨RX.out,x0,x1,x2⟩
 generalize W2.drew=W3 at RD RX x0 x1 x2 hHeld|-;refine zk 0 (v:=ba 3 mo ma la mb ch lb db dc n9 a9 g9 md pd v) rfl (by kernel_rfl) zq (tZ (by rfl) _ rfl rfl (λw hw=>hw.1)) ‹_› ?_;(try simp only[Act.put,za,zb,zc]);refine zi 0 (v:=?_) rfl (by kernel_rfl) zq ‹_› (by intro w aO;(try dsimp only at aO);obtain⟨_,y0,y1,y2⟩:=aO;go_simp;(try with_reducible rfl)) ?_;(try simp only[Act.put,za,zb,zc]);have Z:=J RD.out.AG;have NE:=J RD.out.ne;have NP:=J RD.out.np;have LO:=J RD.out.low;refine wpAnyH_ready (rs:=[2]) (by kernel_rfl) (by simp) ?_;refine zn rfl (λK hK=>?_);rw[if_pos (by rfl)];refine AF _ _ rfl RD.out.two.res rfl rfl ?_;obtain⟨x0,x1,x2⟩:=Z.out.2.2.2.1.c;refine hK.out _ _ ?_ (λhHeld=>?_)
 . exact⟨Z.out.1,x0,x1,x2⟩
 clear hK K RX RD;(try simp only[Act.put,za,zb,zc]);dsimp only[bH] at Z x0 x1 x2 hHeld|-;generalize(((((((((((((((((W3.setCell ⟨q,0,none⟩ (.int .i64 (3:Int))).setCell ⟨q,1,none⟩ (.int .i64 (mo:Int))).setCell ⟨q,2,none⟩ (.int .i64 (ma:Int))).setCell ⟨q,3,none⟩ (.slice la.A la.n la.c)).setCell ⟨q,4,none⟩ (.int .i64 (mb:Int))).setCell ⟨q,5,none⟩ (.bool ch)).setCell ⟨q,6,none⟩ (.slice lb.A lb.n lb.c)).setCell ⟨q,7,none⟩ (.int .i64 (db:Int))).setCell ⟨q,8,none⟩ (.int .i64 (dc:Int))).setCell ⟨q,9,none⟩ (.slice n9.A n9.n n9.c)).setCell ⟨q,10,none⟩ (.slice a9.A a9.n a9.c)).setCell ⟨q,11,none⟩ (.slice g9.A g9.n g9.c)).setCell ⟨q,12,none⟩ (.int .i64 (md:Int))).setCell ⟨q,13,none⟩ (.int .i64 (pd:Int))).setCell ⟨q,14,none⟩ (.slice (v 0).A (v 0).n (v 0).c)).setCell ⟨q,15,none⟩ (.slice (v 1).A (v 1).n (v 1).c)).setCell ⟨q,16,none⟩ (.slice (v 2).A (v 2).n (v 2).c)).setCell ⟨q,17,none⟩ (.slice (v 3).A (v 3).n (v 3).c)=W5 at Z x0 x1 x2 hHeld|-;have Y:=J (vp Z.out.1 Z.out.2.1 Z.out.2.2.1 Z.out.2.2.2.1 Z.out.2.2.2.2.1 Z.out.2.2.2.2.2 NE.out.1 NE.out.2.1 NE.out.2.2.2.2 NP.out.1 LO.out.1 bB.out);obtain⟨r0,r1,r2⟩:=Z.out.2.2.1.c;obtain⟨g0,g1,g2⟩:=Z.out.2.2.1.f;refine wpAnyH_ready (rs:=[3]) (by kernel_rfl) (by simp) ?_;refine zn rfl (λK hK=>?_);go_simp;obtain⟨y0,y1,y2⟩:=Y.out.2.2.2.1.c;refine hK.out _ _ ?_ (λhHeld=>?_)
 . exact⟨Y.out.1,y0,y1,y2⟩
 clear hK K;(try simp only[Act.put,za,zb,zc]);refine wpAnyH_done (by kernel_rfl) ?_ _;refine NoPanic.normal ?_;clear hHeld r0 r1 r2 g0 g1 g2 x0 x1 x2 y0 y1 y2;go_wp2_with fail
 (try simp only[Exit.inBlock,Exit.then]);refine bodyPost_ret (AR.aP rfl _ _ _ ⟨q,0,none⟩ ⟨r,0,none⟩ _ _ rfl (cy Y.out.2.1) rfl (AR.cL Y.out.2.2.1)) rfl ?_;exact⟨_,_,_,_,_,_,rfl,Y.out.2.2.2.2.1,Y.out.2.2.2.2.2⟩
theorem FJ(dd de:Nat)(X':AR.L4)(U:∀(W:zw) (Q:Nat->Prop),AR.R4 W Q v X->AR.Cl W Q->Calls prog 54 #[AR.aU md pd v,.string key] W (AR.CT W Q (λx=> .tuple #[x,.agg #[.bool t1,.string t2,.bool t3]]) dd de X')):Calls prog 16 #[ba 4 mo ma la mb ch lb mc tc n a g md pd v,.string key] w (CT w P (λx=> .tuple #[x,.agg #[.bool t1,.string t2,.bool t3]]) 4 mo ma mb ch mc tc dd de xs B N A G X'):=by
 have R0:=J (RQ.start h hP 4 mo ma mb ch mc tc md pd);clear h hP;go_enter func16,ntmps16;go_upto_region 2 with fail
 generalize(((w.alloc (bn 4 mo ma la mb ch lb mc tc n a g md pd v)).alloc aR).alloc (AR.bq false ⟨#[]⟩ false)).alloc (AR.bq false ⟨#[]⟩ false)=W at R0|-;have bB:=zs (∀k,AR.wq P w.heap.size k->P k) (λk hk=>hk.1);generalize AR.wq P w.heap.size=Q at R0 bB;generalize w.heap.size+1+1+1=x at R0|-;generalize w.heap.size+1+1=r at R0|-;generalize w.heap.size+1=q at R0|-;obtain⟨p,hp⟩:=zx w.heap.size;rw[← hp] at R0|-;have bR:=J hp;clear hp;have U1:=J (U W _ R0.out.two.b.rows.rd R0.out.two.b.cl);obtain⟨c0,c1,c2,c3,c4,c5,c6,c7,c8,c9,b8,b9,cd,cj,ck,cq,cr,ct⟩:=R0.out.two.b.box.c;go_wp2_with fail
 refine U1.out.mono ?_;rintro e W1 ⟨v9,rfl,hr,hB⟩;have bu:=R0.out.below hB;have cW:p≠x:=qa bu.ne.2.2.1;have bl:x≠p:=bu.ne.2.2.1
 have R1:=J (show RQ w (((((((((W1.setCell ⟨p,12,none⟩ (.int .i64 (dd:Int))).setCell ⟨p,13,none⟩ (.int .i64 (de:Int))).setCell ⟨p,14,none⟩ (.slice (v9 0).A (v9 0).n (v9 0).c)).setCell ⟨p,15,none⟩ (.slice (v9 1).A (v9 1).n (v9 1).c)).setCell ⟨p,16,none⟩ (.slice (v9 2).A (v9 2).n (v9 2).c)).setCell ⟨p,17,none⟩ (.slice (v9 3).A (v9 3).n (v9 3).c)).setCell ⟨x,0,none⟩ (.bool t1)).setCell ⟨x,1,none⟩ (.string t2)).setCell ⟨x,2,none⟩ (.bool t3)) Q p q r x 4 mo ma la mb ch lb mc tc n a g dd de v9 xs B N A G X' t1 t2 t3 from
  (⟨bu.two.pP (u:=dd) (t:=de) hr,((((((bu.res.other (z:=⟨p,12,none⟩) bu.ne.1 _).other (z:=⟨p,13,none⟩) bu.ne.1 _).other (z:=⟨p,14,none⟩) bu.ne.1 _).other (z:=⟨p,15,none⟩) bu.ne.1 _).other (z:=⟨p,16,none⟩) bu.ne.1 _).other (z:=⟨p,17,none⟩) bu.ne.1 _),((((((bu.aH.other (z:=⟨p,12,none⟩) bl _).other (z:=⟨p,13,none⟩) bl _).other (z:=⟨p,14,none⟩) bl _).other (z:=⟨p,15,none⟩) bl _).other (z:=⟨p,16,none⟩) bl _).other (z:=⟨p,17,none⟩) bl _),bu.np,bu.ne,bu.low⟩:RQ w _ Q p q r x 4 mo ma la mb ch lb mc tc n a g dd de v9 xs B N A G X' false ⟨#[]⟩ false).step t1 t2 t3)
 obtain⟨_,_,_,_,_,_,_,_,_,_,_,_,d12,d13,d14,d15,d16,d17⟩:=bu.two.b.box.c;obtain⟨_,_,_,_,_,_,_,_,_,_,_,_,f12,f13,f14,f15,f16,f17⟩:=bu.two.b.box.f;obtain⟨x0,x1,x2⟩:=bu.aH.c;obtain⟨g0,g1,g2⟩:=bu.aH.f;clear c0 c1 c2 c3 c4 c5 c6 c7 c8 c9 b8 b9 cd cj ck cq cr ct hr hB bu U1 R0;go_upto_region 12 with fail
 clear d12 d13 d14 d15 d16 d17 f12 f13 f14 f15 f16 f17 x0 x1 x2 g0 g1 g2 cW bl;generalize((((((((W1.setCell ⟨p,12,none⟩ (.int .i64 (dd:Int))).setCell ⟨p,13,none⟩ (.int .i64 (de:Int))).setCell ⟨p,14,none⟩ (.slice (v9 0).A (v9 0).n (v9 0).c)).setCell ⟨p,15,none⟩ (.slice (v9 1).A (v9 1).n (v9 1).c)).setCell ⟨p,16,none⟩ (.slice (v9 2).A (v9 2).n (v9 2).c)).setCell ⟨p,17,none⟩ (.slice (v9 3).A (v9 3).n (v9 3).c)).setCell ⟨x,0,none⟩ (.bool t1)).setCell ⟨x,1,none⟩ (.string t2)).setCell ⟨x,2,none⟩ (.bool t3)=W2 at R1|-;have RD:=J (R1.out.below (AR.aG W2));clear R1;obtain⟨x0,x1,x2⟩:=RD.out.aH.c;have RX:=J RD.out.two.b.box;refine wp_region_noPanic ?_;refine wp_region_held_drew (S:=(λw'=>RB w' p 4 mo ma la mb ch lb mc tc n a g dd de v9/\w'.cell? ⟨x,0,none⟩=some (.bool t1)/\w'.cell? ⟨x,1,none⟩=some (.string t2)/\w'.cell? ⟨x,2,none⟩=some (.bool t3))) (by kernel_rfl) ?_ (λhHeld=>?_)
 . exact⟨RX.out,x0,x1,x2⟩
 generalize W2.drew=W3 at RD RX x0 x1 x2 hHeld|-;refine zk 0 (v:=ba 4 mo ma la mb ch lb mc tc n a g dd de v9) rfl (by kernel_rfl) zq (tZ (by rfl) _ rfl rfl (λw hw=>hw.1)) ‹_› ?_;(try simp only[Act.put,za,zb,zc]);refine zi 0 (v:=?_) rfl (by kernel_rfl) zq ‹_› (by intro w aO;(try dsimp only at aO);obtain⟨_,y0,y1,y2⟩:=aO;go_simp;(try with_reducible rfl)) ?_;(try simp only[Act.put,za,zb,zc]);have Z:=J RD.out.AG;have NE:=J RD.out.ne;have NP:=J RD.out.np;have LO:=J RD.out.low;refine wpAnyH_ready (rs:=[2]) (by kernel_rfl) (by simp) ?_;refine zn rfl (λK hK=>?_);rw[if_pos (by rfl)];refine AF _ _ rfl RD.out.two.res rfl rfl ?_;obtain⟨x0,x1,x2⟩:=Z.out.2.2.2.1.c;refine hK.out _ _ ?_ (λhHeld=>?_)
 . exact⟨Z.out.1,x0,x1,x2⟩
 clear hK K RX RD;(try simp only[Act.put,za,zb,zc]);dsimp only[bH] at Z x0 x1 x2 hHeld|-;generalize(((((((((((((((((W3.setCell ⟨q,0,none⟩ (.int .i64 (4:Int))).setCell ⟨q,1,none⟩ (.int .i64 (mo:Int))).setCell ⟨q,2,none⟩ (.int .i64 (ma:Int))).setCell ⟨q,3,none⟩ (.slice la.A la.n la.c)).setCell ⟨q,4,none⟩ (.int .i64 (mb:Int))).setCell ⟨q,5,none⟩ (.bool ch)).setCell ⟨q,6,none⟩ (.slice lb.A lb.n lb.c)).setCell ⟨q,7,none⟩ (.int .i64 (mc:Int))).setCell ⟨q,8,none⟩ (.int .i64 (tc:Int))).setCell ⟨q,9,none⟩ (.slice n.A n.n n.c)).setCell ⟨q,10,none⟩ (.slice a.A a.n a.c)).setCell ⟨q,11,none⟩ (.slice g.A g.n g.c)).setCell ⟨q,12,none⟩ (.int .i64 (dd:Int))).setCell ⟨q,13,none⟩ (.int .i64 (de:Int))).setCell ⟨q,14,none⟩ (.slice (v9 0).A (v9 0).n (v9 0).c)).setCell ⟨q,15,none⟩ (.slice (v9 1).A (v9 1).n (v9 1).c)).setCell ⟨q,16,none⟩ (.slice (v9 2).A (v9 2).n (v9 2).c)).setCell ⟨q,17,none⟩ (.slice (v9 3).A (v9 3).n (v9 3).c)=W5 at Z x0 x1 x2 hHeld|-;have Y:=J (vp Z.out.1 Z.out.2.1 Z.out.2.2.1 Z.out.2.2.2.1 Z.out.2.2.2.2.1 Z.out.2.2.2.2.2 NE.out.1 NE.out.2.1 NE.out.2.2.2.2 NP.out.1 LO.out.1 bB.out);obtain⟨r0,r1,r2⟩:=Z.out.2.2.1.c;obtain⟨g0,g1,g2⟩:=Z.out.2.2.1.f;refine wpAnyH_ready (rs:=[3]) (by kernel_rfl) (by simp) ?_;refine zn rfl (λK hK=>?_);go_simp;obtain⟨y0,y1,y2⟩:=Y.out.2.2.2.1.c;refine hK.out _ _ ?_ (λhHeld=>?_)
 . exact⟨Y.out.1,y0,y1,y2⟩
 clear hK K;(try simp only[Act.put,za,zb,zc]);refine wpAnyH_done (by kernel_rfl) ?_ _;refine NoPanic.normal ?_;clear hHeld r0 r1 r2 g0 g1 g2 x0 x1 x2 y0 y1 y2;go_wp2_with fail
 (try simp only[Exit.inBlock,Exit.then]);refine bodyPost_ret (AR.aP rfl _ _ _ ⟨q,0,none⟩ ⟨r,0,none⟩ _ _ rfl (cy Y.out.2.1) rfl (AR.cL Y.out.2.2.1)) rfl ?_;exact⟨_,_,_,_,_,_,rfl,Y.out.2.2.2.2.1,Y.out.2.2.2.2.2⟩
end
end P9
namespace P9
open Go.RowKit Sg
def Lk(st:aN)(ma mb:Nat)(ch:Bool)(mc tc md pd:Nat)(xs:zY)(B:List (LF.Ht.aa zy))(N A G:List SR.KE)(X:AR.L4):Prop:=
 match st with
 | .lr m ks=>ma=m/\xs=ks/\B= []/\(N= []/\A= []/\G= [])/\X=λ_=>[]
 | .lf c m n L=>mb=m/\ch=c/\LF.By c L B n/\xs= []/\(N= []/\A= []/\G= [])/\X=λ_=>[]
 | .sr s=>mc=s.mo/\tc=s.t/\N=s.rN/\A=s.rA/\G=s.rG/\xs= []/\B= []/\X=λ_=>[]
 | .ar s=>md=s.mo/\pd=s.p/\X=AR.rv s.R/\xs= []/\B= []/\(N= []/\A= []/\G= [])
def RS(w:zw)(P:Nat->Prop)(st:aN)(ma:Nat)(la:AR.Sl)(mb:Nat)(ch:Bool)(lb:AR.Sl)(mc tc:Nat)(n a g:SR.Sl)(md pd:Nat)(v:AR.S4):Prop:=
 ∃xs B N A G X,R9 w P la lb n a g v xs B N A G X/\Lk st ma mb ch mc tc md pd xs B N A G X
section
variable{w w':zw}{P P':Nat->Prop}{st:aN}{ma mb mc tc md pd:Nat}{la lb:AR.Sl}{ch:Bool}{n a g:SR.Sl}{v:AR.S4}
theorem RS.below(h:RS w P st ma la mb ch lb mc tc n a g md pd v)(hb:Below w.heap.size w w'):RS w' P st ma la mb ch lb mc tc n a g md pd v:=by
 obtain⟨xs,B,N,A,G,X,h1,h2⟩:=h;exact⟨xs,B,N,A,G,X,h1.below hb,h2⟩
theorem RS.wide(h:RS w P st ma la mb ch lb mc tc n a g md pd v)(hp:∀k,P k->k < w.heap.size->P' k):RS w P' st ma la mb ch lb mc tc n a g md pd v:=by
 obtain⟨xs,B,N,A,G,X,h1,h2⟩:=h;exact⟨xs,B,N,A,G,X,h1.wide hp,h2⟩
end
def aL(F:Value->Value)(w:zw)(P:Nat->Prop)(st:aN)(e:Ending)(w':zw):Prop:=
 ∃ma la mb ch lb mc tc n a g md pd v,e= .returned (F (ba st.kind st.mo ma la mb ch lb mc tc n a g md pd v))/\RS w' P st ma la mb ch lb mc tc n a g md pd v/\Below w.heap.size w w'
theorem bI{F:Value->Value}{w:zw}{P:Nat->Prop}{k mo ma mb:Nat}{ch:Bool}{mc tc md pd:Nat}{xs:zY}{B:List (LF.Ht.aa zy)}{N A G:List SR.KE}{X:AR.L4}{e:Ending}{w':zw}(h:CT w P F k mo ma mb ch mc tc md pd xs B N A G X e w'){st:aN}(hk:k=st.kind)(hm:mo=st.mo)(hl:Lk st ma mb ch mc tc md pd xs B N A G X):aL F w P st e w':=by
 obtain⟨la,lb,n,a,g,v,he,hr,hb⟩:=h;subst hk;subst hm;exact⟨ma,la,mb,ch,lb,mc,tc,n,a,g,md,pd,v,he,⟨xs,B,N,A,G,X,hr,hl⟩,hb⟩
def Bd(st:aN):Prop:=st.Ok/\st.mo<=16777216/\(∀x∈st.keys,x.size<=maxLen)/\match st with
 | .lr _ ks=>ks.length<=1000
 | .lf _ _ n L=>L.length<=1000/\n<=1000
 | .sr s=>s.cz<=1000
 | .ar s=>AR.a7 s.R<=1000
theorem QA{w:zw}{c b:Nat}{T:Nat->Prop}{st:aN}(h:iM w c T st b)(hb:b<=900)(hm:st.mo<=16777216):Bd st:=by
 refine⟨h.ok,hm,h.small,?_⟩;cases st with
 |lr mo ks=>have:=(LR.Ca.le h).2.2;show ks.length<=1000;omega
 |lf ch mo n L=>exact⟨(LF.Ca.le h.1).2,zr h.2 (by omega)⟩
 |sr s=>exact zr (SR.Ca.cz h) (by omega)
 |ar s=>exact zr (AR.Ca.cz h) (by omega)
theorem KL{L:List (LF.Ht.aa zy)}:(LF.Lf.aC L).headD ⟨#[]⟩=LF.Lf.jK L/\(!(LF.Lf.aC L).isEmpty)=!L.isEmpty:=by cases L <;> exact⟨rfl,rfl⟩
def vq(L B:List (LF.Ht.aa zy)):List (LF.Ht.aa zy):=match L with
 | []=>B
 |x::_=>LF.Ht.rem B x.key
theorem KM(w:zw)(P:Nat->Prop)(lb:AR.Sl)(mb:Nat)(ch:Bool)(L B:List (LF.Ht.aa zy))(m:Nat)(h:ZW w P lb B)(hP:AR.Cl w P)(hl:B.length<=1000)(y:LF.By ch L B m):Calls prog 63 #[.agg #[.int .i64 (mb:Int),.bool ch,.slice lb.A lb.n lb.c]] w (kQ (λx=> .tuple #[x,.string (LF.Lf.jK L),.bool (!L.isEmpty)]) w P mb ch (vq L B))/\LF.By ch L.tail (vq L B) m:=by
 obtain⟨g,hg,hr⟩:=Ci h hP;cases L with
 |nil=>
  refine⟨(LF.CE w g mb ch lb.A lb.n lb.c B m hr h.len y).mono ?_,y⟩;rintro e w' ⟨A,n,c,rfl,hk,k7,hb⟩;exact⟨⟨A,n,c⟩,rfl,ZW.kp hk k7 (λ_=>xz hg) hP,hb⟩
 |cons x L=>
  refine⟨(LF.pD w g mb ch lb.A lb.n lb.c x L B m hr h.len (by have:=h.len;omega) y).mono ?_,y.drop⟩;rintro e w' ⟨A,n,c,rfl,hk,k7,hb⟩;exact⟨⟨A,n,c⟩,rfl,ZW.kp hk k7 (λ_=>xz hg) hP,hb⟩
section
variable(w:zw)(P:Nat->Prop)(st:aN)(ma:Nat)(la:AR.Sl)(mb:Nat)(ch:Bool)(lb:AR.Sl)(mc tc:Nat)(n a g:SR.Sl)(md pd:Nat)(v:AR.S4)(h:RS w P st ma la mb ch lb mc tc n a g md pd v)(hP:AR.Cl w P)(hd:Bd st)
include h hP hd
theorem rS:Calls prog 30 #[ba st.kind st.mo ma la mb ch lb mc tc n a g md pd v] w (AR.ft w P st.keys):=by
 obtain⟨xs,B,N,A,G,X,h,hl⟩:=h;obtain⟨ok,hm,b7,hd⟩:=hd;cases st with
 |lr m ks=>
  obtain⟨rfl,rfl,rfl,⟨rfl,rfl,rfl⟩,rfl⟩:=hl;exact ON _ _ _ _ _ _ _ _ _ _ _ _ _ _ _ _ _ _ _ _ _ _ h hP _ rfl
 |lf c m k L=>
  obtain⟨rfl,rfl,y,rfl,⟨rfl,rfl,rfl⟩,rfl⟩:=hl;have ke:=y.len;have nu:∀e∈L,e.key.size<=maxLen:=λe he=>b7 e.key (List.mem_map.2 ⟨e,he,rfl⟩);have U:∀(W:zw) (Q:Nat->Prop),ZW W Q lb B->AR.Cl W Q->Calls prog 72 #[.agg #[.int .i64 (mb:Int),.bool ch,.slice lb.A lb.n lb.c]] W (AR.ft W Q (LF.Lf.aC L)):=λW Q hz hq=>OM W Q lb mb ch L B k hz hq (by rw[ke];exact hd.1) y nu;cases ch with
  |false=>exact OO _ _ _ _ _ _ _ _ _ _ _ _ _ _ _ _ _ _ _ _ _ _ h hP _ U
  |true=>exact OP _ _ _ _ _ _ _ _ _ _ _ _ _ _ _ _ _ _ _ _ _ _ h hP _ U
 |sr s=>
  obtain⟨rfl,rfl,rfl,rfl,rfl,rfl,rfl,rfl⟩:=hl;exact OQ _ _ _ _ _ _ _ _ _ _ _ _ _ _ _ _ _ _ _ _ _ _ h hP _ λW Q hz hq=>(SR.tP W Q n a g s hz hd).mono λ_ _ r=>vj hq r
 |ar s=>
  obtain⟨rfl,rfl,rfl,rfl,rfl,⟨rfl,rfl,rfl⟩⟩:=hl;exact OR _ _ _ _ _ _ _ _ _ _ _ _ _ _ _ _ _ _ _ _ _ _ h hP _ λW Q hz hq=>(AR.tP W Q v s hz hq ok (zr hm (by omega)) hd).mono λ_ _ r=>vj hq r
theorem IE:Calls prog 36 #[ba st.kind st.mo ma la mb ch lb mc tc n a g md pd v] w (AR.ft w P st.nR):=by
 obtain⟨xs,B,N,A,G,X,h,hl⟩:=h;obtain⟨ok,hm,b7,hd⟩:=hd;cases st with
 |lr m ks=>
  exact Il _ _ _ _ _ _ _ _ _ _ _ _ _ _ _ _ _ _ _ _ _ _ h hP _ rfl
 |lf c m k L=>
  cases c with
  |false=>exact Im _ _ _ _ _ _ _ _ _ _ _ _ _ _ _ _ _ _ _ _ _ _ h hP _ rfl
  |true=>exact Io _ _ _ _ _ _ _ _ _ _ _ _ _ _ _ _ _ _ _ _ _ _ h hP _ rfl
 |sr s=>
  obtain⟨rfl,rfl,rfl,rfl,rfl,rfl,rfl,rfl⟩:=hl;exact Ip _ _ _ _ _ _ _ _ _ _ _ _ _ _ _ _ _ _ _ _ _ _ h hP _ λW Q hz hq=>(SR.pS W Q n a g s hz ok hd).mono λ_ _ r=>vj hq r
 |ar s=>
  obtain⟨rfl,rfl,rfl,rfl,rfl,⟨rfl,rfl,rfl⟩⟩:=hl;exact Iq _ _ _ _ _ _ _ _ _ _ _ _ _ _ _ _ _ _ _ _ _ _ h hP _ λW Q hz hq=>(AR.pS W Q v s hz hq ok (zr hm (by omega)) hd).mono λ_ _ r=>vj hq r
end
section
variable(w:zw)(P:Nat->Prop)(st:aN)(ma:Nat)(la:AR.Sl)(mb:Nat)(ch:Bool)(lb:AR.Sl)(mc tc:Nat)(n a g:SR.Sl)(md pd:Nat)(v:AR.S4)(h:RS w P st ma la mb ch lb mc tc n a g md pd v)(hP:AR.Cl w P)(hd:Bd st)
include h hP hd
theorem AI:Calls prog 29 #[ba st.kind st.mo ma la mb ch lb mc tc n a g md pd v] w (AR.dV (.tuple #[.string st.dW,.bool st.any]) w):=by
 obtain⟨xs,B,N,A,G,X,h,hl⟩:=h;have sF:=hd;obtain⟨ok,hm,b7,hd⟩:=hd;cases st with
 |lr m ks=>
  exact Ir _ _ _ _ _ _ _ _ _ _ _ _ _ _ _ _ _ _ _ _ _ _ h hP ks λW Q hz hq=>rS W Q (.lr m ks) _ _ _ _ _ _ _ _ _ _ _ _ _ ⟨_,_,_,_,_,_,hz,hl⟩ hq sF
 |lf c m k L=>
  have e:=KL (L:=L);show Calls _ _ _ _ (AR.dV (.tuple #[.string (LF.Lf.jK L),.bool (!L.isEmpty)]) w);rw[← e.1,<-e.2];cases c with
  |false=>exact Is _ _ _ _ _ _ _ _ _ _ _ _ _ _ _ _ _ _ _ _ _ _ h hP (LF.Lf.aC L) λW Q hz hq=>rS W Q (.lf false m k L) _ _ _ _ _ _ _ _ _ _ _ _ _ ⟨_,_,_,_,_,_,hz,hl⟩ hq sF
  |true=>exact Iu _ _ _ _ _ _ _ _ _ _ _ _ _ _ _ _ _ _ _ _ _ _ h hP (LF.Lf.aC L) λW Q hz hq=>rS W Q (.lf true m k L) _ _ _ _ _ _ _ _ _ _ _ _ _ ⟨_,_,_,_,_,_,hz,hl⟩ hq sF
 |sr s=>
  obtain⟨rfl,rfl,rfl,rfl,rfl,rfl,rfl,rfl⟩:=hl;exact Iv _ _ _ _ _ _ _ _ _ _ _ _ _ _ _ _ _ _ _ _ _ _ h hP _ _ λW Q hz hq=>(SR.pR W Q n a g s hz ok).mono λ_ _ r=>⟨r.1,r.2⟩
 |ar s=>
  obtain⟨rfl,rfl,rfl,rfl,rfl,⟨rfl,rfl,rfl⟩⟩:=hl;exact Iw _ _ _ _ _ _ _ _ _ _ _ _ _ _ _ _ _ _ _ _ _ _ h hP _ _ λW Q hz hq=>AR.pR W Q v s hz hq ok (zr hm (by omega)) hd
theorem QB(key:zy):Calls prog 19 #[ba st.kind st.mo ma la mb ch lb mc tc n a g md pd v,.string key] w (AR.dV (.bool (st.has key)) w):=by
 obtain⟨xs,B,N,A,G,X,h,hl⟩:=h;exact et _ _ _ _ _ _ _ _ _ _ _ _ _ _ _ _ _ _ _ _ _ _ _ h hP key st.keys λW Q hz hq=>rS W Q st _ _ _ _ _ _ _ _ _ _ _ _ _ ⟨_,_,_,_,_,_,hz,hl⟩ hq hd
end
end P9
namespace P9
open Go.RowKit Sg
theorem IF{ks:zY}(h:ks.Nodup):rem ks (ks.headD ⟨#[]⟩)=ks.tail:=by
 cases ks with
 |nil=>rfl
 |cons x ks=>
  have hx:=(List.nodup_cons.1 h).1;show rem (x::ks) x=ks;unfold rem;rw[List.filter_cons,if_neg (by simp)];exact aZ hx
section
variable(w:zw)(P:Nat->Prop)(st:aN)(ma:Nat)(la:AR.Sl)(mb:Nat)(ch:Bool)(lb:AR.Sl)(mc tc:Nat)(n a g:SR.Sl)(md pd:Nat)(v:AR.S4)(h:RS w P st ma la mb ch lb mc tc n a g md pd v)(hP:AR.Cl w P)(hd:Bd st)(key:zy)(hs:key.size<=maxLen)
include h hP hd hs
theorem FK:Calls prog 16 #[ba st.kind st.mo ma la mb ch lb mc tc n a g md pd v,.string key] w (aL (λx=> .tuple #[x,st.step key]) w P (st.aK key)):=by
 obtain⟨xs,B,N,A,G,X,h,hl⟩:=h;obtain⟨ok,hm,b7,hd⟩:=hd;cases st with
 |lr m ks=>
  obtain⟨rfl,rfl,rfl,⟨rfl,rfl,rfl⟩,rfl⟩:=hl;have fX:ma<=9223372036854775807:=zr hm (by omega);refine(FD _ _ _ _ _ _ _ _ _ _ _ _ _ _ _ _ _ _ _ _ _ _ h hP key _ _ _ ma (ia ma xs key) λW Q hz hq=>Fx W Q la ma xs key hz hq hd fX ok.1 ok.2 hs).mono λe w' q=>bI q rfl rfl ⟨rfl,rfl,rfl,⟨rfl,rfl,rfl⟩,rfl⟩
 |lf c m k L=>
  obtain⟨rfl,rfl,y,rfl,⟨rfl,rfl,rfl⟩,rfl⟩:=hl;have ke:B.length<=1000:=by rw[y.len];exact hd.1
  have fX:mb<=9223372036854775807:=zr hm (by omega);have hk:k<=90000:=zr hd.2 (by omega);have u:=λ(W:zw) (Q:Nat->Prop) (hz:ZW W Q lb B) (hq:AR.Cl W Q)=>Fy W Q lb mb ch L B k key hz hq ke y fX hk hs ok.2.1;have y2:LF.By ch (LF.Lf.fN ch mb k L key) (LF.kv ch mb k L B key) (LF.Lf.lJ mb k):=(u w P h.rb hP).2;cases ch with
  |false=>exact(FE _ _ _ _ _ _ _ _ _ _ _ _ _ _ _ _ _ _ _ _ _ _ h hP key _ _ _ mb (LF.kv false mb k L B key) λW Q hz hq=>(u W Q hz hq).1).mono λe w' q=>bI q rfl rfl ⟨rfl,rfl,y2,rfl,⟨rfl,rfl,rfl⟩,rfl⟩
  |true=>exact(FG _ _ _ _ _ _ _ _ _ _ _ _ _ _ _ _ _ _ _ _ _ _ h hP key _ _ _ mb (LF.kv true mb k L B key) λW Q hz hq=>(u W Q hz hq).1).mono λe w' q=>bI q rfl rfl ⟨rfl,rfl,y2,rfl,⟨rfl,rfl,rfl⟩,rfl⟩
 |sr s=>
  obtain⟨rfl,rfl,rfl,rfl,rfl,rfl,rfl,rfl⟩:=hl;have fX:s.mo<=9223372036854775807:=zr hm (by omega);exact(FH _ _ _ _ _ _ _ _ _ _ _ _ _ _ _ _ _ _ _ _ _ _ h hP key _ _ _ (s.aK key).mo (s.aK key).t (s.aK key).rN (s.aK key).rA (s.aK key).rG λW Q hz hq=>SR.oF W Q n a g s hz hq key hs ok fX hd).mono λe w' q=>bI q rfl (aN.j7 (.sr s) key).symm ⟨rfl,rfl,rfl,rfl,rfl,rfl,rfl,rfl⟩
 |ar s=>
  obtain⟨rfl,rfl,rfl,rfl,rfl,⟨rfl,rfl,rfl⟩⟩:=hl;have fX:s.mo<=1000000000000:=zr hm (by omega);exact(FJ _ _ _ _ _ _ _ _ _ _ _ _ _ _ _ _ _ _ _ _ _ _ h hP key _ _ _ (s.aK key).mo (s.aK key).p (AR.rv (s.aK key).R) λW Q hz hq=>AR.oF W Q v s hz hq ok fX hd key hs).mono λe w' q=>bI q rfl (aN.j7 (.ar s) key).symm ⟨rfl,rfl,rfl,rfl,rfl,⟨rfl,rfl,rfl⟩⟩
theorem KN:Calls prog 21 #[ba st.kind st.mo ma la mb ch lb mc tc n a g md pd v,.string key] w (aL (λx=> .tuple #[x,.bool (st.bD key)]) w P (st.ad key)):=by
 obtain⟨xs,B,N,A,G,X,h,hl⟩:=h;obtain⟨ok,hm,b7,hd⟩:=hd;cases st with
 |lr m ks=>
  obtain⟨rfl,rfl,rfl,⟨rfl,rfl,rfl⟩,rfl⟩:=hl;have fX:ma<=9223372036854775807:=zr hm (by omega);refine(KF _ _ _ _ _ _ _ _ _ _ _ _ _ _ _ _ _ _ _ _ _ _ h hP key _ ma (LR.ll ma xs key) λW Q hz hq=>KA W Q la ma xs key hz hq hd fX hs).mono λe w' q=>bI q rfl rfl ⟨rfl,rfl,rfl,⟨rfl,rfl,rfl⟩,rfl⟩
 |lf c m k L=>
  obtain⟨rfl,rfl,y,rfl,⟨rfl,rfl,rfl⟩,rfl⟩:=hl;have ke:B.length<=1000:=by rw[y.len];exact hd.1
  have fX:mb<=9223372036854775807:=zr hm (by omega);have hk:k<=90000:=zr hd.2 (by omega);have u:=λ(W:zw) (Q:Nat->Prop) (hz:ZW W Q lb B) (hq:AR.Cl W Q)=>KB W Q lb mb ch L B k key hz hq ke y fX hk hs;have y2:LF.By ch (LF.Lf.qE ch mb k L key) (LF.wG ch mb k L B key) (LF.Lf.mR mb k L key):=(u w P h.rb hP).2
  have e1:(aN.lf ch mb k L).bD key=LF.Lf.bD mb L key:=by
   show(!aw (LF.Lf.aC L) key&&decide ((LF.Lf.aC L).length < mb))=_;rw[← nS,LF.Lf.cw];rfl
  rw[e1];cases ch with
  |false=>exact(KG _ _ _ _ _ _ _ _ _ _ _ _ _ _ _ _ _ _ _ _ _ _ h hP key _ mb (LF.wG false mb k L B key) λW Q hz hq=>(u W Q hz hq).1).mono λe w' q=>bI q rfl rfl ⟨rfl,rfl,y2,rfl,⟨rfl,rfl,rfl⟩,rfl⟩
  |true=>exact(KH _ _ _ _ _ _ _ _ _ _ _ _ _ _ _ _ _ _ _ _ _ _ h hP key _ mb (LF.wG true mb k L B key) λW Q hz hq=>(u W Q hz hq).1).mono λe w' q=>bI q rfl rfl ⟨rfl,rfl,y2,rfl,⟨rfl,rfl,rfl⟩,rfl⟩
 |sr s=>
  obtain⟨rfl,rfl,rfl,rfl,rfl,rfl,rfl,rfl⟩:=hl;have fX:s.mo<=9223372036854775807:=zr hm (by omega)
  have e1:(aN.sr s).bD key=s.bD key:=by
   show(!aw (s.A++s.N).reverse key&&decide ((s.A++s.N).reverse.length < s.mo))=_;rw[← pj,qp,zh,Nat.add_comm];rfl
  rw[e1];exact(KI _ _ _ _ _ _ _ _ _ _ _ _ _ _ _ _ _ _ _ _ _ _ h hP key _ (s.ad key).mo (s.ad key).t (s.ad key).rN (s.ad key).rA (s.ad key).rG λW Q hz hq=>SR.rE W Q n a g s hz hq key hs hd).mono λe w' q=>bI q rfl (aN.xY (.sr s) key).symm ⟨rfl,rfl,rfl,rfl,rfl,rfl,rfl,rfl⟩
 |ar s=>
  obtain⟨rfl,rfl,rfl,rfl,rfl,⟨rfl,rfl,rfl⟩⟩:=hl;have fX:s.mo<=1000000000000:=zr hm (by omega)
  have e1:(aN.ar s).bD key=s.bD key:=by
   show(!aw (AR.aC s.R) key&&decide ((AR.aC s.R).length < s.mo))=_;rw[← vg,AR.cw];rfl
  rw[e1];exact(KJ _ _ _ _ _ _ _ _ _ _ _ _ _ _ _ _ _ _ _ _ _ _ h hP key _ (s.ad key).mo (s.ad key).p (AR.rv (s.ad key).R) λW Q hz hq=>AR.rE W Q v s hz hq ok fX hd key hs).mono λe w' q=>bI q rfl (aN.xY (.ar s) key).symm ⟨rfl,rfl,rfl,rfl,rfl,⟨rfl,rfl,rfl⟩⟩
end
section
variable(w:zw)(P:Nat->Prop)(st:aN)(ma:Nat)(la:AR.Sl)(mb:Nat)(ch:Bool)(lb:AR.Sl)(mc tc:Nat)(n a g:SR.Sl)(md pd:Nat)(v:AR.S4)(h:RS w P st ma la mb ch lb mc tc n a g md pd v)(hP:AR.Cl w P)(hd:Bd st)
include h hP hd
theorem IG(key:zy):Calls prog 20 #[ba st.kind st.mo ma la mb ch lb mc tc n a g md pd v,.string key] w (aL id w P (st.rm key)):=by
 obtain⟨xs,B,N,A,G,X,h,hl⟩:=h;obtain⟨ok,hm,b7,hd⟩:=hd;cases st with
 |lr m ks=>
  obtain⟨rfl,rfl,rfl,⟨rfl,rfl,rfl⟩,rfl⟩:=hl;have fX:ma<=9223372036854775807:=zr hm (by omega);exact(eu _ _ _ _ _ _ _ _ _ _ _ _ _ _ _ _ _ _ _ _ _ _ _ h hP key ⟨hd,by simp,by simp,by simp,by simp⟩).mono λe w' q=>bI q rfl rfl ⟨rfl,rfl,rfl,⟨rfl,rfl,rfl⟩,rfl⟩
 |lf c m k L=>
  obtain⟨rfl,rfl,y,rfl,⟨rfl,rfl,rfl⟩,rfl⟩:=hl;have ke:B.length<=1000:=by rw[y.len];exact hd.1
  have fX:mb<=9223372036854775807:=zr hm (by omega);have hk:k<=90000:=zr hd.2 (by omega);refine(eu _ _ _ _ _ _ _ _ _ _ _ _ _ _ _ _ _ _ _ _ _ _ _ h hP key ⟨by simp,ke,by simp,by simp,by simp⟩).mono λe w' q=>bI q ?_ rfl ⟨rfl,rfl,y.rem key,rfl,⟨rfl,rfl,rfl⟩,rfl⟩;cases ch <;> rfl
 |sr s=>
  obtain⟨rfl,rfl,rfl,rfl,rfl,rfl,rfl,rfl⟩:=hl;have fX:s.mo<=9223372036854775807:=zr hm (by omega);have Xz:s.A.length+s.N.length+s.G.length<=1000:=hd;refine(eu _ _ _ _ _ _ _ _ _ _ _ _ _ _ _ _ _ _ _ _ _ _ _ h hP key ⟨by simp,by simp,by rw[SR.gv,SR.gw];omega,by rw[SR.rD];omega,by simp⟩).mono λe w' q=>bI q rfl rfl ⟨rfl,rfl,?_,?_,?_,rfl,rfl,rfl⟩
  . unfold SR.St.rN;rw[SR.nI (SR.sN _)];exact(SR.tL eP).symm
  . unfold SR.St.rA;rw[SR.nI SR.sA];rfl
  . unfold SR.St.rG;rw[SR.nI (SR.sG _)];exact(SR.tM eP).symm
 |ar s=>
  obtain⟨rfl,rfl,rfl,rfl,rfl,⟨rfl,rfl,rfl⟩⟩:=hl;have fX:s.mo<=1000000000000:=zr hm (by omega);exact(eu _ _ _ _ _ _ _ _ _ _ _ _ _ _ _ _ _ _ _ _ _ _ _ h hP key ⟨by simp,by simp,by simp,by simp,λj hj=>AR.bA (by rw[AR.iS];exact hd) j hj⟩).mono λe w' q=>bI q rfl rfl ⟨rfl,rfl,AR.Di,rfl,rfl,⟨rfl,rfl,rfl⟩⟩
theorem O7:Calls prog 24 #[ba st.kind st.mo ma la mb ch lb mc tc n a g md pd v] w (aL (λx=> .tuple #[x,.string st.dW,.bool st.any]) w P st.dr):=by
 have VV:=λ(W:zw) (Q:Nat->Prop) (hr:RS W Q st ma la mb ch lb mc tc n a g md pd v) (hq:AR.Cl W Q)=>AI W Q st ma la mb ch lb mc tc n a g md pd v hr hq hd;obtain⟨xs,B,N,A,G,X,h,hl⟩:=h;obtain⟨ok,hm,b7,hd⟩:=hd;cases st with
 |lr m ks=>
  obtain⟨rfl,rfl,rfl,⟨rfl,rfl,rfl⟩,rfl⟩:=hl;have fX:ma<=9223372036854775807:=zr hm (by omega);refine(OV _ _ _ _ _ _ _ _ _ _ _ _ _ _ _ _ _ _ _ _ _ _ h hP _ _ (λW Q hr hq=>VV W Q ⟨_,_,_,_,_,_,hr,⟨rfl,rfl,rfl,⟨rfl,rfl,rfl⟩,rfl⟩⟩ hq) hd).mono λe w' q=>bI q rfl rfl ⟨rfl,IF ok.1,rfl,⟨rfl,rfl,rfl⟩,rfl⟩
 |lf c m k L=>
  obtain⟨rfl,rfl,y,rfl,⟨rfl,rfl,rfl⟩,rfl⟩:=hl;have ke:B.length<=1000:=by rw[y.len];exact hd.1
  have fX:mb<=9223372036854775807:=zr hm (by omega);have hk:k<=90000:=zr hd.2 (by omega);have u:=λ(W:zw) (Q:Nat->Prop) (hz:ZW W Q lb B) (hq:AR.Cl W Q)=>KM W Q lb mb ch L B k hz hq ke y;have y2:LF.By ch L.tail (vq L B) k:=(u w P h.rb hP).2;cases ch with
  |false=>exact(OW _ _ _ _ _ _ _ _ _ _ _ _ _ _ _ _ _ _ _ _ _ _ h hP _ _ mb (vq L B) (λW Q hr hq=>VV W Q ⟨_,_,_,_,_,_,hr,⟨rfl,rfl,y,rfl,⟨rfl,rfl,rfl⟩,rfl⟩⟩ hq) _ _ λW Q hz hq=>(u W Q hz hq).1).mono λe w' q=>bI q rfl rfl ⟨rfl,rfl,y2,rfl,⟨rfl,rfl,rfl⟩,rfl⟩
  |true=>exact(OX _ _ _ _ _ _ _ _ _ _ _ _ _ _ _ _ _ _ _ _ _ _ h hP _ _ mb (vq L B) (λW Q hr hq=>VV W Q ⟨_,_,_,_,_,_,hr,⟨rfl,rfl,y,rfl,⟨rfl,rfl,rfl⟩,rfl⟩⟩ hq) _ _ λW Q hz hq=>(u W Q hz hq).1).mono λe w' q=>bI q rfl rfl ⟨rfl,rfl,y2,rfl,⟨rfl,rfl,rfl⟩,rfl⟩
 |sr s=>
  obtain⟨rfl,rfl,rfl,rfl,rfl,rfl,rfl,rfl⟩:=hl;have fX:s.mo<=9223372036854775807:=zr hm (by omega);exact(OY _ _ _ _ _ _ _ _ _ _ _ _ _ _ _ _ _ _ _ _ _ _ h hP _ _ s.dr.mo s.dr.t s.dr.rN s.dr.rA s.dr.rG (λW Q hr hq=>VV W Q ⟨_,_,_,_,_,_,hr,⟨rfl,rfl,rfl,rfl,rfl,rfl,rfl,rfl⟩⟩ hq) _ _ λW Q hz hq=>SR.tQ W Q n a g s hz hq ok).mono λe w' q=>bI q rfl rfl ⟨rfl,rfl,rfl,rfl,rfl,rfl,rfl,rfl⟩
 |ar s=>
  obtain⟨rfl,rfl,rfl,rfl,rfl,⟨rfl,rfl,rfl⟩⟩:=hl;have fX:s.mo<=1000000000000:=zr hm (by omega);exact(OZ _ _ _ _ _ _ _ _ _ _ _ _ _ _ _ _ _ _ _ _ _ _ h hP _ _ s.dr.mo s.dr.p (AR.rv s.dr.R) (λW Q hr hq=>VV W Q ⟨_,_,_,_,_,_,hr,⟨rfl,rfl,rfl,rfl,rfl,⟨rfl,rfl,rfl⟩⟩⟩ hq) _ _ λW Q hz hq=>AR.tQ W Q v s hz hq ok fX hd).mono λe w' q=>bI q rfl rfl ⟨rfl,rfl,rfl,rfl,rfl,⟨rfl,rfl,rfl⟩⟩
theorem Bc(z:Int)(hz:(decide (0<=z)&&decide (z<=16777216))=false):Calls prog 26 #[ba st.kind st.mo ma la mb ch lb mc tc n a g md pd v,.int .i64 z] w (aL (λx=> .tuple #[x,.slice none 0 0,.int .i64 1]) w P st):=by
 obtain⟨xs,B,N,A,G,X,h,hl⟩:=h;have _:=hd;cases st with
 |lr m ks=>exact(AZ _ _ _ _ _ _ _ _ _ _ _ _ _ _ _ _ _ _ _ _ _ _ h hP z hz).mono λe w' q=>bI q rfl rfl hl
 |lf c m k L=>
  cases c with
  |false=>exact(A6 _ _ _ _ _ _ _ _ _ _ _ _ _ _ _ _ _ _ _ _ _ _ h hP z hz).mono λe w' q=>bI q rfl rfl hl
  |true=>exact(A8 _ _ _ _ _ _ _ _ _ _ _ _ _ _ _ _ _ _ _ _ _ _ h hP z hz).mono λe w' q=>bI q rfl rfl hl
 |sr s=>exact(Ba _ _ _ _ _ _ _ _ _ _ _ _ _ _ _ _ _ _ _ _ _ _ h hP z hz).mono λe w' q=>bI q rfl rfl hl
 |ar s=>exact(Bb _ _ _ _ _ _ _ _ _ _ _ _ _ _ _ _ _ _ _ _ _ _ h hP z hz).mono λe w' q=>bI q rfl rfl hl
theorem IH(m:Nat)(FL:m<=16777216):Calls prog 26 #[ba st.kind st.mo ma la mb ch lb mc tc n a g md pd v,.int .i64 (m:Int)] w (λe w'=>∃u:AR.Sl,aL (λx=> .tuple #[x,.slice u.A u.n u.c,.int .i64 0]) w P (st.rs m) e w'/\AR.SW w' P u (st.gone m)):=by
 have hz: -9223372036854775808<=(m:Int)/\(m:Int)<=9223372036854775807:=by omega
 have hn:(m:Int).toNat=m:=by omega
 obtain⟨xs,B,N,A,G,X,h,hl⟩:=h;obtain⟨ok,hm,b7,hd⟩:=hd;cases st with
 |lr m ks=>
  obtain⟨rfl,rfl,rfl,⟨rfl,rfl,rfl⟩,rfl⟩:=hl;have fX:ma<=9223372036854775807:=zr hm (by omega);refine(Iz _ _ _ _ _ _ _ _ _ _ _ _ _ _ _ _ _ _ _ _ _ _ h hP m (gi m xs) m (xs.take (xs.length - m)) FL λW Q hr hq=>by have:=Ig W Q la ma xs hr hq hd fX (m:Int) hz;rw[hn] at this;exact this).mono ?_;rintro e w' ⟨u,q,hu⟩;exact⟨u,bI q rfl rfl ⟨rfl,rfl,rfl,⟨rfl,rfl,rfl⟩,rfl⟩,hu⟩
 |lf c m k L=>
  obtain⟨rfl,rfl,y,rfl,⟨rfl,rfl,rfl⟩,rfl⟩:=hl;have ke:B.length<=1000:=by rw[y.len];exact hd.1
  have fX:mb<=9223372036854775807:=zr hm (by omega);have hk:k<=90000:=zr hd.2 (by omega);have nu:∀e∈L,e.key.size<=maxLen:=λe he=>b7 e.key (List.mem_map.2 ⟨e,he,rfl⟩);have u:=λ(W:zw) (Q:Nat->Prop) (hr:ZW W Q lb B) (hq:AR.Cl W Q)=>(by have:=Ii W Q lb mb ch L B k hr hq ke y nu (m:Int) hz;rw[hn] at this;exact this:Calls prog 67 #[.agg #[.int .i64 (mb:Int),.bool ch,.slice lb.A lb.n lb.c],.int .i64 (m:Int)] W (λe w'=>∃B',Dw W Q m ch B' ((LF.Lf.aC L).take (L.length - m)) e w'/\LF.By ch (L.drop (L.length - m)) B' k));cases ch with
  |false=>
   refine(IA _ _ _ _ _ _ _ _ _ _ _ _ _ _ _ _ _ _ _ _ _ _ h hP m (λB'=>LF.By false (L.drop (L.length - m)) B' k) m ((LF.Lf.aC L).take (L.length - m)) FL u).mono ?_;rintro e w' ⟨B',⟨u,q,hu⟩,y2⟩;exact⟨u,bI q rfl rfl ⟨rfl,rfl,y2,rfl,⟨rfl,rfl,rfl⟩,rfl⟩,hu⟩
  |true=>
   refine(IB _ _ _ _ _ _ _ _ _ _ _ _ _ _ _ _ _ _ _ _ _ _ h hP m (λB'=>LF.By true (L.drop (L.length - m)) B' k) m ((LF.Lf.aC L).take (L.length - m)) FL u).mono ?_;rintro e w' ⟨B',⟨u,q,hu⟩,y2⟩;exact⟨u,bI q rfl rfl ⟨rfl,rfl,y2,rfl,⟨rfl,rfl,rfl⟩,rfl⟩,hu⟩
 |sr s=>
  obtain⟨rfl,rfl,rfl,rfl,rfl,rfl,rfl,rfl⟩:=hl;have fX:s.mo<=9223372036854775807:=zr hm (by omega);refine(IC _ _ _ _ _ _ _ _ _ _ _ _ _ _ _ _ _ _ _ _ _ _ h hP (s.rs m).mo (s.rs m).t (s.rs m).rN (s.rs m).rA (s.rs m).rG m ((s.A++s.N).reverse.take (s.A.length+s.N.length - m)) FL λW Q hr hq=>by have:=Ij W Q n a g s hr hq ok hd (m:Int) hz;rw[hn] at this;exact this).mono ?_;rintro e w' ⟨u,q,hu⟩;exact⟨u,bI q rfl rfl ⟨rfl,rfl,rfl,rfl,rfl,rfl,rfl,rfl⟩,hu⟩
 |ar s=>
  obtain⟨rfl,rfl,rfl,rfl,rfl,⟨rfl,rfl,rfl⟩⟩:=hl;have fX:s.mo<=1000000000000:=zr hm (by omega);refine(ID _ _ _ _ _ _ _ _ _ _ _ _ _ _ _ _ _ _ _ _ _ _ h hP (s.rs m).mo (s.rs m).p (AR.rv (s.rs m).R) m (AR.outs (min s.p m) false s.R (AR.ai s.R - m)) FL λW Q hr hq=>by have:=Ik W Q v s hr hq ok fX hd (m:Int) hz;rw[hn] at this;exact this).mono ?_;rintro e w' ⟨u,q,hu⟩;exact⟨u,bI q rfl rfl ⟨rfl,rfl,rfl,rfl,rfl,⟨rfl,rfl,rfl⟩⟩,hu⟩
end
theorem QC(w:zw)(P:Nat->Prop)(k m:Nat)(hk:k < 5)(hm:m<=16777216):Calls prog 14 #[.int .i64 (k:Int),.int .i64 (m:Int)] w (aL (λx=> .tuple #[x,.int .i64 0]) w P (aN.start k m)):=by
 refine(KC w P k m hk hm).mono λe w' q=>?_;rcases(show k=0\/k=1\/k=2\/k=3\/k=4 by omega) with rfl|rfl|rfl|rfl|rfl
 . exact bI q rfl rfl ⟨rfl,rfl,rfl,⟨rfl,rfl,rfl⟩,rfl⟩
 . exact bI q rfl rfl ⟨rfl,rfl,LF.By.start false,rfl,⟨rfl,rfl,rfl⟩,rfl⟩
 . exact bI q rfl rfl ⟨rfl,rfl,LF.By.start true,rfl,⟨rfl,rfl,rfl⟩,rfl⟩
 . exact bI q rfl rfl ⟨rfl,rfl,rfl,rfl,rfl,rfl,rfl,rfl⟩
 . exact bI q rfl rfl ⟨rfl,rfl,rfl,rfl,rfl,⟨rfl,rfl,rfl⟩⟩
