/- Part 6 of the proof. -/
import Derived.Test.YtgjdjgnfpendgaaGreatDoorZ03
import Derived.BigQuiet
import Derived.BigRegion
import Derived.Deep.CutBlock
import Derived.Deep.DeepCutAuto
import Derived.Deep.LoopGhost
import Derived.Deep.QuietTactic
import Derived.Deep.RegionHeld3
import Derived.Deep.RegionLaw
import Derived.Laws.StructEq
set_option maxHeartbeats 16000000
set_option maxRecDepth 20000
namespace Go.Proofs.YtgjdjgnfpendgaaGreatDoor
open Go.Proofs.Tryz
namespace AR
open Go.RowKit Sg
abbrev aW:=Nat->zY
structure Ix where
 c:Nat
 r:Nat->Nat
abbrev Sx:=Nat->Nat->Prop
def ax(i:Ix)(S:Sx):Nat->Prop:=λx=>x=i.c\/∃k,k < 4/\S k x
def tm(w:zw)(i:Ix)(mo p:Nat):Prop:=w.heap[i.c]?=some (.cells #[.int .i64 (mo:Int),.int .i64 (p:Int),.pointer (some ⟨i.r 0,0,none⟩),.pointer (some ⟨i.r 1,0,none⟩),.pointer (some ⟨i.r 2,0,none⟩),.pointer (some ⟨i.r 3,0,none⟩)] 201 (0,0))
structure Raw(w:zw)(i:Ix)(S:Sx)(mo p:Nat)(R:aW)(b:Nat):Prop where
 box:tm w i mo p
 ls:∀k,k < 4->LS w (i.r k) (S k) (R k) b
 sep:∀j k,j < 4->k < 4->j≠k->∀x,S j x->¬S k x
 out:∀k,k < 4->¬S k i.c
 top:mo<=9223372036854775807/\p<=9223372036854775807
def aL(v:Value)(w:zw)(i:Ix)(S:Sx)(mo p:Nat)(R:aW)(b:Nat)(e:Ending)(w':zw):Prop:=
 e= .returned v/\∃S',Raw w' i S' mo p R b/\aJ w w' (ax i S) (ax i S')
section
variable{w w':zw}{i:Ix}{S:Sx}{mo p b b':Nat}{R R':aW}{v:Value}{e:Ending}
theorem Raw.cells(r:Raw w i S mo p R b):w.cell? ⟨i.c,0,none⟩=some (.int .i64 (mo:Int))/\w.cell? ⟨i.c,1,none⟩=some (.int .i64 (p:Int))/\w.cell? ⟨i.c,2,none⟩=some (.pointer (some ⟨i.r 0,0,none⟩))/\w.cell? ⟨i.c,3,none⟩=some (.pointer (some ⟨i.r 1,0,none⟩))/\w.cell? ⟨i.c,4,none⟩=some (.pointer (some ⟨i.r 2,0,none⟩))/\w.cell? ⟨i.c,5,none⟩=some (.pointer (some ⟨i.r 3,0,none⟩)):=
 ⟨cell_of_row w _ 0 _ _ _ r.box,cell_of_row w _ 1 _ _ _ r.box,cell_of_row w _ 2 _ _ _ r.box,cell_of_row w _ 3 _ _ _ r.box,cell_of_row w _ 4 _ _ _ r.box,cell_of_row w _ 5 _ _ _ r.box⟩
theorem Raw.pK(r:Raw w i S mo p R b):w.frozen? ⟨i.c,0,none⟩=false/\w.frozen? ⟨i.c,1,none⟩=false:=⟨frozen_of_row w _ 0 _ _ r.box,frozen_of_row w _ 1 _ _ r.box⟩
theorem Raw.cx(r:Raw w i S mo p R b):i.c < w.heap.size:=(Array.getElem?_eq_some_iff.1 r.box).1
theorem Raw.lt(r:Raw w i S mo p R b){k:Nat}(hk:ax i S k):k < w.heap.size:=by
 rcases hk with h|⟨j,hj,h⟩
 . have:=r.cx;omega
 . exact(r.ls j hj).lt h
theorem Raw.kept(r:Raw w i S mo p R b)(hs:w.heap.size<=w'.heap.size)(hb:∀k,ax i S k->w'.heap[k]?=w.heap[k]?):Raw w' i S mo p R b:=
 ⟨(hb _ (xz rfl)).trans r.box,λj hj=>(r.ls j hj).kept hs λk hk=>hb k (ja ⟨j,hj,hk⟩),r.sep,r.out,r.top⟩
theorem Raw.below(r:Raw w i S mo p R b)(hb:Below w.heap.size w w'):Raw w' i S mo p R b:=r.kept hb.size λk hk=>hb.block k (r.lt hk)
theorem Raw.beside(r:Raw w i S mo p R b){X:Nat->Prop}(ht:ao X w w')(hx:∀k,ax i S k->¬X k):Raw w' i S mo p R b:=r.kept ht.size λk hk=>ht.block k (r.lt hk) (hx k hk)
theorem av(w:zw)(n:Nat):Below w.heap.size w (w.drewN n):=⟨rfl,rfl,rfl,zg _,λ_ _=>rfl⟩
theorem Raw.drewN(r:Raw w i S mo p R b)(m:Nat):Raw (w.drewN m) i S mo p R b:=r.below (av w m)
theorem Raw.mono(r:Raw w i S mo p R b)(hb:b<=b'):Raw w i S mo p R b':=⟨r.box,λj hj=>(r.ls j hj).mono hb,r.sep,r.out,r.top⟩
theorem Raw.congr(r:Raw w i S mo p R b)(h:∀k,k < 4->R' k=R k):Raw w i S mo p R' b:=⟨r.box,λj hj=>by rw[h j hj];exact r.ls j hj,r.sep,r.out,r.top⟩
theorem Raw.on(r:Raw w i S mo p R b){k:Nat}(hk:k < 4){xs:zY}(hp:kL v w (i.r k) (S k) xs b' e w')(hb:b<=b'):aL v w i S mo p (af R k xs) b' e w':=by
 obtain⟨he,S',hL,hW⟩:=hp;have q:∀x,x < w.heap.size->¬S k x->w'.heap[x]?=w.heap[x]?:=λx hx hn=>hW.a8.block x hx hn
 have z:∀x,x < w.heap.size->¬S k x->¬S' x:=λx hx hn h=>by
  rcases hW.new x h with h|h
  . exact hn h
  . omega
 refine⟨he,λj=>if j=k then S' else S j,⟨(q _ r.cx (r.out k hk)).trans r.box,λj hj=>?_,λj l hj hl al x hx lj=>?_,λj hj=>?_,r.top⟩,λx hx=>?_,hW.a8.wide λx _ h=>ja ⟨k,hk,h⟩⟩
 . by_cases e:j=k
   . subst e;rw[ay,if_pos rfl];exact hL
   . rw[au e,if_neg e];exact((r.ls j hj).kept hW.a8.size λx hx=>q x ((r.ls j hj).lt hx) (r.sep j k hj hk e x hx)).mono hb
 . by_cases e:j=k
   . subst e;rw[if_pos rfl] at hx;rw[if_neg (qa al)] at lj;exact z x ((r.ls l hl).lt lj) (r.sep l j hl hj (qa al) x lj) hx
   . rw[if_neg e] at hx
     by_cases e2:l=k
     . subst e2;rw[if_pos rfl] at lj;exact z x ((r.ls j hj).lt hx) (r.sep j l hj hl e x hx) lj
     . rw[if_neg e2] at lj;exact r.sep j l hj hl al x hx lj
 . by_cases e:j=k
   . rw[if_pos e];exact z _ r.cx (r.out k hk)
   . rw[if_neg e];exact r.out j hj
 . rcases hx with h|⟨j,hj,h⟩
   . exact xz (xz h)
   . by_cases e:j=k
     . rw[if_pos e] at h;exact(hW.new x h).imp (λh=>ja ⟨k,hk,h⟩) id
     . rw[if_neg e] at h;exact xz (ja ⟨j,hj,h⟩)
theorem Raw.lK(r:Raw w i S mo p R b)(o:Nat)(x:Value):(∀k,k < 4->LS (w.setCell ⟨i.c,o,none⟩ x) (i.r k) (S k) (R k) b)/\ao (ax i S) w (w.setCell ⟨i.c,o,none⟩ x):=by
 have hs:w.heap.size<=(w.setCell ⟨i.c,o,none⟩ x).heap.size:=by simp[World.setCell]
 exact⟨λj hj=>(r.ls j hj).kept hs λk hk=>qc _ _ _ _ λh=>r.out j hj (by rw[← (show k=i.c from h)];exact hk),(ao.refl _ _).setCell (p:=⟨i.c,o,none⟩) (xz (xz rfl)) _⟩
theorem Raw.gd(r:Raw w i S mo p R b)(u:Nat)(hu:u<=9223372036854775807):Raw (w.setCell ⟨i.c,1,none⟩ (.int .i64 (u:Int))) i S mo u R b/\ao (ax i S) w (w.setCell ⟨i.c,1,none⟩ (.int .i64 (u:Int))):=by
 obtain⟨h1,h2⟩:=r.lK 1 (.int .i64 (u:Int));refine⟨⟨?_,h1,r.sep,r.out,r.top.1,hu⟩,h2⟩;have:=r.box;unfold tm at this|-;rw[heap_setCell_same _ _ _ _ _ _ this];rfl
theorem Raw.eV(r:Raw w i S mo p R b)(u:Nat)(hu:u<=9223372036854775807):Raw (w.setCell ⟨i.c,0,none⟩ (.int .i64 (u:Int))) i S u p R b/\ao (ax i S) w (w.setCell ⟨i.c,0,none⟩ (.int .i64 (u:Int))):=by
 obtain⟨h1,h2⟩:=r.lK 0 (.int .i64 (u:Int));refine⟨⟨?_,h1,r.sep,r.out,hu,r.top.2⟩,h2⟩;have:=r.box;unfold tm at this|-;rw[heap_setCell_same _ _ _ _ _ _ this];rfl
theorem aL.trans{RG p1 b1:Nat}{R1:aW}{S1:Sx}{w1:zw}(hW:aJ w w1 (ax i S) (ax i S1))(hp:aL v w1 i S1 RG p1 R1 b1 e w'):aL v w i S RG p1 R1 b1 e w':=by
 obtain⟨he,S2,hR,h2⟩:=hp;exact⟨he,S2,hR,hW.trans h2⟩
end
def jb(v:Value)(w:zw)(e:Ending)(w':zw):Prop:=e= .returned v/\Below w.heap.size w w'
def nK(R:aW)(ks:List Nat):Nat:=(ks.map λk=>(R k).length).sum
theorem ER(R:aW)(ks:List Nat)(k:Nat):nK R (ks++ [k])=nK R ks+(R k).length:=by unfold nK;rw[List.map_append,List.sum_append];simp
def C9(w:zw)(g:Nat)(ks:List Nat):Prop:=∀j k:Nat,ks[j]?=some k->w.cell? ⟨g,j,none⟩=some (.int .i64 (k:Int))
theorem GJ(w:zw)(x y:Nat):C9 (w.alloc (.cells #[.int .i64 (x:Int),.int .i64 (y:Int)] 3)) w.heap.size [x,y]:=by
 have hn:=heap_alloc_new w (.cells #[.int .i64 (x:Int),.int .i64 (y:Int)] 3);intro j k h;rcases j with _|_|j
 . simp at h;subst h;exact cell_of_row _ _ 0 _ _ _ hn
 . simp at h;subst h;exact cell_of_row _ _ 1 _ _ _ hn
 . simp at h
theorem GK(w:zw)(x:Nat):C9 (w.alloc (.cells #[.int .i64 (x:Int)] 3)) w.heap.size [x]:=by
 have hn:=heap_alloc_new w (.cells #[.int .i64 (x:Int)] 3);intro j k h;rcases j with _|j
 . simp at h;subst h;exact cell_of_row _ _ 0 _ _ _ hn
 . simp at h
theorem ES(w:zw)(x y z u:Nat):C9 (w.alloc (.cells #[.int .i64 (x:Int),.int .i64 (y:Int),.int .i64 (z:Int),.int .i64 (u:Int)] 3)) w.heap.size [x,y,z,u]:=by
 have hn:=heap_alloc_new w (.cells #[.int .i64 (x:Int),.int .i64 (y:Int),.int .i64 (z:Int),.int .i64 (u:Int)] 3);intro j k h;rcases j with _|_|_|_|j
 . simp at h;subst h;exact cell_of_row _ _ 0 _ _ _ hn
 . simp at h;subst h;exact cell_of_row _ _ 1 _ _ _ hn
 . simp at h;subst h;exact cell_of_row _ _ 2 _ _ _ hn
 . simp at h;subst h;exact cell_of_row _ _ 3 _ _ _ hn
 . simp at h
section
variable(w:zw)(i:Ix)(S:Sx)(mo p:Nat)(R:aW)(b:Nat)(r:Raw w i S mo p R b)
include r
theorem z'(g:Nat)(ks:List Nat)(hg:C9 w g ks)(hk:∀k∈ks,k < 4)(h4:ks.length<=4):Calls prog 248 #[.pointer (some ⟨i.c,0,none⟩),.slice (some ⟨g,0,none⟩) ks.length ks.length] w (bS (nK R ks:Int) w):=by
 obtain⟨_,_,c2,c3,c4,c5⟩:=r.cells;have L:=λk (h:k < 4)=>oR w (i.r k) (S k) (R k) b (r.ls k h);have B:=J (λk (h:k < 4)=>(r.ls k h).len);have L0:=J (L 0 (by omega));have L1:=J (L 1 (by omega));have L2:=J (L 2 (by omega));have L3:=J (L 3 (by omega));have HG:=J hg;have HK:=J hk;clear r L hg hk;go_enter func248,ntmps248;go_wp2_with fail
 go_loopw [5,10] (λn z W=>∃j,j<=ks.length/\n= .int .i64 (nK R (ks.take j):Int)/\z= .int .i64 (j:Int)/\nK R (ks.take j)<=j*999/\W=w) (λ_ z _=>ks.length - (intOf z).toNat)
 case atStart=>exact⟨0,xg _,rfl,rfl,by simp[nK],rfl⟩
 case round=>
  obtain⟨j,hj,rfl,rfl,hs,rfl⟩:=hrel
  by_cases aQ:j < ks.length
  . have e0:decide (j < ks.length)=true:=by simpa using aQ
    have Nv:ks[j]?=some ks[j]:=zm aQ
    have lq:=HK.out ks[j] (qy aQ);have hB:=B.out ks[j] lq;have hc:=HG.out j ks[j] Nv;have wI:ks.take (j+1)=ks.take j++ [ks[j]]:=by rw[List.take_add_one,Nv];rfl
    have ej:=ER R (ks.take j) ks[j];rw[← wI] at ej;have HS:=J ej;generalize ks[j]=k at*;have HT:=J wI;obtain⟨s,RH⟩:=zx (nK R (ks.take j));rw[← RH] at hs HS|-;clear RH ej wI Nv;have HW:=qi ((s:Int)+((R k).length:Int)) (by omega);rcases k with _|_|_|_|k
    . go_wp2_with fail
      refine L0.out.mono ?_;rintro e w1 ⟨rfl,rfl⟩;go_wp2_with fail
      go_roundw
      case rel=>exact⟨j+1,by omega,by rw[HS.out];go_num,by go_num,by rw[HS.out];omega,trivial⟩
      case measure=>simp[intOf];omega
    . go_wp2_with fail
      refine L1.out.mono ?_;rintro e w1 ⟨rfl,rfl⟩;go_wp2_with fail
      go_roundw
      case rel=>exact⟨j+1,by omega,by rw[HS.out];go_num,by go_num,by rw[HS.out];omega,trivial⟩
      case measure=>simp[intOf];omega
    . go_wp2_with fail
      refine L2.out.mono ?_;rintro e w1 ⟨rfl,rfl⟩;go_wp2_with fail
      go_roundw
      case rel=>exact⟨j+1,by omega,by rw[HS.out];go_num,by go_num,by rw[HS.out];omega,trivial⟩
      case measure=>simp[intOf];omega
    . go_wp2_with fail
      refine L3.out.mono ?_;rintro e w1 ⟨rfl,rfl⟩;go_wp2_with fail
      go_roundw
      case rel=>exact⟨j+1,by omega,by rw[HS.out];go_num,by go_num,by rw[HS.out];omega,trivial⟩
      case measure=>simp[intOf];omega
    . omega
  . have e0:decide (j < ks.length)=false:=by simpa using aQ
    have E:=zs (ks.take j=ks) (qk (by omega));go_wp2_with fail
    go_ret;exact⟨by rw[E.out];rfl,rfl⟩
end
end AR
namespace AR
open Go.RowKit Sg
theorem ek{P:Program}{ops:Array Oper}{o:Oper}{a:Act}{w:zw}{K:Act->zw->Prop}{Q:Exit->Act->zw->Prop}{E:Prop}(jT:o.guard=none)(s x:Operand)(t:TypeId)
 (ho:o.op= .call {callee:= .builtin .append,args:=#[s,x],argTypes:=#[t,t]}) (v u v':Value) (w':zw) (hs:a.eval s=v) (hx:a.eval x=u) (hr:(Builtin.append_ #[t,t] o.type #[v,u]).run P w= .ok v' w')
 (h:K (a.put o.dst v') w'):if Region.wanted o (yielded ops a.tmps)=true then Oper.wp P o a w K Q else E:=by
 have hw:Region.wanted o (yielded ops a.tmps)=true:=by simp[Region.wanted,jT]
 rw[if_pos hw];unfold Oper.wp execOp;simp only[ho,resolve,invoke,builtin,Sem.run_bind,Sem.run_pure,Result.andThen_ok,List.map_toArray,xb,List.map_nil,hs,hx,hr];exact h
def aF(R:aW)(key:zy):Bool:=aw (R 0) key||aw (R 1) key
def lv(R:aW)(p:Nat)(q:Bool):Nat:=if p < (R 0).length\/(0 < (R 0).length/\(R 0).length=p/\q=true)\/(R 1).length=0 then 0 else 1
section
variable(w:zw)(i:Ix)(S:Sx)(mo p:Nat)(R:aW)(b:Nat)(r:Raw w i S mo p R b)
include r
theorem fB(k:Nat)(hk:k < 4):Calls prog 248 #[.pointer (some ⟨i.c,0,none⟩),.slice (some ⟨w.heap.size,0,none⟩) 1 1] (w.alloc (.cells #[.int .i64 (k:Int)] 3)) (bS ((R k).length:Int) (w.alloc (.cells #[.int .i64 (k:Int)] 3))):=by
 have:=z' _ i S mo p R b (r.below ((zo _ _).alloc (zg _) (.cells #[.int .i64 (k:Int)] 3))) w.heap.size [k] (GK w k) (by simp;omega) (by simp);simp only[nK,xb,List.map_nil,List.sum_cons,List.sum_nil,Nat.add_zero,zv,ql] at this;exact this
theorem jQ(k l:Nat)(hk:k < 4)(hl:l < 4):Calls prog 248 #[.pointer (some ⟨i.c,0,none⟩),.slice (some ⟨w.heap.size,0,none⟩) 2 2] (w.alloc (.cells #[.int .i64 (k:Int),.int .i64 (l:Int)] 3)) (bS (((R k).length+(R l).length:Nat):Int) (w.alloc (.cells #[.int .i64 (k:Int),.int .i64 (l:Int)] 3))):=by
 have:=z' _ i S mo p R b (r.below ((zo _ _).alloc (zg _) (.cells #[.int .i64 (k:Int),.int .i64 (l:Int)] 3))) w.heap.size [k,l] (GJ w k l) (by simp;omega) (by simp);simp only[nK,xb,List.map_nil,List.sum_cons,List.sum_nil,Nat.add_zero,zv,ql] at this;exact this
theorem C':Calls prog 248 #[.pointer (some ⟨i.c,0,none⟩),.slice (some ⟨w.heap.size,0,none⟩) 4 4] (w.alloc (.cells #[.int .i64 0,.int .i64 1,.int .i64 2,.int .i64 3] 3)) (bS (((R 0).length+(R 1).length+(R 2).length+(R 3).length:Nat):Int) (w.alloc (.cells #[.int .i64 0,.int .i64 1,.int .i64 2,.int .i64 3] 3))):=by
 have:=z' _ i S mo p R b (r.below ((zo _ _).alloc (zg _) (.cells #[.int .i64 0,.int .i64 1,.int .i64 2,.int .i64 3] 3))) w.heap.size [0,1,2,3] (ES w 0 1 2 3) (by simp) (by simp);simp only[nK,xb,List.map_nil,List.sum_cons,List.sum_nil,Nat.add_zero,zv,ql] at this;rw[show(R 0).length+(R 1).length+(R 2).length+(R 3).length=(R 0).length+((R 1).length+((R 2).length+(R 3).length)) by omega];exact this
theorem Da:Calls prog 239 #[.pointer (some ⟨i.c,0,none⟩)] w (jb (.int .i64 (((R 0).length+(R 1).length:Nat):Int)) w):=by
 have U:=zs (Calls prog 248 #[.pointer (some ⟨i.c,0,none⟩),.slice (some ⟨w.heap.size,0,none⟩) 2 2] (w.alloc (.cells #[.int .i64 0,.int .i64 1] 3)) (bS (((R 0).length+(R 1).length:Nat):Int) (w.alloc (.cells #[.int .i64 0,.int .i64 1] 3)))) (jQ w i S mo p R b r 0 1 (by omega) (by omega));clear r;go_enter func239,ntmps239;go_wp2_with fail
 refine U.out.mono ?_;rintro e w1 ⟨rfl,rfl⟩;go_wp2_with fail
 go_ret;exact⟨rfl,(zo _ _).alloc (zg _) _⟩
theorem wj(key:zy)(hs:key.size<=maxLen):Calls prog 237 #[.pointer (some ⟨i.c,0,none⟩),.string key] w (dq (aF R key) w):=by
 obtain⟨_,_,c2,c3,_⟩:=r.cells;have U:=dt w (i.r 0) (S 0) (R 0) b (r.ls 0 (by omega)) key hs;have V:=J (dt w (i.r 1) (S 1) (R 1) b (r.ls 1 (by omega)) key hs);unfold aF;clear r;cases hi:aw (R 0) key with
 |true=>
  rw[hi] at U;have U:=J U;clear hi V;rw[Bool.true_or];go_enter func237,ntmps237;go_wp2_with fail
  refine U.out.mono ?_;rintro e w1 ⟨rfl,rfl⟩;go_wp2_with fail
  go_ret;exact⟨rfl,rfl⟩
 |false=>
  rw[hi] at U;have U:=J U;clear hi;rw[Bool.false_or];go_enter func237,ntmps237;go_wp2_with fail
  refine U.out.mono ?_;rintro e w1 ⟨rfl,rfl⟩;go_wp2_with fail
  refine V.out.mono ?_;rintro e w1 ⟨rfl,rfl⟩;go_wp2_with fail
  go_ret;exact⟨rfl,rfl⟩
theorem PJ:Calls prog 238 #[.pointer (some ⟨i.c,0,none⟩)] w (br (R 1++R 0).reverse w):=by
 have ca:w.cell? ⟨i.c,3,none⟩=some (.pointer (some ⟨i.r 1,0,none⟩)):=r.cells.2.2.2.1;have cb:w.cell? ⟨i.c,2,none⟩=some (.pointer (some ⟨i.r 0,0,none⟩)):=r.cells.2.2.1;have U:=zs (Calls prog 146 #[.pointer (some ⟨i.r 1,0,none⟩)] w.drew (br (R 1) w)) ((kz w.drew (i.r 1) (S 1) (R 1) b ((r.below (av w 1)).ls 1 (by omega))).mono λ_ _ ⟨v,h1,h2,h3⟩=>⟨v,h1,h2,⟨h3.os,h3.tape,h3.output,h3.size,h3.block⟩⟩);have V:=J (λ(w1:zw) (h:Below w.heap.size w w1)=>kz w1 (i.r 0) (S 0) (R 0) b ((r.below h).ls 0 (by omega)));have C:=zs (∀w1,Below w.heap.size w w1->w1.cell? ⟨i.c,3,none⟩=some (.pointer (some ⟨i.r 1,0,none⟩))/\w1.cell? ⟨i.c,2,none⟩=some (.pointer (some ⟨i.r 0,0,none⟩))) (λw1 h=>⟨(r.below h).cells.2.2.2.1,(r.below h).cells.2.2.1⟩);have h1:=(r.ls 1 (by omega)).len;have h2:=(r.ls 0 (by omega)).len;obtain⟨ic,ir⟩:=i;simp only at ca cb U V C|-;generalize ir 1=n at*;generalize ir 0=a at*;clear r;go_enter func238,ntmps238;go_wp2_with fail
 go_region_held3(λw'=>w'.cell? ⟨ic,3,none⟩=some (.pointer (some ⟨n,0,none⟩))/\w'.cell? ⟨ic,2,none⟩=some (.pointer (some ⟨a,0,none⟩))) (first|(exact⟨‹_›,‹_›⟩)|go_keep)
  (first
    |(go_at_call 146;refine U.out.mono ?_;rintro e w1 ⟨v1,rfl,lh,dh⟩;obtain⟨z2,z3⟩:=C.out w1 dh;have O1:=J lh;have B1:=J dh;clear lh dh U)
    |(go_at_call 146;refine(V.out w1 B1.out).mono ?_;rintro e w2 ⟨v2,rfl,kg,cQ⟩;obtain⟨z4,z5⟩:=C.out w2 (B1.out.trans (cQ.mono B1.out.size));obtain⟨v3,w3,aB,jO,gA⟩:=mj (O1.out.below cQ) kg (by omega) (zr B1.out.size cQ.size);have zB:=J aB;have O3:=J jO;have B3:=J (show Below w.heap.size w w3 from(B1.out.trans (cQ.mono B1.out.size)).grown gA (zr B1.out.size cQ.size) (λk hk=>((O1.out.below cQ).1.lt k hk).1));obtain⟨z6,z7⟩:=C.out w3 B3.out;clear kg cQ aB jO gA V O1 B1)
    |(refine ek rfl _ _ _ rfl _ _ _ _ rfl rfl zB.out ?_))
 go_wp2_with fail
 refine(oD w3 w.heap.size v3 _ O3.out B3.out.size).mono ?_;rintro e w4 ⟨rfl,hO,hB⟩;have O4:=J hO;have B4:=J hB;clear hO hB;go_wp2_with fail
 go_ret;exact⟨v3,rfl,O4.out,B3.out.trans B4.out⟩
theorem Kb:Calls prog 236 #[.pointer (some ⟨i.c,0,none⟩)] w (br (R 2++R 3) w):=by
 have ca:w.cell? ⟨i.c,4,none⟩=some (.pointer (some ⟨i.r 2,0,none⟩)):=r.cells.2.2.2.2.1;have cb:w.cell? ⟨i.c,5,none⟩=some (.pointer (some ⟨i.r 3,0,none⟩)):=r.cells.2.2.2.2.2;have U:=zs (Calls prog 146 #[.pointer (some ⟨i.r 2,0,none⟩)] w.drew (br (R 2) w)) ((kz w.drew (i.r 2) (S 2) (R 2) b ((r.below (av w 1)).ls 2 (by omega))).mono λ_ _ ⟨v,h1,h2,h3⟩=>⟨v,h1,h2,⟨h3.os,h3.tape,h3.output,h3.size,h3.block⟩⟩);have V:=J (λ(w1:zw) (h:Below w.heap.size w w1)=>kz w1 (i.r 3) (S 3) (R 3) b ((r.below h).ls 3 (by omega)));have C:=zs (∀w1,Below w.heap.size w w1->w1.cell? ⟨i.c,4,none⟩=some (.pointer (some ⟨i.r 2,0,none⟩))/\w1.cell? ⟨i.c,5,none⟩=some (.pointer (some ⟨i.r 3,0,none⟩))) (λw1 h=>⟨(r.below h).cells.2.2.2.2.1,(r.below h).cells.2.2.2.2.2⟩);have h1:=(r.ls 2 (by omega)).len;have h2:=(r.ls 3 (by omega)).len;obtain⟨ic,ir⟩:=i;simp only at ca cb U V C|-;generalize ir 2=n at*;generalize ir 3=a at*;clear r;go_enter func236,ntmps236;go_wp2_with fail
 go_region_held3(λw'=>w'.cell? ⟨ic,4,none⟩=some (.pointer (some ⟨n,0,none⟩))/\w'.cell? ⟨ic,5,none⟩=some (.pointer (some ⟨a,0,none⟩))) (first|(exact⟨‹_›,‹_›⟩)|go_keep)
  (first
    |(go_at_call 146;refine U.out.mono ?_;rintro e w1 ⟨v1,rfl,lh,dh⟩;obtain⟨z2,z3⟩:=C.out w1 dh;have O1:=J lh;have B1:=J dh;clear lh dh U)
    |(go_at_call 146;refine(V.out w1 B1.out).mono ?_;rintro e w2 ⟨v2,rfl,kg,cQ⟩;obtain⟨z4,z5⟩:=C.out w2 (B1.out.trans (cQ.mono B1.out.size));obtain⟨v3,w3,aB,jO,gA⟩:=mj (O1.out.below cQ) kg (by omega) (zr B1.out.size cQ.size);have zB:=J aB;have O3:=J jO;have B3:=J (show Below w.heap.size w w3 from(B1.out.trans (cQ.mono B1.out.size)).grown gA (zr B1.out.size cQ.size) (λk hk=>((O1.out.below cQ).1.lt k hk).1));obtain⟨z6,z7⟩:=C.out w3 B3.out;clear kg cQ aB jO gA V O1 B1)
    |(refine ek rfl _ _ _ rfl _ _ _ _ rfl rfl zB.out ?_))
 go_wp2_with fail
 go_ret;exact⟨v3,rfl,O3.out,B3.out⟩
theorem Db:Calls prog 257 #[.pointer (some ⟨i.c,0,none⟩)] w (jb (.int .i64 ((((R 0).length+(R 1).length+(R 2).length+(R 3).length:Nat):Int) - (mo:Int))) w):=by
 obtain⟨c0,_⟩:=r.cells;have hb:=((zo w.heap.size w).trans (av w 1)).alloc (zg _) (.cells #[.int .i64 0,.int .i64 1,.int .i64 2,.int .i64 3] 3);have K0:(w.drew.alloc (.cells #[.int .i64 0,.int .i64 1,.int .i64 2,.int .i64 3] 3)).cell? ⟨i.c,0,none⟩=some (.int .i64 (mo:Int)):=(r.below hb).cells.1;have U:=J (C' w.drew i S mo p R b (r.below (av w 1)));have B:=J hb;have h0:=(r.ls 0 (by omega)).len;have h1:=(r.ls 1 (by omega)).len;have h2:=(r.ls 2 (by omega)).len;have h3:=(r.ls 3 (by omega)).len;have ht:=r.top.1;obtain⟨q,hq⟩:=zx ((R 0).length+(R 1).length+(R 2).length+(R 3).length);rw[← hq] at U|-;have HW:=qi ((q:Int) - (mo:Int)) (by omega);clear hb hq h0 h1 h2 h3 ht r;go_enter func257,ntmps257;go_wp2_with fail
 go_region_held3(λw'=>w'.cell? ⟨i.c,0,none⟩=some (.int .i64 (mo:Int))) (first|(with_reducible exact K0)|(with_reducible exact c0)|go_keep)
  ((go_at_call 248;refine U.out.mono ?_;rintro e w1 ⟨rfl,rfl⟩))
 all_goals
  go_wp2_with fail
  go_ret;exact⟨rfl,B.out⟩
theorem tR(q:Bool):Calls prog 247 #[.pointer (some ⟨i.c,0,none⟩),.bool q] w (jb (.int .i64 (lv R p q:Int)) w):=by
 obtain⟨_,c1,_⟩:=r.cells;have cU:=(zo w.heap.size w).alloc (zg _) (.cells #[.int .i64 0] 3);have gC:=cU.alloc cU.size (.cells #[.int .i64 1] 3);have K1:(w.alloc (.cells #[.int .i64 0] 3)).cell? ⟨i.c,1,none⟩=some (.int .i64 (p:Int)):=(r.below cU).cells.2.1;have U:=fB w i S mo p R b r 0 (by omega);have V:=fB (w.alloc (.cells #[.int .i64 0] 3)) i S mo p R b (r.below cU) 1 (by omega);have B1:=J cU;have B2:=J gC;unfold lv;generalize(R 0).length=n at*;generalize(R 1).length=m at*;have U:=zs (Calls prog 248 #[.pointer (some ⟨i.c,0,none⟩),.slice (some ⟨w.heap.size,0,none⟩) 1 1] (w.alloc (.cells #[.int .i64 0] 3)) (bS (n:Int) (w.alloc (.cells #[.int .i64 0] 3)))) U;have V:=zs (Calls prog 248 #[.pointer (some ⟨i.c,0,none⟩),.slice (some ⟨(w.alloc (.cells #[.int .i64 0] 3)).heap.size,0,none⟩) 1 1] ((w.alloc (.cells #[.int .i64 0] 3)).alloc (.cells #[.int .i64 1] 3)) (bS (m:Int) ((w.alloc (.cells #[.int .i64 0] 3)).alloc (.cells #[.int .i64 1] 3)))) V;rw[show(w.alloc (.cells #[.int .i64 0] 3)).heap.size=w.heap.size+1 by simp] at V;clear r cU gC
 by_cases h1:p < n
 . rw[if_pos (xz h1)];have e1:decide (p < n)=true:=by simpa using h1
   clear h1 V B2;go_enter func247,ntmps247;go_wp2_with fail
   refine U.out.mono ?_;rintro e w1 ⟨rfl,rfl⟩;go_wp2_with fail
   go_ret;exact⟨rfl,B1.out⟩
 have e1:decide (p < n)=false:=by simpa using h1
 by_cases h2:0 < n/\n=p/\q=true
 . rw[if_pos (ja (xz h2))];obtain⟨h3,rfl,rfl⟩:=h2;have e2:decide (0 < n)=true:=by simpa using h3
   clear h1 V B2 h3;go_enter func247,ntmps247;go_wp2_with fail
   refine U.out.mono ?_;rintro e w1 ⟨rfl,rfl⟩;go_wp2_with fail
   go_ret;exact⟨rfl,B1.out⟩
 have key:m=0->(if p < n\/(0 < n/\n=p/\q=true)\/m=0 then 0 else 1)=0:=λh=>if_pos (ja (ja h));have pU:m≠0->(if p < n\/(0 < n/\n=p/\q=true)\/m=0 then 0 else 1)=1:=λh=>if_neg (by rintro(h|h|h) <;> contradiction)
 by_cases h3:0 < n
 . have e2:decide (0 < n)=true:=by simpa using h3
   by_cases h4:n=p
   . subst h4;obtain rfl:q=false:=by cases q <;> simp_all
     by_cases h5:m=0
     . rw[key h5];subst h5;clear h1 h2 h3 key pU;go_enter func247,ntmps247;go_wp2_with fail
       refine U.out.mono ?_;rintro e w1 ⟨rfl,rfl⟩;go_wp2_with fail
       refine V.out.mono ?_;rintro e w1 ⟨rfl,rfl⟩;go_wp2_with fail
       go_ret;exact⟨rfl,B2.out⟩
     . rw[pU h5];have e5:(m==0)=false:=by simpa using h5
       have e6:((m:Int)==0)=false:=by simp;omega
       clear h1 h2 h3 key pU h5;go_enter func247,ntmps247;go_wp2_with fail
       refine U.out.mono ?_;rintro e w1 ⟨rfl,rfl⟩;go_wp2_with fail
       refine V.out.mono ?_;rintro e w1 ⟨rfl,rfl⟩;go_wp2_with fail
       go_ret;exact⟨rfl,B2.out⟩
   . have e4:(n==p)=false:=by simpa using h4
     have e7:((n:Int)==(p:Int))=false:=by simp;omega
     by_cases h5:m=0
     . rw[key h5];subst h5;clear h1 h2 h3 key pU h4;go_enter func247,ntmps247;go_wp2_with fail
       refine U.out.mono ?_;rintro e w1 ⟨rfl,rfl⟩;go_wp2_with fail
       refine V.out.mono ?_;rintro e w1 ⟨rfl,rfl⟩;go_wp2_with fail
       go_ret;exact⟨rfl,B2.out⟩
     . rw[pU h5];have e5:(m==0)=false:=by simpa using h5
       have e6:((m:Int)==0)=false:=by simp;omega
       clear h1 h2 h3 key pU h5 h4;go_enter func247,ntmps247;go_wp2_with fail
       refine U.out.mono ?_;rintro e w1 ⟨rfl,rfl⟩;go_wp2_with fail
       refine V.out.mono ?_;rintro e w1 ⟨rfl,rfl⟩;go_wp2_with fail
       go_ret;exact⟨rfl,B2.out⟩
 . obtain rfl:n=0:=by omega
   by_cases h5:m=0
   . rw[key h5];subst h5;clear h1 h2 h3 key pU;go_enter func247,ntmps247;go_wp2_with fail
     refine U.out.mono ?_;rintro e w1 ⟨rfl,rfl⟩;go_wp2_with fail
     refine V.out.mono ?_;rintro e w1 ⟨rfl,rfl⟩;go_wp2_with fail
     go_ret;exact⟨rfl,B2.out⟩
   . rw[pU h5];have e5:(m==0)=false:=by simpa using h5
     have e6:((m:Int)==0)=false:=by simp;omega
     clear h1 h2 h3 key pU h5;go_enter func247,ntmps247;go_wp2_with fail
     refine U.out.mono ?_;rintro e w1 ⟨rfl,rfl⟩;go_wp2_with fail
     refine V.out.mono ?_;rintro e w1 ⟨rfl,rfl⟩;go_wp2_with fail
     go_ret;exact⟨rfl,B2.out⟩
end
end AR
namespace AR
open Go.RowKit Sg
def rF(R:aW)(key:zy):aW:=λk=>rem (R k) key
def qK(R:aW)(key:zy)(k:Nat):aW:=λj=>if j < k then rem (R j) key else R j
theorem uX(R:aW)(key:zy)(k:Nat):qK R key k k=R k:=by unfold qK;rw[if_neg (Nat.lt_irrefl k)]
theorem pV(R:aW)(key:zy)(k j:Nat):qK R key (k+1) j=af (qK R key k) k (rem (R k) key) j:=by
 unfold qK af
 by_cases e:j=k
 . subst e;simp
 . simp only[e,if_false]
   by_cases h:j < k
   . rw[if_pos h,if_pos (by omega)]
   . rw[if_neg h,if_neg (by omega)]
def bp(R:aW)(key:zy)(k:Nat):aW:=af (rF R key) k (key::rem (R k) key)
theorem fq(R:aW)(p:Nat)(q:Bool):lv R p q=0\/lv R p q=1:=by unfold lv;split <;> simp
def gU(mo p:Nat)(R:aW):Nat:=p+min (max ((R 3).length / (R 2).length) 1) (mo - p)
def gV(p:Nat)(R:aW):Nat:=p - min (max ((R 2).length / (R 3).length) 1) p
theorem Nw(w:zw)(x0 x1 x2 x3:Value):(Instr.index 199 (.agg #[x0,x1,x2,x3]) (.int .i64 0)).run prog w= .ok x0 w:=by kernel_rfl
theorem Nx(w:zw)(x0 x1 x2 x3:Value):(Instr.index 199 (.agg #[x0,x1,x2,x3]) (.int .i64 1)).run prog w= .ok x1 w:=by kernel_rfl
theorem Ny(w:zw)(x0 x1 x2 x3:Value):(Instr.index 199 (.agg #[x0,x1,x2,x3]) (.int .i64 2)).run prog w= .ok x2 w:=by kernel_rfl
theorem Nz(w:zw)(x0 x1 x2 x3:Value):(Instr.index 199 (.agg #[x0,x1,x2,x3]) (.int .i64 3)).run prog w= .ok x3 w:=by kernel_rfl
section
variable(w:zw)(i:Ix)(S:Sx)(mo p:Nat)(R:aW)(b:Nat)(r:Raw w i S mo p R b)
include r
theorem wm(key:zy)(hs:key.size<=maxLen):Calls prog 240 #[.pointer (some ⟨i.c,0,none⟩),.string key] w (aL (.bool (aF R key)) w i S mo p (rF R key) b):=by
 obtain⟨_,_,c2,c3,c4,c5⟩:=r.cells;have U:=J (wj w i S mo p R b r key hs);have HH:=J r;obtain⟨h,hh⟩:=zx (aF R key);rw[← hh] at U|-;clear r hh;go_enter func240,ntmps240;go_wp2_with fail
 refine U.out.mono ?_;rintro e w1 ⟨rfl,rfl⟩;go_wp2_with fail
 go_loopw [15] (λz W=>∃(k:Nat) (S':Sx),z= .int .i64 (k:Int)/\k<=4/\Raw W i S' mo p (qK R key k) b/\aJ w W (ax i S) (ax i S')) (λz _=>4 - (intOf z).toNat)
 case atStart=>exact⟨0,S,rfl,by omega,HH.out.congr (λk _=>by unfold qK;rw[if_neg (by omega)]),aJ.refl _ _⟩
 case round=>
  obtain⟨k,S',rfl,hk,hR,hW⟩:=hrel;have HR:=J hR;have HW:=J hW;clear hR hW c2 c3 c4 c5;rcases k with _|_|_|_|_|k
  . have V:=ez wr (i.r 0) (S' 0) _ b (HR.out.ls 0 (by omega)) key hs;rw[uX] at V;have V:=J V;have X:=Nw;go_wp2_with fail
    refine V.out.mono ?_;intro e w2 hp;obtain⟨rfl,S2,r2,fp⟩:=HR.out.on (show 0 < 4 by omega) hp (zg _);have N2:=zs (∃S2,Raw w2 i S2 mo p (qK R key 1) b/\aJ w w2 (ax i S) (ax i S2)) (⟨S2,r2.congr (λj _=>pV R key 0 j),HW.out.trans fp⟩);clear hp r2 fp V;go_wp2_with fail
    go_roundw
    case rel=>
     obtain⟨S2,h1,h2⟩:=N2.out;exact⟨1,S2,by go_num,by omega,h1,h2⟩
    case measure=>simp[intOf]
  . have V:=ez wr (i.r 1) (S' 1) _ b (HR.out.ls 1 (by omega)) key hs;rw[uX] at V;have V:=J V;have X:=Nx;go_wp2_with fail
    refine V.out.mono ?_;intro e w2 hp;obtain⟨rfl,S2,r2,fp⟩:=HR.out.on (show 1 < 4 by omega) hp (zg _);have N2:=zs (∃S2,Raw w2 i S2 mo p (qK R key 2) b/\aJ w w2 (ax i S) (ax i S2)) (⟨S2,r2.congr (λj _=>pV R key 1 j),HW.out.trans fp⟩);clear hp r2 fp V;go_wp2_with fail
    go_roundw
    case rel=>
     obtain⟨S2,h1,h2⟩:=N2.out;exact⟨2,S2,by go_num,by omega,h1,h2⟩
    case measure=>simp[intOf]
  . have V:=ez wr (i.r 2) (S' 2) _ b (HR.out.ls 2 (by omega)) key hs;rw[uX] at V;have V:=J V;have X:=Ny;go_wp2_with fail
    refine V.out.mono ?_;intro e w2 hp;obtain⟨rfl,S2,r2,fp⟩:=HR.out.on (show 2 < 4 by omega) hp (zg _);have N2:=zs (∃S2,Raw w2 i S2 mo p (qK R key 3) b/\aJ w w2 (ax i S) (ax i S2)) (⟨S2,r2.congr (λj _=>pV R key 2 j),HW.out.trans fp⟩);clear hp r2 fp V;go_wp2_with fail
    go_roundw
    case rel=>
     obtain⟨S2,h1,h2⟩:=N2.out;exact⟨3,S2,by go_num,by omega,h1,h2⟩
    case measure=>simp[intOf]
  . have V:=ez wr (i.r 3) (S' 3) _ b (HR.out.ls 3 (by omega)) key hs;rw[uX] at V;have V:=J V;have X:=Nz;go_wp2_with fail
    refine V.out.mono ?_;intro e w2 hp;obtain⟨rfl,S2,r2,fp⟩:=HR.out.on (show 3 < 4 by omega) hp (zg _);have N2:=zs (∃S2,Raw w2 i S2 mo p (qK R key 4) b/\aJ w w2 (ax i S) (ax i S2)) (⟨S2,r2.congr (λj _=>pV R key 3 j),HW.out.trans fp⟩);clear hp r2 fp V;go_wp2_with fail
    go_roundw
    case rel=>
     obtain⟨S2,h1,h2⟩:=N2.out;exact⟨4,S2,by go_num,by omega,h1,h2⟩
    case measure=>simp[intOf]
  . go_wp2_with fail
    go_ret;exact⟨rfl,S',HR.out.congr (λj hj=>by unfold qK rF;rw[if_pos (by omega)]),HW.out⟩
  . omega
theorem Ji(key:zy)(hs:key.size<=maxLen)(hb:b<=985):Calls prog 245 #[.pointer (some ⟨i.c,0,none⟩),.string key,.int .i64 0] w (aL (.tuple #[]) w i S mo p (bp R key 0) (b+1)):=by
 have U:=J (wm w i S mo p R b r key hs);generalize aF R key=h at U;clear r;go_enter func245,ntmps245;go_wp2_with fail
 refine U.out.mono ?_;rintro e w1 ⟨rfl,S1,r1,dx⟩;have c2:w1.cell? ⟨i.c,2,none⟩=some (.pointer (some ⟨i.r 0,0,none⟩)):=r1.cells.2.2.1;have hl:=(r1.ls 0 (by omega)).len;have V:=J (fJ w1 (i.r 0) (S1 0) _ b (r1.ls 0 (by omega)) key (b+1) (show key∉rem (R 0) key from eP) hs (by omega) (by omega) (by omega));have R1:=J r1;have W1:=J dx;clear r1 dx hl U;go_wp2_with fail
 refine V.out.mono ?_;intro e w2 hp;have P:=J (aL.trans W1.out (R1.out.on (show 0 < 4 by omega) hp (by omega)));obtain⟨rfl,_⟩:=hp;go_wp2_with fail
 go_end0;exact P.out
theorem Dc(key:zy)(hs:key.size<=maxLen)(hb:b<=985):Calls prog 245 #[.pointer (some ⟨i.c,0,none⟩),.string key,.int .i64 1] w (aL (.tuple #[]) w i S mo p (bp R key 1) (b+1)):=by
 have U:=J (wm w i S mo p R b r key hs);generalize aF R key=h at U;clear r;go_enter func245,ntmps245;go_wp2_with fail
 refine U.out.mono ?_;rintro e w1 ⟨rfl,S1,r1,dx⟩;have c3:w1.cell? ⟨i.c,3,none⟩=some (.pointer (some ⟨i.r 1,0,none⟩)):=r1.cells.2.2.2.1;have hl:=(r1.ls 1 (by omega)).len;have V:=J (fJ w1 (i.r 1) (S1 1) _ b (r1.ls 1 (by omega)) key (b+1) (show key∉rem (R 1) key from eP) hs (by omega) (by omega) (by omega));have R1:=J r1;have W1:=J dx;clear r1 dx hl U;go_wp2_with fail
 refine V.out.mono ?_;intro e w2 hp;have P:=J (aL.trans W1.out (R1.out.on (show 1 < 4 by omega) hp (by omega)));obtain⟨rfl,_⟩:=hp;go_wp2_with fail
 go_end0;exact P.out
theorem PK:Calls prog 235 #[.pointer (some ⟨i.c,0,none⟩)] w (aL (.tuple #[.string (ah (R (lv R p false))),.bool (bb (R (lv R p false)))]) w i S mo p (af R (lv R p false) (R (lv R p false)).dropLast) b):=by
 have C:=zs (∀w1,Below w.heap.size w w1->w1.cell? ⟨i.c,2,none⟩=some (.pointer (some ⟨i.r 0,0,none⟩))/\w1.cell? ⟨i.c,3,none⟩=some (.pointer (some ⟨i.r 1,0,none⟩))) (λw1 h=>⟨(r.below h).cells.2.2.1,(r.below h).cells.2.2.2.1⟩);obtain⟨_,_,c2,c3,_⟩:=r.cells;have HH:=J r;have U:=tR w.drew i S mo p R b (r.below (av w 1)) false;have V:=λ(w1:zw) (h:Below w.heap.size w w1) (k:Nat) (hk:k < 4)=>gR w1 (i.r k) (S k) (R k) b ((r.below h).ls k hk);have BD:=zs (∀w1,Below w.drew.heap.size w.drew w1->Below w.heap.size w w1) (λw1 h=>(av w 1).trans h);rcases fq R p false with hl|hl
 . rw[hl] at U|-;have U:=zs (Calls prog 247 #[.pointer (some ⟨i.c,0,none⟩),.bool false] w.drew (jb (.int .i64 0) w.drew)) U;have V:=J (λw1 h=>V w1 h 0 (by omega));clear r hl;go_enter func235,ntmps235;go_wp2_with fail
   go_region_held3(λw'=>w'.cell? ⟨i.c,2,none⟩=some (.pointer (some ⟨i.r 0,0,none⟩))/\w'.cell? ⟨i.c,3,none⟩=some (.pointer (some ⟨i.r 1,0,none⟩))) (first|(with_reducible exact⟨z2,z3⟩)|(with_reducible exact⟨y2,y3⟩)|(with_reducible exact⟨c2,c3⟩)|go_keep)
    (first
      |(go_at_call 247;refine U.out.mono ?_;rintro e w1 ⟨rfl,dh⟩;obtain⟨y2,y3⟩:=C.out w1 (BD.out w1 dh);have B1:=J (BD.out w1 dh);clear dh U)
      |(go_at_call 144;refine(V.out w1 B1.out).mono ?_;intro e w2 hp;have P:=J (aL.trans (aJ.below B1.out) ((HH.out.below B1.out).on (show 0 < 4 by omega) hp (zg _)));obtain⟨rfl,S2,r2,_⟩:=P.out;obtain⟨_,_,z2,z3,_⟩:=r2.cells;clear hp r2 V))
   go_wp2_with fail
   go_ret2
   exact P.out
 . rw[hl] at U|-;have U:=zs (Calls prog 247 #[.pointer (some ⟨i.c,0,none⟩),.bool false] w.drew (jb (.int .i64 1) w.drew)) U;have V:=J (λw1 h=>V w1 h 1 (by omega));clear r hl;go_enter func235,ntmps235;go_wp2_with fail
   go_region_held3(λw'=>w'.cell? ⟨i.c,2,none⟩=some (.pointer (some ⟨i.r 0,0,none⟩))/\w'.cell? ⟨i.c,3,none⟩=some (.pointer (some ⟨i.r 1,0,none⟩))) (first|(with_reducible exact⟨z2,z3⟩)|(with_reducible exact⟨y2,y3⟩)|(with_reducible exact⟨c2,c3⟩)|go_keep)
    (first
      |(go_at_call 247;refine U.out.mono ?_;rintro e w1 ⟨rfl,dh⟩;obtain⟨y2,y3⟩:=C.out w1 (BD.out w1 dh);have B1:=J (BD.out w1 dh);clear dh U)
      |(go_at_call 144;refine(V.out w1 B1.out).mono ?_;intro e w2 hp;have P:=J (aL.trans (aJ.below B1.out) ((HH.out.below B1.out).on (show 1 < 4 by omega) hp (zg _)));obtain⟨rfl,S2,r2,_⟩:=P.out;obtain⟨_,_,z2,z3,_⟩:=r2.cells;clear hp r2 V))
   go_wp2_with fail
   go_ret2
   exact P.out
theorem NA(h2:0 < (R 2).length)(hp:p<=mo):Calls prog 250 #[.pointer (some ⟨i.c,0,none⟩)] w (aL (.tuple #[]) w i S mo (gU mo p R) R b):=by
 have cU:=(zo w.heap.size w).alloc (zg _) (.cells #[.int .i64 3] 3);have gC:=cU.alloc cU.size (.cells #[.int .i64 2] 3);have U:=fB w i S mo p R b r 3 (by omega);have V:=fB (w.alloc (.cells #[.int .i64 3] 3)) i S mo p R b (r.below cU) 2 (by omega);have hl:=(r.ls 3 (by omega)).len;have ht:=r.top;have HR:=J (r.below gC);have HB:=J gC;unfold gU;generalize(R 3).length=n at*;generalize(R 2).length=m at*;obtain⟨u,hu⟩:=zx (n / m);have yV:u<=n:=by rw[hu];exact Nat.div_le_self _ _
 have e1:(n:Int).tdiv (m:Int)=(u:Int):=by rw[hu,Int.tdiv_eq_ediv_of_nonneg (by omega)];rfl
 have e2:IntKind.i64.wrap (u:Int)=(u:Int):=qi _ (by omega);obtain⟨q,hq⟩:=zx (max u 1);have e3:(if(u:Int) < 1 then(1:Int) else(u:Int))=(q:Int):=by rw[hq];split <;> omega
 have e4:max (u:Int) 1=(q:Int):=by omega
 have e5:(m==0)=false:=by simp;omega
 have e6:((m:Int)==0)=false:=by simp;omega
 have e7:(m:Int)≠0:=by omega
 have e8:m≠0:=by omega
 obtain⟨d,hd⟩:=zx (mo - p);have f1:IntKind.i64.wrap ((mo:Int) - (p:Int))=(d:Int):=by rw[qi _ (by omega)];omega
 obtain⟨x,hx⟩:=zx (min q d);have f2:(if d < q then(d:Int) else(q:Int))=(x:Int):=by rw[hx];split <;> omega
 have f3:min (q:Int) (d:Int)=(x:Int):=by omega
 have f4:IntKind.i64.wrap ((p:Int)+(x:Int))=((p+x:Nat):Int):=by rw[qi _ (by omega)];omega
 have HT:=zs (p+x<=9223372036854775807) (by omega);rw[← hu,<-hq,<-hd,<-hx];have U:=zs (Calls prog 248 #[.pointer (some ⟨i.c,0,none⟩),.slice (some ⟨w.heap.size,0,none⟩) 1 1] (w.alloc (.cells #[.int .i64 3] 3)) (bS (n:Int) (w.alloc (.cells #[.int .i64 3] 3)))) U;have V:=zs (Calls prog 248 #[.pointer (some ⟨i.c,0,none⟩),.slice (some ⟨(w.alloc (.cells #[.int .i64 3] 3)).heap.size,0,none⟩) 1 1] ((w.alloc (.cells #[.int .i64 3] 3)).alloc (.cells #[.int .i64 2] 3)) (bS (m:Int) ((w.alloc (.cells #[.int .i64 3] 3)).alloc (.cells #[.int .i64 2] 3)))) V;rw[show(w.alloc (.cells #[.int .i64 3] 3)).heap.size=w.heap.size+1 by simp] at V;clear r cU gC hu hq yV h2 hl hd hx hp ht;go_enter func250,ntmps250;go_wp2_with fail
 refine U.out.mono ?_;rintro e w1 ⟨rfl,rfl⟩;go_wp2_with fail
 refine V.out.mono ?_;rintro e w1 ⟨rfl,rfl⟩;go_wp2_with fail
 generalize(w.alloc (.cells #[.int .i64 3] 3)).alloc (.cells #[.int .i64 2] 3)=w2 at HR HB|-;obtain⟨c0,c1,_⟩:=HR.out.cells;obtain⟨_,f1⟩:=HR.out.pK;clear e1 e2 e3 e4 e5 e6 e7 e8 U V;go_region;go_wp2_with fail
 go_end0;exact⟨rfl,S,(HR.out.below (av w2 1)).gd _ HT.out |>.1,(aJ.below (HB.out.trans ((av w2 1).mono HB.out.size))).trans (aJ.same ((HR.out.below (av w2 1)).gd _ HT.out).2)⟩
theorem NC(h2:0 < (R 3).length)(_:p<=mo):Calls prog 244 #[.pointer (some ⟨i.c,0,none⟩)] w (aL (.tuple #[]) w i S mo (gV p R) R b):=by
 have cU:=(zo w.heap.size w).alloc (zg _) (.cells #[.int .i64 2] 3);have gC:=cU.alloc cU.size (.cells #[.int .i64 3] 3);have U:=fB w i S mo p R b r 2 (by omega);have V:=fB (w.alloc (.cells #[.int .i64 2] 3)) i S mo p R b (r.below cU) 3 (by omega);have hl:=(r.ls 2 (by omega)).len;have ht:=r.top;have HR:=J (r.below gC);have HB:=J gC;unfold gV;generalize(R 2).length=n at*;generalize(R 3).length=m at*;obtain⟨u,hu⟩:=zx (n / m);have yV:u<=n:=by rw[hu];exact Nat.div_le_self _ _
 have e1:(n:Int).tdiv (m:Int)=(u:Int):=by rw[hu,Int.tdiv_eq_ediv_of_nonneg (by omega)];rfl
 have e2:IntKind.i64.wrap (u:Int)=(u:Int):=qi _ (by omega);obtain⟨q,hq⟩:=zx (max u 1);have e3:(if(u:Int) < 1 then(1:Int) else(u:Int))=(q:Int):=by rw[hq];split <;> omega
 have e4:max (u:Int) 1=(q:Int):=by omega
 have e5:(m==0)=false:=by simp;omega
 have e6:((m:Int)==0)=false:=by simp;omega
 have e7:(m:Int)≠0:=by omega
 have e8:m≠0:=by omega
 obtain⟨x,hx⟩:=zx (min q p);have f2:(if p < q then(p:Int) else(q:Int))=(x:Int):=by rw[hx];split <;> omega
 have f3:min (q:Int) (p:Int)=(x:Int):=by omega
 have f4:IntKind.i64.wrap ((p:Int) - (x:Int))=((p - x:Nat):Int):=by rw[qi _ (by omega)];omega
 have HT:=zs (p - x<=9223372036854775807) (by omega);rw[← hu,<-hq,<-hx];have U:=zs (Calls prog 248 #[.pointer (some ⟨i.c,0,none⟩),.slice (some ⟨w.heap.size,0,none⟩) 1 1] (w.alloc (.cells #[.int .i64 2] 3)) (bS (n:Int) (w.alloc (.cells #[.int .i64 2] 3)))) U;have V:=zs (Calls prog 248 #[.pointer (some ⟨i.c,0,none⟩),.slice (some ⟨(w.alloc (.cells #[.int .i64 2] 3)).heap.size,0,none⟩) 1 1] ((w.alloc (.cells #[.int .i64 2] 3)).alloc (.cells #[.int .i64 3] 3)) (bS (m:Int) ((w.alloc (.cells #[.int .i64 2] 3)).alloc (.cells #[.int .i64 3] 3)))) V;rw[show(w.alloc (.cells #[.int .i64 2] 3)).heap.size=w.heap.size+1 by simp] at V;clear r cU gC hu hq yV h2 hl hx ht;go_enter func244,ntmps244;go_wp2_with fail
 refine U.out.mono ?_;rintro e w1 ⟨rfl,rfl⟩;go_wp2_with fail
 refine V.out.mono ?_;rintro e w1 ⟨rfl,rfl⟩;go_wp2_with fail
 generalize(w.alloc (.cells #[.int .i64 2] 3)).alloc (.cells #[.int .i64 3] 3)=w2 at HR HB|-;obtain⟨c0,c1,_⟩:=HR.out.cells;obtain⟨_,f1⟩:=HR.out.pK;clear e1 e2 e3 e4 e5 e6 e7 e8 U V;go_region;go_wp2_with fail
 go_end0;exact⟨rfl,S,(HR.out.below (av w2 1)).gd _ HT.out |>.1,(aJ.below (HB.out.trans ((av w2 1).mono HB.out.size))).trans (aJ.same ((HR.out.below (av w2 1)).gd _ HT.out).2)⟩
end
end AR
namespace AR
open Go.RowKit Sg
def Xc(n0 n1 n2 n3:Int):Nat->Array Value
 |0=>#[.int .i64 0,.int .i64 0,.int .i64 0,.int .i64 0]
 |1=>#[.int .i64 n0,.int .i64 0,.int .i64 0,.int .i64 0]
 |2=>#[.int .i64 n0,.int .i64 n1,.int .i64 0,.int .i64 0]
 |3=>#[.int .i64 n0,.int .i64 n1,.int .i64 n2,.int .i64 0]
 |_=>#[.int .i64 n0,.int .i64 n1,.int .i64 n2,.int .i64 n3]
theorem aV{fn:Func}{a:Tmp}{ty:TypeId}(h:fn.results= #[.cell a ty])(tmps:Array Value)(P:Program)(w:zw)(p:Addr)(v:Value)(ha:tmps.getD a undef= .pointer (some p))(hv:(loadVar ty p).run P w= .ok v w):
 (results fn tmps).run P w= .ok v w:=by
 rw[qt] at ha;simp[results,h,ha,asAddr,hv]
def wV(mo:Nat)(r:Nat->Nat):Nat->Array Value
 |0=>#[.int .i64 (mo:Int),.int .i64 0,.pointer none,.pointer none,.pointer none,.pointer none]
 |1=>#[.int .i64 (mo:Int),.int .i64 0,.pointer (some ⟨r 0,0,none⟩),.pointer none,.pointer none,.pointer none]
 |2=>#[.int .i64 (mo:Int),.int .i64 0,.pointer (some ⟨r 0,0,none⟩),.pointer (some ⟨r 1,0,none⟩),.pointer none,.pointer none]
 |3=>#[.int .i64 (mo:Int),.int .i64 0,.pointer (some ⟨r 0,0,none⟩),.pointer (some ⟨r 1,0,none⟩),.pointer (some ⟨r 2,0,none⟩),.pointer none]
 |_=>#[.int .i64 (mo:Int),.int .i64 0,.pointer (some ⟨r 0,0,none⟩),.pointer (some ⟨r 1,0,none⟩),.pointer (some ⟨r 2,0,none⟩),.pointer (some ⟨r 3,0,none⟩)]
structure lz(w:zw)(arr:Array Value)(r:Nat->Nat)(S:Sx)(k:Nat)(W:zw):Prop where
 box:W.heap[w.heap.size]?=some (.cells arr 201 (0,0))
 ls:∀j,j < k->LS W (r j) (S j) [] 0
 up:∀j,j < k->∀x,S j x->w.heap.size < x
 sep:∀j l,j < k->l < k->j≠l->∀x,S j x->¬S l x
 az:Below w.heap.size w W
section
variable{w W W':zw}{arr arr':Array Value}{r:Nat->Nat}{S:Sx}{k:Nat}{e:Ending}
theorem lz.lt(h:lz w arr r S k W):w.heap.size < W.heap.size:=(Array.getElem?_eq_some_iff.1 h.box).1
theorem lz.below(h:lz w arr r S k W)(hb:Below W.heap.size W W'):lz w arr r S k W':=
 ⟨(hb.block _ h.lt).trans h.box,λj hj=>(h.ls j hj).kept hb.size λx hx=>hb.block x ((h.ls j hj).lt hx),h.up,h.sep,h.az.trans (hb.mono h.az.size)⟩
theorem lz.store(h:lz w arr r S k W)(o:Nat)(v:Value)(ha:arr'=arr.setIfInBounds o v):lz w arr' r S k (W.setCell ⟨w.heap.size,o,none⟩ v):=by
 refine⟨by rw[heap_setCell_same _ _ _ _ _ _ h.box,ha],λj hj=>(h.ls j hj).kept (by simp[World.setCell]) λx hx=>qc _ _ _ _ (λe=>?_),h.up,h.sep,h.az.setCell (p:=⟨w.heap.size,o,none⟩) (zg _) v⟩;have:=h.up j hj x hx;have e:x=w.heap.size:=e;omega
theorem lz.list(h:lz w arr r S k W)(hp:MD W e W'):∃l S',e= .returned (.pointer (some ⟨l,0,none⟩))/\lz w arr (af r k l) S' (k+1) W':=by
 obtain⟨l,S0,he,h1,h2,h3⟩:=hp;have h':=h.below h3;have aQ:=h.lt;refine⟨l,λj=>if j=k then S0 else S j,he,h'.box,λj hj=>?_,λj hj x hx=>?_,λj l hj hl al x hx lj=>?_,h'.az⟩
 . by_cases e:j=k
   . subst e;rw[ay,if_pos rfl];exact h2
   . rw[au e,if_neg e];exact h'.ls j (by omega)
 . by_cases e:j=k
   . rw[if_pos e] at hx;have:=h1 x hx;omega
   . rw[if_neg e] at hx;exact h.up j (by omega) x hx
 . by_cases e:j=k
   . by_cases e2:l=k
     . omega
     . rw[if_pos e] at hx;rw[if_neg e2] at lj;have:=h1 x hx;have:=(h.ls l (by omega)).lt lj;omega
   . rw[if_neg e] at hx
     by_cases e2:l=k
     . rw[if_pos e2] at lj;have:=h1 x lj;have:=(h.ls j (by omega)).lt hx;omega
     . rw[if_neg e2] at lj;exact h.sep j l (by omega) (by omega) al x hx lj
end
def jz(mo:Nat)(w:zw)(e:Ending)(w':zw):Prop:=∃i S,e= .returned (.pointer (some ⟨i.c,0,none⟩))/\Raw w' i S mo 0 (λ_=>[]) 0/\(∀k,ax i S k->w.heap.size<=k)/\Below w.heap.size w w'
theorem lz.made{w W:zw}{mo:Nat}{r:Nat->Nat}{S:Sx}(h:lz w (wV mo r 4) r S 4 W)(hm:mo<=9223372036854775807):jz mo w (.returned (.pointer (some ⟨w.heap.size,0,none⟩))) W:=by
 refine⟨⟨w.heap.size,r⟩,S,rfl,⟨h.box,λk hk=>h.ls k hk,λj k hj hk=>h.sep j k hj hk,λk hk hx=>?_,hm,by omega⟩,λx hx=>?_,h.az⟩
 . have:=h.up k hk _ hx;exact Nat.lt_irrefl _ this
 . rcases hx with hx|⟨k,hk,hx⟩
   . exact xf hx.symm
   . exact Nat.le_of_lt (h.up k hk x hx)
theorem lz.start(w:zw)(mo:Nat):lz w (wV mo (λ_=>0) 0) (λ_=>0) (λ_ _=>False) 0 (w.alloc (.cells (wV mo (λ_=>0) 0) 201)):=
 ⟨heap_alloc_new _ _,λ_ hj=>absurd hj (Nat.not_lt_zero _),λ_ hj=>absurd hj (Nat.not_lt_zero _),λ_ _ hj=>absurd hj (Nat.not_lt_zero _),(zo _ _).alloc (zg _) _⟩
theorem TT(w:zw)(z:Int)(n:Nat)(hz: -9223372036854775808<=z/\z<=9223372036854775807)(hn:n=z.toNat):Calls prog 80 #[.int .i64 z] w (jz n w):=by
 have e1:(if z < 0 then(0:Int) else z)=(n:Int):=by split <;> omega
 have tx:max z 0=(n:Int):=by omega
 have HM:=zs (n<=9223372036854775807) (by omega);have S0:=J (lz.start w n);clear hn;go_enter func80,ntmps80;go_wp2_with fail
 go_loopw [9] (λz W=>∃(k:Nat) (r:Nat->Nat) (S:Sx),z= .int .i64 (k:Int)/\k<=4/\lz w (wV n r k) r S k W) (λz _=>4 - (intOf z).toNat)
 case atStart=>exact⟨0,_,_,rfl,by omega,S0.out⟩
 case round=>
  obtain⟨k,r,S,rfl,hk,hR⟩:=hrel;clear tx e1;have HR:=J hR;rcases k with _|_|_|_|_|k
  . have U:=J (nE wr.drew);have D:=J (hR.below (show Below wr.heap.size wr wr.drew from⟨rfl,rfl,rfl,zg _,λ_ _=>rfl⟩));clear hR;go_wp2_with fail
    go_region_with((go_at_call 108;refine U.out.mono ?_;intro e w2 hp;obtain⟨l,S2,rfl,h2⟩:=D.out.list hp;have f2:=frozen_of_row w2 _ 2 _ _ h2.box;have c2:w2.cell? ⟨w.heap.size,2,none⟩=some (.pointer none):=cell_of_row w2 _ 2 _ _ _ h2.box;have N2:=J (h2.store 2 (.pointer (some ⟨l,0,none⟩)) (arr':=wV n (af r 0 l) 1) (by rfl));clear hp h2))
    all_goals
     go_wp2_with fail
     go_roundw
     case rel=>exact⟨1,_,S2,by go_num,by omega,N2.out⟩
     case measure=>simp[intOf]
  . have U:=J (nE wr.drew);have D:=J (hR.below (show Below wr.heap.size wr wr.drew from⟨rfl,rfl,rfl,zg _,λ_ _=>rfl⟩));clear hR;go_wp2_with fail
    go_region_with((go_at_call 108;refine U.out.mono ?_;intro e w2 hp;obtain⟨l,S2,rfl,h2⟩:=D.out.list hp;have f2:=frozen_of_row w2 _ 3 _ _ h2.box;have c2:w2.cell? ⟨w.heap.size,3,none⟩=some (.pointer none):=cell_of_row w2 _ 3 _ _ _ h2.box;have N2:=J (h2.store 3 (.pointer (some ⟨l,0,none⟩)) (arr':=wV n (af r 1 l) 2) (by rfl));clear hp h2))
    all_goals
     go_wp2_with fail
     go_roundw
     case rel=>exact⟨2,_,S2,by go_num,by omega,N2.out⟩
     case measure=>simp[intOf]
  . have U:=J (nE wr.drew);have D:=J (hR.below (show Below wr.heap.size wr wr.drew from⟨rfl,rfl,rfl,zg _,λ_ _=>rfl⟩));clear hR;go_wp2_with fail
    go_region_with((go_at_call 108;refine U.out.mono ?_;intro e w2 hp;obtain⟨l,S2,rfl,h2⟩:=D.out.list hp;have f2:=frozen_of_row w2 _ 4 _ _ h2.box;have c2:w2.cell? ⟨w.heap.size,4,none⟩=some (.pointer none):=cell_of_row w2 _ 4 _ _ _ h2.box;have N2:=J (h2.store 4 (.pointer (some ⟨l,0,none⟩)) (arr':=wV n (af r 2 l) 3) (by rfl));clear hp h2))
    all_goals
     go_wp2_with fail
     go_roundw
     case rel=>exact⟨3,_,S2,by go_num,by omega,N2.out⟩
     case measure=>simp[intOf]
  . have U:=J (nE wr.drew);have D:=J (hR.below (show Below wr.heap.size wr wr.drew from⟨rfl,rfl,rfl,zg _,λ_ _=>rfl⟩));clear hR;go_wp2_with fail
    go_region_with((go_at_call 108;refine U.out.mono ?_;intro e w2 hp;obtain⟨l,S2,rfl,h2⟩:=D.out.list hp;have f2:=frozen_of_row w2 _ 5 _ _ h2.box;have c2:w2.cell? ⟨w.heap.size,5,none⟩=some (.pointer none):=cell_of_row w2 _ 5 _ _ _ h2.box;have N2:=J (h2.store 5 (.pointer (some ⟨l,0,none⟩)) (arr':=wV n (af r 3 l) 4) (by rfl));clear hp h2))
    all_goals
     go_wp2_with fail
     go_roundw
     case rel=>exact⟨4,_,S2,by go_num,by omega,N2.out⟩
     case measure=>simp[intOf]
  . go_wp2_with fail
    go_ret;exact hR.made HM.out
  . omega
end AR
namespace AR
open Go.RowKit Sg
def ai(R:aW):Nat:=(R 0).length+(R 1).length
def a7(R:aW):Nat:=(R 0).length+(R 1).length+(R 2).length+(R 3).length
def dy(p:Nat)(q:Bool)(R:aW):aW:=af (af R (lv R p q) (R (lv R p q)).dropLast) (lv R p q+2) (ah (R (lv R p q))::rem (R (lv R p q+2)) (ah (R (lv R p q))))
def aY(p:Nat)(q:Bool)(R:aW):Nat->aW
 |0=>R
 |n+1=>dy p q (aY p q R n)
def outs(p:Nat)(q:Bool)(R:aW):Nat->zY
 |0=>[]
 |n+1=>outs p q R n++ [ah (aY p q R n (lv (aY p q R n) p q))]
theorem js{R:aW}{p:Nat}{q:Bool}(h:0 < ai R):0 < (R (lv R p q)).length:=by
 unfold ai at h;unfold lv;split
 . rename_i h2
   rcases h2 with h2|⟨h2,_⟩|h2 <;> omega
 . rename_i h2
   have:(R 1).length≠0:=λe=>h2 (ja (ja e));omega
theorem xW(R:aW)(p:Nat)(q:Bool):lv R p q < 4/\lv R p q+2 < 4:=by rcases fq R p q with h|h <;> omega
theorem fh{xs:zY}(h:0 < xs.length):ah xs∈xs:=by
 have h2:xs≠ []:=λe=>by rw[e] at h;exact Nat.lt_irrefl _ h
 unfold ah;rw[qw,qz h2];exact List.getLast_mem h2
theorem kE{xs:zY}(h:0 < xs.length):bb xs=true:=by cases xs;exact absurd h (Nat.lt_irrefl _);rfl
theorem Aa{R:aW}{p:Nat}{q:Bool}(h:0 < ai R):ai (dy p q R)+1=ai R:=by
 have hp:=js (p:=p) (q:=q) h;unfold dy;rcases fq R p q with e|e <;> rw[e] at hp|- <;> simp[ai,af] <;> omega
theorem GL{R:aW}{p:Nat}{q:Bool}(h:0 < ai R):a7 (dy p q R)<=a7 R:=by
 have hp:=js (p:=p) (q:=q) h;have r2:=aI (R 2) (ah (R 0));have r3:=aI (R 3) (ah (R 1));unfold dy;rcases fq R p q with e|e <;> rw[e] at hp|- <;> simp[a7,af] <;> omega
theorem nM{R:aW}{p:Nat}{q:Bool}:∀{n:Nat},n<=ai R->ai (aY p q R n)+n=ai R
 |0,_=>rfl
 |n+1,h=>by
  have h1:=nM (R:=R) (p:=p) (q:=q) (n:=n) (by omega);have h2:=Aa (R:=aY p q R n) (p:=p) (q:=q) (by omega);show ai (dy p q (aY p q R n))+(n+1)=_;omega
theorem tS{R:aW}{p:Nat}{q:Bool}:∀{n:Nat},n<=ai R->a7 (aY p q R n)<=a7 R
 |0,_=>zg _
 |n+1,h=>by
  have h1:=tS (R:=R) (p:=p) (q:=q) (n:=n) (by omega);have h2:=nM (R:=R) (p:=p) (q:=q) (n:=n) (by omega);exact zr (GL (by omega)) h1
structure jj(F:FuncId)(p:Addr)(K:zY->(Nat->Prop)->zw->Prop):Prop where
 enter:∀args w,(callFunc F args).run prog w= .ok (.enter F args) w
 lt:∀vs X W,K vs X W->∀k,X k->k < W.heap.size
 same:∀vs X W W',K vs X W->W.heap.size<=W'.heap.size->(∀k,X k->W'.heap[k]?=W.heap[k]?)->K vs X W'
 call:∀vs X W x,K vs X W->vs.length<=1000->x.size<=maxLen->Calls prog F #[.string x,.pointer (some p)] W (λe W'=>e= .returned (.tuple #[])/\∃X',K (vs++ [x]) X' W'/\aJ W W' X X')
def both(i:Ix)(S:Sx)(X:Nat->Prop):Nat->Prop:=λk=>ax i S k\/X k
theorem bY{w w':zw}{S S':Nat->Prop}{k:Nat}(h:aJ w w' S S')(hk:k < w.heap.size)(hn:¬S k):w'.heap[k]?=w.heap[k]?/\¬S' k:=
 ⟨h.a8.block k hk hn,λh1=>by rcases h.new k h1 with h|h;exact hn h;omega⟩
structure dp(w W:zw)(i:Ix)(S S':Sx)(X X':Nat->Prop)(K:zY->(Nat->Prop)->zw->Prop)(mo p:Nat)(R:aW)(b:Nat)(vs:zY):Prop where
 raw:Raw W i S' mo p R b
 side:K vs X' W
 dS:aJ w W (both i S X) (both i S' X')
 eD:∀k,X' k->¬ax i S' k
section
variable{w W W2:zw}{i:Ix}{S S' S2:Sx}{X X' X2:Nat->Prop}{K:zY->(Nat->Prop)->zw->Prop}{mo p p' mo' b b':Nat}{R R':aW}{vs Jj:zY}{F:FuncId}{a:Addr}{e:Ending}{v:Value}
theorem dp.below(c:dp w W i S S' X X' K mo p R b vs)(sd:jj F a K)(hb:Below W.heap.size W W2):dp w W2 i S S' X X' K mo p R b vs:=
 ⟨c.raw.below hb,sd.same _ _ _ _ c.side hb.size λk hk=>hb.block k (sd.lt _ _ _ c.side k hk),c.dS.trans (aJ.below hb),c.eD⟩
theorem dp.op(c:dp w W i S S' X X' K mo p R b vs)(sd:jj F a K)(hp:aL v W i S' mo' p' R' b' e W2):e= .returned v/\∃S2,dp w W2 i S S2 X X' K mo' p' R' b' vs:=by
 obtain⟨he,S2,r2,hW⟩:=hp;have hx:=sd.lt _ _ _ c.side;have o:=λk (hk:X' k)=>bY hW (hx k hk) (c.eD k hk);refine⟨he,S2,r2,sd.same _ _ _ _ c.side hW.a8.size λk hk=>(o k hk).1,c.dS.trans ⟨λk hk=>?_,hW.a8.wide λk _ h=>xz h⟩,λk hk=>(o k hk).2⟩;rcases hk with h|h
 . exact(hW.new k h).imp xz id
 . exact xz (ja h)
theorem dp.take(c:dp w W i S S' X X' K mo p R b vs)(hk:K Jj X2 W2)(hW:aJ W W2 X' X2):dp w W2 i S S' X X2 K mo p R b Jj:=by
 have o:=λk (hk:ax i S' k)=>bY hW (c.raw.lt hk) (λh=>c.eD k h hk);refine⟨c.raw.kept hW.a8.size λk hk=>(o k hk).1,hk,c.dS.trans ⟨λk hk=>?_,hW.a8.wide λk _ h=>ja h⟩,λk hk h=>(o k h).2 hk⟩;rcases hk with h|h
 . exact xz (xz h)
 . exact(hW.new k h).imp ja id
theorem dp.start(r:Raw w i S mo p R b)(k:K vs X w)(eT:∀k,X k->¬ax i S k):dp w w i S S X X K mo p R b vs:=⟨r,k,aJ.refl _ _,eT⟩
theorem dp.trans{w0:zw}{S0:Sx}{X0:Nat->Prop}(c:dp w0 w i S0 S X0 X K mo p R b vs)(d:dp w W i S S' X X' K mo' p' R' b' Jj):dp w0 W i S0 S' X0 X' K mo' p' R' b' Jj:=⟨d.raw,d.side,c.dS.trans d.dS,d.eD⟩
end
def gS(w:zw)(i:Ix)(S:Sx)(X:Nat->Prop)(K:zY->(Nat->Prop)->zw->Prop)(mo p:Nat)(R:aW)(b:Nat)(vs:zY)(e:Ending)(w':zw):Prop:=
 e= .returned (.tuple #[])/\∃S' X',dp w w' i S S' X X' K mo p R b vs
def Gw(w:zw)(i:Ix)(S:Sx)(X:Nat->Prop)(K:zY->(Nat->Prop)->zw->Prop)(mo p:Nat)(q:Bool)(R:aW)(b:Nat)(vs:zY)(n k:Nat)(W:zw):Prop:=
 ∃S' X' j,j+k=n/\dp w W i S S' X X' K mo p (aY p q R j) b (vs++outs p q R j)
theorem iH(w:zw)(i:Ix)(S:Sx)(mo p:Nat)(R:aW)(b left:Nat)(q:Bool)(X:Nat->Prop)(K:zY->(Nat->Prop)->zw->Prop)(F:FuncId)(a:Addr)(vs:zY)(r:Raw w i S mo p R b)(k:K vs X w)(eT:∀k,X k->¬ax i S k)(sd:jj F a K)
 (hv:vs.length<=5) (hl:a7 R<=b) (hb:b<=985):
 Calls prog 251 #[.pointer (some ⟨i.c,0,none⟩),.int .i64 (left:Int),.bool q,.func (.func F) #[] #[.pointer (some a)]] w (gS w i S X K mo p (aY p q R (ai R - left)) b (vs++outs p q R (ai R - left))):=by
 have C0:dp w w i S S X X K mo p (aY p q R 0) b (vs++outs p q R 0):=by
  rw[show outs p q R 0= [] from rfl,xq];exact dp.start r k eT
 have HC:=J C0;have SD:=J sd;have hF:=sd.enter
 have HO:=J (show ∀j,(outs p q R j).length=j from λj=>by
  induction j with
  |zero=>rfl
  |succ j ih=>show(outs p q R j++ [_]).length=_;rw[zh,ih];rfl)
 clear r k eT sd C0;go_enter func251,ntmps251;go_wp2_with fail
 go_loopg [] (ai R - left) (λk W=>Gw w i S X K mo p q R b vs (ai R - left) k W)
 case atStart=>exact⟨S,X,0,by omega,HC.out⟩
 case round=>
  obtain⟨S',X',j,hj,C⟩:=hrel;have ET:=nM (R:=R) (p:=p) (q:=q) (n:=j) (by omega);have Jk:=tS (R:=R) (p:=p) (q:=q) (n:=j) (by omega);have U:=Da wr i S' mo p _ b C.raw;obtain⟨n,hn⟩:=zx (ai (aY p q R j));rw[show(aY p q R j 0).length+(aY p q R j 1).length=n from hn.symm] at U;have U:=J U;have CC:=J C;rw[← hn] at ET;have HJ:=J hj;have HN:=J (xy hn (xy ET Jk));cases gk with
  |zero=>
   have e0:decide (left < n)=false:=by simp;omega
   clear C HC hn hj ET Jk;go_wp2_with fail
   refine U.out.mono ?_;rintro e w1 ⟨rfl,hB⟩;have C1:=J (CC.out.below SD.out hB);clear hB U;go_wp2_with fail
   go_end0;obtain rfl:j=ai R - left:=by have:=HJ.out;omega
   exact⟨rfl,S',X',C1.out⟩
  |succ gk=>
   have e0:decide (left < n)=true:=by simp;omega
   have ji:0 < ai (aY p q R j):=by omega
   have PO:=J (js (p:=p) (q:=q) ji);have HV:=zs (vs.length+j<=1000) (by have:ai R<=a7 R:=(by unfold ai a7;omega);omega);have HT:=J Jk;have HB:=J (xy hl hb);have NX:=zs (aY p q R (j+1)=dy p q (aY p q R j)/\outs p q R (j+1)=outs p q R j++ [ah (aY p q R j (lv (aY p q R j) p q))]) (⟨rfl,rfl⟩);have RI:=J (HO.out j);generalize outs p q R j=os at*;generalize aY p q R j=Q at*;clear C HC hn hj ET Jk ji hl hb HN HO;go_wp2_with fail
   refine U.out.mono ?_;rintro e w1 ⟨rfl,hB⟩;have C1:=J (CC.out.below SD.out hB);have V:=tR w1 i S' mo p Q b C1.out.raw q;clear hB U CC;unfold dy at NX;rcases fq Q p q with EU|EU
   . rw[EU] at V PO NX;have V:=zs (Calls prog 247 #[.pointer (some ⟨i.c,0,none⟩),.bool q] w1 (jb (.int .i64 0) w1)) V;clear EU;go_wp2_with fail
     refine V.out.mono ?_;rintro e w2 ⟨rfl,hB⟩;have C2:=J (C1.out.below SD.out hB);have c0:w2.cell? ⟨i.c,2,none⟩=some (.pointer (some ⟨i.r 0,0,none⟩)):=C2.out.raw.cells.2.2.1;have Z:=gR w2 (i.r 0) (S' 0) _ b (C2.out.raw.ls 0 (by omega));have b7:=J ((C2.out.raw.ls 0 (by omega)).small _ (fh PO.out));rw[kE PO.out] at Z;obtain⟨x,hx⟩:=zx (ah (Q 0));rw[← hx] at Z b7 NX;have Z:=J Z;clear hB V C1 hx;go_wp2_with fail
     refine Z.out.mono ?_;intro e w3 hp;obtain⟨rfl,S3,nN⟩:=C2.out.op SD.out (C2.out.raw.on (show 0 < 4 by omega) hp (zg _));have C3:=J nN;have d0:w3.cell? ⟨i.c,4,none⟩=some (.pointer (some ⟨i.r 2,0,none⟩)):=nN.raw.cells.2.2.2.2.1
     have Y:=pI w3 (i.r 2) (S3 2) _ b (nN.raw.ls 2 (by omega)) x b b7.out (by have:=HB.out;omega) (zg _) (by
      rw[au (by omega)];have h1:=aI (Q 2) x;have h2:=HT.out;have h3:=PO.out;have h4:=HB.out.1;unfold a7 at h2 h4;omega)
     rw[au (by omega)] at Y;have Y:=J Y;clear hp nN Z c0 C2;go_wp2_with fail
     refine Y.out.mono ?_;intro e w4 hp;obtain⟨rfl,S4,j3⟩:=C3.out.op SD.out (C3.out.raw.on (show 2 < 4 by omega) hp (zg _));have C4:=J j3;have TK:=J (SD.out.call _ _ _ x j3.side (by rw[zh,RI.out];exact HV.out) b7.out);clear hp j3 Y d0 C3;go_wp2_with fail
     refine TK.out.mono ?_;rintro e w5 ⟨rfl,X5,hk,hW⟩;have C5:=J (C4.out.take hk hW);clear hk hW TK C4;go_wp2_with fail
     go_roundg gk
     case measure=>omega
     case rel=>
      refine⟨S4,X5,j+1,by have:=HJ.out;omega,?_⟩;rw[NX.out.1,NX.out.2,<-xp];exact C5.out
   . rw[EU] at V PO NX;have V:=zs (Calls prog 247 #[.pointer (some ⟨i.c,0,none⟩),.bool q] w1 (jb (.int .i64 1) w1)) V;clear EU;go_wp2_with fail
     refine V.out.mono ?_;rintro e w2 ⟨rfl,hB⟩;have C2:=J (C1.out.below SD.out hB);have c1:w2.cell? ⟨i.c,3,none⟩=some (.pointer (some ⟨i.r 1,0,none⟩)):=C2.out.raw.cells.2.2.2.1;have Z:=gR w2 (i.r 1) (S' 1) _ b (C2.out.raw.ls 1 (by omega));have b7:=J ((C2.out.raw.ls 1 (by omega)).small _ (fh PO.out));rw[kE PO.out] at Z;obtain⟨x,hx⟩:=zx (ah (Q 1));rw[← hx] at Z b7 NX;have Z:=J Z;clear hB V C1 hx;go_wp2_with fail
     refine Z.out.mono ?_;intro e w3 hp;obtain⟨rfl,S3,nN⟩:=C2.out.op SD.out (C2.out.raw.on (show 1 < 4 by omega) hp (zg _));have C3:=J nN;have d1:w3.cell? ⟨i.c,5,none⟩=some (.pointer (some ⟨i.r 3,0,none⟩)):=nN.raw.cells.2.2.2.2.2
     have Y:=pI w3 (i.r 3) (S3 3) _ b (nN.raw.ls 3 (by omega)) x b b7.out (by have:=HB.out;omega) (zg _) (by
      rw[au (by omega)];have h1:=aI (Q 3) x;have h2:=HT.out;have h3:=PO.out;have h4:=HB.out.1;unfold a7 at h2 h4;omega)
     rw[au (by omega)] at Y;have Y:=J Y;clear hp nN Z c1 C2;go_wp2_with fail
     refine Y.out.mono ?_;intro e w4 hp;obtain⟨rfl,S4,j3⟩:=C3.out.op SD.out (C3.out.raw.on (show 3 < 4 by omega) hp (zg _));have C4:=J j3;have TK:=J (SD.out.call _ _ _ x j3.side (by rw[zh,RI.out];exact HV.out) b7.out);clear hp j3 Y d1 C3;go_wp2_with fail
     refine TK.out.mono ?_;rintro e w5 ⟨rfl,X5,hk,hW⟩;have C5:=J (C4.out.take hk hW);clear hk hW TK C4;go_wp2_with fail
     go_roundg gk
     case measure=>omega
     case rel=>
      refine⟨S4,X5,j+1,by have:=HJ.out;omega,?_⟩;rw[NX.out.1,NX.out.2,<-xp];exact C5.out
end AR
namespace AR
open Go.RowKit Sg
def ew(mo:Nat)(R:aW):aW:=af R 2 ((R 2).take (mo - (R 0).length))
def si(mo:Nat)(R:aW):aW:=af R 3 ((R 3).take (2*mo - ((R 0).length+(R 1).length+(R 2).length)))
def fa(mo:Nat)(R:aW):aW:=si mo (ew mo R)
theorem sj(R:aW)(k:Nat)(xs ys:zY):af (af R k xs) k ys=af R k ys:=by funext j;unfold af;split <;> rfl
theorem pW(R:aW)(k:Nat):af R k (R k)=R:=by
 funext j
 by_cases e:j=k
 . subst e;exact ay _ _ _
 . exact au e
theorem fz{xs:zY}{j:Nat}(h:j < xs.length):bb (xs.take (j+1))=true/\(xs.take (j+1)).dropLast=xs.take j:=by
 rw[dP xs j ⟨#[]⟩ h];refine⟨?_,by simp⟩;unfold bb;cases h2:xs.take j <;> rfl
theorem Ab(xs:zY)(m:Nat):xs.take (min m xs.length)=xs.take m:=by
 by_cases h:m<=xs.length
 . rw[Nat.min_eq_left h]
 . rw[Nat.min_eq_right (by omega),List.take_length,qk (by omega)]
def CB(w:zw)(cb:Nat)(i:Ix):Prop:=w.heap[cb]?=some (.cells #[.pointer (some ⟨i.c,0,none⟩)] 149 (0,0))
theorem CB.lt{w:zw}{cb:Nat}{i:Ix}(k:CB w cb i):cb < w.heap.size:=(Array.getElem?_eq_some_iff.1 k).1
theorem CB.cell{w:zw}{cb:Nat}{i:Ix}(k:CB w cb i):w.cell? ⟨cb,0,none⟩=some (.pointer (some ⟨i.c,0,none⟩)):=cell_of_row w _ 0 _ _ _ k
section
variable(w:zw)(cb:Nat)(i:Ix)(S:Sx)(mo p:Nat)(R:aW)(b:Nat)(r:Raw w i S mo p R b)(kb:CB w cb i)
include r kb
theorem PL:Calls prog 255 #[.pointer (some ⟨cb,0,none⟩)] w (jb (.bool (decide (mo < (R 0).length+(R 2).length))) w):=by
 obtain⟨c0,_⟩:=r.cells;have K0:=kb.cell;have hb:=((zo w.heap.size w).trans (av w 1)).alloc (zg _) (.cells #[.int .i64 0,.int .i64 2] 3);have c1:(w.drew.alloc (.cells #[.int .i64 0,.int .i64 2] 3)).cell? ⟨i.c,0,none⟩=some (.int .i64 (mo:Int)):=(r.below hb).cells.1;have K1:(w.drew.alloc (.cells #[.int .i64 0,.int .i64 2] 3)).cell? ⟨cb,0,none⟩=some (.pointer (some ⟨i.c,0,none⟩)):=CB.cell (i:=i) ((hb.block _ kb.lt).trans kb);have U:=jQ w.drew i S mo p R b (r.below (av w 1)) 0 2 (by omega) (by omega);have B:=J hb;obtain⟨q,hq⟩:=zx ((R 0).length+(R 2).length);rw[← hq] at U|-;have U:=zs (Calls prog 248 #[.pointer (some ⟨i.c,0,none⟩),.slice (some ⟨w.drew.heap.size,0,none⟩) 2 2] (w.drew.alloc (.cells #[.int .i64 0,.int .i64 2] 3)) (bS (q:Int) (w.drew.alloc (.cells #[.int .i64 0,.int .i64 2] 3)))) U;clear hb hq r kb;go_enter func255,ntmps255;go_wp2_with fail
 go_region_held3(λw'=>w'.cell? ⟨cb,0,none⟩=some (.pointer (some ⟨i.c,0,none⟩))/\w'.cell? ⟨i.c,0,none⟩=some (.int .i64 (mo:Int))) (first|(with_reducible exact⟨K1,c1⟩)|(with_reducible exact⟨K0,c0⟩)|go_keep)
  ((go_at_call 248;refine U.out.mono ?_;rintro e w1 ⟨rfl,rfl⟩))
 all_goals
  go_wp2_with fail
  go_ret;exact⟨rfl,B.out⟩
theorem PM:Calls prog 256 #[.pointer (some ⟨cb,0,none⟩)] w (jb (.bool (decide (2*mo < (R 0).length+(R 1).length+(R 2).length+(R 3).length))) w):=by
 obtain⟨c0,_⟩:=r.cells;have K0:=kb.cell;have U:=Db w.drew i S mo p R b (r.below (av w 1));have C:=zs (∀w1,Below w.heap.size w w1->w1.cell? ⟨cb,0,none⟩=some (.pointer (some ⟨i.c,0,none⟩))/\w1.cell? ⟨i.c,0,none⟩=some (.int .i64 (mo:Int))) (λw1 h=>⟨CB.cell (i:=i) ((h.block _ kb.lt).trans kb),(r.below h).cells.1⟩);have BD:=zs (∀w1,Below w.drew.heap.size w.drew w1->Below w.heap.size w w1) (λw1 h=>(av w 1).trans h);obtain⟨q,hq⟩:=zx ((R 0).length+(R 1).length+(R 2).length+(R 3).length);rw[← hq] at U|-;obtain⟨d,hd⟩:∃d:Int,d=(q:Int) - (mo:Int):=⟨_,rfl⟩;rw[← hd] at U;obtain⟨z,hz⟩:=zx (decide (2*mo < q));have e0:decide ((mo:Int) < d)=z:=by rw[hz];by_cases h:2*mo < q <;> simp only[h,decide_true,decide_false] <;> simp <;> omega
 rw[← hz];have U:=J U;clear hq r kb hz hd;go_enter func256,ntmps256;go_wp2_with fail
 go_region_held3(λw'=>w'.cell? ⟨cb,0,none⟩=some (.pointer (some ⟨i.c,0,none⟩))/\w'.cell? ⟨i.c,0,none⟩=some (.int .i64 (mo:Int))) (first|(with_reducible exact⟨K1,c1⟩)|(with_reducible exact⟨K0,c0⟩)|go_keep)
  ((go_at_call 257;refine U.out.mono ?_;rintro e w1 ⟨rfl,hB⟩;obtain⟨K1,c1⟩:=C.out w1 (BD.out w1 hB);have B:=J (BD.out w1 hB);clear hB))
 all_goals
  go_wp2_with fail
  go_ret;exact⟨rfl,B.out⟩
end
def rH(w:zw)(cb:Nat)(i:Ix)(S:Sx)(mo p:Nat)(R:aW)(b k j:Nat)(W:zw):Prop:=
 ∃S',Raw W i S' mo p (af R k ((R k).take j)) b/\aJ w W (ax i S) (ax i S')/\CB W cb i/\¬ax i S' cb
theorem PN(w:zw)(cb:Nat)(i:Ix)(S:Sx)(mo p:Nat)(R:aW)(b m:Nat)(r:Raw w i S mo p R b)(kb:CB w cb i)(hn:¬ax i S cb)(FT:FuncId)(hF:∀args w,(callFunc FT args).run prog w= .ok (.enter FT args) w)
 (hT:∀W S' j,Raw W i S' mo p (af R 2 ((R 2).take j)) b->CB W cb i->j<=(R 2).length->Calls prog FT #[.pointer (some ⟨cb,0,none⟩)] W (jb (.bool (decide (m < j))) W)):
 Calls prog 254 #[.int .i64 2,.func (.func FT) #[] #[.pointer (some ⟨cb,0,none⟩)],.pointer (some ⟨cb,0,none⟩)] w (λe w'=>e= .returned (.tuple #[])/\rH w cb i S mo p R b 2 m w'):=by
 obtain⟨n,lQ⟩:=zx ((R 2).length);have H0:=zs (rH w cb i S mo p R b 2 n w) (⟨S,by rw[lQ,List.take_length,pW];exact r,aJ.refl _ _,kb,hn⟩);have HT:=J hT;have HN:=J lQ;have TM:=zs ((R 2).take (min m n)=(R 2).take m) (by rw[lQ];exact Ab _ _);clear r kb hn hT lQ;go_enter func254,ntmps254;go_wp2_with fail
 go_loopg [] (n - m) (λg W=>g<=n - m/\rH w cb i S mo p R b 2 (min m n+g) W)
 case atStart=>exact⟨zg _,by rw[show min m n+(n - m)=n by omega];exact H0.out⟩
 case round=>
  obtain⟨hg,S',hR,hW,hK,gB⟩:=hrel;have K0:=hK.cell;have U:=J (HT.out wr S' (min m n+gk) hR hK (by have:=HN.out;omega));have HR:=J (xy hR (xy hW (xy hK gB)));clear hR hW hK gB;cases gk with
  |zero=>
   have U:=J (show Calls prog FT #[.pointer (some ⟨cb,0,none⟩)] wr (jb (.bool false) wr) by
    have:=U.out;rw[show decide (m < min m n+0)=false by simp;omega] at this;exact this)
   go_wp2_with fail
   refine U.out.mono ?_;rintro e w1 ⟨rfl,hB⟩;have B1:=J hB;clear hB;go_wp2_with fail
   go_end0;obtain⟨hR,hW,hK,gB⟩:=HR.out;refine⟨rfl,S',?_,hW.trans (aJ.below B1.out),(B1.out.block _ hK.lt).trans hK,gB⟩;have:=hR.below B1.out;rw[Nat.add_zero,TM.out] at this;exact this
  |succ gk=>
   have U:=J (show Calls prog FT #[.pointer (some ⟨cb,0,none⟩)] wr (jb (.bool true) wr) by
    have:=U.out;rw[show decide (m < min m n+(gk+1))=true by simp;omega] at this;exact this)
   obtain⟨j,hj⟩:=zx (min m n+gk);have HJ:=J hj;have NF:j < (R 2).length:=by have:=HN.out;omega
   rw[show min m n+(gk+1)=j+1 by omega] at HR;have TL:=J (fz NF);clear hj;go_wp2_with fail
   refine U.out.mono ?_;rintro e w1 ⟨rfl,hB⟩;have B1:=J hB;have R1:=J (HR.out.1.below hB);have k1:CB w1 cb i:=(hB.block _ HR.out.2.2.1.lt).trans HR.out.2.2.1;have K1:=k1.cell;have V:=fB w1 i S' mo p _ b R1.out 2 (by omega);rw[ay,qh,Nat.min_eq_left (by omega)] at V;have V:=zs (Calls prog 248 #[.pointer (some ⟨i.c,0,none⟩),.slice (some ⟨w1.heap.size,0,none⟩) 1 1] (w1.alloc (.cells #[.int .i64 2] 3)) (bS ((j+1:Nat):Int) (w1.alloc (.cells #[.int .i64 2] 3)))) V;have gC:=(zo w1.heap.size w1).alloc (zg _) (.cells #[.int .i64 2] 3);have R2:=R1.out.below gC;have k2:CB (w1.alloc (.cells #[.int .i64 2] 3)) cb i:=(gC.block _ k1.lt).trans k1;have K2:=k2.cell;have c4:(w1.alloc (.cells #[.int .i64 2] 3)).cell? ⟨i.c,4,none⟩=some (.pointer (some ⟨i.r 2,0,none⟩)):=R2.cells.2.2.2.2.1;have Z:=gR _ (i.r 2) (S' 2) _ b (R2.ls 2 (by omega));rw[ay,TL.out.1,TL.out.2] at Z;have Z:=J Z;have dY:=J (xy R2 (xy ((HR.out.2.1.trans (aJ.below B1.out)).trans (aJ.below gC)) (xy k2 HR.out.2.2.2)));clear hB k1 R1 U HR K0 gC R2 k2;go_wp2_with fail
   refine V.out.mono ?_;rintro e w2 ⟨rfl,rfl⟩;clear K1 V;go_wp2_with fail
   refine Z.out.mono ?_;intro e w3 hp;obtain⟨R2,W2,k2,gB⟩:=dY.out;obtain⟨rfl,S3,r3,gf⟩:=R2.on (show 2 < 4 by omega) hp (zg _);rw[sj] at r3;have o3:=bY gf k2.lt gB;have N3:=zs (rH w cb i S mo p R b 2 (min m n+gk) w3) (⟨S3,by rw[← HJ.out];exact r3,W2.trans gf,o3.1.trans k2,o3.2⟩);clear hp r3 gf o3 R2 W2 k2 gB dY Z c4 K2;go_wp2_with fail
   go_roundg gk
   case measure=>omega
   case rel=>exact⟨by omega,N3.out⟩
theorem PQ(w:zw)(cb:Nat)(i:Ix)(S:Sx)(mo p:Nat)(R:aW)(b m:Nat)(r:Raw w i S mo p R b)(kb:CB w cb i)(hn:¬ax i S cb)(FT:FuncId)(hF:∀args w,(callFunc FT args).run prog w= .ok (.enter FT args) w)
 (hT:∀W S' j,Raw W i S' mo p (af R 3 ((R 3).take j)) b->CB W cb i->j<=(R 3).length->Calls prog FT #[.pointer (some ⟨cb,0,none⟩)] W (jb (.bool (decide (m < j))) W)):
 Calls prog 254 #[.int .i64 3,.func (.func FT) #[] #[.pointer (some ⟨cb,0,none⟩)],.pointer (some ⟨cb,0,none⟩)] w (λe w'=>e= .returned (.tuple #[])/\rH w cb i S mo p R b 3 m w'):=by
 obtain⟨n,lQ⟩:=zx ((R 3).length);have H0:=zs (rH w cb i S mo p R b 3 n w) (⟨S,by rw[lQ,List.take_length,pW];exact r,aJ.refl _ _,kb,hn⟩);have HT:=J hT;have HN:=J lQ;have TM:=zs ((R 3).take (min m n)=(R 3).take m) (by rw[lQ];exact Ab _ _);clear r kb hn hT lQ;go_enter func254,ntmps254;go_wp2_with fail
 go_loopg [] (n - m) (λg W=>g<=n - m/\rH w cb i S mo p R b 3 (min m n+g) W)
 case atStart=>exact⟨zg _,by rw[show min m n+(n - m)=n by omega];exact H0.out⟩
 case round=>
  obtain⟨hg,S',hR,hW,hK,gB⟩:=hrel;have K0:=hK.cell;have U:=J (HT.out wr S' (min m n+gk) hR hK (by have:=HN.out;omega));have HR:=J (xy hR (xy hW (xy hK gB)));clear hR hW hK gB;cases gk with
  |zero=>
   have U:=J (show Calls prog FT #[.pointer (some ⟨cb,0,none⟩)] wr (jb (.bool false) wr) by
    have:=U.out;rw[show decide (m < min m n+0)=false by simp;omega] at this;exact this)
   go_wp2_with fail
   refine U.out.mono ?_;rintro e w1 ⟨rfl,hB⟩;have B1:=J hB;clear hB;go_wp2_with fail
   go_end0;obtain⟨hR,hW,hK,gB⟩:=HR.out;refine⟨rfl,S',?_,hW.trans (aJ.below B1.out),(B1.out.block _ hK.lt).trans hK,gB⟩;have:=hR.below B1.out;rw[Nat.add_zero,TM.out] at this;exact this
  |succ gk=>
   have U:=J (show Calls prog FT #[.pointer (some ⟨cb,0,none⟩)] wr (jb (.bool true) wr) by
    have:=U.out;rw[show decide (m < min m n+(gk+1))=true by simp;omega] at this;exact this)
   obtain⟨j,hj⟩:=zx (min m n+gk);have HJ:=J hj;have NF:j < (R 3).length:=by have:=HN.out;omega
   rw[show min m n+(gk+1)=j+1 by omega] at HR;have TL:=J (fz NF);clear hj;go_wp2_with fail
   refine U.out.mono ?_;rintro e w1 ⟨rfl,hB⟩;have B1:=J hB;have R1:=J (HR.out.1.below hB);have k1:CB w1 cb i:=(hB.block _ HR.out.2.2.1.lt).trans HR.out.2.2.1;have K1:=k1.cell;have V:=fB w1 i S' mo p _ b R1.out 3 (by omega);rw[ay,qh,Nat.min_eq_left (by omega)] at V;have V:=zs (Calls prog 248 #[.pointer (some ⟨i.c,0,none⟩),.slice (some ⟨w1.heap.size,0,none⟩) 1 1] (w1.alloc (.cells #[.int .i64 3] 3)) (bS ((j+1:Nat):Int) (w1.alloc (.cells #[.int .i64 3] 3)))) V;have gC:=(zo w1.heap.size w1).alloc (zg _) (.cells #[.int .i64 3] 3);have R2:=R1.out.below gC;have k2:CB (w1.alloc (.cells #[.int .i64 3] 3)) cb i:=(gC.block _ k1.lt).trans k1;have K2:=k2.cell;have c5:(w1.alloc (.cells #[.int .i64 3] 3)).cell? ⟨i.c,5,none⟩=some (.pointer (some ⟨i.r 3,0,none⟩)):=R2.cells.2.2.2.2.2;have Z:=gR _ (i.r 3) (S' 3) _ b (R2.ls 3 (by omega));rw[ay,TL.out.1,TL.out.2] at Z;have Z:=J Z;have dY:=J (xy R2 (xy ((HR.out.2.1.trans (aJ.below B1.out)).trans (aJ.below gC)) (xy k2 HR.out.2.2.2)));clear hB k1 R1 U HR K0 gC R2 k2;go_wp2_with fail
   refine V.out.mono ?_;rintro e w2 ⟨rfl,rfl⟩;clear K1 V;go_wp2_with fail
   refine Z.out.mono ?_;intro e w3 hp;obtain⟨R2,W2,k2,gB⟩:=dY.out;obtain⟨rfl,S3,r3,gf⟩:=R2.on (show 3 < 4 by omega) hp (zg _);rw[sj] at r3;have o3:=bY gf k2.lt gB;have N3:=zs (rH w cb i S mo p R b 3 (min m n+gk) w3) (⟨S3,by rw[← HJ.out];exact r3,W2.trans gf,o3.1.trans k2,o3.2⟩);clear hp r3 gf o3 R2 W2 k2 gB dY Z c5 K2;go_wp2_with fail
   go_roundg gk
   case measure=>omega
   case rel=>exact⟨by omega,N3.out⟩
theorem VE:∀args w,(callFunc 255 args).run prog w= .ok (.enter 255 args) w:=λargs w=>by kernel_rfl
theorem VF:∀args w,(callFunc 256 args).run prog w= .ok (.enter 256 args) w:=λargs w=>by kernel_rfl
theorem GM(w:zw)(cb:Nat)(i:Ix)(S:Sx)(mo p:Nat)(R:aW)(b:Nat)(r:Raw w i S mo p R b)(kb:CB w cb i)(hn:¬ax i S cb)(h0:(R 0).length<=mo):
 Calls prog 254 #[.int .i64 2,.func (.func 255) #[] #[.pointer (some ⟨cb,0,none⟩)],.pointer (some ⟨cb,0,none⟩)] w (λe w'=>e= .returned (.tuple #[])/\∃S',Raw w' i S' mo p (ew mo R) b/\aJ w w' (ax i S) (ax i S')/\CB w' cb i/\¬ax i S' cb):=by
 refine(PN w cb i S mo p R b (mo - (R 0).length) r kb hn _ VE ?_).mono λe w' h=>h;intro W S' j hR hK hj;have:=PL W cb i S' mo p _ b hR hK;rw[ay,au (by omega),qh,Nat.min_eq_left hj] at this;rw[show decide (mo - (R 0).length < j)=decide (mo < (R 0).length+j) by congr 1;simp only[eq_iff_iff];omega];exact this
theorem Dd(w:zw)(cb:Nat)(i:Ix)(S:Sx)(mo p:Nat)(R:aW)(b:Nat)(r:Raw w i S mo p R b)(kb:CB w cb i)(hn:¬ax i S cb)(h0:(R 0).length+(R 1).length+(R 2).length<=2*mo):
 Calls prog 254 #[.int .i64 3,.func (.func 256) #[] #[.pointer (some ⟨cb,0,none⟩)],.pointer (some ⟨cb,0,none⟩)] w (λe w'=>e= .returned (.tuple #[])/\∃S',Raw w' i S' mo p (si mo R) b/\aJ w w' (ax i S) (ax i S')/\CB w' cb i/\¬ax i S' cb):=by
 refine(PQ w cb i S mo p R b (2*mo - ((R 0).length+(R 1).length+(R 2).length)) r kb hn _ VF ?_).mono λe w' h=>h;intro W S' j hR hK hj;have:=PM W cb i S' mo p _ b hR hK;rw[ay,au (by omega),au (by omega),au (by omega),qh,Nat.min_eq_left hj] at this;rw[show decide (2*mo - ((R 0).length+(R 1).length+(R 2).length) < j)=decide (2*mo < (R 0).length+(R 1).length+(R 2).length+j) by congr 1;simp only[eq_iff_iff];omega];exact this
theorem EV(mo:Nat)(R:aW):(ew mo R 2).length<=mo - (R 0).length:=by
 unfold ew;rw[ay,qh];omega
theorem Jl(w:zw)(i:Ix)(S:Sx)(mo p:Nat)(R:aW)(b:Nat)(r:Raw w i S mo p R b)(h0:(R 0).length+(R 1).length<=mo):Calls prog 246 #[.pointer (some ⟨i.c,0,none⟩)] w (aL (.tuple #[]) w i S mo p (fa mo R) b):=by
 have hb:=(zo w.heap.size w).alloc (zg _) (.cells #[.pointer (some ⟨i.c,0,none⟩)] 149);have kb:CB (w.alloc (.cells #[.pointer (some ⟨i.c,0,none⟩)] 149)) w.heap.size i:=heap_alloc_new _ _;have U:=J (GM _ w.heap.size i S mo p R b (r.below hb) kb (λh=>by have:=r.lt h;omega) (by omega));have B:=J hb
 have h3:=J (show(ew mo R 0).length+(ew mo R 1).length+(ew mo R 2).length<=2*mo by
  have:=EV mo R;rw[show ew mo R 0=R 0 from au (by omega),show ew mo R 1=R 1 from au (by omega)];omega)
 clear r hb kb h0;go_enter func246,ntmps246;go_wp2_with fail
 refine U.out.mono ?_;rintro e w1 ⟨rfl,S1,r1,dx,k1,n1⟩;have V:=J (Dd w1 w.heap.size i S1 mo p _ b r1 k1 n1 h3.out);have W1:=J ((aJ.below B.out:aJ w _ (ax i S) (ax i S)).trans dx);clear r1 dx k1 n1 U;go_wp2_with fail
 refine V.out.mono ?_;rintro e w2 ⟨rfl,S2,r2,fp,k2,n2⟩;have P:=zs (aL (.tuple #[]) w i S mo p (fa mo R) b (.returned (.tuple #[])) w2) (⟨rfl,S2,r2,W1.out.trans fp⟩);clear r2 fp k2 n2 V;go_wp2_with fail
 go_end0;exact P.out
end AR
namespace AR
open Go.RowKit Sg
theorem oq(w:zw)(i:Ix)(S:Sx)(mo p m:Nat)(R:aW)(b:Nat)(X:Nat->Prop)(K:zY->(Nat->Prop)->zw->Prop)(F:FuncId)(a:Addr)(sd:jj F a K)(hl:a7 R<=b)(hb:b<=985){w1:zw}{S1:Sx}{X1:Nat->Prop}{R1:aW}{vs:zY}(C:dp w w1 i S S1 X X1 K mo p R1 b vs)(hv:vs.length<=5)(ht:a7 R1<=a7 R):
 Calls prog 251 #[.pointer (some ⟨i.c,0,none⟩),.int .i64 (m:Int),.bool false,.func (.func F) #[] #[.pointer (some a)]] w1 (gS w i S X K mo p (aY p false R1 (ai R1 - m)) b (vs++outs p false R1 (ai R1 - m))):=
 (iH w1 i S1 mo p R1 b m false X1 K F a vs C.raw C.side C.eD sd hv (zr ht hl) hb).mono λ_ _ ⟨he,S2,X2,h⟩=>⟨he,S2,X2,C.trans h⟩
section
variable(w:zw)(i:Ix)(S:Sx)(mo p m:Nat)(R:aW)(b:Nat)(X:Nat->Prop)(K:zY->(Nat->Prop)->zw->Prop)(F:FuncId)(a:Addr)(r:Raw w i S mo p R b)(k:K [] X w)(eT:∀k,X k->¬ax i S k)(sd:jj F a K)
 (hl:a7 R<=b) (hb:b<=985) (hm:mo=m+1)
include r k eT sd hl hb hm
theorem De(h1:(R 0).length+(R 2).length < mo)(h2:2*mo<=a7 R):Calls prog 252 #[.pointer (some ⟨i.c,0,none⟩),.func (.func F) #[] #[.pointer (some a)]] w (gS w i S X K mo p (aY p false (af R 3 (R 3).dropLast) (ai (af R 3 (R 3).dropLast) - m)) b ([]++outs p false (af R 3 (R 3).dropLast) (ai (af R 3 (R 3).dropLast) - m))):=by
 have HP:=J (λ(w1:zw) (S1:Sx) (X1:Nat->Prop) (R1:aW) (vs:zY) C hv ht=>oq w i S mo p m R b X K F a sd hl hb (w1:=w1) (S1:=S1) (X1:=X1) (R1:=R1) (vs:=vs) C hv ht);have C0:=dp.start r k eT;have SD:=J sd;have hF:=sd.enter;have cU:=(av w 1).alloc (zg _) (.cells #[.int .i64 0,.int .i64 2] 3);obtain⟨c0,_⟩:=r.cells;have c1:(w.drew.alloc (.cells #[.int .i64 0,.int .i64 2] 3)).cell? ⟨i.c,0,none⟩=some (.int .i64 (mo:Int)):=(r.below cU).cells.1;have U:=jQ w.drew i S mo p R b (r.below (av w 1)) 0 2 (by omega) (by omega);have U:=zs (Calls prog 248 #[.pointer (some ⟨i.c,0,none⟩),.slice (some ⟨w.drew.heap.size,0,none⟩) 2 2] (w.drew.alloc (.cells #[.int .i64 0,.int .i64 2] 3)) (bS (((R 0).length+(R 2).length:Nat):Int) (w.drew.alloc (.cells #[.int .i64 0,.int .i64 2] 3)))) U;have C1:=zs (dp w ((w.alloc (.cells #[.int .i64 0,.int .i64 2] 3)).drew) i S S X X K mo p R b []) (C0.below SD.out cU);have ht:=r.top.1;have HW:IntKind.i64.wrap ((mo:Int) - 1)=(m:Int):=by rw[qi _ (by omega)];omega
 obtain⟨q,hq⟩:=zx ((R 0).length+(R 2).length);rw[← hq] at U;have e0:decide (q < mo)=true:=by simp;omega
 obtain⟨d,hd⟩:∃d:Int,d=((((R 0).length+(R 1).length+(R 2).length+(R 3).length:Nat):Int) - (mo:Int)):=⟨_,rfl⟩;have e2:decide ((mo:Int)<=d)=true:=by unfold a7 at h2;simp;omega
 have HD:=J hd;clear hd;have H2:=J (xy hm (xy h1 h2));clear r k eT sd cU C0 hq ht hl hb hm h1 h2;go_enter func252,ntmps252;go_wp2_with fail
 go_region_held3(λw'=>w'.cell? ⟨i.c,0,none⟩=some (.int .i64 (mo:Int))) (first|(with_reducible exact c1)|(with_reducible exact c0)|go_keep)
  ((go_at_call 248;refine U.out.mono ?_;rintro e w1 ⟨rfl,rfl⟩))
 clear c0 c1 U;generalize(w.alloc (.cells #[.int .i64 0,.int .i64 2] 3)).drew=w2 at C1|-;have c1:w2.cell? ⟨i.c,0,none⟩=some (.int .i64 (mo:Int)):=C1.out.raw.cells.1;go_wp2_with fail
 have V:=Db w2.drew i S mo p R b (C1.out.raw.below (av w2 1));rw[← HD.out] at V;have V:=J V;have CC:=zs (∀w3,Below w2.drew.heap.size w2.drew w3->w3.cell? ⟨i.c,0,none⟩=some (.int .i64 (mo:Int))/\dp w w3 i S S X X K mo p R b []) (λw3 h=>⟨(C1.out.raw.below ((av w2 1).trans h)).cells.1,C1.out.below SD.out ((av w2 1).trans h)⟩)
 go_region_held3(λw'=>w'.cell? ⟨i.c,0,none⟩=some (.int .i64 (mo:Int))) (first|(with_reducible exact c3)|(with_reducible exact c1)|go_keep)
  ((go_at_call 257;refine V.out.mono ?_;rintro e w3 ⟨rfl,hB⟩;obtain⟨c3,nN⟩:=CC.out w3 hB;have C3:=J nN;clear hB nN))
 clear V CC C1 c1;have d3:w3.cell? ⟨i.c,5,none⟩=some (.pointer (some ⟨i.r 3,0,none⟩)):=C3.out.raw.cells.2.2.2.2.2;have Z:=gR w3 (i.r 3) (S 3) _ b (C3.out.raw.ls 3 (by omega));have Z:=J Z;go_wp2_with fail
 refine Z.out.mono ?_;intro e w4 hp;obtain⟨rfl,S4,j3⟩:=C3.out.op SD.out (C3.out.raw.on (show 3 < 4 by omega) hp (zg _));have C4:=J j3;clear hp Z C3 c3;have c4:w4.cell? ⟨i.c,0,none⟩=some (.int .i64 (mo:Int)):=j3.raw.cells.1;have E:=J (HP.out w4 S4 X _ [] C4.out (by simp) (by simp[a7,af]));clear j3;go_wp2_with fail
 refine E.out.mono ?_;intro e w6 hp;have P6:=J hp;obtain⟨rfl,_⟩:=hp;go_wp2_with fail
 go_end0;exact P6.out
theorem Df(h1:(R 0).length+(R 2).length < mo)(h2:a7 R < 2*mo):Calls prog 252 #[.pointer (some ⟨i.c,0,none⟩),.func (.func F) #[] #[.pointer (some a)]] w (gS w i S X K mo p (aY p false R (ai R - m)) b ([]++outs p false R (ai R - m))):=by
 have HP:=J (λ(w1:zw) (S1:Sx) (X1:Nat->Prop) (R1:aW) (vs:zY) C hv ht=>oq w i S mo p m R b X K F a sd hl hb (w1:=w1) (S1:=S1) (X1:=X1) (R1:=R1) (vs:=vs) C hv ht);have C0:=dp.start r k eT;have SD:=J sd;have hF:=sd.enter;have cU:=(av w 1).alloc (zg _) (.cells #[.int .i64 0,.int .i64 2] 3);obtain⟨c0,_⟩:=r.cells;have c1:(w.drew.alloc (.cells #[.int .i64 0,.int .i64 2] 3)).cell? ⟨i.c,0,none⟩=some (.int .i64 (mo:Int)):=(r.below cU).cells.1;have U:=jQ w.drew i S mo p R b (r.below (av w 1)) 0 2 (by omega) (by omega);have U:=zs (Calls prog 248 #[.pointer (some ⟨i.c,0,none⟩),.slice (some ⟨w.drew.heap.size,0,none⟩) 2 2] (w.drew.alloc (.cells #[.int .i64 0,.int .i64 2] 3)) (bS (((R 0).length+(R 2).length:Nat):Int) (w.drew.alloc (.cells #[.int .i64 0,.int .i64 2] 3)))) U;have C1:=zs (dp w ((w.alloc (.cells #[.int .i64 0,.int .i64 2] 3)).drew) i S S X X K mo p R b []) (C0.below SD.out cU);have ht:=r.top.1;have HW:IntKind.i64.wrap ((mo:Int) - 1)=(m:Int):=by rw[qi _ (by omega)];omega
 obtain⟨q,hq⟩:=zx ((R 0).length+(R 2).length);rw[← hq] at U;have e0:decide (q < mo)=true:=by simp;omega
 obtain⟨d,hd⟩:∃d:Int,d=((((R 0).length+(R 1).length+(R 2).length+(R 3).length:Nat):Int) - (mo:Int)):=⟨_,rfl⟩;have e2:decide ((mo:Int)<=d)=false:=by unfold a7 at h2;simp;omega
 have HD:=J hd;clear hd;have H2:=J (xy hm (xy h1 h2));clear r k eT sd cU C0 hq ht hl hb hm h1 h2;go_enter func252,ntmps252;go_wp2_with fail
 go_region_held3(λw'=>w'.cell? ⟨i.c,0,none⟩=some (.int .i64 (mo:Int))) (first|(with_reducible exact c1)|(with_reducible exact c0)|go_keep)
  ((go_at_call 248;refine U.out.mono ?_;rintro e w1 ⟨rfl,rfl⟩))
 clear c0 c1 U;generalize(w.alloc (.cells #[.int .i64 0,.int .i64 2] 3)).drew=w2 at C1|-;have c1:w2.cell? ⟨i.c,0,none⟩=some (.int .i64 (mo:Int)):=C1.out.raw.cells.1;go_wp2_with fail
 have V:=Db w2.drew i S mo p R b (C1.out.raw.below (av w2 1));rw[← HD.out] at V;have V:=J V;have CC:=zs (∀w3,Below w2.drew.heap.size w2.drew w3->w3.cell? ⟨i.c,0,none⟩=some (.int .i64 (mo:Int))/\dp w w3 i S S X X K mo p R b []) (λw3 h=>⟨(C1.out.raw.below ((av w2 1).trans h)).cells.1,C1.out.below SD.out ((av w2 1).trans h)⟩)
 go_region_held3(λw'=>w'.cell? ⟨i.c,0,none⟩=some (.int .i64 (mo:Int))) (first|(with_reducible exact c3)|(with_reducible exact c1)|go_keep)
  ((go_at_call 257;refine V.out.mono ?_;rintro e w3 ⟨rfl,hB⟩;obtain⟨c3,nN⟩:=CC.out w3 hB;have C3:=J nN;clear hB nN))
 clear V CC C1 c1;have E:=J (HP.out w3 S X R [] C3.out (by simp) (zg _));go_wp2_with fail
 refine E.out.mono ?_;intro e w5 hp;have P5:=J hp;obtain⟨rfl,_⟩:=hp;go_wp2_with fail
 go_end0;exact P5.out
theorem GN(h1:mo<=(R 0).length+(R 2).length)(h2:(R 0).length < mo):Calls prog 252 #[.pointer (some ⟨i.c,0,none⟩),.func (.func F) #[] #[.pointer (some a)]] w (gS w i S X K mo p (aY p false (af R 2 (R 2).dropLast) (ai (af R 2 (R 2).dropLast) - m)) b ([]++outs p false (af R 2 (R 2).dropLast) (ai (af R 2 (R 2).dropLast) - m))):=by
 have HP:=J (λ(w1:zw) (S1:Sx) (X1:Nat->Prop) (R1:aW) (vs:zY) C hv ht=>oq w i S mo p m R b X K F a sd hl hb (w1:=w1) (S1:=S1) (X1:=X1) (R1:=R1) (vs:=vs) C hv ht);have C0:=dp.start r k eT;have SD:=J sd;have hF:=sd.enter;have cU:=(av w 1).alloc (zg _) (.cells #[.int .i64 0,.int .i64 2] 3);obtain⟨c0,_⟩:=r.cells;have c1:(w.drew.alloc (.cells #[.int .i64 0,.int .i64 2] 3)).cell? ⟨i.c,0,none⟩=some (.int .i64 (mo:Int)):=(r.below cU).cells.1;have U:=jQ w.drew i S mo p R b (r.below (av w 1)) 0 2 (by omega) (by omega);have U:=zs (Calls prog 248 #[.pointer (some ⟨i.c,0,none⟩),.slice (some ⟨w.drew.heap.size,0,none⟩) 2 2] (w.drew.alloc (.cells #[.int .i64 0,.int .i64 2] 3)) (bS (((R 0).length+(R 2).length:Nat):Int) (w.drew.alloc (.cells #[.int .i64 0,.int .i64 2] 3)))) U;have C1:=zs (dp w ((w.alloc (.cells #[.int .i64 0,.int .i64 2] 3)).drew) i S S X X K mo p R b []) (C0.below SD.out cU);have ht:=r.top.1;have HW:IntKind.i64.wrap ((mo:Int) - 1)=(m:Int):=by rw[qi _ (by omega)];omega
 obtain⟨q,hq⟩:=zx ((R 0).length+(R 2).length);rw[← hq] at U;have e0:decide (q < mo)=false:=by simp;omega
 have e2:decide ((R 0).length < mo)=true:=by simp;omega
 have H2:=J (xy hm (xy h1 h2));clear r k eT sd cU C0 hq ht hl hb hm h1 h2;go_enter func252,ntmps252;go_wp2_with fail
 go_region_held3(λw'=>w'.cell? ⟨i.c,0,none⟩=some (.int .i64 (mo:Int))) (first|(with_reducible exact c1)|(with_reducible exact c0)|go_keep)
  ((go_at_call 248;refine U.out.mono ?_;rintro e w1 ⟨rfl,rfl⟩))
 clear c0 c1 U;generalize(w.alloc (.cells #[.int .i64 0,.int .i64 2] 3)).drew=w2 at C1|-;have c1:w2.cell? ⟨i.c,0,none⟩=some (.int .i64 (mo:Int)):=C1.out.raw.cells.1;go_wp2_with fail
 have V:=fB w2.drew i S mo p R b (C1.out.raw.below (av w2 1)) 0 (by omega);have V:=zs (Calls prog 248 #[.pointer (some ⟨i.c,0,none⟩),.slice (some ⟨w2.drew.heap.size,0,none⟩) 1 1] (w2.drew.alloc (.cells #[.int .i64 0] 3)) (bS ((R 0).length:Int) (w2.drew.alloc (.cells #[.int .i64 0] 3)))) V;have ie:=(av w2 1).alloc (zg _) (.cells #[.int .i64 0] 3);have c3:(w2.drew.alloc (.cells #[.int .i64 0] 3)).cell? ⟨i.c,0,none⟩=some (.int .i64 (mo:Int)):=(C1.out.raw.below ie).cells.1;have C3:=zs (dp w ((w2.alloc (.cells #[.int .i64 0] 3)).drew) i S S X X K mo p R b []) (C1.out.below SD.out ie);clear ie
 go_region_held3(λw'=>w'.cell? ⟨i.c,0,none⟩=some (.int .i64 (mo:Int))) (first|(with_reducible exact c3)|(with_reducible exact c1)|go_keep)
  ((go_at_call 248;refine V.out.mono ?_;rintro e w1 ⟨rfl,rfl⟩))
 clear V C1 c1 c3;generalize(w2.alloc (.cells #[.int .i64 0] 3)).drew=w3 at C3|-;have c3:w3.cell? ⟨i.c,0,none⟩=some (.int .i64 (mo:Int)):=C3.out.raw.cells.1;have d2:w3.cell? ⟨i.c,4,none⟩=some (.pointer (some ⟨i.r 2,0,none⟩)):=C3.out.raw.cells.2.2.2.2.1;have Z:=gR w3 (i.r 2) (S 2) _ b (C3.out.raw.ls 2 (by omega));have Z:=J Z;go_wp2_with fail
 refine Z.out.mono ?_;intro e w4 hp;obtain⟨rfl,S4,j3⟩:=C3.out.op SD.out (C3.out.raw.on (show 2 < 4 by omega) hp (zg _));have C4:=J j3;clear hp Z C3 c3;have c4:w4.cell? ⟨i.c,0,none⟩=some (.int .i64 (mo:Int)):=j3.raw.cells.1;have E:=J (HP.out w4 S4 X _ [] C4.out (by simp) (by simp[a7,af]));clear j3;go_wp2_with fail
 refine E.out.mono ?_;intro e w6 hp;have P6:=J hp;obtain⟨rfl,_⟩:=hp;go_wp2_with fail
 go_end0;exact P6.out
theorem GQ(h1:mo<=(R 0).length+(R 2).length)(h2:mo<=(R 0).length):Calls prog 252 #[.pointer (some ⟨i.c,0,none⟩),.func (.func F) #[] #[.pointer (some a)]] w (gS w i S X K mo p (aY p false (af R 0 (R 0).dropLast) (ai (af R 0 (R 0).dropLast) - m)) b (([]++ [ah (R 0)])++outs p false (af R 0 (R 0).dropLast) (ai (af R 0 (R 0).dropLast) - m))):=by
 have HP:=J (λ(w1:zw) (S1:Sx) (X1:Nat->Prop) (R1:aW) (vs:zY) C hv ht=>oq w i S mo p m R b X K F a sd hl hb (w1:=w1) (S1:=S1) (X1:=X1) (R1:=R1) (vs:=vs) C hv ht);have C0:=dp.start r k eT;have SD:=J sd;have hF:=sd.enter;have cU:=(av w 1).alloc (zg _) (.cells #[.int .i64 0,.int .i64 2] 3);obtain⟨c0,_⟩:=r.cells;have c1:(w.drew.alloc (.cells #[.int .i64 0,.int .i64 2] 3)).cell? ⟨i.c,0,none⟩=some (.int .i64 (mo:Int)):=(r.below cU).cells.1;have U:=jQ w.drew i S mo p R b (r.below (av w 1)) 0 2 (by omega) (by omega);have U:=zs (Calls prog 248 #[.pointer (some ⟨i.c,0,none⟩),.slice (some ⟨w.drew.heap.size,0,none⟩) 2 2] (w.drew.alloc (.cells #[.int .i64 0,.int .i64 2] 3)) (bS (((R 0).length+(R 2).length:Nat):Int) (w.drew.alloc (.cells #[.int .i64 0,.int .i64 2] 3)))) U;have C1:=zs (dp w ((w.alloc (.cells #[.int .i64 0,.int .i64 2] 3)).drew) i S S X X K mo p R b []) (C0.below SD.out cU);have ht:=r.top.1;have HW:IntKind.i64.wrap ((mo:Int) - 1)=(m:Int):=by rw[qi _ (by omega)];omega
 obtain⟨q,hq⟩:=zx ((R 0).length+(R 2).length);rw[← hq] at U;have e0:decide (q < mo)=false:=by simp;omega
 have e2:decide ((R 0).length < mo)=false:=by simp;omega
 have H2:=J (xy hm (xy h1 h2));clear r k eT sd cU C0 hq ht hl hb hm h1 h2;go_enter func252,ntmps252;go_wp2_with fail
 go_region_held3(λw'=>w'.cell? ⟨i.c,0,none⟩=some (.int .i64 (mo:Int))) (first|(with_reducible exact c1)|(with_reducible exact c0)|go_keep)
  ((go_at_call 248;refine U.out.mono ?_;rintro e w1 ⟨rfl,rfl⟩))
 clear c0 c1 U;generalize(w.alloc (.cells #[.int .i64 0,.int .i64 2] 3)).drew=w2 at C1|-;have c1:w2.cell? ⟨i.c,0,none⟩=some (.int .i64 (mo:Int)):=C1.out.raw.cells.1;go_wp2_with fail
 have V:=fB w2.drew i S mo p R b (C1.out.raw.below (av w2 1)) 0 (by omega);have V:=zs (Calls prog 248 #[.pointer (some ⟨i.c,0,none⟩),.slice (some ⟨w2.drew.heap.size,0,none⟩) 1 1] (w2.drew.alloc (.cells #[.int .i64 0] 3)) (bS ((R 0).length:Int) (w2.drew.alloc (.cells #[.int .i64 0] 3)))) V;have ie:=(av w2 1).alloc (zg _) (.cells #[.int .i64 0] 3);have c3:(w2.drew.alloc (.cells #[.int .i64 0] 3)).cell? ⟨i.c,0,none⟩=some (.int .i64 (mo:Int)):=(C1.out.raw.below ie).cells.1;have C3:=zs (dp w ((w2.alloc (.cells #[.int .i64 0] 3)).drew) i S S X X K mo p R b []) (C1.out.below SD.out ie);clear ie
 go_region_held3(λw'=>w'.cell? ⟨i.c,0,none⟩=some (.int .i64 (mo:Int))) (first|(with_reducible exact c3)|(with_reducible exact c1)|go_keep)
  ((go_at_call 248;refine V.out.mono ?_;rintro e w1 ⟨rfl,rfl⟩))
 clear V C1 c1 c3;generalize(w2.alloc (.cells #[.int .i64 0] 3)).drew=w3 at C3|-;have c3:w3.cell? ⟨i.c,0,none⟩=some (.int .i64 (mo:Int)):=C3.out.raw.cells.1;have d0:w3.cell? ⟨i.c,2,none⟩=some (.pointer (some ⟨i.r 0,0,none⟩)):=C3.out.raw.cells.2.2.1;have Z:=gR w3 (i.r 0) (S 0) _ b (C3.out.raw.ls 0 (by omega));have ji:0 < (R 0).length:=by have:=H2.out;omega
 have b7:=J ((C3.out.raw.ls 0 (by omega)).small _ (fh ji));rw[kE ji] at Z;obtain⟨x,hx⟩:=zx (ah (R 0));rw[← hx] at Z b7;have HX:=J hx;clear hx ji;have Z:=J Z;go_wp2_with fail
 refine Z.out.mono ?_;intro e w4 hp;obtain⟨rfl,S4,j3⟩:=C3.out.op SD.out (C3.out.raw.on (show 0 < 4 by omega) hp (zg _));have C4:=J j3;clear hp Z C3 c3;have TK:=J (SD.out.call _ _ _ x j3.side (by simp) b7.out);clear j3;go_wp2_with fail
 refine TK.out.mono ?_;rintro e w5 ⟨rfl,X5,hk,hW⟩;have C5:=J (C4.out.take hk hW);have c5:w5.cell? ⟨i.c,0,none⟩=some (.int .i64 (mo:Int)):=C5.out.raw.cells.1;have E:=HP.out w5 S4 X5 _ _ C5.out (by simp) (by simp[a7,af]);rw[HX.out] at E;have E:=J E;clear hk hW TK C4;go_wp2_with fail
 refine E.out.mono ?_;intro e w6 hp;have P6:=J hp;obtain⟨rfl,_⟩:=hp;go_wp2_with fail
 go_end0;exact P6.out
end
end AR
namespace AR
open Go.RowKit Sg
theorem Ac(R:aW)(key:zy):(bp R key 0 0).length+(bp R key 0 1).length<=(R 0).length+(R 1).length+1:=by
 have r0:=aI (R 0) key;have r1:=aI (R 1) key;unfold bp;rw[ay,au (by omega),zv];show(rem (R 0) key).length+1+(rem (R 1) key).length<=_;omega
section
variable(w:zw)(i:Ix)(S:Sx)(mo p:Nat)(R:aW)(b:Nat)(key:zy)(r:Raw w i S mo p R b)(hs:key.size<=maxLen)
include r hs
theorem jB(hi:aF R key=true):Calls prog 234 #[.pointer (some ⟨i.c,0,none⟩),.string key] w (aL (.bool false) w i S mo p R b):=by
 obtain⟨c0,_⟩:=r.cells
 have U:=J (show ∀m,Calls prog 237 #[.pointer (some ⟨i.c,0,none⟩),.string key] (w.drewN m) (λe w'=>e= .returned (.bool true)/\w'=w.drewN m) from λm=>by
  have:=wj (w.drewN m) i S mo p R b (r.drewN m) key hs;rw[hi] at this;exact this.mono λ_ _ h=>⟨h.1,h.2.symm⟩)
 have HH:=J r;clear r hi;go_enter func234,ntmps234;go_wp2_with fail
 go_quiet((go_at_call 237;exact Calls.quiet_of_same (U.out _)))
 go_wp2_with fail
 go_ret;exact⟨rfl,S,HH.out.drewN _,aJ.below (av w _)⟩
theorem gG(hi:aF R key=false)(hf:mo<=(R 0).length+(R 1).length):Calls prog 234 #[.pointer (some ⟨i.c,0,none⟩),.string key] w (aL (.bool false) w i S mo p R b):=by
 have C:=zs (∀w1,Below w.heap.size w w1->w1.cell? ⟨i.c,0,none⟩=some (.int .i64 (mo:Int))) (λw1 h=>(r.below h).cells.1);obtain⟨c0,_⟩:=r.cells;have HH:=J r;have BD:=zs (∀w1,Below w.drew.heap.size w.drew w1->Below w.heap.size w w1) (λw1 h=>(av w 1).trans h);obtain⟨q,hq⟩:=zx ((R 0).length+(R 1).length);have e0:decide (mo<=q)=true:=by simp;omega
 have U:=wj w.drew i S mo p R b (r.below (av w 1)) key hs;rw[hi] at U;have V:=Da w.drew i S mo p R b (r.below (av w 1));rw[← hq] at V;have U:=J U;have V:=J V;clear r hi hq hf;go_enter func234,ntmps234;go_wp2_with fail
 go_region_held3(λw'=>w'.cell? ⟨i.c,0,none⟩=some (.int .i64 (mo:Int))) (first|(with_reducible exact c1)|(with_reducible exact c0)|go_keep)
  (first
    |(go_at_call 237;refine U.out.mono ?_;rintro e w1 ⟨rfl,rfl⟩;clear U)
    |(go_at_call 239;refine V.out.mono ?_;rintro e w1 ⟨rfl,hB⟩;have c1:=C.out w1 (BD.out w1 hB);have B1:=J (BD.out w1 hB);clear hB V))
 go_wp2_with fail
 go_ret;exact⟨rfl,S,HH.out.below B1.out,aJ.below B1.out⟩
theorem gH(hi:aF R key=false)(hf:(R 0).length+(R 1).length < mo)(hb:b<=985):Calls prog 234 #[.pointer (some ⟨i.c,0,none⟩),.string key] w (aL (.bool true) w i S mo p (fa mo (bp R key 0)) (b+1)):=by
 have h0:(bp R key 0 0).length+(bp R key 0 1).length<=mo:=by
  have:=Ac R key;omega
 have C:=zs (∀w1,Below w.heap.size w w1->w1.cell? ⟨i.c,0,none⟩=some (.int .i64 (mo:Int))) (λw1 h=>(r.below h).cells.1);obtain⟨c0,_⟩:=r.cells;have HH:=J r;have BD:=zs (∀w1,Below w.drew.heap.size w.drew w1->Below w.heap.size w w1) (λw1 h=>(av w 1).trans h);obtain⟨q,hq⟩:=zx ((R 0).length+(R 1).length);have e0:decide (mo<=q)=false:=by simp;omega
 have U:=wj w.drew i S mo p R b (r.below (av w 1)) key hs;rw[hi] at U;have V:=Da w.drew i S mo p R b (r.below (av w 1));rw[← hq] at V;have U:=J U;have V:=J V;have HL:=J (xy hf (xy h0 hb));clear r hi hq hf hb h0;go_enter func234,ntmps234;go_wp2_with fail
 go_region_held3(λw'=>w'.cell? ⟨i.c,0,none⟩=some (.int .i64 (mo:Int))) (first|(with_reducible exact c1)|(with_reducible exact c0)|go_keep)
  (first
    |(go_at_call 237;refine U.out.mono ?_;rintro e w1 ⟨rfl,rfl⟩;clear U)
    |(go_at_call 239;refine V.out.mono ?_;rintro e w1 ⟨rfl,hB⟩;have c1:=C.out w1 (BD.out w1 hB);have B1:=J (BD.out w1 hB);clear hB V))
 go_wp2_with fail
 refine(Ji w1 i S mo p R b (HH.out.below B1.out) key hs HL.out.2.2).mono ?_;rintro e w2 ⟨rfl,S2,r2,fp⟩;have T:=J (Jl w2 i S2 mo p _ _ r2 HL.out.2.1);have W2:=J ((aJ.below B1.out:aJ w w1 (ax i S) (ax i S)).trans fp);clear r2 fp HH c0;go_wp2_with fail
 refine T.out.mono ?_;rintro e w3 ⟨rfl,S3,r3,gf⟩;have F:=zs (aL (.bool true) w i S mo p (fa mo (bp R key 0)) (b+1) (.returned (.bool true)) w3) (⟨rfl,S3,r3,W2.out.trans gf⟩);clear r3 gf T;go_wp2_with fail
 go_ret;exact F.out
end
theorem jm{w:zw}{base:Nat}{v:Value}{xs:zY}(h:Own w base v xs)(x:zy)(hx:x.size<=maxLen)(hl:xs.length<=1999)(hb:base<=w.heap.size):
 ∃(A:Option Addr) (cap:Nat) (w2:zw),(Builtin.append_ #[30,30] 30 #[v,.slice (some ⟨w.heap.size,0,none⟩) 1 1]).run prog (w.alloc (.cells #[.string x] 9))= .ok (.slice A (xs.length+1) cap) w2/\
  Own w2 base (.slice A (xs.length+1) cap) (xs++ [x])/\w.grownBy w2 v.ownBlock/\(∀g,(Value.slice A (xs.length+1) cap).ownBlock=some g->v.ownBlock=some g\/w.heap.size<=g):=by
 obtain⟨i0,hi,fL,fC,fx⟩:=info_parts kx
 obtain⟨v',w2,aB,bC,hg,ko,bw⟩:=run_append_own_at (P:=prog) (w.alloc (.cells #[.string x] 9)) base 30 30 9 i0 _ 1 16
  underlying30 hi fL fC fx rfl (by decide) _ _ _ (h.1.alloc _) ⟨w.heap.size,0,none⟩ 1 1 [.string x] rfl (cell_one_new _ _ _) (by simp[Value.oneCell']) (by unfold maxLen;omega) (by omega) (by simp;omega)
 have iO:=bC;rcases bC.2 with⟨_,h0⟩|⟨g,cap,cur,rfl,_⟩
 . omega
 refine⟨_,cap,w2,aB,⟨?_,by rw[zh];simp only[zv,ql];omega,λy hy=>?_⟩,(World.grownBy_alloc w _ _).trans hg,λg' dB=>?_⟩
 . rw[xc,zh];exact iO
 . rcases List.mem_append.1 hy with h1|h1
   . exact h.2.2 y h1
   . rw[List.mem_singleton.1 h1];exact hx
 . rcases bw with h1|h1
   . exact xz (h1▸dB)
   . rw[h1] at dB;injection dB with dB
     rw[show(w.alloc (.cells #[.string x] 9)).heap.size=w.heap.size+1 by simp] at dB;exact ja (by omega)
def bJ(w:zw)(gb:Nat)(v:Value):Prop:=w.heap[gb]?=some (.cells #[v] 30 (0,0))
theorem bJ.lt{w:zw}{gb:Nat}{v:Value}(k:bJ w gb v):gb < w.heap.size:=(Array.getElem?_eq_some_iff.1 k).1
theorem bJ.put{w:zw}{gb:Nat}{v:Value}(k:bJ w gb v)(u:Value):bJ (w.setCell ⟨gb,0,none⟩ u) gb u:=by
 unfold bJ at*;rw[heap_setCell_same _ _ _ _ _ _ k];rfl
theorem sX(w:zw)(gb base:Nat)(v:Value)(ts:zY)(x:zy)(k:bJ w gb v)(o:Own w base v ts)(hl:ts.length<=1999)(hx:x.size<=maxLen)(hb:base<=w.heap.size)(al:v.ownBlock≠some gb):
 Calls prog 253 #[.string x,.pointer (some ⟨gb,0,none⟩)] w (λe w'=>e= .returned (.tuple #[])/\∃v',bJ w' gb v'/\Own w' base v' (ts++ [x])/\(∀g,v'.ownBlock=some g->v.ownBlock=some g\/w.heap.size<=g)/\ao (λk=>k=gb\/v.ownBlock=some k) w w'):=by
 obtain⟨A2,cap,w2,aB,aS,hg,bw⟩:=jm o x hx hl hb;obtain⟨A1,c1,rfl⟩:=o.len;have yv:=k.lt;have k1:w.cell? ⟨gb,0,none⟩=some (.slice A1 ts.length c1):=cell_of_row w _ 0 _ _ _ k;have k2:bJ w2 gb (.slice A1 ts.length c1):=(hg.block gb yv (λe=>al e.symm)).trans k;have k3:w2.cell? ⟨gb,0,none⟩=some (.slice A1 ts.length c1):=cell_of_row w2 _ 0 _ _ _ k2;have k4:w2.frozen? ⟨gb,0,none⟩=false:=frozen_of_row w2 _ 0 _ _ k2;have df:=J aB
 have R:=J (show ∃v',bJ (w2.setCell ⟨gb,0,none⟩ (.slice A2 (ts.length+1) cap)) gb v'/\Own (w2.setCell ⟨gb,0,none⟩ (.slice A2 (ts.length+1) cap)) base v' (ts++ [x])/\(∀g,v'.ownBlock=some g->(Value.slice A1 ts.length c1).ownBlock=some g\/w.heap.size<=g)/\ao (λk=>k=gb\/(Value.slice A1 ts.length c1).ownBlock=some k) w (w2.setCell ⟨gb,0,none⟩ (.slice A2 (ts.length+1) cap)) by
  refine⟨_,k2.put _,aS.same (λg dB=>?_),bw,?_⟩
  . refine qc _ _ _ _ (λe=>?_);have e:g=gb:=e;subst e;rcases bw g dB with h|h
    . exact al h
    . omega
  . have t1:ao (λk=>k=gb\/(Value.slice A1 ts.length c1).ownBlock=some k) w w2:=⟨hg.os,hg.tape,hg.output,hg.size,λi hi h1=>hg.block i hi (λe=>h1 (ja e.symm))⟩;exact t1.setCell (p:=⟨gb,0,none⟩) (xz (xz rfl)) _)
 clear aB aS hg bw k k2 o al;go_enter func253,ntmps253;go_wp2_with(at_builtin;refine aq rfl _ _ _ rfl _ _ _ _ rfl rfl df.out ?_)
 go_end0;exact⟨rfl,R.out⟩
def KR(gb base:Nat)(vs:zY)(X:Nat->Prop)(W:zw):Prop:=∃v,X=(λk=>k=gb\/v.ownBlock=some k)/\bJ W gb v/\Own W base v vs/\base<=W.heap.size/\v.ownBlock≠some gb
theorem xU(gb base:Nat):jj 253 ⟨gb,0,none⟩ (KR gb base) where
 enter:=λargs w=>by kernel_rfl
 lt:=by
  rintro vs X W ⟨v,rfl,hB,hO,_⟩ k hk;rcases hk with rfl|hk
  . exact hB.lt
  . exact(hO.lt hk).1
 same:=by
  rintro vs X W W' ⟨v,rfl,hB,hO,hb,hn⟩ hs hk;exact⟨v,rfl,(hk gb (xz rfl)).trans hB,hO.same λg hg=>hk g (ja hg),by omega,hn⟩
 call:=by
  rintro vs X W x ⟨v,rfl,hB,hO,hb,hn⟩ hl hx;refine(sX W gb base v vs x hB hO (by omega) hx hb hn).mono ?_;rintro e W' ⟨he,v',zF,En,hv,hT⟩;have bW:=hT.size;refine⟨he,_,⟨v',rfl,zF,En,by omega,λh=>?_⟩,λk hk=>?_,hT⟩
  . rcases hv gb h with h|h
    . exact hn h
    . have:=hB.lt;omega
  . rcases hk with rfl|hk
    . exact xz (xz rfl)
    . exact(hv k hk).imp ja id
def eM(w:zw)(i:Ix)(S:Sx)(mo p:Nat)(R:aW)(b:Nat)(gone:zY)(e:Ending)(w':zw):Prop:=
 ∃v S',e= .returned v/\Own w' w.heap.size v gone/\Raw w' i S' mo p R b/\aJ w w' (ax i S) (ax i S')/\∀g,v.ownBlock=some g->¬ax i S' g
theorem iP{w w0 w1 w4:zw}{i:Ix}{S S1 S4:Sx}{X4:Nat->Prop}{mo p:Nat}{R:aW}{b:Nat}{gone:zY}(h0:aJ w w0 (ax i S) (ax i S1))(hb:Below w0.heap.size w0 w1)(aQ:w0.heap.size < w1.heap.size)(Rr:w.heap.size<=w0.heap.size)
 (h:dp w1 w4 i S1 S4 (λk=>k=w0.heap.size) X4 (KR w0.heap.size w.heap.size) mo p R b gone):
 ∃A1 m1 c1,w4.cell? ⟨w0.heap.size,0,none⟩=some (.slice A1 m1 c1)/\eM w i S mo p R b gone (.returned (.slice A1 m1 c1)) w4:=by
 obtain⟨r4,⟨v,rfl,hB,hO,Vm,hn⟩,hW,hd⟩:=h;have oH:=hb.size;have fI:=hW.a8.size;obtain⟨A1,c1,rfl⟩:=hO.len;refine⟨A1,_,c1,cell_of_row w4 _ 0 _ _ _ hB,_,S4,rfl,hO,r4,⟨λk hk=>?_,?_⟩,λg hg=>hd g (ja hg)⟩
 . rcases hW.new k (xz hk) with h|h
   . rcases h with h|h
     . exact h0.new k h
     . exact ja (by omega)
   . exact ja (by omega)
 . refine(h0.a8.trans (ao.cZ (S:=ax i S1) hb) (λk hk hS=>?_)).trans hW.a8 (λk hk hS=>?_)
   . rcases h0.new k hS with h|h
     . exact h
     . omega
   . rcases hS with h|h
     . rcases h0.new k h with h|h
       . exact h
       . omega
     . omega
theorem GR{p:Nat}{q:Bool}{R:aW}(n:Nat):ai (aY p q R (ai R - n))=min n (ai R):=by
 have:=nM (R:=R) (p:=p) (q:=q) (n:=ai R - n) (by omega);omega
def GU(p n:Nat)(R:aW):aW:=fa n (aY (min p n) false R (ai R - n))
theorem Kc(w:zw)(i:Ix)(S:Sx)(mo p:Nat)(R:aW)(b:Nat)(z:Int)(n:Nat)(r:Raw w i S mo p R b)(hz: -9223372036854775808<=z/\z<=9223372036854775807)(hn:n=z.toNat)(hl:a7 R<=b)(hb:b<=980):
 Calls prog 242 #[.pointer (some ⟨i.c,0,none⟩),.int .i64 z] w (eM w i S n (min p n) (GU p n R) b (outs (min p n) false R (ai R - n))):=by
 obtain⟨c0,_⟩:=r.cells;obtain⟨f0,_⟩:=r.pK;have ht:=r.top;have e1:(if z < 0 then(0:Int) else z)=(n:Int):=by split <;> omega
 obtain⟨r1,T1⟩:=r.eV n (by omega);have tx:max z 0=(n:Int):=by omega
 unfold GU;obtain⟨u,hu⟩:=zx (min p n);have e2:(if n < p then(n:Int) else(p:Int))=(u:Int):=by rw[hu];split <;> omega
 have e3:min (p:Int) (n:Int)=(u:Int):=by omega
 have Gx:u<=9223372036854775807:=by omega
 rw[← hu];have R1:=J r1;have jZ:=J T1;clear hn hu;go_enter func242,ntmps242;go_upto_region 2 with fail
 generalize w.setCell ⟨i.c,0,none⟩ (.int .i64 (n:Int))=W1 at R1 jZ|-;clear r1 T1 c0 f0;obtain⟨c0,c1,_⟩:=R1.out.cells;obtain⟨_,f1⟩:=R1.out.pK;have R2:=J (R1.out.gd u Gx);clear r;go_region;have R3:=zs (Raw ((W1.setCell ⟨i.c,1,none⟩ (.int .i64 (u:Int))).drew) i S n u R b) (R2.out.1.below ⟨rfl,rfl,rfl,zg _,λ_ _=>rfl⟩);have T3:=zs (aJ w ((W1.setCell ⟨i.c,1,none⟩ (.int .i64 (u:Int))).drew) (ax i S) (ax i S)) (aJ.same ((jZ.out.trans R2.out.2 λ_ _ h=>h).drew));generalize(W1.setCell ⟨i.c,1,none⟩ (.int .i64 (u:Int))).drew=W2 at R3 T3|-;clear R2 c0 c1 f1 R1 jZ tx e1 e2 e3;have B:=J ((zo W2.heap.size W2).alloc (zg _) (.cells #[.slice none 0 0] 30));have GB:=zs (bJ (W2.alloc (.cells #[.slice none 0 0] 30)) W2.heap.size (.slice none 0 0)) (heap_alloc_new _ _);have NB:=zs (¬ax i S W2.heap.size) (λh=>by have:=R3.out.lt h;omega);have SZ:=zs ((W2.alloc (.cells #[.slice none 0 0] 30)).heap.size=W2.heap.size+1) (by simp);have U:=J (iH _ i S n u R b n false (λk=>k=W2.heap.size) (KR W2.heap.size w.heap.size) 253 ⟨W2.heap.size,0,none⟩ [] (R3.out.below B.out) ⟨.slice none 0 0,by funext k;simp[Value.ownBlock],GB.out,Own.nil _ _,by have:=T3.out.a8.size;have:=SZ.out;omega,by simp[Value.ownBlock]⟩ (by rintro k rfl;exact NB.out) (xU _ _) (by simp) hl (by omega));have d0:=(R3.out.below B.out).cells.1;have HC:=zs (ai (aY u false R (ai R - n))<=n) (by rw[GR];omega);rw[List.nil_append] at U;clear hl hb;go_wp2_with fail
 refine U.out.mono ?_;rintro e w4 ⟨rfl,S4,X4,h4⟩;have C4:=J h4;have V:=J (Jl w4 i S4 n u _ b C4.out.raw HC.out);clear h4 U d0;go_wp2_with fail
 refine V.out.mono ?_;intro e w5 hp;obtain⟨rfl,S5,h5⟩:=C4.out.op (xU _ _) hp;obtain⟨A1,m1,c1,k1,hq⟩:=iP T3.out B.out (by have:=SZ.out;omega) T3.out.a8.size h5;have P:=J hq;clear hp hq h5 V C4;go_wp2_with fail
 go_ret;exact P.out
end AR
namespace AR
open Go.RowKit Sg
def bU(mo:Nat)(R:aW):aW:=if(R 0).length+(R 2).length < mo then(if 2*mo<=a7 R then af R 3 (R 3).dropLast else R) else if(R 0).length < mo then af R 2 (R 2).dropLast else af R 0 (R 0).dropLast
def gW(mo:Nat)(R:aW):zY:=if(R 0).length+(R 2).length < mo then [] else if(R 0).length < mo then [] else [ah (R 0)]
theorem xJ(w:zw)(i:Ix)(S:Sx)(mo p m:Nat)(R:aW)(b:Nat)(X:Nat->Prop)(K:zY->(Nat->Prop)->zw->Prop)(F:FuncId)(a:Addr)(r:Raw w i S mo p R b)(k:K [] X w)(eT:∀k,X k->¬ax i S k)(sd:jj F a K)(hl:a7 R<=b)(hb:b<=985)(hm:mo=m+1):
 Calls prog 252 #[.pointer (some ⟨i.c,0,none⟩),.func (.func F) #[] #[.pointer (some a)]] w (gS w i S X K mo p (aY p false (bU mo R) (ai (bU mo R) - m)) b (gW mo R++outs p false (bU mo R) (ai (bU mo R) - m))):=by
 unfold bU gW
 by_cases h1:(R 0).length+(R 2).length < mo
 . simp only[h1,if_true]
   by_cases h2:2*mo<=a7 R
   . simp only[h2,if_true];exact De w i S mo p m R b X K F a r k eT sd hl hb hm h1 h2
   . simp only[h2,if_false];exact Df w i S mo p m R b X K F a r k eT sd hl hb hm h1 (by omega)
 . simp only[h1,if_false]
   by_cases h2:(R 0).length < mo
   . simp only[h2,if_true];exact GN w i S mo p m R b X K F a r k eT sd hl hb hm (by omega) h2
   . simp only[h2,if_false];exact GQ w i S mo p m R b X K F a r k eT sd hl hb hm (by omega) (by omega)
def aT(w:zw)(sb:Nat)(h:Bool)(s:zy)(o:Bool):Prop:=w.heap[sb]?=some (.cells #[.bool h,.string s,.bool o] 49 (0,0))
section
variable{w:zw}{sb:Nat}{h o:Bool}{s:zy}
theorem aT.set(k:aT w sb h s o)(x:zy):aT ((w.setCell ⟨sb,1,none⟩ (.string x)).setCell ⟨sb,2,none⟩ (.bool true)) sb h x true:=by
 unfold aT at*;have r1:(w.setCell ⟨sb,1,none⟩ (.string x)).heap[sb]?=some (.cells #[.bool h,.string x,.bool o] 49 (0,0)):=by rw[heap_setCell_same _ _ _ _ _ _ k];rfl
 rw[heap_setCell_same _ _ _ _ _ _ r1];rfl
theorem aT.cells(k:aT w sb h s o):w.cell? ⟨sb,0,none⟩=some (.bool h)/\w.cell? ⟨sb,1,none⟩=some (.string s)/\w.cell? ⟨sb,2,none⟩=some (.bool o)/\w.frozen? ⟨sb,1,none⟩=false/\w.frozen? ⟨sb,2,none⟩=false:=
 ⟨cell_of_row w _ 0 _ _ _ k,cell_of_row w _ 1 _ _ _ k,cell_of_row w _ 2 _ _ _ k,frozen_of_row w _ 1 _ _ k,frozen_of_row w _ 2 _ _ k⟩
theorem aT.lt(k:aT w sb h s o):sb < w.heap.size:=(Array.getElem?_eq_some_iff.1 k).1
theorem bo(k:aT w sb h s o):(loadVar 49 ⟨sb,0,none⟩).run prog w= .ok (.agg #[.bool h,.string s,.bool o]) w:=by
 obtain⟨k0,k1,k2,_,_⟩:=k.cells;unfold loadVar;go_simp
theorem aT.put(k:aT w sb h s o)(h' o':Bool)(s':zy):aT (((w.setCell ⟨sb,0,none⟩ (.bool h')).setCell ⟨sb,1,none⟩ (.string s')).setCell ⟨sb,2,none⟩ (.bool o')) sb h' s' o':=by
 unfold aT at*;have r1:(w.setCell ⟨sb,0,none⟩ (.bool h')).heap[sb]?=some (.cells #[.bool h',.string s,.bool o] 49 (0,0)):=by rw[heap_setCell_same _ _ _ _ _ _ k];rfl
 have r2:((w.setCell ⟨sb,0,none⟩ (.bool h')).setCell ⟨sb,1,none⟩ (.string s')).heap[sb]?=some (.cells #[.bool h',.string s',.bool o] 49 (0,0)):=by rw[heap_setCell_same _ _ _ _ _ _ r1];rfl
 rw[heap_setCell_same _ _ _ _ _ _ r2];rfl
end
def bP(vs:zY):zy:=if vs= [] then⟨#[]⟩ else ah vs
def KQ(sb:Nat)(h:Bool)(vs:zY)(X:Nat->Prop)(W:zw):Prop:=X=(λk=>k=sb)/\aT W sb h (bP vs) (!vs.isEmpty)
theorem sU(w:zw)(sb:Nat)(h o:Bool)(s x:zy)(k:aT w sb h s o):
 Calls prog 249 #[.string x,.pointer (some ⟨sb,0,none⟩)] w (λe w'=>e= .returned (.tuple #[])/\aT w' sb h x true/\ao (λk=>k=sb) w w'):=by
 obtain⟨k0,k1,k2,f1,f2⟩:=k.cells;have R:=J (k.set x);clear k;go_enter func249,ntmps249;go_wp2_with fail
 go_end0;exact⟨rfl,R.out,((ao.refl (λk=>k=sb) w).setCell (p:=⟨sb,1,none⟩) (xz rfl) _).setCell (p:=⟨sb,2,none⟩) (xz rfl) _⟩
theorem jY(sb:Nat)(h:Bool):jj 249 ⟨sb,0,none⟩ (KQ sb h) where
 enter:=λargs w=>by kernel_rfl
 lt:=by rintro vs X W ⟨rfl,hB⟩ k rfl;exact hB.lt
 same:=by rintro vs X W W' ⟨rfl,hB⟩ _ hk;exact⟨rfl,(hk sb rfl).trans hB⟩
 call:=by
  rintro vs X W x ⟨rfl,hB⟩ _ _;refine(sU W sb h _ _ x hB).mono ?_;rintro e W' ⟨he,zF,hT⟩;refine⟨he,_,⟨rfl,?_⟩,aJ.same hT⟩;rw[show bP (vs++ [x])=x by unfold bP;rw[if_neg (by simp)];simp[ah],show(!(vs++ [x]).isEmpty)=true by simp];exact zF
abbrev bV(h:Bool)(s:zy)(o:Bool):Obj:= .cells #[.bool h,.string s,.bool o] 49
structure bN(w:zw)(i:Ix)(S:Sx)(h:Bool)(W0:zw):Prop where
 az:Below w.heap.size w W0
 res:aT W0 w.heap.size false ⟨#[]⟩ false
 step:aT W0 (w.heap.size+1) h ⟨#[]⟩ false
 n0:¬ax i S w.heap.size
 n1:¬ax i S (w.heap.size+1)
section
variable{w W W':zw}{i:Ix}{S S' S2:Sx}{X':Nat->Prop}{mo p mo' p' b b':Nat}{R R':aW}{h o:Bool}{vs:zY}{e:Ending}{v:Value}
theorem bN.start(r:Raw w i S mo p R b)(h:Bool):bN w i S h ((w.alloc (bV false ⟨#[]⟩ false)).alloc (bV h ⟨#[]⟩ false)):=by
 have s1:(w.alloc (bV false ⟨#[]⟩ false)).heap.size=w.heap.size+1:=by simp
 have b1:=(zo w.heap.size w).alloc (zg _) (bV false ⟨#[]⟩ false);have b2:=b1.alloc (by rw[s1];omega) (bV h ⟨#[]⟩ false);have q2:=heap_alloc_new (w.alloc (bV false ⟨#[]⟩ false)) (bV h ⟨#[]⟩ false);rw[s1] at q2;exact⟨b2,(qf _ _ _ (by rw[s1];omega)).trans (heap_alloc_new _ _),q2,λhk=>by have:=r.lt hk;omega,λhk=>by have:=r.lt hk;omega⟩
theorem bN.at(m:bN w i S h W)(r:Raw w i S mo p R b):dp W W i S S (λk=>k=w.heap.size+1) (λk=>k=w.heap.size+1) (KQ (w.heap.size+1) h) mo p R b []:=
 dp.start (r.below m.az) ⟨rfl,m.step⟩ (by rintro k rfl;exact m.n1)
theorem bN.out(m:bN w i S h W)(c:dp W W' i S S' (λk=>k=w.heap.size+1) X' (KQ (w.heap.size+1) h) mo p R b vs):
 (W'.cell? ⟨w.heap.size+1,0,none⟩=some (.bool h)/\W'.cell? ⟨w.heap.size+1,1,none⟩=some (.string (bP vs))/\W'.cell? ⟨w.heap.size+1,2,none⟩=some (.bool (!vs.isEmpty)))/\
 (W'.cell? ⟨w.heap.size,0,none⟩=some (.bool false)/\W'.cell? ⟨w.heap.size,1,none⟩=some (.string ⟨#[]⟩)/\W'.cell? ⟨w.heap.size,2,none⟩=some (.bool false))/\(W'.frozen? ⟨w.heap.size,0,none⟩=false/\W'.frozen? ⟨w.heap.size,1,none⟩=false/\W'.frozen? ⟨w.heap.size,2,none⟩=false)/\
 aT (((W'.setCell ⟨w.heap.size,0,none⟩ (.bool h)).setCell ⟨w.heap.size,1,none⟩ (.string (bP vs))).setCell ⟨w.heap.size,2,none⟩ (.bool (!vs.isEmpty))) w.heap.size h (bP vs) (!vs.isEmpty)/\
 aL (.agg #[.bool h,.string (bP vs),.bool (!vs.isEmpty)]) w i S mo p R b (.returned (.agg #[.bool h,.string (bP vs),.bool (!vs.isEmpty)])) (((W'.setCell ⟨w.heap.size,0,none⟩ (.bool h)).setCell ⟨w.heap.size,1,none⟩ (.string (bP vs))).setCell ⟨w.heap.size,2,none⟩ (.bool (!vs.isEmpty))):=by
 obtain⟨r,⟨rfl,hB⟩,hW,hd⟩:=c;have Xd:=m.az.size;have oH:=hW.a8.size
 have NG:=bY hW m.res.lt (λhk=>by
  rcases hk with hk|hk
  . exact m.n0 hk
  . have hk:w.heap.size=w.heap.size+1:=hk;omega)
 have hr:aT W' w.heap.size false ⟨#[]⟩ false:=NG.1.trans m.res;have hn:¬ax i S' w.heap.size:=λhk=>NG.2 (xz hk);refine⟨⟨hB.cells.1,hB.cells.2.1,hB.cells.2.2.1⟩,⟨hr.cells.1,hr.cells.2.1,hr.cells.2.2.1⟩,⟨frozen_of_row W' _ 0 _ _ hr,frozen_of_row W' _ 1 _ _ hr,frozen_of_row W' _ 2 _ _ hr⟩,hr.put _ _ _,rfl,S',r.kept (by simp[World.setCell]) (λk hk=>?_),λk hk=>?_,?_⟩
 . have al:k≠w.heap.size:=λe=>hn (e▸hk);rw[qc _ _ _ _ al,qc _ _ _ _ al,qc _ _ _ _ al]
 . rcases hW.new k (xz hk) with h1|h1
   . rcases h1 with h1|h1
     . exact xz h1
     . have h1:k=w.heap.size+1:=h1;exact ja (by omega)
   . exact ja (by omega)
 . have t1:ao (ax i S) w W':=(ao.cZ (S:=ax i S) m.az).trans hW.a8 (λk hk hS=>by
    rcases hS with h1|h1
    . exact h1
    . have h1:k=w.heap.size+1:=h1;omega)
   exact((t1.setCell (p:=⟨w.heap.size,0,none⟩) (ja (zg _)) _).setCell (p:=⟨w.heap.size,1,none⟩) (ja (zg _)) _).setCell (p:=⟨w.heap.size,2,none⟩) (ja (zg _)) _
end
section
variable(w:zw)(i:Ix)(S:Sx)(mo p:Nat)(R:aW)(b:Nat)(key:zy)(r:Raw w i S mo p R b)
include r
theorem jA(hm:mo=0):Calls prog 241 #[.pointer (some ⟨i.c,0,none⟩),.string key] w (aL (.agg #[.bool false,.string ⟨#[]⟩,.bool false]) w i S mo p R b):=by
 have b1:=(zo w.heap.size w).alloc (zg _) (bV false ⟨#[]⟩ false);have hB:aT (w.alloc (bV false ⟨#[]⟩ false)) w.heap.size false ⟨#[]⟩ false:=heap_alloc_new _ _;obtain⟨g0,g1,g2,f1,f2⟩:=hB.cells;have f0:(w.alloc (bV false ⟨#[]⟩ false)).frozen? ⟨w.heap.size,0,none⟩=false:=frozen_of_row _ _ 0 _ _ hB;have c0:=(r.below b1).cells.1;have e9:((mo:Int)==0)=true:=by rw[hm];rfl
 have e8:(mo==0)=true:=by rw[hm];rfl
 have F:=J hB;have P:=zs (aL (.agg #[.bool false,.string ⟨#[]⟩,.bool false]) w i S mo p R b (.returned (.agg #[.bool false,.string ⟨#[]⟩,.bool false])) (w.alloc (bV false ⟨#[]⟩ false))) (⟨rfl,S,r.below b1,aJ.below b1⟩);clear r b1 hB hm;go_enter func241,ntmps241;go_wp2_with fail
 refine bodyPost_ret (aV rfl _ _ _ ⟨w.heap.size,0,none⟩ _ rfl (bo F.out)) rfl ?_;exact P.out
variable(hs:key.size<=maxLen)
include hs
theorem fO(h:Bool)(hh:aF R key=h):Calls prog 237 #[.pointer (some ⟨i.c,0,none⟩),.string key] (w.alloc (bV false ⟨#[]⟩ false)) (dq h (w.alloc (bV false ⟨#[]⟩ false))):=by
 have b1:=(zo w.heap.size w).alloc (zg _) (bV false ⟨#[]⟩ false);have:=wj _ i S mo p R b (r.below b1) key hs;rw[hh] at this;exact this
variable(m:Nat)(hm:mo=m+1)(hb:b<=985)
include hm hb
theorem oL(h1:aF R key=true):Calls prog 241 #[.pointer (some ⟨i.c,0,none⟩),.string key] w (aL (.agg #[.bool true,.string (bP []),.bool (!([]:zY).isEmpty)]) w i S mo p (bp R key 1) (b+1)):=by
 have U:=J (fO w i S mo p R b key r hs true h1);have b1:=(zo w.heap.size w).alloc (zg _) (bV false ⟨#[]⟩ false);have c0:=(r.below b1).cells.1;have M0:=J (bN.start r true);have A0:=J (M0.out.at r);have ht:=r.top.1;have e9:((mo:Int)==0)=false:=by simp;omega
 have e8:(mo==0)=false:=by simp;omega
 have HW:IntKind.i64.wrap ((mo:Int) - 1)=(m:Int):=by rw[qi _ (by omega)];omega
 have HB:=J hb;have HS:=J hs;clear r b1 h1 ht hb hm;go_enter func241,ntmps241;go_wp2_with fail
 refine U.out.mono ?_;rintro e w1 ⟨rfl,rfl⟩;go_upto_region 4 with fail
 clear c0 U;generalize(w.alloc (bV false ⟨#[]⟩ false)).alloc (bV true ⟨#[]⟩ false)=w0 at M0 A0|-;obtain⟨s0,_,_⟩:=A0.out.side.2.cells;have Z:=J (Dc w0 i S mo p R b A0.out.raw key hs HB.out);go_wp2_with fail
 refine Z.out.mono ?_;intro e w2 hp;obtain⟨rfl,S2,sI⟩:=A0.out.op (jY _ _) hp;have A2:=J sI;clear hp sI Z s0 e9 e8 HW A0;obtain⟨⟨s0,s1,s2⟩,⟨g0,g1,g2⟩,⟨f0,f1,f2⟩,F1,F2⟩:=M0.out.out A2.out;have F1:=J F1;have F2:=J F2;go_wp2_with fail
 refine bodyPost_ret (aV rfl _ _ _ ⟨w.heap.size,0,none⟩ _ rfl (bo F1.out)) rfl ?_;exact F2.out
theorem NH(h1:aF R key=false)(h2:aw (R 2) key=true)(hl:a7 R<=b)(hp:p<=mo):Calls prog 241 #[.pointer (some ⟨i.c,0,none⟩),.string key] w (aL (.agg #[.bool false,.string (bP (outs (gU mo p R) false R (ai R - m))),.bool (!(outs (gU mo p R) false R (ai R - m)).isEmpty)]) w i S mo (gU mo p R) (bp (aY (gU mo p R) false R (ai R - m)) key 1) (b+1)):=by
 have U:=J (fO w i S mo p R b key r hs false h1);have b1:=(zo w.heap.size w).alloc (zg _) (bV false ⟨#[]⟩ false);have c0:=(r.below b1).cells.1;have M0:=J (bN.start r false);have A0:=J (M0.out.at r);have ht:=r.top.1;have e9:((mo:Int)==0)=false:=by simp;omega
 have e8:(mo==0)=false:=by simp;omega
 have HW:IntKind.i64.wrap ((mo:Int) - 1)=(m:Int):=by rw[qi _ (by omega)];omega
 have HB:=J hb
 have H2:=J (show 0 < (R 2).length from by
  rw[aX] at h2;exact List.length_pos_of_mem h2)
 have HL:=J (xy hl hp);have V2:=dt _ (i.r 2) (S 2) (R 2) b (A0.out.raw.ls 2 (by omega)) key hs;rw[h2] at V2;have V2:=J V2;clear r b1 h1 ht hb hm h2 hl hp;go_enter func241,ntmps241;go_wp2_with fail
 refine U.out.mono ?_;rintro e w1 ⟨rfl,rfl⟩;go_upto_region 4 with fail
 clear c0 U;generalize(w.alloc (bV false ⟨#[]⟩ false)).alloc (bV false ⟨#[]⟩ false)=w0 at M0 A0 V2|-;obtain⟨s0,_,_⟩:=A0.out.side.2.cells;have c4:w0.cell? ⟨i.c,4,none⟩=some (.pointer (some ⟨i.r 2,0,none⟩)):=A0.out.raw.cells.2.2.2.2.1;go_wp2_with fail
 refine V2.out.mono ?_;rintro e w1 ⟨rfl,rfl⟩;clear V2;have Y:=J (NA w0 i S mo p R b A0.out.raw H2.out HL.out.2);go_wp2_with fail
 refine Y.out.mono ?_;intro e w2 hp;obtain⟨rfl,S2,sI⟩:=A0.out.op (jY _ _) hp;have A2:=J sI;have c0:w2.cell? ⟨i.c,0,none⟩=some (.int .i64 (mo:Int)):=sI.raw.cells.1;clear hp sI Y s0 c4 e9 e8;obtain⟨u,hu⟩:=zx ((gU mo p R));rw[← hu] at A2;have HU:=J hu;clear hu;have Z:=J (iH w2 i S2 mo u R b m false _ _ 249 ⟨w.heap.size+1,0,none⟩ [] A2.out.raw A2.out.side A2.out.eD (jY _ _) (by simp) HL.out.1 HB.out);rw[List.nil_append] at Z;go_wp2_with fail
 refine Z.out.mono ?_;rintro e w3 ⟨rfl,S3,X3,wW⟩;have A3:=J (A2.out.trans wW);clear wW A2 Z c0 HW;generalize EW:outs u false R (ai R - m)=vs at*;generalize hQ:aY u false R (ai R - m)=Q at*;have HV:=J (xy EW hQ);clear EW hQ;have T:=J (Dc w3 i S3 mo u Q b A3.out.raw key hs HB.out);go_wp2_with fail
 refine T.out.mono ?_;intro e w4 hp;obtain⟨rfl,S4,wX⟩:=A3.out.op (jY _ _) hp;have A4:=J wX;clear hp wX T A0 A3;obtain⟨⟨s0,s1,s2⟩,⟨g0,g1,g2⟩,⟨f0,f1,f2⟩,F1,F2⟩:=M0.out.out A4.out;have F1:=J F1;have F2:=J F2;go_wp2_with fail
 refine bodyPost_ret (aV rfl _ _ _ ⟨w.heap.size,0,none⟩ _ rfl (bo F1.out)) rfl ?_;obtain⟨e2,e3⟩:=HV.out;subst e2 e3;have e1:=HU.out;subst e1;exact F2.out
theorem NI(h1:aF R key=false)(h2:aw (R 2) key=false)(h3:aw (R 3) key=true)(hl:a7 R<=b)(hp:p<=mo):Calls prog 241 #[.pointer (some ⟨i.c,0,none⟩),.string key] w (aL (.agg #[.bool false,.string (bP (outs (gV p R) true R (ai R - m))),.bool (!(outs (gV p R) true R (ai R - m)).isEmpty)]) w i S mo (gV p R) (bp (aY (gV p R) true R (ai R - m)) key 1) (b+1)):=by
 have U:=J (fO w i S mo p R b key r hs false h1);have b1:=(zo w.heap.size w).alloc (zg _) (bV false ⟨#[]⟩ false);have c0:=(r.below b1).cells.1;have M0:=J (bN.start r false);have A0:=J (M0.out.at r);have ht:=r.top.1;have e9:((mo:Int)==0)=false:=by simp;omega
 have e8:(mo==0)=false:=by simp;omega
 have HW:IntKind.i64.wrap ((mo:Int) - 1)=(m:Int):=by rw[qi _ (by omega)];omega
 have HB:=J hb
 have H2:=J (show 0 < (R 3).length from by
  rw[aX] at h3;exact List.length_pos_of_mem h3)
 have HL:=J (xy hl hp);have V2:=dt _ (i.r 2) (S 2) (R 2) b (A0.out.raw.ls 2 (by omega)) key hs;rw[h2] at V2;have V2:=J V2;have V3:=dt _ (i.r 3) (S 3) (R 3) b (A0.out.raw.ls 3 (by omega)) key hs;rw[h3] at V3;have V3:=J V3;clear r b1 h1 ht hb hm h2 hl hp h3;go_enter func241,ntmps241;go_wp2_with fail
 refine U.out.mono ?_;rintro e w1 ⟨rfl,rfl⟩;go_upto_region 4 with fail
 clear c0 U;generalize(w.alloc (bV false ⟨#[]⟩ false)).alloc (bV false ⟨#[]⟩ false)=w0 at M0 A0 V2 V3|-;obtain⟨s0,_,_⟩:=A0.out.side.2.cells;have c4:w0.cell? ⟨i.c,4,none⟩=some (.pointer (some ⟨i.r 2,0,none⟩)):=A0.out.raw.cells.2.2.2.2.1;have c5:w0.cell? ⟨i.c,5,none⟩=some (.pointer (some ⟨i.r 3,0,none⟩)):=A0.out.raw.cells.2.2.2.2.2;go_wp2_with fail
 refine V2.out.mono ?_;rintro e w1 ⟨rfl,rfl⟩;clear V2;go_wp2_with fail
 refine V3.out.mono ?_;rintro e w1 ⟨rfl,rfl⟩;clear V3;have Y:=J (NC w0 i S mo p R b A0.out.raw H2.out HL.out.2);go_wp2_with fail
 refine Y.out.mono ?_;intro e w2 hp;obtain⟨rfl,S2,sI⟩:=A0.out.op (jY _ _) hp;have A2:=J sI;have c0:w2.cell? ⟨i.c,0,none⟩=some (.int .i64 (mo:Int)):=sI.raw.cells.1;clear hp sI Y s0 c4 c5 e9 e8;obtain⟨u,hu⟩:=zx ((gV p R));rw[← hu] at A2;have HU:=J hu;clear hu;have Z:=J (iH w2 i S2 mo u R b m true _ _ 249 ⟨w.heap.size+1,0,none⟩ [] A2.out.raw A2.out.side A2.out.eD (jY _ _) (by simp) HL.out.1 HB.out);rw[List.nil_append] at Z;go_wp2_with fail
 refine Z.out.mono ?_;rintro e w3 ⟨rfl,S3,X3,wW⟩;have A3:=J (A2.out.trans wW);clear wW A2 Z c0 HW;generalize EW:outs u true R (ai R - m)=vs at*;generalize hQ:aY u true R (ai R - m)=Q at*;have HV:=J (xy EW hQ);clear EW hQ;have T:=J (Dc w3 i S3 mo u Q b A3.out.raw key hs HB.out);go_wp2_with fail
 refine T.out.mono ?_;intro e w4 hp;obtain⟨rfl,S4,wX⟩:=A3.out.op (jY _ _) hp;have A4:=J wX;clear hp wX T A0 A3;obtain⟨⟨s0,s1,s2⟩,⟨g0,g1,g2⟩,⟨f0,f1,f2⟩,F1,F2⟩:=M0.out.out A4.out;have F1:=J F1;have F2:=J F2;go_wp2_with fail
 refine bodyPost_ret (aV rfl _ _ _ ⟨w.heap.size,0,none⟩ _ rfl (bo F1.out)) rfl ?_;obtain⟨e2,e3⟩:=HV.out;subst e2 e3;have e1:=HU.out;subst e1;exact F2.out
theorem vS(h1:aF R key=false)(h2:aw (R 2) key=false)(h3:aw (R 3) key=false)(hl:a7 R<=b):Calls prog 241 #[.pointer (some ⟨i.c,0,none⟩),.string key] w
 (aL (.agg #[.bool false,.string (bP (gW mo R++outs p false (bU mo R) (ai (bU mo R) - m))),.bool (!(gW mo R++outs p false (bU mo R) (ai (bU mo R) - m)).isEmpty)]) w i S mo p (bp (aY p false (bU mo R) (ai (bU mo R) - m)) key 0) (b+1)):=by
 have U:=J (fO w i S mo p R b key r hs false h1);have b1:=(zo w.heap.size w).alloc (zg _) (bV false ⟨#[]⟩ false);have c0:=(r.below b1).cells.1;have M0:=J (bN.start r false);have A0:=J (M0.out.at r);have ht:=r.top.1;have e9:((mo:Int)==0)=false:=by simp;omega
 have e8:(mo==0)=false:=by simp;omega
 have HW:IntKind.i64.wrap ((mo:Int) - 1)=(m:Int):=by rw[qi _ (by omega)];omega
 have HB:=J hb;have HL:=J (xy hl hm);have V2:=dt _ (i.r 2) (S 2) (R 2) b (A0.out.raw.ls 2 (by omega)) key hs;rw[h2] at V2;have V2:=J V2;have V3:=dt _ (i.r 3) (S 3) (R 3) b (A0.out.raw.ls 3 (by omega)) key hs;rw[h3] at V3;have V3:=J V3;clear r b1 h1 ht hb hm h2 hl h3;go_enter func241,ntmps241;go_wp2_with fail
 refine U.out.mono ?_;rintro e w1 ⟨rfl,rfl⟩;go_upto_region 4 with fail
 clear c0 U;generalize(w.alloc (bV false ⟨#[]⟩ false)).alloc (bV false ⟨#[]⟩ false)=w0 at M0 A0 V2 V3|-;obtain⟨s0,_,_⟩:=A0.out.side.2.cells;have c4:w0.cell? ⟨i.c,4,none⟩=some (.pointer (some ⟨i.r 2,0,none⟩)):=A0.out.raw.cells.2.2.2.2.1;have c5:w0.cell? ⟨i.c,5,none⟩=some (.pointer (some ⟨i.r 3,0,none⟩)):=A0.out.raw.cells.2.2.2.2.2;go_wp2_with fail
 refine V2.out.mono ?_;rintro e w1 ⟨rfl,rfl⟩;clear V2;go_wp2_with fail
 refine V3.out.mono ?_;rintro e w1 ⟨rfl,rfl⟩;clear V3;have Z:=J (xJ w0 i S mo p m R b _ _ 249 ⟨w.heap.size+1,0,none⟩ A0.out.raw A0.out.side A0.out.eD (jY _ _) HL.out.1 HB.out HL.out.2);generalize gW mo R++outs p false (bU mo R) (ai (bU mo R) - m)=vs at*;generalize aY p false (bU mo R) (ai (bU mo R) - m)=Q at*;go_wp2_with fail
 refine Z.out.mono ?_;rintro e w3 ⟨rfl,S3,X3,wW⟩;have A3:=J wW;clear wW Z s0 c4 c5 e9 e8 HW;have T:=J (Ji w3 i S3 mo p Q b A3.out.raw key hs HB.out);go_wp2_with fail
 refine T.out.mono ?_;intro e w4 hp;obtain⟨rfl,S4,wX⟩:=A3.out.op (jY _ _) hp;have A4:=J wX;clear hp wX T A0 A3;obtain⟨⟨s0,s1,s2⟩,⟨g0,g1,g2⟩,⟨f0,f1,f2⟩,F1,F2⟩:=M0.out.out A4.out;have F1:=J F1;have F2:=J F2;go_wp2_with fail
 refine bodyPost_ret (aV rfl _ _ _ ⟨w.heap.size,0,none⟩ _ rfl (bo F1.out)) rfl ?_;exact F2.out
end
end AR
namespace AR
open Sg
structure St where
 mo:Nat
 p:Nat
 R:aW
structure Pre(R:aW):Prop where
 eD:∀j k,j < 4->k < 4->∀x,x∈R j->x∈R k->j=k
 nd:∀k,k < 4->(R k).Nodup
def lC(R:aW):Nat:=(R 0).length+(R 2).length
structure Ok(s:St):Prop where
 pre:Pre s.R
 le:ai s.R<=s.mo
 gl:lC s.R<=s.mo
 tl:a7 s.R<=2*s.mo
 pl:s.p<=s.mo
def St.aK(s:St)(k:zy):St:=
 if s.mo=0 then s
 else if aF s.R k=true then⟨s.mo,s.p,bp s.R k 1⟩
 else if aw (s.R 2) k=true then⟨s.mo,gU s.mo s.p s.R,bp (aY (gU s.mo s.p s.R) false s.R (ai s.R - (s.mo - 1))) k 1⟩
 else if aw (s.R 3) k=true then⟨s.mo,gV s.p s.R,bp (aY (gV s.p s.R) true s.R (ai s.R - (s.mo - 1))) k 1⟩
 else⟨s.mo,s.p,bp (aY s.p false (bU s.mo s.R) (ai (bU s.mo s.R) - (s.mo - 1))) k 0⟩
def St.vs(s:St)(k:zy):zY:=
 if s.mo=0 then []
 else if aF s.R k=true then []
 else if aw (s.R 2) k=true then outs (gU s.mo s.p s.R) false s.R (ai s.R - (s.mo - 1))
 else if aw (s.R 3) k=true then outs (gV s.p s.R) true s.R (ai s.R - (s.mo - 1))
 else gW s.mo s.R++outs s.p false (bU s.mo s.R) (ai (bU s.mo s.R) - (s.mo - 1))
def St.step(s:St)(k:zy):Value:= .agg #[.bool (aF s.R k),.string (bP (s.vs k)),.bool (!(s.vs k).isEmpty)]
def St.rm(s:St)(k:zy):St:=⟨s.mo,s.p,rF s.R k⟩
def St.bD(s:St)(k:zy):Bool:=!aF s.R k&&decide (ai s.R < s.mo)
def St.ad(s:St)(k:zy):St:=if s.bD k=true then⟨s.mo,s.p,fa s.mo (bp s.R k 0)⟩ else s
def St.dr(s:St):St:=⟨s.mo,s.p,af s.R (lv s.R s.p false) (s.R (lv s.R s.p false)).dropLast⟩
def St.rs(s:St)(n:Nat):St:=⟨n,min s.p n,GU s.p n s.R⟩
def St.start(n:Nat):St:=⟨n,0,λ_=>[]⟩
section
variable{R Q:aW}{x y:zy}{p n k:Nat}{q:Bool}
theorem Pre.sub(h:Pre R)(hs:∀k,k < 4->(Q k).Sublist (R k)):Pre Q:=
 ⟨λj k hj hk x h1 h2=>h.eD j k hj hk x ((hs j hj).subset h1) ((hs k hk).subset h2),λk hk=>(h.nd k hk).sublist (hs k hk)⟩
theorem Pre.front(h:Pre R)(hx:∀j,j < 4->x∉R j)(k:Nat):Pre (af R k (x::R k)):=by
 have key:∀j,j < 4->∀y,y∈af R k (x::R k) j->(y=x/\j=k)\/y∈R j:=λj _ y hy=>by
  by_cases e:j=k
  . subst e;rw[ay] at hy;exact(List.mem_cons.1 hy).imp (λh=>⟨h,rfl⟩) id
  . rw[au e] at hy;exact ja hy
 refine⟨λj l hj hl y h1 h2=>?_,λj hj=>?_⟩
 . rcases key j hj y h1 with⟨e1,f1⟩|g1
   . rcases key l hl y h2 with⟨e2,f2⟩|g2
     . omega
     . subst e1;exact absurd g2 (hx l hl)
   . rcases key l hl y h2 with⟨e2,f2⟩|g2
     . subst e2;exact absurd g1 (hx j hj)
     . exact h.eD j l hj hl y g1 g2
 . by_cases e:j=k
   . subst e;rw[ay,qj];exact⟨hx j hj,h.nd j hj⟩
   . rw[au e];exact h.nd j hj
theorem Ad{xs:zY}(h:xs.Nodup)(h0:0 < xs.length):ah xs∉xs.dropLast:=by
 have h2:xs≠ []:=λe=>by rw[e] at h0;exact Nat.lt_irrefl _ h0
 rw[← (ny h h2).1];exact eP
theorem BO(h:Pre R)(hk:k < 4)(h0:0 < (R k).length):Pre (af R k (R k).dropLast)/\∀j,j < 4->ah (R k)∉af R k (R k).dropLast j:=by
 refine⟨h.sub λj hj=>?_,λj hj hm=>?_⟩
 . by_cases e:j=k
   . subst e;rw[ay];exact List.dropLast_sublist _
   . rw[au e];exact xk _
 . by_cases e:j=k
   . subst e;rw[ay] at hm;exact Ad (h.nd j hj) h0 hm
   . rw[au e] at hm;exact e (h.eD j k hj hk _ hm (fh h0))
theorem o7(h:Pre R)(hl:0 < ai R):dy p q R=af (af R (lv R p q) (R (lv R p q)).dropLast) (lv R p q+2) (ah (R (lv R p q))::af R (lv R p q) (R (lv R p q)).dropLast (lv R p q+2)):=by
 have h0:=js (p:=p) (q:=q) hl;have h4:=xW R p q;unfold dy;rw[au (f:=R) (show lv R p q+2≠lv R p q by omega),aZ];intro hm;have:=h.eD _ _ h4.2 h4.1 _ hm (fh h0);omega
structure Cut(R Q:aW)(n:Nat):Prop where
 pre:Pre Q
 len:ai Q+n=ai R
 gl:lC Q=lC R
 cz:a7 Q=a7 R
 gh:∀k,2<=k->k < 4->∀y,y∈R k->y∈Q k
 old:∀k,k < 4->∀y,y∈Q k->∃j,j < 4/\y∈R j
theorem BP(h:Pre R)(hl:0 < ai R):Cut R (dy p q R) 1:=by
 have h0:=js (p:=p) (q:=q) hl;have h4:=xW R p q;obtain⟨h1,h2⟩:=BO h h4.1 h0;have hlen:=Aa (p:=p) (q:=q) hl;rw[o7 h hl] at hlen|-;refine⟨h1.front h2 _,hlen,?_,?_,λk hk lq y hy=>?_,λk hk y hy=>?_⟩
 . rcases fq R p q with e|e <;> rw[e] at h0|- <;> simp[lC,af] <;> omega
 . rcases fq R p q with e|e <;> rw[e] at h0|- <;> simp[a7,af] <;> omega
 . have al:k≠lv R p q:=by rcases fq R p q with e|e <;> omega
   by_cases e:k=lv R p q+2
   . subst e;rw[ay,au al];exact qm _ hy
   . rw[au e,au al];exact hy
 . have key:∀j,j < 4->y∈af R (lv R p q) (R (lv R p q)).dropLast j->∃j,j < 4/\y∈R j:=λj hj hm=>by
    by_cases e:j=lv R p q
    . subst e;rw[ay] at hm;exact⟨_,hj,List.dropLast_subset _ hm⟩
    . rw[au e] at hm;exact⟨j,hj,hm⟩
   by_cases e:k=lv R p q+2
   . rw[e,ay] at hy;rcases List.mem_cons.1 hy with hy|hy
     . exact⟨_,h4.1,hy▸fh h0⟩
     . exact key _ h4.2 hy
   . rw[au e] at hy;exact key k hk hy
theorem fb(h:Pre R):∀{n:Nat},n<=ai R->Cut R (aY p q R n) n
 |0,_=>⟨h,rfl,rfl,rfl,λ_ _ _ _ hy=>hy,λk hk _ hy=>⟨k,hk,hy⟩⟩
 |n+1,hn=>by
  have c:=fb h (n:=n) (by omega);have hl:=c.len;have d:=BP (p:=p) (q:=q) c.pre (by omega);have dl:=d.len;refine⟨d.pre,?_,d.gl.trans c.gl,d.cz.trans c.cz,λk h1 h2 y hy=>d.gh k h1 h2 y (c.gh k h1 h2 y hy),λk hk y hy=>?_⟩
  . show ai (dy p q (aY p q R n))+(n+1)=_;omega
  . obtain⟨j,hj,hm⟩:=d.old k hk y hy;exact c.old j hj y hm
theorem Pre.rm(h:Pre R)(x:zy):Pre (rF R x):=h.sub λ_ _=>xx
theorem NJ(R:aW)(x:zy):∀j,j < 4->x∉rF R x j:=λ_ _=>eP
theorem Pre.put(h:Pre R)(x:zy)(k:Nat):Pre (bp R x k):=(h.rm x).front (NJ R x) k
theorem eG(R:aW)(x:zy)(k:Nat):bp R x k k=x::rem (R k) x:=ay _ _ _
theorem bM{j:Nat}(h:j≠k):bp R x k j=rem (R j) x:=au h
theorem o8(R:aW)(x:zy)(hk:k < 2):a7 (bp R x k)<=a7 R+1:=by
 have r0:=aI (R 0) x;have r1:=aI (R 1) x;have r2:=aI (R 2) x;have r3:=aI (R 3) x;obtain rfl|rfl:k=0\/k=1:=by omega
 . unfold a7;rw[eG,bM (by omega),bM (by omega),bM (by omega),zv];omega
 . unfold a7;rw[eG,bM (by omega),bM (by omega),bM (by omega),zv];omega
theorem NL(mo:Nat)(R:aW):a7 (bU mo R)<=a7 R:=by
 unfold bU;split
 . split
   . simp[a7,af]
   . exact zg _
 . split
   . simp[a7,af]
   . simp[a7,af]
theorem Ae(mo:Nat)(R:aW)(k:Nat):(fa mo R k).Sublist (R k):=by
 unfold fa si
 by_cases e:k=3
 . subst e;rw[ay];refine(List.take_sublist _ _).trans ?_;rw[show ew mo R 3=R 3 from au (by omega)];exact xk _
 . rw[au e];unfold ew
   by_cases e2:k=2
   . subst e2;rw[ay];exact List.take_sublist _ _
   . rw[au e2];exact xk _
theorem pX{mo:Nat}{R:aW}(h:ai R<=mo):ai (fa mo R)=ai R/\lC (fa mo R)<=mo/\a7 (fa mo R)<=2*mo/\a7 (fa mo R)<=a7 R:=by
 have f0:ew mo R 0=R 0:=au (by omega);have f1:ew mo R 1=R 1:=au (by omega);have f2:ew mo R 2=(R 2).take (mo - (R 0).length):=ay _ _ _;have f3:ew mo R 3=R 3:=au (by omega);have ht:∀j,j≠3->fa mo R j=ew mo R j:=λj hj=>by unfold fa si;exact au hj
 have e0:fa mo R 0=R 0:=(ht 0 (by omega)).trans f0;have e1:fa mo R 1=R 1:=(ht 1 (by omega)).trans f1;have e2:fa mo R 2=(R 2).take (mo - (R 0).length):=(ht 2 (by omega)).trans f2
 have e3:fa mo R 3=(R 3).take (2*mo - ((R 0).length+(R 1).length+((R 2).take (mo - (R 0).length)).length)):=by
  show af (ew mo R) 3 ((ew mo R 3).take (2*mo - ((ew mo R 0).length+(ew mo R 1).length+(ew mo R 2).length))) 3=_;rw[ay,f0,f1,f2,f3]
 unfold ai at*;unfold lC a7;rw[e0,e1,e2,e3,qh,qh];omega
end
section
variable{s:St}
theorem Ok.zero(h:Ok s)(hm:s.mo=0):s.R 0= []/\s.R 1= []:=by
 have:=h.le;unfold ai at this;exact⟨qe (by omega),qe (by omega)⟩
theorem mv{R:aW}{k:zy}:aF R k=true<->k∈R 0\/k∈R 1:=by unfold aF;rw[Bool.or_eq_true,aX,aX]
theorem pa{R:aW}{k:zy}:aF R k=false<->k∉R 0/\k∉R 1:=by unfold aF;rw[Bool.or_eq_false_iff,bz,bz]
theorem PR(mo p:Nat)(R:aW)(h:p<=mo):gU mo p R<=mo:=by unfold gU;omega
theorem PS(mo p:Nat)(R:aW)(h:p<=mo):gV p R<=mo:=by unfold gV;omega
theorem Ag(h:Ok s)(hm:s.mo≠0)(k:zy)(j:Nat)(hj:j=2\/j=3)(hk:k∈s.R j)(_:aF s.R k=false)(p:Nat)(hp:p<=s.mo)(q:Bool):Ok ⟨s.mo,p,bp (aY p q s.R (ai s.R - (s.mo - 1))) k 1⟩:=by
 have c:=fb (p:=p) (q:=q) h.pre (n:=ai s.R - (s.mo - 1)) (by omega);have VG:=c.gh j (by omega) (by omega) k hk;have h1:=c.len;have h2:=c.gl;have h3:=c.cz;have g1:=h.le;have g2:=h.gl;have g3:=h.tl;have r:=eY (c.pre.nd j (by omega)) VG;generalize aY p q s.R (ai s.R - (s.mo - 1))=Q at*;refine⟨c.pre.put k 1,?_,?_,?_,hp⟩
 . show ai (bp Q k 1)<=s.mo;have r0:=aI (Q 0) k;have r1:=aI (Q 1) k;unfold ai at*;rw[eG,bM (by omega),zv];omega
 . show lC (bp Q k 1)<=s.mo;have r0:=aI (Q 0) k;have r2:=aI (Q 2) k;unfold lC at*;rw[bM (by omega),bM (by omega)];omega
 . show a7 (bp Q k 1)<=2*s.mo;have r0:=aI (Q 0) k;have r1:=aI (Q 1) k;have r2:=aI (Q 2) k;have r3:=aI (Q 3) k;unfold a7 at*;rw[eG,bM (by omega),bM (by omega),bM (by omega),zv];rcases hj with rfl|rfl <;> omega
theorem sk(h:Ok s)(hm:s.mo≠0):Pre (bU s.mo s.R)/\(∀k,k < 4->(bU s.mo s.R k).Sublist (s.R k))/\lC (bU s.mo s.R) < s.mo/\a7 (bU s.mo s.R) < 2*s.mo/\ai (bU s.mo s.R)<=s.mo:=by
 have g1:=h.le;have g2:=h.gl;have g3:=h.tl
 have up:∀j,∀k,k < 4->(af s.R j (s.R j).dropLast k).Sublist (s.R k):=λj k _=>by
  by_cases e:k=j
  . subst e;rw[ay];exact List.dropLast_sublist _
  . rw[au e];exact xk _
 unfold bU;unfold ai lC at*
 by_cases h1:(s.R 0).length+(s.R 2).length < s.mo
 . rw[if_pos h1]
   by_cases h2:2*s.mo<=a7 s.R
   . rw[if_pos h2];refine⟨h.pre.sub (up 3),up 3,?_,?_,?_⟩
     . simp[af];omega
     . unfold a7 at *;simp[af];omega
     . simp[af];omega
   . rw[if_neg h2];exact⟨h.pre,λ_ _=>xk _,h1,by omega,g1⟩
 . rw[if_neg h1]
   by_cases h2:(s.R 0).length < s.mo
   . rw[if_pos h2];refine⟨h.pre.sub (up 2),up 2,?_,?_,?_⟩
     . simp[af];omega
     . unfold a7 at *;simp[af];omega
     . simp[af];omega
   . rw[if_neg h2];refine⟨h.pre.sub (up 0),up 0,?_,?_,?_⟩
     . simp[af];omega
     . unfold a7 at *;simp[af];omega
     . simp[af];omega
theorem Ok.aK(h:Ok s)(k:zy):Ok (s.aK k):=by
 have g1:=h.le;have g2:=h.gl;have g3:=h.tl;unfold St.aK
 by_cases hm:s.mo=0
 . rw[if_pos hm];exact h
 rw[if_neg hm];cases hh:aF s.R k with
 |true=>
  rw[if_pos rfl];have r0:=aI (s.R 0) k;have r1:=aI (s.R 1) k;have r2:=aI (s.R 2) k;have r3:=aI (s.R 3) k
  have hc:(rem (s.R 0) k).length+(rem (s.R 1) k).length+1<=(s.R 0).length+(s.R 1).length:=by
   rcases mv.1 hh with hi|hi
   . have:=eY (h.pre.nd 0 (by omega)) hi;omega
   . have:=eY (h.pre.nd 1 (by omega)) hi;omega
  refine⟨h.pre.put k 1,?_,?_,?_,h.pl⟩
  . show ai (bp s.R k 1)<=s.mo;unfold ai at*;rw[eG,bM (by omega),zv];omega
  . show lC (bp s.R k 1)<=s.mo;unfold lC at*;rw[bM (by omega),bM (by omega)];omega
  . show a7 (bp s.R k 1)<=2*s.mo;unfold a7 at*;rw[eG,bM (by omega),bM (by omega),bM (by omega),zv];omega
 |false=>
 rw[if_neg (by simp)];cases h2:aw (s.R 2) k with
 |true=>rw[if_pos rfl];exact Ag h hm k 2 (xz rfl) (aX.1 h2) hh _ (PR _ _ _ h.pl) _
 |false=>
 rw[if_neg (by simp)];cases h3:aw (s.R 3) k with
 |true=>rw[if_pos rfl];exact Ag h hm k 3 (ja rfl) (aX.1 h3) hh _ (PS _ _ _ h.pl) _
 |false=>
 rw[if_neg (by simp)];obtain⟨p1,p2,p3,p4,p5⟩:=sk h hm;have c:=fb (p:=s.p) (q:=false) p1 (n:=ai (bU s.mo s.R) - (s.mo - 1)) (by omega);have c1:=c.len;have c2:=c.gl;have c3:=c.cz;generalize aY s.p false (bU s.mo s.R) (ai (bU s.mo s.R) - (s.mo - 1))=Q at*;have r0:=aI (Q 0) k;have r1:=aI (Q 1) k;have r2:=aI (Q 2) k;have r3:=aI (Q 3) k;refine⟨c.pre.put k 0,?_,?_,?_,h.pl⟩
 . show ai (bp Q k 0)<=s.mo;unfold ai at*;rw[eG,bM (by omega),zv];omega
 . show lC (bp Q k 0)<=s.mo;unfold lC at*;rw[eG,bM (by omega),zv];omega
 . show a7 (bp Q k 0)<=2*s.mo;unfold a7 at*;rw[eG,bM (by omega),bM (by omega),bM (by omega),zv];omega
theorem vV(h:Ok s)(k:zy):a7 (s.aK k).R<=a7 s.R+1:=by
 unfold St.aK;split
 . exact Nat.le_succ _
 split
 . exact o8 _ _ (by omega)
 split
 . exact zr (o8 _ _ (by omega)) (Nat.succ_le_succ (xf (fb h.pre (by omega)).cz))
 split
 . exact zr (o8 _ _ (by omega)) (Nat.succ_le_succ (xf (fb h.pre (by omega)).cz))
 . rename_i hm _ _ _
   exact zr (o8 _ _ (by omega)) (Nat.succ_le_succ (zr (xf (fb (sk h hm).1 (by omega)).cz) (NL _ _)))
theorem Ok.rm(h:Ok s)(k:zy):Ok (s.rm k):=by
 have g1:=h.le;have g2:=h.gl;have g3:=h.tl;have r0:=aI (s.R 0) k;have r1:=aI (s.R 1) k;have r2:=aI (s.R 2) k;have r3:=aI (s.R 3) k;unfold ai at g1;unfold lC at g2;unfold a7 at g3;refine⟨h.pre.rm k,?_,?_,?_,h.pl⟩
 . show(rem (s.R 0) k).length+(rem (s.R 1) k).length<=s.mo;omega
 . show(rem (s.R 0) k).length+(rem (s.R 2) k).length<=s.mo;omega
 . show(rem (s.R 0) k).length+(rem (s.R 1) k).length+(rem (s.R 2) k).length+(rem (s.R 3) k).length<=2*s.mo;omega
theorem zJ(s:St)(k:zy):a7 (s.rm k).R<=a7 s.R:=by
 have r0:=aI (s.R 0) k;have r1:=aI (s.R 1) k;have r2:=aI (s.R 2) k;have r3:=aI (s.R 3) k;show(rem (s.R 0) k).length+(rem (s.R 1) k).length+(rem (s.R 2) k).length+(rem (s.R 3) k).length<=a7 s.R;unfold a7;omega
theorem EZ(s:St)(k:zy)(hl:ai s.R < s.mo):ai (bp s.R k 0)<=s.mo:=by
 have:=Ac s.R k;unfold ai at*;omega
theorem Ok.ad(h:Ok s)(k:zy):Ok (s.ad k):=by
 unfold St.ad
 by_cases hb:s.bD k=true
 . rw[if_pos hb];have hl:ai s.R < s.mo:=by unfold St.bD at hb;simp at hb;exact hb.2
   have hp:=EZ s k hl;obtain⟨t1,t2,t3,_⟩:=pX hp;exact⟨(h.pre.put k 0).sub λj _=>Ae _ _ j,zr (xf t1) hp,t2,t3,h.pl⟩
 . rw[if_neg hb];exact h
theorem zL(s:St)(k:zy):a7 (s.ad k).R<=a7 s.R+1:=by
 unfold St.ad
 by_cases hb:s.bD k=true
 . rw[if_pos hb];have hl:ai s.R < s.mo:=by unfold St.bD at hb;simp at hb;exact hb.2
   exact zr (pX (EZ s k hl)).2.2.2 (o8 _ _ (by omega))
 . rw[if_neg hb];exact Nat.le_succ _
theorem gX(s:St)(k:Nat):(s.dr.R k).Sublist (s.R k):=by
 show(af s.R (lv s.R s.p false) (s.R (lv s.R s.p false)).dropLast k).Sublist (s.R k)
 by_cases e:k=lv s.R s.p false
 . rw[e,ay];exact List.dropLast_sublist _
 . rw[au e];exact xk _
theorem uI(s:St):a7 s.dr.R<=a7 s.R:=by
 have r0:=(gX s 0).length_le;have r1:=(gX s 1).length_le;have r2:=(gX s 2).length_le;have r3:=(gX s 3).length_le;unfold a7;omega
theorem Ok.dr(h:Ok s):Ok s.dr:=by
 have g1:=h.le;have g2:=h.gl;have r0:=(gX s 0).length_le;have r1:=(gX s 1).length_le;have r2:=(gX s 2).length_le;refine⟨h.pre.sub λk _=>gX s k,?_,?_,zr (uI s) h.tl,h.pl⟩
 . show ai s.dr.R<=s.mo;unfold ai at *;omega
 . show lC s.dr.R<=s.mo;unfold lC at *;omega
theorem Ok.rs(h:Ok s)(n:Nat):Ok (s.rs n):=by
 have c:=fb (p:=min s.p n) (q:=false) h.pre (n:=ai s.R - n) (by omega);have c1:=c.len;have hl:ai (aY (min s.p n) false s.R (ai s.R - n))<=n:=by omega
 obtain⟨t1,t2,t3,_⟩:=pX hl;exact⟨c.pre.sub λj _=>Ae _ _ j,zr (xf t1) hl,t2,t3,Nat.min_le_right _ _⟩
theorem zM(h:Ok s)(n:Nat):a7 (s.rs n).R<=a7 s.R:=by
 have c:=fb (p:=min s.p n) (q:=false) h.pre (n:=ai s.R - n) (by omega);have c1:=c.len;have hl:ai (aY (min s.p n) false s.R (ai s.R - n))<=n:=by omega
 exact zr (pX hl).2.2.2 (xf c.cz)
theorem tE(n:Nat):Ok (St.start n):=
 ⟨⟨λ_ _ _ _ _ h=>absurd h (List.not_mem_nil),λ_ _=>List.nodup_nil⟩,xg _,xg _,xg _,xg _⟩
end
end AR
namespace AR
open Go.RowKit Sg
def Ca(w:zw)(c:Nat)(T:Nat->Prop)(s:St)(b:Nat):Prop:=∃i S,i.c=c/\T=ax i S/\Raw w i S s.mo s.p s.R b/\Ok s/\a7 s.R<=b
def bs(v:Value)(w:zw)(c:Nat)(T:Nat->Prop)(s:St)(b:Nat)(e:Ending)(w':zw):Prop:=e= .returned v/\∃T',Ca w' c T' s b/\aJ w w' T T'
section
variable{w w':zw}{i:Ix}{S:Sx}{c b b':Nat}{T:Nat->Prop}{s:St}{v:Value}{e:Ending}{k:zy}
theorem aL.ca(h:aL v w i S s.mo s.p s.R b e w')(p:Ok s)(ht:a7 s.R<=b):bs v w i.c (ax i S) s b e w':=by
 obtain⟨he,S',hR,hW⟩:=h;exact⟨he,ax i S',⟨i,S',rfl,rfl,hR,p,ht⟩,hW⟩
theorem Ca.lt(h:Ca w c T s b){k:Nat}(hk:T k):k < w.heap.size:=by
 obtain⟨i,S,rfl,rfl,hR,_⟩:=h;exact hR.lt hk
theorem Ca.below(h:Ca w c T s b)(hb:Below w.heap.size w w'):Ca w' c T s b:=by
 obtain⟨i,S,rfl,rfl,hR,hp⟩:=h;exact⟨i,S,rfl,rfl,hR.below hb,hp⟩
theorem Ca.ok(h:Ca w c T s b):Ok s:=by obtain⟨i,S,rfl,rfl,hR,hp,_⟩:=h;exact hp
theorem Ca.cz(h:Ca w c T s b):a7 s.R<=b:=by obtain⟨i,S,rfl,rfl,hR,hp,ht⟩:=h;exact ht
theorem Ca.small(h:Ca w c T s b):∀k,k < 4->∀x∈s.R k,x.size<=maxLen:=by
 obtain⟨i,S,rfl,rfl,hR,_⟩:=h;exact λk hk=>(hR.ls k hk).small
theorem Ca.beside(h:Ca w c T s b){X:Nat->Prop}(ht:ao X w w')(hx:∀k,T k->¬X k):Ca w' c T s b:=by
 obtain⟨i,S,rfl,rfl,hR,hp⟩:=h;exact⟨i,S,rfl,rfl,hR.beside ht hx,hp⟩
end
section
variable(w:zw)(c:Nat)(T:Nat->Prop)(s:St)(b:Nat)(key:zy)(h:Ca w c T s b)
include h
theorem ru:Calls prog 236 #[.pointer (some ⟨c,0,none⟩)] w (br (s.R 2++s.R 3) w):=by
 obtain⟨i,S,rfl,rfl,hR,hp⟩:=h;exact Kb w i S _ _ _ b hR
theorem mT(hs:key.size<=maxLen):Calls prog 237 #[.pointer (some ⟨c,0,none⟩),.string key] w (dq (aF s.R key) w):=by
 obtain⟨i,S,rfl,rfl,hR,hp⟩:=h;exact wj w i S _ _ _ b hR key hs
theorem mS:Calls prog 239 #[.pointer (some ⟨c,0,none⟩)] w (jb (.int .i64 (ai s.R:Int)) w):=by
 obtain⟨i,S,rfl,rfl,hR,hp⟩:=h;exact Da w i S _ _ _ b hR
theorem kt:Calls prog 238 #[.pointer (some ⟨c,0,none⟩)] w (br (s.R 1++s.R 0).reverse w):=by
 obtain⟨i,S,rfl,rfl,hR,hp⟩:=h;exact PJ w i S _ _ _ b hR
theorem kq:Calls prog 235 #[.pointer (some ⟨c,0,none⟩)] w (bs (.tuple #[.string (ah (s.R (lv s.R s.p false))),.bool (bb (s.R (lv s.R s.p false)))]) w c T s.dr b):=by
 obtain⟨i,S,rfl,rfl,hR,hp,ht⟩:=h;exact(PK w i S _ _ _ b hR).mono λe w' q=>aL.ca (s:=s.dr) q hp.dr (zr (uI s) ht)
theorem ix(hs:key.size<=maxLen):Calls prog 240 #[.pointer (some ⟨c,0,none⟩),.string key] w (bs (.bool (aF s.R key)) w c T (s.rm key) b):=by
 obtain⟨i,S,rfl,rfl,hR,hp,ht⟩:=h;exact(wm w i S _ _ _ b hR key hs).mono λe w' q=>aL.ca (s:=s.rm key) q (hp.rm key) (zr (zJ s key) ht)
theorem jC(hs:key.size<=maxLen)(hb:b<=980):Calls prog 234 #[.pointer (some ⟨c,0,none⟩),.string key] w (bs (.bool (s.bD key)) w c T (s.ad key) (b+1)):=by
 obtain⟨i,S,rfl,rfl,hR,hp,ht⟩:=h;have gn:=zr (zL s key) (Nat.succ_le_succ ht);have fo:=hp.ad key;cases hi:aF s.R key with
 |true=>
  have e1:s.bD key=false:=by simp[St.bD,hi]
  have e2:s.ad key=s:=by unfold St.ad;rw[e1];rfl
  rw[e1,e2];refine(jB w i S _ _ _ b key hR hs hi).mono λe w' ⟨he,S',r,hW⟩=>?_;exact⟨he,_,⟨i,S',rfl,rfl,r.mono (by omega),hp,by omega⟩,hW⟩
 |false=>
  by_cases hf:ai s.R < s.mo
  . have e1:s.bD key=true:=by simp[St.bD,hi,hf]
    rw[e1];refine(gH w i S _ _ _ b key hR hs hi hf (by omega)).mono λe w' q=>?_;unfold St.ad at fo gn|-;rw[if_pos e1] at fo gn|-;exact aL.ca q fo gn
  . have e1:s.bD key=false:=by simp[St.bD,hi,hf]
    have e2:s.ad key=s:=by unfold St.ad;rw[e1];rfl
    rw[e1,e2];refine(gG w i S _ _ _ b key hR hs hi (by unfold ai at hf;omega)).mono λe w' ⟨he,S',r,hW⟩=>?_;exact⟨he,_,⟨i,S',rfl,rfl,r.mono (by omega),hp,by omega⟩,hW⟩
theorem gF(hs:key.size<=maxLen)(hb:b<=980):Calls prog 241 #[.pointer (some ⟨c,0,none⟩),.string key] w (bs (s.step key) w c T (s.aK key) (b+1)):=by
 obtain⟨i,S,rfl,rfl,hR,hp,ht⟩:=h;have gn:=zr (vV hp key) (Nat.succ_le_succ ht);have fo:=hp.aK key
 by_cases hm:s.mo=0
 . obtain⟨z0,z1⟩:=hp.zero hm;have e2:s.aK key=s:=by unfold St.aK;rw[if_pos hm]
   have e1:s.step key= .agg #[.bool false,.string ⟨#[]⟩,.bool false]:=by
    unfold St.step St.vs;rw[if_pos hm,pa.2 ⟨by rw[z0];simp,by rw[z1];simp⟩];rfl
   rw[e1,e2];refine(jA w i S _ _ _ b key hR hm).mono λe w' ⟨he,S',r,hW⟩=>?_;exact⟨he,_,⟨i,S',rfl,rfl,r.mono (by omega),hp,by omega⟩,hW⟩
 have iX:s.mo=s.mo - 1+1:=by omega
 cases hh:aF s.R key with
 |true=>
  have e2:s.aK key=⟨s.mo,s.p,bp s.R key 1⟩:=by unfold St.aK;rw[if_neg hm,if_pos hh]
  have e1:s.step key= .agg #[.bool true,.string (bP []),.bool (!([]:zY).isEmpty)]:=by
   unfold St.step St.vs;rw[if_neg hm,if_pos hh,hh]
  rw[e2] at fo gn;rw[e1,e2];exact(oL w i S _ _ _ b key hR hs (s.mo - 1) iX (by omega) hh).mono λe w' q=>aL.ca (s:=⟨s.mo,s.p,bp s.R key 1⟩) q fo gn
 |false=>
 have nh:¬aF s.R key=true:=by rw[hh];simp
 cases h2:aw (s.R 2) key with
 |true=>
  have e2:s.aK key=⟨s.mo,gU s.mo s.p s.R,bp (aY (gU s.mo s.p s.R) false s.R (ai s.R - (s.mo - 1))) key 1⟩:=by unfold St.aK;rw[if_neg hm,if_neg nh,if_pos h2]
  have e1:s.step key= .agg #[.bool false,.string (bP (outs (gU s.mo s.p s.R) false s.R (ai s.R - (s.mo - 1)))),.bool (!(outs (gU s.mo s.p s.R) false s.R (ai s.R - (s.mo - 1))).isEmpty)]:=by
   unfold St.step St.vs;rw[if_neg hm,if_neg nh,if_pos h2,hh]
  rw[e2] at fo gn;rw[e1,e2];exact(NH w i S _ _ _ b key hR hs (s.mo - 1) iX (by omega) hh h2 ht hp.pl).mono λe w' q=>aL.ca (s:=⟨s.mo,_,_⟩) q fo gn
 |false=>
 have n2:¬aw (s.R 2) key=true:=by rw[h2];simp
 cases h3:aw (s.R 3) key with
 |true=>
  have e2:s.aK key=⟨s.mo,gV s.p s.R,bp (aY (gV s.p s.R) true s.R (ai s.R - (s.mo - 1))) key 1⟩:=by unfold St.aK;rw[if_neg hm,if_neg nh,if_neg n2,if_pos h3]
  have e1:s.step key= .agg #[.bool false,.string (bP (outs (gV s.p s.R) true s.R (ai s.R - (s.mo - 1)))),.bool (!(outs (gV s.p s.R) true s.R (ai s.R - (s.mo - 1))).isEmpty)]:=by
   unfold St.step St.vs;rw[if_neg hm,if_neg nh,if_neg n2,if_pos h3,hh]
  rw[e2] at fo gn;rw[e1,e2];exact(NI w i S _ _ _ b key hR hs (s.mo - 1) iX (by omega) hh h2 h3 ht hp.pl).mono λe w' q=>aL.ca (s:=⟨s.mo,_,_⟩) q fo gn
 |false=>
  have n3:¬aw (s.R 3) key=true:=by rw[h3];simp
  have e2:s.aK key=⟨s.mo,s.p,bp (aY s.p false (bU s.mo s.R) (ai (bU s.mo s.R) - (s.mo - 1))) key 0⟩:=by unfold St.aK;rw[if_neg hm,if_neg nh,if_neg n2,if_neg n3]
  have e1:s.step key= .agg #[.bool false,.string (bP (gW s.mo s.R++outs s.p false (bU s.mo s.R) (ai (bU s.mo s.R) - (s.mo - 1)))),.bool (!(gW s.mo s.R++outs s.p false (bU s.mo s.R) (ai (bU s.mo s.R) - (s.mo - 1))).isEmpty)]:=by
   unfold St.step St.vs;rw[if_neg hm,if_neg nh,if_neg n2,if_neg n3,hh]
  rw[e2] at fo gn;rw[e1,e2];exact(vS w i S _ _ _ b key hR hs (s.mo - 1) iX (by omega) hh h2 h3 ht).mono λe w' q=>aL.ca (s:=⟨s.mo,_,_⟩) q fo gn
theorem iA(z:Int)(hz: -9223372036854775808<=z/\z<=9223372036854775807)(hb:b<=980):Calls prog 242 #[.pointer (some ⟨c,0,none⟩),.int .i64 z] w
 (λe w'=>∃v T',e= .returned v/\Own w' w.heap.size v (outs (min s.p z.toNat) false s.R (ai s.R - z.toNat))/\Ca w' c T' (s.rs z.toNat) b/\aJ w w' T T'/\∀g,v.ownBlock=some g->¬T' g):=by
 obtain⟨i,S,rfl,rfl,hR,hp,ht⟩:=h;refine(Kc w i S _ _ _ b z z.toNat hR hz rfl ht hb).mono ?_;rintro e w' ⟨v,S',he,hO,r,hW,hv⟩;exact⟨v,_,he,hO,⟨i,S',rfl,rfl,r,hp.rs _,zr (zM hp _) ht⟩,hW,hv⟩
end
def GA(s:St)(w:zw)(e:Ending)(w':zw):Prop:=∃c T,e= .returned (.pointer (some ⟨c,0,none⟩))/\Ca w' c T s 0/\(∀k,T k->w.heap.size<=k)/\Below w.heap.size w w'
theorem kV(w:zw)(z:Int)(hz: -9223372036854775808<=z/\z<=9223372036854775807):Calls prog 80 #[.int .i64 z] w (GA (St.start z.toNat) w):=by
 refine(TT w z z.toNat hz rfl).mono ?_;rintro e w' ⟨i,S,he,r,hS,hB⟩;exact⟨i.c,_,he,⟨i,S,rfl,rfl,r,tE _,zg _⟩,hS,hB⟩
section
variable{w0 w w':zw}{c b b':Nat}{T T':Nat->Prop}{s s':St}{xs:zY}{r v:Value}{e:Ending}
end
def uY(w:zw)(S:Nat->Prop)(L:List (Nat × Bool × zy × Bool)):Prop:=∀q∈L,aT w q.1 q.2.1 q.2.2.1 q.2.2.2/\¬S q.1
theorem uY.dS{w w':zw}{S S':Nat->Prop}{L:List (Nat × Bool × zy × Bool)}(h:uY w S L)(ht:aJ w w' S S'):uY w' S' L:=by
 intro q hq;obtain⟨h1,h2⟩:=h q hq;refine⟨(ht.a8.block _ h1.lt h2).trans h1,λhk=>?_⟩;rcases ht.new _ hk with h|h
 . exact h2 h
 . have:=h1.lt;omega
section
variable(w:zw)(a b a' b':Bool)(s t:zy)
theorem Jm:(binOp .neq 49 (.agg #[.bool a,.string s,.bool b]) (.agg #[.bool a,.string s,.bool b])).run prog w= .ok (.bool false) w:=by
 have u1:=underlying4;have u3:=underlying9;have a1:=isAgg4;have a3:=isAgg9;have z1:=sizeOf4;have z3:=sizeOf9;have hS:prog.underlying 49=some (.struct (prog.fieldsOf 49)):=by kernel_rfl
 have hp:prog.stoodInHeld 49=false:=by kernel_rfl
 rw[run_neq_struct,show(10000:Nat)=9999+1 from rfl,run_equalIn_agg w 9999 49 _ _ hS hp];simp only[Program.fieldsOf,underlying49];go_simp
theorem BQ(op:BinOp)(x y:Operand)(xs ys:Array Value):(eqGuard op 49 x y (.agg xs) (.agg ys)).run prog w= .ok () w:=
 run_eqGuard_agg w op 49 x y xs ys (by kernel_rfl)
end
end AR
section
open Sg
structure rI(K K':zY)(mo:Nat)(k:zy)(h:Bool)(v:zy)(o:Bool):Prop where
 GV:h=aw K k
 Dg:o=(!aw K k&&decide (mo<=K.length))
 dW:o=true->v∈K/\v∉K'
 RJ:o=false->v=⟨#[]⟩
 has:k∈K'
 stay:∀x∈K,x∈K'\/(o=true/\x=v)
 old:∀x∈K',x∈K\/x=k
 len:K'.length=K.length+(if h||o then 0 else 1)
structure E4(K K' G G':zY)(v:zy)(ok:Bool):Prop where
 VH:ok=!K.isEmpty
 dW:ok=true->v∈K
 mem:∀x,x∈K'<->x∈K/\(ok=true->x≠v)
 Xe:G'=G
 len:K'.length+(if ok then 1 else 0)=K.length
end
namespace AR
open Go.RowKit Sg
def aC(R:aW):zY:=(R 1++R 0).reverse
def ki(R:aW):zY:=R 2++R 3
theorem cw(R:aW):(aC R).length=ai R:=by unfold aC ai;rw[List.length_reverse,List.length_append];omega
theorem lD{R:aW}{x:zy}:x∈aC R<->aF R x=true:=by
 unfold aC;rw[xl,qd,mv];exact Or.comm
theorem lE(R:aW)(k:zy):aC (bp R k 1)=(rem (R 1) k++rem (R 0) k).reverse++ [k]:=by
 unfold aC;rw[eG,bM (by omega),List.cons_append,List.reverse_cons]
theorem GX(R:aW)(k:zy):(aC (bp R k 1)).getD ((aC (bp R k 1)).length - 1) ⟨#[]⟩=k:=by
 rw[lE,zh,zv,ql,zt,Nat.zero_add,Nat.add_sub_cancel,List.getElem?_concat_length];rfl
theorem E5(R:aW)(k:zy):0 < (aC (bp R k 1)).length:=by rw[lE,zh];simp
section
variable{s:St}{k:zy}
theorem Kd(hm:s.mo≠0)(hh:aF s.R k=true):s.aK k=⟨s.mo,s.p,bp s.R k 1⟩/\s.step k= .agg #[.bool true,.string ⟨#[]⟩,.bool false]:=by
 unfold St.aK St.step St.vs;rw[if_neg hm,if_pos hh,if_neg hm,if_pos hh,hh];exact⟨rfl,rfl⟩
theorem PT(h:Ok s)(hh:aF s.R k=true):ki (bp s.R k 1)=ki s.R:=by
 have no:∀j,2<=j->j < 4->k∉s.R j:=λj h2 h4 hx=>by
  rcases mv.1 hh with hi|hi
  . have:=h.pre.eD 0 j (by omega) h4 k hi hx;omega
  . have:=h.pre.eD 1 j (by omega) h4 k hi hx;omega
 unfold ki;rw[bM (by omega),bM (by omega),aZ (no 2 (by omega) (by omega)),aZ (no 3 (by omega) (by omega))]
theorem Dh(h:Ok s)(hh:aF s.R k=true):(bp s.R k 1 0).length+(bp s.R k 1 1).length=(s.R 0).length+(s.R 1).length/\(bp s.R k 1 0).length<=(s.R 0).length:=by
 rw[eG,bM (by omega),zv];rcases mv.1 hh with hi|hi
 . have h1:=eY (h.pre.nd 0 (by omega)) hi;have h2:k∉s.R 1:=λhx=>by have:=h.pre.eD 0 1 (by omega) (by omega) k hi hx;omega
   rw[aZ h2];omega
 . have h1:=eY (h.pre.nd 1 (by omega)) hi;have h2:k∉s.R 0:=λhx=>by have:=h.pre.eD 0 1 (by omega) (by omega) k hx hi;omega
   rw[aZ h2];omega
theorem pb(R:aW)(k:zy)(j:Nat)(hj:j < 2):aF (bp R k j) k=true:=by
 rw[mv];obtain rfl|rfl:j=0\/j=1:=by omega
 . exact xz (by rw[eG];exact xa)
 . exact ja (by rw[eG];exact xa)
theorem NM(hm:s.mo≠0)(k:zy):aF (s.aK k).R k=true:=by
 unfold St.aK;rw[if_neg hm];split
 . exact pb _ _ 1 (by omega)
 split
 . exact pb _ _ 1 (by omega)
 split
 . exact pb _ _ 1 (by omega)
 . exact pb _ _ 0 (by omega)
end
theorem mw{R:aW}{p:Nat}{q:Bool}(h:Pre R):∀{n:Nat},n<=ai R->∀x∈outs p q R n,(x∈aY p q R n 2\/x∈aY p q R n 3)/\(x∈R 0\/x∈R 1)
 |0,_,x,hx=>by cases hx
 |n+1,hn,x,hx=>by
  have c:=fb (p:=p) (q:=q) h (n:=n) (by omega);have hl:=c.len;have ji:0 < ai (aY p q R n):=by omega
  have d:=BP (p:=p) (q:=q) c.pre ji;have hx:x∈outs p q R n++ [ah (aY p q R n (lv (aY p q R n) p q))]:=hx;show(x∈dy p q (aY p q R n) 2\/x∈dy p q (aY p q R n) 3)/\_;rcases List.mem_append.1 hx with h1|h1
  . obtain⟨h2,h3⟩:=mw h (n:=n) (by omega) x h1;exact⟨h2.imp (d.gh 2 (by omega) (by omega) x) (d.gh 3 (by omega) (by omega) x),h3⟩
  . rw[qo] at h1;have h0:=js (p:=p) (q:=q) ji;have Jn:x∈aY p q R n (lv (aY p q R n) p q):=h1▸fh h0;refine⟨?_,?_⟩
    . rw[o7 c.pre ji];rcases fq (aY p q R n) p q with e|e
      . rw[e] at h1|-;exact xz (by rw[ay,<-h1];exact xa)
      . rw[e] at h1|-;exact ja (by rw[ay,<-h1];exact xa)
    . have hr:∀m,m<=n->∀j,j < 2->(aY p q R m j).Sublist (R j):=λm=>by
       induction m with
       |zero=>exact λ_ _ _=>xk _
       |succ m ih=>
        intro hm j hj;have cm:=fb (p:=p) (q:=q) h (n:=m) (by omega);have cl:=cm.len;show(dy p q (aY p q R m) j).Sublist (R j);rw[o7 cm.pre (by omega),au (by omega)]
        by_cases e:j=lv (aY p q R m) p q
        . rw[e,ay,<-e];exact(List.dropLast_sublist _).trans (ih (by omega) j hj)
        . rw[au e];exact ih (by omega) j hj
      rcases fq (aY p q R n) p q with e|e
      . rw[e] at Jn;exact xz ((hr n (zg _) 0 (by omega)).subset Jn)
      . rw[e] at Jn;exact ja ((hr n (zg _) 1 (by omega)).subset Jn)
theorem Ah{vs:zY}(h:(!vs.isEmpty)=true):bP vs∈vs:=by
 have hn:vs≠ []:=λe=>by rw[e] at h;cases h
 unfold bP;rw[if_neg hn];exact fh (List.length_pos_iff.2 hn)
section
variable{s:St}{k:zy}
theorem ot(h:Ok s)(hk:k∈s.R 2\/k∈s.R 3):aF s.R k=false:=by
 rw[pa];rcases hk with hk|hk
 . exact⟨λhx=>by have:=h.pre.eD 0 2 (by omega) (by omega) k hx hk;omega,λhx=>by have:=h.pre.eD 1 2 (by omega) (by omega) k hx hk;omega⟩
 . exact⟨λhx=>by have:=h.pre.eD 0 3 (by omega) (by omega) k hx hk;omega,λhx=>by have:=h.pre.eD 1 3 (by omega) (by omega) k hx hk;omega⟩
theorem GY(h:Ok s)(hk:k∈s.R 2\/k∈s.R 3)(p:Nat)(q:Bool):∀x∈outs p q s.R (ai s.R - (s.mo - 1)),aw (ki (bp (aY p q s.R (ai s.R - (s.mo - 1))) k 1)) x=true:=by
 intro x hx;obtain⟨h1,h2⟩:=mw h.pre (by omega) x hx
 have al:x≠k:=λe=>by
  have:=pa.1 (ot h hk);subst e;exact h2.elim this.1 this.2
 rw[aX];unfold ki;rw[bM (by omega),bM (by omega),qd];exact h1.imp (λh=>dQ.2 ⟨h,al⟩) λh=>dQ.2 ⟨h,al⟩
theorem GZ(h:Ok s)(hm:s.mo≠0)(hk:k∈s.R 2\/k∈s.R 3):∃v o,s.step k= .agg #[.bool false,.string v,.bool o]/\(o=true->aw (ki (s.aK k).R) v=true)/\aF (s.aK k).R k=true/\aw (ki (s.aK k).R) k=false/\
 (aC (s.aK k).R).getD ((aC (s.aK k).R).length - 1) ⟨#[]⟩=k/\0 < (aC (s.aK k).R).length:=by
 have hh:=ot h hk;have nh:¬aF s.R k=true:=by rw[hh];simp
 have fin:∀p q,s.aK k=⟨s.mo,p,bp (aY p q s.R (ai s.R - (s.mo - 1))) k 1⟩->s.vs k=outs p q s.R (ai s.R - (s.mo - 1))->∃v o,s.step k= .agg #[.bool false,.string v,.bool o]/\(o=true->aw (ki (s.aK k).R) v=true)/\aF (s.aK k).R k=true/\aw (ki (s.aK k).R) k=false/\
  (aC (s.aK k).R).getD ((aC (s.aK k).R).length - 1) ⟨#[]⟩=k/\0 < (aC (s.aK k).R).length:=λp q e1 e2=>by
  refine⟨bP (s.vs k),!(s.vs k).isEmpty,by unfold St.step;rw[hh],λho=>?_,?_⟩
  . rw[e1];have:=Ah ho;rw[e2] at this|-;exact GY h hk p q _ this
  . rw[e1];refine⟨pb _ _ 1 (by omega),?_,GX _ _,E5 _ _⟩;rw[bz];show k∉bp _ k 1 2++bp _ k 1 3;rw[bM (by omega),bM (by omega),qd];exact λhx=>hx.elim eP eP
 cases h2:aw (s.R 2) k with
 |true=>
  exact fin (gU s.mo s.p s.R) false (by unfold St.aK;rw[if_neg hm,if_neg nh,if_pos h2]) (by unfold St.vs;rw[if_neg hm,if_neg nh,if_pos h2])
 |false=>
  have n2:¬aw (s.R 2) k=true:=by rw[h2];simp
  have h3:aw (s.R 3) k=true:=by
   rw[aX];exact hk.resolve_left (bz.1 h2)
  exact fin (gV s.p s.R) true (by unfold St.aK;rw[if_neg hm,if_neg nh,if_neg n2,if_pos h3]) (by unfold St.vs;rw[if_neg hm,if_neg nh,if_neg n2,if_pos h3])
end
section
variable{s:St}{k:zy}
theorem G3(h:Ok s)(hm:s.mo≠0)(hh:aF s.R k=false)(h2:aw (s.R 2) k=false)(h3:aw (s.R 3) k=false):
 ∀x∈s.vs k,aF (s.aK k).R x=false:=by
 intro x hx;have n1:¬aF s.R k=true:=by rw[hh];simp
 have n2:¬aw (s.R 2) k=true:=by rw[h2];simp
 have n3:¬aw (s.R 3) k=true:=by rw[h3];simp
 have e:s.aK k=⟨s.mo,s.p,bp (aY s.p false (bU s.mo s.R) (ai (bU s.mo s.R) - (s.mo - 1))) k 0⟩:=by unfold St.aK;rw[if_neg hm,if_neg n1,if_neg n2,if_neg n3]
 have ev:s.vs k=gW s.mo s.R++outs s.p false (bU s.mo s.R) (ai (bU s.mo s.R) - (s.mo - 1)):=by unfold St.vs;rw[if_neg hm,if_neg n1,if_neg n2,if_neg n3]
 rw[ev] at hx;obtain⟨p1,p2,p3,p4,p5⟩:=sk h hm;have Jo:=pa.1 hh;rcases List.mem_append.1 hx with hx|hx
 .
  unfold gW at hx
  by_cases c1:(s.R 0).length+(s.R 2).length < s.mo
  . rw[if_pos c1] at hx;cases hx
  rw[if_neg c1] at hx
  by_cases c2:(s.R 0).length < s.mo
  . rw[if_pos c2] at hx;cases hx
  rw[if_neg c2,qo] at hx;have g1:=h.le;have jI:bU s.mo s.R=af s.R 0 (s.R 0).dropLast:=by unfold bU;rw[if_neg c1,if_neg c2]
  have hz:ai (af s.R 0 (s.R 0).dropLast) - (s.mo - 1)=0:=by unfold ai at *;simp[af];omega
  have ji:0 < (s.R 0).length:=by omega
  have qH:x∈s.R 0:=hx▸fh ji;have al:x≠k:=λe=>Jo.1 (e▸qH);rw[e,jI,hz];show aF (bp (af s.R 0 (s.R 0).dropLast) k 0) x=false;rw[pa,eG,bM (by omega),ay,au (by omega)];refine⟨λhc=>?_,λhc=>?_⟩
  . rcases List.mem_cons.1 hc with hc|hc
    . exact al hc
    . have:=(dQ.1 hc).1;rw[hx] at this;exact Ad (h.pre.nd 0 (by omega)) ji this
  . have:=h.pre.eD 0 1 (by omega) (by omega) x qH (dQ.1 hc).1;omega
 . obtain⟨g1,g2⟩:=mw p1 (by omega) x hx
   have al:x≠k:=λe=>by
    subst e;exact g2.elim (λhc=>Jo.1 ((p2 0 (by omega)).subset hc)) λhc=>Jo.2 ((p2 1 (by omega)).subset hc)
   have fo:=h.aK k;refine ot fo ?_;rw[e];show x∈bp _ k 0 2\/x∈bp _ k 0 3;rw[bM (by omega),bM (by omega)];exact g1.imp (λh=>dQ.2 ⟨h,al⟩) λh=>dQ.2 ⟨h,al⟩
theorem G4(h:Ok s)(hm:s.mo≠0)(ho:(!(s.vs k).isEmpty)=true):aF s.R k=false/\aF (s.aK k).R (bP (s.vs k))=false:=by
 have hv:=Ah ho;cases hh:aF s.R k with
 |true=>
  have:s.vs k= []:=by unfold St.vs;rw[if_neg hm,if_pos hh]
  rw[this] at ho;cases ho
 |false=>
 refine⟨rfl,?_⟩
 have ghost:(k∈s.R 2\/k∈s.R 3)->aF (s.aK k).R (bP (s.vs k))=false:=λhk=>by
  obtain⟨v,o,kT,fQ,_⟩:=GZ h hm hk;unfold St.step at kT;injection kT with kT
  have e1:=congrArg (λa:Array Value=>a[1]?) kT;have e2:=congrArg (λa:Array Value=>a[2]?) kT;simp only[List.getElem?_toArray,List.getElem?_cons_succ,List.getElem?_cons_zero,Option.some.injEq,Value.string.injEq,Value.bool.injEq] at e1 e2;rw[e1];rw[e2] at ho;have:=fQ ho;rw[aX] at this;exact ot (h.aK k) (List.mem_append.1 this)
 cases h2:aw (s.R 2) k with
 |true=>exact ghost (xz (aX.1 h2))
 |false=>
 cases h3:aw (s.R 3) k with
 |true=>exact ghost (ja (aX.1 h3))
 |false=>exact G3 h hm hh h2 h3 _ hv
theorem NN(h:Ok s)(hm:s.mo≠0):∀x∈s.vs k,x∈s.R 0\/x∈s.R 1:=by
 intro x hx;unfold St.vs at hx;rw[if_neg hm] at hx;split at hx
 . cases hx
 split at hx
 . exact(mw h.pre (by omega) x hx).2
 split at hx
 . exact(mw h.pre (by omega) x hx).2
 obtain⟨p1,p2,_⟩:=sk h hm;rcases List.mem_append.1 hx with hx|hx
 . unfold gW at hx;split at hx
   . cases hx
   split at hx
   . cases hx
   . rename_i c2
     rw[qo] at hx;exact xz (hx▸fh (by omega))
 . exact(mw p1 (by omega) x hx).2.imp (λhc=>(p2 0 (by omega)).subset hc) λhc=>(p2 1 (by omega)).subset hc
end
theorem Ai(p:Nat)(q:Bool)(R:aW):∀n,(outs p q R n).length=n
 |0=>rfl
 |n+1=>by show(outs p q R n++ [_]).length=_;rw[zh,Ai p q R n];rfl
theorem E6{R:aW}{p:Nat}{q:Bool}(h:Pre R)(hl:0 < ai R){x:zy}(hx:x∈R 0\/x∈R 1):(x∈dy p q R 0\/x∈dy p q R 1)\/x=ah (R (lv R p q)):=by
 have h0:=js (p:=p) (q:=q) hl
 have split:∀xs:zY,0 < xs.length->x∈xs->x∈xs.dropLast\/x=ah xs:=λxs hp hm=>by
  have hn:xs≠ []:=λe=>by rw[e] at hp;exact Nat.lt_irrefl _ hp
  have e:xs.dropLast++ [ah xs]=xs:=by
   unfold ah;rw[qw,qz hn];exact List.dropLast_concat_getLast hn
  rw[← e] at hm;rcases List.mem_append.1 hm with h|h
  . exact xz h
  . exact ja (List.mem_singleton.1 h)
 rw[o7 h hl];rcases fq R p q with e|e <;> rw[e] at h0|-
 . rcases hx with hx|hx
   . rcases split _ h0 hx with hs|hs
     . exact xz (xz (by rw[au (by omega),ay];exact hs))
     . exact ja hs
   . exact xz (ja (by rw[au (by omega),au (by omega)];exact hx))
 . rcases hx with hx|hx
   . exact xz (xz (by rw[au (by omega),au (by omega)];exact hx))
   . rcases split _ h0 hx with hs|hs
     . exact xz (ja (by rw[au (by omega),ay];exact hs))
     . exact ja hs
theorem wY{R:aW}{p:Nat}{q:Bool}(h:Pre R):∀{n:Nat},n<=ai R->∀x,x∈R 0\/x∈R 1->(x∈aY p q R n 0\/x∈aY p q R n 1)\/x∈outs p q R n
 |0,_,_,hx=>xz hx
 |n+1,hn,x,hx=>by
  have c:=fb (p:=p) (q:=q) h (n:=n) (by omega);have hl:=c.len;show(x∈dy p q (aY p q R n) 0\/x∈dy p q (aY p q R n) 1)\/x∈outs p q R n++ [_];rcases wY h (n:=n) (by omega) x hx with h1|h1
  . rcases E6 (p:=p) (q:=q) c.pre (by omega) h1 with h2|h2
    . exact xz h2
    . exact ja (qx _ (by rw[h2];exact xa))
  . exact ja (qq _ h1)
theorem kF{R:aW}{p:Nat}{q:Bool}(h:Pre R):∀{n:Nat},n<=ai R->∀j,j < 2->(aY p q R n j).Sublist (R j)
 |0,_,_,_=>xk _
 |n+1,hn,j,hj=>by
  have c:=fb (p:=p) (q:=q) h (n:=n) (by omega);have hl:=c.len;show(dy p q (aY p q R n) j).Sublist (R j);rw[o7 c.pre (by omega),au (by omega)]
  by_cases e:j=lv (aY p q R n) p q
  . rw[e,ay,<-e];exact(List.dropLast_sublist _).trans (kF h (n:=n) (by omega) j hj)
  . rw[au e];exact kF h (n:=n) (by omega) j hj
theorem gN{R:aW}{x:zy}:x∈aC R<->x∈R 0\/x∈R 1:=by rw[lD,mv]
theorem pY(R:aW)(k:zy):aw (aC R) k=aF R k:=by rw[Bool.eq_iff_iff,aX,lD]
theorem kH{Q:aW}{k x:zy}{j:Nat}(hj:j < 2):x∈aC (bp Q k j)<->x=k\/(x≠k/\(x∈Q 0\/x∈Q 1)):=by
 rw[gN];obtain rfl|rfl:j=0\/j=1:=by omega
 . rw[eG,bM (by omega),qu,dQ,dQ];constructor
   . rintro((h|h)|h)
     . exact xz h
     . exact ja ⟨h.2,xz h.1⟩
     . exact ja ⟨h.2,ja h.1⟩
   . rintro(h|⟨h,h1|h1⟩)
     . exact xz (xz h)
     . exact xz (ja ⟨h1,h⟩)
     . exact ja ⟨h1,h⟩
 . rw[eG,bM (by omega),qu,dQ,dQ];constructor
   . rintro(h|h|h)
     . exact ja ⟨h.2,xz h.1⟩
     . exact xz h
     . exact ja ⟨h.2,ja h.1⟩
   . rintro(h|⟨h,h1|h1⟩)
     . exact ja (xz h)
     . exact xz ⟨h1,h⟩
     . exact ja (ja ⟨h1,h⟩)
theorem E7{Q:aW}{k:zy}{j:Nat}(hj:j < 2)(h0:k∉Q 0)(h1:k∉Q 1):ai (bp Q k j)=ai Q+1:=by
 unfold ai;obtain rfl|rfl:j=0\/j=1:=by omega
 . rw[eG,bM (by omega),aZ h0,aZ h1,zv];omega
 . rw[eG,bM (by omega),aZ h0,aZ h1,zv];omega
section
variable{s:St}{k:zy}
theorem E8(h:Ok s)(hm:s.mo≠0)(hh:aF s.R k=false)(P:aW)(D:zY)(p:Nat)(q:Bool)(j:Nat)(hj:j < 2)(hp:Pre P)(hsub:∀i,i < 2->(P i).Sublist (s.R i))(hD:∀x,x∈s.R 0\/x∈s.R 1->(x∈P 0\/x∈P 1)\/x∈D)(hDl:ai P+D.length=ai s.R)(hD1:D.length<=1)(hD2:D.length=1->s.mo<=ai s.R)
 (er:s.aK k=⟨s.mo,(s.aK k).p,bp (aY p q P (ai P - (s.mo - 1))) k j⟩) (ev:s.vs k=D++outs p q P (ai P - (s.mo - 1))):
 rI (aC s.R) (aC (s.aK k).R) s.mo k (aF s.R k) (bP (s.vs k)) (!(s.vs k).isEmpty):=by
 have hle:=h.le;have hk:=pa.1 hh;have I6:(s.vs k).length=D.length+(ai P - (s.mo - 1)):=by rw[ev,zh,Ai]
 have c:=fb (p:=p) (q:=q) hp (n:=ai P - (s.mo - 1)) (by omega);have ET:=c.len;have KT:k∉aY p q P (ai P - (s.mo - 1)) 0:=λhx=>hk.1 ((hsub 0 (by omega)).subset ((kF hp (by omega) 0 (by omega)).subset hx));have wH:k∉aY p q P (ai P - (s.mo - 1)) 1:=λhx=>hk.2 ((hsub 1 (by omega)).subset ((kF hp (by omega) 1 (by omega)).subset hx))
 have NQ:(!(s.vs k).isEmpty)=decide (s.mo<=ai s.R):=by
  rw[Bool.eq_iff_iff,Bool.not_eq_true',List.isEmpty_eq_false_iff,<-List.length_pos_iff,decide_eq_true_eq,I6];constructor
  . intro h1
    by_cases h2:D.length=1
    . exact hD2 h2
    . omega
  . intro h1;omega
 have Lv:(s.vs k).length<=1:=by rw[I6];omega
 refine⟨(pY _ _).symm,by rw[pY,hh,cw,NQ];rfl,λho=>⟨?_,?_⟩,λho=>?_,lD.2 (NM hm k),λx hx=>?_,λx hx=>?_,?_⟩
 . exact gN.2 (NN h hm _ (Ah ho))
 . rw[lD,(G4 h hm ho).2];simp
 . have:s.vs k= []:=by rwa[Bool.not_eq_false',List.isEmpty_iff] at ho
   rw[this];rfl
 . have ob:=gN.1 hx;have jn:x≠k:=λe=>by subst e;exact ob.elim hk.1 hk.2
   have key:x∈s.vs k->(!(s.vs k).isEmpty)=true/\x=bP (s.vs k):=λhv=>by
    have cC:0 < (s.vs k).length:=List.length_pos_of_mem hv;have RK:=hv;obtain⟨y,hy⟩:=List.length_eq_one_iff.1 (show(s.vs k).length=1 by omega);rw[hy] at hv|-;exact⟨rfl,List.mem_singleton.1 hv⟩
   rcases hD x ob with h1|h1
   . rcases wY (p:=p) (q:=q) hp (n:=ai P - (s.mo - 1)) (by omega) x h1 with h2|h2
     . rw[er];exact xz ((kH hj).2 (ja ⟨jn,h2⟩))
     . exact ja (key (by rw[ev];exact qx _ h2))
   . exact ja (key (by rw[ev];exact qq _ h1))
 . rw[er] at hx;rcases(kH hj).1 hx with h1|⟨_,h1⟩
   . exact ja h1
   . refine xz (gN.2 (h1.imp (λh2=>(hsub 0 (by omega)).subset ((kF hp (by omega) 0 (by omega)).subset h2)) λh2=>(hsub 1 (by omega)).subset ((kF hp (by omega) 1 (by omega)).subset h2)))
 . rw[cw,cw,er,hh,NQ];show ai (bp (aY p q P (ai P - (s.mo - 1))) k j)=_;rw[E7 hj KT wH]
   by_cases h1:s.mo<=ai s.R
   . rw[decide_eq_true h1];simp;omega
   . rw[decide_eq_false h1];simp;omega
theorem kP(h:Ok s)(hm:s.mo≠0)(k:zy):rI (aC s.R) (aC (s.aK k).R) s.mo k (aF s.R k) (bP (s.vs k)) (!(s.vs k).isEmpty):=by
 cases hh:aF s.R k with
 |true=>
  have ev:s.vs k= []:=by unfold St.vs;rw[if_neg hm,if_pos hh]
  obtain⟨er,_⟩:=Kd hm hh;have hc:=Dh h hh;rw[ev,er];refine⟨by rw[pY,hh],by rw[pY,hh];rfl,λho=>(by cases ho),λ_=>rfl,(kH (by omega)).2 (xz rfl),λx hx=>xz ?_,λx hx=>?_,?_⟩
  . by_cases e:x=k
    . exact(kH (by omega)).2 (xz e)
    . exact(kH (by omega)).2 (ja ⟨e,gN.1 hx⟩)
  . exact((kH (by omega)).1 hx).elim ja λh1=>xz (gN.2 h1.2)
  . rw[cw,cw];unfold ai;simp only[Bool.true_or,if_true];omega
 |false=>
 have nh:¬aF s.R k=true:=by rw[hh];simp
 have base:=E8 h hm hh s.R [] (hp:=h.pre) (hsub:=λi _=>xk _) (hD:=λx hx=>xz hx) (hDl:=rfl) (hD1:=by simp) (hD2:=by simp);rw[hh] at base;cases h2:aw (s.R 2) k with
 |true=>exact base (gU s.mo s.p s.R) false 1 (by omega) (by unfold St.aK;rw[if_neg hm,if_neg nh,if_pos h2]) (by unfold St.vs;rw[if_neg hm,if_neg nh,if_pos h2];rfl)
 |false=>
 have n2:¬aw (s.R 2) k=true:=by rw[h2];simp
 cases h3:aw (s.R 3) k with
 |true=>exact base (gV s.p s.R) true 1 (by omega) (by unfold St.aK;rw[if_neg hm,if_neg nh,if_neg n2,if_pos h3]) (by unfold St.vs;rw[if_neg hm,if_neg nh,if_neg n2,if_pos h3];rfl)
 |false=>
 have n3:¬aw (s.R 3) k=true:=by rw[h3];simp
 obtain⟨p1,p2,p3,p4,p5⟩:=sk h hm;have hle:=h.le;have er:s.aK k=⟨s.mo,(s.aK k).p,bp (aY s.p false (bU s.mo s.R) (ai (bU s.mo s.R) - (s.mo - 1))) k 0⟩:=by unfold St.aK;rw[if_neg hm,if_neg nh,if_neg n2,if_neg n3]
 have ev:s.vs k=gW s.mo s.R++outs s.p false (bU s.mo s.R) (ai (bU s.mo s.R) - (s.mo - 1)):=by unfold St.vs;rw[if_neg hm,if_neg nh,if_neg n2,if_neg n3]
 have hb:=E8 h hm hh (bU s.mo s.R) (gW s.mo s.R) s.p false 0 (by omega) p1 (λi hi=>p2 i (by omega));rw[hh] at hb;refine hb ?_ ?_ ?_ ?_ er ev
 . intro x hx;unfold bU gW
   by_cases c1:(s.R 0).length+(s.R 2).length < s.mo
   . rw[if_pos c1,if_pos c1]
     by_cases c2:2*s.mo<=a7 s.R
     . rw[if_pos c2,au (by omega),au (by omega)];exact xz hx
     . rw[if_neg c2];exact xz hx
   . rw[if_neg c1,if_neg c1]
     by_cases c2:(s.R 0).length < s.mo
     . rw[if_pos c2,if_pos c2,au (by omega),au (by omega)];exact xz hx
     . rw[if_neg c2,if_neg c2,ay,au (by omega)];have hn:s.R 0≠ []:=λe=>by rw[e] at c2;simp at c2;omega
       rcases hx with hx|hx
       . have e:(s.R 0).dropLast++ [ah (s.R 0)]=s.R 0:=by
          unfold ah;rw[qw,qz hn];exact List.dropLast_concat_getLast hn
         rw[← e] at hx;rcases List.mem_append.1 hx with hx|hx
         . exact xz (xz hx)
         . exact ja hx
       . exact xz (ja hx)
 . unfold bU gW ai at*
   by_cases c1:(s.R 0).length+(s.R 2).length < s.mo
   . rw[if_pos c1,if_pos c1]
     by_cases c2:2*s.mo<=a7 s.R
     . rw[if_pos c2];simp[af]
     . rw[if_neg c2];rfl
   . rw[if_neg c1,if_neg c1]
     by_cases c2:(s.R 0).length < s.mo
     . rw[if_pos c2,if_pos c2];simp[af]
     . rw[if_neg c2,if_neg c2];simp[af];omega
 . unfold gW;split
   . simp
   . split <;> simp
 . unfold gW ai;split
   . simp
   . split
     . simp
     . intro _;omega
theorem G5(h:Ok s):E4 (aC s.R) (aC s.dr.R) (ki s.R) (ki s.dr.R) (ah (s.R (lv s.R s.p false))) (bb (s.R (lv s.R s.p false))):=by
 have hg:ki s.dr.R=ki s.R:=by
  have h4:=fq s.R s.p false;unfold ki;show af s.R (lv s.R s.p false) (s.R (lv s.R s.p false)).dropLast 2++af s.R (lv s.R s.p false) (s.R (lv s.R s.p false)).dropLast 3=_;rw[au (by omega),au (by omega)]
 by_cases hl:ai s.R=0
 . have z0:s.R 0= []:=List.eq_nil_of_length_eq_zero (by unfold ai at hl;omega);have z1:s.R 1= []:=List.eq_nil_of_length_eq_zero (by unfold ai at hl;omega);have hk:aC s.R= []:=by unfold aC;rw[z0,z1];rfl
   have hz:s.R (lv s.R s.p false)= []:=by rcases fq s.R s.p false with e|e <;> rw[e] <;> assumption
   have e:aC s.dr.R= []:=by
    unfold aC;have:=(gX s 0).length_le;have:=(gX s 1).length_le;rw[z0] at*;rw[z1] at*;rw[qe (l:=s.dr.R 0) (by simp_all),qe (l:=s.dr.R 1) (by simp_all)];rfl
   rw[hz,hk,e];refine⟨rfl,λg=>?_,λx=>⟨λg=>?_,λg=>g.1⟩,hg,rfl⟩
   . cases g
   . cases g
 . have h0:=js (p:=s.p) (q:=false) (R:=s.R) (by omega);have h4:=xW s.R s.p false;have h2:=fq s.R s.p false;obtain⟨_,ho⟩:=BO h.pre h4.1 h0;have qH:=fh h0;have hd:∀j,s.dr.R j=af s.R (lv s.R s.p false) (s.R (lv s.R s.p false)).dropLast j:=λ_=>rfl;have hn:s.R (lv s.R s.p false)≠ []:=λe=>by rw[e] at h0;exact Nat.lt_irrefl _ h0
   have sJ:(s.R (lv s.R s.p false)).dropLast++ [ah (s.R (lv s.R s.p false))]=s.R (lv s.R s.p false):=by
    unfold ah;rw[qw,qz hn];exact List.dropLast_concat_getLast hn
   have fQ:ah (s.R (lv s.R s.p false))∈aC s.R:=by
    rw[gN];rcases h2 with e|e <;> rw[e] at qH|-
    . exact xz qH
    . exact ja qH
   rw[kE h0];refine⟨?_,λ_=>fQ,λx=>?_,hg,?_⟩
   . have:(aC s.R).isEmpty=false:=by rw[List.isEmpty_eq_false_iff];exact List.ne_nil_of_mem fQ
     rw[this];rfl
   . rw[gN,gN,hd,hd];constructor
     . intro hx;refine⟨hx.imp (λh=>(gX s 0).subset h) λh=>(gX s 1).subset h,λ_ e=>?_⟩;subst e;exact hx.elim (ho 0 (by omega)) (ho 1 (by omega))
     . rintro⟨hx,al⟩;have al:=al rfl
       have key:∀j,x∈s.R j->x∈af s.R (lv s.R s.p false) (s.R (lv s.R s.p false)).dropLast j:=λj hj=>by
        by_cases e:j=lv s.R s.p false
        . rw[e] at hj|-;rw[ay];rw[← sJ] at hj;exact(List.mem_append.1 hj).elim id λh=>absurd (List.mem_singleton.1 h) al
        . rw[au e];exact hj
       exact hx.imp (key 0) (key 1)
   . rw[cw,cw];unfold ai;rw[hd,hd];rcases h2 with e|e <;> rw[e] at h0|-
     . rw[ay,au (by omega),xu];simp;omega
     . rw[ay,au (by omega),xu];simp;omega
end
end AR
namespace AR
open Go.RowKit Sg
structure Sl where
 A:Option Addr
 n:Nat
 c:Nat
abbrev Sl.v(r:Sl):Value:= .slice r.A r.n r.c
structure SW(w:zw)(P:Nat->Prop)(r:Sl)(L:zY):Prop where
 len:L.length=r.n
 row:∃g,(L≠ []->P g)/\Row w g r.v L
section
variable{w w':zw}{P P':Nat->Prop}{r:Sl}{L:zY}
theorem SW.same(h:SW w P r L)(hs:w.heap.size<=w'.heap.size)(hb:∀g,P g->g < w.heap.size->w'.heap[g]?=w.heap[g]?)(hp:∀g,P g->g < w.heap.size->P' g):SW w' P' r L:=by
 obtain⟨h1,g,h2,h3⟩:=h
 by_cases e:L= []
 . subst e;have hn:r.n=0:=h1.symm;refine⟨h1,g,λh=>absurd rfl h,?_⟩;unfold Sl.v;rw[hn];exact Row.nil _ _ _ _
 . have hl:=h3.lt e;exact⟨h1,g,λ_=>hp g (h2 e) hl,h3.same hs λ_=>hb g (h2 e) hl⟩
theorem SW.below(h:SW w P r L)(hb:Below w.heap.size w w'):SW w' P r L:=h.same hb.size (λg _ hg=>hb.block g hg) λ_ h _=>h
theorem SW.wide(h:SW w P r L)(hp:∀g,P g->g < w.heap.size->P' g):SW w P' r L:=h.same (zg _) (λ_ _ _=>rfl) hp
theorem SW.set(h:SW w P r L){q:Addr}(hq:¬P q.block)(u:Value):SW (w.setCell q u) P r L:=h.same (by simp[World.setCell]) (λg hg _=>qc _ _ _ _ λe=>hq (e▸hg)) λ_ h _=>h
theorem SW.nil(w:zw)(P:Nat->Prop)(A:Option Addr)(c:Nat):SW w P ⟨A,0,c⟩ []:=⟨rfl,0,λh=>absurd rfl h,Row.nil _ _ _ _⟩
theorem SW.le(h:SW w P r L):L.length<=2000:=by obtain⟨_,g,_,h3⟩:=h;exact h3.1
theorem SW.small(h:SW w P r L):∀x∈L,x.size<=maxLen:=by obtain⟨_,g,_,h3⟩:=h;exact h3.2.1
theorem SW.at(h:SW w P r L){k:Nat}(hk:k < L.length):∃g o,P g/\r.A=some ⟨g,o,none⟩/\g < w.heap.size/\w.cell? ⟨g,o+k,none⟩=some (.string (L.getD k ⟨#[]⟩))/\r.n<=r.c/\r.c<=maxLen:=by
 obtain⟨h1,g,h2,h3⟩:=h;have al:L≠ []:=λe=>by rw[e] at hk;exact Nat.not_lt_zero _ hk
 obtain⟨o,a1,a2,a3,a4,a5⟩:=h3.at hk;exact⟨g,o,h2 al,a1,a2,a3,h1▸a4,a5⟩
theorem SW.made{base:Nat}{v:Value}(h:Own w base v L)(hP:∀k,base<=k->P k):∃r:Sl,v=r.v/\SW w P r L:=by
 obtain⟨A,c,rfl⟩:=h.len;obtain⟨g,hg,hr⟩:=h.row;exact⟨⟨A,L.length,c⟩,rfl,rfl,g,λ_=>hP g hg,hr⟩
end
theorem SW.tail{w:zw}{P:Nat->Prop}{r:Sl}{L:zY}(h:SW w P r L)(h0:0 < L.length):
 ∃r':Sl,(∀W:zw,(Instr.sliceAt 30 (.slice r.A r.n r.c) (some (.int .i64 1)) none none).run prog W= .ok (.slice r'.A r'.n r'.c) W)/\
  (∀W:zw,(Instr.slice 30 (.slice r.A r.n r.c) (some (.int .i64 1)) none none).run prog W= .ok (.slice r'.A r'.n r'.c) W)/\SW w P r' L.tail:=by
 obtain⟨h1,g,h2,h3⟩:=h;obtain⟨A',s1,s2,hr⟩:=pJ h3 h1 (p:=1) (by omega);have al:L≠ []:=λe=>by rw[e] at h0;exact Nat.lt_irrefl _ h0
 exact⟨⟨A',r.n - 1,r.c - 1⟩,s1,s2,by rw[List.length_tail,h1],g,λ_=>h2 al,by rw[← List.drop_one];exact hr⟩
abbrev S4:=Nat->Sl
abbrev L4:=Nat->zY
def R4(w:zw)(P:Nat->Prop)(v:S4)(X:L4):Prop:=∀k,k < 4->SW w P (v k) (X k)
def Cl(w:zw)(P:Nat->Prop):Prop:=∀k,w.heap.size<=k->P k
theorem Cl.below{w w':zw}{P:Nat->Prop}(h:Cl w P)(hb:Below w.heap.size w w'):Cl w' P:=λk hk=>h k (zr hb.size hk)
section
variable{w w':zw}{P P':Nat->Prop}{v:S4}{X:L4}
theorem R4.below(h:R4 w P v X)(hb:Below w.heap.size w w'):R4 w' P v X:=λk hk=>(h k hk).below hb
theorem R4.wide(h:R4 w P v X)(hp:∀g,P g->g < w.heap.size->P' g):R4 w P' v X:=λk hk=>(h k hk).wide hp
theorem R4.set(h:R4 w P v X){q:Addr}(hq:¬P q.block)(u:Value):R4 (w.setCell q u) P v X:=λk hk=>(h k hk).set hq u
theorem R4.put(h:R4 w P v X){j:Nat}{r:Sl}{L:zY}(hr:SW w P r L):R4 w P (af v j r) (af X j L):=λk hk=>by
 by_cases e:k=j
 . subst e;rw[ay,ay];exact hr
 . rw[au e,au e];exact h k hk
end
abbrev aU(mo p:Nat)(v:S4):Value:= .agg #[.int .i64 (mo:Int),.int .i64 (p:Int),.slice (v 0).A (v 0).n (v 0).c,.slice (v 1).A (v 1).n (v 1).c,.slice (v 2).A (v 2).n (v 2).c,.slice (v 3).A (v 3).n (v 3).c]
abbrev aM(mo p:Nat)(v:S4):Obj:= .cells #[.int .i64 (mo:Int),.int .i64 (p:Int),.slice (v 0).A (v 0).n (v 0).c,.slice (v 1).A (v 1).n (v 1).c,.slice (v 2).A (v 2).n (v 2).c,.slice (v 3).A (v 3).n (v 3).c] 40
def RB(w:zw)(q mo p:Nat)(v:S4):Prop:=w.heap[q]?=some (.cells #[.int .i64 (mo:Int),.int .i64 (p:Int),.slice (v 0).A (v 0).n (v 0).c,.slice (v 1).A (v 1).n (v 1).c,.slice (v 2).A (v 2).n (v 2).c,.slice (v 3).A (v 3).n (v 3).c] 40 (0,0))
def CT(w:zw)(P:Nat->Prop)(F:Value->Value)(mo p:Nat)(X:L4)(e:Ending)(w':zw):Prop:=
 ∃v:S4,e= .returned (F (aU mo p v))/\R4 w' P v X/\Below w.heap.size w w'
section
variable{w w':zw}{q mo p:Nat}{v:S4}
theorem RB.lt(k:RB w q mo p v):q < w.heap.size:=(Array.getElem?_eq_some_iff.1 k).1
theorem RB.below(k:RB w q mo p v)(hb:Below w.heap.size w w'):RB w' q mo p v:=(hb.block q k.lt).trans k
theorem RB.other(k:RB w q mo p v){x:Addr}(h:q≠x.block)(u:Value):RB (w.setCell x u) q mo p v:=(qc _ _ _ _ h).trans k
theorem RB.c(k:RB w q mo p v):w.cell? ⟨q,0,none⟩=some (.int .i64 (mo:Int))/\w.cell? ⟨q,1,none⟩=some (.int .i64 (p:Int))/\w.cell? ⟨q,2,none⟩=some (.slice (v 0).A (v 0).n (v 0).c)/\w.cell? ⟨q,3,none⟩=some (.slice (v 1).A (v 1).n (v 1).c)/\w.cell? ⟨q,4,none⟩=some (.slice (v 2).A (v 2).n (v 2).c)/\w.cell? ⟨q,5,none⟩=some (.slice (v 3).A (v 3).n (v 3).c):=
 ⟨cell_of_row w _ 0 _ _ _ k,cell_of_row w _ 1 _ _ _ k,cell_of_row w _ 2 _ _ _ k,cell_of_row w _ 3 _ _ _ k,cell_of_row w _ 4 _ _ _ k,cell_of_row w _ 5 _ _ _ k⟩
theorem RB.f(k:RB w q mo p v):w.frozen? ⟨q,0,none⟩=false/\w.frozen? ⟨q,1,none⟩=false/\w.frozen? ⟨q,2,none⟩=false/\w.frozen? ⟨q,3,none⟩=false/\w.frozen? ⟨q,4,none⟩=false/\w.frozen? ⟨q,5,none⟩=false:=
 ⟨frozen_of_row w _ 0 _ _ k,frozen_of_row w _ 1 _ _ k,frozen_of_row w _ 2 _ _ k,frozen_of_row w _ 3 _ _ k,frozen_of_row w _ 4 _ _ k,frozen_of_row w _ 5 _ _ k⟩
theorem RB.eV(k:RB w q mo p v)(u:Nat):RB (w.setCell ⟨q,0,none⟩ (.int .i64 (u:Int))) q u p v:=by unfold RB at *;rw[heap_setCell_same _ _ _ _ _ _ k];rfl
theorem RB.gd(k:RB w q mo p v)(u:Nat):RB (w.setCell ⟨q,1,none⟩ (.int .i64 (u:Int))) q mo u v:=by unfold RB at *;rw[heap_setCell_same _ _ _ _ _ _ k];rfl
theorem RB.dO(k:RB w q mo p v)(r:Sl):RB (w.setCell ⟨q,2,none⟩ (.slice r.A r.n r.c)) q mo p (af v 0 r):=by unfold RB at *;rw[heap_setCell_same _ _ _ _ _ _ k];rfl
theorem RB.eR(k:RB w q mo p v)(r:Sl):RB (w.setCell ⟨q,3,none⟩ (.slice r.A r.n r.c)) q mo p (af v 1 r):=by unfold RB at *;rw[heap_setCell_same _ _ _ _ _ _ k];rfl
theorem RB.fg(k:RB w q mo p v)(r:Sl):RB (w.setCell ⟨q,4,none⟩ (.slice r.A r.n r.c)) q mo p (af v 2 r):=by unfold RB at *;rw[heap_setCell_same _ _ _ _ _ _ k];rfl
theorem RB.nO(k:RB w q mo p v)(r:Sl):RB (w.setCell ⟨q,5,none⟩ (.slice r.A r.n r.c)) q mo p (af v 3 r):=by unfold RB at *;rw[heap_setCell_same _ _ _ _ _ _ k];rfl
abbrev cX(w:zw)(q mo p:Nat)(v:S4):zw:=(((((w.setCell ⟨q,0,none⟩ (.int .i64 (mo:Int))).setCell ⟨q,1,none⟩ (.int .i64 (p:Int))).setCell ⟨q,2,none⟩ (.slice (v 0).A (v 0).n (v 0).c)).setCell ⟨q,3,none⟩ (.slice (v 1).A (v 1).n (v 1).c)).setCell ⟨q,4,none⟩ (.slice (v 2).A (v 2).n (v 2).c)).setCell ⟨q,5,none⟩ (.slice (v 3).A (v 3).n (v 3).c)
theorem RB.put{mo' p':Nat}{v':S4}(k:RB w q mo p v):RB (cX w q mo' p' v') q mo' p' v':=by
 have:=(((((k.eV mo').gd p').dO (v' 0)).eR (v' 1)).fg (v' 2)).nO (v' 3);unfold RB at this|-;exact this
theorem bf(k:RB w q mo p v):(loadVar 40 ⟨q,0,none⟩).run prog w= .ok (aU mo p v) w:=by
 obtain⟨k0,k1,k2,k3,k4,k5⟩:=k.c;unfold loadVar;go_simp
end
end AR
namespace AR
open Sg
def fst(R:aW)(p:Nat)(q:Bool):Bool:=decide (0 < (R 0).length)&&(decide (p < (R 0).length)||(decide ((R 0).length=p)&&q)||decide ((R 1).length=0))
theorem wu{R:aW}{p:Nat}{q:Bool}(h:fst R p q=true):lv R p q=0/\0 < (R 0).length:=by
 unfold fst at h;rw[Bool.and_eq_true,decide_eq_true_eq,Bool.or_eq_true,Bool.or_eq_true,Bool.and_eq_true,decide_eq_true_eq,decide_eq_true_eq,decide_eq_true_eq] at h;refine⟨?_,h.1⟩;unfold lv;rw[if_pos];rcases h.2 with(h2|h2)|h2
 . exact xz h2
 . exact ja (xz ⟨h.1,h2.1,h2.2⟩)
 . exact ja (ja h2)
theorem E9{R:aW}{p:Nat}{q:Bool}(h:fst R p q=false):(lv R p q=1/\0 < (R 1).length)\/(lv R p q=0/\ai R=0):=by
 by_cases h1:(R 1).length=0
 . right
   by_cases h0:0 < (R 0).length
   . unfold fst at h;rw[decide_eq_true h0,decide_eq_true h1] at h;simp at h
   . refine⟨?_,by unfold ai;omega⟩;unfold lv;rw[if_pos (ja (ja h1))]
 . left;refine⟨?_,by omega⟩;unfold lv;rw[if_neg];rintro(e|⟨e1,e2,e3⟩|e)
   . unfold fst at h;rw[decide_eq_true (show 0 < (R 0).length by omega),decide_eq_true e] at h;simp at h
   . unfold fst at h;rw[decide_eq_true e1,decide_eq_true e2,e3] at h;simp at h
   . exact h1 e
theorem G6{R:aW}{mo p:Nat}{q:Bool}(hm:mo≠0)(hl:ai R<=mo):
 aY p q R (ai R - (mo - 1))=(if ai R < mo then R else dy p q R)/\outs p q R (ai R - (mo - 1))=(if ai R < mo then [] else [ah (R (lv R p q))]):=by
 by_cases h:ai R < mo
 . rw[if_pos h,if_pos h,show ai R - (mo - 1)=0 by omega];exact⟨rfl,rfl⟩
 . rw[if_neg h,if_neg h,show ai R - (mo - 1)=1 by omega];exact⟨rfl,rfl⟩
theorem PU{R:aW}{mo p:Nat}(h:p<=mo):gU mo p R=if mo < p+(if(R 3).length / (R 2).length < 1 then 1 else(R 3).length / (R 2).length) then mo else p+(if(R 3).length / (R 2).length < 1 then 1 else(R 3).length / (R 2).length):=by
 unfold gU;generalize(R 3).length / (R 2).length=d
 by_cases h1:d < 1
 . rw[if_pos h1];split <;> omega
 . rw[if_neg h1];split <;> omega
theorem PV{R:aW}{p:Nat}:gV p R=p - (if(R 2).length / (R 3).length < 1 then 1 else(R 2).length / (R 3).length):=by
 unfold gV;generalize(R 2).length / (R 3).length=d
 by_cases h1:d < 1
 . rw[if_pos h1];omega
 . rw[if_neg h1];omega
def RL(R Q:aW):Prop:=∀j,j < 4->R j=Q j
theorem Ke{R:aW}{k:zy}{j:Nat}(h:∀i,i < 4->k∉R i)(hj:j < 4):RL (bp R k j) (af R j (k::R j)):=by
 intro i hi;unfold bp af rF
 by_cases e:i=j
 . rw[if_pos e,if_pos e,aZ (h j hj)]
 . rw[if_neg e,if_neg e,aZ (h i hi)]
theorem G7{R:aW}{mo:Nat}(hl:ai R<=mo)(h1:mo<=(R 0).length+(R 2).length)(h2:mo<=(R 0).length)(Vq:mo≠0)(p:Nat):
 aY p false (bU mo R) (ai (bU mo R) - (mo - 1))=af R 0 (R 0).dropLast/\gW mo R++outs p false (bU mo R) (ai (bU mo R) - (mo - 1))= [ah (R 0)]:=by
 have e1:bU mo R=af R 0 (R 0).dropLast:=by unfold bU;rw[if_neg (by omega),if_neg (by omega)]
 have e2:gW mo R= [ah (R 0)]:=by unfold gW;rw[if_neg (by omega),if_neg (by omega)]
 have e3:ai (af R 0 (R 0).dropLast) - (mo - 1)=0:=by
  unfold ai at hl|-;rw[ay,au (by omega),xu];omega
 rw[e1,e2,e3];exact⟨rfl,rfl⟩
theorem PW{R:aW}{mo:Nat}(h1:mo<=(R 0).length+(R 2).length)(h:(R 0).length < mo):bU mo R=af R 2 (R 2).dropLast:=by unfold bU;rw[if_neg (by omega),if_pos h]
theorem PX{R:aW}{mo:Nat}(h1:(R 0).length+(R 2).length < mo)(h:2*mo<=a7 R):bU mo R=af R 3 (R 3).dropLast:=by unfold bU;rw[if_pos h1,if_pos h]
theorem PY{R:aW}{mo:Nat}(h1:(R 0).length+(R 2).length < mo)(h:a7 R < 2*mo):bU mo R=R:=by unfold bU;rw[if_pos h1,if_neg (by omega)]
theorem NS{s:St}(h:Ok s):(if 0 < (s.R 0).length/\(s.mo<=(s.R 0).length\/fst s.R s.p false=true) then(ah (s.R 0),true) else if 0 < (s.R 1).length then(ah (s.R 1),true) else(⟨#[]⟩,false))=(ah (s.R (lv s.R s.p false)),bb (s.R (lv s.R s.p false))):=by
 have hl:=h.le;unfold ai at hl
 by_cases hc:0 < (s.R 0).length/\(s.mo<=(s.R 0).length\/fst s.R s.p false=true)
 . rw[if_pos hc]
   have e:lv s.R s.p false=0:=by
    rcases hc.2 with h2|h2
    . unfold lv;rw[if_pos (ja (ja (by omega)))]
    . exact(wu h2).1
   rw[e,kE hc.1]
 . rw[if_neg hc];cases hf:fst s.R s.p false with
   |true=>exact absurd ⟨(wu hf).2,ja hf⟩ hc
   |false=>
    rcases E9 hf with⟨e,h1⟩|⟨e,h1⟩
    . rw[if_pos h1,e,kE h1]
    . unfold ai at h1;rw[if_neg (by omega),e,qe (show(s.R 0).length=0 by omega)];rfl
theorem PZ{s:St}(h:Ok s)(h0:0 < ai s.R):RL (rF s.R (ah (s.R (lv s.R s.p false)))) s.dr.R:=by
 have hp:=js (p:=s.p) (q:=false) h0;have h4:=xW s.R s.p false;have hn:s.R (lv s.R s.p false)≠ []:=λe=>by rw[e] at hp;exact Nat.lt_irrefl _ hp
 intro j hj;show rem (s.R j) _=af s.R (lv s.R s.p false) (s.R (lv s.R s.p false)).dropLast j
 by_cases e:j=lv s.R s.p false
 . rw[e,ay];exact(ny (h.pre.nd _ h4.1) hn).1
 . rw[au e,aZ];intro hx;exact e (h.pre.eD j _ hj h4.1 _ hx (fh hp))
end AR
namespace AR
open Go.RowKit Sg
abbrev zV:S4:=λ_=>⟨none,0,0⟩
structure B1(w W:zw)(P:Nat->Prop)(p mo s:Nat)(v:S4)(X:L4):Prop where
 box:RB W p mo s v
 rows:R4 W P v X
 az:Below w.heap.size w W
 low:w.heap.size<=p
 np:¬P p
 cl:Cl W P
structure B2(w W:zw)(P:Nat->Prop)(p q mo s:Nat)(v:S4)(X:L4):Prop where
 b:B1 w W P p mo s v X
 res:RB W q 0 0 zV
 low:w.heap.size<=q
 ne:p≠q
 np:¬P q
def w1(P:Nat->Prop)(p:Nat):Nat->Prop:=λk=>P k/\k≠p
def w2(P:Nat->Prop)(p q:Nat):Nat->Prop:=λk=>P k/\k≠p/\k≠q
section
variable{w W W':zw}{P:Nat->Prop}{p q mo s:Nat}{v v':S4}{X X':L4}{r:Sl}{L:zY}
theorem eQ(W:zw)(x:Addr)(u:Value):(W.setCell x u).heap.size=W.heap.size:=by simp[World.setCell]
theorem cB(h:R4 w P v X)(hP:Cl w P)(mo s:Nat):B1 w (w.alloc (aM mo s v)) (w1 P w.heap.size) w.heap.size mo s v X:=by
 have b1:=(zo w.heap.size w).alloc (zg _) (aM mo s v);refine⟨heap_alloc_new _ _,(h.wide λk hk hl=>⟨hk,by omega⟩).below b1,b1,zg _,λh=>h.2 rfl,λk hk=>?_⟩;have:w.heap.size+1<=k:=by simpa using hk
 exact⟨hP k (by omega),by omega⟩
theorem bF(h:R4 w P v X)(hP:Cl w P)(mo s:Nat):B2 w ((w.alloc (aM mo s v)).alloc (aM 0 0 zV)) (w2 P w.heap.size (w.heap.size+1)) w.heap.size (w.heap.size+1) mo s v X:=by
 have s1:(w.alloc (aM mo s v)).heap.size=w.heap.size+1:=by simp
 have b1:=(zo w.heap.size w).alloc (zg _) (aM mo s v);have b2:=b1.alloc (by rw[s1];omega) (aM 0 0 zV);have q2:=heap_alloc_new (w.alloc (aM mo s v)) (aM 0 0 zV);rw[s1] at q2;refine⟨⟨(qf _ _ _ (by rw[s1];omega)).trans (heap_alloc_new _ _),(h.wide λk hk hl=>⟨hk,by omega,by omega⟩).below b2,b2,zg _,λh=>h.2.1 rfl,λk hk=>?_⟩,q2,by omega,by omega,λh=>h.2.2 rfl⟩;have:w.heap.size+1+1<=k:=by simpa using hk
 exact⟨hP k (by omega),by omega,by omega⟩
theorem B1.below(r:B1 w W P p mo s v X)(hb:Below W.heap.size W W'):B1 w W' P p mo s v X:=⟨r.box.below hb,r.rows.below hb,r.az.trans (hb.mono r.az.size),r.low,r.np,r.cl.below hb⟩
theorem B2.below(r:B2 w W P p q mo s v X)(hb:Below W.heap.size W W'):B2 w W' P p q mo s v X:=⟨r.b.below hb,r.res.below hb,r.low,r.ne,r.np⟩
theorem B1.nG{x:Addr}(r:B1 w W P p mo s v X)(u:Value):Cl (W.setCell x u) P:=λk hk=>r.cl k (by rw[eQ] at hk;exact hk)
theorem B1.any{x:Nat}{u:Value}{mo' s':Nat}{v':S4}{X':L4}(h:B1 w W P p mo s v X)(hb:RB (W.setCell ⟨p,x,none⟩ u) p mo' s' v')(hr:R4 W P v' X'):B1 w (W.setCell ⟨p,x,none⟩ u) P p mo' s' v' X':=
 ⟨hb,hr.set h.np u,h.az.setCell (p:=⟨p,x,none⟩) h.low _,h.low,h.np,h.nG _⟩
theorem B1.dO(h:B1 w W P p mo s v X)(k:SW W P r L):B1 w (W.setCell ⟨p,2,none⟩ (.slice r.A r.n r.c)) P p mo s (af v 0 r) (af X 0 L):=h.any (h.box.dO r) (h.rows.put k)
theorem B1.eR(h:B1 w W P p mo s v X)(k:SW W P r L):B1 w (W.setCell ⟨p,3,none⟩ (.slice r.A r.n r.c)) P p mo s (af v 1 r) (af X 1 L):=h.any (h.box.eR r) (h.rows.put k)
theorem B1.fg(h:B1 w W P p mo s v X)(k:SW W P r L):B1 w (W.setCell ⟨p,4,none⟩ (.slice r.A r.n r.c)) P p mo s (af v 2 r) (af X 2 L):=h.any (h.box.fg r) (h.rows.put k)
theorem B1.nO(h:B1 w W P p mo s v X)(k:SW W P r L):B1 w (W.setCell ⟨p,5,none⟩ (.slice r.A r.n r.c)) P p mo s (af v 3 r) (af X 3 L):=h.any (h.box.nO r) (h.rows.put k)
theorem B1.eV(h:B1 w W P p mo s v X)(u:Nat):B1 w (W.setCell ⟨p,0,none⟩ (.int .i64 (u:Int))) P p u s v X:=h.any (h.box.eV u) h.rows
theorem B1.gd(h:B1 w W P p mo s v X)(u:Nat):B1 w (W.setCell ⟨p,1,none⟩ (.int .i64 (u:Int))) P p mo u v X:=h.any (h.box.gd u) h.rows
theorem B2.on{x:Nat}{u:Value}{mo' s':Nat}{v':S4}{X':L4}(h:B2 w W P p q mo s v X)(k:B1 w (W.setCell ⟨p,x,none⟩ u) P p mo' s' v' X'):B2 w (W.setCell ⟨p,x,none⟩ u) P p q mo' s' v' X':=
 ⟨k,h.res.other (x:=⟨p,x,none⟩) (qa h.ne) u,h.low,h.ne,h.np⟩
theorem B2.dO(h:B2 w W P p q mo s v X)(k:SW W P r L):B2 w (W.setCell ⟨p,2,none⟩ (.slice r.A r.n r.c)) P p q mo s (af v 0 r) (af X 0 L):=h.on (h.b.dO k)
theorem B2.eR(h:B2 w W P p q mo s v X)(k:SW W P r L):B2 w (W.setCell ⟨p,3,none⟩ (.slice r.A r.n r.c)) P p q mo s (af v 1 r) (af X 1 L):=h.on (h.b.eR k)
theorem B2.fg(h:B2 w W P p q mo s v X)(k:SW W P r L):B2 w (W.setCell ⟨p,4,none⟩ (.slice r.A r.n r.c)) P p q mo s (af v 2 r) (af X 2 L):=h.on (h.b.fg k)
theorem B2.nO(h:B2 w W P p q mo s v X)(k:SW W P r L):B2 w (W.setCell ⟨p,5,none⟩ (.slice r.A r.n r.c)) P p q mo s (af v 3 r) (af X 3 L):=h.on (h.b.nO k)
theorem B2.eV(h:B2 w W P p q mo s v X)(u:Nat):B2 w (W.setCell ⟨p,0,none⟩ (.int .i64 (u:Int))) P p q u s v X:=h.on (h.b.eV u)
theorem B2.gd(h:B2 w W P p q mo s v X)(u:Nat):B2 w (W.setCell ⟨p,1,none⟩ (.int .i64 (u:Int))) P p q mo u v X:=h.on (h.b.gd u)
theorem l8{b:Nat}(h:Below b w W)(hq:b<=q)(mo s:Nat)(v:S4):Below b w (cX W q mo s v):=
 (((((h.setCell (p:=⟨q,0,none⟩) hq _).setCell (p:=⟨q,1,none⟩) hq _).setCell (p:=⟨q,2,none⟩) hq _).setCell (p:=⟨q,3,none⟩) hq _).setCell (p:=⟨q,4,none⟩) hq _).setCell (p:=⟨q,5,none⟩) hq _
theorem R4.cX(h:R4 W P v X)(hq:¬P q)(mo s:Nat)(v':S4):R4 (AR.cX W q mo s v') P v X:=
 (((((h.set (q:=⟨q,0,none⟩) hq _).set (q:=⟨q,1,none⟩) hq _).set (q:=⟨q,2,none⟩) hq _).set (q:=⟨q,3,none⟩) hq _).set (q:=⟨q,4,none⟩) hq _).set (q:=⟨q,5,none⟩) hq _
theorem RB.P1(h:RB W p mo s v)(al:p≠q)(mo' s':Nat)(v':S4):RB (AR.cX W q mo' s' v') p mo s v:=
 (((((h.other (x:=⟨q,0,none⟩) al _).other (x:=⟨q,1,none⟩) al _).other (x:=⟨q,2,none⟩) al _).other (x:=⟨q,3,none⟩) al _).other (x:=⟨q,4,none⟩) al _).other (x:=⟨q,5,none⟩) al _
theorem B2.dj{mo' s':Nat}(h:B2 w W P p q mo s v X)(k:R4 W P v' X'):B2 w (cX W p mo' s' v') P p q mo' s' v' X':=
 ⟨⟨h.b.box.put,k.cX h.b.np _ _ _,l8 h.b.az h.b.low _ _ _,h.b.low,h.b.np,λk hk=>h.b.cl k (by simpa[cX,eQ] using hk)⟩,h.res.P1 (qa h.ne) _ _ _,h.low,h.ne,h.np⟩
theorem B2.out{P0:Nat->Prop}{mo' s':Nat}(h:B2 w W (w2 P0 p q) p q mo s v X)(k:R4 W (w2 P0 p q) v' X'):RB (cX W q mo' s' v') q mo' s' v'/\R4 (cX W q mo' s' v') P0 v' X'/\Below w.heap.size w (cX W q mo' s' v'):=
 ⟨h.res.put,(k.cX h.np _ _ _).wide λ_ hk _=>hk.1,l8 h.b.az h.low _ _ _⟩
end
def dV(v:Value)(w:zw)(e:Ending)(w':zw):Prop:=e= .returned v/\Below w.heap.size w w'
def eW(X:L4)(p:Nat)(q:Bool):Bool:=decide (0 < (X 0).length)&&(decide (p < (X 0).length)||(decide ((X 0).length=p)&&q)||decide ((X 1).length=0))
def ft(w:zw)(P:Nat->Prop)(L:zY)(e:Ending)(w':zw):Prop:=∃r:Sl,e= .returned (.slice r.A r.n r.c)/\SW w' P r L/\Below w.heap.size w w'
section
variable(w:zw)(P:Nat->Prop)(r:Sl)(L:zY)(key:zy)(h:SW w P r L)(hP:Cl w P)
include h hP
theorem sn(hl:L.length<=1900):Calls prog 55 #[.slice r.A r.n r.c,.string key] w (ft w P (rem L key)):=by
 obtain⟨_,g,_,hr⟩:=h;refine(lL w g _ L key hr hl).mono ?_;rintro e w' ⟨v,rfl,hO,hB⟩;obtain⟨r',rfl,hs⟩:=SW.made hO hP;exact⟨r',rfl,hs,hB⟩
theorem E'(hl:L.length<=1900)(hs:key.size<=maxLen):Calls prog 87 #[.slice r.A r.n r.c,.string key] w (ft w P (rem L key++ [key])):=by
 obtain⟨_,g,_,hr⟩:=h;refine(jo w g _ L key hr hl hs).mono ?_;rintro e w' ⟨v,rfl,hO,hB⟩;obtain⟨r',rfl,hs⟩:=SW.made hO hP;exact⟨r',rfl,hs,hB⟩
end
theorem fV(w:zw)(P:Nat->Prop)(r:Sl)(L:zY)(key:zy)(h:SW w P r L):Calls prog 34 #[.slice r.A r.n r.c,.string key] w (dq (aw L key) w):=by
 obtain⟨_,g,_,hr⟩:=h;exact gK w g _ L key hr
def iK(X:L4)(key:zy):L4:=λk=>rem (X k) key
theorem TU{w:zw}{P:Nat->Prop}{v:S4}(X:L4)(key:zy)(h:R4 w P v (af (af (af (af X 0 (rem (X 0) key)) 1 (rem (X 1) key)) 2 (rem (X 2) key)) 3 (rem (X 3) key))):R4 w P v (iK X key):=by
 intro k hk;have:=h k hk;rcases k with _|_|_|_|k
 . exact this
 . exact this
 . exact this
 . exact this
 . omega
section
variable(w:zw)(P:Nat->Prop)(mo s:Nat)(v:S4)(X:L4)(h:R4 w P v X)(hP:Cl w P)
include h hP
theorem BR(sec:Bool)(hs:s<=9223372036854775807):Calls prog 105 #[aU mo s v,.bool sec] w (dV (.bool (eW X s sec)) w):=by
 have R0:=J (cB h hP mo s);have l0:=(h 0 (by omega)).len;have l1:=(h 1 (by omega)).len;have z0:=(h 0 (by omega)).le;have z1:=(h 1 (by omega)).le;have HB:=J R0.out.az;obtain⟨c0,c1,c2,c3,c4,c5⟩:=R0.out.box.c;have FX:eW X s sec=(decide (0 < (v 0).n)&&(decide (s < (v 0).n)||(decide ((v 0).n=s)&&sec)||decide ((v 1).n=0))):=by unfold eW;rw[l0,l1]
 rw[FX];have z0:(v 0).n<=2000:=by omega
 have z1:(v 1).n<=2000:=by omega
 clear h hP l0 l1 FX;go_enter func105,ntmps105;go_upto_region 1 with fail
 generalize(v 0).n=n at*;generalize(v 1).n=m at*
 by_cases e1:0 < n
 . by_cases e2:s < n
   . go_wp2_with fail
     go_ret;refine⟨?_,(zo _ _).alloc (zg _) _⟩;show Ending.returned (.bool _)=_;simp[e1,e2]
   . by_cases e3:n=s
     . have e5:0 < s:=by omega
       cases sec with
       |true=>
        go_wp2_with fail
        go_ret;refine⟨?_,(zo _ _).alloc (zg _) _⟩;show Ending.returned (.bool _)=_;simp[e1,e2,e3,e5]
       |false=>
        by_cases e4:m=0
        . go_wp2_with fail
          go_ret;refine⟨?_,(zo _ _).alloc (zg _) _⟩;show Ending.returned (.bool _)=_;simp[e1,e2,e3,e4,e5]
        . go_wp2_with fail
          go_ret;refine⟨?_,(zo _ _).alloc (zg _) _⟩;show Ending.returned (.bool _)=_;simp[e1,e2,e3,e4,e5]
     . by_cases e4:m=0
       . go_wp2_with fail
         go_ret;refine⟨?_,(zo _ _).alloc (zg _) _⟩;show Ending.returned (.bool _)=_;simp[e1,e2,e3,e4]
       . go_wp2_with fail
         go_ret;refine⟨?_,(zo _ _).alloc (zg _) _⟩;show Ending.returned (.bool _)=_;simp[e1,e2,e3,e4]
 . go_wp2_with fail
   go_ret;refine⟨?_,(zo _ _).alloc (zg _) _⟩;show Ending.returned (.bool _)=_;simp[e1]
theorem xX:Calls prog 99 #[aU mo s v] w (dV (.int .i64 (((X 0).length+(X 1).length+(X 2).length+(X 3).length:Nat):Int)) w):=by
 have R0:=J (cB h hP mo s);have l0:=(h 0 (by omega)).len;have l1:=(h 1 (by omega)).len;have l2:=(h 2 (by omega)).len;have l3:=(h 3 (by omega)).len;have z0:=(h 0 (by omega)).le;have z1:=(h 1 (by omega)).le;have z2:=(h 2 (by omega)).le;have z3:=(h 3 (by omega)).le;have HB:=J R0.out.az;obtain⟨c0,c1,c2,c3,c4,c5⟩:=R0.out.box.c;rw[l0,l1,l2,l3];rw[l0] at z0;rw[l1] at z1;rw[l2] at z2;rw[l3] at z3;clear h hP l0 l1 l2 l3;go_enter func99,ntmps99;go_wp2_with fail
 go_ret;refine⟨?_,HB.out⟩;show Ending.returned (.int .i64 _)=_
 first|rfl|(congr 2;push_cast;first|rfl|omega)
theorem et(key:zy):Calls prog 96 #[aU mo s v,.string key] w (dV (.bool (aw (X 0) key||aw (X 1) key)) w):=by
 have R0:=J (cB h hP mo s);have HB:=J R0.out.az;obtain⟨c0,c1,c2,c3,c4,c5⟩:=R0.out.box.c;have V0:=J (λW (hb:Below w.heap.size w W)=>fV W P (v 0) (X 0) key ((h 0 (by omega)).below hb));have V1:=J (λW (hb:Below w.heap.size w W)=>fV W P (v 1) (X 1) key ((h 1 (by omega)).below hb));clear h hP;generalize aw (X 0) key=b0 at*;generalize aw (X 1) key=b1 at*;go_enter func96,ntmps96;go_wp2_with fail
 refine(V0.out _ HB.out).mono ?_;rintro e w1 ⟨rfl,rfl⟩;cases b0 with
 |true=>
  go_wp2_with fail
  go_ret;exact⟨rfl,HB.out⟩
 |false=>
  go_wp2_with fail
  refine(V1.out _ HB.out).mono ?_;rintro e w1 ⟨rfl,rfl⟩;go_wp2_with fail
  go_ret;exact⟨rfl,HB.out⟩
theorem eu(key:zy)(hl:∀k,k < 4->(X k).length<=1900):Calls prog 58 #[aU mo s v,.string key] w (CT w P id mo s (iK X key)):=by
 have R0:=J (bF h hP mo s);have HL:=J hl;clear h hP hl;go_enter func58,ntmps58;go_upto_region 1 with fail
 generalize(w.alloc (aM mo s v)).alloc (aM 0 0 zV)=W at R0|-;generalize w.heap.size+1=q at R0|-;obtain⟨p,hp⟩:=zx w.heap.size;rw[← hp] at R0|-;have bR:=J hp;clear hp;obtain⟨c0,c1,c2,c3,c4,c5⟩:=R0.out.b.box.c;have U:=zs (Calls prog 55 #[.slice (v 0).A (v 0).n (v 0).c,.string key] _ (ft _ _ (rem (X 0) key))) (sn _ _ _ _ key (R0.out.b.rows 0 (by omega)) R0.out.b.cl (HL.out 0 (by omega)));go_wp2_with fail
 refine U.out.mono ?_;rintro e V0 ⟨n0,rfl,k9,B9⟩;have RN:=J ((R0.out.below B9).dO k9);obtain⟨d0,d1,d2,d3,d4,d5⟩:=(R0.out.below B9).b.box.c;obtain⟨f0,f1,f2,f3,f4,f5⟩:=(R0.out.below B9).b.box.f;clear c0 c1 c2 c3 c4 c5 k9 B9 U;go_upto_region 2 with fail
 clear d0 d1 d2 d3 d4 d5 f0 f1 f2 f3 f4 f5 R0;generalize V0.setCell ⟨p,2,none⟩ (.slice n0.A n0.n n0.c)=Xf at RN|-;have R1:=J RN.out;clear RN;obtain⟨c0,c1,c2,c3,c4,c5⟩:=R1.out.b.box.c;have U:=zs (Calls prog 55 #[.slice (v 1).A (v 1).n (v 1).c,.string key] _ (ft _ _ (rem (X 1) key))) (sn _ _ _ _ key (R1.out.b.rows 1 (by omega)) R1.out.b.cl (HL.out 1 (by omega)));go_wp2_with fail
 refine U.out.mono ?_;rintro e V1 ⟨n1,rfl,k9,B9⟩;have RN:=J ((R1.out.below B9).eR k9);obtain⟨d0,d1,d2,d3,d4,d5⟩:=(R1.out.below B9).b.box.c;obtain⟨f0,f1,f2,f3,f4,f5⟩:=(R1.out.below B9).b.box.f;clear c0 c1 c2 c3 c4 c5 k9 B9 U;go_upto_region 3 with fail
 clear d0 d1 d2 d3 d4 d5 f0 f1 f2 f3 f4 f5 R1;generalize V1.setCell ⟨p,3,none⟩ (.slice n1.A n1.n n1.c)=Xg at RN|-;have R2:=J RN.out;clear RN;obtain⟨c0,c1,c2,c3,c4,c5⟩:=R2.out.b.box.c;have U:=zs (Calls prog 55 #[.slice (v 2).A (v 2).n (v 2).c,.string key] _ (ft _ _ (rem (X 2) key))) (sn _ _ _ _ key (R2.out.b.rows 2 (by omega)) R2.out.b.cl (HL.out 2 (by omega)));go_wp2_with fail
 refine U.out.mono ?_;rintro e V2 ⟨n2,rfl,k9,B9⟩;have RN:=J ((R2.out.below B9).fg k9);obtain⟨d0,d1,d2,d3,d4,d5⟩:=(R2.out.below B9).b.box.c;obtain⟨f0,f1,f2,f3,f4,f5⟩:=(R2.out.below B9).b.box.f;clear c0 c1 c2 c3 c4 c5 k9 B9 U;go_upto_region 4 with fail
 clear d0 d1 d2 d3 d4 d5 f0 f1 f2 f3 f4 f5 R2;generalize V2.setCell ⟨p,4,none⟩ (.slice n2.A n2.n n2.c)=Xh at RN|-;have R3:=J RN.out;clear RN;obtain⟨c0,c1,c2,c3,c4,c5⟩:=R3.out.b.box.c;have U:=zs (Calls prog 55 #[.slice (v 3).A (v 3).n (v 3).c,.string key] _ (ft _ _ (rem (X 3) key))) (sn _ _ _ _ key (R3.out.b.rows 3 (by omega)) R3.out.b.cl (HL.out 3 (by omega)));go_wp2_with fail
 refine U.out.mono ?_;rintro e V3 ⟨n3,rfl,k9,B9⟩;have RN:=J ((R3.out.below B9).nO k9);obtain⟨d0,d1,d2,d3,d4,d5⟩:=(R3.out.below B9).b.box.c;obtain⟨f0,f1,f2,f3,f4,f5⟩:=(R3.out.below B9).b.box.f;clear c0 c1 c2 c3 c4 c5 k9 B9 U;go_upto_region 5 with fail
 clear d0 d1 d2 d3 d4 d5 f0 f1 f2 f3 f4 f5 R3;generalize V3.setCell ⟨p,5,none⟩ (.slice n3.A n3.n n3.c)=Xi at RN|-;have R4:=J RN.out;clear RN;have RO:=J (R4.out.out (mo':=mo) (s':=s) R4.out.b.rows);obtain⟨c0,c1,c2,c3,c4,c5⟩:=R4.out.b.box.c;obtain⟨d0,d1,d2,d3,d4,d5⟩:=R4.out.res.c;obtain⟨f0,f1,f2,f3,f4,f5⟩:=R4.out.res.f;obtain⟨o1,o2,o3⟩:=RO.out;have O1:=J o1;have O2:=J o2;have O3:=J o3;clear o1 o2 o3 RO;go_wp2_with fail
 refine bodyPost_ret (aV rfl _ _ _ ⟨q,0,none⟩ _ rfl (bf O1.out)) rfl ?_;exact⟨_,rfl,TU X key O2.out,O3.out⟩
end
end AR
namespace AR
open Go.RowKit Sg
def hd(L:zY):zy:=L.headD ⟨#[]⟩
def jt(X:L4)(j:Nat):L4:=af (af X j (X j).tail) (j+2) (rem (X (j+2)) (hd (X j))++ [hd (X j)])
def yX(X:L4)(p:Nat)(q:Bool):L4:=if eW X p q=true then jt X 0 else if(X 1).length=0 then X else jt X 1
def yK(X:L4)(p:Nat)(q:Bool):zy:=if eW X p q=true then hd (X 0) else hd (X 1)
def yB(X:L4)(p:Nat)(q:Bool):Bool:=eW X p q||decide (0 < (X 1).length)
theorem j4{L:zY}(h:0 < L.length):L.getD 0 ⟨#[]⟩=hd L:=by
 cases L with
 |nil=>cases h
 |cons a L=>rfl
theorem Kf{X:L4}{p:Nat}{q:Bool}(h:eW X p q=false)(h1:(X 1).length=0):yK X p q=⟨#[]⟩:=by
 unfold yK;rw[if_neg (by rw[h];simp),qe h1];rfl
abbrev rJ(k:zy)(b:Bool):Value->Value:=λx=> .tuple #[x,.string k,.bool b]
theorem bg{fn:Func}{a u t:Tmp}{ty:TypeId}(h:fn.results= #[.cell a ty,.tmp u,.tmp t])(tmps:Array Value)(P:Program)(w:zw)(p:Addr)(v:Value)(ha:tmps.getD a undef= .pointer (some p))(hv:(loadVar ty p).run P w= .ok v w):
 (results fn tmps).run P w= .ok (.tuple #[v,tmps.getD u undef,tmps.getD t undef]) w:=by
 rw[qt] at ha;simp[results,h,ha,asAddr,hv]
section
variable(w:zw)(P:Nat->Prop)(mo s:Nat)(v:S4)(X:L4)(h:R4 w P v X)(hP:Cl w P)
include h hP
theorem BS(sec:Bool)(hs:s<=9223372036854775807)(hm:mo<=9223372036854775807)(hl:∀k,k < 4->(X k).length<=1900):Calls prog 104 #[aU mo s v,.bool sec] w (CT w P (rJ (yK X s sec) (yB X s sec)) mo s (yX X s sec)):=by
 have HL:=J hl;clear hl hm;have R0:=J (bF h hP mo s);clear h hP;go_enter func104,ntmps104;go_upto_region 1 with fail
 generalize(w.alloc (aM mo s v)).alloc (aM 0 0 zV)=W at R0|-;generalize w.heap.size+1=q at R0|-;obtain⟨p,hp⟩:=zx w.heap.size;rw[← hp] at R0|-;have bR:=J hp;clear hp;have F:=J (BR _ _ mo s v X R0.out.b.rows R0.out.b.cl sec hs);obtain⟨c0,c1,c2,c3,c4,c5⟩:=R0.out.b.box.c;go_wp2_with fail
 refine F.out.mono ?_;rintro e W1 ⟨rfl,hB⟩;have R1:=J (R0.out.below hB);clear hB c0 c1 c2 c3 c4 c5 F R0;cases hf:eW X s sec with
 |true=>
  have h0:0 < (X 0).length:=by
   unfold eW at hf
   by_cases e:0 < (X 0).length
   . exact e
   . rw[decide_eq_false e] at hf;cases hf
  have e1:yX X s sec=jt X 0:=if_pos hf;have e2:yK X s sec=hd (X 0):=if_pos hf;have e3:yB X s sec=true:=by unfold yB;rw[hf];rfl
  have E1:=J e1;have E2:=J e2;have E3:=J e3;clear e1 e2 e3 hf;have lF:=(R1.out.b.rows 0 (by omega)).at (k:=0) h0;obtain⟨g,o,_,hA,hg,bX,lu,iZ⟩:=lF;rw[j4 h0,Nat.add_zero] at bX;obtain⟨r',sA,sS,hT⟩:=(R1.out.b.rows 0 (by omega)).tail h0;have fD:(hd (X 0)).size<=maxLen:=(R1.out.b.rows 0 (by omega)).small _ (by rw[← j4 h0,zt,zm h0];exact qy h0);have iL:=J fD;have HT:=J hT;have bZ:=(R1.out.b.rows 0 (by omega)).len;rw[bZ] at h0;obtain⟨c0,c1,c2,c3,c4,c5⟩:=R1.out.b.box.c;obtain⟨f0,f1,f2,f3,f4,f5⟩:=R1.out.b.box.f;rw[hA] at sA sS;unfold maxLen at iZ;have G0:=J (R1.out.dO HT.out);clear hT fD bZ;rw[hA] at c2;generalize jl:hd (X 0)=kk at*;have uZ:=J jl;clear jl;go_upto_region 4 with fail
  clear c0 c1 c2 c3 c4 c5 f0 f1 f2 f3 f4 f5 sA sS bX hA;generalize W1.setCell ⟨p,2,none⟩ (.slice r'.A r'.n r'.c)=W7 at G0|-;obtain⟨c0,c1,c2,c3,c4,c5⟩:=G0.out.b.box.c;have U:=zs (Calls prog 87 #[.slice (af v 0 r' 2).A (af v 0 r' 2).n (af v 0 r' 2).c,.string kk] _ (ft _ _ (rem (X 2) kk++ [kk]))) (E' _ _ _ _ kk (G0.out.b.rows 2 (by omega)) G0.out.b.cl (HL.out 2 (by omega)) iL.out);go_wp2_with fail
  refine U.out.mono ?_;rintro e W8 ⟨n9,rfl,k9,B9⟩;have RN:=J ((G0.out.below B9).fg k9);obtain⟨d0,d1,d2,d3,d4,d5⟩:=(G0.out.below B9).b.box.c;obtain⟨f0,f1,f2,f3,f4,f5⟩:=(G0.out.below B9).b.box.f;clear c0 c1 c2 c3 c4 c5 k9 B9 U;go_upto_region 5 with fail
  clear d0 d1 d2 d3 d4 d5 f0 f1 f2 f3 f4 f5 G0;generalize W8.setCell ⟨p,4,none⟩ (.slice n9.A n9.n n9.c)=W9 at RN|-;have RO:=RN.out.out (mo':=mo) (s':=s) (RN.out.b.rows);have O1:=J RO.1;have O2:=J RO.2.1;have O3:=J RO.2.2;clear RO;obtain⟨c0,c1,c2,c3,c4,c5⟩:=RN.out.b.box.c;obtain⟨d0,d1,d2,d3,d4,d5⟩:=RN.out.res.c;obtain⟨f0,f1,f2,f3,f4,f5⟩:=RN.out.res.f;go_wp2_with fail
  refine bodyPost_ret (bg rfl _ _ _ ⟨q,0,none⟩ _ rfl (bf O1.out)) rfl ?_;rw[E1.out,E2.out,E3.out];exact⟨_,rfl,by rw[show jt X 0=af (af X 0 (X 0).tail) 2 (rem (X 2) kk++ [kk]) from by unfold jt;rw[uZ.out]];exact O2.out,O3.out⟩
 |false=>
  have RP:=(R1.out.b.rows 1 (by omega)).len
  by_cases h1:(X 1).length=0
  . have e1:yX X s sec=X:=by unfold yX;rw[if_neg (by rw[hf];simp),if_pos h1]
    have e2:yK X s sec=⟨#[]⟩:=Kf hf h1;have e3:yB X s sec=false:=by unfold yB;rw[hf,decide_eq_false (by omega)];rfl
    have E1:=J e1;have E2:=J e2;have E3:=J e3;have e4:(v 1).n=0:=by omega
    clear e1 e2 e3 hf h1 RP;obtain⟨c0,c1,c2,c3,c4,c5⟩:=R1.out.b.box.c;go_upto_region 7 with fail
    clear c0 c1 c2 c3 c4 c5 e4;have RO:=R1.out.out (mo':=mo) (s':=s) (R1.out.b.rows);have O1:=J RO.1;have O2:=J RO.2.1;have O3:=J RO.2.2;clear RO;obtain⟨c0,c1,c2,c3,c4,c5⟩:=R1.out.b.box.c;obtain⟨d0,d1,d2,d3,d4,d5⟩:=R1.out.res.c;obtain⟨f0,f1,f2,f3,f4,f5⟩:=R1.out.res.f;go_wp2_with fail
    refine bodyPost_ret (bg rfl _ _ _ ⟨q,0,none⟩ _ rfl (bf O1.out)) rfl ?_;rw[E1.out,E2.out,E3.out];exact⟨_,rfl,O2.out,O3.out⟩
  . have h0:0 < (X 1).length:=by omega
    have e1:yX X s sec=jt X 1:=by unfold yX;rw[if_neg (by rw[hf];simp),if_neg h1]
    have e2:yK X s sec=hd (X 1):=by unfold yK;rw[if_neg (by rw[hf];simp)]
    have e3:yB X s sec=true:=by unfold yB;rw[hf,decide_eq_true h0];rfl
    have E1:=J e1;have E2:=J e2;have E3:=J e3;have e4:¬(v 1).n=0:=by omega
    clear e1 e2 e3 hf h1 RP;obtain⟨c0,c1,c2,c3,c4,c5⟩:=R1.out.b.box.c;go_upto_region 8 with fail
    clear c0 c1 c2 c3 c4 c5 e4;have lF:=(R1.out.b.rows 1 (by omega)).at (k:=0) h0;obtain⟨g,o,_,hA,hg,bX,lu,iZ⟩:=lF;rw[j4 h0,Nat.add_zero] at bX;obtain⟨r',sA,sS,hT⟩:=(R1.out.b.rows 1 (by omega)).tail h0;have fD:(hd (X 1)).size<=maxLen:=(R1.out.b.rows 1 (by omega)).small _ (by rw[← j4 h0,zt,zm h0];exact qy h0);have iL:=J fD;have HT:=J hT;have bZ:=(R1.out.b.rows 1 (by omega)).len;rw[bZ] at h0;obtain⟨c0,c1,c2,c3,c4,c5⟩:=R1.out.b.box.c;obtain⟨f0,f1,f2,f3,f4,f5⟩:=R1.out.b.box.f;rw[hA] at sA sS;unfold maxLen at iZ;have G1:=J (R1.out.eR HT.out);clear hT fD bZ;rw[hA] at c3;generalize jl:hd (X 1)=kk at*;have uZ:=J jl;clear jl;go_upto_region 10 with fail
    clear c0 c1 c2 c3 c4 c5 f0 f1 f2 f3 f4 f5 sA sS bX hA;generalize W1.setCell ⟨p,3,none⟩ (.slice r'.A r'.n r'.c)=W7 at G1|-;obtain⟨c0,c1,c2,c3,c4,c5⟩:=G1.out.b.box.c;have U:=zs (Calls prog 87 #[.slice (af v 1 r' 3).A (af v 1 r' 3).n (af v 1 r' 3).c,.string kk] _ (ft _ _ (rem (X 3) kk++ [kk]))) (E' _ _ _ _ kk (G1.out.b.rows 3 (by omega)) G1.out.b.cl (HL.out 3 (by omega)) iL.out);go_wp2_with fail
    refine U.out.mono ?_;rintro e W8 ⟨n9,rfl,k9,B9⟩;have RN:=J ((G1.out.below B9).nO k9);obtain⟨d0,d1,d2,d3,d4,d5⟩:=(G1.out.below B9).b.box.c;obtain⟨f0,f1,f2,f3,f4,f5⟩:=(G1.out.below B9).b.box.f;clear c0 c1 c2 c3 c4 c5 k9 B9 U;go_upto_region 11 with fail
    clear d0 d1 d2 d3 d4 d5 f0 f1 f2 f3 f4 f5 G1;generalize W8.setCell ⟨p,5,none⟩ (.slice n9.A n9.n n9.c)=W9 at RN|-;have RO:=RN.out.out (mo':=mo) (s':=s) (RN.out.b.rows);have O1:=J RO.1;have O2:=J RO.2.1;have O3:=J RO.2.2;clear RO;obtain⟨c0,c1,c2,c3,c4,c5⟩:=RN.out.b.box.c;obtain⟨d0,d1,d2,d3,d4,d5⟩:=RN.out.res.c;obtain⟨f0,f1,f2,f3,f4,f5⟩:=RN.out.res.f;go_wp2_with fail
    refine bodyPost_ret (bg rfl _ _ _ ⟨q,0,none⟩ _ rfl (bf O1.out)) rfl ?_;rw[E1.out,E2.out,E3.out];exact⟨_,rfl,by rw[show jt X 1=af (af X 1 (X 1).tail) 3 (rem (X 3) kk++ [kk]) from by unfold jt;rw[uZ.out]];exact O2.out,O3.out⟩
end
end AR
namespace AR
open Go.RowKit Sg
def mX(X:L4)(mo p:Nat)(q:Bool):L4:=if(X 0).length+(X 1).length < mo then X else yX X p q
def mK(X:L4)(mo p:Nat)(q:Bool):zy:=if(X 0).length+(X 1).length < mo then⟨#[]⟩ else yK X p q
def mB(X:L4)(mo p:Nat)(q:Bool):Bool:=if(X 0).length+(X 1).length < mo then false else yB X p q
def mr(a b:Nat):Nat:=if a / b < 1 then 1 else a / b
theorem Fa(w:zw)(a b:Nat)(hb:0 < b)(ha:a<=9223372036854775807)(gC:b<=9223372036854775807):Calls prog 97 #[.int .i64 (a:Int),.int .i64 (b:Int)] w (λe w'=>e= .returned (.int .i64 (mr a b:Int))/\w=w'):=by
 obtain⟨u,hu⟩:=zx (a / b);have yV:u<=a:=by rw[hu];exact Nat.div_le_self _ _
 have e1:(a:Int).tdiv (b:Int)=(u:Int):=by rw[hu,Int.tdiv_eq_ediv_of_nonneg (by omega)];rfl
 have e2:¬(b:Int)=0:=by omega
 have e3:mr a b=if u < 1 then 1 else u:=by unfold mr;rw[← hu]
 rw[e3];clear e3 hu;go_enter func97,ntmps97
 by_cases h:u < 1
 . rw[if_pos h];have e4:(u:Int) < 1:=by omega
   go_wp2_with fail
   go_ret;exact⟨rfl,rfl⟩
 . rw[if_neg h];have e4:¬(u:Int) < 1:=by omega
   go_wp2_with fail
   go_ret;exact⟨rfl,rfl⟩
theorem Aj{w:zw}{q m:Nat}{x:Int}(k:RB w q m 0 zV)(hx:x=(m:Int)):(loadVar 40 ⟨q,0,none⟩).run prog w= .ok (.agg #[.int .i64 x,.int .i64 0,.slice none 0 0,.slice none 0 0,.slice none 0 0,.slice none 0 0]) w:=by
 subst hx;exact bf k
theorem Jp(w:zw)(P:Nat->Prop)(z:Int)(hz: -9223372036854775808<=z/\z<=9223372036854775807):Calls prog 48 #[.int .i64 z] w (CT w P id z.toNat 0 (λ_=>[])):=by
 obtain⟨m,hm⟩:=zx z.toNat;obtain⟨x,hx⟩:∃x:Int,x=(m:Int):=⟨_,rfl⟩;have O1:=zs (RB (w.alloc (.cells #[.int .i64 x,.int .i64 0,.slice none 0 0,.slice none 0 0,.slice none 0 0,.slice none 0 0] 40)) w.heap.size m 0 zV) (by rw[hx];exact heap_alloc_new _ _);have O3:=J ((zo w.heap.size w).alloc (zg _) (.cells #[.int .i64 x,.int .i64 0,.slice none 0 0,.slice none 0 0,.slice none 0 0,.slice none 0 0] 40));have HX:=J hx;rw[← hm]
 by_cases h0:z < 0
 . obtain rfl:m=0:=by omega
   obtain rfl:x=0:=by omega
   clear hm hx;go_enter func48,ntmps48;go_wp2_with fail
   refine bodyPost_ret (aV rfl _ _ _ ⟨w.heap.size,0,none⟩ _ rfl (Aj O1.out HX.out)) rfl ?_;exact⟨zV,rfl,λk _=>SW.nil _ _ _ _,O3.out⟩
 . obtain rfl:z=x:=by omega
   clear hm hx;go_enter func48,ntmps48;go_wp2_with fail
   refine bodyPost_ret (aV rfl _ _ _ ⟨w.heap.size,0,none⟩ _ rfl (Aj O1.out HX.out)) rfl ?_;exact⟨zV,by rw[HX.out];rfl,λk _=>SW.nil _ _ _ _,O3.out⟩
section
variable(w:zw)(P:Nat->Prop)(mo s:Nat)(v:S4)(X:L4)(h:R4 w P v X)(hP:Cl w P)
include h hP
theorem pc(sec:Bool)(hs:s<=9223372036854775807)(hm:mo<=9223372036854775807)(hl:∀k,k < 4->(X k).length<=1900):Calls prog 98 #[aU mo s v,.bool sec] w (CT w P (rJ (mK X mo s sec) (mB X mo s sec)) mo s (mX X mo s sec)):=by
 have HL:=J hl;have l0:=(h 0 (by omega)).len;have l1:=(h 1 (by omega)).len;have z0:=(h 0 (by omega)).le;have z1:=(h 1 (by omega)).le;have HS:=J hs;have HM:=J hm;clear hl hs hm;have R0:=J (bF h hP mo s);clear h hP;go_enter func98,ntmps98;go_upto_region 1 with fail
 generalize(w.alloc (aM mo s v)).alloc (aM 0 0 zV)=W at R0|-;generalize w.heap.size+1=q at R0|-;obtain⟨p,hp⟩:=zx w.heap.size;rw[← hp] at R0|-;have bR:=J hp;clear hp;obtain⟨c0,c1,c2,c3,c4,c5⟩:=R0.out.b.box.c;rw[l0] at z0;rw[l1] at z1
 by_cases hc:(v 0).n+(v 1).n < mo
 . have e0:(((v 0).n:Int)+((v 1).n:Int)) < (mo:Int):=by omega
   have hq:(X 0).length+(X 1).length < mo:=by omega
   have E1:=zs (mX X mo s sec=X) (if_pos hq);have E2:=zs (mK X mo s sec=⟨#[]⟩) (if_pos hq);have E3:=zs (mB X mo s sec=false) (if_pos hq);clear hc hq l0 l1;go_upto_region 2 with fail
   clear c0 c1 c2 c3 c4 c5 e0;have RO:=R0.out.out (mo':=mo) (s':=s) (R0.out.b.rows);have O1:=J RO.1;have O2:=J RO.2.1;have O3:=J RO.2.2;clear RO;obtain⟨c0,c1,c2,c3,c4,c5⟩:=R0.out.b.box.c;obtain⟨d0,d1,d2,d3,d4,d5⟩:=R0.out.res.c;obtain⟨f0,f1,f2,f3,f4,f5⟩:=R0.out.res.f;go_wp2_with fail
   refine bodyPost_ret (bg rfl _ _ _ ⟨q,0,none⟩ _ rfl (bf O1.out)) rfl ?_;rw[E1.out,E2.out,E3.out];exact⟨_,rfl,O2.out,O3.out⟩
 . have e0:¬(((v 0).n:Int)+((v 1).n:Int)) < (mo:Int):=by omega
   have hq:¬(X 0).length+(X 1).length < mo:=by omega
   have E1:=zs (mX X mo s sec=yX X s sec) (if_neg hq);have E2:=zs (mK X mo s sec=yK X s sec) (if_neg hq);have E3:=zs (mB X mo s sec=yB X s sec) (if_neg hq);have Y:=J (BS _ _ mo s v X R0.out.b.rows R0.out.b.cl sec HS.out HM.out HL.out);clear hc hq l0 l1;go_upto_region 3 with fail
   clear e0;go_wp2_with fail
   refine Y.out.mono ?_;rintro e W1 ⟨v9,rfl,hr,hB⟩;have R1:=J (R0.out.below hB);have K9:=J hr;clear hB hr Y R0 c0 c1 c2 c3 c4 c5 z0 z1;generalize yK X s sec=yk at*;generalize yB X s sec=yb at*;unfold rJ;have RO:=R1.out.out (mo':=mo) (s':=s) (K9.out);have O1:=J RO.1;have O2:=J RO.2.1;have O3:=J RO.2.2;clear RO;obtain⟨d0,d1,d2,d3,d4,d5⟩:=R1.out.res.c;obtain⟨f0,f1,f2,f3,f4,f5⟩:=R1.out.res.f;go_wp2_with fail
   refine bodyPost_ret (bg rfl _ _ _ ⟨q,0,none⟩ _ rfl (bf O1.out)) rfl ?_;rw[E1.out,E2.out,E3.out];exact⟨_,rfl,O2.out,O3.out⟩
def vK(X:L4)(mo p:Nat):zy:=if 0 < (X 0).length/\(mo<=(X 0).length\/eW X p false=true) then hd (X 0) else hd (X 1)
def vB(X:L4)(mo p:Nat):Bool:=decide (0 < (X 0).length/\(mo<=(X 0).length\/eW X p false=true))||decide (0 < (X 1).length)
end
end AR
namespace AR
open Sg
def rv(R:aW):L4:=λk=>(R k).reverse
def wZ(X Y:L4):Prop:=∀k,k < 4->X k=Y k
theorem CT.to{w w':zw}{P:Nat->Prop}{F:Value->Value}{mo p:Nat}{X Y:L4}{e:Ending}(h:CT w P F mo p X e w')(hx:wZ X Y):CT w P F mo p Y e w':=by
 obtain⟨v,he,hr,hb⟩:=h;exact⟨v,he,λk hk=>by rw[← hx k hk];exact hr k hk,hb⟩
theorem CT.as{w w':zw}{P:Nat->Prop}{F F':Value->Value}{mo mo' p p':Nat}{X Y:L4}{e:Ending}(h:CT w P F mo p X e w')(hF:F=F')(hm:mo=mo')(hp:p=p')(hx:wZ X Y):CT w P F' mo' p' Y e w':=by
 subst hF;subst hm;subst hp;exact h.to hx
section
variable{R:aW}{mo p j:Nat}{q:Bool}{k:zy}{L:zY}
theorem bG:(rv R j).length=(R j).length:=qp
theorem BU:eW (rv R) p q=fst R p q:=by
 unfold eW fst;rw[bG,bG]
theorem pe:hd L.reverse=ah L:=by
 unfold hd ah;rcases List.eq_nil_or_concat L with rfl|⟨xs,x,rfl⟩
 . rfl
 . simp
theorem pZ:L.reverse.tail=L.dropLast.reverse:=by
 rcases List.eq_nil_or_concat L with rfl|⟨xs,x,rfl⟩
 . rfl
 . simp
theorem j5:rv (af R j L)=af (rv R) j L.reverse:=by
 funext i
 unfold rv af;split <;> rfl
theorem Di:iK (rv R) k=rv (rF R k):=by
 funext i
 unfold iK rv rF;rw[ml]
theorem Fb(hj:j < 2):jt (rv R) j=rv (af (af R j (R j).dropLast) (j+2) (ah (R j)::rem (R (j+2)) (ah (R j)))):=by
 unfold jt;have e1:hd (rv R j)=ah (R j):=pe;have e2:(rv R j).tail=(R j).dropLast.reverse:=pZ;have e3:rem (rv R (j+2)) (ah (R j))=(rem (R (j+2)) (ah (R j))).reverse:=ml _ _;rw[e1,e2,e3,j5,j5,List.reverse_cons]
theorem Dj(h:0 < ai R):yX (rv R) p q=rv (dy p q R)/\yK (rv R) p q=ah (R (lv R p q))/\yB (rv R) p q=true:=by
 unfold yX yK yB;rw[BU,bG];cases hf:fst R p q with
 |true=>
  have e:=(wu hf).1;refine⟨?_,?_,rfl⟩
  . rw[if_pos rfl,Fb (by omega)];unfold dy;rw[e]
  . rw[if_pos rfl,e];exact pe
 |false=>
  rcases E9 hf with⟨e,h1⟩|⟨_,h1⟩
  . refine⟨?_,?_,?_⟩
    . rw[if_neg (by simp),if_neg (by omega),Fb (by omega)];unfold dy;rw[e]
    . rw[if_neg (by simp),e];exact pe
    . rw[decide_eq_true h1];rfl
  . omega
theorem Dk(hm:mo≠0)(hl:ai R<=mo):mX (rv R) mo p q=rv (aY p q R (ai R - (mo - 1)))/\mK (rv R) mo p q=bP (outs p q R (ai R - (mo - 1)))/\mB (rv R) mo p q=!(outs p q R (ai R - (mo - 1))).isEmpty:=by
 have rc:=G6 (R:=R) (p:=p) (q:=q) hm hl;rw[rc.1,rc.2];unfold mX mK mB;rw[bG,bG]
 change (if ai R < mo then _ else _)=_/\(if ai R < mo then _ else _)=_/\(if ai R < mo then _ else _)=_
 by_cases h:ai R < mo
 . rw[if_pos h,if_pos h,if_pos h,if_pos h,if_pos h];exact⟨rfl,rfl,rfl⟩
 . rw[if_neg h,if_neg h,if_neg h,if_neg h,if_neg h];exact Dj (by omega)
theorem pf{s:St}(h:Ok s):vK (rv s.R) s.mo s.p=ah (s.R (lv s.R s.p false))/\vB (rv s.R) s.mo s.p=bb (s.R (lv s.R s.p false)):=by
 have e:=NS h;unfold vK vB;rw[bG,bG,BU]
 by_cases hc:0 < (s.R 0).length/\(s.mo<=(s.R 0).length\/fst s.R s.p false=true)
 . rw[if_pos hc] at e|-;rw[decide_eq_true hc];have e1:=congrArg Prod.fst e;have e2:=congrArg Prod.snd e;exact⟨pe.trans e1,e2⟩
 . rw[if_neg hc] at e|-;rw[decide_eq_false hc]
   by_cases h1:0 < (s.R 1).length
   . rw[if_pos h1] at e;rw[decide_eq_true h1];have e1:=congrArg Prod.fst e;have e2:=congrArg Prod.snd e;exact⟨pe.trans e1,e2⟩
   . rw[if_neg h1] at e;rw[decide_eq_false h1];have e1:=congrArg Prod.fst e;have e2:=congrArg Prod.snd e;refine⟨?_,e2⟩;rw[show rv s.R 1= [] from by unfold rv;rw[List.eq_nil_of_length_eq_zero (show(s.R 1).length=0 by omega)];rfl];exact e1
theorem u7(hj:j < 4):wZ (af (iK (rv R) k) j (rem (rv R j) k++ [k])) (rv (bp R k j)):=by
 intro i _;unfold bp;rw[j5,List.reverse_cons,Di,show rem (rv R j) k=(rem (R j) k).reverse from ml _ _]
theorem Ak{n:Nat}:(L.take n).reverse=L.reverse.drop (L.length - n):=by
 rw[List.drop_reverse]
 by_cases h:n<=L.length
 . rw[show L.length - (L.length - n)=n by omega]
 . rw[qk (by omega),show L.length - (L.length - n)=L.length by omega,qk (zg _)]
def ou(X:L4)(mo:Nat):L4:=af X 2 ((X 2).drop ((X 2).length - (mo - (X 0).length)))
def rK(X:L4)(mo:Nat):L4:=af X 3 ((X 3).drop ((X 3).length - (2*mo - ((X 0).length+(X 1).length+(X 2).length))))
theorem P7:ou (rv R) mo=rv (ew mo R):=by
 unfold ou ew;rw[j5,Ak,bG,bG];rfl
theorem P8:rK (rv R) mo=rv (si mo R):=by
 unfold rK si;rw[j5,Ak,bG,bG,bG,bG];rfl
theorem BV:rK (ou (rv R) mo) mo=rv (fa mo R):=by rw[P7,P8];rfl
end
end AR
namespace AR
open Go.RowKit Sg
theorem xA(w:zw):Own (w.alloc (.cells #[] 9)) w.heap.size (.slice (some ⟨w.heap.size,0,none⟩) 0 0) []:=
 ⟨⟨rfl,Or.inr ⟨w.heap.size,0,_,rfl,Nat.le_refl _,heap_alloc_new w _,Nat.le_refl _,by unfold maxLen;omega,rfl,rfl⟩⟩,by simp,by simp⟩
theorem wv{w:zw}{base:Nat}{v:Value}{xs ys:zY}{P:Nat->Prop}{r:Sl}(h:Own w base v xs)(k:SW w P r ys)(hl:xs.length+ys.length<=2000)(hb:base<=w.heap.size):
 ∃(v':Value) (w2:zw),(Builtin.append_ #[30,30] 30 #[v,.slice r.A r.n r.c]).run prog w= .ok v' w2/\Own w2 base v' (xs++ys)/\w.grownBy w2 v.ownBlock:=by
 obtain⟨i0,hi,fL,fC,fx⟩:=info_parts kx
 have b7:∀y∈xs++ys,y.size<=maxLen:=λy hy=>by
  rcases List.mem_append.1 hy with h1|h1
  . exact h.2.2 y h1
  . exact k.small y h1
 obtain⟨bZ,g,_,hr⟩:=k;obtain⟨A,n,c⟩:=r;simp only at bZ;rcases hr.2.2 with⟨rfl,A',c',he⟩|⟨o,c',he,k1,k2,k3,k4⟩
 . obtain rfl:n=0:=bZ.symm;refine⟨v,w,?_,by rw[xq];exact h,⟨rfl,rfl,rfl,zg _,λ_ _ _=>rfl⟩⟩;rcases h.1.2 with⟨rfl,_⟩|⟨g,cap,cur,rfl,_,_,h3,_⟩
   . cases A <;> simp[Builtin.append_,run_underlying underlying30,sizeOf,typeInfo,hi,Builtin.lenOf,Builtin.firstCells,loadCells,loadCellsFrom]
   . cases A <;> simp[Builtin.append_,run_underlying underlying30,sizeOf,typeInfo,hi,Builtin.lenOf,Builtin.firstCells,storeCells,loadCells,loadCellsFrom,h3]
 . have e1:A=some ⟨g,o,none⟩:=by unfold Sl.v at he;injection he
   have e3:c=c':=by unfold Sl.v at he;injection he
   subst e1;subst e3;subst bZ
   obtain⟨v',w2,aB,bC,hg,ko,bw⟩:=run_append_own_at (P:=prog) w base 30 30 9 i0 _ 1 16
    underlying30 hi fL fC fx rfl (by decide) _ _ _ h.1 ⟨g,o,none⟩ ys.length c (ys.map Value.string) (by simp) (λj u hj=>by
     rw[show(⟨g,o,none⟩:Addr).add j=⟨g,o+j,none⟩ by unfold Addr.add;split <;> simp_all];obtain⟨mQ,RV⟩:=List.getElem?_eq_some_iff.1 hj;rw[xe] at mQ;rw[List.getElem_map] at RV;rw[k4 j mQ,zt,zm mQ];exact congrArg some RV) (by intro u hu;obtain⟨x,_,rfl⟩:=List.mem_map.1 hu;rfl) (by unfold maxLen;omega) (by omega) hb
   refine⟨v',w2,aB,⟨?_,by rw[zh];omega,b7⟩,hg⟩;rw[xc,zh];exact bC
theorem Kg{w:zw}{P:Nat->Prop}{r r':Sl}{xs ys:zY}(h:SW w P r xs)(k:SW w P r' ys)(hl:xs.length+ys.length<=2000):
 ∃(v1 v2:Value) (w1 w2:zw),(Builtin.append_ #[30,30] 30 #[.slice (some ⟨w.heap.size,0,none⟩) 0 0,.slice r.A r.n r.c]).run prog (w.alloc (.cells #[] 9))= .ok v1 w1/\
  (Builtin.append_ #[30,30] 30 #[v1,.slice r'.A r'.n r'.c]).run prog w1= .ok v2 w2/\Own w2 w.heap.size v2 (xs++ys)/\Below w.heap.size w w1/\Below w.heap.size w w2:=by
 have b0:=(zo w.heap.size w).alloc (zg _) (.cells #[] 9);obtain⟨v1,w1,r1,o1,g1⟩:=wv (xA w) (h.below b0) (by simp;omega) (by simp);have b1:Below w.heap.size w w1:=b0.grown g1 (by simp) (λk hk=>by simp[Value.ownBlock] at hk;omega);obtain⟨v2,w2,r2,o2,g2⟩:=wv o1 (k.below b1) (by simp;omega) b1.size;exact⟨v1,v2,w1,w2,r1,r2,by simpa using o2,b1,b1.grown g2 b1.size (λk hk=>(o1.1.lt k hk).1)⟩
theorem hE{w:zw}{P:Nat->Prop}{r:Sl}{xs:zY}(h:SW w P r xs)(x:zy)(hx:x.size<=maxLen)(hl:xs.length<=1900):
 ∃(v1 v2:Value) (w1 w2:zw),(Builtin.append_ #[30,30] 30 #[.slice (some ⟨w.heap.size,0,none⟩) 0 0,.slice r.A r.n r.c]).run prog (w.alloc (.cells #[] 9))= .ok v1 w1/\
  (Builtin.append_ #[30,30] 30 #[v1,.slice (some ⟨w1.heap.size,0,none⟩) 1 1]).run prog (w1.alloc (.cells #[.string x] 9))= .ok v2 w2/\Own w2 w.heap.size v2 (xs++ [x])/\Below w.heap.size w w1/\Below w.heap.size w w2:=by
 have b0:=(zo w.heap.size w).alloc (zg _) (.cells #[] 9);obtain⟨v1,w1,r1,o1,g1⟩:=wv (xA w) (h.below b0) (by simp;omega) (by simp);have b1:Below w.heap.size w w1:=b0.grown g1 (by simp) (λk hk=>by simp[Value.ownBlock] at hk;omega);obtain⟨g,cap,w2,r2,o2,g2⟩:=oP o1 x hx (by simp;omega) b1.size;exact⟨v1,_,w1,w2,r1,r2,by simpa using o2,b1,b1.grown g2 b1.size (λk hk=>(o1.1.lt k hk).1)⟩
theorem TV{X:L4}{mo p:Nat}(h0:0 < (X 0).length)(h1:mo<=(X 0).length\/eW X p false=true):vK X mo p=hd (X 0)/\vB X mo p=true:=by
 unfold vK vB;rw[if_pos ⟨h0,h1⟩,decide_eq_true (show 0 < (X 0).length/\(mo<=(X 0).length\/eW X p false=true) from⟨h0,h1⟩)];exact⟨rfl,rfl⟩
theorem TW{X:L4}{mo p:Nat}(h:¬(0 < (X 0).length/\(mo<=(X 0).length\/eW X p false=true)))(h0:0 < (X 1).length):vK X mo p=hd (X 1)/\vB X mo p=true:=by
 unfold vK vB;rw[if_neg h,decide_eq_false h,decide_eq_true h0];exact⟨rfl,rfl⟩
theorem TX{X:L4}{mo p:Nat}(h:¬(0 < (X 0).length/\(mo<=(X 0).length\/eW X p false=true)))(h0:¬0 < (X 1).length):vK X mo p=⟨#[]⟩/\vB X mo p=false:=by
 unfold vK vB;rw[if_neg h,decide_eq_false h,decide_eq_false h0,qe (show(X 1).length=0 by omega)];exact⟨rfl,rfl⟩
section
variable(w:zw)(P:Nat->Prop)(mo s:Nat)(v:S4)(X:L4)(h:R4 w P v X)(hP:Cl w P)
include h hP
theorem pN(hs:s<=9223372036854775807)(hm:mo<=9223372036854775807):Calls prog 71 #[aU mo s v] w (dV (.tuple #[.string (vK X mo s),.bool (vB X mo s)]) w):=by
 have l0:=(h 0 (by omega)).len;have l1:=(h 1 (by omega)).len;have z0:=(h 0 (by omega)).le;have z1:=(h 1 (by omega)).le;rw[l0] at z0;rw[l1] at z1;have sK:=λh0 h1=>TV (X:=X) (mo:=mo) (p:=s) h0 h1;have sL:=λh0 h1=>TW (X:=X) (mo:=mo) (p:=s) h0 h1;have sM:=λh0 h1=>TX (X:=X) (mo:=mo) (p:=s) h0 h1;have R0:=J (cB h hP mo s);clear h hP;generalize VI:vK X mo s=ak at*;generalize RK:vB X mo s=ab at*;clear VI RK;have sK:=J sK;have sL:=J sL;have sM:=J sM;go_enter func71,ntmps71;go_upto_region 1 with fail
 generalize w.alloc (aM mo s v)=W at R0|-;obtain⟨p,hp⟩:=zx w.heap.size;rw[← hp] at R0|-;have bR:=J hp;clear hp;obtain⟨c0,c1,c2,c3,c4,c5⟩:=R0.out.box.c;have HB:=J R0.out.az
 by_cases h0:0 < (X 0).length
 . by_cases h1:mo<=(X 0).length
   . obtain⟨rfl,rfl⟩:=sK.out h0 (xz h1);have e1:mo<=(v 0).n:=by omega
     clear h1 l0 l1 sK sL sM;have lF:=(R0.out.rows 0 (by omega)).at (k:=0) h0;obtain⟨g,o,_,hA,hg,bX,lu,iZ⟩:=lF;rw[j4 h0,Nat.add_zero] at bX;unfold maxLen at iZ;rw[hA] at c2;have bZ:=(R0.out.rows 0 (by omega)).len;rw[bZ] at h0;generalize jl:hd (X 0)=kk at*;have uZ:=J jl;clear jl bZ;go_wp2_with fail
     go_ret2
     exact⟨rfl,HB.out⟩
   . have e1:¬mo<=(v 0).n:=by omega
     have F:=J (BR _ _ mo s v X R0.out.rows R0.out.cl false hs);have e0:0 < (v 0).n:=by omega
     go_wp2_with fail
     refine F.out.mono ?_;rintro e W1 ⟨rfl,hB⟩;have R1:=J (R0.out.below hB);clear c0 c1 c2 c3 c4 c5 hB F R0 HB;have HB:=J R1.out.az;obtain⟨c0,c1,c2,c3,c4,c5⟩:=R1.out.box.c;cases hf:eW X s false with
     |true=>
      obtain⟨rfl,rfl⟩:=sK.out h0 (ja hf);clear h1 l0 l1 sK sL sM hf e1 e0;have lF:=(R1.out.rows 0 (by omega)).at (k:=0) h0;obtain⟨g,o,_,hA,hg,bX,lu,iZ⟩:=lF;rw[j4 h0,Nat.add_zero] at bX;unfold maxLen at iZ;rw[hA] at c2;have bZ:=(R1.out.rows 0 (by omega)).len;rw[bZ] at h0;generalize jl:hd (X 0)=kk at*;have uZ:=J jl;clear jl bZ;go_wp2_with fail
      go_ret2
      exact⟨rfl,HB.out⟩
     |false=>
      have cu:¬(0 < (X 0).length/\(mo<=(X 0).length\/eW X s false=true)):=by rw[hf];rintro⟨_,h|h⟩;exact h1 h;cases h
      by_cases h2:0 < (X 1).length
      . obtain⟨rfl,rfl⟩:=sL.out cu h2;have h0:=h2;clear h1 l0 l1 sK sL sM hf e1 e0 cu h2;have lF:=(R1.out.rows 1 (by omega)).at (k:=0) h0;obtain⟨g,o,_,hA,hg,bX,lu,iZ⟩:=lF;rw[j4 h0,Nat.add_zero] at bX;unfold maxLen at iZ;rw[hA] at c3;have bZ:=(R1.out.rows 1 (by omega)).len;rw[bZ] at h0;generalize jl:hd (X 1)=kk at*;have uZ:=J jl;clear jl bZ;go_wp2_with fail
        go_ret2
        exact⟨rfl,HB.out⟩
      . obtain⟨rfl,rfl⟩:=sM.out cu h2;have e2:¬0 < (v 1).n:=by omega
        clear h1 l0 l1 sK sL sM hf e1 e0 cu h2 h0;go_wp2_with fail
        go_ret2
        exact⟨rfl,HB.out⟩
 . have cu:¬(0 < (X 0).length/\(mo<=(X 0).length\/eW X s false=true)):=λh=>h0 h.1;have e0:¬0 < (v 0).n:=by omega
   by_cases h2:0 < (X 1).length
   . obtain⟨rfl,rfl⟩:=sL.out cu h2;clear h0;have h0:=h2;clear l0 l1 sK sL sM cu h2;have lF:=(R0.out.rows 1 (by omega)).at (k:=0) h0;obtain⟨g,o,_,hA,hg,bX,lu,iZ⟩:=lF;rw[j4 h0,Nat.add_zero] at bX;unfold maxLen at iZ;rw[hA] at c3;have bZ:=(R0.out.rows 1 (by omega)).len;rw[bZ] at h0;generalize jl:hd (X 1)=kk at*;have uZ:=J jl;clear jl bZ;go_wp2_with fail
     go_ret2
     exact⟨rfl,HB.out⟩
   . obtain⟨rfl,rfl⟩:=sM.out cu h2;have e2:¬0 < (v 1).n:=by omega
     clear l0 l1 sK sL sM cu h2 h0;go_wp2_with fail
     go_ret2
     exact⟨rfl,HB.out⟩
def dX(X:L4)(mo p:Nat):L4:=if vB X mo p=true then iK X (vK X mo p) else X
theorem NT(hs:s<=9223372036854775807)(hm:mo<=9223372036854775807)(hl:∀k,k < 4->(X k).length<=1900):Calls prog 65 #[aU mo s v] w (CT w P (rJ (vK X mo s) (vB X mo s)) mo s (dX X mo s)):=by
 have HL:=J hl;clear hl;have R0:=J (bF h hP mo s);clear h hP;go_enter func65,ntmps65;go_upto_region 1 with fail
 generalize(w.alloc (aM mo s v)).alloc (aM 0 0 zV)=W at R0|-;generalize w.heap.size+1=q at R0|-;obtain⟨p,hp⟩:=zx w.heap.size;rw[← hp] at R0|-;have bR:=J hp;clear hp;have V:=J (pN _ _ mo s v X R0.out.b.rows R0.out.b.cl hs hm);have HD:=zs (dX X mo s=if vB X mo s=true then iK X (vK X mo s) else X) rfl;generalize dX X mo s=Y at*;generalize vK X mo s=ak at*;obtain⟨c0,c1,c2,c3,c4,c5⟩:=R0.out.b.box.c;cases iU:vB X mo s with
 |true=>
  have E0:=HD.out;rw[iU,if_pos rfl] at E0;have E:=J E0;have NU:=J iU;rw[iU] at V;clear HD iU E0;go_wp2_with fail
  refine V.out.mono ?_;rintro e W1 ⟨rfl,hB⟩;have R1:=J (R0.out.below hB);clear hB V R0 c0 c1 c2 c3 c4 c5;have U:=J (eu _ _ mo s v X R1.out.b.rows R1.out.b.cl ak HL.out);obtain⟨c0,c1,c2,c3,c4,c5⟩:=R1.out.b.box.c;go_wp2_with fail
  refine U.out.mono ?_;rintro e W3 ⟨v9,rfl,hr,hB⟩;have aD:=R1.out.below hB;have R2:=J (aD.dj (mo':=mo) (s':=s) hr);obtain⟨d0,d1,d2,d3,d4,d5⟩:=aD.b.box.c;obtain⟨f0,f1,f2,f3,f4,f5⟩:=aD.b.box.f;clear c0 c1 c2 c3 c4 c5 hr hB aD U;go_upto_region 4 with fail
  clear d0 d1 d2 d3 d4 d5 f0 f1 f2 f3 f4 f5;dsimp only[cX] at R2;generalize(((((W3.setCell ⟨p,0,none⟩ (.int .i64 (mo:Int))).setCell ⟨p,1,none⟩ (.int .i64 (s:Int))).setCell ⟨p,2,none⟩ (.slice (v9 0).A (v9 0).n (v9 0).c)).setCell ⟨p,3,none⟩ (.slice (v9 1).A (v9 1).n (v9 1).c)).setCell ⟨p,4,none⟩ (.slice (v9 2).A (v9 2).n (v9 2).c)).setCell ⟨p,5,none⟩ (.slice (v9 3).A (v9 3).n (v9 3).c)=W4 at R2|-;have RO:=R2.out.out (mo':=mo) (s':=s) (R2.out.b.rows);have O1:=J RO.1;have O2:=J RO.2.1;have O3:=J RO.2.2;clear RO;obtain⟨c0,c1,c2,c3,c4,c5⟩:=R2.out.b.box.c;obtain⟨d0,d1,d2,d3,d4,d5⟩:=R2.out.res.c;obtain⟨f0,f1,f2,f3,f4,f5⟩:=R2.out.res.f;go_wp2_with fail
  refine bodyPost_ret (bg rfl _ _ _ ⟨q,0,none⟩ _ rfl (bf O1.out)) rfl ?_;rw[E.out,NU.out];exact⟨_,rfl,O2.out,O3.out⟩
 |false=>
  have E0:=HD.out;rw[iU,if_neg (by simp)] at E0;have E:=J E0;have NU:=J iU;rw[iU] at V;clear HD iU E0;go_wp2_with fail
  refine V.out.mono ?_;rintro e W1 ⟨rfl,hB⟩;have R1:=J (R0.out.below hB);clear hB V R0 c0 c1 c2 c3 c4 c5;have RO:=R1.out.out (mo':=mo) (s':=s) (R1.out.b.rows);have O1:=J RO.1;have O2:=J RO.2.1;have O3:=J RO.2.2;clear RO;obtain⟨c0,c1,c2,c3,c4,c5⟩:=R1.out.b.box.c;obtain⟨d0,d1,d2,d3,d4,d5⟩:=R1.out.res.c;obtain⟨f0,f1,f2,f3,f4,f5⟩:=R1.out.res.f;go_wp2_with fail
  refine bodyPost_ret (bg rfl _ _ _ ⟨q,0,none⟩ _ rfl (bf O1.out)) rfl ?_;rw[E.out,NU.out];exact⟨_,rfl,O2.out,O3.out⟩
theorem zR(hl:(X 0).length+(X 1).length<=2000):Calls prog 74 #[aU mo s v] w (br (X 0++X 1) w):=by
 have R0:=J (cB h hP mo s);clear h hP;go_enter func74,ntmps74;go_upto_region 1 with fail
 generalize w.alloc (aM mo s v)=W at R0|-;obtain⟨p,hp⟩:=zx w.heap.size;rw[← hp] at R0|-;have bR:=zs (w.heap.size<=W.heap.size) R0.out.az.size;clear hp;have RD:=R0.out.below (show Below W.heap.size W W.drew from⟨rfl,rfl,rfl,zg _,λ_ _=>rfl⟩);obtain⟨v1,v2,w1,w2,r1,r2,o2,b1,b2⟩:=Kg (RD.rows 0 (by omega)) (RD.rows 1 (by omega)) hl;obtain⟨_,_,c2,c3,_,_⟩:=RD.box.c;have R8:W.drew.alloc (.cells #[] 9)=(W.alloc (.cells #[] 9)).drew:=rfl;have RY:=RD.below ((zo W.drew.heap.size W.drew).alloc (zg _) (.cells #[] 9));rw[R8] at r1 RY;obtain⟨_,_,y2,y3,_,_⟩:=RY.box.c;obtain⟨_,_,z2,z3,_,_⟩:=(RD.below b1).box.c;obtain⟨_,_,z4,z5,_,_⟩:=(RD.below b2).box.c;have fK:=J r1;have dY:=J r2;have O2:=J (o2.mono RD.az.size);have B2:=J (RD.az.trans (b2.mono RD.az.size));clear r1 r2 o2 b1 b2 R0 RD RY R8
 go_region_held3(λw'=>w'.cell? ⟨p,2,none⟩=some (.slice (v 0).A (v 0).n (v 0).c)/\w'.cell? ⟨p,3,none⟩=some (.slice (v 1).A (v 1).n (v 1).c)) (first|(with_reducible exact⟨z4,z5⟩)|(with_reducible exact⟨z2,z3⟩)|(with_reducible exact⟨y2,y3⟩)|(with_reducible exact⟨c2,c3⟩)|go_keep)
  (first
    |(refine ek rfl _ _ _ rfl _ _ _ _ rfl rfl fK.out ?_)
    |(refine ek rfl _ _ _ rfl _ _ _ _ rfl rfl dY.out ?_))
 all_goals
  go_wp2_with fail
  go_ret;exact⟨_,rfl,O2.out,B2.out⟩
