/- Part 3 of the proof. -/
import Derived.Test.YtgjdjgnfpendgaaGreatDoorZ
import Derived.Below
import Derived.BigQuiet
import Derived.BigRegion
import Derived.Deep.Draws
import Derived.Deep.LoopGhost
import Derived.Deep.QuietTactic
import Derived.IntWalk
import Derived.Laws.Bits64
import Derived.Laws.OwnMore
import Derived.Laws.StructEq
import Derived.Lib.Hide
import Derived.LoopTactic
import Derived.Maps.AppendAt
import Derived.Maps.OwnSet
import Derived.OwnWalk
import Derived.RegionTactic
import Derived.Test.YtgjdjgnfpendgaaGreatDoorChecked
import Derived.WalkKit
set_option maxHeartbeats 16000000
set_option maxRecDepth 20000
namespace Go.Proofs.YtgjdjgnfpendgaaGreatDoor
open Go.Proofs.Tryz
namespace Sg
open Go
def af{α:Type}(f:Nat->α)(i:Nat)(v:α):Nat->α:=λj=>if j=i then v else f j
theorem ay{α:Type}(f:Nat->α)(i:Nat)(v:α):af f i v i=v:=by simp[af]
theorem au{α:Type}{f:Nat->α}{i j:Nat}{v:α}(h:j≠i):af f i v j=f j:=by simp[af,h]
def kf(nx pv:Nat->Nat):Nat->List Nat->Nat->Prop
 |a,[],b=>nx a=b/\pv b=a
 |a,x::l,b=>nx a=x/\pv x=a/\kf nx pv x l b
theorem iQ{nx pv:Nat->Nat}{x b:Nat}{ys:List Nat}:∀{a:Nat} {xs:List Nat},kf nx pv a (xs++x::ys) b<->kf nx pv a xs x/\kf nx pv x ys b
 |a,[]=>by simp[kf,and_assoc]
 |a,y::xs=>by
  have:=@iQ nx pv x b ys y xs;simp only[List.cons_append,kf,this,and_assoc]
theorem kZ{nx pv D7 Rn:Nat->Nat}{b:Nat}:∀{a:Nat} {l:List Nat},kf nx pv a l b->(∀i∈a::l,D7 i=nx i)->(∀i∈l++ [b],Rn i=pv i)->kf D7 Rn a l b
 |a,[],h,h1,h2=>⟨(h1 a (by simp)).trans h.1,(h2 b (by simp)).trans h.2⟩
 |a,x::l,h,h1,h2=>⟨(h1 a (by simp)).trans h.1,(h2 x (by simp)).trans h.2.1,kZ h.2.2 (λi hi=>h1 i (qm _ hi)) (λi hi=>h2 i (qm _ hi))⟩
theorem lZ{nx pv:Nat->Nat}{b:Nat}:∀{a:Nat} {l:List Nat},kf nx pv a l b->pv b∈a::l
 |a,[],h=>by rw[h.2];simp
 |a,x::l,h=>qm _ (lZ h.2.2)
theorem CF{nx pv:Nat->Nat}{b:Nat}:∀{a:Nat} {l:List Nat},kf nx pv a l b->nx a∈l++ [b]
 |a,[],h=>by rw[h.1];simp
 |a,x::l,h=>by rw[h.1];simp
theorem vN{nx pv:Nat->Nat}{a n:Nat}:∀{s:Nat} {xs:List Nat},kf nx pv s xs a->(s::xs).Nodup->n∉xs->kf (af nx (pv a) n) (af pv n (pv a)) s xs n
 |s,[],h,_,_=>by
  obtain⟨_,h2⟩:=h;rw[h2];exact⟨ay _ _ _,ay _ _ _⟩
 |s,x::xs,h,hn,hx=>by
  have hm:=lZ h.2.2;have hs:s∉x::xs:=(List.nodup_cons.1 hn).1;refine⟨?_,?_,vN h.2.2 (List.nodup_cons.1 hn).2 (λh=>hx (qm _ h))⟩
  . rw[au (λe=>hs (by rw[e];exact hm))];exact h.1
  . rw[au (λe=>hx (by rw[e];simp))];exact h.2.1
theorem unlink{nx pv:Nat->Nat}{a:Nat}{xs ys:List Nat}(h:kf nx pv 0 (xs++a::ys) 0)(hn:(0::(xs++a::ys)).Nodup):
 kf (af nx (pv a) (nx a)) (af pv (nx a) (pv a)) 0 (xs++ys) 0:=by
 obtain⟨h1,h2⟩:=iQ.1 h
 have qZ:(0::xs).Nodup:=by
  refine hn.sublist (List.Sublist.cons_cons _ (List.sublist_append_left _ _))
 have hm:=lZ h1;cases ys with
 |nil=>
  have e:nx a=0:=h2.1;rw[e,xq];exact vN h1 qZ (List.nodup_cons.1 qZ).1
 |cons y ys=>
  have e:nx a=y:=h2.1;rw[e];have hq:=(List.nodup_cons.1 hn);have Mm:=List.nodup_append.1 hq.2;have hy:=List.nodup_cons.1 Mm.2.1;have U7:=List.nodup_cons.1 hy.2;have U8:y∉xs:=λhx=>Mm.2.2 y hx y (by simp) rfl;refine iQ.2 ⟨vN h1 qZ U8,kZ h2.2.2 (λi hi=>au ?_) (λi hi=>au ?_)⟩
  . intro e;rw[← e] at hm;rcases List.mem_cons.1 hm with h0|h0
    . rw[h0] at hi;exact hq.1 (qx _ (qm _ hi))
    . exact Mm.2.2 i h0 i (qm _ hi) rfl
  . intro e;rcases List.mem_append.1 hi with h0|h0
    . exact U7.1 (e▸h0)
    . have:i=0:=by simpa using h0
      exact hq.1 (by rw[← this,e];simp)
theorem CG{nx pv:Nat->Nat}{a:Nat}{row:List Nat}(h:kf nx pv 0 row 0)(hn:(0::row).Nodup)(ha:a∉0::row):
 kf (af (af nx a (nx 0)) 0 a) (af (af pv a 0) (nx 0) a) 0 (a::row) 0:=by
 have q8:a≠0:=λe=>ha (by simp[e]);have uy:a∉row:=λe=>ha (qm _ e);have I8:=CF h
 have TD:a≠nx 0:=by
  intro e;rw[← e] at I8;rcases List.mem_append.1 I8 with h0|h0
  . exact uy h0
  . exact q8 (by simpa using h0)
 refine⟨ay _ _ _,?_,?_⟩
 . rw[au TD,ay]
 . cases row with
   |nil=>
    have e:nx 0=0:=h.1;refine⟨?_,?_⟩
    . rw[au q8,ay,e]
    . rw[e,ay]
   |cons y row=>
    have e:nx 0=y:=h.1;have h0:=List.nodup_cons.1 hn;have hy:=List.nodup_cons.1 h0.2;refine⟨?_,?_,kZ h.2.2 (λi hi=>?_) (λi hi=>?_)⟩
    . rw[au q8,ay,e]
    . rw[e,ay]
    . rw[au (λe=>h0.1 (by rw[← e];exact hi)),au (λe=>uy (by rw[← e];exact hi))]
    . rw[e,au ?_,au ?_]
      . intro e2;rcases List.mem_append.1 hi with h1|h1
        . exact uy (by rw[← e2];exact qm _ h1)
        . exact q8 (by rw[← e2];simpa using h1)
      . intro e2;rcases List.mem_append.1 hi with h1|h1
        . exact hy.1 (e2▸h1)
        . have:i=0:=by simpa using h1
          exact h0.1 (by rw[← this,e2];simp)
def BA(nx:Nat->Nat):Nat->List Nat->Prop
 |e,[]=>e=0
 |e,x::l=>e=x/\BA nx (nx x) l
theorem oh{nx D7:Nat->Nat}:∀{e:Nat} {l:List Nat},BA nx e l->(∀i∈l,D7 i=nx i)->BA D7 e l
 |_,[],h,_=>h
 |e,x::l,h,h1=>⟨h.1,by rw[h1 x (by simp)];exact oh h.2 λi hi=>h1 i (qm _ hi)⟩
theorem q9{K:Nat->zy}{xs ys:List Nat}{a:Nat}(hk:((xs++a::ys).map K).Nodup):(xs++a::ys).filter (λi=>decide (K i≠K a))=xs++ys:=by
 rw[xc,xb] at hk;have h1:=List.nodup_append.1 hk;have h2:=List.nodup_cons.1 h1.2.1;rw[List.filter_append,List.filter_cons_of_neg (by simp)];congr 1
 . rw[List.filter_eq_self];intro i hi;simp only[decide_eq_true_eq];intro e;exact h1.2.2 (K i) (xt hi) (K a) (by simp) e
 . rw[List.filter_eq_self];intro i hi;simp only[decide_eq_true_eq];intro e;exact h2.1 (by rw[← e];exact xt hi)
end Sg
section
open Go.RowKit Sg
theorem kn{k:IntKind}{a b:Int}(h:a=b):Ending.returned (.int k a)= .returned (.int k b):=by rw[h]
theorem Mn{s t:zy}{a b:Bool}(h:s=t)(k:a=b):Ending.returned (.tuple #[.string s,.bool a])= .returned (.tuple #[.string t,.bool b]):=by rw[h,k]
theorem eI{a b:Bool}(h:a=b):Ending.returned (.bool a)= .returned (.bool b):=by rw[h]
structure Ar where
 n:Nat
 K:Nat->zy
 pv:Nat->Nat
 nx:Nat->Nat
 e:Nat
structure bt(w w':zw)(a b c:Nat):Prop where
 os:w'.os=w.os
 tape:w'.tape=w.tape
 output:w'.output=w.output
 size:w.heap.size<=w'.heap.size
 block:∀k,k < w.heap.size->k≠a->k≠b->k≠c->w'.heap[k]?=w.heap[k]?
theorem bt.refl(w:zw)(a b c:Nat):bt w w a b c:=⟨rfl,rfl,rfl,zg _,λ_ _ _ _ _=>rfl⟩
theorem bt.trans{w w1 w2:zw}{a b c:Nat}(h:bt w w1 a b c)(k:bt w1 w2 a b c):bt w w2 a b c:=
 ⟨k.os.trans h.os,k.tape.trans h.tape,k.output.trans h.output,zr h.size k.size,λi hi h1 h2 h3=>(k.block i (xd hi h.size) h1 h2 h3).trans (h.block i hi h1 h2 h3)⟩
theorem bt.trans'{w w1 w2:zw}{a b c d:Nat}(h:bt w w1 a b c)(hd:d=c\/w.heap.size<=d)(k:bt w1 w2 a b d):bt w w2 a b c:=
 ⟨k.os.trans h.os,k.tape.trans h.tape,k.output.trans h.output,zr h.size k.size,λi hi h1 h2 h3=>(k.block i (xd hi h.size) h1 h2 (by rcases hd with rfl|hd <;> omega)).trans (h.block i hi h1 h2 h3)⟩
theorem bt.setCell{w w1:zw}{a b c:Nat}(h:bt w w1 a b c){p:Addr}(hp:p.block=a\/p.block=b\/p.block=c)(u:Value):bt w (w1.setCell p u) a b c:=
 h.trans ⟨rfl,rfl,rfl,by simp[World.setCell],λk _ h1 h2 h3=>qc _ _ _ _ (by omega)⟩
theorem bt.drew{w w1:zw}{a b c:Nat}(h:bt w w1 a b c):bt w w1.drew a b c:=⟨h.os,h.tape,h.output,h.size,h.block⟩
theorem bt.alloc{w w1:zw}{a b c:Nat}(h:bt w w1 a b c)(o:Obj):bt w (w1.alloc o) a b c:=
 h.trans ⟨rfl,rfl,rfl,by simp,λk hk _ _ _=>qf _ _ _ hk⟩
theorem bt.grown{w w1 w2:zw}{a b c:Nat}{r:Option Nat}(h:bt w w1 a b c)(g:w1.grownBy w2 r)(hr:∀k,r=some k->k=a\/k=b\/k=c\/w.heap.size<=k):bt w w2 a b c:=
 ⟨g.os.trans h.os,g.tape.trans h.tape,g.output.trans h.output,zr h.size g.size,λi hi h1 h2 h3=>(g.block i (xd hi h.size) (λe=>by have:=hr i e.symm;omega)).trans (h.block i hi h1 h2 h3)⟩
theorem bt.wide{w w':zw}{l M P:Nat}(h:bt w w' l P P):bt w w' l M P:=⟨h.os,h.tape,h.output,h.size,λk hk h1 _ h3=>h.block k hk h1 h3 h3⟩
structure Holds(w:zw)(l M P:Nat)(A:Ar):Prop where
 lM:l≠M
 lP:l≠P
 MP:M≠P
 iD:M < w.heap.size
 mem:∃(cap:Nat) (arr:Array Value),w.heap[l]?=some (.cells #[.slice (some ⟨P,0,none⟩) A.n cap,.map (some M),.int .i64 (A.e:Int)] 221 (0,0))/\
  w.heap[P]?=some (.cells arr 248 (0,0))/\arr.size=cap*3/\A.n<=cap/\cap<=maxLen/\
  ∀i,i < A.n->arr[i*3]?=some (.string (A.K i))/\arr[i*3+1]?=some (.int .i64 (A.pv i:Int))/\arr[i*3+2]?=some (.int .i64 (A.nx i:Int))
 pos:1<=A.n
 top:A.n<=1000
 sC:A.e < A.n
 tf:∀i,i < A.n->A.pv i < A.n
 pF:∀i,i < A.n->A.nx i < A.n
section
variable{w:zw}{l M P:Nat}{A:Ar}
theorem Holds.eZ(h:Holds w l M P A):l < w.heap.size:=by obtain⟨cap,arr,h1,_⟩:=h.mem;exact(Array.getElem?_eq_some_iff.1 h1).1
theorem Holds.uz(h:Holds w l M P A):P < w.heap.size:=by obtain⟨cap,arr,_,h1,_⟩:=h.mem;exact(Array.getElem?_eq_some_iff.1 h1).1
theorem Holds.same{w':zw}(h:Holds w l M P A)(hs:w.heap.size<=w'.heap.size)(hl:w'.heap[l]?=w.heap[l]?)(hP:w'.heap[P]?=w.heap[P]?):Holds w' l M P A:=by
 obtain⟨cap,arr,h1,h2,h3⟩:=h.mem;exact⟨h.lM,h.lP,h.MP,xd h.iD hs,⟨cap,arr,hl.trans h1,hP.trans h2,h3⟩,h.pos,h.top,h.sC,h.tf,h.pF⟩
theorem Holds.own(h:Holds w l M P A):∃cap,A.n<=cap/\cap<=maxLen/\w.cell? ⟨l,0,none⟩=some (.slice (some ⟨P,0,none⟩) A.n cap)/\w.cell? ⟨l,1,none⟩=some (.map (some M))/\w.cell? ⟨l,2,none⟩=some (.int .i64 (A.e:Int)):=by
 obtain⟨cap,arr,h1,_,_,h4,h5,_⟩:=h.mem;exact⟨cap,h4,h5,cell_of_row w _ 0 _ _ _ h1,cell_of_row w _ 1 _ _ _ h1,cell_of_row w _ 2 _ _ _ h1⟩
theorem Holds.place(h:Holds w l M P A){i:Nat}(hi:i < A.n):w.cell? ⟨P,i*3,none⟩=some (.string (A.K i))/\w.cell? ⟨P,i*3+1,none⟩=some (.int .i64 (A.pv i:Int))/\w.cell? ⟨P,i*3+2,none⟩=some (.int .i64 (A.nx i:Int)):=by
 obtain⟨cap,arr,_,h2,_,_,_,h6⟩:=h.mem;obtain⟨k1,k2,k3⟩:=h6 i hi;exact⟨(cell_of_row w _ _ _ _ _ h2).trans k1,(cell_of_row w _ _ _ _ _ h2).trans k2,(cell_of_row w _ _ _ _ _ h2).trans k3⟩
theorem Holds.jV(h:Holds w l M P A)(j:Nat):w.frozen? ⟨P,j,none⟩=false:=by
 obtain⟨cap,arr,_,h2,_⟩:=h.mem;exact frozen_of_row w _ j _ _ h2
theorem Holds.CH(h:Holds w l M P A)(j:Nat):w.frozen? ⟨l,j,none⟩=false:=by
 obtain⟨cap,arr,h1,_⟩:=h.mem;exact frozen_of_row w _ j _ _ h1
theorem Holds.Mo(h:Holds w l M P A){i:Nat}(hi:i < A.n)(s:zy):Holds (w.setCell ⟨P,i*3,none⟩ (.string s)) l M P {A with K:=af A.K i s}:=by
 obtain⟨cap,arr,h1,h2,h3,h4,h5,h6⟩:=h.mem;refine⟨h.lM,h.lP,h.MP,by simpa[World.setCell] using h.iD,⟨cap,_,(heap_setCell_other _ _ _ _ h.lP).trans h1,heap_setCell_same _ _ _ _ _ _ h2,by simpa using h3,h4,h5,λj hj=>?_⟩,h.pos,h.top,h.sC,h.tf,h.pF⟩;obtain⟨k1,k2,k3⟩:=h6 j hj;refine⟨?_,?_,?_⟩
 . by_cases e:j=i
   . subst e;show _=some (Value.string (af A.K j s j));rw[ay,xr (by omega)]
   . show _=some (Value.string (af A.K i s j));rw[au e,qv (by omega)];exact k1
 . rw[qv (by omega)];exact k2
 . rw[qv (by omega)];exact k3
theorem Holds.xQ(h:Holds w l M P A){i v:Nat}(hi:i < A.n)(hv:v < A.n):Holds (w.setCell ⟨P,i*3+1,none⟩ (.int .i64 (v:Int))) l M P {A with pv:=af A.pv i v}:=by
 obtain⟨cap,arr,h1,h2,h3,h4,h5,h6⟩:=h.mem;refine⟨h.lM,h.lP,h.MP,by simpa[World.setCell] using h.iD,⟨cap,_,(heap_setCell_other _ _ _ _ h.lP).trans h1,heap_setCell_same _ _ _ _ _ _ h2,by simpa using h3,h4,h5,λj hj=>?_⟩,h.pos,h.top,h.sC,λj hj=>?_,h.pF⟩
 . obtain⟨k1,k2,k3⟩:=h6 j hj;refine⟨?_,?_,?_⟩
   . rw[qv (by omega)];exact k1
   . by_cases e:j=i
     . subst e;show _=some (Value.int .i64 ((af A.pv j v j:Nat):Int));rw[ay,xr (by omega)]
     . show _=some (Value.int .i64 ((af A.pv i v j:Nat):Int));rw[au e,qv (by omega)];exact k2
   . rw[qv (by omega)];exact k3
 . show af A.pv i v j < A.n;unfold af;split
   . exact hv
   . exact h.tf j hj
theorem Holds.xR(h:Holds w l M P A){i v:Nat}(hi:i < A.n)(hv:v < A.n):Holds (w.setCell ⟨P,i*3+2,none⟩ (.int .i64 (v:Int))) l M P {A with nx:=af A.nx i v}:=by
 obtain⟨cap,arr,h1,h2,h3,h4,h5,h6⟩:=h.mem;refine⟨h.lM,h.lP,h.MP,by simpa[World.setCell] using h.iD,⟨cap,_,(heap_setCell_other _ _ _ _ h.lP).trans h1,heap_setCell_same _ _ _ _ _ _ h2,by simpa using h3,h4,h5,λj hj=>?_⟩,h.pos,h.top,h.sC,h.tf,λj hj=>?_⟩
 . obtain⟨k1,k2,k3⟩:=h6 j hj;refine⟨?_,?_,?_⟩
   . rw[qv (by omega)];exact k1
   . rw[qv (by omega)];exact k2
   . by_cases e:j=i
     . subst e;show _=some (Value.int .i64 ((af A.nx j v j:Nat):Int));rw[ay,xr (by omega)]
     . show _=some (Value.int .i64 ((af A.nx i v j:Nat):Int));rw[au e,qv (by omega)];exact k3
 . show af A.nx i v j < A.n;unfold af;split
   . exact hv
   . exact h.pF j hj
theorem Holds.Mq(h:Holds w l M P A){v:Nat}(hv:v < A.n):Holds (w.setCell ⟨l,2,none⟩ (.int .i64 (v:Int))) l M P {A with e:=v}:=by
 obtain⟨cap,arr,h1,h2,h3,h4,h5,h6⟩:=h.mem;exact⟨h.lM,h.lP,h.MP,by simpa[World.setCell] using h.iD,⟨cap,arr,by rw[heap_setCell_same _ _ _ _ _ _ h1];rfl,(heap_setCell_other _ _ _ _ h.lP.symm).trans h2,h3,h4,h5,h6⟩,h.pos,h.top,hv,h.tf,h.pF⟩
theorem Holds.drew(h:Holds w l M P A):Holds w.drew l M P A:=h.same (zg _) rfl rfl
theorem Holds.alloc(h:Holds w l M P A)(o:Obj):Holds (w.alloc o) l M P A:=h.same (by simp) (qf _ _ _ h.eZ) (qf _ _ _ h.uz)
end
end
section
open Go.RowKit Sg
def gZ(s:zy)(b:Bool)(w:zw)(e:Ending)(w':zw):Prop:=e= .returned (.tuple #[.string s,.bool b])/\w=w'
theorem D8(w:zw)(l M P:Nat)(A:Ar)(i:Nat)(h:Holds w l M P A)(hi:i < A.n):
 Calls prog 157 #[.pointer (some ⟨l,0,none⟩),.int .i64 (i:Int)] w (gZ (A.K i) (decide (i≠0)) w):=by
 obtain⟨cap,cF,bL,c0,_,_⟩:=h.own;obtain⟨k0,_,_⟩:=h.place hi;have ht:=h.top;unfold maxLen at bL;clear h;go_enter func157,ntmps157;go_wp2_with fail
 go_ret2
 exact⟨Mn rfl (by rw[Bool.eq_iff_iff];simp),rfl⟩
def yP(A:Ar)(i:Nat):Ar:={A with nx:=af A.nx (A.pv i) (A.nx i),pv:=af A.pv (A.nx i) (A.pv i)}
def BB(w:zw)(l M P:Nat)(A:Ar)(e:Ending)(w':zw):Prop:=e= .returned (.tuple #[])/\Holds w' l M P A/\bt w w' l P P
theorem D9{w:zw}{l M P:Nat}{A:Ar}{i p q:Nat}(h:Holds w l M P A)(hp:A.pv i=p)(hq:A.nx i=q)(fy:p < A.n)(wH:q < A.n):
 Holds ((w.setCell ⟨P,p*3+2,none⟩ (.int .i64 (q:Int))).setCell ⟨P,q*3+1,none⟩ (.int .i64 (p:Int))).drew l M P (yP A i):=by
 subst hp;subst hq;exact((h.xR fy wH).xQ (A:={A with nx:=af A.nx (A.pv i) (A.nx i)}) wH fy).drew
theorem uB(w:zw)(l M P:Nat)(A:Ar)(i:Nat)(h:Holds w l M P A)(hi:i < A.n):
 Calls prog 156 #[.pointer (some ⟨l,0,none⟩),.int .i64 (i:Int)] w (BB w l M P (yP A i)):=by
 have ht:=h.top;have hp:=h.tf i hi;have hn:=h.pF i hi;have eZ:=h.eZ;have uz:=h.uz;have lP:=h.lP;have HH:=J h;clear h;obtain⟨p,Mr⟩:∃p,A.pv i=p:=⟨_,rfl⟩;obtain⟨q,yQ⟩:∃q,A.nx i=q:=⟨_,rfl⟩;rw[Mr] at hp;rw[yQ] at hn;have HP:=J Mr;have HQ:=J yQ;clear Mr yQ;obtain⟨cap,cF,bL,c0,_,_⟩:=HH.out.own;obtain⟨k0,k1,k2⟩:=HH.out.place hi;rw[HP.out] at k1;rw[HQ.out] at k2;unfold maxLen at bL;go_enter func156,ntmps156;go_wp2_with fail
 clear k0 k1 k2;have HA:=J (HH.out.alloc (.cells #[.string (A.K i),.int .i64 (p:Int),.int .i64 (q:Int)] 248));have HT:=J ((bt.refl w l P P).alloc (.cells #[.string (A.K i),.int .i64 (p:Int),.int .i64 (q:Int)] 248));have hw:=heap_alloc_new w (.cells #[.string (A.K i),.int .i64 (p:Int),.int .i64 (q:Int)] 248);have d0:(w.alloc (.cells #[.string (A.K i),.int .i64 (p:Int),.int .i64 (q:Int)] 248)).cell? ⟨l,0,none⟩=some (.slice (some ⟨P,0,none⟩) A.n cap):=(World.cell?_of_block (a:=⟨l,0,none⟩) (qf w _ l eZ)).trans c0;have ke:w.heap.size≠l:=by omega
 have Vc:w.heap.size≠P:=by omega
 clear c0 HH eZ uz;generalize w.heap.size=b at hw ke Vc|-;generalize w.alloc (.cells #[.string (A.K i),.int .i64 (p:Int),.int .i64 (q:Int)] 248)=w1 at hw HA HT d0|-;have d1:w1.cell? ⟨b,1,none⟩=some (.int .i64 (p:Int)):=cell_of_row w1 _ 1 _ _ _ hw;have d2:w1.cell? ⟨b,2,none⟩=some (.int .i64 (q:Int)):=cell_of_row w1 _ 2 _ _ _ hw;obtain⟨_,_,k3⟩:=HA.out.place hp;obtain⟨_,k4,_⟩:=HA.out.place hn;have f3:=HA.out.jV (p*3+2);have f4:=HA.out.jV (q*3+1);have FV:p*3+2≠q*3+1:=by omega
 have Lg:q*3+1≠p*3+2:=by omega
 have R:=J (D9 HA.out HP.out HQ.out hp hn);have RT:=J (((HT.out.setCell (p:=⟨P,p*3+2,none⟩) (ja (ja rfl)) (.int .i64 (q:Int))).setCell (p:=⟨P,q*3+1,none⟩) (ja (ja rfl)) (.int .i64 (p:Int))).drew);clear hw;go_region;go_end0;exact⟨rfl,R.out,RT.out⟩
def Gi(A:Ar)(i j:Nat):Ar:={A with pv:=af A.pv i j,nx:=af A.nx i (A.nx j)}
def Ms(A:Ar)(i j:Nat):Ar:={A with pv:=af (af A.pv i j) (A.nx j) i,nx:=af (af A.nx i (A.nx j)) j i}
theorem CI{w:zw}{l M P:Nat}{A:Ar}{i j q:Nat}(h:Holds w l M P A)(hq:A.nx j=q)(hi:i < A.n)(hj:j < A.n)(wH:q < A.n):
 Holds ((w.setCell ⟨P,i*3+1,none⟩ (.int .i64 (j:Int))).setCell ⟨P,i*3+2,none⟩ (.int .i64 (q:Int))).drew l M P (Gi A i j):=by
 subst hq;exact((h.xQ hi hj).xR (A:={A with pv:=af A.pv i j}) hi wH).drew
theorem CJ{w:zw}{l M P:Nat}{A:Ar}{i j q:Nat}(h:Holds w l M P (Gi A i j))(hq:A.nx j=q)(hi:i < A.n)(hj:j < A.n)(wH:q < A.n):
 Holds ((w.setCell ⟨P,j*3+2,none⟩ (.int .i64 (i:Int))).setCell ⟨P,q*3+1,none⟩ (.int .i64 (i:Int))).drew l M P (Ms A i j):=by
 subst hq;exact((h.xR (i:=j) (v:=i) hj hi).xQ (i:=A.nx j) (v:=i) wH hi).drew
theorem Gj(w:zw)(l M P:Nat)(A:Ar)(i j:Nat)(h:Holds w l M P A)(hi:i < A.n)(hj:j < A.n):
 Calls prog 155 #[.pointer (some ⟨l,0,none⟩),.int .i64 (i:Int),.int .i64 (j:Int)] w (BB w l M P (Ms A i j)):=by
 have ht:=h.top;have hn:=h.pF j hj;have lP:=h.lP;have HH:=J h;clear h;obtain⟨q,yQ⟩:∃q,A.nx j=q:=⟨_,rfl⟩;rw[yQ] at hn;have HQ:=J yQ;clear yQ;obtain⟨cap,cF,bL,c0,_,_⟩:=HH.out.own;obtain⟨_,_,k2⟩:=HH.out.place hj;rw[HQ.out] at k2;obtain⟨_,k3,k4⟩:=HH.out.place hi;have f3:=HH.out.jV (i*3+1);have f4:=HH.out.jV (i*3+2);unfold maxLen at bL;go_enter func155,ntmps155;go_wp2_with fail
 clear k2;go_region;have R:=J (CI HH.out HQ.out hi hj hn);have RT:=J ((((bt.refl w l P P).setCell (p:=⟨P,i*3+1,none⟩) (ja (ja rfl)) (.int .i64 (j:Int))).setCell (p:=⟨P,i*3+2,none⟩) (ja (ja rfl)) (.int .i64 (q:Int))).drew);clear c0 k3 k4 f3 f4;generalize((w.setCell ⟨P,i*3+1,none⟩ (.int .i64 (j:Int))).setCell ⟨P,i*3+2,none⟩ (.int .i64 (q:Int))).drew=w1 at R RT|-;obtain⟨fY,Mt,TF,c0,_,_⟩:=R.out.own;have lQ:(Gi A i j).n=A.n:=rfl;rw[lQ] at c0 Mt;obtain⟨_,_,k3⟩:=R.out.place (i:=j) hj;obtain⟨_,k4,_⟩:=R.out.place (i:=q) hn;have f3:=R.out.jV (j*3+2);have f4:=R.out.jV (q*3+1);have FV:j*3+2≠q*3+1:=by omega
 have Lg:q*3+1≠j*3+2:=by omega
 have R2:=J (CJ R.out HQ.out hi hj hn);have Vd:=J (((RT.out.setCell (p:=⟨P,j*3+2,none⟩) (ja (ja rfl)) (.int .i64 (i:Int))).setCell (p:=⟨P,q*3+1,none⟩) (ja (ja rfl)) (.int .i64 (i:Int))).drew);clear lQ cF bL;unfold maxLen at TF;go_wp2_with fail
 go_region;go_end0;exact⟨rfl,R2.out,Vd.out⟩
end
section
open Go.RowKit Sg
theorem aq{P:Program}{w:zw}{ops:Array Oper}{rest:List Oper}{o:Oper}{a:Act}{Q:Exit->Act->zw->Prop}(jT:o.guard=none)(s x:Operand)(t:TypeId)
 (ho:o.op= .call {callee:= .builtin .append,args:=#[s,x],argTypes:=#[t,t]}) (v u v':Value) (w':zw) (hs:a.eval s=v) (hx:a.eval x=u) (hr:(Builtin.append_ #[t,t] o.type #[v,u]).run P w= .ok v' w')
 (h:wpList P ops Q rest (a.put o.dst v') w'):wpList P ops Q (o::rest) a w:=by
 refine wpList_plain jT λK hK=>?_;unfold Oper.wp execOp;simp only[ho,resolve,invoke,builtin,Sem.run_bind,Sem.run_pure,Result.andThen_ok,List.map_toArray,xb,List.map_nil,hs,hx,hr];exact hK _ _ h
theorem Mu:(prog.info? 248).map (λi=>(i.zero,i.size,i.bytes))=some (some (.agg #[.string ⟨#[]⟩,.int .i64 0,.int .i64 0]),3,32):=by kernel_rfl
def grow(A:Ar):Ar:=⟨A.n+1,af A.K A.n ⟨#[]⟩,af A.pv A.n 0,af A.nx A.n 0,A.e⟩
theorem yR{cur:Array Value}{xs news:List Value}{m:Nat}(h:cur.toList.take m=xs++news)(j:Nat)(hj:j < m):cur[j]?=(xs++news)[j]?:=by
 rw[← h,xv,if_pos hj];simp
theorem D'{w:zw}{P cap:Nat}{arr:Array Value}{A:Ar}(hP:w.heap[P]?=some (.cells arr 248 (0,0)))(h3:arr.size=cap*3)(h4:A.n<=cap)(h5:cap<=maxLen)(ht:A.n<=999)
 (h6:∀i,i < A.n->arr[i*3]?=some (.string (A.K i))/\arr[i*3+1]?=some (.int .i64 (A.pv i:Int))/\arr[i*3+2]?=some (.int .i64 (A.nx i:Int))):
 ∃(P' fY:Nat) (arr':Array Value) (w2:zw),(Builtin.append_ #[218,218] 218 #[.slice (some ⟨P,0,none⟩) A.n cap,.slice (some ⟨w.heap.size,0,none⟩) 1 1]).run prog
    (w.alloc (.cells #[.string ⟨#[]⟩,.int .i64 0,.int .i64 0] 248))= .ok (.slice (some ⟨P',0,none⟩) (A.n+1) fY) w2/\
  (P'=P\/P'=w.heap.size+1)/\(w.alloc (.cells #[.string ⟨#[]⟩,.int .i64 0,.int .i64 0] 248)).grownBy w2 (some P)/\w2.heap[P']?=some (.cells arr' 248 (0,0))/\arr'.size=fY*3/\A.n+1<=fY/\fY<=maxLen/\
  ∀i,i < A.n+1->arr'[i*3]?=some (.string ((grow A).K i))/\arr'[i*3+1]?=some (.int .i64 ((grow A).pv i:Int))/\arr'[i*3+2]?=some (.int .i64 ((grow A).nx i:Int)):=by
 obtain⟨i0,hi,fL,fC,fx⟩:=info_parts Mu;have aQ:P < w.heap.size:=(Array.getElem?_eq_some_iff.1 hP).1
 have bX:∀j u,[Value.string ⟨#[]⟩,Value.int .i64 0,Value.int .i64 0][j]?=some u->(w.alloc (.cells #[.string ⟨#[]⟩,.int .i64 0,.int .i64 0] 248)).cell? ((⟨w.heap.size,0,none⟩:Addr).add j)=some u:=by
  intro j u hj;rw[show(⟨w.heap.size,0,none⟩:Addr).add j=⟨w.heap.size,j,none⟩ by unfold Addr.add;split <;> simp_all,cell_of_row _ _ _ _ _ _ (heap_alloc_new w _)];simpa using hj
 have aS:w.ownsRow 0 248 3 (.slice (some ⟨P,0,none⟩) A.n cap) A.n (arr.toList.take (A.n*3)):=
  ⟨by rw[qh,Array.length_toList];omega,ja ⟨P,cap,arr,rfl,xg _,hP,h4,h5,h3,rfl⟩⟩
 obtain⟨v',w2,aB,bC,hg,ko,bw⟩:=run_append_own_at (P:=prog) (w.alloc (.cells #[.string ⟨#[]⟩,.int .i64 0,.int .i64 0] 248)) 0 218 218 248 i0 _ 3 32
  underlying218 hi fL fC fx rfl (by decide) _ _ _ (aS.alloc _) ⟨w.heap.size,0,none⟩ 1 1 [.string ⟨#[]⟩,.int .i64 0,.int .i64 0] rfl bX (by simp[Value.oneCell']) (by unfold maxLen;omega) (by omega) (Nat.zero_le _)
 obtain⟨hlen,Pu⟩:=bC;rcases Pu with⟨_,h0⟩|⟨P',fY,cur,rfl,_,sD,k7,iZ,uC,wI⟩
 . omega
 refine⟨P',fY,cur,w2,aB,?_,hg,sD,uC,k7,iZ,?_⟩
 . simp only[Value.ownBlock,Option.some.injEq] at bw;rcases bw with h|h
   . exact xz h
   . exact ja (by simpa using h)
 . have hl:(arr.toList.take (A.n*3)).length=A.n*3:=by rw[qh,Array.length_toList];omega
   intro i hi
   by_cases e:i=A.n
   . subst e
     have g:∀k,k < 3->cur[A.n*3+k]?= [Value.string ⟨#[]⟩,Value.int .i64 0,Value.int .i64 0][k]?:=λk hk=>by
      rw[yR wI _ (by omega),List.getElem?_append_right (by omega),hl];congr 1;omega
     have g0:=g 0 (by omega);have g1:=g 1 (by omega);have g2:=g 2 (by omega);refine⟨?_,?_,?_⟩
     . show _=some (Value.string (af A.K A.n ⟨#[]⟩ A.n));rw[ay];simpa using g0
     . show _=some (Value.int .i64 ((af A.pv A.n 0 A.n:Nat):Int));rw[ay];simpa using g1
     . show _=some (Value.int .i64 ((af A.nx A.n 0 A.n:Nat):Int));rw[ay];simpa using g2
   . have g:∀k,k < 3->cur[i*3+k]?=arr[i*3+k]?:=λk hk=>by
      rw[yR wI _ (by omega),List.getElem?_append_left (by omega),xv,if_pos (by omega)];simp
     obtain⟨k1,k2,k3⟩:=h6 i (by omega);refine⟨?_,?_,?_⟩
     . show _=some (Value.string (af A.K A.n ⟨#[]⟩ i));rw[au e];exact(g 0 (by omega)).trans k1
     . show _=some (Value.int .i64 ((af A.pv A.n 0 i:Nat):Int));rw[au e];exact(g 1 (by omega)).trans k2
     . show _=some (Value.int .i64 ((af A.nx A.n 0 i:Nat):Int));rw[au e];exact(g 2 (by omega)).trans k3
def JW(w:zw)(l M P:Nat)(A:Ar)(e:Ending)(w':zw):Prop:=e= .returned (.int .i64 (A.e:Int))/\Holds w' l M P {A with e:=A.nx A.e}/\bt w w' l P P
theorem Gk(w:zw)(l M P:Nat)(A:Ar)(h:Holds w l M P A)(he:A.e≠0):
 Calls prog 158 #[.pointer (some ⟨l,0,none⟩)] w (JW w l M P A):=by
 obtain⟨cap,cF,bL,c0,c1,c2⟩:=h.own;obtain⟨_,_,k2⟩:=h.place h.sC;have ht:=h.top;have yS:=h.sC;have I8:=h.pF _ h.sC;have fl:=h.CH 2;have e0:((A.e:Int)==0)=false:=by simp;omega
 have R:=J (h.Mq I8);have RT:=J ((bt.refl w l P P).setCell (p:=⟨l,2,none⟩) (xz rfl) (.int .i64 (A.nx A.e:Int)));unfold maxLen at bL;clear h he;go_enter func158,ntmps158;go_wp2_with fail
 go_ret;exact⟨rfl,R.out,RT.out⟩
def JX(w:zw)(l M P:Nat)(A:Ar)(e:Ending)(w':zw):Prop:=∃P',(P'=P\/w.heap.size<=P')/\e= .returned (.int .i64 (A.n:Int))/\Holds w' l M P' (grow A)/\bt w w' l P P
theorem CK{w w2:zw}{l M P P' fY:Nat}{A:Ar}{arr':Array Value}(h:Holds w l M P A)(ht:A.n<=999)(hP:P'=P\/P'=w.heap.size+1)
 (hg:(w.alloc (.cells #[.string ⟨#[]⟩,.int .i64 0,.int .i64 0] 248)).grownBy w2 (some P)) (sD:w2.heap[P']?=some (.cells arr' 248 (0,0))) (hs:arr'.size=fY*3) (hc:A.n+1<=fY) (hm:fY<=maxLen)
 (h6:∀i,i < A.n+1->arr'[i*3]?=some (.string ((grow A).K i))/\arr'[i*3+1]?=some (.int .i64 ((grow A).pv i:Int))/\arr'[i*3+2]?=some (.int .i64 ((grow A).nx i:Int))):
 Holds (w2.setCell ⟨l,0,none⟩ (.slice (some ⟨P',0,none⟩) (A.n+1) fY)) l M P' (grow A)/\bt w (w2.setCell ⟨l,0,none⟩ (.slice (some ⟨P',0,none⟩) (A.n+1) fY)) l P P:=by
 have eZ:=h.eZ;have iD:=h.iD;have lP:=h.lP;have MP:=h.MP;have bW:=hg.size;rw[show(w.alloc (.cells #[.string ⟨#[]⟩,.int .i64 0,.int .i64 0] 248)).heap.size=w.heap.size+1 by simp] at bW;obtain⟨cap,arr,h1,_⟩:=h.mem
 have re:w2.heap[l]?=some (.cells #[.slice (some ⟨P,0,none⟩) A.n cap,.map (some M),.int .i64 (A.e:Int)] 221 (0,0)):=by
  rw[hg.block l (by simp;omega) (by simpa using lP),qf _ _ _ eZ];exact h1
 refine⟨⟨h.lM,by omega,by omega,by simp[World.setCell];omega,⟨fY,arr',?_,?_,hs,hc,hm,h6⟩,by show 1<=A.n+1;omega,by show A.n+1<=1000;omega,?_,λi hi=>?_,λi hi=>?_⟩,?_⟩
 . rw[heap_setCell_same _ _ _ _ _ _ re];rfl
 . rw[heap_setCell_other _ _ _ _ (show P'≠l by omega)];exact sD
 . have:=h.sC;show A.e < A.n+1;omega
 . have mN:i < A.n+1:=hi;show af A.pv A.n 0 i < A.n+1;unfold af;split
   . omega
   . have:=h.tf i (by omega);omega
 . have mN:i < A.n+1:=hi;show af A.nx A.n 0 i < A.n+1;unfold af;split
   . omega
   . have:=h.pF i (by omega);omega
 . exact(((bt.refl w l P P).alloc _).grown hg (λk hk=>by cases hk;exact ja (ja (xz rfl)))).setCell (xz rfl) _
theorem Gl(w:zw)(l M P:Nat)(A:Ar)(h:Holds w l M P A)(he:A.e=0)(ht:A.n<=999):
 Calls prog 158 #[.pointer (some ⟨l,0,none⟩)] w (JX w l M P A):=by
 obtain⟨cap,arr,h1,hP,h3,h4,h5,h6⟩:=h.mem;have c0:w.cell? ⟨l,0,none⟩=some (.slice (some ⟨P,0,none⟩) A.n cap):=cell_of_row w _ 0 _ _ _ h1;have c2:w.cell? ⟨l,2,none⟩=some (.int .i64 0):=by rw[cell_of_row w _ 2 _ _ _ h1,he];rfl
 obtain⟨P',fY,arr',w2,aB,bw,hg,sD,Ro,nZ,Bm,Rp⟩:=D' hP h3 h4 h5 ht h6;have R:=J (CK h ht bw hg sD Ro nZ Bm Rp);have HP:=J bw;have HR:=J aB;have eZ:=h.eZ;have lP:=h.lP
 have d0:w2.cell? ⟨l,0,none⟩=some (.slice (some ⟨P,0,none⟩) A.n cap):=by
  rw[World.cell?_of_block (a:=⟨l,0,none⟩) (hg.block l (by simp;omega) (by simpa using lP)),World.cell?_of_block (a:=⟨l,0,none⟩) (qf _ _ _ eZ)];exact c0
 have fl:w2.frozen? ⟨l,0,none⟩=false:=by
  rw[World.frozen?_of_block (a:=⟨l,0,none⟩) (hg.block l (by simp;omega) (by simpa using lP)),World.frozen?_of_block (a:=⟨l,0,none⟩) (qf _ _ _ eZ)];exact h.CH 0
 clear aB bw hg sD Ro nZ Bm Rp h6 h5 h4 h3 hP h1 h;go_enter func158,ntmps158;go_wp2_with(at_builtin;refine aq rfl _ _ _ rfl _ _ _ _ rfl rfl HR.out ?_)
 go_ret;exact⟨P',HP.out.imp id (λh=>by omega),kn (by omega),R.out.1,R.out.2⟩
end
section
open Go.RowKit Go.Maps Go.WideMaps
theorem rf:Keyed prog 9:=string_keyed underlying9
theorem Pv(w:zw):(zeroValue 3).run prog w= .ok (.int .i64 0) w:=by kernel_rfl
theorem Ea{z:Int}(h: -9223372036854775808<=z/\z<=9223372036854775807):(Lit.int .i64 z).wf=true:=by
 refine(Bool.and_eq_true _ _).mpr ⟨decide_eq_true h.1,decide_eq_true h.2⟩
theorem kS{s t:zy}(h:s≠t):(Lit.string s.data.toList)≠ .string t.data.toList:=by
 intro e;injection e with e
 exact h (ByteArray.ext (Array.toList_inj.1 e))
theorem qN{H:Type}{P:Program}{k:TypeId}{R:Value->Option (DataW H × List MemPlace)}{w:zw}{b n:Nat}{D:DataW H}(h:w.ownsMap P k R b n D):w.ownsMap P k R b (Maps.size D) D:=by
 obtain⟨es,clock,hb,F,_,rfl⟩:=h;exact⟨es,clock,hb,F,by simp[Maps.size,length_sorted],rfl⟩
theorem nW{H:Type}{P:Program}{k:TypeId}{R:Value->Option (DataW H × List MemPlace)}{w w':zw}{b n:Nat}{D:DataW H}(h:w.ownsMap P k R b n D)(hs:w'.heap[b]?=w.heap[b]?):w'.ownsMap P k R b n D:=by
 obtain⟨es,clock,hb,r⟩:=h;exact⟨es,clock,hs.trans hb,r⟩
def iw(f:zy->Option Nat)(s:zy)(v:Nat):zy->Option Nat:=λt=>if t=s then some v else f t
def lI(f:zy->Option Nat)(s:zy):zy->Option Nat:=λt=>if t=s then none else f t
def Mp(w:zw)(b:Nat)(f:zy->Option Nat)(n:Nat):Prop:=∃D:DataW Unit,w.ownsMap prog 9 (plainElem prog 3) b n D/\Maps.size D=n/\
 ∀s:zy,Maps.has D (.string s.data.toList)=(f s).isSome/\D.atKey (.string s.data.toList) (.lit (.int .i64 0))= .lit (.int .i64 (((f s).getD 0:Nat):Int))
section
variable{w:zw}{b n:Nat}{f:zy->Option Nat}
theorem Mp.made(w:zw):Mp (w.alloc (.map #[] 0)) w.heap.size (λ_=>none) 0:=⟨.map [],World.ownsMap_made w _ _ _,rfl,λ_=>⟨rfl,rfl⟩⟩
theorem Mp.same{w':zw}(h:Mp w b f n)(hs:w'.heap[b]?=w.heap[b]?):Mp w' b f n:=by
 obtain⟨D,h1,h2⟩:=h;exact⟨D,nW h1 hs,h2⟩
theorem Mp.look(h:Mp w b f n){s:zy}(hs:s.size<=maxLen):
 (Instr.lookup 219 (.map (some b)) (.string s) true).run prog w= .ok (.tuple #[.int .i64 (((f s).getD 0:Nat):Int),.bool (f s).isSome]) w:=by
 obtain⟨D,h1,_,h3⟩:=h;obtain⟨v,ps,aB,hv⟩:=h1.look_ok rf underlying219 (Pv w) (plainElem_int underlying3 (Ea (by omega))) (keyOf_string_mk underlying9 hs);obtain⟨c,rfl,hc,_⟩:=plainElem_int_inv underlying3 hv;have hc:=congrArg Prod.fst hc;simp only[(h3 s).2] at hc;injection hc with hc
 injection hc with _ hc
 rw[aB,(h3 s).1,hc]
theorem Mp.len(h:Mp w b f n)(ty:TypeId):(Builtin.len_ #[219] ty #[.map (some b)]).run prog w= .ok (.int .i64 (n:Int)) w:=by
 obtain⟨D,h1,h2,_⟩:=h;rw[h1.len underlying219 ty,h2]
theorem Mp.store(h:Mp w b f n){s:zy}(hs:s.size<=maxLen)(hn:n<=1000000)(hf:f s=none){v:Nat}(hv:v<=1000000):
 ∃w',(Instr.mapUpdate 219 (.map (some b)) (.string s) (.int .i64 (v:Int))).run prog w= .ok () w'/\Mp w' b (iw f s v) (n+1)/\w.grownBy w' (some b):=by
 obtain⟨D,h1,h2,h3⟩:=h;obtain⟨w',aB,aS,hg⟩:=h1.update rf underlying219 (by unfold maxLen;omega) (keyOf_string_mk underlying9 hs) (plainElem_int underlying3 (Ea (z:=(v:Int)) (by omega)));have hk:WideAt.IsKeyLit (.string s.data.toList):=trivial;refine⟨w',aB,⟨_,aS,?_,λt=>?_⟩,hg⟩
 . rw[size_put (h1.tidy rf),(h3 s).1,hf,h2];rfl
 . unfold iw
   by_cases e:t=s
   . subst e;rw[if_pos rfl,has_put_same h1.isMap hk,atKey_put_same h1.isMap hk];exact⟨rfl,rfl⟩
   . rw[if_neg e,has_put_other (kS e),atKey_put_other (kS e)];exact h3 t
theorem Mp.drop(h:Mp w b f (n+1)){s:zy}(hs:s.size<=maxLen)(hf:(f s).isSome=true)(ty:TypeId):
 ∃w',(Builtin.delete_ #[219,9] ty #[.map (some b),.string s]).run prog w= .ok (.tuple #[]) w'/\Mp w' b (lI f s) n/\w.grownBy w' (some b):=by
 obtain⟨D,h1,h2,h3⟩:=h;obtain⟨w',aB,aS,hg⟩:=h1.drop rf underlying219 (keyOf_string_mk underlying9 hs) ty
 have bW:Maps.size (D.del (.string s.data.toList))=n:=by
  have:=size_del (k:= .string s.data.toList) (h1.tidy rf);rw[(h3 s).1,hf,h2] at this;simpa using this
 refine⟨w',aB,⟨_,bW▸qN aS,bW,λt=>?_⟩,hg.grown⟩;unfold lI
 by_cases e:t=s
 . subst e;rw[if_pos rfl,has_del_same,atKey_del_same];exact⟨rfl,rfl⟩
 . rw[if_neg e,has_del_other (kS e),atKey_del_other (kS e)];exact h3 t
end
end
section
open Go.RowKit Sg
def rem(xs:zY)(k:zy):zY:=xs.filter λx=>decide (x≠k)
theorem aZ{xs:zY}{k:zy}(h:k∉xs):rem xs k=xs:=by
 unfold rem;rw[List.filter_eq_self];intro x hx;simp only[decide_eq_true_eq];intro e;exact h (e▸hx)
theorem eP{xs:zY}{k:zy}:k∉rem xs k:=by simp[rem]
theorem dQ{xs:zY}{k x:zy}:x∈rem xs k<->x∈xs/\x≠k:=by simp[rem]
theorem aI(xs:zY)(k:zy):(rem xs k).length<=xs.length:=List.length_filter_le _ _
def aw(xs:zY)(s:zy):Bool:=xs.any λx=>decide (x=s)
theorem aX{xs:zY}{s:zy}:aw xs s=true<->s∈xs:=by simp[aw]
theorem bz{xs:zY}{s:zy}:aw xs s=false<->s∉xs:=by rw[← aX];simp
structure Good(A:Ar)(row free:List Nat)(f:zy->Option Nat):Prop where
 ring:kf A.nx A.pv 0 row 0
 chain:BA A.nx A.e free
 nodup:(0::(row++free)).Nodup
 lt:∀i∈row++free,i < A.n
 len:row.length+free.length+1=A.n
 root:A.K 0=⟨#[]⟩
 keys:(row.map A.K).Nodup
 small:∀i∈row,(A.K i).size<=maxLen
 spot:∀s i,f s=some i<->i∈row/\A.K i=s
structure kK(A:Ar)(row free:List Nat)(f:zy->Option Nat)(a:Nat):Prop where
 ring:kf A.nx A.pv 0 row 0
 chain:BA A.nx A.e free
 nodup:(0::a::(row++free)).Nodup
 lt:∀i∈a::(row++free),i < A.n
 len:row.length+free.length+2=A.n
 root:A.K 0=⟨#[]⟩
 keys:((a::row).map A.K).Nodup
 small:∀i∈a::row,(A.K i).size<=maxLen
 spot:∀s i,f s=some i<->i∈a::row/\A.K i=s
section
variable{A:Ar}{row free:List Nat}{f:zy->Option Nat}{a:Nat}
theorem Good.Eb(h:Good A row free f):(0::row).Nodup:=h.nodup.sublist (List.Sublist.cons_cons _ (List.sublist_append_left _ _))
theorem Good.nw(h:Good A row free f){s:zy}(hs:f s=none):s∉row.map A.K:=by
 intro hm;obtain⟨i,hi,rfl⟩:=List.mem_map.1 hm;have:=(h.spot (A.K i) i).2 ⟨hi,rfl⟩;rw[hs] at this;cases this
theorem Good.isSome(h:Good A row free f)(s:zy):(f s).isSome=aw (row.map A.K) s:=by
 cases hs:f s with
 |none=>exact(bz.2 (h.nw hs)).symm
 |some i=>
  obtain⟨hi,hk⟩:=(h.spot s i).1 hs;exact(aX.2 (by rw[← hk];exact xt hi)).symm
theorem l5(K:Nat->zy)(s:zy):∀row:List Nat,(row.filter λi=>decide (K i≠s)).map K=rem (row.map K) s
 | []=>rfl
 |x::row=>by
  have ih:=l5 K s row;unfold rem at ih|-;rw[xb,List.filter_cons,List.filter_cons]
  by_cases e:K x=s
  . simp only[e,ne_eq,not_true_eq_false,decide_false,Bool.false_eq_true,if_false];exact ih
  . simp only[e,ne_eq,not_false_eq_true,decide_true,if_true,xb];rw[ih]
theorem Good.Ec(h:Good A row free f)(ha:a∈row):kK (yP A a) (row.filter λi=>decide (A.K i≠A.K a)) free f a:=by
 obtain⟨xs,ys,rfl⟩:=List.append_of_mem ha;have hf:=q9 h.keys;rw[hf];have lR:=List.nodup_cons.1 h.nodup;have qZ:=List.nodup_append.1 lR.2;have l6:(xs++a::ys).Perm (a::(xs++ys)):=List.perm_middle
 have hn:(0::a::(xs++ys++free)).Nodup:=by
  refine(List.Perm.nodup_iff ?_).1 h.nodup;exact List.Perm.cons _ ((l6.append_right free))
 have eU:∀i,i∈a::(xs++ys)<->i∈xs++a::ys:=λi=>l6.symm.mem_iff;refine⟨unlink h.ring h.Eb,?_,hn,?_,?_,h.root,?_,?_,?_⟩
 . refine oh h.chain λi hi=>au ?_;intro e;have hp:=lZ (iQ.1 h.ring).1;rw[← e] at hp;rcases List.mem_cons.1 hp with h0|h0
   . exact lR.1 (by rw[← h0];exact qx _ hi)
   . exact qZ.2.2 i (qq _ h0) i hi rfl
 . intro i hi;refine h.lt i ?_;rcases List.mem_cons.1 hi with rfl|h0
   . exact qq _ ha
   . rcases List.mem_append.1 h0 with h1|h1
     . exact qq _ ((eU i).1 (qm _ h1))
     . exact qx _ h1
 . have:=h.len;show _=A.n;simp only[zh,zv] at this|-;omega
 . exact(List.Perm.nodup_iff (l6.map A.K)).1 h.keys
 . exact λi hi=>h.small i ((eU i).1 hi)
 . intro s i;rw[h.spot s i,eU i];exact Iff.rfl
theorem Good.taken(h:Good A row free f)(he:A.e≠0){s:zy}(hs:f s=none)(bW:s.size<=maxLen):
 ∃l7,free=A.e::l7/\kK {A with e:=A.nx A.e,K:=af A.K A.e s} row l7 (iw f s A.e) A.e:=by
 have hc:=h.chain;cases jG:free with
 |nil=>rw[jG] at hc;exact absurd hc he
 |cons x l7=>
  rw[jG] at hc;obtain⟨hx,hc⟩:=hc;subst jG;subst hx;have lR:=List.nodup_cons.1 h.nodup;have qZ:=List.nodup_append.1 lR.2;have rh:=List.nodup_cons.1 qZ.2.1;have l6:(row++A.e::l7).Perm (A.e::(row++l7)):=List.perm_middle;have Ed:A.e∉row:=λhr=>qZ.2.2 A.e hr A.e (by simp) rfl;have hK:∀i∈row,af A.K A.e s i=A.K i:=λi hi=>au (λe=>Ed (e▸hi));have yT:row.map (af A.K A.e s)=row.map A.K:=xh hK;refine⟨l7,rfl,h.ring,hc,?_,?_,?_,?_,?_,?_,?_⟩
  . exact(List.Perm.nodup_iff (l6.cons 0)).1 h.nodup
  . exact λi hi=>h.lt i (l6.symm.mem_iff.1 hi)
  . have:=h.len;show _=A.n;simp only[zv] at this;omega
  . show af A.K A.e s 0=_;rw[au (λe=>he e.symm)];exact h.root
  . show((A.e::row).map (af A.K A.e s)).Nodup;rw[xb,yT,ay];exact List.nodup_cons.2 ⟨h.nw hs,h.keys⟩
  . intro i hi;show(af A.K A.e s i).size<=maxLen;rcases List.mem_cons.1 hi with rfl|h0
    . rw[ay];exact bW
    . rw[hK i h0];exact h.small i h0
  . intro t i;show iw f s A.e t=some i<->i∈A.e::row/\af A.K A.e s i=t;unfold iw
    by_cases e:t=s
    . subst e;rw[if_pos rfl];constructor
      . intro h1;cases h1;exact⟨by simp,ay _ _ _⟩
      . rintro⟨h1,h2⟩;rcases List.mem_cons.1 h1 with rfl|h0
        . rfl
        . rw[hK i h0] at h2;exact absurd (by rw[← h2];exact xt h0) (h.nw hs)
    . rw[if_neg e,h.spot t i];constructor
      . rintro⟨h1,h2⟩;exact⟨qm _ h1,by rw[hK i h1];exact h2⟩
      . rintro⟨h1,h2⟩;rcases List.mem_cons.1 h1 with rfl|h0
        . rw[ay] at h2;exact absurd h2.symm e
        . rw[hK i h0] at h2;exact⟨h0,h2⟩
theorem Good.grown(h:Good A row free f)(he:A.e=0){s:zy}(hs:f s=none)(bW:s.size<=maxLen):
 free= []/\kK {grow A with K:=af (grow A).K A.n s} row [] (iw f s A.n) A.n:=by
 have hc:=h.chain;have lR:=List.nodup_cons.1 h.nodup;cases jG:free with
 |cons x l7=>
  rw[jG] at hc;exact absurd (hc.1.symm.trans he) (λe=>lR.1 (by rw[← e,jG];simp))
 |nil=>
  subst jG;rw[xq] at lR;have aQ:∀i∈row,i < A.n:=λi hi=>h.lt i (by rw[xq];exact hi);have al:∀i∈row,i≠A.n:=λi hi=>by have:=aQ i hi;omega
  have hlen:=h.len;rw[ql] at hlen
  have hK:∀i∈row,af (grow A).K A.n s i=A.K i:=λi hi=>by
   rw[au (al i hi)];exact au (al i hi)
  have yT:row.map (af (grow A).K A.n s)=row.map A.K:=xh hK;refine⟨rfl,?_,?_,?_,?_,?_,?_,?_,?_,?_⟩
  . refine kZ h.ring (λi hi=>au ?_) (λi hi=>au ?_)
    . rcases List.mem_cons.1 hi with rfl|h0
      . omega
      . exact al i h0
    . rcases List.mem_append.1 hi with h0|h0
      . exact al i h0
      . have:i=0:=by simpa using h0
        omega
  . show A.e=0;exact he
  . rw[xq];refine List.nodup_cons.2 ⟨?_,List.nodup_cons.2 ⟨λhr=>al _ hr rfl,lR.2⟩⟩;intro hm;rcases List.mem_cons.1 hm with h0|h0
    . omega
    . exact lR.1 h0
  . intro i hi;rw[xq] at hi;show i < A.n+1;rcases List.mem_cons.1 hi with rfl|h0
    . omega
    . have:=aQ i h0;omega
  . show _=A.n+1;simp only[ql];omega
  . show af (af A.K A.n ⟨#[]⟩) A.n s 0=_;rw[au (by omega),au (by omega)];exact h.root
  . show((A.n::row).map (af (grow A).K A.n s)).Nodup;rw[xb,yT,ay];exact List.nodup_cons.2 ⟨h.nw hs,h.keys⟩
  . intro i hi;show(af (grow A).K A.n s i).size<=maxLen;rcases List.mem_cons.1 hi with rfl|h0
    . rw[ay];exact bW
    . rw[hK i h0];exact h.small i h0
  . intro t i;show iw f s A.n t=some i<->i∈A.n::row/\af (grow A).K A.n s i=t;unfold iw
    by_cases e:t=s
    . subst e;rw[if_pos rfl];constructor
      . intro h1;cases h1;exact⟨by simp,ay _ _ _⟩
      . rintro⟨h1,h2⟩;rcases List.mem_cons.1 h1 with rfl|h0
        . rfl
        . rw[hK i h0] at h2;exact absurd (by rw[← h2];exact xt h0) (h.nw hs)
    . rw[if_neg e,h.spot t i];constructor
      . rintro⟨h1,h2⟩;exact⟨qm _ h1,by rw[hK i h1];exact h2⟩
      . rintro⟨h1,h2⟩;rcases List.mem_cons.1 h1 with rfl|h0
        . rw[ay] at h2;exact absurd h2.symm e
        . rw[hK i h0] at h2;exact⟨h0,h2⟩
theorem kK.out(h:kK A row free f a):(0::row).Nodup/\a∉0::row/\a∉free/\0∉free/\(∀i∈row,i∉free):=by
 have h0:=List.nodup_cons.1 h.nodup;have h1:=List.nodup_cons.1 h0.2;have h2:=List.nodup_append.1 h1.2;refine⟨List.nodup_cons.2 ⟨λhr=>h0.1 (qm _ (qq _ hr)),h2.1⟩,?_,λhr=>h1.1 (qx _ hr),λhr=>h0.1 (qm _ (qx _ hr)),λi h3 h4=>h2.2.2 i h3 i h4 rfl⟩;intro hm;rcases List.mem_cons.1 hm with h3|h3
 . exact h0.1 (by rw[h3];simp)
 . exact h1.1 (qq _ h3)
theorem kK.front(h:kK A row free f a):Good (Ms A a 0) (a::row) free f:=by
 obtain⟨h1,h2,h3,h4,h5⟩:=h.out;refine⟨CG h.ring h1 h2,?_,h.nodup,h.lt,by have:=h.len;show _=A.n;simp only[zv];omega,h.root,h.keys,h.small,h.spot⟩;refine oh h.chain λi hi=>?_;show af (af A.nx a (A.nx 0)) 0 a i=A.nx i;rw[au (λe=>h4 (by rw[← e];exact hi)),au (λe=>h3 (by rw[← e];exact hi))]
def emp(A:Ar)(a:Nat):Ar:={A with K:=af A.K a ⟨#[]⟩,pv:=af A.pv a 0,nx:=af A.nx a A.e,e:=a}
theorem kK.Pw(h:kK A row free f a):Good (emp A a) row (a::free) (lI f (A.K a)):=by
 obtain⟨h1,h2,h3,h4,h5⟩:=h.out;have q8:a≠0:=λe=>h2 (by simp[e]);have uy:a∉row:=λe=>h2 (qm _ e);have al:∀i∈row,i≠a:=λi hi e=>uy (e▸hi);have l6:(a::(row++free)).Perm (row++a::free):=List.perm_middle.symm;have yT:row.map (af A.K a ⟨#[]⟩)=row.map A.K:=xh λi hi=>au (al i hi);have xM:=List.nodup_cons.1 (by have:=h.keys;rw[xb] at this;exact this);refine⟨?_,⟨rfl,?_⟩,(List.Perm.nodup_iff (l6.cons 0)).1 h.nodup,λi hi=>h.lt i (l6.mem_iff.2 hi),by have:=h.len;show _=A.n;simp only[zv];omega,?_,?_,?_,?_⟩
 . refine kZ h.ring (λi hi=>au (λe=>h2 (e▸hi))) (λi hi=>au ?_);rcases List.mem_append.1 hi with h6|h6
   . exact al i h6
   . have:i=0:=by simpa using h6
     omega
 . show BA (af A.nx a A.e) (af A.nx a A.e a) free;rw[ay];exact oh h.chain λi hi=>au (λe=>h3 (e▸hi))
 . show af A.K a ⟨#[]⟩ 0=_;rw[au (qa q8)];exact h.root
 . show(row.map (af A.K a ⟨#[]⟩)).Nodup;rw[yT];exact xM.2
 . intro i hi;show(af A.K a ⟨#[]⟩ i).size<=maxLen;rw[au (al i hi)];exact h.small i (qm _ hi)
 . intro s i;show lI f (A.K a) s=some i<->i∈row/\af A.K a ⟨#[]⟩ i=s;unfold lI
   by_cases e:s=A.K a
   . rw[if_pos e];constructor
     . intro h6;cases h6
     . rintro⟨h6,h7⟩;rw[au (al i h6),e] at h7;exact absurd (by rw[← h7];exact xt h6) xM.1
   . rw[if_neg e,h.spot s i];constructor
     . rintro⟨h6,h7⟩;rcases List.mem_cons.1 h6 with rfl|h8
       . exact absurd h7.symm e
       . exact⟨h8,by rw[au (al i h8)];exact h7⟩
     . rintro⟨h6,h7⟩;rw[au (al i h6)] at h7;exact⟨qm _ h6,h7⟩
theorem Good.first(h:Good A row free f):A.K (A.nx 0)=(row.map A.K).headD ⟨#[]⟩/\decide (A.nx 0≠0)=!(row.map A.K).isEmpty/\A.nx 0 < A.n:=by
 have hr:=h.ring;cases jh:row with
 |nil=>
  rw[jh] at hr;have e:A.nx 0=0:=hr.1;rw[e];exact⟨h.root,rfl,by have:=h.len;omega⟩
 |cons x TG=>
  rw[jh] at hr;have e:A.nx 0=x:=hr.1;have h0:=(List.nodup_cons.1 h.nodup).1;rw[jh] at h0;rw[e];refine⟨rfl,?_,h.lt x (by rw[jh];simp)⟩;rw[Bool.eq_iff_iff];simp only[decide_eq_true_eq,xb,List.isEmpty_cons,Bool.not_false,iff_true];exact λe=>h0 (by rw[e];simp)
theorem Good.last(h:Good A row free f):A.K (A.pv 0)=(row.map A.K).getLastD ⟨#[]⟩/\decide (A.pv 0≠0)=!(row.map A.K).isEmpty/\A.pv 0 < A.n:=by
 have hr:=h.ring;rcases List.eq_nil_or_concat row with rfl|⟨TG,x,rfl⟩
 . have e:A.pv 0=0:=hr.2;rw[e];exact⟨h.root,rfl,by have:=h.len;omega⟩
 . rw[List.concat_eq_append] at*;have e:A.pv 0=x:=(iQ.1 hr).2.2;have h0:=(List.nodup_cons.1 h.nodup).1;rw[e];refine⟨by simp,?_,h.lt x (by simp)⟩;rw[Bool.eq_iff_iff];simp only[decide_eq_true_eq,xc,xb,List.map_nil];constructor
   . intro _;simp
   . intro _ e;exact h0 (by rw[e];simp)
end
end
section
open Go.RowKit Sg
def fH(w:zw)(l M P:Nat)(xs:zY)(m:Nat):Prop:=∃(A:Ar) (row free:List Nat) (f:zy->Option Nat),Holds w l M P A/\Mp w M f row.length/\Good A row free f/\xs=row.map A.K/\A.n=m+1
def oi(w:zw)(l M P:Nat)(xs:zY)(m:Nat)(key:zy)(e:Ending)(w':zw):Prop:=
 ∃(P' a:Nat) (A:Ar) (row free:List Nat) (f:zy->Option Nat),e= .returned (.int .i64 (a:Int))/\(P'=P\/w.heap.size<=P')/\Holds w' l M P' A/\Mp w' M f (row.length+1)/\kK A row free f a/\A.K a=key/\row.map A.K=rem xs key/\
  A.n=max m ((rem xs key).length+1)+1/\bt w w' l M P
theorem Holds.ri{w:zw}{l M P:Nat}{A:Ar}(h:Holds w l M P A):w.cell? ⟨l,1,none⟩=some (.map (some M)):=by
 obtain⟨_,_,_,_,h,_⟩:=h.own;exact h
theorem pG(row:List Nat)(K:Nat->zy)(a:Nat)(ha:a∈row)(hk:(row.map K).Nodup):(row.filter λi=>decide (K i≠K a)).length+1=row.length:=by
 obtain⟨xs,ys,rfl⟩:=List.append_of_mem ha;rw[q9 hk];simp only[zh,zv];omega
theorem CM(w:zw)(l M P:Nat)(A:Ar)(row free:List Nat)(f:zy->Option Nat)(m:Nat)(key:zy)(a:Nat)(h:Holds w l M P A)(hM:Mp w M f row.length)(hG:Good A row free f)(hn:A.n=m+1)(hs:key.size<=maxLen)(hf:f key=some a):
 Calls prog 154 #[.pointer (some ⟨l,0,none⟩),.string key] w (oi w l M P (row.map A.K) m key):=by
 obtain⟨ha,hk⟩:=(hG.spot key a).1 hf;have aQ:=hG.lt a (qq _ ha);have c1:=h.ri;have hl:=hM.look hs;rw[hf] at hl;have U:=J (uB w l M P A a h aQ);have HG:=J hG;have HM:=J hM;have HK:=J hk;have HA:=J ha;have HN:=J hn;have iD:=h.iD;have lM:=h.lM;have MP:=h.MP;clear h hG hM hk ha hn hf;simp only[Option.getD_some,Option.isSome_some] at hl;go_enter func154,ntmps154;go_wp2_with fail
 refine U.out.mono ?_;rintro e w1 ⟨rfl,hH,hT⟩;have H1:=J hH;have T1:=J hT;clear hH hT c1 hl;go_wp2_with fail
 go_ret;refine⟨P,a,_,_,free,f,rfl,xz rfl,H1.out,?_,HG.out.Ec HA.out,HK.out,?_,?_,T1.out.wide⟩
 . rw[pG _ _ _ HA.out HG.out.keys];exact HM.out.same (T1.out.block M iD (qa lM) MP MP)
 . show(row.filter λi=>decide (A.K i≠A.K a)).map A.K=_;rw[l5,HK.out]
 . show A.n=_;have h1:=pG _ _ _ HA.out HG.out.keys;have h2:=HG.out.len;have h3:=l5 A.K (A.K a) row;rw[HK.out] at h3 h1;rw[← h3,xe,HN.out];have h4:=HN.out;omega
theorem yU{w w1:zw}{l M P P':Nat}{A:Ar}{f:zy->Option Nat}{n a:Nat}{key:zy}(hT:bt w w1 l P P)(hP:P'=P\/w.heap.size<=P')(hH:Holds w1 l M P' A)(hM:Mp w M f n)(iD:M < w.heap.size)(lM:l≠M)(MP:M≠P)
 (ha:a < A.n) (hs:key.size<=maxLen) (hn:n<=1000000) (hf:f key=none):
 ∃w3,(Instr.mapUpdate 219 (.map (some M)) (.string key) (.int .i64 (a:Int))).run prog (w1.setCell ⟨P',a*3,none⟩ (.string key))= .ok () w3/\Holds w3 l M P' {A with K:=af A.K a key}/\Mp w3 M (iw f key a) (n+1)/\bt w w3 l M P:=by
 have ht:=hH.top
 have Ee:Mp (w1.setCell ⟨P',a*3,none⟩ (.string key)) M f n:=by
  refine hM.same ?_;rw[heap_setCell_other _ _ _ _ (show M≠P' from hH.MP)];exact hT.block M iD (qa lM) MP MP
 obtain⟨w3,aB,qB,hg⟩:=Ee.store hs hn hf (v:=a) (by omega);have iV:=hH.Mo ha key;refine⟨w3,aB,iV.same hg.size (hg.block l iV.eZ (by simpa using lM)) (hg.block P' iV.uz (by simpa using qa hH.MP)),qB,?_⟩;refine(bt.trans' (d:=P') hT.wide hP ((bt.refl w1 l M P').setCell (p:=⟨P',a*3,none⟩) (ja (ja rfl)) _)).grown hg ?_;intro k hk;cases hk;exact ja (xz rfl)
theorem Ef(w:zw)(l M P:Nat)(A:Ar)(row free:List Nat)(f:zy->Option Nat)(m:Nat)(key:zy)(h:Holds w l M P A)(hM:Mp w M f row.length)(hG:Good A row free f)(hn:A.n=m+1)(hs:key.size<=maxLen)(hf:f key=none)(he:A.e≠0):
 Calls prog 154 #[.pointer (some ⟨l,0,none⟩),.string key] w (oi w l M P (row.map A.K) m key):=by
 have c1:=h.ri;have hl:=hM.look hs;rw[hf] at hl;have U:=J (Gk w l M P A h he);obtain⟨l7,jG,hL⟩:=hG.taken he hf hs;have HL:=J hL;have HG:=J hG;have HM:=J hM;have HN:=J hn;have HF:=J hf;have Mv:=J jG;have yS:=h.sC;have ht:=h.top;have iD:=h.iD;have lM:=h.lM;have MP:=h.MP;have BE:row.length<=1000000:=by have:=hG.len;omega
 clear h hG hM hn hf hL jG he;simp only[Option.getD_none,Option.isSome_none] at hl;go_enter func154,ntmps154;go_wp2_with fail
 refine U.out.mono ?_;rintro e w1 ⟨rfl,hH,hT⟩;have H1:=J hH;have T1:=J hT;obtain⟨cap,cF,bL,d0,d1,_⟩:=hH.own;obtain⟨k0,_,_⟩:=hH.place (i:=A.e) yS;have fr:=hH.jV (A.e*3);have lP:=hH.lP;have Mt:A.n<=cap:=cF;obtain⟨w3,aB,qR,qB,jH⟩:=yU hT (xz rfl) hH HM.out iD lM MP (a:=A.e) yS hs BE HF.out;have H3:=J qR;have M3:=J qB;have T3:=J jH;clear hH hT c1 hl qR qB jH cF;unfold maxLen at bL;go_wp2_with fail
 go_ret;have iU:=HG.out.nw HF.out;have hL:=HL.out;have Ed:A.e∉row:=λhr=>hL.out.2.1 (qm _ hr);refine⟨P,A.e,_,row,l7,_,rfl,xz rfl,H3.out,M3.out,HL.out,ay _ _ _,?_,?_,T3.out⟩
 . rw[aZ iU];exact xh λi hi=>au (λe=>Ed (e▸hi))
 . show A.n=_;rw[aZ iU,xe];have h1:=HG.out.len;have h2:=HN.out;rw[Mv.out,zv] at h1;omega
theorem Eg(w:zw)(l M P:Nat)(A:Ar)(row free:List Nat)(f:zy->Option Nat)(m:Nat)(key:zy)(h:Holds w l M P A)(hM:Mp w M f row.length)(hG:Good A row free f)(hn:A.n=m+1)(hs:key.size<=maxLen)(hf:f key=none)(he:A.e=0)(hm:m<=990):
 Calls prog 154 #[.pointer (some ⟨l,0,none⟩),.string key] w (oi w l M P (row.map A.K) m key):=by
 have c1:=h.ri;have hl:=hM.look hs;rw[hf] at hl;have U:=J (Gl w l M P A h he (by omega));obtain⟨jG,hL⟩:=hG.grown he hf hs;have HL:=J hL;have HG:=J hG;have HM:=J hM;have HN:=J hn;have HF:=J hf;have Mv:=J jG;have ht:A.n<=999:=by omega
 have iD:=h.iD;have lM:=h.lM;have MP:=h.MP;have BE:row.length<=1000000:=by have:=hG.len;omega
 clear h hG hM hn hf hL jG he;simp only[Option.getD_none,Option.isSome_none] at hl;go_enter func154,ntmps154;go_wp2_with fail
 refine U.out.mono ?_;rintro e w1 ⟨P',sD,rfl,hH,hT⟩;have HP:=J sD;have yS:A.n < (grow A).n:=by show A.n < A.n+1;omega
 obtain⟨cap,cF,bL,d0,d1,_⟩:=hH.own;obtain⟨k0,_,_⟩:=hH.place (i:=A.n) yS;have fr:=hH.jV (A.n*3);have lP:=hH.lP;have I9:(grow A).n=A.n+1:=rfl;rw[I9] at cF d0;obtain⟨w3,aB,qR,qB,jH⟩:=yU hT sD hH HM.out iD lM MP (a:=A.n) yS hs BE HF.out;have H3:=J qR;have M3:=J qB;have T3:=J jH;clear hH hT c1 hl qR qB jH sD yS I9;unfold maxLen at bL;go_wp2_with fail
 go_ret;have iU:=HG.out.nw HF.out;have hL:=HL.out;have Ed:A.n∉row:=λhr=>hL.out.2.1 (qm _ hr);refine⟨P',A.n,_,row,[],_,rfl,HP.out,H3.out,M3.out,HL.out,ay _ _ _,?_,?_,T3.out⟩
 . rw[aZ iU]
   exact xh λi hi=>by
    have al:i≠A.n:=λe=>Ed (e▸hi);show af (af A.K A.n ⟨#[]⟩) A.n key i=_;rw[au al,au al]
 . show A.n+1=_;rw[aZ iU,xe];have h1:=HG.out.len;have h2:=HN.out;rw[Mv.out,ql] at h1;omega
theorem Eh(w:zw)(l M P:Nat)(xs:zY)(m:Nat)(key:zy)(h:fH w l M P xs m)(hs:key.size<=maxLen)(hm:m<=990):
 Calls prog 154 #[.pointer (some ⟨l,0,none⟩),.string key] w (oi w l M P xs m key):=by
 obtain⟨A,row,free,f,h1,h2,h3,rfl,h5⟩:=h;cases hf:f key with
 |some a=>exact CM w l M P A row free f m key a h1 h2 h3 h5 hs hf
 |none=>
  by_cases he:A.e=0
  . exact Eg w l M P A row free f m key h1 h2 h3 h5 hs hf he hm
  . exact Ef w l M P A row free f m key h1 h2 h3 h5 hs hf he
end
section
open Go.RowKit Sg
theorem fH.eZ{w:zw}{l M P m:Nat}{xs:zY}(h:fH w l M P xs m):l < w.heap.size/\M < w.heap.size/\P < w.heap.size:=by
 obtain⟨A,row,free,f,h1,_⟩:=h;exact⟨h1.eZ,h1.iD,h1.uz⟩
theorem fH.nodup{w:zw}{l M P m:Nat}{xs:zY}(h:fH w l M P xs m):xs.Nodup:=by
 obtain⟨A,row,free,f,_,_,h3,rfl,_⟩:=h;exact h3.keys
theorem fH.small{w:zw}{l M P m:Nat}{xs:zY}(h:fH w l M P xs m):∀x∈xs,x.size<=maxLen:=by
 obtain⟨A,row,free,f,_,_,h3,rfl,_⟩:=h;intro x hx;obtain⟨i,hi,rfl⟩:=List.mem_map.1 hx;exact h3.small i hi
theorem fH.le{w:zw}{l M P m:Nat}{xs:zY}(h:fH w l M P xs m):xs.length<=m/\m<=999:=by
 obtain⟨A,row,free,f,h1,_,h3,rfl,h5⟩:=h;have:=h3.len;have:=h1.top;rw[xe];omega
theorem fH.same{w w':zw}{l M P m:Nat}{xs:zY}(h:fH w l M P xs m)(hs:w.heap.size<=w'.heap.size)(hl:w'.heap[l]?=w.heap[l]?)(hM:w'.heap[M]?=w.heap[M]?)(hP:w'.heap[P]?=w.heap[P]?):fH w' l M P xs m:=by
 obtain⟨A,row,free,f,h1,h2,h3⟩:=h;exact⟨A,row,free,f,h1.same hs hl hP,h2.same hM,h3⟩
theorem fH.below{w w':zw}{l M P m:Nat}{xs:zY}(h:fH w l M P xs m)(hb:Below w.heap.size w w'):fH w' l M P xs m:=
 h.same hb.size (hb.block _ h.eZ.1) (hb.block _ h.eZ.2.1) (hb.block _ h.eZ.2.2)
def bS(z:Int)(w:zw)(e:Ending)(w':zw):Prop:=e= .returned (.int .i64 z)/\w=w'
def dq(b:Bool)(w:zw)(e:Ending)(w':zw):Prop:=e= .returned (.bool b)/\w=w'
def cJ(v:Value)(w:zw)(l M P:Nat)(xs:zY)(m:Nat)(e:Ending)(w':zw):Prop:=∃P',e= .returned v/\(P'=P\/w.heap.size<=P')/\fH w' l M P' xs m/\bt w w' l M P
def ah(xs:zY):zy:=xs.getLastD ⟨#[]⟩
def bb(xs:zY):Bool:=!xs.isEmpty
theorem oI(w:zw)(l M P:Nat)(xs:zY)(m:Nat)(h:fH w l M P xs m):
 Calls prog 148 #[.pointer (some ⟨l,0,none⟩)] w (bS (xs.length:Int) w):=by
 obtain⟨A,row,free,f,h1,h2,h3,rfl,h5⟩:=h;have c1:=h1.ri;have hl:=λty=>h2.len ty;rw[xe];clear h1 h2 h3 h5;go_enter func148,ntmps148;go_wp2_with fail
 go_ret;exact⟨rfl,rfl⟩
theorem BF(w:zw)(l M P:Nat)(xs:zY)(m:Nat)(key:zy)(h:fH w l M P xs m)(hs:key.size<=maxLen):
 Calls prog 145 #[.pointer (some ⟨l,0,none⟩),.string key] w (dq (aw xs key) w):=by
 obtain⟨A,row,free,f,h1,h2,h3,rfl,h5⟩:=h;have c1:=h1.ri;have hl:=h2.look hs;have E:=J (h3.isSome key);clear h1 h2 h3 h5;go_enter func145,ntmps145;go_wp2_with fail
 go_ret;exact⟨eI E.out,rfl⟩
theorem pH(w:zw)(l M P:Nat)(xs:zY)(m:Nat)(h:fH w l M P xs m):
 Calls prog 153 #[.pointer (some ⟨l,0,none⟩)] w (gZ (ah xs) (bb xs) w):=by
 obtain⟨A,row,free,f,h1,h2,h3,rfl,h5⟩:=h;obtain⟨cap,cF,bL,c0,_,_⟩:=h1.own;have ht:=h1.top;have hp:=h1.pos;obtain⟨g1,g2,g3⟩:=h3.last;have k2:w.cell? ⟨P,1,none⟩=some (.int .i64 (A.pv 0:Int)):=by have:=(h1.place (i:=0) hp).2.1;simpa using this
 have U:=J (show Calls prog 157 #[.pointer (some ⟨l,0,none⟩),.int .i64 (A.pv 0:Int)] w (gZ (ah (row.map A.K)) (bb (row.map A.K)) w) by
  have:=D8 w l M P A (A.pv 0) h1 g3;rw[g1,g2] at this;exact this)
 unfold maxLen at bL;clear h1 h2 h3 h5 g1 g2;go_enter func153,ntmps153;go_wp2_with fail
 refine U.out.mono ?_;rintro e w1 ⟨rfl,rfl⟩;go_wp2_with fail
 go_ret2
 exact⟨rfl,rfl⟩
theorem lg(w:zw)(l M P:Nat)(xs:zY)(m:Nat)(key:zy)(h:fH w l M P xs m)(hs:key.size<=maxLen)(hm:m<=990):
 Calls prog 143 #[.pointer (some ⟨l,0,none⟩),.string key] w (cJ (.tuple #[]) w l M P (key::rem xs key) (max m ((rem xs key).length+1))):=by
 have U:=J (Eh w l M P xs m key h hs hm);clear h;go_enter func143,ntmps143;go_wp2_with fail
 refine U.out.mono ?_;rintro e w1 ⟨P',a,A,row,free,f,rfl,hP,hH,hM,hL,hk,hr,hn,hT⟩;have U2:=J (Gj w1 l M P' A a 0 hH (hL.lt a (by simp)) hH.pos);have HP:=J hP;have HH:=J hH;have HM:=J hM;have HL:=J hL;have HK:=J hk;have HR:=J hr;have HN:=J hn;have HT:=J hT;clear hP hH hM hL hk hr hn hT U;go_wp2_with fail
 refine Calls.mono U2.out ?_;rintro e w2 ⟨rfl,iV,Bl⟩;go_wp2_with fail
 go_end0;have hH:=HH.out;refine⟨P',rfl,HP.out,⟨_,a::row,free,f,iV,?_,HL.out.front,?_,HN.out⟩,HT.out.trans' HP.out Bl.wide⟩
 . rw[zv];exact HM.out.same (Bl.block M hH.iD (qa hH.lM) hH.MP hH.MP)
 . show _=(a::row).map A.K;rw[xb,HK.out,HR.out]
theorem AO(w:zw)(l M P:Nat)(xs:zY)(m:Nat)(key:zy)(h:fH w l M P xs m)(hs:key.size<=maxLen)(hi:aw xs key=false):
 Calls prog 149 #[.pointer (some ⟨l,0,none⟩),.string key] w (cJ (.bool (aw xs key)) w l M P (rem xs key) m):=by
 have HH:=J h;obtain⟨A,row,free,f,h1,h2,h3,rfl,h5⟩:=h;have c1:=h1.ri;have hl:=h2.look hs;rw[h3.isSome key,hi] at hl;have E:=J hi;clear h1 h2 h3 h5 hi;go_enter func149,ntmps149;go_wp2_with fail
 go_ret;exact⟨P,eI E.out.symm,xz rfl,by rw[aZ (bz.1 E.out)];exact HH.out,bt.refl _ _ _ _⟩
theorem Ei{w:zw}{l M P:Nat}{A:Ar}{a ae:Nat}(h:Holds w l M P A)(ha:a < A.n)(he:A.e=ae):
 Holds ((((w.setCell ⟨P,a*3,none⟩ (.string ⟨#[]⟩)).setCell ⟨P,a*3+1,none⟩ (.int .i64 0)).setCell ⟨P,a*3+2,none⟩ (.int .i64 (ae:Int))).setCell ⟨l,2,none⟩ (.int .i64 (a:Int))).drew l M P (emp A a):=by
 subst he;have h1:=h.Mo ha ⟨#[]⟩;have h2:=h1.xQ (i:=a) (v:=0) ha h.pos;have h3:=h2.xR (i:=a) (v:=A.e) ha h.sC;exact(h3.Mq ha).drew
theorem AP(w:zw)(l M P:Nat)(A:Ar)(row free:List Nat)(f:zy->Option Nat)(m:Nat)(key:zy)(a:Nat)(h:Holds w l M P A)(hM:Mp w M f row.length)(hG:Good A row free f)(hn:A.n=m+1)(hs:key.size<=maxLen)(hf:f key=some a):
 Calls prog 149 #[.pointer (some ⟨l,0,none⟩),.string key] w (cJ (.bool (aw (row.map A.K) key)) w l M P (rem (row.map A.K) key) m):=by
 obtain⟨ha,hk⟩:=(hG.spot key a).1 hf;have hi:aw (row.map A.K) key=true:=by rw[← hG.isSome,hf];rfl
 have aQ:=hG.lt a (qq _ ha);have c1:=h.ri;have hl:=hM.look hs;rw[hf] at hl;have U:=J (uB w l M P A a h aQ);have BE:=pG _ _ _ ha hG.keys;have HG:=J hG;have HM:=J hM;have HK:=J hk;have HA:=J ha;have HN:=J hn;have HF:=J hf;have HI:=J hi;have lS:=J BE;have iD:=h.iD;have lM:=h.lM;have lP:=h.lP;have MP:=h.MP;have ht:=h.top;clear h hG hM hk ha hn hf hi BE;simp only[Option.getD_some,Option.isSome_some] at hl;go_enter func149,ntmps149;go_wp2_with fail
 refine U.out.mono ?_;rintro e w1 ⟨rfl,hH,hT⟩;have H1:=J hH;have T1:=J hT;clear hl c1 U;have d1:=hH.ri;have Ee:=HM.out.same (w':=w1) (hT.block M iD (qa lM) MP MP);rw[← lS.out] at Ee;obtain⟨w2,jW,uh,dn⟩:=Ee.drop hs (by rw[HF.out];rfl) 0;have xS:∀ty,(Builtin.delete_ #[219,9] ty #[.map (some M),.string key]).run prog w1= .ok (.tuple #[]) w2:=λ_=>jW;have iV:=hH.same dn.size (dn.block l hH.eZ (by simpa using lM)) (dn.block P hH.uz (by simpa using qa MP));have H2:=J iV;have M2:=J uh;have G2:=J dn;clear hH hT Ee jW uh dn;obtain⟨cap,cF,bL,e0,e1,e2⟩:=iV.own;have te:a < (yP A a).n:=aQ;obtain⟨k0,k1,k2⟩:=iV.place te;have f0:=iV.jV (a*3);have f1:=iV.jV (a*3+1);have f2:=iV.jV (a*3+2);have fl:=iV.CH 2;have yV:(yP A a).n=A.n:=rfl;rw[yV] at cF e0;obtain⟨ae,Mw⟩:∃ae,(yP A a).e=ae:=⟨_,rfl⟩;rw[Mw] at e2;have R:=J (Ei (a:=a) iV te Mw);clear iV Mw yV te;unfold maxLen at bL;go_wp2_with fail
 go_region;go_wp2_with fail
 go_ret;have sx:=(HG.out.Ec HA.out).Pw;rw[show(yP A a).K a=key from HK.out] at sx;refine⟨P,eI HI.out.symm,xz rfl,⟨_,_,a::free,lI f key,R.out,?_,sx,?_,HN.out⟩,?_⟩
 . refine M2.out.same ?_;show(World.setCell _ _ _).heap[_]?=_
   rw[heap_setCell_other _ _ _ _ (qa lM),heap_setCell_other _ _ _ _ MP,heap_setCell_other _ _ _ _ MP,heap_setCell_other _ _ _ _ MP]
 . rw[← HK.out,<-l5];refine xh λi hi=>?_
   have al:i≠a:=by
    rintro rfl;simp at hi
   show A.K i=af A.K a ⟨#[]⟩ i;rw[au al]
 . exact(((((T1.out.wide.grown G2.out (λk hk=>by cases hk;exact ja (xz rfl))).setCell (p:=⟨P,a*3,none⟩) (ja (ja rfl)) _).setCell (p:=⟨P,a*3+1,none⟩) (ja (ja rfl)) _).setCell (p:=⟨P,a*3+2,none⟩) (ja (ja rfl)) _).setCell (p:=⟨l,2,none⟩) (xz rfl) _).drew
theorem jU(w:zw)(l M P:Nat)(xs:zY)(m:Nat)(key:zy)(h:fH w l M P xs m)(hs:key.size<=maxLen):
 Calls prog 149 #[.pointer (some ⟨l,0,none⟩),.string key] w (cJ (.bool (aw xs key)) w l M P (rem xs key) m):=by
 have h':=h;obtain⟨A,row,free,f,h1,h2,h3,rfl,h5⟩:=h;cases hf:f key with
 |some a=>exact AP w l M P A row free f m key a h1 h2 h3 h5 hs hf
 |none=>exact AO w l M P _ m key h' hs (by rw[← h3.isSome,hf];rfl)
theorem ny{xs:zY}(h:xs.Nodup)(h0:xs≠ []):rem xs (ah xs)=xs.dropLast/\ah xs∈xs:=by
 rcases List.eq_nil_or_concat xs with rfl|⟨ys,x,rfl⟩
 . exact absurd rfl h0
 . rw[List.concat_eq_append] at*;have h1:=List.nodup_append.1 h;have e:ah (ys++ [x])=x:=by simp[ah]
   rw[e];refine⟨?_,by simp⟩;have hx:x∉ys:=λhx=>h1.2.2 x hx x (by simp) rfl;unfold rem;rw[List.filter_append];have:=aZ hx;unfold rem at this;rw[this];simp
theorem Gm(w:zw)(l M P:Nat)(m:Nat)(h:fH w l M P [] m):
 Calls prog 144 #[.pointer (some ⟨l,0,none⟩)] w (cJ (.tuple #[.string ⟨#[]⟩,.bool false]) w l M P [] m):=by
 have HH:=J h;have U:=zs (Calls prog 153 #[.pointer (some ⟨l,0,none⟩)] w (gZ ⟨#[]⟩ false w)) (pH w l M P [] m h);clear h;go_enter func144,ntmps144;go_wp2_with fail
 refine U.out.mono ?_;rintro e w1 ⟨rfl,rfl⟩;go_wp2_with fail
 go_ret2
 exact⟨P,rfl,xz rfl,HH.out,bt.refl _ _ _ _⟩
theorem Gn(w:zw)(l M P:Nat)(xs:zY)(m:Nat)(h:fH w l M P xs m)(h0:xs≠ []):
 Calls prog 144 #[.pointer (some ⟨l,0,none⟩)] w (cJ (.tuple #[.string (ah xs),.bool true]) w l M P xs.dropLast m):=by
 have hd:=ny h.nodup h0;have ha:bb xs=true:=by cases xs <;> simp_all [bb]
 have U:=J (pH w l M P xs m h);have U2:=J (jU w l M P xs m (ah xs) h (h.small _ hd.2));rw[ha] at U;rw[hd.1] at U2;clear h h0 hd ha;go_enter func144,ntmps144;go_wp2_with fail
 refine U.out.mono ?_;rintro e w1 ⟨rfl,rfl⟩;go_wp2_with fail
 refine U2.out.mono ?_;rintro e w1 ⟨P',rfl,hP,hL,hT⟩;have HP:=J hP;have HL:=J hL;have HT:=J hT;clear hP hL hT;go_wp2_with fail
 go_ret2
 exact⟨P',rfl,HP.out,HL.out,HT.out⟩
theorem rZ(w:zw)(l M P:Nat)(xs:zY)(m:Nat)(h:fH w l M P xs m):
 Calls prog 144 #[.pointer (some ⟨l,0,none⟩)] w (cJ (.tuple #[.string (ah xs),.bool (bb xs)]) w l M P xs.dropLast m):=by
 by_cases h0:xs= []
 . subst h0;exact Gm w l M P m h
 . have:=Gn w l M P xs m h h0;rw[show bb xs=true by cases xs <;> simp_all [bb]];exact this
end
section
open Go.RowKit Sg
def vz(w:zw)(e:Ending)(w':zw):Prop:=∃l M P,e= .returned (.pointer (some ⟨l,0,none⟩))/\w.heap.size<=l/\w.heap.size<=M/\w.heap.size<=P/\fH w' l M P [] 0/\Below w.heap.size w w'
theorem Mx(W:zw):(Instr.makeSlice 218 (.int .i64 1) (.int .i64 1)).run prog W= .ok (.slice (some ⟨W.heap.size,0,none⟩) 1 1) (W.alloc (.cells #[.string ⟨#[]⟩,.int .i64 0,.int .i64 0] 248)):=by kernel_rfl
def oO:Ar:=⟨1,λ_=>⟨#[]⟩,λ_=>0,λ_=>0,0⟩
theorem Px:Good oO [] [] (λ_=>none):=
 ⟨⟨rfl,rfl⟩,rfl,by simp,by simp,rfl,rfl,by simp,by simp,by simp⟩
theorem yW(arr:Array Value)(h0:arr[0]?=some (.string ⟨#[]⟩))(h1:arr[1]?=some (.int .i64 0))(h2:arr[2]?=some (.int .i64 0)):
 ∀i,i < oO.n->arr[i*3]?=some (.string (oO.K i))/\arr[i*3+1]?=some (.int .i64 (oO.pv i:Int))/\arr[i*3+2]?=some (.int .i64 (oO.nx i:Int)):=by
 intro i hi;have:i < 1:=hi;obtain rfl:i=0:=by omega
 exact⟨h0,h1,h2⟩
theorem mg(w:zw):Calls prog 108 #[] w (vz w):=by
 have h1:=@Mx;have h2:=@run_makeMap prog;go_enter func108,ntmps108;go_wp2_with fail
 go_ret;have s1:(w.alloc (.cells #[.string ⟨#[]⟩,.int .i64 0,.int .i64 0] 248)).heap.size=w.heap.size+1:=by simp
 have s2:((w.alloc (.cells #[.string ⟨#[]⟩,.int .i64 0,.int .i64 0] 248)).alloc (.map #[] 0)).heap.size=w.heap.size+2:=by simp
 have b1:=heap_alloc_new w (.cells #[.string ⟨#[]⟩,.int .i64 0,.int .i64 0] 248);have m1:=Mp.made (w.alloc (.cells #[.string ⟨#[]⟩,.int .i64 0,.int .i64 0] 248));have b3:=heap_alloc_new ((w.alloc (.cells #[.string ⟨#[]⟩,.int .i64 0,.int .i64 0] 248)).alloc (.map #[] 0)) (.cells #[.slice (some ⟨w.heap.size,0,none⟩) 1 1,.map (some (w.heap.size+1)),.int .i64 0] 221);rw[s1] at m1;rw[s2] at b3;refine⟨w.heap.size+2,w.heap.size+1,w.heap.size,rfl,by omega,by omega,Nat.le_refl _,⟨oO,[],[],λ_=>none,⟨by omega,by omega,by omega,by simp,⟨1,#[.string ⟨#[]⟩,.int .i64 0,.int .i64 0],b3,?_,rfl,Nat.le_refl _,by unfold maxLen;omega,yW _ rfl rfl rfl⟩,Nat.le_refl _,by show 1<=1000;omega,by show 0 < 1;omega,λ_ _=>by show 0 < 1;omega,λ_ _=>by show 0 < 1;omega⟩,?_,Px,rfl,rfl⟩,?_⟩
 . rw[qf _ _ _ (by rw[s2];omega),qf _ _ _ (by rw[s1];omega)];exact b1
 . exact m1.same (qf _ _ _ (by rw[s2];omega))
 . exact(((zo _ _).alloc (zg _) _).alloc (by rw[s1];omega) _).alloc (by rw[s2];omega) _
def Own(w:zw)(base:Nat)(v:Value)(xs:zY):Prop:=w.ownsRow base 9 1 v xs.length (xs.map Value.string)/\xs.length<=2000/\∀x∈xs,x.size<=maxLen
theorem kx:(prog.info? 9).map (λi=>(i.zero,i.size,i.bytes))=some (some (.string ⟨#[]⟩),1,16):=by kernel_rfl
theorem oP{w:zw}{base:Nat}{v:Value}{xs:zY}(h:Own w base v xs)(x:zy)(hx:x.size<=maxLen)(hl:xs.length<=1999)(hb:base<=w.heap.size):
 ∃(g cap:Nat) (w2:zw),(Builtin.append_ #[30,30] 30 #[v,.slice (some ⟨w.heap.size,0,none⟩) 1 1]).run prog (w.alloc (.cells #[.string x] 9))= .ok (.slice (some ⟨g,0,none⟩) (xs.length+1) cap) w2/\
  Own w2 base (.slice (some ⟨g,0,none⟩) (xs.length+1) cap) (xs++ [x])/\w.grownBy w2 v.ownBlock:=by
 obtain⟨i0,hi,fL,fC,fx⟩:=info_parts kx
 obtain⟨v',w2,aB,bC,hg,ko,bw⟩:=run_append_own_at (P:=prog) (w.alloc (.cells #[.string x] 9)) base 30 30 9 i0 _ 1 16
  underlying30 hi fL fC fx rfl (by decide) _ _ _ (h.1.alloc _) ⟨w.heap.size,0,none⟩ 1 1 [.string x] rfl (cell_one_new _ _ _) (by simp[Value.oneCell']) (by unfold maxLen;omega) (by omega) (by simp;omega)
 have iO:=bC;rcases bC.2 with⟨_,h0⟩|⟨g,cap,cur,rfl,_⟩
 . omega
 refine⟨g,cap,w2,aB,⟨?_,by rw[zh];simp only[zv,ql];omega,λy hy=>?_⟩,(World.grownBy_alloc w _ _).trans hg⟩
 . rw[xc,zh];exact iO
 . rcases List.mem_append.1 hy with h1|h1
   . exact h.2.2 y h1
   . rw[List.mem_singleton.1 h1];exact hx
theorem mkStr(W:zw)(m:Nat)(hm:m<=2000):(Instr.makeSlice 30 (.int .i64 0) (.int .i64 (m:Int))).run prog W= .ok (.slice (some ⟨W.heap.size,0,none⟩) 0 m) (W.alloc (.cells (madeCells #[.string ⟨#[]⟩] m) 9)):=by
 obtain⟨i0,hi,fL,fC,fx⟩:=info_parts kx;have h:=run_make (P:=prog) W 30 9 i0 (.string ⟨#[]⟩) underlying30 hi fL .i64 .i64 0 m (by omega) (by omega) (by rw[fx];omega) (by omega);rw[h,fC,Int.toNat_natCast,Nat.mul_one];rfl
theorem Gp(w:zw)(m:Nat)(hm:m<=2000):Own (w.alloc (.cells (madeCells #[.string ⟨#[]⟩] m) 9)) w.heap.size (.slice (some ⟨w.heap.size,0,none⟩) 0 m) []:=
 ⟨World.ownsRow_made w _ m (Nat.le_refl _) (by unfold maxLen;omega) (by simp[madeCells]),by simp,by simp⟩
def My:Value->Nat| .slice _ n _=>n|_=>0
theorem Own.len{w:zw}{base:Nat}{v:Value}{xs:zY}(h:Own w base v xs):∃A c,v= .slice A xs.length c:=by
 rcases h.1.2 with⟨rfl,h0⟩|⟨g,cap,cur,rfl,_⟩
 . exact⟨none,0,by rw[h0]⟩
 . exact⟨_,_,rfl⟩
def br(xs:zY)(w:zw)(e:Ending)(w':zw):Prop:=∃v,e= .returned v/\Own w' w.heap.size v xs/\Below w.heap.size w w'
def JY(A:Ar)(row:List Nat)(w:zw)(v z:Value)(W:zw):Prop:=∃(done rest:List Nat) (n:Int),row=done++rest/\z= .int .i64 n/\n=((rest.headD 0:Nat):Int)/\Own W w.heap.size v (done.map A.K)/\Below w.heap.size w W
theorem yY(w:zw)(l M P:Nat)(xs:zY)(m:Nat)(h:fH w l M P xs m):
 Calls prog 146 #[.pointer (some ⟨l,0,none⟩)] w (br xs w):=by
 have U:=J (oI w l M P xs m h);have hle:=h.le;obtain⟨A,row,free,f,hH,hM,hG,rfl,hn⟩:=h;rw[xe] at U hle;have wF:=mkStr w row.length (by omega);have hz:=J (Gp w row.length (by omega));have hf:=hG.first
 have mP:=hH.alloc (.cells (madeCells #[.string ⟨#[]⟩] row.length) 9);obtain⟨cap,cF,bL,c0,_,_⟩:=mP.own;have k2:(w.alloc (.cells (madeCells #[.string ⟨#[]⟩] row.length) 9)).cell? ⟨P,2,none⟩=some (.int .i64 (A.nx 0:Int)):=by have:=(mP.place (i:=0) hH.pos).2.2;simpa using this
 have hp:=hH.pos;have ht:=hH.top;have HH:=J hH;have HG:=J hG;unfold maxLen at bL;clear hH hM hG hn mP hf;go_enter func146,ntmps146;go_wp2_with fail
 refine U.out.mono ?_;rintro e w1 ⟨rfl,rfl⟩;go_wp2_with fail
 clear wF c0 k2;go_loopw [3,4] (λv z W=>JY A row w v z W) (λv _ _=>row.length - My v)
 case atStart=>
  refine⟨[],row,_,rfl,rfl,?_,hz.out,(zo _ _).alloc (zg _) _⟩;have hr:=HG.out.ring;cases row with
  |nil=>exact congrArg Int.ofNat hr.1
  |cons x row=>exact congrArg Int.ofNat hr.1
 case round=>
  obtain⟨done,rest,n,jh,rfl,hn,aS,cD⟩:=hrel;have HO:=J aS;have bW:=cD.size;cases rest with
  |nil=>
   obtain rfl:n=0:=hn;have HR:=J jh;clear aS jh;go_wp2_with fail
   go_ret;refine⟨_,rfl,?_,cD⟩;rw[HR.out,xq];exact HO.out
  |cons a r=>
   obtain rfl:n=(a:Int):=hn;have uy:a∈row:=by rw[jh];simp
   have halt:=HG.out.lt a (qq _ uy);have q8:a≠0:=λe=>(List.nodup_cons.1 HG.out.nodup).1 (qq _ (e▸uy));have e0:((a:Int) != 0)=true:=by simp;omega
   have Mz:=HH.out.same cD.size (cD.block l HH.out.eZ) (cD.block P HH.out.uz);obtain⟨Wz,WA,TH,c0,_,_⟩:=Mz.own;obtain⟨k0,_,_⟩:=Mz.place halt;have DS:done.length<=999:=by have:=congrArg List.length jh;rw[zh] at this;omega
   obtain⟨g,fY,w2,aB,bC,hg⟩:=oP aS (A.K a) (HG.out.small a uy) (by rw[xe];omega) bW;have ij:=cD.grown hg bW (λk hk=>(aS.1.lt k hk).1);have iV:=HH.out.same ij.size (ij.block l HH.out.eZ) (ij.block P HH.out.uz);obtain⟨Tx,WC,TI,d0,_,_⟩:=iV.own;obtain⟨_,_,d2⟩:=iV.place halt;rw[xe] at aB bC;have df:=J aB;have nB:=J bC;have HB:=J ij;have HR:=J jh;have fG:(done.map A.K).length=done.length:=xe _;obtain⟨Av,cv,rfl⟩:=aS.len;rw[fG] at df HO|-;unfold maxLen at TH TI;clear aS aB bC ij jh Mz iV hg fG q8;go_wp2_with(at_builtin;refine aq rfl _ _ _ rfl _ _ _ _ rfl rfl df.out ?_)
   go_roundw
   case rel=>
    refine⟨done++ [a],r,_,by rw[HR.out];simp,rfl,?_,?_,HB.out⟩
    . have hs:=HG.out.ring;rw[HR.out] at hs;have fI:=(iQ.1 hs).2;cases r with
      |nil=>exact congrArg Int.ofNat fI.1
      |cons y r=>exact congrArg Int.ofNat fI.1
    . rw[xc];exact nB.out
   case measure=>
    have:=congrArg List.length HR.out;rw[zh,zv] at this;simp[My];omega
end
section
open Go.RowKit Sg
def Row(w:zw)(g:Nat)(v:Value)(xs:zY):Prop:=
 xs.length<=2000/\(∀x∈xs,x.size<=maxLen)/\
 ((xs= []/\∃A c,v= .slice A 0 c)\/
  ∃o c,v= .slice (some ⟨g,o,none⟩) xs.length c/\g < w.heap.size/\xs.length<=c/\c<=maxLen/\∀j,j < xs.length->w.cell? ⟨g,o+j,none⟩=some (.string (xs.getD j ⟨#[]⟩)))
theorem Row.shape{w:zw}{g:Nat}{v:Value}{xs:zY}(h:Row w g v xs):∃A c,v= .slice A xs.length c:=by
 rcases h.2.2 with⟨rfl,A,c,e⟩|⟨o,c,e,_⟩
 . exact⟨A,c,e⟩
 . exact⟨_,c,e⟩
theorem Row.same{w w':zw}{g:Nat}{v:Value}{xs:zY}(h:Row w g v xs)(hs:w.heap.size<=w'.heap.size)(hb:g < w.heap.size->w'.heap[g]?=w.heap[g]?):Row w' g v xs:=by
 refine⟨h.1,h.2.1,?_⟩;rcases h.2.2 with h1|⟨o,c,e,h1,h2,h3,h4⟩
 . exact xz h1
 . exact ja ⟨o,c,e,by omega,h2,h3,λj hj=>(World.cell?_of_block (a:=⟨g,o+j,none⟩) (hb h1)).trans (h4 j hj)⟩
theorem Row.nil(w:zw)(g:Nat)(A:Option Addr)(c:Nat):Row w g (.slice A 0 c) []:=⟨by simp,by simp,xz ⟨rfl,A,c,rfl⟩⟩
theorem Row.below{w w':zw}{g:Nat}{v:Value}{xs:zY}(h:Row w g v xs)(hb:Below w.heap.size w w'):Row w' g v xs:=h.same hb.size λhg=>hb.block g hg
theorem Own.row{w:zw}{base:Nat}{v:Value}{xs:zY}(h:Own w base v xs):∃g,base<=g/\Row w g v xs:=by
 obtain⟨h1,h2,h3⟩:=h;have yD:=h1;rcases h1.2 with⟨rfl,h0⟩|⟨g,cap,cur,rfl,hb,hg,hn,hm,hs,ht⟩
 . obtain rfl:xs= []:=qe h0;exact⟨base,zg _,Row.nil _ _ _ _⟩
 . refine⟨g,hb,h2,h3,ja ⟨0,cap,rfl,(Array.getElem?_eq_some_iff.1 hg).1,hn,hm,λj hj=>?_⟩⟩;have:=yD.cells (g:=g) rfl j (.string (xs.getD j ⟨#[]⟩)) (by rw[xj,zm hj,zt,zm hj];rfl);rw[show(⟨g,0,none⟩:Addr).add j=⟨g,0+j,none⟩ by unfold Addr.add;split <;> simp_all] at this;exact this
theorem mZ{a b:zy}(h:a.toList=b.toList):a=b:=by
 rw[ByteArray.toList_eq,ByteArray.toList_eq] at h;exact ByteArray.ext (Array.toList_inj.1 h)
theorem yA(a b:zy):(a.toList==b.toList)=decide (a=b):=by
 rw[Bool.eq_iff_iff];simp only[beq_iff_eq,decide_eq_true_eq];exact⟨mZ,λh=>by rw[h]⟩
theorem jM{a b:zy}(h:a≠b):(a.toList==b.toList)=false:=by rw[yA];simpa using h
theorem iB{a b:zy}(h:a=b):(a.toList==b.toList)=true:=by rw[yA];simpa using h
def MA(xs:zY)(key:zy)(i:Value):Prop:=∃k:Nat,i= .int .i64 (k:Int)/\k<=xs.length/\aw (xs.take k) key=false
theorem dP{α:Type}(xs:List α)(k:Nat)(d:α)(h:k < xs.length):xs.take (k+1)=xs.take k++ [xs.getD k d]:=by
 rw[List.take_succ_eq_append_getElem h,zt,zm h];rfl
theorem Gq(xs:zY)(x key:zy):aw (xs++ [x]) key=(aw xs key||decide (x=key)):=by simp[aw]
theorem Row.at{w:zw}{g:Nat}{A:Option Addr}{n c:Nat}{xs:zY}(h:Row w g (.slice A n c) xs){k:Nat}(hk:k < xs.length):
 ∃o,A=some ⟨g,o,none⟩/\g < w.heap.size/\w.cell? ⟨g,o+k,none⟩=some (.string (xs.getD k ⟨#[]⟩))/\xs.length<=c/\c<=maxLen:=by
 rcases h.2.2 with⟨rfl,_⟩|⟨o,c',e,h1,h2,h3,h4⟩
 . simp at hk
 . injection e with e1 e2 e3
   subst e3;exact⟨o,e1,h1,h4 k hk,h2,h3⟩
theorem gK(w:zw)(g:Nat)(v:Value)(xs:zY)(key:zy)(h:Row w g v xs):
 Calls prog 34 #[v,.string key] w (dq (aw xs key) w):=by
 obtain⟨A,c,rfl⟩:=h.shape;have hl:=h.1;have HH:=J h;clear h;go_enter func34,ntmps34;go_wp2_with fail
 go_loop [5] (λi=>MA xs key i) (λi=>xs.length - (intOf i).toNat)
 case atStart=>exact⟨0,rfl,xg _,by simp[aw]⟩
 case round=>
  obtain⟨k,rfl,hk,cu⟩:=hrel;have lT:=J cu;clear cu
  by_cases aQ:k < xs.length
  . have e0:decide (k < xs.length)=true:=by simpa using aQ
    obtain⟨o,rfl,hg,hc,cF,bL⟩:=HH.out.at aQ;unfold maxLen at bL;have ej:=Gq (xs.take k) (xs.getD k ⟨#[]⟩) key;rw[← dP xs k ⟨#[]⟩ aQ,lT.out,Bool.false_or] at ej;have eU:xs.getD k ⟨#[]⟩∈xs:=by rw[zt,zm aQ];exact qy aQ
    generalize xs.getD k ⟨#[]⟩=x at hc ej eU
    by_cases hx:x=key
    . have e1:=iB hx;have HI:=zs (aw xs key=true) (aX.2 (hx▸eU));clear ej hx eU;go_wp2_with fail
      go_ret;exact⟨eI HI.out.symm,rfl⟩
    . have e1:=jM hx;rw[decide_eq_false hx] at ej;have HS:=J ej;clear ej hx eU;go_wp2_with fail
      go_round
      case rel=>exact⟨k+1,by go_num,by omega,HS.out⟩
      case measure=>simp[intOf];omega
  . have e0:decide (k < xs.length)=false:=by simpa using aQ
    have HI:=zs (aw xs key=false) (by have:=lT.out;rw[qk (by omega)] at this;exact this);go_wp2_with fail
    go_ret;exact⟨eI HI.out.symm,rfl⟩
end
section
open Go.RowKit Sg
theorem Own.nil(w:zw)(base:Nat):Own w base (.slice none 0 0) []:=⟨World.ownsRow_nil _ _ _ _,by simp,by simp⟩
theorem Own.kept{w w':zw}{base:Nat}{v:Value}{xs:zY}{r:Option Nat}(h:Own w base v xs)(hg:w.grownBy w' r)(al:v.ownBlock=none\/v.ownBlock≠r):Own w' base v xs:=⟨h.1.kept hg al,h.2⟩
theorem Own.mono{w:zw}{base oe:Nat}{v:Value}{xs:zY}(h:Own w base v xs)(hb:oe<=base):Own w oe v xs:=by
 refine⟨⟨h.1.1,?_⟩,h.2⟩;rcases h.1.2 with h1|⟨g,cap,cur,e,h1,h2⟩
 . exact xz h1
 . exact ja ⟨g,cap,cur,e,by omega,h2⟩
def MB(xs:zY)(key:zy)(w:zw)(v i:Value)(W:zw):Prop:=∃k:Nat,i= .int .i64 (k:Int)/\k<=xs.length/\Own W w.heap.size v (rem (xs.take k) key)/\Below w.heap.size w W
theorem Gr(xs:zY)(x key:zy):rem (xs++ [x]) key=if x=key then rem xs key else rem xs key++ [x]:=by
 unfold rem;rw[List.filter_append];split
 . rename_i h;simp[h]
 . rename_i h;simp[h]
theorem lL(w:zw)(g:Nat)(v:Value)(xs:zY)(key:zy)(h:Row w g v xs)(hl:xs.length<=1900):
 Calls prog 55 #[v,.string key] w (br (rem xs key) w):=by
 obtain⟨A,c,rfl⟩:=h.shape;have HH:=J h;clear h;go_enter func55,ntmps55;go_wp2_with fail
 go_loopw [5,6] (λv i W=>MB xs key w v i W) (λ_ i _=>xs.length - (intOf i).toNat)
 case atStart=>exact⟨0,rfl,xg _,Own.nil _ _,zo _ _⟩
 case round=>
  obtain⟨k,rfl,hk,aS,cD⟩:=hrel;have bW:=cD.size
  by_cases aQ:k < xs.length
  . have e0:decide (k < xs.length)=true:=by simpa using aQ
    obtain⟨o,rfl,hg,hc,cF,bL⟩:=HH.out.at aQ;have Ve:=(cD.cell (p:=⟨g,o+k,none⟩) hg).trans hc;unfold maxLen at bL;have ej:=Gr (xs.take k) (xs.getD k ⟨#[]⟩) key;rw[← dP xs k ⟨#[]⟩ aQ] at ej;have eU:xs.getD k ⟨#[]⟩∈xs:=by rw[zt,zm aQ];exact qy aQ
    have gQ:=HH.out.2.1 _ eU;generalize xs.getD k ⟨#[]⟩=x at hc Ve ej eU gQ;have hle:(rem (xs.take k) key).length<=1900:=by have:=aI (xs.take k) key;rw[qh] at this;omega
    by_cases hx:x=key
    . have e1:=iB hx;rw[if_pos hx] at ej;have HS:=J ej;have HO:=J aS;clear ej hx eU hc aS;go_wp2_with fail
      go_roundw
      case rel=>exact⟨k+1,by go_num,by omega,by rw[HS.out];exact HO.out,cD⟩
      case measure=>simp[intOf];omega
    . have e1:=jM hx;rw[if_neg hx] at ej;have HS:=J ej;obtain⟨g',fY,w2,aB,bC,dn⟩:=oP aS x gQ (by omega) bW;have ij:=cD.grown dn bW (λk hk=>(aS.1.lt k hk).1);have df:=J aB;have nB:=J bC;have HB:=J ij;obtain⟨Av,cv,rfl⟩:=aS.len;clear ej hx eU hc aS aB bC ij dn;go_wp2_with(at_builtin;refine aq rfl _ _ _ rfl _ _ _ _ rfl rfl df.out ?_)
      go_roundw
      case rel=>exact⟨k+1,by go_num,by omega,by rw[HS.out];exact nB.out,HB.out⟩
      case measure=>simp[intOf];omega
  . have e0:decide (k < xs.length)=false:=by simpa using aQ
    have HO:=J aS;clear aS;go_wp2_with fail
    go_ret;refine⟨_,rfl,?_,cD⟩;have:=HO.out;rw[qk (by omega)] at this;exact this
theorem mj{w:zw}{base b2:Nat}{v u:Value}{xs ys:zY}(h:Own w base v xs)(k:Own w b2 u ys)(hl:xs.length+ys.length<=2000)(hb:base<=w.heap.size):
 ∃(v':Value) (w2:zw),(Builtin.append_ #[30,30] 30 #[v,u]).run prog w= .ok v' w2/\Own w2 base v' (xs++ys)/\w.grownBy w2 v.ownBlock:=by
 obtain⟨i0,hi,fL,fC,fx⟩:=info_parts kx
 have b7:∀y∈xs++ys,y.size<=maxLen:=λy hy=>by
  rcases List.mem_append.1 hy with h1|h1
  . exact h.2.2 y h1
  . exact k.2.2 y h1
 rcases k.1.2 with⟨rfl,h0⟩|⟨g,cap,cur,rfl,k1,k2,k3,k4,k5,k6⟩
 . obtain rfl:ys= []:=qe h0;refine⟨v,w,?_,by rw[xq];exact h,⟨rfl,rfl,rfl,zg _,λ_ _ _=>rfl⟩⟩;rcases h.1.2 with⟨rfl,_⟩|⟨g,cap,cur,rfl,_,_,h3,_⟩
   . simp[Builtin.append_,run_underlying underlying30,sizeOf,typeInfo,hi,Builtin.lenOf,Builtin.firstCells]
   . simp[Builtin.append_,run_underlying underlying30,sizeOf,typeInfo,hi,Builtin.lenOf,Builtin.firstCells,storeCells,loadCells,h3]
 . obtain⟨v',w2,aB,bC,hg,ko,bw⟩:=run_append_own_at (P:=prog) w base 30 30 9 i0 _ 1 16
    underlying30 hi fL fC fx rfl (by decide) _ _ _ h.1 ⟨g,0,none⟩ ys.length cap (ys.map Value.string) (by simp) (k.1.cells (g:=g) rfl) (by intro u hu;obtain⟨x,_,rfl⟩:=List.mem_map.1 hu;rfl) (by unfold maxLen;omega) (by omega) hb
   refine⟨v',w2,aB,⟨?_,by rw[zh];omega,b7⟩,hg⟩;rw[xc,zh];exact bC
theorem JZ(w:zw)(x:zy)(hx:x.size<=maxLen):Own (w.alloc (.cells #[.string x] 9)) w.heap.size (.slice (some ⟨w.heap.size,0,none⟩) 1 1) [x]:=
 ⟨⟨rfl,Or.inr ⟨w.heap.size,1,_,rfl,Nat.le_refl _,heap_alloc_new w _,Nat.le_refl _,by unfold maxLen;omega,rfl,rfl⟩⟩,by simp,by simpa using hx⟩
theorem nC(w:zw)(g:Nat)(v:Value)(xs:zY)(key:zy)(h:Row w g v xs)(hl:xs.length<=1900)(hs:key.size<=maxLen):
 Calls prog 107 #[v,.string key] w (br (key::rem xs key) w):=by
 have jX:=(zo w.heap.size w).alloc (zg _) (.cells #[.string key] 9);have U:=J (lL _ g v xs key (h.below jX) hl);have O1:=J (JZ w key hs);have B0:=J jX;have hle:=aI xs key;clear h jX;go_enter func107,ntmps107;go_wp2_with fail
 refine U.out.mono ?_;rintro e w1 ⟨v2,rfl,kg,cQ⟩;have CN:=cQ.size;rw[show(w.alloc (.cells #[.string key] 9)).heap.size=w.heap.size+1 by simp] at CN;have lh:Own w1 w.heap.size (.slice (some ⟨w.heap.size,0,none⟩) 1 1) [key]:=O1.out.kept (r:=none) ⟨cQ.os,cQ.tape,cQ.output,cQ.size,λk hk _=>cQ.block k hk⟩ (ja (by simp[Value.ownBlock]));obtain⟨v',w2,aB,aS,hg⟩:=mj lh kg (by simp;omega) (by omega);have df:=J aB;have nB:=J aS;have HB:=zs (Below w.heap.size w w2) ((B0.out.trans (cQ.mono (by simp))).grown hg (by omega) (λk hk=>by simp[Value.ownBlock] at hk;omega));clear kg cQ lh aB aS hg U O1;go_wp2_with(at_builtin;refine aq rfl _ _ _ rfl _ _ _ _ rfl rfl df.out ?_)
 go_ret;exact⟨_,rfl,nB.out,HB.out⟩
theorem jo(w:zw)(g:Nat)(v:Value)(xs:zY)(key:zy)(h:Row w g v xs)(hl:xs.length<=1900)(hs:key.size<=maxLen):
 Calls prog 87 #[v,.string key] w (br (rem xs key++ [key]) w):=by
 have U:=J (lL w g v xs key h hl);have hle:=aI xs key;clear h;go_enter func87,ntmps87;go_wp2_with fail
 refine U.out.mono ?_;rintro e w1 ⟨v2,rfl,kg,cQ⟩;have CN:=cQ.size;obtain⟨g',fY,w2,aB,bC,dn⟩:=oP kg key hs (by omega) CN;have df:=J aB;have nB:=J bC;have HB:=J (cQ.grown dn CN (λk hk=>(kg.1.lt k hk).1));clear kg cQ aB bC dn U;go_wp2_with(at_builtin;refine aq rfl _ _ _ rfl _ _ _ _ rfl rfl df.out ?_)
 go_ret;exact⟨_,rfl,nB.out,HB.out⟩
end
section
open Go.RowKit Sg
def nD(b:Bool)(w:zw)(e:Ending)(w':zw):Prop:=e= .returned (.bool b)/\∃n,w'=w.drewN n
def J0(xs ys:zY)(w:zw)(i:Value)(W:zw):Prop:=∃k n:Nat,i= .int .i64 (k:Int)/\k<=xs.length/\xs.take k=ys.take k/\W=w.drewN n
theorem Ej(w:zw)(g g':Nat)(v u:Value)(xs ys:zY)(h:Row w g v xs)(k:Row w g' u ys)(al:xs.length≠ys.length):
 Calls prog 27 #[v,u] w (nD (decide (xs=ys)) w):=by
 obtain⟨A,c,rfl⟩:=h.shape;obtain⟨B,d,rfl⟩:=k.shape;have E:=zs (decide (xs=ys)=false) (by simp;exact λe=>al (by rw[e]));have e0:((xs.length:Int) != (ys.length:Int))=true:=by simp;omega
 have e1:(xs.length != ys.length)=true:=by simpa using al
 clear h k al;go_enter func27,ntmps27;go_wp2_with fail
 go_ret;exact⟨eI E.out.symm,0,rfl⟩
theorem Ek(w:zw)(g g':Nat)(v u:Value)(xs ys:zY)(h:Row w g v xs)(k:Row w g' u ys)(he:xs.length=ys.length):
 Calls prog 27 #[v,u] w (nD (decide (xs=ys)) w):=by
 obtain⟨A,c,rfl⟩:=h.shape;obtain⟨B,d,rfl⟩:=k.shape;rw[← he] at k|-;have hl:=h.1;have HX:=J h;have HY:=J k;have HE:=J he;clear h k he;go_enter func27,ntmps27;go_wp2_with fail
 go_loopw [5] (λi W=>J0 xs ys w i W) (λi _=>xs.length - (intOf i).toNat)
 case atStart=>exact⟨0,0,rfl,xg _,rfl,rfl⟩
 case round=>
  obtain⟨k,n,rfl,hk,heq,rfl⟩:=hrel;have HQ:=J heq;clear heq
  by_cases aQ:k < xs.length
  . have e0:decide (k < xs.length)=true:=by simpa using aQ
    obtain⟨o,rfl,hg,hc,cF,bL⟩:=HX.out.at aQ;obtain⟨o',rfl,dB,hd,Vf,BG⟩:=HY.out.at (k:=k) (by rw[← HE.out];exact aQ);rw[← HE.out] at Vf;unfold maxLen at bL BG;have h1:=dP xs k ⟨#[]⟩ aQ;have h2:=dP ys k ⟨#[]⟩ (by rw[← HE.out];exact aQ);have Gs:k < ys.length:=by rw[← HE.out];exact aQ
    have kc:xs[k]?=some (xs.getD k ⟨#[]⟩):=by rw[zt,zm aQ];rfl
    have I':ys[k]?=some (ys.getD k ⟨#[]⟩):=by rw[zt,zm Gs];rfl
    generalize xs.getD k ⟨#[]⟩=x at hc h1 kc;generalize ys.getD k ⟨#[]⟩=y at hd h2 I'
    by_cases Bu:x=y
    . subst Bu;have Vg:=zs (xs.take (k+1)=ys.take (k+1)) (by rw[h1,h2,HQ.out]);have e1:=iB (rfl:x=x);clear h1 h2 kc I' Gs HQ;go_wp2_with fail
      go_quiet(fail)
      go_wp2_with fail
      go_roundw
      case rel=>exact⟨k+1,_,by go_num,by omega,Vg.out,rfl⟩
      case measure=>simp[intOf];omega
    . have E:=J (show decide (xs=ys)=false by simp only[decide_eq_false_iff_not];intro e;rw[e,I'] at kc;exact Bu (by injection kc with e;exact e.symm));have e1:=jM Bu;clear h1 h2 kc I' Gs HQ Bu;go_wp2_with fail
      go_quiet(fail)
      go_wp2_with fail
      go_ret;exact⟨eI E.out.symm,_,World.drewN_drewN _ _ _⟩
  . have e0:decide (k < xs.length)=false:=by simpa using aQ
    have E:=J (show decide (xs=ys)=true by
     have:=HQ.out;have he:=HE.out;rw[qk (by omega),qk (by omega)] at this;simpa using this)
    clear HQ;go_wp2_with fail
    go_ret;exact⟨eI E.out.symm,_,rfl⟩
theorem sE(w:zw)(g g':Nat)(v u:Value)(xs ys:zY)(h:Row w g v xs)(k:Row w g' u ys):
 Calls prog 27 #[v,u] w (nD (decide (xs=ys)) w):=by
 by_cases he:xs.length=ys.length
 . exact Ek w g g' v u xs ys h k he
 . exact Ej w g g' v u xs ys h k he
end
section
open Go.RowKit Sg
def iE(xs:zY)(i:Nat):zY:=(List.range xs.length).map λk=>if k < i\/xs.length<=k+i then xs.getD (xs.length - 1 - k) ⟨#[]⟩ else xs.getD k ⟨#[]⟩
theorem fe(xs:zY)(i:Nat):(iE xs i).length=xs.length:=by simp[iE]
theorem ky{xs:zY}{i k:Nat}(hk:k < xs.length):(iE xs i)[k]?=some (if k < i\/xs.length<=k+i then xs.getD (xs.length - 1 - k) ⟨#[]⟩ else xs.getD k ⟨#[]⟩):=by
 unfold iE;rw[xj,List.getElem?_range hk];rfl
theorem yZ{xs:zY}{k:Nat}(hk:k < xs.length):xs[k]?=some (xs.getD k ⟨#[]⟩):=by
 rw[zt,zm hk];rfl
theorem oQ{xs:zY}{k:Nat}(hk:¬k < xs.length):xs[k]?=none:=List.getElem?_eq_none (by omega)
theorem El(xs:zY):iE xs 0=xs:=by
 refine List.ext_getElem? λk=>?_
 by_cases hk:k < xs.length
 . rw[ky hk,if_neg (by omega),yZ hk]
 . rw[oQ hk,oQ (by rw[fe];exact hk)]
theorem Gt{xs:zY}{i:Nat}(h:xs.length<=2*i+1):iE xs i=xs.reverse:=by
 refine List.ext_getElem? λk=>?_
 by_cases hk:k < xs.length
 . rw[ky hk,List.getElem?_reverse hk,yZ (by omega)];split
   . rfl
   . rw[show xs.length - 1 - k=k by omega]
 . rw[oQ (by rw[fe];exact hk),oQ (by rw[qp];exact hk)]
theorem Em{xs:zY}{i j:Nat}(hj:j=xs.length - 1 - i)(h:2*i+1 < xs.length):((iE xs i).set i (xs.getD j ⟨#[]⟩)).set j (xs.getD i ⟨#[]⟩)=iE xs (i+1):=by
 refine List.ext_getElem? λk=>?_
 by_cases hk:k < xs.length
 . rw[ky hk,List.getElem?_set,List.getElem?_set,List.length_set,fe,ky hk]
   by_cases h1:j=k
   . rw[if_pos h1,if_pos (by omega),if_pos (by omega),show xs.length - 1 - k=i by omega]
   . rw[if_neg h1]
     by_cases h2:i=k
     . rw[if_pos h2,if_pos (by omega),if_pos (by omega),show xs.length - 1 - k=j by omega]
     . rw[if_neg h2]
       by_cases h3:k < i\/xs.length<=k+i
       . rw[if_pos h3,if_pos (by omega)]
       . rw[if_neg h3,if_neg (by omega)]
 . rw[oQ (xs:=iE xs (i+1)) (by rw[fe];exact hk),oQ (by rw[List.length_set,List.length_set,fe];exact hk)]
theorem Own.same{w w':zw}{base:Nat}{v:Value}{xs:zY}(o:Own w base v xs)(hs:∀g,v.ownBlock=some g->w'.heap[g]?=w.heap[g]?):Own w' base v xs:=by
 refine⟨⟨o.1.1,?_⟩,o.2⟩;rcases o.1.2 with h1|⟨g,cap,arr,rfl,hb,h2,h3⟩
 . exact xz h1
 . exact ja ⟨g,cap,arr,rfl,hb,(hs g rfl).trans h2,h3⟩
theorem Own.lt{w:zw}{v:Value}{xs:zY}{base g:Nat}(o:Own w base v xs)(hg:v.ownBlock=some g):g < w.heap.size/\base<=g:=by
 rcases o.1.2 with⟨rfl,_⟩|⟨g',cap,arr,rfl,hb,h2,h3⟩
 . cases hg
 . cases hg;exact⟨(Array.getElem?_eq_some_iff.1 h2).1,hb⟩
theorem Own.stored{w:zw}{base g n cap:Nat}{xs:zY}(h:Own w base (.slice (some ⟨g,0,none⟩) n cap) xs)(hn:xs.length=n)(j:Nat)(x:zy)(hx:x.size<=maxLen):
 Own (w.setCell ⟨g,j,none⟩ (.string x)) base (.slice (some ⟨g,0,none⟩) n cap) (xs.set j x):=by
 subst hn;have h1:=(h.1.stored j (.string x)).1;refine⟨?_,by rw[List.length_set];exact h.2.1,λy hy=>?_⟩
 . rw[List.length_set,List.map_set];exact h1
 . rcases List.mem_or_eq_of_mem_set hy with h2|rfl
   . exact h.2.2 y h2
   . exact hx
def J1(xs:zY)(base:Nat)(v:Value)(w:zw)(e:Ending)(w':zw):Prop:=e= .returned (.tuple #[])/\Own w' base v xs.reverse/\Below base w w'
def MC(xs:zY)(base:Nat)(v:Value)(w:zw)(iv jv:Value)(W:zw):Prop:=∃(i:Nat) (t:Int),iv= .int .i64 (i:Int)/\jv= .int .i64 t/\t=(xs.length:Int) - 1 - (i:Int)/\2*i<=xs.length/\Own W base v (iE xs i)/\Below base w W
theorem oD(w:zw)(base:Nat)(v:Value)(xs:zY)(h:Own w base v xs)(_:base<=w.heap.size):
 Calls prog 147 #[v] w (J1 xs base v w):=by
 obtain⟨A,c,rfl⟩:=h.len;have hl:=h.2.1;have HS:=J h.2.2;have HH:=J h;clear h;go_enter func147,ntmps147;go_wp2_with fail
 go_loopw [2,3] (λi j W=>MC xs base (.slice A xs.length c) w i j W) (λi _ _=>xs.length - (intOf i).toNat)
 case atStart=>exact⟨0,_,rfl,rfl,by omega,by omega,by rw[El];exact HH.out,zo _ _⟩
 case round=>
  obtain⟨i,t,rfl,rfl,ht,hi,hO,hB⟩:=hrel
  by_cases aQ:2*i+1 < xs.length
  . obtain⟨j,hj⟩:=zx (xs.length - 1 - i);obtain rfl:t=(j:Int):=by omega
    have p9:i < j:=by omega
    have mQ:j < xs.length:=by omega
    have e0:decide (i < j)=true:=by simpa using p9
    have R:=J (Em hj aQ);have En:=hO;rcases hO.1.2 with⟨_,h0⟩|⟨g,cap,cur,e1,rj,hg,hn,hm,uC,wI⟩
    . rw[fe] at h0;omega
    obtain⟨rfl,_,rfl⟩:A=some ⟨g,0,none⟩/\xs.length=(iE xs i).length/\c=cap:=by
     injection e1 with a1 a2 a3
     exact⟨a1,a2,a3⟩
    rw[fe] at hn;have kc:(iE xs i)[i]?=some (xs.getD i ⟨#[]⟩):=by rw[ky (by omega),if_neg (by omega)]
    have lj:(iE xs i)[j]?=some (xs.getD j ⟨#[]⟩):=by rw[ky (by omega),if_neg (by omega)]
    have oH:(xs.getD i ⟨#[]⟩).size<=maxLen:=by
     refine HS.out _ ?_;rw[zt,zm (by omega)];exact qy _
    have fI:(xs.getD j ⟨#[]⟩).size<=maxLen:=by
     refine HS.out _ ?_;rw[zt,zm mQ];exact qy _
    have hW:wr.ownsRow base 9 1 (.slice (some ⟨g,0,none⟩) (iE xs i).length c) (iE xs i).length ((iE xs i).map Value.string):=by
     have:=hO.1;rw[fe] at this ⊢;exact this
    have k1:wr.cell? ⟨g,i,none⟩=some (.string (xs.getD i ⟨#[]⟩)):=by
     rw[hW.cellAt i (by rw[fe];omega),xj,kc];rfl
    have k2:wr.cell? ⟨g,j,none⟩=some (.string (xs.getD j ⟨#[]⟩)):=by
     rw[hW.cellAt j (by rw[fe];omega),xj,lj];rfl
    have f1:=hW.frozenAt i;have f2:=hW.frozenAt j
    have O2:=J (show Own ((wr.setCell ⟨g,i,none⟩ (.string (xs.getD j ⟨#[]⟩))).setCell ⟨g,j,none⟩ (.string (xs.getD i ⟨#[]⟩))) base (.slice (some ⟨g,0,none⟩) xs.length c) (iE xs (i+1)) by
     have q1:=hO.stored (fe xs i) i (xs.getD j ⟨#[]⟩) fI;have q2:=q1.stored (by rw[List.length_set,fe]) j (xs.getD i ⟨#[]⟩) oH;rw[R.out] at q2;exact q2)
    have B2:=zs (Below base w ((wr.setCell ⟨g,i,none⟩ (.string (xs.getD j ⟨#[]⟩))).setCell ⟨g,j,none⟩ (.string (xs.getD i ⟨#[]⟩)))) ((hB.setCell (p:=⟨g,i,none⟩) rj _).setCell (p:=⟨g,j,none⟩) rj _);generalize xs.getD i ⟨#[]⟩=x at*;generalize xs.getD j ⟨#[]⟩=y at*;have HJ:=J hj;have n1:i≠j:=by omega
    have n2:j≠i:=by omega
    unfold maxLen at hm;clear hO En hB hW e1 hg uC wI kc lj oH fI R hj aQ ht hi rj;go_wp2_with fail
    go_region;go_wp2_with fail
    go_roundw
    case rel=>
     have:=HJ.out;exact⟨i+1,_,by go_num,rfl,by omega,by omega,O2.out.same (λ_ _=>rfl),B2.out.drew⟩
    case measure=>simp[intOf];omega
  . have e0:decide ((i:Int) < t)=false:=by simp;omega
    have R:=J (Gt (xs:=xs) (i:=i) (by omega));have O2:=J hO;clear ht hO;go_wp2_with fail
    go_end0;exact⟨rfl,by rw[← R.out];exact O2.out,hB⟩
end
section
open Go.RowKit Sg
structure ao(S:Nat->Prop)(w w':zw):Prop where
 os:w'.os=w.os
 tape:w'.tape=w.tape
 output:w'.output=w.output
 size:w.heap.size<=w'.heap.size
 block:∀k,k < w.heap.size->¬S k->w'.heap[k]?=w.heap[k]?
section
variable{S:Nat->Prop}{w w1 w2:zw}
theorem ao.refl(S:Nat->Prop)(w:zw):ao S w w:=⟨rfl,rfl,rfl,zg _,λ_ _ _=>rfl⟩
theorem ao.trans{S':Nat->Prop}(h:ao S w w1)(k:ao S' w1 w2)(hs:∀k,k < w.heap.size->S' k->S k):ao S w w2:=
 ⟨k.os.trans h.os,k.tape.trans h.tape,k.output.trans h.output,zr h.size k.size,λi hi h1=>(k.block i (xd hi h.size) (λe=>h1 (hs i hi e))).trans (h.block i hi h1)⟩
theorem ao.setCell(h:ao S w w1){p:Addr}(hp:S p.block\/w.heap.size<=p.block)(u:Value):ao S w (w1.setCell p u):=
 h.trans (S':=λk=>k=p.block) ⟨rfl,rfl,rfl,by simp[World.setCell],λk _ h1=>qc _ _ _ _ h1⟩ (λk hk e=>by subst e;rcases hp with h|h;exact h;omega)
theorem ao.drew(h:ao S w w1):ao S w w1.drew:=⟨h.os,h.tape,h.output,h.size,h.block⟩
theorem ao.alloc(h:ao S w w1)(o:Obj):ao S w (w1.alloc o):=
 h.trans (S':=S) ⟨rfl,rfl,rfl,by simp,λk hk _=>qf _ _ _ hk⟩ (λ_ _ h=>h)
theorem ao.below{B:Nat}(h:ao S w w1)(hS:∀k,S k->B<=k)(hB:B<=w.heap.size):Below B w w1:=
 ⟨h.os,h.tape,h.output,h.size,λk hk=>h.block k (by omega) (λe=>by have:=hS k e;omega)⟩
theorem ao.cZ(h:Below w.heap.size w w1):ao S w w1:=⟨h.os,h.tape,h.output,h.size,λk hk _=>h.block k hk⟩
theorem ao.wide{S':Nat->Prop}(h:ao S w w1)(hs:∀k,k < w.heap.size->S k->S' k):ao S' w w1:=⟨h.os,h.tape,h.output,h.size,λk hk h1=>h.block k hk (λe=>h1 (hs k hk e))⟩
end
def gi(n:Nat)(xs:zY):zY:=xs.drop (xs.length - n)
theorem wJ(n:Nat)(xs:zY):(gi n xs).length=min n xs.length:=by unfold gi;rw[List.length_drop];omega
theorem oj{n:Nat}{xs:zY}(h:xs.length<=n):gi n xs=xs:=by unfold gi;rw[show xs.length - n=0 by omega];rfl
theorem Eo{n:Nat}{xs ys:zY}(h:n<=ys.length):gi n (xs++ys)=gi n ys:=by
 unfold gi;rw[zh,List.drop_append,List.drop_of_length_le (by omega),List.nil_append];congr 1;omega
theorem ml(xs:zY)(k:zy):rem xs.reverse k=(rem xs k).reverse:=by unfold rem;rw[List.filter_reverse]
theorem BH(xs:zY)(k:zy):aw xs.reverse k=aw xs k:=by unfold aw;rw[List.any_reverse]
theorem eY{xs:zY}{k:zy}(h:xs.Nodup)(hk:k∈xs):(rem xs k).length+1=xs.length:=by
 obtain⟨ps,qs,rfl⟩:=List.append_of_mem hk;have h1:=List.nodup_append.1 h;have h2:=List.nodup_cons.1 h1.2.1;have e1:rem ps k=ps:=aZ (λhx=>h1.2.2 k hx k (by simp) rfl);have e2:rem qs k=qs:=aZ h2.1
 have e3:rem (ps++k::qs) k=rem ps k++rem qs k:=by
  unfold rem;rw[List.filter_append,List.filter_cons_of_neg (by simp)]
 rw[e3,e1,e2];simp only[zh,zv];omega
def ia(mo:Nat)(ks:zY)(k:zy):zY:=gi mo (rem ks k++ [k])
def eK(mo:Nat)(ks:zY)(k:zy):Bool:=decide (mo≠0)&&aw ks k
def ef(mo:Nat)(ks:zY)(k:zy):Bool:=decide (mo≠0)&&!aw ks k&&decide (mo<=ks.length)
def eL(mo:Nat)(ks:zY)(k:zy):zy:=if ef mo ks k=true then ks.headD ⟨#[]⟩ else⟨#[]⟩
def cS(mo:Nat)(ks:zY)(k:zy):Value:= .agg #[.bool (eK mo ks k),.string (eL mo ks k),.bool (ef mo ks k)]
theorem J2(mo:Nat)(ks:zY)(k:zy):(ia mo ks k).length<=mo:=by unfold ia;rw[wJ];omega
theorem rk(ks:zY)(k:zy):ia 0 ks k= []:=by
 have:=J2 0 ks k;exact qe (by omega)
theorem y6{mo:Nat}{ks:zY}{k:zy}(hn:ks.Nodup)(hk:k∈ks)(hl:ks.length<=mo):ia mo ks k=rem ks k++ [k]:=by
 have:=eY hn hk;exact oj (by rw[zh,zv,ql];omega)
theorem wK{mo:Nat}{ks:zY}{k:zy}(hl:ks.length < mo):ia mo ks k=rem ks k++ [k]:=by
 have:=aI ks k;exact oj (by rw[zh,zv,ql];omega)
theorem wL{mo:Nat}{x k:zy}{ks:zY}(hk:k∉x::ks)(hl:(x::ks).length=mo):ia mo (x::ks) k=rem ks k++ [k]:=by
 unfold ia;rw[aZ hk,aZ (λh=>hk (qm _ h))];rw[zv] at hl;rw[show x::ks++ [k]= [x]++(ks++ [k]) from rfl,Eo (by rw[zh,zv,ql];omega),oj (by rw[zh,zv,ql];omega)]
end
section
open Go.RowKit Sg
structure aJ(w w':zw)(S S':Nat->Prop):Prop where
 new:∀k,S' k->S k\/w.heap.size<=k
 a8:ao S w w'
section
variable{w w1 w2 w':zw}{S S1 S2 S':Nat->Prop}
theorem aJ.refl(w:zw)(S:Nat->Prop):aJ w w S S:=⟨λ_ h=>xz h,ao.refl _ _⟩
theorem aJ.trans(h:aJ w w1 S S1)(k:aJ w1 w2 S1 S2):aJ w w2 S S2:=by
 have hs:=h.a8.size;refine⟨λi hi=>?_,h.a8.trans k.a8 (λi hi hS=>?_)⟩
 . rcases k.new i hi with h1|h1
   . exact h.new i h1
   . exact ja (by omega)
 . rcases h.new i hS with h1|h1
   . exact h1
   . omega
theorem aJ.below(h:Below w.heap.size w w'):aJ w w' S S:=⟨λ_ h=>xz h,ao.cZ h⟩
theorem aJ.same(h:ao S w w'):aJ w w' S S:=⟨λ_ h=>xz h,h⟩
end
def three(l M P:Nat):Nat->Prop:=λk=>k=l\/k=M\/k=P
def LS(w:zw)(l:Nat)(S:Nat->Prop)(xs:zY)(b:Nat):Prop:=∃M P m,S=three l M P/\m<=b/\fH w l M P xs m
def kL(v:Value)(w:zw)(l:Nat)(S:Nat->Prop)(xs:zY)(b:Nat)(e:Ending)(w':zw):Prop:=
 e= .returned v/\∃S',LS w' l S' xs b/\aJ w w' S S'
section
variable{w w':zw}{l b b':Nat}{S S2:Nat->Prop}{xs:zY}{v:Value}{e:Ending}
theorem LS.lt(h:LS w l S xs b){k:Nat}(hk:S k):k < w.heap.size:=by
 obtain⟨M,P,m,rfl,_,hL⟩:=h;have:=hL.eZ;rcases hk with h|h|h <;> omega
theorem LS.kept(h:LS w l S xs b)(hs:w.heap.size<=w'.heap.size)(hb:∀k,S k->w'.heap[k]?=w.heap[k]?):LS w' l S xs b:=by
 obtain⟨M,P,m,rfl,hm,hL⟩:=h;exact⟨M,P,m,rfl,hm,hL.same hs (hb _ (xz rfl)) (hb _ (ja (xz rfl))) (hb _ (ja (ja rfl)))⟩
theorem LS.mono(h:LS w l S xs b)(hb:b<=b'):LS w l S xs b':=by
 obtain⟨M,P,m,h1,hm,hL⟩:=h;exact⟨M,P,m,h1,by omega,hL⟩
theorem LS.small(h:LS w l S xs b):∀x∈xs,x.size<=maxLen:=by obtain⟨M,P,m,h1,hm,hL⟩:=h;exact hL.small
theorem LS.len(h:LS w l S xs b):xs.length<=b/\xs.length<=999:=by
 obtain⟨M,P,m,h1,hm,hL⟩:=h;have:=hL.le;omega
theorem cJ.CO{M P m:Nat}(h:cJ v w l M P xs m e w')(hm:m<=b):kL v w l (three l M P) xs b e w':=by
 obtain⟨P',he,hP,hL,hT⟩:=h;refine⟨he,three l M P',⟨M,P',m,rfl,hm,hL⟩,λk hk=>?_,⟨hT.os,hT.tape,hT.output,hT.size,λk hk hn=>hT.block k hk (λe=>hn (xz e)) (λe=>hn (ja (xz e))) (λe=>hn (ja (ja e)))⟩⟩;rcases hk with h|h|h
 . exact xz (xz h)
 . exact xz (ja (xz h))
 . subst h;rcases hP with h|h
   . exact xz (ja (ja h))
   . exact ja h
end
section
variable(w:zw)(l:Nat)(S:Nat->Prop)(xs:zY)(b:Nat)(h:LS w l S xs b)
include h
theorem oR:Calls prog 148 #[.pointer (some ⟨l,0,none⟩)] w (bS (xs.length:Int) w):=by
 obtain⟨M,P,m,rfl,hm,hL⟩:=h;exact oI w l M P xs m hL
theorem dt(key:zy)(hs:key.size<=maxLen):Calls prog 145 #[.pointer (some ⟨l,0,none⟩),.string key] w (dq (aw xs key) w):=by
 obtain⟨M,P,m,rfl,hm,hL⟩:=h;exact BF w l M P xs m key hL hs
theorem vO:Calls prog 153 #[.pointer (some ⟨l,0,none⟩)] w (gZ (ah xs) (bb xs) w):=by
 obtain⟨M,P,m,rfl,hm,hL⟩:=h;exact pH w l M P xs m hL
theorem kz:Calls prog 146 #[.pointer (some ⟨l,0,none⟩)] w (br xs w):=by
 obtain⟨M,P,m,rfl,hm,hL⟩:=h;exact yY w l M P xs m hL
theorem pI(key:zy)(b':Nat)(hs:key.size<=maxLen)(hb:b<=990)(h1:b<=b')(h2:(rem xs key).length+1<=b'):
 Calls prog 143 #[.pointer (some ⟨l,0,none⟩),.string key] w (kL (.tuple #[]) w l S (key::rem xs key) b'):=by
 obtain⟨M,P,m,rfl,hm,hL⟩:=h;exact(lg w l M P xs m key hL hs (by omega)).mono λe w' hp=>hp.CO (by omega)
theorem fJ(key:zy)(b':Nat)(hk:key∉xs)(hs:key.size<=maxLen)(hb:b<=990)(h1:b<=b')(h2:xs.length+1<=b'):
 Calls prog 143 #[.pointer (some ⟨l,0,none⟩),.string key] w (kL (.tuple #[]) w l S (key::xs) b'):=by
 have:=pI w l S xs b h key b' hs hb h1 (by rw[aZ hk];exact h2);rw[aZ hk] at this;exact this
theorem ez(key:zy)(hs:key.size<=maxLen):
 Calls prog 149 #[.pointer (some ⟨l,0,none⟩),.string key] w (kL (.bool (aw xs key)) w l S (rem xs key) b):=by
 obtain⟨M,P,m,rfl,hm,hL⟩:=h;exact(jU w l M P xs m key hL hs).mono λe w' hp=>hp.CO hm
theorem gR:Calls prog 144 #[.pointer (some ⟨l,0,none⟩)] w (kL (.tuple #[.string (ah xs),.bool (bb xs)]) w l S xs.dropLast b):=by
 obtain⟨M,P,m,rfl,hm,hL⟩:=h;exact(rZ w l M P xs m hL).mono λe w' hp=>hp.CO hm
end
def MD(w:zw)(e:Ending)(w':zw):Prop:=∃l S,e= .returned (.pointer (some ⟨l,0,none⟩))/\(∀k,S k->w.heap.size<=k)/\LS w' l S [] 0/\Below w.heap.size w w'
theorem nE(w:zw):Calls prog 108 #[] w (MD w):=by
 refine(mg w).mono ?_;rintro e w' ⟨l,M,P,rfl,hl,hM,hP,hL,hB⟩;refine⟨l,three l M P,rfl,λk hk=>?_,⟨M,P,0,rfl,zg _,hL⟩,hB⟩;rcases hk with h|h|h <;> omega
end
section
open Go.RowKit Sg
theorem Row.lt{w:zw}{g:Nat}{v:Value}{xs:zY}(h:Row w g v xs)(hx:xs≠ []):g < w.heap.size:=by
 rcases h.2.2 with⟨h,_⟩|⟨o,c,e,h1,_⟩
 . exact absurd h hx
 . exact h1
theorem Row.set{W:zw}{g:Nat}{v:Value}{xs:zY}(r:Row W g v xs){q:Addr}(hq:g≠q.block)(u:Value):Row (W.setCell q u) g v xs:=r.same (by simp[World.setCell]) (λ_=>qc _ _ _ _ hq)
theorem Row.drew{W:zw}{g:Nat}{v:Value}{xs:zY}(r:Row W g v xs):Row W.drew g v xs:=r.same (zg _) (λ_=>rfl)
theorem Own.below{w w':zw}{base:Nat}{v:Value}{xs:zY}(h:Own w base v xs)(hb:Below w.heap.size w w'):Own w' base v xs:=h.same λg hg=>hb.block g (h.lt hg).1
theorem vP(w:zw):(sizeOf 9).run prog w= .ok 1 w:=by kernel_rfl
theorem mq:prog.underlying 30=some (.slice (prog.elem 30)):=by kernel_rfl
theorem tk:prog.elem 30=9:=by kernel_rfl
theorem pJ{w:zw}{g:Nat}{A:Option Addr}{n c:Nat}{xs:zY}(h:Row w g (.slice A n c) xs)(hn:xs.length=n){p:Nat}(hp:p<=n):
 ∃A',(∀W:zw,(Instr.sliceAt 30 (.slice A n c) (some (.int .i64 (p:Int))) none none).run prog W= .ok (.slice A' (n - p) (c - p)) W)/\
  (∀W:zw,(Instr.slice 30 (.slice A n c) (some (.int .i64 (p:Int))) none none).run prog W= .ok (.slice A' (n - p) (c - p)) W)/\Row w g (.slice A' (n - p) (c - p)) (xs.drop p):=by
 have aB:∀W:zw,(Instr.slice 30 (.slice A n c) (some (.int .i64 (p:Int))) none none).run prog W= .ok (.slice (if c=p then A else A.map (·.add (p*1))) (n - p) (c - p)) W:=λW=>by
  rw[run_slice_l W _ _ _ _ mq .i64 (p:Int) (by omega) (by omega),tk,vP];rfl
 refine⟨if c=p then A else A.map (·.add (p*1)),λW=>(run_sliceAt_slice W _ _ _ _ _ mq).trans (aB W),aB,?_⟩;have hd:(xs.drop p).length=n - p:=by rw[xm,hn]
 refine⟨by rw[hd];have:=h.1;omega,λx hx=>h.2.1 x (List.drop_subset _ _ hx),?_⟩
 by_cases h0:n - p=0
 . rw[h0];exact xz ⟨qe (by rw[hd,h0]),_,_,rfl⟩
 . rcases h.2.2 with⟨rfl,_⟩|⟨o,c',e,h1,h2,h3,h4⟩
   . simp at hn;omega
   . obtain⟨rfl,rfl⟩:A=some ⟨g,o,none⟩/\c=c':=by
      injection e with a1 a2 a3
      exact⟨a1,a3⟩
     have wC:c≠p:=by omega
     rw[if_neg wC];refine ja ⟨o+p,c - p,?_,h1,by omega,by omega,λj hj=>?_⟩
     . rw[hd];show Value.slice (some (Addr.add ⟨g,o,none⟩ (p*1))) _ _=_;rw[show Addr.add ⟨g,o,none⟩ (p*1)=⟨g,o+p,none⟩ by unfold Addr.add;split <;> simp_all]
     . rw[hd] at hj;have:=h4 (p+j) (by omega);rw[← Nat.add_assoc] at this;rw[this,zt,zt,List.getElem?_drop]
theorem Ep{w:zw}{g:Nat}{A:Option Addr}{n c:Nat}{xs:zY}(h:Row w g (.slice A n c) xs)(hn:xs.length=n){p:Nat}(hp:p<=n):
 ∃A',(∀W:zw,(Instr.sliceAt 30 (.slice A n c) none (some (.int .i64 (p:Int))) none).run prog W= .ok (.slice A' p c) W)/\
  (∀W:zw,(Instr.slice 30 (.slice A n c) none (some (.int .i64 (p:Int))) none).run prog W= .ok (.slice A' p c) W)/\Row w g (.slice A' p c) (xs.take p):=by
 have sF:(xs.take p).length=p:=by rw[qh,hn];omega
 by_cases h0:p=0
 . subst h0
   have aB:∀W:zw,(Instr.slice 30 (.slice A n c) none (some (.int .i64 ((0:Nat):Int))) none).run prog W= .ok (.slice (if c=0 then A else A.map (·.add (0*1))) 0 c) W:=λW=>by
    rw[run_slice_h W _ _ _ _ mq .i64 ((0:Nat):Int) (by omega) (by omega),tk,vP];rfl
   refine⟨_,λW=>(run_sliceAt_slice W _ _ _ _ _ mq).trans (aB W),aB,?_⟩;rw[List.take_zero];exact Row.nil _ _ _ _
 . rcases h.2.2 with⟨rfl,_⟩|⟨o,c',e,h1,h2,h3,h4⟩
   . simp at hn;omega
   . obtain⟨rfl,rfl⟩:A=some ⟨g,o,none⟩/\c=c':=by
      injection e with a1 a2 a3
      exact⟨a1,a3⟩
     have aB:∀W:zw,(Instr.slice 30 (.slice (some ⟨g,o,none⟩) n c) none (some (.int .i64 (p:Int))) none).run prog W= .ok (.slice (some ⟨g,o,none⟩) p c) W:=λW=>by
      rw[run_slice_h W _ _ _ _ mq .i64 (p:Int) (by omega) (by omega),tk,vP];show Result.ok (sliced _ 0 _ _ _) _=_;unfold sliced;rw[if_neg (by omega)];simp[Addr.add]
     refine⟨_,λW=>(run_sliceAt_slice W _ _ _ _ _ mq).trans (aB W),aB,by rw[sF];have:=h.1;omega,λx hx=>h.2.1 x (List.take_subset _ _ hx),ja ⟨o,c,by rw[sF],h1,by omega,h3,λj hj=>?_⟩⟩;rw[sF] at hj;rw[h4 j (by omega),zt,zt,xv,if_pos hj]
end
namespace LR
open Go.RowKit Sg
structure Raw(w:zw)(c l M P:Nat)(mo:Nat)(ks:zY)(b:Nat):Prop where
 cl:c≠l
 cM:c≠M
 cP:c≠P
 box:w.heap[c]?=some (.cells #[.int .i64 (mo:Int),.pointer (some ⟨l,0,none⟩)] 191 (0,0))
 lk:∃m,m<=b/\fH w l M P ks.reverse m
 top:mo<=9223372036854775807
section
variable{w w':zw}{c l M P P' mo b:Nat}{ks ks':zY}
theorem Raw.c0(h:Raw w c l M P mo ks b):w.cell? ⟨c,0,none⟩=some (.int .i64 (mo:Int)):=cell_of_row w _ 0 _ _ _ h.box
theorem Raw.c1(h:Raw w c l M P mo ks b):w.cell? ⟨c,1,none⟩=some (.pointer (some ⟨l,0,none⟩)):=cell_of_row w _ 1 _ _ _ h.box
theorem Raw.f0(h:Raw w c l M P mo ks b):w.frozen? ⟨c,0,none⟩=false:=frozen_of_row w _ 0 _ _ h.box
theorem Raw.cx(h:Raw w c l M P mo ks b):c < w.heap.size:=(Array.getElem?_eq_some_iff.1 h.box).1
theorem Raw.eZ(h:Raw w c l M P mo ks b):l < w.heap.size/\M < w.heap.size/\P < w.heap.size:=by
 obtain⟨m,_,hL⟩:=h.lk;exact hL.eZ
theorem Raw.nodup(h:Raw w c l M P mo ks b):ks.Nodup:=by
 obtain⟨m,_,hL⟩:=h.lk;have:=hL.nodup;exact(List.pairwise_reverse.1 this).imp λh=>qa h
theorem Raw.small(h:Raw w c l M P mo ks b):∀x∈ks,x.size<=maxLen:=by
 obtain⟨m,_,hL⟩:=h.lk;intro x hx;exact hL.small x (List.mem_reverse.2 hx)
theorem Raw.len(h:Raw w c l M P mo ks b):ks.length<=b/\ks.length<=999:=by
 obtain⟨m,hm,hL⟩:=h.lk;have:=hL.le;rw[qp] at this;omega
theorem Raw.same(h:Raw w c l M P mo ks b)(hs:w.heap.size<=w'.heap.size)(hc:w'.heap[c]?=w.heap[c]?)(hl:w'.heap[l]?=w.heap[l]?)(hM:w'.heap[M]?=w.heap[M]?)(hP:w'.heap[P]?=w.heap[P]?):Raw w' c l M P mo ks b:=by
 obtain⟨m,hm,hL⟩:=h.lk;exact⟨h.cl,h.cM,h.cP,hc.trans h.box,⟨m,hm,hL.same hs hl hM hP⟩,h.top⟩
theorem Raw.below(h:Raw w c l M P mo ks b)(hb:Below w.heap.size w w'):Raw w' c l M P mo ks b:=
 h.same hb.size (hb.block _ h.cx) (hb.block _ h.eZ.1) (hb.block _ h.eZ.2.1) (hb.block _ h.eZ.2.2)
theorem Raw.next(h:Raw w c l M P mo ks b)(hP:P'=P\/w.heap.size<=P')(ht:bt w w' l M P){m:Nat}{xs:zY}(hL:fH w' l M P' xs m){b':Nat}(hm:m<=b')(hx:xs=ks'.reverse):Raw w' c l M P' mo ks' b':=by
 have hc:=h.cx;have h1:=h.cl;have h2:=h.cM;have h3:=h.cP;exact⟨h1,h2,by rcases hP with rfl|hP <;> omega,(ht.block c hc h1 h2 h3).trans h.box,⟨m,hm,hx▸hL⟩,h.top⟩
end
def qF(v:Value)(w:zw)(c l M P mo:Nat)(ks:zY)(b:Nat)(e:Ending)(w':zw):Prop:=∃P',e= .returned v/\(P'=P\/w.heap.size<=P')/\Raw w' c l M P' mo ks b/\bt w w' l M P
theorem jx(w:zw)(c l M P mo:Nat)(ks:zY)(b:Nat)(h:Raw w c l M P mo ks b):
 Calls prog 138 #[.pointer (some ⟨c,0,none⟩)] w (bS (ks.length:Int) w):=by
 have c1:=h.c1;obtain⟨m,hm,hL⟩:=h.lk;have U:=J (oI w l M P _ m hL);rw[qp] at U;clear h hL hm;go_enter func138,ntmps138;go_wp2_with fail
 refine U.out.mono ?_;rintro e w1 ⟨rfl,rfl⟩;go_wp2_with fail
 go_ret;exact⟨rfl,rfl⟩
theorem jy(w:zw)(c l M P mo:Nat)(ks:zY)(b:Nat)(key:zy)(h:Raw w c l M P mo ks b)(hs:key.size<=maxLen):
 Calls prog 136 #[.pointer (some ⟨c,0,none⟩),.string key] w (dq (aw ks key) w):=by
 have c1:=h.c1;obtain⟨m,hm,hL⟩:=h.lk;have U:=J (BF w l M P _ m key hL hs);rw[BH] at U;clear h hL hm;go_enter func136,ntmps136;go_wp2_with fail
 refine U.out.mono ?_;rintro e w1 ⟨rfl,rfl⟩;go_wp2_with fail
 go_ret;exact⟨rfl,rfl⟩
theorem vD(w:zw)(c l M P mo:Nat)(ks:zY)(b:Nat)(key:zy)(h:Raw w c l M P mo ks b)(hs:key.size<=maxLen):
 Calls prog 139 #[.pointer (some ⟨c,0,none⟩),.string key] w (qF (.bool (aw ks key)) w c l M P mo (rem ks key) b):=by
 have c1:=h.c1;obtain⟨m,hm,hL⟩:=h.lk;have U:=J (jU w l M P _ m key hL hs);rw[BH] at U;have HH:=J h;have HM:=J hm;clear h hL hm;go_enter func139,ntmps139;go_wp2_with fail
 refine U.out.mono ?_;rintro e w1 ⟨P',rfl,hP,hL,hT⟩;have R:=J (HH.out.next hP hT hL HM.out (ml ks key));have HP:=J hP;have HT:=J hT;clear hP hT hL;go_wp2_with fail
 go_ret;exact⟨P',rfl,HP.out,R.out,HT.out⟩
theorem kM(ks:zY):ah ks.reverse=ks.headD ⟨#[]⟩/\bb ks.reverse=!ks.isEmpty:=by
 unfold ah bb;cases ks <;> simp
theorem vE(w:zw)(c l M P mo:Nat)(ks:zY)(b:Nat)(h:Raw w c l M P mo ks b):
 Calls prog 142 #[.pointer (some ⟨c,0,none⟩)] w (gZ (ks.headD ⟨#[]⟩) (!ks.isEmpty) w):=by
 have c1:=h.c1;obtain⟨m,hm,hL⟩:=h.lk;have U:=pH w l M P _ m hL;rw[(kM ks).1,(kM ks).2] at U;have U:=J U;generalize ks.headD ⟨#[]⟩=x at*;generalize(!ks.isEmpty)=t at*;clear h hL hm;go_enter func142,ntmps142;go_wp2_with fail
 refine U.out.mono ?_;rintro e w1 ⟨rfl,rfl⟩;go_wp2_with fail
 go_ret2
 exact⟨rfl,rfl⟩
theorem Es(ks:zY):ks.reverse.dropLast=ks.tail.reverse:=by
 cases ks <;> simp
theorem pz(w:zw)(c l M P mo:Nat)(ks:zY)(b:Nat)(h:Raw w c l M P mo ks b):
 Calls prog 134 #[.pointer (some ⟨c,0,none⟩)] w (qF (.tuple #[.string (ks.headD ⟨#[]⟩),.bool (!ks.isEmpty)]) w c l M P mo ks.tail b):=by
 have c1:=h.c1;obtain⟨m,hm,hL⟩:=h.lk;have U:=rZ w l M P _ m hL;rw[(kM ks).1,(kM ks).2,Es] at U;have U:=J U;have HH:=J h;have HM:=J hm;generalize ks.headD ⟨#[]⟩=x at*;generalize(!ks.isEmpty)=t at*;clear h hL hm;go_enter func134,ntmps134;go_wp2_with fail
 refine U.out.mono ?_;rintro e w1 ⟨P',rfl,hP,hL,hT⟩;have R:=J (HH.out.next hP hT hL HM.out rfl);have HP:=J hP;have HT:=J hT;clear hP hT hL;go_wp2_with fail
 go_ret2
 exact⟨P',rfl,HP.out,R.out,HT.out⟩
theorem Cx(w:zw)(c l M P mo:Nat)(ks:zY)(b:Nat)(h:Raw w c l M P mo ks b):
 Calls prog 137 #[.pointer (some ⟨c,0,none⟩)] w (br ks w):=by
 have c1:=h.c1;obtain⟨m,hm,hL⟩:=h.lk;have U:=J (yY w l M P _ m hL);clear h hL hm;go_enter func137,ntmps137;go_wp2_with fail
 refine U.out.mono ?_;rintro e w1 ⟨v,rfl,hO,hB⟩;have U2:=J (oD w1 w.heap.size v _ hO hB.size);have HB:=J hB;clear hO hB;go_wp2_with fail
 refine U2.out.mono ?_;rintro e w2 ⟨rfl,hO,hB⟩;rw[List.reverse_reverse] at hO;have HO:=J hO;have Vh:=J hB;clear hO hB;go_wp2_with fail
 go_ret;exact⟨v,rfl,HO.out,HB.out.trans Vh.out⟩
theorem vF(w:zw)(c:Nat):
 Calls prog 135 #[.pointer (some ⟨c,0,none⟩)] w (λe w'=>e= .returned (.slice none 0 0)/\w=w'):=by
 go_enter func135,ntmps135;go_wp2_with fail
 go_ret;exact⟨rfl,rfl⟩
end LR
namespace LR
open Go.RowKit Sg
def ax(c l M P:Nat):Nat->Prop:=λk=>k=c\/k=l\/k=M\/k=P
def Ca(w:zw)(c:Nat)(S:Nat->Prop)(mo:Nat)(ks:zY)(b:Nat):Prop:=∃l M P,S=ax c l M P/\Raw w c l M P mo ks b/\ks.length<=mo
def bs(v:Value)(w:zw)(c:Nat)(S:Nat->Prop)(mo:Nat)(ks:zY)(b:Nat)(e:Ending)(w':zw):Prop:=
 e= .returned v/\∃S',Ca w' c S' mo ks b/\(∀k,S' k->S k\/w.heap.size<=k)/\ao S w w'
section
variable{w w':zw}{c l M P P' mo b:Nat}{ks:zY}{S:Nat->Prop}{v:Value}{e:Ending}
theorem jq(h:bt w w' l M P):ao (ax c l M P) w w':=
 ⟨h.os,h.tape,h.output,h.size,λk hk hn=>h.block k hk (λe=>hn (ja (xz e))) (λe=>hn (ja (ja (xz e)))) (λe=>hn (ja (ja (ja e))))⟩
theorem dU(hP:P'=P\/w.heap.size<=P'):∀k,ax c l M P' k->ax c l M P k\/w.heap.size<=k:=by
 intro k hk;rcases hk with h|h|h|h
 . exact xz (xz h)
 . exact xz (ja (xz h))
 . exact xz (ja (ja (xz h)))
 . subst h;rcases hP with h|h
   . exact xz (ja (ja (ja h)))
   . exact ja h
theorem qF.post(h:qF v w c l M P mo ks b e w')(hl:ks.length<=mo):bs v w c (ax c l M P) mo ks b e w':=by
 obtain⟨P',he,hP,hR,hT⟩:=h;exact⟨he,_,⟨l,M,P',rfl,hR,hl⟩,dU hP,jq hT⟩
theorem Ca.lt(h:Ca w c S mo ks b){k:Nat}(hk:S k):k < w.heap.size:=by
 obtain⟨l,M,P,rfl,hR,_⟩:=h;have h1:=hR.cx;have h2:=hR.eZ;rcases hk with h|h|h|h <;> omega
theorem Ca.below(h:Ca w c S mo ks b)(hb:Below w.heap.size w w'):Ca w' c S mo ks b:=by
 obtain⟨l,M,P,h1,hR,hl⟩:=h;exact⟨l,M,P,h1,hR.below hb,hl⟩
theorem Ca.kept(h:Ca w c S mo ks b){S2:Nat->Prop}(ht:ao S2 w w')(hd:∀k,S k->¬S2 k):Ca w' c S mo ks b:=by
 have aQ:∀k,S k->k < w.heap.size:=λk hk=>h.lt hk;obtain⟨l,M,P,h1,hR,hl⟩:=h;subst h1;have q:∀k,ax c l M P k->w'.heap[k]?=w.heap[k]?:=λk hk=>ht.block k (aQ k hk) (hd k hk)
 exact⟨l,M,P,rfl,hR.same ht.size (q _ (xz rfl)) (q _ (ja (xz rfl))) (q _ (ja (ja (xz rfl)))) (q _ (ja (ja (ja rfl)))),hl⟩
theorem Ca.nodup(h:Ca w c S mo ks b):ks.Nodup:=by obtain⟨l,M,P,h1,hR,hl⟩:=h;exact hR.nodup
theorem Ca.small(h:Ca w c S mo ks b):∀x∈ks,x.size<=maxLen:=by obtain⟨l,M,P,h1,hR,hl⟩:=h;exact hR.small
theorem Ca.le(h:Ca w c S mo ks b):ks.length<=mo/\ks.length<=b/\ks.length<=999:=by obtain⟨l,M,P,h1,hR,hl⟩:=h;exact⟨hl,hR.len⟩
theorem Ca.mono(h:Ca w c S mo ks b){b':Nat}(hb:b<=b'):Ca w c S mo ks b':=by
 obtain⟨l,M,P,h1,hR,hl⟩:=h;obtain⟨m,hm,hL⟩:=hR.lk;exact⟨l,M,P,h1,⟨hR.cl,hR.cM,hR.cP,hR.box,⟨m,by omega,hL⟩,hR.top⟩,hl⟩
end
section
variable(w:zw)(c:Nat)(S:Nat->Prop)(mo:Nat)(ks:zY)(b:Nat)(key:zy)(h:Ca w c S mo ks b)
include h
theorem mS:Calls prog 138 #[.pointer (some ⟨c,0,none⟩)] w (bS (ks.length:Int) w):=by
 obtain⟨l,M,P,rfl,hR,hl⟩:=h;exact jx w c l M P mo ks b hR
theorem mT(hs:key.size<=maxLen):Calls prog 136 #[.pointer (some ⟨c,0,none⟩),.string key] w (dq (aw ks key) w):=by
 obtain⟨l,M,P,rfl,hR,hl⟩:=h;exact jy w c l M P mo ks b key hR hs
theorem ix(hs:key.size<=maxLen):Calls prog 139 #[.pointer (some ⟨c,0,none⟩),.string key] w (bs (.bool (aw ks key)) w c S mo (rem ks key) b):=by
 obtain⟨l,M,P,rfl,hR,hl⟩:=h;exact(vD w c l M P mo ks b key hR hs).mono λe w' hp=>hp.post (zr (aI _ _) hl)
theorem iy:Calls prog 142 #[.pointer (some ⟨c,0,none⟩)] w (gZ (ks.headD ⟨#[]⟩) (!ks.isEmpty) w):=by
 obtain⟨l,M,P,rfl,hR,hl⟩:=h;exact vE w c l M P mo ks b hR
theorem kq:Calls prog 134 #[.pointer (some ⟨c,0,none⟩)] w (bs (.tuple #[.string (ks.headD ⟨#[]⟩),.bool (!ks.isEmpty)]) w c S mo ks.tail b):=by
 obtain⟨l,M,P,rfl,hR,hl⟩:=h;exact(pz w c l M P mo ks b hR).mono λe w' hp=>hp.post (by rw[List.length_tail];omega)
theorem kt:Calls prog 137 #[.pointer (some ⟨c,0,none⟩)] w (br ks w):=by
 obtain⟨l,M,P,rfl,hR,hl⟩:=h;exact Cx w c l M P mo ks b hR
end
def jz(mo:Nat)(w:zw)(e:Ending)(w':zw):Prop:=∃c S,e= .returned (.pointer (some ⟨c,0,none⟩))/\Ca w' c S mo [] 0/\(∀k,S k->w.heap.size<=k)/\Below w.heap.size w w'
theorem kr{w w1:zw}{l M P mo:Nat}(HL:fH w1 l M P [] 0)(HB:Below w.heap.size w w1)(hl:w.heap.size<=l)(hM:w.heap.size<=M)(hP:w.heap.size<=P)(hm:mo<=9223372036854775807):
 jz mo w (.returned (.pointer (some ⟨w1.heap.size,0,none⟩))) (w1.alloc (.cells #[.int .i64 (mo:Int),.pointer (some ⟨l,0,none⟩)] 191)):=by
 have h1:=HL.eZ;have hb:=(zo w1.heap.size w1).alloc (zg _) (.cells #[.int .i64 (mo:Int),.pointer (some ⟨l,0,none⟩)] 191);have hs:=HB.size;refine⟨w1.heap.size,ax w1.heap.size l M P,rfl,⟨l,M,P,rfl,⟨by omega,by omega,by omega,heap_alloc_new _ _,⟨0,zg _,HL.below hb⟩,hm⟩,xg _⟩,λk hk=>?_,HB.trans (hb.mono hs)⟩;rcases hk with h|h|h|h <;> omega
theorem vG(w:zw)(z:Int)(hz: -9223372036854775808<=z/\z<=9223372036854775807)(h0:z < 0):
 Calls prog 77 #[.int .i64 z] w (jz 0 w):=by
 have U:=J (mg w);go_enter func77,ntmps77;go_wp2_with fail
 refine U.out.mono ?_;rintro e w1 ⟨l,M,P,rfl,hl,hM,hP,hL,hB⟩;have R:=J (kr (mo:=0) hL hB hl hM hP (by omega));clear hl hM hP hL hB;go_wp2_with fail
 go_ret;exact R.out
theorem vH(w:zw)(n:Nat)(hz:n<=9223372036854775807):
 Calls prog 77 #[.int .i64 (n:Int)] w (jz n w):=by
 have U:=J (mg w);have h0:¬((n:Int) < 0):=by omega
 go_enter func77,ntmps77;go_wp2_with fail
 refine U.out.mono ?_;rintro e w1 ⟨l,M,P,rfl,hl,hM,hP,hL,hB⟩;have R:=J (kr (mo:=n) hL hB hl hM hP (by omega));clear hl hM hP hL hB;go_wp2_with fail
 go_ret;exact R.out
theorem kV(w:zw)(z:Int)(hz: -9223372036854775808<=z/\z<=9223372036854775807):
 Calls prog 77 #[.int .i64 z] w (jz z.toNat w):=by
 by_cases h0:z < 0
 . rw[show z.toNat=0 by omega];exact vG w z hz h0
 . obtain⟨n,rfl⟩:∃n:Nat,z=(n:Int):=⟨z.toNat,by omega⟩;exact vH w n (by omega)
def aT(w:zw)(sb:Nat)(h:Bool)(s:zy)(o:Bool):Prop:=w.heap[sb]?=some (.cells #[.bool h,.string s,.bool o] 49 (0,0))
theorem aT.set{w:zw}{sb:Nat}{h o:Bool}{s:zy}(k:aT w sb h s o)(x:zy):aT ((w.setCell ⟨sb,1,none⟩ (.string x)).setCell ⟨sb,2,none⟩ (.bool true)) sb h x true:=by
 unfold aT at*;have r1:(w.setCell ⟨sb,1,none⟩ (.string x)).heap[sb]?=some (.cells #[.bool h,.string x,.bool o] 49 (0,0)):=by rw[heap_setCell_same _ _ _ _ _ _ k];rfl
 rw[heap_setCell_same _ _ _ _ _ _ r1];rfl
theorem aT.cells{w:zw}{sb:Nat}{h o:Bool}{s:zy}(k:aT w sb h s o):w.cell? ⟨sb,0,none⟩=some (.bool h)/\w.cell? ⟨sb,1,none⟩=some (.string s)/\w.cell? ⟨sb,2,none⟩=some (.bool o)/\w.frozen? ⟨sb,1,none⟩=false/\w.frozen? ⟨sb,2,none⟩=false:=
 ⟨cell_of_row w _ 0 _ _ _ k,cell_of_row w _ 1 _ _ _ k,cell_of_row w _ 2 _ _ _ k,frozen_of_row w _ 1 _ _ k,frozen_of_row w _ 2 _ _ k⟩
theorem aT.lt{w:zw}{sb:Nat}{h o:Bool}{s:zy}(k:aT w sb h s o):sb < w.heap.size:=(Array.getElem?_eq_some_iff.1 k).1
theorem sU(w:zw)(sb:Nat)(h o:Bool)(s x:zy)(k:aT w sb h s o):
 Calls prog 151 #[.string x,.pointer (some ⟨sb,0,none⟩)] w (λe w'=>e= .returned (.tuple #[])/\aT w' sb h x true/\ao (λk=>k=sb) w w'):=by
 obtain⟨k0,k1,k2,f1,f2⟩:=k.cells;have R:=J (k.set x);clear k;go_enter func151,ntmps151;go_wp2_with fail
 go_end0;exact⟨rfl,R.out,((ao.refl (λk=>k=sb) w).setCell (p:=⟨sb,1,none⟩) (xz rfl) _).setCell (p:=⟨sb,2,none⟩) (xz rfl) _⟩
theorem qU(w:zw)(c l M P mo:Nat)(ks:zY)(b n:Nat)(f:Value)(h:Raw w c l M P mo ks b)(hn:ks.length<=n):
 Calls prog 150 #[.pointer (some ⟨c,0,none⟩),.int .i64 (n:Int),f] w (λe w'=>e= .returned (.tuple #[])/\w=w'):=by
 have U:=J (jx w c l M P mo ks b h);have e0:decide (n < ks.length)=false:=by simp;omega
 clear h;go_enter func150,ntmps150;go_wp2_with fail
 go_loopg [] 0 (λk W=>W=w)
 case atStart=>rfl
 case round=>
  obtain rfl:=hrel;go_wp2_with fail
  refine U.out.mono ?_;rintro e w1 ⟨rfl,rfl⟩;go_wp2_with fail
  go_end0;exact⟨rfl,rfl⟩
def mW(w:zw)(c l M P mo:Nat)(x:zy)(ks:zY)(b sb:Nat)(h o:Bool)(s:zy)(k:Nat)(W:zw):Prop:=
 ∃P',(P'=P\/w.heap.size<=P')/\ao (λk=>ax c l M P k\/k=sb) w W/\¬ax c l M P' sb/\((k=1/\Raw W c l M P' mo (x::ks) b/\aT W sb h s o)\/(k=0/\Raw W c l M P' mo ks b/\aT W sb h x true))
theorem mY(w:zw)(c l M P mo:Nat)(x:zy)(ks:zY)(b sb:Nat)(hb o:Bool)(s:zy)(h:Raw w c l M P mo (x::ks) b)(hs:¬ax c l M P sb)(hB:aT w sb hb s o):
 Calls prog 150 #[.pointer (some ⟨c,0,none⟩),.int .i64 (ks.length:Int),.func (.func 151) #[] #[.pointer (some ⟨sb,0,none⟩)]] w (λe w'=>e= .returned (.tuple #[])/\mW w c l M P mo x ks b sb hb o s 0 w'):=by
 have HH:=J h;have HS:=J hs;have HB:=J hB;clear h hs hB;go_enter func150,ntmps150;go_wp2_with fail
 go_loopg [] 1 (λk W=>mW w c l M P mo x ks b sb hb o s k W)
 case atStart=>exact⟨P,xz rfl,ao.refl _ _,HS.out,xz ⟨rfl,HH.out,HB.out⟩⟩
 case round=>
  obtain⟨P',hP,hT,hn,hrel|hrel⟩:=hrel
  . obtain⟨rfl,hR,hB⟩:=hrel;have U1:=jx wr c l M P' mo _ b hR;rw[zv] at U1;have U1:=J U1;have U2:=zs (Calls prog 134 #[.pointer (some ⟨c,0,none⟩)] wr (qF (.tuple #[.string x,.bool true]) wr c l M P' mo ks b)) (pz wr c l M P' mo _ b hR);have H1:=J hP;have H2:=J hT;have H3:=J hn;have H4:=J hB;have H5:=J hR;have hlen:=hR.len;rw[zv] at hlen;have e0:decide (ks.length < ks.length+1)=true:=by simp
    clear hP hT hn hB hR;go_wp2_with fail
    refine U1.out.mono ?_;rintro e wr ⟨rfl,rfl⟩;go_wp2_with fail
    refine U2.out.mono ?_;rintro e w2 ⟨P2,rfl,hP,hR,hT⟩;have T2:ao (ax c l M P') wr w2:=jq hT
    have N2:¬ax c l M P2 sb:=λhk=>by
     rcases dU hP sb hk with h|h
     . exact H3.out h
     . have:=H4.out.lt;omega
    have B2:aT w2 sb hb s o:=(T2.block sb H4.out.lt H3.out).trans H4.out;have H6:=J hP;have H7:=J hR;have H8:=J T2;have H9:=J N2;have U3:=J (sU w2 sb hb o s x B2);clear hP hR hT T2 N2 B2 U1 U2;go_wp2_with fail
    refine U3.out.mono ?_;rintro e w3 ⟨rfl,eh,jH⟩
    have R3:=J (show mW w c l M P mo x ks b sb hb o s 0 w3 by
     have bW:=H2.out.size
     have t12:ao (λk=>ax c l M P k\/k=sb) w w2:=H2.out.trans H8.out (λk hk hS=>by
      rcases dU H1.out k hS with h|h
      . exact xz h
      . omega)
     refine⟨P2,?_,t12.trans jH (λk _ e=>ja e),H9.out,ja ⟨rfl,?_,eh⟩⟩
     . have h1:=H1.out;have h6:=H6.out;rcases h6 with rfl|h6
       . exact h1
       . exact ja (by omega)
     . have hR:=H7.out;have hd:∀k,ax c l M P2 k->w3.heap[k]?=w2.heap[k]?:=λk hk=>jH.block k (by have:=hR.cx;have:=hR.eZ;rcases hk with h|h|h|h <;> omega) (λe=>H9.out (e▸hk))
       exact hR.same jH.size (hd _ (xz rfl)) (hd _ (ja (xz rfl))) (hd _ (ja (ja (xz rfl)))) (hd _ (ja (ja (ja rfl)))))
    clear eh jH;go_wp2_with fail
    go_roundg 0
    case measure=>omega
    case rel=>exact R3.out
  . obtain⟨rfl,hR,hB⟩:=hrel;have U1:=J (jx wr c l M P' mo _ b hR);have R3:=zs (mW w c l M P mo x ks b sb hb o s 0 wr) (⟨P',hP,hT,hn,ja ⟨rfl,hR,hB⟩⟩);have e0:decide (ks.length < ks.length)=false:=by simp
    clear hP hT hn hB hR;go_wp2_with fail
    refine U1.out.mono ?_;rintro e wr ⟨rfl,rfl⟩;go_wp2_with fail
    go_end0;exact⟨rfl,R3.out⟩
end LR
namespace LR
open Go.RowKit Sg
theorem bo{w:zw}{sb:Nat}{h o:Bool}{s:zy}(k:aT w sb h s o):(loadVar 49 ⟨sb,0,none⟩).run prog w= .ok (.agg #[.bool h,.string s,.bool o]) w:=by
 obtain⟨k0,k1,k2,_,_⟩:=k.cells;unfold loadVar;go_simp
theorem aV{fn:Func}{a:Tmp}{ty:TypeId}(h:fn.results= #[.cell a ty])(tmps:Array Value)(P:Program)(w:zw)(p:Addr)(v:Value)(ha:tmps.getD a undef= .pointer (some p))(hv:(loadVar ty p).run P w= .ok v w):
 (results fn tmps).run P w= .ok v w:=by
 rw[qt] at ha;simp[results,h,ha,asAddr,hv]
theorem bc{fn:Func}{a u:Tmp}{ty:TypeId}(h:fn.results= #[.cell a ty,.tmp u])(tmps:Array Value)(P:Program)(w:zw)(p:Addr)(v:Value)(ha:tmps.getD a undef= .pointer (some p))(hv:(loadVar ty p).run P w= .ok v w):
 (results fn tmps).run P w= .ok (.tuple #[v,tmps.getD u undef]) w:=by
 rw[qt] at ha;simp[results,h,ha,asAddr,hv]
theorem aP{fn:Func}{a u:Tmp}{ty tu:TypeId}(h:fn.results= #[.cell a ty,.cell u tu])(tmps:Array Value)(P:Program)(w:zw)(p q:Addr)(v x:Value)(ha:tmps.getD a undef= .pointer (some p))(hv:(loadVar ty p).run P w= .ok v w)
 (hu:tmps.getD u undef= .pointer (some q)) (hx:(loadVar tu q).run P w= .ok x w):(results fn tmps).run P w= .ok (.tuple #[v,x]) w:=by
 rw[qt] at ha hu;simp[results,h,ha,hu,asAddr,hv,hx]
theorem aT.put{w:zw}{sb:Nat}{h o:Bool}{s:zy}(k:aT w sb h s o)(h' o':Bool)(s':zy):aT (((w.setCell ⟨sb,0,none⟩ (.bool h')).setCell ⟨sb,1,none⟩ (.string s')).setCell ⟨sb,2,none⟩ (.bool o')) sb h' s' o':=by
 unfold aT at*;have r1:(w.setCell ⟨sb,0,none⟩ (.bool h')).heap[sb]?=some (.cells #[.bool h',.string s,.bool o] 49 (0,0)):=by rw[heap_setCell_same _ _ _ _ _ _ k];rfl
 have r2:((w.setCell ⟨sb,0,none⟩ (.bool h')).setCell ⟨sb,1,none⟩ (.string s')).heap[sb]?=some (.cells #[.bool h',.string s',.bool o] 49 (0,0)):=by rw[heap_setCell_same _ _ _ _ _ _ r1];rfl
 rw[heap_setCell_same _ _ _ _ _ _ r2];rfl
theorem jA(w:zw)(c l M P:Nat)(ks:zY)(b:Nat)(key:zy)(h:Raw w c l M P 0 ks b)(hl:ks.length<=0):
 Calls prog 140 #[.pointer (some ⟨c,0,none⟩),.string key] w (bs (cS 0 ks key) w c (ax c l M P) 0 (ia 0 ks key) b):=by
 have cx:=h.cx;have c0:=h.c0;have hb:=(zo w.heap.size w).alloc (zg _) (.cells #[.bool false,.string ⟨#[]⟩,.bool false] 49)
 have R:=J (show bs (cS 0 ks key) w c (ax c l M P) 0 (ia 0 ks key) b (.returned (.agg #[.bool false,.string ⟨#[]⟩,.bool false])) (w.alloc (.cells #[.bool false,.string ⟨#[]⟩,.bool false] 49)) by
  refine⟨rfl,_,⟨l,M,P,rfl,?_,by rw[rk];simp⟩,λk hk=>xz hk,ao.cZ hb⟩;rw[rk];obtain rfl:ks= []:=qe (by omega);exact h.below hb)
 have B:=zs (aT (w.alloc (.cells #[.bool false,.string ⟨#[]⟩,.bool false] 49)) w.heap.size false ⟨#[]⟩ false) (heap_alloc_new _ _);clear h hb;go_enter func140,ntmps140;go_wp2_with fail
 refine bodyPost_ret (aV rfl _ _ _ ⟨w.heap.size,0,none⟩ _ rfl (bo B.out)) rfl ?_;exact R.out
abbrev two(w:zw)(h:Bool):zw:=(w.alloc (.cells #[.bool false,.string ⟨#[]⟩,.bool false] 49)).alloc (.cells #[.bool h,.string ⟨#[]⟩,.bool false] 49)
structure bN(w W:zw)(c l M P P' mo:Nat)(ks:zY)(b:Nat)(h o:Bool)(s:zy):Prop where
 raw:Raw W c l M P' mo ks b
 res:aT W w.heap.size false ⟨#[]⟩ false
 step:aT W (w.heap.size+1) h s o
 a8:ao (ax c l M P) w W
 next:P'=P\/w.heap.size+2<=P'
section
variable{w W W':zw}{c l M P P' mo b ME b0:Nat}{ks MF:zY}{h o:Bool}{s:zy}
theorem bN.start(hR:Raw w c l M P mo ks b)(h:Bool):bN w (two w h) c l M P P mo ks b h false ⟨#[]⟩:=by
 have b1:=(zo w.heap.size w).alloc (zg _) (.cells #[.bool false,.string ⟨#[]⟩,.bool false] 49);have s1:(w.alloc (.cells #[.bool false,.string ⟨#[]⟩,.bool false] 49)).heap.size=w.heap.size+1:=by simp
 have b2:=b1.alloc (by omega) (.cells #[.bool h,.string ⟨#[]⟩,.bool false] 49);refine⟨hR.below b2,?_,?_,ao.cZ b2,xz rfl⟩
 . exact(qf _ _ _ (by omega)).trans (heap_alloc_new _ _)
 . have:=heap_alloc_new (w.alloc (.cells #[.bool false,.string ⟨#[]⟩,.bool false] 49)) (.cells #[.bool h,.string ⟨#[]⟩,.bool false] 49);rw[s1] at this;exact this
theorem bN.sep(m:bN w W c l M P P' mo ks b h o s)(hR:Raw w c l M P ME MF b0):¬ax c l M P' w.heap.size/\¬ax c l M P' (w.heap.size+1):=by
 have h1:=hR.cx;have h2:=hR.eZ;have h3:=m.next
 constructor
 . rintro(h|h|h|h) <;> omega
 . rintro(h|h|h|h) <;> omega
theorem bN.last(m:bN w W c l M P P' mo ks b h o s)(hR:Raw w c l M P ME MF b0){key:zy}{e:Ending}{v:Value}{mm:Nat}(hp:cJ v W l M P' (key::rem ks.reverse key) mm e W')(hm:mm<=b+1):
 e= .returned v/\∃P2,bN w W' c l M P P2 mo (rem ks key++ [key]) (b+1) h o s:=by
 obtain⟨P2,he,hP,hL,hT⟩:=hp;have yi:ao (ax c l M P') W W':=jq hT;obtain⟨n1,n2⟩:=m.sep hR;have bW:=m.a8.size;have kT:=m.step.lt;have h1:=hR.cx;have h2:=hR.eZ;have h3:=m.next
 refine⟨he,P2,m.raw.next hP hT hL hm (by rw[ml];simp),(yi.block _ m.res.lt n1).trans m.res,(yi.block _ m.step.lt n2).trans m.step,m.a8.trans yi (λk hk hS=>?_),?_⟩
 . rcases hS with h|h|h|h
   . exact xz h
   . exact ja (xz h)
   . exact ja (ja (xz h))
   . rcases h3 with h3|h3
     . exact ja (ja (ja (h.trans h3)))
     . omega
 . rcases hP with rfl|hP
   . exact h3
   . exact ja (by omega)
theorem bN.out(m:bN w W c l M P P' mo ks b h o s)(hR:Raw w c l M P ME MF b0)(hl:ks.length<=mo):
 aT (((W.setCell ⟨w.heap.size,0,none⟩ (.bool h)).setCell ⟨w.heap.size,1,none⟩ (.string s)).setCell ⟨w.heap.size,2,none⟩ (.bool o)) w.heap.size h s o/\
 bs (.agg #[.bool h,.string s,.bool o]) w c (ax c l M P) mo ks b (.returned (.agg #[.bool h,.string s,.bool o])) (((W.setCell ⟨w.heap.size,0,none⟩ (.bool h)).setCell ⟨w.heap.size,1,none⟩ (.string s)).setCell ⟨w.heap.size,2,none⟩ (.bool o)):=by
 obtain⟨n1,n2⟩:=m.sep hR;refine⟨m.res.put h o s,rfl,_,⟨l,M,P',rfl,?_,hl⟩,dU (by rcases m.next with h|h;exact xz h;exact ja (by omega)),((m.a8.setCell (p:=⟨w.heap.size,0,none⟩) (ja (zg _)) _).setCell (p:=⟨w.heap.size,1,none⟩) (ja (zg _)) _).setCell (p:=⟨w.heap.size,2,none⟩) (ja (zg _)) _⟩
 have q:∀k,ax c l M P' k->(((W.setCell ⟨w.heap.size,0,none⟩ (.bool h)).setCell ⟨w.heap.size,1,none⟩ (.string s)).setCell ⟨w.heap.size,2,none⟩ (.bool o)).heap[k]?=W.heap[k]?:=λk hk=>by
  have al:k≠w.heap.size:=λe=>n1 (e▸hk);rw[qc _ _ _ _ al,qc _ _ _ _ al,qc _ _ _ _ al]
 exact m.raw.same (by simp[World.setCell]) (q _ (xz rfl)) (q _ (ja (xz rfl))) (q _ (ja (ja (xz rfl)))) (q _ (ja (ja (ja rfl))))
end
theorem oL(w:zw)(c l M P mo:Nat)(ks:zY)(b:Nat)(key:zy)(h:Raw w c l M P (mo+1) ks b)(hl:ks.length<=mo+1)(hi:aw ks key=true)(hs:key.size<=maxLen)(hb:b<=980):
 Calls prog 140 #[.pointer (some ⟨c,0,none⟩),.string key] w (bs (.agg #[.bool true,.string ⟨#[]⟩,.bool false]) w c (ax c l M P) (mo+1) (rem ks key++ [key]) (b+1)):=by
 have cx:=h.cx;have c0:=h.c0;have c1:=h.c1;have ht:=h.top;have h1:=(h.below ((zo w.heap.size w).alloc (zg _) (.cells #[.bool false,.string ⟨#[]⟩,.bool false] 49)));have U:=jy _ c l M P _ ks b key h1 hs;rw[hi] at U;have U:=J U;have M0:=J (bN.start h true);have HH:=J h;obtain⟨m,hm,hL⟩:=M0.out.raw.lk;have vQ:=hL.le;have U2:=J (lg _ l M P _ m key hL hs (by omega))
 have HM:=J (show max m ((rem ks.reverse key).length+1)<=b+1 by
  have:=aI ks.reverse key;have:=hL.le;omega)
 have HF:=J (show(rem ks key++ [key]).length<=mo+1 by
  have:=eY h.nodup (aX.1 hi);rw[zh,zv,ql];omega)
 clear h h1 hL vQ hm;go_enter func140,ntmps140;go_wp2_with fail
 refine U.out.mono ?_;rintro e w1 ⟨rfl,rfl⟩;go_wp2_with fail
 refine U2.out.mono ?_;intro e w2 hp;obtain⟨rfl,P2,M2⟩:=M0.out.last HH.out hp HM.out;have F:=J (M2.out HH.out HF.out);obtain⟨k0,k1,k2,f1,f2⟩:=M2.step.cells;obtain⟨r0,r1,r2,g1,g2⟩:=M2.res.cells;have g0:w2.frozen? ⟨w.heap.size,0,none⟩=false:=frozen_of_row w2 _ 0 _ _ M2.res;clear hp M0 U2 M2 HM;go_wp2_with fail
 refine bodyPost_ret (aV rfl _ _ _ ⟨w.heap.size,0,none⟩ _ rfl (bo F.out.1)) rfl ?_;exact F.out.2
theorem sV(w:zw)(c l M P mo:Nat)(ks:zY)(b:Nat)(key:zy)(h:Raw w c l M P (mo+1) ks b)(hl:ks.length<=mo)(hi:aw ks key=false)(hs:key.size<=maxLen)(hb:b<=980):
 Calls prog 140 #[.pointer (some ⟨c,0,none⟩),.string key] w (bs (.agg #[.bool false,.string ⟨#[]⟩,.bool false]) w c (ax c l M P) (mo+1) (rem ks key++ [key]) (b+1)):=by
 have cx:=h.cx;have c0:=h.c0;have c1:=h.c1;have ht:=h.top;have h1:=(h.below ((zo w.heap.size w).alloc (zg _) (.cells #[.bool false,.string ⟨#[]⟩,.bool false] 49)));have U:=jy _ c l M P _ ks b key h1 hs;rw[hi] at U;have U:=J U;have M0:=J (bN.start h false);have HH:=J h;have V:=J (λf=>qU _ c l M P _ ks b mo f M0.out.raw hl);obtain⟨m,hm,hL⟩:=M0.out.raw.lk;have vQ:=hL.le;have U2:=J (lg _ l M P _ m key hL hs (by omega))
 have HM:=J (show max m ((rem ks.reverse key).length+1)<=b+1 by
  have:=aI ks.reverse key;have:=hL.le;omega)
 have HF:=J (show(rem ks key++ [key]).length<=mo+1 by
  have:=aI ks key;rw[zh,zv,ql];omega)
 clear h h1 hL vQ hm;go_enter func140,ntmps140;go_wp2_with fail
 refine U.out.mono ?_;rintro e w1 ⟨rfl,rfl⟩;go_wp2_with fail
 refine(V.out _).mono ?_;rintro e w1 ⟨rfl,rfl⟩;go_wp2_with fail
 refine U2.out.mono ?_;intro e w2 hp;obtain⟨rfl,P2,M2⟩:=M0.out.last HH.out hp HM.out;have F:=J (M2.out HH.out HF.out);obtain⟨k0,k1,k2,f1,f2⟩:=M2.step.cells;obtain⟨r0,r1,r2,g1,g2⟩:=M2.res.cells;have g0:w2.frozen? ⟨w.heap.size,0,none⟩=false:=frozen_of_row w2 _ 0 _ _ M2.res;clear hp M0 U2 M2 HM;go_wp2_with fail
 refine bodyPost_ret (aV rfl _ _ _ ⟨w.heap.size,0,none⟩ _ rfl (bo F.out.1)) rfl ?_;exact F.out.2
theorem bN.cut{w W W':zw}{c l M P P' mo b:Nat}{x:zy}{ks:zY}{h o:Bool}{s:zy}(m:bN w W c l M P P' mo (x::ks) b h o s)(hR:Raw w c l M P mo (x::ks) b)(q:mW W c l M P' mo x ks b (w.heap.size+1) h o s 0 W'):
 ∃P2,bN w W' c l M P P2 mo ks b h true x:=by
 obtain⟨P2,hP,hT,hn,⟨h0,_⟩|⟨_,qG,cQ⟩⟩:=q
 . omega
 obtain⟨n1,n2⟩:=m.sep hR;have bW:=m.a8.size;have kT:=m.step.lt;have h3:=m.next
 refine⟨P2,qG,(hT.block _ m.res.lt (λe=>by rcases e with e|e;exact n1 e;omega)).trans m.res,cQ,m.a8.trans hT (λk hk hS=>?_),?_⟩
 . rcases hS with h|h
   . rcases h with h|h|h|h
     . exact xz h
     . exact ja (xz h)
     . exact ja (ja (xz h))
     . rcases h3 with h3|h3
       . exact ja (ja (ja (h.trans h3)))
       . omega
   . omega
 . rcases hP with rfl|hP
   . exact h3
   . exact ja (by omega)
theorem sW(w:zw)(c l M P:Nat)(x:zy)(ks:zY)(b:Nat)(key:zy)(h:Raw w c l M P (ks.length+1) (x::ks) b)(hi:aw (x::ks) key=false)(hs:key.size<=maxLen)(hb:b<=980):
 Calls prog 140 #[.pointer (some ⟨c,0,none⟩),.string key] w (bs (.agg #[.bool false,.string x,.bool true]) w c (ax c l M P) (ks.length+1) (rem ks key++ [key]) (b+1)):=by
 have cx:=h.cx;have c0:=h.c0;have c1:=h.c1;have ht:=h.top;have h1:=(h.below ((zo w.heap.size w).alloc (zg _) (.cells #[.bool false,.string ⟨#[]⟩,.bool false] 49)));have U:=jy _ c l M P _ _ b key h1 hs;rw[hi] at U;have U:=J U;have M0:=J (bN.start h false);have HH:=J h;have V:=J (mY _ c l M P _ x ks b (w.heap.size+1) _ _ _ M0.out.raw (M0.out.sep h).2 M0.out.step)
 have HF:=J (show(rem ks key++ [key]).length<=ks.length+1 by
  have:=aI ks key;rw[zh,zv,ql];omega)
 clear h h1;go_enter func140,ntmps140;go_wp2_with fail
 refine U.out.mono ?_;rintro e w1 ⟨rfl,rfl⟩;go_wp2_with fail
 refine V.out.mono ?_;rintro e w2 ⟨rfl,hq⟩;obtain⟨P2,M2⟩:=M0.out.cut HH.out hq;have d1:=M2.raw.c1;obtain⟨m,hm,hL⟩:=M2.raw.lk;have vQ:=hL.le;have U2:=J (lg _ l M P2 _ m key hL hs (by omega))
 have HM:=J (show max m ((rem ks.reverse key).length+1)<=b+1 by
  have:=aI ks.reverse key;have:=hL.le;omega)
 have N2:=J M2;clear hq M0 hL vQ hm M2 U V c0 c1;go_wp2_with fail
 refine U2.out.mono ?_;intro e w3 hp;obtain⟨rfl,P3,M3⟩:=N2.out.last HH.out hp HM.out;have F:=J (M3.out HH.out HF.out);obtain⟨k0,k1,k2,f1,f2⟩:=M3.step.cells;obtain⟨r0,r1,r2,g1,g2⟩:=M3.res.cells;have g0:w3.frozen? ⟨w.heap.size,0,none⟩=false:=frozen_of_row w3 _ 0 _ _ M3.res;clear hp N2 U2 M3 HM;go_wp2_with fail
 refine bodyPost_ret (aV rfl _ _ _ ⟨w.heap.size,0,none⟩ _ rfl (bo F.out.1)) rfl ?_;exact F.out.2
theorem gF(w:zw)(c:Nat)(S:Nat->Prop)(mo:Nat)(ks:zY)(b:Nat)(key:zy)(h:Ca w c S mo ks b)(hs:key.size<=maxLen)(hb:b<=980):
 Calls prog 140 #[.pointer (some ⟨c,0,none⟩),.string key] w (bs (cS mo ks key) w c S mo (ia mo ks key) (b+1)):=by
 obtain⟨l,M,P,rfl,hR,hl⟩:=h;have cG:=hR.nodup;cases mo with
 |zero=>
  refine(jA w c l M P ks b key hR hl).mono ?_;rintro e w' ⟨he,S',h1,h2⟩;exact⟨he,S',h1.mono (by omega),h2⟩
 |succ mo=>
  cases hi:aw ks key with
  |true=>
   have e1:cS (mo+1) ks key= .agg #[.bool true,.string ⟨#[]⟩,.bool false]:=by simp[cS,eK,eL,ef,hi]
   rw[e1,y6 cG (aX.1 hi) hl];exact oL w c l M P mo ks b key hR hl hi hs hb
  |false=>
   by_cases hf:ks.length<=mo
   . have e1:cS (mo+1) ks key= .agg #[.bool false,.string ⟨#[]⟩,.bool false]:=by
      have:¬(mo+1<=ks.length):=by omega
      simp[cS,eK,eL,ef,hi,this]
     rw[e1,wK (by omega)];exact sV w c l M P mo ks b key hR hf hi hs hb
   . cases ks with
     |nil=>simp at hf
     |cons x ks=>
      obtain rfl:mo=ks.length:=by rw[zv] at hf hl;omega
      have e1:cS (ks.length+1) (x::ks) key= .agg #[.bool false,.string x,.bool true]:=by simp[cS,eK,eL,ef,hi]
      rw[e1,wL (mo:=ks.length+1) (bz.1 hi) rfl];exact sW w c l M P x ks b key hR hi hs hb
end LR
namespace LR
open Go.RowKit Sg
theorem jm{w:zw}{base:Nat}{v:Value}{xs:zY}(h:Own w base v xs)(x:zy)(hx:x.size<=maxLen)(hl:xs.length<=1999)(hb:base<=w.heap.size):
 ∃(A:Option Addr) (cap:Nat) (w2:zw),(Builtin.append_ #[30,30] 30 #[v,.slice (some ⟨w.heap.size,0,none⟩) 1 1]).run prog (w.alloc (.cells #[.string x] 9))= .ok (.slice A (xs.length+1) cap) w2/\
  Own w2 base (.slice A (xs.length+1) cap) (xs++ [x])/\w.grownBy w2 v.ownBlock/\(∀g,(Value.slice A (xs.length+1) cap).ownBlock=some g->v.ownBlock=some g\/w.heap.size<=g):=by
 obtain⟨i0,hi,fL,fC,fx⟩:=info_parts kx
 obtain⟨v',w2,aB,bC,hg,ko,bw⟩:=run_append_own_at (P:=prog) (w.alloc (.cells #[.string x] 9)) base 30 30 9 i0 _ 1 16
  underlying30 hi fL fC fx rfl (by decide) _ _ _ (h.1.alloc _) ⟨w.heap.size,0,none⟩ 1 1 [.string x] rfl (cell_one_new _ _ _) (by simp[Value.oneCell']) (by unfold maxLen;omega) (by omega) (by simp;omega)
 have iO:=bC;rcases bC.2 with⟨_,h0⟩|⟨g,cap,cur,rfl,_⟩
 . omega
 refine⟨_,cap,w2,aB,⟨?_,by rw[zh];simp only[zv,ql];omega,λy hy=>?_⟩,(World.grownBy_alloc w _ _).trans hg,λg' dB=>?_⟩
 . rw[xc,zh];exact iO
 . rcases List.mem_append.1 hy with h1|h1
   . exact h.2.2 y h1
   . rw[List.mem_singleton.1 h1];exact hx
 . rcases bw with h1|h1
   . exact xz (h1▸dB)
   . rw[h1] at dB;injection dB with dB
     rw[show(w.alloc (.cells #[.string x] 9)).heap.size=w.heap.size+1 by simp] at dB;exact ja (by omega)
def bJ(w:zw)(gb:Nat)(v:Value):Prop:=w.heap[gb]?=some (.cells #[v] 30 (0,0))
theorem bJ.lt{w:zw}{gb:Nat}{v:Value}(k:bJ w gb v):gb < w.heap.size:=(Array.getElem?_eq_some_iff.1 k).1
theorem bJ.put{w:zw}{gb:Nat}{v:Value}(k:bJ w gb v)(u:Value):bJ (w.setCell ⟨gb,0,none⟩ u) gb u:=by
 unfold bJ at*;rw[heap_setCell_same _ _ _ _ _ _ k];rfl
theorem sX(w:zw)(gb base:Nat)(v:Value)(ts:zY)(x:zy)(k:bJ w gb v)(o:Own w base v ts)(hl:ts.length<=1999)(hx:x.size<=maxLen)(hb:base<=w.heap.size)(al:v.ownBlock≠some gb):
 Calls prog 152 #[.string x,.pointer (some ⟨gb,0,none⟩)] w (λe w'=>e= .returned (.tuple #[])/\∃v',bJ w' gb v'/\Own w' base v' (ts++ [x])/\(∀g,v'.ownBlock=some g->v.ownBlock=some g\/w.heap.size<=g)/\ao (λk=>k=gb\/v.ownBlock=some k) w w'):=by
 obtain⟨A2,cap,w2,aB,aS,hg,bw⟩:=jm o x hx hl hb;obtain⟨A1,c1,rfl⟩:=o.len;have yv:=k.lt;have k1:w.cell? ⟨gb,0,none⟩=some (.slice A1 ts.length c1):=cell_of_row w _ 0 _ _ _ k;have k2:bJ w2 gb (.slice A1 ts.length c1):=(hg.block gb yv (λe=>al e.symm)).trans k;have k3:w2.cell? ⟨gb,0,none⟩=some (.slice A1 ts.length c1):=cell_of_row w2 _ 0 _ _ _ k2;have k4:w2.frozen? ⟨gb,0,none⟩=false:=frozen_of_row w2 _ 0 _ _ k2;have df:=J aB
 have R:=J (show ∃v',bJ (w2.setCell ⟨gb,0,none⟩ (.slice A2 (ts.length+1) cap)) gb v'/\Own (w2.setCell ⟨gb,0,none⟩ (.slice A2 (ts.length+1) cap)) base v' (ts++ [x])/\(∀g,v'.ownBlock=some g->(Value.slice A1 ts.length c1).ownBlock=some g\/w.heap.size<=g)/\ao (λk=>k=gb\/(Value.slice A1 ts.length c1).ownBlock=some k) w (w2.setCell ⟨gb,0,none⟩ (.slice A2 (ts.length+1) cap)) by
  refine⟨_,k2.put _,aS.same (λg dB=>?_),bw,?_⟩
  . refine qc _ _ _ _ (λe=>?_);have e:g=gb:=e;subst e;rcases bw g dB with h|h
    . exact al h
    . omega
  . have t1:ao (λk=>k=gb\/(Value.slice A1 ts.length c1).ownBlock=some k) w w2:=⟨hg.os,hg.tape,hg.output,hg.size,λi hi h1=>hg.block i hi (λe=>h1 (ja e.symm))⟩;exact t1.setCell (p:=⟨gb,0,none⟩) (xz (xz rfl)) _)
 clear aB aS hg bw k k2 o al;go_enter func152,ntmps152;go_wp2_with(at_builtin;refine aq rfl _ _ _ rfl _ _ _ _ rfl rfl df.out ?_)
 go_end0;exact⟨rfl,R.out⟩
structure ur(w:zw)(c l M P mo:Nat)(ks:zY)(b gb base n k:Nat)(W:zw)(P' j:Nat)(v:Value):Prop where
 CQ:P'=P\/w.heap.size<=P'
 a8:ao (λk=>ax c l M P k\/k=gb) w W
 DY:¬ax c l M P' gb
 vn:∀g,v.ownBlock=some g->¬ax c l M P' g/\g≠gb/\w.heap.size<=g
 yw:j+k=ks.length - n
 raw:Raw W c l M P' mo (ks.drop j) b
 box:bJ W gb v
 own:Own W base v (ks.take j)
def pB(w:zw)(c l M P mo:Nat)(ks:zY)(b gb base n k:Nat)(W:zw):Prop:=∃P' j v,ur w c l M P mo ks b gb base n k W P' j v
theorem jL{ks:zY}{j:Nat}(h:j < ks.length):ks.drop j=ks.getD j ⟨#[]⟩::ks.drop (j+1):=by
 rw[List.drop_eq_getElem_cons h,zt,zm h];rfl
theorem ur.next{w:zw}{c l M P mo:Nat}{ks:zY}{b gb base n k:Nat}{W W1 W2:zw}{P' P2 j:Nat}{v v':Value}(r:ur w c l M P mo ks b gb base n (k+1) W P' j v)
 (hP:P2=P'\/W.heap.size<=P2) (hT:ao (ax c l M P') W W1) (hR:Raw W1 c l M P2 mo (ks.drop (j+1)) b)
 (g1:bJ W2 gb v') (g2:Own W2 base v' (ks.take j++ [ks.getD j ⟨#[]⟩])) (g3:∀g,v'.ownBlock=some g->v.ownBlock=some g\/W1.heap.size<=g) (g4:ao (λk=>k=gb\/v.ownBlock=some k) W1 W2) (hj:j < ks.length):
 ur w c l M P mo ks b gb base n k W2 P2 (j+1) v':=by
 have s1:=r.a8.size;have s2:=hT.size;have s3:=g4.size
 have n2:¬ax c l M P2 gb:=λhk=>by
  rcases dU hP gb hk with h|h
  . exact r.DY h
  . have:=r.box.lt;omega
 have aQ:∀k,ax c l M P2 k->k < W1.heap.size:=λk hk=>by
  have h1:=hR.cx;have h2:=hR.eZ;rcases hk with h|h|h|h <;> omega
 have LX:∀g,v.ownBlock=some g->g < W.heap.size:=λg hg=>(r.own.lt hg).1
 have nv:∀g,v.ownBlock=some g->¬ax c l M P2 g:=λg hg hk=>by
  rcases dU hP g hk with h|h
  . exact(r.vn g hg).1 h
  . have:=LX g hg;omega
 refine⟨?_,?_,n2,λg hg=>?_,by have:=r.yw;omega,?_,g1,?_⟩
 . rcases hP with rfl|hP
   . exact r.CQ
   . exact ja (by omega)
 . have t1:=r.a8.trans hT (λk hk hS=>by
    rcases dU r.CQ k hS with h|h
    . exact xz h
    . omega)
   refine t1.trans g4 (λk hk hS=>?_);rcases hS with h|h
   . exact ja h
   . have:=(r.vn k h).2.2;omega
 . rcases g3 g hg with h|h
   . exact⟨nv g h,(r.vn g h).2⟩
   . refine⟨λhk=>?_,λe=>?_,by omega⟩
     . have:=aQ g hk;omega
     . have:=r.box.lt;omega
 . have q:∀k,ax c l M P2 k->W2.heap[k]?=W1.heap[k]?:=λk hk=>g4.block k (aQ k hk) (λe=>by
    rcases e with e|e
    . exact n2 (e▸hk)
    . exact nv k e hk)
   exact hR.same s3 (q _ (xz rfl)) (q _ (ja (xz rfl))) (q _ (ja (ja (xz rfl)))) (q _ (ja (ja (ja rfl))))
 . rw[dP ks j ⟨#[]⟩ hj];exact g2
theorem yx(w:zw)(c l M P mo:Nat)(ks:zY)(b gb base n:Nat)(h:Raw w c l M P mo ks b)(hs:¬ax c l M P gb)(hB:bJ w gb (.slice none 0 0))(hb:base<=w.heap.size):
 Calls prog 150 #[.pointer (some ⟨c,0,none⟩),.int .i64 (n:Int),.func (.func 152) #[] #[.pointer (some ⟨gb,0,none⟩)]] w (λe w'=>e= .returned (.tuple #[])/\pB w c l M P mo ks b gb base n 0 w'):=by
 have R0:=zs (pB w c l M P mo ks b gb base n (ks.length - n) w) (⟨P,0,_,xz rfl,ao.refl _ _,hs,λg hg=>(by cases hg),by omega,h,hB,Own.nil _ _⟩);have fD:=h.len;have HS:=J h.small;clear h hs hB;go_enter func150,ntmps150;go_wp2_with fail
 go_loopg [] (ks.length - n) (λk W=>pB w c l M P mo ks b gb base n k W)
 case atStart=>exact R0.out
 case round=>
  obtain⟨P',j,v,r⟩:=hrel;have yz:=r.yw;have RR:=J r;have U1:=jx wr c l M P' mo _ b r.raw;rw[xm] at U1;obtain⟨q,hq⟩:=zx (ks.length - j);rw[← hq] at U1;have U1:=J U1;have HQ:=J hq;cases gk with
  |zero=>
   have e0:decide (n < q)=false:=by simp;omega
   clear r yz R0 hq;go_wp2_with fail
   refine U1.out.mono ?_;rintro e wr ⟨rfl,rfl⟩;go_wp2_with fail
   go_end0;exact⟨rfl,P',j,v,RR.out⟩
  |succ gk=>
   have e0:decide (n < q)=true:=by simp;omega
   have hj:j < ks.length:=by omega
   have U2:=pz wr c l M P' mo _ b r.raw;rw[jL hj] at U2;simp only[List.headD_cons,List.isEmpty_cons,Bool.not_false,List.tail_cons] at U2;have U2:=J U2;have ob:=HS.out (ks.getD j ⟨#[]⟩) (by rw[zt,zm hj];exact qy hj);obtain⟨x,hx⟩:=zx (ks.getD j ⟨#[]⟩);rw[← hx] at U2 ob;have HX:=J hx;clear r yz R0 hx hq;go_wp2_with fail
   refine U1.out.mono ?_;rintro e wr ⟨rfl,rfl⟩;go_wp2_with fail
   refine U2.out.mono ?_;rintro e w2 ⟨P2,rfl,hP,hR,hT⟩;have T2:ao (ax c l M P') wr w2:=jq hT;have r:=RR.out;have s2:=T2.size;have s1:=r.a8.size;have b2:bJ w2 gb v:=(T2.block gb r.box.lt r.DY).trans r.box;have o2:Own w2 base v (ks.take j):=r.own.same (λg hg=>T2.block g (r.own.lt hg).1 (r.vn g hg).1);have U3:=J (sX w2 gb base v _ x b2 o2 (by rw[qh];omega) ob (by omega) (λe=>(r.vn gb e).2.1 rfl));have H1:=J hP;have H2:=J hR;have H3:=J T2;clear hP hR hT T2 b2 o2 r U1 U2;go_wp2_with fail
   refine U3.out.mono ?_;rintro e w3 ⟨rfl,v',g1,g2,g3,g4⟩;rw[HX.out] at g2;have R3:=J (RR.out.next H1.out H3.out H2.out g1 g2 g3 g4 hj);clear g1 g2 g3 g4 U3;go_wp2_with fail
   go_roundg gk
   case measure=>omega
   case rel=>exact⟨P2,j+1,v',R3.out⟩
end LR
namespace LR
open Go.RowKit Sg
def eM(w:zw)(c:Nat)(S:Nat->Prop)(n:Nat)(ks:zY)(b:Nat)(e:Ending)(w':zw):Prop:=
 ∃v S',e= .returned v/\Own w' w.heap.size v (ks.take (ks.length - n))/\Ca w' c S' n (gi n ks) b/\(∀k,S' k->S k\/w.heap.size<=k)/\ao S w w'/\(∀g,v.ownBlock=some g->¬S' g)
theorem kW{w:zw}{c l M P mo:Nat}{ks:zY}{b:Nat}(h:Raw w c l M P mo ks b)(n:Nat)(hn:n<=9223372036854775807):
 Raw ((w.setCell ⟨c,0,none⟩ (.int .i64 (n:Int))).alloc (.cells #[.slice none 0 0] 30)) c l M P n ks b/\¬ax c l M P w.heap.size/\bJ ((w.setCell ⟨c,0,none⟩ (.int .i64 (n:Int))).alloc (.cells #[.slice none 0 0] 30)) w.heap.size (.slice none 0 0):=by
 have h1:=h.cx;have h2:=h.eZ;have bW:(w.setCell ⟨c,0,none⟩ (.int .i64 (n:Int))).heap.size=w.heap.size:=by simp[World.setCell]
 have r1:Raw (w.setCell ⟨c,0,none⟩ (.int .i64 (n:Int))) c l M P n ks b:=by
  obtain⟨m,hm,hL⟩:=h.lk;have q:∀k,k≠c->(w.setCell ⟨c,0,none⟩ (.int .i64 (n:Int))).heap[k]?=w.heap[k]?:=λk hk=>qc _ _ _ _ hk
  refine⟨h.cl,h.cM,h.cP,?_,⟨m,hm,hL.same (by omega) (q _ (qa h.cl)) (q _ (qa h.cM)) (q _ (qa h.cP))⟩,hn⟩;rw[heap_setCell_same _ _ _ _ _ _ h.box];rfl
 refine⟨r1.below ((zo _ _).alloc (zg _) _),?_,?_⟩
 . rintro(h|h|h|h) <;> omega
 . have:=heap_alloc_new (w.setCell ⟨c,0,none⟩ (.int .i64 (n:Int))) (.cells #[.slice none 0 0] 30);rw[bW] at this;exact this
theorem iP{w w2:zw}{c l M P mo:Nat}{ks:zY}{b n:Nat}(_h:Raw w c l M P mo ks b)(r:pB ((w.setCell ⟨c,0,none⟩ (.int .i64 (n:Int))).alloc (.cells #[.slice none 0 0] 30)) c l M P n ks b w.heap.size w.heap.size n 0 w2):
 ∃A m cp,bJ w2 w.heap.size (.slice A m cp)/\eM w c (ax c l M P) n ks b (.returned (.slice A m cp)) w2:=by
 obtain⟨P',j,v,r⟩:=r;have bW:((w.setCell ⟨c,0,none⟩ (.int .i64 (n:Int))).alloc (.cells #[.slice none 0 0] 30)).heap.size=w.heap.size+1:=by simp[World.setCell]
 have hj:=r.yw;obtain rfl:j=ks.length - n:=by omega
 have aS:=r.own;obtain⟨A,cp,rfl⟩:=aS.len;refine⟨A,_,cp,r.box,_,ax c l M P',rfl,aS,⟨l,M,P',rfl,r.raw,?_⟩,?_,?_,λg hg=>(r.vn g hg).1⟩
 . rw[wJ];omega
 . refine dU ?_;rcases r.CQ with h|h
   . exact xz h
   . exact ja (by omega)
 . have t0:ao (ax c l M P) w ((w.setCell ⟨c,0,none⟩ (.int .i64 (n:Int))).alloc (.cells #[.slice none 0 0] 30)):=((ao.refl _ _).setCell (p:=⟨c,0,none⟩) (xz (xz rfl)) _).alloc _
   exact t0.trans r.a8 (λk hk hS=>by
    rcases hS with h|h
    . exact h
    . omega)
theorem vI(w:zw)(c l M P mo:Nat)(ks:zY)(b:Nat)(z:Int)(Q4: -9223372036854775808<=z)(h0:z < 0)(h:Raw w c l M P mo ks b):
 Calls prog 141 #[.pointer (some ⟨c,0,none⟩),.int .i64 z] w (eM w c (ax c l M P) 0 ks b):=by
 have c0:=h.c0;have f0:=h.f0;have cx:=h.cx;have HH:=J h;obtain⟨r1,r2,r3⟩:=kW h 0 (by omega);have c1:=r1.c0;have U:=J (yx _ c l M P 0 ks b w.heap.size w.heap.size 0 r1 r2 r3 (by simp[World.setCell]));clear h r1 r2 r3;go_enter func141,ntmps141;go_wp2_with fail
 refine U.out.mono ?_;rintro e w2 ⟨rfl,hr⟩;obtain⟨A,m,cp,hg,hp⟩:=iP HH.out hr;have k1:w2.cell? ⟨w.heap.size,0,none⟩=some (.slice A m cp):=cell_of_row w2 _ 0 _ _ _ hg;have HP:=J hp;clear hr hg hp;go_wp2_with fail
 go_ret;exact HP.out
theorem vJ(w:zw)(c l M P mo:Nat)(ks:zY)(b:Nat)(n:Nat)(hz:n<=9223372036854775807)(h:Raw w c l M P mo ks b):
 Calls prog 141 #[.pointer (some ⟨c,0,none⟩),.int .i64 (n:Int)] w (eM w c (ax c l M P) n ks b):=by
 have c0:=h.c0;have f0:=h.f0;have cx:=h.cx;have h0:¬((n:Int) < 0):=by omega
 have HH:=J h;obtain⟨r1,r2,r3⟩:=kW h n hz;have c1:=r1.c0;have U:=J (yx _ c l M P n ks b w.heap.size w.heap.size n r1 r2 r3 (by simp[World.setCell]));clear h r1 r2 r3;go_enter func141,ntmps141;go_wp2_with fail
 refine U.out.mono ?_;rintro e w2 ⟨rfl,hr⟩;obtain⟨A,m,cp,hg,hp⟩:=iP HH.out hr;have k1:w2.cell? ⟨w.heap.size,0,none⟩=some (.slice A m cp):=cell_of_row w2 _ 0 _ _ _ hg;have HP:=J hp;clear hr hg hp;go_wp2_with fail
 go_ret;exact HP.out
theorem iA(w:zw)(c:Nat)(S:Nat->Prop)(mo:Nat)(ks:zY)(b:Nat)(z:Int)(hz: -9223372036854775808<=z/\z<=9223372036854775807)(h:Ca w c S mo ks b):
 Calls prog 141 #[.pointer (some ⟨c,0,none⟩),.int .i64 z] w (eM w c S z.toNat ks b):=by
 obtain⟨l,M,P,rfl,hR,hl⟩:=h
 by_cases h0:z < 0
 . rw[show z.toNat=0 by omega];exact vI w c l M P mo ks b z hz.1 h0 hR
 . obtain⟨n,rfl⟩:∃n:Nat,z=(n:Int):=⟨z.toNat,by omega⟩;exact vJ w c l M P mo ks b n (by omega) hR
def bD(mo:Nat)(ks:zY)(k:zy):Bool:=!aw ks k&&decide (ks.length < mo)
def ll(mo:Nat)(ks:zY)(k:zy):zY:=if bD mo ks k=true then rem ks k++ [k] else ks
theorem iF{w:zw}{c l M P mo:Nat}{ks:zY}{b:Nat}(h:Raw w c l M P mo ks b)(n:Nat):Raw (w.drewN n) c l M P mo ks b:=h.below ⟨rfl,rfl,rfl,zg _,λ_ _=>rfl⟩
theorem jB(w:zw)(c l M P mo:Nat)(ks:zY)(b:Nat)(key:zy)(h:Raw w c l M P mo ks b)(hl:ks.length<=mo)(hi:aw ks key=true)(hs:key.size<=maxLen):
 Calls prog 133 #[.pointer (some ⟨c,0,none⟩),.string key] w (bs (.bool false) w c (ax c l M P) mo ks b):=by
 have c0:=h.c0;have cx:=h.cx
 have U:=J (show ∀m,Calls prog 136 #[.pointer (some ⟨c,0,none⟩),.string key] (w.drewN m) (λe w'=>e= .returned (.bool true)/\w'=w.drewN m) from λm=>by
  have:=jy (w.drewN m) c l M P mo ks b key (iF h m) hs;rw[hi] at this;exact this.mono λ_ _ h=>⟨h.1,h.2.symm⟩)
 have HH:=J h;have HL:=J hl;clear h hl hi;go_enter func133,ntmps133;go_wp2_with fail
 go_quiet((go_at_call 136;exact Calls.quiet_of_same (U.out _)))
 go_wp2_with fail
 go_ret;exact⟨rfl,_,⟨l,M,P,rfl,iF HH.out _,HL.out⟩,λk hk=>xz hk,ao.cZ ⟨rfl,rfl,rfl,zg _,λ_ _=>rfl⟩⟩
theorem gG(w:zw)(c l M P mo:Nat)(ks:zY)(b:Nat)(key:zy)(h:Raw w c l M P mo ks b)(hl:ks.length<=mo)(hi:aw ks key=false)(hf:mo<=ks.length)(hs:key.size<=maxLen):
 Calls prog 133 #[.pointer (some ⟨c,0,none⟩),.string key] w (bs (.bool false) w c (ax c l M P) mo ks b):=by
 have c0:=h.c0;have cx:=h.cx;have e0:decide (mo<=ks.length)=true:=by simpa using hf
 have U:=J (show ∀m,Calls prog 136 #[.pointer (some ⟨c,0,none⟩),.string key] (w.drewN m) (λe w'=>e= .returned (.bool false)/\w'=w.drewN m) from λm=>by
  have:=jy (w.drewN m) c l M P mo ks b key (iF h m) hs;rw[hi] at this;exact this.mono λ_ _ h=>⟨h.1,h.2.symm⟩)
 have U2:=J (show ∀m,Calls prog 138 #[.pointer (some ⟨c,0,none⟩)] (w.drewN m) (λe w'=>e= .returned (.int .i64 (ks.length:Int))/\w'=w.drewN m) from λm=>
  (jx (w.drewN m) c l M P mo ks b (iF h m)).mono λ_ _ h=>⟨h.1,h.2.symm⟩)
 have HH:=J h;have HL:=J hl;clear h hl hi hf;go_enter func133,ntmps133;go_wp2_with fail
 go_quiet(first
  |(go_at_call 136;exact Calls.quiet_of_same (U.out _))
  |(go_at_call 138;exact Calls.quiet_of_same (U2.out _)))
 go_wp2_with fail
 go_ret;exact⟨rfl,_,⟨l,M,P,rfl,iF HH.out _,HL.out⟩,λk hk=>xz hk,ao.cZ ⟨rfl,rfl,rfl,zg _,λ_ _=>rfl⟩⟩
theorem gH(w:zw)(c l M P mo:Nat)(ks:zY)(b:Nat)(key:zy)(h:Raw w c l M P mo ks b)(hi:aw ks key=false)(hf:ks.length < mo)(hs:key.size<=maxLen)(hb:b<=980):
 Calls prog 133 #[.pointer (some ⟨c,0,none⟩),.string key] w (bs (.bool true) w c (ax c l M P) mo (rem ks key++ [key]) (b+1)):=by
 have c0:=h.c0;have cx:=h.cx;have e0:decide (mo<=ks.length)=false:=by simpa using hf
 have U:=J (show ∀m,Calls prog 136 #[.pointer (some ⟨c,0,none⟩),.string key] (w.drewN m) (λe w'=>e= .returned (.bool false)/\w'=w.drewN m) from λm=>by
  have:=jy (w.drewN m) c l M P mo ks b key (iF h m) hs;rw[hi] at this;exact this.mono λ_ _ h=>⟨h.1,h.2.symm⟩)
 have U2:=J (show ∀m,Calls prog 138 #[.pointer (some ⟨c,0,none⟩)] (w.drewN m) (λe w'=>e= .returned (.int .i64 (ks.length:Int))/\w'=w.drewN m) from λm=>
  (jx (w.drewN m) c l M P mo ks b (iF h m)).mono λ_ _ h=>⟨h.1,h.2.symm⟩)
 have c1:=h.c1;obtain⟨m,hm,hL⟩:=h.lk;have vQ:=hL.le;have TJ:=J hL
 have HM:=J (show max m ((rem ks.reverse key).length+1)<=b+1 by
  have:=aI ks.reverse key;have:=hL.le;omega)
 have HH:=J h;have HF:=J hf;clear h hi hf hL;go_enter func133,ntmps133;go_wp2_with fail
 go_quiet(first
  |(go_at_call 136;exact Calls.quiet_of_same (U.out _))
  |(go_at_call 138;exact Calls.quiet_of_same (U2.out _)))
 go_wp2_with fail
 refine(lg (w.drewN _) l M P _ m key (TJ.out.below ⟨rfl,rfl,rfl,zg _,λ_ _=>rfl⟩) hs (by omega)).mono ?_;rintro e w2 ⟨P2,rfl,hP,hL,hT⟩;have R:=J ((iF HH.out _).next (ks':=rem ks key++ [key]) hP hT hL HM.out (by rw[ml];simp));have HP:=J hP;have HT:=J hT;clear hP hL hT;go_wp2_with fail
 go_ret;refine⟨rfl,_,⟨l,M,P2,rfl,R.out,?_⟩,dU HP.out,(ao.cZ (S:=ax c l M P) (w:=w) (w1:=w.drewN _) ⟨rfl,rfl,rfl,zg _,λ_ _=>rfl⟩).trans (jq (c:=c) HT.out) (λ_ _ h=>h)⟩;have:=HF.out;have:=aI ks key;rw[zh,zv,ql];omega
theorem jC(w:zw)(c:Nat)(S:Nat->Prop)(mo:Nat)(ks:zY)(b:Nat)(key:zy)(h:Ca w c S mo ks b)(hs:key.size<=maxLen)(hb:b<=980):
 Calls prog 133 #[.pointer (some ⟨c,0,none⟩),.string key] w (bs (.bool (bD mo ks key)) w c S mo (ll mo ks key) (b+1)):=by
 obtain⟨l,M,P,rfl,hR,hl⟩:=h;cases hi:aw ks key with
 |true=>
  have e1:bD mo ks key=false:=by simp[bD,hi]
  have e2:ll mo ks key=ks:=by unfold ll;rw[e1];rfl
  rw[e1,e2];refine(jB w c l M P mo ks b key hR hl hi hs).mono ?_;rintro e w' ⟨he,S',h1,h2⟩;exact⟨he,S',h1.mono (by omega),h2⟩
 |false=>
  by_cases hf:ks.length < mo
  . have e1:bD mo ks key=true:=by simp[bD,hi,hf]
    have e2:ll mo ks key=rem ks key++ [key]:=by unfold ll;rw[e1];rfl
    rw[e1,e2];exact gH w c l M P mo ks b key hR hi hf hs hb
  . have e1:bD mo ks key=false:=by simp[bD,hi,hf]
    have e2:ll mo ks key=ks:=by unfold ll;rw[e1];rfl
    rw[e1,e2];refine(gG w c l M P mo ks b key hR hl hi (by omega) hs).mono ?_;rintro e w' ⟨he,S',h1,h2⟩;exact⟨he,S',h1.mono (by omega),h2⟩
end LR
namespace LR
open Go.RowKit Sg
section
variable{w0 w w':zw}{c mo mo' b b':Nat}{S S':Nat->Prop}{ks ks' xs:zY}{r v:Value}{e:Ending}
end
section
variable(w:zw)(a b a' b':Bool)(s t:zy)
end
end LR
namespace LR
open Go.RowKit Sg
theorem aT.dR{W:zw}{z:Nat}{h o:Bool}{s:zy}(k:aT W z h s o):W.cell? ⟨z,0,none⟩=some (.bool h)/\W.cell? ⟨z,1,none⟩=some (.string s)/\W.cell? ⟨z,2,none⟩=some (.bool o)/\W.frozen? ⟨z,0,none⟩=false/\W.frozen? ⟨z,1,none⟩=false/\W.frozen? ⟨z,2,none⟩=false:=
 ⟨k.cells.1,k.cells.2.1,k.cells.2.2.1,frozen_of_row W _ 0 _ _ k,k.cells.2.2.2.1,k.cells.2.2.2.2⟩
end LR
namespace LR
open Go.RowKit Sg
def bh(w:zw)(p mo:Nat)(v:Value):Prop:=w.heap[p]?=some (.cells #[.int .i64 (mo:Int),v] 32 (0,0))
section
variable{w w':zw}{p mo:Nat}{v:Value}
theorem bh.lt(k:bh w p mo v):p < w.heap.size:=(Array.getElem?_eq_some_iff.1 k).1
theorem bh.four(k:bh w p mo v):w.cell? ⟨p,0,none⟩=some (.int .i64 (mo:Int))/\w.cell? ⟨p,1,none⟩=some v/\w.frozen? ⟨p,0,none⟩=false/\w.frozen? ⟨p,1,none⟩=false:=
 ⟨cell_of_row w _ 0 _ _ _ k,cell_of_row w _ 1 _ _ _ k,frozen_of_row w _ 0 _ _ k,frozen_of_row w _ 1 _ _ k⟩
theorem bh.below(k:bh w p mo v)(hb:Below w.heap.size w w'):bh w' p mo v:=(hb.block p k.lt).trans k
theorem bh.other(k:bh w p mo v){q:Addr}(hq:p≠q.block)(u:Value):bh (w.setCell q u) p mo v:=(qc _ _ _ _ hq).trans k
theorem bh.fE(k:bh w p mo v)(u:Value):bh (w.setCell ⟨p,1,none⟩ u) p mo u:=by
 unfold bh at*;rw[heap_setCell_same _ _ _ _ _ _ k];rfl
theorem bh.eV(k:bh w p mo v)(m:Nat):bh (w.setCell ⟨p,0,none⟩ (.int .i64 (m:Int))) p m v:=by
 unfold bh at*;rw[heap_setCell_same _ _ _ _ _ _ k];rfl
theorem bh.put(k:bh w p mo v)(m:Nat)(u:Value):bh ((w.setCell ⟨p,0,none⟩ (.int .i64 (m:Int))).setCell ⟨p,1,none⟩ u) p m u:=(k.eV m).fE u
theorem bh.drew(k:bh w p mo v):bh w.drew p mo v:=k
theorem aT.other{sb:Nat}{h o:Bool}{s:zy}(k:aT w sb h s o){q:Addr}(hq:sb≠q.block)(u:Value):aT (w.setCell q u) sb h s o:=(qc _ _ _ _ hq).trans k
theorem aT.drew{sb:Nat}{h o:Bool}{s:zy}(k:aT w sb h s o):aT w.drew sb h s o:=k
theorem aT.az{sb:Nat}{h o:Bool}{s:zy}(k:aT w sb h s o)(hb:Below w.heap.size w w'):aT w' sb h s o:=(hb.block sb k.lt).trans k
theorem aT.Gg{sb:Nat}{h o:Bool}{s:zy}(k:aT w sb h s o)(h':Bool):aT (w.setCell ⟨sb,0,none⟩ (.bool h')) sb h' s o:=by
 unfold aT at*;rw[heap_setCell_same _ _ _ _ _ _ k];rfl
end
theorem cY{w:zw}{p mo n c:Nat}{A:Option Addr}(k:bh w p mo (.slice A n c)):(loadVar 32 ⟨p,0,none⟩).run prog w= .ok (.agg #[.int .i64 (mo:Int),.slice A n c]) w:=by
 obtain⟨k0,k1,_,_⟩:=k.four;unfold loadVar;go_simp
def pC(mo:Nat)(w:zw)(e:Ending)(w':zw):Prop:=e= .returned (.agg #[.int .i64 (mo:Int),.slice none 0 0])/\Below w.heap.size w w'
theorem nj(w:zw)(n:Nat)(hz:n<=9223372036854775807):Calls prog 45 #[.int .i64 (n:Int)] w (pC n w):=by
 have k:=heap_alloc_new w (.cells #[.int .i64 (n:Int),.slice none 0 0] 32);have h0:¬((n:Int) < 0):=by omega
 have K:=zs (bh _ _ n (.slice none 0 0)) k;clear k;go_enter func45,ntmps45;go_wp2_with fail
 refine bodyPost_ret (aV rfl _ _ _ ⟨w.heap.size,0,none⟩ _ rfl (cY K.out)) rfl ?_;exact⟨rfl,(zo _ _).alloc (zg _) _⟩
theorem sY(w:zw)(z:Int)(Q4: -9223372036854775808<=z)(h0:z < 0):Calls prog 45 #[.int .i64 z] w (pC 0 w):=by
 have k:=heap_alloc_new w (.cells #[.int .i64 ((0:Nat):Int),.slice none 0 0] 32);have e0:decide (z < 0)=true:=by simpa using h0
 have K:=zs (bh _ _ 0 (.slice none 0 0)) k;clear k;go_enter func45,ntmps45;go_wp2_with fail
 refine bodyPost_ret (aV rfl _ _ _ ⟨w.heap.size,0,none⟩ _ rfl (cY K.out)) rfl ?_;exact⟨rfl,(zo _ _).alloc (zg _) _⟩
theorem sZ(w:zw)(z:Int)(hz: -9223372036854775808<=z/\z<=9223372036854775807):Calls prog 45 #[.int .i64 z] w (pC z.toNat w):=by
 by_cases h0:z < 0
 . rw[show z.toNat=0 by omega];exact sY w z hz.1 h0
 . obtain⟨n,rfl⟩:∃n:Nat,z=(n:Int):=⟨z.toNat,by omega⟩;exact nj w n (by omega)
structure Rv(w W:zw)(p0 p1 p2 p3 mo:Nat)(v:Value)(h:Bool)(s:zy)(o:Bool):Prop where
 c:bh W p0 mo v
 r1:bh W p1 0 (.slice none 0 0)
 r2:aT W p2 false ⟨#[]⟩ false
 s:aT W p3 h s o
 az:Below w.heap.size w W
 ne:(p0≠p1/\p0≠p2/\p0≠p3)/\(p1≠p0/\p1≠p2/\p1≠p3)/\(p2≠p0/\p2≠p1/\p2≠p3)/\(p3≠p0/\p3≠p1/\p3≠p2)
 low:w.heap.size<=p0/\w.heap.size<=p1/\w.heap.size<=p2/\w.heap.size<=p3
abbrev yI(w:zw)(mo:Nat)(v:Value):zw:=(((w.alloc (.cells #[.int .i64 (mo:Int),v] 32)).alloc (.cells #[.int .i64 0,.slice none 0 0] 32)).alloc (.cells #[.bool false,.string ⟨#[]⟩,.bool false] 49)).alloc (.cells #[.bool false,.string ⟨#[]⟩,.bool false] 49)
theorem gJ(w:zw)(mo:Nat)(v:Value):Rv w (yI w mo v) w.heap.size (w.heap.size+1) (w.heap.size+1+1) (w.heap.size+1+1+1) mo v false ⟨#[]⟩ false:=by
 have a1:(w.alloc (.cells #[.int .i64 (mo:Int),v] 32)).heap.size=w.heap.size+1:=by simp
 have a2:((w.alloc (.cells #[.int .i64 (mo:Int),v] 32)).alloc (.cells #[.int .i64 0,.slice none 0 0] 32)).heap.size=w.heap.size+1+1:=by simp
 have a3:(((w.alloc (.cells #[.int .i64 (mo:Int),v] 32)).alloc (.cells #[.int .i64 0,.slice none 0 0] 32)).alloc (.cells #[.bool false,.string ⟨#[]⟩,.bool false] 49)).heap.size=w.heap.size+1+1+1:=by simp
 have b1:=heap_alloc_new w (.cells #[.int .i64 (mo:Int),v] 32);have b2:=heap_alloc_new (w.alloc (.cells #[.int .i64 (mo:Int),v] 32)) (.cells #[.int .i64 0,.slice none 0 0] 32);have b3:=heap_alloc_new ((w.alloc (.cells #[.int .i64 (mo:Int),v] 32)).alloc (.cells #[.int .i64 0,.slice none 0 0] 32)) (.cells #[.bool false,.string ⟨#[]⟩,.bool false] 49);have b4:=heap_alloc_new (((w.alloc (.cells #[.int .i64 (mo:Int),v] 32)).alloc (.cells #[.int .i64 0,.slice none 0 0] 32)).alloc (.cells #[.bool false,.string ⟨#[]⟩,.bool false] 49)) (.cells #[.bool false,.string ⟨#[]⟩,.bool false] 49);rw[a1] at b2;rw[a2] at b3;rw[a3] at b4;refine⟨?_,?_,?_,b4,?_,by omega,by omega⟩
 . exact(qf _ _ _ (by omega)).trans ((qf _ _ _ (by omega)).trans ((qf _ _ _ (by omega)).trans b1))
 . exact(qf _ _ _ (by omega)).trans ((qf _ _ _ (by omega)).trans b2)
 . exact(qf _ _ _ (by omega)).trans b3
 . exact((((zo _ _).alloc (zg _) _).alloc (by omega) _).alloc (by omega) _).alloc (by omega) _
section
variable{w W W':zw}{p0 p1 p2 p3 mo:Nat}{v:Value}{h o:Bool}{s:zy}
theorem Rv.aF(r:Rv w W p0 p1 p2 p3 mo v h s o)(h':Bool):Rv w (W.setCell ⟨p3,0,none⟩ (.bool h')) p0 p1 p2 p3 mo v h' s o:=
 ⟨r.c.other r.ne.1.2.2 _,r.r1.other r.ne.2.1.2.2 _,r.r2.other r.ne.2.2.1.2.2 _,r.s.Gg h',r.az.setCell (p:=⟨p3,0,none⟩) r.low.2.2.2 _,r.ne,r.low⟩
theorem Rv.dW(r:Rv w W p0 p1 p2 p3 mo v h s o)(x:zy):Rv w ((W.setCell ⟨p3,1,none⟩ (.string x)).setCell ⟨p3,2,none⟩ (.bool true)) p0 p1 p2 p3 mo v h x true:=
 ⟨(r.c.other r.ne.1.2.2 _).other r.ne.1.2.2 _,(r.r1.other r.ne.2.1.2.2 _).other r.ne.2.1.2.2 _,(r.r2.other r.ne.2.2.1.2.2 _).other r.ne.2.2.1.2.2 _,r.s.set x,(r.az.setCell (p:=⟨p3,1,none⟩) r.low.2.2.2 _).setCell (p:=⟨p3,2,none⟩) r.low.2.2.2 _,r.ne,r.low⟩
theorem Rv.fE(r:Rv w W p0 p1 p2 p3 mo v h s o)(u:Value):Rv w (W.setCell ⟨p0,1,none⟩ u) p0 p1 p2 p3 mo u h s o:=
 ⟨r.c.fE u,r.r1.other r.ne.2.1.1 _,r.r2.other r.ne.2.2.1.1 _,r.s.other r.ne.2.2.2.1 _,r.az.setCell (p:=⟨p0,1,none⟩) r.low.1 _,r.ne,r.low⟩
theorem Rv.below(r:Rv w W p0 p1 p2 p3 mo v h s o)(hb:Below W.heap.size W W'):Rv w W' p0 p1 p2 p3 mo v h s o:=
 ⟨r.c.below hb,r.r1.below hb,r.r2.az hb,r.s.az hb,r.az.trans (hb.mono r.az.size),r.ne,r.low⟩
theorem Rv.out(r:Rv w W p0 p1 p2 p3 mo v h s o)(W':zw)(hW:W'=((((W.setCell ⟨p1,0,none⟩ (.int .i64 (mo:Int))).setCell ⟨p1,1,none⟩ v).setCell ⟨p2,0,none⟩ (.bool h)).setCell ⟨p2,1,none⟩ (.string s)).setCell ⟨p2,2,none⟩ (.bool o)):
 bh W' p1 mo v/\aT W' p2 h s o/\Below w.heap.size w W':=by
 subst hW;refine⟨((r.r1.put mo v).other r.ne.2.1.2.1 _ |>.other r.ne.2.1.2.1 _).other r.ne.2.1.2.1 _,?_,?_⟩
 . exact aT.put ((r.r2.other r.ne.2.2.1.2.1 _).other r.ne.2.2.1.2.1 _) h o s
 . exact((((r.az.setCell (p:=⟨p1,0,none⟩) r.low.2.1 _).setCell (p:=⟨p1,1,none⟩) r.low.2.1 _).setCell (p:=⟨p2,0,none⟩) r.low.2.2.1 _).setCell (p:=⟨p2,1,none⟩) r.low.2.2.1 _).setCell (p:=⟨p2,2,none⟩) r.low.2.2.1 _
end
def ln(w:zw)(g mo:Nat)(st:Value)(xs:zY)(e:Ending)(w':zw):Prop:=∃A n c g',e= .returned (.tuple #[.agg #[.int .i64 (mo:Int),.slice A n c],st])/\Row w' g' (.slice A n c) xs/\(g'=g\/w.heap.size<=g')/\Below w.heap.size w w'
theorem vR{W:zw}{g:Nat}{v:Value}{xs:zY}(r:Row W g v xs){p0 p1 p2:Nat}(hn:g≠p0/\g≠p1/\g≠p2)(u m u2 h s o:Value):Row (((((((W.setCell ⟨p0,1,none⟩ u).setCell ⟨p1,0,none⟩ m).setCell ⟨p1,1,none⟩ u2).setCell ⟨p2,0,none⟩ h).setCell ⟨p2,1,none⟩ s).setCell ⟨p2,2,none⟩ o).drew) g v xs:=
 ((((((r.set (q:=⟨p0,1,none⟩) hn.1 u).set (q:=⟨p1,0,none⟩) hn.2.1 m).set (q:=⟨p1,1,none⟩) hn.2.1 u2).set (q:=⟨p2,0,none⟩) hn.2.2 h).set (q:=⟨p2,1,none⟩) hn.2.2 s).set (q:=⟨p2,2,none⟩) hn.2.2 o).drew
theorem ku(w:zw)(g:Nat)(A:Option Addr)(c:Nat)(key:zy)(h:Row w g (.slice A 0 c) []):
 Calls prog 51 #[.agg #[.int .i64 0,.slice A 0 c],.string key] w (ln w g 0 (.agg #[.bool false,.string ⟨#[]⟩,.bool false]) []):=by
 have V0:=gJ w 0 (.slice A 0 c);have U:=zs (Calls prog 34 #[.slice A 0 c,.string key] (yI w 0 (.slice A 0 c)) (dq false (yI w 0 (.slice A 0 c)))) (gK _ g _ [] key (h.below V0.az));have HH:=J h;clear h;go_enter func51,ntmps51;go_wp2_with fail
 refine U.out.mono ?_;rintro e W ⟨rfl,hW⟩;rw[hW] at V0;clear hW U;generalize w.heap.size+1+1+1=p3 at V0|-;generalize w.heap.size+1+1=p2 at V0|-;generalize w.heap.size+1=p1 at V0|-;obtain⟨p0,cC⟩:=zx w.heap.size;rw[← cC] at V0|-;clear cC;obtain⟨c0,c1,c2,c3⟩:=V0.c.four;obtain⟨r0,r1,r2,r3⟩:=V0.r1.four;obtain⟨q0,q1,q2,q3,q4,q5⟩:=V0.r2.dR;obtain⟨s0,s1,s2,s3,s4,s5⟩:=V0.s.dR;obtain⟨⟨n1,n2,n3⟩,⟨n4,n5,n6⟩,⟨n7,n8,n9⟩,⟨m1,m2,m3⟩⟩:=V0.ne;have R:=J (V0.aF false);clear V0;go_wp2_with fail
 go_region;go_wp2_with fail
 have F:=R.out.out _ rfl;refine bodyPost_ret (aP rfl _ _ _ ⟨p1,0,none⟩ ⟨p2,0,none⟩ _ _ rfl (cY (mo:=0) F.1.drew) rfl (bo F.2.1.drew)) rfl ?_;exact⟨_,_,_,g,rfl,HH.out.below F.2.2.drew,xz rfl,F.2.2.drew⟩
theorem qW(w:zw)(g:Nat)(A:Option Addr)(n c mo:Nat)(xs:zY)(key:zy)(h:Row w g (.slice A n c) xs)(MG:xs.length=n)(ey:mo+1<=9223372036854775807)(hi:aw xs key=true)(hs:key.size<=maxLen)(hl:xs.length<=1900):
 Calls prog 51 #[.agg #[.int .i64 ((mo+1:Nat):Int),.slice A n c],.string key] w (ln w g (mo+1) (.agg #[.bool true,.string ⟨#[]⟩,.bool false]) (rem xs key++ [key])):=by
 have V0:=gJ w (mo+1) (.slice A n c);have U:=gK _ g _ xs key (h.below V0.az);rw[hi] at U;have U:=J U;have HH:=J h;clear h hi;go_enter func51,ntmps51;go_wp2_with fail
 refine U.out.mono ?_;rintro e W ⟨rfl,hW⟩;rw[hW] at V0;clear hW U;generalize w.heap.size+1+1+1=p3 at V0|-;generalize w.heap.size+1+1=p2 at V0|-;generalize w.heap.size+1=p1 at V0|-;obtain⟨p0,cC⟩:=zx w.heap.size;rw[← cC] at V0|-;clear cC;obtain⟨c0,c1,c2,c3⟩:=V0.c.four;obtain⟨r0,r1,r2,r3⟩:=V0.r1.four;obtain⟨q0,q1,q2,q3,q4,q5⟩:=V0.r2.dR;obtain⟨s0,s1,s2,s3,s4,s5⟩:=V0.s.dR;obtain⟨⟨n1,n2,n3⟩,⟨n4,n5,n6⟩,⟨n7,n8,n9⟩,⟨m1,m2,m3⟩⟩:=V0.ne;have V1:=V0.aF true;obtain⟨W1,dx⟩:=zx (W.setCell ⟨p3,0,none⟩ (.bool true));rw[← dx] at V1;have R1:=J V1;have og:=J dx;clear dx;have U2:=J (jo W1 g _ xs key (HH.out.below V1.az) (by omega) hs);clear V0 V1;go_wp2_with fail
 rw[← og.out];refine U2.out.mono ?_;rintro e W2 ⟨v4,rfl,hO,hB⟩;obtain⟨A4,c4,rfl⟩:=hO.len;have V0:=R1.out.below hB;obtain⟨c0,c1,c2,c3⟩:=V0.c.four;obtain⟨r0,r1,r2,r3⟩:=V0.r1.four;obtain⟨q0,q1,q2,q3,q4,q5⟩:=V0.r2.dR;obtain⟨s0,s1,s2,s3,s4,s5⟩:=V0.s.dR;obtain⟨⟨n1,n2,n3⟩,⟨n4,n5,n6⟩,⟨n7,n8,n9⟩,⟨m1,m2,m3⟩⟩:=V0.ne;have R:=J (V0.fE (.slice A4 (rem xs key++ [key]).length c4));obtain⟨g4,iW,rl⟩:=hO.row;have y7:=J rl;have y8:=zs (w.heap.size<=g4) (zr R1.out.az.size iW);have uD:=zs (g4≠p0/\g4≠p1/\g4≠p2) (⟨by have:=R1.out.c.lt;omega,by have:=R1.out.r1.lt;omega,by have:=R1.out.r2.lt;omega⟩);clear V0 hO hB rl iW U2 R1;generalize(rem xs key++ [key]).length=l4 at*;go_wp2_with fail
 go_region;go_wp2_with fail
 have F:=R.out.out _ rfl;refine bodyPost_ret (aP rfl _ _ _ ⟨p1,0,none⟩ ⟨p2,0,none⟩ _ _ rfl (cY (mo:=mo+1) F.1.drew) rfl (bo F.2.1.drew)) rfl ?_;exact⟨_,_,_,g4,rfl,vR y7.out uD.out _ _ _ _ _ _,ja y8.out,F.2.2.drew⟩
theorem vL(w:zw)(g:Nat)(A:Option Addr)(n c mo:Nat)(xs:zY)(key:zy)(h:Row w g (.slice A n c) xs)(MG:xs.length=n)(ey:mo+1<=9223372036854775807)(hi:aw xs key=false)(hs:key.size<=maxLen)(hl:xs.length<=1900)(hr:n < mo+1):
 Calls prog 51 #[.agg #[.int .i64 ((mo+1:Nat):Int),.slice A n c],.string key] w (ln w g (mo+1) (.agg #[.bool false,.string ⟨#[]⟩,.bool false]) (rem xs key++ [key])):=by
 have V0:=gJ w (mo+1) (.slice A n c);have U:=gK _ g _ xs key (h.below V0.az);rw[hi] at U;have U:=J U;have HH:=J h;have e1:decide (mo+1<=n)=false:=by simp;omega
 clear h hi;go_enter func51,ntmps51;go_wp2_with fail
 refine U.out.mono ?_;rintro e W ⟨rfl,hW⟩;rw[hW] at V0;clear hW U;generalize w.heap.size+1+1+1=p3 at V0|-;generalize w.heap.size+1+1=p2 at V0|-;generalize w.heap.size+1=p1 at V0|-;obtain⟨p0,cC⟩:=zx w.heap.size;rw[← cC] at V0|-;clear cC;obtain⟨c0,c1,c2,c3⟩:=V0.c.four;obtain⟨r0,r1,r2,r3⟩:=V0.r1.four;obtain⟨q0,q1,q2,q3,q4,q5⟩:=V0.r2.dR;obtain⟨s0,s1,s2,s3,s4,s5⟩:=V0.s.dR;obtain⟨⟨n1,n2,n3⟩,⟨n4,n5,n6⟩,⟨n7,n8,n9⟩,⟨m1,m2,m3⟩⟩:=V0.ne;have V1:=V0.aF false;obtain⟨W1,dx⟩:=zx (W.setCell ⟨p3,0,none⟩ (.bool false));rw[← dx] at V1;have R1:=J V1;have og:=J dx;clear dx;have U2:=J (jo W1 g _ xs key (HH.out.below V1.az) (by omega) hs);clear V0 V1;go_wp2_with fail
 rw[← og.out];refine U2.out.mono ?_;rintro e W2 ⟨v4,rfl,hO,hB⟩;obtain⟨A4,c4,rfl⟩:=hO.len;have V0:=R1.out.below hB;obtain⟨c0,c1,c2,c3⟩:=V0.c.four;obtain⟨r0,r1,r2,r3⟩:=V0.r1.four;obtain⟨q0,q1,q2,q3,q4,q5⟩:=V0.r2.dR;obtain⟨s0,s1,s2,s3,s4,s5⟩:=V0.s.dR;obtain⟨⟨n1,n2,n3⟩,⟨n4,n5,n6⟩,⟨n7,n8,n9⟩,⟨m1,m2,m3⟩⟩:=V0.ne;have R:=J (V0.fE (.slice A4 (rem xs key++ [key]).length c4));obtain⟨g4,iW,rl⟩:=hO.row;have y7:=J rl;have y8:=zs (w.heap.size<=g4) (zr R1.out.az.size iW);have uD:=zs (g4≠p0/\g4≠p1/\g4≠p2) (⟨by have:=R1.out.c.lt;omega,by have:=R1.out.r1.lt;omega,by have:=R1.out.r2.lt;omega⟩);clear V0 hO hB rl iW U2 R1;generalize(rem xs key++ [key]).length=l4 at*;go_wp2_with fail
 go_region;go_wp2_with fail
 have F:=R.out.out _ rfl;refine bodyPost_ret (aP rfl _ _ _ ⟨p1,0,none⟩ ⟨p2,0,none⟩ _ _ rfl (cY (mo:=mo+1) F.1.drew) rfl (bo F.2.1.drew)) rfl ?_;exact⟨_,_,_,g4,rfl,vR y7.out uD.out _ _ _ _ _ _,ja y8.out,F.2.2.drew⟩
theorem vM(w:zw)(g:Nat)(A:Option Addr)(c:Nat)(x:zy)(ks:zY)(key:zy)(h:Row w g (.slice A (ks.length+1) c) (x::ks))(ey:ks.length+1<=9223372036854775807)(hi:aw (x::ks) key=false)(hs:key.size<=maxLen)(hl:ks.length<=1900):
 Calls prog 51 #[.agg #[.int .i64 ((ks.length+1:Nat):Int),.slice A (ks.length+1) c],.string key] w (ln w g (ks.length+1) (.agg #[.bool false,.string x,.bool true]) (rem ks key++ [key])):=by
 have V0:=gJ w (ks.length+1) (.slice A (ks.length+1) c);have U:=gK _ g _ _ key (h.below V0.az);rw[hi] at U;have U:=J U;have HH:=J h;obtain⟨o,rfl,hg,hx,cF,bL⟩:=h.at (k:=0) (by simp);rw[Nat.add_zero,show(x::ks).getD 0 ⟨#[]⟩=x from rfl] at hx;obtain⟨A',f1,f2,hF⟩:=pJ h rfl (p:=1) (by omega);rw[Nat.add_sub_cancel] at hF;simp only[Nat.add_sub_cancel] at f1 f2;have f1:∀W:zw,(Instr.sliceAt 30 (.slice (some ⟨g,o,none⟩) (ks.length+1) c) (some (.int .i64 1)) none none).run prog W= .ok (.slice A' ks.length (c - 1)) W:=f1;have f2:∀W:zw,(Instr.slice 30 (.slice (some ⟨g,o,none⟩) (ks.length+1) c) (some (.int .i64 1)) none none).run prog W= .ok (.slice A' ks.length (c - 1)) W:=f2;have HF:=zs (Row w g (.slice A' ks.length (c - 1)) ks) hF;have cF:ks.length+1<=c:=cF;clear hF;clear h hi;go_enter func51,ntmps51;go_wp2_with fail
 refine U.out.mono ?_;rintro e W ⟨rfl,hW⟩;rw[hW] at V0;clear hW U;have Vi:W.cell? ⟨g,o,none⟩=some (.string x):=(V0.az.cell (p:=⟨g,o,none⟩) hg).trans hx;generalize w.heap.size+1+1+1=p3 at V0|-;generalize w.heap.size+1+1=p2 at V0|-;generalize w.heap.size+1=p1 at V0|-;obtain⟨p0,cC⟩:=zx w.heap.size;rw[← cC] at V0|-;clear cC;obtain⟨c0,c1,c2,c3⟩:=V0.c.four;obtain⟨r0,r1,r2,r3⟩:=V0.r1.four;obtain⟨q0,q1,q2,q3,q4,q5⟩:=V0.r2.dR;obtain⟨s0,s1,s2,s3,s4,s5⟩:=V0.s.dR;obtain⟨⟨n1,n2,n3⟩,⟨n4,n5,n6⟩,⟨n7,n8,n9⟩,⟨m1,m2,m3⟩⟩:=V0.ne;have WY:g≠p0:=by have:=V0.low;omega
 have WZ:g≠p3:=by have:=V0.low;omega
 unfold maxLen at bL;have V1:=((V0.aF false).dW x).fE (.slice A' ks.length (c - 1));obtain⟨W1,dx⟩:=zx ((((W.setCell ⟨p3,0,none⟩ (.bool false)).setCell ⟨p3,1,none⟩ (.string x)).setCell ⟨p3,2,none⟩ (.bool true)).setCell ⟨p0,1,none⟩ (.slice A' ks.length (c - 1)));rw[← dx] at V1;have R1:=J V1;have og:=J dx;clear dx;have U2:=J (jo W1 g _ ks key (HF.out.below V1.az) (by omega) hs);clear V0 V1;go_wp2_with fail
 rw[← og.out];refine U2.out.mono ?_;rintro e W2 ⟨v4,rfl,hO,hB⟩;obtain⟨A4,c4,rfl⟩:=hO.len;have V0:=R1.out.below hB;obtain⟨c0,c1,c2,c3⟩:=V0.c.four;obtain⟨r0,r1,r2,r3⟩:=V0.r1.four;obtain⟨q0,q1,q2,q3,q4,q5⟩:=V0.r2.dR;obtain⟨s0,s1,s2,s3,s4,s5⟩:=V0.s.dR;obtain⟨⟨n1,n2,n3⟩,⟨n4,n5,n6⟩,⟨n7,n8,n9⟩,⟨m1,m2,m3⟩⟩:=V0.ne;have R:=J (V0.fE (.slice A4 (rem ks key++ [key]).length c4));obtain⟨g4,iW,rl⟩:=hO.row;have y7:=J rl;have y8:=zs (w.heap.size<=g4) (zr R1.out.az.size iW);have uD:=zs (g4≠p0/\g4≠p1/\g4≠p2) (⟨by have:=R1.out.c.lt;omega,by have:=R1.out.r1.lt;omega,by have:=R1.out.r2.lt;omega⟩);clear V0 hO hB rl iW U2 R1 f1 f2 hx Vi;generalize(rem ks key++ [key]).length=l4 at*;go_wp2_with fail
 go_region;go_wp2_with fail
 have F:=R.out.out _ rfl;refine bodyPost_ret (aP rfl _ _ _ ⟨p1,0,none⟩ ⟨p2,0,none⟩ _ _ rfl (cY (mo:=ks.length+1) F.1.drew) rfl (bo F.2.1.drew)) rfl ?_;exact⟨_,_,_,g4,rfl,vR y7.out uD.out _ _ _ _ _ _,ja y8.out,F.2.2.drew⟩
theorem yL(w:zw)(g mo:Nat)(A:Option Addr)(n c:Nat)(xs:zY)(key:zy)(h:Row w g (.slice A n c) xs)(hn:xs.length=n)(cG:xs.Nodup)(ey:mo<=9223372036854775807)(hs:key.size<=maxLen)(hl:xs.length<=1900)(hle:xs.length<=mo):
 Calls prog 51 #[.agg #[.int .i64 (mo:Int),.slice A n c],.string key] w (ln w g mo (cS mo xs key) (ia mo xs key)):=by
 cases mo with
 |zero=>
  obtain rfl:xs= []:=qe (by omega);obtain rfl:n=0:=hn.symm;rw[rk];exact ku w g A c key h
 |succ mo=>
  cases hi:aw xs key with
  |true=>
   have e1:cS (mo+1) xs key= .agg #[.bool true,.string ⟨#[]⟩,.bool false]:=by simp[cS,eK,eL,ef,hi]
   rw[e1,y6 cG (aX.1 hi) hle];exact qW w g A n c mo xs key h hn ey hi hs hl
  |false=>
   by_cases hf:xs.length<=mo
   . have e1:cS (mo+1) xs key= .agg #[.bool false,.string ⟨#[]⟩,.bool false]:=by
      have:¬(mo+1<=xs.length):=by omega
      simp[cS,eK,eL,ef,hi,this]
     rw[e1,wK (by omega)];exact vL w g A n c mo xs key h hn ey hi hs hl (by omega)
   . cases xs with
     |nil=>simp at hf
     |cons x ks=>
      obtain rfl:mo=ks.length:=by rw[zv] at hf hle;omega
      obtain rfl:n=ks.length+1:=hn.symm;have e1:cS (ks.length+1) (x::ks) key= .agg #[.bool false,.string x,.bool true]:=by simp[cS,eK,eL,ef,hi]
      rw[e1,wL (mo:=ks.length+1) (bz.1 hi) rfl];exact vM w g A c x ks key h ey hi hs (by rw[zv] at hl;omega)
end LR
namespace LR
open Go.RowKit Sg
structure Rw(w W:zw)(p0 p1 mo:Nat)(v:Value):Prop where
 c:bh W p0 mo v
 r1:bh W p1 0 (.slice none 0 0)
 az:Below w.heap.size w W
 ne:p0≠p1/\p1≠p0
 low:w.heap.size<=p0/\w.heap.size<=p1
abbrev oM(w:zw)(mo:Nat)(v:Value):zw:=(w.alloc (.cells #[.int .i64 (mo:Int),v] 32)).alloc (.cells #[.int .i64 0,.slice none 0 0] 32)
theorem fF(w:zw)(mo:Nat)(v:Value):Rw w (oM w mo v) w.heap.size (w.heap.size+1) mo v:=by
 have a1:(w.alloc (.cells #[.int .i64 (mo:Int),v] 32)).heap.size=w.heap.size+1:=by simp
 have b1:=heap_alloc_new w (.cells #[.int .i64 (mo:Int),v] 32);have b2:=heap_alloc_new (w.alloc (.cells #[.int .i64 (mo:Int),v] 32)) (.cells #[.int .i64 0,.slice none 0 0] 32);rw[a1] at b2;refine⟨?_,b2,?_,by omega,by omega⟩
 . exact(qf _ _ _ (by omega)).trans b1
 . exact((zo _ _).alloc (zg _) _).alloc (by omega) _
section
variable{w W W':zw}{p0 p1 mo:Nat}{v:Value}
theorem Rw.fE(r:Rw w W p0 p1 mo v)(u:Value):Rw w (W.setCell ⟨p0,1,none⟩ u) p0 p1 mo u:=⟨r.c.fE u,r.r1.other r.ne.2 _,r.az.setCell (p:=⟨p0,1,none⟩) r.low.1 _,r.ne,r.low⟩
theorem Rw.eV(r:Rw w W p0 p1 mo v)(m:Nat):Rw w (W.setCell ⟨p0,0,none⟩ (.int .i64 (m:Int))) p0 p1 m v:=⟨r.c.eV m,r.r1.other r.ne.2 _,r.az.setCell (p:=⟨p0,0,none⟩) r.low.1 _,r.ne,r.low⟩
theorem Rw.below(r:Rw w W p0 p1 mo v)(hb:Below W.heap.size W W'):Rw w W' p0 p1 mo v:=⟨r.c.below hb,r.r1.below hb,r.az.trans (hb.mono r.az.size),r.ne,r.low⟩
theorem Rw.out(r:Rw w W p0 p1 mo v)(W':zw)(hW:W'=(W.setCell ⟨p1,0,none⟩ (.int .i64 (mo:Int))).setCell ⟨p1,1,none⟩ v):bh W' p1 mo v/\Below w.heap.size w W':=by
 subst hW;exact⟨r.r1.put mo v,(r.az.setCell (p:=⟨p1,0,none⟩) r.low.2 _).setCell (p:=⟨p1,1,none⟩) r.low.2 _⟩
end
theorem Ja(w:zw)(g:Nat)(A:Option Addr)(n c mo:Nat)(xs:zY)(key:zy)(t:Bool)(h:Row w g (.slice A n c) xs)(Gf:mo<=9223372036854775807)(MG:xs.length=n)(UQ:xs.length<=1900)(hi:aw xs key=t)(hf:t=true\/mo<=n):
 Calls prog 59 #[.agg #[.int .i64 (mo:Int),.slice A n c],.string key] w (ln w g mo (.bool false) xs):=by
 have V0:=fF w mo (.slice A n c);have U:=gK _ g _ xs key (h.below V0.az);rw[hi] at U;have U:=J U;have HH:=J h;have e1:t=false->decide (mo<=n)=true:=λe=>by rcases hf with h|h;rw[e] at h;cases h;simpa using h
 clear h hi hf;cases t with
 |true=>
  clear e1;go_enter func59,ntmps59;go_wp2_with fail
  refine U.out.mono ?_;rintro e W ⟨rfl,hW⟩;rw[hW] at V0;clear hW U;generalize w.heap.size+1=p1 at V0|-;obtain⟨p0,cC⟩:=zx w.heap.size;rw[← cC] at V0|-;clear cC;obtain⟨c0,c1,c2,c3⟩:=V0.c.four;obtain⟨r0,r1,r2,r3⟩:=V0.r1.four;obtain⟨n1,n2⟩:=V0.ne;have R:=J V0;clear V0;go_wp2_with fail
  have F:=R.out.out _ rfl;refine bodyPost_ret (bc rfl _ _ _ ⟨p1,0,none⟩ _ rfl (cY F.1)) rfl ?_;exact⟨_,_,_,g,rfl,HH.out.below F.2,xz rfl,F.2⟩
 |false=>
  have e2:=e1 rfl;clear e1;go_enter func59,ntmps59;go_wp2_with fail
  refine U.out.mono ?_;rintro e W ⟨rfl,hW⟩;rw[hW] at V0;clear hW U;generalize w.heap.size+1=p1 at V0|-;obtain⟨p0,cC⟩:=zx w.heap.size;rw[← cC] at V0|-;clear cC;obtain⟨c0,c1,c2,c3⟩:=V0.c.four;obtain⟨r0,r1,r2,r3⟩:=V0.r1.four;obtain⟨n1,n2⟩:=V0.ne;have R:=J V0;clear V0;go_wp2_with fail
  have F:=R.out.out _ rfl;refine bodyPost_ret (bc rfl _ _ _ ⟨p1,0,none⟩ _ rfl (cY F.1)) rfl ?_;exact⟨_,_,_,g,rfl,HH.out.below F.2,xz rfl,F.2⟩
theorem MH(w:zw)(g:Nat)(A:Option Addr)(n c mo:Nat)(xs:zY)(key:zy)(h:Row w g (.slice A n c) xs)(Gf:mo<=9223372036854775807)(MG:xs.length=n)(hl:xs.length<=1900)(hi:aw xs key=false)(hf:n < mo)(hs:key.size<=maxLen):
 Calls prog 59 #[.agg #[.int .i64 (mo:Int),.slice A n c],.string key] w (ln w g mo (.bool true) (rem xs key++ [key])):=by
 have V0:=fF w mo (.slice A n c);have U:=gK _ g _ xs key (h.below V0.az);rw[hi] at U;have U:=J U;have HH:=J h;have e1:decide (mo<=n)=false:=by simpa using hf
 clear h hi hf;go_enter func59,ntmps59;go_wp2_with fail
 refine U.out.mono ?_;rintro e W ⟨rfl,hW⟩;rw[hW] at V0;clear hW U;generalize w.heap.size+1=p1 at V0|-;obtain⟨p0,cC⟩:=zx w.heap.size;rw[← cC] at V0|-;clear cC;obtain⟨c0,c1,c2,c3⟩:=V0.c.four;have U2:=J (jo W g _ xs key (HH.out.below V0.az) (by omega) hs);have R1:=J V0;clear V0;go_wp2_with fail
 refine U2.out.mono ?_;rintro e W2 ⟨v4,rfl,hO,hB⟩;obtain⟨A4,c4,rfl⟩:=hO.len;have V0:=R1.out.below hB;clear c0 c1 c2 c3;obtain⟨c0,c1,c2,c3⟩:=V0.c.four;obtain⟨r0,r1,r2,r3⟩:=V0.r1.four;obtain⟨n1,n2⟩:=V0.ne;have R:=J (V0.fE (.slice A4 (rem xs key++ [key]).length c4));obtain⟨g4,iW,rl⟩:=hO.row;have y7:=J rl;have y8:=zs (w.heap.size<=g4) (zr R1.out.az.size iW);have uD:=zs (g4≠p0/\g4≠p1) (⟨by have:=R1.out.c.lt;omega,by have:=R1.out.r1.lt;omega⟩);clear V0 hO hB rl iW U2 R1;generalize(rem xs key++ [key]).length=l4 at*;go_wp2_with fail
 have F:=R.out.out _ rfl;refine bodyPost_ret (bc rfl _ _ _ ⟨p1,0,none⟩ _ rfl (cY F.1)) rfl ?_;exact⟨_,_,_,g4,rfl,((y7.out.set (q:=⟨p0,1,none⟩) uD.out.1 _).set (q:=⟨p1,0,none⟩) uD.out.2 _).set (q:=⟨p1,1,none⟩) uD.out.2 _,ja y8.out,F.2⟩
theorem MI(w:zw)(g:Nat)(A:Option Addr)(n c mo:Nat)(xs:zY)(key:zy)(h:Row w g (.slice A n c) xs)(ey:mo<=9223372036854775807)(hn:xs.length=n)(hl:xs.length<=1900)(hs:key.size<=maxLen):
 Calls prog 59 #[.agg #[.int .i64 (mo:Int),.slice A n c],.string key] w (ln w g mo (.bool (bD mo xs key)) (ll mo xs key)):=by
 cases hi:aw xs key with
 |true=>
  have e1:bD mo xs key=false:=by simp[bD,hi]
  have e2:ll mo xs key=xs:=by unfold ll;rw[e1];rfl
  rw[e1,e2];exact Ja w g A n c mo xs key true h ey hn hl hi (xz rfl)
 |false=>
  by_cases hf:xs.length < mo
  . have e1:bD mo xs key=true:=by simp[bD,hi,hf]
    have e2:ll mo xs key=rem xs key++ [key]:=by unfold ll;rw[e1];rfl
    rw[e1,e2];exact MH w g A n c mo xs key h ey hn hl hi (by omega) hs
  . have e1:bD mo xs key=false:=by simp[bD,hi,hf]
    have e2:ll mo xs key=xs:=by unfold ll;rw[e1];rfl
    rw[e1,e2];exact Ja w g A n c mo xs key false h ey hn hl hi (ja (by omega))
def yM(w:zw)(g mo:Nat)(xs:zY)(e:Ending)(w':zw):Prop:=∃A n c A2 n2 c2,e= .returned (.tuple #[.agg #[.int .i64 (mo:Int),.slice A n c],.slice A2 n2 c2])/\Row w' g (.slice A n c) (gi mo xs)/\Row w' g (.slice A2 n2 c2) (xs.take (xs.length - mo))/\Below w.heap.size w w'
theorem MJ(w:zw)(g:Nat)(A:Option Addr)(n c mo m:Nat)(z:Int)(xs:zY)(h:Row w g (.slice A n c) xs)(hn:xs.length=n)(hl:xs.length<=1900)(hz: -9223372036854775808<=z/\z<=9223372036854775807)(hm:m=z.toNat):
 Calls prog 66 #[.agg #[.int .i64 (mo:Int),.slice A n c],.int .i64 z] w (yM w g m xs):=by
 have V0:=fF w mo (.slice A n c);have U:=J (hm▸sZ (oM w mo (.slice A n c)) z hz:Calls prog 45 #[.int .i64 z] (oM w mo (.slice A n c)) (pC m (oM w mo (.slice A n c))));have HH:=J h;have Xa:m<=9223372036854775807:=by omega
 clear h hm;go_enter func66,ntmps66;go_wp2_with fail
 refine U.out.mono ?_;rintro e W ⟨rfl,hB⟩;have V1:=V0.below hB;clear hB U V0;generalize w.heap.size+1=p1 at V1|-;obtain⟨p0,cC⟩:=zx w.heap.size;rw[← cC] at V1|-;clear cC;obtain⟨c0,c1,c2,c3⟩:=V1.c.four;obtain⟨r0,r1,r2,r3⟩:=V1.r1.four;obtain⟨n1,n2⟩:=V1.ne;have jN:n<=1900:=by omega
 have Jb:∀W:zw,(Instr.field 32 (.agg #[.int .i64 (m:Int),.slice none 0 0]) 0).run prog W= .ok (.int .i64 (m:Int)) W:=λ_=>by kernel_rfl
 by_cases wM:m<=n
 . obtain⟨q,hq⟩:∃q,n=m+q:=⟨n - m,by omega⟩;have e1:decide (((n:Int) - (m:Int)) < 0)=false:=by simp;omega
   obtain⟨At,t1,t2,hT⟩:=Ep HH.out hn (p:=q) (by omega);obtain⟨Af,f1,f2,hF⟩:=pJ HH.out hn (p:=q) (by omega);have R:=J ((V1.eV m).fE (.slice Af (n - q) (c - q)));have HE:=zs (xs.length - m=q) (by omega);have E:=zs (((n:Int) - (m:Int))=(q:Int)) (by omega);rw[← E.out] at t1 t2 f1 f2;have HT:=J hT;have HF:=J hF;clear V1 hT hF hq;go_wp2_with fail
   have F:=R.out.out _ rfl;refine bodyPost_ret (bc rfl _ _ _ ⟨p1,0,none⟩ _ rfl (cY F.1)) rfl ?_;refine⟨_,_,_,_,_,_,rfl,?_,?_,F.2⟩
   . unfold gi;rw[HE.out];exact HF.out.below F.2
   . rw[HE.out];exact HT.out.below F.2
 . have e1:decide (((n:Int) - (m:Int)) < 0)=true:=by simp;omega
   obtain⟨At,t1,t2,hT⟩:=Ep HH.out hn (p:=0) (by omega);obtain⟨Af,f1,f2,hF⟩:=pJ HH.out hn (p:=0) (by omega);have t1:∀W:zw,(Instr.sliceAt 30 (.slice A n c) none (some (.int .i64 0)) none).run prog W= .ok (.slice At 0 c) W:=t1;have t2:∀W:zw,(Instr.slice 30 (.slice A n c) none (some (.int .i64 0)) none).run prog W= .ok (.slice At 0 c) W:=t2;have f1:∀W:zw,(Instr.sliceAt 30 (.slice A n c) (some (.int .i64 0)) none none).run prog W= .ok (.slice Af n c) W:=f1;have f2:∀W:zw,(Instr.slice 30 (.slice A n c) (some (.int .i64 0)) none none).run prog W= .ok (.slice Af n c) W:=f2;have R:=J ((V1.eV m).fE (.slice Af n c));have HE:=zs (xs.length - m=0) (by omega);have HT:=J hT;have HF:=J hF;clear V1 hT hF;go_wp2_with fail
   have F:=R.out.out _ rfl;refine bodyPost_ret (bc rfl _ _ _ ⟨p1,0,none⟩ _ rfl (cY F.1)) rfl ?_;refine⟨_,_,_,_,_,_,rfl,?_,?_,F.2⟩
   . unfold gi;rw[HE.out];exact HF.out.below F.2
   . rw[HE.out];exact HT.out.below F.2
