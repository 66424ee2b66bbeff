/- Lists: Seg Ar Low Take Mp Good Loose List Keys Refs3 Refb Same Rev Tn Wa Ext. -/
import Derived.Laws.Bits64
import Derived.Test.YtdmmciggopmglaaGreatDoorChecked
import Derived.WalkKit
import Derived.IntWalk
import Derived.LoopTactic
import Derived.Lib.Hide
import Derived.Below
import Derived.Laws.OwnMore
import Derived.OwnWalk
import Derived.RegionTactic
import Derived.BigRegion
import Derived.Maps.AppendAt
import Derived.Maps.OwnSet
import Derived.Deep.QuietTactic
import Derived.BigQuiet
import Derived.Deep.Draws
set_option maxRecDepth 20000
namespace Go.Proofs.YtdmmciggopmglaaGreatDoor.Sg
open Go
def upd{α:Type}(f:Nat->α)(i:Nat)(v:α):Nat->α:=λj=>if j=i then v else f j
theorem upd_same{α:Type}(f:Nat->α)(i:Nat)(v:α):upd f i v i=v:=by simp[upd]
theorem upd_ne{α:Type}{f:Nat->α}{i j:Nat}{v:α}(h:j≠i):upd f i v j=f j:=by simp[upd,h]
def Seg(nx pv:Nat->Nat):Nat->List Nat->Nat->Prop
 |a,[],b=>nx a=b/\pv b=a
 |a,x::l,b=>nx a=x/\pv x=a/\Seg nx pv x l b
theorem seg_append{nx pv:Nat->Nat}{x b:Nat}{ys:List Nat}:∀{a:Nat} {xs:List Nat},Seg nx pv a (xs++x::ys) b<->Seg nx pv a xs x/\Seg nx pv x ys b
 |a,[]=>by simp[Seg,and_assoc]
 |a,y::xs=>by
  have:=@seg_append nx pv x b ys y xs;simp only[List.cons_append,Seg,this,and_assoc]
theorem seg_congr{nx pv nx' pv':Nat->Nat}{b:Nat}:∀{a:Nat} {l:List Nat},Seg nx pv a l b->(∀i∈a::l,nx' i=nx i)->(∀i∈l++ [b],pv' i=pv i)->Seg nx' pv' a l b
 |a,[],h,h1,h2=>⟨(h1 a (by simp)).trans h.1,(h2 b (by simp)).trans h.2⟩
 |a,x::l,h,h1,h2=>⟨(h1 a (by simp)).trans h.1,(h2 x (by simp)).trans h.2.1,seg_congr h.2.2 (λi hi=>h1 i (List.mem_cons_of_mem _ hi)) (λi hi=>h2 i (List.mem_cons_of_mem _ hi))⟩
theorem seg_pv_mem{nx pv:Nat->Nat}{b:Nat}:∀{a:Nat} {l:List Nat},Seg nx pv a l b->pv b∈a::l
 |a,[],h=>by rw[h.2];simp
 |a,x::l,h=>List.mem_cons_of_mem _ (seg_pv_mem h.2.2)
theorem seg_nx_mem{nx pv:Nat->Nat}{b:Nat}:∀{a:Nat} {l:List Nat},Seg nx pv a l b->nx a∈l++ [b]
 |a,[],h=>by rw[h.1];simp
 |a,x::l,h=>by rw[h.1];simp
theorem seg_end{nx pv:Nat->Nat}{a n:Nat}:∀{s:Nat} {xs:List Nat},Seg nx pv s xs a->(s::xs).Nodup->n∉xs->Seg (upd nx (pv a) n) (upd pv n (pv a)) s xs n
 |s,[],h,_,_=>by
  obtain⟨_,h2⟩:=h;rw[h2];exact⟨upd_same _ _ _,upd_same _ _ _⟩
 |s,x::xs,h,hn,hx=>by
  have hm:=seg_pv_mem h.2.2;have hs:s∉x::xs:=(List.nodup_cons.1 hn).1;refine⟨?_,?_,seg_end h.2.2 (List.nodup_cons.1 hn).2 (λh=>hx (List.mem_cons_of_mem _ h))⟩
  . rw[upd_ne (λe=>hs (by rw[e];exact hm))];exact h.1
  . rw[upd_ne (λe=>hx (by rw[e];simp))];exact h.2.1
theorem unlink{nx pv:Nat->Nat}{a:Nat}{xs ys:List Nat}(h:Seg nx pv 0 (xs++a::ys) 0)(hn:(0::(xs++a::ys)).Nodup):
 Seg (upd nx (pv a) (nx a)) (upd pv (nx a) (pv a)) 0 (xs++ys) 0:=by
 obtain⟨h1,h2⟩:=seg_append.1 h
 have hn1:(0::xs).Nodup:=by
  refine hn.sublist (List.Sublist.cons_cons _ (List.sublist_append_left _ _))
 have hm:=seg_pv_mem h1;cases ys with
 |nil=>
  have e:nx a=0:=h2.1;rw[e,List.append_nil];exact seg_end h1 hn1 (List.nodup_cons.1 hn1).1
 |cons y ys=>
  have e:nx a=y:=h2.1;rw[e];have hq:=(List.nodup_cons.1 hn);have hq2:=List.nodup_append.1 hq.2;have hy:=List.nodup_cons.1 hq2.2.1;have hy2:=List.nodup_cons.1 hy.2;have hyx:y∉xs:=λhx=>hq2.2.2 y hx y (by simp) rfl;refine seg_append.2 ⟨seg_end h1 hn1 hyx,seg_congr h2.2.2 (λi hi=>upd_ne ?_) (λi hi=>upd_ne ?_)⟩
  . intro e;rw[← e] at hm;rcases List.mem_cons.1 hm with h0|h0
    . rw[h0] at hi;exact hq.1 (List.mem_append_right _ (List.mem_cons_of_mem _ hi))
    . exact hq2.2.2 i h0 i (List.mem_cons_of_mem _ hi) rfl
  . intro e;rcases List.mem_append.1 hi with h0|h0
    . exact hy2.1 (e▸h0)
    . have:i=0:=by simpa using h0
      exact hq.1 (by rw[← this,e];simp)
theorem link_front{nx pv:Nat->Nat}{a:Nat}{row:List Nat}(h:Seg nx pv 0 row 0)(hn:(0::row).Nodup)(ha:a∉0::row):
 Seg (upd (upd nx a (nx 0)) 0 a) (upd (upd pv a 0) (nx 0) a) 0 (a::row) 0:=by
 have ha0:a≠0:=λe=>ha (by simp[e]);have har:a∉row:=λe=>ha (List.mem_cons_of_mem _ e);have hnx:=seg_nx_mem h
 have hane:a≠nx 0:=by
  intro e;rw[← e] at hnx;rcases List.mem_append.1 hnx with h0|h0
  . exact har h0
  . exact ha0 (by simpa using h0)
 refine⟨upd_same _ _ _,?_,?_⟩
 . rw[upd_ne hane,upd_same]
 . cases row with
   |nil=>
    have e:nx 0=0:=h.1;refine⟨?_,?_⟩
    . rw[upd_ne ha0,upd_same,e]
    . rw[e,upd_same]
   |cons y row=>
    have e:nx 0=y:=h.1;have h0:=List.nodup_cons.1 hn;have hy:=List.nodup_cons.1 h0.2;refine⟨?_,?_,seg_congr h.2.2 (λi hi=>?_) (λi hi=>?_)⟩
    . rw[upd_ne ha0,upd_same,e]
    . rw[e,upd_same]
    . rw[upd_ne (λe=>h0.1 (by rw[← e];exact hi)),upd_ne (λe=>har (by rw[← e];exact hi))]
    . rw[e,upd_ne ?_,upd_ne ?_]
      . intro e2;rcases List.mem_append.1 hi with h1|h1
        . exact har (by rw[← e2];exact List.mem_cons_of_mem _ h1)
        . exact ha0 (by rw[← e2];simpa using h1)
      . intro e2;rcases List.mem_append.1 hi with h1|h1
        . exact hy.1 (e2▸h1)
        . have:i=0:=by simpa using h1
          exact h0.1 (by rw[← this,e2];simp)
def Fch(nx:Nat->Nat):Nat->List Nat->Prop
 |e,[]=>e=0
 |e,x::l=>e=x/\Fch nx (nx x) l
theorem fch_congr{nx nx':Nat->Nat}:∀{e:Nat} {l:List Nat},Fch nx e l->(∀i∈l,nx' i=nx i)->Fch nx' e l
 |_,[],h,_=>h
 |e,x::l,h,h1=>⟨h.1,by rw[h1 x (by simp)];exact fch_congr h.2 λi hi=>h1 i (List.mem_cons_of_mem _ hi)⟩
theorem filter_split{K:Nat->ByteArray}{xs ys:List Nat}{a:Nat}(hk:((xs++a::ys).map K).Nodup):(xs++a::ys).filter (λi=>decide (K i≠K a))=xs++ys:=by
 rw[List.map_append,List.map_cons] at hk;have h1:=List.nodup_append.1 hk;have h2:=List.nodup_cons.1 h1.2.1;rw[List.filter_append,List.filter_cons_of_neg (by simp)];congr 1
 . rw[List.filter_eq_self];intro i hi;simp only[decide_eq_true_eq];intro e;exact h1.2.2 (K i) (List.mem_map_of_mem hi) (K a) (by simp) e
 . rw[List.filter_eq_self];intro i hi;simp only[decide_eq_true_eq];intro e;exact h2.1 (by rw[← e];exact List.mem_map_of_mem hi)
end Go.Proofs.YtdmmciggopmglaaGreatDoor.Sg
namespace Go.Proofs.YtdmmciggopmglaaGreatDoor
open Go.RowKit Sg
theorem ret_int{k:IntKind}{a b:Int}(h:a=b):Ending.returned (.int k a)= .returned (.int k b):=by rw[h]
theorem ret_kb{s t:ByteArray}{a b:Bool}(h:s=t)(k:a=b):Ending.returned (.tuple #[.string s,.bool a])= .returned (.tuple #[.string t,.bool b]):=by rw[h,k]
theorem ret_bool{a b:Bool}(h:a=b):Ending.returned (.bool a)= .returned (.bool b):=by rw[h]
structure Ar where
 n:Nat
 K:Nat->ByteArray
 pv:Nat->Nat
 nx:Nat->Nat
 e:Nat
structure Turned(w w':World)(a b c:Nat):Prop where
 os:w'.os=w.os
 tape:w'.tape=w.tape
 output:w'.output=w.output
 size:w.heap.size<=w'.heap.size
 block:∀k,k < w.heap.size->k≠a->k≠b->k≠c->w'.heap[k]?=w.heap[k]?
theorem Turned.refl(w:World)(a b c:Nat):Turned w w a b c:=⟨rfl,rfl,rfl,Nat.le_refl _,λ_ _ _ _ _=>rfl⟩
theorem Turned.trans{w w1 w2:World}{a b c:Nat}(h:Turned w w1 a b c)(k:Turned w1 w2 a b c):Turned w w2 a b c:=
 ⟨k.os.trans h.os,k.tape.trans h.tape,k.output.trans h.output,Nat.le_trans h.size k.size,λi hi h1 h2 h3=>(k.block i (Nat.lt_of_lt_of_le hi h.size) h1 h2 h3).trans (h.block i hi h1 h2 h3)⟩
theorem Turned.trans'{w w1 w2:World}{a b c d:Nat}(h:Turned w w1 a b c)(hd:d=c\/w.heap.size<=d)(k:Turned w1 w2 a b d):Turned w w2 a b c:=
 ⟨k.os.trans h.os,k.tape.trans h.tape,k.output.trans h.output,Nat.le_trans h.size k.size,λi hi h1 h2 h3=>(k.block i (Nat.lt_of_lt_of_le hi h.size) h1 h2 (by rcases hd with rfl|hd <;> omega)).trans (h.block i hi h1 h2 h3)⟩
theorem Turned.setCell{w w1:World}{a b c:Nat}(h:Turned w w1 a b c){p:Addr}(hp:p.block=a\/p.block=b\/p.block=c)(u:Value):Turned w (w1.setCell p u) a b c:=
 h.trans ⟨rfl,rfl,rfl,by simp[World.setCell],λk _ h1 h2 h3=>Below.heap_setCell _ _ _ _ (by omega)⟩
theorem Turned.drew{w w1:World}{a b c:Nat}(h:Turned w w1 a b c):Turned w w1.drew a b c:=⟨h.os,h.tape,h.output,h.size,h.block⟩
theorem Turned.alloc{w w1:World}{a b c:Nat}(h:Turned w w1 a b c)(o:Obj):Turned w (w1.alloc o) a b c:=
 h.trans ⟨rfl,rfl,rfl,by simp,λk hk _ _ _=>Below.heap_alloc _ _ _ hk⟩
theorem Turned.grown{w w1 w2:World}{a b c:Nat}{r:Option Nat}(h:Turned w w1 a b c)(g:w1.grownBy w2 r)(hr:∀k,r=some k->k=a\/k=b\/k=c\/w.heap.size<=k):Turned w w2 a b c:=
 ⟨g.os.trans h.os,g.tape.trans h.tape,g.output.trans h.output,Nat.le_trans h.size g.size,λi hi h1 h2 h3=>(g.block i (Nat.lt_of_lt_of_le hi h.size) (λe=>by have:=hr i e.symm;omega)).trans (h.block i hi h1 h2 h3)⟩
theorem Turned.wide{w w':World}{l M P:Nat}(h:Turned w w' l P P):Turned w w' l M P:=⟨h.os,h.tape,h.output,h.size,λk hk h1 _ h3=>h.block k hk h1 h3 h3⟩
structure Holds(w:World)(l M P:Nat)(A:Ar):Prop where
 lM:l≠M
 lP:l≠P
 MP:M≠P
 Mlt:M < w.heap.size
 mem:∃(cap:Nat) (arr:Array Value),w.heap[l]?=some (.cells #[.slice (some ⟨P,0,none⟩) A.n cap,.map (some M),.int .i64 (A.e:Int)] 152 (0,0))/\
  w.heap[P]?=some (.cells arr 210 (0,0))/\arr.size=cap*3/\A.n<=cap/\cap<=maxLen/\
  ∀i,i < A.n->arr[i*3]?=some (.string (A.K i))/\arr[i*3+1]?=some (.int .i64 (A.pv i:Int))/\arr[i*3+2]?=some (.int .i64 (A.nx i:Int))
 pos:1<=A.n
 top:A.n<=100000
 ein:A.e < A.n
 pvin:∀i,i < A.n->A.pv i < A.n
 nxin:∀i,i < A.n->A.nx i < A.n
section
variable{w:World}{l M P:Nat}{A:Ar}
theorem Holds.llt(h:Holds w l M P A):l < w.heap.size:=by obtain⟨cap,arr,h1,_⟩:=h.mem;exact(Array.getElem?_eq_some_iff.1 h1).1
theorem Holds.Plt(h:Holds w l M P A):P < w.heap.size:=by obtain⟨cap,arr,_,h1,_⟩:=h.mem;exact(Array.getElem?_eq_some_iff.1 h1).1
theorem Holds.same{w':World}(h:Holds w l M P A)(hs:w.heap.size<=w'.heap.size)(hl:w'.heap[l]?=w.heap[l]?)(hP:w'.heap[P]?=w.heap[P]?):Holds w' l M P A:=by
 obtain⟨cap,arr,h1,h2,h3⟩:=h.mem;exact⟨h.lM,h.lP,h.MP,Nat.lt_of_lt_of_le h.Mlt hs,⟨cap,arr,hl.trans h1,hP.trans h2,h3⟩,h.pos,h.top,h.ein,h.pvin,h.nxin⟩
theorem Holds.own(h:Holds w l M P A):∃cap,A.n<=cap/\cap<=maxLen/\w.cell? ⟨l,0,none⟩=some (.slice (some ⟨P,0,none⟩) A.n cap)/\w.cell? ⟨l,1,none⟩=some (.map (some M))/\w.cell? ⟨l,2,none⟩=some (.int .i64 (A.e:Int)):=by
 obtain⟨cap,arr,h1,_,_,h4,h5,_⟩:=h.mem;exact⟨cap,h4,h5,cell_of_row w _ 0 _ _ _ h1,cell_of_row w _ 1 _ _ _ h1,cell_of_row w _ 2 _ _ _ h1⟩
theorem Holds.place(h:Holds w l M P A){i:Nat}(hi:i < A.n):w.cell? ⟨P,i*3,none⟩=some (.string (A.K i))/\w.cell? ⟨P,i*3+1,none⟩=some (.int .i64 (A.pv i:Int))/\w.cell? ⟨P,i*3+2,none⟩=some (.int .i64 (A.nx i:Int)):=by
 obtain⟨cap,arr,_,h2,_,_,_,h6⟩:=h.mem;obtain⟨k1,k2,k3⟩:=h6 i hi;exact⟨(cell_of_row w _ _ _ _ _ h2).trans k1,(cell_of_row w _ _ _ _ _ h2).trans k2,(cell_of_row w _ _ _ _ _ h2).trans k3⟩
theorem Holds.freeP(h:Holds w l M P A)(j:Nat):w.frozen? ⟨P,j,none⟩=false:=by
 obtain⟨cap,arr,_,h2,_⟩:=h.mem;exact frozen_of_row w _ j _ _ h2
theorem Holds.freeL(h:Holds w l M P A)(j:Nat):w.frozen? ⟨l,j,none⟩=false:=by
 obtain⟨cap,arr,h1,_⟩:=h.mem;exact frozen_of_row w _ j _ _ h1
theorem Holds.setK(h:Holds w l M P A){i:Nat}(hi:i < A.n)(s:ByteArray):Holds (w.setCell ⟨P,i*3,none⟩ (.string s)) l M P {A with K:=upd A.K i s}:=by
 obtain⟨cap,arr,h1,h2,h3,h4,h5,h6⟩:=h.mem;refine⟨h.lM,h.lP,h.MP,by simpa[World.setCell] using h.Mlt,⟨cap,_,(heap_setCell_other _ _ _ _ h.lP).trans h1,heap_setCell_same _ _ _ _ _ _ h2,by simpa using h3,h4,h5,λj hj=>?_⟩,h.pos,h.top,h.ein,h.pvin,h.nxin⟩;obtain⟨k1,k2,k3⟩:=h6 j hj;refine⟨?_,?_,?_⟩
 . by_cases e:j=i
   . subst e;show _=some (Value.string (upd A.K j s j));rw[upd_same,Array.getElem?_setIfInBounds_self_of_lt (by omega)]
   . show _=some (Value.string (upd A.K i s j));rw[upd_ne e,Array.getElem?_setIfInBounds_ne (by omega)];exact k1
 . rw[Array.getElem?_setIfInBounds_ne (by omega)];exact k2
 . rw[Array.getElem?_setIfInBounds_ne (by omega)];exact k3
theorem Holds.setPv(h:Holds w l M P A){i v:Nat}(hi:i < A.n)(hv:v < A.n):Holds (w.setCell ⟨P,i*3+1,none⟩ (.int .i64 (v:Int))) l M P {A with pv:=upd A.pv i v}:=by
 obtain⟨cap,arr,h1,h2,h3,h4,h5,h6⟩:=h.mem;refine⟨h.lM,h.lP,h.MP,by simpa[World.setCell] using h.Mlt,⟨cap,_,(heap_setCell_other _ _ _ _ h.lP).trans h1,heap_setCell_same _ _ _ _ _ _ h2,by simpa using h3,h4,h5,λj hj=>?_⟩,h.pos,h.top,h.ein,λj hj=>?_,h.nxin⟩
 . obtain⟨k1,k2,k3⟩:=h6 j hj;refine⟨?_,?_,?_⟩
   . rw[Array.getElem?_setIfInBounds_ne (by omega)];exact k1
   . by_cases e:j=i
     . subst e;show _=some (Value.int .i64 ((upd A.pv j v j:Nat):Int));rw[upd_same,Array.getElem?_setIfInBounds_self_of_lt (by omega)]
     . show _=some (Value.int .i64 ((upd A.pv i v j:Nat):Int));rw[upd_ne e,Array.getElem?_setIfInBounds_ne (by omega)];exact k2
   . rw[Array.getElem?_setIfInBounds_ne (by omega)];exact k3
 . show upd A.pv i v j < A.n;unfold upd;split
   . exact hv
   . exact h.pvin j hj
theorem Holds.setNx(h:Holds w l M P A){i v:Nat}(hi:i < A.n)(hv:v < A.n):Holds (w.setCell ⟨P,i*3+2,none⟩ (.int .i64 (v:Int))) l M P {A with nx:=upd A.nx i v}:=by
 obtain⟨cap,arr,h1,h2,h3,h4,h5,h6⟩:=h.mem;refine⟨h.lM,h.lP,h.MP,by simpa[World.setCell] using h.Mlt,⟨cap,_,(heap_setCell_other _ _ _ _ h.lP).trans h1,heap_setCell_same _ _ _ _ _ _ h2,by simpa using h3,h4,h5,λj hj=>?_⟩,h.pos,h.top,h.ein,h.pvin,λj hj=>?_⟩
 . obtain⟨k1,k2,k3⟩:=h6 j hj;refine⟨?_,?_,?_⟩
   . rw[Array.getElem?_setIfInBounds_ne (by omega)];exact k1
   . rw[Array.getElem?_setIfInBounds_ne (by omega)];exact k2
   . by_cases e:j=i
     . subst e;show _=some (Value.int .i64 ((upd A.nx j v j:Nat):Int));rw[upd_same,Array.getElem?_setIfInBounds_self_of_lt (by omega)]
     . show _=some (Value.int .i64 ((upd A.nx i v j:Nat):Int));rw[upd_ne e,Array.getElem?_setIfInBounds_ne (by omega)];exact k3
 . show upd A.nx i v j < A.n;unfold upd;split
   . exact hv
   . exact h.nxin j hj
theorem Holds.setE(h:Holds w l M P A){v:Nat}(hv:v < A.n):Holds (w.setCell ⟨l,2,none⟩ (.int .i64 (v:Int))) l M P {A with e:=v}:=by
 obtain⟨cap,arr,h1,h2,h3,h4,h5,h6⟩:=h.mem;exact⟨h.lM,h.lP,h.MP,by simpa[World.setCell] using h.Mlt,⟨cap,arr,by rw[heap_setCell_same _ _ _ _ _ _ h1];rfl,(heap_setCell_other _ _ _ _ h.lP.symm).trans h2,h3,h4,h5,h6⟩,h.pos,h.top,hv,h.pvin,h.nxin⟩
theorem Holds.drew(h:Holds w l M P A):Holds w.drew l M P A:=h.same (Nat.le_refl _) rfl rfl
theorem Holds.alloc(h:Holds w l M P A)(o:Obj):Holds (w.alloc o) l M P A:=h.same (by simp) (Below.heap_alloc _ _ _ h.llt) (Below.heap_alloc _ _ _ h.Plt)
end
end Go.Proofs.YtdmmciggopmglaaGreatDoor
namespace Go.Proofs.YtdmmciggopmglaaGreatDoor
open Go.RowKit Sg
def KeyPost(s:ByteArray)(b:Bool)(w:World)(e:Ending)(w':World):Prop:=e= .returned (.tuple #[.string s,.bool b])/\w=w'
theorem keyAt_any(w:World)(l M P:Nat)(A:Ar)(i:Nat)(h:Holds w l M P A)(hi:i < A.n):
 Calls Tryz.prog 164 #[.pointer (some ⟨l,0,none⟩),.int .i64 (i:Int)] w (KeyPost (A.K i) (decide (i≠0)) w):=by
 obtain⟨cap,hc1,hc2,c0,_,_⟩:=h.own;obtain⟨k0,_,_⟩:=h.place hi;have ht:=h.top;unfold maxLen at hc2;clear h;go_enter Tryz.func164,Tryz.ntmps164;go_wp2_with fail
 go_ret2
 exact⟨ret_kb rfl (by rw[Bool.eq_iff_iff];simp),rfl⟩
def unl(A:Ar)(i:Nat):Ar:={A with nx:=upd A.nx (A.pv i) (A.nx i),pv:=upd A.pv (A.nx i) (A.pv i)}
def UnlPost(w:World)(l M P:Nat)(A:Ar)(e:Ending)(w':World):Prop:=e= .returned (.tuple #[])/\Holds w' l M P A/\Turned w w' l P P
theorem unl_holds{w:World}{l M P:Nat}{A:Ar}{i p q:Nat}(h:Holds w l M P A)(hp:A.pv i=p)(hq:A.nx i=q)(hp1:p < A.n)(hq1:q < A.n):
 Holds ((w.setCell ⟨P,p*3+2,none⟩ (.int .i64 (q:Int))).setCell ⟨P,q*3+1,none⟩ (.int .i64 (p:Int))).drew l M P (unl A i):=by
 subst hp;subst hq;exact((h.setNx hp1 hq1).setPv (A:={A with nx:=upd A.nx (A.pv i) (A.nx i)}) hq1 hp1).drew
set_option maxHeartbeats 1000000 in
theorem unlink_any(w:World)(l M P:Nat)(A:Ar)(i:Nat)(h:Holds w l M P A)(hi:i < A.n):
 Calls Tryz.prog 144 #[.pointer (some ⟨l,0,none⟩),.int .i64 (i:Int)] w (UnlPost w l M P (unl A i)):=by
 have ht:=h.top;have hp:=h.pvin i hi;have hn:=h.nxin i hi;have llt:=h.llt;have Plt:=h.Plt;have lP:=h.lP;have HH:=Lib.hid h;clear h;obtain⟨p,hp'⟩:∃p,A.pv i=p:=⟨_,rfl⟩;obtain⟨q,hq'⟩:∃q,A.nx i=q:=⟨_,rfl⟩;rw[hp'] at hp;rw[hq'] at hn;have HP:=Lib.hid hp';have HQ:=Lib.hid hq';clear hp' hq';obtain⟨cap,hc1,hc2,c0,_,_⟩:=HH.out.own;obtain⟨k0,k1,k2⟩:=HH.out.place hi;rw[HP.out] at k1;rw[HQ.out] at k2;unfold maxLen at hc2;go_enter Tryz.func144,Tryz.ntmps144;go_wp2_with fail
 clear k0 k1 k2;have HA:=Lib.hid (HH.out.alloc (.cells #[.string (A.K i),.int .i64 (p:Int),.int .i64 (q:Int)] 210));have HT:=Lib.hid ((Turned.refl w l P P).alloc (.cells #[.string (A.K i),.int .i64 (p:Int),.int .i64 (q:Int)] 210));have hw:=heap_alloc_new w (.cells #[.string (A.K i),.int .i64 (p:Int),.int .i64 (q:Int)] 210);have d0:(w.alloc (.cells #[.string (A.K i),.int .i64 (p:Int),.int .i64 (q:Int)] 210)).cell? ⟨l,0,none⟩=some (.slice (some ⟨P,0,none⟩) A.n cap):=(World.cell?_of_block (a:=⟨l,0,none⟩) (Below.heap_alloc w _ l llt)).trans c0;have hbl:w.heap.size≠l:=by omega
 have hbP:w.heap.size≠P:=by omega
 clear c0 HH llt Plt;generalize w.heap.size=b at hw hbl hbP|-;generalize w.alloc (.cells #[.string (A.K i),.int .i64 (p:Int),.int .i64 (q:Int)] 210)=w1 at hw HA HT d0|-;have d1:w1.cell? ⟨b,1,none⟩=some (.int .i64 (p:Int)):=cell_of_row w1 _ 1 _ _ _ hw;have d2:w1.cell? ⟨b,2,none⟩=some (.int .i64 (q:Int)):=cell_of_row w1 _ 2 _ _ _ hw;obtain⟨_,_,k3⟩:=HA.out.place hp;obtain⟨_,k4,_⟩:=HA.out.place hn;have f3:=HA.out.freeP (p*3+2);have f4:=HA.out.freeP (q*3+1);have hne1:p*3+2≠q*3+1:=by omega
 have hne2:q*3+1≠p*3+2:=by omega
 have R:=Lib.hid (unl_holds HA.out HP.out HQ.out hp hn);have RT:=Lib.hid (((HT.out.setCell (p:=⟨P,p*3+2,none⟩) (Or.inr (Or.inr rfl)) (.int .i64 (q:Int))).setCell (p:=⟨P,q*3+1,none⟩) (Or.inr (Or.inr rfl)) (.int .i64 (p:Int))).drew);clear hw;go_region;go_end0;exact⟨rfl,R.out,RT.out⟩
def lnk1(A:Ar)(i j:Nat):Ar:={A with pv:=upd A.pv i j,nx:=upd A.nx i (A.nx j)}
def lnk(A:Ar)(i j:Nat):Ar:={A with pv:=upd (upd A.pv i j) (A.nx j) i,nx:=upd (upd A.nx i (A.nx j)) j i}
theorem lnk_holds1{w:World}{l M P:Nat}{A:Ar}{i j q:Nat}(h:Holds w l M P A)(hq:A.nx j=q)(hi:i < A.n)(hj:j < A.n)(hq1:q < A.n):
 Holds ((w.setCell ⟨P,i*3+1,none⟩ (.int .i64 (j:Int))).setCell ⟨P,i*3+2,none⟩ (.int .i64 (q:Int))).drew l M P (lnk1 A i j):=by
 subst hq;exact((h.setPv hi hj).setNx (A:={A with pv:=upd A.pv i j}) hi hq1).drew
theorem lnk_holds2{w:World}{l M P:Nat}{A:Ar}{i j q:Nat}(h:Holds w l M P (lnk1 A i j))(hq:A.nx j=q)(hi:i < A.n)(hj:j < A.n)(hq1:q < A.n):
 Holds ((w.setCell ⟨P,j*3+2,none⟩ (.int .i64 (i:Int))).setCell ⟨P,q*3+1,none⟩ (.int .i64 (i:Int))).drew l M P (lnk A i j):=by
 subst hq;exact((h.setNx (i:=j) (v:=i) hj hi).setPv (i:=A.nx j) (v:=i) hq1 hi).drew
set_option maxHeartbeats 1000000 in
theorem link_any(w:World)(l M P:Nat)(A:Ar)(i j:Nat)(h:Holds w l M P A)(hi:i < A.n)(hj:j < A.n):
 Calls Tryz.prog 162 #[.pointer (some ⟨l,0,none⟩),.int .i64 (i:Int),.int .i64 (j:Int)] w (UnlPost w l M P (lnk A i j)):=by
 have ht:=h.top;have hn:=h.nxin j hj;have lP:=h.lP;have HH:=Lib.hid h;clear h;obtain⟨q,hq'⟩:∃q,A.nx j=q:=⟨_,rfl⟩;rw[hq'] at hn;have HQ:=Lib.hid hq';clear hq';obtain⟨cap,hc1,hc2,c0,_,_⟩:=HH.out.own;obtain⟨_,_,k2⟩:=HH.out.place hj;rw[HQ.out] at k2;obtain⟨_,k3,k4⟩:=HH.out.place hi;have f3:=HH.out.freeP (i*3+1);have f4:=HH.out.freeP (i*3+2);unfold maxLen at hc2;go_enter Tryz.func162,Tryz.ntmps162;go_wp2_with fail
 clear k2;go_region;have R:=Lib.hid (lnk_holds1 HH.out HQ.out hi hj hn);have RT:=Lib.hid ((((Turned.refl w l P P).setCell (p:=⟨P,i*3+1,none⟩) (Or.inr (Or.inr rfl)) (.int .i64 (j:Int))).setCell (p:=⟨P,i*3+2,none⟩) (Or.inr (Or.inr rfl)) (.int .i64 (q:Int))).drew);clear c0 k3 k4 f3 f4;generalize((w.setCell ⟨P,i*3+1,none⟩ (.int .i64 (j:Int))).setCell ⟨P,i*3+2,none⟩ (.int .i64 (q:Int))).drew=w1 at R RT|-;obtain⟨cap',hc1',hc2',c0,_,_⟩:=R.out.own;have hnn:(lnk1 A i j).n=A.n:=rfl;rw[hnn] at c0 hc1';obtain⟨_,_,k3⟩:=R.out.place (i:=j) hj;obtain⟨_,k4,_⟩:=R.out.place (i:=q) hn;have f3:=R.out.freeP (j*3+2);have f4:=R.out.freeP (q*3+1);have hne1:j*3+2≠q*3+1:=by omega
 have hne2:q*3+1≠j*3+2:=by omega
 have R2:=Lib.hid (lnk_holds2 R.out HQ.out hi hj hn);have RT2:=Lib.hid (((RT.out.setCell (p:=⟨P,j*3+2,none⟩) (Or.inr (Or.inr rfl)) (.int .i64 (i:Int))).setCell (p:=⟨P,q*3+1,none⟩) (Or.inr (Or.inr rfl)) (.int .i64 (i:Int))).drew);clear hnn hc1 hc2;unfold maxLen at hc2';go_wp2_with fail
 go_region;go_end0;exact⟨rfl,R2.out,RT2.out⟩
end Go.Proofs.YtdmmciggopmglaaGreatDoor
namespace Go.Proofs.YtdmmciggopmglaaGreatDoor
open Go.RowKit Sg
theorem wpList_append_run{P:Program}{w:World}{ops:Array Oper}{rest:List Oper}{o:Oper}{a:Act}{Q:Exit->Act->World->Prop}(hgd:o.guard=none)(s x:Operand)(t:TypeId)
 (ho:o.op= .call {callee:= .builtin .append,args:=#[s,x],argTypes:=#[t,t]}) (v u v':Value) (w':World) (hs:a.eval s=v) (hx:a.eval x=u) (hr:(Builtin.append_ #[t,t] o.type #[v,u]).run P w= .ok v' w')
 (h:wpList P ops Q rest (a.put o.dst v') w'):wpList P ops Q (o::rest) a w:=by
 refine wpList_plain hgd λK hK=>?_;unfold Oper.wp execOp;simp only[ho,resolve,invoke,builtin,Sem.run_bind,Sem.run_pure,Result.andThen_ok,List.map_toArray,List.map_cons,List.map_nil,hs,hx,hr];exact hK _ _ h
theorem infoPl:(Tryz.prog.info? 210).map (λi=>(i.zero,i.size,i.bytes))=some (some (.agg #[.string ⟨#[]⟩,.int .i64 0,.int .i64 0]),3,32):=by kernel_rfl
def grow(A:Ar):Ar:=⟨A.n+1,upd A.K A.n ⟨#[]⟩,upd A.pv A.n 0,upd A.nx A.n 0,A.e⟩
theorem take_get{cur:Array Value}{xs news:List Value}{m:Nat}(h:cur.toList.take m=xs++news)(j:Nat)(hj:j < m):cur[j]?=(xs++news)[j]?:=by
 rw[← h,List.getElem?_take,if_pos hj];simp
theorem app_place{w:World}{P cap:Nat}{arr:Array Value}{A:Ar}(hP:w.heap[P]?=some (.cells arr 210 (0,0)))(h3:arr.size=cap*3)(h4:A.n<=cap)(h5:cap<=maxLen)(ht:A.n<=99999)
 (h6:∀i,i < A.n->arr[i*3]?=some (.string (A.K i))/\arr[i*3+1]?=some (.int .i64 (A.pv i:Int))/\arr[i*3+2]?=some (.int .i64 (A.nx i:Int))):
 ∃(P' cap':Nat) (arr':Array Value) (w2:World),(Builtin.append_ #[150,150] 150 #[.slice (some ⟨P,0,none⟩) A.n cap,.slice (some ⟨w.heap.size,0,none⟩) 1 1]).run Tryz.prog
    (w.alloc (.cells #[.string ⟨#[]⟩,.int .i64 0,.int .i64 0] 210))= .ok (.slice (some ⟨P',0,none⟩) (A.n+1) cap') w2/\
  (P'=P\/P'=w.heap.size+1)/\(w.alloc (.cells #[.string ⟨#[]⟩,.int .i64 0,.int .i64 0] 210)).grownBy w2 (some P)/\w2.heap[P']?=some (.cells arr' 210 (0,0))/\arr'.size=cap'*3/\A.n+1<=cap'/\cap'<=maxLen/\
  ∀i,i < A.n+1->arr'[i*3]?=some (.string ((grow A).K i))/\arr'[i*3+1]?=some (.int .i64 ((grow A).pv i:Int))/\arr'[i*3+2]?=some (.int .i64 ((grow A).nx i:Int)):=by
 obtain⟨i0,hi,hz0,hz1,hz2⟩:=info_parts infoPl;have hlt:P < w.heap.size:=(Array.getElem?_eq_some_iff.1 hP).1
 have hcell:∀j u,[Value.string ⟨#[]⟩,Value.int .i64 0,Value.int .i64 0][j]?=some u->(w.alloc (.cells #[.string ⟨#[]⟩,.int .i64 0,.int .i64 0] 210)).cell? ((⟨w.heap.size,0,none⟩:Addr).add j)=some u:=by
  intro j u hj;rw[show(⟨w.heap.size,0,none⟩:Addr).add j=⟨w.heap.size,j,none⟩ by unfold Addr.add;split <;> simp_all,cell_of_row _ _ _ _ _ _ (heap_alloc_new w _)];simpa using hj
 have hown:w.ownsRow 0 210 3 (.slice (some ⟨P,0,none⟩) A.n cap) A.n (arr.toList.take (A.n*3)):=
  ⟨by rw[List.length_take,Array.length_toList];omega,Or.inr ⟨P,cap,arr,rfl,Nat.zero_le _,hP,h4,h5,h3,rfl⟩⟩
 obtain⟨v',w2,hrun,hown2,hg,hnil,hloc⟩:=run_append_own_at (P:=Tryz.prog) (w.alloc (.cells #[.string ⟨#[]⟩,.int .i64 0,.int .i64 0] 210)) 0 150 150 210 i0 _ 3 32
  Tryz.underlying150 hi hz0 hz1 hz2 rfl (by decide) _ _ _ (hown.alloc _) ⟨w.heap.size,0,none⟩ 1 1 [.string ⟨#[]⟩,.int .i64 0,.int .i64 0] rfl hcell (by simp[Value.oneCell']) (by unfold maxLen;omega) (by omega) (Nat.zero_le _)
 obtain⟨hlen,hcase⟩:=hown2;rcases hcase with⟨_,h0⟩|⟨P',cap',cur,rfl,_,hP',hn',hcm,hcs,htk⟩
 . omega
 refine⟨P',cap',cur,w2,hrun,?_,hg,hP',hcs,hn',hcm,?_⟩
 . simp only[Value.ownBlock,Option.some.injEq] at hloc;rcases hloc with h|h
   . exact Or.inl h
   . exact Or.inr (by simpa using h)
 . have hl:(arr.toList.take (A.n*3)).length=A.n*3:=by rw[List.length_take,Array.length_toList];omega
   intro i hi
   by_cases e:i=A.n
   . subst e
     have g:∀k,k < 3->cur[A.n*3+k]?= [Value.string ⟨#[]⟩,Value.int .i64 0,Value.int .i64 0][k]?:=λk hk=>by
      rw[take_get htk _ (by omega),List.getElem?_append_right (by omega),hl];congr 1;omega
     have g0:=g 0 (by omega);have g1:=g 1 (by omega);have g2:=g 2 (by omega);refine⟨?_,?_,?_⟩
     . show _=some (Value.string (upd A.K A.n ⟨#[]⟩ A.n));rw[upd_same];simpa using g0
     . show _=some (Value.int .i64 ((upd A.pv A.n 0 A.n:Nat):Int));rw[upd_same];simpa using g1
     . show _=some (Value.int .i64 ((upd A.nx A.n 0 A.n:Nat):Int));rw[upd_same];simpa using g2
   . have g:∀k,k < 3->cur[i*3+k]?=arr[i*3+k]?:=λk hk=>by
      rw[take_get htk _ (by omega),List.getElem?_append_left (by omega),List.getElem?_take,if_pos (by omega)];simp
     obtain⟨k1,k2,k3⟩:=h6 i (by omega);refine⟨?_,?_,?_⟩
     . show _=some (Value.string (upd A.K A.n ⟨#[]⟩ i));rw[upd_ne e];exact(g 0 (by omega)).trans k1
     . show _=some (Value.int .i64 ((upd A.pv A.n 0 i:Nat):Int));rw[upd_ne e];exact(g 1 (by omega)).trans k2
     . show _=some (Value.int .i64 ((upd A.nx A.n 0 i:Nat):Int));rw[upd_ne e];exact(g 2 (by omega)).trans k3
def TakeOld(w:World)(l M P:Nat)(A:Ar)(e:Ending)(w':World):Prop:=e= .returned (.int .i64 (A.e:Int))/\Holds w' l M P {A with e:=A.nx A.e}/\Turned w w' l P P
theorem take_old(w:World)(l M P:Nat)(A:Ar)(h:Holds w l M P A)(he:A.e≠0):
 Calls Tryz.prog 169 #[.pointer (some ⟨l,0,none⟩)] w (TakeOld w l M P A):=by
 obtain⟨cap,hc1,hc2,c0,c1,c2⟩:=h.own;obtain⟨_,_,k2⟩:=h.place h.ein;have ht:=h.top;have hei:=h.ein;have hnx:=h.nxin _ h.ein;have fl:=h.freeL 2;have e0:((A.e:Int)==0)=false:=by simp;omega
 have R:=Lib.hid (h.setE hnx);have RT:=Lib.hid ((Turned.refl w l P P).setCell (p:=⟨l,2,none⟩) (Or.inl rfl) (.int .i64 (A.nx A.e:Int)));unfold maxLen at hc2;clear h he;go_enter Tryz.func169,Tryz.ntmps169;go_wp2_with fail
 go_ret;exact⟨rfl,R.out,RT.out⟩
def TakeNew(w:World)(l M P:Nat)(A:Ar)(e:Ending)(w':World):Prop:=∃P',(P'=P\/w.heap.size<=P')/\e= .returned (.int .i64 (A.n:Int))/\Holds w' l M P' (grow A)/\Turned w w' l P P
theorem grow_holds{w w2:World}{l M P P' cap':Nat}{A:Ar}{arr':Array Value}(h:Holds w l M P A)(ht:A.n<=99999)(hP:P'=P\/P'=w.heap.size+1)
 (hg:(w.alloc (.cells #[.string ⟨#[]⟩,.int .i64 0,.int .i64 0] 210)).grownBy w2 (some P)) (hP':w2.heap[P']?=some (.cells arr' 210 (0,0))) (hs:arr'.size=cap'*3) (hc:A.n+1<=cap') (hm:cap'<=maxLen)
 (h6:∀i,i < A.n+1->arr'[i*3]?=some (.string ((grow A).K i))/\arr'[i*3+1]?=some (.int .i64 ((grow A).pv i:Int))/\arr'[i*3+2]?=some (.int .i64 ((grow A).nx i:Int))):
 Holds (w2.setCell ⟨l,0,none⟩ (.slice (some ⟨P',0,none⟩) (A.n+1) cap')) l M P' (grow A)/\Turned w (w2.setCell ⟨l,0,none⟩ (.slice (some ⟨P',0,none⟩) (A.n+1) cap')) l P P:=by
 have llt:=h.llt;have Mlt:=h.Mlt;have lP:=h.lP;have MP:=h.MP;have hsz:=hg.size;rw[show(w.alloc (.cells #[.string ⟨#[]⟩,.int .i64 0,.int .i64 0] 210)).heap.size=w.heap.size+1 by simp] at hsz;obtain⟨cap,arr,h1,_⟩:=h.mem
 have hl2:w2.heap[l]?=some (.cells #[.slice (some ⟨P,0,none⟩) A.n cap,.map (some M),.int .i64 (A.e:Int)] 152 (0,0)):=by
  rw[hg.block l (by simp;omega) (by simpa using lP),Below.heap_alloc _ _ _ llt];exact h1
 refine⟨⟨h.lM,by omega,by omega,by simp[World.setCell];omega,⟨cap',arr',?_,?_,hs,hc,hm,h6⟩,by show 1<=A.n+1;omega,by show A.n+1<=100000;omega,?_,λi hi=>?_,λi hi=>?_⟩,?_⟩
 . rw[heap_setCell_same _ _ _ _ _ _ hl2];rfl
 . rw[heap_setCell_other _ _ _ _ (show P'≠l by omega)];exact hP'
 . have:=h.ein;show A.e < A.n+1;omega
 . have hi':i < A.n+1:=hi;show upd A.pv A.n 0 i < A.n+1;unfold upd;split
   . omega
   . have:=h.pvin i (by omega);omega
 . have hi':i < A.n+1:=hi;show upd A.nx A.n 0 i < A.n+1;unfold upd;split
   . omega
   . have:=h.nxin i (by omega);omega
 . exact(((Turned.refl w l P P).alloc _).grown hg (λk hk=>by cases hk;exact Or.inr (Or.inr (Or.inl rfl)))).setCell (Or.inl rfl) _
set_option maxHeartbeats 1000000 in
theorem take_new(w:World)(l M P:Nat)(A:Ar)(h:Holds w l M P A)(he:A.e=0)(ht:A.n<=99999):
 Calls Tryz.prog 169 #[.pointer (some ⟨l,0,none⟩)] w (TakeNew w l M P A):=by
 obtain⟨cap,arr,h1,hP,h3,h4,h5,h6⟩:=h.mem;have c0:w.cell? ⟨l,0,none⟩=some (.slice (some ⟨P,0,none⟩) A.n cap):=cell_of_row w _ 0 _ _ _ h1;have c2:w.cell? ⟨l,2,none⟩=some (.int .i64 0):=by rw[cell_of_row w _ 2 _ _ _ h1,he];rfl
 obtain⟨P',cap',arr',w2,hrun,hloc,hg,hP',hs',hc',hm',h6'⟩:=app_place hP h3 h4 h5 ht h6;have R:=Lib.hid (grow_holds h ht hloc hg hP' hs' hc' hm' h6');have HP:=Lib.hid hloc;have HR:=Lib.hid hrun;have llt:=h.llt;have lP:=h.lP
 have d0:w2.cell? ⟨l,0,none⟩=some (.slice (some ⟨P,0,none⟩) A.n cap):=by
  rw[World.cell?_of_block (a:=⟨l,0,none⟩) (hg.block l (by simp;omega) (by simpa using lP)),World.cell?_of_block (a:=⟨l,0,none⟩) (Below.heap_alloc _ _ _ llt)];exact c0
 have fl:w2.frozen? ⟨l,0,none⟩=false:=by
  rw[World.frozen?_of_block (a:=⟨l,0,none⟩) (hg.block l (by simp;omega) (by simpa using lP)),World.frozen?_of_block (a:=⟨l,0,none⟩) (Below.heap_alloc _ _ _ llt)];exact h.freeL 0
 clear hrun hloc hg hP' hs' hc' hm' h6' h6 h5 h4 h3 hP h1 h;go_enter Tryz.func169,Tryz.ntmps169;go_wp2_with(at_builtin;refine wpList_append_run rfl _ _ _ rfl _ _ _ _ rfl rfl HR.out ?_)
 go_ret;exact⟨P',HP.out.imp id (λh=>by omega),ret_int (by omega),R.out.1,R.out.2⟩
end Go.Proofs.YtdmmciggopmglaaGreatDoor
namespace Go.Proofs.YtdmmciggopmglaaGreatDoor
open Go.RowKit Go.Maps Go.WideMaps
theorem lawS:Keyed Tryz.prog 9:=string_keyed Tryz.underlying9
theorem zeroI(w:World):(zeroValue 3).run Tryz.prog w= .ok (.int .i64 0) w:=by kernel_rfl
theorem i64_wf{z:Int}(h: -9223372036854775808<=z/\z<=9223372036854775807):(Lit.int .i64 z).wf=true:=by
 refine(Bool.and_eq_true _ _).mpr ⟨decide_eq_true h.1,decide_eq_true h.2⟩
theorem str_ne{s t:ByteArray}(h:s≠t):(Lit.string s.data.toList)≠ .string t.data.toList:=by
 intro e;injection e with e
 exact h (ByteArray.ext (Array.toList_inj.1 e))
theorem owns_size{H:Type}{P:Program}{k:TypeId}{R:Value->Option (DataW H × List MemPlace)}{w:World}{b n:Nat}{D:DataW H}(h:w.ownsMap P k R b n D):w.ownsMap P k R b (Maps.size D) D:=by
 obtain⟨es,clock,hb,F,_,rfl⟩:=h;exact⟨es,clock,hb,F,by simp[Maps.size,length_sorted],rfl⟩
theorem owns_same{H:Type}{P:Program}{k:TypeId}{R:Value->Option (DataW H × List MemPlace)}{w w':World}{b n:Nat}{D:DataW H}(h:w.ownsMap P k R b n D)(hs:w'.heap[b]?=w.heap[b]?):w'.ownsMap P k R b n D:=by
 obtain⟨es,clock,hb,r⟩:=h;exact⟨es,clock,hs.trans hb,r⟩
def fput(f:ByteArray->Option Nat)(s:ByteArray)(v:Nat):ByteArray->Option Nat:=λt=>if t=s then some v else f t
def fdel(f:ByteArray->Option Nat)(s:ByteArray):ByteArray->Option Nat:=λt=>if t=s then none else f t
def Mp(w:World)(b:Nat)(f:ByteArray->Option Nat)(n:Nat):Prop:=∃D:DataW Unit,w.ownsMap Tryz.prog 9 (plainElem Tryz.prog 3) b n D/\Maps.size D=n/\
 ∀s:ByteArray,Maps.has D (.string s.data.toList)=(f s).isSome/\D.atKey (.string s.data.toList) (.lit (.int .i64 0))= .lit (.int .i64 (((f s).getD 0:Nat):Int))
section
variable{w:World}{b n:Nat}{f:ByteArray->Option Nat}
theorem Mp.made(w:World):Mp (w.alloc (.map #[] 0)) w.heap.size (λ_=>none) 0:=⟨.map [],World.ownsMap_made w _ _ _,rfl,λ_=>⟨rfl,rfl⟩⟩
theorem Mp.same{w':World}(h:Mp w b f n)(hs:w'.heap[b]?=w.heap[b]?):Mp w' b f n:=by
 obtain⟨D,h1,h2⟩:=h;exact⟨D,owns_same h1 hs,h2⟩
theorem Mp.lt(h:Mp w b f n):b < w.heap.size:=by
 obtain⟨D,h1,_⟩:=h;exact h1.lt
theorem Mp.look(h:Mp w b f n){s:ByteArray}(hs:s.size<=maxLen):
 (Instr.lookup 111 (.map (some b)) (.string s) true).run Tryz.prog w= .ok (.tuple #[.int .i64 (((f s).getD 0:Nat):Int),.bool (f s).isSome]) w:=by
 obtain⟨D,h1,_,h3⟩:=h;obtain⟨v,ps,hrun,hv⟩:=h1.look_ok lawS Tryz.underlying111 (zeroI w) (plainElem_int Tryz.underlying3 (i64_wf (by omega))) (keyOf_string_mk Tryz.underlying9 hs);obtain⟨c,rfl,hc,_⟩:=plainElem_int_inv Tryz.underlying3 hv;have hc:=congrArg Prod.fst hc;simp only[(h3 s).2] at hc;injection hc with hc
 injection hc with _ hc
 rw[hrun,(h3 s).1,hc]
theorem Mp.len(h:Mp w b f n)(ty:TypeId):(Builtin.len_ #[111] ty #[.map (some b)]).run Tryz.prog w= .ok (.int .i64 (n:Int)) w:=by
 obtain⟨D,h1,h2,_⟩:=h;rw[h1.len Tryz.underlying111 ty,h2]
theorem Mp.store(h:Mp w b f n){s:ByteArray}(hs:s.size<=maxLen)(hn:n<=100000000)(hf:f s=none){v:Nat}(hv:v<=100000000):
 ∃w',(Instr.mapUpdate 111 (.map (some b)) (.string s) (.int .i64 (v:Int))).run Tryz.prog w= .ok () w'/\Mp w' b (fput f s v) (n+1)/\w.grownBy w' (some b):=by
 obtain⟨D,h1,h2,h3⟩:=h;obtain⟨w',hrun,hown,hg⟩:=h1.update lawS Tryz.underlying111 (by unfold maxLen;omega) (keyOf_string_mk Tryz.underlying9 hs) (plainElem_int Tryz.underlying3 (i64_wf (z:=(v:Int)) (by omega)));have hk:WideAt.IsKeyLit (.string s.data.toList):=trivial;refine⟨w',hrun,⟨_,hown,?_,λt=>?_⟩,hg⟩
 . rw[size_put (h1.tidy lawS),(h3 s).1,hf,h2];rfl
 . unfold fput
   by_cases e:t=s
   . subst e;rw[if_pos rfl,has_put_same h1.isMap hk,atKey_put_same h1.isMap hk];exact⟨rfl,rfl⟩
   . rw[if_neg e,has_put_other (str_ne e),atKey_put_other (str_ne e)];exact h3 t
theorem Mp.drop(h:Mp w b f (n+1)){s:ByteArray}(hs:s.size<=maxLen)(hf:(f s).isSome=true)(ty:TypeId):
 ∃w',(Builtin.delete_ #[111,9] ty #[.map (some b),.string s]).run Tryz.prog w= .ok (.tuple #[]) w'/\Mp w' b (fdel f s) n/\w.grownBy w' (some b):=by
 obtain⟨D,h1,h2,h3⟩:=h;obtain⟨w',hrun,hown,hg⟩:=h1.drop lawS Tryz.underlying111 (keyOf_string_mk Tryz.underlying9 hs) ty
 have hsz:Maps.size (D.del (.string s.data.toList))=n:=by
  have:=size_del (k:= .string s.data.toList) (h1.tidy lawS);rw[(h3 s).1,hf,h2] at this;simpa using this
 refine⟨w',hrun,⟨_,hsz▸owns_size hown,hsz,λt=>?_⟩,hg.grown⟩;unfold fdel
 by_cases e:t=s
 . subst e;rw[if_pos rfl,has_del_same,atKey_del_same];exact⟨rfl,rfl⟩
 . rw[if_neg e,has_del_other (str_ne e),atKey_del_other (str_ne e)];exact h3 t
end
end Go.Proofs.YtdmmciggopmglaaGreatDoor
namespace Go.Proofs.YtdmmciggopmglaaGreatDoor
open Go.RowKit Sg
def rem(xs:List ByteArray)(k:ByteArray):List ByteArray:=xs.filter λx=>decide (x≠k)
theorem rem_none{xs:List ByteArray}{k:ByteArray}(h:k∉xs):rem xs k=xs:=by
 unfold rem;rw[List.filter_eq_self];intro x hx;simp only[decide_eq_true_eq];intro e;exact h (e▸hx)
theorem rem_not{xs:List ByteArray}{k:ByteArray}:k∉rem xs k:=by simp[rem]
theorem rem_mem{xs:List ByteArray}{k x:ByteArray}:x∈rem xs k<->x∈xs/\x≠k:=by simp[rem]
theorem rem_nodup{xs:List ByteArray}{k:ByteArray}(h:xs.Nodup):(rem xs k).Nodup:=h.sublist List.filter_sublist
theorem rem_le(xs:List ByteArray)(k:ByteArray):(rem xs k).length<=xs.length:=List.length_filter_le _ _
def inn(xs:List ByteArray)(s:ByteArray):Bool:=xs.any λx=>decide (x=s)
theorem inn_iff{xs:List ByteArray}{s:ByteArray}:inn xs s=true<->s∈xs:=by simp[inn]
theorem inn_no{xs:List ByteArray}{s:ByteArray}:inn xs s=false<->s∉xs:=by rw[← inn_iff];simp
structure Good(A:Ar)(row free:List Nat)(f:ByteArray->Option Nat):Prop where
 ring:Seg A.nx A.pv 0 row 0
 chain:Fch A.nx A.e free
 nodup:(0::(row++free)).Nodup
 lt:∀i∈row++free,i < A.n
 len:row.length+free.length+1=A.n
 root:A.K 0=⟨#[]⟩
 keys:(row.map A.K).Nodup
 small:∀i∈row,(A.K i).size<=maxLen
 spot:∀s i,f s=some i<->i∈row/\A.K i=s
structure Loose(A:Ar)(row free:List Nat)(f:ByteArray->Option Nat)(a:Nat):Prop where
 ring:Seg A.nx A.pv 0 row 0
 chain:Fch A.nx A.e free
 nodup:(0::a::(row++free)).Nodup
 lt:∀i∈a::(row++free),i < A.n
 len:row.length+free.length+2=A.n
 root:A.K 0=⟨#[]⟩
 keys:((a::row).map A.K).Nodup
 small:∀i∈a::row,(A.K i).size<=maxLen
 spot:∀s i,f s=some i<->i∈a::row/\A.K i=s
section
variable{A:Ar}{row free:List Nat}{f:ByteArray->Option Nat}{a:Nat}
theorem Good.ringNodup(h:Good A row free f):(0::row).Nodup:=h.nodup.sublist (List.Sublist.cons_cons _ (List.sublist_append_left _ _))
theorem Good.absent(h:Good A row free f){s:ByteArray}(hs:f s=none):s∉row.map A.K:=by
 intro hm;obtain⟨i,hi,rfl⟩:=List.mem_map.1 hm;have:=(h.spot (A.K i) i).2 ⟨hi,rfl⟩;rw[hs] at this;cases this
theorem Good.isSome(h:Good A row free f)(s:ByteArray):(f s).isSome=inn (row.map A.K) s:=by
 cases hs:f s with
 |none=>exact(inn_no.2 (h.absent hs)).symm
 |some i=>
  obtain⟨hi,hk⟩:=(h.spot s i).1 hs;exact(inn_iff.2 (by rw[← hk];exact List.mem_map_of_mem hi)).symm
theorem map_filter(K:Nat->ByteArray)(s:ByteArray):∀row:List Nat,(row.filter λi=>decide (K i≠s)).map K=rem (row.map K) s
 | []=>rfl
 |x::row=>by
  have ih:=map_filter K s row;unfold rem at ih|-;rw[List.map_cons,List.filter_cons,List.filter_cons]
  by_cases e:K x=s
  . simp only[e,ne_eq,not_true_eq_false,decide_false,Bool.false_eq_true,if_false];exact ih
  . simp only[e,ne_eq,not_false_eq_true,decide_true,if_true,List.map_cons];rw[ih]
theorem Good.loosed(h:Good A row free f)(ha:a∈row):Loose (unl A a) (row.filter λi=>decide (A.K i≠A.K a)) free f a:=by
 obtain⟨xs,ys,rfl⟩:=List.append_of_mem ha;have hf:=filter_split h.keys;rw[hf];have hn0:=List.nodup_cons.1 h.nodup;have hn1:=List.nodup_append.1 hn0.2;have hperm:(xs++a::ys).Perm (a::(xs++ys)):=List.perm_middle
 have hn:(0::a::(xs++ys++free)).Nodup:=by
  refine(List.Perm.nodup_iff ?_).1 h.nodup;exact List.Perm.cons _ ((hperm.append_right free))
 have hmem:∀i,i∈a::(xs++ys)<->i∈xs++a::ys:=λi=>hperm.symm.mem_iff;refine⟨unlink h.ring h.ringNodup,?_,hn,?_,?_,h.root,?_,?_,?_⟩
 . refine fch_congr h.chain λi hi=>upd_ne ?_;intro e;have hp:=seg_pv_mem (seg_append.1 h.ring).1;rw[← e] at hp;rcases List.mem_cons.1 hp with h0|h0
   . exact hn0.1 (by rw[← h0];exact List.mem_append_right _ hi)
   . exact hn1.2.2 i (List.mem_append_left _ h0) i hi rfl
 . intro i hi;refine h.lt i ?_;rcases List.mem_cons.1 hi with rfl|h0
   . exact List.mem_append_left _ ha
   . rcases List.mem_append.1 h0 with h1|h1
     . exact List.mem_append_left _ ((hmem i).1 (List.mem_cons_of_mem _ h1))
     . exact List.mem_append_right _ h1
 . have:=h.len;show _=A.n;simp only[List.length_append,List.length_cons] at this|-;omega
 . exact(List.Perm.nodup_iff (hperm.map A.K)).1 h.keys
 . exact λi hi=>h.small i ((hmem i).1 hi)
 . intro s i;rw[h.spot s i,hmem i];exact Iff.rfl
theorem Good.taken(h:Good A row free f)(he:A.e≠0){s:ByteArray}(hs:f s=none)(hsz:s.size<=maxLen):
 ∃free',free=A.e::free'/\Loose {A with e:=A.nx A.e,K:=upd A.K A.e s} row free' (fput f s A.e) A.e:=by
 have hc:=h.chain;cases hfr:free with
 |nil=>rw[hfr] at hc;exact absurd hc he
 |cons x free'=>
  rw[hfr] at hc;obtain⟨hx,hc⟩:=hc;subst hfr;subst hx;have hn0:=List.nodup_cons.1 h.nodup;have hn1:=List.nodup_append.1 hn0.2;have hn2:=List.nodup_cons.1 hn1.2.1;have hperm:(row++A.e::free').Perm (A.e::(row++free')):=List.perm_middle;have her:A.e∉row:=λhr=>hn1.2.2 A.e hr A.e (by simp) rfl;have hK:∀i∈row,upd A.K A.e s i=A.K i:=λi hi=>upd_ne (λe=>her (e▸hi));have hmap:row.map (upd A.K A.e s)=row.map A.K:=List.map_congr_left hK;refine⟨free',rfl,h.ring,hc,?_,?_,?_,?_,?_,?_,?_⟩
  . exact(List.Perm.nodup_iff (hperm.cons 0)).1 h.nodup
  . exact λi hi=>h.lt i (hperm.symm.mem_iff.1 hi)
  . have:=h.len;show _=A.n;simp only[List.length_cons] at this;omega
  . show upd A.K A.e s 0=_;rw[upd_ne (λe=>he e.symm)];exact h.root
  . show((A.e::row).map (upd A.K A.e s)).Nodup;rw[List.map_cons,hmap,upd_same];exact List.nodup_cons.2 ⟨h.absent hs,h.keys⟩
  . intro i hi;show(upd A.K A.e s i).size<=maxLen;rcases List.mem_cons.1 hi with rfl|h0
    . rw[upd_same];exact hsz
    . rw[hK i h0];exact h.small i h0
  . intro t i;show fput f s A.e t=some i<->i∈A.e::row/\upd A.K A.e s i=t;unfold fput
    by_cases e:t=s
    . subst e;rw[if_pos rfl];constructor
      . intro h1;cases h1;exact⟨by simp,upd_same _ _ _⟩
      . rintro⟨h1,h2⟩;rcases List.mem_cons.1 h1 with rfl|h0
        . rfl
        . rw[hK i h0] at h2;exact absurd (by rw[← h2];exact List.mem_map_of_mem h0) (h.absent hs)
    . rw[if_neg e,h.spot t i];constructor
      . rintro⟨h1,h2⟩;exact⟨List.mem_cons_of_mem _ h1,by rw[hK i h1];exact h2⟩
      . rintro⟨h1,h2⟩;rcases List.mem_cons.1 h1 with rfl|h0
        . rw[upd_same] at h2;exact absurd h2.symm e
        . rw[hK i h0] at h2;exact⟨h0,h2⟩
theorem Good.grown(h:Good A row free f)(he:A.e=0){s:ByteArray}(hs:f s=none)(hsz:s.size<=maxLen):
 free= []/\Loose {grow A with K:=upd (grow A).K A.n s} row [] (fput f s A.n) A.n:=by
 have hc:=h.chain;have hn0:=List.nodup_cons.1 h.nodup;cases hfr:free with
 |cons x free'=>
  rw[hfr] at hc;exact absurd (hc.1.symm.trans he) (λe=>hn0.1 (by rw[← e,hfr];simp))
 |nil=>
  subst hfr;rw[List.append_nil] at hn0;have hlt:∀i∈row,i < A.n:=λi hi=>h.lt i (by rw[List.append_nil];exact hi);have hne:∀i∈row,i≠A.n:=λi hi=>by have:=hlt i hi;omega
  have hlen:=h.len;rw[List.length_nil] at hlen
  have hK:∀i∈row,upd (grow A).K A.n s i=A.K i:=λi hi=>by
   rw[upd_ne (hne i hi)];exact upd_ne (hne i hi)
  have hmap:row.map (upd (grow A).K A.n s)=row.map A.K:=List.map_congr_left hK;refine⟨rfl,?_,?_,?_,?_,?_,?_,?_,?_,?_⟩
  . refine seg_congr h.ring (λi hi=>upd_ne ?_) (λi hi=>upd_ne ?_)
    . rcases List.mem_cons.1 hi with rfl|h0
      . omega
      . exact hne i h0
    . rcases List.mem_append.1 hi with h0|h0
      . exact hne i h0
      . have:i=0:=by simpa using h0
        omega
  . show A.e=0;exact he
  . rw[List.append_nil];refine List.nodup_cons.2 ⟨?_,List.nodup_cons.2 ⟨λhr=>hne _ hr rfl,hn0.2⟩⟩;intro hm;rcases List.mem_cons.1 hm with h0|h0
    . omega
    . exact hn0.1 h0
  . intro i hi;rw[List.append_nil] at hi;show i < A.n+1;rcases List.mem_cons.1 hi with rfl|h0
    . omega
    . have:=hlt i h0;omega
  . show _=A.n+1;simp only[List.length_nil];omega
  . show upd (upd A.K A.n ⟨#[]⟩) A.n s 0=_;rw[upd_ne (by omega),upd_ne (by omega)];exact h.root
  . show((A.n::row).map (upd (grow A).K A.n s)).Nodup;rw[List.map_cons,hmap,upd_same];exact List.nodup_cons.2 ⟨h.absent hs,h.keys⟩
  . intro i hi;show(upd (grow A).K A.n s i).size<=maxLen;rcases List.mem_cons.1 hi with rfl|h0
    . rw[upd_same];exact hsz
    . rw[hK i h0];exact h.small i h0
  . intro t i;show fput f s A.n t=some i<->i∈A.n::row/\upd (grow A).K A.n s i=t;unfold fput
    by_cases e:t=s
    . subst e;rw[if_pos rfl];constructor
      . intro h1;cases h1;exact⟨by simp,upd_same _ _ _⟩
      . rintro⟨h1,h2⟩;rcases List.mem_cons.1 h1 with rfl|h0
        . rfl
        . rw[hK i h0] at h2;exact absurd (by rw[← h2];exact List.mem_map_of_mem h0) (h.absent hs)
    . rw[if_neg e,h.spot t i];constructor
      . rintro⟨h1,h2⟩;exact⟨List.mem_cons_of_mem _ h1,by rw[hK i h1];exact h2⟩
      . rintro⟨h1,h2⟩;rcases List.mem_cons.1 h1 with rfl|h0
        . rw[upd_same] at h2;exact absurd h2.symm e
        . rw[hK i h0] at h2;exact⟨h0,h2⟩
theorem Loose.out(h:Loose A row free f a):(0::row).Nodup/\a∉0::row/\a∉free/\0∉free/\(∀i∈row,i∉free):=by
 have h0:=List.nodup_cons.1 h.nodup;have h1:=List.nodup_cons.1 h0.2;have h2:=List.nodup_append.1 h1.2;refine⟨List.nodup_cons.2 ⟨λhr=>h0.1 (List.mem_cons_of_mem _ (List.mem_append_left _ hr)),h2.1⟩,?_,λhr=>h1.1 (List.mem_append_right _ hr),λhr=>h0.1 (List.mem_cons_of_mem _ (List.mem_append_right _ hr)),λi h3 h4=>h2.2.2 i h3 i h4 rfl⟩;intro hm;rcases List.mem_cons.1 hm with h3|h3
 . exact h0.1 (by rw[h3];simp)
 . exact h1.1 (List.mem_append_left _ h3)
theorem Loose.front(h:Loose A row free f a):Good (lnk A a 0) (a::row) free f:=by
 obtain⟨h1,h2,h3,h4,h5⟩:=h.out;refine⟨link_front h.ring h1 h2,?_,h.nodup,h.lt,by have:=h.len;show _=A.n;simp only[List.length_cons];omega,h.root,h.keys,h.small,h.spot⟩;refine fch_congr h.chain λi hi=>?_;show upd (upd A.nx a (A.nx 0)) 0 a i=A.nx i;rw[upd_ne (λe=>h4 (by rw[← e];exact hi)),upd_ne (λe=>h3 (by rw[← e];exact hi))]
def emp(A:Ar)(a:Nat):Ar:={A with K:=upd A.K a ⟨#[]⟩,pv:=upd A.pv a 0,nx:=upd A.nx a A.e,e:=a}
theorem Loose.freed(h:Loose A row free f a):Good (emp A a) row (a::free) (fdel f (A.K a)):=by
 obtain⟨h1,h2,h3,h4,h5⟩:=h.out;have ha0:a≠0:=λe=>h2 (by simp[e]);have har:a∉row:=λe=>h2 (List.mem_cons_of_mem _ e);have hne:∀i∈row,i≠a:=λi hi e=>har (e▸hi);have hperm:(a::(row++free)).Perm (row++a::free):=List.perm_middle.symm;have hmap:row.map (upd A.K a ⟨#[]⟩)=row.map A.K:=List.map_congr_left λi hi=>upd_ne (hne i hi);have hkeys:=List.nodup_cons.1 (by have:=h.keys;rw[List.map_cons] at this;exact this);refine⟨?_,⟨rfl,?_⟩,(List.Perm.nodup_iff (hperm.cons 0)).1 h.nodup,λi hi=>h.lt i (hperm.mem_iff.2 hi),by have:=h.len;show _=A.n;simp only[List.length_cons];omega,?_,?_,?_,?_⟩
 . refine seg_congr h.ring (λi hi=>upd_ne (λe=>h2 (e▸hi))) (λi hi=>upd_ne ?_);rcases List.mem_append.1 hi with h6|h6
   . exact hne i h6
   . have:i=0:=by simpa using h6
     omega
 . show Fch (upd A.nx a A.e) (upd A.nx a A.e a) free;rw[upd_same];exact fch_congr h.chain λi hi=>upd_ne (λe=>h3 (e▸hi))
 . show upd A.K a ⟨#[]⟩ 0=_;rw[upd_ne (Ne.symm ha0)];exact h.root
 . show(row.map (upd A.K a ⟨#[]⟩)).Nodup;rw[hmap];exact hkeys.2
 . intro i hi;show(upd A.K a ⟨#[]⟩ i).size<=maxLen;rw[upd_ne (hne i hi)];exact h.small i (List.mem_cons_of_mem _ hi)
 . intro s i;show fdel f (A.K a) s=some i<->i∈row/\upd A.K a ⟨#[]⟩ i=s;unfold fdel
   by_cases e:s=A.K a
   . rw[if_pos e];constructor
     . intro h6;cases h6
     . rintro⟨h6,h7⟩;rw[upd_ne (hne i h6),e] at h7;exact absurd (by rw[← h7];exact List.mem_map_of_mem h6) hkeys.1
   . rw[if_neg e,h.spot s i];constructor
     . rintro⟨h6,h7⟩;rcases List.mem_cons.1 h6 with rfl|h8
       . exact absurd h7.symm e
       . exact⟨h8,by rw[upd_ne (hne i h8)];exact h7⟩
     . rintro⟨h6,h7⟩;rw[upd_ne (hne i h6)] at h7;exact⟨List.mem_cons_of_mem _ h6,h7⟩
theorem Good.first(h:Good A row free f):A.K (A.nx 0)=(row.map A.K).headD ⟨#[]⟩/\decide (A.nx 0≠0)=!(row.map A.K).isEmpty/\A.nx 0 < A.n:=by
 have hr:=h.ring;cases hrow:row with
 |nil=>
  rw[hrow] at hr;have e:A.nx 0=0:=hr.1;rw[e];exact⟨h.root,rfl,by have:=h.len;omega⟩
 |cons x row'=>
  rw[hrow] at hr;have e:A.nx 0=x:=hr.1;have h0:=(List.nodup_cons.1 h.nodup).1;rw[hrow] at h0;rw[e];refine⟨rfl,?_,h.lt x (by rw[hrow];simp)⟩;rw[Bool.eq_iff_iff];simp only[decide_eq_true_eq,List.map_cons,List.isEmpty_cons,Bool.not_false,iff_true];exact λe=>h0 (by rw[e];simp)
theorem Good.last(h:Good A row free f):A.K (A.pv 0)=(row.map A.K).getLastD ⟨#[]⟩/\decide (A.pv 0≠0)=!(row.map A.K).isEmpty/\A.pv 0 < A.n:=by
 have hr:=h.ring;rcases List.eq_nil_or_concat row with rfl|⟨row',x,rfl⟩
 . have e:A.pv 0=0:=hr.2;rw[e];exact⟨h.root,rfl,by have:=h.len;omega⟩
 . rw[List.concat_eq_append] at*;have e:A.pv 0=x:=(seg_append.1 hr).2.2;have h0:=(List.nodup_cons.1 h.nodup).1;rw[e];refine⟨by simp,?_,h.lt x (by simp)⟩;rw[Bool.eq_iff_iff];simp only[decide_eq_true_eq,List.map_append,List.map_cons,List.map_nil];constructor
   . intro _;simp
   . intro _ e;exact h0 (by rw[e];simp)
end
end Go.Proofs.YtdmmciggopmglaaGreatDoor
namespace Go.Proofs.YtdmmciggopmglaaGreatDoor
open Go.RowKit Sg
def Lst(w:World)(l M P:Nat)(xs:List ByteArray)(m:Nat):Prop:=∃(A:Ar) (row free:List Nat) (f:ByteArray->Option Nat),Holds w l M P A/\Mp w M f row.length/\Good A row free f/\xs=row.map A.K/\A.n=m+1
def LoosePost(w:World)(l M P:Nat)(xs:List ByteArray)(m:Nat)(key:ByteArray)(e:Ending)(w':World):Prop:=
 ∃(P' a:Nat) (A:Ar) (row free:List Nat) (f:ByteArray->Option Nat),e= .returned (.int .i64 (a:Int))/\(P'=P\/w.heap.size<=P')/\Holds w' l M P' A/\Mp w' M f (row.length+1)/\Loose A row free f a/\A.K a=key/\row.map A.K=rem xs key/\
  A.n=max m ((rem xs key).length+1)+1/\Turned w w' l M P
theorem Holds.own1{w:World}{l M P:Nat}{A:Ar}(h:Holds w l M P A):w.cell? ⟨l,1,none⟩=some (.map (some M)):=by
 obtain⟨_,_,_,_,h,_⟩:=h.own;exact h
theorem filter_len(row:List Nat)(K:Nat->ByteArray)(a:Nat)(ha:a∈row)(hk:(row.map K).Nodup):(row.filter λi=>decide (K i≠K a)).length+1=row.length:=by
 obtain⟨xs,ys,rfl⟩:=List.append_of_mem ha;rw[filter_split hk];simp only[List.length_append,List.length_cons];omega
set_option maxHeartbeats 1000000 in
theorem loose_here(w:World)(l M P:Nat)(A:Ar)(row free:List Nat)(f:ByteArray->Option Nat)(m:Nat)(key:ByteArray)(a:Nat)(h:Holds w l M P A)(hM:Mp w M f row.length)(hG:Good A row free f)(hn:A.n=m+1)(hs:key.size<=maxLen)(hf:f key=some a):
 Calls Tryz.prog 161 #[.pointer (some ⟨l,0,none⟩),.string key] w (LoosePost w l M P (row.map A.K) m key):=by
 obtain⟨ha,hk⟩:=(hG.spot key a).1 hf;have hlt:=hG.lt a (List.mem_append_left _ ha);have c1:=h.own1;have hl:=hM.look hs;rw[hf] at hl;have U:=Lib.hid (unlink_any w l M P A a h hlt);have HG:=Lib.hid hG;have HM:=Lib.hid hM;have HK:=Lib.hid hk;have HA:=Lib.hid ha;have HN:=Lib.hid hn;have Mlt:=h.Mlt;have lM:=h.lM;have MP:=h.MP;clear h hG hM hk ha hn hf;simp only[Option.getD_some,Option.isSome_some] at hl;go_enter Tryz.func161,Tryz.ntmps161;go_wp2_with fail
 refine U.out.mono ?_;rintro e w1 ⟨rfl,hH,hT⟩;have H1:=Lib.hid hH;have T1:=Lib.hid hT;clear hH hT c1 hl;go_wp2_with fail
 go_ret;refine⟨P,a,_,_,free,f,rfl,Or.inl rfl,H1.out,?_,HG.out.loosed HA.out,HK.out,?_,?_,T1.out.wide⟩
 . rw[filter_len _ _ _ HA.out HG.out.keys];exact HM.out.same (T1.out.block M Mlt (Ne.symm lM) MP MP)
 . show(row.filter λi=>decide (A.K i≠A.K a)).map A.K=_;rw[map_filter,HK.out]
 . show A.n=_;have h1:=filter_len _ _ _ HA.out HG.out.keys;have h2:=HG.out.len;have h3:=map_filter A.K (A.K a) row;rw[HK.out] at h3 h1;rw[← h3,List.length_map,HN.out];have h4:=HN.out;omega
theorem laid_key{w w1:World}{l M P P':Nat}{A:Ar}{f:ByteArray->Option Nat}{n a:Nat}{key:ByteArray}(hT:Turned w w1 l P P)(hP:P'=P\/w.heap.size<=P')(hH:Holds w1 l M P' A)(hM:Mp w M f n)(Mlt:M < w.heap.size)(lM:l≠M)(MP:M≠P)
 (ha:a < A.n) (hs:key.size<=maxLen) (hn:n<=100000000) (hf:f key=none):
 ∃w3,(Instr.mapUpdate 111 (.map (some M)) (.string key) (.int .i64 (a:Int))).run Tryz.prog (w1.setCell ⟨P',a*3,none⟩ (.string key))= .ok () w3/\Holds w3 l M P' {A with K:=upd A.K a key}/\Mp w3 M (fput f key a) (n+1)/\Turned w w3 l M P:=by
 have ht:=hH.top
 have hM1:Mp (w1.setCell ⟨P',a*3,none⟩ (.string key)) M f n:=by
  refine hM.same ?_;rw[heap_setCell_other _ _ _ _ (show M≠P' from hH.MP)];exact hT.block M Mlt (Ne.symm lM) MP MP
 obtain⟨w3,hrun,hM3,hg⟩:=hM1.store hs hn hf (v:=a) (by omega);have hH2:=hH.setK ha key;refine⟨w3,hrun,hH2.same hg.size (hg.block l hH2.llt (by simpa using lM)) (hg.block P' hH2.Plt (by simpa using Ne.symm hH.MP)),hM3,?_⟩;refine(Turned.trans' (d:=P') hT.wide hP ((Turned.refl w1 l M P').setCell (p:=⟨P',a*3,none⟩) (Or.inr (Or.inr rfl)) _)).grown hg ?_;intro k hk;cases hk;exact Or.inr (Or.inl rfl)
set_option maxHeartbeats 1000000 in
theorem loose_old(w:World)(l M P:Nat)(A:Ar)(row free:List Nat)(f:ByteArray->Option Nat)(m:Nat)(key:ByteArray)(h:Holds w l M P A)(hM:Mp w M f row.length)(hG:Good A row free f)(hn:A.n=m+1)(hs:key.size<=maxLen)(hf:f key=none)(he:A.e≠0):
 Calls Tryz.prog 161 #[.pointer (some ⟨l,0,none⟩),.string key] w (LoosePost w l M P (row.map A.K) m key):=by
 have c1:=h.own1;have hl:=hM.look hs;rw[hf] at hl;have U:=Lib.hid (take_old w l M P A h he);obtain⟨free',hfr,hL⟩:=hG.taken he hf hs;have HL:=Lib.hid hL;have HG:=Lib.hid hG;have HM:=Lib.hid hM;have HN:=Lib.hid hn;have HF:=Lib.hid hf;have HFR:=Lib.hid hfr;have hei:=h.ein;have ht:=h.top;have Mlt:=h.Mlt;have lM:=h.lM;have MP:=h.MP;have hrl:row.length<=100000000:=by have:=hG.len;omega
 clear h hG hM hn hf hL hfr he;simp only[Option.getD_none,Option.isSome_none] at hl;go_enter Tryz.func161,Tryz.ntmps161;go_wp2_with fail
 refine U.out.mono ?_;rintro e w1 ⟨rfl,hH,hT⟩;have H1:=Lib.hid hH;have T1:=Lib.hid hT;obtain⟨cap,hc1,hc2,d0,d1,_⟩:=hH.own;obtain⟨k0,_,_⟩:=hH.place (i:=A.e) hei;have fr:=hH.freeP (A.e*3);have lP:=hH.lP;have hc1':A.n<=cap:=hc1;obtain⟨w3,hrun,hH3,hM3,hT3⟩:=laid_key hT (Or.inl rfl) hH HM.out Mlt lM MP (a:=A.e) hei hs hrl HF.out;have H3:=Lib.hid hH3;have M3:=Lib.hid hM3;have T3:=Lib.hid hT3;clear hH hT c1 hl hH3 hM3 hT3 hc1;unfold maxLen at hc2;go_wp2_with fail
 go_ret;have hab:=HG.out.absent HF.out;have hL:=HL.out;have her:A.e∉row:=λhr=>hL.out.2.1 (List.mem_cons_of_mem _ hr);refine⟨P,A.e,_,row,free',_,rfl,Or.inl rfl,H3.out,M3.out,HL.out,upd_same _ _ _,?_,?_,T3.out⟩
 . rw[rem_none hab];exact List.map_congr_left λi hi=>upd_ne (λe=>her (e▸hi))
 . show A.n=_;rw[rem_none hab,List.length_map];have h1:=HG.out.len;have h2:=HN.out;rw[HFR.out,List.length_cons] at h1;omega
set_option maxHeartbeats 1000000 in
theorem loose_new(w:World)(l M P:Nat)(A:Ar)(row free:List Nat)(f:ByteArray->Option Nat)(m:Nat)(key:ByteArray)(h:Holds w l M P A)(hM:Mp w M f row.length)(hG:Good A row free f)(hn:A.n=m+1)(hs:key.size<=maxLen)(hf:f key=none)(he:A.e=0)(hm:m<=99000):
 Calls Tryz.prog 161 #[.pointer (some ⟨l,0,none⟩),.string key] w (LoosePost w l M P (row.map A.K) m key):=by
 have c1:=h.own1;have hl:=hM.look hs;rw[hf] at hl;have U:=Lib.hid (take_new w l M P A h he (by omega));obtain⟨hfr,hL⟩:=hG.grown he hf hs;have HL:=Lib.hid hL;have HG:=Lib.hid hG;have HM:=Lib.hid hM;have HN:=Lib.hid hn;have HF:=Lib.hid hf;have HFR:=Lib.hid hfr;have ht:A.n<=99999:=by omega
 have Mlt:=h.Mlt;have lM:=h.lM;have MP:=h.MP;have hrl:row.length<=100000000:=by have:=hG.len;omega
 clear h hG hM hn hf hL hfr he;simp only[Option.getD_none,Option.isSome_none] at hl;go_enter Tryz.func161,Tryz.ntmps161;go_wp2_with fail
 refine U.out.mono ?_;rintro e w1 ⟨P',hP',rfl,hH,hT⟩;have HP:=Lib.hid hP';have hei:A.n < (grow A).n:=by show A.n < A.n+1;omega
 obtain⟨cap,hc1,hc2,d0,d1,_⟩:=hH.own;obtain⟨k0,_,_⟩:=hH.place (i:=A.n) hei;have fr:=hH.freeP (A.n*3);have lP:=hH.lP;have hgn:(grow A).n=A.n+1:=rfl;rw[hgn] at hc1 d0;obtain⟨w3,hrun,hH3,hM3,hT3⟩:=laid_key hT hP' hH HM.out Mlt lM MP (a:=A.n) hei hs hrl HF.out;have H3:=Lib.hid hH3;have M3:=Lib.hid hM3;have T3:=Lib.hid hT3;clear hH hT c1 hl hH3 hM3 hT3 hP' hei hgn;unfold maxLen at hc2;go_wp2_with fail
 go_ret;have hab:=HG.out.absent HF.out;have hL:=HL.out;have her:A.n∉row:=λhr=>hL.out.2.1 (List.mem_cons_of_mem _ hr);refine⟨P',A.n,_,row,[],_,rfl,HP.out,H3.out,M3.out,HL.out,upd_same _ _ _,?_,?_,T3.out⟩
 . rw[rem_none hab]
   exact List.map_congr_left λi hi=>by
    have hne:i≠A.n:=λe=>her (e▸hi);show upd (upd A.K A.n ⟨#[]⟩) A.n key i=_;rw[upd_ne hne,upd_ne hne]
 . show A.n+1=_;rw[rem_none hab,List.length_map];have h1:=HG.out.len;have h2:=HN.out;rw[HFR.out,List.length_nil] at h1;omega
theorem loose_any(w:World)(l M P:Nat)(xs:List ByteArray)(m:Nat)(key:ByteArray)(h:Lst w l M P xs m)(hs:key.size<=maxLen)(hm:m<=99000):
 Calls Tryz.prog 161 #[.pointer (some ⟨l,0,none⟩),.string key] w (LoosePost w l M P xs m key):=by
 obtain⟨A,row,free,f,h1,h2,h3,rfl,h5⟩:=h;cases hf:f key with
 |some a=>exact loose_here w l M P A row free f m key a h1 h2 h3 h5 hs hf
 |none=>
  by_cases he:A.e=0
  . exact loose_new w l M P A row free f m key h1 h2 h3 h5 hs hf he hm
  . exact loose_old w l M P A row free f m key h1 h2 h3 h5 hs hf he
end Go.Proofs.YtdmmciggopmglaaGreatDoor
namespace Go.Proofs.YtdmmciggopmglaaGreatDoor
open Go.RowKit Sg
theorem Lst.llt{w:World}{l M P m:Nat}{xs:List ByteArray}(h:Lst w l M P xs m):l < w.heap.size/\M < w.heap.size/\P < w.heap.size:=by
 obtain⟨A,row,free,f,h1,_⟩:=h;exact⟨h1.llt,h1.Mlt,h1.Plt⟩
theorem Lst.nodup{w:World}{l M P m:Nat}{xs:List ByteArray}(h:Lst w l M P xs m):xs.Nodup:=by
 obtain⟨A,row,free,f,_,_,h3,rfl,_⟩:=h;exact h3.keys
theorem Lst.small{w:World}{l M P m:Nat}{xs:List ByteArray}(h:Lst w l M P xs m):∀x∈xs,x.size<=maxLen:=by
 obtain⟨A,row,free,f,_,_,h3,rfl,_⟩:=h;intro x hx;obtain⟨i,hi,rfl⟩:=List.mem_map.1 hx;exact h3.small i hi
theorem Lst.le{w:World}{l M P m:Nat}{xs:List ByteArray}(h:Lst w l M P xs m):xs.length<=m/\m<=99999:=by
 obtain⟨A,row,free,f,h1,_,h3,rfl,h5⟩:=h;have:=h3.len;have:=h1.top;rw[List.length_map];omega
theorem Lst.same{w w':World}{l M P m:Nat}{xs:List ByteArray}(h:Lst w l M P xs m)(hs:w.heap.size<=w'.heap.size)(hl:w'.heap[l]?=w.heap[l]?)(hM:w'.heap[M]?=w.heap[M]?)(hP:w'.heap[P]?=w.heap[P]?):Lst w' l M P xs m:=by
 obtain⟨A,row,free,f,h1,h2,h3⟩:=h;exact⟨A,row,free,f,h1.same hs hl hP,h2.same hM,h3⟩
theorem Lst.below{w w':World}{l M P m:Nat}{xs:List ByteArray}(h:Lst w l M P xs m)(hb:Below w.heap.size w w'):Lst w' l M P xs m:=
 h.same hb.size (hb.block _ h.llt.1) (hb.block _ h.llt.2.1) (hb.block _ h.llt.2.2)
def IntPost(z:Int)(w:World)(e:Ending)(w':World):Prop:=e= .returned (.int .i64 z)/\w=w'
def BoolPost(b:Bool)(w:World)(e:Ending)(w':World):Prop:=e= .returned (.bool b)/\w=w'
def OpPost(v:Value)(w:World)(l M P:Nat)(xs:List ByteArray)(m:Nat)(e:Ending)(w':World):Prop:=∃P',e= .returned v/\(P'=P\/w.heap.size<=P')/\Lst w' l M P' xs m/\Turned w w' l M P
def lastKey(xs:List ByteArray):ByteArray:=xs.getLastD ⟨#[]⟩
def anyKey(xs:List ByteArray):Bool:=!xs.isEmpty
theorem len_any(w:World)(l M P:Nat)(xs:List ByteArray)(m:Nat)(h:Lst w l M P xs m):
 Calls Tryz.prog 137 #[.pointer (some ⟨l,0,none⟩)] w (IntPost (xs.length:Int) w):=by
 obtain⟨A,row,free,f,h1,h2,h3,rfl,h5⟩:=h;have c1:=h1.own1;have hl:=λty=>h2.len ty;rw[List.length_map];clear h1 h2 h3 h5;go_enter Tryz.func137,Tryz.ntmps137;go_wp2_with fail
 go_ret;exact⟨rfl,rfl⟩
theorem has_any(w:World)(l M P:Nat)(xs:List ByteArray)(m:Nat)(key:ByteArray)(h:Lst w l M P xs m)(hs:key.size<=maxLen):
 Calls Tryz.prog 145 #[.pointer (some ⟨l,0,none⟩),.string key] w (BoolPost (inn xs key) w):=by
 obtain⟨A,row,free,f,h1,h2,h3,rfl,h5⟩:=h;have c1:=h1.own1;have hl:=h2.look hs;have E:=Lib.hid (h3.isSome key);clear h1 h2 h3 h5;go_enter Tryz.func145,Tryz.ntmps145;go_wp2_with fail
 go_ret;exact⟨ret_bool E.out,rfl⟩
theorem last_any(w:World)(l M P:Nat)(xs:List ByteArray)(m:Nat)(h:Lst w l M P xs m):
 Calls Tryz.prog 154 #[.pointer (some ⟨l,0,none⟩)] w (KeyPost (lastKey xs) (anyKey xs) w):=by
 obtain⟨A,row,free,f,h1,h2,h3,rfl,h5⟩:=h;obtain⟨cap,hc1,hc2,c0,_,_⟩:=h1.own;have ht:=h1.top;have hp:=h1.pos;obtain⟨g1,g2,g3⟩:=h3.last;have k2:w.cell? ⟨P,1,none⟩=some (.int .i64 (A.pv 0:Int)):=by have:=(h1.place (i:=0) hp).2.1;simpa using this
 have U:=Lib.hid (show Calls Tryz.prog 164 #[.pointer (some ⟨l,0,none⟩),.int .i64 (A.pv 0:Int)] w (KeyPost (lastKey (row.map A.K)) (anyKey (row.map A.K)) w) by
  have:=keyAt_any w l M P A (A.pv 0) h1 g3;rw[g1,g2] at this;exact this)
 unfold maxLen at hc2;clear h1 h2 h3 h5 g1 g2;go_enter Tryz.func154,Tryz.ntmps154;go_wp2_with fail
 refine U.out.mono ?_;rintro e w1 ⟨rfl,rfl⟩;go_wp2_with fail
 go_ret2
 exact⟨rfl,rfl⟩
theorem front_any(w:World)(l M P:Nat)(xs:List ByteArray)(m:Nat)(key:ByteArray)(h:Lst w l M P xs m)(hs:key.size<=maxLen)(hm:m<=99000):
 Calls Tryz.prog 151 #[.pointer (some ⟨l,0,none⟩),.string key] w (OpPost (.tuple #[]) w l M P (key::rem xs key) (max m ((rem xs key).length+1))):=by
 have U:=Lib.hid (loose_any w l M P xs m key h hs hm);clear h;go_enter Tryz.func151,Tryz.ntmps151;go_wp2_with fail
 refine U.out.mono ?_;rintro e w1 ⟨P',a,A,row,free,f,rfl,hP,hH,hM,hL,hk,hr,hn,hT⟩;have U2:=Lib.hid (link_any w1 l M P' A a 0 hH (hL.lt a (by simp)) hH.pos);have HP:=Lib.hid hP;have HH:=Lib.hid hH;have HM:=Lib.hid hM;have HL:=Lib.hid hL;have HK:=Lib.hid hk;have HR:=Lib.hid hr;have HN:=Lib.hid hn;have HT:=Lib.hid hT;clear hP hH hM hL hk hr hn hT U;go_wp2_with fail
 refine Calls.mono U2.out ?_;rintro e w2 ⟨rfl,hH2,hT2⟩;go_wp2_with fail
 go_end0;have hH:=HH.out;refine⟨P',rfl,HP.out,⟨_,a::row,free,f,hH2,?_,HL.out.front,?_,HN.out⟩,HT.out.trans' HP.out hT2.wide⟩
 . rw[List.length_cons];exact HM.out.same (hT2.block M hH.Mlt (Ne.symm hH.lM) hH.MP hH.MP)
 . show _=(a::row).map A.K;rw[List.map_cons,HK.out,HR.out]
theorem remove_none(w:World)(l M P:Nat)(xs:List ByteArray)(m:Nat)(key:ByteArray)(h:Lst w l M P xs m)(hs:key.size<=maxLen)(hi:inn xs key=false):
 Calls Tryz.prog 136 #[.pointer (some ⟨l,0,none⟩),.string key] w (OpPost (.bool (inn xs key)) w l M P (rem xs key) m):=by
 have HH:=Lib.hid h;obtain⟨A,row,free,f,h1,h2,h3,rfl,h5⟩:=h;have c1:=h1.own1;have hl:=h2.look hs;rw[h3.isSome key,hi] at hl;have E:=Lib.hid hi;clear h1 h2 h3 h5 hi;go_enter Tryz.func136,Tryz.ntmps136;go_wp2_with fail
 go_ret;exact⟨P,ret_bool E.out.symm,Or.inl rfl,by rw[rem_none (inn_no.1 E.out)];exact HH.out,Turned.refl _ _ _ _⟩
theorem emp_holds{w:World}{l M P:Nat}{A:Ar}{a ae:Nat}(h:Holds w l M P A)(ha:a < A.n)(he:A.e=ae):
 Holds ((((w.setCell ⟨P,a*3,none⟩ (.string ⟨#[]⟩)).setCell ⟨P,a*3+1,none⟩ (.int .i64 0)).setCell ⟨P,a*3+2,none⟩ (.int .i64 (ae:Int))).setCell ⟨l,2,none⟩ (.int .i64 (a:Int))).drew l M P (emp A a):=by
 subst he;have h1:=h.setK ha ⟨#[]⟩;have h2:=h1.setPv (i:=a) (v:=0) ha h.pos;have h3:=h2.setNx (i:=a) (v:=A.e) ha h.ein;exact(h3.setE ha).drew
set_option maxHeartbeats 1000000 in
theorem remove_some(w:World)(l M P:Nat)(A:Ar)(row free:List Nat)(f:ByteArray->Option Nat)(m:Nat)(key:ByteArray)(a:Nat)(h:Holds w l M P A)(hM:Mp w M f row.length)(hG:Good A row free f)(hn:A.n=m+1)(hs:key.size<=maxLen)(hf:f key=some a):
 Calls Tryz.prog 136 #[.pointer (some ⟨l,0,none⟩),.string key] w (OpPost (.bool (inn (row.map A.K) key)) w l M P (rem (row.map A.K) key) m):=by
 obtain⟨ha,hk⟩:=(hG.spot key a).1 hf;have hi:inn (row.map A.K) key=true:=by rw[← hG.isSome,hf];rfl
 have hlt:=hG.lt a (List.mem_append_left _ ha);have c1:=h.own1;have hl:=hM.look hs;rw[hf] at hl;have U:=Lib.hid (unlink_any w l M P A a h hlt);have hrl:=filter_len _ _ _ ha hG.keys;have HG:=Lib.hid hG;have HM:=Lib.hid hM;have HK:=Lib.hid hk;have HA:=Lib.hid ha;have HN:=Lib.hid hn;have HF:=Lib.hid hf;have HI:=Lib.hid hi;have HRL:=Lib.hid hrl;have Mlt:=h.Mlt;have lM:=h.lM;have lP:=h.lP;have MP:=h.MP;have ht:=h.top;clear h hG hM hk ha hn hf hi hrl;simp only[Option.getD_some,Option.isSome_some] at hl;go_enter Tryz.func136,Tryz.ntmps136;go_wp2_with fail
 refine U.out.mono ?_;rintro e w1 ⟨rfl,hH,hT⟩;have H1:=Lib.hid hH;have T1:=Lib.hid hT;clear hl c1 U;have d1:=hH.own1;have hM1:=HM.out.same (w':=w1) (hT.block M Mlt (Ne.symm lM) MP MP);rw[← HRL.out] at hM1;obtain⟨w2,hdel,hM2,hg2⟩:=hM1.drop hs (by rw[HF.out];rfl) 0;have hdel':∀ty,(Builtin.delete_ #[111,9] ty #[.map (some M),.string key]).run Tryz.prog w1= .ok (.tuple #[]) w2:=λ_=>hdel;have hH2:=hH.same hg2.size (hg2.block l hH.llt (by simpa using lM)) (hg2.block P hH.Plt (by simpa using Ne.symm MP));have H2:=Lib.hid hH2;have M2:=Lib.hid hM2;have G2:=Lib.hid hg2;clear hH hT hM1 hdel hM2 hg2;obtain⟨cap,hc1,hc2,e0,e1,e2⟩:=hH2.own;have hlt2:a < (unl A a).n:=hlt;obtain⟨k0,k1,k2⟩:=hH2.place hlt2;have f0:=hH2.freeP (a*3);have f1:=hH2.freeP (a*3+1);have f2:=hH2.freeP (a*3+2);have fl:=hH2.freeL 2;have hun:(unl A a).n=A.n:=rfl;rw[hun] at hc1 e0;obtain⟨ae,hae⟩:∃ae,(unl A a).e=ae:=⟨_,rfl⟩;rw[hae] at e2;have R:=Lib.hid (emp_holds (a:=a) hH2 hlt2 hae);clear hH2 hae hun hlt2;unfold maxLen at hc2;go_wp2_with fail
 go_region;go_wp2_with fail
 go_ret;have hG2:=(HG.out.loosed HA.out).freed;rw[show(unl A a).K a=key from HK.out] at hG2;refine⟨P,ret_bool HI.out.symm,Or.inl rfl,⟨_,_,a::free,fdel f key,R.out,?_,hG2,?_,HN.out⟩,?_⟩
 . refine M2.out.same ?_;show(World.setCell _ _ _).heap[_]?=_
   rw[heap_setCell_other _ _ _ _ (Ne.symm lM),heap_setCell_other _ _ _ _ MP,heap_setCell_other _ _ _ _ MP,heap_setCell_other _ _ _ _ MP]
 . rw[← HK.out,<-map_filter];refine List.map_congr_left λi hi=>?_
   have hne:i≠a:=by
    rintro rfl;simp at hi
   show A.K i=upd A.K a ⟨#[]⟩ i;rw[upd_ne hne]
 . exact(((((T1.out.wide.grown G2.out (λk hk=>by cases hk;exact Or.inr (Or.inl rfl))).setCell (p:=⟨P,a*3,none⟩) (Or.inr (Or.inr rfl)) _).setCell (p:=⟨P,a*3+1,none⟩) (Or.inr (Or.inr rfl)) _).setCell (p:=⟨P,a*3+2,none⟩) (Or.inr (Or.inr rfl)) _).setCell (p:=⟨l,2,none⟩) (Or.inl rfl) _).drew
theorem remove_any(w:World)(l M P:Nat)(xs:List ByteArray)(m:Nat)(key:ByteArray)(h:Lst w l M P xs m)(hs:key.size<=maxLen):
 Calls Tryz.prog 136 #[.pointer (some ⟨l,0,none⟩),.string key] w (OpPost (.bool (inn xs key)) w l M P (rem xs key) m):=by
 have h':=h;obtain⟨A,row,free,f,h1,h2,h3,rfl,h5⟩:=h;cases hf:f key with
 |some a=>exact remove_some w l M P A row free f m key a h1 h2 h3 h5 hs hf
 |none=>exact remove_none w l M P _ m key h' hs (by rw[← h3.isSome,hf];rfl)
theorem dropLast_rem{xs:List ByteArray}(h:xs.Nodup)(h0:xs≠ []):rem xs (lastKey xs)=xs.dropLast/\lastKey xs∈xs:=by
 rcases List.eq_nil_or_concat xs with rfl|⟨ys,x,rfl⟩
 . exact absurd rfl h0
 . rw[List.concat_eq_append] at*;have h1:=List.nodup_append.1 h;have e:lastKey (ys++ [x])=x:=by simp[lastKey]
   rw[e];refine⟨?_,by simp⟩;have hx:x∉ys:=λhx=>h1.2.2 x hx x (by simp) rfl;unfold rem;rw[List.filter_append];have:=rem_none hx;unfold rem at this;rw[this];simp
theorem pop_none(w:World)(l M P:Nat)(m:Nat)(h:Lst w l M P [] m):
 Calls Tryz.prog 143 #[.pointer (some ⟨l,0,none⟩)] w (OpPost (.tuple #[.string ⟨#[]⟩,.bool false]) w l M P [] m):=by
 have HH:=Lib.hid h;have U:=Lib.hid (show Calls Tryz.prog 154 #[.pointer (some ⟨l,0,none⟩)] w (KeyPost ⟨#[]⟩ false w) from last_any w l M P [] m h);clear h;go_enter Tryz.func143,Tryz.ntmps143;go_wp2_with fail
 refine U.out.mono ?_;rintro e w1 ⟨rfl,rfl⟩;go_wp2_with fail
 go_ret2
 exact⟨P,rfl,Or.inl rfl,HH.out,Turned.refl _ _ _ _⟩
theorem pop_some(w:World)(l M P:Nat)(xs:List ByteArray)(m:Nat)(h:Lst w l M P xs m)(h0:xs≠ []):
 Calls Tryz.prog 143 #[.pointer (some ⟨l,0,none⟩)] w (OpPost (.tuple #[.string (lastKey xs),.bool true]) w l M P xs.dropLast m):=by
 have hd:=dropLast_rem h.nodup h0;have ha:anyKey xs=true:=by cases xs <;> simp_all [anyKey]
 have U:=Lib.hid (last_any w l M P xs m h);have U2:=Lib.hid (remove_any w l M P xs m (lastKey xs) h (h.small _ hd.2));rw[ha] at U;rw[hd.1] at U2;clear h h0 hd ha;go_enter Tryz.func143,Tryz.ntmps143;go_wp2_with fail
 refine U.out.mono ?_;rintro e w1 ⟨rfl,rfl⟩;go_wp2_with fail
 refine U2.out.mono ?_;rintro e w1 ⟨P',rfl,hP,hL,hT⟩;have HP:=Lib.hid hP;have HL:=Lib.hid hL;have HT:=Lib.hid hT;clear hP hL hT;go_wp2_with fail
 go_ret2
 exact⟨P',rfl,HP.out,HL.out,HT.out⟩
theorem pop_any(w:World)(l M P:Nat)(xs:List ByteArray)(m:Nat)(h:Lst w l M P xs m):
 Calls Tryz.prog 143 #[.pointer (some ⟨l,0,none⟩)] w (OpPost (.tuple #[.string (lastKey xs),.bool (anyKey xs)]) w l M P xs.dropLast m):=by
 by_cases h0:xs= []
 . subst h0;exact pop_none w l M P m h
 . have:=pop_some w l M P xs m h h0;rw[show anyKey xs=true by cases xs <;> simp_all [anyKey]];exact this
end Go.Proofs.YtdmmciggopmglaaGreatDoor
namespace Go.Proofs.YtdmmciggopmglaaGreatDoor
open Go.RowKit Sg
def NewPost(w:World)(e:Ending)(w':World):Prop:=∃l M P,e= .returned (.pointer (some ⟨l,0,none⟩))/\w.heap.size<=l/\w.heap.size<=M/\w.heap.size<=P/\Lst w' l M P [] 0/\Below w.heap.size w w'
theorem mkP(W:World):(Instr.makeSlice 150 (.int .i64 1) (.int .i64 1)).run Tryz.prog W= .ok (.slice (some ⟨W.heap.size,0,none⟩) 1 1) (W.alloc (.cells #[.string ⟨#[]⟩,.int .i64 0,.int .i64 0] 210)):=by kernel_rfl
def arena0:Ar:=⟨1,λ_=>⟨#[]⟩,λ_=>0,λ_=>0,0⟩
theorem good0:Good arena0 [] [] (λ_=>none):=
 ⟨⟨rfl,rfl⟩,rfl,by simp,by simp,rfl,rfl,by simp,by simp,by simp⟩
theorem arena0_cells(arr:Array Value)(h0:arr[0]?=some (.string ⟨#[]⟩))(h1:arr[1]?=some (.int .i64 0))(h2:arr[2]?=some (.int .i64 0)):
 ∀i,i < arena0.n->arr[i*3]?=some (.string (arena0.K i))/\arr[i*3+1]?=some (.int .i64 (arena0.pv i:Int))/\arr[i*3+2]?=some (.int .i64 (arena0.nx i:Int)):=by
 intro i hi;have:i < 1:=hi;obtain rfl:i=0:=by omega
 exact⟨h0,h1,h2⟩
theorem new_any(w:World):Calls Tryz.prog 55 #[] w (NewPost w):=by
 have h1:=@mkP;have h2:=@run_makeMap Tryz.prog;go_enter Tryz.func55,Tryz.ntmps55;go_wp2_with fail
 go_ret;have s1:(w.alloc (.cells #[.string ⟨#[]⟩,.int .i64 0,.int .i64 0] 210)).heap.size=w.heap.size+1:=by simp
 have s2:((w.alloc (.cells #[.string ⟨#[]⟩,.int .i64 0,.int .i64 0] 210)).alloc (.map #[] 0)).heap.size=w.heap.size+2:=by simp
 have b1:=heap_alloc_new w (.cells #[.string ⟨#[]⟩,.int .i64 0,.int .i64 0] 210);have m1:=Mp.made (w.alloc (.cells #[.string ⟨#[]⟩,.int .i64 0,.int .i64 0] 210));have b3:=heap_alloc_new ((w.alloc (.cells #[.string ⟨#[]⟩,.int .i64 0,.int .i64 0] 210)).alloc (.map #[] 0)) (.cells #[.slice (some ⟨w.heap.size,0,none⟩) 1 1,.map (some (w.heap.size+1)),.int .i64 0] 152);rw[s1] at m1;rw[s2] at b3;refine⟨w.heap.size+2,w.heap.size+1,w.heap.size,rfl,by omega,by omega,Nat.le_refl _,⟨arena0,[],[],λ_=>none,⟨by omega,by omega,by omega,by simp,⟨1,#[.string ⟨#[]⟩,.int .i64 0,.int .i64 0],b3,?_,rfl,Nat.le_refl _,by unfold maxLen;omega,arena0_cells _ rfl rfl rfl⟩,Nat.le_refl _,by show 1<=100000;omega,by show 0 < 1;omega,λ_ _=>by show 0 < 1;omega,λ_ _=>by show 0 < 1;omega⟩,?_,good0,rfl,rfl⟩,?_⟩
 . rw[Below.heap_alloc _ _ _ (by rw[s2];omega),Below.heap_alloc _ _ _ (by rw[s1];omega)];exact b1
 . exact m1.same (Below.heap_alloc _ _ _ (by rw[s2];omega))
 . exact(((Below.refl _ _).alloc (Nat.le_refl _) _).alloc (by rw[s1];omega) _).alloc (by rw[s2];omega) _
def Own(w:World)(base:Nat)(v:Value)(xs:List ByteArray):Prop:=w.ownsRow base 9 1 v xs.length (xs.map Value.string)/\xs.length<=200000/\∀x∈xs,x.size<=maxLen
theorem infoStr:(Tryz.prog.info? 9).map (λi=>(i.zero,i.size,i.bytes))=some (some (.string ⟨#[]⟩),1,16):=by kernel_rfl
theorem app_str{w:World}{base:Nat}{v:Value}{xs:List ByteArray}(h:Own w base v xs)(x:ByteArray)(hx:x.size<=maxLen)(hl:xs.length<=199999)(hb:base<=w.heap.size):
 ∃(g cap:Nat) (w2:World),(Builtin.append_ #[23,23] 23 #[v,.slice (some ⟨w.heap.size,0,none⟩) 1 1]).run Tryz.prog (w.alloc (.cells #[.string x] 9))= .ok (.slice (some ⟨g,0,none⟩) (xs.length+1) cap) w2/\
  Own w2 base (.slice (some ⟨g,0,none⟩) (xs.length+1) cap) (xs++ [x])/\w.grownBy w2 v.ownBlock:=by
 obtain⟨i0,hi,hz0,hz1,hz2⟩:=info_parts infoStr
 obtain⟨v',w2,hrun,hown2,hg,hnil,hloc⟩:=run_append_own_at (P:=Tryz.prog) (w.alloc (.cells #[.string x] 9)) base 23 23 9 i0 _ 1 16
  Tryz.underlying23 hi hz0 hz1 hz2 rfl (by decide) _ _ _ (h.1.alloc _) ⟨w.heap.size,0,none⟩ 1 1 [.string x] rfl (cell_one_new _ _ _) (by simp[Value.oneCell']) (by unfold maxLen;omega) (by omega) (by simp;omega)
 have hown3:=hown2;rcases hown2.2 with⟨_,h0⟩|⟨g,cap,cur,rfl,_⟩
 . omega
 refine⟨g,cap,w2,hrun,⟨?_,by rw[List.length_append];simp only[List.length_cons,List.length_nil];omega,λy hy=>?_⟩,(World.grownBy_alloc w _ _).trans hg⟩
 . rw[List.map_append,List.length_append];exact hown3
 . rcases List.mem_append.1 hy with h1|h1
   . exact h.2.2 y h1
   . rw[List.mem_singleton.1 h1];exact hx
theorem mkStr(W:World)(m:Nat)(hm:m<=200000):(Instr.makeSlice 23 (.int .i64 0) (.int .i64 (m:Int))).run Tryz.prog W= .ok (.slice (some ⟨W.heap.size,0,none⟩) 0 m) (W.alloc (.cells (madeCells #[.string ⟨#[]⟩] m) 9)):=by
 obtain⟨i0,hi,hz0,hz1,hz2⟩:=info_parts infoStr;have h:=run_make (P:=Tryz.prog) W 23 9 i0 (.string ⟨#[]⟩) Tryz.underlying23 hi hz0 .i64 .i64 0 m (by omega) (by omega) (by rw[hz2];omega) (by omega);rw[h,hz1,Int.toNat_natCast,Nat.mul_one];rfl
theorem own_made(w:World)(m:Nat)(hm:m<=200000):Own (w.alloc (.cells (madeCells #[.string ⟨#[]⟩] m) 9)) w.heap.size (.slice (some ⟨w.heap.size,0,none⟩) 0 m) []:=
 ⟨World.ownsRow_made w _ m (Nat.le_refl _) (by unfold maxLen;omega) (by simp[madeCells]),by simp,by simp⟩
def lenV:Value->Nat| .slice _ n _=>n|_=>0
theorem Own.len{w:World}{base:Nat}{v:Value}{xs:List ByteArray}(h:Own w base v xs):∃A c,v= .slice A xs.length c:=by
 rcases h.1.2 with⟨rfl,h0⟩|⟨g,cap,cur,rfl,_⟩
 . exact⟨none,0,by rw[h0]⟩
 . exact⟨_,_,rfl⟩
def RowPost(xs:List ByteArray)(w:World)(e:Ending)(w':World):Prop:=∃v,e= .returned v/\Own w' w.heap.size v xs/\Below w.heap.size w w'
def KeysRel(A:Ar)(row:List Nat)(w:World)(v z:Value)(W:World):Prop:=∃(done rest:List Nat) (n:Int),row=done++rest/\z= .int .i64 n/\n=((rest.headD 0:Nat):Int)/\Own W w.heap.size v (done.map A.K)/\Below w.heap.size w W
set_option maxHeartbeats 1000000 in
theorem keys_any(w:World)(l M P:Nat)(xs:List ByteArray)(m:Nat)(h:Lst w l M P xs m):
 Calls Tryz.prog 120 #[.pointer (some ⟨l,0,none⟩)] w (RowPost xs w):=by
 have U:=Lib.hid (len_any w l M P xs m h);have hle:=h.le;obtain⟨A,row,free,f,hH,hM,hG,rfl,hn⟩:=h;rw[List.length_map] at U hle;have hmk:=mkStr w row.length (by omega);have hz:=Lib.hid (own_made w row.length (by omega));have hf:=hG.first
 have hH1:=hH.alloc (.cells (madeCells #[.string ⟨#[]⟩] row.length) 9);obtain⟨cap,hc1,hc2,c0,_,_⟩:=hH1.own;have k2:(w.alloc (.cells (madeCells #[.string ⟨#[]⟩] row.length) 9)).cell? ⟨P,2,none⟩=some (.int .i64 (A.nx 0:Int)):=by have:=(hH1.place (i:=0) hH.pos).2.2;simpa using this
 have hp:=hH.pos;have ht:=hH.top;have HH:=Lib.hid hH;have HG:=Lib.hid hG;unfold maxLen at hc2;clear hH hM hG hn hH1 hf;go_enter Tryz.func120,Tryz.ntmps120;go_wp2_with fail
 refine U.out.mono ?_;rintro e w1 ⟨rfl,rfl⟩;go_wp2_with fail
 clear hmk c0 k2;go_loopw [3,4] (λv z W=>KeysRel A row w v z W) (λv _ _=>row.length - lenV v)
 case atStart=>
  refine⟨[],row,_,rfl,rfl,?_,hz.out,(Below.refl _ _).alloc (Nat.le_refl _) _⟩;have hr:=HG.out.ring;cases row with
  |nil=>exact congrArg Int.ofNat hr.1
  |cons x row=>exact congrArg Int.ofNat hr.1
 case round=>
  obtain⟨done,rest,n,hrow,rfl,hn,hown,hbel⟩:=hrel;have HO:=Lib.hid hown;have hsz:=hbel.size;cases rest with
  |nil=>
   obtain rfl:n=0:=hn;have HR:=Lib.hid hrow;clear hown hrow;go_wp2_with fail
   go_ret;refine⟨_,rfl,?_,hbel⟩;rw[HR.out,List.append_nil];exact HO.out
  |cons a r=>
   obtain rfl:n=(a:Int):=hn;have har:a∈row:=by rw[hrow];simp
   have halt:=HG.out.lt a (List.mem_append_left _ har);have ha0:a≠0:=λe=>(List.nodup_cons.1 HG.out.nodup).1 (List.mem_append_left _ (e▸har));have e0:((a:Int) != 0)=true:=by simp;omega
   have hHW:=HH.out.same hbel.size (hbel.block l HH.out.llt) (hbel.block P HH.out.Plt);obtain⟨capW,hcW1,hcW2,c0,_,_⟩:=hHW.own;obtain⟨k0,_,_⟩:=hHW.place halt;have hdl:done.length<=99999:=by have:=congrArg List.length hrow;rw[List.length_append] at this;omega
   obtain⟨g,cap',w2,hrun,hown2,hg⟩:=app_str hown (A.K a) (HG.out.small a har) (by rw[List.length_map];omega) hsz;have hbel2:=hbel.grown hg hsz (λk hk=>(hown.1.lt k hk).1);have hH2:=HH.out.same hbel2.size (hbel2.block l HH.out.llt) (hbel2.block P HH.out.Plt);obtain⟨cap2,hc21,hc22,d0,_,_⟩:=hH2.own;obtain⟨_,_,d2⟩:=hH2.place halt;rw[List.length_map] at hrun hown2;have HRUN:=Lib.hid hrun;have HOWN:=Lib.hid hown2;have HB:=Lib.hid hbel2;have HR:=Lib.hid hrow;have hll:(done.map A.K).length=done.length:=List.length_map _;obtain⟨Av,cv,rfl⟩:=hown.len;rw[hll] at HRUN HO|-;unfold maxLen at hcW2 hc22;clear hown hrun hown2 hbel2 hrow hHW hH2 hg hll ha0;go_wp2_with(at_builtin;refine wpList_append_run rfl _ _ _ rfl _ _ _ _ rfl rfl HRUN.out ?_)
   go_roundw
   case rel=>
    refine⟨done++ [a],r,_,by rw[HR.out];simp,rfl,?_,?_,HB.out⟩
    . have hs:=HG.out.ring;rw[HR.out] at hs;have hs2:=(seg_append.1 hs).2;cases r with
      |nil=>exact congrArg Int.ofNat hs2.1
      |cons y r=>exact congrArg Int.ofNat hs2.1
    . rw[List.map_append];exact HOWN.out
   case measure=>
    have:=congrArg List.length HR.out;rw[List.length_append,List.length_cons] at this;simp[lenV];omega
end Go.Proofs.YtdmmciggopmglaaGreatDoor
namespace Go.Proofs.YtdmmciggopmglaaGreatDoor
open Go.RowKit Sg
def Row(w:World)(g:Nat)(v:Value)(xs:List ByteArray):Prop:=
 xs.length<=200000/\(∀x∈xs,x.size<=maxLen)/\
 ((xs= []/\∃A c,v= .slice A 0 c)\/
  ∃o c,v= .slice (some ⟨g,o,none⟩) xs.length c/\g < w.heap.size/\xs.length<=c/\c<=maxLen/\∀j,j < xs.length->w.cell? ⟨g,o+j,none⟩=some (.string (xs.getD j ⟨#[]⟩)))
theorem Row.shape{w:World}{g:Nat}{v:Value}{xs:List ByteArray}(h:Row w g v xs):∃A c,v= .slice A xs.length c:=by
 rcases h.2.2 with⟨rfl,A,c,e⟩|⟨o,c,e,_⟩
 . exact⟨A,c,e⟩
 . exact⟨_,c,e⟩
theorem Row.same{w w':World}{g:Nat}{v:Value}{xs:List ByteArray}(h:Row w g v xs)(hs:w.heap.size<=w'.heap.size)(hb:g < w.heap.size->w'.heap[g]?=w.heap[g]?):Row w' g v xs:=by
 refine⟨h.1,h.2.1,?_⟩;rcases h.2.2 with h1|⟨o,c,e,h1,h2,h3,h4⟩
 . exact Or.inl h1
 . exact Or.inr ⟨o,c,e,by omega,h2,h3,λj hj=>(World.cell?_of_block (a:=⟨g,o+j,none⟩) (hb h1)).trans (h4 j hj)⟩
theorem Row.nil(w:World)(g:Nat)(A:Option Addr)(c:Nat):Row w g (.slice A 0 c) []:=⟨by simp,by simp,Or.inl ⟨rfl,A,c,rfl⟩⟩
theorem Row.below{w w':World}{g:Nat}{v:Value}{xs:List ByteArray}(h:Row w g v xs)(hb:Below w.heap.size w w'):Row w' g v xs:=h.same hb.size λhg=>hb.block g hg
theorem Own.row{w:World}{base:Nat}{v:Value}{xs:List ByteArray}(h:Own w base v xs):∃g,base<=g/\Row w g v xs:=by
 obtain⟨h1,h2,h3⟩:=h;have h1':=h1;rcases h1.2 with⟨rfl,h0⟩|⟨g,cap,cur,rfl,hb,hg,hn,hm,hs,ht⟩
 . obtain rfl:xs= []:=List.eq_nil_of_length_eq_zero h0;exact⟨base,Nat.le_refl _,Row.nil _ _ _ _⟩
 . refine⟨g,hb,h2,h3,Or.inr ⟨0,cap,rfl,(Array.getElem?_eq_some_iff.1 hg).1,hn,hm,λj hj=>?_⟩⟩;have:=h1'.cells (g:=g) rfl j (.string (xs.getD j ⟨#[]⟩)) (by rw[List.getElem?_map,List.getElem?_eq_getElem hj,List.getD_eq_getElem?_getD,List.getElem?_eq_getElem hj];rfl);rw[show(⟨g,0,none⟩:Addr).add j=⟨g,0+j,none⟩ by unfold Addr.add;split <;> simp_all] at this;exact this
theorem eq_of_toList{a b:ByteArray}(h:a.toList=b.toList):a=b:=by
 rw[ByteArray.toList_eq,ByteArray.toList_eq] at h;exact ByteArray.ext (Array.toList_inj.1 h)
theorem beqS(a b:ByteArray):(a.toList==b.toList)=decide (a=b):=by
 rw[Bool.eq_iff_iff];simp only[beq_iff_eq,decide_eq_true_eq];exact⟨eq_of_toList,λh=>by rw[h]⟩
theorem beqS_no{a b:ByteArray}(h:a≠b):(a.toList==b.toList)=false:=by rw[beqS];simpa using h
theorem beqS_yes{a b:ByteArray}(h:a=b):(a.toList==b.toList)=true:=by rw[beqS];simpa using h
def HasRel(xs:List ByteArray)(key:ByteArray)(i:Value):Prop:=∃k:Nat,i= .int .i64 (k:Int)/\k<=xs.length/\inn (xs.take k) key=false
theorem take_snoc{α:Type}(xs:List α)(k:Nat)(d:α)(h:k < xs.length):xs.take (k+1)=xs.take k++ [xs.getD k d]:=by
 rw[List.take_succ_eq_append_getElem h,List.getD_eq_getElem?_getD,List.getElem?_eq_getElem h];rfl
theorem inn_snoc(xs:List ByteArray)(x key:ByteArray):inn (xs++ [x]) key=(inn xs key||decide (x=key)):=by simp[inn]
theorem Row.at{w:World}{g:Nat}{A:Option Addr}{n c:Nat}{xs:List ByteArray}(h:Row w g (.slice A n c) xs){k:Nat}(hk:k < xs.length):
 ∃o,A=some ⟨g,o,none⟩/\g < w.heap.size/\w.cell? ⟨g,o+k,none⟩=some (.string (xs.getD k ⟨#[]⟩))/\xs.length<=c/\c<=maxLen:=by
 rcases h.2.2 with⟨rfl,_⟩|⟨o,c',e,h1,h2,h3,h4⟩
 . simp at hk
 . injection e with e1 e2 e3
   subst e3;exact⟨o,e1,h1,h4 k hk,h2,h3⟩
set_option maxHeartbeats 1000000 in
theorem refHas_any(w:World)(g:Nat)(v:Value)(xs:List ByteArray)(key:ByteArray)(h:Row w g v xs):
 Calls Tryz.prog 23 #[v,.string key] w (BoolPost (inn xs key) w):=by
 obtain⟨A,c,rfl⟩:=h.shape;have hl:=h.1;have HH:=Lib.hid h;clear h;go_enter Tryz.func23,Tryz.ntmps23;go_wp2_with fail
 go_loop [5] (λi=>HasRel xs key i) (λi=>xs.length - (intOf i).toNat)
 case atStart=>exact⟨0,rfl,Nat.zero_le _,by simp[inn]⟩
 case round=>
  obtain⟨k,rfl,hk,hno⟩:=hrel;have HNO:=Lib.hid hno;clear hno
  by_cases hlt:k < xs.length
  . have e0:decide (k < xs.length)=true:=by simpa using hlt
    obtain⟨o,rfl,hg,hc,hc1,hc2⟩:=HH.out.at hlt;unfold maxLen at hc2;have hsn:=inn_snoc (xs.take k) (xs.getD k ⟨#[]⟩) key;rw[← take_snoc xs k ⟨#[]⟩ hlt,HNO.out,Bool.false_or] at hsn;have hmem:xs.getD k ⟨#[]⟩∈xs:=by rw[List.getD_eq_getElem?_getD,List.getElem?_eq_getElem hlt];exact List.getElem_mem hlt
    generalize xs.getD k ⟨#[]⟩=x at hc hsn hmem
    by_cases hx:x=key
    . have e1:=beqS_yes hx;have HI:=Lib.hid (show inn xs key=true from inn_iff.2 (hx▸hmem));clear hsn hx hmem;go_wp2_with fail
      go_ret;exact⟨ret_bool HI.out.symm,rfl⟩
    . have e1:=beqS_no hx;rw[decide_eq_false hx] at hsn;have HS:=Lib.hid hsn;clear hsn hx hmem;go_wp2_with fail
      go_round
      case rel=>exact⟨k+1,by go_num,by omega,HS.out⟩
      case measure=>simp[intOf];omega
  . have e0:decide (k < xs.length)=false:=by simpa using hlt
    have HI:=Lib.hid (show inn xs key=false by have:=HNO.out;rw[List.take_of_length_le (by omega)] at this;exact this);go_wp2_with fail
    go_ret;exact⟨ret_bool HI.out.symm,rfl⟩
end Go.Proofs.YtdmmciggopmglaaGreatDoor
namespace Go.Proofs.YtdmmciggopmglaaGreatDoor
open Go.RowKit Sg
theorem Own.nil(w:World)(base:Nat):Own w base (.slice none 0 0) []:=⟨World.ownsRow_nil _ _ _ _,by simp,by simp⟩
theorem Own.mono{w:World}{base base':Nat}{v:Value}{xs:List ByteArray}(h:Own w base v xs)(hb:base'<=base):Own w base' v xs:=by
 refine⟨⟨h.1.1,?_⟩,h.2⟩;rcases h.1.2 with h1|⟨g,cap,cur,e,h1,h2⟩
 . exact Or.inl h1
 . exact Or.inr ⟨g,cap,cur,e,by omega,h2⟩
theorem app_all{w:World}{base b2:Nat}{v u:Value}{xs ys:List ByteArray}(h:Own w base v xs)(k:Own w b2 u ys)(hl:xs.length+ys.length<=200000)(hb:base<=w.heap.size):
 ∃(v':Value) (w2:World),(Builtin.append_ #[23,23] 23 #[v,u]).run Tryz.prog w= .ok v' w2/\Own w2 base v' (xs++ys)/\w.grownBy w2 v.ownBlock:=by
 obtain⟨i0,hi,hz0,hz1,hz2⟩:=info_parts infoStr
 have hsm:∀y∈xs++ys,y.size<=maxLen:=λy hy=>by
  rcases List.mem_append.1 hy with h1|h1
  . exact h.2.2 y h1
  . exact k.2.2 y h1
 rcases k.1.2 with⟨rfl,h0⟩|⟨g,cap,cur,rfl,k1,k2,k3,k4,k5,k6⟩
 . obtain rfl:ys= []:=List.eq_nil_of_length_eq_zero h0;refine⟨v,w,?_,by rw[List.append_nil];exact h,⟨rfl,rfl,rfl,Nat.le_refl _,λ_ _ _=>rfl⟩⟩;rcases h.1.2 with⟨rfl,_⟩|⟨g,cap,cur,rfl,_,_,h3,_⟩
   . simp[Builtin.append_,run_underlying Tryz.underlying23,sizeOf,typeInfo,hi,Builtin.lenOf,Builtin.firstCells]
   . simp[Builtin.append_,run_underlying Tryz.underlying23,sizeOf,typeInfo,hi,Builtin.lenOf,Builtin.firstCells,storeCells,loadCells,h3]
 . obtain⟨v',w2,hrun,hown2,hg,hnil,hloc⟩:=run_append_own_at (P:=Tryz.prog) w base 23 23 9 i0 _ 1 16
    Tryz.underlying23 hi hz0 hz1 hz2 rfl (by decide) _ _ _ h.1 ⟨g,0,none⟩ ys.length cap (ys.map Value.string) (by simp) (k.1.cells (g:=g) rfl) (by intro u hu;obtain⟨x,_,rfl⟩:=List.mem_map.1 hu;rfl) (by unfold maxLen;omega) (by omega) hb
   refine⟨v',w2,hrun,⟨?_,by rw[List.length_append];omega,hsm⟩,hg⟩;rw[List.map_append,List.length_append];exact hown2
end Go.Proofs.YtdmmciggopmglaaGreatDoor
namespace Go.Proofs.YtdmmciggopmglaaGreatDoor
open Go.RowKit Sg
def SamePost(b:Bool)(w:World)(e:Ending)(w':World):Prop:=e= .returned (.bool b)/\∃n,w'=w.drewN n
def SameRel(xs ys:List ByteArray)(w:World)(i:Value)(W:World):Prop:=∃k n:Nat,i= .int .i64 (k:Int)/\k<=xs.length/\xs.take k=ys.take k/\W=w.drewN n
theorem same_diff(w:World)(g g':Nat)(v u:Value)(xs ys:List ByteArray)(h:Row w g v xs)(k:Row w g' u ys)(hne:xs.length≠ys.length):
 Calls Tryz.prog 18 #[v,u] w (SamePost (decide (xs=ys)) w):=by
 obtain⟨A,c,rfl⟩:=h.shape;obtain⟨B,d,rfl⟩:=k.shape;have E:=Lib.hid (show decide (xs=ys)=false by simp;exact λe=>hne (by rw[e]));have e0:((xs.length:Int) != (ys.length:Int))=true:=by simp;omega
 have e1:(xs.length != ys.length)=true:=by simpa using hne
 clear h k hne;go_enter Tryz.func18,Tryz.ntmps18;go_wp2_with fail
 go_ret;exact⟨ret_bool E.out.symm,0,rfl⟩
set_option maxHeartbeats 1000000 in
theorem same_like(w:World)(g g':Nat)(v u:Value)(xs ys:List ByteArray)(h:Row w g v xs)(k:Row w g' u ys)(he:xs.length=ys.length):
 Calls Tryz.prog 18 #[v,u] w (SamePost (decide (xs=ys)) w):=by
 obtain⟨A,c,rfl⟩:=h.shape;obtain⟨B,d,rfl⟩:=k.shape;rw[← he] at k|-;have hl:=h.1;have HX:=Lib.hid h;have HY:=Lib.hid k;have HE:=Lib.hid he;clear h k he;go_enter Tryz.func18,Tryz.ntmps18;go_wp2_with fail
 go_loopw [5] (λi W=>SameRel xs ys w i W) (λi _=>xs.length - (intOf i).toNat)
 case atStart=>exact⟨0,0,rfl,Nat.zero_le _,rfl,rfl⟩
 case round=>
  obtain⟨k,n,rfl,hk,heq,rfl⟩:=hrel;have HQ:=Lib.hid heq;clear heq
  by_cases hlt:k < xs.length
  . have e0:decide (k < xs.length)=true:=by simpa using hlt
    obtain⟨o,rfl,hg,hc,hc1,hc2⟩:=HX.out.at hlt;obtain⟨o',rfl,hg',hd,hd1,hd2⟩:=HY.out.at (k:=k) (by rw[← HE.out];exact hlt);rw[← HE.out] at hd1;unfold maxLen at hc2 hd2;have h1:=take_snoc xs k ⟨#[]⟩ hlt;have h2:=take_snoc ys k ⟨#[]⟩ (by rw[← HE.out];exact hlt);have hlt':k < ys.length:=by rw[← HE.out];exact hlt
    have hx1:xs[k]?=some (xs.getD k ⟨#[]⟩):=by rw[List.getD_eq_getElem?_getD,List.getElem?_eq_getElem hlt];rfl
    have hy1:ys[k]?=some (ys.getD k ⟨#[]⟩):=by rw[List.getD_eq_getElem?_getD,List.getElem?_eq_getElem hlt'];rfl
    generalize xs.getD k ⟨#[]⟩=x at hc h1 hx1;generalize ys.getD k ⟨#[]⟩=y at hd h2 hy1
    by_cases hxy:x=y
    . subst hxy;have HQ2:=Lib.hid (show xs.take (k+1)=ys.take (k+1) by rw[h1,h2,HQ.out]);have e1:=beqS_yes (rfl:x=x);clear h1 h2 hx1 hy1 hlt' HQ;go_wp2_with fail
      go_quiet(fail)
      go_wp2_with fail
      go_roundw
      case rel=>exact⟨k+1,_,by go_num,by omega,HQ2.out,rfl⟩
      case measure=>simp[intOf];omega
    . have E:=Lib.hid (show decide (xs=ys)=false by simp only[decide_eq_false_iff_not];intro e;rw[e,hy1] at hx1;exact hxy (by injection hx1 with e;exact e.symm));have e1:=beqS_no hxy;clear h1 h2 hx1 hy1 hlt' HQ hxy;go_wp2_with fail
      go_quiet(fail)
      go_wp2_with fail
      go_ret;exact⟨ret_bool E.out.symm,_,World.drewN_drewN _ _ _⟩
  . have e0:decide (k < xs.length)=false:=by simpa using hlt
    have E:=Lib.hid (show decide (xs=ys)=true by
     have:=HQ.out;have he:=HE.out;rw[List.take_of_length_le (by omega),List.take_of_length_le (by omega)] at this;simpa using this)
    clear HQ;go_wp2_with fail
    go_ret;exact⟨ret_bool E.out.symm,_,rfl⟩
theorem refSame_any(w:World)(g g':Nat)(v u:Value)(xs ys:List ByteArray)(h:Row w g v xs)(k:Row w g' u ys):
 Calls Tryz.prog 18 #[v,u] w (SamePost (decide (xs=ys)) w):=by
 by_cases he:xs.length=ys.length
 . exact same_like w g g' v u xs ys h k he
 . exact same_diff w g g' v u xs ys h k he
end Go.Proofs.YtdmmciggopmglaaGreatDoor
namespace Go.Proofs.YtdmmciggopmglaaGreatDoor
open Go.RowKit Sg
def revs(xs:List ByteArray)(i:Nat):List ByteArray:=(List.range xs.length).map λk=>if k < i\/xs.length<=k+i then xs.getD (xs.length - 1 - k) ⟨#[]⟩ else xs.getD k ⟨#[]⟩
theorem revs_len(xs:List ByteArray)(i:Nat):(revs xs i).length=xs.length:=by simp[revs]
theorem revs_get{xs:List ByteArray}{i k:Nat}(hk:k < xs.length):(revs xs i)[k]?=some (if k < i\/xs.length<=k+i then xs.getD (xs.length - 1 - k) ⟨#[]⟩ else xs.getD k ⟨#[]⟩):=by
 unfold revs;rw[List.getElem?_map,List.getElem?_range hk];rfl
theorem getD_get{xs:List ByteArray}{k:Nat}(hk:k < xs.length):xs[k]?=some (xs.getD k ⟨#[]⟩):=by
 rw[List.getD_eq_getElem?_getD,List.getElem?_eq_getElem hk];rfl
theorem get_ge{xs:List ByteArray}{k:Nat}(hk:¬k < xs.length):xs[k]?=none:=List.getElem?_eq_none (by omega)
theorem revs_zero(xs:List ByteArray):revs xs 0=xs:=by
 refine List.ext_getElem? λk=>?_
 by_cases hk:k < xs.length
 . rw[revs_get hk,if_neg (by omega),getD_get hk]
 . rw[get_ge hk,get_ge (by rw[revs_len];exact hk)]
theorem revs_end{xs:List ByteArray}{i:Nat}(h:xs.length<=2*i+1):revs xs i=xs.reverse:=by
 refine List.ext_getElem? λk=>?_
 by_cases hk:k < xs.length
 . rw[revs_get hk,List.getElem?_reverse hk,getD_get (by omega)];split
   . rfl
   . rw[show xs.length - 1 - k=k by omega]
 . rw[get_ge (by rw[revs_len];exact hk),get_ge (by rw[List.length_reverse];exact hk)]
theorem revs_step{xs:List ByteArray}{i j:Nat}(hj:j=xs.length - 1 - i)(h:2*i+1 < xs.length):((revs xs i).set i (xs.getD j ⟨#[]⟩)).set j (xs.getD i ⟨#[]⟩)=revs xs (i+1):=by
 refine List.ext_getElem? λk=>?_
 by_cases hk:k < xs.length
 . rw[revs_get hk,List.getElem?_set,List.getElem?_set,List.length_set,revs_len,revs_get hk]
   by_cases h1:j=k
   . rw[if_pos h1,if_pos (by omega),if_pos (by omega),show xs.length - 1 - k=i by omega]
   . rw[if_neg h1]
     by_cases h2:i=k
     . rw[if_pos h2,if_pos (by omega),if_pos (by omega),show xs.length - 1 - k=j by omega]
     . rw[if_neg h2]
       by_cases h3:k < i\/xs.length<=k+i
       . rw[if_pos h3,if_pos (by omega)]
       . rw[if_neg h3,if_neg (by omega)]
 . rw[get_ge (xs:=revs xs (i+1)) (by rw[revs_len];exact hk),get_ge (by rw[List.length_set,List.length_set,revs_len];exact hk)]
theorem Own.same{w w':World}{base:Nat}{v:Value}{xs:List ByteArray}(o:Own w base v xs)(hs:∀g,v.ownBlock=some g->w'.heap[g]?=w.heap[g]?):Own w' base v xs:=by
 refine⟨⟨o.1.1,?_⟩,o.2⟩;rcases o.1.2 with h1|⟨g,cap,arr,rfl,hb,h2,h3⟩
 . exact Or.inl h1
 . exact Or.inr ⟨g,cap,arr,rfl,hb,(hs g rfl).trans h2,h3⟩
theorem Own.lt{w:World}{v:Value}{xs:List ByteArray}{base g:Nat}(o:Own w base v xs)(hg:v.ownBlock=some g):g < w.heap.size/\base<=g:=by
 rcases o.1.2 with⟨rfl,_⟩|⟨g',cap,arr,rfl,hb,h2,h3⟩
 . cases hg
 . cases hg;exact⟨(Array.getElem?_eq_some_iff.1 h2).1,hb⟩
theorem Own.stored{w:World}{base g n cap:Nat}{xs:List ByteArray}(h:Own w base (.slice (some ⟨g,0,none⟩) n cap) xs)(hn:xs.length=n)(j:Nat)(x:ByteArray)(hx:x.size<=maxLen):
 Own (w.setCell ⟨g,j,none⟩ (.string x)) base (.slice (some ⟨g,0,none⟩) n cap) (xs.set j x):=by
 subst hn;have h1:=(h.1.stored j (.string x)).1;refine⟨?_,by rw[List.length_set];exact h.2.1,λy hy=>?_⟩
 . rw[List.length_set,List.map_set];exact h1
 . rcases List.mem_or_eq_of_mem_set hy with h2|rfl
   . exact h.2.2 y h2
   . exact hx
def RevPost(xs:List ByteArray)(base:Nat)(v:Value)(w:World)(e:Ending)(w':World):Prop:=e= .returned (.tuple #[])/\Own w' base v xs.reverse/\Below base w w'
def RevRel(xs:List ByteArray)(base:Nat)(v:Value)(w:World)(iv jv:Value)(W:World):Prop:=∃(i:Nat) (t:Int),iv= .int .i64 (i:Int)/\jv= .int .i64 t/\t=(xs.length:Int) - 1 - (i:Int)/\2*i<=xs.length/\Own W base v (revs xs i)/\Below base w W
set_option maxHeartbeats 2000000 in
theorem reverse_any(w:World)(base:Nat)(v:Value)(xs:List ByteArray)(h:Own w base v xs)(_:base<=w.heap.size):
 Calls Tryz.prog 202 #[v] w (RevPost xs base v w):=by
 obtain⟨A,c,rfl⟩:=h.len;have hl:=h.2.1;have HS:=Lib.hid h.2.2;have HH:=Lib.hid h;clear h;go_enter Tryz.func202,Tryz.ntmps202;go_wp2_with fail
 go_loopw [2,3] (λi j W=>RevRel xs base (.slice A xs.length c) w i j W) (λi _ _=>xs.length - (intOf i).toNat)
 case atStart=>exact⟨0,_,rfl,rfl,by omega,by omega,by rw[revs_zero];exact HH.out,Below.refl _ _⟩
 case round=>
  obtain⟨i,t,rfl,rfl,ht,hi,hO,hB⟩:=hrel
  by_cases hlt:2*i+1 < xs.length
  . obtain⟨j,hj⟩:∃j,j=xs.length - 1 - i:=⟨_,rfl⟩;obtain rfl:t=(j:Int):=by omega
    have hij:i < j:=by omega
    have hjl:j < xs.length:=by omega
    have e0:decide (i < j)=true:=by simpa using hij
    have R:=Lib.hid (revs_step hj hlt);have hO':=hO;rcases hO.1.2 with⟨_,h0⟩|⟨g,cap,cur,e1,hg0,hg,hn,hm,hcs,htk⟩
    . rw[revs_len] at h0;omega
    obtain⟨rfl,_,rfl⟩:A=some ⟨g,0,none⟩/\xs.length=(revs xs i).length/\c=cap:=by
     injection e1 with a1 a2 a3
     exact⟨a1,a2,a3⟩
    rw[revs_len] at hn;have hx1:(revs xs i)[i]?=some (xs.getD i ⟨#[]⟩):=by rw[revs_get (by omega),if_neg (by omega)]
    have hx2:(revs xs i)[j]?=some (xs.getD j ⟨#[]⟩):=by rw[revs_get (by omega),if_neg (by omega)]
    have hs1:(xs.getD i ⟨#[]⟩).size<=maxLen:=by
     refine HS.out _ ?_;rw[List.getD_eq_getElem?_getD,List.getElem?_eq_getElem (by omega)];exact List.getElem_mem _
    have hs2:(xs.getD j ⟨#[]⟩).size<=maxLen:=by
     refine HS.out _ ?_;rw[List.getD_eq_getElem?_getD,List.getElem?_eq_getElem hjl];exact List.getElem_mem _
    have hW:wr.ownsRow base 9 1 (.slice (some ⟨g,0,none⟩) (revs xs i).length c) (revs xs i).length ((revs xs i).map Value.string):=by
     have:=hO.1;rw[revs_len] at this ⊢;exact this
    have k1:wr.cell? ⟨g,i,none⟩=some (.string (xs.getD i ⟨#[]⟩)):=by
     rw[hW.cellAt i (by rw[revs_len];omega),List.getElem?_map,hx1];rfl
    have k2:wr.cell? ⟨g,j,none⟩=some (.string (xs.getD j ⟨#[]⟩)):=by
     rw[hW.cellAt j (by rw[revs_len];omega),List.getElem?_map,hx2];rfl
    have f1:=hW.frozenAt i;have f2:=hW.frozenAt j
    have O2:=Lib.hid (show Own ((wr.setCell ⟨g,i,none⟩ (.string (xs.getD j ⟨#[]⟩))).setCell ⟨g,j,none⟩ (.string (xs.getD i ⟨#[]⟩))) base (.slice (some ⟨g,0,none⟩) xs.length c) (revs xs (i+1)) by
     have q1:=hO.stored (revs_len xs i) i (xs.getD j ⟨#[]⟩) hs2;have q2:=q1.stored (by rw[List.length_set,revs_len]) j (xs.getD i ⟨#[]⟩) hs1;rw[R.out] at q2;exact q2)
    have B2:=Lib.hid (show Below base w ((wr.setCell ⟨g,i,none⟩ (.string (xs.getD j ⟨#[]⟩))).setCell ⟨g,j,none⟩ (.string (xs.getD i ⟨#[]⟩))) from(hB.setCell (p:=⟨g,i,none⟩) hg0 _).setCell (p:=⟨g,j,none⟩) hg0 _);generalize xs.getD i ⟨#[]⟩=x at*;generalize xs.getD j ⟨#[]⟩=y at*;have HJ:=Lib.hid hj;have n1:i≠j:=by omega
    have n2:j≠i:=by omega
    unfold maxLen at hm;clear hO hO' hB hW e1 hg hcs htk hx1 hx2 hs1 hs2 R hj hlt ht hi hg0;go_wp2_with fail
    go_region;go_wp2_with fail
    go_roundw
    case rel=>
     have:=HJ.out;exact⟨i+1,_,by go_num,rfl,by omega,by omega,O2.out.same (λ_ _=>rfl),B2.out.drew⟩
    case measure=>simp[intOf];omega
  . have e0:decide ((i:Int) < t)=false:=by simp;omega
    have R:=Lib.hid (revs_end (xs:=xs) (i:=i) (by omega));have O2:=Lib.hid hO;clear ht hO;go_wp2_with fail
    go_end0;exact⟨rfl,by rw[← R.out];exact O2.out,hB⟩
end Go.Proofs.YtdmmciggopmglaaGreatDoor
namespace Go.Proofs.YtdmmciggopmglaaGreatDoor
open Go.RowKit Sg
structure Turn(S:Nat->Prop)(w w':World):Prop where
 os:w'.os=w.os
 tape:w'.tape=w.tape
 output:w'.output=w.output
 size:w.heap.size<=w'.heap.size
 block:∀k,k < w.heap.size->¬S k->w'.heap[k]?=w.heap[k]?
section
variable{S:Nat->Prop}{w w1 w2:World}
theorem Turn.refl(S:Nat->Prop)(w:World):Turn S w w:=⟨rfl,rfl,rfl,Nat.le_refl _,λ_ _ _=>rfl⟩
theorem Turn.trans{S':Nat->Prop}(h:Turn S w w1)(k:Turn S' w1 w2)(hs:∀k,k < w.heap.size->S' k->S k):Turn S w w2:=
 ⟨k.os.trans h.os,k.tape.trans h.tape,k.output.trans h.output,Nat.le_trans h.size k.size,λi hi h1=>(k.block i (Nat.lt_of_lt_of_le hi h.size) (λe=>h1 (hs i hi e))).trans (h.block i hi h1)⟩
theorem Turn.setCell(h:Turn S w w1){p:Addr}(hp:S p.block\/w.heap.size<=p.block)(u:Value):Turn S w (w1.setCell p u):=
 h.trans (S':=λk=>k=p.block) ⟨rfl,rfl,rfl,by simp[World.setCell],λk _ h1=>Below.heap_setCell _ _ _ _ h1⟩ (λk hk e=>by subst e;rcases hp with h|h;exact h;omega)
theorem Turn.drew(h:Turn S w w1):Turn S w w1.drew:=⟨h.os,h.tape,h.output,h.size,h.block⟩
theorem Turn.alloc(h:Turn S w w1)(o:Obj):Turn S w (w1.alloc o):=
 h.trans (S':=S) ⟨rfl,rfl,rfl,by simp,λk hk _=>Below.heap_alloc _ _ _ hk⟩ (λ_ _ h=>h)
theorem Turn.below{B:Nat}(h:Turn S w w1)(hS:∀k,S k->B<=k)(hB:B<=w.heap.size):Below B w w1:=
 ⟨h.os,h.tape,h.output,h.size,λk hk=>h.block k (by omega) (λe=>by have:=hS k e;omega)⟩
theorem Turn.of_below(h:Below w.heap.size w w1):Turn S w w1:=⟨h.os,h.tape,h.output,h.size,λk hk _=>h.block k hk⟩
theorem Turn.wide{S':Nat->Prop}(h:Turn S w w1)(hs:∀k,k < w.heap.size->S k->S' k):Turn S' w w1:=⟨h.os,h.tape,h.output,h.size,λk hk h1=>h.block k hk (λe=>h1 (hs k hk e))⟩
end
def lastN(n:Nat)(xs:List ByteArray):List ByteArray:=xs.drop (xs.length - n)
theorem lastN_len(n:Nat)(xs:List ByteArray):(lastN n xs).length=min n xs.length:=by unfold lastN;rw[List.length_drop];omega
theorem lastN_all{n:Nat}{xs:List ByteArray}(h:xs.length<=n):lastN n xs=xs:=by unfold lastN;rw[show xs.length - n=0 by omega];rfl
theorem lastN_app{n:Nat}{xs ys:List ByteArray}(h:n<=ys.length):lastN n (xs++ys)=lastN n ys:=by
 unfold lastN;rw[List.length_append,List.drop_append,List.drop_of_length_le (by omega),List.nil_append];congr 1;omega
theorem lastN_sub(n:Nat)(xs:List ByteArray):(lastN n xs).Sublist xs:=List.drop_sublist _ _
theorem rem_app(xs ys:List ByteArray)(k:ByteArray):rem (xs++ys) k=rem xs k++rem ys k:=by unfold rem;rw[List.filter_append]
theorem rem_rev(xs:List ByteArray)(k:ByteArray):rem xs.reverse k=(rem xs k).reverse:=by unfold rem;rw[List.filter_reverse]
theorem inn_rev(xs:List ByteArray)(k:ByteArray):inn xs.reverse k=inn xs k:=by unfold inn;rw[List.any_reverse]
theorem rem_len{xs:List ByteArray}{k:ByteArray}(h:xs.Nodup)(hk:k∈xs):(rem xs k).length+1=xs.length:=by
 obtain⟨ps,qs,rfl⟩:=List.append_of_mem hk;have h1:=List.nodup_append.1 h;have h2:=List.nodup_cons.1 h1.2.1;have e1:rem ps k=ps:=rem_none (λhx=>h1.2.2 k hx k (by simp) rfl);have e2:rem qs k=qs:=rem_none h2.1
 have e3:rem (ps++k::qs) k=rem ps k++rem qs k:=by
  unfold rem;rw[List.filter_append,List.filter_cons_of_neg (by simp)]
 rw[e3,e1,e2];simp only[List.length_append,List.length_cons];omega
def reqK(mo:Nat)(ks:List ByteArray)(k:ByteArray):List ByteArray:=lastN mo (rem ks k++ [k])
def hitB(mo:Nat)(ks:List ByteArray)(k:ByteArray):Bool:=decide (mo≠0)&&inn ks k
def outB(mo:Nat)(ks:List ByteArray)(k:ByteArray):Bool:=decide (mo≠0)&&!inn ks k&&decide (mo<=ks.length)
def vicK(mo:Nat)(ks:List ByteArray)(k:ByteArray):ByteArray:=if outB mo ks k=true then ks.headD ⟨#[]⟩ else⟨#[]⟩
def stepV(mo:Nat)(ks:List ByteArray)(k:ByteArray):Value:= .agg #[.bool (hitB mo ks k),.string (vicK mo ks k),.bool (outB mo ks k)]
theorem reqK_le(mo:Nat)(ks:List ByteArray)(k:ByteArray):(reqK mo ks k).length<=mo:=by unfold reqK;rw[lastN_len];omega
theorem snoc_nodup{ks:List ByteArray}(k:ByteArray)(h:ks.Nodup):(rem ks k++ [k]).Nodup:=by
 rw[List.nodup_append];refine⟨rem_nodup h,by simp,λa ha b hb e=>?_⟩;rw[List.mem_singleton] at hb;subst hb;subst e;exact rem_not ha
theorem reqK_nodup{mo:Nat}{ks:List ByteArray}(k:ByteArray)(h:ks.Nodup):(reqK mo ks k).Nodup:=(snoc_nodup k h).sublist (lastN_sub _ _)
theorem reqK_zero(ks:List ByteArray)(k:ByteArray):reqK 0 ks k= []:=by
 have:=reqK_le 0 ks k;exact List.eq_nil_of_length_eq_zero (by omega)
theorem reqK_hit{mo:Nat}{ks:List ByteArray}{k:ByteArray}(hn:ks.Nodup)(hk:k∈ks)(hl:ks.length<=mo):reqK mo ks k=rem ks k++ [k]:=by
 have:=rem_len hn hk;exact lastN_all (by rw[List.length_append,List.length_cons,List.length_nil];omega)
theorem reqK_room{mo:Nat}{ks:List ByteArray}{k:ByteArray}(hl:ks.length < mo):reqK mo ks k=rem ks k++ [k]:=by
 have:=rem_le ks k;exact lastN_all (by rw[List.length_append,List.length_cons,List.length_nil];omega)
theorem reqK_full{mo:Nat}{x k:ByteArray}{ks:List ByteArray}(hk:k∉x::ks)(hl:(x::ks).length=mo):reqK mo (x::ks) k=rem ks k++ [k]:=by
 unfold reqK;rw[rem_none hk,rem_none (λh=>hk (List.mem_cons_of_mem _ h))];rw[List.length_cons] at hl;rw[show x::ks++ [k]= [x]++(ks++ [k]) from rfl,lastN_app (by rw[List.length_append,List.length_cons,List.length_nil];omega),lastN_all (by rw[List.length_append,List.length_cons,List.length_nil];omega)]
end Go.Proofs.YtdmmciggopmglaaGreatDoor
namespace Go.Proofs.YtdmmciggopmglaaGreatDoor
open Go.RowKit Sg
structure Went(w w':World)(S S':Nat->Prop):Prop where
 new:∀k,S' k->S k\/w.heap.size<=k
 turn:Turn S w w'
section
variable{w w1 w2 w':World}{S S1 S2 S':Nat->Prop}
theorem Went.refl(w:World)(S:Nat->Prop):Went w w S S:=⟨λ_ h=>Or.inl h,Turn.refl _ _⟩
theorem Went.trans(h:Went w w1 S S1)(k:Went w1 w2 S1 S2):Went w w2 S S2:=by
 have hs:=h.turn.size;refine⟨λi hi=>?_,h.turn.trans k.turn (λi hi hS=>?_)⟩
 . rcases k.new i hi with h1|h1
   . exact h.new i h1
   . exact Or.inr (by omega)
 . rcases h.new i hS with h1|h1
   . exact h1
   . omega
theorem Went.below(h:Below w.heap.size w w'):Went w w' S S:=⟨λ_ h=>Or.inl h,Turn.of_below h⟩
theorem Went.same(h:Turn S w w'):Went w w' S S:=⟨λ_ h=>Or.inl h,h⟩
end
def three(l M P:Nat):Nat->Prop:=λk=>k=l\/k=M\/k=P
def LS(w:World)(l:Nat)(S:Nat->Prop)(xs:List ByteArray)(b:Nat):Prop:=∃M P m,S=three l M P/\m<=b/\Lst w l M P xs m
def LPost(v:Value)(w:World)(l:Nat)(S:Nat->Prop)(xs:List ByteArray)(b:Nat)(e:Ending)(w':World):Prop:=
 e= .returned v/\∃S',LS w' l S' xs b/\Went w w' S S'
section
variable{w w':World}{l b b':Nat}{S S2:Nat->Prop}{xs:List ByteArray}{v:Value}{e:Ending}
theorem LS.lt(h:LS w l S xs b){k:Nat}(hk:S k):k < w.heap.size:=by
 obtain⟨M,P,m,rfl,_,hL⟩:=h;have:=hL.llt;rcases hk with h|h|h <;> omega
theorem LS.kept(h:LS w l S xs b)(hs:w.heap.size<=w'.heap.size)(hb:∀k,S k->w'.heap[k]?=w.heap[k]?):LS w' l S xs b:=by
 obtain⟨M,P,m,rfl,hm,hL⟩:=h;exact⟨M,P,m,rfl,hm,hL.same hs (hb _ (Or.inl rfl)) (hb _ (Or.inr (Or.inl rfl))) (hb _ (Or.inr (Or.inr rfl)))⟩
theorem LS.mono(h:LS w l S xs b)(hb:b<=b'):LS w l S xs b':=by
 obtain⟨M,P,m,h1,hm,hL⟩:=h;exact⟨M,P,m,h1,by omega,hL⟩
theorem LS.small(h:LS w l S xs b):∀x∈xs,x.size<=maxLen:=by obtain⟨M,P,m,h1,hm,hL⟩:=h;exact hL.small
theorem LS.len(h:LS w l S xs b):xs.length<=b/\xs.length<=99999:=by
 obtain⟨M,P,m,h1,hm,hL⟩:=h;have:=hL.le;omega
theorem OpPost.lpost{M P m:Nat}(h:OpPost v w l M P xs m e w')(hm:m<=b):LPost v w l (three l M P) xs b e w':=by
 obtain⟨P',he,hP,hL,hT⟩:=h;refine⟨he,three l M P',⟨M,P',m,rfl,hm,hL⟩,λk hk=>?_,⟨hT.os,hT.tape,hT.output,hT.size,λk hk hn=>hT.block k hk (λe=>hn (Or.inl e)) (λe=>hn (Or.inr (Or.inl e))) (λe=>hn (Or.inr (Or.inr e)))⟩⟩;rcases hk with h|h|h
 . exact Or.inl (Or.inl h)
 . exact Or.inl (Or.inr (Or.inl h))
 . subst h;rcases hP with h|h
   . exact Or.inl (Or.inr (Or.inr h))
   . exact Or.inr h
end
section
variable(w:World)(l:Nat)(S:Nat->Prop)(xs:List ByteArray)(b:Nat)(h:LS w l S xs b)
include h
theorem ls_len:Calls Tryz.prog 137 #[.pointer (some ⟨l,0,none⟩)] w (IntPost (xs.length:Int) w):=by
 obtain⟨M,P,m,rfl,hm,hL⟩:=h;exact len_any w l M P xs m hL
theorem ls_has(key:ByteArray)(hs:key.size<=maxLen):Calls Tryz.prog 145 #[.pointer (some ⟨l,0,none⟩),.string key] w (BoolPost (inn xs key) w):=by
 obtain⟨M,P,m,rfl,hm,hL⟩:=h;exact has_any w l M P xs m key hL hs
theorem ls_last:Calls Tryz.prog 154 #[.pointer (some ⟨l,0,none⟩)] w (KeyPost (lastKey xs) (anyKey xs) w):=by
 obtain⟨M,P,m,rfl,hm,hL⟩:=h;exact last_any w l M P xs m hL
theorem ls_keys:Calls Tryz.prog 120 #[.pointer (some ⟨l,0,none⟩)] w (RowPost xs w):=by
 obtain⟨M,P,m,rfl,hm,hL⟩:=h;exact keys_any w l M P xs m hL
theorem ls_front(key:ByteArray)(b':Nat)(hs:key.size<=maxLen)(hb:b<=99000)(h1:b<=b')(h2:(rem xs key).length+1<=b'):
 Calls Tryz.prog 151 #[.pointer (some ⟨l,0,none⟩),.string key] w (LPost (.tuple #[]) w l S (key::rem xs key) b'):=by
 obtain⟨M,P,m,rfl,hm,hL⟩:=h;exact(front_any w l M P xs m key hL hs (by omega)).mono λe w' hp=>hp.lpost (by omega)
theorem ls_front_new(key:ByteArray)(b':Nat)(hk:key∉xs)(hs:key.size<=maxLen)(hb:b<=99000)(h1:b<=b')(h2:xs.length+1<=b'):
 Calls Tryz.prog 151 #[.pointer (some ⟨l,0,none⟩),.string key] w (LPost (.tuple #[]) w l S (key::xs) b'):=by
 have:=ls_front w l S xs b h key b' hs hb h1 (by rw[rem_none hk];exact h2);rw[rem_none hk] at this;exact this
theorem ls_remove(key:ByteArray)(hs:key.size<=maxLen):
 Calls Tryz.prog 136 #[.pointer (some ⟨l,0,none⟩),.string key] w (LPost (.bool (inn xs key)) w l S (rem xs key) b):=by
 obtain⟨M,P,m,rfl,hm,hL⟩:=h;exact(remove_any w l M P xs m key hL hs).mono λe w' hp=>hp.lpost hm
theorem ls_pop:Calls Tryz.prog 143 #[.pointer (some ⟨l,0,none⟩)] w (LPost (.tuple #[.string (lastKey xs),.bool (anyKey xs)]) w l S xs.dropLast b):=by
 obtain⟨M,P,m,rfl,hm,hL⟩:=h;exact(pop_any w l M P xs m hL).mono λe w' hp=>hp.lpost hm
end
def NewL(w:World)(e:Ending)(w':World):Prop:=∃l S,e= .returned (.pointer (some ⟨l,0,none⟩))/\(∀k,S k->w.heap.size<=k)/\LS w' l S [] 0/\Below w.heap.size w w'
theorem ls_new(w:World):Calls Tryz.prog 55 #[] w (NewL w):=by
 refine(new_any w).mono ?_;rintro e w' ⟨l,M,P,rfl,hl,hM,hP,hL,hB⟩;refine⟨l,three l M P,rfl,λk hk=>?_,⟨M,P,0,rfl,Nat.le_refl _,hL⟩,hB⟩;rcases hk with h|h|h <;> omega
end Go.Proofs.YtdmmciggopmglaaGreatDoor
namespace Go.Proofs.YtdmmciggopmglaaGreatDoor
open Go.RowKit Sg
theorem Row.lt{w:World}{g:Nat}{v:Value}{xs:List ByteArray}(h:Row w g v xs)(hx:xs≠ []):g < w.heap.size:=by
 rcases h.2.2 with⟨h,_⟩|⟨o,c,e,h1,_⟩
 . exact absurd h hx
 . exact h1
theorem Own.below{w w':World}{base:Nat}{v:Value}{xs:List ByteArray}(h:Own w base v xs)(hb:Below w.heap.size w w'):Own w' base v xs:=h.same λg hg=>hb.block g (h.lt hg).1
end Go.Proofs.YtdmmciggopmglaaGreatDoor
