/- Part 0 of the proof. -/
import Derived.Test.YtgjdjgnfpendgaaGreatDoorZ
import Derived.Below
import Derived.BigQuiet
import Derived.BigRegion
import Derived.Deep.CutBlock
import Derived.Deep.DeepCutAuto
import Derived.Deep.Draws
import Derived.Deep.LoopGhost
import Derived.Deep.QuietTactic
import Derived.Deep.RegionHeld3
import Derived.Defers
import Derived.IntWalk
import Derived.LaidEqlPtr
import Derived.Laws.OwnMore
import Derived.Laws.StructEq
import Derived.Lib.Hide
import Derived.LoopTactic
import Derived.Maps.AppendAt
import Derived.Maps.OwnSet
import Derived.OwnWalk
import Derived.Recover
import Derived.RegionTactic
import Derived.Sort.Grow
import Derived.StillTailTactics
import Derived.Test.YtgjdjgnfpendgaaGreatDoorChecked
import Derived.WalkKit
set_option maxHeartbeats 16000000
set_option maxRecDepth 20000
namespace Go.Proofs.YtgjdjgnfpendgaaGreatDoor
open Go.Proofs.Tryz
namespace LF
namespace Ht
structure aa(K:Type) where
 key:K
 one:Int
 two:Int
 set:Nat
variable{K:Type}
def lt(a b:aa K):Prop:=a.one < b.one\/(a.one=b.one/\(a.two < b.two\/(a.two=b.two/\a.set < b.set)))
instance Ue (a b:aa K):Decidable (lt a b):=by unfold lt;exact inferInstance
theorem lt.trans{a b c:aa K}(h:lt a b)(k:lt b c):lt a c:=by unfold lt at *;omega
theorem lt.irrefl(a:aa K):¬lt a a:=by unfold lt;omega
theorem lt.asymm{a b:aa K}(h:lt a b):¬lt b a:=λk=>lt.irrefl a (h.trans k)
theorem lt.cz{a b:aa K}(h:a.set≠b.set)(k:¬lt a b):lt b a:=by unfold lt at *;omega
def tg(T:List Nat)(i:Nat):Nat:=T.getD i 0
def dT(T:List Nat)(i j:Nat):List Nat:=(T.set i (tg T j)).set j (tg T i)
theorem fm{T:List Nat}{i:Nat}(h:i < T.length):T[i]?=some (tg T i):=by
 unfold tg;rw[List.getD_eq_getElem?_getD,List.getElem?_eq_getElem h];rfl
theorem dZ{T:List Nat}{i:Nat}(h:i < T.length):tg T i∈T:=List.mem_of_getElem? (fm h)
theorem gP{T:List Nat}{b:Nat}(h:b∈T):∃i,i < T.length/\tg T i=b:=by
 obtain⟨i,hi,rfl⟩:=List.mem_iff_getElem.1 h;refine⟨i,hi,?_⟩;have:=fm hi;rw[zm hi] at this;exact(Option.some.inj this).symm
theorem eH{T:List Nat}{i j:Nat}:(dT T i j).length=T.length:=by simp[dT]
theorem iu{T:List Nat}{i j:Nat}(hi:i < T.length)(hj:j < T.length)(k:Nat):tg (dT T i j) k=if k=j then tg T i else if k=i then tg T j else tg T k:=by
 unfold dT;show(List.set _ j _).getD k 0=_;rw[zt,List.getElem?_set,List.getElem?_set]
 by_cases h1:k=j
 . subst h1;simp[hj]
 . rw[if_neg (λe=>h1 e.symm),if_neg h1]
   by_cases h2:k=i
   . subst h2;simp[hi]
   . rw[if_neg (λe=>h2 e.symm),if_neg h2];rfl
theorem mG{T:List Nat}{i j:Nat}(hi:i < T.length)(hj:j < T.length):(dT T i j).Perm T:=by
 have e1:tg T i=T[i]:=by have:=fm hi;rw[zm hi] at this;exact(Option.some.inj this).symm
 have e2:tg T j=T[j]:=by have:=fm hj;rw[zm hj] at this;exact(Option.some.inj this).symm
 unfold dT;rw[e1,e2];exact List.set_set_perm hi hj
def Hp(n:Nat)(o:Nat->aa K):Prop:=∀i,0 < i->i < n->lt (o ((i - 1) / 2)) (o i)
def Up(n:Nat)(o:Nat->aa K)(p:Nat):Prop:=(∀i,0 < i->i < n->i≠p->(i - 1) / 2≠p->lt (o ((i - 1) / 2)) (o i))/\∀i,0 < p->0 < i->i < n->(i - 1) / 2=p->lt (o ((p - 1) / 2)) (o i)
def Dn(n:Nat)(o:Nat->aa K)(p:Nat):Prop:=(∀i,0 < i->i < n->(i - 1) / 2≠p->lt (o ((i - 1) / 2)) (o i))/\∀i,0 < p->0 < i->i < n->(i - 1) / 2=p->lt (o ((p - 1) / 2)) (o i)
def sw(o:Nat->aa K)(i j:Nat):Nat->aa K:=λk=>if k=j then o i else if k=i then o j else o k
theorem Th(o:Nat->aa K)(i j:Nat):sw o i j j=o i:=by simp[sw]
theorem vt(o:Nat->aa K)(i j:Nat)(h:i≠j):sw o i j i=o j:=by simp[sw,h]
theorem qL(o:Nat->aa K)(i j k:Nat)(h:k≠i)(h':k≠j):sw o i j k=o k:=by simp[sw,h,h']
variable{n p:Nat}{o:Nat->aa K}
theorem Up.step(h:Up n o p)(hp:0 < p)(hn:p < n)(hl:lt (o p) (o ((p - 1) / 2))):Up n (sw o p ((p - 1) / 2)) ((p - 1) / 2):=by
 obtain⟨h1,h2⟩:=h;obtain⟨q,hq⟩:=zx ((p - 1) / 2);rw[← hq] at hl|-;have IJ:q < p:=by omega
 refine⟨λi hi fQ Ug mH=>?_,λi KT hi fQ hr=>?_⟩
 . have lN:i≠p:=by intro e;subst e;exact mH hq.symm
   rw[qL o p q i lN Ug]
   by_cases hr:(i - 1) / 2=p
   . rw[hr,vt o p q (by omega),hq];exact h2 i hp hi fQ hr
   . rw[qL o p q _ hr mH];exact h1 i hi fQ lN hr
 . have hb:lt (o ((q - 1) / 2)) (o q):=h1 q KT (by omega) (by omega) (by omega);rw[qL o p q _ (by omega) (by omega)]
   by_cases lN:i=p
   . rw[lN,vt o p q (by omega)];exact hb
   . rw[qL o p q i lN (by omega)];have:=h1 i hi fQ lN (by omega);rw[hr] at this;exact hb.trans this
theorem Up.stop(h:Up n o p)(hs:p=0\/lt (o ((p - 1) / 2)) (o p)):Dn n o p:=by
 refine⟨λi hi fQ hr=>?_,h.2⟩
 by_cases lN:i=p
 . rcases hs with hs|hs
   . omega
   . rw[lN];exact hs
 . exact h.1 i hi fQ lN hr
theorem Dn.step(h:Dn n o p){c:Nat}(hc:0 < c)(Uh:c < n)(wC:(c - 1) / 2=p)(hl:lt (o c) (o p))(hd:∀d,0 < d->d < n->(d - 1) / 2=p->d≠c->lt (o c) (o d)):Dn n (sw o p c) c:=by
 obtain⟨h1,h2⟩:=h;refine⟨λi hi fQ hr=>?_,λi WH hi fQ hr=>?_⟩
 . by_cases KU:i=c
   . subst KU;rw[wC,Th,vt o p i (by omega)];exact hl
   . by_cases lN:i=p
     . subst lN;rw[vt o i c (by omega),qL o i c _ (by omega) hr];exact h2 c hi hc Uh wC
     . rw[qL o p c i lN KU]
       by_cases IK:(i - 1) / 2=p
       . rw[IK,vt o p c (by omega)];exact hd i hi fQ IK KU
       . rw[qL o p c _ IK hr];exact h1 i hi fQ IK
 . rw[wC,vt o p c (by omega),qL o p c i (by omega) (by omega)];have:=h1 i hi fQ (by omega);rw[hr] at this;exact this
theorem Dn.stop(h:Dn n o p)(hs:∀c,0 < c->c < n->(c - 1) / 2=p->lt (o p) (o c)):Hp n o:=by
 intro i hi fQ
 by_cases hr:(i - 1) / 2=p
 . rw[hr];exact hs i hi fQ hr
 . exact h.1 i hi fQ hr
theorem Up.of{m:Nat}{o':Nat->aa K}(h:Hp m o)(hm:n<=m)(he:∀i,i < n->i≠p->o' i=o i):Up n o' p:=by
 refine⟨λi hi fQ lN hr=>?_,λi hp hi fQ hr=>?_⟩
 . rw[he i fQ lN,he _ (by omega) hr];exact h i hi (by omega)
 . rw[he i fQ (by omega),he ((p - 1) / 2) (by omega) (by omega)];have h1:=h i hi (by omega);rw[hr] at h1;exact(h p hp (by omega)).trans h1
theorem Hp.root(h:Hp n o):∀i,0 < i->i < n->lt (o 0) (o i):=by
 intro i
 induction i using Nat.strongRecOn with
 |_ i ih=>
  intro hi fQ
  by_cases h0:(i - 1) / 2=0
  . have:=h i hi fQ;rw[h0] at this;exact this
  . exact(ih ((i - 1) / 2) (by omega) (by omega) (by omega)).trans (h i hi fQ)
def mJ(L:List (aa K)):Prop:=L.Pairwise lt
theorem mJ.uniq:∀{L M:List (aa K)},L.Perm M->mJ L->mJ M->L=M
 | [],M,hp,_,_=>(List.nil_perm.1 hp).symm
 |a::L,[],hp,_,_=>by have:=hp.length_eq;simp at this
 |a::L,b::M,hp,h1,h2=>by
  have ha:=List.pairwise_cons.1 h1;have hb:=List.pairwise_cons.1 h2
  have iU:a=b:=by
   have m1:a∈b::M:=hp.mem_iff.1 xa;have m2:b∈a::L:=hp.mem_iff.2 xa;rcases List.mem_cons.1 m1 with e|m1
   . exact e
   . rcases List.mem_cons.1 m2 with e|m2
     . exact e.symm
     . exact absurd (hb.1 a m1) (ha.1 b m2).asymm
  subst iU;rw[mJ.uniq (List.Perm.cons_inv hp) ha.2 hb.2]
def ins(e:aa K):List (aa K)->List (aa K)
 | []=>[e]
 |x::xs=>if lt x e then x::ins e xs else e::x::xs
theorem km(e:aa K):∀L,(ins e L).Perm (e::L)
 | []=>List.Perm.refl _
 |x::xs=>by
  unfold ins;split
  . exact((km e xs).cons x).trans (List.Perm.swap e x xs)
  . exact List.Perm.refl _
theorem vu{e x:aa K}{L:List (aa K)}:x∈ins e L<->x=e\/x∈L:=by rw[(km e L).mem_iff,qu]
theorem JH(e:aa K)(L:List (aa K)):(ins e L).length=L.length+1:=by rw[(km e L).length_eq];rfl
theorem vw(e:aa K):∀L:List (aa K),mJ L->(∀x∈L,x.set≠e.set)->mJ (ins e L)
 | [],_,_=>List.pairwise_singleton _ _
 |x::xs,h,hs=>by
  have hx:=List.pairwise_cons.1 h;unfold ins;split
  . rename_i hl
    refine List.pairwise_cons.2 ⟨λy hy=>?_,vw e xs hx.2 (λy hy=>hs y (qm _ hy))⟩;rcases vu.1 hy with rfl|hy
    . exact hl
    . exact hx.1 y hy
  . rename_i hl
    have he:=lt.cz (hs x xa) hl;refine List.pairwise_cons.2 ⟨λy hy=>?_,h⟩;rcases List.mem_cons.1 hy with rfl|hy
    . exact he
    . exact he.trans (hx.1 y hy)
variable [DecidableEq K]
def rem(L:List (aa K))(k:K):List (aa K):=L.filter λe=>decide (e.key≠k)
theorem gY{L:List (aa K)}{k:K}{e:aa K}:e∈rem L k<->e∈L/\e.key≠k:=by simp[rem]
theorem rW{L:List (aa K)}(h:mJ L)(k:K):mJ (rem L k):=List.Pairwise.filter _ h
theorem aZ{L:List (aa K)}{k:K}(h:∀e∈L,e.key≠k):rem L k=L:=by
 unfold rem;rw[List.filter_eq_self];intro e he;simp[h e he]
def find(L:List (aa K))(k:K):Option (aa K):=L.find? λe=>decide (e.key=k)
theorem gz{L:List (aa K)}{k:K}{e:aa K}(h:find L k=some e):e∈L/\e.key=k:=⟨List.mem_of_find?_eq_some h,by simpa using List.find?_some h⟩
theorem kR{L:List (aa K)}{k:K}(h:find L k=none):∀e∈L,e.key≠k:=by
 intro e he;have:=List.find?_eq_none.1 h e he;simpa using this
structure ed(L:List (aa K))(c:Nat):Prop where
 keys:(L.map (·.key)).Nodup
 qM:(L.map (·.set)).Nodup
 le:∀e∈L,e.set<=c
omit [DecidableEq K] in
theorem ed.perm{L M:List (aa K)}{c:Nat}(h:ed L c)(hp:L.Perm M):ed M c:=
 ⟨(hp.map _).nodup_iff.1 h.keys,(hp.map _).nodup_iff.1 h.qM,λe he=>h.le e (hp.mem_iff.2 he)⟩
omit [DecidableEq K] in
theorem ed.uniq{L:List (aa K)}{c:Nat}(h:ed L c){a b:aa K}(ha:a∈L)(hb:b∈L)(he:a.key=b.key):a=b:=by
 have:=h.keys
 induction L with
 |nil=>cases ha
 |cons x L ih=>
  rw[xb,qj] at this;rcases List.mem_cons.1 ha with rfl|QF
  . rcases List.mem_cons.1 hb with rfl|j9
    . rfl
    . exact absurd (he▸xt j9) this.1
  . rcases List.mem_cons.1 hb with rfl|j9
    . exact absurd (he▸xt QF) this.1
    . have hL:ed L c:=⟨this.2,(List.nodup_cons.1 (by simpa using h.qM)).2,λe he=>h.le e (qm _ he)⟩;exact ih hL QF j9 this.2
theorem ed.rem{L:List (aa K)}{c:Nat}(h:ed L c)(k:K):ed (rem L k) c:=
 ⟨h.keys.sublist ((xx).map _),h.qM.sublist ((xx).map _),λe he=>h.le e (gY.1 he).1⟩
omit [DecidableEq K] in
theorem ed.put{L:List (aa K)}{c:Nat}(h:ed L c)(k:K)(a b:Int)(hk:∀e∈L,e.key≠k):ed (ins ⟨k,a,b,c+1⟩ L) (c+1):=by
 refine ed.perm (L:=⟨k,a,b,c+1⟩::L) ⟨?_,?_,?_⟩ (km _ _).symm
 . rw[xb,qj];refine⟨λhm=>?_,h.keys⟩;obtain⟨e,he,KV⟩:=List.mem_map.1 hm;exact hk e he KV
 . rw[xb,qj];refine⟨λhm=>?_,h.qM⟩;obtain⟨e,he,KV⟩:=List.mem_map.1 hm;have:=h.le e he;have:e.set=c+1:=KV;omega
 . intro e he;rcases List.mem_cons.1 he with rfl|he
   . exact zg _
   . exact Nat.le_succ_of_le (h.le e he)
theorem ed.pw{e:aa K}{L:List (aa K)}{c:Nat}(h:ed (e::L) c):Ht.rem (e::L) e.key=L:=by
 unfold Ht.rem;rw[List.filter_cons_of_neg (by simp),List.filter_eq_self];intro x hx;have:=h.keys;rw[xb,qj] at this;have al:x.key≠e.key:=λhe=>this.1 (he▸xt hx);simp[al]
theorem ed.find{L:List (aa K)}{c:Nat}(h:ed L c){e:aa K}(he:e∈L):Ht.find L e.key=some e:=by
 cases hf:Ht.find L e.key with
 |none=>exact absurd rfl (kR hf e he)
 |some x=>rw[h.uniq (gz hf).1 he (gz hf).2]
end Ht
end LF
namespace LF
open Go.RowKit Ht Go.Maps Go.WideMaps
theorem kn{k:IntKind}{a b:Int}(h:a=b):Ending.returned (.int k a)= .returned (.int k b):=by rw[h]
theorem eI{a b:Bool}(h:a=b):Ending.returned (.bool a)= .returned (.bool b):=by rw[h]
theorem kS{s t:zy}(h:s≠t):(Lit.string s.data.toList)≠ .string t.data.toList:=by
 intro e;injection e with e
 exact h (ByteArray.ext (Array.toList_inj.1 e))
theorem qN{H:Type}{P:Program}{k:TypeId}{R:Value->Option (DataW H × List MemPlace)}{w:zw}{b n:Nat}{D:DataW H}(h:w.ownsMap P k R b n D):w.ownsMap P k R b (Maps.size D) D:=by
 obtain⟨es,clock,hb,F,_,rfl⟩:=h;exact⟨es,clock,hb,F,by simp[Maps.size,length_sorted],rfl⟩
theorem nW{H:Type}{P:Program}{k:TypeId}{R:Value->Option (DataW H × List MemPlace)}{w w':zw}{b n:Nat}{D:DataW H}(h:w.ownsMap P k R b n D)(hs:w'.heap[b]?=w.heap[b]?):w'.ownsMap P k R b n D:=by
 obtain⟨es,clock,hb,r⟩:=h;exact⟨es,clock,hs.trans hb,r⟩
theorem aq{P:Program}{w:zw}{ops:Array Oper}{rest:List Oper}{o:Oper}{a:Act}{Q:Exit->Act->zw->Prop}(jT:o.guard=none)(s x:Operand)(t:TypeId)
 (ho:o.op= .call {callee:= .builtin .append,args:=#[s,x],argTypes:=#[t,t]}) (v u v':Value) (w':zw) (hs:a.eval s=v) (hx:a.eval x=u) (hr:(Builtin.append_ #[t,t] o.type #[v,u]).run P w= .ok v' w')
 (h:wpList P ops Q rest (a.put o.dst v') w'):wpList P ops Q (o::rest) a w:=by
 refine wpList_plain jT λK hK=>?_;unfold Oper.wp execOp;simp only[ho,resolve,invoke,builtin,Sem.run_bind,Sem.run_pure,Result.andThen_ok,List.map_toArray,xb,List.map_nil,hs,hx,hr];exact hK _ _ h
structure ao(S:Nat->Prop)(w w':zw):Prop where
 os:w'.os=w.os
 tape:w'.tape=w.tape
 output:w'.output=w.output
 size:w.heap.size<=w'.heap.size
 block:∀k,k < w.heap.size->¬S k->w'.heap[k]?=w.heap[k]?
section
variable{S:Nat->Prop}{w w1 w2:zw}
theorem ao.refl(S:Nat->Prop)(w:zw):ao S w w:=⟨rfl,rfl,rfl,zg _,λ_ _ _=>rfl⟩
theorem ao.trans{S':Nat->Prop}(h:ao S w w1)(k:ao S' w1 w2)(hs:∀k,k < w.heap.size->S' k->S k):ao S w w2:=
 ⟨k.os.trans h.os,k.tape.trans h.tape,k.output.trans h.output,zr h.size k.size,λi hi h1=>(k.block i (xd hi h.size) (λe=>h1 (hs i hi e))).trans (h.block i hi h1)⟩
theorem ao.setCell(h:ao S w w1){p:Addr}(hp:S p.block)(u:Value):ao S w (w1.setCell p u):=
 h.trans (S':=S) ⟨rfl,rfl,rfl,by simp[World.setCell],λk _ h1=>qc _ _ _ _ (λe=>h1 (e▸hp))⟩ (λ_ _ h=>h)
theorem ao.drew(h:ao S w w1):ao S w w1.drew:=⟨h.os,h.tape,h.output,h.size,h.block⟩
theorem ao.alloc(h:ao S w w1)(o:Obj):ao S w (w1.alloc o):=
 h.trans (S':=S) ⟨rfl,rfl,rfl,by simp,λk hk _=>qf _ _ _ hk⟩ (λ_ _ h=>h)
theorem ao.grown{r:Option Nat}(h:ao S w w1)(g:w1.grownBy w2 r)(hr:∀k,r=some k->S k\/w.heap.size<=k):ao S w w2:=
 ⟨g.os.trans h.os,g.tape.trans h.tape,g.output.trans h.output,zr h.size g.size,λi hi h1=>(g.block i (xd hi h.size) (λe=>by rcases hr i e.symm with h|h;exact h1 h;omega)).trans (h.block i hi h1)⟩
theorem ao.cZ(h:Below w.heap.size w w1):ao S w w1:=⟨h.os,h.tape,h.output,h.size,λk hk _=>h.block k hk⟩
theorem ao.wide{S':Nat->Prop}(h:ao S w w1)(hs:∀k,k < w.heap.size->S k->S' k):ao S' w w1:=⟨h.os,h.tape,h.output,h.size,λk hk h1=>h.block k hk (λe=>h1 (hs k hk e))⟩
end
def b6(w w':zw):Prop:=∃q os,w'=Go.Sort.grow (w.drewN q) os
section
variable{w w1 w2:zw}
theorem b6.refl(w:zw):b6 w w:=⟨0,#[],by rw[Go.Sort.grow_empty];rfl⟩
theorem b6.alloc(h:b6 w w1)(o:Obj):b6 w (w1.alloc o):=by
 obtain⟨q,os,rfl⟩:=h;exact⟨q,os++ #[o],by rw[Go.Sort.alloc_eq_grow,Go.Sort.grow_grow]⟩
theorem b6.drewN(h:b6 w w1)(n:Nat):b6 w (w1.drewN n):=by
 obtain⟨q,os,rfl⟩:=h;exact⟨q+n,os,by simp only[World.drewN,Go.Sort.grow,Nat.add_assoc]⟩
theorem b6.drew(h:b6 w w1):b6 w w1.drew:=h.drewN 1
theorem b6.trans(h:b6 w w1)(k:b6 w1 w2):b6 w w2:=by
 obtain⟨q,os,rfl⟩:=k;obtain⟨q',Ui,h⟩:=h.drewN q;exact⟨q',Ui++os,by rw[h,Go.Sort.grow_grow]⟩
theorem b6.below(h:b6 w w1):Below w.heap.size w w1:=by
 obtain⟨q,os,rfl⟩:=h;exact⟨rfl,rfl,rfl,by simp[Go.Sort.grow,World.drewN],λk hk=>Go.Sort.heap_grow_old (w.drewN q) os hk⟩
theorem l'{p:Addr}{v:Value}(hc:w.cell? p=some v):p.block < w.heap.size:=by
 by_cases h:p.block < w.heap.size
 . exact h
 . have:w.heap[p.block]?=none:=Array.getElem?_eq_none_iff.2 (by omega)
   simp[World.cell?,this] at hc
theorem b6.cell{p:Addr}{v:Value}(h:b6 w w1)(hc:w.cell? p=some v):w1.cell? p=some v:=(World.cell?_of_block (h.below.block _ (l' hc))).trans hc
end
def dq(b:Bool)(w:zw)(e:Ending)(w':zw):Prop:=e= .returned (.bool b)/\w=w'
def bS(z:Int)(w:zw)(e:Ending)(w':zw):Prop:=e= .returned (.int .i64 z)/\w=w'
def Be(b:Bool)(w:zw)(e:Ending)(w':zw):Prop:=e= .returned (.bool b)/\b6 w w'
def px(a b c d:Int):Bool:=if a=c then decide (b < d) else decide (a < c)
theorem FQ(w:zw)(a b c d:Int):Calls prog 193 #[.agg #[.int .i64 a,.int .i64 b],.agg #[.int .i64 c,.int .i64 d]] w (Be (px a b c d) w):=by
 by_cases h:a=c
 . have e0:(a != c)=false:=by simp[h]
   have R:px a b c d=decide (b < d):=by simp[px,h]
   have HR:=J R;clear R h;go_enter func193,ntmps193;go_wp2_with fail
   go_ret;exact⟨eI HR.out.symm,((b6.refl w).alloc _).alloc _⟩
 . have e0:(a != c)=true:=by simp[h]
   have R:px a b c d=decide (a < c):=by simp[px,h]
   have HR:=J R;clear R h;go_enter func193,ntmps193;go_wp2_with fail
   go_ret;exact⟨eI HR.out.symm,((b6.refl w).alloc _).alloc _⟩
theorem Ti(w:zw)(a b c d:Int):(binOp .neq 252 (.agg #[.int .i64 a,.int .i64 b]) (.agg #[.int .i64 c,.int .i64 d])).run prog w= .ok (.bool (!(decide (a=c)&&decide (b=d)))) w:=by
 have u3:=underlying3;have a3:=isAgg3;have z3:=sizeOf3;have hS:prog.underlying 252=some (.struct (prog.fieldsOf 252)):=by kernel_rfl
 have hp:prog.stoodInHeld 252=false:=by kernel_rfl
 rw[run_neq_struct,show(10000:Nat)=9999+1 from rfl,run_equalIn_agg w 9999 252 _ _ hS hp];simp only[Program.fieldsOf,underlying252];go_simp
 by_cases h1:a=c <;> by_cases h2:b=d <;> simp[h1,h2]
theorem K6(w:zw)(op:BinOp)(x y:Operand)(xs ys:Array Value):(eqGuard op 252 x y (.agg xs) (.agg ys)).run prog w= .ok () w:=
 run_eqGuard_agg w op 252 x y xs ys (by kernel_rfl)
end LF
namespace LF
namespace HS
open Go.RowKit Ht Go.Maps Go.WideMaps
abbrev Key:=zy
def lO(k:Key):Prop:=k.size<=maxLen
def qO(k:Key):Lit:=Lit.string k.data.toList
theorem rX{a b:Key}(h:a≠b):qO a≠qO b:=kS h
theorem Bf(k:Key):WideAt.IsKeyLit (qO k):=trivial
theorem x':Keyed prog 9:=string_keyed underlying9
theorem FR{k:Key}(hs:lO k):keyOf prog 9 (.string k)=some (qO k):=keyOf_string_mk underlying9 hs
theorem Pj(w:zw):(zeroValue 259).run prog w= .ok (.pointer none) w:=by kernel_rfl
def K7:Value->Option (DataW Value × List MemPlace)
 | .pointer a=>some (.held (.pointer a),[])
 |_=>none
theorem JI{v:Value}{y:DataW Value × List MemPlace}(h:K7 v=some y):y=(.held v,[]):=by
 unfold K7 at h;split at h
 . cases h;rfl
 . cases h
def oA:Option Nat->Value
 |none=> .pointer none
 |some b=> .pointer (some ⟨b,0,none⟩)
def iw(f:Key->Option Nat)(s:Key)(v:Nat):Key->Option Nat:=λt=>if t=s then some v else f t
def lI(f:Key->Option Nat)(s:Key):Key->Option Nat:=λt=>if t=s then none else f t
def Mp(w:zw)(b:Nat)(f:Key->Option Nat)(n:Nat):Prop:=∃D:DataW Value,w.ownsMap prog 9 K7 b n D/\Maps.size D=n/\
 ∀s:Key,Maps.has D (qO s)=(f s).isSome/\D.atKey (qO s) (.held (.pointer none))= .held (oA (f s))
section
variable{w:zw}{b n:Nat}{f:Key->Option Nat}
theorem Mp.made(w:zw):Mp (w.alloc (.map #[] 0)) w.heap.size (λ_=>none) 0:=⟨.map [],World.ownsMap_made w _ _ _,rfl,λ_=>⟨rfl,rfl⟩⟩
theorem Mp.same{w':zw}(h:Mp w b f n)(hs:w'.heap[b]?=w.heap[b]?):Mp w' b f n:=by
 obtain⟨D,h1,h2⟩:=h;exact⟨D,nW h1 hs,h2⟩
theorem Mp.lt(h:Mp w b f n):b < w.heap.size:=by
 obtain⟨D,h1,_⟩:=h;exact h1.lt
theorem Mp.obj(h:Mp w b f n):∃es c,w.heap[b]?=some (.map es c):=by
 obtain⟨D,⟨es,clock,hb,_⟩,_⟩:=h;exact⟨es,clock,hb⟩
theorem Mp.look(h:Mp w b f n){s:Key}(hs:lO s):
 (Instr.lookup 222 (.map (some b)) (.string s) false).run prog w= .ok (oA (f s)) w:=by
 obtain⟨D,h1,_,h3⟩:=h;obtain⟨v,ps,aB,hv⟩:=h1.lookup x' underlying222 (Pj w) (zd:= .held (.pointer none)) (zp:=[]) rfl (FR hs);have e:=JI hv;rw[(h3 s).2] at e;rw[aB,<-DataW.held.inj (Prod.mk.inj e).1]
theorem Mp.store(h:Mp w b f n){s:Key}(hs:lO s)(hn:n<=1000000)(hf:f s=none)(v:Nat):
 ∃w',(Instr.mapUpdate 222 (.map (some b)) (.string s) (.pointer (some ⟨v,0,none⟩))).run prog w= .ok () w'/\Mp w' b (iw f s v) (n+1)/\w.grownBy w' (some b):=by
 obtain⟨D,h1,h2,h3⟩:=h;obtain⟨w',aB,aS,hg⟩:=h1.update x' underlying222 (by unfold maxLen;omega) (FR hs) (val:= .pointer (some ⟨v,0,none⟩)) (d:= .held (.pointer (some ⟨v,0,none⟩))) (ps:=[]) rfl;refine⟨w',aB,⟨_,aS,?_,λt=>?_⟩,hg⟩
 . rw[size_put (h1.tidy x'),(h3 s).1,hf,h2];rfl
 . unfold iw
   by_cases e:t=s
   . subst e;rw[if_pos rfl,has_put_same h1.isMap (Bf _),atKey_put_same h1.isMap (Bf _)];exact⟨rfl,rfl⟩
   . rw[if_neg e,has_put_other (rX e),atKey_put_other (rX e)];exact h3 t
theorem Mp.drop(h:Mp w b f (n+1)){s:Key}(hs:lO s)(hf:(f s).isSome=true)(ty:TypeId):
 ∃w',(Builtin.delete_ #[222,9] ty #[.map (some b),.string s]).run prog w= .ok (.tuple #[]) w'/\Mp w' b (lI f s) n/\w.grownBy w' (some b):=by
 obtain⟨D,h1,h2,h3⟩:=h;obtain⟨w',aB,aS,hg⟩:=h1.drop x' underlying222 (FR hs) ty
 have bW:Maps.size (D.del (qO s))=n:=by
  have:=size_del (k:=qO s) (h1.tidy x');rw[(h3 s).1,hf,h2] at this;simpa using this
 refine⟨w',aB,⟨_,bW▸qN aS,bW,λt=>?_⟩,hg.grown⟩;unfold lI
 by_cases e:t=s
 . subst e;rw[if_pos rfl,has_del_same,atKey_del_same];exact⟨rfl,rfl⟩
 . rw[if_neg e,has_del_other (rX e),atKey_del_other (rX e)];exact h3 t
end
def eS(e:aa Key)(i:Nat):Obj:= .cells #[.string e.key,.int .i64 e.one,.int .i64 e.two,.int .i64 (e.set:Int),.int .i64 (i:Int)] 262 (0,0)
def oG(M:Nat)(v:Value)(c:Nat):Obj:= .cells #[.map (some M),v,.int .i64 (c:Int)] 225 (0,0)
def Tree(w:zw)(v:Value)(T:List Nat):Prop:=(v= .slice none 0 0/\T= [])\/∃(tb cap:Nat) (arr:Array Value),v= .slice (some ⟨tb,0,none⟩) T.length cap/\w.heap[tb]?=some (.cells arr 259 (0,0))/\arr.size=cap/\T.length<=cap/\cap<=maxLen/\
 ∀i,i < T.length->arr[i]?=some (.pointer (some ⟨tg T i,0,none⟩))
structure Holds(w:zw)(h M:Nat)(v:Value)(T:List Nat)(E:Nat->aa Key)(c:Nat):Prop where
 own:w.heap[h]?=some (oG M v c)
 tree:Tree w v T
 item:∀i,i < T.length->w.heap[tg T i]?=some (eS (E (tg T i)) i)
 top:T.length<=1000
 qP:c<=100000
def jF(h M:Nat)(v:Value)(T:List Nat)(k:Nat):Prop:=k=h\/k=M\/v.ownBlock=some k\/k∈T
section
variable{w:zw}{h M c:Nat}{v:Value}{T:List Nat}{E:Nat->aa Key}
theorem Holds.aQ(H:Holds w h M v T E c):h < w.heap.size:=(Array.getElem?_eq_some_iff.1 H.own).1
theorem Holds.ue(H:Holds w h M v T E c){i:Nat}(hi:i < T.length):tg T i < w.heap.size:=(Array.getElem?_eq_some_iff.1 (H.item i hi)).1
theorem Holds.c0(H:Holds w h M v T E c):w.cell? ⟨h,0,none⟩=some (.map (some M)):=cell_of_row w _ 0 _ _ _ H.own
theorem Holds.c1(H:Holds w h M v T E c):w.cell? ⟨h,1,none⟩=some v:=cell_of_row w _ 1 _ _ _ H.own
theorem Holds.c2(H:Holds w h M v T E c):w.cell? ⟨h,2,none⟩=some (.int .i64 (c:Int)):=cell_of_row w _ 2 _ _ _ H.own
theorem Holds.jG(H:Holds w h M v T E c)(j:Nat):w.frozen? ⟨h,j,none⟩=false:=frozen_of_row w _ j _ _ H.own
theorem Holds.i0(H:Holds w h M v T E c){i:Nat}(hi:i < T.length):w.cell? ⟨tg T i,0,none⟩=some (.string (E (tg T i)).key):=cell_of_row w _ 0 _ _ _ (H.item i hi)
theorem Holds.i1(H:Holds w h M v T E c){i:Nat}(hi:i < T.length):w.cell? ⟨tg T i,1,none⟩=some (.int .i64 (E (tg T i)).one):=cell_of_row w _ 1 _ _ _ (H.item i hi)
theorem Holds.i2(H:Holds w h M v T E c){i:Nat}(hi:i < T.length):w.cell? ⟨tg T i,2,none⟩=some (.int .i64 (E (tg T i)).two):=cell_of_row w _ 2 _ _ _ (H.item i hi)
theorem Holds.i3(H:Holds w h M v T E c){i:Nat}(hi:i < T.length):w.cell? ⟨tg T i,3,none⟩=some (.int .i64 ((E (tg T i)).set:Int)):=cell_of_row w _ 3 _ _ _ (H.item i hi)
theorem Holds.i4(H:Holds w h M v T E c){i:Nat}(hi:i < T.length):w.cell? ⟨tg T i,4,none⟩=some (.int .i64 (i:Int)):=cell_of_row w _ 4 _ _ _ (H.item i hi)
theorem Holds.Bg(H:Holds w h M v T E c){i:Nat}(hi:i < T.length)(j:Nat):w.frozen? ⟨tg T i,j,none⟩=false:=frozen_of_row w _ j _ _ (H.item i hi)
theorem Holds.at(H:Holds w h M v T E c)(hT:0 < T.length):∃(tb cap:Nat),v= .slice (some ⟨tb,0,none⟩) T.length cap/\T.length<=cap/\cap<=maxLen/\(∃arr,w.heap[tb]?=some (.cells arr 259 (0,0))/\arr.size=cap/\∀i,i < T.length->arr[i]?=some (.pointer (some ⟨tg T i,0,none⟩))):=by
 rcases H.tree with⟨_,rfl⟩|⟨tb,cap,arr,h1,h2,h3,h4,h5,h6⟩
 . exact absurd hT (by simp)
 . exact⟨tb,cap,h1,h4,h5,arr,h2,h3,h6⟩
theorem Holds.FU(H:Holds w h M v T E c):∃a cap,v= .slice a T.length cap:=by
 rcases H.tree with⟨rfl,rfl⟩|⟨tb,cap,arr,h1,_⟩
 . exact⟨none,0,rfl⟩
 . exact⟨_,_,h1⟩
theorem Tree.tl{tb n cap:Nat}(hT:Tree w (.slice (some ⟨tb,0,none⟩) n cap) T):n=T.length/\∃arr,w.heap[tb]?=some (.cells arr 259 (0,0))/\arr.size=cap/\T.length<=cap/\cap<=maxLen/\∀i,i < T.length->arr[i]?=some (.pointer (some ⟨tg T i,0,none⟩)):=by
 rcases hT with⟨h1,_⟩|⟨WI,fY,arr,h1,h2,h3,h4,h5,h6⟩
 . exact absurd h1 (by simp)
 . injection h1 with a1 a2 a3
   injection a1 with a1
   injection a1 with a1
   subst a1;subst a2;subst a3;exact⟨rfl,arr,h2,h3,h4,h5,h6⟩
theorem bT{a b:Nat}{x y:Array Value}{s t:TypeId}{u u':Nat × Nat}(ha:w.heap[a]?=some (.cells x s u))(hb:w.heap[b]?=some (.cells y t u'))(kT:s≠t):a≠b:=by
 intro e;subst e;rw[ha] at hb;injection hb with hb;injection hb with _ hb;exact kT hb
theorem Holds.hi(H:Holds w h M v T E c){i:Nat}(hi:i < T.length):h≠tg T i:=bT H.own (H.item i hi) (by decide)
theorem Holds.mi{f:Key->Option Nat}{n:Nat}(H:Holds w h M v T E c)(hM:Mp w M f n){i:Nat}(hi:i < T.length):M≠tg T i:=by
 obtain⟨es,c',hb⟩:=hM.obj;intro e;rw[e,H.item i hi] at hb;cases hb
theorem Holds.hm{f:Key->Option Nat}{n:Nat}(H:Holds w h M v T E c)(hM:Mp w M f n):h≠M:=by
 obtain⟨es,c',hb⟩:=hM.obj;intro e;rw[← e,H.own] at hb;cases hb
theorem Holds.inj(H:Holds w h M v T E c){i j:Nat}(hi:i < T.length)(hj:j < T.length)(he:tg T i=tg T j):i=j:=by
 have h1:=H.i4 hi;have h2:=H.i4 hj;rw[he,h2] at h1;injection h1 with h1
 injection h1 with _ h1
 omega
theorem Holds.nodup(H:Holds w h M v T E c):T.Nodup:=by
 refine List.pairwise_iff_getElem.2 λi j hi hj p9 he=>?_;have e1:=fm hi;have e2:=fm hj;rw[zm hi] at e1;rw[zm hj] at e2;have:=H.inj hi hj (by rw[← Option.some.inj e1,<-Option.some.inj e2];exact he);omega
theorem Holds.same{w':zw}(H:Holds w h M v T E c)(hs:∀k,jF h M v T k->w'.heap[k]?=w.heap[k]?):Holds w' h M v T E c:=by
 refine⟨(hs h (xz rfl)).trans H.own,?_,λi hi=>(hs _ (ja (ja (ja (dZ hi))))).trans (H.item i hi),H.top,H.qP⟩;rcases H.tree with⟨h1,h2⟩|⟨tb,cap,arr,rfl,h2,h3⟩
 . exact xz ⟨h1,h2⟩
 . exact ja ⟨tb,cap,arr,rfl,(hs tb (ja (ja (xz rfl)))).trans h2,h3⟩
theorem Holds.blt{f:Key->Option Nat}{n:Nat}(H:Holds w h M v T E c)(hM:Mp w M f n){k:Nat}(hk:jF h M v T k):k < w.heap.size:=by
 rcases hk with rfl|rfl|hk|hk
 . exact H.aQ
 . exact hM.lt
 . rcases H.tree with⟨rfl,h2⟩|⟨tb,cap,arr,rfl,h2,h3⟩
   . cases hk
   . cases hk;exact(Array.getElem?_eq_some_iff.1 h2).1
 . obtain⟨i,hi,rfl⟩:=gP hk;exact H.ue hi
end
theorem ya(w:zw):CallsD prog 195 #[] .returning w λe u' w'=>e= .returned (.tuple #[])/\u'= .returning/\w'=w:=by
 refine callsD_of_wpS func195 rfl λc₀ cs hu=>?_;apply wpS_region;simp[wpOpsS,go_sem,recoverD,hu,ntmps195,bodyPostS,results,results195];cases c₀
 simp_all
theorem mL(w:zw)(k:Key):Calls prog 190 #[.string k] w (dq true w):=by
 have e0:(k==k)=true:=by rw[beq_toListBytes];simp
 go_enter_defers func190,ntmps190;go_wp2
 refine leaves_cons (f:=195) (args:=#[]) (by simp) rfl ?_;refine(ya _).mono ?_;rintro e u' Uj ⟨rfl,rfl,rfl⟩;simp[Leaves,settle,results,results190,go_sem,dq]
def JJ(o:Option Nat)(w:zw)(e:Ending)(w':zw):Prop:=e= .returned (oA o)/\w=w'
theorem cH(w:zw)(h M n:Nat)(f:Key->Option Nat)(k:Key)(c0:w.cell? ⟨h,0,none⟩=some (.map (some M)))(hM:Mp w M f n)(hk:lO k):
 Calls prog 182 #[.pointer (some ⟨h,0,none⟩),.string k] w (JJ (f k) w):=by
 have hl:=hM.look hk;have F:=J (mL w k);clear hM hk;obtain⟨r,hr⟩:∃r,oA (f k)=r:=⟨_,rfl⟩;rw[hr] at hl;have HR:=J hr;clear hr;go_enter func182,ntmps182;go_wp2_with fail
 refine F.out.mono ?_;rintro e w' ⟨rfl,rfl⟩;go_wp2_with fail
 go_ret;exact⟨congrArg Ending.returned HR.out.symm,rfl⟩
end HS
end LF
namespace LF
namespace HS
open Go.RowKit Ht Go.Maps Go.WideMaps
def Seen(w:zw)(x:Nat)(a:aa Key):Prop:=w.cell? ⟨x,1,none⟩=some (.int .i64 a.one)/\w.cell? ⟨x,2,none⟩=some (.int .i64 a.two)/\w.cell? ⟨x,3,none⟩=some (.int .i64 (a.set:Int))
theorem Holds.seen{w:zw}{h M c:Nat}{v:Value}{T:List Nat}{E:Nat->aa Key}(H:Holds w h M v T E c){i:Nat}(hi:i < T.length):Seen w (tg T i) (E (tg T i)):=⟨H.i1 hi,H.i2 hi,H.i3 hi⟩
set_option maxRecDepth 100000 in
theorem kU(w:zw)(x y:Nat)(a b:aa Key)(hx:Seen w x a)(hy:Seen w y b):
 Calls prog 186 #[.pointer (some ⟨x,0,none⟩),.pointer (some ⟨y,0,none⟩)] w (Be (decide (lt a b)) w):=by
 obtain⟨x1,x2,x3⟩:=hx;obtain⟨y1,y2,y3⟩:=hy;obtain⟨ka,a1,a2,a3⟩:=a;obtain⟨kb,b1,b2,b3⟩:=b;have hq:=λw=>Ti w a1 a2 b1 b2;have hg:=K6;have mixed:prog.follows .mixedOrders=true:=by kernel_rfl
 by_cases he:a1=b1/\a2=b2
 . have HL:=J (show decide (lt (⟨ka,a1,a2,a3⟩:aa Key) ⟨kb,b1,b2,b3⟩)=decide (a3 < b3) by rw[decide_eq_decide];unfold lt;simp only;omega);have e0:(!(decide (a1=b1)&&decide (a2=b2)))=false:=by simp[he]
   rw[e0] at hq;clear he e0;simp only at x1 x2 x3 y1 y2 y3;go_enter func186,ntmps186;go_wp2_with fail
   go_quiet(fail)
   go_wp2_with fail
   go_quiet(fail)
   go_wp2_with fail
   go_ret;exact⟨eI HL.out.symm,((b6.refl w).drewN _).drewN _⟩
 . have HL:=J (show decide (lt (⟨ka,a1,a2,a3⟩:aa Key) ⟨kb,b1,b2,b3⟩)=px a1 a2 b1 b2 by unfold px;split <;> (rw[decide_eq_decide];unfold lt;simp only;omega))
   have e0:(!(decide (a1=b1)&&decide (a2=b2)))=true:=by
    by_cases h1:a1=b1
    . have h2:¬a2=b2:=λh=>he ⟨h1,h⟩;simp[h2]
    . simp[h1]
   rw[e0] at hq;clear he e0;simp only at x1 x2 x3 y1 y2 y3;go_enter func186,ntmps186;go_wp2_with fail
   go_quiet(fail)
   go_wp2_with fail
   have Uk:(w.drewN nq).cell? ⟨y,1,none⟩=some (.int .i64 b1):=y1;have Ul:(w.drewN nq).cell? ⟨y,2,none⟩=some (.int .i64 b2):=y2;have Um:(w.drewN nq).cell? ⟨x,1,none⟩=some (.int .i64 a1):=x1;have Un:(w.drewN nq).cell? ⟨x,2,none⟩=some (.int .i64 a2):=x2;have G1:=J ((b6.refl w).drewN nq);clear x1 x2 y1 y2 x3 y3;generalize w.drewN nq=w1 at*
   go_region_held3(λw'=>w'.cell? ⟨x,1,none⟩=some (.int .i64 a1)/\w'.cell? ⟨x,2,none⟩=some (.int .i64 a2)/\w'.cell? ⟨y,1,none⟩=some (.int .i64 b1)/\w'.cell? ⟨y,2,none⟩=some (.int .i64 b2)) (first|(exact⟨‹_›,‹_›,‹_›,‹_›⟩)|go_keep)
    (first
      |(go_at_call 193;refine(FQ _ a1 a2 b1 b2).mono ?_;rintro e w2 ⟨rfl,hG⟩;have z1:=hG.cell (show w1.drew.cell? ⟨x,1,none⟩=some (.int .i64 a1) from Um);have z2:=hG.cell (show w1.drew.cell? ⟨x,2,none⟩=some (.int .i64 a2) from Un);have z3:=hG.cell (show w1.drew.cell? ⟨y,1,none⟩=some (.int .i64 b1) from Uk);have z4:=hG.cell (show w1.drew.cell? ⟨y,2,none⟩=some (.int .i64 b2) from Ul);have G2:=J hG;clear hG))
   go_wp2_with fail
   go_ret;exact⟨eI HL.out.symm,b6.trans G1.out (b6.trans (b6.drew (b6.refl _)) G2.out)⟩
end HS
end LF
namespace LF
namespace HS
open Go.RowKit Ht Go.Maps Go.WideMaps
theorem nX{w:zw}{b m:Nat}{e:aa Key}(hb:w.heap[b]?=some (eS e m))(i:Nat):(w.setCell ⟨b,4,none⟩ (.int .i64 (i:Int))).heap[b]?=some (eS e i):=by
 rw[heap_setCell_same _ _ _ _ _ _ hb];rfl
structure vx(w:zw)(h M:Nat)(v:Value)(T' T:List Nat)(E:Nat->aa Key)(c:Nat):Prop where
 own:w.heap[h]?=some (oG M v c)
 tree:Tree w v T'
 item:∀i,i < T.length->w.heap[tg T i]?=some (eS (E (tg T i)) i)
 top:T.length<=1000
 qP:c<=100000
def yc(v:Value)(T:List Nat)(k:Nat):Prop:=v.ownBlock=some k\/k∈T
section
variable{w:zw}{h M c:Nat}{v:Value}{T:List Nat}{E:Nat->aa Key}
theorem Holds.Pk{tb cap i j:Nat}(H:Holds w h M (.slice (some ⟨tb,0,none⟩) T.length cap) T E c)(hi:i < T.length)(hj:j < T.length):
 vx ((w.setCell ⟨tb,i,none⟩ (.pointer (some ⟨tg T j,0,none⟩))).setCell ⟨tb,j,none⟩ (.pointer (some ⟨tg T i,0,none⟩))).drew h M (.slice (some ⟨tb,0,none⟩) T.length cap) (dT T i j) T E c:=by
 obtain⟨_,arr,h2,h3,h4,h5,h6⟩:=H.tree.tl;have ht:h≠tb:=bT H.own h2 (by decide);refine⟨?_,?_,λk hk=>?_,H.top,H.qP⟩
 . show((w.setCell _ _).setCell _ _).heap[h]?=_
   rw[heap_setCell_other _ _ _ _ ht,heap_setCell_other _ _ _ _ ht];exact H.own
 . refine ja ⟨tb,cap,(arr.setIfInBounds i (.pointer (some ⟨tg T j,0,none⟩))).setIfInBounds j (.pointer (some ⟨tg T i,0,none⟩)),by rw[eH],?_,by simpa using h3,by rw[eH];exact h4,h5,λk hk=>?_⟩
   . show((w.setCell _ _).setCell _ _).heap[tb]?=_
     rw[heap_setCell_same _ _ _ _ _ _ (heap_setCell_same _ _ _ _ _ _ h2)]
   . rw[eH] at hk;rw[iu hi hj]
     by_cases e1:k=j
     . subst e1;rw[if_pos rfl,xr (by simp;omega)]
     . rw[if_neg e1,qv (by omega)]
       by_cases e2:k=i
       . subst e2;rw[if_pos rfl,xr (by omega)]
       . rw[if_neg e2,qv (by omega)];exact h6 k hk
 . show((w.setCell _ _).setCell _ _).heap[tg T k]?=_
   have al:tg T k≠tb:=bT (H.item k hk) h2 (by decide);rw[heap_setCell_other _ _ _ _ al,heap_setCell_other _ _ _ _ al];exact H.item k hk
theorem vx.inj{T':List Nat}(H:vx w h M v T' T E c){i j:Nat}(hi:i < T.length)(hj:j < T.length)(he:tg T i=tg T j):i=j:=by
 have h1:w.cell? ⟨tg T i,4,none⟩=some (.int .i64 (i:Int)):=cell_of_row w _ 4 _ _ _ (H.item i hi);have h2:w.cell? ⟨tg T j,4,none⟩=some (.int .i64 (j:Int)):=cell_of_row w _ 4 _ _ _ (H.item j hj);rw[he,h2] at h1;injection h1 with h1
 injection h1 with _ h1
 omega
theorem vx.IL{i j:Nat}(H:vx w h M v (dT T i j) T E c)(hi:i < T.length)(hj:j < T.length):
 Holds ((w.setCell ⟨tg T j,4,none⟩ (.int .i64 (i:Int))).setCell ⟨tg T i,4,none⟩ (.int .i64 (j:Int))).drew h M v (dT T i j) E c:=by
 have Uo:h≠tg T i:=bT H.own (H.item i hi) (by decide);have Uq:h≠tg T j:=bT H.own (H.item j hj) (by decide);refine⟨?_,?_,λk hk=>?_,by rw[eH];exact H.top,H.qP⟩
 . show((w.setCell _ _).setCell _ _).heap[h]?=_
   rw[heap_setCell_other _ _ _ _ Uo,heap_setCell_other _ _ _ _ Uq];exact H.own
 . rcases H.tree with hz|⟨tb,cap,arr,h1,h2,h3⟩
   . exact xz hz
   . refine ja ⟨tb,cap,arr,h1,?_,h3⟩;show((w.setCell _ _).setCell _ _).heap[tb]?=_
     rw[heap_setCell_other _ _ _ _ (bT h2 (H.item i hi) (by decide)),heap_setCell_other _ _ _ _ (bT h2 (H.item j hj) (by decide))];exact h2
 . rw[eH] at hk;rw[iu hi hj];show((w.setCell _ _).setCell _ _).heap[_]?=_
   by_cases e1:k=j
   . rw[if_pos e1,e1]
     by_cases e2:i=j
     . subst e2;exact nX (nX (H.item i hi) i) i
     . have al:tg T i≠tg T j:=λe=>e2 (H.inj hi hj e);exact nX ((heap_setCell_other _ _ _ _ al).trans (H.item i hi)) j
   . rw[if_neg e1]
     by_cases e2:k=i
     . rw[if_pos e2,e2];have al:tg T j≠tg T i:=λe=>e1 (e2.trans (H.inj hj hi e).symm);rw[heap_setCell_other _ _ _ _ al];exact nX (H.item j hj) i
     . rw[if_neg e2];have n1:tg T k≠tg T i:=λe=>e2 (H.inj hk hi e);have n2:tg T k≠tg T j:=λe=>e1 (H.inj hk hj e);rw[heap_setCell_other _ _ _ _ n1,heap_setCell_other _ _ _ _ n2];exact H.item k hk
end
def yd(w:zw)(h M:Nat)(v:Value)(T:List Nat)(E:Nat->aa Key)(c i j:Nat)(e:Ending)(w':zw):Prop:=e= .returned (.tuple #[])/\Holds w' h M v (dT T i j) E c/\ao (yc v T) w w'
theorem sR(w:zw)(h M:Nat)(v:Value)(T:List Nat)(E:Nat->aa Key)(c i j:Nat)(H:Holds w h M v T E c)(hi:i < T.length)(hj:j < T.length):
 Calls prog 189 #[.pointer (some ⟨h,0,none⟩),.int .i64 (i:Int),.int .i64 (j:Int)] w (yd w h M v T E c i j):=by
 obtain⟨tb,cap,rfl,cF,bL,arr,h2,h3,h6⟩:=H.at (by omega);have c1:=H.c1;have ti:w.cell? ⟨tb,i,none⟩=some (.pointer (some ⟨tg T i,0,none⟩)):=(cell_of_row w _ _ _ _ _ h2).trans (h6 i hi);have tj:w.cell? ⟨tb,j,none⟩=some (.pointer (some ⟨tg T j,0,none⟩)):=(cell_of_row w _ _ _ _ _ h2).trans (h6 j hj);have fi:w.frozen? ⟨tb,i,none⟩=false:=frozen_of_row w _ _ _ _ h2;have fj:w.frozen? ⟨tb,j,none⟩=false:=frozen_of_row w _ _ _ _ h2;have ht:=H.top;have al:h≠tb:=bT H.own h2 (by decide);have H1:=J (H.Pk hi hj);have T1:=J ((((ao.refl (yc (.slice (some ⟨tb,0,none⟩) T.length cap) T) w).setCell (p:=⟨tb,i,none⟩) (xz rfl) (.pointer (some ⟨tg T j,0,none⟩))).setCell (p:=⟨tb,j,none⟩) (xz rfl) (.pointer (some ⟨tg T i,0,none⟩))).drew);unfold maxLen at bL;clear h2 h3 h6 H;obtain⟨bi,DA⟩:∃b,tg T i=b:=⟨_,rfl⟩;obtain⟨bj,K8⟩:∃b,tg T j=b:=⟨_,rfl⟩;have wD:=J DA;have DB:=J K8;rw[DA] at ti H1 T1;rw[K8] at tj H1 T1;clear DA K8
 have second:∀w1:zw,vx w1 h M (.slice (some ⟨tb,0,none⟩) T.length cap) (dT T i j) T E c->∃d1:w1.cell? ⟨h,1,none⟩=some (.slice (some ⟨tb,0,none⟩) T.length cap),w1.cell? ⟨tb,i,none⟩=some (.pointer (some ⟨bj,0,none⟩))/\w1.cell? ⟨tb,j,none⟩=some (.pointer (some ⟨bi,0,none⟩))/\
  w1.cell? ⟨bi,4,none⟩=some (.int .i64 (i:Int))/\w1.cell? ⟨bj,4,none⟩=some (.int .i64 (j:Int))/\w1.frozen? ⟨bi,4,none⟩=false/\w1.frozen? ⟨bj,4,none⟩=false/\(i≠j->bi≠bj):=by
  intro w1 H1;obtain⟨hl,arr,h2,h3,h4,h5,h6⟩:=H1.tree.tl;rw[eH] at h6;have e1:=h6 i hi;have e2:=h6 j hj;rw[iu hi hj] at e1 e2;rw[if_pos rfl] at e2
  have e3:(if i=j then tg T i else if i=i then tg T j else tg T i)=tg T j:=by
   by_cases e:i=j
   . rw[if_pos e,e]
   . rw[if_neg e,if_pos rfl]
  rw[e3,DB.out] at e1;rw[wD.out] at e2;have g1:=H1.item i hi;have g2:=H1.item j hj;have g3:=λe=>H1.inj hi hj e;rw[wD.out] at g1 g3;rw[DB.out] at g2 g3;exact⟨cell_of_row w1 _ 1 _ _ _ H1.own,(cell_of_row w1 _ _ _ _ _ h2).trans e1,(cell_of_row w1 _ _ _ _ _ h2).trans e2,cell_of_row w1 _ 4 _ _ _ g1,cell_of_row w1 _ 4 _ _ _ g2,frozen_of_row w1 _ 4 _ _ g1,frozen_of_row w1 _ 4 _ _ g2,λhn e=>hn (g3 e)⟩
 have QG:=J second;clear second
 by_cases p9:i=j
 . subst p9;obtain rfl:bi=bj:=wD.out.symm.trans DB.out;clear tj fj;go_enter func189,ntmps189;go_wp2_with fail
   go_region;generalize((w.setCell ⟨tb,i,none⟩ (.pointer (some ⟨bi,0,none⟩))).setCell ⟨tb,i,none⟩ (.pointer (some ⟨bi,0,none⟩))).drew=w1 at H1 T1|-;obtain⟨d1,d2,_,d3,_,d4,_,_⟩:=QG.out w1 H1.out;clear c1 ti fi;have R:=J (by have:=H1.out.IL hi hj;rw[wD.out] at this;exact this);have RT:=J (((T1.out.setCell (p:=⟨bi,4,none⟩) (ja (wD.out▸dZ hi)) (.int .i64 (i:Int))).setCell (p:=⟨bi,4,none⟩) (ja (wD.out▸dZ hi)) (.int .i64 (i:Int))).drew);go_wp2_with fail
   go_region;go_end0;exact⟨rfl,R.out,RT.out⟩
 . have FV:i≠j:=p9;have Lg:j≠i:=qa p9;clear p9;go_enter func189,ntmps189;go_wp2_with fail
   go_region;generalize((w.setCell ⟨tb,i,none⟩ (.pointer (some ⟨bj,0,none⟩))).setCell ⟨tb,j,none⟩ (.pointer (some ⟨bi,0,none⟩))).drew=w1 at H1 T1|-;obtain⟨d1,d2,WJ,d3,WK,d4,WL,d5⟩:=QG.out w1 H1.out;have Ur:=d5 FV;have WM:=qa Ur;clear c1 ti fi tj fj d5;have R:=J (by have:=H1.out.IL hi hj;rw[wD.out,DB.out] at this;exact this);have RT:=J (((T1.out.setCell (p:=⟨bj,4,none⟩) (ja (DB.out▸dZ hj)) (.int .i64 (i:Int))).setCell (p:=⟨bi,4,none⟩) (ja (wD.out▸dZ hi)) (.int .i64 (j:Int))).drew);go_wp2_with fail
   go_region;go_end0;exact⟨rfl,R.out,RT.out⟩
end HS
end LF
namespace LF
namespace HS
open Go.RowKit Ht Go.Maps Go.WideMaps
def Lh(w:zw)(T:List Nat)(E:Nat->aa Key)(p:Nat)(e:Ending)(w':zw):Prop:=b6 w w'/\((T.length<=2*p+1/\e= .returned (.pointer none))\/
 ∃ch,ch < T.length/\0 < ch/\(ch - 1) / 2=p/\e= .returned (.pointer (some ⟨tg T ch,0,none⟩))/\∀d,0 < d->d < T.length->(d - 1) / 2=p->d≠ch->lt (E (tg T ch)) (E (tg T d)))
def qA(T:List Nat)(E:Nat->aa Key):Prop:=(T.map λb=>(E b).set).Nodup
theorem qA.ne{T:List Nat}{E:Nat->aa Key}(h:qA T E)(i j:Nat)(hi:i < T.length)(hj:j < T.length)(p9:i≠j):(E (tg T i)).set≠(E (tg T j)).set:=by
 have key:∀a b,a < b->b < T.length->(E (tg T a)).set≠(E (tg T b)).set:=by
  intro a b iU hb;have:=List.pairwise_iff_getElem.1 h a b (by simp;omega) (by simpa using hb) iU;have ea:=fm (T:=T) (i:=a) (Nat.lt_trans iU hb);have eb:=fm hb;rw[zm (Nat.lt_trans iU hb)] at ea;rw[zm hb] at eb;rw[List.getElem_map,List.getElem_map,Option.some.inj ea,Option.some.inj eb] at this;exact this
 rcases Nat.lt_or_gt_of_ne p9 with h1|h1
 . exact key i j h1 hj
 . exact(key j i h1 hi).symm
theorem Seen.j'{w w':zw}{x:Nat}{a:aa Key}(h:Seen w x a)(g:b6 w w'):Seen w' x a:=⟨g.cell h.1,g.cell h.2.1,g.cell h.2.2⟩
set_option maxRecDepth 100000 in
theorem vy(w:zw)(h M:Nat)(v:Value)(T:List Nat)(E:Nat->aa Key)(c p:Nat)(H:Holds w h M v T E c)(hd:qA T E)(hp:p < T.length):
 Calls prog 194 #[.pointer (some ⟨h,0,none⟩),.int .i64 (p:Int)] w (Lh w T E p):=by
 obtain⟨tb,cap,rfl,cF,bL,arr,h2,h3,h6⟩:=H.at (by omega);have c1:=H.c1;have ht:=H.top;obtain⟨n,hn⟩:∃n,T.length=n:=⟨_,rfl⟩;obtain⟨l,hl⟩:∃l,l=2*p+1:=⟨_,rfl⟩;obtain⟨r,hr⟩:∃r,r=2*p+2:=⟨_,rfl⟩;have el:2*(p:Int)+1=(l:Int):=by omega
 have er:2*(p:Int)+2=(r:Int):=by omega
 have IM:∀i,i < n->w.cell? ⟨tb,i,none⟩=some (.pointer (some ⟨tg T i,0,none⟩)):=λi hi=>(cell_of_row w _ _ _ _ _ h2).trans (h6 i (by omega));have seen:∀i,i < n->Seen w (tg T i) (E (tg T i)):=λi hi=>H.seen (by omega);have HN:=J hn;have HD:=J hd;have HL:=J hl;have HR:=J hr;have SE:=J seen;have TC:=J IM;rw[hn] at c1 cF ht hp;unfold maxLen at bL;clear h2 h3 h6 H seen IM hd hn
 by_cases hA:n<=l
 . have q1:(n:Int)<=(l:Int):=by omega
   have ug:l<=3000:=by omega
   clear hl hr;go_enter func194,ntmps194;go_wp2_with fail
   go_ret;exact⟨b6.refl w,xz ⟨by have:=HN.out;have:=HL.out;omega,rfl⟩⟩
 have tl:=TC.out l (by omega);have ug:l<=3000:=by omega
 have WN:r<=3000:=by omega
 have q1:¬(n:Int)<=(l:Int):=by omega
 have q3:l < n:=by omega
 by_cases hB:n<=r
 . have q2:decide (r < n)=false:=by simp;omega
   clear hl hA hr;go_enter func194,ntmps194;go_wp2_with fail
   go_quiet(fail)
   go_wp2_with fail
   go_ret;refine⟨(b6.refl w).drewN _,ja ⟨l,by have:=HN.out;omega,by have:=HL.out;omega,by have:=HL.out;omega,rfl,λd h1 h2 h3 h4=>?_⟩⟩;have:=HN.out;have:=HL.out;have:=HR.out;omega
 have tr:=TC.out r (by omega);have q2:(r:Int) < (n:Int):=by omega
 have q4:r < n:=by omega
 have AH:=J (λ(w':zw) (g:b6 w w')=>kU w' (tg T r) (tg T l) (E (tg T r)) (E (tg T l)) ((SE.out r q4).j' g) ((SE.out l q3).j' g))
 by_cases hC:lt (E (tg T r)) (E (tg T l))
 . have Li:=J (show ∀d,0 < d->d < T.length->(d - 1) / 2=p->d≠r->lt (E (tg T r)) (E (tg T d)) from λd h1 h2 h3 h4=>by
    obtain rfl:d=l:=by omega
    exact hC)
   rw[decide_eq_true hC] at AH;clear hl hA hr hB hC;go_enter func194,ntmps194;go_wp2_with fail
   go_region_held3(λw'=>w'.cell? ⟨h,1,none⟩=some (.slice (some ⟨tb,0,none⟩) n cap)/\w'.cell? ⟨tb,l,none⟩=some (.pointer (some ⟨tg T l,0,none⟩))/\w'.cell? ⟨tb,r,none⟩=some (.pointer (some ⟨tg T r,0,none⟩))) (first|(exact⟨‹_›,‹_›,‹_›⟩)|go_keep)
    (first
      |(go_at_call 186;refine(AH.out _ (b6.drew (b6.refl _))).mono ?_;rintro e w2 ⟨rfl,hG⟩;have z1:=hG.cell (show w.drew.cell? ⟨h,1,none⟩=some (.slice (some ⟨tb,0,none⟩) n cap) from c1);have z2:=hG.cell (show w.drew.cell? ⟨tb,l,none⟩=some (.pointer (some ⟨tg T l,0,none⟩)) from tl);have z3:=hG.cell (show w.drew.cell? ⟨tb,r,none⟩=some (.pointer (some ⟨tg T r,0,none⟩)) from tr);have G2:=J hG;clear hG))
   go_wp2_with fail
   go_ret;exact⟨b6.trans (b6.drew (b6.refl _)) G2.out,ja ⟨r,by have:=HN.out;omega,by have:=HR.out;omega,by have:=HR.out;omega,rfl,Li.out⟩⟩
 . have Li:=J (show ∀d,0 < d->d < T.length->(d - 1) / 2=p->d≠l->lt (E (tg T l)) (E (tg T d)) from λd h1 h2 h3 h4=>by
    obtain rfl:d=r:=by omega
    exact lt.cz (HD.out.ne _ _ (by have:=HN.out;omega) (by have:=HN.out;omega) (by omega)) hC)
   rw[decide_eq_false hC] at AH;clear hl hA hr hB hC;go_enter func194,ntmps194;go_wp2_with fail
   go_region_held3(λw'=>w'.cell? ⟨h,1,none⟩=some (.slice (some ⟨tb,0,none⟩) n cap)/\w'.cell? ⟨tb,l,none⟩=some (.pointer (some ⟨tg T l,0,none⟩))/\w'.cell? ⟨tb,r,none⟩=some (.pointer (some ⟨tg T r,0,none⟩))) (first|(exact⟨‹_›,‹_›,‹_›⟩)|go_keep)
    (first
      |(go_at_call 186;refine(AH.out _ (b6.drew (b6.refl _))).mono ?_;rintro e w2 ⟨rfl,hG⟩;have z1:=hG.cell (show w.drew.cell? ⟨h,1,none⟩=some (.slice (some ⟨tb,0,none⟩) n cap) from c1);have z2:=hG.cell (show w.drew.cell? ⟨tb,l,none⟩=some (.pointer (some ⟨tg T l,0,none⟩)) from tl);have z3:=hG.cell (show w.drew.cell? ⟨tb,r,none⟩=some (.pointer (some ⟨tg T r,0,none⟩)) from tr);have G2:=J hG;clear hG))
   go_wp2_with fail
   go_ret;exact⟨b6.trans (b6.drew (b6.refl _)) G2.out,ja ⟨l,by have:=HN.out;omega,by have:=HL.out;omega,by have:=HL.out;omega,rfl,Li.out⟩⟩
end HS
end LF
namespace LF
namespace HS
open Go.RowKit Ht Go.Maps Go.WideMaps
def ord(T:List Nat)(E:Nat->aa Key):Nat->aa Key:=λi=>E (tg T i)
theorem DC{T:List Nat}{E:Nat->aa Key}{i j:Nat}(hi:i < T.length)(hj:j < T.length):ord (dT T i j) E=sw (ord T E) i j:=by
 funext k
 show E (tg (dT T i j) k)=_;rw[iu hi hj];unfold sw ord;split
 . rfl
 . split <;> rfl
theorem qA.sw{T:List Nat}{E:Nat->aa Key}{i j:Nat}(h:qA T E)(hi:i < T.length)(hj:j < T.length):qA (dT T i j) E:=((mG hi hj).map _).nodup_iff.2 h
structure Way(w:zw)(h M:Nat)(v:Value)(T0:List Nat)(E:Nat->aa Key)(c b:Nat)(W:zw)(T:List Nat)(p:Nat):Prop where
 hold:Holds W h M v T E c
 perm:T.Perm T0
 eD:qA T E
 lt:p < T.length
 item:tg T p=b
 a8:ao (yc v T0) w W
theorem Way.swap{w:zw}{h M:Nat}{v:Value}{T0:List Nat}{E:Nat->aa Key}{c b:Nat}{W:zw}{T:List Nat}{p q:Nat}(H:Way w h M v T0 E c b W T p)(hq:q < T.length){e:Ending}{w':zw}(hp:yd W h M v T E c p q e w'):Way w h M v T0 E c b w' (dT T p q) q:=by
 obtain⟨_,h1,h2⟩:=hp;refine⟨h1,(mG H.lt hq).trans H.perm,H.eD.sw H.lt hq,by rw[eH];exact hq,?_,H.a8.trans h2 (λk _ hk=>?_)⟩
 . rw[iu H.lt hq,if_pos rfl];exact H.item
 . rcases hk with hk|hk
   . exact xz hk
   . exact ja (H.perm.mem_iff.1 hk)
theorem Way.j'{w:zw}{h M:Nat}{v:Value}{T0:List Nat}{E:Nat->aa Key}{c b:Nat}{W W':zw}{T:List Nat}{p:Nat}(H:Way w h M v T0 E c b W T p)(g:b6 W W'):Way w h M v T0 E c b W' T p:=by
 have hb:=g.below;refine⟨⟨(hb.block _ H.hold.aQ).trans H.hold.own,?_,λi hi=>(hb.block _ (H.hold.ue hi)).trans (H.hold.item i hi),H.hold.top,H.hold.qP⟩,H.perm,H.eD,H.lt,H.item,H.a8.trans (S':=yc v T0) (ao.cZ hb) (λ_ _ h=>h)⟩;rcases H.hold.tree with hz|⟨tb,cap,arr,h1,h2,h3⟩
 . exact xz hz
 . exact ja ⟨tb,cap,arr,h1,(hb.block _ (Array.getElem?_eq_some_iff.1 h2).1).trans h2,h3⟩
def Tj(w:zw)(h M:Nat)(v:Value)(T0:List Nat)(E:Nat->aa Key)(c b:Nat)(k:Nat)(W:zw):Prop:=∃T,Way w h M v T0 E c b W T k/\Up T.length (ord T E) k
def Lj(w:zw)(h M:Nat)(v:Value)(T0:List Nat)(E:Nat->aa Key)(c b:Nat)(k:Nat)(W:zw):Prop:=∃T p,k+p=T.length/\Way w h M v T0 E c b W T p/\Dn T.length (ord T E) p
def Bh(w:zw)(h M:Nat)(v:Value)(T0:List Nat)(E:Nat->aa Key)(c:Nat)(e:Ending)(w':zw):Prop:=e= .returned (.tuple #[])/\∃T,Holds w' h M v T E c/\T.Perm T0/\Hp T.length (ord T E)/\ao (yc v T0) w w'
set_option maxRecDepth 100000 in
theorem py(w:zw)(h M:Nat)(v:Value)(T0:List Nat)(E:Nat->aa Key)(c b p0:Nat)(H:Way w h M v T0 E c b w T0 p0)(hU:Up T0.length (ord T0 E) p0):
 Calls prog 188 #[.pointer (some ⟨h,0,none⟩),.pointer (some ⟨b,0,none⟩)] w (Bh w h M v T0 E c):=by
 have HH:=J H;have HU:=J hU;have mixed:prog.follows .mixedOrders=true:=by kernel_rfl
 clear H hU;go_enter func188,ntmps188;go_upto_block 0 with fail
 go_cut [] (λW=>∃k,Lj w h M v T0 E c b k W)
 case first=>
  as_aux_lemma=>
  go_wp2_with fail
  go_loopg [] p0 (λk W=>Tj w h M v T0 E c b k W)
  case atStart=>exact⟨T0,HH.out,HU.out⟩
  case round=>
   obtain⟨T,hW,QH⟩:=hrel;have HW:=J hW;have UP:=J QH;obtain⟨tb,cap,rfl,cF,bL,arr,h2,h3,h6⟩:=hW.hold.at (by have:=hW.lt;omega);have c1:=hW.hold.c1;have ht:=hW.hold.top;have aQ:=hW.lt;have c4:=hW.hold.i4 hW.lt;rw[hW.item] at c4;obtain⟨n,hn⟩:∃n,T.length=n:=⟨_,rfl⟩;have HN:=J hn;rw[hn] at c1 cF ht aQ;have TC:=zs (∀i,i < n->wr.cell? ⟨tb,i,none⟩=some (.pointer (some ⟨tg T i,0,none⟩))) (λi hi=>(cell_of_row wr _ _ _ _ _ h2).trans (h6 i (by omega)));have SE:=zs (∀i,i < n->Seen wr (tg T i) (E (tg T i))) (λi hi=>hW.hold.seen (by omega));have HI:=J hW.item;unfold maxLen at bL;clear hW QH h2 h3 h6 hn
   by_cases h0:gk=0
   . subst h0;go_wp2_with fail
     go_quiet(fail)
     go_wp2_with fail
     go_meet
     exact⟨_,T,0,Nat.add_zero _,HW.out.j' ((b6.refl _).drewN _),UP.out.stop (xz rfl)⟩
   obtain⟨m,hm⟩:∃m,gk=m+1:=⟨gk - 1,by omega⟩;obtain⟨q,hq⟩:=zx ((gk - 1) / 2);have QI:q < n:=by omega
   have Us:q < gk:=by omega
   have q0:decide (0 < gk)=true:=by simp;omega
   have tq:=TC.out q QI;have AH:=J (λ(w':zw) (g:b6 wr w')=>kU w' b (tg T q) (E b) (E (tg T q)) ((HI.out▸SE.out gk (by omega)).j' g) ((SE.out q QI).j' g));have s1:IntKind.i64.wrap ((gk:Int) - 1)=(m:Int):=by rw[qi _ (by omega)];omega
   have s2:IntKind.i64.wrap ((m:Int) / 2)=(q:Int):=by rw[qi _ (by omega)];omega
   have HQ:=J hq;clear hm hq h0
   by_cases hC:lt (E b) (E (tg T q))
   . rw[decide_eq_true hC] at AH;go_wp2_with fail
     go_region_held3(λw'=>w'.cell? ⟨h,1,none⟩=some (.slice (some ⟨tb,0,none⟩) n cap)/\w'.cell? ⟨b,4,none⟩=some (.int .i64 (gk:Int))/\w'.cell? ⟨tb,q,none⟩=some (.pointer (some ⟨tg T q,0,none⟩))) (first|(exact⟨‹_›,‹_›,‹_›⟩)|go_keep)
      (first
        |(go_at_call 186;refine(AH.out _ (b6.drew (b6.refl _))).mono ?_;rintro e w2 ⟨rfl,hG⟩;have z1:=hG.cell (show wr.drew.cell? ⟨h,1,none⟩=some (.slice (some ⟨tb,0,none⟩) n cap) from c1);have z2:=hG.cell (show wr.drew.cell? ⟨b,4,none⟩=some (.int .i64 (gk:Int)) from c4);have z3:=hG.cell (show wr.drew.cell? ⟨tb,q,none⟩=some (.pointer (some ⟨tg T q,0,none⟩)) from tq);have G2:=J hG;clear hG))
     have W2:=J (HW.out.j' (b6.trans (b6.drew (b6.refl _)) G2.out));clear c1 c4 tq z1 z3 AH TC SE;go_wp2_with fail
     go_still_tail 11,mixed
     go_wp2_with fail
     refine(sR w2.drew h M _ T E c gk q (W2.out.j' (b6.drew (b6.refl _))).hold W2.out.lt (by have:=HN.out;omega)).mono ?_;intro e w4 hp;have W4:=J ((W2.out.j' (b6.drew (b6.refl _))).swap (by have:=HN.out;omega) hp);obtain rfl:=hp.1;clear hp z2;go_wp2_with fail
     go_roundg q
     case measure=>exact Us
     case rel=>
      refine⟨_,W4.out,?_⟩;have hk:gk < T.length:=by have:=HN.out;omega
      rw[DC hk (by have:=HN.out;omega),eH,HQ.out];refine UP.out.step (by omega) hk ?_;show lt (E (tg T gk)) (E (tg T ((gk - 1) / 2)));rw[← HQ.out,HI.out];exact hC
   . have Ll:=J (show lt (E (tg T q)) (E b) from lt.cz (by
      have:=HW.out.eD.ne gk q HW.out.lt (by have:=HN.out;omega) (by omega);rw[HI.out] at this;exact this) hC)
     rw[decide_eq_false hC] at AH;clear hC;go_wp2_with fail
     go_region_held3(λw'=>w'.cell? ⟨h,1,none⟩=some (.slice (some ⟨tb,0,none⟩) n cap)/\w'.cell? ⟨b,4,none⟩=some (.int .i64 (gk:Int))/\w'.cell? ⟨tb,q,none⟩=some (.pointer (some ⟨tg T q,0,none⟩))) (first|(exact⟨‹_›,‹_›,‹_›⟩)|go_keep)
      (first
        |(go_at_call 186;refine(AH.out _ (b6.drew (b6.refl _))).mono ?_;rintro e w2 ⟨rfl,hG⟩;have z1:=hG.cell (show wr.drew.cell? ⟨h,1,none⟩=some (.slice (some ⟨tb,0,none⟩) n cap) from c1);have z2:=hG.cell (show wr.drew.cell? ⟨b,4,none⟩=some (.int .i64 (gk:Int)) from c4);have z3:=hG.cell (show wr.drew.cell? ⟨tb,q,none⟩=some (.pointer (some ⟨tg T q,0,none⟩)) from tq);have G2:=J hG;clear hG))
     go_wp2_with fail
     go_meet
     have hlen:gk<=T.length:=by have:=HN.out;omega
     refine⟨T.length - gk,T,gk,by omega,HW.out.j' (b6.trans (b6.drew (b6.refl _)) G2.out),UP.out.stop (ja ?_)⟩;show lt (E (tg T ((gk - 1) / 2))) (E (tg T gk));rw[← HQ.out,HI.out];exact Ll.out
 case rest=>
  as_aux_lemma=>
  obtain⟨k0,hcut⟩:=hcut;have HC:=J hcut;clear hcut HH HU;go_wp2_with fail
  go_loopg [] k0 (λk W=>Lj w h M v T0 E c b k W)
  case atStart=>exact HC.out
  case round=>
   obtain⟨T,p,QJ,hW,QK⟩:=hrel;have HW:=J hW;have DN:=J QK;have c4:=hW.hold.i4 hW.lt;rw[hW.item] at c4;have HI:=J hW.item;have HK:=J QJ;have FC:=J (vy wr h M v T E c p hW.hold hW.eD hW.lt);clear hW QK QJ HC;go_wp2_with fail
   refine FC.out.mono ?_;intro e w1 hf;obtain⟨hG,⟨hlen,rfl⟩|⟨ch,ye,Lm,wC,rfl,Ln⟩⟩:=hf
   . have HG:=J hG;have HL:=J hlen;clear hG hlen FC c4;go_wp2_with fail
     first|go_end0|refine bodyPost_ret (results_none rfl _ _ _) rfl ?_
     have W1:=HW.out.j' HG.out;exact⟨rfl,T,W1.hold,W1.perm,DN.out.stop (λd h1 h2 h3=>by have:=HL.out;omega),W1.a8⟩
   . have W1:=J (HW.out.j' hG);have d4:=hG.cell c4;have d5:=W1.out.hold.i4 ye;have AH:=J (kU w1 b (tg T ch) (E b) (E (tg T ch)) (HI.out▸W1.out.hold.seen W1.out.lt) (W1.out.hold.seen ye));have QL:=J Ln;have CP:=J (xy Lm (xy ye wC));obtain⟨x,hx⟩:∃x,tg T ch=x:=⟨_,rfl⟩;have HX:=J hx;rw[hx] at d5 AH|-;clear Ln hG FC c4 wC Lm hx
     by_cases hC:lt (E b) (E x)
     . rw[decide_eq_true hC] at AH;go_wp2_with fail
       refine AH.out.mono ?_;rintro e w2 ⟨rfl,sx⟩;have W2:=J (W1.out.j' sx);clear sx d4 d5;go_wp2_with fail
       first|go_end0|refine bodyPost_ret (results_none rfl _ _ _) rfl ?_
       refine⟨rfl,T,W2.out.hold,W2.out.perm,DN.out.stop (λd h1 h2 h3=>?_),W2.out.a8⟩;show lt (E (tg T p)) (E (tg T d));rw[HI.out]
       by_cases hd:d=ch
       . rw[hd,HX.out];exact hC
       . exact hC.trans (HX.out▸QL.out d h1 h2 h3 hd)
     . have Ll:=J (show lt (E x) (E b) from lt.cz (by
        have hh:=CP.out;have:=W1.out.eD.ne p ch W1.out.lt ye (by omega);rw[HI.out,HX.out] at this;exact this) hC)
       rw[decide_eq_false hC] at AH;go_wp2_with fail
       refine AH.out.mono ?_;rintro e w2 ⟨rfl,sx⟩;have W2:=J (W1.out.j' sx);have f4:=sx.cell d4;have f5:=sx.cell d5;clear sx d4 d5;go_wp2_with fail
       go_still_tail 9,mixed
       go_wp2_with fail
       refine(sR w2.drew h M v T E c p ch (W2.out.j' (b6.drew (b6.refl _))).hold W2.out.lt ye).mono ?_;intro e w4 hp;have W4:=J ((W2.out.j' (b6.drew (b6.refl _))).swap ye hp);obtain rfl:=hp.1;clear hp f4 f5;go_wp2_with fail
       go_roundg(T.length - ch)
       case measure=>have:=CP.out;have:=HK.out;omega
       case rel=>
        refine⟨_,ch,by rw[eH];omega,W4.out,?_⟩;obtain⟨g1,g2,g3⟩:=CP.out;rw[DC W2.out.lt ye,eH];refine DN.out.step g1 g2 g3 ?_ QL.out;show lt (E (tg T ch)) (E (tg T p));rw[HI.out,HX.out];exact Ll.out
end HS
end LF
namespace LF
namespace HS
open Go.RowKit Ht Go.Maps Go.WideMaps
structure St(w:zw)(h M:Nat)(v:Value)(T:List Nat)(E:Nat->aa Key)(f:Key->Option Nat)(L:List (aa Key))(c:Nat):Prop where
 hold:Holds w h M v T E c
 mp:Mp w M f T.length
 spot:∀k b,f k=some b<->b∈T/\(E b).key=k
 perm:L.Perm (T.map E)
 nY:mJ L
 once:ed L c
 hp:Hp T.length (ord T E)
 ok:∀e∈L,lO e.key
def HS(w:zw)(h:Nat)(S:Nat->Prop)(L:List (aa Key))(c:Nat):Prop:=∃M v T E f,St w h M v T E f L c/\S=jF h M v T
def cJ(r:Value)(w:zw)(h:Nat)(S:Nat->Prop)(L:List (aa Key))(c:Nat)(e:Ending)(w':zw):Prop:=e= .returned r/\∃S',HS w' h S' L c/\(∀k,S' k->S k\/w.heap.size<=k)/\ao S w w'
section
variable{w:zw}{h M c:Nat}{v:Value}{T:List Nat}{E:Nat->aa Key}{f:Key->Option Nat}{L:List (aa Key)}{S:Nat->Prop}
theorem St.eD(s:St w h M v T E f L c):qA T E:=by
 have:=(s.perm.map (·.set)).nodup_iff.1 s.once.qM;rw[List.map_map] at this;exact this
theorem St.len(s:St w h M v T E f L c):L.length=T.length:=by rw[s.perm.length_eq,xe]
theorem St.same{w':zw}(s:St w h M v T E f L c)(hs:∀k,jF h M v T k->w'.heap[k]?=w.heap[k]?):St w' h M v T E f L c:=
 ⟨s.hold.same hs,s.mp.same (hs M (ja (xz rfl))),s.spot,s.perm,s.nY,s.once,s.hp,s.ok⟩
theorem St.mem(s:St w h M v T E f L c){b:Nat}(hb:b∈T):E b∈L:=s.perm.mem_iff.2 (xt hb)
theorem St.look(s:St w h M v T E f L c)(k:Key):(f k).map E=find L k:=by
 cases hf:f k with
 |none=>
  cases hg:find L k with
  |none=>rfl
  |some e=>
   obtain⟨h1,h2⟩:=gz hg;obtain⟨b,hb,rfl⟩:=List.mem_map.1 (s.perm.mem_iff.1 h1);rw[(s.spot k b).2 ⟨hb,h2⟩] at hf;cases hf
 |some b=>
  obtain⟨h1,h2⟩:=(s.spot k b).1 hf;rw[← h2,s.once.find (s.mem h1)];rfl
theorem HS.same{w':zw}(s:HS w h S L c)(hs:∀k,S k->w'.heap[k]?=w.heap[k]?):HS w' h S L c:=by
 obtain⟨M,v,T,E,f,h1,rfl⟩:=s;exact⟨M,v,T,E,f,h1.same hs,rfl⟩
theorem HS.lt(s:HS w h S L c){k:Nat}(hk:S k):k < w.heap.size:=by
 obtain⟨M,v,T,E,f,h1,rfl⟩:=s;exact h1.hold.blt h1.mp hk
theorem HS.below{w':zw}(s:HS w h S L c)(hb:Below w.heap.size w w'):HS w' h S L c:=s.same λk hk=>hb.block k (s.lt hk)
theorem HS.alloc(s:HS w h S L c)(o:Obj):HS (w.alloc o) h S L c:=s.same λ_ hk=>qf _ _ _ (s.lt hk)
theorem HS.once(s:HS w h S L c):ed L c:=by obtain⟨M,v,T,E,f,h1,rfl⟩:=s;exact h1.once
theorem HS.nY(s:HS w h S L c):mJ L:=by obtain⟨M,v,T,E,f,h1,rfl⟩:=s;exact h1.nY
theorem HS.ok(s:HS w h S L c):∀e∈L,lO e.key:=by obtain⟨M,v,T,E,f,h1,rfl⟩:=s;exact h1.ok
theorem HS.top(s:HS w h S L c):L.length<=1000:=by obtain⟨M,v,T,E,f,h1,rfl⟩:=s;rw[h1.len];exact h1.hold.top
end
def af(E:Nat->aa Key)(b:Nat)(e:aa Key):Nat->aa Key:=λx=>if x=b then e else E x
theorem ay(E:Nat->aa Key)(b:Nat)(e:aa Key):af E b e b=e:=if_pos rfl
theorem au{E:Nat->aa Key}{b x:Nat}{e:aa Key}(hx:x≠b):af E b e x=E x:=if_neg hx
theorem yf(T:List Nat)(b:Nat):tg (T++ [b]) T.length=b:=by unfold tg;simp[List.getD_eq_getElem?_getD]
theorem mM{T:List Nat}{b i:Nat}(hi:i < T.length):tg (T++ [b]) i=tg T i:=by unfold tg;simp[List.getD_eq_getElem?_getD,List.getElem?_append_left hi]
theorem IN:(prog.info? 259).map (λi=>(i.zero,i.size,i.bytes))=some (some (.pointer none),1,8):=by kernel_rfl
theorem Tree.own{w:zw}{v:Value}{T:List Nat}(h:Tree w v T):w.ownsRow 0 259 1 v T.length (T.map λb=>Value.pointer (some ⟨b,0,none⟩)):=by
 refine⟨by simp,?_⟩;rcases h with⟨rfl,rfl⟩|⟨tb,cap,arr,rfl,h2,h3,h4,h5,h6⟩
 . exact xz ⟨rfl,rfl⟩
 . refine ja ⟨tb,cap,arr,rfl,xg _,h2,h4,h5,by omega,?_⟩;apply List.ext_getElem?;intro i;rw[xv,xj]
   by_cases hi:i < T.length
   . rw[if_pos (by omega),fm hi,Array.getElem?_toList,h6 i hi];rfl
   . rw[if_neg (by omega),List.getElem?_eq_none (by omega)];rfl
theorem Tree.Lp{w:zw}{v:Value}{T:List Nat}{base:Nat}(h:w.ownsRow base 259 1 v T.length (T.map λb=>Value.pointer (some ⟨b,0,none⟩))):Tree w v T:=by
 rcases h.2 with⟨h1,h0⟩|⟨tb,cap,arr,h1,_,h2,h4,h5,h3,h6⟩
 . exact xz ⟨h1,qe h0⟩
 . refine ja ⟨tb,cap,arr,h1,h2,by omega,h4,h5,λi hi=>?_⟩;have:=congrArg (λl=>l[i]?) h6;simp only[xv,xj,fm hi] at this;rw[if_pos (by omega),Array.getElem?_toList] at this;exact this
theorem JK{w:zw}{v:Value}{T:List Nat}(h:Tree w v T)(hl:T.length<=999)(b:Nat):
 ∃(v':Value) (w2:zw),(Builtin.append_ #[223,223] 223 #[v,.slice (some ⟨w.heap.size,0,none⟩) 1 1]).run prog (w.alloc (.cells #[.pointer (some ⟨b,0,none⟩)] 259))= .ok v' w2/\
  Tree w2 v' (T++ [b])/\w.grownBy w2 v.ownBlock/\(∀k,v'.ownBlock=some k->v.ownBlock=some k\/w.heap.size<=k):=by
 obtain⟨i0,hi,fL,fC,fx⟩:=info_parts IN
 obtain⟨v',w2,aB,bC,hg,ko,bw⟩:=run_append_own_at (P:=prog) (w.alloc (.cells #[.pointer (some ⟨b,0,none⟩)] 259)) 0 223 223 259 i0 _ 1 8
  underlying223 hi fL fC fx rfl (by decide) _ _ _ (h.own.alloc _) ⟨w.heap.size,0,none⟩ 1 1 [.pointer (some ⟨b,0,none⟩)] rfl (cell_one_new _ _ _) (by simp[Value.oneCell']) (by unfold maxLen;omega) (by omega) (by simp)
 refine⟨v',w2,aB,?_,(World.grownBy_alloc w _ _).trans hg,?_⟩
 . refine Tree.Lp (base:=0) ?_;rw[zh,xc];exact bC
 . intro k hk;rcases bw with h1|h1
   . left;rw[← h1];exact hk
   . right;rw[h1] at hk;injection hk with hk;rw[← hk];simp
def JL(w:zw)(h M:Nat)(v:Value)(T:List Nat)(E:Nat->aa Key)(f:Key->Option Nat)(c:Nat)(k:Key)(e:Ending)(w':zw):Prop:=
 ∃v',e= .returned (.pointer (some ⟨w.heap.size,0,none⟩))/\Holds w' h M v' (T++ [w.heap.size]) (af E w.heap.size ⟨k,0,0,0⟩) c/\Mp w' M (iw f k w.heap.size) (T.length+1)/\ao (jF h M v T) w w'/\(∀j,v'.ownBlock=some j->v.ownBlock=some j\/w.heap.size<=j)
theorem added{w w2:zw}{h M c:Nat}{v v':Value}{T:List Nat}{E:Nat->aa Key}{f:Key->Option Nat}{k:Key}(H:Holds w h M v T E c)(hM:Mp w M f T.length)(hl:T.length<=999)(hk:lO k)(hf:f k=none)
 (ht:Tree w2 v' (T++ [w.heap.size])) (hg:(w.alloc (eS ⟨k,0,0,0⟩ T.length)).grownBy w2 v.ownBlock) (bw:∀j,v'.ownBlock=some j->v.ownBlock=some j\/w.heap.size+1<=j):
 ∃w3,(Instr.mapUpdate 222 (.map (some M)) (.string k) (.pointer (some ⟨w.heap.size,0,none⟩))).run prog (w2.setCell ⟨h,1,none⟩ v')= .ok () w3/\
  Holds w3 h M v' (T++ [w.heap.size]) (af E w.heap.size ⟨k,0,0,0⟩) c/\Mp w3 M (iw f k w.heap.size) (T.length+1)/\ao (jF h M v T) w w3:=by
 have oH:(w.alloc (eS ⟨k,0,0,0⟩ T.length)).heap.size=w.heap.size+1:=by simp
 have Co:=H.aQ;have Tk:=hM.lt
 have DD:∀{x:Nat} {a:Array Value} {t:TypeId} {u:Nat × Nat},w.heap[x]?=some (.cells a t u)->t≠259->some x≠v.ownBlock:=by
  intro x a t u hx al e;rcases H.tree with⟨rfl,_⟩|⟨tb,cap,arr,rfl,h2,_⟩
  . cases e
  . injection e with e
    exact bT hx h2 al e
 have old:∀x,x < w.heap.size->some x≠v.ownBlock->w2.heap[x]?=w.heap[x]?:=λx hx al=>by
  rw[hg.block x (by rw[oH];omega) al,qf _ _ _ hx]
 have h2:w2.heap[h]?=some (oG M v c):=by rw[old h Co (DD H.own (by decide))];exact H.own
 have uh:w2.heap[M]?=w.heap[M]?:=old M Tk (by
  obtain⟨es,c',hb⟩:=hM.obj;intro e;rcases H.tree with⟨rfl,_⟩|⟨tb,cap,arr,rfl,h2,_⟩
  . cases e
  . injection e with e
    rw[e,h2] at hb;cases hb)
 have aF:w2.heap[w.heap.size]?=some (eS ⟨k,0,0,0⟩ T.length):=by
  rw[hg.block _ (by rw[oH];omega) (λe=>by
   rcases H.tree with⟨rfl,_⟩|⟨tb,cap,arr,rfl,h2,_⟩
   . cases e
   . injection e with e
     have e:w.heap.size=tb:=e;have:=(Array.getElem?_eq_some_iff.1 h2).1;omega)]
  exact heap_alloc_new w _
 have QM:=H.hm hM;have Ut:Mp (w2.setCell ⟨h,1,none⟩ v') M f T.length:=hM.same (by rw[heap_setCell_other _ _ _ _ (qa QM)];exact uh);obtain⟨w3,aB,qB,gA⟩:=Ut.store hk (by omega) hf w.heap.size;have qQ:∀x,x < w2.heap.size->x≠M->w3.heap[x]?=(w2.setCell ⟨h,1,none⟩ v').heap[x]?:=λx hx al=>gA.block x (by simpa[World.setCell] using hx) (by simpa using al)
 have Lq:=hg.size;rw[oH] at Lq;have IP:(T++ [w.heap.size]).length=T.length+1:=by simp
 have IQ:∀i,i < T.length+1->w2.heap[tg (T++ [w.heap.size]) i]?=some (eS (af E w.heap.size ⟨k,0,0,0⟩ (tg (T++ [w.heap.size]) i)) i):=by
  intro i hi
  by_cases e:i=T.length
  . subst e;rw[yf,ay];exact aF
  . have mN:i < T.length:=by omega
    have aQ:=H.ue mN;rw[mM mN,au (by omega),old _ aQ (DD (H.item i mN) (by decide))];exact H.item i mN
 have Tl:∀i,i < T.length+1->tg (T++ [w.heap.size]) i < w2.heap.size:=λi hi=>(Array.getElem?_eq_some_iff.1 (IQ i hi)).1
 have Uu:∀i,i < T.length+1->tg (T++ [w.heap.size]) i≠M:=λi hi e=>by
  obtain⟨es,c',hb⟩:=hM.obj;rw[← uh,<-e,IQ i hi] at hb;cases hb
 have Uv:∀i,i < T.length+1->tg (T++ [w.heap.size]) i≠h:=λi hi=>bT (IQ i hi) h2 (by decide);refine⟨w3,aB,⟨?_,?_,λi hi=>?_,by rw[IP];omega,H.qP⟩,qB,?_⟩
 . rw[qQ h (by omega) QM,heap_setCell_same _ _ _ _ _ _ h2];rfl
 . rcases ht with⟨_,h0⟩|⟨tb,cap,arr,rfl,t2,t3⟩
   . exact absurd h0 (by simp)
   . refine ja ⟨tb,cap,arr,rfl,?_,t3⟩
     have Uw:tb≠M:=by
      obtain⟨es,c',hb⟩:=hM.obj;intro e;rw[← uh,<-e,t2] at hb;cases hb
     rw[qQ tb (Array.getElem?_eq_some_iff.1 t2).1 Uw,heap_setCell_other _ _ _ _ (bT t2 h2 (by decide))];exact t2
 . rw[IP] at hi;rw[qQ _ (Tl i hi) (Uu i hi),heap_setCell_other _ _ _ _ (Uv i hi)];exact IQ i hi
 . have t1:ao (jF h M v T) w w2:=((ao.refl _ w).alloc _).grown hg (λj hj=>xz (ja (ja (xz hj))));exact(t1.setCell (p:=⟨h,1,none⟩) (xz rfl) v').grown gA (λj hj=>by cases hj;exact xz (ja (xz rfl)))
set_option maxRecDepth 100000 in
theorem JM(w:zw)(h M:Nat)(v:Value)(T:List Nat)(E:Nat->aa Key)(f:Key->Option Nat)(c:Nat)(k:Key)(H:Holds w h M v T E c)(hM:Mp w M f T.length)(hl:T.length<=999)(hk:lO k)(hf:f k=none):
 Calls prog 187 #[.pointer (some ⟨h,0,none⟩),.string k] w (JL w h M v T E f c k):=by
 have Bi:Tree (w.alloc (eS ⟨k,0,0,0⟩ T.length)) v T:=by
  rcases H.tree with hz|⟨tb,cap,arr,rfl,h2,h3⟩
  . exact xz hz
  . exact ja ⟨tb,cap,arr,rfl,by rw[qf _ _ _ (Array.getElem?_eq_some_iff.1 h2).1];exact h2,h3⟩
 obtain⟨v',w2,aB,Lr,hg,bw⟩:=JK Bi hl w.heap.size;have oH:(w.alloc (eS ⟨k,0,0,0⟩ T.length)).heap.size=w.heap.size+1:=by simp
 rw[oH] at bw aB
 obtain⟨g,cap,rfl⟩:∃g cap,v'= .slice (some ⟨g,0,none⟩) (T.length+1) cap:=by
  rcases Lr with⟨_,h0⟩|⟨tb,cap,arr,rfl,_⟩
  . exact absurd h0 (by simp)
  . exact⟨tb,cap,by simp⟩
 obtain⟨w3,Ux,qR,qB,jH⟩:=added H hM hl hk hf Lr hg bw;have R:=J (xy qR (xy qB (xy jH bw)));have df:=J aB;have c0:=H.c0;have c1:=H.c1;have F:=J (λw=>mL w k)
 have Ls:some h≠v.ownBlock:=by
  intro e;rcases H.tree with⟨rfl,_⟩|⟨tb,cap,arr,rfl,h2,_⟩
  . cases e
  . injection e with e
    exact bT H.own h2 (by decide) e
 have h2:w2.heap[h]?=some (oG M v c):=by
  rw[hg.block h (by rw[oH];have:=H.aQ;omega) Ls,qf _ _ _ H.aQ];exact H.own
 have d0:w2.cell? ⟨h,0,none⟩=some (.map (some M)):=cell_of_row w2 _ 0 _ _ _ h2;have d1:w2.cell? ⟨h,1,none⟩=some v:=cell_of_row w2 _ 1 _ _ _ h2;have d2:w2.frozen? ⟨h,1,none⟩=false:=frozen_of_row w2 _ 1 _ _ h2;have Co:=H.aQ;obtain⟨va,vc,hv⟩:=H.FU;clear aB Lr hg bw qR qB jH Bi h2 H hM hk hf oH Ls;unfold eS at df;obtain⟨n,hn⟩:∃n,T.length=n:=⟨_,rfl⟩;rw[hn] at hv hl df Ux;clear hn;subst hv;go_enter func187,ntmps187;go_wp2_with(at_builtin;refine aq rfl _ _ _ rfl _ _ _ _ rfl rfl df.out ?_)
 refine(F.out _).mono ?_;rintro e w' ⟨rfl,rfl⟩;go_wp2_with fail
 go_ret;exact⟨_,rfl,R.out.1,R.out.2.1,R.out.2.2.1,λj hj=>(R.out.2.2.2 j hj).imp id (by omega)⟩
end HS
end LF
namespace LF
namespace HS
open Go.RowKit Ht Go.Maps Go.WideMaps
structure bN(w:zw)(h:Nat)(S:Nat->Prop)(L:List (aa Key))(c:Nat)(k:Key)(b:Nat)(W:zw)(M:Nat)(v:Value)(T:List Nat)(E:Nat->aa Key)(f:Key->Option Nat)(p:Nat):Prop where
 hold:Holds W h M v T E c
 mp:Mp W M f T.length
 spot:∀k b,f k=some b<->b∈T/\(E b).key=k
 lt:p < T.length
 item:tg T p=b
 key:(E b).key=k
 perm:∀e',(T.map (af E b e')).Perm (e'::rem L k)
 up:∀e',Up T.length (ord T (af E b e')) p
 sub:∀j,jF h M v T j->S j\/w.heap.size<=j
 a8:ao S w W
theorem FW{T:List Nat}{b:Nat}(hb:b∈T)(hn:T.Nodup):∃A B,T=A++b::B/\b∉A/\b∉B:=by
 obtain⟨A,B,rfl⟩:=List.append_of_mem hb;have:=List.nodup_append.1 hn;refine⟨A,B,rfl,λh=>this.2.2 b h b xa rfl,(List.nodup_cons.1 this.2.1).1⟩
theorem rY{A:List Nat}{E:Nat->aa Key}{b:Nat}{e:aa Key}(h:b∉A):A.map (af E b e)=A.map E:=xh λ_ hx=>au (λe=>h (e▸hx))
theorem St.rest{w:zw}{h M c:Nat}{v:Value}{T:List Nat}{E:Nat->aa Key}{f:Key->Option Nat}{L:List (aa Key)}(s:St w h M v T E f L c){b:Nat}(hb:b∈T):
 ∃A B,T=A++b::B/\b∉A/\b∉B/\((A++B).map E).Perm (rem L (E b).key):=by
 obtain⟨A,B,rfl,hA,hB⟩:=FW hb s.hold.nodup;refine⟨A,B,rfl,hA,hB,?_⟩;have hp:L.Perm (E b::(A++B).map E):=s.perm.trans (by rw[xc,xc,xb];exact List.perm_middle);have ho:=s.once.perm hp;have:=ho.pw;rw[← this];exact(hp.filter _).symm
theorem bN.old{w:zw}{h M c:Nat}{v:Value}{T:List Nat}{E:Nat->aa Key}{f:Key->Option Nat}{L:List (aa Key)}(s:St w h M v T E f L c){k:Key}{b:Nat}(hf:f k=some b):∃p,bN w h (jF h M v T) L c k b w M v T E f p:=by
 obtain⟨hb,hk⟩:=(s.spot k b).1 hf;obtain⟨p,hp,hi⟩:=gP hb;refine⟨p,s.hold,s.mp,s.spot,hp,hi,hk,λe'=>?_,λe'=>?_,λj hj=>xz hj,ao.refl _ _⟩
 . obtain⟨A,B,hT,hA,hB,hr⟩:=s.rest hb;rw[hk] at hr;rw[hT,xc,xb,ay,rY hA,rY hB];refine List.perm_middle.trans (List.Perm.cons _ ?_);rw[← xc];exact hr
 . refine Up.of s.hp (zg _) (λi mN al=>?_);show af E b e' (tg T i)=E (tg T i);exact au (λe=>al (s.hold.inj mN hp (e.trans hi.symm)))
theorem bN.new{w W:zw}{h M c:Nat}{v v':Value}{T:List Nat}{E:Nat->aa Key}{f:Key->Option Nat}{L:List (aa Key)}(s:St w h M v T E f L c){k:Key}(hf:f k=none)
 (hH:Holds W h M v' (T++ [w.heap.size]) (af E w.heap.size ⟨k,0,0,0⟩) c) (hM:Mp W M (iw f k w.heap.size) (T.length+1)) (ht:ao (jF h M v T) w W) (bw:∀j,v'.ownBlock=some j->v.ownBlock=some j\/w.heap.size<=j):
 bN w h (jF h M v T) L c k w.heap.size W M v' (T++ [w.heap.size]) (af E w.heap.size ⟨k,0,0,0⟩) (iw f k w.heap.size) T.length:=by
 have yg:w.heap.size∉T:=λhm=>by
  obtain⟨i,hi,he⟩:=gP hm;have:=s.hold.ue hi;omega
 have fr:∀x∈T,x≠w.heap.size:=λx hx e=>yg (e▸hx);have cu:∀e∈L,e.key≠k:=kR (by rw[← s.look k,hf];rfl);refine⟨hH,by rw[zh];exact hM,λk' b'=>?_,by simp,yf _ _,by rw[ay],λe'=>?_,λe'=>?_,λj hj=>?_,ht⟩
 . unfold iw
   by_cases e:k'=k
   . subst e;rw[if_pos rfl];constructor
     . intro he;cases he;exact⟨by simp,by rw[ay]⟩
     . rintro⟨h1,h2⟩;rcases List.mem_append.1 h1 with h1|h1
       . rw[au (fr _ (h1))] at h2;exact absurd h2 (cu _ (s.mem h1))
       . rw[List.mem_singleton.1 h1]
   . rw[if_neg e,s.spot k' b'];constructor
     . rintro⟨h1,h2⟩;exact⟨qq _ h1,by rw[au (fr _ (h1))];exact h2⟩
     . rintro⟨h1,h2⟩;rcases List.mem_append.1 h1 with h1|h1
       . exact⟨h1,by rw[au (fr _ (h1))] at h2;exact h2⟩
       . rw[List.mem_singleton.1 h1,ay] at h2;exact absurd h2.symm e
 . rw[aZ cu,xc,List.map_singleton,ay,rY yg,rY yg];exact(List.perm_append_comm (l₁:=T.map E) (l₂:=[e'])).trans (List.Perm.cons _ s.perm.symm)
 . refine Up.of (m:=T.length+1) (o:=ord (T++ [w.heap.size]) (af E w.heap.size ⟨k,(E (tg T ((T.length - 1) / 2))).one,(E (tg T ((T.length - 1) / 2))).two,(E (tg T ((T.length - 1) / 2))).set+1⟩)) ?_ (by simp) (λi hi al=>?_)
   . intro i hi fQ;unfold ord
     by_cases e:i=T.length
     . subst e;rw[yf,ay,mM (by omega),au (fr _ (dZ (by omega)))];exact ja ⟨rfl,ja ⟨rfl,Nat.lt_succ_self _⟩⟩
     . have h1:i < T.length:=by omega
       rw[mM h1,mM (by omega),au (fr _ (dZ (by omega))),au (fr _ (dZ h1))];exact s.hp i hi h1
   . have mN:i < T.length:=by rw[zh] at hi;simp at hi;omega
     unfold ord;rw[mM mN,au (fr _ (dZ mN)),au (fr _ (dZ mN)),au (fr _ (dZ mN))]
 . rcases hj with rfl|rfl|hj|hj
   . exact xz (xz rfl)
   . exact xz (ja (xz rfl))
   . exact(bw j hj).imp (λh=>ja (ja (xz h))) id
   . rcases List.mem_append.1 hj with h1|h1
     . exact xz (ja (ja (ja h1)))
     . rw[List.mem_singleton.1 h1];exact ja (zg _)
section
variable{w W:zw}{h M c p b:Nat}{v:Value}{T:List Nat}{E:Nat->aa Key}{f:Key->Option Nat}{L:List (aa Key)}{k:Key}{S:Nat->Prop}
theorem bN.DE(m:bN w h S L c k b W M v T E f p)(hc:c<=90000)(r1 r2:Int):
 Holds ((((W.setCell ⟨h,2,none⟩ (.int .i64 ((c+1:Nat):Int))).setCell ⟨b,1,none⟩ (.int .i64 r1)).setCell ⟨b,2,none⟩ (.int .i64 r2)).setCell ⟨b,3,none⟩ (.int .i64 ((c+1:Nat):Int))).drew h M v T (af E b ⟨k,r1,r2,c+1⟩) (c+1)/\
 ao (λj=>j=h\/j=b) W ((((W.setCell ⟨h,2,none⟩ (.int .i64 ((c+1:Nat):Int))).setCell ⟨b,1,none⟩ (.int .i64 r1)).setCell ⟨b,2,none⟩ (.int .i64 r2)).setCell ⟨b,3,none⟩ (.int .i64 ((c+1:Nat):Int))).drew:=by
 have Bj:h≠b:=m.item▸m.hold.hi m.lt
 have other:∀x,x≠h->x≠b->((((W.setCell ⟨h,2,none⟩ (.int .i64 ((c+1:Nat):Int))).setCell ⟨b,1,none⟩ (.int .i64 r1)).setCell ⟨b,2,none⟩ (.int .i64 r2)).setCell ⟨b,3,none⟩ (.int .i64 ((c+1:Nat):Int))).drew.heap[x]?=W.heap[x]?:=λx h1 h2=>by
  show((((W.setCell _ _).setCell _ _).setCell _ _).setCell _ _).heap[x]?=_
  rw[heap_setCell_other _ _ _ _ h2,heap_setCell_other _ _ _ _ h2,heap_setCell_other _ _ _ _ h2,heap_setCell_other _ _ _ _ h1]
 have Lt:=m.hold.item p m.lt;rw[m.item] at Lt;refine⟨⟨?_,?_,λi hi=>?_,m.hold.top,by omega⟩,?_⟩
 . show((((W.setCell _ _).setCell _ _).setCell _ _).setCell _ _).heap[h]?=_
   rw[heap_setCell_other _ _ _ _ Bj,heap_setCell_other _ _ _ _ Bj,heap_setCell_other _ _ _ _ Bj,heap_setCell_same _ _ _ _ _ _ m.hold.own];rfl
 . rcases m.hold.tree with hz|⟨tb,cap,arr,h1,h2,h3⟩
   . exact xz hz
   . exact ja ⟨tb,cap,arr,h1,(other tb (bT h2 m.hold.own (by decide)) (bT h2 Lt (by decide))).trans h2,h3⟩
 . by_cases e:tg T i=b
   . have lN:i=p:=m.hold.inj hi m.lt (e.trans m.item.symm);subst lN;rw[e,ay];show((((W.setCell _ _).setCell _ _).setCell _ _).setCell _ _).heap[b]?=_
     have g0:(W.setCell ⟨h,2,none⟩ (.int .i64 ((c+1:Nat):Int))).heap[b]?=_:=(heap_setCell_other _ _ _ _ (qa Bj)).trans Lt
     have g1:=heap_setCell_same _ b 1 _ _ (.int .i64 r1) g0;have g2:=heap_setCell_same _ b 2 _ _ (.int .i64 r2) g1;rw[heap_setCell_same _ b 3 _ _ _ g2,<-m.key];rfl
   . rw[au e,other _ (qa (m.hold.hi hi)) e];exact m.hold.item i hi
 . exact(((((ao.refl _ W).setCell (p:=⟨h,2,none⟩) (xz rfl) _).setCell (p:=⟨b,1,none⟩) (ja rfl) _).setCell (p:=⟨b,2,none⟩) (ja rfl) _).setCell (p:=⟨b,3,none⟩) (ja rfl) _).drew
theorem bN.done(m:bN w h S L c k b W M v T E f p)(ho:ed L c)(hs:mJ L)(fo:∀e∈L,lO e.key)(hk:lO k)(r1 r2:Int){w2 w3:zw}{e:Ending}(h2:Holds w2 h M v T (af E b ⟨k,r1,r2,c+1⟩) (c+1))(t2:ao (λj=>j=h\/j=b) W w2)
 (hp:Bh w2 h M v T (af E b ⟨k,r1,r2,c+1⟩) (c+1) e w3):cJ (.tuple #[]) w h S (ins ⟨k,r1,r2,c+1⟩ (rem L k)) (c+1) e w3:=by
 obtain⟨rfl,T',hH,mO,Lu,ht⟩:=hp
 have xM:∀x,(af E b ⟨k,r1,r2,c+1⟩ x).key=(E x).key:=λx=>by
  unfold af;split
  . rename_i e;rw[e];exact m.key.symm
  . rfl
 have Uy:M≠b:=m.item▸m.hold.mi m.mp m.lt;have Uz:=m.hold.hm m.mp;have IT:Mp w2 M f T.length:=m.mp.same (t2.block M m.mp.lt (by simp[qa Uz,Uy]))
 have IU:Mp w3 M f T.length:=IT.same (ht.block M IT.lt (by
  rintro(hl|hl)
  . rcases h2.tree with⟨rfl,_⟩|⟨tb,cap,arr,rfl,g2,_⟩
    . cases hl
    . injection hl with hl
      obtain⟨es,c',hb⟩:=IT.obj;have hl:tb=M:=hl;rw[← hl,g2] at hb;cases hb
  . obtain⟨i,hi,he⟩:=gP hl;exact h2.mi IT hi he.symm))
 have cu:∀e∈rem L k,e.key≠k:=λe he=>(gY.1 he).2;have Lv:=(ho.rem k).put k r1 r2 cu;have Lw:(ins ⟨k,r1,r2,c+1⟩ (rem L k)).Perm (T'.map (af E b ⟨k,r1,r2,c+1⟩)):=(km _ _).trans ((m.perm _).symm.trans (mO.map _).symm);refine⟨rfl,jF h M v T',⟨M,v,T',_,f,⟨hH,by rw[mO.length_eq];exact IU,λk' b'=>?_,Lw,?_,Lv,Lu,?_⟩,rfl⟩,λj hj=>?_,?_⟩
 . rw[xM,mO.mem_iff];exact m.spot k' b'
 . exact vw _ _ (rW hs k) (λx hx=>by have:=(ho.rem k).le x hx;show x.set≠c+1;omega)
 . intro e he;rcases vu.1 he with rfl|he
   . exact hk
   . exact fo e (gY.1 he).1
 . refine m.sub j ?_;rcases hj with hj|hj|hj|hj
   . exact xz hj
   . exact ja (xz hj)
   . exact ja (ja (xz hj))
   . exact ja (ja (ja (mO.mem_iff.1 hj)))
 . refine(m.a8.trans t2 (λj hj hS=>?_)).trans ht (λj hj hS=>?_)
   . have:jF h M v T j:=by
      rcases hS with rfl|rfl
      . exact xz rfl
      . exact ja (ja (ja (m.item▸dZ m.lt)))
     exact(m.sub j this).elim id (by omega)
   . have:jF h M v T j:=by
      rcases hS with h1|h1
      . exact ja (ja (xz h1))
      . exact ja (ja (ja h1))
     exact(m.sub j this).elim id (by omega)
end
end HS
end LF
namespace LF
namespace HS
open Go.RowKit Ht Go.Maps Go.WideMaps
theorem cJ.before{w w1 w':zw}{h c:Nat}{S:Nat->Prop}{L:List (aa Key)}{r:Value}{e:Ending}(hb:Below w.heap.size w w1)(hp:cJ r w1 h S L c e w'):cJ r w h S L c e w':=by
 obtain⟨he,S',h1,h2,h3⟩:=hp;exact⟨he,S',h1,λk hk=>(h2 k hk).imp id (λh=>zr hb.size h),(ao.cZ (S:=S) hb).trans h3 (λ_ _ h=>h)⟩
set_option maxRecDepth 100000 in
theorem JN(w:zw)(h:Nat)(S:Nat->Prop)(L:List (aa Key))(c:Nat)(k:Key)(r1 r2:Int)(s:HS w h S L c)(hk:lO k)(hl:L.length<=999)(hc:c<=90000):
 Calls prog 179 #[.pointer (some ⟨h,0,none⟩),.string k,.agg #[.int .i64 r1,.int .i64 r2]] w (cJ (.tuple #[]) w h S (ins ⟨k,r1,r2,c+1⟩ (rem L k)) (c+1)):=by
 have B1:=J ((zo w.heap.size w).alloc (zg _) (.cells #[.int .i64 r1,.int .i64 r2] 252 (0,0)));have BX:=J (heap_alloc_new w (.cells #[.int .i64 r1,.int .i64 r2] 252 (0,0)));have HO:=J (xy s.once (xy s.nY s.ok));have s1:=s.alloc (.cells #[.int .i64 r1,.int .i64 r2] 252 (0,0));have QN:¬S w.heap.size:=λhs=>by have:=s.lt hs;omega
 obtain⟨M,v,T,E,f,st,rfl⟩:=s1;have FI:=J (cH _ h M T.length f k st.hold.c0 st.mp hk);have yh:T.length<=999:=by rw[← st.len];exact hl
 have bW:w.heap.size < (w.alloc (.cells #[.int .i64 r1,.int .i64 r2] 252 (0,0))).heap.size:=by simp
 obtain⟨w1,cA⟩:∃w1,w.alloc (.cells #[.int .i64 r1,.int .i64 r2] 252 (0,0))=w1:=⟨_,rfl⟩;rw[cA] at B1 BX st FI bW;obtain⟨bx,ib⟩:∃bx,w.heap.size=bx:=⟨_,rfl⟩;have qS:=J ib;rw[ib] at BX bW QN;cases hf:f k with
 |some b=>
  rw[hf] at FI;obtain⟨p,m1⟩:=bN.old st hf;have B2:=BX;have MM:=J m1;clear s st hf m1 yh;go_enter func179,ntmps179;go_wp2_with fail
  clear cA ib;refine FI.out.mono ?_;rintro e W ⟨rfl,rfl⟩;unfold oA;have m1:=MM.out;obtain⟨W,hW⟩:∃W,w1=W:=⟨_,rfl⟩;subst hW;have Lx:=m1.hold.c2;have DF:=m1.hold.jG 2;have i1:=m1.hold.i1 m1.lt;have i2:=m1.hold.i2 m1.lt;have i3:=m1.hold.i3 m1.lt;have g1:=m1.hold.Bg m1.lt 1;have g2:=m1.hold.Bg m1.lt 2;have g3:=m1.hold.Bg m1.lt 3;have hb:=m1.item;rw[hb] at i1 i2 i3 g1 g2 g3;have Bj:h≠b:=hb▸m1.hold.hi m1.lt;have DG:bx≠b:=λe=>bT B2.out (hb▸m1.hold.item _ m1.lt) (by decide) e;have UE:bx≠h:=λe=>bT B2.out m1.hold.own (by decide) e;have x0:w1.cell? ⟨bx,0,none⟩=some (.int .i64 r1):=cell_of_row w1 _ 0 _ _ _ B2.out;have x1:w1.cell? ⟨bx,1,none⟩=some (.int .i64 r2):=cell_of_row w1 _ 1 _ _ _ B2.out;have R:=J (m1.DE hc r1 r2);have M1:=J m1;have ec:(c:Int)+1=((c+1:Nat):Int):=by omega
  obtain⟨c',nZ⟩:∃c',c'=c+1:=⟨_,rfl⟩;rw[← nZ] at ec R;have HC:=J nZ;have Bk:c'<=100000:=by omega
  clear m1 hb nZ;go_wp2_with fail
  go_region;generalize((((w1.setCell ⟨h,2,none⟩ (.int .i64 (c':Int))).setCell ⟨b,1,none⟩ (.int .i64 r1)).setCell ⟨b,2,none⟩ (.int .i64 r2)).setCell ⟨b,3,none⟩ (.int .i64 (c':Int))).drew=w2 at R|-;clear Lx DF i1 i2 i3 g1 g2 g3 x0 x1;go_wp2_with fail
  have eT:qA T (af E b ⟨k,r1,r2,c'⟩):=by
   have:=(M1.out.perm ⟨k,r1,r2,c'⟩).map (·.set);unfold qA;rw[List.map_map] at this;refine this.nodup_iff.2 (List.nodup_cons.2 ⟨λhm=>?_,(HO.out.1.rem k).qM⟩);obtain⟨e,he,Ly⟩:=List.mem_map.1 hm;have h1:=(HO.out.1.rem k).le e he;have h2:e.set=c':=Ly;have:=HC.out;omega
  refine(py w2 h M v T (af E b ⟨k,r1,r2,c'⟩) c' b p ⟨R.out.1,List.Perm.refl _,eT,M1.out.lt,M1.out.item,ao.refl _ _⟩ (M1.out.up _)).mono ?_;intro e w3 hp;have P3:=J hp;obtain rfl:=hp.1;clear hp;go_wp2_with fail
  first|go_end0|refine bodyPost_ret (results_none rfl _ _ _) rfl ?_
  have nZ:=HC.out;subst nZ;exact cJ.before B1.out (M1.out.done HO.out.1 HO.out.2.1 HO.out.2.2 hk r1 r2 R.out.1 R.out.2 P3.out)
 |none=>
  rw[hf] at FI;have AD:=J (JM w1 h M v T E f c k st.hold st.mp yh hk hf);have ST:=J st;have HF:=J hf;clear s st hf yh;go_enter func179,ntmps179;go_wp2_with fail
  clear cA ib;refine FI.out.mono ?_;rintro e W ⟨rfl,rfl⟩;unfold oA;go_wp2_with fail
  refine AD.out.mono ?_;rintro e W ⟨v',rfl,iV,uh,Bl,bw⟩;have B2:=J ((Bl.block bx bW QN).trans BX.out);have m1:=bN.new ST.out HF.out iV uh Bl bw;clear iV uh Bl bw AD;generalize T.length=p at m1;generalize T++ [w1.heap.size]=T at m1;generalize af E w1.heap.size ⟨k,0,0,0⟩=E at m1;generalize w1.heap.size=b at m1|-;generalize v'=v at m1;have Lx:=m1.hold.c2;have DF:=m1.hold.jG 2;have i1:=m1.hold.i1 m1.lt;have i2:=m1.hold.i2 m1.lt;have i3:=m1.hold.i3 m1.lt;have g1:=m1.hold.Bg m1.lt 1;have g2:=m1.hold.Bg m1.lt 2;have g3:=m1.hold.Bg m1.lt 3;have hb:=m1.item;rw[hb] at i1 i2 i3 g1 g2 g3;have Bj:h≠b:=hb▸m1.hold.hi m1.lt;have DG:bx≠b:=λe=>bT B2.out (hb▸m1.hold.item _ m1.lt) (by decide) e;have UE:bx≠h:=λe=>bT B2.out m1.hold.own (by decide) e;have x0:W.cell? ⟨bx,0,none⟩=some (.int .i64 r1):=cell_of_row W _ 0 _ _ _ B2.out;have x1:W.cell? ⟨bx,1,none⟩=some (.int .i64 r2):=cell_of_row W _ 1 _ _ _ B2.out;have R:=J (m1.DE hc r1 r2);have M1:=J m1;have ec:(c:Int)+1=((c+1:Nat):Int):=by omega
  obtain⟨c',nZ⟩:∃c',c'=c+1:=⟨_,rfl⟩;rw[← nZ] at ec R;have HC:=J nZ;have Bk:c'<=100000:=by omega
  clear m1 hb nZ;go_wp2_with fail
  go_region;generalize((((W.setCell ⟨h,2,none⟩ (.int .i64 (c':Int))).setCell ⟨b,1,none⟩ (.int .i64 r1)).setCell ⟨b,2,none⟩ (.int .i64 r2)).setCell ⟨b,3,none⟩ (.int .i64 (c':Int))).drew=w2 at R|-;clear Lx DF i1 i2 i3 g1 g2 g3 x0 x1;go_wp2_with fail
  have eT:qA T (af E b ⟨k,r1,r2,c'⟩):=by
   have:=(M1.out.perm ⟨k,r1,r2,c'⟩).map (·.set);unfold qA;rw[List.map_map] at this;refine this.nodup_iff.2 (List.nodup_cons.2 ⟨λhm=>?_,(HO.out.1.rem k).qM⟩);obtain⟨e,he,Ly⟩:=List.mem_map.1 hm;have h1:=(HO.out.1.rem k).le e he;have h2:e.set=c':=Ly;have:=HC.out;omega
  refine(py w2 h M v T (af E b ⟨k,r1,r2,c'⟩) c' b p ⟨R.out.1,List.Perm.refl _,eT,M1.out.lt,M1.out.item,ao.refl _ _⟩ (M1.out.up _)).mono ?_;intro e w3 hp;have P3:=J hp;obtain rfl:=hp.1;clear hp;go_wp2_with fail
  first|go_end0|refine bodyPost_ret (results_none rfl _ _ _) rfl ?_
  have nZ:=HC.out;subst nZ;exact cJ.before B1.out (M1.out.done HO.out.1 HO.out.2.1 HO.out.2.2 hk r1 r2 R.out.1 R.out.2 P3.out)
end HS
end LF
namespace LF
namespace HS
open Go.RowKit Ht Go.Maps Go.WideMaps
theorem FY(w:zw)(b:Nat):(binOp .neq 259 (.pointer (some ⟨b,0,none⟩)) (.pointer (some ⟨b,0,none⟩))).run prog w= .ok (.bool false) w:=by
 obtain⟨j,hj⟩:∃j,prog.info? 262=some j:=Option.isSome_iff_exists.1 (by kernel_rfl)
 have h:∀d:Nat,(Op.equalIn (d+1) 259 (.pointer (some ⟨b,0,none⟩)) (.pointer (some ⟨b,0,none⟩))).run prog w= .ok true w:=λd=>by
  simp[Op.equalIn,run_underlying underlying259,sizeOf,typeInfo,hj,run_sameAddr_same]
 simp only[binOp];simp[Op.equal,Op.maxDepth,h 9999]
theorem Pm:(prog.info? 262).map (λi=>i.size)=some 5:=by kernel_rfl
theorem DH(w:zw)(a b:Nat)(e e':aa Key)(i i':Nat)(al:a≠b)(ha:w.heap[a]?=some (eS e i))(hb:w.heap[b]?=some (eS e' i')):(binOp .neq 259 (.pointer (some ⟨a,0,none⟩)) (.pointer (some ⟨b,0,none⟩))).run prog w= .ok (.bool true) w:=by
 obtain⟨j,hj,hs⟩:=Option.map_eq_some_iff.1 Pm
 have h:∀d:Nat,(Op.equalIn (d+1) 259 (.pointer (some ⟨a,0,none⟩)) (.pointer (some ⟨b,0,none⟩))).run prog w= .ok false w:=λd=>by
  simp[Op.equalIn,run_underlying underlying259,sizeOf,typeInfo,hj,show j.size≠0 by omega,run_sameAddr_other w (a:=⟨a,0,none⟩) (b:=⟨b,0,none⟩) (by intro e;injection e with e;exact al e) ha hb]
 simp only[binOp];simp[Op.equal,Op.maxDepth,h 9999]
theorem mf{T:List Nat}{m i:Nat}(hi:i < m):tg (T.take m) i=tg T i:=by
 unfold tg;rw[List.getD_eq_getElem?_getD,List.getD_eq_getElem?_getD,List.getElem?_take,if_pos hi]
theorem Holds.cut{w:zw}{h M c tb cap m:Nat}{T:List Nat}{E:Nat->aa Key}(H:Holds w h M (.slice (some ⟨tb,0,none⟩) (m+1) cap) T E c)(hm:T.length=m+1):
 Holds ((w.setCell ⟨tb,m,none⟩ (.pointer none)).setCell ⟨h,1,none⟩ (.slice (some ⟨tb,0,none⟩) m cap)) h M (.slice (some ⟨tb,0,none⟩) m cap) (T.take m) E c:=by
 obtain⟨_,arr,h2,h3,h4,h5,h6⟩:=H.tree.tl;have ht:h≠tb:=bT H.own h2 (by decide);have hl:(T.take m).length=m:=by rw[qh];omega
 have aS:(w.setCell ⟨tb,m,none⟩ (.pointer none)).heap[h]?=some (oG M (.slice (some ⟨tb,0,none⟩) (m+1) cap) c):=(heap_setCell_other _ _ _ _ ht).trans H.own
 refine⟨?_,?_,λi hi=>?_,by rw[hl];have:=H.top;omega,H.qP⟩
 . rw[heap_setCell_same _ _ _ _ _ _ aS];rfl
 . refine ja ⟨tb,cap,arr.setIfInBounds m (.pointer none),by rw[hl],?_,by simpa using h3,by omega,h5,λi hi=>?_⟩
   . rw[heap_setCell_other _ _ _ _ (qa ht),heap_setCell_same _ _ _ _ _ _ h2]
   . rw[hl] at hi;rw[qv (by omega),mf hi];exact h6 i (by omega)
 . rw[hl] at hi;have al:tg T i≠tb:=bT (H.item i (by omega)) h2 (by decide);rw[mf hi,heap_setCell_other _ _ _ _ (qa (H.hi (i:=i) (by omega))),heap_setCell_other _ _ _ _ al];exact H.item i (by omega)
section
variable{w:zw}{h M c m p b:Nat}{v:Value}{T:List Nat}{E:Nat->aa Key}{f:Key->Option Nat}{L:List (aa Key)}
theorem St.left(s:St w h M v T E f L c)(hm:T.length=m+1)(hp:p < T.length)(hb:tg T p=b):
 ((dT T p m).take m++ [b]=dT T p m)/\(rem L (E b).key).Perm (((dT T p m).take m).map E)/\b∉(dT T p m).take m:=by
 have hlen:(dT T p m).length=m+1:=by rw[eH,hm]
 have ju:tg (dT T p m) m=b:=by rw[iu hp (by omega),if_pos rfl];exact hb
 have h1:(dT T p m).take m++ [b]=dT T p m:=by
  have h2:=xw m (dT T p m)
  have h3:(dT T p m).drop m= [b]:=by
   have h4:=fm (T:=dT T p m) (i:=m) (by omega);rw[ju] at h4;apply List.ext_getElem?;intro i;rw[List.getElem?_drop];cases i with
   |zero=>simpa using h4
   |succ i=>rw[List.getElem?_eq_none (by omega)];simp
  rw[h3] at h2;exact h2
 have mO:=mG hp (show m < T.length by omega);have cG:=(mO.nodup_iff).2 s.hold.nodup
 have gB:b∉(dT T p m).take m:=by
  rw[← h1] at cG;have:=List.nodup_append.1 cG;exact λhm=>this.2.2 b hm b (by simp) rfl
 refine⟨h1,?_,gB⟩
 have QO:L.Perm (E b::((dT T p m).take m).map E):=by
  refine s.perm.trans ((mO.symm.map E).trans ?_);rw[← h1,xc,List.map_singleton];rw[h1];exact List.perm_append_comm
 have ho:=s.once.perm QO;rw[← ho.pw];exact QO.filter _
theorem St.taken(s:St w h M v T E f L c)(hm:T.length=m+1)(hp:p < T.length)(hb:tg T p=b){v':Value}{T':List Nat}{w':zw}(hv:v'.ownBlock=v.ownBlock)(yi:T'.Perm ((dT T p m).take m))(hH:Holds w' h M v' T' E c)(hM:Mp w' M (lI f (E b).key) m)(Lu:Hp T'.length (ord T' E))(ht:ao (jF h M v T) w w'):
 cJ (.tuple #[]) w h (jF h M v T) (rem L (E b).key) c (.returned (.tuple #[])) w':=by
 obtain⟨h1,h2,h3⟩:=s.left hm hp hb
 have eU:∀x,x∈T'<->x∈T/\x≠b:=λx=>by
  have kc:x∈dT T p m<->x∈(dT T p m).take m\/x=b:=by
   have:=congrArg (λl=>x∈l) h1;simp only[qd,qo] at this;exact⟨λh=>this.symm▸h,λh=>this▸h⟩
  rw[yi.mem_iff,<-(mG hp (show m < T.length by omega)).mem_iff,kc];constructor
  . intro hx;exact⟨xz hx,λe=>h3 (e▸hx)⟩
  . rintro⟨hx|hx,al⟩
    . exact hx
    . exact absurd hx al
 have UF:b∈T:=hb▸dZ hp;have yh:T'.length=m:=by rw[yi.length_eq,qh,eH];omega
 refine⟨rfl,jF h M v' T',⟨M,v',T',E,lI f (E b).key,⟨hH,by rw[yh];exact hM,λk' b'=>?_,h2.trans (yi.map E).symm,rW s.nY _,s.once.rem _,Lu,λe he=>s.ok e (gY.1 he).1⟩,rfl⟩,λj hj=>?_,ht⟩
 . unfold lI;rw[eU]
   by_cases e:k'=(E b).key
   . rw[if_pos e];constructor
     . intro h;cases h
     . rintro⟨⟨g1,g2⟩,g3⟩;have:=(s.spot k' b').2 ⟨g1,g3⟩;rw[(s.spot k' b).2 ⟨UF,e.symm⟩] at this;exact absurd (Option.some.inj this).symm g2
   . rw[if_neg e,s.spot];constructor
     . rintro⟨g1,g2⟩;exact⟨⟨g1,λeb=>e (by rw[← g2,eb])⟩,g2⟩
     . rintro⟨⟨g1,_⟩,g3⟩;exact⟨g1,g3⟩
 . left;rcases hj with hj|hj|hj|hj
   . exact xz hj
   . exact ja (xz hj)
   . exact ja (ja (xz (hv▸hj)))
   . exact ja (ja (ja ((eU j).1 hj).1))
theorem St.up(s:St w h M v T E f L c)(hm:T.length=m+1)(hp:p < m):Up ((dT T p m).take m).length (ord ((dT T p m).take m) E) p:=by
 have hl:((dT T p m).take m).length=m:=by rw[qh,eH];omega
 rw[hl];refine Up.of s.hp (by omega) (λi hi al=>?_);unfold ord;rw[mf hi,iu (by omega) (by omega),if_neg (by omega),if_neg al]
theorem St.Pn(s:St w h M v T E f L c)(hm:T.length=m+1):Hp ((dT T m m).take m).length (ord ((dT T m m).take m) E):=by
 have hl:((dT T m m).take m).length=m:=by rw[qh,eH];omega
 rw[hl];intro i hi fQ;unfold ord;rw[mf fQ,mf (by omega),iu (by omega) (by omega),iu (by omega) (by omega),if_neg (by omega),if_neg (by omega),if_neg (by omega),if_neg (by omega)];exact s.hp i hi (by omega)
end
end HS
end LF
namespace LF
namespace HS
open Go.RowKit Ht Go.Maps Go.WideMaps
theorem Holds.IV{w w':zw}{h M c:Nat}{v:Value}{T:List Nat}{E:Nat->aa Key}(H:Holds w h M v T E c)(h1:w'.heap[h]?=w.heap[h]?)(h2:∀k,v.ownBlock=some k->w'.heap[k]?=w.heap[k]?)(h3:∀k∈T,w'.heap[k]?=w.heap[k]?):Holds w' h M v T E c:=by
 refine⟨h1.trans H.own,?_,λi hi=>(h3 _ (dZ hi)).trans (H.item i hi),H.top,H.qP⟩;rcases H.tree with hz|⟨tb,cap,arr,rfl,g2,g3⟩
 . exact xz hz
 . exact ja ⟨tb,cap,arr,rfl,(h2 tb rfl).trans g2,g3⟩
theorem Holds.Lz{w w':zw}{h M c n:Nat}{v:Value}{T:List Nat}{E:Nat->aa Key}{f:Key->Option Nat}(H:Holds w h M v T E c)(hM:Mp w M f n)(hg:w.grownBy w' (some M)):Holds w' h M v T E c:=by
 refine H.IV (hg.block h H.aQ (by simpa using H.hm hM)) (λk hk=>?_) (λk hk=>?_)
 . rcases H.tree with⟨rfl,_⟩|⟨tb,cap,arr,rfl,g2,g3⟩
   . cases hk
   . cases hk;refine hg.block tb (Array.getElem?_eq_some_iff.1 g2).1 ?_;obtain⟨es,c',hb⟩:=hM.obj;intro e;injection e with e;rw[← e,g2] at hb;cases hb
 . obtain⟨i,hi,rfl⟩:=gP hk;exact hg.block _ (H.ue hi) (by simpa using qa (H.mi hM hi))
set_option maxRecDepth 100000 in
theorem sy(w:zw)(h M:Nat)(v:Value)(T:List Nat)(E:Nat->aa Key)(f:Key->Option Nat)(L:List (aa Key))(c b p:Nat)(s:St w h M v T E f L c)(hp:p < T.length)(hb:tg T p=b):
 Calls prog 181 #[.pointer (some ⟨h,0,none⟩),.pointer (some ⟨b,0,none⟩)] w (cJ (.tuple #[]) w h (jF h M v T) (rem L (E b).key) c):=by
 obtain⟨tb,cap,rfl,cF,bL,arr,h2,h3,h6⟩:=s.hold.at (by omega);obtain⟨m,hm⟩:∃m,T.length=m+1:=⟨T.length - 1,by omega⟩;have ju:w.cell? ⟨tb,m,none⟩=some (.pointer (some ⟨tg T m,0,none⟩)):=(cell_of_row w _ _ _ _ _ h2).trans (h6 m (by omega));have c1:=s.hold.c1;have i4:=s.hold.i4 hp;have ht:=s.hold.top;rw[hb] at i4;rw[hm] at c1 cF ht;have em:((m+1:Nat):Int) - 1=(m:Int):=by omega
 have SW:=J (sR w h M (.slice (some ⟨tb,0,none⟩) T.length cap) T E c p m s.hold hp (by omega));have HS:=J s;have HB:=J hb;have HM:=J hm;have HP:=J hp;have F:=J (λw=>mL w (E b).key);have mlt:=s.mp.lt;unfold maxLen at bL;obtain⟨key,Cp⟩:∃k,(E b).key=k:=⟨_,rfl⟩;have HK:=J Cp;have fo:lO key:=Cp▸s.ok _ (s.mem (hb▸dZ hp));obtain⟨lb,ug⟩:∃x,tg T m=x:=⟨_,rfl⟩;have LA:=J ug;rw[ug] at ju;rw[Cp] at F;clear h2 h3 h6 s hb hp Cp ug;go_enter func181,ntmps181;go_wp2_with fail
 refine SW.out.mono ?_;rintro e w1 ⟨rfl,mP,Bi⟩;clear c1 i4 ju;have oa:(dT T p m).length=m+1:=by rw[eH];exact HM.out
 rw[hm] at mP
 have cU:w1.heap[b]?=some (eS (E b) m):=by
  have:=mP.item m (by omega);rw[iu HP.out (by omega),if_pos rfl,HB.out] at this;exact this
 obtain⟨_,Wu,g2,g3,g4,g5,g6⟩:=mP.tree.tl;have c0:=mP.c0;have c1:=mP.c1;have t1:w1.cell? ⟨tb,m,none⟩=some (.pointer (some ⟨tg (dT T p m) m,0,none⟩)):=(cell_of_row w1 _ _ _ _ _ g2).trans (g6 m (by omega));have f1:w1.frozen? ⟨tb,m,none⟩=false:=frozen_of_row w1 _ _ _ _ g2;have f2:=mP.jG 1;have k0:w1.cell? ⟨b,0,none⟩=some (.string key):=by rw[← HK.out];exact cell_of_row w1 _ 0 _ _ _ cU
 have xN:¬yc (.slice (some ⟨tb,0,none⟩) T.length cap) T M:=by
  rintro(hl|hl)
  . injection hl with hl
    have hl:tb=M:=hl;have:=HS.out.mp.obj;obtain⟨es,c',hq⟩:=this;obtain⟨_,Wv,q2,_⟩:=HS.out.hold.tree.tl;rw[← hl,q2] at hq;cases hq
  . obtain⟨i,hi,he⟩:=gP hl;exact HS.out.hold.mi HS.out.mp hi he.symm
 have DI:Mp w1 M f (m+1):=by have:=HS.out.mp.same (Bi.block M mlt xN);rw[HM.out] at this;exact this
 have UG:b≠h:=bT cU mP.own (by decide);have UI:b≠tb:=bT cU g2 (by decide);have WO:h≠tb:=bT mP.own g2 (by decide);have qR:=mP.cut oa;have UJ:=qa (mP.hm DI)
 have QP:M≠tb:=by
  obtain⟨es,c',hq⟩:=DI.obj;intro e;rw[e,g2] at hq;cases hq
 have UK:M≠b:=by
  obtain⟨es,c',hq⟩:=DI.obj;intro e;rw[e,cU] at hq;cases hq
 have IU:Mp ((w1.setCell ⟨tb,m,none⟩ (.pointer none)).setCell ⟨h,1,none⟩ (.slice (some ⟨tb,0,none⟩) m cap)) M f (m+1):=DI.same (by rw[heap_setCell_other _ _ _ _ UJ,heap_setCell_other _ _ _ _ QP]);have ie:((w1.setCell ⟨tb,m,none⟩ (.pointer none)).setCell ⟨h,1,none⟩ (.slice (some ⟨tb,0,none⟩) m cap)).heap[b]?=some (eS (E b) m):=by rw[heap_setCell_other _ _ _ _ UG,heap_setCell_other _ _ _ _ UI];exact cU
 have T3:=J (((Bi.wide (S':=jF h M (.slice (some ⟨tb,0,none⟩) T.length cap) T) (λj _ hj=>ja (ja hj))).setCell (p:=⟨tb,m,none⟩) (ja (ja (xz rfl))) (.pointer none)).setCell (p:=⟨h,1,none⟩) (xz rfl) (.slice (some ⟨tb,0,none⟩) m cap));have H3:=J qR;have M3:=J IU;have B3:=J ie;clear mP Bi cU g2 g3 g4 g5 g6 qR DI IU ie xN;have DJ:=J oa;clear oa;go_wp2_with fail
 refine(F.out _).mono ?_;rintro e w' ⟨rfl,rfl⟩;clear c0 c1 t1 f1 f2 k0;generalize(w1.setCell ⟨tb,m,none⟩ (.pointer none)).setCell ⟨h,1,none⟩ (.slice (some ⟨tb,0,none⟩) m cap)=w3 at T3 H3 M3 B3|-;have c0:=H3.out.c0;have k0:w3.cell? ⟨b,0,none⟩=some (.string key):=by rw[← HK.out];exact cell_of_row w3 _ 0 _ _ _ B3.out
 have QQ:(f key).isSome=true:=by rw[← HK.out,(HS.out.spot (E b).key b).2 ⟨HB.out▸dZ HP.out,rfl⟩];rfl
 obtain⟨w4,QR,QS,iW⟩:=Mp.drop (w:=w3.drew) (M3.out.same rfl) fo QQ 0;have hd:∀ty,(Builtin.delete_ #[222,9] ty #[.map (some M),.string key]).run prog w3.drew= .ok (.tuple #[]) w4:=λ_=>QR;have QT:=Holds.Lz (w:=w3.drew) (H3.out.IV rfl (λ_ _=>rfl) (λ_ _=>rfl)) (M3.out.same rfl) iW;have QU:w4.heap[b]?=some (eS (E b) m):=(iW.block b (Array.getElem?_eq_some_iff.1 B3.out).1 (by simpa using qa UK)).trans B3.out
 have T4:=J (T3.out.drew.grown iW (λj hj=>by cases hj;exact xz (ja (xz rfl))));have H4:=J QT;have B4:=J QU;have M4:=J QS;clear QR QS iW QT QU T3 H3 M3 B3 QQ;go_wp2_with fail
 go_region;clear hd c0 k0
 by_cases mO:p=m
 . have Tm:lb=b:=by rw[← LA.out,<-HB.out,mO]
   subst Tm;have hq:=FY w4 lb;go_wp2_with fail
   go_end0;have hs:=HS.out;have e1:=HK.out;subst mO;exact hs.taken HM.out HP.out HB.out (v':= .slice (some ⟨tb,0,none⟩) p cap) rfl (List.Perm.refl _) H4.out (by rw[e1];exact M4.out) (hs.Pn HM.out) T4.out
 . have jI:p < m:=by have:=HP.out;have:=HM.out;omega
   have Cq:((dT T p m).take m).length=m:=by rw[qh,DJ.out];omega
   have LB:tg ((dT T p m).take m) p=lb:=by
    rw[mf jI,iu HP.out (by omega),if_neg mO,if_pos rfl];exact LA.out
   have LC:w4.heap[lb]?=some (eS (E lb) p):=by
    have:=H4.out.item p (by rw[Cq];exact jI);rw[LB] at this;exact this
   have al:lb≠b:=λe=>mO (HS.out.hold.inj HP.out (by omega) (by rw[HB.out,LA.out,e]));have hq:=DH w4 lb b _ _ _ _ al LC B4.out;have UL:=J LB;have qT:=J Cq;clear LB Cq LC hm;go_wp2_with fail
   refine(py w4 h M _ _ E c lb p ⟨H4.out,List.Perm.refl _,?_,by rw[qT.out];exact jI,UL.out,ao.refl _ _⟩ (HS.out.up HM.out jI)).mono ?_
   . have:=HS.out.eD.sw HP.out (show m < T.length by have:=HM.out;omega);exact this.sublist ((List.take_sublist _ _).map _)
   rintro e w5 ⟨rfl,T',IW,IX,Cr,DK⟩;have R5:=J (xy IW (xy IX (xy Cr DK)));clear IW IX Cr DK hq;go_wp2_with fail
   first|go_end0|refine bodyPost_ret (results_none rfl _ _ _) rfl ?_
   have hs:=HS.out;have e1:=HK.out;obtain⟨IW,IX,Cr,DK⟩:=R5.out
   have xN:¬yc (.slice (some ⟨tb,0,none⟩) m cap) ((dT T p m).take m) M:=by
    rintro(hl|hl)
    . injection hl with hl
      exact QP hl.symm
    . obtain⟨i,hi,he⟩:=gP hl;exact H4.out.mi M4.out hi he.symm
   refine hs.taken HM.out HP.out HB.out (v':= .slice (some ⟨tb,0,none⟩) m cap) rfl IX IW (by rw[e1];exact M4.out.same (DK.block M M4.out.lt xN)) Cr (T4.out.trans DK (λj _ hj=>?_));rcases hj with hj|hj
   . exact ja (ja (xz hj))
   . exact ja (ja (ja ((mG HP.out (show m < T.length by have:=HM.out;omega)).mem_iff.1 (xn hj))))
end HS
end LF
namespace LF
open Go.RowKit Ht Go.Maps Go.WideMaps
theorem xO(w:zw)(b:Nat)(r1 r2:Value)(h0:w.cell? ⟨b,0,none⟩=some r1)(h1:w.cell? ⟨b,1,none⟩=some r2):(loadVar 252 ⟨b,0,none⟩).run prog w= .ok (.agg #[r1,r2]) w:=by
 have a1:=isAgg252;have z1:=sizeOf252;unfold loadVar;go_simp
theorem qC{fn:Func}{a u:Tmp}{ty:TypeId}(h:fn.results= #[.cell a ty,.tmp u])(tmps:Array Value)(P:Program)(w:zw)(p:Addr)(v:Value)(ha:tmps.getD a undef= .pointer (some p))(hv:(loadVar ty p).run P w= .ok v w):
 (results fn tmps).run P w= .ok (.tuple #[v,tmps.getD u undef]) w:=by
 rw[qt] at ha;simp[results,h,ha,asAddr,hv]
theorem qD{fn:Func}{a u z:Tmp}{ty:TypeId}(h:fn.results= #[.tmp z,.cell a ty,.tmp u])(tmps:Array Value)(P:Program)(w:zw)(p:Addr)(v:Value)(ha:tmps.getD a undef= .pointer (some p))(hv:(loadVar ty p).run P w= .ok v w):
 (results fn tmps).run P w= .ok (.tuple #[tmps.getD z undef,v,tmps.getD u undef]) w:=by
 rw[qt] at ha;simp[results,h,ha,asAddr,hv]
end LF
namespace LF
namespace HS
open Go.RowKit Ht Go.Maps Go.WideMaps
def vz(w:zw)(e:Ending)(w':zw):Prop:=∃h S,e= .returned (.pointer (some ⟨h,0,none⟩))/\HS w' h S [] 0/\(∀k,S k->w.heap.size<=k)/\Below w.heap.size w w'
theorem mg(w:zw):Calls prog 109 #[] w (vz w):=by
 have iX:=@run_makeMap prog;go_enter func109,ntmps109;go_wp2_with fail
 go_ret;clear iX;have m1:=Mp.made w;have hs:(w.alloc (.map #[] 0)).heap.size=w.heap.size+1:=by simp
 have b2:=heap_alloc_new (w.alloc (.map #[] 0)) (oG w.heap.size (.slice none 0 0) 0);rw[hs] at b2;refine⟨w.heap.size+1,jF (w.heap.size+1) w.heap.size (.slice none 0 0) [],rfl,⟨w.heap.size,.slice none 0 0,[],λ_=>⟨⟨#[]⟩,0,0,0⟩,λ_=>none,⟨⟨b2,xz ⟨rfl,rfl⟩,λi hi=>absurd hi (by simp),by simp,by omega⟩,m1.same (qf _ _ _ (by rw[hs];omega)),λk b=>by simp,List.Perm.refl _,List.Pairwise.nil,⟨List.nodup_nil,List.nodup_nil,by simp⟩,λi _ hi=>absurd hi (by simp),by simp⟩,rfl⟩,?_,?_⟩
 . rintro k (rfl|rfl|hk|hk)
   . omega
   . exact zg _
   . cases hk
   . cases hk
 . exact((zo _ _).alloc (zg _) _).alloc (by rw[hs];omega) _
theorem oI(w:zw)(h:Nat)(S:Nat->Prop)(L:List (aa Key))(c:Nat)(s:HS w h S L c):
 Calls prog 173 #[.pointer (some ⟨h,0,none⟩)] w (bS (L.length:Int) w):=by
 obtain⟨M,v,T,E,f,st,rfl⟩:=s;have c1:=st.hold.c1;obtain⟨a,cap,hv⟩:=st.hold.FU;rw[hv,<-st.len] at c1;clear st hv;go_enter func173,ntmps173;go_wp2_with fail
 go_ret;exact⟨rfl,rfl⟩
theorem fR{w:zw}{b:Nat}{x y:Value}{t:TypeId}(hb:w.heap[b]?=some (.cells #[x,y] t (0,0)))(u v:Value):
 ((w.setCell ⟨b,0,none⟩ u).setCell ⟨b,1,none⟩ v).cell? ⟨b,0,none⟩=some u/\((w.setCell ⟨b,0,none⟩ u).setCell ⟨b,1,none⟩ v).cell? ⟨b,1,none⟩=some v:=by
 have h1:=heap_setCell_same _ b 1 _ _ v (heap_setCell_same _ b 0 _ _ u hb);exact⟨cell_of_row _ _ 0 _ _ _ h1,cell_of_row _ _ 1 _ _ _ h1⟩
def Cs(o:Option (aa Key)):Value:=match o with
 |some e=> .tuple #[.agg #[.int .i64 e.one,.int .i64 e.two],.bool true]
 |none=> .tuple #[.agg #[.int .i64 0,.int .i64 0],.bool false]
def eJ(r:Value)(w:zw)(e:Ending)(w':zw):Prop:=e= .returned r/\Below w.heap.size w w'
theorem yj(w:zw)(h:Nat)(S:Nat->Prop)(L:List (aa Key))(c:Nat)(k:Key)(s:HS w h S L c)(hk:lO k):
 Calls prog 171 #[.pointer (some ⟨h,0,none⟩),.string k] w (eJ (Cs (find L k)) w):=by
 obtain⟨M,v,T,E,f,st,rfl⟩:=s;have ig:=st.look k;have Co:=st.hold.aQ;cases hf:f k with
 |none=>
  rw[hf] at ig;rw[← ig];obtain⟨w1,cA⟩:∃w1,w.alloc (.cells #[.int .i64 0,.int .i64 0] 252 (0,0))=w1:=⟨_,rfl⟩;have B1:=J ((zo w.heap.size w).alloc (zg _) (.cells #[.int .i64 0,.int .i64 0] 252 (0,0)));have BX:=heap_alloc_new w (.cells #[.int .i64 0,.int .i64 0] 252 (0,0));have st1:=st.same (w':=w.alloc (.cells #[.int .i64 0,.int .i64 0] 252 (0,0))) (λk hk=>qf _ _ _ (st.hold.blt st.mp hk));have FI:=J (cH _ h M T.length f k st1.hold.c0 st1.mp hk);rw[hf,cA] at FI;rw[cA] at B1 BX;obtain⟨bx,ib⟩:∃bx,w.heap.size=bx:=⟨_,rfl⟩;rw[ib] at BX;have x0:w1.cell? ⟨bx,0,none⟩=some (.int .i64 0):=cell_of_row w1 _ 0 _ _ _ BX;have x1:w1.cell? ⟨bx,1,none⟩=some (.int .i64 0):=cell_of_row w1 _ 1 _ _ _ BX;have g0:w1.frozen? ⟨bx,0,none⟩=false:=frozen_of_row w1 _ 0 _ _ BX;have g1:w1.frozen? ⟨bx,1,none⟩=false:=frozen_of_row w1 _ 1 _ _ BX;have qS:=J ib;have LR:=J (xO _ bx _ _ (fR BX (.int .i64 0) (.int .i64 0)).1 (fR BX (.int .i64 0) (.int .i64 0)).2);clear st st1 ig hf BX;go_enter func171,ntmps171;go_wp2_with fail
  refine FI.out.mono ?_;rintro e W ⟨rfl,rfl⟩;clear cA ib;unfold oA;go_wp2_with fail
  refine bodyPost_ret (qC rfl _ _ _ ⟨bx,0,none⟩ _ rfl LR.out) rfl ?_;refine⟨rfl,?_⟩;exact(B1.out.setCell (p:=⟨bx,0,none⟩) (xf qS.out) _).setCell (p:=⟨bx,1,none⟩) (xf qS.out) _
 |some b=>
  rw[hf,Option.map_some] at ig;rw[← ig];obtain⟨w1,cA⟩:∃w1,w.alloc (.cells #[.int .i64 0,.int .i64 0] 252 (0,0))=w1:=⟨_,rfl⟩;have B1:=J ((zo w.heap.size w).alloc (zg _) (.cells #[.int .i64 0,.int .i64 0] 252 (0,0)));have BX:=heap_alloc_new w (.cells #[.int .i64 0,.int .i64 0] 252 (0,0));have st1:=st.same (w':=w.alloc (.cells #[.int .i64 0,.int .i64 0] 252 (0,0))) (λk hk=>qf _ _ _ (st.hold.blt st.mp hk));have FI:=J (cH _ h M T.length f k st1.hold.c0 st1.mp hk);obtain⟨hb,_⟩:=(st.spot k b).1 hf;obtain⟨i,hi,rfl⟩:=gP hb;have y1:=st1.hold.i1 hi;have y2:=st1.hold.i2 hi;rw[hf,cA] at FI;rw[cA] at B1 BX y1 y2;obtain⟨bx,ib⟩:∃bx,w.heap.size=bx:=⟨_,rfl⟩;have al:tg T i≠bx:=by have:=st.hold.ue hi;omega
  rw[ib] at BX;have x0:w1.cell? ⟨bx,0,none⟩=some (.int .i64 0):=cell_of_row w1 _ 0 _ _ _ BX;have x1:w1.cell? ⟨bx,1,none⟩=some (.int .i64 0):=cell_of_row w1 _ 1 _ _ _ BX;have g0:w1.frozen? ⟨bx,0,none⟩=false:=frozen_of_row w1 _ 0 _ _ BX;have g1:w1.frozen? ⟨bx,1,none⟩=false:=frozen_of_row w1 _ 1 _ _ BX;have qS:=J ib;clear st st1 ig hf hb;generalize tg T i=x at*;generalize E x=e at*;have LR:=J (xO _ bx _ _ (fR BX (.int .i64 e.one) (.int .i64 e.two)).1 (fR BX (.int .i64 e.one) (.int .i64 e.two)).2);clear BX;go_enter func171,ntmps171;go_wp2_with fail
  refine FI.out.mono ?_;rintro e W ⟨rfl,rfl⟩;clear cA ib;unfold oA;go_wp2_with fail
  refine bodyPost_ret (qC rfl _ _ _ ⟨bx,0,none⟩ _ rfl LR.out) rfl ?_;refine⟨rfl,?_⟩;exact(B1.out.setCell (p:=⟨bx,0,none⟩) (xf qS.out) _).setCell (p:=⟨bx,1,none⟩) (xf qS.out) _
theorem jU(w:zw)(h:Nat)(S:Nat->Prop)(L:List (aa Key))(c:Nat)(k:Key)(s:HS w h S L c)(hk:lO k):
 Calls prog 174 #[.pointer (some ⟨h,0,none⟩),.string k] w (cJ (.bool (find L k).isSome) w h S (rem L k) c):=by
 have s0:=s;obtain⟨M,v,T,E,f,st,rfl⟩:=s;have ig:=st.look k;have FI:=J (cH _ h M T.length f k st.hold.c0 st.mp hk);cases hf:f k with
 |none=>
  rw[hf] at ig FI;have cu:rem L k=L:=aZ (kR (by rw[← ig];rfl));rw[← ig,cu];have S0:=J s0;clear st ig hf cu s0;go_enter func174,ntmps174;go_wp2_with fail
  refine FI.out.mono ?_;rintro e W ⟨rfl,rfl⟩;unfold oA;go_wp2_with fail
  go_ret;exact⟨rfl,_,S0.out,λ_ h=>xz h,ao.refl _ _⟩
 |some b=>
  rw[hf] at FI;rw[hf,Option.map_some] at ig;rw[← ig];obtain⟨hb,QV⟩:=(st.spot k b).1 hf;obtain⟨p,hp,QW⟩:=gP hb;have TO:=J (sy w h M v T E f L c b p st hp QW);rw[QV] at TO;clear st ig hf hb QV s0 hp QW;go_enter func174,ntmps174;go_wp2_with fail
  refine FI.out.mono ?_;rintro e W ⟨rfl,rfl⟩;unfold oA;go_wp2_with fail
  refine TO.out.mono ?_;rintro e W ⟨rfl,hr⟩;have HR:=J hr;clear hr;go_wp2_with fail
  go_ret;exact⟨rfl,HR.out⟩
def ui(L:List (aa Key)):Value:=match L with
 |e::_=> .tuple #[.string e.key,.agg #[.int .i64 e.one,.int .i64 e.two],.bool true]
 | []=> .tuple #[.string ⟨#[]⟩,.agg #[.int .i64 0,.int .i64 0],.bool false]
theorem St.root{w:zw}{h M c:Nat}{v:Value}{T:List Nat}{E:Nat->aa Key}{f:Key->Option Nat}{L:List (aa Key)}(s:St w h M v T E f L c)(hT:0 < T.length):∃L',L=E (tg T 0)::L':=by
 have hm:E (tg T 0)∈L:=s.mem (dZ hT);cases L with
 |nil=>cases hm
 |cons x L'=>
  rcases List.mem_cons.1 hm with e|Bm
  . exact⟨L',by rw[e]⟩
  . have h1:=(List.pairwise_cons.1 s.nY).1 _ Bm;have hx:x∈x::L':=xa;obtain⟨b,hb,rfl⟩:=List.mem_map.1 (s.perm.mem_iff.1 hx);obtain⟨i,hi,rfl⟩:=gP hb
    by_cases h0:i=0
    . subst h0;exact absurd h1 (lt.irrefl _)
    . exact absurd (s.hp.root i (by omega) hi) h1.asymm
set_option maxRecDepth 100000 in
theorem wE(w:zw)(h:Nat)(S:Nat->Prop)(L:List (aa Key))(c:Nat)(s:HS w h S L c):
 Calls prog 178 #[.pointer (some ⟨h,0,none⟩)] w (eJ (ui L) w):=by
 obtain⟨M,v,T,E,f,st,rfl⟩:=s;have B1:=J ((zo w.heap.size w).alloc (zg _) (.cells #[.int .i64 0,.int .i64 0] 252 (0,0)));have BX:=heap_alloc_new w (.cells #[.int .i64 0,.int .i64 0] 252 (0,0));have st1:=st.same (w':=w.alloc (.cells #[.int .i64 0,.int .i64 0] 252 (0,0))) (λk hk=>qf _ _ _ (st.hold.blt st.mp hk));have Co:=st.hold.aQ;obtain⟨w1,cA⟩:∃w1,w.alloc (.cells #[.int .i64 0,.int .i64 0] 252 (0,0))=w1:=⟨_,rfl⟩;rw[cA] at B1 BX st1;obtain⟨bx,ib⟩:∃bx,w.heap.size=bx:=⟨_,rfl⟩;have qS:=J ib;rw[ib] at BX;have x0:w1.cell? ⟨bx,0,none⟩=some (.int .i64 0):=cell_of_row w1 _ 0 _ _ _ BX;have x1:w1.cell? ⟨bx,1,none⟩=some (.int .i64 0):=cell_of_row w1 _ 1 _ _ _ BX;have g0:w1.frozen? ⟨bx,0,none⟩=false:=frozen_of_row w1 _ 0 _ _ BX;have g1:w1.frozen? ⟨bx,1,none⟩=false:=frozen_of_row w1 _ 1 _ _ BX;have c1:=st1.hold.c1;have Tn:h≠bx:=by omega
 by_cases hT:T.length=0
 . have hL:L= []:=qe (by rw[st.len];exact hT);subst hL;have LR:=J (xO _ bx _ _ (fR BX (.int .i64 0) (.int .i64 0)).1 (fR BX (.int .i64 0) (.int .i64 0)).2);obtain⟨a,cap,hv⟩:=st.hold.FU;rw[hv,hT] at c1;clear st st1 BX hT hv Tn;go_enter func178,ntmps178;go_wp2_with fail
   refine bodyPost_ret (qD rfl _ _ _ ⟨bx,0,none⟩ _ rfl LR.out) rfl ?_;refine⟨rfl,?_⟩;exact(B1.out.setCell (p:=⟨bx,0,none⟩) (xf qS.out) _).setCell (p:=⟨bx,1,none⟩) (xf qS.out) _
 . obtain⟨L',rfl⟩:=st.root (by omega);obtain⟨tb,cap,rfl,cF,bL,arr,h2,h3,h6⟩:=st1.hold.at (by omega);have t0:w1.cell? ⟨tb,0,none⟩=some (.pointer (some ⟨tg T 0,0,none⟩)):=(cell_of_row w1 _ _ _ _ _ h2).trans (h6 0 (by omega));have y0:=st1.hold.i0 (i:=0) (by omega);have y1:=st1.hold.i1 (i:=0) (by omega);have y2:=st1.hold.i2 (i:=0) (by omega);have al:tg T 0≠bx:=by have:=st.hold.ue (i:=0) (by omega);omega
   have WQ:tb≠bx:=bT h2 BX (by decide);obtain⟨n,hn⟩:∃n,T.length=n+1:=⟨T.length - 1,by omega⟩;have ht:=st.hold.top;rw[hn] at c1 cF ht;have LR:=J (xO (((w1.setCell ⟨bx,0,none⟩ (.int .i64 (E (tg T 0)).one)).setCell ⟨bx,1,none⟩ (.int .i64 (E (tg T 0)).two)).drew) bx _ _ (fR BX (.int .i64 (E (tg T 0)).one) (.int .i64 (E (tg T 0)).two)).1 (fR BX (.int .i64 (E (tg T 0)).one) (.int .i64 (E (tg T 0)).two)).2);unfold maxLen at bL;have el:((n:Int)+1==0)=false:=by simp;omega
   clear st st1 BX hT h2 h3 h6 hn;generalize tg T 0=x at*;generalize E x=e at*;go_enter func178,ntmps178;go_wp2_with fail
   clear cA ib;go_region;go_wp2_with fail
   refine bodyPost_ret (qD rfl _ _ _ ⟨bx,0,none⟩ _ rfl LR.out) rfl ?_;refine⟨rfl,?_⟩;exact((B1.out.setCell (p:=⟨bx,0,none⟩) (xf qS.out) _).setCell (p:=⟨bx,1,none⟩) (xf qS.out) _).drew
def Tp(L:List (aa Key)):Value:=match L with
 |e::_=> .tuple #[.string e.key,.bool true]
 | []=> .tuple #[.string ⟨#[]⟩,.bool false]
set_option maxRecDepth 100000 in
theorem rZ(w:zw)(h:Nat)(S:Nat->Prop)(L:List (aa Key))(c:Nat)(s:HS w h S L c):
 Calls prog 170 #[.pointer (some ⟨h,0,none⟩)] w (cJ (Tp L) w h S L.tail c):=by
 have LE:=J (wE w h S L c s);have S0:=J s;cases L with
 |nil=>
  clear s;unfold ui at LE;go_enter func170,ntmps170;go_wp2_with fail
  refine LE.out.mono ?_;rintro e w1 ⟨rfl,hB⟩;have HB:=J hB;have bW:=hB.size;clear hB;go_wp2_with fail
  go_ret2
  exact cJ.before (HB.out.alloc bW _) ⟨rfl,S,S0.out.below (HB.out.alloc bW _),λ_ h=>xz h,ao.refl _ _⟩
 |cons e L=>
  clear s;unfold ui at LE;go_enter func170,ntmps170;go_wp2_with fail
  refine LE.out.mono ?_;rintro e' w1 ⟨rfl,hB⟩;have bW:=hB.size;have B2:=J (hB.alloc bW (.cells #[.int .i64 e.one,.int .i64 e.two] 252 (0,0)));clear hB;have s2:=S0.out.below B2.out;obtain⟨w2,Bn⟩:∃w2,w1.alloc (.cells #[.int .i64 e.one,.int .i64 e.two] 252 (0,0))=w2:=⟨_,rfl⟩;rw[Bn] at B2 s2;obtain⟨M,v,T,E,f,st,rfl⟩:=s2;have hT:0 < T.length:=by rw[← st.len];simp
  obtain⟨L',QX⟩:=st.root hT;have he:e=E (tg T 0):=by injection QX
  obtain⟨tb,cap,rfl,cF,bL,arr,h2,h3,h6⟩:=st.hold.at hT;have t0:_=some (Value.pointer (some ⟨tg T 0,0,none⟩)):=(cell_of_row _ tb 0 _ _ _ h2).trans (h6 0 hT);have c1:=st.hold.c1;have ht:=st.hold.top;have TO:=J (sy _ h M _ T E f _ c (tg T 0) 0 st hT rfl);rw[← he,st.once.pw] at TO;obtain⟨n,hn⟩:∃n,T.length=n+1:=⟨T.length - 1,by omega⟩;have HN:=J hn;rw[hn] at c1 cF ht;unfold maxLen at bL;clear st h2 h3 h6 QX he hT;generalize tg T 0=x at*;go_wp2_with fail
  clear Bn;refine TO.out.mono ?_;rintro e' w3 ⟨rfl,hr⟩;have HR:=J hr;clear hr;go_wp2_with fail
  go_ret2
  refine cJ.before B2.out ⟨rfl,HR.out⟩
end HS
end LF
namespace LF
namespace HS
open Go.RowKit Ht Go.Maps Go.WideMaps
def Own(w:zw)(base:Nat)(v:Value)(xs:List Key):Prop:=w.ownsRow base 9 1 v xs.length (xs.map λk=>(.string k:Value))/\xs.length<=2000/\∀x∈xs,lO x
def br(xs:List Key)(w:zw)(e:Ending)(w':zw):Prop:=∃v,e= .returned v/\Own w' w.heap.size v xs/\Below w.heap.size w w'
theorem uj:(prog.info? 9).map (λi=>(i.zero,i.size,i.bytes))=some (some (.string ⟨#[]⟩),1,16):=by kernel_rfl
theorem UM(W:zw)(m:Nat)(hm:m<=2000):(Instr.makeSlice 30 (.int .i64 (m:Int)) (.int .i64 (m:Int))).run prog W= .ok (.slice (some ⟨W.heap.size,0,none⟩) m m) (W.alloc (.cells (madeCells #[.string ⟨#[]⟩] m) 9)):=by
 obtain⟨i0,hi,fL,fC,fx⟩:=info_parts uj;have h:=run_make (P:=prog) W 30 9 i0 (.string ⟨#[]⟩) underlying30 hi fL .i64 .i64 m m (by omega) (by omega) (by rw[fx];omega) (by omega);rw[h,fC,Int.toNat_natCast,Nat.mul_one];rfl
section
variable{w w':zw}
theorem Own.len{v:Value}{xs:List Key}{base:Nat}(o:Own w base v xs):∃a cap,v= .slice a xs.length cap:=by
 rcases o.1.2 with⟨h1,h0⟩|⟨g,cap,arr,h1,_⟩
 . exact⟨none,0,by rw[h1,h0]⟩
 . exact⟨_,_,h1⟩
theorem Own.same{v:Value}{xs:List Key}{base:Nat}(o:Own w base v xs)(hs:∀g,v.ownBlock=some g->w'.heap[g]?=w.heap[g]?):Own w' base v xs:=by
 refine⟨⟨o.1.1,?_⟩,o.2⟩;rcases o.1.2 with h1|⟨g,cap,arr,rfl,hb,h2,h3⟩
 . exact xz h1
 . exact ja ⟨g,cap,arr,rfl,hb,(hs g rfl).trans h2,h3⟩
theorem Own.lt{v:Value}{xs:List Key}{base g:Nat}(o:Own w base v xs)(hg:v.ownBlock=some g):g < w.heap.size/\base<=g:=by
 rcases o.1.2 with⟨rfl,_⟩|⟨g',cap,arr,rfl,hb,h2,h3⟩
 . cases hg
 . cases hg;exact⟨(Array.getElem?_eq_some_iff.1 h2).1,hb⟩
