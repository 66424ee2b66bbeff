/- heap: Ht Hc HaS HbS HsS HfS HeS HgS HjS HkS HlS HmS Hr HnS HpS. -/
import Derived.Test.YtdmmciggopmglaaGreatDoorChecked
import Derived.WalkKit
import Derived.IntWalk
import Derived.LoopTactic
import Derived.Lib.Hide
import Derived.Below
import Derived.Laws.OwnMore
import Derived.OwnWalk
import Derived.RegionTactic
import Derived.BigRegion
import Derived.Sort.Grow
import Derived.Deep.Draws
import Derived.Laws.StructEq
import Derived.StillTailTactics
import Derived.Maps.OwnSet
import Derived.Maps.AppendAt
import Derived.Recover
import Derived.Defers
import Derived.Deep.QuietTactic
import Derived.BigQuiet
import Derived.Deep.RegionHeld3
import Derived.Deep.LoopGhost
import Derived.Deep.DeepCutAuto
import Derived.Deep.CutBlock
import Derived.LaidEqlPtr
set_option maxRecDepth 20000
namespace Go.Proofs.YtdmmciggopmglaaGreatDoor.LF
namespace Ht
structure Ent(K:Type) where
 key:K
 one:Int
 two:Int
 set:Nat
variable{K:Type}
def lt(a b:Ent K):Prop:=a.one < b.one\/(a.one=b.one/\(a.two < b.two\/(a.two=b.two/\a.set < b.set)))
instance lt_dec (a b:Ent K):Decidable (lt a b):=by unfold lt;exact inferInstance
theorem lt.trans{a b c:Ent K}(h:lt a b)(k:lt b c):lt a c:=by unfold lt at *;omega
theorem lt.irrefl(a:Ent K):¬lt a a:=by unfold lt;omega
theorem lt.asymm{a b:Ent K}(h:lt a b):¬lt b a:=λk=>lt.irrefl a (h.trans k)
theorem lt.tot{a b:Ent K}(h:a.set≠b.set)(k:¬lt a b):lt b a:=by unfold lt at *;omega
def tg(T:List Nat)(i:Nat):Nat:=T.getD i 0
def tsw(T:List Nat)(i j:Nat):List Nat:=(T.set i (tg T j)).set j (tg T i)
theorem tg_get{T:List Nat}{i:Nat}(h:i < T.length):T[i]?=some (tg T i):=by
 unfold tg;rw[List.getD_eq_getElem?_getD,List.getElem?_eq_getElem h];rfl
theorem tg_mem{T:List Nat}{i:Nat}(h:i < T.length):tg T i∈T:=List.mem_of_getElem? (tg_get h)
theorem mem_tg{T:List Nat}{b:Nat}(h:b∈T):∃i,i < T.length/\tg T i=b:=by
 obtain⟨i,hi,rfl⟩:=List.mem_iff_getElem.1 h;refine⟨i,hi,?_⟩;have:=tg_get hi;rw[List.getElem?_eq_getElem hi] at this;exact(Option.some.inj this).symm
theorem tsw_len{T:List Nat}{i j:Nat}:(tsw T i j).length=T.length:=by simp[tsw]
theorem tg_tsw{T:List Nat}{i j:Nat}(hi:i < T.length)(hj:j < T.length)(k:Nat):tg (tsw T i j) k=if k=j then tg T i else if k=i then tg T j else tg T k:=by
 unfold tsw;show(List.set _ j _).getD k 0=_;rw[List.getD_eq_getElem?_getD,List.getElem?_set,List.getElem?_set]
 by_cases h1:k=j
 . subst h1;simp[hj]
 . rw[if_neg (λe=>h1 e.symm),if_neg h1]
   by_cases h2:k=i
   . subst h2;simp[hi]
   . rw[if_neg (λe=>h2 e.symm),if_neg h2];rfl
theorem tsw_perm{T:List Nat}{i j:Nat}(hi:i < T.length)(hj:j < T.length):(tsw T i j).Perm T:=by
 have e1:tg T i=T[i]:=by have:=tg_get hi;rw[List.getElem?_eq_getElem hi] at this;exact(Option.some.inj this).symm
 have e2:tg T j=T[j]:=by have:=tg_get hj;rw[List.getElem?_eq_getElem hj] at this;exact(Option.some.inj this).symm
 unfold tsw;rw[e1,e2];exact List.set_set_perm hi hj
def Hp(n:Nat)(o:Nat->Ent K):Prop:=∀i,0 < i->i < n->lt (o ((i - 1) / 2)) (o i)
def Up(n:Nat)(o:Nat->Ent K)(p:Nat):Prop:=(∀i,0 < i->i < n->i≠p->(i - 1) / 2≠p->lt (o ((i - 1) / 2)) (o i))/\∀i,0 < p->0 < i->i < n->(i - 1) / 2=p->lt (o ((p - 1) / 2)) (o i)
def Dn(n:Nat)(o:Nat->Ent K)(p:Nat):Prop:=(∀i,0 < i->i < n->(i - 1) / 2≠p->lt (o ((i - 1) / 2)) (o i))/\∀i,0 < p->0 < i->i < n->(i - 1) / 2=p->lt (o ((p - 1) / 2)) (o i)
def sw(o:Nat->Ent K)(i j:Nat):Nat->Ent K:=λk=>if k=j then o i else if k=i then o j else o k
theorem sw_j(o:Nat->Ent K)(i j:Nat):sw o i j j=o i:=by simp[sw]
theorem sw_i(o:Nat->Ent K)(i j:Nat)(h:i≠j):sw o i j i=o j:=by simp[sw,h]
theorem sw_k(o:Nat->Ent K)(i j k:Nat)(h:k≠i)(h':k≠j):sw o i j k=o k:=by simp[sw,h,h']
variable{n p:Nat}{o:Nat->Ent K}
theorem Up.step(h:Up n o p)(hp:0 < p)(hn:p < n)(hl:lt (o p) (o ((p - 1) / 2))):Up n (sw o p ((p - 1) / 2)) ((p - 1) / 2):=by
 obtain⟨h1,h2⟩:=h;obtain⟨q,hq⟩:∃q,q=(p - 1) / 2:=⟨_,rfl⟩;rw[← hq] at hl|-;have hqp:q < p:=by omega
 refine⟨λi hi hin hiq hrq=>?_,λi hq0 hi hin hr=>?_⟩
 . have hip:i≠p:=by intro e;subst e;exact hrq hq.symm
   rw[sw_k o p q i hip hiq]
   by_cases hr:(i - 1) / 2=p
   . rw[hr,sw_i o p q (by omega),hq];exact h2 i hp hi hin hr
   . rw[sw_k o p q _ hr hrq];exact h1 i hi hin hip hr
 . have hb:lt (o ((q - 1) / 2)) (o q):=h1 q hq0 (by omega) (by omega) (by omega);rw[sw_k o p q _ (by omega) (by omega)]
   by_cases hip:i=p
   . rw[hip,sw_i o p q (by omega)];exact hb
   . rw[sw_k o p q i hip (by omega)];have:=h1 i hi hin hip (by omega);rw[hr] at this;exact hb.trans this
theorem Up.stop(h:Up n o p)(hs:p=0\/lt (o ((p - 1) / 2)) (o p)):Dn n o p:=by
 refine⟨λi hi hin hr=>?_,h.2⟩
 by_cases hip:i=p
 . rcases hs with hs|hs
   . omega
   . rw[hip];exact hs
 . exact h.1 i hi hin hip hr
theorem Dn.step(h:Dn n o p){c:Nat}(hc:0 < c)(hcn:c < n)(hcp:(c - 1) / 2=p)(hl:lt (o c) (o p))(hd:∀d,0 < d->d < n->(d - 1) / 2=p->d≠c->lt (o c) (o d)):Dn n (sw o p c) c:=by
 obtain⟨h1,h2⟩:=h;refine⟨λi hi hin hr=>?_,λi hc0 hi hin hr=>?_⟩
 . by_cases hic:i=c
   . subst hic;rw[hcp,sw_j,sw_i o p i (by omega)];exact hl
   . by_cases hip:i=p
     . subst hip;rw[sw_i o i c (by omega),sw_k o i c _ (by omega) hr];exact h2 c hi hc hcn hcp
     . rw[sw_k o p c i hip hic]
       by_cases hrp:(i - 1) / 2=p
       . rw[hrp,sw_i o p c (by omega)];exact hd i hi hin hrp hic
       . rw[sw_k o p c _ hrp hr];exact h1 i hi hin hrp
 . rw[hcp,sw_i o p c (by omega),sw_k o p c i (by omega) (by omega)];have:=h1 i hi hin (by omega);rw[hr] at this;exact this
theorem Dn.stop(h:Dn n o p)(hs:∀c,0 < c->c < n->(c - 1) / 2=p->lt (o p) (o c)):Hp n o:=by
 intro i hi hin
 by_cases hr:(i - 1) / 2=p
 . rw[hr];exact hs i hi hin hr
 . exact h.1 i hi hin hr
theorem Up.of{m:Nat}{o':Nat->Ent K}(h:Hp m o)(hm:n<=m)(he:∀i,i < n->i≠p->o' i=o i):Up n o' p:=by
 refine⟨λi hi hin hip hr=>?_,λi hp hi hin hr=>?_⟩
 . rw[he i hin hip,he _ (by omega) hr];exact h i hi (by omega)
 . rw[he i hin (by omega),he ((p - 1) / 2) (by omega) (by omega)];have h1:=h i hi (by omega);rw[hr] at h1;exact(h p hp (by omega)).trans h1
theorem Hp.root(h:Hp n o):∀i,0 < i->i < n->lt (o 0) (o i):=by
 intro i
 induction i using Nat.strongRecOn with
 |_ i ih=>
  intro hi hin
  by_cases h0:(i - 1) / 2=0
  . have:=h i hi hin;rw[h0] at this;exact this
  . exact(ih ((i - 1) / 2) (by omega) (by omega) (by omega)).trans (h i hi hin)
def Srt(L:List (Ent K)):Prop:=L.Pairwise lt
theorem Srt.uniq:∀{L M:List (Ent K)},L.Perm M->Srt L->Srt M->L=M
 | [],M,hp,_,_=>(List.nil_perm.1 hp).symm
 |a::L,[],hp,_,_=>by have:=hp.length_eq;simp at this
 |a::L,b::M,hp,h1,h2=>by
  have ha:=List.pairwise_cons.1 h1;have hb:=List.pairwise_cons.1 h2
  have hab:a=b:=by
   have m1:a∈b::M:=hp.mem_iff.1 List.mem_cons_self;have m2:b∈a::L:=hp.mem_iff.2 List.mem_cons_self;rcases List.mem_cons.1 m1 with e|m1
   . exact e
   . rcases List.mem_cons.1 m2 with e|m2
     . exact e.symm
     . exact absurd (hb.1 a m1) (ha.1 b m2).asymm
  subst hab;rw[Srt.uniq (List.Perm.cons_inv hp) ha.2 hb.2]
def ins(e:Ent K):List (Ent K)->List (Ent K)
 | []=>[e]
 |x::xs=>if lt x e then x::ins e xs else e::x::xs
theorem ins_perm(e:Ent K):∀L,(ins e L).Perm (e::L)
 | []=>List.Perm.refl _
 |x::xs=>by
  unfold ins;split
  . exact((ins_perm e xs).cons x).trans (List.Perm.swap e x xs)
  . exact List.Perm.refl _
theorem ins_mem{e x:Ent K}{L:List (Ent K)}:x∈ins e L<->x=e\/x∈L:=by rw[(ins_perm e L).mem_iff,List.mem_cons]
theorem ins_len(e:Ent K)(L:List (Ent K)):(ins e L).length=L.length+1:=by rw[(ins_perm e L).length_eq];rfl
theorem ins_srt(e:Ent K):∀L:List (Ent K),Srt L->(∀x∈L,x.set≠e.set)->Srt (ins e L)
 | [],_,_=>List.pairwise_singleton _ _
 |x::xs,h,hs=>by
  have hx:=List.pairwise_cons.1 h;unfold ins;split
  . rename_i hl
    refine List.pairwise_cons.2 ⟨λy hy=>?_,ins_srt e xs hx.2 (λy hy=>hs y (List.mem_cons_of_mem _ hy))⟩;rcases ins_mem.1 hy with rfl|hy
    . exact hl
    . exact hx.1 y hy
  . rename_i hl
    have he:=lt.tot (hs x List.mem_cons_self) hl;refine List.pairwise_cons.2 ⟨λy hy=>?_,h⟩;rcases List.mem_cons.1 hy with rfl|hy
    . exact he
    . exact he.trans (hx.1 y hy)
variable [DecidableEq K]
def rem(L:List (Ent K))(k:K):List (Ent K):=L.filter λe=>decide (e.key≠k)
theorem mem_rem{L:List (Ent K)}{k:K}{e:Ent K}:e∈rem L k<->e∈L/\e.key≠k:=by simp[rem]
theorem rem_srt{L:List (Ent K)}(h:Srt L)(k:K):Srt (rem L k):=List.Pairwise.filter _ h
theorem rem_none{L:List (Ent K)}{k:K}(h:∀e∈L,e.key≠k):rem L k=L:=by
 unfold rem;rw[List.filter_eq_self];intro e he;simp[h e he]
def find(L:List (Ent K))(k:K):Option (Ent K):=L.find? λe=>decide (e.key=k)
theorem find_some{L:List (Ent K)}{k:K}{e:Ent K}(h:find L k=some e):e∈L/\e.key=k:=⟨List.mem_of_find?_eq_some h,by simpa using List.find?_some h⟩
theorem find_none{L:List (Ent K)}{k:K}(h:find L k=none):∀e∈L,e.key≠k:=by
 intro e he;have:=List.find?_eq_none.1 h e he;simpa using this
structure Once(L:List (Ent K))(c:Nat):Prop where
 keys:(L.map (·.key)).Nodup
 sets:(L.map (·.set)).Nodup
 le:∀e∈L,e.set<=c
omit [DecidableEq K] in
theorem Once.perm{L M:List (Ent K)}{c:Nat}(h:Once L c)(hp:L.Perm M):Once M c:=
 ⟨(hp.map _).nodup_iff.1 h.keys,(hp.map _).nodup_iff.1 h.sets,λe he=>h.le e (hp.mem_iff.2 he)⟩
omit [DecidableEq K] in
theorem Once.uniq{L:List (Ent K)}{c:Nat}(h:Once L c){a b:Ent K}(ha:a∈L)(hb:b∈L)(he:a.key=b.key):a=b:=by
 have:=h.keys
 induction L with
 |nil=>cases ha
 |cons x L ih=>
  rw[List.map_cons,List.nodup_cons] at this;rcases List.mem_cons.1 ha with rfl|ha'
  . rcases List.mem_cons.1 hb with rfl|hb'
    . rfl
    . exact absurd (he▸List.mem_map_of_mem hb') this.1
  . rcases List.mem_cons.1 hb with rfl|hb'
    . exact absurd (he▸List.mem_map_of_mem ha') this.1
    . have hL:Once L c:=⟨this.2,(List.nodup_cons.1 (by simpa using h.sets)).2,λe he=>h.le e (List.mem_cons_of_mem _ he)⟩;exact ih hL ha' hb' this.2
theorem Once.rem{L:List (Ent K)}{c:Nat}(h:Once L c)(k:K):Once (rem L k) c:=
 ⟨h.keys.sublist ((List.filter_sublist).map _),h.sets.sublist ((List.filter_sublist).map _),λe he=>h.le e (mem_rem.1 he).1⟩
omit [DecidableEq K] in
theorem Once.put{L:List (Ent K)}{c:Nat}(h:Once L c)(k:K)(a b:Int)(hk:∀e∈L,e.key≠k):Once (ins ⟨k,a,b,c+1⟩ L) (c+1):=by
 refine Once.perm (L:=⟨k,a,b,c+1⟩::L) ⟨?_,?_,?_⟩ (ins_perm _ _).symm
 . rw[List.map_cons,List.nodup_cons];refine⟨λhm=>?_,h.keys⟩;obtain⟨e,he,hek⟩:=List.mem_map.1 hm;exact hk e he hek
 . rw[List.map_cons,List.nodup_cons];refine⟨λhm=>?_,h.sets⟩;obtain⟨e,he,hek⟩:=List.mem_map.1 hm;have:=h.le e he;have:e.set=c+1:=hek;omega
 . intro e he;rcases List.mem_cons.1 he with rfl|he
   . exact Nat.le_refl _
   . exact Nat.le_succ_of_le (h.le e he)
theorem Once.rem_cons{e:Ent K}{L:List (Ent K)}{c:Nat}(h:Once (e::L) c):Ht.rem (e::L) e.key=L:=by
 unfold Ht.rem;rw[List.filter_cons_of_neg (by simp),List.filter_eq_self];intro x hx;have:=h.keys;rw[List.map_cons,List.nodup_cons] at this;have hne:x.key≠e.key:=λhe=>this.1 (he▸List.mem_map_of_mem hx);simp[hne]
theorem Once.find{L:List (Ent K)}{c:Nat}(h:Once L c){e:Ent K}(he:e∈L):Ht.find L e.key=some e:=by
 cases hf:Ht.find L e.key with
 |none=>exact absurd rfl (find_none hf e he)
 |some x=>rw[h.uniq (find_some hf).1 he (find_some hf).2]
end Ht
end Go.Proofs.YtdmmciggopmglaaGreatDoor.LF
namespace Go.Proofs.YtdmmciggopmglaaGreatDoor.LF
open Go.RowKit Ht Go.Maps Go.WideMaps
theorem ret_int{k:IntKind}{a b:Int}(h:a=b):Ending.returned (.int k a)= .returned (.int k b):=by rw[h]
theorem ret_bool{a b:Bool}(h:a=b):Ending.returned (.bool a)= .returned (.bool b):=by rw[h]
theorem str_ne{s t:ByteArray}(h:s≠t):(Lit.string s.data.toList)≠ .string t.data.toList:=by
 intro e;injection e with e
 exact h (ByteArray.ext (Array.toList_inj.1 e))
theorem owns_size{H:Type}{P:Program}{k:TypeId}{R:Value->Option (DataW H × List MemPlace)}{w:World}{b n:Nat}{D:DataW H}(h:w.ownsMap P k R b n D):w.ownsMap P k R b (Maps.size D) D:=by
 obtain⟨es,clock,hb,F,_,rfl⟩:=h;exact⟨es,clock,hb,F,by simp[Maps.size,length_sorted],rfl⟩
theorem owns_same{H:Type}{P:Program}{k:TypeId}{R:Value->Option (DataW H × List MemPlace)}{w w':World}{b n:Nat}{D:DataW H}(h:w.ownsMap P k R b n D)(hs:w'.heap[b]?=w.heap[b]?):w'.ownsMap P k R b n D:=by
 obtain⟨es,clock,hb,r⟩:=h;exact⟨es,clock,hs.trans hb,r⟩
theorem wpList_append_run{P:Program}{w:World}{ops:Array Oper}{rest:List Oper}{o:Oper}{a:Act}{Q:Exit->Act->World->Prop}(hgd:o.guard=none)(s x:Operand)(t:TypeId)
 (ho:o.op= .call {callee:= .builtin .append,args:=#[s,x],argTypes:=#[t,t]}) (v u v':Value) (w':World) (hs:a.eval s=v) (hx:a.eval x=u) (hr:(Builtin.append_ #[t,t] o.type #[v,u]).run P w= .ok v' w')
 (h:wpList P ops Q rest (a.put o.dst v') w'):wpList P ops Q (o::rest) a w:=by
 refine wpList_plain hgd λK hK=>?_;unfold Oper.wp execOp;simp only[ho,resolve,invoke,builtin,Sem.run_bind,Sem.run_pure,Result.andThen_ok,List.map_toArray,List.map_cons,List.map_nil,hs,hx,hr];exact hK _ _ h
structure Turn(S:Nat->Prop)(w w':World):Prop where
 os:w'.os=w.os
 tape:w'.tape=w.tape
 output:w'.output=w.output
 size:w.heap.size<=w'.heap.size
 block:∀k,k < w.heap.size->¬S k->w'.heap[k]?=w.heap[k]?
section
variable{S:Nat->Prop}{w w1 w2:World}
theorem Turn.refl(S:Nat->Prop)(w:World):Turn S w w:=⟨rfl,rfl,rfl,Nat.le_refl _,λ_ _ _=>rfl⟩
theorem Turn.trans{S':Nat->Prop}(h:Turn S w w1)(k:Turn S' w1 w2)(hs:∀k,k < w.heap.size->S' k->S k):Turn S w w2:=
 ⟨k.os.trans h.os,k.tape.trans h.tape,k.output.trans h.output,Nat.le_trans h.size k.size,λi hi h1=>(k.block i (Nat.lt_of_lt_of_le hi h.size) (λe=>h1 (hs i hi e))).trans (h.block i hi h1)⟩
theorem Turn.setCell(h:Turn S w w1){p:Addr}(hp:S p.block)(u:Value):Turn S w (w1.setCell p u):=
 h.trans (S':=S) ⟨rfl,rfl,rfl,by simp[World.setCell],λk _ h1=>Below.heap_setCell _ _ _ _ (λe=>h1 (e▸hp))⟩ (λ_ _ h=>h)
theorem Turn.drew(h:Turn S w w1):Turn S w w1.drew:=⟨h.os,h.tape,h.output,h.size,h.block⟩
theorem Turn.alloc(h:Turn S w w1)(o:Obj):Turn S w (w1.alloc o):=
 h.trans (S':=S) ⟨rfl,rfl,rfl,by simp,λk hk _=>Below.heap_alloc _ _ _ hk⟩ (λ_ _ h=>h)
theorem Turn.grown{r:Option Nat}(h:Turn S w w1)(g:w1.grownBy w2 r)(hr:∀k,r=some k->S k\/w.heap.size<=k):Turn S w w2:=
 ⟨g.os.trans h.os,g.tape.trans h.tape,g.output.trans h.output,Nat.le_trans h.size g.size,λi hi h1=>(g.block i (Nat.lt_of_lt_of_le hi h.size) (λe=>by rcases hr i e.symm with h|h;exact h1 h;omega)).trans (h.block i hi h1)⟩
theorem Turn.of_below(h:Below w.heap.size w w1):Turn S w w1:=⟨h.os,h.tape,h.output,h.size,λk hk _=>h.block k hk⟩
theorem Turn.wide{S':Nat->Prop}(h:Turn S w w1)(hs:∀k,k < w.heap.size->S k->S' k):Turn S' w w1:=⟨h.os,h.tape,h.output,h.size,λk hk h1=>h.block k hk (λe=>h1 (hs k hk e))⟩
end
def Grw(w w':World):Prop:=∃q os,w'=Go.Sort.grow (w.drewN q) os
section
variable{w w1 w2:World}
theorem Grw.refl(w:World):Grw w w:=⟨0,#[],by rw[Go.Sort.grow_empty];rfl⟩
theorem Grw.alloc(h:Grw w w1)(o:Obj):Grw w (w1.alloc o):=by
 obtain⟨q,os,rfl⟩:=h;exact⟨q,os++ #[o],by rw[Go.Sort.alloc_eq_grow,Go.Sort.grow_grow]⟩
theorem Grw.drewN(h:Grw w w1)(n:Nat):Grw w (w1.drewN n):=by
 obtain⟨q,os,rfl⟩:=h;exact⟨q+n,os,by simp only[World.drewN,Go.Sort.grow,Nat.add_assoc]⟩
theorem Grw.drew(h:Grw w w1):Grw w w1.drew:=h.drewN 1
theorem Grw.trans(h:Grw w w1)(k:Grw w1 w2):Grw w w2:=by
 obtain⟨q,os,rfl⟩:=k;obtain⟨q',os',h⟩:=h.drewN q;exact⟨q',os'++os,by rw[h,Go.Sort.grow_grow]⟩
theorem Grw.below(h:Grw w w1):Below w.heap.size w w1:=by
 obtain⟨q,os,rfl⟩:=h;exact⟨rfl,rfl,rfl,by simp[Go.Sort.grow,World.drewN],λk hk=>Go.Sort.heap_grow_old (w.drewN q) os hk⟩
theorem cell_lt{p:Addr}{v:Value}(hc:w.cell? p=some v):p.block < w.heap.size:=by
 by_cases h:p.block < w.heap.size
 . exact h
 . have:w.heap[p.block]?=none:=Array.getElem?_eq_none_iff.2 (by omega)
   simp[World.cell?,this] at hc
theorem Grw.cell{p:Addr}{v:Value}(h:Grw w w1)(hc:w.cell? p=some v):w1.cell? p=some v:=(World.cell?_of_block (h.below.block _ (cell_lt hc))).trans hc
end
def BoolPost(b:Bool)(w:World)(e:Ending)(w':World):Prop:=e= .returned (.bool b)/\w=w'
def IntPost(z:Int)(w:World)(e:Ending)(w':World):Prop:=e= .returned (.int .i64 z)/\w=w'
def BoolGrw(b:Bool)(w:World)(e:Ending)(w':World):Prop:=e= .returned (.bool b)/\Grw w w'
def rless(a b c d:Int):Bool:=if a=c then decide (b < d) else decide (a < c)
theorem less_any(w:World)(a b c d:Int):Calls Tryz.prog 240 #[.agg #[.int .i64 a,.int .i64 b],.agg #[.int .i64 c,.int .i64 d]] w (BoolGrw (rless a b c d) w):=by
 by_cases h:a=c
 . have e0:(a != c)=false:=by simp[h]
   have R:rless a b c d=decide (b < d):=by simp[rless,h]
   have HR:=Lib.hid R;clear R h;go_enter Tryz.func240,Tryz.ntmps240;go_wp2_with fail
   go_ret;exact⟨ret_bool HR.out.symm,((Grw.refl w).alloc _).alloc _⟩
 . have e0:(a != c)=true:=by simp[h]
   have R:rless a b c d=decide (a < c):=by simp[rless,h]
   have HR:=Lib.hid R;clear R h;go_enter Tryz.func240,Tryz.ntmps240;go_wp2_with fail
   go_ret;exact⟨ret_bool HR.out.symm,((Grw.refl w).alloc _).alloc _⟩
theorem neqR(w:World)(a b c d:Int):(binOp .neq 233 (.agg #[.int .i64 a,.int .i64 b]) (.agg #[.int .i64 c,.int .i64 d])).run Tryz.prog w= .ok (.bool (!(decide (a=c)&&decide (b=d)))) w:=by
 have u3:=Tryz.underlying3;have a3:=Tryz.isAgg3;have z3:=Tryz.sizeOf3;have hS:Tryz.prog.underlying 233=some (.struct (Tryz.prog.fieldsOf 233)):=by kernel_rfl
 have hp:Tryz.prog.stoodInHeld 233=false:=by kernel_rfl
 rw[run_neq_struct,show(10000:Nat)=9999+1 from rfl,run_equalIn_agg w 9999 233 _ _ hS hp];simp only[Program.fieldsOf,Tryz.underlying233];go_simp
 by_cases h1:a=c <;> by_cases h2:b=d <;> simp[h1,h2]
theorem guardR(w:World)(op:BinOp)(x y:Operand)(xs ys:Array Value):(eqGuard op 233 x y (.agg xs) (.agg ys)).run Tryz.prog w= .ok () w:=
 run_eqGuard_agg w op 233 x y xs ys (by kernel_rfl)
end Go.Proofs.YtdmmciggopmglaaGreatDoor.LF
namespace Go.Proofs.YtdmmciggopmglaaGreatDoor.LF
namespace HS
open Go.RowKit Ht Go.Maps Go.WideMaps
abbrev Key:=ByteArray
def kok(k:Key):Prop:=k.size<=maxLen
def klit(k:Key):Lit:=Lit.string k.data.toList
theorem klit_ne{a b:Key}(h:a≠b):klit a≠klit b:=str_ne h
theorem klit_is(k:Key):WideAt.IsKeyLit (klit k):=trivial
theorem lawK:Keyed Tryz.prog 9:=string_keyed Tryz.underlying9
theorem keyK{k:Key}(hs:kok k):keyOf Tryz.prog 9 (.string k)=some (klit k):=keyOf_string_mk Tryz.underlying9 hs
theorem zeroP(w:World):(zeroValue 240).run Tryz.prog w= .ok (.pointer none) w:=by kernel_rfl
def rdP:Value->Option (DataW Value × List MemPlace)
 | .pointer a=>some (.held (.pointer a),[])
 |_=>none
theorem rdP_inv{v:Value}{y:DataW Value × List MemPlace}(h:rdP v=some y):y=(.held v,[]):=by
 unfold rdP at h;split at h
 . cases h;rfl
 . cases h
def optr:Option Nat->Value
 |none=> .pointer none
 |some b=> .pointer (some ⟨b,0,none⟩)
def fput(f:Key->Option Nat)(s:Key)(v:Nat):Key->Option Nat:=λt=>if t=s then some v else f t
def fdel(f:Key->Option Nat)(s:Key):Key->Option Nat:=λt=>if t=s then none else f t
def Mp(w:World)(b:Nat)(f:Key->Option Nat)(n:Nat):Prop:=∃D:DataW Value,w.ownsMap Tryz.prog 9 rdP b n D/\Maps.size D=n/\
 ∀s:Key,Maps.has D (klit s)=(f s).isSome/\D.atKey (klit s) (.held (.pointer none))= .held (optr (f s))
section
variable{w:World}{b n:Nat}{f:Key->Option Nat}
theorem Mp.made(w:World):Mp (w.alloc (.map #[] 0)) w.heap.size (λ_=>none) 0:=⟨.map [],World.ownsMap_made w _ _ _,rfl,λ_=>⟨rfl,rfl⟩⟩
theorem Mp.same{w':World}(h:Mp w b f n)(hs:w'.heap[b]?=w.heap[b]?):Mp w' b f n:=by
 obtain⟨D,h1,h2⟩:=h;exact⟨D,owns_same h1 hs,h2⟩
theorem Mp.lt(h:Mp w b f n):b < w.heap.size:=by
 obtain⟨D,h1,_⟩:=h;exact h1.lt
theorem Mp.obj(h:Mp w b f n):∃es c,w.heap[b]?=some (.map es c):=by
 obtain⟨D,⟨es,clock,hb,_⟩,_⟩:=h;exact⟨es,clock,hb⟩
theorem Mp.look(h:Mp w b f n){s:Key}(hs:kok s):
 (Instr.lookup 178 (.map (some b)) (.string s) false).run Tryz.prog w= .ok (optr (f s)) w:=by
 obtain⟨D,h1,_,h3⟩:=h;obtain⟨v,ps,hrun,hv⟩:=h1.lookup lawK Tryz.underlying178 (zeroP w) (zd:= .held (.pointer none)) (zp:=[]) rfl (keyK hs);have e:=rdP_inv hv;rw[(h3 s).2] at e;rw[hrun,<-DataW.held.inj (Prod.mk.inj e).1]
theorem Mp.store(h:Mp w b f n){s:Key}(hs:kok s)(hn:n<=100000000)(hf:f s=none)(v:Nat):
 ∃w',(Instr.mapUpdate 178 (.map (some b)) (.string s) (.pointer (some ⟨v,0,none⟩))).run Tryz.prog w= .ok () w'/\Mp w' b (fput f s v) (n+1)/\w.grownBy w' (some b):=by
 obtain⟨D,h1,h2,h3⟩:=h;obtain⟨w',hrun,hown,hg⟩:=h1.update lawK Tryz.underlying178 (by unfold maxLen;omega) (keyK hs) (val:= .pointer (some ⟨v,0,none⟩)) (d:= .held (.pointer (some ⟨v,0,none⟩))) (ps:=[]) rfl;refine⟨w',hrun,⟨_,hown,?_,λt=>?_⟩,hg⟩
 . rw[size_put (h1.tidy lawK),(h3 s).1,hf,h2];rfl
 . unfold fput
   by_cases e:t=s
   . subst e;rw[if_pos rfl,has_put_same h1.isMap (klit_is _),atKey_put_same h1.isMap (klit_is _)];exact⟨rfl,rfl⟩
   . rw[if_neg e,has_put_other (klit_ne e),atKey_put_other (klit_ne e)];exact h3 t
theorem Mp.drop(h:Mp w b f (n+1)){s:Key}(hs:kok s)(hf:(f s).isSome=true)(ty:TypeId):
 ∃w',(Builtin.delete_ #[178,9] ty #[.map (some b),.string s]).run Tryz.prog w= .ok (.tuple #[]) w'/\Mp w' b (fdel f s) n/\w.grownBy w' (some b):=by
 obtain⟨D,h1,h2,h3⟩:=h;obtain⟨w',hrun,hown,hg⟩:=h1.drop lawK Tryz.underlying178 (keyK hs) ty
 have hsz:Maps.size (D.del (klit s))=n:=by
  have:=size_del (k:=klit s) (h1.tidy lawK);rw[(h3 s).1,hf,h2] at this;simpa using this
 refine⟨w',hrun,⟨_,hsz▸owns_size hown,hsz,λt=>?_⟩,hg.grown⟩;unfold fdel
 by_cases e:t=s
 . subst e;rw[if_pos rfl,has_del_same,atKey_del_same];exact⟨rfl,rfl⟩
 . rw[if_neg e,has_del_other (klit_ne e),atKey_del_other (klit_ne e)];exact h3 t
end
def itemOf(e:Ent Key)(i:Nat):Obj:= .cells #[.string e.key,.int .i64 e.one,.int .i64 e.two,.int .i64 (e.set:Int),.int .i64 (i:Int)] 243 (0,0)
def heapOf(M:Nat)(v:Value)(c:Nat):Obj:= .cells #[.map (some M),v,.int .i64 (c:Int)] 181 (0,0)
def Tree(w:World)(v:Value)(T:List Nat):Prop:=(v= .slice none 0 0/\T= [])\/∃(tb cap:Nat) (arr:Array Value),v= .slice (some ⟨tb,0,none⟩) T.length cap/\w.heap[tb]?=some (.cells arr 240 (0,0))/\arr.size=cap/\T.length<=cap/\cap<=maxLen/\
 ∀i,i < T.length->arr[i]?=some (.pointer (some ⟨tg T i,0,none⟩))
structure Holds(w:World)(h M:Nat)(v:Value)(T:List Nat)(E:Nat->Ent Key)(c:Nat):Prop where
 own:w.heap[h]?=some (heapOf M v c)
 tree:Tree w v T
 item:∀i,i < T.length->w.heap[tg T i]?=some (itemOf (E (tg T i)) i)
 top:T.length<=100000
 ctop:c<=10000000
def Blk(h M:Nat)(v:Value)(T:List Nat)(k:Nat):Prop:=k=h\/k=M\/v.ownBlock=some k\/k∈T
section
variable{w:World}{h M c:Nat}{v:Value}{T:List Nat}{E:Nat->Ent Key}
theorem Holds.hlt(H:Holds w h M v T E c):h < w.heap.size:=(Array.getElem?_eq_some_iff.1 H.own).1
theorem Holds.ilt(H:Holds w h M v T E c){i:Nat}(hi:i < T.length):tg T i < w.heap.size:=(Array.getElem?_eq_some_iff.1 (H.item i hi)).1
theorem Holds.c0(H:Holds w h M v T E c):w.cell? ⟨h,0,none⟩=some (.map (some M)):=cell_of_row w _ 0 _ _ _ H.own
theorem Holds.c1(H:Holds w h M v T E c):w.cell? ⟨h,1,none⟩=some v:=cell_of_row w _ 1 _ _ _ H.own
theorem Holds.c2(H:Holds w h M v T E c):w.cell? ⟨h,2,none⟩=some (.int .i64 (c:Int)):=cell_of_row w _ 2 _ _ _ H.own
theorem Holds.hfr(H:Holds w h M v T E c)(j:Nat):w.frozen? ⟨h,j,none⟩=false:=frozen_of_row w _ j _ _ H.own
theorem Holds.i0(H:Holds w h M v T E c){i:Nat}(hi:i < T.length):w.cell? ⟨tg T i,0,none⟩=some (.string (E (tg T i)).key):=cell_of_row w _ 0 _ _ _ (H.item i hi)
theorem Holds.i1(H:Holds w h M v T E c){i:Nat}(hi:i < T.length):w.cell? ⟨tg T i,1,none⟩=some (.int .i64 (E (tg T i)).one):=cell_of_row w _ 1 _ _ _ (H.item i hi)
theorem Holds.i2(H:Holds w h M v T E c){i:Nat}(hi:i < T.length):w.cell? ⟨tg T i,2,none⟩=some (.int .i64 (E (tg T i)).two):=cell_of_row w _ 2 _ _ _ (H.item i hi)
theorem Holds.i3(H:Holds w h M v T E c){i:Nat}(hi:i < T.length):w.cell? ⟨tg T i,3,none⟩=some (.int .i64 ((E (tg T i)).set:Int)):=cell_of_row w _ 3 _ _ _ (H.item i hi)
theorem Holds.i4(H:Holds w h M v T E c){i:Nat}(hi:i < T.length):w.cell? ⟨tg T i,4,none⟩=some (.int .i64 (i:Int)):=cell_of_row w _ 4 _ _ _ (H.item i hi)
theorem Holds.ifr(H:Holds w h M v T E c){i:Nat}(hi:i < T.length)(j:Nat):w.frozen? ⟨tg T i,j,none⟩=false:=frozen_of_row w _ j _ _ (H.item i hi)
theorem Holds.at(H:Holds w h M v T E c)(hT:0 < T.length):∃(tb cap:Nat),v= .slice (some ⟨tb,0,none⟩) T.length cap/\T.length<=cap/\cap<=maxLen/\(∃arr,w.heap[tb]?=some (.cells arr 240 (0,0))/\arr.size=cap/\∀i,i < T.length->arr[i]?=some (.pointer (some ⟨tg T i,0,none⟩))):=by
 rcases H.tree with⟨_,rfl⟩|⟨tb,cap,arr,h1,h2,h3,h4,h5,h6⟩
 . exact absurd hT (by simp)
 . exact⟨tb,cap,h1,h4,h5,arr,h2,h3,h6⟩
theorem Holds.tlen(H:Holds w h M v T E c):∃a cap,v= .slice a T.length cap:=by
 rcases H.tree with⟨rfl,rfl⟩|⟨tb,cap,arr,h1,_⟩
 . exact⟨none,0,rfl⟩
 . exact⟨_,_,h1⟩
theorem Tree.tl{tb n cap:Nat}(hT:Tree w (.slice (some ⟨tb,0,none⟩) n cap) T):n=T.length/\∃arr,w.heap[tb]?=some (.cells arr 240 (0,0))/\arr.size=cap/\T.length<=cap/\cap<=maxLen/\∀i,i < T.length->arr[i]?=some (.pointer (some ⟨tg T i,0,none⟩)):=by
 rcases hT with⟨h1,_⟩|⟨tb',cap',arr,h1,h2,h3,h4,h5,h6⟩
 . exact absurd h1 (by simp)
 . injection h1 with a1 a2 a3
   injection a1 with a1
   injection a1 with a1
   subst a1;subst a2;subst a3;exact⟨rfl,arr,h2,h3,h4,h5,h6⟩
theorem cells_ne{a b:Nat}{x y:Array Value}{s t:TypeId}{u u':Nat × Nat}(ha:w.heap[a]?=some (.cells x s u))(hb:w.heap[b]?=some (.cells y t u'))(hst:s≠t):a≠b:=by
 intro e;subst e;rw[ha] at hb;injection hb with hb;injection hb with _ hb;exact hst hb
theorem Holds.hi(H:Holds w h M v T E c){i:Nat}(hi:i < T.length):h≠tg T i:=cells_ne H.own (H.item i hi) (by decide)
theorem Holds.mi{f:Key->Option Nat}{n:Nat}(H:Holds w h M v T E c)(hM:Mp w M f n){i:Nat}(hi:i < T.length):M≠tg T i:=by
 obtain⟨es,c',hb⟩:=hM.obj;intro e;rw[e,H.item i hi] at hb;cases hb
theorem Holds.hm{f:Key->Option Nat}{n:Nat}(H:Holds w h M v T E c)(hM:Mp w M f n):h≠M:=by
 obtain⟨es,c',hb⟩:=hM.obj;intro e;rw[← e,H.own] at hb;cases hb
theorem Holds.inj(H:Holds w h M v T E c){i j:Nat}(hi:i < T.length)(hj:j < T.length)(he:tg T i=tg T j):i=j:=by
 have h1:=H.i4 hi;have h2:=H.i4 hj;rw[he,h2] at h1;injection h1 with h1
 injection h1 with _ h1
 omega
theorem Holds.nodup(H:Holds w h M v T E c):T.Nodup:=by
 refine List.pairwise_iff_getElem.2 λi j hi hj hij he=>?_;have e1:=tg_get hi;have e2:=tg_get hj;rw[List.getElem?_eq_getElem hi] at e1;rw[List.getElem?_eq_getElem hj] at e2;have:=H.inj hi hj (by rw[← Option.some.inj e1,<-Option.some.inj e2];exact he);omega
theorem Holds.same{w':World}(H:Holds w h M v T E c)(hs:∀k,Blk h M v T k->w'.heap[k]?=w.heap[k]?):Holds w' h M v T E c:=by
 refine⟨(hs h (Or.inl rfl)).trans H.own,?_,λi hi=>(hs _ (Or.inr (Or.inr (Or.inr (tg_mem hi))))).trans (H.item i hi),H.top,H.ctop⟩;rcases H.tree with⟨h1,h2⟩|⟨tb,cap,arr,rfl,h2,h3⟩
 . exact Or.inl ⟨h1,h2⟩
 . exact Or.inr ⟨tb,cap,arr,rfl,(hs tb (Or.inr (Or.inr (Or.inl rfl)))).trans h2,h3⟩
theorem Holds.blt{f:Key->Option Nat}{n:Nat}(H:Holds w h M v T E c)(hM:Mp w M f n){k:Nat}(hk:Blk h M v T k):k < w.heap.size:=by
 rcases hk with rfl|rfl|hk|hk
 . exact H.hlt
 . exact hM.lt
 . rcases H.tree with⟨rfl,h2⟩|⟨tb,cap,arr,rfl,h2,h3⟩
   . cases hk
   . cases hk;exact(Array.getElem?_eq_some_iff.1 h2).1
 . obtain⟨i,hi,rfl⟩:=mem_tg hk;exact H.ilt hi
end
theorem recover_idle(w:World):CallsD Tryz.prog 242 #[] .returning w λe u' w'=>e= .returned (.tuple #[])/\u'= .returning/\w'=w:=by
 refine callsD_of_wpS Tryz.func242 rfl λc₀ cs hu=>?_;apply wpS_region;simp[wpOpsS,go_sem,recoverD,hu,Tryz.ntmps242,bodyPostS,results,Tryz.results242];cases c₀
 simp_all
theorem findable_any(w:World)(k:Key):Calls Tryz.prog 237 #[.string k] w (BoolPost true w):=by
 have e0:(k==k)=true:=by rw[beq_toListBytes];simp
 go_enter_defers Tryz.func237,Tryz.ntmps237;go_wp2
 refine leaves_cons (f:=242) (args:=#[]) (by simp) rfl ?_;refine(recover_idle _).mono ?_;rintro e u' w'' ⟨rfl,rfl,rfl⟩;simp[Leaves,settle,results,Tryz.results237,go_sem,BoolPost]
def PtrPost(o:Option Nat)(w:World)(e:Ending)(w':World):Prop:=e= .returned (optr o)/\w=w'
theorem find_any(w:World)(h M n:Nat)(f:Key->Option Nat)(k:Key)(c0:w.cell? ⟨h,0,none⟩=some (.map (some M)))(hM:Mp w M f n)(hk:kok k):
 Calls Tryz.prog 229 #[.pointer (some ⟨h,0,none⟩),.string k] w (PtrPost (f k) w):=by
 have hl:=hM.look hk;have F:=Lib.hid (findable_any w k);clear hM hk;obtain⟨r,hr⟩:∃r,optr (f k)=r:=⟨_,rfl⟩;rw[hr] at hl;have HR:=Lib.hid hr;clear hr;go_enter Tryz.func229,Tryz.ntmps229;go_wp2_with fail
 refine F.out.mono ?_;rintro e w' ⟨rfl,rfl⟩;go_wp2_with fail
 go_ret;exact⟨congrArg Ending.returned HR.out.symm,rfl⟩
end HS
end Go.Proofs.YtdmmciggopmglaaGreatDoor.LF
namespace Go.Proofs.YtdmmciggopmglaaGreatDoor.LF
namespace HS
open Go.RowKit Ht Go.Maps Go.WideMaps
def Seen(w:World)(x:Nat)(a:Ent Key):Prop:=w.cell? ⟨x,1,none⟩=some (.int .i64 a.one)/\w.cell? ⟨x,2,none⟩=some (.int .i64 a.two)/\w.cell? ⟨x,3,none⟩=some (.int .i64 (a.set:Int))
theorem Holds.seen{w:World}{h M c:Nat}{v:Value}{T:List Nat}{E:Nat->Ent Key}(H:Holds w h M v T E c){i:Nat}(hi:i < T.length):Seen w (tg T i) (E (tg T i)):=⟨H.i1 hi,H.i2 hi,H.i3 hi⟩
set_option maxHeartbeats 1000000 in
set_option maxRecDepth 100000 in
theorem ahead_any(w:World)(x y:Nat)(a b:Ent Key)(hx:Seen w x a)(hy:Seen w y b):
 Calls Tryz.prog 233 #[.pointer (some ⟨x,0,none⟩),.pointer (some ⟨y,0,none⟩)] w (BoolGrw (decide (lt a b)) w):=by
 obtain⟨x1,x2,x3⟩:=hx;obtain⟨y1,y2,y3⟩:=hy;obtain⟨ka,a1,a2,a3⟩:=a;obtain⟨kb,b1,b2,b3⟩:=b;have hq:=λw=>neqR w a1 a2 b1 b2;have hg:=guardR;have mixed:Tryz.prog.follows .mixedOrders=true:=by kernel_rfl
 by_cases he:a1=b1/\a2=b2
 . have HL:=Lib.hid (show decide (lt (⟨ka,a1,a2,a3⟩:Ent Key) ⟨kb,b1,b2,b3⟩)=decide (a3 < b3) by rw[decide_eq_decide];unfold lt;simp only;omega);have e0:(!(decide (a1=b1)&&decide (a2=b2)))=false:=by simp[he]
   rw[e0] at hq;clear he e0;simp only at x1 x2 x3 y1 y2 y3;go_enter Tryz.func233,Tryz.ntmps233;go_wp2_with fail
   go_quiet(fail)
   go_wp2_with fail
   go_quiet(fail)
   go_wp2_with fail
   go_ret;exact⟨ret_bool HL.out.symm,((Grw.refl w).drewN _).drewN _⟩
 . have HL:=Lib.hid (show decide (lt (⟨ka,a1,a2,a3⟩:Ent Key) ⟨kb,b1,b2,b3⟩)=rless a1 a2 b1 b2 by unfold rless;split <;> (rw[decide_eq_decide];unfold lt;simp only;omega))
   have e0:(!(decide (a1=b1)&&decide (a2=b2)))=true:=by
    by_cases h1:a1=b1
    . have h2:¬a2=b2:=λh=>he ⟨h1,h⟩;simp[h2]
    . simp[h1]
   rw[e0] at hq;clear he e0;simp only at x1 x2 x3 y1 y2 y3;go_enter Tryz.func233,Tryz.ntmps233;go_wp2_with fail
   go_quiet(fail)
   go_wp2_with fail
   have y1':(w.drewN nq).cell? ⟨y,1,none⟩=some (.int .i64 b1):=y1;have y2':(w.drewN nq).cell? ⟨y,2,none⟩=some (.int .i64 b2):=y2;have x1':(w.drewN nq).cell? ⟨x,1,none⟩=some (.int .i64 a1):=x1;have x2':(w.drewN nq).cell? ⟨x,2,none⟩=some (.int .i64 a2):=x2;have G1:=Lib.hid ((Grw.refl w).drewN nq);clear x1 x2 y1 y2 x3 y3;generalize w.drewN nq=w1 at*
   go_region_held3(λw'=>w'.cell? ⟨x,1,none⟩=some (.int .i64 a1)/\w'.cell? ⟨x,2,none⟩=some (.int .i64 a2)/\w'.cell? ⟨y,1,none⟩=some (.int .i64 b1)/\w'.cell? ⟨y,2,none⟩=some (.int .i64 b2)) (first|(exact⟨‹_›,‹_›,‹_›,‹_›⟩)|go_keep)
    (first
      |(go_at_call 240;refine(less_any _ a1 a2 b1 b2).mono ?_;rintro e w2 ⟨rfl,hG⟩;have z1:=hG.cell (show w1.drew.cell? ⟨x,1,none⟩=some (.int .i64 a1) from x1');have z2:=hG.cell (show w1.drew.cell? ⟨x,2,none⟩=some (.int .i64 a2) from x2');have z3:=hG.cell (show w1.drew.cell? ⟨y,1,none⟩=some (.int .i64 b1) from y1');have z4:=hG.cell (show w1.drew.cell? ⟨y,2,none⟩=some (.int .i64 b2) from y2');have G2:=Lib.hid hG;clear hG))
   go_wp2_with fail
   go_ret;exact⟨ret_bool HL.out.symm,Grw.trans G1.out (Grw.trans (Grw.drew (Grw.refl _)) G2.out)⟩
end HS
end Go.Proofs.YtdmmciggopmglaaGreatDoor.LF
namespace Go.Proofs.YtdmmciggopmglaaGreatDoor.LF
namespace HS
open Go.RowKit Ht Go.Maps Go.WideMaps
theorem at_stored{w:World}{b m:Nat}{e:Ent Key}(hb:w.heap[b]?=some (itemOf e m))(i:Nat):(w.setCell ⟨b,4,none⟩ (.int .i64 (i:Int))).heap[b]?=some (itemOf e i):=by
 rw[heap_setCell_same _ _ _ _ _ _ hb];rfl
structure Half(w:World)(h M:Nat)(v:Value)(T' T:List Nat)(E:Nat->Ent Key)(c:Nat):Prop where
 own:w.heap[h]?=some (heapOf M v c)
 tree:Tree w v T'
 item:∀i,i < T.length->w.heap[tg T i]?=some (itemOf (E (tg T i)) i)
 top:T.length<=100000
 ctop:c<=10000000
def Low(v:Value)(T:List Nat)(k:Nat):Prop:=v.ownBlock=some k\/k∈T
section
variable{w:World}{h M c:Nat}{v:Value}{T:List Nat}{E:Nat->Ent Key}
theorem Holds.swap1{tb cap i j:Nat}(H:Holds w h M (.slice (some ⟨tb,0,none⟩) T.length cap) T E c)(hi:i < T.length)(hj:j < T.length):
 Half ((w.setCell ⟨tb,i,none⟩ (.pointer (some ⟨tg T j,0,none⟩))).setCell ⟨tb,j,none⟩ (.pointer (some ⟨tg T i,0,none⟩))).drew h M (.slice (some ⟨tb,0,none⟩) T.length cap) (tsw T i j) T E c:=by
 obtain⟨_,arr,h2,h3,h4,h5,h6⟩:=H.tree.tl;have ht:h≠tb:=cells_ne H.own h2 (by decide);refine⟨?_,?_,λk hk=>?_,H.top,H.ctop⟩
 . show((w.setCell _ _).setCell _ _).heap[h]?=_
   rw[heap_setCell_other _ _ _ _ ht,heap_setCell_other _ _ _ _ ht];exact H.own
 . refine Or.inr ⟨tb,cap,(arr.setIfInBounds i (.pointer (some ⟨tg T j,0,none⟩))).setIfInBounds j (.pointer (some ⟨tg T i,0,none⟩)),by rw[tsw_len],?_,by simpa using h3,by rw[tsw_len];exact h4,h5,λk hk=>?_⟩
   . show((w.setCell _ _).setCell _ _).heap[tb]?=_
     rw[heap_setCell_same _ _ _ _ _ _ (heap_setCell_same _ _ _ _ _ _ h2)]
   . rw[tsw_len] at hk;rw[tg_tsw hi hj]
     by_cases e1:k=j
     . subst e1;rw[if_pos rfl,Array.getElem?_setIfInBounds_self_of_lt (by simp;omega)]
     . rw[if_neg e1,Array.getElem?_setIfInBounds_ne (by omega)]
       by_cases e2:k=i
       . subst e2;rw[if_pos rfl,Array.getElem?_setIfInBounds_self_of_lt (by omega)]
       . rw[if_neg e2,Array.getElem?_setIfInBounds_ne (by omega)];exact h6 k hk
 . show((w.setCell _ _).setCell _ _).heap[tg T k]?=_
   have hne:tg T k≠tb:=cells_ne (H.item k hk) h2 (by decide);rw[heap_setCell_other _ _ _ _ hne,heap_setCell_other _ _ _ _ hne];exact H.item k hk
theorem Half.inj{T':List Nat}(H:Half w h M v T' T E c){i j:Nat}(hi:i < T.length)(hj:j < T.length)(he:tg T i=tg T j):i=j:=by
 have h1:w.cell? ⟨tg T i,4,none⟩=some (.int .i64 (i:Int)):=cell_of_row w _ 4 _ _ _ (H.item i hi);have h2:w.cell? ⟨tg T j,4,none⟩=some (.int .i64 (j:Int)):=cell_of_row w _ 4 _ _ _ (H.item j hj);rw[he,h2] at h1;injection h1 with h1
 injection h1 with _ h1
 omega
theorem Half.swap2{i j:Nat}(H:Half w h M v (tsw T i j) T E c)(hi:i < T.length)(hj:j < T.length):
 Holds ((w.setCell ⟨tg T j,4,none⟩ (.int .i64 (i:Int))).setCell ⟨tg T i,4,none⟩ (.int .i64 (j:Int))).drew h M v (tsw T i j) E c:=by
 have hti:h≠tg T i:=cells_ne H.own (H.item i hi) (by decide);have htj:h≠tg T j:=cells_ne H.own (H.item j hj) (by decide);refine⟨?_,?_,λk hk=>?_,by rw[tsw_len];exact H.top,H.ctop⟩
 . show((w.setCell _ _).setCell _ _).heap[h]?=_
   rw[heap_setCell_other _ _ _ _ hti,heap_setCell_other _ _ _ _ htj];exact H.own
 . rcases H.tree with hz|⟨tb,cap,arr,h1,h2,h3⟩
   . exact Or.inl hz
   . refine Or.inr ⟨tb,cap,arr,h1,?_,h3⟩;show((w.setCell _ _).setCell _ _).heap[tb]?=_
     rw[heap_setCell_other _ _ _ _ (cells_ne h2 (H.item i hi) (by decide)),heap_setCell_other _ _ _ _ (cells_ne h2 (H.item j hj) (by decide))];exact h2
 . rw[tsw_len] at hk;rw[tg_tsw hi hj];show((w.setCell _ _).setCell _ _).heap[_]?=_
   by_cases e1:k=j
   . rw[if_pos e1,e1]
     by_cases e2:i=j
     . subst e2;exact at_stored (at_stored (H.item i hi) i) i
     . have hne:tg T i≠tg T j:=λe=>e2 (H.inj hi hj e);exact at_stored ((heap_setCell_other _ _ _ _ hne).trans (H.item i hi)) j
   . rw[if_neg e1]
     by_cases e2:k=i
     . rw[if_pos e2,e2];have hne:tg T j≠tg T i:=λe=>e1 (e2.trans (H.inj hj hi e).symm);rw[heap_setCell_other _ _ _ _ hne];exact at_stored (H.item j hj) i
     . rw[if_neg e2];have n1:tg T k≠tg T i:=λe=>e2 (H.inj hk hi e);have n2:tg T k≠tg T j:=λe=>e1 (H.inj hk hj e);rw[heap_setCell_other _ _ _ _ n1,heap_setCell_other _ _ _ _ n2];exact H.item k hk
end
def SwapPost(w:World)(h M:Nat)(v:Value)(T:List Nat)(E:Nat->Ent Key)(c i j:Nat)(e:Ending)(w':World):Prop:=e= .returned (.tuple #[])/\Holds w' h M v (tsw T i j) E c/\Turn (Low v T) w w'
set_option maxHeartbeats 4000000 in
theorem swap_any(w:World)(h M:Nat)(v:Value)(T:List Nat)(E:Nat->Ent Key)(c i j:Nat)(H:Holds w h M v T E c)(hi:i < T.length)(hj:j < T.length):
 Calls Tryz.prog 236 #[.pointer (some ⟨h,0,none⟩),.int .i64 (i:Int),.int .i64 (j:Int)] w (SwapPost w h M v T E c i j):=by
 obtain⟨tb,cap,rfl,hc1,hc2,arr,h2,h3,h6⟩:=H.at (by omega);have c1:=H.c1;have ti:w.cell? ⟨tb,i,none⟩=some (.pointer (some ⟨tg T i,0,none⟩)):=(cell_of_row w _ _ _ _ _ h2).trans (h6 i hi);have tj:w.cell? ⟨tb,j,none⟩=some (.pointer (some ⟨tg T j,0,none⟩)):=(cell_of_row w _ _ _ _ _ h2).trans (h6 j hj);have fi:w.frozen? ⟨tb,i,none⟩=false:=frozen_of_row w _ _ _ _ h2;have fj:w.frozen? ⟨tb,j,none⟩=false:=frozen_of_row w _ _ _ _ h2;have ht:=H.top;have hne:h≠tb:=cells_ne H.own h2 (by decide);have H1:=Lib.hid (H.swap1 hi hj);have T1:=Lib.hid ((((Turn.refl (Low (.slice (some ⟨tb,0,none⟩) T.length cap) T) w).setCell (p:=⟨tb,i,none⟩) (Or.inl rfl) (.pointer (some ⟨tg T j,0,none⟩))).setCell (p:=⟨tb,j,none⟩) (Or.inl rfl) (.pointer (some ⟨tg T i,0,none⟩))).drew);unfold maxLen at hc2;clear h2 h3 h6 H;obtain⟨bi,hbi⟩:∃b,tg T i=b:=⟨_,rfl⟩;obtain⟨bj,hbj⟩:∃b,tg T j=b:=⟨_,rfl⟩;have HBI:=Lib.hid hbi;have HBJ:=Lib.hid hbj;rw[hbi] at ti H1 T1;rw[hbj] at tj H1 T1;clear hbi hbj
 have second:∀w1:World,Half w1 h M (.slice (some ⟨tb,0,none⟩) T.length cap) (tsw T i j) T E c->∃d1:w1.cell? ⟨h,1,none⟩=some (.slice (some ⟨tb,0,none⟩) T.length cap),w1.cell? ⟨tb,i,none⟩=some (.pointer (some ⟨bj,0,none⟩))/\w1.cell? ⟨tb,j,none⟩=some (.pointer (some ⟨bi,0,none⟩))/\
  w1.cell? ⟨bi,4,none⟩=some (.int .i64 (i:Int))/\w1.cell? ⟨bj,4,none⟩=some (.int .i64 (j:Int))/\w1.frozen? ⟨bi,4,none⟩=false/\w1.frozen? ⟨bj,4,none⟩=false/\(i≠j->bi≠bj):=by
  intro w1 H1;obtain⟨hl,arr,h2,h3,h4,h5,h6⟩:=H1.tree.tl;rw[tsw_len] at h6;have e1:=h6 i hi;have e2:=h6 j hj;rw[tg_tsw hi hj] at e1 e2;rw[if_pos rfl] at e2
  have e3:(if i=j then tg T i else if i=i then tg T j else tg T i)=tg T j:=by
   by_cases e:i=j
   . rw[if_pos e,e]
   . rw[if_neg e,if_pos rfl]
  rw[e3,HBJ.out] at e1;rw[HBI.out] at e2;have g1:=H1.item i hi;have g2:=H1.item j hj;have g3:=λe=>H1.inj hi hj e;rw[HBI.out] at g1 g3;rw[HBJ.out] at g2 g3;exact⟨cell_of_row w1 _ 1 _ _ _ H1.own,(cell_of_row w1 _ _ _ _ _ h2).trans e1,(cell_of_row w1 _ _ _ _ _ h2).trans e2,cell_of_row w1 _ 4 _ _ _ g1,cell_of_row w1 _ 4 _ _ _ g2,frozen_of_row w1 _ 4 _ _ g1,frozen_of_row w1 _ 4 _ _ g2,λhn e=>hn (g3 e)⟩
 have SEC:=Lib.hid second;clear second
 by_cases hij:i=j
 . subst hij;obtain rfl:bi=bj:=HBI.out.symm.trans HBJ.out;clear tj fj;go_enter Tryz.func236,Tryz.ntmps236;go_wp2_with fail
   go_region;generalize((w.setCell ⟨tb,i,none⟩ (.pointer (some ⟨bi,0,none⟩))).setCell ⟨tb,i,none⟩ (.pointer (some ⟨bi,0,none⟩))).drew=w1 at H1 T1|-;obtain⟨d1,d2,_,d3,_,d4,_,_⟩:=SEC.out w1 H1.out;clear c1 ti fi;have R:=Lib.hid (by have:=H1.out.swap2 hi hj;rw[HBI.out] at this;exact this);have RT:=Lib.hid (((T1.out.setCell (p:=⟨bi,4,none⟩) (Or.inr (HBI.out▸tg_mem hi)) (.int .i64 (i:Int))).setCell (p:=⟨bi,4,none⟩) (Or.inr (HBI.out▸tg_mem hi)) (.int .i64 (i:Int))).drew);go_wp2_with fail
   go_region;go_end0;exact⟨rfl,R.out,RT.out⟩
 . have hne1:i≠j:=hij;have hne2:j≠i:=Ne.symm hij;clear hij;go_enter Tryz.func236,Tryz.ntmps236;go_wp2_with fail
   go_region;generalize((w.setCell ⟨tb,i,none⟩ (.pointer (some ⟨bj,0,none⟩))).setCell ⟨tb,j,none⟩ (.pointer (some ⟨bi,0,none⟩))).drew=w1 at H1 T1|-;obtain⟨d1,d2,d2',d3,d3',d4,d4',d5⟩:=SEC.out w1 H1.out;have nb1:=d5 hne1;have nb2:=Ne.symm nb1;clear c1 ti fi tj fj d5;have R:=Lib.hid (by have:=H1.out.swap2 hi hj;rw[HBI.out,HBJ.out] at this;exact this);have RT:=Lib.hid (((T1.out.setCell (p:=⟨bj,4,none⟩) (Or.inr (HBJ.out▸tg_mem hj)) (.int .i64 (i:Int))).setCell (p:=⟨bi,4,none⟩) (Or.inr (HBI.out▸tg_mem hi)) (.int .i64 (j:Int))).drew);go_wp2_with fail
   go_region;go_end0;exact⟨rfl,R.out,RT.out⟩
end HS
end Go.Proofs.YtdmmciggopmglaaGreatDoor.LF
namespace Go.Proofs.YtdmmciggopmglaaGreatDoor.LF
namespace HS
open Go.RowKit Ht Go.Maps Go.WideMaps
def FcPost(w:World)(T:List Nat)(E:Nat->Ent Key)(p:Nat)(e:Ending)(w':World):Prop:=Grw w w'/\((T.length<=2*p+1/\e= .returned (.pointer none))\/
 ∃ch,ch < T.length/\0 < ch/\(ch - 1) / 2=p/\e= .returned (.pointer (some ⟨tg T ch,0,none⟩))/\∀d,0 < d->d < T.length->(d - 1) / 2=p->d≠ch->lt (E (tg T ch)) (E (tg T d)))
def Dis(T:List Nat)(E:Nat->Ent Key):Prop:=(T.map λb=>(E b).set).Nodup
theorem Dis.ne{T:List Nat}{E:Nat->Ent Key}(h:Dis T E)(i j:Nat)(hi:i < T.length)(hj:j < T.length)(hij:i≠j):(E (tg T i)).set≠(E (tg T j)).set:=by
 have key:∀a b,a < b->b < T.length->(E (tg T a)).set≠(E (tg T b)).set:=by
  intro a b hab hb;have:=List.pairwise_iff_getElem.1 h a b (by simp;omega) (by simpa using hb) hab;have ea:=tg_get (T:=T) (i:=a) (Nat.lt_trans hab hb);have eb:=tg_get hb;rw[List.getElem?_eq_getElem (Nat.lt_trans hab hb)] at ea;rw[List.getElem?_eq_getElem hb] at eb;rw[List.getElem_map,List.getElem_map,Option.some.inj ea,Option.some.inj eb] at this;exact this
 rcases Nat.lt_or_gt_of_ne hij with h1|h1
 . exact key i j h1 hj
 . exact(key j i h1 hi).symm
theorem Seen.grw{w w':World}{x:Nat}{a:Ent Key}(h:Seen w x a)(g:Grw w w'):Seen w' x a:=⟨g.cell h.1,g.cell h.2.1,g.cell h.2.2⟩
set_option maxHeartbeats 4000000 in
set_option maxRecDepth 100000 in
theorem firstChild_any(w:World)(h M:Nat)(v:Value)(T:List Nat)(E:Nat->Ent Key)(c p:Nat)(H:Holds w h M v T E c)(hd:Dis T E)(hp:p < T.length):
 Calls Tryz.prog 241 #[.pointer (some ⟨h,0,none⟩),.int .i64 (p:Int)] w (FcPost w T E p):=by
 obtain⟨tb,cap,rfl,hc1,hc2,arr,h2,h3,h6⟩:=H.at (by omega);have c1:=H.c1;have ht:=H.top;obtain⟨n,hn⟩:∃n,T.length=n:=⟨_,rfl⟩;obtain⟨l,hl⟩:∃l,l=2*p+1:=⟨_,rfl⟩;obtain⟨r,hr⟩:∃r,r=2*p+2:=⟨_,rfl⟩;have el:2*(p:Int)+1=(l:Int):=by omega
 have er:2*(p:Int)+2=(r:Int):=by omega
 have tcell:∀i,i < n->w.cell? ⟨tb,i,none⟩=some (.pointer (some ⟨tg T i,0,none⟩)):=λi hi=>(cell_of_row w _ _ _ _ _ h2).trans (h6 i (by omega));have seen:∀i,i < n->Seen w (tg T i) (E (tg T i)):=λi hi=>H.seen (by omega);have HN:=Lib.hid hn;have HD:=Lib.hid hd;have HL:=Lib.hid hl;have HR:=Lib.hid hr;have SE:=Lib.hid seen;have TC:=Lib.hid tcell;rw[hn] at c1 hc1 ht hp;unfold maxLen at hc2;clear h2 h3 h6 H seen tcell hd hn
 by_cases hA:n<=l
 . have q1:(n:Int)<=(l:Int):=by omega
   have hlb:l<=300000:=by omega
   clear hl hr;go_enter Tryz.func241,Tryz.ntmps241;go_wp2_with fail
   go_ret;exact⟨Grw.refl w,Or.inl ⟨by have:=HN.out;have:=HL.out;omega,rfl⟩⟩
 have tl:=TC.out l (by omega);have hlb:l<=300000:=by omega
 have hrb:r<=300000:=by omega
 have q1:¬(n:Int)<=(l:Int):=by omega
 have q3:l < n:=by omega
 by_cases hB:n<=r
 . have q2:decide (r < n)=false:=by simp;omega
   clear hl hA hr;go_enter Tryz.func241,Tryz.ntmps241;go_wp2_with fail
   go_quiet(fail)
   go_wp2_with fail
   go_ret;refine⟨(Grw.refl w).drewN _,Or.inr ⟨l,by have:=HN.out;omega,by have:=HL.out;omega,by have:=HL.out;omega,rfl,λd h1 h2 h3 h4=>?_⟩⟩;have:=HN.out;have:=HL.out;have:=HR.out;omega
 have tr:=TC.out r (by omega);have q2:(r:Int) < (n:Int):=by omega
 have q4:r < n:=by omega
 have AH:=Lib.hid (λ(w':World) (g:Grw w w')=>ahead_any w' (tg T r) (tg T l) (E (tg T r)) (E (tg T l)) ((SE.out r q4).grw g) ((SE.out l q3).grw g))
 by_cases hC:lt (E (tg T r)) (E (tg T l))
 . have FIN:=Lib.hid (show ∀d,0 < d->d < T.length->(d - 1) / 2=p->d≠r->lt (E (tg T r)) (E (tg T d)) from λd h1 h2 h3 h4=>by
    obtain rfl:d=l:=by omega
    exact hC)
   rw[decide_eq_true hC] at AH;clear hl hA hr hB hC;go_enter Tryz.func241,Tryz.ntmps241;go_wp2_with fail
   go_region_held3(λw'=>w'.cell? ⟨h,1,none⟩=some (.slice (some ⟨tb,0,none⟩) n cap)/\w'.cell? ⟨tb,l,none⟩=some (.pointer (some ⟨tg T l,0,none⟩))/\w'.cell? ⟨tb,r,none⟩=some (.pointer (some ⟨tg T r,0,none⟩))) (first|(exact⟨‹_›,‹_›,‹_›⟩)|go_keep)
    (first
      |(go_at_call 233;refine(AH.out _ (Grw.drew (Grw.refl _))).mono ?_;rintro e w2 ⟨rfl,hG⟩;have z1:=hG.cell (show w.drew.cell? ⟨h,1,none⟩=some (.slice (some ⟨tb,0,none⟩) n cap) from c1);have z2:=hG.cell (show w.drew.cell? ⟨tb,l,none⟩=some (.pointer (some ⟨tg T l,0,none⟩)) from tl);have z3:=hG.cell (show w.drew.cell? ⟨tb,r,none⟩=some (.pointer (some ⟨tg T r,0,none⟩)) from tr);have G2:=Lib.hid hG;clear hG))
   go_wp2_with fail
   go_ret;exact⟨Grw.trans (Grw.drew (Grw.refl _)) G2.out,Or.inr ⟨r,by have:=HN.out;omega,by have:=HR.out;omega,by have:=HR.out;omega,rfl,FIN.out⟩⟩
 . have FIN:=Lib.hid (show ∀d,0 < d->d < T.length->(d - 1) / 2=p->d≠l->lt (E (tg T l)) (E (tg T d)) from λd h1 h2 h3 h4=>by
    obtain rfl:d=r:=by omega
    exact lt.tot (HD.out.ne _ _ (by have:=HN.out;omega) (by have:=HN.out;omega) (by omega)) hC)
   rw[decide_eq_false hC] at AH;clear hl hA hr hB hC;go_enter Tryz.func241,Tryz.ntmps241;go_wp2_with fail
   go_region_held3(λw'=>w'.cell? ⟨h,1,none⟩=some (.slice (some ⟨tb,0,none⟩) n cap)/\w'.cell? ⟨tb,l,none⟩=some (.pointer (some ⟨tg T l,0,none⟩))/\w'.cell? ⟨tb,r,none⟩=some (.pointer (some ⟨tg T r,0,none⟩))) (first|(exact⟨‹_›,‹_›,‹_›⟩)|go_keep)
    (first
      |(go_at_call 233;refine(AH.out _ (Grw.drew (Grw.refl _))).mono ?_;rintro e w2 ⟨rfl,hG⟩;have z1:=hG.cell (show w.drew.cell? ⟨h,1,none⟩=some (.slice (some ⟨tb,0,none⟩) n cap) from c1);have z2:=hG.cell (show w.drew.cell? ⟨tb,l,none⟩=some (.pointer (some ⟨tg T l,0,none⟩)) from tl);have z3:=hG.cell (show w.drew.cell? ⟨tb,r,none⟩=some (.pointer (some ⟨tg T r,0,none⟩)) from tr);have G2:=Lib.hid hG;clear hG))
   go_wp2_with fail
   go_ret;exact⟨Grw.trans (Grw.drew (Grw.refl _)) G2.out,Or.inr ⟨l,by have:=HN.out;omega,by have:=HL.out;omega,by have:=HL.out;omega,rfl,FIN.out⟩⟩
end HS
end Go.Proofs.YtdmmciggopmglaaGreatDoor.LF
namespace Go.Proofs.YtdmmciggopmglaaGreatDoor.LF
namespace HS
open Go.RowKit Ht Go.Maps Go.WideMaps
def ord(T:List Nat)(E:Nat->Ent Key):Nat->Ent Key:=λi=>E (tg T i)
theorem ord_sw{T:List Nat}{E:Nat->Ent Key}{i j:Nat}(hi:i < T.length)(hj:j < T.length):ord (tsw T i j) E=sw (ord T E) i j:=by
 funext k
 show E (tg (tsw T i j) k)=_;rw[tg_tsw hi hj];unfold sw ord;split
 . rfl
 . split <;> rfl
theorem Dis.sw{T:List Nat}{E:Nat->Ent Key}{i j:Nat}(h:Dis T E)(hi:i < T.length)(hj:j < T.length):Dis (tsw T i j) E:=((tsw_perm hi hj).map _).nodup_iff.2 h
structure Way(w:World)(h M:Nat)(v:Value)(T0:List Nat)(E:Nat->Ent Key)(c b:Nat)(W:World)(T:List Nat)(p:Nat):Prop where
 hold:Holds W h M v T E c
 perm:T.Perm T0
 dis:Dis T E
 lt:p < T.length
 item:tg T p=b
 turn:Turn (Low v T0) w W
theorem Way.swap{w:World}{h M:Nat}{v:Value}{T0:List Nat}{E:Nat->Ent Key}{c b:Nat}{W:World}{T:List Nat}{p q:Nat}(H:Way w h M v T0 E c b W T p)(hq:q < T.length){e:Ending}{w':World}(hp:SwapPost W h M v T E c p q e w'):Way w h M v T0 E c b w' (tsw T p q) q:=by
 obtain⟨_,h1,h2⟩:=hp;refine⟨h1,(tsw_perm H.lt hq).trans H.perm,H.dis.sw H.lt hq,by rw[tsw_len];exact hq,?_,H.turn.trans h2 (λk _ hk=>?_)⟩
 . rw[tg_tsw H.lt hq,if_pos rfl];exact H.item
 . rcases hk with hk|hk
   . exact Or.inl hk
   . exact Or.inr (H.perm.mem_iff.1 hk)
theorem Way.grw{w:World}{h M:Nat}{v:Value}{T0:List Nat}{E:Nat->Ent Key}{c b:Nat}{W W':World}{T:List Nat}{p:Nat}(H:Way w h M v T0 E c b W T p)(g:Grw W W'):Way w h M v T0 E c b W' T p:=by
 have hb:=g.below;refine⟨⟨(hb.block _ H.hold.hlt).trans H.hold.own,?_,λi hi=>(hb.block _ (H.hold.ilt hi)).trans (H.hold.item i hi),H.hold.top,H.hold.ctop⟩,H.perm,H.dis,H.lt,H.item,H.turn.trans (S':=Low v T0) (Turn.of_below hb) (λ_ _ h=>h)⟩;rcases H.hold.tree with hz|⟨tb,cap,arr,h1,h2,h3⟩
 . exact Or.inl hz
 . exact Or.inr ⟨tb,cap,arr,h1,(hb.block _ (Array.getElem?_eq_some_iff.1 h2).1).trans h2,h3⟩
def Rel1(w:World)(h M:Nat)(v:Value)(T0:List Nat)(E:Nat->Ent Key)(c b:Nat)(k:Nat)(W:World):Prop:=∃T,Way w h M v T0 E c b W T k/\Up T.length (ord T E) k
def Rel2(w:World)(h M:Nat)(v:Value)(T0:List Nat)(E:Nat->Ent Key)(c b:Nat)(k:Nat)(W:World):Prop:=∃T p,k+p=T.length/\Way w h M v T0 E c b W T p/\Dn T.length (ord T E) p
def SetPost(w:World)(h M:Nat)(v:Value)(T0:List Nat)(E:Nat->Ent Key)(c:Nat)(e:Ending)(w':World):Prop:=e= .returned (.tuple #[])/\∃T,Holds w' h M v T E c/\T.Perm T0/\Hp T.length (ord T E)/\Turn (Low v T0) w w'
set_option maxHeartbeats 4000000 in
set_option maxRecDepth 100000 in
theorem settle_any(w:World)(h M:Nat)(v:Value)(T0:List Nat)(E:Nat->Ent Key)(c b p0:Nat)(H:Way w h M v T0 E c b w T0 p0)(hU:Up T0.length (ord T0 E) p0):
 Calls Tryz.prog 235 #[.pointer (some ⟨h,0,none⟩),.pointer (some ⟨b,0,none⟩)] w (SetPost w h M v T0 E c):=by
 have HH:=Lib.hid H;have HU:=Lib.hid hU;have mixed:Tryz.prog.follows .mixedOrders=true:=by kernel_rfl
 clear H hU;go_enter Tryz.func235,Tryz.ntmps235;go_upto_block 0 with fail
 go_cut [] (λW=>∃k,Rel2 w h M v T0 E c b k W)
 case first=>
  as_aux_lemma=>
  go_wp2_with fail
  go_loopg [] p0 (λk W=>Rel1 w h M v T0 E c b k W)
  case atStart=>exact⟨T0,HH.out,HU.out⟩
  case round=>
   obtain⟨T,hW,hUp⟩:=hrel;have HW:=Lib.hid hW;have UP:=Lib.hid hUp;obtain⟨tb,cap,rfl,hc1,hc2,arr,h2,h3,h6⟩:=hW.hold.at (by have:=hW.lt;omega);have c1:=hW.hold.c1;have ht:=hW.hold.top;have hlt:=hW.lt;have c4:=hW.hold.i4 hW.lt;rw[hW.item] at c4;obtain⟨n,hn⟩:∃n,T.length=n:=⟨_,rfl⟩;have HN:=Lib.hid hn;rw[hn] at c1 hc1 ht hlt;have TC:=Lib.hid (show ∀i,i < n->wr.cell? ⟨tb,i,none⟩=some (.pointer (some ⟨tg T i,0,none⟩)) from λi hi=>(cell_of_row wr _ _ _ _ _ h2).trans (h6 i (by omega)));have SE:=Lib.hid (show ∀i,i < n->Seen wr (tg T i) (E (tg T i)) from λi hi=>hW.hold.seen (by omega));have HI:=Lib.hid hW.item;unfold maxLen at hc2;clear hW hUp h2 h3 h6 hn
   by_cases h0:gk=0
   . subst h0;go_wp2_with fail
     go_quiet(fail)
     go_wp2_with fail
     go_meet
     exact⟨_,T,0,Nat.add_zero _,HW.out.grw ((Grw.refl _).drewN _),UP.out.stop (Or.inl rfl)⟩
   obtain⟨m,hm⟩:∃m,gk=m+1:=⟨gk - 1,by omega⟩;obtain⟨q,hq⟩:∃q,q=(gk - 1) / 2:=⟨_,rfl⟩;have hqn:q < n:=by omega
   have hqk:q < gk:=by omega
   have q0:decide (0 < gk)=true:=by simp;omega
   have tq:=TC.out q hqn;have AH:=Lib.hid (λ(w':World) (g:Grw wr w')=>ahead_any w' b (tg T q) (E b) (E (tg T q)) ((HI.out▸SE.out gk (by omega)).grw g) ((SE.out q hqn).grw g));have s1:IntKind.i64.wrap ((gk:Int) - 1)=(m:Int):=by rw[IntWalk.i64_in _ (by omega)];omega
   have s2:IntKind.i64.wrap ((m:Int) / 2)=(q:Int):=by rw[IntWalk.i64_in _ (by omega)];omega
   have HQ:=Lib.hid hq;clear hm hq h0
   by_cases hC:lt (E b) (E (tg T q))
   . rw[decide_eq_true hC] at AH;go_wp2_with fail
     go_region_held3(λw'=>w'.cell? ⟨h,1,none⟩=some (.slice (some ⟨tb,0,none⟩) n cap)/\w'.cell? ⟨b,4,none⟩=some (.int .i64 (gk:Int))/\w'.cell? ⟨tb,q,none⟩=some (.pointer (some ⟨tg T q,0,none⟩))) (first|(exact⟨‹_›,‹_›,‹_›⟩)|go_keep)
      (first
        |(go_at_call 233;refine(AH.out _ (Grw.drew (Grw.refl _))).mono ?_;rintro e w2 ⟨rfl,hG⟩;have z1:=hG.cell (show wr.drew.cell? ⟨h,1,none⟩=some (.slice (some ⟨tb,0,none⟩) n cap) from c1);have z2:=hG.cell (show wr.drew.cell? ⟨b,4,none⟩=some (.int .i64 (gk:Int)) from c4);have z3:=hG.cell (show wr.drew.cell? ⟨tb,q,none⟩=some (.pointer (some ⟨tg T q,0,none⟩)) from tq);have G2:=Lib.hid hG;clear hG))
     have W2:=Lib.hid (HW.out.grw (Grw.trans (Grw.drew (Grw.refl _)) G2.out));clear c1 c4 tq z1 z3 AH TC SE;go_wp2_with fail
     go_still_tail 11,mixed
     go_wp2_with fail
     refine(swap_any w2.drew h M _ T E c gk q (W2.out.grw (Grw.drew (Grw.refl _))).hold W2.out.lt (by have:=HN.out;omega)).mono ?_;intro e w4 hp;have W4:=Lib.hid ((W2.out.grw (Grw.drew (Grw.refl _))).swap (by have:=HN.out;omega) hp);obtain rfl:=hp.1;clear hp z2;go_wp2_with fail
     go_roundg q
     case measure=>exact hqk
     case rel=>
      refine⟨_,W4.out,?_⟩;have hk:gk < T.length:=by have:=HN.out;omega
      rw[ord_sw hk (by have:=HN.out;omega),tsw_len,HQ.out];refine UP.out.step (by omega) hk ?_;show lt (E (tg T gk)) (E (tg T ((gk - 1) / 2)));rw[← HQ.out,HI.out];exact hC
   . have HNC:=Lib.hid (show lt (E (tg T q)) (E b) from lt.tot (by
      have:=HW.out.dis.ne gk q HW.out.lt (by have:=HN.out;omega) (by omega);rw[HI.out] at this;exact this) hC)
     rw[decide_eq_false hC] at AH;clear hC;go_wp2_with fail
     go_region_held3(λw'=>w'.cell? ⟨h,1,none⟩=some (.slice (some ⟨tb,0,none⟩) n cap)/\w'.cell? ⟨b,4,none⟩=some (.int .i64 (gk:Int))/\w'.cell? ⟨tb,q,none⟩=some (.pointer (some ⟨tg T q,0,none⟩))) (first|(exact⟨‹_›,‹_›,‹_›⟩)|go_keep)
      (first
        |(go_at_call 233;refine(AH.out _ (Grw.drew (Grw.refl _))).mono ?_;rintro e w2 ⟨rfl,hG⟩;have z1:=hG.cell (show wr.drew.cell? ⟨h,1,none⟩=some (.slice (some ⟨tb,0,none⟩) n cap) from c1);have z2:=hG.cell (show wr.drew.cell? ⟨b,4,none⟩=some (.int .i64 (gk:Int)) from c4);have z3:=hG.cell (show wr.drew.cell? ⟨tb,q,none⟩=some (.pointer (some ⟨tg T q,0,none⟩)) from tq);have G2:=Lib.hid hG;clear hG))
     go_wp2_with fail
     go_meet
     have hlen:gk<=T.length:=by have:=HN.out;omega
     refine⟨T.length - gk,T,gk,by omega,HW.out.grw (Grw.trans (Grw.drew (Grw.refl _)) G2.out),UP.out.stop (Or.inr ?_)⟩;show lt (E (tg T ((gk - 1) / 2))) (E (tg T gk));rw[← HQ.out,HI.out];exact HNC.out
 case rest=>
  as_aux_lemma=>
  obtain⟨k0,hcut⟩:=hcut;have HC:=Lib.hid hcut;clear hcut HH HU;go_wp2_with fail
  go_loopg [] k0 (λk W=>Rel2 w h M v T0 E c b k W)
  case atStart=>exact HC.out
  case round=>
   obtain⟨T,p,hkp,hW,hDn⟩:=hrel;have HW:=Lib.hid hW;have DN:=Lib.hid hDn;have c4:=hW.hold.i4 hW.lt;rw[hW.item] at c4;have HI:=Lib.hid hW.item;have HK:=Lib.hid hkp;have FC:=Lib.hid (firstChild_any wr h M v T E c p hW.hold hW.dis hW.lt);clear hW hDn hkp HC;go_wp2_with fail
   refine FC.out.mono ?_;intro e w1 hf;obtain⟨hG,⟨hlen,rfl⟩|⟨ch,hch,hch0,hcp,rfl,hmin⟩⟩:=hf
   . have HG:=Lib.hid hG;have HL:=Lib.hid hlen;clear hG hlen FC c4;go_wp2_with fail
     first|go_end0|refine bodyPost_ret (results_none rfl _ _ _) rfl ?_
     have W1:=HW.out.grw HG.out;exact⟨rfl,T,W1.hold,W1.perm,DN.out.stop (λd h1 h2 h3=>by have:=HL.out;omega),W1.turn⟩
   . have W1:=Lib.hid (HW.out.grw hG);have d4:=hG.cell c4;have d5:=W1.out.hold.i4 hch;have AH:=Lib.hid (ahead_any w1 b (tg T ch) (E b) (E (tg T ch)) (HI.out▸W1.out.hold.seen W1.out.lt) (W1.out.hold.seen hch));have MIN:=Lib.hid hmin;have CP:=Lib.hid (And.intro hch0 (And.intro hch hcp));obtain⟨x,hx⟩:∃x,tg T ch=x:=⟨_,rfl⟩;have HX:=Lib.hid hx;rw[hx] at d5 AH|-;clear hmin hG FC c4 hcp hch0 hx
     by_cases hC:lt (E b) (E x)
     . rw[decide_eq_true hC] at AH;go_wp2_with fail
       refine AH.out.mono ?_;rintro e w2 ⟨rfl,hG2⟩;have W2:=Lib.hid (W1.out.grw hG2);clear hG2 d4 d5;go_wp2_with fail
       first|go_end0|refine bodyPost_ret (results_none rfl _ _ _) rfl ?_
       refine⟨rfl,T,W2.out.hold,W2.out.perm,DN.out.stop (λd h1 h2 h3=>?_),W2.out.turn⟩;show lt (E (tg T p)) (E (tg T d));rw[HI.out]
       by_cases hd:d=ch
       . rw[hd,HX.out];exact hC
       . exact hC.trans (HX.out▸MIN.out d h1 h2 h3 hd)
     . have HNC:=Lib.hid (show lt (E x) (E b) from lt.tot (by
        have hh:=CP.out;have:=W1.out.dis.ne p ch W1.out.lt hch (by omega);rw[HI.out,HX.out] at this;exact this) hC)
       rw[decide_eq_false hC] at AH;go_wp2_with fail
       refine AH.out.mono ?_;rintro e w2 ⟨rfl,hG2⟩;have W2:=Lib.hid (W1.out.grw hG2);have f4:=hG2.cell d4;have f5:=hG2.cell d5;clear hG2 d4 d5;go_wp2_with fail
       go_still_tail 9,mixed
       go_wp2_with fail
       refine(swap_any w2.drew h M v T E c p ch (W2.out.grw (Grw.drew (Grw.refl _))).hold W2.out.lt hch).mono ?_;intro e w4 hp;have W4:=Lib.hid ((W2.out.grw (Grw.drew (Grw.refl _))).swap hch hp);obtain rfl:=hp.1;clear hp f4 f5;go_wp2_with fail
       go_roundg(T.length - ch)
       case measure=>have:=CP.out;have:=HK.out;omega
       case rel=>
        refine⟨_,ch,by rw[tsw_len];omega,W4.out,?_⟩;obtain⟨g1,g2,g3⟩:=CP.out;rw[ord_sw W2.out.lt hch,tsw_len];refine DN.out.step g1 g2 g3 ?_ MIN.out;show lt (E (tg T ch)) (E (tg T p));rw[HI.out,HX.out];exact HNC.out
end HS
end Go.Proofs.YtdmmciggopmglaaGreatDoor.LF
namespace Go.Proofs.YtdmmciggopmglaaGreatDoor.LF
namespace HS
open Go.RowKit Ht Go.Maps Go.WideMaps
structure St(w:World)(h M:Nat)(v:Value)(T:List Nat)(E:Nat->Ent Key)(f:Key->Option Nat)(L:List (Ent Key))(c:Nat):Prop where
 hold:Holds w h M v T E c
 mp:Mp w M f T.length
 spot:∀k b,f k=some b<->b∈T/\(E b).key=k
 perm:L.Perm (T.map E)
 srt:Srt L
 once:Once L c
 hp:Hp T.length (ord T E)
 ok:∀e∈L,kok e.key
def HS(w:World)(h:Nat)(S:Nat->Prop)(L:List (Ent Key))(c:Nat):Prop:=∃M v T E f,St w h M v T E f L c/\S=Blk h M v T
def OpPost(r:Value)(w:World)(h:Nat)(S:Nat->Prop)(L:List (Ent Key))(c:Nat)(e:Ending)(w':World):Prop:=e= .returned r/\∃S',HS w' h S' L c/\(∀k,S' k->S k\/w.heap.size<=k)/\Turn S w w'
section
variable{w:World}{h M c:Nat}{v:Value}{T:List Nat}{E:Nat->Ent Key}{f:Key->Option Nat}{L:List (Ent Key)}{S:Nat->Prop}
theorem St.dis(s:St w h M v T E f L c):Dis T E:=by
 have:=(s.perm.map (·.set)).nodup_iff.1 s.once.sets;rw[List.map_map] at this;exact this
theorem St.len(s:St w h M v T E f L c):L.length=T.length:=by rw[s.perm.length_eq,List.length_map]
theorem St.same{w':World}(s:St w h M v T E f L c)(hs:∀k,Blk h M v T k->w'.heap[k]?=w.heap[k]?):St w' h M v T E f L c:=
 ⟨s.hold.same hs,s.mp.same (hs M (Or.inr (Or.inl rfl))),s.spot,s.perm,s.srt,s.once,s.hp,s.ok⟩
theorem St.mem(s:St w h M v T E f L c){b:Nat}(hb:b∈T):E b∈L:=s.perm.mem_iff.2 (List.mem_map_of_mem hb)
theorem St.look(s:St w h M v T E f L c)(k:Key):(f k).map E=find L k:=by
 cases hf:f k with
 |none=>
  cases hg:find L k with
  |none=>rfl
  |some e=>
   obtain⟨h1,h2⟩:=find_some hg;obtain⟨b,hb,rfl⟩:=List.mem_map.1 (s.perm.mem_iff.1 h1);rw[(s.spot k b).2 ⟨hb,h2⟩] at hf;cases hf
 |some b=>
  obtain⟨h1,h2⟩:=(s.spot k b).1 hf;rw[← h2,s.once.find (s.mem h1)];rfl
theorem HS.same{w':World}(s:HS w h S L c)(hs:∀k,S k->w'.heap[k]?=w.heap[k]?):HS w' h S L c:=by
 obtain⟨M,v,T,E,f,h1,rfl⟩:=s;exact⟨M,v,T,E,f,h1.same hs,rfl⟩
theorem HS.lt(s:HS w h S L c){k:Nat}(hk:S k):k < w.heap.size:=by
 obtain⟨M,v,T,E,f,h1,rfl⟩:=s;exact h1.hold.blt h1.mp hk
theorem HS.below{w':World}(s:HS w h S L c)(hb:Below w.heap.size w w'):HS w' h S L c:=s.same λk hk=>hb.block k (s.lt hk)
theorem HS.alloc(s:HS w h S L c)(o:Obj):HS (w.alloc o) h S L c:=s.same λ_ hk=>Below.heap_alloc _ _ _ (s.lt hk)
theorem HS.once(s:HS w h S L c):Once L c:=by obtain⟨M,v,T,E,f,h1,rfl⟩:=s;exact h1.once
theorem HS.srt(s:HS w h S L c):Srt L:=by obtain⟨M,v,T,E,f,h1,rfl⟩:=s;exact h1.srt
theorem HS.ok(s:HS w h S L c):∀e∈L,kok e.key:=by obtain⟨M,v,T,E,f,h1,rfl⟩:=s;exact h1.ok
theorem HS.top(s:HS w h S L c):L.length<=100000:=by obtain⟨M,v,T,E,f,h1,rfl⟩:=s;rw[h1.len];exact h1.hold.top
end
def upd(E:Nat->Ent Key)(b:Nat)(e:Ent Key):Nat->Ent Key:=λx=>if x=b then e else E x
theorem upd_same(E:Nat->Ent Key)(b:Nat)(e:Ent Key):upd E b e b=e:=if_pos rfl
theorem upd_ne{E:Nat->Ent Key}{b x:Nat}{e:Ent Key}(hx:x≠b):upd E b e x=E x:=if_neg hx
theorem tg_end(T:List Nat)(b:Nat):tg (T++ [b]) T.length=b:=by unfold tg;simp[List.getD_eq_getElem?_getD]
theorem tg_front{T:List Nat}{b i:Nat}(hi:i < T.length):tg (T++ [b]) i=tg T i:=by unfold tg;simp[List.getD_eq_getElem?_getD,List.getElem?_append_left hi]
theorem infoP:(Tryz.prog.info? 240).map (λi=>(i.zero,i.size,i.bytes))=some (some (.pointer none),1,8):=by kernel_rfl
theorem Tree.own{w:World}{v:Value}{T:List Nat}(h:Tree w v T):w.ownsRow 0 240 1 v T.length (T.map λb=>Value.pointer (some ⟨b,0,none⟩)):=by
 refine⟨by simp,?_⟩;rcases h with⟨rfl,rfl⟩|⟨tb,cap,arr,rfl,h2,h3,h4,h5,h6⟩
 . exact Or.inl ⟨rfl,rfl⟩
 . refine Or.inr ⟨tb,cap,arr,rfl,Nat.zero_le _,h2,h4,h5,by omega,?_⟩;apply List.ext_getElem?;intro i;rw[List.getElem?_take,List.getElem?_map]
   by_cases hi:i < T.length
   . rw[if_pos (by omega),tg_get hi,Array.getElem?_toList,h6 i hi];rfl
   . rw[if_neg (by omega),List.getElem?_eq_none (by omega)];rfl
theorem Tree.of_own{w:World}{v:Value}{T:List Nat}{base:Nat}(h:w.ownsRow base 240 1 v T.length (T.map λb=>Value.pointer (some ⟨b,0,none⟩))):Tree w v T:=by
 rcases h.2 with⟨h1,h0⟩|⟨tb,cap,arr,h1,_,h2,h4,h5,h3,h6⟩
 . exact Or.inl ⟨h1,List.eq_nil_of_length_eq_zero h0⟩
 . refine Or.inr ⟨tb,cap,arr,h1,h2,by omega,h4,h5,λi hi=>?_⟩;have:=congrArg (λl=>l[i]?) h6;simp only[List.getElem?_take,List.getElem?_map,tg_get hi] at this;rw[if_pos (by omega),Array.getElem?_toList] at this;exact this
theorem app_ptr{w:World}{v:Value}{T:List Nat}(h:Tree w v T)(hl:T.length<=99999)(b:Nat):
 ∃(v':Value) (w2:World),(Builtin.append_ #[179,179] 179 #[v,.slice (some ⟨w.heap.size,0,none⟩) 1 1]).run Tryz.prog (w.alloc (.cells #[.pointer (some ⟨b,0,none⟩)] 240))= .ok v' w2/\
  Tree w2 v' (T++ [b])/\w.grownBy w2 v.ownBlock/\(∀k,v'.ownBlock=some k->v.ownBlock=some k\/w.heap.size<=k):=by
 obtain⟨i0,hi,hz0,hz1,hz2⟩:=info_parts infoP
 obtain⟨v',w2,hrun,hown2,hg,hnil,hloc⟩:=run_append_own_at (P:=Tryz.prog) (w.alloc (.cells #[.pointer (some ⟨b,0,none⟩)] 240)) 0 179 179 240 i0 _ 1 8
  Tryz.underlying179 hi hz0 hz1 hz2 rfl (by decide) _ _ _ (h.own.alloc _) ⟨w.heap.size,0,none⟩ 1 1 [.pointer (some ⟨b,0,none⟩)] rfl (cell_one_new _ _ _) (by simp[Value.oneCell']) (by unfold maxLen;omega) (by omega) (by simp)
 refine⟨v',w2,hrun,?_,(World.grownBy_alloc w _ _).trans hg,?_⟩
 . refine Tree.of_own (base:=0) ?_;rw[List.length_append,List.map_append];exact hown2
 . intro k hk;rcases hloc with h1|h1
   . left;rw[← h1];exact hk
   . right;rw[h1] at hk;injection hk with hk;rw[← hk];simp
def AddPost(w:World)(h M:Nat)(v:Value)(T:List Nat)(E:Nat->Ent Key)(f:Key->Option Nat)(c:Nat)(k:Key)(e:Ending)(w':World):Prop:=
 ∃v',e= .returned (.pointer (some ⟨w.heap.size,0,none⟩))/\Holds w' h M v' (T++ [w.heap.size]) (upd E w.heap.size ⟨k,0,0,0⟩) c/\Mp w' M (fput f k w.heap.size) (T.length+1)/\Turn (Blk h M v T) w w'/\(∀j,v'.ownBlock=some j->v.ownBlock=some j\/w.heap.size<=j)
theorem added{w w2:World}{h M c:Nat}{v v':Value}{T:List Nat}{E:Nat->Ent Key}{f:Key->Option Nat}{k:Key}(H:Holds w h M v T E c)(hM:Mp w M f T.length)(hl:T.length<=99999)(hk:kok k)(hf:f k=none)
 (ht:Tree w2 v' (T++ [w.heap.size])) (hg:(w.alloc (itemOf ⟨k,0,0,0⟩ T.length)).grownBy w2 v.ownBlock) (hloc:∀j,v'.ownBlock=some j->v.ownBlock=some j\/w.heap.size+1<=j):
 ∃w3,(Instr.mapUpdate 178 (.map (some M)) (.string k) (.pointer (some ⟨w.heap.size,0,none⟩))).run Tryz.prog (w2.setCell ⟨h,1,none⟩ v')= .ok () w3/\
  Holds w3 h M v' (T++ [w.heap.size]) (upd E w.heap.size ⟨k,0,0,0⟩) c/\Mp w3 M (fput f k w.heap.size) (T.length+1)/\Turn (Blk h M v T) w w3:=by
 have hs1:(w.alloc (itemOf ⟨k,0,0,0⟩ T.length)).heap.size=w.heap.size+1:=by simp
 have hhlt:=H.hlt;have hMlt:=hM.lt
 have own_ne:∀{x:Nat} {a:Array Value} {t:TypeId} {u:Nat × Nat},w.heap[x]?=some (.cells a t u)->t≠240->some x≠v.ownBlock:=by
  intro x a t u hx hne e;rcases H.tree with⟨rfl,_⟩|⟨tb,cap,arr,rfl,h2,_⟩
  . cases e
  . injection e with e
    exact cells_ne hx h2 hne e
 have old:∀x,x < w.heap.size->some x≠v.ownBlock->w2.heap[x]?=w.heap[x]?:=λx hx hne=>by
  rw[hg.block x (by rw[hs1];omega) hne,Below.heap_alloc _ _ _ hx]
 have h2:w2.heap[h]?=some (heapOf M v c):=by rw[old h hhlt (own_ne H.own (by decide))];exact H.own
 have hM2:w2.heap[M]?=w.heap[M]?:=old M hMlt (by
  obtain⟨es,c',hb⟩:=hM.obj;intro e;rcases H.tree with⟨rfl,_⟩|⟨tb,cap,arr,rfl,h2,_⟩
  . cases e
  . injection e with e
    rw[e,h2] at hb;cases hb)
 have hit:w2.heap[w.heap.size]?=some (itemOf ⟨k,0,0,0⟩ T.length):=by
  rw[hg.block _ (by rw[hs1];omega) (λe=>by
   rcases H.tree with⟨rfl,_⟩|⟨tb,cap,arr,rfl,h2,_⟩
   . cases e
   . injection e with e
     have e:w.heap.size=tb:=e;have:=(Array.getElem?_eq_some_iff.1 h2).1;omega)]
  exact heap_alloc_new w _
 have hhM:=H.hm hM;have hMs:Mp (w2.setCell ⟨h,1,none⟩ v') M f T.length:=hM.same (by rw[heap_setCell_other _ _ _ _ (Ne.symm hhM)];exact hM2);obtain⟨w3,hrun,hM3,hg3⟩:=hMs.store hk (by omega) hf w.heap.size;have hw3:∀x,x < w2.heap.size->x≠M->w3.heap[x]?=(w2.setCell ⟨h,1,none⟩ v').heap[x]?:=λx hx hne=>hg3.block x (by simpa[World.setCell] using hx) (by simpa using hne)
 have hsz2:=hg.size;rw[hs1] at hsz2;have hlenT:(T++ [w.heap.size]).length=T.length+1:=by simp
 have itm:∀i,i < T.length+1->w2.heap[tg (T++ [w.heap.size]) i]?=some (itemOf (upd E w.heap.size ⟨k,0,0,0⟩ (tg (T++ [w.heap.size]) i)) i):=by
  intro i hi
  by_cases e:i=T.length
  . subst e;rw[tg_end,upd_same];exact hit
  . have hi':i < T.length:=by omega
    have hlt:=H.ilt hi';rw[tg_front hi',upd_ne (by omega),old _ hlt (own_ne (H.item i hi') (by decide))];exact H.item i hi'
 have itlt:∀i,i < T.length+1->tg (T++ [w.heap.size]) i < w2.heap.size:=λi hi=>(Array.getElem?_eq_some_iff.1 (itm i hi)).1
 have itM:∀i,i < T.length+1->tg (T++ [w.heap.size]) i≠M:=λi hi e=>by
  obtain⟨es,c',hb⟩:=hM.obj;rw[← hM2,<-e,itm i hi] at hb;cases hb
 have ith:∀i,i < T.length+1->tg (T++ [w.heap.size]) i≠h:=λi hi=>cells_ne (itm i hi) h2 (by decide);refine⟨w3,hrun,⟨?_,?_,λi hi=>?_,by rw[hlenT];omega,H.ctop⟩,hM3,?_⟩
 . rw[hw3 h (by omega) hhM,heap_setCell_same _ _ _ _ _ _ h2];rfl
 . rcases ht with⟨_,h0⟩|⟨tb,cap,arr,rfl,t2,t3⟩
   . exact absurd h0 (by simp)
   . refine Or.inr ⟨tb,cap,arr,rfl,?_,t3⟩
     have htM:tb≠M:=by
      obtain⟨es,c',hb⟩:=hM.obj;intro e;rw[← hM2,<-e,t2] at hb;cases hb
     rw[hw3 tb (Array.getElem?_eq_some_iff.1 t2).1 htM,heap_setCell_other _ _ _ _ (cells_ne t2 h2 (by decide))];exact t2
 . rw[hlenT] at hi;rw[hw3 _ (itlt i hi) (itM i hi),heap_setCell_other _ _ _ _ (ith i hi)];exact itm i hi
 . have t1:Turn (Blk h M v T) w w2:=((Turn.refl _ w).alloc _).grown hg (λj hj=>Or.inl (Or.inr (Or.inr (Or.inl hj))));exact(t1.setCell (p:=⟨h,1,none⟩) (Or.inl rfl) v').grown hg3 (λj hj=>by cases hj;exact Or.inl (Or.inr (Or.inl rfl)))
set_option maxHeartbeats 2000000 in
set_option maxRecDepth 100000 in
theorem add_any(w:World)(h M:Nat)(v:Value)(T:List Nat)(E:Nat->Ent Key)(f:Key->Option Nat)(c:Nat)(k:Key)(H:Holds w h M v T E c)(hM:Mp w M f T.length)(hl:T.length<=99999)(hk:kok k)(hf:f k=none):
 Calls Tryz.prog 234 #[.pointer (some ⟨h,0,none⟩),.string k] w (AddPost w h M v T E f c k):=by
 have hT1:Tree (w.alloc (itemOf ⟨k,0,0,0⟩ T.length)) v T:=by
  rcases H.tree with hz|⟨tb,cap,arr,rfl,h2,h3⟩
  . exact Or.inl hz
  . exact Or.inr ⟨tb,cap,arr,rfl,by rw[Below.heap_alloc _ _ _ (Array.getElem?_eq_some_iff.1 h2).1];exact h2,h3⟩
 obtain⟨v',w2,hrun,ht2,hg,hloc⟩:=app_ptr hT1 hl w.heap.size;have hs1:(w.alloc (itemOf ⟨k,0,0,0⟩ T.length)).heap.size=w.heap.size+1:=by simp
 rw[hs1] at hloc hrun
 obtain⟨g,cap,rfl⟩:∃g cap,v'= .slice (some ⟨g,0,none⟩) (T.length+1) cap:=by
  rcases ht2 with⟨_,h0⟩|⟨tb,cap,arr,rfl,_⟩
  . exact absurd h0 (by simp)
  . exact⟨tb,cap,by simp⟩
 obtain⟨w3,hup,hH3,hM3,hT3⟩:=added H hM hl hk hf ht2 hg hloc;have R:=Lib.hid (And.intro hH3 (And.intro hM3 (And.intro hT3 hloc)));have HRUN:=Lib.hid hrun;have c0:=H.c0;have c1:=H.c1;have F:=Lib.hid (λw=>findable_any w k)
 have hhne:some h≠v.ownBlock:=by
  intro e;rcases H.tree with⟨rfl,_⟩|⟨tb,cap,arr,rfl,h2,_⟩
  . cases e
  . injection e with e
    exact cells_ne H.own h2 (by decide) e
 have h2:w2.heap[h]?=some (heapOf M v c):=by
  rw[hg.block h (by rw[hs1];have:=H.hlt;omega) hhne,Below.heap_alloc _ _ _ H.hlt];exact H.own
 have d0:w2.cell? ⟨h,0,none⟩=some (.map (some M)):=cell_of_row w2 _ 0 _ _ _ h2;have d1:w2.cell? ⟨h,1,none⟩=some v:=cell_of_row w2 _ 1 _ _ _ h2;have d2:w2.frozen? ⟨h,1,none⟩=false:=frozen_of_row w2 _ 1 _ _ h2;have hhlt:=H.hlt;obtain⟨va,vc,hv⟩:=H.tlen;clear hrun ht2 hg hloc hH3 hM3 hT3 hT1 h2 H hM hk hf hs1 hhne;unfold itemOf at HRUN;obtain⟨n,hn⟩:∃n,T.length=n:=⟨_,rfl⟩;rw[hn] at hv hl HRUN hup;clear hn;subst hv;go_enter Tryz.func234,Tryz.ntmps234;go_wp2_with(at_builtin;refine wpList_append_run rfl _ _ _ rfl _ _ _ _ rfl rfl HRUN.out ?_)
 refine(F.out _).mono ?_;rintro e w' ⟨rfl,rfl⟩;go_wp2_with fail
 go_ret;exact⟨_,rfl,R.out.1,R.out.2.1,R.out.2.2.1,λj hj=>(R.out.2.2.2 j hj).imp id (by omega)⟩
end HS
end Go.Proofs.YtdmmciggopmglaaGreatDoor.LF
namespace Go.Proofs.YtdmmciggopmglaaGreatDoor.LF
namespace HS
open Go.RowKit Ht Go.Maps Go.WideMaps
structure Mid(w:World)(h:Nat)(S:Nat->Prop)(L:List (Ent Key))(c:Nat)(k:Key)(b:Nat)(W:World)(M:Nat)(v:Value)(T:List Nat)(E:Nat->Ent Key)(f:Key->Option Nat)(p:Nat):Prop where
 hold:Holds W h M v T E c
 mp:Mp W M f T.length
 spot:∀k b,f k=some b<->b∈T/\(E b).key=k
 lt:p < T.length
 item:tg T p=b
 key:(E b).key=k
 perm:∀e',(T.map (upd E b e')).Perm (e'::rem L k)
 up:∀e',Up T.length (ord T (upd E b e')) p
 sub:∀j,Blk h M v T j->S j\/w.heap.size<=j
 turn:Turn S w W
theorem split_at{T:List Nat}{b:Nat}(hb:b∈T)(hn:T.Nodup):∃A B,T=A++b::B/\b∉A/\b∉B:=by
 obtain⟨A,B,rfl⟩:=List.append_of_mem hb;have:=List.nodup_append.1 hn;refine⟨A,B,rfl,λh=>this.2.2 b h b List.mem_cons_self rfl,(List.nodup_cons.1 this.2.1).1⟩
theorem map_upd{A:List Nat}{E:Nat->Ent Key}{b:Nat}{e:Ent Key}(h:b∉A):A.map (upd E b e)=A.map E:=List.map_congr_left λ_ hx=>upd_ne (λe=>h (e▸hx))
theorem St.rest{w:World}{h M c:Nat}{v:Value}{T:List Nat}{E:Nat->Ent Key}{f:Key->Option Nat}{L:List (Ent Key)}(s:St w h M v T E f L c){b:Nat}(hb:b∈T):
 ∃A B,T=A++b::B/\b∉A/\b∉B/\((A++B).map E).Perm (rem L (E b).key):=by
 obtain⟨A,B,rfl,hA,hB⟩:=split_at hb s.hold.nodup;refine⟨A,B,rfl,hA,hB,?_⟩;have hp:L.Perm (E b::(A++B).map E):=s.perm.trans (by rw[List.map_append,List.map_append,List.map_cons];exact List.perm_middle);have ho:=s.once.perm hp;have:=ho.rem_cons;rw[← this];exact(hp.filter _).symm
theorem Mid.old{w:World}{h M c:Nat}{v:Value}{T:List Nat}{E:Nat->Ent Key}{f:Key->Option Nat}{L:List (Ent Key)}(s:St w h M v T E f L c){k:Key}{b:Nat}(hf:f k=some b):∃p,Mid w h (Blk h M v T) L c k b w M v T E f p:=by
 obtain⟨hb,hk⟩:=(s.spot k b).1 hf;obtain⟨p,hp,hi⟩:=mem_tg hb;refine⟨p,s.hold,s.mp,s.spot,hp,hi,hk,λe'=>?_,λe'=>?_,λj hj=>Or.inl hj,Turn.refl _ _⟩
 . obtain⟨A,B,hT,hA,hB,hr⟩:=s.rest hb;rw[hk] at hr;rw[hT,List.map_append,List.map_cons,upd_same,map_upd hA,map_upd hB];refine List.perm_middle.trans (List.Perm.cons _ ?_);rw[← List.map_append];exact hr
 . refine Up.of s.hp (Nat.le_refl _) (λi hi' hne=>?_);show upd E b e' (tg T i)=E (tg T i);exact upd_ne (λe=>hne (s.hold.inj hi' hp (e.trans hi.symm)))
theorem Mid.new{w W:World}{h M c:Nat}{v v':Value}{T:List Nat}{E:Nat->Ent Key}{f:Key->Option Nat}{L:List (Ent Key)}(s:St w h M v T E f L c){k:Key}(hf:f k=none)
 (hH:Holds W h M v' (T++ [w.heap.size]) (upd E w.heap.size ⟨k,0,0,0⟩) c) (hM:Mp W M (fput f k w.heap.size) (T.length+1)) (ht:Turn (Blk h M v T) w W) (hloc:∀j,v'.ownBlock=some j->v.ownBlock=some j\/w.heap.size<=j):
 Mid w h (Blk h M v T) L c k w.heap.size W M v' (T++ [w.heap.size]) (upd E w.heap.size ⟨k,0,0,0⟩) (fput f k w.heap.size) T.length:=by
 have hfresh:w.heap.size∉T:=λhm=>by
  obtain⟨i,hi,he⟩:=mem_tg hm;have:=s.hold.ilt hi;omega
 have fr:∀x∈T,x≠w.heap.size:=λx hx e=>hfresh (e▸hx);have hno:∀e∈L,e.key≠k:=find_none (by rw[← s.look k,hf];rfl);refine⟨hH,by rw[List.length_append];exact hM,λk' b'=>?_,by simp,tg_end _ _,by rw[upd_same],λe'=>?_,λe'=>?_,λj hj=>?_,ht⟩
 . unfold fput
   by_cases e:k'=k
   . subst e;rw[if_pos rfl];constructor
     . intro he;cases he;exact⟨by simp,by rw[upd_same]⟩
     . rintro⟨h1,h2⟩;rcases List.mem_append.1 h1 with h1|h1
       . rw[upd_ne (fr _ (h1))] at h2;exact absurd h2 (hno _ (s.mem h1))
       . rw[List.mem_singleton.1 h1]
   . rw[if_neg e,s.spot k' b'];constructor
     . rintro⟨h1,h2⟩;exact⟨List.mem_append_left _ h1,by rw[upd_ne (fr _ (h1))];exact h2⟩
     . rintro⟨h1,h2⟩;rcases List.mem_append.1 h1 with h1|h1
       . exact⟨h1,by rw[upd_ne (fr _ (h1))] at h2;exact h2⟩
       . rw[List.mem_singleton.1 h1,upd_same] at h2;exact absurd h2.symm e
 . rw[rem_none hno,List.map_append,List.map_singleton,upd_same,map_upd hfresh,map_upd hfresh];exact(List.perm_append_comm (l₁:=T.map E) (l₂:=[e'])).trans (List.Perm.cons _ s.perm.symm)
 . refine Up.of (m:=T.length+1) (o:=ord (T++ [w.heap.size]) (upd E w.heap.size ⟨k,(E (tg T ((T.length - 1) / 2))).one,(E (tg T ((T.length - 1) / 2))).two,(E (tg T ((T.length - 1) / 2))).set+1⟩)) ?_ (by simp) (λi hi hne=>?_)
   . intro i hi hin;unfold ord
     by_cases e:i=T.length
     . subst e;rw[tg_end,upd_same,tg_front (by omega),upd_ne (fr _ (tg_mem (by omega)))];exact Or.inr ⟨rfl,Or.inr ⟨rfl,Nat.lt_succ_self _⟩⟩
     . have h1:i < T.length:=by omega
       rw[tg_front h1,tg_front (by omega),upd_ne (fr _ (tg_mem (by omega))),upd_ne (fr _ (tg_mem h1))];exact s.hp i hi h1
   . have hi':i < T.length:=by rw[List.length_append] at hi;simp at hi;omega
     unfold ord;rw[tg_front hi',upd_ne (fr _ (tg_mem hi')),upd_ne (fr _ (tg_mem hi')),upd_ne (fr _ (tg_mem hi'))]
 . rcases hj with rfl|rfl|hj|hj
   . exact Or.inl (Or.inl rfl)
   . exact Or.inl (Or.inr (Or.inl rfl))
   . exact(hloc j hj).imp (λh=>Or.inr (Or.inr (Or.inl h))) id
   . rcases List.mem_append.1 hj with h1|h1
     . exact Or.inl (Or.inr (Or.inr (Or.inr h1)))
     . rw[List.mem_singleton.1 h1];exact Or.inr (Nat.le_refl _)
section
variable{w W:World}{h M c p b:Nat}{v:Value}{T:List Nat}{E:Nat->Ent Key}{f:Key->Option Nat}{L:List (Ent Key)}{k:Key}{S:Nat->Prop}
theorem Mid.ranked(m:Mid w h S L c k b W M v T E f p)(hc:c<=9000000)(r1 r2:Int):
 Holds ((((W.setCell ⟨h,2,none⟩ (.int .i64 ((c+1:Nat):Int))).setCell ⟨b,1,none⟩ (.int .i64 r1)).setCell ⟨b,2,none⟩ (.int .i64 r2)).setCell ⟨b,3,none⟩ (.int .i64 ((c+1:Nat):Int))).drew h M v T (upd E b ⟨k,r1,r2,c+1⟩) (c+1)/\
 Turn (λj=>j=h\/j=b) W ((((W.setCell ⟨h,2,none⟩ (.int .i64 ((c+1:Nat):Int))).setCell ⟨b,1,none⟩ (.int .i64 r1)).setCell ⟨b,2,none⟩ (.int .i64 r2)).setCell ⟨b,3,none⟩ (.int .i64 ((c+1:Nat):Int))).drew:=by
 have hhb:h≠b:=m.item▸m.hold.hi m.lt
 have other:∀x,x≠h->x≠b->((((W.setCell ⟨h,2,none⟩ (.int .i64 ((c+1:Nat):Int))).setCell ⟨b,1,none⟩ (.int .i64 r1)).setCell ⟨b,2,none⟩ (.int .i64 r2)).setCell ⟨b,3,none⟩ (.int .i64 ((c+1:Nat):Int))).drew.heap[x]?=W.heap[x]?:=λx h1 h2=>by
  show((((W.setCell _ _).setCell _ _).setCell _ _).setCell _ _).heap[x]?=_
  rw[heap_setCell_other _ _ _ _ h2,heap_setCell_other _ _ _ _ h2,heap_setCell_other _ _ _ _ h2,heap_setCell_other _ _ _ _ h1]
 have itb:=m.hold.item p m.lt;rw[m.item] at itb;refine⟨⟨?_,?_,λi hi=>?_,m.hold.top,by omega⟩,?_⟩
 . show((((W.setCell _ _).setCell _ _).setCell _ _).setCell _ _).heap[h]?=_
   rw[heap_setCell_other _ _ _ _ hhb,heap_setCell_other _ _ _ _ hhb,heap_setCell_other _ _ _ _ hhb,heap_setCell_same _ _ _ _ _ _ m.hold.own];rfl
 . rcases m.hold.tree with hz|⟨tb,cap,arr,h1,h2,h3⟩
   . exact Or.inl hz
   . exact Or.inr ⟨tb,cap,arr,h1,(other tb (cells_ne h2 m.hold.own (by decide)) (cells_ne h2 itb (by decide))).trans h2,h3⟩
 . by_cases e:tg T i=b
   . have hip:i=p:=m.hold.inj hi m.lt (e.trans m.item.symm);subst hip;rw[e,upd_same];show((((W.setCell _ _).setCell _ _).setCell _ _).setCell _ _).heap[b]?=_
     have g0:(W.setCell ⟨h,2,none⟩ (.int .i64 ((c+1:Nat):Int))).heap[b]?=_:=(heap_setCell_other _ _ _ _ (Ne.symm hhb)).trans itb
     have g1:=heap_setCell_same _ b 1 _ _ (.int .i64 r1) g0;have g2:=heap_setCell_same _ b 2 _ _ (.int .i64 r2) g1;rw[heap_setCell_same _ b 3 _ _ _ g2,<-m.key];rfl
   . rw[upd_ne e,other _ (Ne.symm (m.hold.hi hi)) e];exact m.hold.item i hi
 . exact(((((Turn.refl _ W).setCell (p:=⟨h,2,none⟩) (Or.inl rfl) _).setCell (p:=⟨b,1,none⟩) (Or.inr rfl) _).setCell (p:=⟨b,2,none⟩) (Or.inr rfl) _).setCell (p:=⟨b,3,none⟩) (Or.inr rfl) _).drew
theorem Mid.done(m:Mid w h S L c k b W M v T E f p)(ho:Once L c)(hs:Srt L)(hok:∀e∈L,kok e.key)(hk:kok k)(r1 r2:Int){w2 w3:World}{e:Ending}(h2:Holds w2 h M v T (upd E b ⟨k,r1,r2,c+1⟩) (c+1))(t2:Turn (λj=>j=h\/j=b) W w2)
 (hp:SetPost w2 h M v T (upd E b ⟨k,r1,r2,c+1⟩) (c+1) e w3):OpPost (.tuple #[]) w h S (ins ⟨k,r1,r2,c+1⟩ (rem L k)) (c+1) e w3:=by
 obtain⟨rfl,T',hH,hpm,hHp,ht⟩:=hp
 have hkeys:∀x,(upd E b ⟨k,r1,r2,c+1⟩ x).key=(E x).key:=λx=>by
  unfold upd;split
  . rename_i e;rw[e];exact m.key.symm
  . rfl
 have hMb:M≠b:=m.item▸m.hold.mi m.mp m.lt;have hMh:=m.hold.hm m.mp;have mp2:Mp w2 M f T.length:=m.mp.same (t2.block M m.mp.lt (by simp[Ne.symm hMh,hMb]))
 have mp3:Mp w3 M f T.length:=mp2.same (ht.block M mp2.lt (by
  rintro(hl|hl)
  . rcases h2.tree with⟨rfl,_⟩|⟨tb,cap,arr,rfl,g2,_⟩
    . cases hl
    . injection hl with hl
      obtain⟨es,c',hb⟩:=mp2.obj;have hl:tb=M:=hl;rw[← hl,g2] at hb;cases hb
  . obtain⟨i,hi,he⟩:=mem_tg hl;exact h2.mi mp2 hi he.symm))
 have hno:∀e∈rem L k,e.key≠k:=λe he=>(mem_rem.1 he).2;have hone:=(ho.rem k).put k r1 r2 hno;have hpT:(ins ⟨k,r1,r2,c+1⟩ (rem L k)).Perm (T'.map (upd E b ⟨k,r1,r2,c+1⟩)):=(ins_perm _ _).trans ((m.perm _).symm.trans (hpm.map _).symm);refine⟨rfl,Blk h M v T',⟨M,v,T',_,f,⟨hH,by rw[hpm.length_eq];exact mp3,λk' b'=>?_,hpT,?_,hone,hHp,?_⟩,rfl⟩,λj hj=>?_,?_⟩
 . rw[hkeys,hpm.mem_iff];exact m.spot k' b'
 . exact ins_srt _ _ (rem_srt hs k) (λx hx=>by have:=(ho.rem k).le x hx;show x.set≠c+1;omega)
 . intro e he;rcases ins_mem.1 he with rfl|he
   . exact hk
   . exact hok e (mem_rem.1 he).1
 . refine m.sub j ?_;rcases hj with hj|hj|hj|hj
   . exact Or.inl hj
   . exact Or.inr (Or.inl hj)
   . exact Or.inr (Or.inr (Or.inl hj))
   . exact Or.inr (Or.inr (Or.inr (hpm.mem_iff.1 hj)))
 . refine(m.turn.trans t2 (λj hj hS=>?_)).trans ht (λj hj hS=>?_)
   . have:Blk h M v T j:=by
      rcases hS with rfl|rfl
      . exact Or.inl rfl
      . exact Or.inr (Or.inr (Or.inr (m.item▸tg_mem m.lt)))
     exact(m.sub j this).elim id (by omega)
   . have:Blk h M v T j:=by
      rcases hS with h1|h1
      . exact Or.inr (Or.inr (Or.inl h1))
      . exact Or.inr (Or.inr (Or.inr h1))
     exact(m.sub j this).elim id (by omega)
end
end HS
end Go.Proofs.YtdmmciggopmglaaGreatDoor.LF
namespace Go.Proofs.YtdmmciggopmglaaGreatDoor.LF
namespace HS
open Go.RowKit Ht Go.Maps Go.WideMaps
theorem OpPost.before{w w1 w':World}{h c:Nat}{S:Nat->Prop}{L:List (Ent Key)}{r:Value}{e:Ending}(hb:Below w.heap.size w w1)(hp:OpPost r w1 h S L c e w'):OpPost r w h S L c e w':=by
 obtain⟨he,S',h1,h2,h3⟩:=hp;exact⟨he,S',h1,λk hk=>(h2 k hk).imp id (λh=>Nat.le_trans hb.size h),(Turn.of_below (S:=S) hb).trans h3 (λ_ _ h=>h)⟩
set_option maxHeartbeats 2000000 in
set_option maxRecDepth 100000 in
theorem set_any(w:World)(h:Nat)(S:Nat->Prop)(L:List (Ent Key))(c:Nat)(k:Key)(r1 r2:Int)(s:HS w h S L c)(hk:kok k)(hl:L.length<=99999)(hc:c<=9000000):
 Calls Tryz.prog 226 #[.pointer (some ⟨h,0,none⟩),.string k,.agg #[.int .i64 r1,.int .i64 r2]] w (OpPost (.tuple #[]) w h S (ins ⟨k,r1,r2,c+1⟩ (rem L k)) (c+1)):=by
 have B1:=Lib.hid ((Below.refl w.heap.size w).alloc (Nat.le_refl _) (.cells #[.int .i64 r1,.int .i64 r2] 233 (0,0)));have BX:=Lib.hid (heap_alloc_new w (.cells #[.int .i64 r1,.int .i64 r2] 233 (0,0)));have HO:=Lib.hid (And.intro s.once (And.intro s.srt s.ok));have s1:=s.alloc (.cells #[.int .i64 r1,.int .i64 r2] 233 (0,0));have hbS:¬S w.heap.size:=λhs=>by have:=s.lt hs;omega
 obtain⟨M,v,T,E,f,st,rfl⟩:=s1;have FI:=Lib.hid (find_any _ h M T.length f k st.hold.c0 st.mp hk);have hTl:T.length<=99999:=by rw[← st.len];exact hl
 have hsz:w.heap.size < (w.alloc (.cells #[.int .i64 r1,.int .i64 r2] 233 (0,0))).heap.size:=by simp
 obtain⟨w1,hw1⟩:∃w1,w.alloc (.cells #[.int .i64 r1,.int .i64 r2] 233 (0,0))=w1:=⟨_,rfl⟩;rw[hw1] at B1 BX st FI hsz;obtain⟨bx,hbx⟩:∃bx,w.heap.size=bx:=⟨_,rfl⟩;have HBX:=Lib.hid hbx;rw[hbx] at BX hsz hbS;cases hf:f k with
 |some b=>
  rw[hf] at FI;obtain⟨p,m1⟩:=Mid.old st hf;have B2:=BX;have MM:=Lib.hid m1;clear s st hf m1 hTl;go_enter Tryz.func226,Tryz.ntmps226;go_wp2_with fail
  clear hw1 hbx;refine FI.out.mono ?_;rintro e W ⟨rfl,rfl⟩;unfold optr;have m1:=MM.out;obtain⟨W,hW⟩:∃W,w1=W:=⟨_,rfl⟩;subst hW;have hh2:=m1.hold.c2;have hf2:=m1.hold.hfr 2;have i1:=m1.hold.i1 m1.lt;have i2:=m1.hold.i2 m1.lt;have i3:=m1.hold.i3 m1.lt;have g1:=m1.hold.ifr m1.lt 1;have g2:=m1.hold.ifr m1.lt 2;have g3:=m1.hold.ifr m1.lt 3;have hb:=m1.item;rw[hb] at i1 i2 i3 g1 g2 g3;have hhb:h≠b:=hb▸m1.hold.hi m1.lt;have hbb:bx≠b:=λe=>cells_ne B2.out (hb▸m1.hold.item _ m1.lt) (by decide) e;have hbh:bx≠h:=λe=>cells_ne B2.out m1.hold.own (by decide) e;have x0:w1.cell? ⟨bx,0,none⟩=some (.int .i64 r1):=cell_of_row w1 _ 0 _ _ _ B2.out;have x1:w1.cell? ⟨bx,1,none⟩=some (.int .i64 r2):=cell_of_row w1 _ 1 _ _ _ B2.out;have R:=Lib.hid (m1.ranked hc r1 r2);have M1:=Lib.hid m1;have ec:(c:Int)+1=((c+1:Nat):Int):=by omega
  obtain⟨c',hc'⟩:∃c',c'=c+1:=⟨_,rfl⟩;rw[← hc'] at ec R;have HC:=Lib.hid hc';have hcb:c'<=10000000:=by omega
  clear m1 hb hc';go_wp2_with fail
  go_region;generalize((((w1.setCell ⟨h,2,none⟩ (.int .i64 (c':Int))).setCell ⟨b,1,none⟩ (.int .i64 r1)).setCell ⟨b,2,none⟩ (.int .i64 r2)).setCell ⟨b,3,none⟩ (.int .i64 (c':Int))).drew=w2 at R|-;clear hh2 hf2 i1 i2 i3 g1 g2 g3 x0 x1;go_wp2_with fail
  have hdis:Dis T (upd E b ⟨k,r1,r2,c'⟩):=by
   have:=(M1.out.perm ⟨k,r1,r2,c'⟩).map (·.set);unfold Dis;rw[List.map_map] at this;refine this.nodup_iff.2 (List.nodup_cons.2 ⟨λhm=>?_,(HO.out.1.rem k).sets⟩);obtain⟨e,he,hes⟩:=List.mem_map.1 hm;have h1:=(HO.out.1.rem k).le e he;have h2:e.set=c':=hes;have:=HC.out;omega
  refine(settle_any w2 h M v T (upd E b ⟨k,r1,r2,c'⟩) c' b p ⟨R.out.1,List.Perm.refl _,hdis,M1.out.lt,M1.out.item,Turn.refl _ _⟩ (M1.out.up _)).mono ?_;intro e w3 hp;have P3:=Lib.hid hp;obtain rfl:=hp.1;clear hp;go_wp2_with fail
  first|go_end0|refine bodyPost_ret (results_none rfl _ _ _) rfl ?_
  have hc':=HC.out;subst hc';exact OpPost.before B1.out (M1.out.done HO.out.1 HO.out.2.1 HO.out.2.2 hk r1 r2 R.out.1 R.out.2 P3.out)
 |none=>
  rw[hf] at FI;have AD:=Lib.hid (add_any w1 h M v T E f c k st.hold st.mp hTl hk hf);have ST:=Lib.hid st;have HF:=Lib.hid hf;clear s st hf hTl;go_enter Tryz.func226,Tryz.ntmps226;go_wp2_with fail
  clear hw1 hbx;refine FI.out.mono ?_;rintro e W ⟨rfl,rfl⟩;unfold optr;go_wp2_with fail
  refine AD.out.mono ?_;rintro e W ⟨v',rfl,hH2,hM2,hT2,hloc⟩;have B2:=Lib.hid ((hT2.block bx hsz hbS).trans BX.out);have m1:=Mid.new ST.out HF.out hH2 hM2 hT2 hloc;clear hH2 hM2 hT2 hloc AD;generalize T.length=p at m1;generalize T++ [w1.heap.size]=T at m1;generalize upd E w1.heap.size ⟨k,0,0,0⟩=E at m1;generalize w1.heap.size=b at m1|-;generalize v'=v at m1;have hh2:=m1.hold.c2;have hf2:=m1.hold.hfr 2;have i1:=m1.hold.i1 m1.lt;have i2:=m1.hold.i2 m1.lt;have i3:=m1.hold.i3 m1.lt;have g1:=m1.hold.ifr m1.lt 1;have g2:=m1.hold.ifr m1.lt 2;have g3:=m1.hold.ifr m1.lt 3;have hb:=m1.item;rw[hb] at i1 i2 i3 g1 g2 g3;have hhb:h≠b:=hb▸m1.hold.hi m1.lt;have hbb:bx≠b:=λe=>cells_ne B2.out (hb▸m1.hold.item _ m1.lt) (by decide) e;have hbh:bx≠h:=λe=>cells_ne B2.out m1.hold.own (by decide) e;have x0:W.cell? ⟨bx,0,none⟩=some (.int .i64 r1):=cell_of_row W _ 0 _ _ _ B2.out;have x1:W.cell? ⟨bx,1,none⟩=some (.int .i64 r2):=cell_of_row W _ 1 _ _ _ B2.out;have R:=Lib.hid (m1.ranked hc r1 r2);have M1:=Lib.hid m1;have ec:(c:Int)+1=((c+1:Nat):Int):=by omega
  obtain⟨c',hc'⟩:∃c',c'=c+1:=⟨_,rfl⟩;rw[← hc'] at ec R;have HC:=Lib.hid hc';have hcb:c'<=10000000:=by omega
  clear m1 hb hc';go_wp2_with fail
  go_region;generalize((((W.setCell ⟨h,2,none⟩ (.int .i64 (c':Int))).setCell ⟨b,1,none⟩ (.int .i64 r1)).setCell ⟨b,2,none⟩ (.int .i64 r2)).setCell ⟨b,3,none⟩ (.int .i64 (c':Int))).drew=w2 at R|-;clear hh2 hf2 i1 i2 i3 g1 g2 g3 x0 x1;go_wp2_with fail
  have hdis:Dis T (upd E b ⟨k,r1,r2,c'⟩):=by
   have:=(M1.out.perm ⟨k,r1,r2,c'⟩).map (·.set);unfold Dis;rw[List.map_map] at this;refine this.nodup_iff.2 (List.nodup_cons.2 ⟨λhm=>?_,(HO.out.1.rem k).sets⟩);obtain⟨e,he,hes⟩:=List.mem_map.1 hm;have h1:=(HO.out.1.rem k).le e he;have h2:e.set=c':=hes;have:=HC.out;omega
  refine(settle_any w2 h M v T (upd E b ⟨k,r1,r2,c'⟩) c' b p ⟨R.out.1,List.Perm.refl _,hdis,M1.out.lt,M1.out.item,Turn.refl _ _⟩ (M1.out.up _)).mono ?_;intro e w3 hp;have P3:=Lib.hid hp;obtain rfl:=hp.1;clear hp;go_wp2_with fail
  first|go_end0|refine bodyPost_ret (results_none rfl _ _ _) rfl ?_
  have hc':=HC.out;subst hc';exact OpPost.before B1.out (M1.out.done HO.out.1 HO.out.2.1 HO.out.2.2 hk r1 r2 R.out.1 R.out.2 P3.out)
end HS
end Go.Proofs.YtdmmciggopmglaaGreatDoor.LF
namespace Go.Proofs.YtdmmciggopmglaaGreatDoor.LF
namespace HS
open Go.RowKit Ht Go.Maps Go.WideMaps
theorem neq_same(w:World)(b:Nat):(binOp .neq 240 (.pointer (some ⟨b,0,none⟩)) (.pointer (some ⟨b,0,none⟩))).run Tryz.prog w= .ok (.bool false) w:=by
 obtain⟨j,hj⟩:∃j,Tryz.prog.info? 243=some j:=Option.isSome_iff_exists.1 (by kernel_rfl)
 have h:∀d:Nat,(Op.equalIn (d+1) 240 (.pointer (some ⟨b,0,none⟩)) (.pointer (some ⟨b,0,none⟩))).run Tryz.prog w= .ok true w:=λd=>by
  simp[Op.equalIn,run_underlying Tryz.underlying240,sizeOf,typeInfo,hj,run_sameAddr_same]
 simp only[binOp];simp[Op.equal,Op.maxDepth,h 9999]
theorem infoI:(Tryz.prog.info? 243).map (λi=>i.size)=some 5:=by kernel_rfl
theorem neq_other(w:World)(a b:Nat)(e e':Ent Key)(i i':Nat)(hne:a≠b)(ha:w.heap[a]?=some (itemOf e i))(hb:w.heap[b]?=some (itemOf e' i')):(binOp .neq 240 (.pointer (some ⟨a,0,none⟩)) (.pointer (some ⟨b,0,none⟩))).run Tryz.prog w= .ok (.bool true) w:=by
 obtain⟨j,hj,hs⟩:=Option.map_eq_some_iff.1 infoI
 have h:∀d:Nat,(Op.equalIn (d+1) 240 (.pointer (some ⟨a,0,none⟩)) (.pointer (some ⟨b,0,none⟩))).run Tryz.prog w= .ok false w:=λd=>by
  simp[Op.equalIn,run_underlying Tryz.underlying240,sizeOf,typeInfo,hj,show j.size≠0 by omega,run_sameAddr_other w (a:=⟨a,0,none⟩) (b:=⟨b,0,none⟩) (by intro e;injection e with e;exact hne e) ha hb]
 simp only[binOp];simp[Op.equal,Op.maxDepth,h 9999]
theorem tg_take{T:List Nat}{m i:Nat}(hi:i < m):tg (T.take m) i=tg T i:=by
 unfold tg;rw[List.getD_eq_getElem?_getD,List.getD_eq_getElem?_getD,List.getElem?_take,if_pos hi]
theorem Holds.cut{w:World}{h M c tb cap m:Nat}{T:List Nat}{E:Nat->Ent Key}(H:Holds w h M (.slice (some ⟨tb,0,none⟩) (m+1) cap) T E c)(hm:T.length=m+1):
 Holds ((w.setCell ⟨tb,m,none⟩ (.pointer none)).setCell ⟨h,1,none⟩ (.slice (some ⟨tb,0,none⟩) m cap)) h M (.slice (some ⟨tb,0,none⟩) m cap) (T.take m) E c:=by
 obtain⟨_,arr,h2,h3,h4,h5,h6⟩:=H.tree.tl;have ht:h≠tb:=cells_ne H.own h2 (by decide);have hl:(T.take m).length=m:=by rw[List.length_take];omega
 have hown:(w.setCell ⟨tb,m,none⟩ (.pointer none)).heap[h]?=some (heapOf M (.slice (some ⟨tb,0,none⟩) (m+1) cap) c):=(heap_setCell_other _ _ _ _ ht).trans H.own
 refine⟨?_,?_,λi hi=>?_,by rw[hl];have:=H.top;omega,H.ctop⟩
 . rw[heap_setCell_same _ _ _ _ _ _ hown];rfl
 . refine Or.inr ⟨tb,cap,arr.setIfInBounds m (.pointer none),by rw[hl],?_,by simpa using h3,by omega,h5,λi hi=>?_⟩
   . rw[heap_setCell_other _ _ _ _ (Ne.symm ht),heap_setCell_same _ _ _ _ _ _ h2]
   . rw[hl] at hi;rw[Array.getElem?_setIfInBounds_ne (by omega),tg_take hi];exact h6 i (by omega)
 . rw[hl] at hi;have hne:tg T i≠tb:=cells_ne (H.item i (by omega)) h2 (by decide);rw[tg_take hi,heap_setCell_other _ _ _ _ (Ne.symm (H.hi (i:=i) (by omega))),heap_setCell_other _ _ _ _ hne];exact H.item i (by omega)
section
variable{w:World}{h M c m p b:Nat}{v:Value}{T:List Nat}{E:Nat->Ent Key}{f:Key->Option Nat}{L:List (Ent Key)}
theorem St.left(s:St w h M v T E f L c)(hm:T.length=m+1)(hp:p < T.length)(hb:tg T p=b):
 ((tsw T p m).take m++ [b]=tsw T p m)/\(rem L (E b).key).Perm (((tsw T p m).take m).map E)/\b∉(tsw T p m).take m:=by
 have hlen:(tsw T p m).length=m+1:=by rw[tsw_len,hm]
 have hlast:tg (tsw T p m) m=b:=by rw[tg_tsw hp (by omega),if_pos rfl];exact hb
 have h1:(tsw T p m).take m++ [b]=tsw T p m:=by
  have h2:=List.take_append_drop m (tsw T p m)
  have h3:(tsw T p m).drop m= [b]:=by
   have h4:=tg_get (T:=tsw T p m) (i:=m) (by omega);rw[hlast] at h4;apply List.ext_getElem?;intro i;rw[List.getElem?_drop];cases i with
   |zero=>simpa using h4
   |succ i=>rw[List.getElem?_eq_none (by omega)];simp
  rw[h3] at h2;exact h2
 have hpm:=tsw_perm hp (show m < T.length by omega);have hnd:=(hpm.nodup_iff).2 s.hold.nodup
 have hnb:b∉(tsw T p m).take m:=by
  rw[← h1] at hnd;have:=List.nodup_append.1 hnd;exact λhm=>this.2.2 b hm b (by simp) rfl
 refine⟨h1,?_,hnb⟩
 have hpE:L.Perm (E b::((tsw T p m).take m).map E):=by
  refine s.perm.trans ((hpm.symm.map E).trans ?_);rw[← h1,List.map_append,List.map_singleton];rw[h1];exact List.perm_append_comm
 have ho:=s.once.perm hpE;rw[← ho.rem_cons];exact hpE.filter _
theorem St.taken(s:St w h M v T E f L c)(hm:T.length=m+1)(hp:p < T.length)(hb:tg T p=b){v':Value}{T':List Nat}{w':World}(hv:v'.ownBlock=v.ownBlock)(hT':T'.Perm ((tsw T p m).take m))(hH:Holds w' h M v' T' E c)(hM:Mp w' M (fdel f (E b).key) m)(hHp:Hp T'.length (ord T' E))(ht:Turn (Blk h M v T) w w'):
 OpPost (.tuple #[]) w h (Blk h M v T) (rem L (E b).key) c (.returned (.tuple #[])) w':=by
 obtain⟨h1,h2,h3⟩:=s.left hm hp hb
 have hmem:∀x,x∈T'<->x∈T/\x≠b:=λx=>by
  have hx1:x∈tsw T p m<->x∈(tsw T p m).take m\/x=b:=by
   have:=congrArg (λl=>x∈l) h1;simp only[List.mem_append,List.mem_singleton] at this;exact⟨λh=>this.symm▸h,λh=>this▸h⟩
  rw[hT'.mem_iff,<-(tsw_perm hp (show m < T.length by omega)).mem_iff,hx1];constructor
  . intro hx;exact⟨Or.inl hx,λe=>h3 (e▸hx)⟩
  . rintro⟨hx|hx,hne⟩
    . exact hx
    . exact absurd hx hne
 have hbT:b∈T:=hb▸tg_mem hp;have hTl:T'.length=m:=by rw[hT'.length_eq,List.length_take,tsw_len];omega
 refine⟨rfl,Blk h M v' T',⟨M,v',T',E,fdel f (E b).key,⟨hH,by rw[hTl];exact hM,λk' b'=>?_,h2.trans (hT'.map E).symm,rem_srt s.srt _,s.once.rem _,hHp,λe he=>s.ok e (mem_rem.1 he).1⟩,rfl⟩,λj hj=>?_,ht⟩
 . unfold fdel;rw[hmem]
   by_cases e:k'=(E b).key
   . rw[if_pos e];constructor
     . intro h;cases h
     . rintro⟨⟨g1,g2⟩,g3⟩;have:=(s.spot k' b').2 ⟨g1,g3⟩;rw[(s.spot k' b).2 ⟨hbT,e.symm⟩] at this;exact absurd (Option.some.inj this).symm g2
   . rw[if_neg e,s.spot];constructor
     . rintro⟨g1,g2⟩;exact⟨⟨g1,λeb=>e (by rw[← g2,eb])⟩,g2⟩
     . rintro⟨⟨g1,_⟩,g3⟩;exact⟨g1,g3⟩
 . left;rcases hj with hj|hj|hj|hj
   . exact Or.inl hj
   . exact Or.inr (Or.inl hj)
   . exact Or.inr (Or.inr (Or.inl (hv▸hj)))
   . exact Or.inr (Or.inr (Or.inr ((hmem j).1 hj).1))
theorem St.up(s:St w h M v T E f L c)(hm:T.length=m+1)(hp:p < m):Up ((tsw T p m).take m).length (ord ((tsw T p m).take m) E) p:=by
 have hl:((tsw T p m).take m).length=m:=by rw[List.length_take,tsw_len];omega
 rw[hl];refine Up.of s.hp (by omega) (λi hi hne=>?_);unfold ord;rw[tg_take hi,tg_tsw (by omega) (by omega),if_neg (by omega),if_neg hne]
theorem St.hpCut(s:St w h M v T E f L c)(hm:T.length=m+1):Hp ((tsw T m m).take m).length (ord ((tsw T m m).take m) E):=by
 have hl:((tsw T m m).take m).length=m:=by rw[List.length_take,tsw_len];omega
 rw[hl];intro i hi hin;unfold ord;rw[tg_take hin,tg_take (by omega),tg_tsw (by omega) (by omega),tg_tsw (by omega) (by omega),if_neg (by omega),if_neg (by omega),if_neg (by omega),if_neg (by omega)];exact s.hp i hi (by omega)
end
end HS
end Go.Proofs.YtdmmciggopmglaaGreatDoor.LF
namespace Go.Proofs.YtdmmciggopmglaaGreatDoor.LF
namespace HS
open Go.RowKit Ht Go.Maps Go.WideMaps
theorem Holds.same2{w w':World}{h M c:Nat}{v:Value}{T:List Nat}{E:Nat->Ent Key}(H:Holds w h M v T E c)(h1:w'.heap[h]?=w.heap[h]?)(h2:∀k,v.ownBlock=some k->w'.heap[k]?=w.heap[k]?)(h3:∀k∈T,w'.heap[k]?=w.heap[k]?):Holds w' h M v T E c:=by
 refine⟨h1.trans H.own,?_,λi hi=>(h3 _ (tg_mem hi)).trans (H.item i hi),H.top,H.ctop⟩;rcases H.tree with hz|⟨tb,cap,arr,rfl,g2,g3⟩
 . exact Or.inl hz
 . exact Or.inr ⟨tb,cap,arr,rfl,(h2 tb rfl).trans g2,g3⟩
theorem Holds.grownM{w w':World}{h M c n:Nat}{v:Value}{T:List Nat}{E:Nat->Ent Key}{f:Key->Option Nat}(H:Holds w h M v T E c)(hM:Mp w M f n)(hg:w.grownBy w' (some M)):Holds w' h M v T E c:=by
 refine H.same2 (hg.block h H.hlt (by simpa using H.hm hM)) (λk hk=>?_) (λk hk=>?_)
 . rcases H.tree with⟨rfl,_⟩|⟨tb,cap,arr,rfl,g2,g3⟩
   . cases hk
   . cases hk;refine hg.block tb (Array.getElem?_eq_some_iff.1 g2).1 ?_;obtain⟨es,c',hb⟩:=hM.obj;intro e;injection e with e;rw[← e,g2] at hb;cases hb
 . obtain⟨i,hi,rfl⟩:=mem_tg hk;exact hg.block _ (H.ilt hi) (by simpa using Ne.symm (H.mi hM hi))
set_option maxHeartbeats 2000000 in
set_option maxRecDepth 100000 in
theorem takeOff_any(w:World)(h M:Nat)(v:Value)(T:List Nat)(E:Nat->Ent Key)(f:Key->Option Nat)(L:List (Ent Key))(c b p:Nat)(s:St w h M v T E f L c)(hp:p < T.length)(hb:tg T p=b):
 Calls Tryz.prog 228 #[.pointer (some ⟨h,0,none⟩),.pointer (some ⟨b,0,none⟩)] w (OpPost (.tuple #[]) w h (Blk h M v T) (rem L (E b).key) c):=by
 obtain⟨tb,cap,rfl,hc1,hc2,arr,h2,h3,h6⟩:=s.hold.at (by omega);obtain⟨m,hm⟩:∃m,T.length=m+1:=⟨T.length - 1,by omega⟩;have hlast:w.cell? ⟨tb,m,none⟩=some (.pointer (some ⟨tg T m,0,none⟩)):=(cell_of_row w _ _ _ _ _ h2).trans (h6 m (by omega));have c1:=s.hold.c1;have i4:=s.hold.i4 hp;have ht:=s.hold.top;rw[hb] at i4;rw[hm] at c1 hc1 ht;have em:((m+1:Nat):Int) - 1=(m:Int):=by omega
 have SW:=Lib.hid (swap_any w h M (.slice (some ⟨tb,0,none⟩) T.length cap) T E c p m s.hold hp (by omega));have HS:=Lib.hid s;have HB:=Lib.hid hb;have HM:=Lib.hid hm;have HP:=Lib.hid hp;have F:=Lib.hid (λw=>findable_any w (E b).key);have mlt:=s.mp.lt;unfold maxLen at hc2;obtain⟨key,hkey⟩:∃k,(E b).key=k:=⟨_,rfl⟩;have HK:=Lib.hid hkey;have hok:kok key:=hkey▸s.ok _ (s.mem (hb▸tg_mem hp));obtain⟨lb,hlb⟩:∃x,tg T m=x:=⟨_,rfl⟩;have HLB:=Lib.hid hlb;rw[hlb] at hlast;rw[hkey] at F;clear h2 h3 h6 s hb hp hkey hlb;go_enter Tryz.func228,Tryz.ntmps228;go_wp2_with fail
 refine SW.out.mono ?_;rintro e w1 ⟨rfl,hH1,hT1⟩;clear c1 i4 hlast;have hl1:(tsw T p m).length=m+1:=by rw[tsw_len];exact HM.out
 rw[hm] at hH1
 have hb1:w1.heap[b]?=some (itemOf (E b) m):=by
  have:=hH1.item m (by omega);rw[tg_tsw HP.out (by omega),if_pos rfl,HB.out] at this;exact this
 obtain⟨_,arr1,g2,g3,g4,g5,g6⟩:=hH1.tree.tl;have c0:=hH1.c0;have c1:=hH1.c1;have t1:w1.cell? ⟨tb,m,none⟩=some (.pointer (some ⟨tg (tsw T p m) m,0,none⟩)):=(cell_of_row w1 _ _ _ _ _ g2).trans (g6 m (by omega));have f1:w1.frozen? ⟨tb,m,none⟩=false:=frozen_of_row w1 _ _ _ _ g2;have f2:=hH1.hfr 1;have k0:w1.cell? ⟨b,0,none⟩=some (.string key):=by rw[← HK.out];exact cell_of_row w1 _ 0 _ _ _ hb1
 have hMlow:¬Low (.slice (some ⟨tb,0,none⟩) T.length cap) T M:=by
  rintro(hl|hl)
  . injection hl with hl
    have hl:tb=M:=hl;have:=HS.out.mp.obj;obtain⟨es,c',hq⟩:=this;obtain⟨_,arr0,q2,_⟩:=HS.out.hold.tree.tl;rw[← hl,q2] at hq;cases hq
  . obtain⟨i,hi,he⟩:=mem_tg hl;exact HS.out.hold.mi HS.out.mp hi he.symm
 have mp1:Mp w1 M f (m+1):=by have:=HS.out.mp.same (hT1.block M mlt hMlow);rw[HM.out] at this;exact this
 have nbh:b≠h:=cells_ne hb1 hH1.own (by decide);have nbt:b≠tb:=cells_ne hb1 g2 (by decide);have nht:h≠tb:=cells_ne hH1.own g2 (by decide);have hH3:=hH1.cut hl1;have nMh:=Ne.symm (hH1.hm mp1)
 have nMt:M≠tb:=by
  obtain⟨es,c',hq⟩:=mp1.obj;intro e;rw[e,g2] at hq;cases hq
 have nMb:M≠b:=by
  obtain⟨es,c',hq⟩:=mp1.obj;intro e;rw[e,hb1] at hq;cases hq
 have mp3:Mp ((w1.setCell ⟨tb,m,none⟩ (.pointer none)).setCell ⟨h,1,none⟩ (.slice (some ⟨tb,0,none⟩) m cap)) M f (m+1):=mp1.same (by rw[heap_setCell_other _ _ _ _ nMh,heap_setCell_other _ _ _ _ nMt]);have hb3:((w1.setCell ⟨tb,m,none⟩ (.pointer none)).setCell ⟨h,1,none⟩ (.slice (some ⟨tb,0,none⟩) m cap)).heap[b]?=some (itemOf (E b) m):=by rw[heap_setCell_other _ _ _ _ nbh,heap_setCell_other _ _ _ _ nbt];exact hb1
 have T3:=Lib.hid (((hT1.wide (S':=Blk h M (.slice (some ⟨tb,0,none⟩) T.length cap) T) (λj _ hj=>Or.inr (Or.inr hj))).setCell (p:=⟨tb,m,none⟩) (Or.inr (Or.inr (Or.inl rfl))) (.pointer none)).setCell (p:=⟨h,1,none⟩) (Or.inl rfl) (.slice (some ⟨tb,0,none⟩) m cap));have H3:=Lib.hid hH3;have M3:=Lib.hid mp3;have B3:=Lib.hid hb3;clear hH1 hT1 hb1 g2 g3 g4 g5 g6 hH3 mp1 mp3 hb3 hMlow;have HL1:=Lib.hid hl1;clear hl1;go_wp2_with fail
 refine(F.out _).mono ?_;rintro e w' ⟨rfl,rfl⟩;clear c0 c1 t1 f1 f2 k0;generalize(w1.setCell ⟨tb,m,none⟩ (.pointer none)).setCell ⟨h,1,none⟩ (.slice (some ⟨tb,0,none⟩) m cap)=w3 at T3 H3 M3 B3|-;have c0:=H3.out.c0;have k0:w3.cell? ⟨b,0,none⟩=some (.string key):=by rw[← HK.out];exact cell_of_row w3 _ 0 _ _ _ B3.out
 have hfs:(f key).isSome=true:=by rw[← HK.out,(HS.out.spot (E b).key b).2 ⟨HB.out▸tg_mem HP.out,rfl⟩];rfl
 obtain⟨w4,hd4,hM4,hg4⟩:=Mp.drop (w:=w3.drew) (M3.out.same rfl) hok hfs 0;have hd:∀ty,(Builtin.delete_ #[178,9] ty #[.map (some M),.string key]).run Tryz.prog w3.drew= .ok (.tuple #[]) w4:=λ_=>hd4;have hH4:=Holds.grownM (w:=w3.drew) (H3.out.same2 rfl (λ_ _=>rfl) (λ_ _=>rfl)) (M3.out.same rfl) hg4;have hb4:w4.heap[b]?=some (itemOf (E b) m):=(hg4.block b (Array.getElem?_eq_some_iff.1 B3.out).1 (by simpa using Ne.symm nMb)).trans B3.out
 have T4:=Lib.hid (T3.out.drew.grown hg4 (λj hj=>by cases hj;exact Or.inl (Or.inr (Or.inl rfl))));have H4:=Lib.hid hH4;have B4:=Lib.hid hb4;have M4:=Lib.hid hM4;clear hd4 hM4 hg4 hH4 hb4 T3 H3 M3 B3 hfs;go_wp2_with fail
 go_region;clear hd c0 k0
 by_cases hpm:p=m
 . have hlbb:lb=b:=by rw[← HLB.out,<-HB.out,hpm]
   subst hlbb;have hq:=neq_same w4 lb;go_wp2_with fail
   go_end0;have hs:=HS.out;have e1:=HK.out;subst hpm;exact hs.taken HM.out HP.out HB.out (v':= .slice (some ⟨tb,0,none⟩) p cap) rfl (List.Perm.refl _) H4.out (by rw[e1];exact M4.out) (hs.hpCut HM.out) T4.out
 . have hpl:p < m:=by have:=HP.out;have:=HM.out;omega
   have hlen2:((tsw T p m).take m).length=m:=by rw[List.length_take,HL1.out];omega
   have htp:tg ((tsw T p m).take m) p=lb:=by
    rw[tg_take hpl,tg_tsw HP.out (by omega),if_neg hpm,if_pos rfl];exact HLB.out
   have hlb4:w4.heap[lb]?=some (itemOf (E lb) p):=by
    have:=H4.out.item p (by rw[hlen2];exact hpl);rw[htp] at this;exact this
   have hne:lb≠b:=λe=>hpm (HS.out.hold.inj HP.out (by omega) (by rw[HB.out,HLB.out,e]));have hq:=neq_other w4 lb b _ _ _ _ hne hlb4 B4.out;have HTP:=Lib.hid htp;have HL2:=Lib.hid hlen2;clear htp hlen2 hlb4 hm;go_wp2_with fail
   refine(settle_any w4 h M _ _ E c lb p ⟨H4.out,List.Perm.refl _,?_,by rw[HL2.out];exact hpl,HTP.out,Turn.refl _ _⟩ (HS.out.up HM.out hpl)).mono ?_
   . have:=HS.out.dis.sw HP.out (show m < T.length by have:=HM.out;omega);exact this.sublist ((List.take_sublist _ _).map _)
   rintro e w5 ⟨rfl,T',hH5,hT5,hHp5,ht5⟩;have R5:=Lib.hid (And.intro hH5 (And.intro hT5 (And.intro hHp5 ht5)));clear hH5 hT5 hHp5 ht5 hq;go_wp2_with fail
   first|go_end0|refine bodyPost_ret (results_none rfl _ _ _) rfl ?_
   have hs:=HS.out;have e1:=HK.out;obtain⟨hH5,hT5,hHp5,ht5⟩:=R5.out
   have hMlow:¬Low (.slice (some ⟨tb,0,none⟩) m cap) ((tsw T p m).take m) M:=by
    rintro(hl|hl)
    . injection hl with hl
      exact nMt hl.symm
    . obtain⟨i,hi,he⟩:=mem_tg hl;exact H4.out.mi M4.out hi he.symm
   refine hs.taken HM.out HP.out HB.out (v':= .slice (some ⟨tb,0,none⟩) m cap) rfl hT5 hH5 (by rw[e1];exact M4.out.same (ht5.block M M4.out.lt hMlow)) hHp5 (T4.out.trans ht5 (λj _ hj=>?_));rcases hj with hj|hj
   . exact Or.inr (Or.inr (Or.inl hj))
   . exact Or.inr (Or.inr (Or.inr ((tsw_perm HP.out (show m < T.length by have:=HM.out;omega)).mem_iff.1 (List.mem_of_mem_take hj))))
end HS
end Go.Proofs.YtdmmciggopmglaaGreatDoor.LF
namespace Go.Proofs.YtdmmciggopmglaaGreatDoor.LF
open Go.RowKit Ht Go.Maps Go.WideMaps
theorem loadR(w:World)(b:Nat)(r1 r2:Value)(h0:w.cell? ⟨b,0,none⟩=some r1)(h1:w.cell? ⟨b,1,none⟩=some r2):(loadVar 233 ⟨b,0,none⟩).run Tryz.prog w= .ok (.agg #[r1,r2]) w:=by
 have a1:=Tryz.isAgg233;have z1:=Tryz.sizeOf233;unfold loadVar;go_simp
theorem results_cell1{fn:Func}{a u:Tmp}{ty:TypeId}(h:fn.results= #[.cell a ty,.tmp u])(tmps:Array Value)(P:Program)(w:World)(p:Addr)(v:Value)(ha:tmps.getD a undef= .pointer (some p))(hv:(loadVar ty p).run P w= .ok v w):
 (results fn tmps).run P w= .ok (.tuple #[v,tmps.getD u undef]) w:=by
 rw[Array.getD_eq_getD_getElem?] at ha;simp[results,h,ha,asAddr,hv]
theorem results_cell2{fn:Func}{a u z:Tmp}{ty:TypeId}(h:fn.results= #[.tmp z,.cell a ty,.tmp u])(tmps:Array Value)(P:Program)(w:World)(p:Addr)(v:Value)(ha:tmps.getD a undef= .pointer (some p))(hv:(loadVar ty p).run P w= .ok v w):
 (results fn tmps).run P w= .ok (.tuple #[tmps.getD z undef,v,tmps.getD u undef]) w:=by
 rw[Array.getD_eq_getD_getElem?] at ha;simp[results,h,ha,asAddr,hv]
end Go.Proofs.YtdmmciggopmglaaGreatDoor.LF
namespace Go.Proofs.YtdmmciggopmglaaGreatDoor.LF
namespace HS
open Go.RowKit Ht Go.Maps Go.WideMaps
def NewPost(w:World)(e:Ending)(w':World):Prop:=∃h S,e= .returned (.pointer (some ⟨h,0,none⟩))/\HS w' h S [] 0/\(∀k,S k->w.heap.size<=k)/\Below w.heap.size w w'
theorem new_any(w:World):Calls Tryz.prog 67 #[] w (NewPost w):=by
 have hmm:=@run_makeMap Tryz.prog;go_enter Tryz.func67,Tryz.ntmps67;go_wp2_with fail
 go_ret;clear hmm;have m1:=Mp.made w;have hs:(w.alloc (.map #[] 0)).heap.size=w.heap.size+1:=by simp
 have b2:=heap_alloc_new (w.alloc (.map #[] 0)) (heapOf w.heap.size (.slice none 0 0) 0);rw[hs] at b2;refine⟨w.heap.size+1,Blk (w.heap.size+1) w.heap.size (.slice none 0 0) [],rfl,⟨w.heap.size,.slice none 0 0,[],λ_=>⟨⟨#[]⟩,0,0,0⟩,λ_=>none,⟨⟨b2,Or.inl ⟨rfl,rfl⟩,λi hi=>absurd hi (by simp),by simp,by omega⟩,m1.same (Below.heap_alloc _ _ _ (by rw[hs];omega)),λk b=>by simp,List.Perm.refl _,List.Pairwise.nil,⟨List.nodup_nil,List.nodup_nil,by simp⟩,λi _ hi=>absurd hi (by simp),by simp⟩,rfl⟩,?_,?_⟩
 . rintro k (rfl|rfl|hk|hk)
   . omega
   . exact Nat.le_refl _
   . cases hk
   . cases hk
 . exact((Below.refl _ _).alloc (Nat.le_refl _) _).alloc (by rw[hs];omega) _
theorem len_any(w:World)(h:Nat)(S:Nat->Prop)(L:List (Ent Key))(c:Nat)(s:HS w h S L c):
 Calls Tryz.prog 220 #[.pointer (some ⟨h,0,none⟩)] w (IntPost (L.length:Int) w):=by
 obtain⟨M,v,T,E,f,st,rfl⟩:=s;have c1:=st.hold.c1;obtain⟨a,cap,hv⟩:=st.hold.tlen;rw[hv,<-st.len] at c1;clear st hv;go_enter Tryz.func220,Tryz.ntmps220;go_wp2_with fail
 go_ret;exact⟨rfl,rfl⟩
theorem two_stored{w:World}{b:Nat}{x y:Value}{t:TypeId}(hb:w.heap[b]?=some (.cells #[x,y] t (0,0)))(u v:Value):
 ((w.setCell ⟨b,0,none⟩ u).setCell ⟨b,1,none⟩ v).cell? ⟨b,0,none⟩=some u/\((w.setCell ⟨b,0,none⟩ u).setCell ⟨b,1,none⟩ v).cell? ⟨b,1,none⟩=some v:=by
 have h1:=heap_setCell_same _ b 1 _ _ v (heap_setCell_same _ b 0 _ _ u hb);exact⟨cell_of_row _ _ 0 _ _ _ h1,cell_of_row _ _ 1 _ _ _ h1⟩
def rankV(o:Option (Ent Key)):Value:=match o with
 |some e=> .tuple #[.agg #[.int .i64 e.one,.int .i64 e.two],.bool true]
 |none=> .tuple #[.agg #[.int .i64 0,.int .i64 0],.bool false]
def ValBelow(r:Value)(w:World)(e:Ending)(w':World):Prop:=e= .returned r/\Below w.heap.size w w'
set_option maxHeartbeats 1000000 in
theorem rank_any(w:World)(h:Nat)(S:Nat->Prop)(L:List (Ent Key))(c:Nat)(k:Key)(s:HS w h S L c)(hk:kok k):
 Calls Tryz.prog 218 #[.pointer (some ⟨h,0,none⟩),.string k] w (ValBelow (rankV (find L k)) w):=by
 obtain⟨M,v,T,E,f,st,rfl⟩:=s;have hlook:=st.look k;have hhlt:=st.hold.hlt;cases hf:f k with
 |none=>
  rw[hf] at hlook;rw[← hlook];obtain⟨w1,hw1⟩:∃w1,w.alloc (.cells #[.int .i64 0,.int .i64 0] 233 (0,0))=w1:=⟨_,rfl⟩;have B1:=Lib.hid ((Below.refl w.heap.size w).alloc (Nat.le_refl _) (.cells #[.int .i64 0,.int .i64 0] 233 (0,0)));have BX:=heap_alloc_new w (.cells #[.int .i64 0,.int .i64 0] 233 (0,0));have st1:=st.same (w':=w.alloc (.cells #[.int .i64 0,.int .i64 0] 233 (0,0))) (λk hk=>Below.heap_alloc _ _ _ (st.hold.blt st.mp hk));have FI:=Lib.hid (find_any _ h M T.length f k st1.hold.c0 st1.mp hk);rw[hf,hw1] at FI;rw[hw1] at B1 BX;obtain⟨bx,hbx⟩:∃bx,w.heap.size=bx:=⟨_,rfl⟩;rw[hbx] at BX;have x0:w1.cell? ⟨bx,0,none⟩=some (.int .i64 0):=cell_of_row w1 _ 0 _ _ _ BX;have x1:w1.cell? ⟨bx,1,none⟩=some (.int .i64 0):=cell_of_row w1 _ 1 _ _ _ BX;have g0:w1.frozen? ⟨bx,0,none⟩=false:=frozen_of_row w1 _ 0 _ _ BX;have g1:w1.frozen? ⟨bx,1,none⟩=false:=frozen_of_row w1 _ 1 _ _ BX;have HBX:=Lib.hid hbx;have LR:=Lib.hid (loadR _ bx _ _ (two_stored BX (.int .i64 0) (.int .i64 0)).1 (two_stored BX (.int .i64 0) (.int .i64 0)).2);clear st st1 hlook hf BX;go_enter Tryz.func218,Tryz.ntmps218;go_wp2_with fail
  refine FI.out.mono ?_;rintro e W ⟨rfl,rfl⟩;clear hw1 hbx;unfold optr;go_wp2_with fail
  refine bodyPost_ret (results_cell1 rfl _ _ _ ⟨bx,0,none⟩ _ rfl LR.out) rfl ?_;refine⟨rfl,?_⟩;exact(B1.out.setCell (p:=⟨bx,0,none⟩) (Nat.le_of_eq HBX.out) _).setCell (p:=⟨bx,1,none⟩) (Nat.le_of_eq HBX.out) _
 |some b=>
  rw[hf,Option.map_some] at hlook;rw[← hlook];obtain⟨w1,hw1⟩:∃w1,w.alloc (.cells #[.int .i64 0,.int .i64 0] 233 (0,0))=w1:=⟨_,rfl⟩;have B1:=Lib.hid ((Below.refl w.heap.size w).alloc (Nat.le_refl _) (.cells #[.int .i64 0,.int .i64 0] 233 (0,0)));have BX:=heap_alloc_new w (.cells #[.int .i64 0,.int .i64 0] 233 (0,0));have st1:=st.same (w':=w.alloc (.cells #[.int .i64 0,.int .i64 0] 233 (0,0))) (λk hk=>Below.heap_alloc _ _ _ (st.hold.blt st.mp hk));have FI:=Lib.hid (find_any _ h M T.length f k st1.hold.c0 st1.mp hk);obtain⟨hb,_⟩:=(st.spot k b).1 hf;obtain⟨i,hi,rfl⟩:=mem_tg hb;have y1:=st1.hold.i1 hi;have y2:=st1.hold.i2 hi;rw[hf,hw1] at FI;rw[hw1] at B1 BX y1 y2;obtain⟨bx,hbx⟩:∃bx,w.heap.size=bx:=⟨_,rfl⟩;have hne:tg T i≠bx:=by have:=st.hold.ilt hi;omega
  rw[hbx] at BX;have x0:w1.cell? ⟨bx,0,none⟩=some (.int .i64 0):=cell_of_row w1 _ 0 _ _ _ BX;have x1:w1.cell? ⟨bx,1,none⟩=some (.int .i64 0):=cell_of_row w1 _ 1 _ _ _ BX;have g0:w1.frozen? ⟨bx,0,none⟩=false:=frozen_of_row w1 _ 0 _ _ BX;have g1:w1.frozen? ⟨bx,1,none⟩=false:=frozen_of_row w1 _ 1 _ _ BX;have HBX:=Lib.hid hbx;clear st st1 hlook hf hb;generalize tg T i=x at*;generalize E x=e at*;have LR:=Lib.hid (loadR _ bx _ _ (two_stored BX (.int .i64 e.one) (.int .i64 e.two)).1 (two_stored BX (.int .i64 e.one) (.int .i64 e.two)).2);clear BX;go_enter Tryz.func218,Tryz.ntmps218;go_wp2_with fail
  refine FI.out.mono ?_;rintro e W ⟨rfl,rfl⟩;clear hw1 hbx;unfold optr;go_wp2_with fail
  refine bodyPost_ret (results_cell1 rfl _ _ _ ⟨bx,0,none⟩ _ rfl LR.out) rfl ?_;refine⟨rfl,?_⟩;exact(B1.out.setCell (p:=⟨bx,0,none⟩) (Nat.le_of_eq HBX.out) _).setCell (p:=⟨bx,1,none⟩) (Nat.le_of_eq HBX.out) _
set_option maxHeartbeats 1000000 in
theorem remove_any(w:World)(h:Nat)(S:Nat->Prop)(L:List (Ent Key))(c:Nat)(k:Key)(s:HS w h S L c)(hk:kok k):
 Calls Tryz.prog 221 #[.pointer (some ⟨h,0,none⟩),.string k] w (OpPost (.bool (find L k).isSome) w h S (rem L k) c):=by
 have s0:=s;obtain⟨M,v,T,E,f,st,rfl⟩:=s;have hlook:=st.look k;have FI:=Lib.hid (find_any _ h M T.length f k st.hold.c0 st.mp hk);cases hf:f k with
 |none=>
  rw[hf] at hlook FI;have hno:rem L k=L:=rem_none (find_none (by rw[← hlook];rfl));rw[← hlook,hno];have S0:=Lib.hid s0;clear st hlook hf hno s0;go_enter Tryz.func221,Tryz.ntmps221;go_wp2_with fail
  refine FI.out.mono ?_;rintro e W ⟨rfl,rfl⟩;unfold optr;go_wp2_with fail
  go_ret;exact⟨rfl,_,S0.out,λ_ h=>Or.inl h,Turn.refl _ _⟩
 |some b=>
  rw[hf] at FI;rw[hf,Option.map_some] at hlook;rw[← hlook];obtain⟨hb,hkb⟩:=(st.spot k b).1 hf;obtain⟨p,hp,hpb⟩:=mem_tg hb;have TO:=Lib.hid (takeOff_any w h M v T E f L c b p st hp hpb);rw[hkb] at TO;clear st hlook hf hb hkb s0 hp hpb;go_enter Tryz.func221,Tryz.ntmps221;go_wp2_with fail
  refine FI.out.mono ?_;rintro e W ⟨rfl,rfl⟩;unfold optr;go_wp2_with fail
  refine TO.out.mono ?_;rintro e W ⟨rfl,hr⟩;have HR:=Lib.hid hr;clear hr;go_wp2_with fail
  go_ret;exact⟨rfl,HR.out⟩
def leastV(L:List (Ent Key)):Value:=match L with
 |e::_=> .tuple #[.string e.key,.agg #[.int .i64 e.one,.int .i64 e.two],.bool true]
 | []=> .tuple #[.string ⟨#[]⟩,.agg #[.int .i64 0,.int .i64 0],.bool false]
theorem St.root{w:World}{h M c:Nat}{v:Value}{T:List Nat}{E:Nat->Ent Key}{f:Key->Option Nat}{L:List (Ent Key)}(s:St w h M v T E f L c)(hT:0 < T.length):∃L',L=E (tg T 0)::L':=by
 have hm:E (tg T 0)∈L:=s.mem (tg_mem hT);cases L with
 |nil=>cases hm
 |cons x L'=>
  rcases List.mem_cons.1 hm with e|hm'
  . exact⟨L',by rw[e]⟩
  . have h1:=(List.pairwise_cons.1 s.srt).1 _ hm';have hx:x∈x::L':=List.mem_cons_self;obtain⟨b,hb,rfl⟩:=List.mem_map.1 (s.perm.mem_iff.1 hx);obtain⟨i,hi,rfl⟩:=mem_tg hb
    by_cases h0:i=0
    . subst h0;exact absurd h1 (lt.irrefl _)
    . exact absurd (s.hp.root i (by omega) hi) h1.asymm
set_option maxHeartbeats 2000000 in
set_option maxRecDepth 100000 in
theorem least_any(w:World)(h:Nat)(S:Nat->Prop)(L:List (Ent Key))(c:Nat)(s:HS w h S L c):
 Calls Tryz.prog 225 #[.pointer (some ⟨h,0,none⟩)] w (ValBelow (leastV L) w):=by
 obtain⟨M,v,T,E,f,st,rfl⟩:=s;have B1:=Lib.hid ((Below.refl w.heap.size w).alloc (Nat.le_refl _) (.cells #[.int .i64 0,.int .i64 0] 233 (0,0)));have BX:=heap_alloc_new w (.cells #[.int .i64 0,.int .i64 0] 233 (0,0));have st1:=st.same (w':=w.alloc (.cells #[.int .i64 0,.int .i64 0] 233 (0,0))) (λk hk=>Below.heap_alloc _ _ _ (st.hold.blt st.mp hk));have hhlt:=st.hold.hlt;obtain⟨w1,hw1⟩:∃w1,w.alloc (.cells #[.int .i64 0,.int .i64 0] 233 (0,0))=w1:=⟨_,rfl⟩;rw[hw1] at B1 BX st1;obtain⟨bx,hbx⟩:∃bx,w.heap.size=bx:=⟨_,rfl⟩;have HBX:=Lib.hid hbx;rw[hbx] at BX;have x0:w1.cell? ⟨bx,0,none⟩=some (.int .i64 0):=cell_of_row w1 _ 0 _ _ _ BX;have x1:w1.cell? ⟨bx,1,none⟩=some (.int .i64 0):=cell_of_row w1 _ 1 _ _ _ BX;have g0:w1.frozen? ⟨bx,0,none⟩=false:=frozen_of_row w1 _ 0 _ _ BX;have g1:w1.frozen? ⟨bx,1,none⟩=false:=frozen_of_row w1 _ 1 _ _ BX;have c1:=st1.hold.c1;have hnbh:h≠bx:=by omega
 by_cases hT:T.length=0
 . have hL:L= []:=List.eq_nil_of_length_eq_zero (by rw[st.len];exact hT);subst hL;have LR:=Lib.hid (loadR _ bx _ _ (two_stored BX (.int .i64 0) (.int .i64 0)).1 (two_stored BX (.int .i64 0) (.int .i64 0)).2);obtain⟨a,cap,hv⟩:=st.hold.tlen;rw[hv,hT] at c1;clear st st1 BX hT hv hnbh;go_enter Tryz.func225,Tryz.ntmps225;go_wp2_with fail
   refine bodyPost_ret (results_cell2 rfl _ _ _ ⟨bx,0,none⟩ _ rfl LR.out) rfl ?_;refine⟨rfl,?_⟩;exact(B1.out.setCell (p:=⟨bx,0,none⟩) (Nat.le_of_eq HBX.out) _).setCell (p:=⟨bx,1,none⟩) (Nat.le_of_eq HBX.out) _
 . obtain⟨L',rfl⟩:=st.root (by omega);obtain⟨tb,cap,rfl,hc1,hc2,arr,h2,h3,h6⟩:=st1.hold.at (by omega);have t0:w1.cell? ⟨tb,0,none⟩=some (.pointer (some ⟨tg T 0,0,none⟩)):=(cell_of_row w1 _ _ _ _ _ h2).trans (h6 0 (by omega));have y0:=st1.hold.i0 (i:=0) (by omega);have y1:=st1.hold.i1 (i:=0) (by omega);have y2:=st1.hold.i2 (i:=0) (by omega);have hne:tg T 0≠bx:=by have:=st.hold.ilt (i:=0) (by omega);omega
   have hnt:tb≠bx:=cells_ne h2 BX (by decide);obtain⟨n,hn⟩:∃n,T.length=n+1:=⟨T.length - 1,by omega⟩;have ht:=st.hold.top;rw[hn] at c1 hc1 ht;have LR:=Lib.hid (loadR (((w1.setCell ⟨bx,0,none⟩ (.int .i64 (E (tg T 0)).one)).setCell ⟨bx,1,none⟩ (.int .i64 (E (tg T 0)).two)).drew) bx _ _ (two_stored BX (.int .i64 (E (tg T 0)).one) (.int .i64 (E (tg T 0)).two)).1 (two_stored BX (.int .i64 (E (tg T 0)).one) (.int .i64 (E (tg T 0)).two)).2);unfold maxLen at hc2;have el:((n:Int)+1==0)=false:=by simp;omega
   clear st st1 BX hT h2 h3 h6 hn;generalize tg T 0=x at*;generalize E x=e at*;go_enter Tryz.func225,Tryz.ntmps225;go_wp2_with fail
   clear hw1 hbx;go_region;go_wp2_with fail
   refine bodyPost_ret (results_cell2 rfl _ _ _ ⟨bx,0,none⟩ _ rfl LR.out) rfl ?_;refine⟨rfl,?_⟩;exact((B1.out.setCell (p:=⟨bx,0,none⟩) (Nat.le_of_eq HBX.out) _).setCell (p:=⟨bx,1,none⟩) (Nat.le_of_eq HBX.out) _).drew
def popV(L:List (Ent Key)):Value:=match L with
 |e::_=> .tuple #[.string e.key,.bool true]
 | []=> .tuple #[.string ⟨#[]⟩,.bool false]
set_option maxHeartbeats 2000000 in
set_option maxRecDepth 100000 in
theorem pop_any(w:World)(h:Nat)(S:Nat->Prop)(L:List (Ent Key))(c:Nat)(s:HS w h S L c):
 Calls Tryz.prog 217 #[.pointer (some ⟨h,0,none⟩)] w (OpPost (popV L) w h S L.tail c):=by
 have LE:=Lib.hid (least_any w h S L c s);have S0:=Lib.hid s;cases L with
 |nil=>
  clear s;unfold leastV at LE;go_enter Tryz.func217,Tryz.ntmps217;go_wp2_with fail
  refine LE.out.mono ?_;rintro e w1 ⟨rfl,hB⟩;have HB:=Lib.hid hB;have hsz:=hB.size;clear hB;go_wp2_with fail
  go_ret2
  exact OpPost.before (HB.out.alloc hsz _) ⟨rfl,S,S0.out.below (HB.out.alloc hsz _),λ_ h=>Or.inl h,Turn.refl _ _⟩
 |cons e L=>
  clear s;unfold leastV at LE;go_enter Tryz.func217,Tryz.ntmps217;go_wp2_with fail
  refine LE.out.mono ?_;rintro e' w1 ⟨rfl,hB⟩;have hsz:=hB.size;have B2:=Lib.hid (hB.alloc hsz (.cells #[.int .i64 e.one,.int .i64 e.two] 233 (0,0)));clear hB;have s2:=S0.out.below B2.out;obtain⟨w2,hw2⟩:∃w2,w1.alloc (.cells #[.int .i64 e.one,.int .i64 e.two] 233 (0,0))=w2:=⟨_,rfl⟩;rw[hw2] at B2 s2;obtain⟨M,v,T,E,f,st,rfl⟩:=s2;have hT:0 < T.length:=by rw[← st.len];simp
  obtain⟨L',hL'⟩:=st.root hT;have he:e=E (tg T 0):=by injection hL'
  obtain⟨tb,cap,rfl,hc1,hc2,arr,h2,h3,h6⟩:=st.hold.at hT;have t0:_=some (Value.pointer (some ⟨tg T 0,0,none⟩)):=(cell_of_row _ tb 0 _ _ _ h2).trans (h6 0 hT);have c1:=st.hold.c1;have ht:=st.hold.top;have TO:=Lib.hid (takeOff_any _ h M _ T E f _ c (tg T 0) 0 st hT rfl);rw[← he,st.once.rem_cons] at TO;obtain⟨n,hn⟩:∃n,T.length=n+1:=⟨T.length - 1,by omega⟩;have HN:=Lib.hid hn;rw[hn] at c1 hc1 ht;unfold maxLen at hc2;clear st h2 h3 h6 hL' he hT;generalize tg T 0=x at*;go_wp2_with fail
  clear hw2;refine TO.out.mono ?_;rintro e' w3 ⟨rfl,hr⟩;have HR:=Lib.hid hr;clear hr;go_wp2_with fail
  go_ret2
  refine OpPost.before B2.out ⟨rfl,HR.out⟩
end HS
end Go.Proofs.YtdmmciggopmglaaGreatDoor.LF
namespace Go.Proofs.YtdmmciggopmglaaGreatDoor.LF
namespace HS
open Go.RowKit Ht Go.Maps Go.WideMaps
def Own(w:World)(base:Nat)(v:Value)(xs:List Key):Prop:=w.ownsRow base 9 1 v xs.length (xs.map λk=>(.string k:Value))/\xs.length<=200000/\∀x∈xs,kok x
def RowPost(xs:List Key)(w:World)(e:Ending)(w':World):Prop:=∃v,e= .returned v/\Own w' w.heap.size v xs/\Below w.heap.size w w'
theorem infoK:(Tryz.prog.info? 9).map (λi=>(i.zero,i.size,i.bytes))=some (some (.string ⟨#[]⟩),1,16):=by kernel_rfl
theorem mkK(W:World)(m:Nat)(hm:m<=200000):(Instr.makeSlice 23 (.int .i64 (m:Int)) (.int .i64 (m:Int))).run Tryz.prog W= .ok (.slice (some ⟨W.heap.size,0,none⟩) m m) (W.alloc (.cells (madeCells #[.string ⟨#[]⟩] m) 9)):=by
 obtain⟨i0,hi,hz0,hz1,hz2⟩:=info_parts infoK;have h:=run_make (P:=Tryz.prog) W 23 9 i0 (.string ⟨#[]⟩) Tryz.underlying23 hi hz0 .i64 .i64 m m (by omega) (by omega) (by rw[hz2];omega) (by omega);rw[h,hz1,Int.toNat_natCast,Nat.mul_one];rfl
section
variable{w w':World}
theorem Own.len{v:Value}{xs:List Key}{base:Nat}(o:Own w base v xs):∃a cap,v= .slice a xs.length cap:=by
 rcases o.1.2 with⟨h1,h0⟩|⟨g,cap,arr,h1,_⟩
 . exact⟨none,0,by rw[h1,h0]⟩
 . exact⟨_,_,h1⟩
theorem Own.same{v:Value}{xs:List Key}{base:Nat}(o:Own w base v xs)(hs:∀g,v.ownBlock=some g->w'.heap[g]?=w.heap[g]?):Own w' base v xs:=by
 refine⟨⟨o.1.1,?_⟩,o.2⟩;rcases o.1.2 with h1|⟨g,cap,arr,rfl,hb,h2,h3⟩
 . exact Or.inl h1
 . exact Or.inr ⟨g,cap,arr,rfl,hb,(hs g rfl).trans h2,h3⟩
theorem Own.lt{v:Value}{xs:List Key}{base g:Nat}(o:Own w base v xs)(hg:v.ownBlock=some g):g < w.heap.size/\base<=g:=by
 rcases o.1.2 with⟨rfl,_⟩|⟨g',cap,arr,rfl,hb,h2,h3⟩
 . cases hg
 . cases hg;exact⟨(Array.getElem?_eq_some_iff.1 h2).1,hb⟩
end
end HS
end Go.Proofs.YtdmmciggopmglaaGreatDoor.LF
