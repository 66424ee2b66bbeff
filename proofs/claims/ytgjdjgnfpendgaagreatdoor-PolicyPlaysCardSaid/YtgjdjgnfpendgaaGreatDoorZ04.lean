/- Part 4 of the proof. -/
import Derived.Test.YtgjdjgnfpendgaaGreatDoorZ03
import Derived.BigQuiet
import Derived.BigRegion
import Derived.Deep.CutBlock
import Derived.Deep.DeepCutAuto
import Derived.Deep.LoopGhost
import Derived.Deep.QuietTactic
import Derived.Deep.RegionHeld3
import Derived.Deep.RegionLaw
import Derived.Laws.StructEq
set_option maxHeartbeats 16000000
set_option maxRecDepth 20000
namespace Go.Proofs.YtgjdjgnfpendgaaGreatDoor
open Go.Proofs.Tryz
namespace SR
open Go.RowKit Go.Maps Go.WideMaps Sg
abbrev Told:=zy->Bool
def iG(f:Told)(k:zy):Told:=λx=>if x=k then true else f x
def eC(f:Told)(k:zy):Told:=λx=>if x=k then false else f x
def fZ(f:Told)(xs:zY):Told:=λx=>f x&&!aw xs x
theorem Py(w:zw):(zeroValue 292).run prog w= .ok (.agg #[]) w:=by kernel_rfl
def Om(w:zw)(b:Nat)(f:Told)(n:Nat):Prop:=∃D:DataW Unit,w.ownsMap prog 9 (unitElem (H:=Unit)) b n D/\∀s:zy,Maps.has D (.string s.data.toList)=f s
section
variable{w w':zw}{b n:Nat}{f:Told}
theorem Om.made(w:zw):Om (w.alloc (.map #[] 0)) w.heap.size (λ_=>false) 0:=⟨.map [],World.ownsMap_made w _ _ _,λ_=>rfl⟩
theorem Om.same(h:Om w b f n)(hs:w'.heap[b]?=w.heap[b]?):Om w' b f n:=by
 obtain⟨D,h1,h2⟩:=h;exact⟨D,nW h1 hs,h2⟩
theorem Om.lt(h:Om w b f n):b < w.heap.size:=by
 obtain⟨D,h1,_⟩:=h;exact h1.lt
theorem Om.mono(h:Om w b f n){n':Nat}(hn:n<=n'):Om w b f n':=by
 obtain⟨D,⟨es,clock,hb,F,hs,rfl⟩,h2⟩:=h;exact⟨_,⟨es,clock,hb,F,by omega,rfl⟩,h2⟩
theorem Om.look(h:Om w b f n){s:zy}(hs:s.size<=maxLen):
 (Instr.lookup 196 (.map (some b)) (.string s) true).run prog w= .ok (.tuple #[.agg #[],.bool (f s)]) w:=by
 obtain⟨D,h1,h3⟩:=h;obtain⟨v,ps,aB,hv⟩:=h1.look_ok rf underlying196 (Py w) unitElem_mk (keyOf_string_mk underlying9 hs);obtain⟨rfl,_⟩:=unitElem_inv hv;rw[aB,h3 s]
theorem Om.store(h:Om w b f n){s:zy}(hs:s.size<=maxLen)(hn:n<=1000000):
 ∃w',(Instr.mapUpdate 196 (.map (some b)) (.string s) (.agg #[])).run prog w= .ok () w'/\Om w' b (iG f s) (n+1)/\w.grownBy w' (some b):=by
 obtain⟨D,h1,h3⟩:=h;obtain⟨w',aB,aS,hg⟩:=h1.update rf underlying196 (by unfold maxLen;omega) (keyOf_string_mk underlying9 hs) unitElem_mk;have hk:WideAt.IsKeyLit (.string s.data.toList):=trivial;refine⟨w',aB,⟨_,aS,λt=>?_⟩,hg⟩;unfold iG
 by_cases e:t=s
 . subst e;rw[if_pos rfl,has_put_same h1.isMap hk]
 . rw[if_neg e,has_put_other (kS e)];exact h3 t
theorem Om.drop(h:Om w b f n){s:zy}(hs:s.size<=maxLen)(ty:TypeId):
 ∃w',(Builtin.delete_ #[196,9] ty #[.map (some b),.string s]).run prog w= .ok (.tuple #[]) w'/\Om w' b (eC f s) n/\w.grownBy w' (some b):=by
 obtain⟨D,h1,h3⟩:=h;obtain⟨w',aB,aS,hg⟩:=h1.drop rf underlying196 (keyOf_string_mk underlying9 hs) ty;refine⟨w',aB,⟨_,aS,λt=>?_⟩,hg.grown⟩;unfold eC
 by_cases e:t=s
 . subst e;rw[if_pos rfl,has_del_same]
 . rw[if_neg e,has_del_other (kS e)];exact h3 t
end
end SR
namespace SR
open Go.RowKit Sg
structure Ix where
 c:Nat
 n:Nat
 a:Nat
 g:Nat
 O:Nat
structure Sx where
 n:Nat->Prop
 a:Nat->Prop
 g:Nat->Prop
def ax(i:Ix)(S:Sx):Nat->Prop:=λk=>k=i.c\/k=i.O\/S.n k\/S.a k\/S.g k
structure Sep(i:Ix)(S:Sx):Prop where
 na:∀k,S.n k->¬S.a k
 ng:∀k,S.n k->¬S.g k
 ag:∀k,S.a k->¬S.g k
 cn:¬S.n i.c
 ca:¬S.a i.c
 cg:¬S.g i.c
 On:¬S.n i.O
 Oa:¬S.a i.O
 Og:¬S.g i.O
 cO:i.c≠i.O
def tm(w:zw)(i:Ix)(mo t:Nat):Prop:=w.heap[i.c]?=some (.cells #[.int .i64 (mo:Int),.int .i64 (t:Int),.pointer (some ⟨i.n,0,none⟩),.pointer (some ⟨i.a,0,none⟩),.pointer (some ⟨i.g,0,none⟩),.map (some i.O)] 198 (0,0))
structure Raw(w:zw)(i:Ix)(S:Sx)(mo t:Nat)(N A G:zY)(f:Told)(b:Nat):Prop where
 box:tm w i mo t
 n:LS w i.n S.n N b
 a:LS w i.a S.a A b
 g:LS w i.g S.g G b
 o:Om w i.O f b
 sep:Sep i S
 top:mo<=9223372036854775807/\t<=9223372036854775807
def aL(v:Value)(w:zw)(i:Ix)(S:Sx)(mo t:Nat)(N A G:zY)(f:Told)(b:Nat)(e:Ending)(w':zw):Prop:=
 e= .returned v/\∃S',Raw w' i S' mo t N A G f b/\aJ w w' (ax i S) (ax i S')
section
variable{w w':zw}{i:Ix}{S:Sx}{mo t b b':Nat}{N A G:zY}{f f':Told}{v:Value}{e:Ending}
theorem Raw.cells(r:Raw w i S mo t N A G f b):w.cell? ⟨i.c,0,none⟩=some (.int .i64 (mo:Int))/\w.cell? ⟨i.c,1,none⟩=some (.int .i64 (t:Int))/\w.cell? ⟨i.c,2,none⟩=some (.pointer (some ⟨i.n,0,none⟩))/\w.cell? ⟨i.c,3,none⟩=some (.pointer (some ⟨i.a,0,none⟩))/\w.cell? ⟨i.c,4,none⟩=some (.pointer (some ⟨i.g,0,none⟩))/\w.cell? ⟨i.c,5,none⟩=some (.map (some i.O)):=
 ⟨cell_of_row w _ 0 _ _ _ r.box,cell_of_row w _ 1 _ _ _ r.box,cell_of_row w _ 2 _ _ _ r.box,cell_of_row w _ 3 _ _ _ r.box,cell_of_row w _ 4 _ _ _ r.box,cell_of_row w _ 5 _ _ _ r.box⟩
theorem Raw.pK(r:Raw w i S mo t N A G f b):w.frozen? ⟨i.c,0,none⟩=false/\w.frozen? ⟨i.c,1,none⟩=false:=⟨frozen_of_row w _ 0 _ _ r.box,frozen_of_row w _ 1 _ _ r.box⟩
theorem Raw.cx(r:Raw w i S mo t N A G f b):i.c < w.heap.size:=(Array.getElem?_eq_some_iff.1 r.box).1
theorem Raw.lt(r:Raw w i S mo t N A G f b){k:Nat}(hk:ax i S k):k < w.heap.size:=by
 rcases hk with h|h|h|h|h
 . have:=r.cx;omega
 . have:=r.o.lt;omega
 . exact r.n.lt h
 . exact r.a.lt h
 . exact r.g.lt h
theorem Raw.kept(r:Raw w i S mo t N A G f b)(hs:w.heap.size<=w'.heap.size)(hb:∀k,ax i S k->w'.heap[k]?=w.heap[k]?):Raw w' i S mo t N A G f b:=
 ⟨(hb _ (xz rfl)).trans r.box,r.n.kept hs λk hk=>hb k (ja (ja (xz hk))),r.a.kept hs λk hk=>hb k (ja (ja (ja (xz hk)))),
   r.g.kept hs λk hk=>hb k (ja (ja (ja (ja hk)))),r.o.same (hb _ (ja (xz rfl))),r.sep,r.top⟩
theorem Raw.below(r:Raw w i S mo t N A G f b)(hb:Below w.heap.size w w'):Raw w' i S mo t N A G f b:=r.kept hb.size λk hk=>hb.block k (r.lt hk)
theorem Raw.beside(r:Raw w i S mo t N A G f b){X:Nat->Prop}(ht:ao X w w')(hx:∀k,ax i S k->¬X k):Raw w' i S mo t N A G f b:=r.kept ht.size λk hk=>ht.block k (r.lt hk) (hx k hk)
theorem Raw.drewN(r:Raw w i S mo t N A G f b)(m:Nat):Raw (w.drewN m) i S mo t N A G f b:=r.below ⟨rfl,rfl,rfl,zg _,λ_ _=>rfl⟩
theorem Raw.mono(r:Raw w i S mo t N A G f b)(hb:b<=b'):Raw w i S mo t N A G f b':=⟨r.box,r.n.mono hb,r.a.mono hb,r.g.mono hb,r.o.mono hb,r.sep,r.top⟩
theorem Raw.fU(r:Raw w i S mo t N A G f b){xs:zY}(hp:kL v w i.n S.n xs b' e w')(hb:b<=b'):aL v w i S mo t xs A G f b' e w':=by
 obtain⟨he,S',hL,hW⟩:=hp;have q:∀k,k < w.heap.size->¬S.n k->w'.heap[k]?=w.heap[k]?:=λk hk hn=>hW.a8.block k hk hn
 have z:∀k,k < w.heap.size->¬S.n k->¬S' k:=λk hk hn h=>by
  rcases hW.new k h with h|h
  . exact hn h
  . omega
 refine⟨he,⟨S',S.a,S.g⟩,⟨(q _ r.cx r.sep.cn).trans r.box,hL,(r.a.kept hW.a8.size λk hk=>q k (r.a.lt hk) λh=>r.sep.na k h hk).mono hb,(r.g.kept hW.a8.size λk hk=>q k (r.g.lt hk) λh=>r.sep.ng k h hk).mono hb,(r.o.same (q _ r.o.lt r.sep.On)).mono hb,
  ⟨λk hk ha=>z k (r.a.lt ha) (λh=>r.sep.na k h ha) hk,λk hk ha=>z k (r.g.lt ha) (λh=>r.sep.ng k h ha) hk,r.sep.ag,z _ r.cx r.sep.cn,r.sep.ca,r.sep.cg,z _ r.o.lt r.sep.On,r.sep.Oa,r.sep.Og,r.sep.cO⟩,r.top⟩,?_,hW.a8.wide λk _ h=>ja (ja (xz h))⟩
 rintro k (h|h|h|h|h)
 . exact xz (xz h)
 . exact xz (ja (xz h))
 . exact(hW.new k h).imp (λh=>ja (ja (xz h))) id
 . exact xz (ja (ja (ja (xz h))))
 . exact xz (ja (ja (ja (ja h))))
theorem Raw.lp(r:Raw w i S mo t N A G f b){xs:zY}(hp:kL v w i.a S.a xs b' e w')(hb:b<=b'):aL v w i S mo t N xs G f b' e w':=by
 obtain⟨he,S',hL,hW⟩:=hp;have q:∀k,k < w.heap.size->¬S.a k->w'.heap[k]?=w.heap[k]?:=λk hk hn=>hW.a8.block k hk hn
 have z:∀k,k < w.heap.size->¬S.a k->¬S' k:=λk hk hn h=>by
  rcases hW.new k h with h|h
  . exact hn h
  . omega
 refine⟨he,⟨S.n,S',S.g⟩,⟨(q _ r.cx r.sep.ca).trans r.box,(r.n.kept hW.a8.size λk hk=>q k (r.n.lt hk) (r.sep.na k hk)).mono hb,hL,(r.g.kept hW.a8.size λk hk=>q k (r.g.lt hk) λh=>r.sep.ag k h hk).mono hb,(r.o.same (q _ r.o.lt r.sep.Oa)).mono hb,
  ⟨λk hk=>z k (r.n.lt hk) (r.sep.na k hk),r.sep.ng,λk hk ha=>z k (r.g.lt ha) (λh=>r.sep.ag k h ha) hk,r.sep.cn,z _ r.cx r.sep.ca,r.sep.cg,r.sep.On,z _ r.o.lt r.sep.Oa,r.sep.Og,r.sep.cO⟩,r.top⟩,?_,hW.a8.wide λk _ h=>ja (ja (ja (xz h)))⟩
 rintro k (h|h|h|h|h)
 . exact xz (xz h)
 . exact xz (ja (xz h))
 . exact xz (ja (ja (xz h)))
 . exact(hW.new k h).imp (λh=>ja (ja (ja (xz h)))) id
 . exact xz (ja (ja (ja (ja h))))
theorem Raw.eA(r:Raw w i S mo t N A G f b){xs:zY}(hp:kL v w i.g S.g xs b' e w')(hb:b<=b'):aL v w i S mo t N A xs f b' e w':=by
 obtain⟨he,S',hL,hW⟩:=hp;have q:∀k,k < w.heap.size->¬S.g k->w'.heap[k]?=w.heap[k]?:=λk hk hn=>hW.a8.block k hk hn
 have z:∀k,k < w.heap.size->¬S.g k->¬S' k:=λk hk hn h=>by
  rcases hW.new k h with h|h
  . exact hn h
  . omega
 refine⟨he,⟨S.n,S.a,S'⟩,⟨(q _ r.cx r.sep.cg).trans r.box,(r.n.kept hW.a8.size λk hk=>q k (r.n.lt hk) (r.sep.ng k hk)).mono hb,(r.a.kept hW.a8.size λk hk=>q k (r.a.lt hk) (r.sep.ag k hk)).mono hb,hL,(r.o.same (q _ r.o.lt r.sep.Og)).mono hb,
  ⟨r.sep.na,λk hk=>z k (r.n.lt hk) (r.sep.ng k hk),λk hk=>z k (r.a.lt hk) (r.sep.ag k hk),r.sep.cn,r.sep.ca,z _ r.cx r.sep.cg,r.sep.On,r.sep.Oa,z _ r.o.lt r.sep.Og,r.sep.cO⟩,r.top⟩,?_,hW.a8.wide λk _ h=>ja (ja (ja (ja h)))⟩
 rintro k (h|h|h|h|h)
 . exact xz (xz h)
 . exact xz (ja (xz h))
 . exact xz (ja (ja (xz h)))
 . exact xz (ja (ja (ja (xz h))))
 . exact(hW.new k h).imp (λh=>ja (ja (ja (ja h)))) id
theorem Raw.y9(r:Raw w i S mo t N A G f b)(ho:Om w' i.O f' b')(hg:w.grownBy w' (some i.O))(hb:b<=b'):Raw w' i S mo t N A G f' b'/\aJ w w' (ax i S) (ax i S):=by
 have q:∀k,k < w.heap.size->k≠i.O->w'.heap[k]?=w.heap[k]?:=λk hk hn=>hg.block k hk (by simpa using hn)
 refine⟨⟨(q _ r.cx r.sep.cO).trans r.box,(r.n.kept hg.size λk hk=>q k (r.n.lt hk) λh=>r.sep.On (h▸hk)).mono hb,(r.a.kept hg.size λk hk=>q k (r.a.lt hk) λh=>r.sep.Oa (h▸hk)).mono hb,(r.g.kept hg.size λk hk=>q k (r.g.lt hk) λh=>r.sep.Og (h▸hk)).mono hb,ho,r.sep,r.top⟩,aJ.same ⟨hg.os,hg.tape,hg.output,hg.size,λk hk hn=>q k hk λh=>hn (ja (xz h))⟩⟩
theorem Raw.kB(r:Raw w i S mo t N A G f b)(u:Nat)(hu:u<=9223372036854775807):Raw (w.setCell ⟨i.c,1,none⟩ (.int .i64 (u:Int))) i S mo u N A G f b/\ao (ax i S) w (w.setCell ⟨i.c,1,none⟩ (.int .i64 (u:Int))):=by
 have q:∀k,k≠i.c->(w.setCell ⟨i.c,1,none⟩ (.int .i64 (u:Int))).heap[k]?=w.heap[k]?:=λk hk=>qc _ _ _ _ hk
 have hs:w.heap.size<=(w.setCell ⟨i.c,1,none⟩ (.int .i64 (u:Int))).heap.size:=by simp[World.setCell]
 refine⟨⟨?_,r.n.kept hs λk hk=>q k λh=>r.sep.cn (h▸hk),r.a.kept hs λk hk=>q k λh=>r.sep.ca (h▸hk),r.g.kept hs λk hk=>q k λh=>r.sep.cg (h▸hk),r.o.same (q _ (qa r.sep.cO)),r.sep,r.top.1,hu⟩,(ao.refl _ _).setCell (p:=⟨i.c,1,none⟩) (xz (xz rfl)) _⟩;have:=r.box;unfold tm at this|-;rw[heap_setCell_same _ _ _ _ _ _ this];rfl
theorem Raw.eV(r:Raw w i S mo t N A G f b)(u:Nat)(hu:u<=9223372036854775807):Raw (w.setCell ⟨i.c,0,none⟩ (.int .i64 (u:Int))) i S u t N A G f b/\ao (ax i S) w (w.setCell ⟨i.c,0,none⟩ (.int .i64 (u:Int))):=by
 have q:∀k,k≠i.c->(w.setCell ⟨i.c,0,none⟩ (.int .i64 (u:Int))).heap[k]?=w.heap[k]?:=λk hk=>qc _ _ _ _ hk
 have hs:w.heap.size<=(w.setCell ⟨i.c,0,none⟩ (.int .i64 (u:Int))).heap.size:=by simp[World.setCell]
 refine⟨⟨?_,r.n.kept hs λk hk=>q k λh=>r.sep.cn (h▸hk),r.a.kept hs λk hk=>q k λh=>r.sep.ca (h▸hk),r.g.kept hs λk hk=>q k λh=>r.sep.cg (h▸hk),r.o.same (q _ (qa r.sep.cO)),r.sep,hu,r.top.2⟩,(ao.refl _ _).setCell (p:=⟨i.c,0,none⟩) (xz (xz rfl)) _⟩;have:=r.box;unfold tm at this|-;rw[heap_setCell_same _ _ _ _ _ _ this];rfl
end
def Qt(v:Value)(w:zw)(e:Ending)(w':zw):Prop:=e= .returned v/\∃n,w'=w.drewN n
def jb(v:Value)(w:zw)(e:Ending)(w':zw):Prop:=e= .returned v/\Below w.heap.size w w'
theorem av(w:zw)(n:Nat):Below w.heap.size w (w.drewN n):=⟨rfl,rfl,rfl,zg _,λ_ _=>rfl⟩
section
variable(w:zw)(i:Ix)(S:Sx)(mo t:Nat)(N A G:zY)(f:Told)(b:Nat)(r:Raw w i S mo t N A G f b)
include r
theorem J3:Calls prog 214 #[.pointer (some ⟨i.c,0,none⟩)] w (br G w):=by
 obtain⟨_,_,_,_,c4,_⟩:=r.cells;have U:=J (kz w i.g S.g G b r.g);clear r;go_enter func214,ntmps214;go_wp2_with fail
 refine U.out.mono ?_;rintro e w1 ⟨v,rfl,hO,hB⟩;go_wp2_with fail
 go_ret;exact⟨v,rfl,hO,hB⟩
theorem zA(key:zy)(hs:key.size<=maxLen):Calls prog 215 #[.pointer (some ⟨i.c,0,none⟩),.string key] w (dq (aw N key||aw A key) w):=by
 obtain⟨_,_,c2,c3,_⟩:=r.cells;have U:=dt w i.n S.n N b r.n key hs;have V:=J (dt w i.a S.a A b r.a key hs);clear r;cases hi:aw N key with
 |true=>
  rw[hi] at U;have U:=J U;clear hi V;rw[Bool.true_or];go_enter func215,ntmps215;go_wp2_with fail
  refine U.out.mono ?_;rintro e w1 ⟨rfl,rfl⟩;go_wp2_with fail
  go_ret;exact⟨rfl,rfl⟩
 |false=>
  rw[hi] at U;have U:=J U;clear hi;rw[Bool.false_or];go_enter func215,ntmps215;go_wp2_with fail
  refine U.out.mono ?_;rintro e w1 ⟨rfl,rfl⟩;go_wp2_with fail
  refine V.out.mono ?_;rintro e w1 ⟨rfl,rfl⟩;go_wp2_with fail
  go_ret;exact⟨rfl,rfl⟩
theorem CR:Calls prog 217 #[.pointer (some ⟨i.c,0,none⟩)] w (Qt (.int .i64 ((N.length+A.length:Nat):Int)) w):=by
 obtain⟨_,_,c2,c3,_⟩:=r.cells;have U:=zs (∀m,Calls prog 148 #[.pointer (some ⟨i.n,0,none⟩)] (w.drewN m) (λe w'=>e= .returned (.int .i64 (N.length:Int))/\w'=w.drewN m)) (λm=>(oR (w.drewN m) i.n S.n N b (r.drewN m).n).mono λ_ _ h=>⟨h.1,h.2.symm⟩);have V:=zs (∀m,Calls prog 148 #[.pointer (some ⟨i.a,0,none⟩)] (w.drewN m) (λe w'=>e= .returned (.int .i64 (A.length:Int))/\w'=w.drewN m)) (λm=>(oR (w.drewN m) i.a S.a A b (r.drewN m).a).mono λ_ _ h=>⟨h.1,h.2.symm⟩);have h1:=r.n.len;have h2:=r.a.len;obtain⟨c,n,a,g,O⟩:=i;simp only at c2 c3 U V|-;have HW:=qi ((N.length:Int)+(A.length:Int)) (by omega);rw[show((N.length+A.length:Nat):Int)=(N.length:Int)+(A.length:Int) by omega];clear r;go_enter func217,ntmps217;go_wp2_with fail
 go_quiet(first
  |(go_at_call 148;with_reducible exact Calls.quiet_of_same (U.out _))
  |(go_at_call 148;with_reducible exact Calls.quiet_of_same (V.out _)))
 go_wp2_with fail
 go_ret;exact⟨rfl,_,rfl⟩
theorem uE(key:zy)(hs:key.size<=maxLen):Calls prog 227 #[.pointer (some ⟨i.c,0,none⟩),.string key] w (jb (.bool (f key)) w):=by
 obtain⟨_,_,_,_,_,c5⟩:=r.cells;have hl:=r.o.look hs;clear r;go_enter func227,ntmps227;go_wp2_with fail
 go_ret;exact⟨rfl,(zo _ _).alloc (zg _) _⟩
theorem tt:Calls prog 223 #[.pointer (some ⟨i.c,0,none⟩)] w (λe w'=>e= .returned (.pointer (some ⟨if N= [] then i.a else i.n,0,none⟩))/\w=w'):=by
 obtain⟨_,_,c2,c3,_⟩:=r.cells;have U:=oR w i.n S.n N b r.n;have hl:=r.n.len;clear r;cases N with
 |nil=>
  have U:=zs (Calls prog 148 #[.pointer (some ⟨i.n,0,none⟩)] w (bS 0 w)) U;rw[if_pos rfl];go_enter func223,ntmps223;go_wp2_with fail
  refine U.out.mono ?_;rintro e w1 ⟨rfl,rfl⟩;go_wp2_with fail
  go_ret;exact⟨rfl,rfl⟩
 |cons x N=>
  obtain⟨q,hq⟩:∃q:Int,q=((x::N).length:Int):=⟨_,rfl⟩;rw[← hq] at U;have e0:(q==0)=false:=by rw[hq,zv];simp;omega
  have U:=J U;rw[if_neg (by simp)];clear hq hl;go_enter func223,ntmps223;go_wp2_with fail
  refine U.out.mono ?_;rintro e w1 ⟨rfl,rfl⟩;go_wp2_with fail
  go_ret;exact⟨rfl,rfl⟩
end
end SR
namespace SR
open Go.RowKit Sg
theorem ek{P:Program}{ops:Array Oper}{o:Oper}{a:Act}{w:zw}{K:Act->zw->Prop}{Q:Exit->Act->zw->Prop}{E:Prop}(jT:o.guard=none)(s x:Operand)(t:TypeId)
 (ho:o.op= .call {callee:= .builtin .append,args:=#[s,x],argTypes:=#[t,t]}) (v u v':Value) (w':zw) (hs:a.eval s=v) (hx:a.eval x=u) (hr:(Builtin.append_ #[t,t] o.type #[v,u]).run P w= .ok v' w')
 (h:K (a.put o.dst v') w'):if Region.wanted o (yielded ops a.tmps)=true then Oper.wp P o a w K Q else E:=by
 have hw:Region.wanted o (yielded ops a.tmps)=true:=by simp[Region.wanted,jT]
 rw[if_pos hw];unfold Oper.wp execOp;simp only[ho,resolve,invoke,builtin,Sem.run_bind,Sem.run_pure,Result.andThen_ok,List.map_toArray,xb,List.map_nil,hs,hx,hr];exact h
def dA(N A:zY):zY:=if N= [] then A.dropLast else A
theorem jD{N A:zY}(h:N≠ []):ah (A++N)=ah N/\bb (A++N)=true/\bb N=true:=by
 cases N with
 |nil=>exact absurd rfl h
 |cons x N=>
  refine⟨?_,by cases A <;> rfl,rfl⟩;unfold ah;rw[qw,qw,List.getLast?_append,qz (l:=x::N) (by simp)];rfl
theorem tw(N A:zY):dA N A++N.dropLast=(A++N).dropLast:=by
 unfold dA;cases N with
 |nil=>simp
 |cons x N=>rw[if_neg (by simp),List.dropLast_append_of_ne_nil (by simp)]
section
variable(w:zw)(i:Ix)(S:Sx)(mo t:Nat)(N A G:zY)(f:Told)(b:Nat)(r:Raw w i S mo t N A G f b)
include r
theorem Pz:Calls prog 216 #[.pointer (some ⟨i.c,0,none⟩)] w (br (A++N).reverse w):=by
 obtain⟨_,_,c2,c3,_⟩:=r.cells;have U:=zs (Calls prog 146 #[.pointer (some ⟨i.a,0,none⟩)] w.drew (br A w)) ((kz w.drew i.a S.a A b (r.below (av w 1)).a).mono λ_ _ ⟨v,h1,h2,h3⟩=>⟨v,h1,h2,⟨h3.os,h3.tape,h3.output,h3.size,h3.block⟩⟩);have V:=J (λ(w1:zw) (h:Below w.heap.size w w1)=>kz w1 i.n S.n N b (r.below h).n);have C:=zs (∀w1,Below w.heap.size w w1->w1.cell? ⟨i.c,2,none⟩=some (.pointer (some ⟨i.n,0,none⟩))/\w1.cell? ⟨i.c,3,none⟩=some (.pointer (some ⟨i.a,0,none⟩))) (λw1 h=>⟨(r.below h).cells.2.2.1,(r.below h).cells.2.2.2.1⟩);have h1:=r.n.len;have h2:=r.a.len;obtain⟨ic,n,a,g,O⟩:=i;simp only at c2 c3 U V C|-;clear r;go_enter func216,ntmps216;go_wp2_with fail
 go_region_held3(λw'=>w'.cell? ⟨ic,2,none⟩=some (.pointer (some ⟨n,0,none⟩))/\w'.cell? ⟨ic,3,none⟩=some (.pointer (some ⟨a,0,none⟩))) (first|(exact⟨‹_›,‹_›⟩)|go_keep)
  (first
    |(go_at_call 146;refine U.out.mono ?_;rintro e w1 ⟨v1,rfl,lh,dh⟩;obtain⟨z2,z3⟩:=C.out w1 dh;have O1:=J lh;have B1:=J dh;clear lh dh U)
    |(go_at_call 146;refine(V.out w1 B1.out).mono ?_;rintro e w2 ⟨v2,rfl,kg,cQ⟩;obtain⟨z4,z5⟩:=C.out w2 (B1.out.trans (cQ.mono B1.out.size));obtain⟨v3,w3,aB,jO,gA⟩:=mj (O1.out.below cQ) kg (by omega) (zr B1.out.size cQ.size);have zB:=J aB;have O3:=J jO;have B3:=J (show Below w.heap.size w w3 from(B1.out.trans (cQ.mono B1.out.size)).grown gA (zr B1.out.size cQ.size) (λk hk=>((O1.out.below cQ).1.lt k hk).1));obtain⟨z6,z7⟩:=C.out w3 B3.out;clear kg cQ aB jO gA V O1 B1)
    |(refine ek rfl _ _ _ rfl _ _ _ _ rfl rfl zB.out ?_))
 go_wp2_with fail
 refine(oD w3 w.heap.size v3 _ O3.out B3.out.size).mono ?_;rintro e w4 ⟨rfl,hO,hB⟩;have O4:=J hO;have B4:=J hB;clear hO hB;go_wp2_with fail
 go_ret;exact⟨v3,rfl,O4.out,B3.out.trans B4.out⟩
theorem J4:Calls prog 221 #[.pointer (some ⟨i.c,0,none⟩)] w (gZ (ah (A++N)) (bb (A++N)) w):=by
 have U:=J (tt w i S mo t N A G f b r)
 have V:=J (show Calls prog 153 #[.pointer (some ⟨if N= [] then i.a else i.n,0,none⟩)] w (gZ (ah (A++N)) (bb (A++N)) w) by
  by_cases h:N= []
  . subst h;rw[if_pos rfl,xq];exact vO w i.a S.a A b r.a
  . rw[if_neg h,(jD h).1,(jD h).2.1];have:=vO w i.n S.n N b r.n;rw[(jD (A:=A) h).2.2] at this;exact this)
 generalize ah (A++N)=x at*;generalize bb (A++N)=q at*;generalize(if N= [] then i.a else i.n)=l at*;clear r;go_enter func221,ntmps221;go_wp2_with fail
 refine U.out.mono ?_;rintro e w1 ⟨rfl,rfl⟩;go_wp2_with fail
 refine V.out.mono ?_;rintro e w1 ⟨rfl,rfl⟩;go_wp2_with fail
 go_ret2
 exact⟨rfl,rfl⟩
theorem MK:Calls prog 144 #[.pointer (some ⟨if N= [] then i.a else i.n,0,none⟩)] w (aL (.tuple #[.string (ah (A++N)),.bool (bb (A++N))]) w i S mo t N.dropLast (dA N A) G f b):=by
 by_cases h:N= []
 . subst h;unfold dA;rw[if_pos rfl,if_pos rfl,xq];exact(gR w i.a S.a A b r.a).mono λe w' hp=>r.lp hp (zg _)
 . unfold dA;rw[if_neg h,if_neg h,(jD h).1,(jD h).2.1];have:=gR w i.n S.n N b r.n;rw[(jD (A:=A) h).2.2] at this;exact this.mono λe w' hp=>r.fU hp (zg _)
theorem CU(h:A++N≠ []):(ah (A++N)).size<=maxLen:=by
 have:ah (A++N)∈A++N:=by
  unfold ah;rw[qw,qz h];exact List.getLast_mem h
 rcases List.mem_append.1 this with h|h
 . exact r.a.small _ h
 . exact r.n.small _ h
theorem PA:Calls prog 213 #[.pointer (some ⟨i.c,0,none⟩)] w (aL (.tuple #[.string (ah (A++N)),.bool (bb (A++N))]) w i S mo t N.dropLast (dA N A) G (if bb (A++N)=true then eC f (ah (A++N)) else f) b):=by
 have U:=J (tt w i S mo t N A G f b r);have V:=MK w i S mo t N A G f b r
 by_cases h:A++N= []
 . have e1:bb (A++N)=false:=by rw[h];rfl
   rw[e1] at V|-;rw[if_neg (by simp)];have V:=J V;generalize ah (A++N)=x at*;generalize(if N= [] then i.a else i.n)=l at*;clear r e1 h;go_enter func213,ntmps213;go_wp2_with fail
   refine U.out.mono ?_;rintro e w1 ⟨rfl,rfl⟩;go_wp2_with fail
   refine V.out.mono ?_;rintro e w1 ⟨rfl,hp⟩;have P:=J hp;clear hp;go_wp2_with fail
   go_ret2
   exact⟨rfl,P.out⟩
 . have e1:bb (A++N)=true:=by cases hq:A++N <;> simp_all [bb]
   have hx:=CU w i S mo t N A G f b r h;rw[e1] at V|-;rw[if_pos rfl];have V:=J V;generalize ah (A++N)=x at*;generalize(if N= [] then i.a else i.n)=l at*;clear r e1 h;go_enter func213,ntmps213;go_wp2_with fail
   refine U.out.mono ?_;rintro e w1 ⟨rfl,rfl⟩;go_wp2_with fail
   refine V.out.mono ?_;rintro e w1 ⟨rfl,S1,r1,hW⟩;obtain⟨_,_,_,_,_,c5⟩:=r1.cells;obtain⟨w2,jW,hO,hg⟩:=r1.o.drop hx 0;have xS:∀ty,(Builtin.delete_ #[196,9] ty #[.map (some i.O),.string x]).run prog w1= .ok (.tuple #[]) w2:=λ_=>jW;have P:=zs (aL (.tuple #[.string x,.bool true]) w i S mo t N.dropLast (dA N A) G (eC f x) b (.returned (.tuple #[.string x,.bool true])) w2) (⟨rfl,S1,(r1.y9 hO hg (zg _)).1,hW.trans (r1.y9 hO hg (zg _)).2⟩);clear r1 hW jW hO hg U V;go_wp2_with fail
   go_ret2
   exact P.out
theorem BI(key:zy)(hs:key.size<=maxLen)(hd:aw N key=true->aw A key=false):
 Calls prog 218 #[.pointer (some ⟨i.c,0,none⟩),.string key] w (aL (.bool (aw N key||aw A key)) w i S mo t (rem N key) (rem A key) (rem G key) (eC f key) b):=by
 obtain⟨_,_,_,_,c4,_⟩:=r.cells;have U:=J (ez w i.g S.g G b r.g key hs);have HH:=J r;clear r;cases hi:aw N key with
 |true=>
  have ha:=J (hd hi);have HI:=J hi;clear hi hd;rw[Bool.true_or];go_enter func218,ntmps218;go_wp2_with fail
  refine U.out.mono ?_;intro e w1 hp;obtain⟨rfl,S1,r1,dx⟩:=HH.out.eA hp (zg _);obtain⟨_,_,c2,_,_,c5⟩:=r1.cells;obtain⟨w2,jW,hO,hg⟩:=r1.o.drop hs 0;have xS:∀ty,(Builtin.delete_ #[196,9] ty #[.map (some i.O),.string key]).run prog w1= .ok (.tuple #[]) w2:=λ_=>jW;obtain⟨r2,fp⟩:=r1.y9 hO hg (zg _);obtain⟨_,_,d2,_⟩:=r2.cells;have V:=ez w2 i.n S1.n N b r2.n key hs;rw[HI.out] at V;have V:=J V;have R2:=J r2;have W2:=J (dx.trans fp);clear hp r1 dx jW hO hg r2 fp U c4;go_wp2_with fail
  refine V.out.mono ?_;intro e w3 hp;obtain⟨rfl,S3,r3,gf⟩:=R2.out.fU hp (zg _);have R3:=J r3;have W3:=J (W2.out.trans gf);clear hp r3 gf V;go_wp2_with fail
  go_ret;refine⟨rfl,S3,?_,W3.out⟩;rw[aZ (bz.1 ha.out)];exact R3.out
 |false=>
  have HI:=J hi;clear hi hd;rw[Bool.false_or];go_enter func218,ntmps218;go_wp2_with fail
  refine U.out.mono ?_;intro e w1 hp;obtain⟨rfl,S1,r1,dx⟩:=HH.out.eA hp (zg _);obtain⟨_,_,c2,_,_,c5⟩:=r1.cells;obtain⟨w2,jW,hO,hg⟩:=r1.o.drop hs 0;have xS:∀ty,(Builtin.delete_ #[196,9] ty #[.map (some i.O),.string key]).run prog w1= .ok (.tuple #[]) w2:=λ_=>jW;obtain⟨r2,fp⟩:=r1.y9 hO hg (zg _);obtain⟨_,_,d2,_⟩:=r2.cells;have V:=ez w2 i.n S1.n N b r2.n key hs;rw[HI.out] at V;have V:=J V;have R2:=J r2;have W2:=J (dx.trans fp);clear hp r1 dx jW hO hg r2 fp U c4;go_wp2_with fail
  refine V.out.mono ?_;intro e w3 hp;obtain⟨rfl,S3,r3,gf⟩:=R2.out.fU hp (zg _);obtain⟨_,_,_,c3,_⟩:=r3.cells;have Z:=J (ez w3 i.a S3.a A b r3.a key hs);have R3:=J r3;have W3:=J (W2.out.trans gf);clear hp r3 gf V;go_wp2_with fail
  refine Z.out.mono ?_;intro e w4 hp;obtain⟨rfl,S4,r4,Et⟩:=R3.out.lp hp (zg _);have R4:=J r4;have W4:=J (W3.out.trans Et);clear hp r4 Et Z;go_wp2_with fail
  go_ret;exact⟨rfl,S4,R4.out,W4.out⟩
theorem ML(h:t < mo):Calls prog 228 #[.pointer (some ⟨i.c,0,none⟩)] w (aL (.tuple #[]) w i S mo (t+1) N A G f b):=by
 obtain⟨c0,c1,_⟩:=r.cells;obtain⟨_,f1⟩:=r.pK;have ht:=r.top;have e0:decide (t < mo)=true:=by simpa using h
 have R:=J (λm=>(r.drewN m).kB (t+1) (by omega));clear r;go_enter func228,ntmps228;go_wp2_with fail
 go_quiet(fail)
 go_wp2_with fail
 go_end0;exact⟨rfl,S,(R.out _).1,(aJ.below (av w _)).trans (aJ.same (R.out _).2)⟩
theorem Eu(h:¬t < mo):Calls prog 228 #[.pointer (some ⟨i.c,0,none⟩)] w (aL (.tuple #[]) w i S mo t N A G f b):=by
 obtain⟨c0,c1,_⟩:=r.cells;have e0:decide (t < mo)=false:=by simpa using h
 have R:=J (λm=>(r.drewN m));clear r;go_enter func228,ntmps228;go_wp2_with fail
 go_quiet(fail)
 go_wp2_with fail
 go_end0;exact⟨rfl,S,R.out _,aJ.below (av w _)⟩
theorem MN(h:1 < t):Calls prog 222 #[.pointer (some ⟨i.c,0,none⟩)] w (aL (.tuple #[]) w i S mo (t - 1) N A G f b):=by
 obtain⟨c0,c1,_⟩:=r.cells;obtain⟨_,f1⟩:=r.pK;have ht:=r.top;have R:=r.kB (t - 1) (by omega);obtain⟨u,rfl⟩:∃u,t=u+1:=⟨t - 1,by omega⟩;have e0:decide (1 < ((u+1:Nat):Int))=true:=by simp;omega
 rw[show u+1 - 1=u by omega] at R|-;have R:=J R;clear r;go_enter func222,ntmps222;go_wp2_with fail
 go_end0;exact⟨rfl,S,R.out.1,aJ.same R.out.2⟩
theorem Ev(h:¬1 < t):Calls prog 222 #[.pointer (some ⟨i.c,0,none⟩)] w (aL (.tuple #[]) w i S mo t N A G f b):=by
 obtain⟨c0,c1,_⟩:=r.cells;have e0:decide (1 < (t:Int))=false:=by simp;omega
 have R:=J r;clear r;go_enter func222,ntmps222;go_wp2_with fail
 go_end0;exact⟨rfl,S,R.out,aJ.refl _ _⟩
end
end SR
namespace SR
open Go.RowKit Sg
theorem uF(w:zw)(l m j0:Nat)(F:FuncId)(hF:∀args w,(callFunc F args).run prog w= .ok (.enter F args) w)(p:Addr)(I:Nat->zw->Prop)(h0:I j0 w)
 (hlen:∀j W,I j W->Calls prog 148 #[.pointer (some ⟨l,0,none⟩)] W (bS (j:Int) W))
 (MO:∀j W,j < j0->I (j+1) W->Calls prog 144 #[.pointer (some ⟨l,0,none⟩)] W (λe w'=>∃x,e= .returned (.tuple #[.string x,.bool true])/\Calls prog F #[.string x,.pointer (some p)] w' (λe w2=>e= .returned (.tuple #[])/\I j w2))):
 Calls prog 231 #[.pointer (some ⟨l,0,none⟩),.int .i64 (m:Int),.func (.func F) #[] #[.pointer (some p)]] w (λe w'=>e= .returned (.tuple #[])/\I (min m j0) w'):=by
 have H0:=J h0;have HL:=J hlen;have HP:=J MO;clear h0 hlen MO;go_enter func231,ntmps231;go_wp2_with fail
 go_loopg [] (j0 - m) (λk W=>k<=j0 - m/\I (min m j0+k) W)
 case atStart=>exact⟨zg _,by rw[show min m j0+(j0 - m)=j0 by omega];exact H0.out⟩
 case round=>
  obtain⟨hk,hI⟩:=hrel;have U:=J (HL.out _ _ hI);have II:=J hI;obtain⟨q,hq⟩:=zx (min m j0+gk);rw[← hq] at U;have HQ:=J hq;clear hI;cases gk with
  |zero=>
   have e0:decide (m < q)=false:=by simp;omega
   clear hq;go_wp2_with fail
   refine U.out.mono ?_;rintro e wr ⟨rfl,rfl⟩;go_wp2_with fail
   go_end0;exact⟨rfl,II.out⟩
  |succ gk=>
   have e0:decide (m < q)=true:=by simp;omega
   have V:=J (HP.out (min m j0+gk) _ (by omega) II.out);clear hq;go_wp2_with fail
   refine U.out.mono ?_;rintro e wr ⟨rfl,rfl⟩;go_wp2_with fail
   refine V.out.mono ?_;rintro e w2 ⟨x,rfl,hF⟩;have Z:=J hF;clear hF U V;go_wp2_with fail
   refine Z.out.mono ?_;rintro e w3 ⟨rfl,hI⟩;have I3:=J hI;clear hI Z;go_wp2_with fail
   go_roundg gk
   case measure=>omega
   case rel=>exact⟨by omega,I3.out⟩
def CB(w:zw)(cb:Nat)(i:Ix):Prop:=w.heap[cb]?=some (.cells #[.pointer (some ⟨i.c,0,none⟩)] 147 (0,0))
theorem CB.lt{w:zw}{cb:Nat}{i:Ix}(k:CB w cb i):cb < w.heap.size:=(Array.getElem?_eq_some_iff.1 k).1
theorem CB.cell{w:zw}{cb:Nat}{i:Ix}(k:CB w cb i):w.cell? ⟨cb,0,none⟩=some (.pointer (some ⟨i.c,0,none⟩)):=cell_of_row w _ 0 _ _ _ k
theorem bY{w w':zw}{S S':Nat->Prop}{k:Nat}(h:aJ w w' S S')(hk:k < w.heap.size)(hn:¬S k):w'.heap[k]?=w.heap[k]?/\¬S' k:=
 ⟨h.a8.block k hk hn,λh1=>by rcases h.new k h1 with h|h;exact hn h;omega⟩
theorem TN(w:zw)(cb:Nat)(i:Ix)(S:Sx)(mo t:Nat)(N A G:zY)(f:Told)(b:Nat)(x:zy)(r:Raw w i S mo t N A G f b)(k:CB w cb i)(hx:x∉N)(hs:x.size<=maxLen)(hb:b<=990)(hl:N.length+1<=b):
 Calls prog 233 #[.string x,.pointer (some ⟨cb,0,none⟩)] w (aL (.tuple #[]) w i S mo t (x::N) A G f b):=by
 have k0:=k.cell;obtain⟨_,_,c2,_⟩:=r.cells;have U:=J (fJ w i.n S.n N b r.n x b hx hs hb (zg _) hl);have HH:=J r;clear r k;go_enter func233,ntmps233;go_wp2_with fail
 refine U.out.mono ?_;intro e w1 hp;have P:=J (HH.out.fU hp (zg _));obtain⟨rfl,_⟩:=hp;go_wp2_with fail
 go_end0;exact P.out
theorem TP(w:zw)(cb:Nat)(i:Ix)(S:Sx)(mo t:Nat)(N A G:zY)(f:Told)(b:Nat)(x:zy)(r:Raw w i S mo t N A G f b)(k:CB w cb i)(hs:x.size<=maxLen):
 Calls prog 232 #[.string x,.pointer (some ⟨cb,0,none⟩)] w (aL (.tuple #[]) w i S mo t N A G (eC f x) b):=by
 have k0:=k.cell;obtain⟨_,_,_,_,_,c5⟩:=r.cells;obtain⟨w2,jW,hO,hg⟩:=r.o.drop hs 0;have xS:∀ty,(Builtin.delete_ #[196,9] ty #[.map (some i.O),.string x]).run prog w= .ok (.tuple #[]) w2:=λ_=>jW;have P:=zs (aL (.tuple #[]) w i S mo t N A G (eC f x) b (.returned (.tuple #[])) w2) (⟨rfl,S,(r.y9 hO hg (zg _)).1,(r.y9 hO hg (zg _)).2⟩);clear r k jW hO hg;go_enter func232,ntmps232;go_wp2_with fail
 go_end0;exact P.out
theorem Vj:∀args w,(callFunc 233 args).run prog w= .ok (.enter 233 args) w:=λargs w=>by kernel_rfl
theorem Vk:∀args w,(callFunc 232 args).run prog w= .ok (.enter 232 args) w:=λargs w=>by kernel_rfl
theorem fz{xs:zY}{j:Nat}(h:j < xs.length):ah (xs.take (j+1))=xs.getD j ⟨#[]⟩/\bb (xs.take (j+1))=true/\(xs.take (j+1)).dropLast=xs.take j:=by
 rw[dP xs j ⟨#[]⟩ h];refine⟨by simp[ah],?_,by simp⟩;unfold bb;cases h2:xs.take j <;> rfl
theorem drop_cons{xs:zY}{j:Nat}(h:j < xs.length):xs.drop j=xs.getD j ⟨#[]⟩::xs.drop (j+1):=by
 rw[List.drop_eq_getElem_cons h,zt,zm h];rfl
theorem getD_in{xs:zY}{j:Nat}(h:j < xs.length):xs.getD j ⟨#[]⟩∈xs:=by
 rw[zt,zm h];exact qy h
theorem Ew(f:Told){xs:zY}{j:Nat}(h:j < xs.length):eC (fZ f (xs.drop (j+1))) (xs.getD j ⟨#[]⟩)=fZ f (xs.drop j):=by
 rw[drop_cons h];generalize xs.getD j ⟨#[]⟩=k
 funext x
 unfold eC fZ aw
 by_cases e:x=k
 . rw[if_pos e];simp[e]
 . rw[if_neg e];simp[qa e]
theorem Gu(f:Told):fZ f []=f:=by funext x;simp[fZ,aw]
def MQ(w:zw)(cb:Nat)(i:Ix)(S:Sx)(mo t:Nat)(N A G:zY)(f:Told)(b j:Nat)(W:zw):Prop:=
 ∃S',Raw W i S' mo t (A.drop j++N) (A.take j) G f b/\aJ w W (ax i S) (ax i S')/\CB W cb i/\¬ax i S' cb
theorem CV(w:zw)(cb:Nat)(i:Ix)(S:Sx)(mo t:Nat)(N A G:zY)(f:Told)(b m:Nat)(r:Raw w i S mo t N A G f b)(k:CB w cb i)(hn:¬ax i S cb)(hd:(A++N).Nodup)(hb:b<=990)(hl:A.length+N.length<=b):
 Calls prog 231 #[.pointer (some ⟨i.a,0,none⟩),.int .i64 (m:Int),.func (.func 233) #[] #[.pointer (some ⟨cb,0,none⟩)]] w
  (λe w'=>e= .returned (.tuple #[])/\MQ w cb i S mo t N A G f b (min m A.length) w'):=by
 refine uF w i.a m A.length _ Vj ⟨cb,0,none⟩ (λj W=>j<=A.length/\MQ w cb i S mo t N A G f b j W) ?_ ?_ ?_ |>.mono (λe w' h=>⟨h.1,h.2.2⟩)
 . refine⟨zg _,S,?_,aJ.refl _ _,k,hn⟩;rw[List.drop_length,List.take_length];exact r
 . rintro j W ⟨hj,S',hR,_⟩;have:=oR W i.a S'.a _ b hR.a;rw[qh,Nat.min_eq_left hj] at this;exact this
 . rintro j W hj ⟨_,S',hR,hW,hK,hN⟩;have U:=gR W i.a S'.a _ b hR.a;rw[(fz hj).1,(fz hj).2.1,(fz hj).2.2] at U;refine U.mono ?_;intro e w1 hp;obtain⟨rfl,S1,r1,dx⟩:=hR.lp hp (zg _);have o1:=bY dx hK.lt hN
   have hx:A.getD j ⟨#[]⟩∉A.drop (j+1)++N:=by
    have h1:(A.drop j++N).Nodup:=hd.sublist ((List.drop_sublist j A).append_right N);rw[drop_cons hj,List.cons_append] at h1;exact(List.nodup_cons.1 h1).1
   refine⟨_,rfl,(TN w1 cb i S1 mo t _ _ G f b _ r1 (o1.1.trans hK) hx (r.a.small _ (getD_in hj)) hb ?_).mono ?_⟩
   . rw[zh,xm];omega
   rintro e w2 ⟨rfl,S2,r2,fp⟩;have o2:=bY fp (xd hK.lt dx.a8.size) o1.2;refine⟨rfl,by omega,S2,?_,hW.trans (dx.trans fp),o2.1.trans (o1.1.trans hK),o2.2⟩;rw[drop_cons hj];exact r2
def zC(w:zw)(cb:Nat)(i:Ix)(S:Sx)(mo t:Nat)(N A G:zY)(f:Told)(b j:Nat)(W:zw):Prop:=
 ∃S',Raw W i S' mo t N A (G.take j) (fZ f (G.drop j)) b/\aJ w W (ax i S) (ax i S')/\CB W cb i/\¬ax i S' cb
theorem CW(w:zw)(cb:Nat)(i:Ix)(S:Sx)(mo t:Nat)(N A G:zY)(f:Told)(b m:Nat)(r:Raw w i S mo t N A G f b)(k:CB w cb i)(hn:¬ax i S cb):
 Calls prog 231 #[.pointer (some ⟨i.g,0,none⟩),.int .i64 (m:Int),.func (.func 232) #[] #[.pointer (some ⟨cb,0,none⟩)]] w
  (λe w'=>e= .returned (.tuple #[])/\zC w cb i S mo t N A G f b (min m G.length) w'):=by
 refine uF w i.g m G.length _ Vk ⟨cb,0,none⟩ (λj W=>j<=G.length/\zC w cb i S mo t N A G f b j W) ?_ ?_ ?_ |>.mono (λe w' h=>⟨h.1,h.2.2⟩)
 . refine⟨zg _,S,?_,aJ.refl _ _,k,hn⟩;rw[List.drop_length,List.take_length,Gu];exact r
 . rintro j W ⟨hj,S',hR,_⟩;have:=oR W i.g S'.g _ b hR.g;rw[qh,Nat.min_eq_left hj] at this;exact this
 . rintro j W hj ⟨_,S',hR,hW,hK,hN⟩;have U:=gR W i.g S'.g _ b hR.g;rw[(fz hj).1,(fz hj).2.1,(fz hj).2.2] at U;refine U.mono ?_;intro e w1 hp;obtain⟨rfl,S1,r1,dx⟩:=hR.eA hp (zg _);have o1:=bY dx hK.lt hN;refine⟨_,rfl,(TP w1 cb i S1 mo t _ _ _ _ b _ r1 (o1.1.trans hK) (r.g.small _ (getD_in hj))).mono ?_⟩;rintro e w2 ⟨rfl,S2,r2,fp⟩;have o2:=bY fp (xd hK.lt dx.a8.size) o1.2;refine⟨rfl,by omega,S2,?_,hW.trans (dx.trans fp),o2.1.trans (o1.1.trans hK),o2.2⟩;rw[Ew f hj] at r2;exact r2
end SR
namespace SR
open Go.RowKit Sg
theorem zD{w:zw}{i:Ix}{S:Sx}{mo t:Nat}{N A G:zY}{f:Told}{b:Nat}(r:Raw w i S mo t N A G f b):
 CB (w.alloc (.cells #[.pointer (some ⟨i.c,0,none⟩)] 147)) w.heap.size i/\¬ax i S w.heap.size/\Raw (w.alloc (.cells #[.pointer (some ⟨i.c,0,none⟩)] 147)) i S mo t N A G f b/\Below w.heap.size w (w.alloc (.cells #[.pointer (some ⟨i.c,0,none⟩)] 147)):=by
 have hb:=(zo w.heap.size w).alloc (zg _) (.cells #[.pointer (some ⟨i.c,0,none⟩)] 147);exact⟨heap_alloc_new _ _,λh=>by have:=r.lt h;omega,r.below hb,hb⟩
def mx(t:Nat):Nat:=max t 1
theorem MR(t:Nat):((mx t:Nat):Int)=max (t:Int) 1:=by unfold mx;omega
def zE(w:zw)(i:Ix)(S:Sx)(mo t:Nat)(N A G:zY)(f:Told)(b:Nat)(key:zy)(e:Ending)(w':zw):Prop:=
 aL (.tuple #[]) w i S mo t ((key::A).drop (mx t)++N) ((key::A).take (mx t)) G (iG f key) (b+1) e w'
structure jj(F:FuncId)(p:Addr)(K:zY->(Nat->Prop)->zw->Prop):Prop where
 enter:∀args w,(callFunc F args).run prog w= .ok (.enter F args) w
 lt:∀vs X W,K vs X W->∀k,X k->k < W.heap.size
 same:∀vs X W W',K vs X W->W.heap.size<=W'.heap.size->(∀k,X k->W'.heap[k]?=W.heap[k]?)->K vs X W'
 call:∀vs X W x,K vs X W->vs.length<=1000->x.size<=maxLen->Calls prog F #[.string x,.pointer (some p)] W (λe W'=>e= .returned (.tuple #[])/\∃X',K (vs++ [x]) X' W'/\aJ W W' X X')
def both(i:Ix)(S:Sx)(X:Nat->Prop):Nat->Prop:=λk=>ax i S k\/X k
structure uG(w W:zw)(i:Ix)(S S':Sx)(X X':Nat->Prop)(cb:Nat):Prop where
 dS:aJ w W (both i S X) (both i S' X')
 eD:∀k,X' k->¬ax i S' k
 box:CB W cb i
 out:¬both i S' X' cb
theorem uG.cache{w W W2:zw}{i:Ix}{S S' S2:Sx}{X X':Nat->Prop}{cb:Nat}(d:uG w W i S S' X X' cb)(hx:∀k,X' k->k < W.heap.size)(hW:aJ W W2 (ax i S') (ax i S2)):
 uG w W2 i S S2 X X' cb/\∀k,X' k->W2.heap[k]?=W.heap[k]?:=by
 have o:=λk (hk:X' k)=>bY hW (hx k hk) (d.eD k hk);have oc:=bY hW d.box.lt (λh=>d.out (xz h))
 have hw:aJ W W2 (both i S' X') (both i S2 X'):=by
  refine⟨λk hk=>?_,hW.a8.wide λk _ h=>xz h⟩;rcases hk with h|h
  . rcases hW.new k h with h|h
    . exact xz (xz h)
    . exact ja h
  . exact xz (ja h)
 exact⟨⟨d.dS.trans hw,λk hk=>(o k hk).2,oc.1.trans d.box,λh=>by rcases h with h|h;exact oc.2 h;exact d.out (ja h)⟩,λk hk=>(o k hk).1⟩
theorem uG.side{w W W2:zw}{i:Ix}{S S':Sx}{X X' X2:Nat->Prop}{cb:Nat}(d:uG w W i S S' X X' cb)(hb:∀k,ax i S' k->k < W.heap.size)(hW:aJ W W2 X' X2):
 uG w W2 i S S' X X2 cb/\∀k,ax i S' k->W2.heap[k]?=W.heap[k]?:=by
 have o:=λk (hk:ax i S' k)=>bY hW (hb k hk) (λh=>d.eD k h hk);have oc:=bY hW d.box.lt (λh=>d.out (ja h))
 have hw:aJ W W2 (both i S' X') (both i S' X2):=by
  refine⟨λk hk=>?_,hW.a8.wide λk _ h=>ja h⟩;rcases hk with h|h
  . exact xz (xz h)
  . rcases hW.new k h with h|h
    . exact xz (ja h)
    . exact ja h
 exact⟨⟨d.dS.trans hw,λk hk h=>(o k h).2 hk,oc.1.trans d.box,λh=>by rcases h with h|h;exact d.out (xz h);exact oc.2 h⟩,λk hk=>(o k hk).1⟩
structure dp(w W:zw)(i:Ix)(S S':Sx)(X X':Nat->Prop)(K:zY->(Nat->Prop)->zw->Prop)(cb mo t:Nat)(N A G:zY)(f:Told)(b j:Nat):Prop where
 kh:uG w W i S S' X X' cb
 raw:Raw W i S' mo t (N.take (N.length - j)) (A.take (A.length+N.length - j)) ((A++N).drop (A.length+N.length - j)++G) f b
 side:K ((A++N).reverse.take j) X' W
theorem om{N A:zY}{j:Nat}(hj:j < A.length+N.length):
 ah (A.take (A.length+N.length - j)++N.take (N.length - j))=(A++N).getD (A.length+N.length - (j+1)) ⟨#[]⟩/\bb (A.take (A.length+N.length - j)++N.take (N.length - j))=true/\
 (N.take (N.length - j)).dropLast=N.take (N.length - (j+1))/\dA (N.take (N.length - j)) (A.take (A.length+N.length - j))=A.take (A.length+N.length - (j+1)):=by
 have e1:A.take (A.length+N.length - j)++N.take (N.length - j)=(A++N).take (A.length+N.length - (j+1)+1):=by
  rw[List.take_append,show A.length+N.length - (j+1)+1=A.length+N.length - j by omega];congr 2;omega
 have hl:A.length+N.length - (j+1) < (A++N).length:=by rw[zh];omega
 have e2:=fz hl;refine⟨by rw[e1];exact e2.1,by rw[e1];exact e2.2.1,?_,?_⟩
 . rw[List.dropLast_eq_take,List.take_take,qh];congr 1;omega
 . unfold dA
   by_cases h:N.length<=j
   . rw[if_pos (by rw[show N.length - j=0 by omega];rfl),List.dropLast_eq_take,List.take_take,qh];congr 1;omega
   . rw[if_neg (λh2=>by have:=congrArg List.length h2;rw[qh,ql] at this;omega)];rw[qk (by omega),qk (by omega)]
theorem pL{L:zY}{j:Nat}(hj:j < L.length):L.drop (L.length - (j+1))=L.getD (L.length - (j+1)) ⟨#[]⟩::L.drop (L.length - j)/\L.reverse.take (j+1)=L.reverse.take j++ [L.getD (L.length - (j+1)) ⟨#[]⟩]:=by
 constructor
 . rw[drop_cons (by omega),show L.length - (j+1)+1=L.length - j by omega]
 . have hl:j < L.reverse.length:=by rw[qp];exact hj
   rw[dP L.reverse j ⟨#[]⟩ hl,zt,zt,List.getElem?_reverse hj,show L.length - 1 - j=L.length - (j+1) by omega]
def gS(w:zw)(i:Ix)(S:Sx)(X:Nat->Prop)(K:zY->(Nat->Prop)->zw->Prop)(mo t:Nat)(N A G:zY)(f:Told)(b n:Nat)(e:Ending)(w':zw):Prop:=
 e= .returned (.tuple #[])/\∃S' X',Raw w' i S' mo t (N.take (N.length - n)) (A.take (A.length+N.length - n)) (((A++N).drop (A.length+N.length - n)++G).take mo) (fZ f (((A++N).drop (A.length+N.length - n)++G).drop mo)) b/\
  K ((A++N).reverse.take n) X' w'/\aJ w w' (both i S X) (both i S' X')/\∀k,X' k->¬ax i S' k
end SR
namespace SR
open Go.RowKit Sg
theorem Gv{w w3 W w4:zw}{i:Ix}{S S3 S4:Sx}{mo t m:Nat}{N A G:zY}{f:Told}{b:Nat}{key:zy}(h:aJ w w3 (ax i S) (ax i S3))(d:Below w3.heap.size w3 W)(k:aJ W w4 (ax i S3) (ax i S4))
 (r:Raw w4 i S4 mo t ((key::A).drop (min m (key::A).length)++N) ((key::A).take (min m (key::A).length)) G (iG f key) (b+1)) (hm:m=mx t):zE w i S mo t N A G f b key (.returned (.tuple #[])) w4:=by
 subst hm
 have h1:(key::A).take (min (mx t) (key::A).length)=(key::A).take (mx t):=by
  by_cases h:mx t<=(key::A).length
  . rw[Nat.min_eq_left h]
  . rw[Nat.min_eq_right (by omega),List.take_length,qk (by omega)]
 have h2:(key::A).drop (min (mx t) (key::A).length)=(key::A).drop (mx t):=by
  by_cases h:mx t<=(key::A).length
  . rw[Nat.min_eq_left h]
  . rw[Nat.min_eq_right (by omega),List.drop_length,List.drop_of_length_le (by omega)]
 rw[h1,h2] at r;exact⟨rfl,S4,r,h.trans ((aJ.below d).trans k)⟩
theorem pM(w:zw)(i:Ix)(S:Sx)(mo t:Nat)(N A G:zY)(f:Told)(b:Nat)(key:zy)(r:Raw w i S mo t N A G f b)(hs:key.size<=maxLen)(hk:key∉A++N)(hd:(A++N).Nodup)(hb:b<=980)(hl:A.length+N.length+1<=b+1):
 Calls prog 229 #[.pointer (some ⟨i.c,0,none⟩),.string key] w (zE w i S mo t N A G f b key):=by
 obtain⟨k1,hn,r1,cU⟩:=zD r;have K0:=k1.cell;have cx:=r.cx;obtain⟨_,_,_,_,_,c5⟩:=r1.cells;obtain⟨w2,kT,hO,hg⟩:=r1.o.store hs (by omega);obtain⟨r2,fp⟩:=r1.y9 hO hg (by omega);have o2:=bY fp k1.lt hn;have k2:CB w2 w.heap.size i:=o2.1.trans k1;have K2:=k2.cell;obtain⟨_,_,_,d3,_,_⟩:=r2.cells;have U:=J (fJ w2 i.a S.a A (b+1) r2.a key (b+1) (λh=>hk (qq _ h)) hs (by omega) (zg _) (by omega));have R2:=J r2;have KK:=J k2;have N2:=J o2.2;have W2:=J ((aJ.below cU).trans fp:aJ w w2 (ax i S) (ax i S));have HD:=zs (((key::A)++N).Nodup) (by rw[List.cons_append,qj];exact⟨hk,hd⟩);have ht:=r.top;clear r r1 k1 hO hg r2 fp o2 k2 cU hk hd hn;go_enter func229,ntmps229;go_wp2_with fail
 refine U.out.mono ?_;intro e w3 hp;obtain⟨rfl,S3,r3,gf⟩:=R2.out.lp hp (zg _);have o3:=bY gf KK.out.lt N2.out;have k3:CB w3 w.heap.size i:=o3.1.trans KK.out;have K3:=k3.cell;obtain⟨_,e1,_,e3,_,_⟩:=r3.cells;have HW:=J (W2.out.trans gf);have V:=J (λ(W:zw) (g:Below w3.heap.size w3 W)=>CV W w.heap.size i S3 mo t N (key::A) G (iG f key) (b+1) (mx t) (r3.below g) ((g.block _ k3.lt).trans k3) o3.2 HD.out (by omega) (by rw[zv];omega));obtain⟨m,hm⟩:=zx (mx t);have tx:(if(t:Int) < 1 then(1:Int) else(t:Int))=(m:Int):=by rw[hm,MR];split <;> omega
 have HM:=J hm;rw[← hm] at V;clear hm;clear hp r3 gf o3 k3 R2 U K0 K2 c5 d3 kT HD W2 KK N2;go_wp2_with fail
 have D0:=zs (Below w3.heap.size w3 w3.drew) (⟨rfl,rfl,rfl,zg _,λ_ _=>rfl⟩)
 go_region_held3(λw'=>w'.cell? ⟨w.heap.size,0,none⟩=some (.pointer (some ⟨i.c,0,none⟩))/\w'.cell? ⟨i.c,1,none⟩=some (.int .i64 (t:Int))/\w'.cell? ⟨i.c,3,none⟩=some (.pointer (some ⟨i.a,0,none⟩))) (first|(exact⟨Z0,z1,z3⟩)|(exact⟨K3,e1,e3⟩)|go_keep)
  ((go_at_call 231;refine(V.out _ D0.out).mono ?_;rintro e w4 ⟨rfl,S4,r4,Et,lq,Vl⟩;have R4:=J r4;have W4:=J Et;have Z0:=lq.cell;obtain⟨_,z1,_,z3,_,_⟩:=r4.cells;clear r4 Et lq Vl))
 all_goals
  go_wp2_with fail
  go_end0;exact Gv HW.out D0.out W4.out R4.out HM.out
end SR
namespace SR
open Go.RowKit Sg
section
variable{w W W2:zw}{i:Ix}{S S' S2:Sx}{X X':Nat->Prop}{K:zY->(Nat->Prop)->zw->Prop}{cb mo t:Nat}{N A G:zY}{f:Told}{b j:Nat}{F:FuncId}{p:Addr}{e:Ending}{v:Value}
theorem dp.below(c:dp w W i S S' X X' K cb mo t N A G f b j)(sd:jj F p K)(hb:Below W.heap.size W W2):dp w W2 i S S' X X' K cb mo t N A G f b j:=
 ⟨⟨c.kh.dS.trans (aJ.below hb),c.kh.eD,(hb.block _ c.kh.box.lt).trans c.kh.box,c.kh.out⟩,c.raw.below hb,sd.same _ _ _ _ c.side hb.size λk hk=>hb.block k (sd.lt _ _ _ c.side k hk)⟩
structure MS(w W:zw)(i:Ix)(S S':Sx)(X X':Nat->Prop)(K:zY->(Nat->Prop)->zw->Prop)(cb mo t:Nat)(N A G:zY)(f:Told)(b j:Nat):Prop where
 kh:uG w W i S S' X X' cb
 raw:Raw W i S' mo t (N.take (N.length - (j+1))) (A.take (A.length+N.length - (j+1))) ((A++N).drop (A.length+N.length - j)++G) f b
 side:K ((A++N).reverse.take j) X' W
theorem dp.pop(c:dp w W i S S' X X' K cb mo t N A G f b j)(sd:jj F p K)(hj:j < A.length+N.length)
 (hp:aL v W i S' mo t (N.take (N.length - j)).dropLast (dA (N.take (N.length - j)) (A.take (A.length+N.length - j))) ((A++N).drop (A.length+N.length - j)++G) f b e W2):e= .returned v/\∃S2,MS w W2 i S S2 X X' K cb mo t N A G f b j:=by
 obtain⟨he,S2,r2,hW⟩:=hp;rw[(om hj).2.2.1,(om hj).2.2.2] at r2;obtain⟨d2,q⟩:=c.kh.cache (sd.lt _ _ _ c.side) hW;exact⟨he,S2,d2,r2,sd.same _ _ _ _ c.side hW.a8.size q⟩
structure MT(w W:zw)(i:Ix)(S S':Sx)(X X':Nat->Prop)(K:zY->(Nat->Prop)->zw->Prop)(cb mo t:Nat)(N A G:zY)(f:Told)(b j:Nat):Prop where
 kh:uG w W i S S' X X' cb
 raw:Raw W i S' mo t (N.take (N.length - (j+1))) (A.take (A.length+N.length - (j+1))) ((A++N).drop (A.length+N.length - (j+1))++G) f b
 side:K ((A++N).reverse.take j) X' W
theorem MS.front(c:MS w W i S S' X X' K cb mo t N A G f b j)(sd:jj F p K)(hj:j < A.length+N.length)
 (hp:kL v W i.g S'.g ((A++N).getD (A.length+N.length - (j+1)) ⟨#[]⟩::((A++N).drop (A.length+N.length - j)++G)) b e W2):e= .returned v/\∃S2,MT w W2 i S S2 X X' K cb mo t N A G f b j:=by
 obtain⟨he,S2,r2,hW⟩:=c.raw.eA hp (zg _);obtain⟨d2,q⟩:=c.kh.cache (sd.lt _ _ _ c.side) hW;have hg:=pL (L:=A++N) (j:=j) (by rw[zh];exact hj);rw[zh] at hg;rw[← List.cons_append,<-hg.1] at r2;exact⟨he,S2,d2,r2,sd.same _ _ _ _ c.side hW.a8.size q⟩
theorem MT.take(c:MT w W i S S' X X' K cb mo t N A G f b j)(hj:j < A.length+N.length){X2:Nat->Prop}(hk:K ((A++N).reverse.take j++ [(A++N).getD (A.length+N.length - (j+1)) ⟨#[]⟩]) X2 W2)(hW:aJ W W2 X' X2):
 dp w W2 i S S' X X2 K cb mo t N A G f b (j+1):=by
 obtain⟨d2,q⟩:=c.kh.side (λk hk=>c.raw.lt hk) hW;have hg:=pL (L:=A++N) (j:=j) (by rw[zh];exact hj);rw[zh] at hg;rw[← hg.2] at hk;exact⟨d2,c.raw.kept hW.a8.size q,hk⟩
end
theorem zC.post{w W W4:zw}{i:Ix}{S S':Sx}{X X':Nat->Prop}{K:zY->(Nat->Prop)->zw->Prop}{cb mo t:Nat}{N A G:zY}{f:Told}{b j:Nat}{F:FuncId}{p:Addr}(c:dp w W i S S' X X' K cb mo t N A G f b j)(sd:jj F p K)
 (g:zC W cb i S' mo t (N.take (N.length - j)) (A.take (A.length+N.length - j)) ((A++N).drop (A.length+N.length - j)++G) f b (min mo ((A++N).drop (A.length+N.length - j)++G).length) W4):gS w i S X K mo t N A G f b j (.returned (.tuple #[])) W4:=by
 obtain⟨S4,r4,hW,_,_⟩:=g;obtain⟨d4,q⟩:=c.kh.cache (sd.lt _ _ _ c.side) hW;unfold gS;generalize(A++N).drop (A.length+N.length - j)++G=Q at*
 have h1:Q.take (min mo Q.length)=Q.take mo:=by
  by_cases h:mo<=Q.length
  . rw[Nat.min_eq_left h]
  . rw[Nat.min_eq_right (by omega),List.take_length,qk (by omega)]
 have h2:Q.drop (min mo Q.length)=Q.drop mo:=by
  by_cases h:mo<=Q.length
  . rw[Nat.min_eq_left h]
  . rw[Nat.min_eq_right (by omega),List.drop_length,List.drop_of_length_le (by omega)]
 rw[h1,h2] at r4;exact⟨rfl,S4,X',r4,sd.same _ _ _ _ c.side hW.a8.size q,d4.dS,d4.eD⟩
def Gw(w:zw)(i:Ix)(S:Sx)(X:Nat->Prop)(K:zY->(Nat->Prop)->zw->Prop)(cb mo t:Nat)(N A G:zY)(f:Told)(b n k:Nat)(W:zw):Prop:=
 ∃S' X' j,j+k=n/\dp w W i S S' X X' K cb mo t N A G f b j
theorem iH(w:zw)(i:Ix)(S:Sx)(mo t:Nat)(N A G:zY)(f:Told)(b left:Nat)(X:Nat->Prop)(K:zY->(Nat->Prop)->zw->Prop)(F:FuncId)(p:Addr)(r:Raw w i S mo t N A G f b)(k:K [] X w)(eT:∀k,X k->¬ax i S k)(sd:jj F p K)
 (nd:(A++N++G).Nodup) (hl:A.length+N.length+G.length<=b) (hb:b<=990):
 Calls prog 225 #[.pointer (some ⟨i.c,0,none⟩),.int .i64 (left:Int),.func (.func F) #[] #[.pointer (some p)]] w (gS w i S X K mo t N A G f b (A.length+N.length - left)):=by
 obtain⟨k1,hn,r1,cU⟩:=zD r
 have C0:dp w (w.alloc (.cells #[.pointer (some ⟨i.c,0,none⟩)] 147)) i S S X X K w.heap.size mo t N A G f b 0:=by
  refine⟨⟨aJ.below cU,eT,k1,λh=>?_⟩,?_,?_⟩
  . rcases h with h|h
    . exact hn h
    . have:=sd.lt _ _ _ k _ h;omega
  . rw[Nat.sub_zero,Nat.sub_zero,List.take_length,qk (by omega),List.drop_of_length_le (by rw[zh];omega),List.nil_append];exact r1
  . exact sd.same _ _ _ _ k cU.size λk' hk=>cU.block k' (sd.lt _ _ _ k k' hk)
 have HC:=J C0;have SD:=J sd;have hF:=sd.enter
 have b7:=J (show ∀x∈A++N,x.size<=maxLen from λx hx=>by
  rcases List.mem_append.1 hx with h|h
  . exact r.a.small _ h
  . exact r.n.small _ h)
 have ND:=J nd;clear r k eT sd k1 hn r1 cU C0 nd;go_enter func225,ntmps225;go_wp2_with fail
 obtain⟨cb,Bk⟩:=zx w.heap.size;rw[← Bk] at HC|-;clear Bk;go_loopg [] (A.length+N.length - left) (λk W=>Gw w i S X K cb mo t N A G f b (A.length+N.length - left) k W)
 case atStart=>exact⟨S,X,0,by omega,HC.out⟩
 case round=>
  obtain⟨S',X',j,hj,C⟩:=hrel;have K0:=C.kh.box.cell;have U:=CR wr i S' mo t _ _ _ f b C.raw;rw[qh,qh] at U;obtain⟨q,hq⟩:=zx (min (N.length - j) N.length+min (A.length+N.length - j) A.length);rw[← hq] at U;have U:=J U;have CC:=J C;have HQ:=J hq;have HJ:=J hj;cases gk with
  |zero=>
   have e0:decide (left < q)=false:=by simp;omega
   clear C HC hq hj;go_wp2_with fail
   refine U.out.mono ?_;rintro e w1 ⟨rfl,m,hm⟩;have C1:=zs (dp w w1 i S S' X X' K cb mo t N A G f b j) (hm▸CC.out.below SD.out (av wr m));have K1:=C1.out.kh.box.cell;clear hm CC U K0;obtain rfl:j=A.length+N.length - left:=HJ.out;obtain⟨c0,_,_,_,c4,_⟩:=C1.out.raw.cells;obtain⟨d,hd⟩:=zx (A.length+N.length - left);rw[← hd] at C1;have HD:=J hd;clear hd HJ HQ;have V:=J (λ(W:zw) (g:Below w1.heap.size w1 W)=>CW W cb i S' mo t _ _ _ f b mo (C1.out.below SD.out g).raw (C1.out.below SD.out g).kh.box (λh=>C1.out.kh.out (xz h)));go_wp2_with fail
   have D0:=zs (Below w1.heap.size w1 w1.drew) (⟨rfl,rfl,rfl,zg _,λ_ _=>rfl⟩)
   go_region_held3(λw'=>w'.cell? ⟨cb,0,none⟩=some (.pointer (some ⟨i.c,0,none⟩))/\w'.cell? ⟨i.c,0,none⟩=some (.int .i64 (mo:Int))/\w'.cell? ⟨i.c,4,none⟩=some (.pointer (some ⟨i.g,0,none⟩))) (first|(exact⟨Z0,z1,z4⟩)|(exact⟨K1,c0,c4⟩)|go_keep)
    ((go_at_call 231;refine(V.out _ D0.out).mono ?_;rintro e w4 ⟨rfl,hg⟩;have P4:=J (zC.post (C1.out.below SD.out D0.out) SD.out hg);obtain⟨S4,r4,_,lq,_⟩:=hg;have Z0:=lq.cell;obtain⟨z1,_,_,_,z4,_⟩:=r4.cells;clear r4 lq))
   all_goals
    go_wp2_with fail
    go_end0;rw[← HD.out];exact P4.out
  |succ gk=>
   have e0:decide (left < q)=true:=by simp;omega
   have mQ:j < A.length+N.length:=by omega
   clear C HC hq hj;go_wp2_with fail
   refine U.out.mono ?_;rintro e w1 ⟨rfl,m,hm⟩;have C1:=zs (dp w w1 i S S' X X' K cb mo t N A G f b j) (hm▸CC.out.below SD.out (av wr m));have K1:=C1.out.kh.box.cell;clear hm CC U K0;have U1:=J (tt w1 i S' mo t _ _ _ f b C1.out.raw);have U2:=MK w1 i S' mo t _ _ _ f b C1.out.raw;rw[(om mQ).1,(om mQ).2.1] at U2;have hx:(A++N).getD (A.length+N.length - (j+1)) ⟨#[]⟩∈A++N:=getD_in (by rw[zh];omega);have ob:=b7.out _ hx;obtain⟨x,yq⟩:=zx ((A++N).getD (A.length+N.length - (j+1)) ⟨#[]⟩);rw[← yq] at U2 hx ob;have HX:=J yq;generalize(if N.take (N.length - j)= [] then i.a else i.n)=l at U1 U2;have U2:=J U2;clear yq hx;go_wp2_with fail
   refine U1.out.mono ?_;rintro e w1 ⟨rfl,rfl⟩;go_wp2_with fail
   refine U2.out.mono ?_;intro e w2 hp;obtain⟨rfl,S2,C2⟩:=C1.out.pop SD.out mQ hp;have P2:=J C2;have K2:=C2.kh.box.cell;obtain⟨_,_,_,_,c4,_⟩:=C2.raw.cells
   have Rq:x∉(A++N).drop (A.length+N.length - j)++G:=by
    have hg:=(pL (L:=A++N) (j:=j) (by rw[zh];exact mQ)).1;rw[zh] at hg;have h1:((A++N).drop (A.length+N.length - (j+1))++G).Nodup:=ND.out.sublist ((List.drop_sublist _ _).append_right G);rw[hg,List.cons_append] at h1;rw[HX.out];exact(List.nodup_cons.1 h1).1
   have V:=J (fJ w2 i.g S2.g _ b C2.raw.g x b Rq ob hb (zg _) (by rw[zh,xm,zh];omega));clear hp C2 Rq U1 U2 C1 K1;go_wp2_with fail
   refine V.out.mono ?_;intro e w3 hp;rw[HX.out] at hp;obtain⟨rfl,S3,C3⟩:=P2.out.front SD.out mQ hp;have P3:=J C3;have K3:=C3.kh.box.cell;have Z:=J (SD.out.call _ _ _ x C3.side (by rw[qh,qp,zh];omega) ob);clear hp C3 V P2 K2 c4;go_wp2_with fail
   refine Z.out.mono ?_;rintro e w4 ⟨rfl,X4,hk,hW⟩;rw[HX.out] at hk;have P4:=J (P3.out.take mQ hk hW);clear hk hW Z;go_wp2_with fail
   go_roundg gk
   case measure=>omega
   case rel=>exact⟨S3,X4,j+1,by have:=HJ.out;omega,P4.out⟩
end SR
namespace SR
open Go.RowKit Sg
def aT(w:zw)(sb:Nat)(h:Bool)(s:zy)(o:Bool):Prop:=w.heap[sb]?=some (.cells #[.bool h,.string s,.bool o] 49 (0,0))
section
variable{w:zw}{sb:Nat}{h o:Bool}{s:zy}
theorem aT.set(k:aT w sb h s o)(x:zy):aT ((w.setCell ⟨sb,1,none⟩ (.string x)).setCell ⟨sb,2,none⟩ (.bool true)) sb h x true:=by
 unfold aT at*;have r1:(w.setCell ⟨sb,1,none⟩ (.string x)).heap[sb]?=some (.cells #[.bool h,.string x,.bool o] 49 (0,0)):=by rw[heap_setCell_same _ _ _ _ _ _ k];rfl
 rw[heap_setCell_same _ _ _ _ _ _ r1];rfl
theorem aT.cells(k:aT w sb h s o):w.cell? ⟨sb,0,none⟩=some (.bool h)/\w.cell? ⟨sb,1,none⟩=some (.string s)/\w.cell? ⟨sb,2,none⟩=some (.bool o)/\w.frozen? ⟨sb,1,none⟩=false/\w.frozen? ⟨sb,2,none⟩=false:=
 ⟨cell_of_row w _ 0 _ _ _ k,cell_of_row w _ 1 _ _ _ k,cell_of_row w _ 2 _ _ _ k,frozen_of_row w _ 1 _ _ k,frozen_of_row w _ 2 _ _ k⟩
theorem aT.lt(k:aT w sb h s o):sb < w.heap.size:=(Array.getElem?_eq_some_iff.1 k).1
theorem bo(k:aT w sb h s o):(loadVar 49 ⟨sb,0,none⟩).run prog w= .ok (.agg #[.bool h,.string s,.bool o]) w:=by
 obtain⟨k0,k1,k2,_,_⟩:=k.cells;unfold loadVar;go_simp
theorem aT.put(k:aT w sb h s o)(h' o':Bool)(s':zy):aT (((w.setCell ⟨sb,0,none⟩ (.bool h')).setCell ⟨sb,1,none⟩ (.string s')).setCell ⟨sb,2,none⟩ (.bool o')) sb h' s' o':=by
 unfold aT at*;have r1:(w.setCell ⟨sb,0,none⟩ (.bool h')).heap[sb]?=some (.cells #[.bool h',.string s,.bool o] 49 (0,0)):=by rw[heap_setCell_same _ _ _ _ _ _ k];rfl
 have r2:((w.setCell ⟨sb,0,none⟩ (.bool h')).setCell ⟨sb,1,none⟩ (.string s')).heap[sb]?=some (.cells #[.bool h',.string s',.bool o] 49 (0,0)):=by rw[heap_setCell_same _ _ _ _ _ _ r1];rfl
 rw[heap_setCell_same _ _ _ _ _ _ r2];rfl
end
theorem aV{fn:Func}{a:Tmp}{ty:TypeId}(h:fn.results= #[.cell a ty])(tmps:Array Value)(P:Program)(w:zw)(p:Addr)(v:Value)(ha:tmps.getD a undef= .pointer (some p))(hv:(loadVar ty p).run P w= .ok v w):
 (results fn tmps).run P w= .ok v w:=by
 rw[qt] at ha;simp[results,h,ha,asAddr,hv]
def bP(vs:zY):zy:=if vs= [] then⟨#[]⟩ else ah vs
def KQ(sb:Nat)(h:Bool)(vs:zY)(X:Nat->Prop)(W:zw):Prop:=X=(λk=>k=sb)/\aT W sb h (bP vs) (!vs.isEmpty)
theorem sU(w:zw)(sb:Nat)(h o:Bool)(s x:zy)(k:aT w sb h s o):
 Calls prog 226 #[.string x,.pointer (some ⟨sb,0,none⟩)] w (λe w'=>e= .returned (.tuple #[])/\aT w' sb h x true/\ao (λk=>k=sb) w w'):=by
 obtain⟨k0,k1,k2,f1,f2⟩:=k.cells;have R:=J (k.set x);clear k;go_enter func226,ntmps226;go_wp2_with fail
 go_end0;exact⟨rfl,R.out,((ao.refl (λk=>k=sb) w).setCell (p:=⟨sb,1,none⟩) (xz rfl) _).setCell (p:=⟨sb,2,none⟩) (xz rfl) _⟩
theorem jY(sb:Nat)(h:Bool):jj 226 ⟨sb,0,none⟩ (KQ sb h) where
 enter:=λargs w=>by kernel_rfl
 lt:=by rintro vs X W ⟨rfl,hB⟩ k rfl;exact hB.lt
 same:=by rintro vs X W W' ⟨rfl,hB⟩ _ hk;exact⟨rfl,(hk sb rfl).trans hB⟩
 call:=by
  rintro vs X W x ⟨rfl,hB⟩ _ _;refine(sU W sb h _ _ x hB).mono ?_;rintro e W' ⟨he,zF,hT⟩;refine⟨he,_,⟨rfl,?_⟩,aJ.same hT⟩;rw[show bP (vs++ [x])=x by unfold bP;rw[if_neg (by simp)];simp[ah],show(!(vs++ [x]).isEmpty)=true by simp];exact zF
def tB(w:zw)(i:Ix)(S:Sx)(sb mo t:Nat)(N1 A1 G1:zY)(f1:Told)(b:Nat)(h:Bool)(x:zy)(o:Bool)(e:Ending)(w':zw):Prop:=
 e= .returned (.tuple #[])/\∃S',Raw w' i S' mo t N1 A1 G1 f1 b/\
  aT w' sb h x o/\aJ w w' (both i S λk=>k=sb) (both i S' λk=>k=sb)/\¬ax i S' sb
theorem CX(w:zw)(i:Ix)(S:Sx)(cb sb mo m t:Nat)(N A G:zY)(f:Told)(b:Nat)(h:Bool)(r:Raw w i S mo t N A G f b)(k:CB w cb i)(hB:aT w sb h ⟨#[]⟩ false)(hs:¬ax i S sb)(hm:mo=m+1)(al:cb≠sb)(hc:¬ax i S cb)
 (nd:(A++N++G).Nodup) (hl:A.length+N.length+G.length<=b) (hb:b<=990):
 Calls prog 224 #[.pointer (some ⟨cb,0,none⟩),.pointer (some ⟨sb,0,none⟩)] w (tB w i S sb mo t (N.take (N.length - (A.length+N.length - m))) (A.take (A.length+N.length - (A.length+N.length - m))) (((A++N).drop (A.length+N.length - (A.length+N.length - m))++G).take mo) (fZ f (((A++N).drop (A.length+N.length - (A.length+N.length - m))++G).drop mo)) b h (bP ((A++N).reverse.take (A.length+N.length - m))) (!((A++N).reverse.take (A.length+N.length - m)).isEmpty)):=by
 have K0:=k.cell;obtain⟨c0,_⟩:=r.cells;have D0:=zs (Below w.heap.size w w.drew) (⟨rfl,rfl,rfl,zg _,λ_ _=>rfl⟩);have U:=J (iH w.drew i S mo t N A G f b m (λk=>k=sb) (KQ sb h) 226 ⟨sb,0,none⟩ (r.below D0.out) ⟨rfl,(D0.out.block _ hB.lt).trans hB⟩ (by rintro k rfl;exact hs) (jY sb h) nd hl hb);have ht:=r.top.1;have HW:IntKind.i64.wrap ((mo:Int) - 1)=(m:Int):=by rw[qi _ (by omega)];omega
 have HK:=J k;have HN:=zs (¬both i S (λk=>k=sb) cb) (λh=>by rcases h with h|h;exact hc h;exact al h);clear r k hB nd hm hs hc al;go_enter func224,ntmps224;go_wp2_with fail
 go_region_held3(λw'=>w'.cell? ⟨cb,0,none⟩=some (.pointer (some ⟨i.c,0,none⟩))/\w'.cell? ⟨i.c,0,none⟩=some (.int .i64 (mo:Int))) (first|(exact⟨Z0,z1⟩)|(exact⟨K0,c0⟩)|go_keep)
  ((go_at_call 225;refine U.out.mono ?_;rintro e w4 ⟨rfl,S4,X4,r4,⟨rfl,yO⟩,hW,hd⟩;obtain⟨z1,_⟩:=r4.cells;have Z0:=CB.cell (i:=i) ((bY hW HK.out.lt HN.out).1.trans HK.out);have P4:=J (show tB w i S sb mo t (N.take (N.length - (A.length+N.length - m))) (A.take (A.length+N.length - (A.length+N.length - m))) (((A++N).drop (A.length+N.length - (A.length+N.length - m))++G).take mo) (fZ f (((A++N).drop (A.length+N.length - (A.length+N.length - m))++G).drop mo)) b h (bP ((A++N).reverse.take (A.length+N.length - m))) (!((A++N).reverse.take (A.length+N.length - m)).isEmpty) (.returned (.tuple #[])) w4 from⟨rfl,S4,r4,yO,(aJ.below D0.out).trans hW,hd sb rfl⟩);clear r4 yO hW hd))
 all_goals
  go_wp2_with fail
  go_end0;exact P4.out
structure bN(w W:zw)(i:Ix)(S S':Sx)(mo t:Nat)(N A G:zY)(f:Told)(b:Nat)(h:Bool)(s:zy)(o:Bool):Prop where
 raw:Raw W i S' mo t N A G f b
 cb:CB W w.heap.size i
 res:aT W (w.heap.size+1) false ⟨#[]⟩ false
 step:aT W (w.heap.size+1+1) h s o
 dS:aJ w W (ax i S) (ax i S')
 n0:¬ax i S' w.heap.size
 n1:¬ax i S' (w.heap.size+1)
 n2:¬ax i S' (w.heap.size+1+1)
section
variable{w W W':zw}{i:Ix}{S S' S2:Sx}{mo t mo' t':Nat}{N A G N' A' G':zY}{f f':Told}{b b':Nat}{h o:Bool}{s:zy}{e:Ending}{v:Value}
abbrev bn(i:Ix):Obj:= .cells #[.pointer (some ⟨i.c,0,none⟩)] 147
abbrev bV(h:Bool)(s:zy)(o:Bool):Obj:= .cells #[.bool h,.string s,.bool o] 49
theorem bN.start(r:Raw w i S mo t N A G f b)(h:Bool):bN w (((w.alloc (bn i)).alloc (bV false ⟨#[]⟩ false)).alloc (bV h ⟨#[]⟩ false)) i S S mo t N A G f b h ⟨#[]⟩ false:=by
 have s1:(w.alloc (bn i)).heap.size=w.heap.size+1:=by simp
 have s2:((w.alloc (bn i)).alloc (bV false ⟨#[]⟩ false)).heap.size=w.heap.size+1+1:=by simp
 have b1:=(zo w.heap.size w).alloc (zg _) (bn i);have b2:=b1.alloc (by rw[s1];omega) (bV false ⟨#[]⟩ false);have b3:=b2.alloc (by rw[s2];omega) (bV h ⟨#[]⟩ false);have q2:=heap_alloc_new (w.alloc (bn i)) (bV false ⟨#[]⟩ false);rw[s1] at q2;have q3:=heap_alloc_new ((w.alloc (bn i)).alloc (bV false ⟨#[]⟩ false)) (bV h ⟨#[]⟩ false);rw[s2] at q3
 exact⟨r.below b3,(qf _ _ _ (by rw[s2];omega)).trans ((qf _ _ _ (by rw[s1];omega)).trans (heap_alloc_new _ _)),(qf _ _ _ (by rw[s2];omega)).trans q2,q3,aJ.below b3,
  λhk=>by have:=r.lt hk;omega,λhk=>by have:=r.lt hk;omega,λhk=>by have:=r.lt hk;omega⟩
theorem bN.below(m:bN w W i S S' mo t N A G f b h s o)(hb:Below W.heap.size W W'):bN w W' i S S' mo t N A G f b h s o:=
 ⟨m.raw.below hb,(hb.block _ m.cb.lt).trans m.cb,(hb.block _ m.res.lt).trans m.res,(hb.block _ m.step.lt).trans m.step,m.dS.trans (aJ.below hb),m.n0,m.n1,m.n2⟩
theorem bN.op(m:bN w W i S S' mo t N A G f b h s o)(hp:aL v W i S' mo' t' N' A' G' f' b' e W'):e= .returned v/\∃S2,bN w W' i S S2 mo' t' N' A' G' f' b' h s o:=by
 obtain⟨he,S2,r2,hW⟩:=hp;have o0:=bY hW m.cb.lt m.n0;have o1:=bY hW m.res.lt m.n1;have o2:=bY hW m.step.lt m.n2;exact⟨he,S2,r2,o0.1.trans m.cb,o1.1.trans m.res,o2.1.trans m.step,m.dS.trans hW,o0.2,o1.2,o2.2⟩
theorem bN.room{N1 A1 G1:zY}{f1:Told}{x:zy}{q:Bool}(m:bN w W i S S' mo t N A G f b h ⟨#[]⟩ false)(hp:tB W i S' (w.heap.size+1+1) mo t N1 A1 G1 f1 b h x q e W'):e= .returned (.tuple #[])/\∃S2,bN w W' i S S2 mo t N1 A1 G1 f1 b h x q:=by
 obtain⟨he,S2,r2,hB,hW,hn⟩:=hp;have hs:=m.dS.a8.size;have o0:=bY hW m.cb.lt (λh=>by rcases h with h|h;exact m.n0 h;omega);have o1:=bY hW m.res.lt (λh=>by rcases h with h|h;exact m.n1 h;omega);refine⟨he,S2,r2,o0.1.trans m.cb,o1.1.trans m.res,hB,⟨λk hk=>?_,m.dS.a8.trans hW.a8 λk hk hS=>?_⟩,λh=>o0.2 (xz h),λh=>o1.2 (xz h),hn⟩
 . rcases hW.new k (xz hk) with h|h
   . rcases h with h|h
     . exact m.dS.new k h
     . exact ja (by omega)
   . exact ja (by omega)
 . rcases hS with h|h
   . rcases m.dS.new k h with h|h
     . exact h
     . omega
   . omega
theorem bN.out(m:bN w W i S S' mo t N A G f b h s o):
 aT (((W.setCell ⟨w.heap.size+1,0,none⟩ (.bool h)).setCell ⟨w.heap.size+1,1,none⟩ (.string s)).setCell ⟨w.heap.size+1,2,none⟩ (.bool o)) (w.heap.size+1) h s o/\
 aL (.agg #[.bool h,.string s,.bool o]) w i S mo t N A G f b (.returned (.agg #[.bool h,.string s,.bool o])) (((W.setCell ⟨w.heap.size+1,0,none⟩ (.bool h)).setCell ⟨w.heap.size+1,1,none⟩ (.string s)).setCell ⟨w.heap.size+1,2,none⟩ (.bool o)):=by
 refine⟨m.res.put h o s,rfl,S',m.raw.kept (by simp[World.setCell]) (λk hk=>?_),m.dS.new,((m.dS.a8.setCell (p:=⟨w.heap.size+1,0,none⟩) (ja (Nat.le_succ _)) _).setCell (p:=⟨w.heap.size+1,1,none⟩) (ja (Nat.le_succ _)) _).setCell (p:=⟨w.heap.size+1,2,none⟩) (ja (Nat.le_succ _)) _⟩;have al:k≠w.heap.size+1:=λe=>m.n1 (e▸hk);rw[qc _ _ _ _ al,qc _ _ _ _ al,qc _ _ _ _ al]
theorem bN.dR(m:bN w W i S S' mo t N A G f b h s o):(W.cell? ⟨w.heap.size+1+1,0,none⟩=some (.bool h)/\W.cell? ⟨w.heap.size+1+1,1,none⟩=some (.string s)/\W.cell? ⟨w.heap.size+1+1,2,none⟩=some (.bool o))/\
 (W.cell? ⟨w.heap.size+1,0,none⟩=some (.bool false)/\W.cell? ⟨w.heap.size+1,1,none⟩=some (.string ⟨#[]⟩)/\W.cell? ⟨w.heap.size+1,2,none⟩=some (.bool false))/\W.frozen? ⟨w.heap.size+1,0,none⟩=false/\W.frozen? ⟨w.heap.size+1,1,none⟩=false/\W.frozen? ⟨w.heap.size+1,2,none⟩=false:=
 ⟨⟨m.step.cells.1,m.step.cells.2.1,m.step.cells.2.2.1⟩,⟨m.res.cells.1,m.res.cells.2.1,m.res.cells.2.2.1⟩,frozen_of_row W _ 0 _ _ m.res,frozen_of_row W _ 1 _ _ m.res,frozen_of_row W _ 2 _ _ m.res⟩
end
end SR
namespace SR
open Go.RowKit Sg
def rp(mo t:Nat):Nat:=if t < mo then t+1 else t
def oS(t:Nat):Nat:=if 1 < t then t - 1 else t
section
variable(w:zw)(i:Ix)(S:Sx)(mo t:Nat)(N A G:zY)(f:Told)(b:Nat)(key:zy)(r:Raw w i S mo t N A G f b)(hs:key.size<=maxLen)(hb:b<=980)
include r
theorem Ex:Calls prog 228 #[.pointer (some ⟨i.c,0,none⟩)] w (aL (.tuple #[]) w i S mo (rp mo t) N A G f b):=by
 unfold rp
 by_cases h:t < mo
 . rw[if_pos h];exact ML w i S mo t N A G f b r h
 . rw[if_neg h];exact Eu w i S mo t N A G f b r h
theorem Ey:Calls prog 222 #[.pointer (some ⟨i.c,0,none⟩)] w (aL (.tuple #[]) w i S mo (oS t) N A G f b):=by
 unfold oS
 by_cases h:1 < t
 . rw[if_pos h];exact MN w i S mo t N A G f b r h
 . rw[if_neg h];exact Ev w i S mo t N A G f b r h
include hs
theorem fO(h:Bool)(hh:(aw N key||aw A key)=h):Calls prog 215 #[.pointer (some ⟨i.c,0,none⟩),.string key] ((w.alloc (bn i)).alloc (bV false ⟨#[]⟩ false)) (dq h ((w.alloc (bn i)).alloc (bV false ⟨#[]⟩ false))):=by
 have b2:=((zo w.heap.size w).alloc (zg _) (bn i)).alloc (by simp) (bV false ⟨#[]⟩ false);have:=zA _ i S mo t N A G f b (r.below b2) key hs;rw[hh] at this;exact this
theorem jA(hm:mo=0)(h1:aw N key=false)(h2:aw A key=false):
 Calls prog 219 #[.pointer (some ⟨i.c,0,none⟩),.string key] w (aL (.agg #[.bool false,.string ⟨#[]⟩,.bool false]) w i S mo t N A G f b):=by
 have U:=J (fO w i S mo t N A G f b key r hs false (by rw[h1,h2];rfl));have M0:=J (bN.start r false);have e9:((mo:Int)==0)=true:=by rw[hm];rfl
 clear r hm h1 h2;go_enter func219,ntmps219;go_wp2_with fail
 refine U.out.mono ?_;rintro e w1 ⟨rfl,rfl⟩;go_upto_region 2 with fail
 generalize((w.alloc (bn i)).alloc (bV false ⟨#[]⟩ false)).alloc (bV false ⟨#[]⟩ false)=W0 at M0|-;have K0:=M0.out.cb.cell;obtain⟨c0,c1,c2,c3,c4,c5⟩:=M0.out.raw.cells;have F:=J M0.out.out;obtain⟨⟨s0,s1,s2⟩,⟨r0,r1,r2⟩,g0,g1,g2⟩:=M0.out.dR;clear M0;go_wp2_with fail
 refine bodyPost_ret (aV rfl _ _ _ ⟨w.heap.size+1,0,none⟩ _ rfl (bo F.out.1)) rfl ?_;exact F.out.2
include hb
theorem PB(hm:mo≠0)(h1:aw N key=false)(h2:aw A key=true)(hl:A.length<=b):
 Calls prog 219 #[.pointer (some ⟨i.c,0,none⟩),.string key] w (aL (.agg #[.bool true,.string ⟨#[]⟩,.bool false]) w i S mo t N (key::rem A key) G f (b+1)):=by
 have U:=J (fO w i S mo t N A G f b key r hs true (by rw[h1,h2];rfl));have M0:=J (bN.start r true);have e9:((mo:Int)==0)=false:=by simp;omega
 have e8:(mo==0)=false:=by simp;omega
 have V:=dt _ i.a S.a A b M0.out.raw.a key hs;rw[h2] at V;have V:=J V;have Z:=J (pI _ i.a S.a A b M0.out.raw.a key (b+1) hs (by omega) (by omega) (by have:=aI A key;omega));clear r hm h1 h2;go_enter func219,ntmps219;go_wp2_with fail
 refine U.out.mono ?_;rintro e w1 ⟨rfl,rfl⟩;go_upto_region 2 with fail
 generalize((w.alloc (bn i)).alloc (bV false ⟨#[]⟩ false)).alloc (bV true ⟨#[]⟩ false)=W0 at M0 V Z|-;have K0:=M0.out.cb.cell;obtain⟨c0,c1,c2,c3,c4,c5⟩:=M0.out.raw.cells;go_wp2_with fail
 refine V.out.mono ?_;rintro e w1 ⟨rfl,rfl⟩;go_wp2_with fail
 refine Z.out.mono ?_;intro e W1 hp;obtain⟨rfl,S1,m1⟩:=M0.out.op (M0.out.raw.lp hp (by omega));have M1:=J m1;clear hp m1 M0 V Z K0 c0 c1 c2 c3 c4 c5;have F:=J M1.out.out;obtain⟨⟨s0,s1,s2⟩,⟨r0,r1,r2⟩,g0,g1,g2⟩:=M1.out.dR;clear M1;go_wp2_with fail
 refine bodyPost_ret (aV rfl _ _ _ ⟨w.heap.size+1,0,none⟩ _ rfl (bo F.out.1)) rfl ?_;exact F.out.2
theorem MU(hm:mo≠0)(h1:aw N key=true)(h2:aw A key=false)(hf:f key=true)(nd:(A++N).Nodup)(hl:A.length+N.length<=b):
 Calls prog 219 #[.pointer (some ⟨i.c,0,none⟩),.string key] w (aL (.agg #[.bool true,.string ⟨#[]⟩,.bool false]) w i S mo (rp mo t) ((key::A).drop (mx (rp mo t))++rem N key) ((key::A).take (mx (rp mo t))) G (iG f key) (b+1)):=by
 have U:=J (fO w i S mo t N A G f b key r hs true (by rw[h1,h2];rfl));have M0:=J (bN.start r true);have e9:((mo:Int)==0)=false:=by simp;omega
 have e8:(mo==0)=false:=by simp;omega
 have V:=dt _ i.a S.a A b M0.out.raw.a key hs;rw[h2] at V;have V:=J V;have V2:=dt _ i.n S.n N b M0.out.raw.n key hs;rw[h1] at V2;have V2:=J V2;have V3:=uE _ i S mo t N A G f b M0.out.raw key hs;rw[hf] at V3;have V3:=J V3
 have lT:=J (show key∉A++rem N key from λh=>by
  rcases List.mem_append.1 h with h|h
  . exact bz.1 h2 h
  . exact eP h)
 have ND:=zs ((A++rem N key).Nodup) (nd.sublist (List.Sublist.append_left xx A));have uH:=zs (A.length+(rem N key).length+1<=b+1) (by have:=aI N key;omega);clear r hm h1 h2 hf nd;go_enter func219,ntmps219;go_wp2_with fail
 refine U.out.mono ?_;rintro e w1 ⟨rfl,rfl⟩;go_upto_region 2 with fail
 generalize((w.alloc (bn i)).alloc (bV false ⟨#[]⟩ false)).alloc (bV true ⟨#[]⟩ false)=W0 at M0 V V2 V3|-;have K0:=M0.out.cb.cell;obtain⟨c0,c1,c2,c3,c4,c5⟩:=M0.out.raw.cells;go_wp2_with fail
 refine V.out.mono ?_;rintro e w1 ⟨rfl,rfl⟩;go_wp2_with fail
 refine V2.out.mono ?_;rintro e w1 ⟨rfl,rfl⟩;go_wp2_with fail
 refine V3.out.mono ?_;rintro e W1 ⟨rfl,hB⟩;have M1:=J (M0.out.below hB);have K1:=M1.out.cb.cell;clear hB M0 K0 c0 c1 c2 c3 c4 c5 V V2 V3;obtain⟨c0,c1,c2,c3,c4,c5⟩:=M1.out.raw.cells;go_wp2_with fail
 refine(Ex W1 i S mo t N A G f b M1.out.raw).mono ?_;intro e W2 hp;obtain⟨rfl,S2,m2⟩:=M1.out.op hp;have M2:=J m2;have K2:=M2.out.cb.cell;clear hp m2 M1 K1 c0 c1 c2 c3 c4 c5;obtain⟨c0,c1,c2,c3,c4,c5⟩:=M2.out.raw.cells;go_wp2_with fail
 refine(ez W2 i.n S2.n N b M2.out.raw.n key hs).mono ?_;intro e W3 hp;obtain⟨rfl,S3,m3⟩:=M2.out.op (M2.out.raw.fU hp (zg _));have M3:=J m3;have K3:=M3.out.cb.cell;clear hp m3 M2 K2 c0 c1 c2 c3 c4 c5;go_wp2_with fail
 refine(pM W3 i S3 mo (rp mo t) (rem N key) A G f b key M3.out.raw hs lT.out ND.out hb uH.out).mono ?_;intro e W4 hp;obtain⟨rfl,S4,m4⟩:=M3.out.op hp;have M4:=J m4;clear hp m4 M3 K3;have F:=J M4.out.out;obtain⟨⟨s0,s1,s2⟩,⟨r0,r1,r2⟩,g0,g1,g2⟩:=M4.out.dR;clear M4;go_wp2_with fail
 refine bodyPost_ret (aV rfl _ _ _ ⟨w.heap.size+1,0,none⟩ _ rfl (bo F.out.1)) rfl ?_;exact F.out.2
theorem MV(hm:mo≠0)(h1:aw N key=true)(h2:aw A key=false)(hf:f key=false)(nd:(A++N).Nodup)(hl:A.length+N.length<=b):
 Calls prog 219 #[.pointer (some ⟨i.c,0,none⟩),.string key] w (aL (.agg #[.bool true,.string ⟨#[]⟩,.bool false]) w i S mo t ((key::A).drop (mx t)++rem N key) ((key::A).take (mx t)) G (iG f key) (b+1)):=by
 have U:=J (fO w i S mo t N A G f b key r hs true (by rw[h1,h2];rfl));have M0:=J (bN.start r true);have e9:((mo:Int)==0)=false:=by simp;omega
 have e8:(mo==0)=false:=by simp;omega
 have V:=dt _ i.a S.a A b M0.out.raw.a key hs;rw[h2] at V;have V:=J V;have V2:=dt _ i.n S.n N b M0.out.raw.n key hs;rw[h1] at V2;have V2:=J V2;have V3:=uE _ i S mo t N A G f b M0.out.raw key hs;rw[hf] at V3;have V3:=J V3
 have lT:=J (show key∉A++rem N key from λh=>by
  rcases List.mem_append.1 h with h|h
  . exact bz.1 h2 h
  . exact eP h)
 have ND:=zs ((A++rem N key).Nodup) (nd.sublist (List.Sublist.append_left xx A));have uH:=zs (A.length+(rem N key).length+1<=b+1) (by have:=aI N key;omega);clear r hm h1 h2 hf nd;go_enter func219,ntmps219;go_wp2_with fail
 refine U.out.mono ?_;rintro e w1 ⟨rfl,rfl⟩;go_upto_region 2 with fail
 generalize((w.alloc (bn i)).alloc (bV false ⟨#[]⟩ false)).alloc (bV true ⟨#[]⟩ false)=W0 at M0 V V2 V3|-;have K0:=M0.out.cb.cell;obtain⟨c0,c1,c2,c3,c4,c5⟩:=M0.out.raw.cells;go_wp2_with fail
 refine V.out.mono ?_;rintro e w1 ⟨rfl,rfl⟩;go_wp2_with fail
 refine V2.out.mono ?_;rintro e w1 ⟨rfl,rfl⟩;go_wp2_with fail
 refine V3.out.mono ?_;rintro e W1 ⟨rfl,hB⟩;have M1:=J (M0.out.below hB);have K1:=M1.out.cb.cell;clear hB M0 K0 c0 c1 c2 c3 c4 c5 V V2 V3;obtain⟨c0,c1,c2,c3,c4,c5⟩:=M1.out.raw.cells;go_wp2_with fail
 refine(ez W1 i.n S.n N b M1.out.raw.n key hs).mono ?_;intro e W3 hp;obtain⟨rfl,S3,m3⟩:=M1.out.op (M1.out.raw.fU hp (zg _));have M3:=J m3;have K3:=M3.out.cb.cell;clear hp m3 M1 K1 c0 c1 c2 c3 c4 c5;go_wp2_with fail
 refine(pM W3 i S3 mo t (rem N key) A G f b key M3.out.raw hs lT.out ND.out hb uH.out).mono ?_;intro e W4 hp;obtain⟨rfl,S4,m4⟩:=M3.out.op hp;have M4:=J m4;clear hp m4 M3 K3;have F:=J M4.out.out;obtain⟨⟨s0,s1,s2⟩,⟨r0,r1,r2⟩,g0,g1,g2⟩:=M4.out.dR;clear M4;go_wp2_with fail
 refine bodyPost_ret (aV rfl _ _ _ ⟨w.heap.size+1,0,none⟩ _ rfl (bo F.out.1)) rfl ?_;exact F.out.2
theorem MW(m:Nat)(hm:mo=m+1)(h1:aw N key=false)(h2:aw A key=false)(h3:aw G key=true)(hf:f key=true)(nd:(A++N++G).Nodup)(hl:A.length+N.length+G.length<=b):
 Calls prog 219 #[.pointer (some ⟨i.c,0,none⟩),.string key] w (aL (.agg #[.bool false,.string (bP ((A++N).reverse.take (A.length+N.length - m))),.bool (!((A++N).reverse.take (A.length+N.length - m)).isEmpty)]) w i S mo t ((key::(A.take (A.length+N.length - (A.length+N.length - m)))).drop (mx t)++(N.take (N.length - (A.length+N.length - m)))) ((key::(A.take (A.length+N.length - (A.length+N.length - m)))).take (mx t)) (((A++N).drop (A.length+N.length - (A.length+N.length - m))++rem G key).take mo) (iG (fZ f (((A++N).drop (A.length+N.length - (A.length+N.length - m))++rem G key).drop mo)) key) (b+1)):=by
 have U:=J (fO w i S mo t N A G f b key r hs false (by rw[h1,h2];rfl));have M0:=J (bN.start r false);have e9:((mo:Int)==0)=false:=by simp;omega
 have e8:(mo==0)=false:=by simp;omega
 have V:=dt _ i.a S.a A b M0.out.raw.a key hs;rw[h2] at V;have V:=J V;have V2:=dt _ i.n S.n N b M0.out.raw.n key hs;rw[h1] at V2;have V2:=J V2;have V4:=dt _ i.g S.g G b M0.out.raw.g key hs;rw[h3] at V4;have V4:=J V4;have V3:=uE _ i S mo t N A G f b M0.out.raw key hs;rw[hf] at V3;have V3:=J V3
 have lT:=J (show key∉(A.take (A.length+N.length - (A.length+N.length - m)))++(N.take (N.length - (A.length+N.length - m))) from λh=>by
  rcases List.mem_append.1 h with h|h
  . exact bz.1 h2 (xn h)
  . exact bz.1 h1 (xn h))
 have ND:=zs (((A.take (A.length+N.length - (A.length+N.length - m)))++(N.take (N.length - (A.length+N.length - m)))).Nodup) ((List.nodup_append.1 nd).1.sublist (List.Sublist.append (List.take_sublist _ _) (List.take_sublist _ _)));have Ez:=zs ((A++N++rem G key).Nodup) (nd.sublist (List.Sublist.append_left xx _));have qT:=zs (A.length+N.length+(rem G key).length<=b) (by have:=aI G key;omega);have uH:=zs (((A.take (A.length+N.length - (A.length+N.length - m)))).length+((N.take (N.length - (A.length+N.length - m)))).length+1<=b+1) (by rw[qh,qh];omega);have R:=J (λ(W3:zw) (S3:Sx) (M3:bN w W3 i S S3 mo t N A (rem G key) f b false ⟨#[]⟩ false)=>CX W3 i S3 w.heap.size (w.heap.size+1+1) mo m t N A (rem G key) f b false M3.raw M3.cb M3.step M3.n2 hm (by omega) M3.n0 Ez.out qT.out (by omega));clear Ez qT;generalize(N.take (N.length - (A.length+N.length - m)))=N1 at*;generalize(A.take (A.length+N.length - (A.length+N.length - m)))=A1 at*;generalize(((A++N).drop (A.length+N.length - (A.length+N.length - m))++rem G key).take mo)=G1 at*;generalize(fZ f (((A++N).drop (A.length+N.length - (A.length+N.length - m))++rem G key).drop mo))=f1 at*;generalize bP ((A++N).reverse.take (A.length+N.length - m))=x1 at*;generalize(!((A++N).reverse.take (A.length+N.length - m)).isEmpty)=o1 at*;clear r hm h1 h2 h3 hf nd;go_enter func219,ntmps219;go_wp2_with fail
 refine U.out.mono ?_;rintro e w1 ⟨rfl,rfl⟩;go_upto_region 2 with fail
 generalize((w.alloc (bn i)).alloc (bV false ⟨#[]⟩ false)).alloc (bV false ⟨#[]⟩ false)=W0 at M0 V V2 V3 V4|-;have K0:=M0.out.cb.cell;obtain⟨c0,c1,c2,c3,c4,c5⟩:=M0.out.raw.cells;go_wp2_with fail
 refine V.out.mono ?_;rintro e w1 ⟨rfl,rfl⟩;go_wp2_with fail
 refine V2.out.mono ?_;rintro e w1 ⟨rfl,rfl⟩;go_wp2_with fail
 refine V4.out.mono ?_;rintro e w1 ⟨rfl,rfl⟩;go_wp2_with fail
 refine V3.out.mono ?_;rintro e W1 ⟨rfl,hB⟩;have M1:=J (M0.out.below hB);have K1:=M1.out.cb.cell;clear hB M0 K0 c0 c1 c2 c3 c4 c5 V V2 V3 V4;obtain⟨c0,c1,c2,c3,c4,c5⟩:=M1.out.raw.cells;go_wp2_with fail
 refine(ez W1 i.g S.g G b M1.out.raw.g key hs).mono ?_;intro e W3 hp;obtain⟨rfl,S3,m3⟩:=M1.out.op (M1.out.raw.eA hp (zg _));have M3:=J m3;have K3:=M3.out.cb.cell;clear hp m3 M1 K1 c0 c1 c2 c3 c4 c5;go_wp2_with fail
 refine(R.out W3 S3 M3.out).mono ?_;intro e W4 hp;obtain⟨rfl,S4,m4⟩:=M3.out.room hp;have M4:=J m4;have K4:=M4.out.cb.cell;clear hp m4 M3 K3;go_wp2_with fail
 refine(pM W4 i S4 mo t N1 A1 G1 f1 b key M4.out.raw hs lT.out ND.out hb uH.out).mono ?_;intro e W5 hp;obtain⟨rfl,S5,m5⟩:=M4.out.op hp;have M5:=J m5;clear hp m5 M4 K4;have F:=J M5.out.out;obtain⟨⟨s0,s1,s2⟩,⟨r0,r1,r2⟩,g0,g1,g2⟩:=M5.out.dR;clear M5;go_wp2_with fail
 refine bodyPost_ret (aV rfl _ _ _ ⟨w.heap.size+1,0,none⟩ _ rfl (bo F.out.1)) rfl ?_;exact F.out.2
theorem MX(m:Nat)(hm:mo=m+1)(h1:aw N key=false)(h2:aw A key=false)(h3:aw G key=true)(hf:f key=false)(nd:(A++N++G).Nodup)(hl:A.length+N.length+G.length<=b):
 Calls prog 219 #[.pointer (some ⟨i.c,0,none⟩),.string key] w (aL (.agg #[.bool false,.string (bP ((A++N).reverse.take (A.length+N.length - m))),.bool (!((A++N).reverse.take (A.length+N.length - m)).isEmpty)]) w i S mo (oS t) ((key::(A.take (A.length+N.length - (A.length+N.length - m)))).drop (mx (oS t))++(N.take (N.length - (A.length+N.length - m)))) ((key::(A.take (A.length+N.length - (A.length+N.length - m)))).take (mx (oS t))) (((A++N).drop (A.length+N.length - (A.length+N.length - m))++rem G key).take mo) (iG (fZ f (((A++N).drop (A.length+N.length - (A.length+N.length - m))++rem G key).drop mo)) key) (b+1)):=by
 have U:=J (fO w i S mo t N A G f b key r hs false (by rw[h1,h2];rfl));have M0:=J (bN.start r false);have e9:((mo:Int)==0)=false:=by simp;omega
 have e8:(mo==0)=false:=by simp;omega
 have V:=dt _ i.a S.a A b M0.out.raw.a key hs;rw[h2] at V;have V:=J V;have V2:=dt _ i.n S.n N b M0.out.raw.n key hs;rw[h1] at V2;have V2:=J V2;have V4:=dt _ i.g S.g G b M0.out.raw.g key hs;rw[h3] at V4;have V4:=J V4;have V3:=uE _ i S mo t N A G f b M0.out.raw key hs;rw[hf] at V3;have V3:=J V3
 have lT:=J (show key∉(A.take (A.length+N.length - (A.length+N.length - m)))++(N.take (N.length - (A.length+N.length - m))) from λh=>by
  rcases List.mem_append.1 h with h|h
  . exact bz.1 h2 (xn h)
  . exact bz.1 h1 (xn h))
 have ND:=zs (((A.take (A.length+N.length - (A.length+N.length - m)))++(N.take (N.length - (A.length+N.length - m)))).Nodup) ((List.nodup_append.1 nd).1.sublist (List.Sublist.append (List.take_sublist _ _) (List.take_sublist _ _)));have Ez:=zs ((A++N++rem G key).Nodup) (nd.sublist (List.Sublist.append_left xx _));have qT:=zs (A.length+N.length+(rem G key).length<=b) (by have:=aI G key;omega);have uH:=zs (((A.take (A.length+N.length - (A.length+N.length - m)))).length+((N.take (N.length - (A.length+N.length - m)))).length+1<=b+1) (by rw[qh,qh];omega);have R:=J (λ(W3:zw) (S3:Sx) (M3:bN w W3 i S S3 mo (oS t) N A (rem G key) f b false ⟨#[]⟩ false)=>CX W3 i S3 w.heap.size (w.heap.size+1+1) mo m (oS t) N A (rem G key) f b false M3.raw M3.cb M3.step M3.n2 hm (by omega) M3.n0 Ez.out qT.out (by omega));clear Ez qT;generalize(N.take (N.length - (A.length+N.length - m)))=N1 at*;generalize(A.take (A.length+N.length - (A.length+N.length - m)))=A1 at*;generalize(((A++N).drop (A.length+N.length - (A.length+N.length - m))++rem G key).take mo)=G1 at*;generalize(fZ f (((A++N).drop (A.length+N.length - (A.length+N.length - m))++rem G key).drop mo))=f1 at*;generalize bP ((A++N).reverse.take (A.length+N.length - m))=x1 at*;generalize(!((A++N).reverse.take (A.length+N.length - m)).isEmpty)=o1 at*;clear r hm h1 h2 h3 hf nd;go_enter func219,ntmps219;go_wp2_with fail
 refine U.out.mono ?_;rintro e w1 ⟨rfl,rfl⟩;go_upto_region 2 with fail
 generalize((w.alloc (bn i)).alloc (bV false ⟨#[]⟩ false)).alloc (bV false ⟨#[]⟩ false)=W0 at M0 V V2 V3 V4|-;have K0:=M0.out.cb.cell;obtain⟨c0,c1,c2,c3,c4,c5⟩:=M0.out.raw.cells;go_wp2_with fail
 refine V.out.mono ?_;rintro e w1 ⟨rfl,rfl⟩;go_wp2_with fail
 refine V2.out.mono ?_;rintro e w1 ⟨rfl,rfl⟩;go_wp2_with fail
 refine V4.out.mono ?_;rintro e w1 ⟨rfl,rfl⟩;go_wp2_with fail
 refine V3.out.mono ?_;rintro e W1 ⟨rfl,hB⟩;have M1:=J (M0.out.below hB);have K1:=M1.out.cb.cell;clear hB M0 K0 c0 c1 c2 c3 c4 c5 V V2 V3 V4;obtain⟨c0,c1,c2,c3,c4,c5⟩:=M1.out.raw.cells;go_wp2_with fail
 refine(Ey W1 i S mo t N A G f b M1.out.raw).mono ?_;intro e W2 hp;obtain⟨rfl,S2,m2⟩:=M1.out.op hp;have M2:=J m2;have K2:=M2.out.cb.cell;clear hp m2 M1 K1 c0 c1 c2 c3 c4 c5;obtain⟨c0,c1,c2,c3,c4,c5⟩:=M2.out.raw.cells;go_wp2_with fail
 refine(ez W2 i.g S2.g G b M2.out.raw.g key hs).mono ?_;intro e W3 hp;obtain⟨rfl,S3,m3⟩:=M2.out.op (M2.out.raw.eA hp (zg _));have M3:=J m3;have K3:=M3.out.cb.cell;clear hp m3 M2 K2 c0 c1 c2 c3 c4 c5;go_wp2_with fail
 refine(R.out W3 S3 M3.out).mono ?_;intro e W4 hp;obtain⟨rfl,S4,m4⟩:=M3.out.room hp;have M4:=J m4;have K4:=M4.out.cb.cell;clear hp m4 M3 K3;go_wp2_with fail
 refine(pM W4 i S4 mo (oS t) N1 A1 G1 f1 b key M4.out.raw hs lT.out ND.out hb uH.out).mono ?_;intro e W5 hp;obtain⟨rfl,S5,m5⟩:=M4.out.op hp;have M5:=J m5;clear hp m5 M4 K4;have F:=J M5.out.out;obtain⟨⟨s0,s1,s2⟩,⟨r0,r1,r2⟩,g0,g1,g2⟩:=M5.out.dR;clear M5;go_wp2_with fail
 refine bodyPost_ret (aV rfl _ _ _ ⟨w.heap.size+1,0,none⟩ _ rfl (bo F.out.1)) rfl ?_;exact F.out.2
theorem vS(m:Nat)(hm:mo=m+1)(h1:aw N key=false)(h2:aw A key=false)(h3:aw G key=false)(nd:(A++N++G).Nodup)(hl:A.length+N.length+G.length<=b):
 Calls prog 219 #[.pointer (some ⟨i.c,0,none⟩),.string key] w (aL (.agg #[.bool false,.string (bP ((A++N).reverse.take (A.length+N.length - m))),.bool (!((A++N).reverse.take (A.length+N.length - m)).isEmpty)]) w i S mo t (key::(N.take (N.length - (A.length+N.length - m)))) (A.take (A.length+N.length - (A.length+N.length - m))) (((A++N).drop (A.length+N.length - (A.length+N.length - m))++G).take mo) (fZ f (((A++N).drop (A.length+N.length - (A.length+N.length - m))++G).drop mo)) (b+1)):=by
 have U:=J (fO w i S mo t N A G f b key r hs false (by rw[h1,h2];rfl));have M0:=J (bN.start r false);have e9:((mo:Int)==0)=false:=by simp;omega
 have e8:(mo==0)=false:=by simp;omega
 have V:=dt _ i.a S.a A b M0.out.raw.a key hs;rw[h2] at V;have V:=J V;have V2:=dt _ i.n S.n N b M0.out.raw.n key hs;rw[h1] at V2;have V2:=J V2;have V4:=dt _ i.g S.g G b M0.out.raw.g key hs;rw[h3] at V4;have V4:=J V4;have R:=J (CX _ i S w.heap.size (w.heap.size+1+1) mo m t N A G f b false M0.out.raw M0.out.cb M0.out.step M0.out.n2 hm (by omega) M0.out.n0 nd hl (by omega));have lT:=zs (key∉(N.take (N.length - (A.length+N.length - m)))) (λh=>bz.1 h1 (xn h));have uH:=zs (((N.take (N.length - (A.length+N.length - m)))).length+1<=b+1) (by rw[qh];omega);generalize(N.take (N.length - (A.length+N.length - m)))=N1 at*;generalize(A.take (A.length+N.length - (A.length+N.length - m)))=A1 at*;generalize(((A++N).drop (A.length+N.length - (A.length+N.length - m))++G).take mo)=G1 at*;generalize(fZ f (((A++N).drop (A.length+N.length - (A.length+N.length - m))++G).drop mo))=f1 at*;generalize bP ((A++N).reverse.take (A.length+N.length - m))=x1 at*;generalize(!((A++N).reverse.take (A.length+N.length - m)).isEmpty)=o1 at*;clear r hm h1 h2 h3 nd;go_enter func219,ntmps219;go_wp2_with fail
 refine U.out.mono ?_;rintro e w1 ⟨rfl,rfl⟩;go_upto_region 2 with fail
 generalize((w.alloc (bn i)).alloc (bV false ⟨#[]⟩ false)).alloc (bV false ⟨#[]⟩ false)=W0 at M0 V V2 V4 R|-;have K0:=M0.out.cb.cell;obtain⟨c0,c1,c2,c3,c4,c5⟩:=M0.out.raw.cells;go_wp2_with fail
 refine V.out.mono ?_;rintro e w1 ⟨rfl,rfl⟩;go_wp2_with fail
 refine V2.out.mono ?_;rintro e w1 ⟨rfl,rfl⟩;go_wp2_with fail
 refine V4.out.mono ?_;rintro e w1 ⟨rfl,rfl⟩;go_wp2_with fail
 refine R.out.mono ?_;intro e W4 hp;obtain⟨rfl,S4,m4⟩:=M0.out.room hp;have M4:=J m4;have K4:=M4.out.cb.cell;clear hp m4 M0 K0 R V V2 V4 c0 c1 c2 c3 c4 c5;obtain⟨c0,c1,c2,c3,c4,c5⟩:=M4.out.raw.cells;go_wp2_with fail
 refine(fJ W4 i.n S4.n _ b M4.out.raw.n key (b+1) lT.out hs (by omega) (by omega) uH.out).mono ?_;intro e W5 hp;obtain⟨rfl,S5,m5⟩:=M4.out.op (M4.out.raw.fU hp (by omega));have M5:=J m5;clear hp m5 M4 K4 c0 c1 c2 c3 c4 c5;have F:=J M5.out.out;obtain⟨⟨s0,s1,s2⟩,⟨r0,r1,r2⟩,g0,g1,g2⟩:=M5.out.dR;clear M5;go_wp2_with fail
 refine bodyPost_ret (aV rfl _ _ _ ⟨w.heap.size+1,0,none⟩ _ rfl (bo F.out.1)) rfl ?_;exact F.out.2
end
end SR
namespace SR
open Go.RowKit Sg
theorem jm{w:zw}{base:Nat}{v:Value}{xs:zY}(h:Own w base v xs)(x:zy)(hx:x.size<=maxLen)(hl:xs.length<=1999)(hb:base<=w.heap.size):
 ∃(A:Option Addr) (cap:Nat) (w2:zw),(Builtin.append_ #[30,30] 30 #[v,.slice (some ⟨w.heap.size,0,none⟩) 1 1]).run prog (w.alloc (.cells #[.string x] 9))= .ok (.slice A (xs.length+1) cap) w2/\
  Own w2 base (.slice A (xs.length+1) cap) (xs++ [x])/\w.grownBy w2 v.ownBlock/\(∀g,(Value.slice A (xs.length+1) cap).ownBlock=some g->v.ownBlock=some g\/w.heap.size<=g):=by
 obtain⟨i0,hi,fL,fC,fx⟩:=info_parts kx
 obtain⟨v',w2,aB,bC,hg,ko,bw⟩:=run_append_own_at (P:=prog) (w.alloc (.cells #[.string x] 9)) base 30 30 9 i0 _ 1 16
  underlying30 hi fL fC fx rfl (by decide) _ _ _ (h.1.alloc _) ⟨w.heap.size,0,none⟩ 1 1 [.string x] rfl (cell_one_new _ _ _) (by simp[Value.oneCell']) (by unfold maxLen;omega) (by omega) (by simp;omega)
 have iO:=bC;rcases bC.2 with⟨_,h0⟩|⟨g,cap,cur,rfl,_⟩
 . omega
 refine⟨_,cap,w2,aB,⟨?_,by rw[zh];simp only[zv,ql];omega,λy hy=>?_⟩,(World.grownBy_alloc w _ _).trans hg,λg' dB=>?_⟩
 . rw[xc,zh];exact iO
 . rcases List.mem_append.1 hy with h1|h1
   . exact h.2.2 y h1
   . rw[List.mem_singleton.1 h1];exact hx
 . rcases bw with h1|h1
   . exact xz (h1▸dB)
   . rw[h1] at dB;injection dB with dB
     rw[show(w.alloc (.cells #[.string x] 9)).heap.size=w.heap.size+1 by simp] at dB;exact ja (by omega)
def bJ(w:zw)(gb:Nat)(v:Value):Prop:=w.heap[gb]?=some (.cells #[v] 30 (0,0))
theorem bJ.lt{w:zw}{gb:Nat}{v:Value}(k:bJ w gb v):gb < w.heap.size:=(Array.getElem?_eq_some_iff.1 k).1
theorem bJ.put{w:zw}{gb:Nat}{v:Value}(k:bJ w gb v)(u:Value):bJ (w.setCell ⟨gb,0,none⟩ u) gb u:=by
 unfold bJ at*;rw[heap_setCell_same _ _ _ _ _ _ k];rfl
theorem sX(w:zw)(gb base:Nat)(v:Value)(ts:zY)(x:zy)(k:bJ w gb v)(o:Own w base v ts)(hl:ts.length<=1999)(hx:x.size<=maxLen)(hb:base<=w.heap.size)(al:v.ownBlock≠some gb):
 Calls prog 230 #[.string x,.pointer (some ⟨gb,0,none⟩)] w (λe w'=>e= .returned (.tuple #[])/\∃v',bJ w' gb v'/\Own w' base v' (ts++ [x])/\(∀g,v'.ownBlock=some g->v.ownBlock=some g\/w.heap.size<=g)/\ao (λk=>k=gb\/v.ownBlock=some k) w w'):=by
 obtain⟨A2,cap,w2,aB,aS,hg,bw⟩:=jm o x hx hl hb;obtain⟨A1,c1,rfl⟩:=o.len;have yv:=k.lt;have k1:w.cell? ⟨gb,0,none⟩=some (.slice A1 ts.length c1):=cell_of_row w _ 0 _ _ _ k;have k2:bJ w2 gb (.slice A1 ts.length c1):=(hg.block gb yv (λe=>al e.symm)).trans k;have k3:w2.cell? ⟨gb,0,none⟩=some (.slice A1 ts.length c1):=cell_of_row w2 _ 0 _ _ _ k2;have k4:w2.frozen? ⟨gb,0,none⟩=false:=frozen_of_row w2 _ 0 _ _ k2;have df:=J aB
 have R:=J (show ∃v',bJ (w2.setCell ⟨gb,0,none⟩ (.slice A2 (ts.length+1) cap)) gb v'/\Own (w2.setCell ⟨gb,0,none⟩ (.slice A2 (ts.length+1) cap)) base v' (ts++ [x])/\(∀g,v'.ownBlock=some g->(Value.slice A1 ts.length c1).ownBlock=some g\/w.heap.size<=g)/\ao (λk=>k=gb\/(Value.slice A1 ts.length c1).ownBlock=some k) w (w2.setCell ⟨gb,0,none⟩ (.slice A2 (ts.length+1) cap)) by
  refine⟨_,k2.put _,aS.same (λg dB=>?_),bw,?_⟩
  . refine qc _ _ _ _ (λe=>?_);have e:g=gb:=e;subst e;rcases bw g dB with h|h
    . exact al h
    . omega
  . have t1:ao (λk=>k=gb\/(Value.slice A1 ts.length c1).ownBlock=some k) w w2:=⟨hg.os,hg.tape,hg.output,hg.size,λi hi h1=>hg.block i hi (λe=>h1 (ja e.symm))⟩;exact t1.setCell (p:=⟨gb,0,none⟩) (xz (xz rfl)) _)
 clear aB aS hg bw k k2 o al;go_enter func230,ntmps230;go_wp2_with(at_builtin;refine aq rfl _ _ _ rfl _ _ _ _ rfl rfl df.out ?_)
 go_end0;exact⟨rfl,R.out⟩
def KR(gb base:Nat)(vs:zY)(X:Nat->Prop)(W:zw):Prop:=∃v,X=(λk=>k=gb\/v.ownBlock=some k)/\bJ W gb v/\Own W base v vs/\base<=W.heap.size/\v.ownBlock≠some gb
theorem xU(gb base:Nat):jj 230 ⟨gb,0,none⟩ (KR gb base) where
 enter:=λargs w=>by kernel_rfl
 lt:=by
  rintro vs X W ⟨v,rfl,hB,hO,_⟩ k hk;rcases hk with rfl|hk
  . exact hB.lt
  . exact(hO.lt hk).1
 same:=by
  rintro vs X W W' ⟨v,rfl,hB,hO,hb,hn⟩ hs hk;exact⟨v,rfl,(hk gb (xz rfl)).trans hB,hO.same λg hg=>hk g (ja hg),by omega,hn⟩
 call:=by
  rintro vs X W x ⟨v,rfl,hB,hO,hb,hn⟩ hl hx;refine(sX W gb base v vs x hB hO (by omega) hx hb hn).mono ?_;rintro e W' ⟨he,v',zF,En,hv,hT⟩;have bW:=hT.size;refine⟨he,_,⟨v',rfl,zF,En,by omega,λh=>?_⟩,λk hk=>?_,hT⟩
  . rcases hv gb h with h|h
    . exact hn h
    . have:=hB.lt;omega
  . rcases hk with rfl|hk
    . exact xz (xz rfl)
    . exact(hv k hk).imp ja id
def eM(w:zw)(i:Ix)(S:Sx)(mo t:Nat)(N A G:zY)(f:Told)(b:Nat)(gone:zY)(e:Ending)(w':zw):Prop:=
 ∃v S',e= .returned v/\Own w' w.heap.size v gone/\Raw w' i S' mo t N A G f b/\aJ w w' (ax i S) (ax i S')/\∀g,v.ownBlock=some g->¬ax i S' g
def gone(n:Nat)(N A:zY):Nat:=A.length+N.length - n
abbrev gL(n:Nat)(N A:zY):zY:=N.take (N.length - gone n N A)
abbrev gm(n:Nat)(N A:zY):zY:=A.take (A.length+N.length - gone n N A)
abbrev eo(n:Nat)(N A G:zY):zY:=(A++N).drop (A.length+N.length - gone n N A)++G
theorem iP{w w0 w1 w4:zw}{i:Ix}{S S1:Sx}{mo t:Nat}{N A G:zY}{f:Told}{b n:Nat}(h0:aJ w w0 (ax i S) (ax i S1))(WD:¬ax i S1 w0.heap.size)(hb:Below w0.heap.size w0 w1)(aQ:w0.heap.size < w1.heap.size)(Rr:w.heap.size<=w0.heap.size)
 (h:gS w1 i S1 (λk=>k=w0.heap.size) (KR w0.heap.size w.heap.size) mo t N A G f b n (.returned (.tuple #[])) w4):
 ∃A1 m1 c1,w4.cell? ⟨w0.heap.size,0,none⟩=some (.slice A1 m1 c1)/\eM w i S mo t (N.take (N.length - n)) (A.take (A.length+N.length - n)) (((A++N).drop (A.length+N.length - n)++G).take mo) (fZ f (((A++N).drop (A.length+N.length - n)++G).drop mo)) b ((A++N).reverse.take n) (.returned (.slice A1 m1 c1)) w4:=by
 obtain⟨_,S4,X4,r4,⟨v,rfl,hB,hO,Vm,hn⟩,hW,hd⟩:=h;have oH:=hb.size;have fI:=hW.a8.size;obtain⟨A1,c1,rfl⟩:=hO.len;refine⟨A1,_,c1,cell_of_row w4 _ 0 _ _ _ hB,_,S4,rfl,hO,r4,⟨λk hk=>?_,?_⟩,λg hg=>hd g (ja hg)⟩
 . rcases hW.new k (xz hk) with h|h
   . rcases h with h|h
     . exact h0.new k h
     . exact ja (by omega)
   . exact ja (by omega)
 . refine(h0.a8.trans (ao.cZ (S:=ax i S1) hb) (λk hk hS=>?_)).trans hW.a8 (λk hk hS=>?_)
   . rcases h0.new k hS with h|h
     . exact h
     . omega
   . rcases hS with h|h
     . rcases h0.new k h with h|h
       . exact h
       . omega
     . omega
def mn(t mo:Nat):Nat:=if mo < t then mo else t
theorem J5(w:zw)(i:Ix)(S:Sx)(mo t:Nat)(N A G:zY)(f:Told)(b:Nat)(z:Int)(n:Nat)(r:Raw w i S mo t N A G f b)(hz: -9223372036854775808<=z/\z<=9223372036854775807)(hn:n=z.toNat)
 (nd:(A++N++G).Nodup) (hl:A.length+N.length+G.length<=b) (hb:b<=980):
 Calls prog 220 #[.pointer (some ⟨i.c,0,none⟩),.int .i64 z] w (eM w i S n (mn t n) (gL n N A) (gm n N A) ((eo n N A G).take n) (fZ f ((eo n N A G).drop n)) b ((A++N).reverse.take (gone n N A))):=by
 obtain⟨c0,_⟩:=r.cells;obtain⟨f0,_⟩:=r.pK;have ht:=r.top;have e1:(if z < 0 then(0:Int) else z)=(n:Int):=by split <;> omega
 obtain⟨r1,T1⟩:=r.eV n (by omega);have tx:max z 0=(n:Int):=by omega
 obtain⟨u,hu⟩:=zx (mn t n);have e2:(if n < t then(n:Int) else(t:Int))=(u:Int):=by rw[hu];unfold mn;split <;> rfl
 have Gx:u<=9223372036854775807:=by rw[hu];unfold mn;split <;> omega
 have HU:=J hu;have R1:=J r1;have jZ:=J T1;clear hn hu;go_enter func220,ntmps220;go_upto_region 2 with fail
 generalize w.setCell ⟨i.c,0,none⟩ (.int .i64 (n:Int))=W1 at R1 jZ|-;clear r1 T1 c0 f0;obtain⟨c0,c1,_⟩:=R1.out.cells;obtain⟨_,f1⟩:=R1.out.pK;have R2:=J (R1.out.kB u Gx);clear r;go_region;have R3:=zs (Raw ((W1.setCell ⟨i.c,1,none⟩ (.int .i64 (u:Int))).drew) i S n u N A G f b) (R2.out.1.below ⟨rfl,rfl,rfl,zg _,λ_ _=>rfl⟩);have T3:=zs (aJ w ((W1.setCell ⟨i.c,1,none⟩ (.int .i64 (u:Int))).drew) (ax i S) (ax i S)) (aJ.same ((jZ.out.trans R2.out.2 λ_ _ h=>h).drew));generalize(W1.setCell ⟨i.c,1,none⟩ (.int .i64 (u:Int))).drew=W2 at R3 T3|-;clear R2 c0 c1 f1 R1 jZ tx e1 e2;have B:=J ((zo W2.heap.size W2).alloc (zg _) (.cells #[.slice none 0 0] 30));have GB:=zs (bJ (W2.alloc (.cells #[.slice none 0 0] 30)) W2.heap.size (.slice none 0 0)) (heap_alloc_new _ _);have NB:=zs (¬ax i S W2.heap.size) (λh=>by have:=R3.out.lt h;omega);have SZ:=zs ((W2.alloc (.cells #[.slice none 0 0] 30)).heap.size=W2.heap.size+1) (by simp);have U:=J (iH _ i S n u N A G f b n (λk=>k=W2.heap.size) (KR W2.heap.size w.heap.size) 230 ⟨W2.heap.size,0,none⟩ (R3.out.below B.out) ⟨.slice none 0 0,by funext k;simp[Value.ownBlock],GB.out,Own.nil _ _,by have:=T3.out.a8.size;have:=SZ.out;omega,by simp[Value.ownBlock]⟩ (by rintro k rfl;exact NB.out) (xU _ _) nd hl (by omega));have d0:=(R3.out.below B.out).cells.1;clear nd;go_wp2_with fail
 refine U.out.mono ?_;intro e w4 hp;obtain⟨rfl,_⟩:=id hp;obtain⟨A1,m1,c1,k1,hq⟩:=iP T3.out NB.out B.out (by have:=SZ.out;omega) T3.out.a8.size hp;have P:=J hq;clear hp hq U;go_wp2_with fail
 go_ret;rw[← HU.out];exact P.out
end SR
namespace SR
open Go.RowKit Sg
section
variable(w:zw)(i:Ix)(S:Sx)(mo t:Nat)(N A G:zY)(f:Told)(b:Nat)(key:zy)(r:Raw w i S mo t N A G f b)(hs:key.size<=maxLen)
include r hs
theorem jB(hi:(aw N key||aw A key)=true):Calls prog 212 #[.pointer (some ⟨i.c,0,none⟩),.string key] w (aL (.bool false) w i S mo t N A G f b):=by
 obtain⟨c0,_⟩:=r.cells;have cx:=r.cx
 have U:=J (show ∀m,Calls prog 215 #[.pointer (some ⟨i.c,0,none⟩),.string key] (w.drewN m) (λe w'=>e= .returned (.bool true)/\w'=w.drewN m) from λm=>by
  have:=zA (w.drewN m) i S mo t N A G f b (r.drewN m) key hs;rw[hi] at this;exact this.mono λ_ _ h=>⟨h.1,h.2.symm⟩)
 have HH:=J r;clear r hi;go_enter func212,ntmps212;go_wp2_with fail
 go_quiet((go_at_call 215;exact Calls.quiet_of_same (U.out _)))
 go_wp2_with fail
 go_ret;exact⟨rfl,S,HH.out.drewN _,aJ.below (av w _)⟩
theorem gG(hi:(aw N key||aw A key)=false)(hf:mo<=N.length+A.length):Calls prog 212 #[.pointer (some ⟨i.c,0,none⟩),.string key] w (aL (.bool false) w i S mo t N A G f b):=by
 obtain⟨c0,_⟩:=r.cells;have cx:=r.cx;obtain⟨q,hq⟩:=zx (N.length+A.length);rw[← hq] at hf;have e0:decide (mo<=q)=true:=by simpa using hf
 have U:=J (show ∀m,Calls prog 215 #[.pointer (some ⟨i.c,0,none⟩),.string key] (w.drewN m) (λe w'=>e= .returned (.bool false)/\w'=w.drewN m) from λm=>by
  have:=zA (w.drewN m) i S mo t N A G f b (r.drewN m) key hs;rw[hi] at this;exact this.mono λ_ _ h=>⟨h.1,h.2.symm⟩)
 have U2:=J (show ∀m,Calls prog 217 #[.pointer (some ⟨i.c,0,none⟩)] (w.drewN m) (λe w'=>e= .returned (.int .i64 (q:Int))/\∃m',w'=(w.drewN m).drewN m') from λm=>by
  have:=CR (w.drewN m) i S mo t N A G f b (r.drewN m);rw[← hq] at this;exact this)
 have HH:=J r;clear r hi hq;go_enter func212,ntmps212;go_wp2_with fail
 go_quiet(first
  |(go_at_call 215;exact Calls.quiet_of_same (U.out _))
  |(go_at_call 217;exact Calls.quiet_of (U2.out _)))
 go_wp2_with fail
 go_ret;exact⟨rfl,S,HH.out.drewN _,aJ.below (av w _)⟩
theorem gH(EA:aw N key=false)(lU:aw A key=false)(hf:N.length+A.length < mo)(hl:N.length<=b)(hb:b<=980):Calls prog 212 #[.pointer (some ⟨i.c,0,none⟩),.string key] w (aL (.bool true) w i S mo t (key::N) A (rem G key) (eC f key) (b+1)):=by
 obtain⟨c0,_⟩:=r.cells;have cx:=r.cx;obtain⟨q,hq⟩:=zx (N.length+A.length);rw[← hq] at hf;have e0:decide (mo<=q)=false:=by simpa using hf
 have U:=J (show ∀m,Calls prog 215 #[.pointer (some ⟨i.c,0,none⟩),.string key] (w.drewN m) (λe w'=>e= .returned (.bool false)/\w'=w.drewN m) from λm=>by
  have:=zA (w.drewN m) i S mo t N A G f b (r.drewN m) key hs;rw[EA,lU] at this;exact this.mono λ_ _ h=>⟨h.1,h.2.symm⟩)
 have U2:=J (show ∀m,Calls prog 217 #[.pointer (some ⟨i.c,0,none⟩)] (w.drewN m) (λe w'=>e= .returned (.int .i64 (q:Int))/\∃m',w'=(w.drewN m).drewN m') from λm=>by
  have:=CR (w.drewN m) i S mo t N A G f b (r.drewN m);rw[← hq] at this;exact this)
 have HH:=J r;have HN:=zs (key∉N) (bz.1 EA);have RM:=J (λm=>BI (w.drewN m) i S mo t N A G f b (r.drewN m) key hs (by rw[EA];intro h;cases h));have e1:rem N key=N:=aZ (bz.1 EA);have e2:rem A key=A:=aZ (bz.1 lU);rw[e1,e2] at RM;clear r EA lU hq e1 e2;go_enter func212,ntmps212;go_wp2_with fail
 go_quiet(first
  |(go_at_call 215;exact Calls.quiet_of_same (U.out _))
  |(go_at_call 217;exact Calls.quiet_of (U2.out _)))
 go_wp2_with fail
 refine(RM.out _).mono ?_;rintro e w2 ⟨rfl,S2,r2,hW⟩;obtain⟨_,_,c2,_⟩:=r2.cells;have R2:=J r2;have W2:=J ((aJ.below (av w _)).trans hW);clear r2 hW RM U U2;go_wp2_with fail
 refine(fJ w2 i.n S2.n N b R2.out.n key (b+1) HN.out hs (by omega) (by omega) (by omega)).mono ?_;intro e w3 hp;obtain⟨rfl,S3,r3,gf⟩:=R2.out.fU hp (by omega);have P:=zs (aL (.bool true) w i S mo t (key::N) A (rem G key) (eC f key) (b+1) (.returned (.bool true)) w3) (⟨rfl,S3,r3,W2.out.trans gf⟩);clear hp r3 gf;go_wp2_with fail
 go_ret;exact P.out
end
def jz(mo t:Nat)(w:zw)(e:Ending)(w':zw):Prop:=∃i S,e= .returned (.pointer (some ⟨i.c,0,none⟩))/\Raw w' i S mo t [] [] [] (λ_=>false) 0/\(∀k,ax i S k->w.heap.size<=k)/\Below w.heap.size w w'
theorem MY{w w1 w2 w3:zw}{n a g mo t:Nat}{Sn Sa Sg:Nat->Prop}(L1:LS w1 n Sn [] 0)(B1:Below w.heap.size w w1)(h1:∀k,Sn k->w.heap.size<=k)(L2:LS w2 a Sa [] 0)(B2:Below w1.heap.size w1 w2)(h2:∀k,Sa k->w1.heap.size<=k)
 (L3:LS w3 g Sg [] 0) (B3:Below w2.heap.size w2 w3) (h3:∀k,Sg k->w2.heap.size<=k) (hm:mo<=9223372036854775807/\t<=9223372036854775807):
 jz mo t w (.returned (.pointer (some ⟨w3.heap.size+1,0,none⟩))) ((w3.alloc (.map #[] 0)).alloc (.cells #[.int .i64 (mo:Int),.int .i64 (t:Int),.pointer (some ⟨n,0,none⟩),.pointer (some ⟨a,0,none⟩),.pointer (some ⟨g,0,none⟩),.map (some w3.heap.size)] 198)):=by
 have s1:=B1.size;have s2:=B2.size;have s3:=B3.size;have s4:(w3.alloc (.map #[] 0)).heap.size=w3.heap.size+1:=by simp
 have b5:=((zo w3.heap.size w3).alloc (zg _) (.map #[] 0)).alloc (by rw[s4];omega) (.cells #[.int .i64 (mo:Int),.int .i64 (t:Int),.pointer (some ⟨n,0,none⟩),.pointer (some ⟨a,0,none⟩),.pointer (some ⟨g,0,none⟩),.map (some w3.heap.size)] 198);have q:=heap_alloc_new (w3.alloc (.map #[] 0)) (.cells #[.int .i64 (mo:Int),.int .i64 (t:Int),.pointer (some ⟨n,0,none⟩),.pointer (some ⟨a,0,none⟩),.pointer (some ⟨g,0,none⟩),.map (some w3.heap.size)] 198);rw[s4] at q;have t1:∀k,Sn k->k < w1.heap.size:=λk hk=>L1.lt hk;have t2:∀k,Sa k->k < w2.heap.size:=λk hk=>L2.lt hk;have t3:∀k,Sg k->k < w3.heap.size:=λk hk=>L3.lt hk;have Vn:Below w1.heap.size w1 w3:=B2.trans (B3.mono s2);refine⟨⟨w3.heap.size+1,n,a,g,w3.heap.size⟩,⟨Sn,Sa,Sg⟩,rfl,⟨q,?_,?_,?_,?_,?_,hm⟩,λk hk=>?_,((B1.trans (B2.mono s1)).trans (B3.mono (by omega))).trans (b5.mono (by omega))⟩
 . exact L1.kept (by have:=b5.size;omega) λk hk=>(b5.block k (by have:=t1 k hk;omega)).trans (Vn.block k (t1 k hk))
 . exact L2.kept (by have:=b5.size;omega) λk hk=>(b5.block k (by have:=t2 k hk;omega)).trans (B3.block k (t2 k hk))
 . exact L3.kept b5.size λk hk=>b5.block k (t3 k hk)
 . exact(Om.made w3).same (qf _ _ _ (by rw[s4];omega))
 . exact⟨λk hk ha=>by have:=t1 k hk;have:=h2 k ha;omega,λk hk ha=>by have:=t1 k hk;have:=h3 k ha;omega,λk hk ha=>by have:=t2 k hk;have:=h3 k ha;omega,
    λhk=>by have:=t1 _ hk;simp only at this;omega,λhk=>by have:=t2 _ hk;simp only at this;omega,λhk=>by have:=t3 _ hk;simp only at this;omega,
    λhk=>by have:=t1 _ hk;simp only at this;omega,λhk=>by have:=t2 _ hk;simp only at this;omega,λhk=>by have:=t3 _ hk;simp only at this;omega,by show w3.heap.size+1≠w3.heap.size;omega⟩
 . rcases hk with h|h|h|h|h
   . simp only at h;omega
   . simp only at h;omega
   . exact h1 k h
   . have:=h2 k h;omega
   . have:=h3 k h;omega
theorem Gy(w:zw)(z:Int)(n:Nat)(hz: -9223372036854775808<=z/\z<=9223372036854775807)(hn:n=z.toNat):Calls prog 79 #[.int .i64 z] w (jz n (n / 2) w):=by
 have e1:(if z < 0 then(0:Int) else z)=(n:Int):=by split <;> omega
 have tx:max z 0=(n:Int):=by omega
 obtain⟨u,hu⟩:=zx (n / 2);have e2:(n:Int).tdiv 2=(u:Int):=by rw[hu,Int.tdiv_eq_ediv_of_nonneg (by omega)];rfl
 rw[← hu];have HB:=zs (n<=9223372036854775807/\u<=9223372036854775807) (⟨by omega,by omega⟩);have e3:IntKind.i64.wrap (u:Int)=(u:Int):=qi _ (by omega);have h2:=@run_makeMap prog;clear hu hn;go_enter func79,ntmps79;go_wp2_with fail
 refine(nE w).mono ?_;rintro e w1 ⟨n1,Sn,rfl,qZ,L1,B1⟩;have DJ:=J (xy L1 (xy B1 qZ));clear L1 B1 qZ;go_wp2_with fail
 refine(nE w1).mono ?_;rintro e w2 ⟨n2,Sa,rfl,rh,L2,B2⟩;have qT:=J (xy L2 (xy B2 rh));clear L2 B2 rh;go_wp2_with fail
 refine(nE w2).mono ?_;rintro e w3 ⟨n3,Sg,rfl,BJ,L3,B3⟩;have F:=J (MY DJ.out.1 DJ.out.2.1 DJ.out.2.2 qT.out.1 qT.out.2.1 qT.out.2.2 L3 B3 BJ HB.out);clear L3 B3 BJ;go_wp2_with fail
 go_ret;exact F.out
end SR
namespace SR
open Go.RowKit Sg
structure St where
 mo:Nat
 t:Nat
 N:zY
 A:zY
 G:zY
 f:Told
def St.all(s:St):zY:=s.A++s.N++s.G
structure Pre(E:zy->Prop)(s:St):Prop where
 nd:s.all.Nodup
 fin:∀x,s.f x=true->E x\/x∈s.all
 fA:∀x∈s.A,s.f x=true
structure Ok(s:St):Prop extends Pre (λ_=>False) s where
 le:s.A.length+s.N.length<=s.mo
 gl:s.G.length<=s.mo
 tl:s.t<=s.mo
def St.cz(s:St):Nat:=s.A.length+s.N.length+s.G.length
def St.aF(s:St)(k:zy):Bool:=aw s.N k||aw s.A k
def St.cut(s:St)(n:Nat):St:=⟨s.mo,s.t,gL n s.N s.A,gm n s.N s.A,(eo n s.N s.A s.G).take s.mo,fZ s.f ((eo n s.N s.A s.G).drop s.mo)⟩
def St.prom(s:St)(k:zy):St:=⟨s.mo,s.t,(k::s.A).drop (mx s.t)++s.N,(k::s.A).take (mx s.t),s.G,iG s.f k⟩
def St.fU(s:St)(k:zy):St:=⟨s.mo,if s.f k=true then rp s.mo s.t else s.t,rem s.N k,s.A,s.G,s.f⟩
def St.eA(s:St)(k:zy):St:=⟨s.mo,if s.f k=true then s.t else oS s.t,s.N,s.A,rem s.G k,s.f⟩
def St.lp(s:St)(k:zy):St:=⟨s.mo,s.t,s.N,k::rem s.A k,s.G,s.f⟩
def St.fr(s:St)(k:zy):St:=⟨s.mo,s.t,k::s.N,s.A,s.G,s.f⟩
def St.aK(s:St)(k:zy):St:=
 if s.mo=0 then s
 else if aw s.A k=true then s.lp k
 else if aw s.N k=true then(s.fU k).prom k
 else if aw s.G k=true then((s.eA k).cut (s.mo - 1)).prom k
 else(s.cut (s.mo - 1)).fr k
def St.out(s:St)(k:zy):Bool:=decide (s.mo≠0)&&!s.aF k&&decide (s.mo<=s.A.length+s.N.length)
def St.dW(s:St)(k:zy):zy:=if s.out k=true then ah (s.A++s.N) else⟨#[]⟩
def St.step(s:St)(k:zy):Value:= .agg #[.bool (s.aF k),.string (s.dW k),.bool (s.out k)]
def St.rm(s:St)(k:zy):St:=⟨s.mo,s.t,rem s.N k,rem s.A k,rem s.G k,eC s.f k⟩
def St.bD(s:St)(k:zy):Bool:=!s.aF k&&decide (s.N.length+s.A.length < s.mo)
def St.ad(s:St)(k:zy):St:=if s.bD k=true then⟨s.mo,s.t,k::s.N,s.A,rem s.G k,eC s.f k⟩ else s
def St.dr(s:St):St:=⟨s.mo,s.t,s.N.dropLast,dA s.N s.A,s.G,if bb (s.A++s.N)=true then eC s.f (ah (s.A++s.N)) else s.f⟩
def St.size(s:St)(n:Nat):St:=⟨n,mn s.t n,s.N,s.A,s.G,s.f⟩
def St.rs(s:St)(n:Nat):St:=(s.size n).cut n
def St.start(n:Nat):St:=⟨n,n / 2,[],[],[],λ_=>false⟩
theorem vT(n:Nat)(N A:zY):gm n N A++gL n N A=(A++N).take (A.length+N.length - gone n N A):=by
 unfold gm gL;rw[List.take_append];congr 2;unfold gone;omega
theorem r8(n:Nat)(N A:zY):(gm n N A).length+(gL n N A).length=min n (A.length+N.length):=by
 rw[← zh,vT,qh,zh];unfold gone;omega
theorem Gz(n:Nat)(N A G:zY):(eo n N A G).length=gone n N A+G.length:=by
 unfold eo;rw[zh,xm,zh];unfold gone;omega
theorem rq(n:Nat)(N A G:zY):gm n N A++gL n N A++eo n N A G=A++N++G:=by
 rw[vT];unfold eo;rw[← xp,xw]
theorem se(s:St)(n:Nat):(s.cut n).all.Sublist s.all:=by
 have:=rq n s.N s.A s.G;unfold St.all St.cut;rw[← this];exact List.Sublist.append_left (List.take_sublist _ _) _
theorem vU(s:St)(n:Nat):(s.cut n).cz<=s.cz:=by
 have h1:=r8 n s.N s.A;have h2:((eo n s.N s.A s.G).take s.mo).length<=gone n s.N s.A+s.G.length:=by rw[qh,Gz];omega
 unfold St.cz St.cut;show(gm n s.N s.A).length+(gL n s.N s.A).length+((eo n s.N s.A s.G).take s.mo).length<=_;unfold gone at h2;omega
section
variable{E:zy->Prop}{s:St}{k:zy}{n:Nat}
theorem Pre.cut(p:Pre E s)(n:Nat):Pre E (s.cut n):=by
 have hw:=rq n s.N s.A s.G;have cG:=p.nd;unfold St.all at cG;rw[← hw] at cG;refine⟨p.nd.sublist (se s n),λx hx=>?_,λx hx=>?_⟩
 . have hx:(s.f x&&!aw ((eo n s.N s.A s.G).drop s.mo) x)=true:=hx;rw[Bool.and_eq_true,Bool.not_eq_true',bz] at hx;refine(p.fin x hx.1).imp id λh=>?_;unfold St.all at h;rw[← hw] at h;unfold St.all St.cut;rcases List.mem_append.1 h with h|h
   . exact qq _ h
   . refine qx _ ?_;rw[← xw s.mo (eo n s.N s.A s.G)] at h;rcases List.mem_append.1 h with h|h
     . exact h
     . exact absurd h hx.2
 . show(s.f x&&!aw ((eo n s.N s.A s.G).drop s.mo) x)=true;have Rs:x∈gm n s.N s.A:=hx;rw[Bool.and_eq_true,Bool.not_eq_true',bz];refine⟨p.fA x (xn Rs),λh=>?_⟩;exact(List.nodup_append.1 cG).2.2 x (qq _ Rs) x (List.mem_of_mem_drop h) rfl
theorem EB(p:Pre (λ_=>False) s)(ht:s.t<=s.mo)(hn:n<=s.mo):Ok (s.cut n):=by
 refine⟨p.cut n,?_,?_,ht⟩
 . show(gm n s.N s.A).length+(gL n s.N s.A).length<=s.mo;rw[r8];omega
 . show((eo n s.N s.A s.G).take s.mo).length<=s.mo;rw[qh];omega
theorem BK(p:Pre (λx=>x=k) s)(hk:k∉s.all)(hl:s.A.length+s.N.length+1<=s.mo)(hg:s.G.length<=s.mo)(ht:s.t<=s.mo):Ok (s.prom k):=by
 have hw:(s.prom k).all=k::s.all:=by
  unfold St.all St.prom;rw[← xp,xw];rfl
 refine⟨⟨by rw[hw,qj];exact⟨hk,p.nd⟩,λx hx=>ja ?_,λx hx=>?_⟩,?_,hg,ht⟩
 . rw[hw];have hx:(if x=k then true else s.f x)=true:=hx
   by_cases e:x=k
   . rw[e];exact xa
   . rw[if_neg e] at hx;rcases p.fin x hx with h|h
     . exact absurd h e
     . exact qm _ h
 . show(if x=k then true else s.f x)=true
   by_cases e:x=k
   . rw[if_pos e]
   . rw[if_neg e];rcases List.mem_cons.1 (xn hx) with h|h
     . exact absurd h e
     . exact p.fA x h
 . show((k::s.A).take (mx s.t)).length+((k::s.A).drop (mx s.t)++s.N).length<=s.mo;rw[zh,<-Nat.add_assoc,<-zh,xw,zv];omega
theorem zG(s:St)(k:zy):(s.prom k).cz=s.cz+1:=by
 unfold St.cz St.prom;show((k::s.A).take (mx s.t)).length+((k::s.A).drop (mx s.t)++s.N).length+s.G.length=_;rw[zh,<-Nat.add_assoc,<-zh,xw,zv];omega
theorem PD{mo t:Nat}(h:t<=mo):rp mo t<=mo:=by unfold rp;split <;> omega
theorem PE{mo t:Nat}(h:t<=mo):oS t<=mo:=by unfold oS;split <;> omega
theorem Ok.lp(p:Ok s)(hk:k∈s.A):Ok (s.lp k):=by
 have hA:(s.A).Nodup:=by have:=p.nd;unfold St.all at this;exact(List.nodup_append.1 (List.nodup_append.1 this).1).1
 have hp:(k::rem s.A k).Perm s.A:=by
  obtain⟨ps,qs,e⟩:=List.append_of_mem hk;rw[e] at hA|-;have h1:=List.nodup_append.1 hA;have h2:=List.nodup_cons.1 h1.2.1;have e1:rem ps k=ps:=aZ (λhx=>h1.2.2 k hx k (by simp) rfl);have e2:rem qs k=qs:=aZ h2.1
  have e3:rem (ps++k::qs) k=rem ps k++rem qs k:=by
   unfold rem;rw[List.filter_append,List.filter_cons_of_neg (by simp)]
  rw[e3,e1,e2];exact List.perm_middle.symm
 have hw:(s.lp k).all.Perm s.all:=by
  unfold St.all St.lp;exact(hp.append_right _).append_right _
 refine⟨⟨hw.nodup_iff.2 p.nd,λx hx=>(p.fin x hx).imp id λh=>hw.mem_iff.2 h,λx hx=>p.fA x (hp.mem_iff.1 hx)⟩,?_,p.gl,p.tl⟩;have:=hp.length_eq;show(k::rem s.A k).length+s.N.length<=s.mo;rw[this];exact p.le
theorem sf{s s':St}(hA:s'.A.Sublist s.A)(hN:s'.N.Sublist s.N)(hG:s'.G.Sublist s.G):s'.all.Sublist s.all:=(hA.append hN).append hG
theorem oT(xs:zY)(k:zy):(rem xs k).Sublist xs:=xx
theorem Ok.fU(p:Ok s)(hk:k∈s.N):Ok ((s.fU k).prom k):=by
 have hn:=p.nd;have Vo:s.N.Nodup:=by unfold St.all at hn;exact(List.nodup_append.1 (List.nodup_append.1 hn).1).2.1
 have hr:=eY Vo hk
 have tD:k∉(s.fU k).all:=by
  unfold St.all St.fU;unfold St.all at hn;rw[qd,qd];rintro((h|h)|h)
  . exact(List.nodup_append.1 (List.nodup_append.1 hn).1).2.2 k h k hk rfl
  . exact eP h
  . exact(List.nodup_append.1 hn).2.2 k (qx _ hk) k h rfl
 refine BK ⟨hn.sublist (show(s.fU k).all.Sublist s.all from sf (xk _) (oT _ _) (xk _)),λx hx=>?_,p.fA⟩ tD ?_ p.gl ?_
 . by_cases e:x=k
   . exact xz e
   . rcases p.fin x hx with h|h
     . exact h.elim
     . right;unfold St.all at h|-;unfold St.fU;simp only[qd,dQ] at h|-;rcases h with(h|h)|h
       . exact xz (xz h)
       . exact xz (ja ⟨h,e⟩)
       . exact ja h
 . show s.A.length+(rem s.N k).length+1<=s.mo;have:=p.le;omega
 . show(if s.f k=true then rp s.mo s.t else s.t)<=s.mo;split
   . exact PD p.tl
   . exact p.tl
theorem Ok.eA(p:Ok s)(hk:k∈s.G)(hm:s.mo≠0):Ok (((s.eA k).cut (s.mo - 1)).prom k):=by
 have hn:=p.nd
 have tD:k∉(s.eA k).all:=by
  unfold St.all St.eA;unfold St.all at hn;rw[qd];rintro(h|h)
  . exact(List.nodup_append.1 hn).2.2 k h k hk rfl
  . exact eP h
 have q:Pre (λx=>x=k) (s.eA k):=by
  refine⟨hn.sublist (show(s.eA k).all.Sublist s.all from sf (xk _) (xk _) (oT _ _)),λx hx=>?_,p.fA⟩
  by_cases e:x=k
  . exact xz e
  . rcases p.fin x hx with h|h
    . exact h.elim
    . right;unfold St.all at h|-;unfold St.eA;simp only[qd,dQ] at h|-;exact h.imp id λh=>⟨h,e⟩
 have hl:=r8 (s.mo - 1) s.N s.A;refine BK (q.cut _) (λh=>tD ((se _ _).subset h)) ?_ ?_ ?_
 . show(gm (s.mo - 1) s.N s.A).length+(gL (s.mo - 1) s.N s.A).length+1<=s.mo;omega
 . show((eo (s.mo - 1) s.N s.A (rem s.G k)).take s.mo).length<=s.mo;rw[qh];omega
 . show(if s.f k=true then s.t else oS s.t)<=s.mo;split
   . exact p.tl
   . exact PE p.tl
theorem Ok.fresh(p:Ok s)(h1:k∉s.A)(h2:k∉s.N)(h3:k∉s.G)(hm:s.mo≠0):Ok ((s.cut (s.mo - 1)).fr k):=by
 have q:=EB (n:=s.mo - 1) p.toPre p.tl (by omega)
 have tD:k∉(s.cut (s.mo - 1)).all:=λh=>by
  have:=(se _ _).subset h;unfold St.all at this;rcases List.mem_append.1 this with h|h
  . rcases List.mem_append.1 h with h|h
    . exact h1 h
    . exact h2 h
  . exact h3 h
 have hl:=r8 (s.mo - 1) s.N s.A
 have hw:((s.cut (s.mo - 1)).fr k).all.Perm (k::(s.cut (s.mo - 1)).all):=by
  unfold St.all St.fr;rw[xp,xp];exact List.perm_middle
 refine⟨⟨hw.nodup_iff.2 (List.nodup_cons.2 ⟨tD,q.nd⟩),λx hx=>(q.fin x hx).imp id λh=>hw.mem_iff.2 (qm _ h),q.fA⟩,?_,q.gl,q.tl⟩;show(gm (s.mo - 1) s.N s.A).length+(k::gL (s.mo - 1) s.N s.A).length<=s.mo;rw[zv];omega
theorem Ok.aK(p:Ok s)(k:zy):Ok (s.aK k):=by
 unfold St.aK;split
 . exact p
 . rename_i hm
   split
   . rename_i h;exact p.lp (aX.1 h)
   . rename_i h1
     split
     . rename_i h;exact p.fU (aX.1 h)
     . rename_i h2
       split
       . rename_i h;exact p.eA (aX.1 h) hm
       . rename_i h3
         exact p.fresh (λh=>h1 (aX.2 h)) (λh=>h2 (aX.2 h)) (λh=>h3 (aX.2 h)) hm
theorem vV(_p:Ok s)(k:zy):(s.aK k).cz<=s.cz+1:=by
 unfold St.aK;split
 . omega
 . split
   . unfold St.cz St.lp;show(k::rem s.A k).length+s.N.length+s.G.length<=_;have:=aI s.A k;rw[zv];omega
   . split
     . rw[zG];unfold St.cz St.fU;show s.A.length+(rem s.N k).length+s.G.length+1<=_;have:=aI s.N k;omega
     . split
       . rw[zG];have h1:=vU (s.eA k) (s.mo - 1)
         have h2:(s.eA k).cz<=s.cz:=by
          unfold St.cz St.eA;show s.A.length+s.N.length+(rem s.G k).length<=_;have:=aI s.G k;omega
         omega
       . have h1:=vU s (s.mo - 1)
         have h2:((s.cut (s.mo - 1)).fr k).cz=(s.cut (s.mo - 1)).cz+1:=by
          unfold St.cz St.fr;show(s.cut (s.mo - 1)).A.length+(k::(s.cut (s.mo - 1)).N).length+(s.cut (s.mo - 1)).G.length=_;rw[zv];omega
         omega
theorem zH{f:Told}{x:zy}(h:eC f k x=true):x≠k/\f x=true:=by
 unfold eC at h
 by_cases e:x=k
 . rw[if_pos e] at h;cases h
 . rw[if_neg e] at h;exact⟨e,h⟩
theorem zI{f:Told}{x:zy}(e:x≠k)(h:f x=true):eC f k x=true:=by
 unfold eC;rw[if_neg e];exact h
theorem Ok.rm(p:Ok s)(k:zy):Ok (s.rm k):=by
 refine⟨⟨p.nd.sublist (sf (oT _ _) (oT _ _) (oT _ _)),λx hx=>?_,λx hx=>?_⟩,?_,?_,p.tl⟩
 . obtain⟨e,h⟩:=zH hx;refine(p.fin x h).imp id λh=>?_;unfold St.all at h|-;unfold St.rm;simp only[qd,dQ] at h|-;rcases h with(h|h)|h
   . exact xz (xz ⟨h,e⟩)
   . exact xz (ja ⟨h,e⟩)
   . exact ja ⟨h,e⟩
 . have:=(dQ (xs:=s.A) (k:=k) (x:=x)).1 hx;exact zI this.2 (p.fA x this.1)
 . show(rem s.A k).length+(rem s.N k).length<=s.mo;have:=aI s.A k;have:=aI s.N k;have:=p.le;omega
 . show(rem s.G k).length<=s.mo;have:=aI s.G k;have:=p.gl;omega
theorem zJ(s:St)(k:zy):(s.rm k).cz<=s.cz:=by
 unfold St.cz St.rm;show(rem s.A k).length+(rem s.N k).length+(rem s.G k).length<=_;have:=aI s.A k;have:=aI s.N k;have:=aI s.G k;omega
theorem Ok.ad(p:Ok s)(k:zy):Ok (s.ad k):=by
 unfold St.ad;split
 . rename_i h
   unfold St.bD St.aF at h;rw[Bool.and_eq_true,Bool.not_eq_true',Bool.or_eq_false_iff,bz,bz,decide_eq_true_eq] at h;obtain⟨⟨h1,h2⟩,h3⟩:=h;have q:=p.rm k
   have e:(s.rm k).fr k=⟨s.mo,s.t,k::s.N,s.A,rem s.G k,eC s.f k⟩:=by
    unfold St.fr St.rm;rw[aZ h1,aZ h2]
   rw[← e]
   have tD:k∉(s.rm k).all:=λh=>by
    unfold St.all St.rm at h;simp only[qd,dQ] at h;rcases h with(h|h)|h
    . exact h.2 rfl
    . exact h.2 rfl
    . exact h.2 rfl
   have hw:((s.rm k).fr k).all.Perm (k::(s.rm k).all):=by
    unfold St.all St.fr;rw[xp,xp];exact List.perm_middle
   refine⟨⟨hw.nodup_iff.2 (List.nodup_cons.2 ⟨tD,q.nd⟩),λx hx=>(q.fin x hx).imp id λh=>hw.mem_iff.2 (qm _ h),q.fA⟩,?_,q.gl,q.tl⟩;show(rem s.A k).length+(k::rem s.N k).length<=s.mo;rw[aZ h1,aZ h2,zv];omega
 . exact p
theorem zL(s:St)(k:zy):(s.ad k).cz<=s.cz+1:=by
 unfold St.ad;split
 . unfold St.cz;show s.A.length+(k::s.N).length+(rem s.G k).length<=_;have:=aI s.G k;rw[zv];omega
 . omega
theorem rr(N A:zY):(dA N A).Sublist A:=by
 unfold dA;split
 . exact List.dropLast_sublist _
 . exact xk _
theorem Ok.dr(p:Ok s):Ok s.dr:=by
 by_cases h:s.A++s.N= []
 . have e1:s.A= []:=(List.append_eq_nil_iff.1 h).1;have e2:s.N= []:=(List.append_eq_nil_iff.1 h).2
   have:s.dr=s:=by
    unfold St.dr dA;rw[e1,e2,if_pos rfl];cases s;simp_all [bb]
   rw[this];exact p
 . have ha:bb (s.A++s.N)=true:=by cases hq:s.A++s.N <;> simp_all [bb]
   have hs:s.dr.all.Sublist s.all:=sf (rr _ _) (List.dropLast_sublist _) (xk _)
   have hw:(s.A++s.N)=(dA s.N s.A++s.N.dropLast)++ [ah (s.A++s.N)]:=by
    rw[tw];unfold ah;rw[qw,qz h];exact(List.dropLast_concat_getLast h).symm
   have hf:s.dr.f=eC s.f (ah (s.A++s.N)):=by unfold St.dr;simp only[ha,if_true]
   have hn:=p.nd;unfold St.all at hn;rw[hw] at hn;refine⟨⟨p.nd.sublist hs,λx hx=>?_,λx hx=>?_⟩,?_,p.gl,p.tl⟩
   . rw[hf] at hx;obtain⟨e,hx⟩:=zH hx;refine(p.fin x hx).imp id λh=>?_;unfold St.all at h;rw[hw] at h;unfold St.all St.dr;rcases List.mem_append.1 h with h|h
     . rcases List.mem_append.1 h with h|h
       . exact qq _ h
       . exact absurd (List.mem_singleton.1 h) e
     . exact qx _ h
   . rw[hf];have Rt:x∈dA s.N s.A:=hx;refine zI (λe=>?_) (p.fA x ((rr _ _).subset Rt));exact(List.nodup_append.1 (List.nodup_append.1 hn).1).2.2 x (qq _ Rt) _ (List.mem_singleton.2 rfl) e
   . show(dA s.N s.A).length+s.N.dropLast.length<=s.mo;have h1:=(rr s.N s.A).length_le;have h2:=(List.dropLast_sublist s.N).length_le;have:=p.le;omega
theorem uI(s:St):s.dr.cz<=s.cz:=by
 have h1:=(rr s.N s.A).length_le;have h2:=(List.dropLast_sublist s.N).length_le;unfold St.cz St.dr;show(dA s.N s.A).length+s.N.dropLast.length+s.G.length<=_;omega
theorem Ok.rs(p:Ok s)(n:Nat):Ok (s.rs n):=EB (s:=s.size n) ⟨p.nd,p.fin,p.fA⟩ (by show mn s.t n<=n;unfold mn;split <;> omega) (Nat.le_refl _)
theorem zM(s:St)(n:Nat):(s.rs n).cz<=s.cz:=vU (s.size n) n
theorem tE(n:Nat):Ok (St.start n):=⟨⟨List.nodup_nil,(λx h=>by cases h),(λx h=>by cases h)⟩,xg _,xg _,by show n / 2<=n;omega⟩
end
end SR
namespace SR
open Go.RowKit Sg
def Ca(w:zw)(c:Nat)(T:Nat->Prop)(s:St)(b:Nat):Prop:=∃i S,i.c=c/\T=ax i S/\Raw w i S s.mo s.t s.N s.A s.G s.f b/\Ok s/\s.cz<=b
def bs(v:Value)(w:zw)(c:Nat)(T:Nat->Prop)(s:St)(b:Nat)(e:Ending)(w':zw):Prop:=e= .returned v/\∃T',Ca w' c T' s b/\aJ w w' T T'
section
variable{w w':zw}{i:Ix}{S:Sx}{c b b':Nat}{T:Nat->Prop}{s:St}{v:Value}{e:Ending}{k:zy}
theorem aL.ca(h:aL v w i S s.mo s.t s.N s.A s.G s.f b e w')(p:Ok s)(ht:s.cz<=b):bs v w i.c (ax i S) s b e w':=by
 obtain⟨he,S',hR,hW⟩:=h;exact⟨he,ax i S',⟨i,S',rfl,rfl,hR,p,ht⟩,hW⟩
theorem Ca.lt(h:Ca w c T s b){k:Nat}(hk:T k):k < w.heap.size:=by
 obtain⟨i,S,rfl,rfl,hR,_⟩:=h;exact hR.lt hk
theorem Ca.below(h:Ca w c T s b)(hb:Below w.heap.size w w'):Ca w' c T s b:=by
 obtain⟨i,S,rfl,rfl,hR,hp⟩:=h;exact⟨i,S,rfl,rfl,hR.below hb,hp⟩
theorem Ca.ok(h:Ca w c T s b):Ok s:=by obtain⟨i,S,rfl,rfl,hR,hp,_⟩:=h;exact hp
theorem Ca.cz(h:Ca w c T s b):s.cz<=b:=by obtain⟨i,S,rfl,rfl,hR,hp,ht⟩:=h;exact ht
theorem Ca.small(h:Ca w c T s b):∀x∈s.all,x.size<=maxLen:=by
 obtain⟨i,S,rfl,rfl,hR,_⟩:=h;intro x hx;unfold St.all at hx;rcases List.mem_append.1 hx with h|h
 . rcases List.mem_append.1 h with h|h
   . exact hR.a.small x h
   . exact hR.n.small x h
 . exact hR.g.small x h
theorem Ca.beside(h:Ca w c T s b){X:Nat->Prop}(ht:ao X w w')(hx:∀k,T k->¬X k):Ca w' c T s b:=by
 obtain⟨i,S,rfl,rfl,hR,hp⟩:=h;exact⟨i,S,rfl,rfl,hR.beside ht hx,hp⟩
theorem EC(p:Ok s)(hm:s.mo≠0)(hh:s.aF k=false)(m:Nat)(iX:s.mo=m+1):
 Value.agg #[.bool false,.string (bP ((s.A++s.N).reverse.take (s.A.length+s.N.length - m))),.bool (!((s.A++s.N).reverse.take (s.A.length+s.N.length - m)).isEmpty)]=s.step k:=by
 have hle:=p.le;unfold St.step St.dW St.out;rw[hh]
 by_cases hf:s.mo<=s.A.length+s.N.length
 . have hn:s.A.length+s.N.length - m=1:=by omega
   rw[hn];have hL:s.A++s.N≠ []:=λh=>by have:=congrArg List.length h;rw[zh,ql] at this;omega
   have e1:(s.A++s.N).reverse.take 1= [ah (s.A++s.N)]:=by
    have:=(pL (L:=s.A++s.N) (j:=0) (by rw[zh];omega)).2;rw[List.take_zero,List.nil_append] at this;rw[this];unfold ah;rw[qw,List.getLast?_eq_getElem?,zt]
   rw[e1];simp[hm,hf,bP,ah]
 . have hn:s.A.length+s.N.length - m=0:=by omega
   rw[hn];simp[hf,bP]
end
section
variable(w:zw)(c:Nat)(T:Nat->Prop)(s:St)(b:Nat)(key:zy)(h:Ca w c T s b)
include h
theorem ru:Calls prog 214 #[.pointer (some ⟨c,0,none⟩)] w (br s.G w):=by
 obtain⟨i,S,rfl,rfl,hR,hp⟩:=h;exact J3 w i S _ _ _ _ _ _ b hR
theorem mT(hs:key.size<=maxLen):Calls prog 215 #[.pointer (some ⟨c,0,none⟩),.string key] w (dq (s.aF key) w):=by
 obtain⟨i,S,rfl,rfl,hR,hp⟩:=h;exact zA w i S _ _ _ _ _ _ b hR key hs
theorem mS:Calls prog 217 #[.pointer (some ⟨c,0,none⟩)] w (Qt (.int .i64 ((s.N.length+s.A.length:Nat):Int)) w):=by
 obtain⟨i,S,rfl,rfl,hR,hp⟩:=h;exact CR w i S _ _ _ _ _ _ b hR
theorem kt:Calls prog 216 #[.pointer (some ⟨c,0,none⟩)] w (br (s.A++s.N).reverse w):=by
 obtain⟨i,S,rfl,rfl,hR,hp⟩:=h;exact Pz w i S _ _ _ _ _ _ b hR
theorem iy:Calls prog 221 #[.pointer (some ⟨c,0,none⟩)] w (gZ (ah (s.A++s.N)) (bb (s.A++s.N)) w):=by
 obtain⟨i,S,rfl,rfl,hR,hp⟩:=h;exact J4 w i S _ _ _ _ _ _ b hR
theorem kq:Calls prog 213 #[.pointer (some ⟨c,0,none⟩)] w (bs (.tuple #[.string (ah (s.A++s.N)),.bool (bb (s.A++s.N))]) w c T s.dr b):=by
 obtain⟨i,S,rfl,rfl,hR,hp,ht⟩:=h;exact(PA w i S _ _ _ _ _ _ b hR).mono λe w' q=>aL.ca (s:=s.dr) q hp.dr (zr (uI s) ht)
theorem ix(hs:key.size<=maxLen):Calls prog 218 #[.pointer (some ⟨c,0,none⟩),.string key] w (bs (.bool (s.aF key)) w c T (s.rm key) b):=by
 obtain⟨i,S,rfl,rfl,hR,hp,ht⟩:=h;refine(BI w i S _ _ _ _ _ _ b hR key hs λh1=>?_).mono λe w' q=>aL.ca (s:=s.rm key) q (hp.rm key) (zr (zJ s key) ht);rw[bz];intro h2;have:=hp.nd;unfold St.all at this;exact(List.nodup_append.1 (List.nodup_append.1 this).1).2.2 key h2 key (aX.1 h1) rfl
theorem jC(hs:key.size<=maxLen)(hb:b<=980):Calls prog 212 #[.pointer (some ⟨c,0,none⟩),.string key] w (bs (.bool (s.bD key)) w c T (s.ad key) (b+1)):=by
 obtain⟨i,S,rfl,rfl,hR,hp,ht⟩:=h;have gn:=zr (zL s key) (Nat.succ_le_succ ht);have fo:=hp.ad key;have hlen:=hR.n.len;cases hi:s.aF key with
 |true=>
  have e1:s.bD key=false:=by simp[St.bD,hi]
  have e2:s.ad key=s:=by unfold St.ad;rw[e1];rfl
  rw[e1,e2];refine(jB w i S _ _ _ _ _ _ b key hR hs hi).mono λe w' ⟨he,S',r,hW⟩=>?_;exact⟨he,_,⟨i,S',rfl,rfl,r.mono (by omega),hp,by omega⟩,hW⟩
 |false=>
  have lU:=hi;unfold St.aF at lU;rw[Bool.or_eq_false_iff] at lU
  by_cases hf:s.N.length+s.A.length < s.mo
  . have e1:s.bD key=true:=by simp[St.bD,hi,hf]
    rw[e1];refine(gH w i S _ _ _ _ _ _ b key hR hs lU.1 lU.2 hf hlen.1 hb).mono λe w' q=>?_;unfold St.ad at fo gn|-;rw[if_pos e1] at fo gn|-;exact aL.ca q fo gn
  . have e1:s.bD key=false:=by simp[St.bD,hi,hf]
    have e2:s.ad key=s:=by unfold St.ad;rw[e1];rfl
    rw[e1,e2];refine(gG w i S _ _ _ _ _ _ b key hR hs hi (by omega)).mono λe w' ⟨he,S',r,hW⟩=>?_;exact⟨he,_,⟨i,S',rfl,rfl,r.mono (by omega),hp,by omega⟩,hW⟩
theorem gF(hs:key.size<=maxLen)(hb:b<=980):Calls prog 219 #[.pointer (some ⟨c,0,none⟩),.string key] w (bs (s.step key) w c T (s.aK key) (b+1)):=by
 obtain⟨i,S,rfl,rfl,hR,hp,ht⟩:=h;have gn:=zr (vV hp key) (Nat.succ_le_succ ht);have fo:=hp.aK key;have cG:=hp.nd;unfold St.all at cG;have hle:=hp.le;have bk:=ht;unfold St.cz at bk
 by_cases hm:s.mo=0
 . have hA:s.A= []:=qe (by omega);have hN:s.N= []:=qe (by omega);have e2:s.aK key=s:=by unfold St.aK;rw[if_pos hm]
   have e1:s.step key= .agg #[.bool false,.string ⟨#[]⟩,.bool false]:=by
    unfold St.step St.dW St.out St.aF;rw[hA,hN];simp[hm,aw]
   rw[e1,e2];refine(jA w i S _ _ _ _ _ _ b key hR hs hm (by rw[hN];rfl) (by rw[hA];rfl)).mono λe w' ⟨he,S',r,hW⟩=>?_;exact⟨he,_,⟨i,S',rfl,rfl,r.mono (by omega),hp,by omega⟩,hW⟩
 cases hA:aw s.A key with
 |true=>
  have hN:aw s.N key=false:=by
   rw[bz];intro h2;exact(List.nodup_append.1 (List.nodup_append.1 cG).1).2.2 key (aX.1 hA) key h2 rfl
  have e2:s.aK key=s.lp key:=by unfold St.aK;rw[if_neg hm,if_pos hA]
  have e1:s.step key= .agg #[.bool true,.string ⟨#[]⟩,.bool false]:=by
   unfold St.step St.dW St.out St.aF;rw[hA,hN];simp
  rw[e2] at fo gn;rw[e1,e2];exact(PB w i S _ _ _ _ _ _ b key hR hs hb hm hN hA (by omega)).mono λe w' q=>aL.ca (s:=s.lp key) q fo gn
 |false=>
 cases hN:aw s.N key with
 |true=>
  have e2:s.aK key=(s.fU key).prom key:=by unfold St.aK;rw[if_neg hm,if_neg (by rw[hA];simp),if_pos hN]
  have e1:s.step key= .agg #[.bool true,.string ⟨#[]⟩,.bool false]:=by
   unfold St.step St.dW St.out St.aF;rw[hA,hN];simp
  rw[e2] at fo gn;rw[e1,e2];cases hf:s.f key with
  |true=>
   refine(MU w i S _ _ _ _ _ _ b key hR hs hb hm hN hA hf (List.nodup_append.1 cG).1 (by omega)).mono λe w' q=>aL.ca (s:=(s.fU key).prom key) ?_ fo gn;unfold St.prom St.fU;simp only[hf,if_true];exact q
  |false=>
   refine(MV w i S _ _ _ _ _ _ b key hR hs hb hm hN hA hf (List.nodup_append.1 cG).1 (by omega)).mono λe w' q=>aL.ca (s:=(s.fU key).prom key) ?_ fo gn;unfold St.prom St.fU;simp only[hf];exact q
 |false=>
 have hh:s.aF key=false:=by unfold St.aF;rw[hA,hN];rfl
 have kT:=EC hp hm hh (s.mo - 1) (by omega);cases hG:aw s.G key with
 |true=>
  have e2:s.aK key=((s.eA key).cut (s.mo - 1)).prom key:=by unfold St.aK;rw[if_neg hm,if_neg (by rw[hA];simp),if_neg (by rw[hN];simp),if_pos hG]
  rw[e2] at fo gn;rw[← kT,e2];cases hf:s.f key with
  |true=>
   refine(MW w i S _ _ _ _ _ _ b key hR hs hb (s.mo - 1) (by omega) hN hA hG hf cG (by omega)).mono λe w' q=>aL.ca (s:=((s.eA key).cut (s.mo - 1)).prom key) ?_ fo gn;unfold St.prom St.cut St.eA;simp only[hf,if_true];exact q
  |false=>
   refine(MX w i S _ _ _ _ _ _ b key hR hs hb (s.mo - 1) (by omega) hN hA hG hf cG (by omega)).mono λe w' q=>aL.ca (s:=((s.eA key).cut (s.mo - 1)).prom key) ?_ fo gn;unfold St.prom St.cut St.eA;simp only[hf];exact q
 |false=>
  have e2:s.aK key=(s.cut (s.mo - 1)).fr key:=by unfold St.aK;rw[if_neg hm,if_neg (by rw[hA];simp),if_neg (by rw[hN];simp),if_neg (by rw[hG];simp)]
  rw[e2] at fo gn;rw[← kT,e2];exact(vS w i S _ _ _ _ _ _ b key hR hs hb (s.mo - 1) (by omega) hN hA hG cG (by omega)).mono λe w' q=>aL.ca (s:=(s.cut (s.mo - 1)).fr key) q fo gn
theorem iA(z:Int)(hz: -9223372036854775808<=z/\z<=9223372036854775807)(hb:b<=980):Calls prog 220 #[.pointer (some ⟨c,0,none⟩),.int .i64 z] w
 (λe w'=>∃v T',e= .returned v/\Own w' w.heap.size v ((s.A++s.N).reverse.take (s.A.length+s.N.length - z.toNat))/\Ca w' c T' (s.rs z.toNat) b/\aJ w w' T T'/\∀g,v.ownBlock=some g->¬T' g):=by
 obtain⟨i,S,rfl,rfl,hR,hp,ht⟩:=h;have cG:=hp.nd;unfold St.all at cG;have bk:=ht;unfold St.cz at bk;refine(J5 w i S _ _ _ _ _ _ b z z.toNat hR hz rfl cG (by omega) hb).mono ?_;rintro e w' ⟨v,S',he,hO,r,hW,hv⟩;exact⟨v,_,he,hO,⟨i,S',rfl,rfl,r,hp.rs _,zr (zM s _) ht⟩,hW,hv⟩
end
def GA(s:St)(w:zw)(e:Ending)(w':zw):Prop:=∃c T,e= .returned (.pointer (some ⟨c,0,none⟩))/\Ca w' c T s 0/\(∀k,T k->w.heap.size<=k)/\Below w.heap.size w w'
theorem kV(w:zw)(z:Int)(hz: -9223372036854775808<=z/\z<=9223372036854775807):Calls prog 79 #[.int .i64 z] w (GA (St.start z.toNat) w):=by
 refine(Gy w z z.toNat hz rfl).mono ?_;rintro e w' ⟨i,S,he,r,hS,hB⟩;exact⟨i.c,_,he,⟨i,S,rfl,rfl,r,tE _,zg _⟩,hS,hB⟩
section
variable{w0 w w':zw}{c b b':Nat}{T T':Nat->Prop}{s s':St}{xs:zY}{r v:Value}{e:Ending}
end
section
variable(w:zw)(a b a' b':Bool)(s t:zy)
