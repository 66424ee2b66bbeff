/- srlru: Ybn Yc Yd Ye Yf Yp Yq Yr Ys Yt Yu Yv Yw. -/
import Derived.Test.YtdmmciggopmglaaGreatDoorGBas
import Derived.Deep.QuietTactic
import Derived.BigQuiet
import Derived.Deep.RegionHeld3
import Derived.Deep.LoopGhost
import Derived.Deep.CutBlock
import Derived.Deep.DeepCutAuto
import Derived.Deep.RegionLaw
import Derived.BigRegion
import Derived.Laws.StructEq
set_option maxRecDepth 20000
namespace Go.Proofs.YtdmmciggopmglaaGreatDoor.SR
open Go.RowKit Go.Maps Go.WideMaps Sg
abbrev Told:=ByteArray->Bool
def tput(f:Told)(k:ByteArray):Told:=λx=>if x=k then true else f x
def tdel(f:Told)(k:ByteArray):Told:=λx=>if x=k then false else f x
def tcut(f:Told)(xs:List ByteArray):Told:=λx=>f x&&!inn xs x
theorem zeroU(w:World):(zeroValue 269).run Tryz.prog w= .ok (.agg #[]) w:=by kernel_rfl
def Om(w:World)(b:Nat)(f:Told)(n:Nat):Prop:=∃D:DataW Unit,w.ownsMap Tryz.prog 9 (unitElem (H:=Unit)) b n D/\∀s:ByteArray,Maps.has D (.string s.data.toList)=f s
section
variable{w w':World}{b n:Nat}{f:Told}
theorem Om.made(w:World):Om (w.alloc (.map #[] 0)) w.heap.size (λ_=>false) 0:=⟨.map [],World.ownsMap_made w _ _ _,λ_=>rfl⟩
theorem Om.same(h:Om w b f n)(hs:w'.heap[b]?=w.heap[b]?):Om w' b f n:=by
 obtain⟨D,h1,h2⟩:=h;exact⟨D,owns_same h1 hs,h2⟩
theorem Om.lt(h:Om w b f n):b < w.heap.size:=by
 obtain⟨D,h1,_⟩:=h;exact h1.lt
theorem Om.mono(h:Om w b f n){n':Nat}(hn:n<=n'):Om w b f n':=by
 obtain⟨D,⟨es,clock,hb,F,hs,rfl⟩,h2⟩:=h;exact⟨_,⟨es,clock,hb,F,by omega,rfl⟩,h2⟩
theorem Om.look(h:Om w b f n){s:ByteArray}(hs:s.size<=maxLen):
 (Instr.lookup 169 (.map (some b)) (.string s) true).run Tryz.prog w= .ok (.tuple #[.agg #[],.bool (f s)]) w:=by
 obtain⟨D,h1,h3⟩:=h;obtain⟨v,ps,hrun,hv⟩:=h1.look_ok lawS Tryz.underlying169 (zeroU w) unitElem_mk (keyOf_string_mk Tryz.underlying9 hs);obtain⟨rfl,_⟩:=unitElem_inv hv;rw[hrun,h3 s]
theorem Om.store(h:Om w b f n){s:ByteArray}(hs:s.size<=maxLen)(hn:n<=100000000):
 ∃w',(Instr.mapUpdate 169 (.map (some b)) (.string s) (.agg #[])).run Tryz.prog w= .ok () w'/\Om w' b (tput f s) (n+1)/\w.grownBy w' (some b):=by
 obtain⟨D,h1,h3⟩:=h;obtain⟨w',hrun,hown,hg⟩:=h1.update lawS Tryz.underlying169 (by unfold maxLen;omega) (keyOf_string_mk Tryz.underlying9 hs) unitElem_mk;have hk:WideAt.IsKeyLit (.string s.data.toList):=trivial;refine⟨w',hrun,⟨_,hown,λt=>?_⟩,hg⟩;unfold tput
 by_cases e:t=s
 . subst e;rw[if_pos rfl,has_put_same h1.isMap hk]
 . rw[if_neg e,has_put_other (str_ne e)];exact h3 t
theorem Om.drop(h:Om w b f n){s:ByteArray}(hs:s.size<=maxLen)(ty:TypeId):
 ∃w',(Builtin.delete_ #[169,9] ty #[.map (some b),.string s]).run Tryz.prog w= .ok (.tuple #[]) w'/\Om w' b (tdel f s) n/\w.grownBy w' (some b):=by
 obtain⟨D,h1,h3⟩:=h;obtain⟨w',hrun,hown,hg⟩:=h1.drop lawS Tryz.underlying169 (keyOf_string_mk Tryz.underlying9 hs) ty;refine⟨w',hrun,⟨_,hown,λt=>?_⟩,hg.grown⟩;unfold tdel
 by_cases e:t=s
 . subst e;rw[if_pos rfl,has_del_same]
 . rw[if_neg e,has_del_other (str_ne e)];exact h3 t
end
end Go.Proofs.YtdmmciggopmglaaGreatDoor.SR
namespace Go.Proofs.YtdmmciggopmglaaGreatDoor.SR
open Go.RowKit Sg
structure Ix where
 c:Nat
 n:Nat
 a:Nat
 g:Nat
 O:Nat
structure Sx where
 n:Nat->Prop
 a:Nat->Prop
 g:Nat->Prop
def blk(i:Ix)(S:Sx):Nat->Prop:=λk=>k=i.c\/k=i.O\/S.n k\/S.a k\/S.g k
structure Sep(i:Ix)(S:Sx):Prop where
 na:∀k,S.n k->¬S.a k
 ng:∀k,S.n k->¬S.g k
 ag:∀k,S.a k->¬S.g k
 cn:¬S.n i.c
 ca:¬S.a i.c
 cg:¬S.g i.c
 On:¬S.n i.O
 Oa:¬S.a i.O
 Og:¬S.g i.O
 cO:i.c≠i.O
def cBox(w:World)(i:Ix)(mo t:Nat):Prop:=w.heap[i.c]?=some (.cells #[.int .i64 (mo:Int),.int .i64 (t:Int),.pointer (some ⟨i.n,0,none⟩),.pointer (some ⟨i.a,0,none⟩),.pointer (some ⟨i.g,0,none⟩),.map (some i.O)] 171 (0,0))
structure Raw(w:World)(i:Ix)(S:Sx)(mo t:Nat)(N A G:List ByteArray)(f:Told)(b:Nat):Prop where
 box:cBox w i mo t
 n:LS w i.n S.n N b
 a:LS w i.a S.a A b
 g:LS w i.g S.g G b
 o:Om w i.O f b
 sep:Sep i S
 top:mo<=9223372036854775807/\t<=9223372036854775807
def RPost(v:Value)(w:World)(i:Ix)(S:Sx)(mo t:Nat)(N A G:List ByteArray)(f:Told)(b:Nat)(e:Ending)(w':World):Prop:=
 e= .returned v/\∃S',Raw w' i S' mo t N A G f b/\Went w w' (blk i S) (blk i S')
section
variable{w w':World}{i:Ix}{S:Sx}{mo t b b':Nat}{N A G:List ByteArray}{f f':Told}{v:Value}{e:Ending}
theorem Raw.cells(r:Raw w i S mo t N A G f b):w.cell? ⟨i.c,0,none⟩=some (.int .i64 (mo:Int))/\w.cell? ⟨i.c,1,none⟩=some (.int .i64 (t:Int))/\w.cell? ⟨i.c,2,none⟩=some (.pointer (some ⟨i.n,0,none⟩))/\w.cell? ⟨i.c,3,none⟩=some (.pointer (some ⟨i.a,0,none⟩))/\w.cell? ⟨i.c,4,none⟩=some (.pointer (some ⟨i.g,0,none⟩))/\w.cell? ⟨i.c,5,none⟩=some (.map (some i.O)):=
 ⟨cell_of_row w _ 0 _ _ _ r.box,cell_of_row w _ 1 _ _ _ r.box,cell_of_row w _ 2 _ _ _ r.box,cell_of_row w _ 3 _ _ _ r.box,cell_of_row w _ 4 _ _ _ r.box,cell_of_row w _ 5 _ _ _ r.box⟩
theorem Raw.froz(r:Raw w i S mo t N A G f b):w.frozen? ⟨i.c,0,none⟩=false/\w.frozen? ⟨i.c,1,none⟩=false:=⟨frozen_of_row w _ 0 _ _ r.box,frozen_of_row w _ 1 _ _ r.box⟩
theorem Raw.clt(r:Raw w i S mo t N A G f b):i.c < w.heap.size:=(Array.getElem?_eq_some_iff.1 r.box).1
theorem Raw.lt(r:Raw w i S mo t N A G f b){k:Nat}(hk:blk i S k):k < w.heap.size:=by
 rcases hk with h|h|h|h|h
 . have:=r.clt;omega
 . have:=r.o.lt;omega
 . exact r.n.lt h
 . exact r.a.lt h
 . exact r.g.lt h
theorem Raw.kept(r:Raw w i S mo t N A G f b)(hs:w.heap.size<=w'.heap.size)(hb:∀k,blk i S k->w'.heap[k]?=w.heap[k]?):Raw w' i S mo t N A G f b:=
 ⟨(hb _ (Or.inl rfl)).trans r.box,r.n.kept hs λk hk=>hb k (Or.inr (Or.inr (Or.inl hk))),r.a.kept hs λk hk=>hb k (Or.inr (Or.inr (Or.inr (Or.inl hk)))),
   r.g.kept hs λk hk=>hb k (Or.inr (Or.inr (Or.inr (Or.inr hk)))),r.o.same (hb _ (Or.inr (Or.inl rfl))),r.sep,r.top⟩
theorem Raw.below(r:Raw w i S mo t N A G f b)(hb:Below w.heap.size w w'):Raw w' i S mo t N A G f b:=r.kept hb.size λk hk=>hb.block k (r.lt hk)
theorem Raw.beside(r:Raw w i S mo t N A G f b){X:Nat->Prop}(ht:Turn X w w')(hx:∀k,blk i S k->¬X k):Raw w' i S mo t N A G f b:=r.kept ht.size λk hk=>ht.block k (r.lt hk) (hx k hk)
theorem Raw.drewN(r:Raw w i S mo t N A G f b)(m:Nat):Raw (w.drewN m) i S mo t N A G f b:=r.below ⟨rfl,rfl,rfl,Nat.le_refl _,λ_ _=>rfl⟩
theorem Raw.mono(r:Raw w i S mo t N A G f b)(hb:b<=b'):Raw w i S mo t N A G f b':=⟨r.box,r.n.mono hb,r.a.mono hb,r.g.mono hb,r.o.mono hb,r.sep,r.top⟩
theorem Raw.onN(r:Raw w i S mo t N A G f b){xs:List ByteArray}(hp:LPost v w i.n S.n xs b' e w')(hb:b<=b'):RPost v w i S mo t xs A G f b' e w':=by
 obtain⟨he,S',hL,hW⟩:=hp;have q:∀k,k < w.heap.size->¬S.n k->w'.heap[k]?=w.heap[k]?:=λk hk hn=>hW.turn.block k hk hn
 have z:∀k,k < w.heap.size->¬S.n k->¬S' k:=λk hk hn h=>by
  rcases hW.new k h with h|h
  . exact hn h
  . omega
 refine⟨he,⟨S',S.a,S.g⟩,⟨(q _ r.clt r.sep.cn).trans r.box,hL,(r.a.kept hW.turn.size λk hk=>q k (r.a.lt hk) λh=>r.sep.na k h hk).mono hb,(r.g.kept hW.turn.size λk hk=>q k (r.g.lt hk) λh=>r.sep.ng k h hk).mono hb,(r.o.same (q _ r.o.lt r.sep.On)).mono hb,
  ⟨λk hk ha=>z k (r.a.lt ha) (λh=>r.sep.na k h ha) hk,λk hk ha=>z k (r.g.lt ha) (λh=>r.sep.ng k h ha) hk,r.sep.ag,z _ r.clt r.sep.cn,r.sep.ca,r.sep.cg,z _ r.o.lt r.sep.On,r.sep.Oa,r.sep.Og,r.sep.cO⟩,r.top⟩,?_,hW.turn.wide λk _ h=>Or.inr (Or.inr (Or.inl h))⟩
 rintro k (h|h|h|h|h)
 . exact Or.inl (Or.inl h)
 . exact Or.inl (Or.inr (Or.inl h))
 . exact(hW.new k h).imp (λh=>Or.inr (Or.inr (Or.inl h))) id
 . exact Or.inl (Or.inr (Or.inr (Or.inr (Or.inl h))))
 . exact Or.inl (Or.inr (Or.inr (Or.inr (Or.inr h))))
theorem Raw.onA(r:Raw w i S mo t N A G f b){xs:List ByteArray}(hp:LPost v w i.a S.a xs b' e w')(hb:b<=b'):RPost v w i S mo t N xs G f b' e w':=by
 obtain⟨he,S',hL,hW⟩:=hp;have q:∀k,k < w.heap.size->¬S.a k->w'.heap[k]?=w.heap[k]?:=λk hk hn=>hW.turn.block k hk hn
 have z:∀k,k < w.heap.size->¬S.a k->¬S' k:=λk hk hn h=>by
  rcases hW.new k h with h|h
  . exact hn h
  . omega
 refine⟨he,⟨S.n,S',S.g⟩,⟨(q _ r.clt r.sep.ca).trans r.box,(r.n.kept hW.turn.size λk hk=>q k (r.n.lt hk) (r.sep.na k hk)).mono hb,hL,(r.g.kept hW.turn.size λk hk=>q k (r.g.lt hk) λh=>r.sep.ag k h hk).mono hb,(r.o.same (q _ r.o.lt r.sep.Oa)).mono hb,
  ⟨λk hk=>z k (r.n.lt hk) (r.sep.na k hk),r.sep.ng,λk hk ha=>z k (r.g.lt ha) (λh=>r.sep.ag k h ha) hk,r.sep.cn,z _ r.clt r.sep.ca,r.sep.cg,r.sep.On,z _ r.o.lt r.sep.Oa,r.sep.Og,r.sep.cO⟩,r.top⟩,?_,hW.turn.wide λk _ h=>Or.inr (Or.inr (Or.inr (Or.inl h)))⟩
 rintro k (h|h|h|h|h)
 . exact Or.inl (Or.inl h)
 . exact Or.inl (Or.inr (Or.inl h))
 . exact Or.inl (Or.inr (Or.inr (Or.inl h)))
 . exact(hW.new k h).imp (λh=>Or.inr (Or.inr (Or.inr (Or.inl h)))) id
 . exact Or.inl (Or.inr (Or.inr (Or.inr (Or.inr h))))
theorem Raw.onG(r:Raw w i S mo t N A G f b){xs:List ByteArray}(hp:LPost v w i.g S.g xs b' e w')(hb:b<=b'):RPost v w i S mo t N A xs f b' e w':=by
 obtain⟨he,S',hL,hW⟩:=hp;have q:∀k,k < w.heap.size->¬S.g k->w'.heap[k]?=w.heap[k]?:=λk hk hn=>hW.turn.block k hk hn
 have z:∀k,k < w.heap.size->¬S.g k->¬S' k:=λk hk hn h=>by
  rcases hW.new k h with h|h
  . exact hn h
  . omega
 refine⟨he,⟨S.n,S.a,S'⟩,⟨(q _ r.clt r.sep.cg).trans r.box,(r.n.kept hW.turn.size λk hk=>q k (r.n.lt hk) (r.sep.ng k hk)).mono hb,(r.a.kept hW.turn.size λk hk=>q k (r.a.lt hk) (r.sep.ag k hk)).mono hb,hL,(r.o.same (q _ r.o.lt r.sep.Og)).mono hb,
  ⟨r.sep.na,λk hk=>z k (r.n.lt hk) (r.sep.ng k hk),λk hk=>z k (r.a.lt hk) (r.sep.ag k hk),r.sep.cn,r.sep.ca,z _ r.clt r.sep.cg,r.sep.On,r.sep.Oa,z _ r.o.lt r.sep.Og,r.sep.cO⟩,r.top⟩,?_,hW.turn.wide λk _ h=>Or.inr (Or.inr (Or.inr (Or.inr h)))⟩
 rintro k (h|h|h|h|h)
 . exact Or.inl (Or.inl h)
 . exact Or.inl (Or.inr (Or.inl h))
 . exact Or.inl (Or.inr (Or.inr (Or.inl h)))
 . exact Or.inl (Or.inr (Or.inr (Or.inr (Or.inl h))))
 . exact(hW.new k h).imp (λh=>Or.inr (Or.inr (Or.inr (Or.inr h)))) id
theorem Raw.onO(r:Raw w i S mo t N A G f b)(ho:Om w' i.O f' b')(hg:w.grownBy w' (some i.O))(hb:b<=b'):Raw w' i S mo t N A G f' b'/\Went w w' (blk i S) (blk i S):=by
 have q:∀k,k < w.heap.size->k≠i.O->w'.heap[k]?=w.heap[k]?:=λk hk hn=>hg.block k hk (by simpa using hn)
 refine⟨⟨(q _ r.clt r.sep.cO).trans r.box,(r.n.kept hg.size λk hk=>q k (r.n.lt hk) λh=>r.sep.On (h▸hk)).mono hb,(r.a.kept hg.size λk hk=>q k (r.a.lt hk) λh=>r.sep.Oa (h▸hk)).mono hb,(r.g.kept hg.size λk hk=>q k (r.g.lt hk) λh=>r.sep.Og (h▸hk)).mono hb,ho,r.sep,r.top⟩,Went.same ⟨hg.os,hg.tape,hg.output,hg.size,λk hk hn=>q k hk λh=>hn (Or.inr (Or.inl h))⟩⟩
theorem Raw.setT(r:Raw w i S mo t N A G f b)(u:Nat)(hu:u<=9223372036854775807):Raw (w.setCell ⟨i.c,1,none⟩ (.int .i64 (u:Int))) i S mo u N A G f b/\Turn (blk i S) w (w.setCell ⟨i.c,1,none⟩ (.int .i64 (u:Int))):=by
 have q:∀k,k≠i.c->(w.setCell ⟨i.c,1,none⟩ (.int .i64 (u:Int))).heap[k]?=w.heap[k]?:=λk hk=>Below.heap_setCell _ _ _ _ hk
 have hs:w.heap.size<=(w.setCell ⟨i.c,1,none⟩ (.int .i64 (u:Int))).heap.size:=by simp[World.setCell]
 refine⟨⟨?_,r.n.kept hs λk hk=>q k λh=>r.sep.cn (h▸hk),r.a.kept hs λk hk=>q k λh=>r.sep.ca (h▸hk),r.g.kept hs λk hk=>q k λh=>r.sep.cg (h▸hk),r.o.same (q _ (Ne.symm r.sep.cO)),r.sep,r.top.1,hu⟩,(Turn.refl _ _).setCell (p:=⟨i.c,1,none⟩) (Or.inl (Or.inl rfl)) _⟩;have:=r.box;unfold cBox at this|-;rw[heap_setCell_same _ _ _ _ _ _ this];rfl
theorem Raw.setM(r:Raw w i S mo t N A G f b)(u:Nat)(hu:u<=9223372036854775807):Raw (w.setCell ⟨i.c,0,none⟩ (.int .i64 (u:Int))) i S u t N A G f b/\Turn (blk i S) w (w.setCell ⟨i.c,0,none⟩ (.int .i64 (u:Int))):=by
 have q:∀k,k≠i.c->(w.setCell ⟨i.c,0,none⟩ (.int .i64 (u:Int))).heap[k]?=w.heap[k]?:=λk hk=>Below.heap_setCell _ _ _ _ hk
 have hs:w.heap.size<=(w.setCell ⟨i.c,0,none⟩ (.int .i64 (u:Int))).heap.size:=by simp[World.setCell]
 refine⟨⟨?_,r.n.kept hs λk hk=>q k λh=>r.sep.cn (h▸hk),r.a.kept hs λk hk=>q k λh=>r.sep.ca (h▸hk),r.g.kept hs λk hk=>q k λh=>r.sep.cg (h▸hk),r.o.same (q _ (Ne.symm r.sep.cO)),r.sep,hu,r.top.2⟩,(Turn.refl _ _).setCell (p:=⟨i.c,0,none⟩) (Or.inl (Or.inl rfl)) _⟩;have:=r.box;unfold cBox at this|-;rw[heap_setCell_same _ _ _ _ _ _ this];rfl
end
def Qt(v:Value)(w:World)(e:Ending)(w':World):Prop:=e= .returned v/\∃n,w'=w.drewN n
def Stl(v:Value)(w:World)(e:Ending)(w':World):Prop:=e= .returned v/\Below w.heap.size w w'
theorem below_drewN(w:World)(n:Nat):Below w.heap.size w (w.drewN n):=⟨rfl,rfl,rfl,Nat.le_refl _,λ_ _=>rfl⟩
section
variable(w:World)(i:Ix)(S:Sx)(mo t:Nat)(N A G:List ByteArray)(f:Told)(b:Nat)(r:Raw w i S mo t N A G f b)
include r
theorem ghostsY:Calls Tryz.prog 260 #[.pointer (some ⟨i.c,0,none⟩)] w (RowPost G w):=by
 obtain⟨_,_,_,_,c4,_⟩:=r.cells;have U:=Lib.hid (ls_keys w i.g S.g G b r.g);clear r;go_enter Tryz.func260,Tryz.ntmps260;go_wp2_with fail
 refine U.out.mono ?_;rintro e w1 ⟨v,rfl,hO,hB⟩;go_wp2_with fail
 go_ret;exact⟨v,rfl,hO,hB⟩
theorem hasY(key:ByteArray)(hs:key.size<=maxLen):Calls Tryz.prog 261 #[.pointer (some ⟨i.c,0,none⟩),.string key] w (BoolPost (inn N key||inn A key) w):=by
 obtain⟨_,_,c2,c3,_⟩:=r.cells;have U:=ls_has w i.n S.n N b r.n key hs;have V:=Lib.hid (ls_has w i.a S.a A b r.a key hs);clear r;cases hi:inn N key with
 |true=>
  rw[hi] at U;have U:=Lib.hid U;clear hi V;rw[Bool.true_or];go_enter Tryz.func261,Tryz.ntmps261;go_wp2_with fail
  refine U.out.mono ?_;rintro e w1 ⟨rfl,rfl⟩;go_wp2_with fail
  go_ret;exact⟨rfl,rfl⟩
 |false=>
  rw[hi] at U;have U:=Lib.hid U;clear hi;rw[Bool.false_or];go_enter Tryz.func261,Tryz.ntmps261;go_wp2_with fail
  refine U.out.mono ?_;rintro e w1 ⟨rfl,rfl⟩;go_wp2_with fail
  refine V.out.mono ?_;rintro e w1 ⟨rfl,rfl⟩;go_wp2_with fail
  go_ret;exact⟨rfl,rfl⟩
theorem lenY:Calls Tryz.prog 263 #[.pointer (some ⟨i.c,0,none⟩)] w (Qt (.int .i64 ((N.length+A.length:Nat):Int)) w):=by
 obtain⟨_,_,c2,c3,_⟩:=r.cells;have U:=Lib.hid (show ∀m,Calls Tryz.prog 137 #[.pointer (some ⟨i.n,0,none⟩)] (w.drewN m) (λe w'=>e= .returned (.int .i64 (N.length:Int))/\w'=w.drewN m) from λm=>(ls_len (w.drewN m) i.n S.n N b (r.drewN m).n).mono λ_ _ h=>⟨h.1,h.2.symm⟩);have V:=Lib.hid (show ∀m,Calls Tryz.prog 137 #[.pointer (some ⟨i.a,0,none⟩)] (w.drewN m) (λe w'=>e= .returned (.int .i64 (A.length:Int))/\w'=w.drewN m) from λm=>(ls_len (w.drewN m) i.a S.a A b (r.drewN m).a).mono λ_ _ h=>⟨h.1,h.2.symm⟩);have h1:=r.n.len;have h2:=r.a.len;obtain⟨c,n,a,g,O⟩:=i;simp only at c2 c3 U V|-;have HW:=IntWalk.i64_in ((N.length:Int)+(A.length:Int)) (by omega);rw[show((N.length+A.length:Nat):Int)=(N.length:Int)+(A.length:Int) by omega];clear r;go_enter Tryz.func263,Tryz.ntmps263;go_wp2_with fail
 go_quiet(first
  |(go_at_call 137;with_reducible exact Calls.quiet_of_same (U.out _))
  |(go_at_call 137;with_reducible exact Calls.quiet_of_same (V.out _)))
 go_wp2_with fail
 go_ret;exact⟨rfl,_,rfl⟩
theorem isOldY(key:ByteArray)(hs:key.size<=maxLen):Calls Tryz.prog 273 #[.pointer (some ⟨i.c,0,none⟩),.string key] w (Stl (.bool (f key)) w):=by
 obtain⟨_,_,_,_,_,c5⟩:=r.cells;have hl:=r.o.look hs;clear r;go_enter Tryz.func273,Tryz.ntmps273;go_wp2_with fail
 go_ret;exact⟨rfl,(Below.refl _ _).alloc (Nat.le_refl _) _⟩
theorem leavingY:Calls Tryz.prog 269 #[.pointer (some ⟨i.c,0,none⟩)] w (λe w'=>e= .returned (.pointer (some ⟨if N= [] then i.a else i.n,0,none⟩))/\w=w'):=by
 obtain⟨_,_,c2,c3,_⟩:=r.cells;have U:=ls_len w i.n S.n N b r.n;have hl:=r.n.len;clear r;cases N with
 |nil=>
  have U:=Lib.hid (show Calls Tryz.prog 137 #[.pointer (some ⟨i.n,0,none⟩)] w (IntPost 0 w) from U);rw[if_pos rfl];go_enter Tryz.func269,Tryz.ntmps269;go_wp2_with fail
  refine U.out.mono ?_;rintro e w1 ⟨rfl,rfl⟩;go_wp2_with fail
  go_ret;exact⟨rfl,rfl⟩
 |cons x N=>
  obtain⟨q,hq⟩:∃q:Int,q=((x::N).length:Int):=⟨_,rfl⟩;rw[← hq] at U;have e0:(q==0)=false:=by rw[hq,List.length_cons];simp;omega
  have U:=Lib.hid U;rw[if_neg (by simp)];clear hq hl;go_enter Tryz.func269,Tryz.ntmps269;go_wp2_with fail
  refine U.out.mono ?_;rintro e w1 ⟨rfl,rfl⟩;go_wp2_with fail
  go_ret;exact⟨rfl,rfl⟩
end
end Go.Proofs.YtdmmciggopmglaaGreatDoor.SR
namespace Go.Proofs.YtdmmciggopmglaaGreatDoor.SR
open Go.RowKit Sg
theorem step_append_run{P:Program}{ops:Array Oper}{o:Oper}{a:Act}{w:World}{K:Act->World->Prop}{Q:Exit->Act->World->Prop}{E:Prop}(hgd:o.guard=none)(s x:Operand)(t:TypeId)
 (ho:o.op= .call {callee:= .builtin .append,args:=#[s,x],argTypes:=#[t,t]}) (v u v':Value) (w':World) (hs:a.eval s=v) (hx:a.eval x=u) (hr:(Builtin.append_ #[t,t] o.type #[v,u]).run P w= .ok v' w')
 (h:K (a.put o.dst v') w'):if Region.wanted o (yielded ops a.tmps)=true then Oper.wp P o a w K Q else E:=by
 have hw:Region.wanted o (yielded ops a.tmps)=true:=by simp[Region.wanted,hgd]
 rw[if_pos hw];unfold Oper.wp execOp;simp only[ho,resolve,invoke,builtin,Sem.run_bind,Sem.run_pure,Result.andThen_ok,List.map_toArray,List.map_cons,List.map_nil,hs,hx,hr];exact h
def dA(N A:List ByteArray):List ByteArray:=if N= [] then A.dropLast else A
theorem last_app{N A:List ByteArray}(h:N≠ []):lastKey (A++N)=lastKey N/\anyKey (A++N)=true/\anyKey N=true:=by
 cases N with
 |nil=>exact absurd rfl h
 |cons x N=>
  refine⟨?_,by cases A <;> rfl,rfl⟩;unfold lastKey;rw[List.getLastD_eq_getLast?,List.getLastD_eq_getLast?,List.getLast?_append,List.getLast?_eq_some_getLast (l:=x::N) (by simp)];rfl
section
variable(w:World)(i:Ix)(S:Sx)(mo t:Nat)(N A G:List ByteArray)(f:Told)(b:Nat)(r:Raw w i S mo t N A G f b)
include r
set_option maxHeartbeats 2000000 in
theorem keysY:Calls Tryz.prog 262 #[.pointer (some ⟨i.c,0,none⟩)] w (RowPost (A++N).reverse w):=by
 obtain⟨_,_,c2,c3,_⟩:=r.cells;have U:=Lib.hid (show Calls Tryz.prog 120 #[.pointer (some ⟨i.a,0,none⟩)] w.drew (RowPost A w) from(ls_keys w.drew i.a S.a A b (r.below (below_drewN w 1)).a).mono λ_ _ ⟨v,h1,h2,h3⟩=>⟨v,h1,h2,⟨h3.os,h3.tape,h3.output,h3.size,h3.block⟩⟩);have V:=Lib.hid (λ(w1:World) (h:Below w.heap.size w w1)=>ls_keys w1 i.n S.n N b (r.below h).n);have C:=Lib.hid (show ∀w1,Below w.heap.size w w1->w1.cell? ⟨i.c,2,none⟩=some (.pointer (some ⟨i.n,0,none⟩))/\w1.cell? ⟨i.c,3,none⟩=some (.pointer (some ⟨i.a,0,none⟩)) from λw1 h=>⟨(r.below h).cells.2.2.1,(r.below h).cells.2.2.2.1⟩);have h1:=r.n.len;have h2:=r.a.len;obtain⟨ic,n,a,g,O⟩:=i;simp only at c2 c3 U V C|-;clear r;go_enter Tryz.func262,Tryz.ntmps262;go_wp2_with fail
 go_region_held3(λw'=>w'.cell? ⟨ic,2,none⟩=some (.pointer (some ⟨n,0,none⟩))/\w'.cell? ⟨ic,3,none⟩=some (.pointer (some ⟨a,0,none⟩))) (first|(exact⟨‹_›,‹_›⟩)|go_keep)
  (first
    |(go_at_call 120;refine U.out.mono ?_;rintro e w1 ⟨v1,rfl,hO1,hB1⟩;obtain⟨z2,z3⟩:=C.out w1 hB1;have O1:=Lib.hid hO1;have B1:=Lib.hid hB1;clear hO1 hB1 U)
    |(go_at_call 120;refine(V.out w1 B1.out).mono ?_;rintro e w2 ⟨v2,rfl,hO2,hB2⟩;obtain⟨z4,z5⟩:=C.out w2 (B1.out.trans (hB2.mono B1.out.size));obtain⟨v3,w3,hrun,hO3,hg3⟩:=app_all (O1.out.below hB2) hO2 (by omega) (Nat.le_trans B1.out.size hB2.size);have RUN:=Lib.hid hrun;have O3:=Lib.hid hO3;have B3:=Lib.hid (show Below w.heap.size w w3 from(B1.out.trans (hB2.mono B1.out.size)).grown hg3 (Nat.le_trans B1.out.size hB2.size) (λk hk=>((O1.out.below hB2).1.lt k hk).1));obtain⟨z6,z7⟩:=C.out w3 B3.out;clear hO2 hB2 hrun hO3 hg3 V O1 B1)
    |(refine step_append_run rfl _ _ _ rfl _ _ _ _ rfl rfl RUN.out ?_))
 go_wp2_with fail
 refine(reverse_any w3 w.heap.size v3 _ O3.out B3.out.size).mono ?_;rintro e w4 ⟨rfl,hO,hB⟩;have O4:=Lib.hid hO;have B4:=Lib.hid hB;clear hO hB;go_wp2_with fail
 go_ret;exact⟨v3,rfl,O4.out,B3.out.trans B4.out⟩
theorem victimY:Calls Tryz.prog 267 #[.pointer (some ⟨i.c,0,none⟩)] w (KeyPost (lastKey (A++N)) (anyKey (A++N)) w):=by
 have U:=Lib.hid (leavingY w i S mo t N A G f b r)
 have V:=Lib.hid (show Calls Tryz.prog 154 #[.pointer (some ⟨if N= [] then i.a else i.n,0,none⟩)] w (KeyPost (lastKey (A++N)) (anyKey (A++N)) w) by
  by_cases h:N= []
  . subst h;rw[if_pos rfl,List.append_nil];exact ls_last w i.a S.a A b r.a
  . rw[if_neg h,(last_app h).1,(last_app h).2.1];have:=ls_last w i.n S.n N b r.n;rw[(last_app (A:=A) h).2.2] at this;exact this)
 generalize lastKey (A++N)=x at*;generalize anyKey (A++N)=q at*;generalize(if N= [] then i.a else i.n)=l at*;clear r;go_enter Tryz.func267,Tryz.ntmps267;go_wp2_with fail
 refine U.out.mono ?_;rintro e w1 ⟨rfl,rfl⟩;go_wp2_with fail
 refine V.out.mono ?_;rintro e w1 ⟨rfl,rfl⟩;go_wp2_with fail
 go_ret2
 exact⟨rfl,rfl⟩
theorem popY:Calls Tryz.prog 143 #[.pointer (some ⟨if N= [] then i.a else i.n,0,none⟩)] w (RPost (.tuple #[.string (lastKey (A++N)),.bool (anyKey (A++N))]) w i S mo t N.dropLast (dA N A) G f b):=by
 by_cases h:N= []
 . subst h;unfold dA;rw[if_pos rfl,if_pos rfl,List.append_nil];exact(ls_pop w i.a S.a A b r.a).mono λe w' hp=>r.onA hp (Nat.le_refl _)
 . unfold dA;rw[if_neg h,if_neg h,(last_app h).1,(last_app h).2.1];have:=ls_pop w i.n S.n N b r.n;rw[(last_app (A:=A) h).2.2] at this;exact this.mono λe w' hp=>r.onN hp (Nat.le_refl _)
theorem removeY(key:ByteArray)(hs:key.size<=maxLen)(hd:inn N key=true->inn A key=false):
 Calls Tryz.prog 264 #[.pointer (some ⟨i.c,0,none⟩),.string key] w (RPost (.bool (inn N key||inn A key)) w i S mo t (rem N key) (rem A key) (rem G key) (tdel f key) b):=by
 obtain⟨_,_,_,_,c4,_⟩:=r.cells;have U:=Lib.hid (ls_remove w i.g S.g G b r.g key hs);have HH:=Lib.hid r;clear r;cases hi:inn N key with
 |true=>
  have ha:=Lib.hid (hd hi);have HI:=Lib.hid hi;clear hi hd;rw[Bool.true_or];go_enter Tryz.func264,Tryz.ntmps264;go_wp2_with fail
  refine U.out.mono ?_;intro e w1 hp;obtain⟨rfl,S1,r1,hW1⟩:=HH.out.onG hp (Nat.le_refl _);obtain⟨_,_,c2,_,_,c5⟩:=r1.cells;obtain⟨w2,hdel,hO,hg⟩:=r1.o.drop hs 0;have hdel':∀ty,(Builtin.delete_ #[169,9] ty #[.map (some i.O),.string key]).run Tryz.prog w1= .ok (.tuple #[]) w2:=λ_=>hdel;obtain⟨r2,hW2⟩:=r1.onO hO hg (Nat.le_refl _);obtain⟨_,_,d2,_⟩:=r2.cells;have V:=ls_remove w2 i.n S1.n N b r2.n key hs;rw[HI.out] at V;have V:=Lib.hid V;have R2:=Lib.hid r2;have W2:=Lib.hid (hW1.trans hW2);clear hp r1 hW1 hdel hO hg r2 hW2 U c4;go_wp2_with fail
  refine V.out.mono ?_;intro e w3 hp;obtain⟨rfl,S3,r3,hW3⟩:=R2.out.onN hp (Nat.le_refl _);have R3:=Lib.hid r3;have W3:=Lib.hid (W2.out.trans hW3);clear hp r3 hW3 V;go_wp2_with fail
  go_ret;refine⟨rfl,S3,?_,W3.out⟩;rw[rem_none (inn_no.1 ha.out)];exact R3.out
 |false=>
  have HI:=Lib.hid hi;clear hi hd;rw[Bool.false_or];go_enter Tryz.func264,Tryz.ntmps264;go_wp2_with fail
  refine U.out.mono ?_;intro e w1 hp;obtain⟨rfl,S1,r1,hW1⟩:=HH.out.onG hp (Nat.le_refl _);obtain⟨_,_,c2,_,_,c5⟩:=r1.cells;obtain⟨w2,hdel,hO,hg⟩:=r1.o.drop hs 0;have hdel':∀ty,(Builtin.delete_ #[169,9] ty #[.map (some i.O),.string key]).run Tryz.prog w1= .ok (.tuple #[]) w2:=λ_=>hdel;obtain⟨r2,hW2⟩:=r1.onO hO hg (Nat.le_refl _);obtain⟨_,_,d2,_⟩:=r2.cells;have V:=ls_remove w2 i.n S1.n N b r2.n key hs;rw[HI.out] at V;have V:=Lib.hid V;have R2:=Lib.hid r2;have W2:=Lib.hid (hW1.trans hW2);clear hp r1 hW1 hdel hO hg r2 hW2 U c4;go_wp2_with fail
  refine V.out.mono ?_;intro e w3 hp;obtain⟨rfl,S3,r3,hW3⟩:=R2.out.onN hp (Nat.le_refl _);obtain⟨_,_,_,c3,_⟩:=r3.cells;have Z:=Lib.hid (ls_remove w3 i.a S3.a A b r3.a key hs);have R3:=Lib.hid r3;have W3:=Lib.hid (W2.out.trans hW3);clear hp r3 hW3 V;go_wp2_with fail
  refine Z.out.mono ?_;intro e w4 hp;obtain⟨rfl,S4,r4,hW4⟩:=R3.out.onA hp (Nat.le_refl _);have R4:=Lib.hid r4;have W4:=Lib.hid (W3.out.trans hW4);clear hp r4 hW4 Z;go_wp2_with fail
  go_ret;exact⟨rfl,S4,R4.out,W4.out⟩
theorem raiseY(h:t < mo):Calls Tryz.prog 274 #[.pointer (some ⟨i.c,0,none⟩)] w (RPost (.tuple #[]) w i S mo (t+1) N A G f b):=by
 obtain⟨c0,c1,_⟩:=r.cells;obtain⟨_,f1⟩:=r.froz;have ht:=r.top;have e0:decide (t < mo)=true:=by simpa using h
 have R:=Lib.hid (λm=>(r.drewN m).setT (t+1) (by omega));clear r;go_enter Tryz.func274,Tryz.ntmps274;go_wp2_with fail
 go_quiet(fail)
 go_wp2_with fail
 go_end0;exact⟨rfl,S,(R.out _).1,(Went.below (below_drewN w _)).trans (Went.same (R.out _).2)⟩
theorem raiseY_no(h:¬t < mo):Calls Tryz.prog 274 #[.pointer (some ⟨i.c,0,none⟩)] w (RPost (.tuple #[]) w i S mo t N A G f b):=by
 obtain⟨c0,c1,_⟩:=r.cells;have e0:decide (t < mo)=false:=by simpa using h
 have R:=Lib.hid (λm=>(r.drewN m));clear r;go_enter Tryz.func274,Tryz.ntmps274;go_wp2_with fail
 go_quiet(fail)
 go_wp2_with fail
 go_end0;exact⟨rfl,S,R.out _,Went.below (below_drewN w _)⟩
theorem lowerY(h:1 < t):Calls Tryz.prog 268 #[.pointer (some ⟨i.c,0,none⟩)] w (RPost (.tuple #[]) w i S mo (t - 1) N A G f b):=by
 obtain⟨c0,c1,_⟩:=r.cells;obtain⟨_,f1⟩:=r.froz;have ht:=r.top;have R:=r.setT (t - 1) (by omega);obtain⟨u,rfl⟩:∃u,t=u+1:=⟨t - 1,by omega⟩;have e0:decide (1 < ((u+1:Nat):Int))=true:=by simp;omega
 rw[show u+1 - 1=u by omega] at R|-;have R:=Lib.hid R;clear r;go_enter Tryz.func268,Tryz.ntmps268;go_wp2_with fail
 go_end0;exact⟨rfl,S,R.out.1,Went.same R.out.2⟩
theorem lowerY_no(h:¬1 < t):Calls Tryz.prog 268 #[.pointer (some ⟨i.c,0,none⟩)] w (RPost (.tuple #[]) w i S mo t N A G f b):=by
 obtain⟨c0,c1,_⟩:=r.cells;have e0:decide (1 < (t:Int))=false:=by simp;omega
 have R:=Lib.hid r;clear r;go_enter Tryz.func268,Tryz.ntmps268;go_wp2_with fail
 go_end0;exact⟨rfl,S,R.out,Went.refl _ _⟩
end
end Go.Proofs.YtdmmciggopmglaaGreatDoor.SR
namespace Go.Proofs.YtdmmciggopmglaaGreatDoor.SR
open Go.RowKit Sg
set_option maxHeartbeats 1000000 in
theorem cutRow_any(w:World)(l m j0:Nat)(F:FuncId)(hF:∀args w,(callFunc F args).run Tryz.prog w= .ok (.enter F args) w)(p:Addr)(I:Nat->World->Prop)(h0:I j0 w)
 (hlen:∀j W,I j W->Calls Tryz.prog 137 #[.pointer (some ⟨l,0,none⟩)] W (IntPost (j:Int) W))
 (hpop:∀j W,j < j0->I (j+1) W->Calls Tryz.prog 143 #[.pointer (some ⟨l,0,none⟩)] W (λe w'=>∃x,e= .returned (.tuple #[.string x,.bool true])/\Calls Tryz.prog F #[.string x,.pointer (some p)] w' (λe w2=>e= .returned (.tuple #[])/\I j w2))):
 Calls Tryz.prog 277 #[.pointer (some ⟨l,0,none⟩),.int .i64 (m:Int),.func (.func F) #[] #[.pointer (some p)]] w (λe w'=>e= .returned (.tuple #[])/\I (min m j0) w'):=by
 have H0:=Lib.hid h0;have HL:=Lib.hid hlen;have HP:=Lib.hid hpop;clear h0 hlen hpop;go_enter Tryz.func277,Tryz.ntmps277;go_wp2_with fail
 go_loopg [] (j0 - m) (λk W=>k<=j0 - m/\I (min m j0+k) W)
 case atStart=>exact⟨Nat.le_refl _,by rw[show min m j0+(j0 - m)=j0 by omega];exact H0.out⟩
 case round=>
  obtain⟨hk,hI⟩:=hrel;have U:=Lib.hid (HL.out _ _ hI);have II:=Lib.hid hI;obtain⟨q,hq⟩:∃q,q=min m j0+gk:=⟨_,rfl⟩;rw[← hq] at U;have HQ:=Lib.hid hq;clear hI;cases gk with
  |zero=>
   have e0:decide (m < q)=false:=by simp;omega
   clear hq;go_wp2_with fail
   refine U.out.mono ?_;rintro e wr ⟨rfl,rfl⟩;go_wp2_with fail
   go_end0;exact⟨rfl,II.out⟩
  |succ gk=>
   have e0:decide (m < q)=true:=by simp;omega
   have V:=Lib.hid (HP.out (min m j0+gk) _ (by omega) II.out);clear hq;go_wp2_with fail
   refine U.out.mono ?_;rintro e wr ⟨rfl,rfl⟩;go_wp2_with fail
   refine V.out.mono ?_;rintro e w2 ⟨x,rfl,hF⟩;have Z:=Lib.hid hF;clear hF U V;go_wp2_with fail
   refine Z.out.mono ?_;rintro e w3 ⟨rfl,hI⟩;have I3:=Lib.hid hI;clear hI Z;go_wp2_with fail
   go_roundg gk
   case measure=>omega
   case rel=>exact⟨by omega,I3.out⟩
def CB(w:World)(cb:Nat)(i:Ix):Prop:=w.heap[cb]?=some (.cells #[.pointer (some ⟨i.c,0,none⟩)] 157 (0,0))
theorem CB.lt{w:World}{cb:Nat}{i:Ix}(k:CB w cb i):cb < w.heap.size:=(Array.getElem?_eq_some_iff.1 k).1
theorem CB.cell{w:World}{cb:Nat}{i:Ix}(k:CB w cb i):w.cell? ⟨cb,0,none⟩=some (.pointer (some ⟨i.c,0,none⟩)):=cell_of_row w _ 0 _ _ _ k
theorem went_out{w w':World}{S S':Nat->Prop}{k:Nat}(h:Went w w' S S')(hk:k < w.heap.size)(hn:¬S k):w'.heap[k]?=w.heap[k]?/\¬S' k:=
 ⟨h.turn.block k hk hn,λh1=>by rcases h.new k h1 with h|h;exact hn h;omega⟩
theorem cloP(w:World)(cb:Nat)(i:Ix)(S:Sx)(mo t:Nat)(N A G:List ByteArray)(f:Told)(b:Nat)(x:ByteArray)(r:Raw w i S mo t N A G f b)(k:CB w cb i)(hx:x∉N)(hs:x.size<=maxLen)(hb:b<=99000)(hl:N.length+1<=b):
 Calls Tryz.prog 279 #[.string x,.pointer (some ⟨cb,0,none⟩)] w (RPost (.tuple #[]) w i S mo t (x::N) A G f b):=by
 have k0:=k.cell;obtain⟨_,_,c2,_⟩:=r.cells;have U:=Lib.hid (ls_front_new w i.n S.n N b r.n x b hx hs hb (Nat.le_refl _) hl);have HH:=Lib.hid r;clear r k;go_enter Tryz.func279,Tryz.ntmps279;go_wp2_with fail
 refine U.out.mono ?_;intro e w1 hp;have P:=Lib.hid (HH.out.onN hp (Nat.le_refl _));obtain⟨rfl,_⟩:=hp;go_wp2_with fail
 go_end0;exact P.out
theorem cloG(w:World)(cb:Nat)(i:Ix)(S:Sx)(mo t:Nat)(N A G:List ByteArray)(f:Told)(b:Nat)(x:ByteArray)(r:Raw w i S mo t N A G f b)(k:CB w cb i)(hs:x.size<=maxLen):
 Calls Tryz.prog 278 #[.string x,.pointer (some ⟨cb,0,none⟩)] w (RPost (.tuple #[]) w i S mo t N A G (tdel f x) b):=by
 have k0:=k.cell;obtain⟨_,_,_,_,_,c5⟩:=r.cells;obtain⟨w2,hdel,hO,hg⟩:=r.o.drop hs 0;have hdel':∀ty,(Builtin.delete_ #[169,9] ty #[.map (some i.O),.string x]).run Tryz.prog w= .ok (.tuple #[]) w2:=λ_=>hdel;have P:=Lib.hid (show RPost (.tuple #[]) w i S mo t N A G (tdel f x) b (.returned (.tuple #[])) w2 from⟨rfl,S,(r.onO hO hg (Nat.le_refl _)).1,(r.onO hO hg (Nat.le_refl _)).2⟩);clear r k hdel hO hg;go_enter Tryz.func278,Tryz.ntmps278;go_wp2_with fail
 go_end0;exact P.out
theorem fnP:∀args w,(callFunc 279 args).run Tryz.prog w= .ok (.enter 279 args) w:=λargs w=>by kernel_rfl
theorem fnG:∀args w,(callFunc 278 args).run Tryz.prog w= .ok (.enter 278 args) w:=λargs w=>by kernel_rfl
theorem take_last{xs:List ByteArray}{j:Nat}(h:j < xs.length):lastKey (xs.take (j+1))=xs.getD j ⟨#[]⟩/\anyKey (xs.take (j+1))=true/\(xs.take (j+1)).dropLast=xs.take j:=by
 rw[take_snoc xs j ⟨#[]⟩ h];refine⟨by simp[lastKey],?_,by simp⟩;unfold anyKey;cases h2:xs.take j <;> rfl
theorem drop_cons{xs:List ByteArray}{j:Nat}(h:j < xs.length):xs.drop j=xs.getD j ⟨#[]⟩::xs.drop (j+1):=by
 rw[List.drop_eq_getElem_cons h,List.getD_eq_getElem?_getD,List.getElem?_eq_getElem h];rfl
theorem getD_in{xs:List ByteArray}{j:Nat}(h:j < xs.length):xs.getD j ⟨#[]⟩∈xs:=by
 rw[List.getD_eq_getElem?_getD,List.getElem?_eq_getElem h];exact List.getElem_mem h
theorem tcut_next(f:Told){xs:List ByteArray}{j:Nat}(h:j < xs.length):tdel (tcut f (xs.drop (j+1))) (xs.getD j ⟨#[]⟩)=tcut f (xs.drop j):=by
 rw[drop_cons h];generalize xs.getD j ⟨#[]⟩=k
 funext x
 unfold tdel tcut inn
 by_cases e:x=k
 . rw[if_pos e];simp[e]
 . rw[if_neg e];simp[Ne.symm e]
theorem tcut_nil(f:Told):tcut f []=f:=by funext x;simp[tcut,inn]
def PRel(w:World)(cb:Nat)(i:Ix)(S:Sx)(mo t:Nat)(N A G:List ByteArray)(f:Told)(b j:Nat)(W:World):Prop:=
 ∃S',Raw W i S' mo t (A.drop j++N) (A.take j) G f b/\Went w W (blk i S) (blk i S')/\CB W cb i/\¬blk i S' cb
theorem demote_any(w:World)(cb:Nat)(i:Ix)(S:Sx)(mo t:Nat)(N A G:List ByteArray)(f:Told)(b m:Nat)(r:Raw w i S mo t N A G f b)(k:CB w cb i)(hn:¬blk i S cb)(hd:(A++N).Nodup)(hb:b<=99000)(hl:A.length+N.length<=b):
 Calls Tryz.prog 277 #[.pointer (some ⟨i.a,0,none⟩),.int .i64 (m:Int),.func (.func 279) #[] #[.pointer (some ⟨cb,0,none⟩)]] w
  (λe w'=>e= .returned (.tuple #[])/\PRel w cb i S mo t N A G f b (min m A.length) w'):=by
 refine cutRow_any w i.a m A.length _ fnP ⟨cb,0,none⟩ (λj W=>j<=A.length/\PRel w cb i S mo t N A G f b j W) ?_ ?_ ?_ |>.mono (λe w' h=>⟨h.1,h.2.2⟩)
 . refine⟨Nat.le_refl _,S,?_,Went.refl _ _,k,hn⟩;rw[List.drop_length,List.take_length];exact r
 . rintro j W ⟨hj,S',hR,_⟩;have:=ls_len W i.a S'.a _ b hR.a;rw[List.length_take,Nat.min_eq_left hj] at this;exact this
 . rintro j W hj ⟨_,S',hR,hW,hK,hN⟩;have U:=ls_pop W i.a S'.a _ b hR.a;rw[(take_last hj).1,(take_last hj).2.1,(take_last hj).2.2] at U;refine U.mono ?_;intro e w1 hp;obtain⟨rfl,S1,r1,hW1⟩:=hR.onA hp (Nat.le_refl _);have o1:=went_out hW1 hK.lt hN
   have hx:A.getD j ⟨#[]⟩∉A.drop (j+1)++N:=by
    have h1:(A.drop j++N).Nodup:=hd.sublist ((List.drop_sublist j A).append_right N);rw[drop_cons hj,List.cons_append] at h1;exact(List.nodup_cons.1 h1).1
   refine⟨_,rfl,(cloP w1 cb i S1 mo t _ _ G f b _ r1 (o1.1.trans hK) hx (r.a.small _ (getD_in hj)) hb ?_).mono ?_⟩
   . rw[List.length_append,List.length_drop];omega
   rintro e w2 ⟨rfl,S2,r2,hW2⟩;have o2:=went_out hW2 (Nat.lt_of_lt_of_le hK.lt hW1.turn.size) o1.2;refine⟨rfl,by omega,S2,?_,hW.trans (hW1.trans hW2),o2.1.trans (o1.1.trans hK),o2.2⟩;rw[drop_cons hj];exact r2
def GRel(w:World)(cb:Nat)(i:Ix)(S:Sx)(mo t:Nat)(N A G:List ByteArray)(f:Told)(b j:Nat)(W:World):Prop:=
 ∃S',Raw W i S' mo t N A (G.take j) (tcut f (G.drop j)) b/\Went w W (blk i S) (blk i S')/\CB W cb i/\¬blk i S' cb
theorem forget_any(w:World)(cb:Nat)(i:Ix)(S:Sx)(mo t:Nat)(N A G:List ByteArray)(f:Told)(b m:Nat)(r:Raw w i S mo t N A G f b)(k:CB w cb i)(hn:¬blk i S cb):
 Calls Tryz.prog 277 #[.pointer (some ⟨i.g,0,none⟩),.int .i64 (m:Int),.func (.func 278) #[] #[.pointer (some ⟨cb,0,none⟩)]] w
  (λe w'=>e= .returned (.tuple #[])/\GRel w cb i S mo t N A G f b (min m G.length) w'):=by
 refine cutRow_any w i.g m G.length _ fnG ⟨cb,0,none⟩ (λj W=>j<=G.length/\GRel w cb i S mo t N A G f b j W) ?_ ?_ ?_ |>.mono (λe w' h=>⟨h.1,h.2.2⟩)
 . refine⟨Nat.le_refl _,S,?_,Went.refl _ _,k,hn⟩;rw[List.drop_length,List.take_length,tcut_nil];exact r
 . rintro j W ⟨hj,S',hR,_⟩;have:=ls_len W i.g S'.g _ b hR.g;rw[List.length_take,Nat.min_eq_left hj] at this;exact this
 . rintro j W hj ⟨_,S',hR,hW,hK,hN⟩;have U:=ls_pop W i.g S'.g _ b hR.g;rw[(take_last hj).1,(take_last hj).2.1,(take_last hj).2.2] at U;refine U.mono ?_;intro e w1 hp;obtain⟨rfl,S1,r1,hW1⟩:=hR.onG hp (Nat.le_refl _);have o1:=went_out hW1 hK.lt hN;refine⟨_,rfl,(cloG w1 cb i S1 mo t _ _ _ _ b _ r1 (o1.1.trans hK) (r.g.small _ (getD_in hj))).mono ?_⟩;rintro e w2 ⟨rfl,S2,r2,hW2⟩;have o2:=went_out hW2 (Nat.lt_of_lt_of_le hK.lt hW1.turn.size) o1.2;refine⟨rfl,by omega,S2,?_,hW.trans (hW1.trans hW2),o2.1.trans (o1.1.trans hK),o2.2⟩;rw[tcut_next f hj] at r2;exact r2
end Go.Proofs.YtdmmciggopmglaaGreatDoor.SR
namespace Go.Proofs.YtdmmciggopmglaaGreatDoor.SR
open Go.RowKit Sg
theorem cb_start{w:World}{i:Ix}{S:Sx}{mo t:Nat}{N A G:List ByteArray}{f:Told}{b:Nat}(r:Raw w i S mo t N A G f b):
 CB (w.alloc (.cells #[.pointer (some ⟨i.c,0,none⟩)] 157)) w.heap.size i/\¬blk i S w.heap.size/\Raw (w.alloc (.cells #[.pointer (some ⟨i.c,0,none⟩)] 157)) i S mo t N A G f b/\Below w.heap.size w (w.alloc (.cells #[.pointer (some ⟨i.c,0,none⟩)] 157)):=by
 have hb:=(Below.refl w.heap.size w).alloc (Nat.le_refl _) (.cells #[.pointer (some ⟨i.c,0,none⟩)] 157);exact⟨heap_alloc_new _ _,λh=>by have:=r.lt h;omega,r.below hb,hb⟩
def mx(t:Nat):Nat:=max t 1
theorem mx_max(t:Nat):((mx t:Nat):Int)=max (t:Int) 1:=by unfold mx;omega
def PromPost(w:World)(i:Ix)(S:Sx)(mo t:Nat)(N A G:List ByteArray)(f:Told)(b:Nat)(key:ByteArray)(e:Ending)(w':World):Prop:=
 RPost (.tuple #[]) w i S mo t ((key::A).drop (mx t)++N) ((key::A).take (mx t)) G (tput f key) (b+1) e w'
structure Side(F:FuncId)(p:Addr)(K:List ByteArray->(Nat->Prop)->World->Prop):Prop where
 enter:∀args w,(callFunc F args).run Tryz.prog w= .ok (.enter F args) w
 lt:∀vs X W,K vs X W->∀k,X k->k < W.heap.size
 same:∀vs X W W',K vs X W->W.heap.size<=W'.heap.size->(∀k,X k->W'.heap[k]?=W.heap[k]?)->K vs X W'
 call:∀vs X W x,K vs X W->vs.length<=100000->x.size<=maxLen->Calls Tryz.prog F #[.string x,.pointer (some p)] W (λe W'=>e= .returned (.tuple #[])/\∃X',K (vs++ [x]) X' W'/\Went W W' X X')
def both(i:Ix)(S:Sx)(X:Nat->Prop):Nat->Prop:=λk=>blk i S k\/X k
structure Duo(w W:World)(i:Ix)(S S':Sx)(X X':Nat->Prop)(cb:Nat):Prop where
 went:Went w W (both i S X) (both i S' X')
 dis:∀k,X' k->¬blk i S' k
 box:CB W cb i
 out:¬both i S' X' cb
theorem Duo.cache{w W W2:World}{i:Ix}{S S' S2:Sx}{X X':Nat->Prop}{cb:Nat}(d:Duo w W i S S' X X' cb)(hx:∀k,X' k->k < W.heap.size)(hW:Went W W2 (blk i S') (blk i S2)):
 Duo w W2 i S S2 X X' cb/\∀k,X' k->W2.heap[k]?=W.heap[k]?:=by
 have o:=λk (hk:X' k)=>went_out hW (hx k hk) (d.dis k hk);have oc:=went_out hW d.box.lt (λh=>d.out (Or.inl h))
 have hw:Went W W2 (both i S' X') (both i S2 X'):=by
  refine⟨λk hk=>?_,hW.turn.wide λk _ h=>Or.inl h⟩;rcases hk with h|h
  . rcases hW.new k h with h|h
    . exact Or.inl (Or.inl h)
    . exact Or.inr h
  . exact Or.inl (Or.inr h)
 exact⟨⟨d.went.trans hw,λk hk=>(o k hk).2,oc.1.trans d.box,λh=>by rcases h with h|h;exact oc.2 h;exact d.out (Or.inr h)⟩,λk hk=>(o k hk).1⟩
theorem Duo.side{w W W2:World}{i:Ix}{S S':Sx}{X X' X2:Nat->Prop}{cb:Nat}(d:Duo w W i S S' X X' cb)(hb:∀k,blk i S' k->k < W.heap.size)(hW:Went W W2 X' X2):
 Duo w W2 i S S' X X2 cb/\∀k,blk i S' k->W2.heap[k]?=W.heap[k]?:=by
 have o:=λk (hk:blk i S' k)=>went_out hW (hb k hk) (λh=>d.dis k h hk);have oc:=went_out hW d.box.lt (λh=>d.out (Or.inr h))
 have hw:Went W W2 (both i S' X') (both i S' X2):=by
  refine⟨λk hk=>?_,hW.turn.wide λk _ h=>Or.inr h⟩;rcases hk with h|h
  . exact Or.inl (Or.inl h)
  . rcases hW.new k h with h|h
    . exact Or.inl (Or.inr h)
    . exact Or.inr h
 exact⟨⟨d.went.trans hw,λk hk h=>(o k h).2 hk,oc.1.trans d.box,λh=>by rcases h with h|h;exact d.out (Or.inl h);exact oc.2 h⟩,λk hk=>(o k hk).1⟩
structure CAt(w W:World)(i:Ix)(S S':Sx)(X X':Nat->Prop)(K:List ByteArray->(Nat->Prop)->World->Prop)(cb mo t:Nat)(N A G:List ByteArray)(f:Told)(b j:Nat):Prop where
 duo:Duo w W i S S' X X' cb
 raw:Raw W i S' mo t (N.take (N.length - j)) (A.take (A.length+N.length - j)) ((A++N).drop (A.length+N.length - j)++G) f b
 side:K ((A++N).reverse.take j) X' W
theorem gone_step{N A:List ByteArray}{j:Nat}(hj:j < A.length+N.length):
 lastKey (A.take (A.length+N.length - j)++N.take (N.length - j))=(A++N).getD (A.length+N.length - (j+1)) ⟨#[]⟩/\anyKey (A.take (A.length+N.length - j)++N.take (N.length - j))=true/\
 (N.take (N.length - j)).dropLast=N.take (N.length - (j+1))/\dA (N.take (N.length - j)) (A.take (A.length+N.length - j))=A.take (A.length+N.length - (j+1)):=by
 have e1:A.take (A.length+N.length - j)++N.take (N.length - j)=(A++N).take (A.length+N.length - (j+1)+1):=by
  rw[List.take_append,show A.length+N.length - (j+1)+1=A.length+N.length - j by omega];congr 2;omega
 have hl:A.length+N.length - (j+1) < (A++N).length:=by rw[List.length_append];omega
 have e2:=take_last hl;refine⟨by rw[e1];exact e2.1,by rw[e1];exact e2.2.1,?_,?_⟩
 . rw[List.dropLast_eq_take,List.take_take,List.length_take];congr 1;omega
 . unfold dA
   by_cases h:N.length<=j
   . rw[if_pos (by rw[show N.length - j=0 by omega];rfl),List.dropLast_eq_take,List.take_take,List.length_take];congr 1;omega
   . rw[if_neg (λh2=>by have:=congrArg List.length h2;rw[List.length_take,List.length_nil] at this;omega)];rw[List.take_of_length_le (by omega),List.take_of_length_le (by omega)]
theorem gone_row{L:List ByteArray}{j:Nat}(hj:j < L.length):L.drop (L.length - (j+1))=L.getD (L.length - (j+1)) ⟨#[]⟩::L.drop (L.length - j)/\L.reverse.take (j+1)=L.reverse.take j++ [L.getD (L.length - (j+1)) ⟨#[]⟩]:=by
 constructor
 . rw[drop_cons (by omega),show L.length - (j+1)+1=L.length - j by omega]
 . have hl:j < L.reverse.length:=by rw[List.length_reverse];exact hj
   rw[take_snoc L.reverse j ⟨#[]⟩ hl,List.getD_eq_getElem?_getD,List.getD_eq_getElem?_getD,List.getElem?_reverse hj,show L.length - 1 - j=L.length - (j+1) by omega]
def CuPost(w:World)(i:Ix)(S:Sx)(X:Nat->Prop)(K:List ByteArray->(Nat->Prop)->World->Prop)(mo t:Nat)(N A G:List ByteArray)(f:Told)(b n:Nat)(e:Ending)(w':World):Prop:=
 e= .returned (.tuple #[])/\∃S' X',Raw w' i S' mo t (N.take (N.length - n)) (A.take (A.length+N.length - n)) (((A++N).drop (A.length+N.length - n)++G).take mo) (tcut f (((A++N).drop (A.length+N.length - n)++G).drop mo)) b/\
  K ((A++N).reverse.take n) X' w'/\Went w w' (both i S X) (both i S' X')/\∀k,X' k->¬blk i S' k
end Go.Proofs.YtdmmciggopmglaaGreatDoor.SR
namespace Go.Proofs.YtdmmciggopmglaaGreatDoor.SR
open Go.RowKit Sg
theorem prom_end{w w3 W w4:World}{i:Ix}{S S3 S4:Sx}{mo t m:Nat}{N A G:List ByteArray}{f:Told}{b:Nat}{key:ByteArray}(h:Went w w3 (blk i S) (blk i S3))(d:Below w3.heap.size w3 W)(k:Went W w4 (blk i S3) (blk i S4))
 (r:Raw w4 i S4 mo t ((key::A).drop (min m (key::A).length)++N) ((key::A).take (min m (key::A).length)) G (tput f key) (b+1)) (hm:m=mx t):PromPost w i S mo t N A G f b key (.returned (.tuple #[])) w4:=by
 subst hm
 have h1:(key::A).take (min (mx t) (key::A).length)=(key::A).take (mx t):=by
  by_cases h:mx t<=(key::A).length
  . rw[Nat.min_eq_left h]
  . rw[Nat.min_eq_right (by omega),List.take_length,List.take_of_length_le (by omega)]
 have h2:(key::A).drop (min (mx t) (key::A).length)=(key::A).drop (mx t):=by
  by_cases h:mx t<=(key::A).length
  . rw[Nat.min_eq_left h]
  . rw[Nat.min_eq_right (by omega),List.drop_length,List.drop_of_length_le (by omega)]
 rw[h1,h2] at r;exact⟨rfl,S4,r,h.trans ((Went.below d).trans k)⟩
set_option maxHeartbeats 1000000 in
theorem promoteY(w:World)(i:Ix)(S:Sx)(mo t:Nat)(N A G:List ByteArray)(f:Told)(b:Nat)(key:ByteArray)(r:Raw w i S mo t N A G f b)(hs:key.size<=maxLen)(hk:key∉A++N)(hd:(A++N).Nodup)(hb:b<=98000)(hl:A.length+N.length+1<=b+1):
 Calls Tryz.prog 275 #[.pointer (some ⟨i.c,0,none⟩),.string key] w (PromPost w i S mo t N A G f b key):=by
 obtain⟨k1,hn,r1,hb1⟩:=cb_start r;have K0:=k1.cell;have clt:=r.clt;obtain⟨_,_,_,_,_,c5⟩:=r1.cells;obtain⟨w2,hst,hO,hg⟩:=r1.o.store hs (by omega);obtain⟨r2,hW2⟩:=r1.onO hO hg (by omega);have o2:=went_out hW2 k1.lt hn;have k2:CB w2 w.heap.size i:=o2.1.trans k1;have K2:=k2.cell;obtain⟨_,_,_,d3,_,_⟩:=r2.cells;have U:=Lib.hid (ls_front_new w2 i.a S.a A (b+1) r2.a key (b+1) (λh=>hk (List.mem_append_left _ h)) hs (by omega) (Nat.le_refl _) (by omega));have R2:=Lib.hid r2;have KK:=Lib.hid k2;have N2:=Lib.hid o2.2;have W2:=Lib.hid ((Went.below hb1).trans hW2:Went w w2 (blk i S) (blk i S));have HD:=Lib.hid (show((key::A)++N).Nodup from by rw[List.cons_append,List.nodup_cons];exact⟨hk,hd⟩);have ht:=r.top;clear r r1 k1 hO hg r2 hW2 o2 k2 hb1 hk hd hn;go_enter Tryz.func275,Tryz.ntmps275;go_wp2_with fail
 refine U.out.mono ?_;intro e w3 hp;obtain⟨rfl,S3,r3,hW3⟩:=R2.out.onA hp (Nat.le_refl _);have o3:=went_out hW3 KK.out.lt N2.out;have k3:CB w3 w.heap.size i:=o3.1.trans KK.out;have K3:=k3.cell;obtain⟨_,e1,_,e3,_,_⟩:=r3.cells;have HW:=Lib.hid (W2.out.trans hW3);have V:=Lib.hid (λ(W:World) (g:Below w3.heap.size w3 W)=>demote_any W w.heap.size i S3 mo t N (key::A) G (tput f key) (b+1) (mx t) (r3.below g) ((g.block _ k3.lt).trans k3) o3.2 HD.out (by omega) (by rw[List.length_cons];omega));obtain⟨m,hm⟩:∃m,m=mx t:=⟨_,rfl⟩;have hmax:(if(t:Int) < 1 then(1:Int) else(t:Int))=(m:Int):=by rw[hm,mx_max];split <;> omega
 have HM:=Lib.hid hm;rw[← hm] at V;clear hm;clear hp r3 hW3 o3 k3 R2 U K0 K2 c5 d3 hst HD W2 KK N2;go_wp2_with fail
 have D0:=Lib.hid (show Below w3.heap.size w3 w3.drew from⟨rfl,rfl,rfl,Nat.le_refl _,λ_ _=>rfl⟩)
 go_region_held3(λw'=>w'.cell? ⟨w.heap.size,0,none⟩=some (.pointer (some ⟨i.c,0,none⟩))/\w'.cell? ⟨i.c,1,none⟩=some (.int .i64 (t:Int))/\w'.cell? ⟨i.c,3,none⟩=some (.pointer (some ⟨i.a,0,none⟩))) (first|(exact⟨Z0,z1,z3⟩)|(exact⟨K3,e1,e3⟩)|go_keep)
  ((go_at_call 277;refine(V.out _ D0.out).mono ?_;rintro e w4 ⟨rfl,S4,r4,hW4,hk4,hn4⟩;have R4:=Lib.hid r4;have W4:=Lib.hid hW4;have Z0:=hk4.cell;obtain⟨_,z1,_,z3,_,_⟩:=r4.cells;clear r4 hW4 hk4 hn4))
 all_goals
  go_wp2_with fail
  go_end0;exact prom_end HW.out D0.out W4.out R4.out HM.out
end Go.Proofs.YtdmmciggopmglaaGreatDoor.SR
namespace Go.Proofs.YtdmmciggopmglaaGreatDoor.SR
open Go.RowKit Sg
section
variable{w W W2:World}{i:Ix}{S S' S2:Sx}{X X':Nat->Prop}{K:List ByteArray->(Nat->Prop)->World->Prop}{cb mo t:Nat}{N A G:List ByteArray}{f:Told}{b j:Nat}{F:FuncId}{p:Addr}{e:Ending}{v:Value}
theorem CAt.below(c:CAt w W i S S' X X' K cb mo t N A G f b j)(sd:Side F p K)(hb:Below W.heap.size W W2):CAt w W2 i S S' X X' K cb mo t N A G f b j:=
 ⟨⟨c.duo.went.trans (Went.below hb),c.duo.dis,(hb.block _ c.duo.box.lt).trans c.duo.box,c.duo.out⟩,c.raw.below hb,sd.same _ _ _ _ c.side hb.size λk hk=>hb.block k (sd.lt _ _ _ c.side k hk)⟩
structure CPo(w W:World)(i:Ix)(S S':Sx)(X X':Nat->Prop)(K:List ByteArray->(Nat->Prop)->World->Prop)(cb mo t:Nat)(N A G:List ByteArray)(f:Told)(b j:Nat):Prop where
 duo:Duo w W i S S' X X' cb
 raw:Raw W i S' mo t (N.take (N.length - (j+1))) (A.take (A.length+N.length - (j+1))) ((A++N).drop (A.length+N.length - j)++G) f b
 side:K ((A++N).reverse.take j) X' W
theorem CAt.pop(c:CAt w W i S S' X X' K cb mo t N A G f b j)(sd:Side F p K)(hj:j < A.length+N.length)
 (hp:RPost v W i S' mo t (N.take (N.length - j)).dropLast (dA (N.take (N.length - j)) (A.take (A.length+N.length - j))) ((A++N).drop (A.length+N.length - j)++G) f b e W2):e= .returned v/\∃S2,CPo w W2 i S S2 X X' K cb mo t N A G f b j:=by
 obtain⟨he,S2,r2,hW⟩:=hp;rw[(gone_step hj).2.2.1,(gone_step hj).2.2.2] at r2;obtain⟨d2,q⟩:=c.duo.cache (sd.lt _ _ _ c.side) hW;exact⟨he,S2,d2,r2,sd.same _ _ _ _ c.side hW.turn.size q⟩
structure CFr(w W:World)(i:Ix)(S S':Sx)(X X':Nat->Prop)(K:List ByteArray->(Nat->Prop)->World->Prop)(cb mo t:Nat)(N A G:List ByteArray)(f:Told)(b j:Nat):Prop where
 duo:Duo w W i S S' X X' cb
 raw:Raw W i S' mo t (N.take (N.length - (j+1))) (A.take (A.length+N.length - (j+1))) ((A++N).drop (A.length+N.length - (j+1))++G) f b
 side:K ((A++N).reverse.take j) X' W
theorem CPo.front(c:CPo w W i S S' X X' K cb mo t N A G f b j)(sd:Side F p K)(hj:j < A.length+N.length)
 (hp:LPost v W i.g S'.g ((A++N).getD (A.length+N.length - (j+1)) ⟨#[]⟩::((A++N).drop (A.length+N.length - j)++G)) b e W2):e= .returned v/\∃S2,CFr w W2 i S S2 X X' K cb mo t N A G f b j:=by
 obtain⟨he,S2,r2,hW⟩:=c.raw.onG hp (Nat.le_refl _);obtain⟨d2,q⟩:=c.duo.cache (sd.lt _ _ _ c.side) hW;have hg:=gone_row (L:=A++N) (j:=j) (by rw[List.length_append];exact hj);rw[List.length_append] at hg;rw[← List.cons_append,<-hg.1] at r2;exact⟨he,S2,d2,r2,sd.same _ _ _ _ c.side hW.turn.size q⟩
theorem CFr.take(c:CFr w W i S S' X X' K cb mo t N A G f b j)(hj:j < A.length+N.length){X2:Nat->Prop}(hk:K ((A++N).reverse.take j++ [(A++N).getD (A.length+N.length - (j+1)) ⟨#[]⟩]) X2 W2)(hW:Went W W2 X' X2):
 CAt w W2 i S S' X X2 K cb mo t N A G f b (j+1):=by
 obtain⟨d2,q⟩:=c.duo.side (λk hk=>c.raw.lt hk) hW;have hg:=gone_row (L:=A++N) (j:=j) (by rw[List.length_append];exact hj);rw[List.length_append] at hg;rw[← hg.2] at hk;exact⟨d2,c.raw.kept hW.turn.size q,hk⟩
end
theorem GRel.post{w W W4:World}{i:Ix}{S S':Sx}{X X':Nat->Prop}{K:List ByteArray->(Nat->Prop)->World->Prop}{cb mo t:Nat}{N A G:List ByteArray}{f:Told}{b j:Nat}{F:FuncId}{p:Addr}(c:CAt w W i S S' X X' K cb mo t N A G f b j)(sd:Side F p K)
 (g:GRel W cb i S' mo t (N.take (N.length - j)) (A.take (A.length+N.length - j)) ((A++N).drop (A.length+N.length - j)++G) f b (min mo ((A++N).drop (A.length+N.length - j)++G).length) W4):CuPost w i S X K mo t N A G f b j (.returned (.tuple #[])) W4:=by
 obtain⟨S4,r4,hW,_,_⟩:=g;obtain⟨d4,q⟩:=c.duo.cache (sd.lt _ _ _ c.side) hW;unfold CuPost;generalize(A++N).drop (A.length+N.length - j)++G=Q at*
 have h1:Q.take (min mo Q.length)=Q.take mo:=by
  by_cases h:mo<=Q.length
  . rw[Nat.min_eq_left h]
  . rw[Nat.min_eq_right (by omega),List.take_length,List.take_of_length_le (by omega)]
 have h2:Q.drop (min mo Q.length)=Q.drop mo:=by
  by_cases h:mo<=Q.length
  . rw[Nat.min_eq_left h]
  . rw[Nat.min_eq_right (by omega),List.drop_length,List.drop_of_length_le (by omega)]
 rw[h1,h2] at r4;exact⟨rfl,S4,X',r4,sd.same _ _ _ _ c.side hW.turn.size q,d4.went,d4.dis⟩
def CRel(w:World)(i:Ix)(S:Sx)(X:Nat->Prop)(K:List ByteArray->(Nat->Prop)->World->Prop)(cb mo t:Nat)(N A G:List ByteArray)(f:Told)(b n k:Nat)(W:World):Prop:=
 ∃S' X' j,j+k=n/\CAt w W i S S' X X' K cb mo t N A G f b j
set_option maxHeartbeats 2000000 in
theorem cutTo_any(w:World)(i:Ix)(S:Sx)(mo t:Nat)(N A G:List ByteArray)(f:Told)(b left:Nat)(X:Nat->Prop)(K:List ByteArray->(Nat->Prop)->World->Prop)(F:FuncId)(p:Addr)(r:Raw w i S mo t N A G f b)(k:K [] X w)(hdis:∀k,X k->¬blk i S k)(sd:Side F p K)
 (nd:(A++N++G).Nodup) (hl:A.length+N.length+G.length<=b) (hb:b<=99000):
 Calls Tryz.prog 271 #[.pointer (some ⟨i.c,0,none⟩),.int .i64 (left:Int),.func (.func F) #[] #[.pointer (some p)]] w (CuPost w i S X K mo t N A G f b (A.length+N.length - left)):=by
 obtain⟨k1,hn,r1,hb1⟩:=cb_start r
 have C0:CAt w (w.alloc (.cells #[.pointer (some ⟨i.c,0,none⟩)] 157)) i S S X X K w.heap.size mo t N A G f b 0:=by
  refine⟨⟨Went.below hb1,hdis,k1,λh=>?_⟩,?_,?_⟩
  . rcases h with h|h
    . exact hn h
    . have:=sd.lt _ _ _ k _ h;omega
  . rw[Nat.sub_zero,Nat.sub_zero,List.take_length,List.take_of_length_le (by omega),List.drop_of_length_le (by rw[List.length_append];omega),List.nil_append];exact r1
  . exact sd.same _ _ _ _ k hb1.size λk' hk=>hb1.block k' (sd.lt _ _ _ k k' hk)
 have HC:=Lib.hid C0;have SD:=Lib.hid sd;have hF:=sd.enter
 have hsm:=Lib.hid (show ∀x∈A++N,x.size<=maxLen from λx hx=>by
  rcases List.mem_append.1 hx with h|h
  . exact r.a.small _ h
  . exact r.n.small _ h)
 have ND:=Lib.hid nd;clear r k hdis sd k1 hn r1 hb1 C0 nd;go_enter Tryz.func271,Tryz.ntmps271;go_wp2_with fail
 obtain⟨cb,hcb⟩:∃cb,cb=w.heap.size:=⟨_,rfl⟩;rw[← hcb] at HC|-;clear hcb;go_loopg [] (A.length+N.length - left) (λk W=>CRel w i S X K cb mo t N A G f b (A.length+N.length - left) k W)
 case atStart=>exact⟨S,X,0,by omega,HC.out⟩
 case round=>
  obtain⟨S',X',j,hj,C⟩:=hrel;have K0:=C.duo.box.cell;have U:=lenY wr i S' mo t _ _ _ f b C.raw;rw[List.length_take,List.length_take] at U;obtain⟨q,hq⟩:∃q,q=min (N.length - j) N.length+min (A.length+N.length - j) A.length:=⟨_,rfl⟩;rw[← hq] at U;have U:=Lib.hid U;have CC:=Lib.hid C;have HQ:=Lib.hid hq;have HJ:=Lib.hid hj;cases gk with
  |zero=>
   have e0:decide (left < q)=false:=by simp;omega
   clear C HC hq hj;go_wp2_with fail
   refine U.out.mono ?_;rintro e w1 ⟨rfl,m,hm⟩;have C1:=Lib.hid (show CAt w w1 i S S' X X' K cb mo t N A G f b j from hm▸CC.out.below SD.out (below_drewN wr m));have K1:=C1.out.duo.box.cell;clear hm CC U K0;obtain rfl:j=A.length+N.length - left:=HJ.out;obtain⟨c0,_,_,_,c4,_⟩:=C1.out.raw.cells;obtain⟨d,hd⟩:∃d,d=A.length+N.length - left:=⟨_,rfl⟩;rw[← hd] at C1;have HD:=Lib.hid hd;clear hd HJ HQ;have V:=Lib.hid (λ(W:World) (g:Below w1.heap.size w1 W)=>forget_any W cb i S' mo t _ _ _ f b mo (C1.out.below SD.out g).raw (C1.out.below SD.out g).duo.box (λh=>C1.out.duo.out (Or.inl h)));go_wp2_with fail
   have D0:=Lib.hid (show Below w1.heap.size w1 w1.drew from⟨rfl,rfl,rfl,Nat.le_refl _,λ_ _=>rfl⟩)
   go_region_held3(λw'=>w'.cell? ⟨cb,0,none⟩=some (.pointer (some ⟨i.c,0,none⟩))/\w'.cell? ⟨i.c,0,none⟩=some (.int .i64 (mo:Int))/\w'.cell? ⟨i.c,4,none⟩=some (.pointer (some ⟨i.g,0,none⟩))) (first|(exact⟨Z0,z1,z4⟩)|(exact⟨K1,c0,c4⟩)|go_keep)
    ((go_at_call 277;refine(V.out _ D0.out).mono ?_;rintro e w4 ⟨rfl,hg⟩;have P4:=Lib.hid (GRel.post (C1.out.below SD.out D0.out) SD.out hg);obtain⟨S4,r4,_,hk4,_⟩:=hg;have Z0:=hk4.cell;obtain⟨z1,_,_,_,z4,_⟩:=r4.cells;clear r4 hk4))
   all_goals
    go_wp2_with fail
    go_end0;rw[← HD.out];exact P4.out
  |succ gk=>
   have e0:decide (left < q)=true:=by simp;omega
   have hjl:j < A.length+N.length:=by omega
   clear C HC hq hj;go_wp2_with fail
   refine U.out.mono ?_;rintro e w1 ⟨rfl,m,hm⟩;have C1:=Lib.hid (show CAt w w1 i S S' X X' K cb mo t N A G f b j from hm▸CC.out.below SD.out (below_drewN wr m));have K1:=C1.out.duo.box.cell;clear hm CC U K0;have U1:=Lib.hid (leavingY w1 i S' mo t _ _ _ f b C1.out.raw);have U2:=popY w1 i S' mo t _ _ _ f b C1.out.raw;rw[(gone_step hjl).1,(gone_step hjl).2.1] at U2;have hx:(A++N).getD (A.length+N.length - (j+1)) ⟨#[]⟩∈A++N:=getD_in (by rw[List.length_append];omega);have hxs:=hsm.out _ hx;obtain⟨x,hxe⟩:∃x,x=(A++N).getD (A.length+N.length - (j+1)) ⟨#[]⟩:=⟨_,rfl⟩;rw[← hxe] at U2 hx hxs;have HX:=Lib.hid hxe;generalize(if N.take (N.length - j)= [] then i.a else i.n)=l at U1 U2;have U2:=Lib.hid U2;clear hxe hx;go_wp2_with fail
   refine U1.out.mono ?_;rintro e w1 ⟨rfl,rfl⟩;go_wp2_with fail
   refine U2.out.mono ?_;intro e w2 hp;obtain⟨rfl,S2,C2⟩:=C1.out.pop SD.out hjl hp;have P2:=Lib.hid C2;have K2:=C2.duo.box.cell;obtain⟨_,_,_,_,c4,_⟩:=C2.raw.cells
   have hng:x∉(A++N).drop (A.length+N.length - j)++G:=by
    have hg:=(gone_row (L:=A++N) (j:=j) (by rw[List.length_append];exact hjl)).1;rw[List.length_append] at hg;have h1:((A++N).drop (A.length+N.length - (j+1))++G).Nodup:=ND.out.sublist ((List.drop_sublist _ _).append_right G);rw[hg,List.cons_append] at h1;rw[HX.out];exact(List.nodup_cons.1 h1).1
   have V:=Lib.hid (ls_front_new w2 i.g S2.g _ b C2.raw.g x b hng hxs hb (Nat.le_refl _) (by rw[List.length_append,List.length_drop,List.length_append];omega));clear hp C2 hng U1 U2 C1 K1;go_wp2_with fail
   refine V.out.mono ?_;intro e w3 hp;rw[HX.out] at hp;obtain⟨rfl,S3,C3⟩:=P2.out.front SD.out hjl hp;have P3:=Lib.hid C3;have K3:=C3.duo.box.cell;have Z:=Lib.hid (SD.out.call _ _ _ x C3.side (by rw[List.length_take,List.length_reverse,List.length_append];omega) hxs);clear hp C3 V P2 K2 c4;go_wp2_with fail
   refine Z.out.mono ?_;rintro e w4 ⟨rfl,X4,hk,hW⟩;rw[HX.out] at hk;have P4:=Lib.hid (P3.out.take hjl hk hW);clear hk hW Z;go_wp2_with fail
   go_roundg gk
   case measure=>omega
   case rel=>exact⟨S3,X4,j+1,by have:=HJ.out;omega,P4.out⟩
end Go.Proofs.YtdmmciggopmglaaGreatDoor.SR
namespace Go.Proofs.YtdmmciggopmglaaGreatDoor.SR
open Go.RowKit Sg
def Box(w:World)(sb:Nat)(h:Bool)(s:ByteArray)(o:Bool):Prop:=w.heap[sb]?=some (.cells #[.bool h,.string s,.bool o] 41 (0,0))
section
variable{w:World}{sb:Nat}{h o:Bool}{s:ByteArray}
theorem Box.set(k:Box w sb h s o)(x:ByteArray):Box ((w.setCell ⟨sb,1,none⟩ (.string x)).setCell ⟨sb,2,none⟩ (.bool true)) sb h x true:=by
 unfold Box at*;have r1:(w.setCell ⟨sb,1,none⟩ (.string x)).heap[sb]?=some (.cells #[.bool h,.string x,.bool o] 41 (0,0)):=by rw[heap_setCell_same _ _ _ _ _ _ k];rfl
 rw[heap_setCell_same _ _ _ _ _ _ r1];rfl
theorem Box.cells(k:Box w sb h s o):w.cell? ⟨sb,0,none⟩=some (.bool h)/\w.cell? ⟨sb,1,none⟩=some (.string s)/\w.cell? ⟨sb,2,none⟩=some (.bool o)/\w.frozen? ⟨sb,1,none⟩=false/\w.frozen? ⟨sb,2,none⟩=false:=
 ⟨cell_of_row w _ 0 _ _ _ k,cell_of_row w _ 1 _ _ _ k,cell_of_row w _ 2 _ _ _ k,frozen_of_row w _ 1 _ _ k,frozen_of_row w _ 2 _ _ k⟩
theorem Box.lt(k:Box w sb h s o):sb < w.heap.size:=(Array.getElem?_eq_some_iff.1 k).1
theorem load_step(k:Box w sb h s o):(loadVar 41 ⟨sb,0,none⟩).run Tryz.prog w= .ok (.agg #[.bool h,.string s,.bool o]) w:=by
 obtain⟨k0,k1,k2,_,_⟩:=k.cells;unfold loadVar;go_simp
theorem Box.put(k:Box w sb h s o)(h' o':Bool)(s':ByteArray):Box (((w.setCell ⟨sb,0,none⟩ (.bool h')).setCell ⟨sb,1,none⟩ (.string s')).setCell ⟨sb,2,none⟩ (.bool o')) sb h' s' o':=by
 unfold Box at*;have r1:(w.setCell ⟨sb,0,none⟩ (.bool h')).heap[sb]?=some (.cells #[.bool h',.string s,.bool o] 41 (0,0)):=by rw[heap_setCell_same _ _ _ _ _ _ k];rfl
 have r2:((w.setCell ⟨sb,0,none⟩ (.bool h')).setCell ⟨sb,1,none⟩ (.string s')).heap[sb]?=some (.cells #[.bool h',.string s',.bool o] 41 (0,0)):=by rw[heap_setCell_same _ _ _ _ _ _ r1];rfl
 rw[heap_setCell_same _ _ _ _ _ _ r2];rfl
end
theorem results_c{fn:Func}{a:Tmp}{ty:TypeId}(h:fn.results= #[.cell a ty])(tmps:Array Value)(P:Program)(w:World)(p:Addr)(v:Value)(ha:tmps.getD a undef= .pointer (some p))(hv:(loadVar ty p).run P w= .ok v w):
 (results fn tmps).run P w= .ok v w:=by
 rw[Array.getD_eq_getD_getElem?] at ha;simp[results,h,ha,asAddr,hv]
def vicOf(vs:List ByteArray):ByteArray:=if vs= [] then⟨#[]⟩ else lastKey vs
def KQ(sb:Nat)(h:Bool)(vs:List ByteArray)(X:Nat->Prop)(W:World):Prop:=X=(λk=>k=sb)/\Box W sb h (vicOf vs) (!vs.isEmpty)
theorem cloQ(w:World)(sb:Nat)(h o:Bool)(s x:ByteArray)(k:Box w sb h s o):
 Calls Tryz.prog 272 #[.string x,.pointer (some ⟨sb,0,none⟩)] w (λe w'=>e= .returned (.tuple #[])/\Box w' sb h x true/\Turn (λk=>k=sb) w w'):=by
 obtain⟨k0,k1,k2,f1,f2⟩:=k.cells;have R:=Lib.hid (k.set x);clear k;go_enter Tryz.func272,Tryz.ntmps272;go_wp2_with fail
 go_end0;exact⟨rfl,R.out,((Turn.refl (λk=>k=sb) w).setCell (p:=⟨sb,1,none⟩) (Or.inl rfl) _).setCell (p:=⟨sb,2,none⟩) (Or.inl rfl) _⟩
theorem sideQ(sb:Nat)(h:Bool):Side 272 ⟨sb,0,none⟩ (KQ sb h) where
 enter:=λargs w=>by kernel_rfl
 lt:=by rintro vs X W ⟨rfl,hB⟩ k rfl;exact hB.lt
 same:=by rintro vs X W W' ⟨rfl,hB⟩ _ hk;exact⟨rfl,(hk sb rfl).trans hB⟩
 call:=by
  rintro vs X W x ⟨rfl,hB⟩ _ _;refine(cloQ W sb h _ _ x hB).mono ?_;rintro e W' ⟨he,hB',hT⟩;refine⟨he,_,⟨rfl,?_⟩,Went.same hT⟩;rw[show vicOf (vs++ [x])=x by unfold vicOf;rw[if_neg (by simp)];simp[lastKey],show(!(vs++ [x]).isEmpty)=true by simp];exact hB'
def RoomPost(w:World)(i:Ix)(S:Sx)(sb mo t:Nat)(N1 A1 G1:List ByteArray)(f1:Told)(b:Nat)(h:Bool)(x:ByteArray)(o:Bool)(e:Ending)(w':World):Prop:=
 e= .returned (.tuple #[])/\∃S',Raw w' i S' mo t N1 A1 G1 f1 b/\
  Box w' sb h x o/\Went w w' (both i S λk=>k=sb) (both i S' λk=>k=sb)/\¬blk i S' sb
set_option maxHeartbeats 1000000 in
theorem roomY(w:World)(i:Ix)(S:Sx)(cb sb mo m t:Nat)(N A G:List ByteArray)(f:Told)(b:Nat)(h:Bool)(r:Raw w i S mo t N A G f b)(k:CB w cb i)(hB:Box w sb h ⟨#[]⟩ false)(hs:¬blk i S sb)(hm:mo=m+1)(hne:cb≠sb)(hc:¬blk i S cb)
 (nd:(A++N++G).Nodup) (hl:A.length+N.length+G.length<=b) (hb:b<=99000):
 Calls Tryz.prog 270 #[.pointer (some ⟨cb,0,none⟩),.pointer (some ⟨sb,0,none⟩)] w (RoomPost w i S sb mo t (N.take (N.length - (A.length+N.length - m))) (A.take (A.length+N.length - (A.length+N.length - m))) (((A++N).drop (A.length+N.length - (A.length+N.length - m))++G).take mo) (tcut f (((A++N).drop (A.length+N.length - (A.length+N.length - m))++G).drop mo)) b h (vicOf ((A++N).reverse.take (A.length+N.length - m))) (!((A++N).reverse.take (A.length+N.length - m)).isEmpty)):=by
 have K0:=k.cell;obtain⟨c0,_⟩:=r.cells;have D0:=Lib.hid (show Below w.heap.size w w.drew from⟨rfl,rfl,rfl,Nat.le_refl _,λ_ _=>rfl⟩);have U:=Lib.hid (cutTo_any w.drew i S mo t N A G f b m (λk=>k=sb) (KQ sb h) 272 ⟨sb,0,none⟩ (r.below D0.out) ⟨rfl,(D0.out.block _ hB.lt).trans hB⟩ (by rintro k rfl;exact hs) (sideQ sb h) nd hl hb);have ht:=r.top.1;have HW:IntKind.i64.wrap ((mo:Int) - 1)=(m:Int):=by rw[IntWalk.i64_in _ (by omega)];omega
 have HK:=Lib.hid k;have HN:=Lib.hid (show ¬both i S (λk=>k=sb) cb from λh=>by rcases h with h|h;exact hc h;exact hne h);clear r k hB nd hm hs hc hne;go_enter Tryz.func270,Tryz.ntmps270;go_wp2_with fail
 go_region_held3(λw'=>w'.cell? ⟨cb,0,none⟩=some (.pointer (some ⟨i.c,0,none⟩))/\w'.cell? ⟨i.c,0,none⟩=some (.int .i64 (mo:Int))) (first|(exact⟨Z0,z1⟩)|(exact⟨K0,c0⟩)|go_keep)
  ((go_at_call 271;refine U.out.mono ?_;rintro e w4 ⟨rfl,S4,X4,r4,⟨rfl,hB4⟩,hW,hd⟩;obtain⟨z1,_⟩:=r4.cells;have Z0:=CB.cell (i:=i) ((went_out hW HK.out.lt HN.out).1.trans HK.out);have P4:=Lib.hid (show RoomPost w i S sb mo t (N.take (N.length - (A.length+N.length - m))) (A.take (A.length+N.length - (A.length+N.length - m))) (((A++N).drop (A.length+N.length - (A.length+N.length - m))++G).take mo) (tcut f (((A++N).drop (A.length+N.length - (A.length+N.length - m))++G).drop mo)) b h (vicOf ((A++N).reverse.take (A.length+N.length - m))) (!((A++N).reverse.take (A.length+N.length - m)).isEmpty) (.returned (.tuple #[])) w4 from⟨rfl,S4,r4,hB4,(Went.below D0.out).trans hW,hd sb rfl⟩);clear r4 hB4 hW hd))
 all_goals
  go_wp2_with fail
  go_end0;exact P4.out
structure Mid(w W:World)(i:Ix)(S S':Sx)(mo t:Nat)(N A G:List ByteArray)(f:Told)(b:Nat)(h:Bool)(s:ByteArray)(o:Bool):Prop where
 raw:Raw W i S' mo t N A G f b
 cb:CB W w.heap.size i
 res:Box W (w.heap.size+1) false ⟨#[]⟩ false
 step:Box W (w.heap.size+1+1) h s o
 went:Went w W (blk i S) (blk i S')
 n0:¬blk i S' w.heap.size
 n1:¬blk i S' (w.heap.size+1)
 n2:¬blk i S' (w.heap.size+1+1)
section
variable{w W W':World}{i:Ix}{S S' S2:Sx}{mo t mo' t':Nat}{N A G N' A' G':List ByteArray}{f f':Told}{b b':Nat}{h o:Bool}{s:ByteArray}{e:Ending}{v:Value}
abbrev pObj(i:Ix):Obj:= .cells #[.pointer (some ⟨i.c,0,none⟩)] 157
abbrev sObj(h:Bool)(s:ByteArray)(o:Bool):Obj:= .cells #[.bool h,.string s,.bool o] 41
theorem Mid.start(r:Raw w i S mo t N A G f b)(h:Bool):Mid w (((w.alloc (pObj i)).alloc (sObj false ⟨#[]⟩ false)).alloc (sObj h ⟨#[]⟩ false)) i S S mo t N A G f b h ⟨#[]⟩ false:=by
 have s1:(w.alloc (pObj i)).heap.size=w.heap.size+1:=by simp
 have s2:((w.alloc (pObj i)).alloc (sObj false ⟨#[]⟩ false)).heap.size=w.heap.size+1+1:=by simp
 have b1:=(Below.refl w.heap.size w).alloc (Nat.le_refl _) (pObj i);have b2:=b1.alloc (by rw[s1];omega) (sObj false ⟨#[]⟩ false);have b3:=b2.alloc (by rw[s2];omega) (sObj h ⟨#[]⟩ false);have q2:=heap_alloc_new (w.alloc (pObj i)) (sObj false ⟨#[]⟩ false);rw[s1] at q2;have q3:=heap_alloc_new ((w.alloc (pObj i)).alloc (sObj false ⟨#[]⟩ false)) (sObj h ⟨#[]⟩ false);rw[s2] at q3
 exact⟨r.below b3,(Below.heap_alloc _ _ _ (by rw[s2];omega)).trans ((Below.heap_alloc _ _ _ (by rw[s1];omega)).trans (heap_alloc_new _ _)),(Below.heap_alloc _ _ _ (by rw[s2];omega)).trans q2,q3,Went.below b3,
  λhk=>by have:=r.lt hk;omega,λhk=>by have:=r.lt hk;omega,λhk=>by have:=r.lt hk;omega⟩
theorem Mid.below(m:Mid w W i S S' mo t N A G f b h s o)(hb:Below W.heap.size W W'):Mid w W' i S S' mo t N A G f b h s o:=
 ⟨m.raw.below hb,(hb.block _ m.cb.lt).trans m.cb,(hb.block _ m.res.lt).trans m.res,(hb.block _ m.step.lt).trans m.step,m.went.trans (Went.below hb),m.n0,m.n1,m.n2⟩
theorem Mid.op(m:Mid w W i S S' mo t N A G f b h s o)(hp:RPost v W i S' mo' t' N' A' G' f' b' e W'):e= .returned v/\∃S2,Mid w W' i S S2 mo' t' N' A' G' f' b' h s o:=by
 obtain⟨he,S2,r2,hW⟩:=hp;have o0:=went_out hW m.cb.lt m.n0;have o1:=went_out hW m.res.lt m.n1;have o2:=went_out hW m.step.lt m.n2;exact⟨he,S2,r2,o0.1.trans m.cb,o1.1.trans m.res,o2.1.trans m.step,m.went.trans hW,o0.2,o1.2,o2.2⟩
theorem Mid.room{N1 A1 G1:List ByteArray}{f1:Told}{x:ByteArray}{q:Bool}(m:Mid w W i S S' mo t N A G f b h ⟨#[]⟩ false)(hp:RoomPost W i S' (w.heap.size+1+1) mo t N1 A1 G1 f1 b h x q e W'):e= .returned (.tuple #[])/\∃S2,Mid w W' i S S2 mo t N1 A1 G1 f1 b h x q:=by
 obtain⟨he,S2,r2,hB,hW,hn⟩:=hp;have hs:=m.went.turn.size;have o0:=went_out hW m.cb.lt (λh=>by rcases h with h|h;exact m.n0 h;omega);have o1:=went_out hW m.res.lt (λh=>by rcases h with h|h;exact m.n1 h;omega);refine⟨he,S2,r2,o0.1.trans m.cb,o1.1.trans m.res,hB,⟨λk hk=>?_,m.went.turn.trans hW.turn λk hk hS=>?_⟩,λh=>o0.2 (Or.inl h),λh=>o1.2 (Or.inl h),hn⟩
 . rcases hW.new k (Or.inl hk) with h|h
   . rcases h with h|h
     . exact m.went.new k h
     . exact Or.inr (by omega)
   . exact Or.inr (by omega)
 . rcases hS with h|h
   . rcases m.went.new k h with h|h
     . exact h
     . omega
   . omega
theorem Mid.out(m:Mid w W i S S' mo t N A G f b h s o):
 Box (((W.setCell ⟨w.heap.size+1,0,none⟩ (.bool h)).setCell ⟨w.heap.size+1,1,none⟩ (.string s)).setCell ⟨w.heap.size+1,2,none⟩ (.bool o)) (w.heap.size+1) h s o/\
 RPost (.agg #[.bool h,.string s,.bool o]) w i S mo t N A G f b (.returned (.agg #[.bool h,.string s,.bool o])) (((W.setCell ⟨w.heap.size+1,0,none⟩ (.bool h)).setCell ⟨w.heap.size+1,1,none⟩ (.string s)).setCell ⟨w.heap.size+1,2,none⟩ (.bool o)):=by
 refine⟨m.res.put h o s,rfl,S',m.raw.kept (by simp[World.setCell]) (λk hk=>?_),m.went.new,((m.went.turn.setCell (p:=⟨w.heap.size+1,0,none⟩) (Or.inr (Nat.le_succ _)) _).setCell (p:=⟨w.heap.size+1,1,none⟩) (Or.inr (Nat.le_succ _)) _).setCell (p:=⟨w.heap.size+1,2,none⟩) (Or.inr (Nat.le_succ _)) _⟩;have hne:k≠w.heap.size+1:=λe=>m.n1 (e▸hk);rw[Below.heap_setCell _ _ _ _ hne,Below.heap_setCell _ _ _ _ hne,Below.heap_setCell _ _ _ _ hne]
theorem Mid.six(m:Mid w W i S S' mo t N A G f b h s o):(W.cell? ⟨w.heap.size+1+1,0,none⟩=some (.bool h)/\W.cell? ⟨w.heap.size+1+1,1,none⟩=some (.string s)/\W.cell? ⟨w.heap.size+1+1,2,none⟩=some (.bool o))/\
 (W.cell? ⟨w.heap.size+1,0,none⟩=some (.bool false)/\W.cell? ⟨w.heap.size+1,1,none⟩=some (.string ⟨#[]⟩)/\W.cell? ⟨w.heap.size+1,2,none⟩=some (.bool false))/\W.frozen? ⟨w.heap.size+1,0,none⟩=false/\W.frozen? ⟨w.heap.size+1,1,none⟩=false/\W.frozen? ⟨w.heap.size+1,2,none⟩=false:=
 ⟨⟨m.step.cells.1,m.step.cells.2.1,m.step.cells.2.2.1⟩,⟨m.res.cells.1,m.res.cells.2.1,m.res.cells.2.2.1⟩,frozen_of_row W _ 0 _ _ m.res,frozen_of_row W _ 1 _ _ m.res,frozen_of_row W _ 2 _ _ m.res⟩
end
end Go.Proofs.YtdmmciggopmglaaGreatDoor.SR
namespace Go.Proofs.YtdmmciggopmglaaGreatDoor.SR
open Go.RowKit Sg
def upT(mo t:Nat):Nat:=if t < mo then t+1 else t
def dnT(t:Nat):Nat:=if 1 < t then t - 1 else t
section
variable(w:World)(i:Ix)(S:Sx)(mo t:Nat)(N A G:List ByteArray)(f:Told)(b:Nat)(key:ByteArray)(r:Raw w i S mo t N A G f b)(hs:key.size<=maxLen)(hb:b<=98000)
include r
theorem raise_any:Calls Tryz.prog 274 #[.pointer (some ⟨i.c,0,none⟩)] w (RPost (.tuple #[]) w i S mo (upT mo t) N A G f b):=by
 unfold upT
 by_cases h:t < mo
 . rw[if_pos h];exact raiseY w i S mo t N A G f b r h
 . rw[if_neg h];exact raiseY_no w i S mo t N A G f b r h
theorem lower_any:Calls Tryz.prog 268 #[.pointer (some ⟨i.c,0,none⟩)] w (RPost (.tuple #[]) w i S mo (dnT t) N A G f b):=by
 unfold dnT
 by_cases h:1 < t
 . rw[if_pos h];exact lowerY w i S mo t N A G f b r h
 . rw[if_neg h];exact lowerY_no w i S mo t N A G f b r h
include hs
theorem has_mid(h:Bool)(hh:(inn N key||inn A key)=h):Calls Tryz.prog 261 #[.pointer (some ⟨i.c,0,none⟩),.string key] ((w.alloc (pObj i)).alloc (sObj false ⟨#[]⟩ false)) (BoolPost h ((w.alloc (pObj i)).alloc (sObj false ⟨#[]⟩ false))):=by
 have b2:=((Below.refl w.heap.size w).alloc (Nat.le_refl _) (pObj i)).alloc (by simp) (sObj false ⟨#[]⟩ false);have:=hasY _ i S mo t N A G f b (r.below b2) key hs;rw[hh] at this;exact this
theorem req_zero(hm:mo=0)(h1:inn N key=false)(h2:inn A key=false):
 Calls Tryz.prog 265 #[.pointer (some ⟨i.c,0,none⟩),.string key] w (RPost (.agg #[.bool false,.string ⟨#[]⟩,.bool false]) w i S mo t N A G f b):=by
 have U:=Lib.hid (has_mid w i S mo t N A G f b key r hs false (by rw[h1,h2];rfl));have M0:=Lib.hid (Mid.start r false);have e9:((mo:Int)==0)=true:=by rw[hm];rfl
 clear r hm h1 h2;go_enter Tryz.func265,Tryz.ntmps265;go_wp2_with fail
 refine U.out.mono ?_;rintro e w1 ⟨rfl,rfl⟩;go_upto_region 2 with fail
 generalize((w.alloc (pObj i)).alloc (sObj false ⟨#[]⟩ false)).alloc (sObj false ⟨#[]⟩ false)=W0 at M0|-;have K0:=M0.out.cb.cell;obtain⟨c0,c1,c2,c3,c4,c5⟩:=M0.out.raw.cells;have F:=Lib.hid M0.out.out;obtain⟨⟨s0,s1,s2⟩,⟨r0,r1,r2⟩,g0,g1,g2⟩:=M0.out.six;clear M0;go_wp2_with fail
 refine bodyPost_ret (results_c rfl _ _ _ ⟨w.heap.size+1,0,none⟩ _ rfl (load_step F.out.1)) rfl ?_;exact F.out.2
include hb
theorem req_A(hm:mo≠0)(h1:inn N key=false)(h2:inn A key=true)(hl:A.length<=b):
 Calls Tryz.prog 265 #[.pointer (some ⟨i.c,0,none⟩),.string key] w (RPost (.agg #[.bool true,.string ⟨#[]⟩,.bool false]) w i S mo t N (key::rem A key) G f (b+1)):=by
 have U:=Lib.hid (has_mid w i S mo t N A G f b key r hs true (by rw[h1,h2];rfl));have M0:=Lib.hid (Mid.start r true);have e9:((mo:Int)==0)=false:=by simp;omega
 have e8:(mo==0)=false:=by simp;omega
 have V:=ls_has _ i.a S.a A b M0.out.raw.a key hs;rw[h2] at V;have V:=Lib.hid V;have Z:=Lib.hid (ls_front _ i.a S.a A b M0.out.raw.a key (b+1) hs (by omega) (by omega) (by have:=rem_le A key;omega));clear r hm h1 h2;go_enter Tryz.func265,Tryz.ntmps265;go_wp2_with fail
 refine U.out.mono ?_;rintro e w1 ⟨rfl,rfl⟩;go_upto_region 2 with fail
 generalize((w.alloc (pObj i)).alloc (sObj false ⟨#[]⟩ false)).alloc (sObj true ⟨#[]⟩ false)=W0 at M0 V Z|-;have K0:=M0.out.cb.cell;obtain⟨c0,c1,c2,c3,c4,c5⟩:=M0.out.raw.cells;go_wp2_with fail
 refine V.out.mono ?_;rintro e w1 ⟨rfl,rfl⟩;go_wp2_with fail
 refine Z.out.mono ?_;intro e W1 hp;obtain⟨rfl,S1,m1⟩:=M0.out.op (M0.out.raw.onA hp (by omega));have M1:=Lib.hid m1;clear hp m1 M0 V Z K0 c0 c1 c2 c3 c4 c5;have F:=Lib.hid M1.out.out;obtain⟨⟨s0,s1,s2⟩,⟨r0,r1,r2⟩,g0,g1,g2⟩:=M1.out.six;clear M1;go_wp2_with fail
 refine bodyPost_ret (results_c rfl _ _ _ ⟨w.heap.size+1,0,none⟩ _ rfl (load_step F.out.1)) rfl ?_;exact F.out.2
theorem req_No(hm:mo≠0)(h1:inn N key=true)(h2:inn A key=false)(hf:f key=true)(nd:(A++N).Nodup)(hl:A.length+N.length<=b):
 Calls Tryz.prog 265 #[.pointer (some ⟨i.c,0,none⟩),.string key] w (RPost (.agg #[.bool true,.string ⟨#[]⟩,.bool false]) w i S mo (upT mo t) ((key::A).drop (mx (upT mo t))++rem N key) ((key::A).take (mx (upT mo t))) G (tput f key) (b+1)):=by
 have U:=Lib.hid (has_mid w i S mo t N A G f b key r hs true (by rw[h1,h2];rfl));have M0:=Lib.hid (Mid.start r true);have e9:((mo:Int)==0)=false:=by simp;omega
 have e8:(mo==0)=false:=by simp;omega
 have V:=ls_has _ i.a S.a A b M0.out.raw.a key hs;rw[h2] at V;have V:=Lib.hid V;have V2:=ls_has _ i.n S.n N b M0.out.raw.n key hs;rw[h1] at V2;have V2:=Lib.hid V2;have V3:=isOldY _ i S mo t N A G f b M0.out.raw key hs;rw[hf] at V3;have V3:=Lib.hid V3
 have HNO:=Lib.hid (show key∉A++rem N key from λh=>by
  rcases List.mem_append.1 h with h|h
  . exact inn_no.1 h2 h
  . exact rem_not h)
 have ND:=Lib.hid (show(A++rem N key).Nodup from nd.sublist (List.Sublist.append_left List.filter_sublist A));have HLE:=Lib.hid (show A.length+(rem N key).length+1<=b+1 by have:=rem_le N key;omega);clear r hm h1 h2 hf nd;go_enter Tryz.func265,Tryz.ntmps265;go_wp2_with fail
 refine U.out.mono ?_;rintro e w1 ⟨rfl,rfl⟩;go_upto_region 2 with fail
 generalize((w.alloc (pObj i)).alloc (sObj false ⟨#[]⟩ false)).alloc (sObj true ⟨#[]⟩ false)=W0 at M0 V V2 V3|-;have K0:=M0.out.cb.cell;obtain⟨c0,c1,c2,c3,c4,c5⟩:=M0.out.raw.cells;go_wp2_with fail
 refine V.out.mono ?_;rintro e w1 ⟨rfl,rfl⟩;go_wp2_with fail
 refine V2.out.mono ?_;rintro e w1 ⟨rfl,rfl⟩;go_wp2_with fail
 refine V3.out.mono ?_;rintro e W1 ⟨rfl,hB⟩;have M1:=Lib.hid (M0.out.below hB);have K1:=M1.out.cb.cell;clear hB M0 K0 c0 c1 c2 c3 c4 c5 V V2 V3;obtain⟨c0,c1,c2,c3,c4,c5⟩:=M1.out.raw.cells;go_wp2_with fail
 refine(raise_any W1 i S mo t N A G f b M1.out.raw).mono ?_;intro e W2 hp;obtain⟨rfl,S2,m2⟩:=M1.out.op hp;have M2:=Lib.hid m2;have K2:=M2.out.cb.cell;clear hp m2 M1 K1 c0 c1 c2 c3 c4 c5;obtain⟨c0,c1,c2,c3,c4,c5⟩:=M2.out.raw.cells;go_wp2_with fail
 refine(ls_remove W2 i.n S2.n N b M2.out.raw.n key hs).mono ?_;intro e W3 hp;obtain⟨rfl,S3,m3⟩:=M2.out.op (M2.out.raw.onN hp (Nat.le_refl _));have M3:=Lib.hid m3;have K3:=M3.out.cb.cell;clear hp m3 M2 K2 c0 c1 c2 c3 c4 c5;go_wp2_with fail
 refine(promoteY W3 i S3 mo (upT mo t) (rem N key) A G f b key M3.out.raw hs HNO.out ND.out hb HLE.out).mono ?_;intro e W4 hp;obtain⟨rfl,S4,m4⟩:=M3.out.op hp;have M4:=Lib.hid m4;clear hp m4 M3 K3;have F:=Lib.hid M4.out.out;obtain⟨⟨s0,s1,s2⟩,⟨r0,r1,r2⟩,g0,g1,g2⟩:=M4.out.six;clear M4;go_wp2_with fail
 refine bodyPost_ret (results_c rfl _ _ _ ⟨w.heap.size+1,0,none⟩ _ rfl (load_step F.out.1)) rfl ?_;exact F.out.2
theorem req_Nn(hm:mo≠0)(h1:inn N key=true)(h2:inn A key=false)(hf:f key=false)(nd:(A++N).Nodup)(hl:A.length+N.length<=b):
 Calls Tryz.prog 265 #[.pointer (some ⟨i.c,0,none⟩),.string key] w (RPost (.agg #[.bool true,.string ⟨#[]⟩,.bool false]) w i S mo t ((key::A).drop (mx t)++rem N key) ((key::A).take (mx t)) G (tput f key) (b+1)):=by
 have U:=Lib.hid (has_mid w i S mo t N A G f b key r hs true (by rw[h1,h2];rfl));have M0:=Lib.hid (Mid.start r true);have e9:((mo:Int)==0)=false:=by simp;omega
 have e8:(mo==0)=false:=by simp;omega
 have V:=ls_has _ i.a S.a A b M0.out.raw.a key hs;rw[h2] at V;have V:=Lib.hid V;have V2:=ls_has _ i.n S.n N b M0.out.raw.n key hs;rw[h1] at V2;have V2:=Lib.hid V2;have V3:=isOldY _ i S mo t N A G f b M0.out.raw key hs;rw[hf] at V3;have V3:=Lib.hid V3
 have HNO:=Lib.hid (show key∉A++rem N key from λh=>by
  rcases List.mem_append.1 h with h|h
  . exact inn_no.1 h2 h
  . exact rem_not h)
 have ND:=Lib.hid (show(A++rem N key).Nodup from nd.sublist (List.Sublist.append_left List.filter_sublist A));have HLE:=Lib.hid (show A.length+(rem N key).length+1<=b+1 by have:=rem_le N key;omega);clear r hm h1 h2 hf nd;go_enter Tryz.func265,Tryz.ntmps265;go_wp2_with fail
 refine U.out.mono ?_;rintro e w1 ⟨rfl,rfl⟩;go_upto_region 2 with fail
 generalize((w.alloc (pObj i)).alloc (sObj false ⟨#[]⟩ false)).alloc (sObj true ⟨#[]⟩ false)=W0 at M0 V V2 V3|-;have K0:=M0.out.cb.cell;obtain⟨c0,c1,c2,c3,c4,c5⟩:=M0.out.raw.cells;go_wp2_with fail
 refine V.out.mono ?_;rintro e w1 ⟨rfl,rfl⟩;go_wp2_with fail
 refine V2.out.mono ?_;rintro e w1 ⟨rfl,rfl⟩;go_wp2_with fail
 refine V3.out.mono ?_;rintro e W1 ⟨rfl,hB⟩;have M1:=Lib.hid (M0.out.below hB);have K1:=M1.out.cb.cell;clear hB M0 K0 c0 c1 c2 c3 c4 c5 V V2 V3;obtain⟨c0,c1,c2,c3,c4,c5⟩:=M1.out.raw.cells;go_wp2_with fail
 refine(ls_remove W1 i.n S.n N b M1.out.raw.n key hs).mono ?_;intro e W3 hp;obtain⟨rfl,S3,m3⟩:=M1.out.op (M1.out.raw.onN hp (Nat.le_refl _));have M3:=Lib.hid m3;have K3:=M3.out.cb.cell;clear hp m3 M1 K1 c0 c1 c2 c3 c4 c5;go_wp2_with fail
 refine(promoteY W3 i S3 mo t (rem N key) A G f b key M3.out.raw hs HNO.out ND.out hb HLE.out).mono ?_;intro e W4 hp;obtain⟨rfl,S4,m4⟩:=M3.out.op hp;have M4:=Lib.hid m4;clear hp m4 M3 K3;have F:=Lib.hid M4.out.out;obtain⟨⟨s0,s1,s2⟩,⟨r0,r1,r2⟩,g0,g1,g2⟩:=M4.out.six;clear M4;go_wp2_with fail
 refine bodyPost_ret (results_c rfl _ _ _ ⟨w.heap.size+1,0,none⟩ _ rfl (load_step F.out.1)) rfl ?_;exact F.out.2
theorem req_Go(m:Nat)(hm:mo=m+1)(h1:inn N key=false)(h2:inn A key=false)(h3:inn G key=true)(hf:f key=true)(nd:(A++N++G).Nodup)(hl:A.length+N.length+G.length<=b):
 Calls Tryz.prog 265 #[.pointer (some ⟨i.c,0,none⟩),.string key] w (RPost (.agg #[.bool false,.string (vicOf ((A++N).reverse.take (A.length+N.length - m))),.bool (!((A++N).reverse.take (A.length+N.length - m)).isEmpty)]) w i S mo t ((key::(A.take (A.length+N.length - (A.length+N.length - m)))).drop (mx t)++(N.take (N.length - (A.length+N.length - m)))) ((key::(A.take (A.length+N.length - (A.length+N.length - m)))).take (mx t)) (((A++N).drop (A.length+N.length - (A.length+N.length - m))++rem G key).take mo) (tput (tcut f (((A++N).drop (A.length+N.length - (A.length+N.length - m))++rem G key).drop mo)) key) (b+1)):=by
 have U:=Lib.hid (has_mid w i S mo t N A G f b key r hs false (by rw[h1,h2];rfl));have M0:=Lib.hid (Mid.start r false);have e9:((mo:Int)==0)=false:=by simp;omega
 have e8:(mo==0)=false:=by simp;omega
 have V:=ls_has _ i.a S.a A b M0.out.raw.a key hs;rw[h2] at V;have V:=Lib.hid V;have V2:=ls_has _ i.n S.n N b M0.out.raw.n key hs;rw[h1] at V2;have V2:=Lib.hid V2;have V4:=ls_has _ i.g S.g G b M0.out.raw.g key hs;rw[h3] at V4;have V4:=Lib.hid V4;have V3:=isOldY _ i S mo t N A G f b M0.out.raw key hs;rw[hf] at V3;have V3:=Lib.hid V3
 have HNO:=Lib.hid (show key∉(A.take (A.length+N.length - (A.length+N.length - m)))++(N.take (N.length - (A.length+N.length - m))) from λh=>by
  rcases List.mem_append.1 h with h|h
  . exact inn_no.1 h2 (List.mem_of_mem_take h)
  . exact inn_no.1 h1 (List.mem_of_mem_take h))
 have ND:=Lib.hid (show((A.take (A.length+N.length - (A.length+N.length - m)))++(N.take (N.length - (A.length+N.length - m)))).Nodup from(List.nodup_append.1 nd).1.sublist (List.Sublist.append (List.take_sublist _ _) (List.take_sublist _ _)));have ND2:=Lib.hid (show(A++N++rem G key).Nodup from nd.sublist (List.Sublist.append_left List.filter_sublist _));have HL2:=Lib.hid (show A.length+N.length+(rem G key).length<=b by have:=rem_le G key;omega);have HLE:=Lib.hid (show((A.take (A.length+N.length - (A.length+N.length - m)))).length+((N.take (N.length - (A.length+N.length - m)))).length+1<=b+1 by rw[List.length_take,List.length_take];omega);have R:=Lib.hid (λ(W3:World) (S3:Sx) (M3:Mid w W3 i S S3 mo t N A (rem G key) f b false ⟨#[]⟩ false)=>roomY W3 i S3 w.heap.size (w.heap.size+1+1) mo m t N A (rem G key) f b false M3.raw M3.cb M3.step M3.n2 hm (by omega) M3.n0 ND2.out HL2.out (by omega));clear ND2 HL2;generalize(N.take (N.length - (A.length+N.length - m)))=N1 at*;generalize(A.take (A.length+N.length - (A.length+N.length - m)))=A1 at*;generalize(((A++N).drop (A.length+N.length - (A.length+N.length - m))++rem G key).take mo)=G1 at*;generalize(tcut f (((A++N).drop (A.length+N.length - (A.length+N.length - m))++rem G key).drop mo))=f1 at*;generalize vicOf ((A++N).reverse.take (A.length+N.length - m))=x1 at*;generalize(!((A++N).reverse.take (A.length+N.length - m)).isEmpty)=o1 at*;clear r hm h1 h2 h3 hf nd;go_enter Tryz.func265,Tryz.ntmps265;go_wp2_with fail
 refine U.out.mono ?_;rintro e w1 ⟨rfl,rfl⟩;go_upto_region 2 with fail
 generalize((w.alloc (pObj i)).alloc (sObj false ⟨#[]⟩ false)).alloc (sObj false ⟨#[]⟩ false)=W0 at M0 V V2 V3 V4|-;have K0:=M0.out.cb.cell;obtain⟨c0,c1,c2,c3,c4,c5⟩:=M0.out.raw.cells;go_wp2_with fail
 refine V.out.mono ?_;rintro e w1 ⟨rfl,rfl⟩;go_wp2_with fail
 refine V2.out.mono ?_;rintro e w1 ⟨rfl,rfl⟩;go_wp2_with fail
 refine V4.out.mono ?_;rintro e w1 ⟨rfl,rfl⟩;go_wp2_with fail
 refine V3.out.mono ?_;rintro e W1 ⟨rfl,hB⟩;have M1:=Lib.hid (M0.out.below hB);have K1:=M1.out.cb.cell;clear hB M0 K0 c0 c1 c2 c3 c4 c5 V V2 V3 V4;obtain⟨c0,c1,c2,c3,c4,c5⟩:=M1.out.raw.cells;go_wp2_with fail
 refine(ls_remove W1 i.g S.g G b M1.out.raw.g key hs).mono ?_;intro e W3 hp;obtain⟨rfl,S3,m3⟩:=M1.out.op (M1.out.raw.onG hp (Nat.le_refl _));have M3:=Lib.hid m3;have K3:=M3.out.cb.cell;clear hp m3 M1 K1 c0 c1 c2 c3 c4 c5;go_wp2_with fail
 refine(R.out W3 S3 M3.out).mono ?_;intro e W4 hp;obtain⟨rfl,S4,m4⟩:=M3.out.room hp;have M4:=Lib.hid m4;have K4:=M4.out.cb.cell;clear hp m4 M3 K3;go_wp2_with fail
 refine(promoteY W4 i S4 mo t N1 A1 G1 f1 b key M4.out.raw hs HNO.out ND.out hb HLE.out).mono ?_;intro e W5 hp;obtain⟨rfl,S5,m5⟩:=M4.out.op hp;have M5:=Lib.hid m5;clear hp m5 M4 K4;have F:=Lib.hid M5.out.out;obtain⟨⟨s0,s1,s2⟩,⟨r0,r1,r2⟩,g0,g1,g2⟩:=M5.out.six;clear M5;go_wp2_with fail
 refine bodyPost_ret (results_c rfl _ _ _ ⟨w.heap.size+1,0,none⟩ _ rfl (load_step F.out.1)) rfl ?_;exact F.out.2
theorem req_Gn(m:Nat)(hm:mo=m+1)(h1:inn N key=false)(h2:inn A key=false)(h3:inn G key=true)(hf:f key=false)(nd:(A++N++G).Nodup)(hl:A.length+N.length+G.length<=b):
 Calls Tryz.prog 265 #[.pointer (some ⟨i.c,0,none⟩),.string key] w (RPost (.agg #[.bool false,.string (vicOf ((A++N).reverse.take (A.length+N.length - m))),.bool (!((A++N).reverse.take (A.length+N.length - m)).isEmpty)]) w i S mo (dnT t) ((key::(A.take (A.length+N.length - (A.length+N.length - m)))).drop (mx (dnT t))++(N.take (N.length - (A.length+N.length - m)))) ((key::(A.take (A.length+N.length - (A.length+N.length - m)))).take (mx (dnT t))) (((A++N).drop (A.length+N.length - (A.length+N.length - m))++rem G key).take mo) (tput (tcut f (((A++N).drop (A.length+N.length - (A.length+N.length - m))++rem G key).drop mo)) key) (b+1)):=by
 have U:=Lib.hid (has_mid w i S mo t N A G f b key r hs false (by rw[h1,h2];rfl));have M0:=Lib.hid (Mid.start r false);have e9:((mo:Int)==0)=false:=by simp;omega
 have e8:(mo==0)=false:=by simp;omega
 have V:=ls_has _ i.a S.a A b M0.out.raw.a key hs;rw[h2] at V;have V:=Lib.hid V;have V2:=ls_has _ i.n S.n N b M0.out.raw.n key hs;rw[h1] at V2;have V2:=Lib.hid V2;have V4:=ls_has _ i.g S.g G b M0.out.raw.g key hs;rw[h3] at V4;have V4:=Lib.hid V4;have V3:=isOldY _ i S mo t N A G f b M0.out.raw key hs;rw[hf] at V3;have V3:=Lib.hid V3
 have HNO:=Lib.hid (show key∉(A.take (A.length+N.length - (A.length+N.length - m)))++(N.take (N.length - (A.length+N.length - m))) from λh=>by
  rcases List.mem_append.1 h with h|h
  . exact inn_no.1 h2 (List.mem_of_mem_take h)
  . exact inn_no.1 h1 (List.mem_of_mem_take h))
 have ND:=Lib.hid (show((A.take (A.length+N.length - (A.length+N.length - m)))++(N.take (N.length - (A.length+N.length - m)))).Nodup from(List.nodup_append.1 nd).1.sublist (List.Sublist.append (List.take_sublist _ _) (List.take_sublist _ _)));have ND2:=Lib.hid (show(A++N++rem G key).Nodup from nd.sublist (List.Sublist.append_left List.filter_sublist _));have HL2:=Lib.hid (show A.length+N.length+(rem G key).length<=b by have:=rem_le G key;omega);have HLE:=Lib.hid (show((A.take (A.length+N.length - (A.length+N.length - m)))).length+((N.take (N.length - (A.length+N.length - m)))).length+1<=b+1 by rw[List.length_take,List.length_take];omega);have R:=Lib.hid (λ(W3:World) (S3:Sx) (M3:Mid w W3 i S S3 mo (dnT t) N A (rem G key) f b false ⟨#[]⟩ false)=>roomY W3 i S3 w.heap.size (w.heap.size+1+1) mo m (dnT t) N A (rem G key) f b false M3.raw M3.cb M3.step M3.n2 hm (by omega) M3.n0 ND2.out HL2.out (by omega));clear ND2 HL2;generalize(N.take (N.length - (A.length+N.length - m)))=N1 at*;generalize(A.take (A.length+N.length - (A.length+N.length - m)))=A1 at*;generalize(((A++N).drop (A.length+N.length - (A.length+N.length - m))++rem G key).take mo)=G1 at*;generalize(tcut f (((A++N).drop (A.length+N.length - (A.length+N.length - m))++rem G key).drop mo))=f1 at*;generalize vicOf ((A++N).reverse.take (A.length+N.length - m))=x1 at*;generalize(!((A++N).reverse.take (A.length+N.length - m)).isEmpty)=o1 at*;clear r hm h1 h2 h3 hf nd;go_enter Tryz.func265,Tryz.ntmps265;go_wp2_with fail
 refine U.out.mono ?_;rintro e w1 ⟨rfl,rfl⟩;go_upto_region 2 with fail
 generalize((w.alloc (pObj i)).alloc (sObj false ⟨#[]⟩ false)).alloc (sObj false ⟨#[]⟩ false)=W0 at M0 V V2 V3 V4|-;have K0:=M0.out.cb.cell;obtain⟨c0,c1,c2,c3,c4,c5⟩:=M0.out.raw.cells;go_wp2_with fail
 refine V.out.mono ?_;rintro e w1 ⟨rfl,rfl⟩;go_wp2_with fail
 refine V2.out.mono ?_;rintro e w1 ⟨rfl,rfl⟩;go_wp2_with fail
 refine V4.out.mono ?_;rintro e w1 ⟨rfl,rfl⟩;go_wp2_with fail
 refine V3.out.mono ?_;rintro e W1 ⟨rfl,hB⟩;have M1:=Lib.hid (M0.out.below hB);have K1:=M1.out.cb.cell;clear hB M0 K0 c0 c1 c2 c3 c4 c5 V V2 V3 V4;obtain⟨c0,c1,c2,c3,c4,c5⟩:=M1.out.raw.cells;go_wp2_with fail
 refine(lower_any W1 i S mo t N A G f b M1.out.raw).mono ?_;intro e W2 hp;obtain⟨rfl,S2,m2⟩:=M1.out.op hp;have M2:=Lib.hid m2;have K2:=M2.out.cb.cell;clear hp m2 M1 K1 c0 c1 c2 c3 c4 c5;obtain⟨c0,c1,c2,c3,c4,c5⟩:=M2.out.raw.cells;go_wp2_with fail
 refine(ls_remove W2 i.g S2.g G b M2.out.raw.g key hs).mono ?_;intro e W3 hp;obtain⟨rfl,S3,m3⟩:=M2.out.op (M2.out.raw.onG hp (Nat.le_refl _));have M3:=Lib.hid m3;have K3:=M3.out.cb.cell;clear hp m3 M2 K2 c0 c1 c2 c3 c4 c5;go_wp2_with fail
 refine(R.out W3 S3 M3.out).mono ?_;intro e W4 hp;obtain⟨rfl,S4,m4⟩:=M3.out.room hp;have M4:=Lib.hid m4;have K4:=M4.out.cb.cell;clear hp m4 M3 K3;go_wp2_with fail
 refine(promoteY W4 i S4 mo (dnT t) N1 A1 G1 f1 b key M4.out.raw hs HNO.out ND.out hb HLE.out).mono ?_;intro e W5 hp;obtain⟨rfl,S5,m5⟩:=M4.out.op hp;have M5:=Lib.hid m5;clear hp m5 M4 K4;have F:=Lib.hid M5.out.out;obtain⟨⟨s0,s1,s2⟩,⟨r0,r1,r2⟩,g0,g1,g2⟩:=M5.out.six;clear M5;go_wp2_with fail
 refine bodyPost_ret (results_c rfl _ _ _ ⟨w.heap.size+1,0,none⟩ _ rfl (load_step F.out.1)) rfl ?_;exact F.out.2
theorem req_new(m:Nat)(hm:mo=m+1)(h1:inn N key=false)(h2:inn A key=false)(h3:inn G key=false)(nd:(A++N++G).Nodup)(hl:A.length+N.length+G.length<=b):
 Calls Tryz.prog 265 #[.pointer (some ⟨i.c,0,none⟩),.string key] w (RPost (.agg #[.bool false,.string (vicOf ((A++N).reverse.take (A.length+N.length - m))),.bool (!((A++N).reverse.take (A.length+N.length - m)).isEmpty)]) w i S mo t (key::(N.take (N.length - (A.length+N.length - m)))) (A.take (A.length+N.length - (A.length+N.length - m))) (((A++N).drop (A.length+N.length - (A.length+N.length - m))++G).take mo) (tcut f (((A++N).drop (A.length+N.length - (A.length+N.length - m))++G).drop mo)) (b+1)):=by
 have U:=Lib.hid (has_mid w i S mo t N A G f b key r hs false (by rw[h1,h2];rfl));have M0:=Lib.hid (Mid.start r false);have e9:((mo:Int)==0)=false:=by simp;omega
 have e8:(mo==0)=false:=by simp;omega
 have V:=ls_has _ i.a S.a A b M0.out.raw.a key hs;rw[h2] at V;have V:=Lib.hid V;have V2:=ls_has _ i.n S.n N b M0.out.raw.n key hs;rw[h1] at V2;have V2:=Lib.hid V2;have V4:=ls_has _ i.g S.g G b M0.out.raw.g key hs;rw[h3] at V4;have V4:=Lib.hid V4;have R:=Lib.hid (roomY _ i S w.heap.size (w.heap.size+1+1) mo m t N A G f b false M0.out.raw M0.out.cb M0.out.step M0.out.n2 hm (by omega) M0.out.n0 nd hl (by omega));have HNO:=Lib.hid (show key∉(N.take (N.length - (A.length+N.length - m))) from λh=>inn_no.1 h1 (List.mem_of_mem_take h));have HLE:=Lib.hid (show((N.take (N.length - (A.length+N.length - m)))).length+1<=b+1 by rw[List.length_take];omega);generalize(N.take (N.length - (A.length+N.length - m)))=N1 at*;generalize(A.take (A.length+N.length - (A.length+N.length - m)))=A1 at*;generalize(((A++N).drop (A.length+N.length - (A.length+N.length - m))++G).take mo)=G1 at*;generalize(tcut f (((A++N).drop (A.length+N.length - (A.length+N.length - m))++G).drop mo))=f1 at*;generalize vicOf ((A++N).reverse.take (A.length+N.length - m))=x1 at*;generalize(!((A++N).reverse.take (A.length+N.length - m)).isEmpty)=o1 at*;clear r hm h1 h2 h3 nd;go_enter Tryz.func265,Tryz.ntmps265;go_wp2_with fail
 refine U.out.mono ?_;rintro e w1 ⟨rfl,rfl⟩;go_upto_region 2 with fail
 generalize((w.alloc (pObj i)).alloc (sObj false ⟨#[]⟩ false)).alloc (sObj false ⟨#[]⟩ false)=W0 at M0 V V2 V4 R|-;have K0:=M0.out.cb.cell;obtain⟨c0,c1,c2,c3,c4,c5⟩:=M0.out.raw.cells;go_wp2_with fail
 refine V.out.mono ?_;rintro e w1 ⟨rfl,rfl⟩;go_wp2_with fail
 refine V2.out.mono ?_;rintro e w1 ⟨rfl,rfl⟩;go_wp2_with fail
 refine V4.out.mono ?_;rintro e w1 ⟨rfl,rfl⟩;go_wp2_with fail
 refine R.out.mono ?_;intro e W4 hp;obtain⟨rfl,S4,m4⟩:=M0.out.room hp;have M4:=Lib.hid m4;have K4:=M4.out.cb.cell;clear hp m4 M0 K0 R V V2 V4 c0 c1 c2 c3 c4 c5;obtain⟨c0,c1,c2,c3,c4,c5⟩:=M4.out.raw.cells;go_wp2_with fail
 refine(ls_front_new W4 i.n S4.n _ b M4.out.raw.n key (b+1) HNO.out hs (by omega) (by omega) HLE.out).mono ?_;intro e W5 hp;obtain⟨rfl,S5,m5⟩:=M4.out.op (M4.out.raw.onN hp (by omega));have M5:=Lib.hid m5;clear hp m5 M4 K4 c0 c1 c2 c3 c4 c5;have F:=Lib.hid M5.out.out;obtain⟨⟨s0,s1,s2⟩,⟨r0,r1,r2⟩,g0,g1,g2⟩:=M5.out.six;clear M5;go_wp2_with fail
 refine bodyPost_ret (results_c rfl _ _ _ ⟨w.heap.size+1,0,none⟩ _ rfl (load_step F.out.1)) rfl ?_;exact F.out.2
end
end Go.Proofs.YtdmmciggopmglaaGreatDoor.SR
namespace Go.Proofs.YtdmmciggopmglaaGreatDoor.SR
open Go.RowKit Sg
theorem app_at{w:World}{base:Nat}{v:Value}{xs:List ByteArray}(h:Own w base v xs)(x:ByteArray)(hx:x.size<=maxLen)(hl:xs.length<=199999)(hb:base<=w.heap.size):
 ∃(A:Option Addr) (cap:Nat) (w2:World),(Builtin.append_ #[23,23] 23 #[v,.slice (some ⟨w.heap.size,0,none⟩) 1 1]).run Tryz.prog (w.alloc (.cells #[.string x] 9))= .ok (.slice A (xs.length+1) cap) w2/\
  Own w2 base (.slice A (xs.length+1) cap) (xs++ [x])/\w.grownBy w2 v.ownBlock/\(∀g,(Value.slice A (xs.length+1) cap).ownBlock=some g->v.ownBlock=some g\/w.heap.size<=g):=by
 obtain⟨i0,hi,hz0,hz1,hz2⟩:=info_parts infoStr
 obtain⟨v',w2,hrun,hown2,hg,hnil,hloc⟩:=run_append_own_at (P:=Tryz.prog) (w.alloc (.cells #[.string x] 9)) base 23 23 9 i0 _ 1 16
  Tryz.underlying23 hi hz0 hz1 hz2 rfl (by decide) _ _ _ (h.1.alloc _) ⟨w.heap.size,0,none⟩ 1 1 [.string x] rfl (cell_one_new _ _ _) (by simp[Value.oneCell']) (by unfold maxLen;omega) (by omega) (by simp;omega)
 have hown3:=hown2;rcases hown2.2 with⟨_,h0⟩|⟨g,cap,cur,rfl,_⟩
 . omega
 refine⟨_,cap,w2,hrun,⟨?_,by rw[List.length_append];simp only[List.length_cons,List.length_nil];omega,λy hy=>?_⟩,(World.grownBy_alloc w _ _).trans hg,λg' hg'=>?_⟩
 . rw[List.map_append,List.length_append];exact hown3
 . rcases List.mem_append.1 hy with h1|h1
   . exact h.2.2 y h1
   . rw[List.mem_singleton.1 h1];exact hx
 . rcases hloc with h1|h1
   . exact Or.inl (h1▸hg')
   . rw[h1] at hg';injection hg' with hg'
     rw[show(w.alloc (.cells #[.string x] 9)).heap.size=w.heap.size+1 by simp] at hg';exact Or.inr (by omega)
def GBox(w:World)(gb:Nat)(v:Value):Prop:=w.heap[gb]?=some (.cells #[v] 23 (0,0))
theorem GBox.lt{w:World}{gb:Nat}{v:Value}(k:GBox w gb v):gb < w.heap.size:=(Array.getElem?_eq_some_iff.1 k).1
theorem GBox.put{w:World}{gb:Nat}{v:Value}(k:GBox w gb v)(u:Value):GBox (w.setCell ⟨gb,0,none⟩ u) gb u:=by
 unfold GBox at*;rw[heap_setCell_same _ _ _ _ _ _ k];rfl
theorem cloR(w:World)(gb base:Nat)(v:Value)(ts:List ByteArray)(x:ByteArray)(k:GBox w gb v)(o:Own w base v ts)(hl:ts.length<=199999)(hx:x.size<=maxLen)(hb:base<=w.heap.size)(hne:v.ownBlock≠some gb):
 Calls Tryz.prog 276 #[.string x,.pointer (some ⟨gb,0,none⟩)] w (λe w'=>e= .returned (.tuple #[])/\∃v',GBox w' gb v'/\Own w' base v' (ts++ [x])/\(∀g,v'.ownBlock=some g->v.ownBlock=some g\/w.heap.size<=g)/\Turn (λk=>k=gb\/v.ownBlock=some k) w w'):=by
 obtain⟨A2,cap,w2,hrun,hown,hg,hloc⟩:=app_at o x hx hl hb;obtain⟨A1,c1,rfl⟩:=o.len;have hgb:=k.lt;have k1:w.cell? ⟨gb,0,none⟩=some (.slice A1 ts.length c1):=cell_of_row w _ 0 _ _ _ k;have k2:GBox w2 gb (.slice A1 ts.length c1):=(hg.block gb hgb (λe=>hne e.symm)).trans k;have k3:w2.cell? ⟨gb,0,none⟩=some (.slice A1 ts.length c1):=cell_of_row w2 _ 0 _ _ _ k2;have k4:w2.frozen? ⟨gb,0,none⟩=false:=frozen_of_row w2 _ 0 _ _ k2;have HRUN:=Lib.hid hrun
 have R:=Lib.hid (show ∃v',GBox (w2.setCell ⟨gb,0,none⟩ (.slice A2 (ts.length+1) cap)) gb v'/\Own (w2.setCell ⟨gb,0,none⟩ (.slice A2 (ts.length+1) cap)) base v' (ts++ [x])/\(∀g,v'.ownBlock=some g->(Value.slice A1 ts.length c1).ownBlock=some g\/w.heap.size<=g)/\Turn (λk=>k=gb\/(Value.slice A1 ts.length c1).ownBlock=some k) w (w2.setCell ⟨gb,0,none⟩ (.slice A2 (ts.length+1) cap)) by
  refine⟨_,k2.put _,hown.same (λg hg'=>?_),hloc,?_⟩
  . refine Below.heap_setCell _ _ _ _ (λe=>?_);have e:g=gb:=e;subst e;rcases hloc g hg' with h|h
    . exact hne h
    . omega
  . have t1:Turn (λk=>k=gb\/(Value.slice A1 ts.length c1).ownBlock=some k) w w2:=⟨hg.os,hg.tape,hg.output,hg.size,λi hi h1=>hg.block i hi (λe=>h1 (Or.inr e.symm))⟩;exact t1.setCell (p:=⟨gb,0,none⟩) (Or.inl (Or.inl rfl)) _)
 clear hrun hown hg hloc k k2 o hne;go_enter Tryz.func276,Tryz.ntmps276;go_wp2_with(at_builtin;refine wpList_append_run rfl _ _ _ rfl _ _ _ _ rfl rfl HRUN.out ?_)
 go_end0;exact⟨rfl,R.out⟩
def KR(gb base:Nat)(vs:List ByteArray)(X:Nat->Prop)(W:World):Prop:=∃v,X=(λk=>k=gb\/v.ownBlock=some k)/\GBox W gb v/\Own W base v vs/\base<=W.heap.size/\v.ownBlock≠some gb
theorem sideR(gb base:Nat):Side 276 ⟨gb,0,none⟩ (KR gb base) where
 enter:=λargs w=>by kernel_rfl
 lt:=by
  rintro vs X W ⟨v,rfl,hB,hO,_⟩ k hk;rcases hk with rfl|hk
  . exact hB.lt
  . exact(hO.lt hk).1
 same:=by
  rintro vs X W W' ⟨v,rfl,hB,hO,hb,hn⟩ hs hk;exact⟨v,rfl,(hk gb (Or.inl rfl)).trans hB,hO.same λg hg=>hk g (Or.inr hg),by omega,hn⟩
 call:=by
  rintro vs X W x ⟨v,rfl,hB,hO,hb,hn⟩ hl hx;refine(cloR W gb base v vs x hB hO (by omega) hx hb hn).mono ?_;rintro e W' ⟨he,v',hB',hO',hv,hT⟩;have hsz:=hT.size;refine⟨he,_,⟨v',rfl,hB',hO',by omega,λh=>?_⟩,λk hk=>?_,hT⟩
  . rcases hv gb h with h|h
    . exact hn h
    . have:=hB.lt;omega
  . rcases hk with rfl|hk
    . exact Or.inl (Or.inl rfl)
    . exact(hv k hk).imp Or.inr id
def ResPost(w:World)(i:Ix)(S:Sx)(mo t:Nat)(N A G:List ByteArray)(f:Told)(b:Nat)(gone:List ByteArray)(e:Ending)(w':World):Prop:=
 ∃v S',e= .returned v/\Own w' w.heap.size v gone/\Raw w' i S' mo t N A G f b/\Went w w' (blk i S) (blk i S')/\∀g,v.ownBlock=some g->¬blk i S' g
def gone(n:Nat)(N A:List ByteArray):Nat:=A.length+N.length - n
abbrev cutN(n:Nat)(N A:List ByteArray):List ByteArray:=N.take (N.length - gone n N A)
abbrev cutA(n:Nat)(N A:List ByteArray):List ByteArray:=A.take (A.length+N.length - gone n N A)
abbrev cutQ(n:Nat)(N A G:List ByteArray):List ByteArray:=(A++N).drop (A.length+N.length - gone n N A)++G
theorem res_end{w w0 w1 w4:World}{i:Ix}{S S1:Sx}{mo t:Nat}{N A G:List ByteArray}{f:Told}{b n:Nat}(h0:Went w w0 (blk i S) (blk i S1))(_hgb:¬blk i S1 w0.heap.size)(hb:Below w0.heap.size w0 w1)(hlt:w0.heap.size < w1.heap.size)(hgs:w.heap.size<=w0.heap.size)
 (h:CuPost w1 i S1 (λk=>k=w0.heap.size) (KR w0.heap.size w.heap.size) mo t N A G f b n (.returned (.tuple #[])) w4):
 ∃A1 m1 c1,w4.cell? ⟨w0.heap.size,0,none⟩=some (.slice A1 m1 c1)/\ResPost w i S mo t (N.take (N.length - n)) (A.take (A.length+N.length - n)) (((A++N).drop (A.length+N.length - n)++G).take mo) (tcut f (((A++N).drop (A.length+N.length - n)++G).drop mo)) b ((A++N).reverse.take n) (.returned (.slice A1 m1 c1)) w4:=by
 obtain⟨_,S4,X4,r4,⟨v,rfl,hB,hO,hbs,hn⟩,hW,hd⟩:=h;have hs1:=hb.size;have hs2:=hW.turn.size;obtain⟨A1,c1,rfl⟩:=hO.len;refine⟨A1,_,c1,cell_of_row w4 _ 0 _ _ _ hB,_,S4,rfl,hO,r4,⟨λk hk=>?_,?_⟩,λg hg=>hd g (Or.inr hg)⟩
 . rcases hW.new k (Or.inl hk) with h|h
   . rcases h with h|h
     . exact h0.new k h
     . exact Or.inr (by omega)
   . exact Or.inr (by omega)
 . refine(h0.turn.trans (Turn.of_below (S:=blk i S1) hb) (λk hk hS=>?_)).trans hW.turn (λk hk hS=>?_)
   . rcases h0.new k hS with h|h
     . exact h
     . omega
   . rcases hS with h|h
     . rcases h0.new k h with h|h
       . exact h
       . omega
     . omega
def mn(t mo:Nat):Nat:=if mo < t then mo else t
set_option maxHeartbeats 1000000 in
theorem resizeY(w:World)(i:Ix)(S:Sx)(mo t:Nat)(N A G:List ByteArray)(f:Told)(b:Nat)(z:Int)(n:Nat)(r:Raw w i S mo t N A G f b)(hz: -9223372036854775808<=z/\z<=9223372036854775807)(hn:n=z.toNat)
 (nd:(A++N++G).Nodup) (hl:A.length+N.length+G.length<=b) (hb:b<=98000):
 Calls Tryz.prog 266 #[.pointer (some ⟨i.c,0,none⟩),.int .i64 z] w (ResPost w i S n (mn t n) (cutN n N A) (cutA n N A) ((cutQ n N A G).take n) (tcut f ((cutQ n N A G).drop n)) b ((A++N).reverse.take (gone n N A))):=by
 obtain⟨c0,_⟩:=r.cells;obtain⟨f0,_⟩:=r.froz;have ht:=r.top;have e1:(if z < 0 then(0:Int) else z)=(n:Int):=by split <;> omega
 obtain⟨r1,T1⟩:=r.setM n (by omega);have hmax:max z 0=(n:Int):=by omega
 obtain⟨u,hu⟩:∃u,u=mn t n:=⟨_,rfl⟩;have e2:(if n < t then(n:Int) else(t:Int))=(u:Int):=by rw[hu];unfold mn;split <;> rfl
 have hult:u<=9223372036854775807:=by rw[hu];unfold mn;split <;> omega
 have HU:=Lib.hid hu;have R1:=Lib.hid r1;have HT1:=Lib.hid T1;clear hn hu;go_enter Tryz.func266,Tryz.ntmps266;go_upto_region 2 with fail
 generalize w.setCell ⟨i.c,0,none⟩ (.int .i64 (n:Int))=W1 at R1 HT1|-;clear r1 T1 c0 f0;obtain⟨c0,c1,_⟩:=R1.out.cells;obtain⟨_,f1⟩:=R1.out.froz;have R2:=Lib.hid (R1.out.setT u hult);clear r;go_region;have R3:=Lib.hid (show Raw ((W1.setCell ⟨i.c,1,none⟩ (.int .i64 (u:Int))).drew) i S n u N A G f b from R2.out.1.below ⟨rfl,rfl,rfl,Nat.le_refl _,λ_ _=>rfl⟩);have T3:=Lib.hid (show Went w ((W1.setCell ⟨i.c,1,none⟩ (.int .i64 (u:Int))).drew) (blk i S) (blk i S) from Went.same ((HT1.out.trans R2.out.2 λ_ _ h=>h).drew));generalize(W1.setCell ⟨i.c,1,none⟩ (.int .i64 (u:Int))).drew=W2 at R3 T3|-;clear R2 c0 c1 f1 R1 HT1 hmax e1 e2;have B:=Lib.hid ((Below.refl W2.heap.size W2).alloc (Nat.le_refl _) (.cells #[.slice none 0 0] 23));have GB:=Lib.hid (show GBox (W2.alloc (.cells #[.slice none 0 0] 23)) W2.heap.size (.slice none 0 0) from heap_alloc_new _ _);have NB:=Lib.hid (show ¬blk i S W2.heap.size from λh=>by have:=R3.out.lt h;omega);have SZ:=Lib.hid (show(W2.alloc (.cells #[.slice none 0 0] 23)).heap.size=W2.heap.size+1 by simp);have U:=Lib.hid (cutTo_any _ i S n u N A G f b n (λk=>k=W2.heap.size) (KR W2.heap.size w.heap.size) 276 ⟨W2.heap.size,0,none⟩ (R3.out.below B.out) ⟨.slice none 0 0,by funext k;simp[Value.ownBlock],GB.out,Own.nil _ _,by have:=T3.out.turn.size;have:=SZ.out;omega,by simp[Value.ownBlock]⟩ (by rintro k rfl;exact NB.out) (sideR _ _) nd hl (by omega));have d0:=(R3.out.below B.out).cells.1;clear nd;go_wp2_with fail
 refine U.out.mono ?_;intro e w4 hp;obtain⟨rfl,_⟩:=id hp;obtain⟨A1,m1,c1,k1,hq⟩:=res_end T3.out NB.out B.out (by have:=SZ.out;omega) T3.out.turn.size hp;have P:=Lib.hid hq;clear hp hq U;go_wp2_with fail
 go_ret;rw[← HU.out];exact P.out
end Go.Proofs.YtdmmciggopmglaaGreatDoor.SR
namespace Go.Proofs.YtdmmciggopmglaaGreatDoor.SR
open Go.RowKit Sg
section
variable(w:World)(i:Ix)(S:Sx)(mo t:Nat)(N A G:List ByteArray)(f:Told)(b:Nat)(key:ByteArray)(r:Raw w i S mo t N A G f b)(hs:key.size<=maxLen)
include r hs
theorem adopt_in(hi:(inn N key||inn A key)=true):Calls Tryz.prog 258 #[.pointer (some ⟨i.c,0,none⟩),.string key] w (RPost (.bool false) w i S mo t N A G f b):=by
 obtain⟨c0,_⟩:=r.cells;have clt:=r.clt
 have U:=Lib.hid (show ∀m,Calls Tryz.prog 261 #[.pointer (some ⟨i.c,0,none⟩),.string key] (w.drewN m) (λe w'=>e= .returned (.bool true)/\w'=w.drewN m) from λm=>by
  have:=hasY (w.drewN m) i S mo t N A G f b (r.drewN m) key hs;rw[hi] at this;exact this.mono λ_ _ h=>⟨h.1,h.2.symm⟩)
 have HH:=Lib.hid r;clear r hi;go_enter Tryz.func258,Tryz.ntmps258;go_wp2_with fail
 go_quiet((go_at_call 261;exact Calls.quiet_of_same (U.out _)))
 go_wp2_with fail
 go_ret;exact⟨rfl,S,HH.out.drewN _,Went.below (below_drewN w _)⟩
theorem adopt_full(hi:(inn N key||inn A key)=false)(hf:mo<=N.length+A.length):Calls Tryz.prog 258 #[.pointer (some ⟨i.c,0,none⟩),.string key] w (RPost (.bool false) w i S mo t N A G f b):=by
 obtain⟨c0,_⟩:=r.cells;have clt:=r.clt;obtain⟨q,hq⟩:∃q,q=N.length+A.length:=⟨_,rfl⟩;rw[← hq] at hf;have e0:decide (mo<=q)=true:=by simpa using hf
 have U:=Lib.hid (show ∀m,Calls Tryz.prog 261 #[.pointer (some ⟨i.c,0,none⟩),.string key] (w.drewN m) (λe w'=>e= .returned (.bool false)/\w'=w.drewN m) from λm=>by
  have:=hasY (w.drewN m) i S mo t N A G f b (r.drewN m) key hs;rw[hi] at this;exact this.mono λ_ _ h=>⟨h.1,h.2.symm⟩)
 have U2:=Lib.hid (show ∀m,Calls Tryz.prog 263 #[.pointer (some ⟨i.c,0,none⟩)] (w.drewN m) (λe w'=>e= .returned (.int .i64 (q:Int))/\∃m',w'=(w.drewN m).drewN m') from λm=>by
  have:=lenY (w.drewN m) i S mo t N A G f b (r.drewN m);rw[← hq] at this;exact this)
 have HH:=Lib.hid r;clear r hi hq;go_enter Tryz.func258,Tryz.ntmps258;go_wp2_with fail
 go_quiet(first
  |(go_at_call 261;exact Calls.quiet_of_same (U.out _))
  |(go_at_call 263;exact Calls.quiet_of (U2.out _)))
 go_wp2_with fail
 go_ret;exact⟨rfl,S,HH.out.drewN _,Went.below (below_drewN w _)⟩
theorem adopt_room(hi1:inn N key=false)(hi2:inn A key=false)(hf:N.length+A.length < mo)(hl:N.length<=b)(hb:b<=98000):Calls Tryz.prog 258 #[.pointer (some ⟨i.c,0,none⟩),.string key] w (RPost (.bool true) w i S mo t (key::N) A (rem G key) (tdel f key) (b+1)):=by
 obtain⟨c0,_⟩:=r.cells;have clt:=r.clt;obtain⟨q,hq⟩:∃q,q=N.length+A.length:=⟨_,rfl⟩;rw[← hq] at hf;have e0:decide (mo<=q)=false:=by simpa using hf
 have U:=Lib.hid (show ∀m,Calls Tryz.prog 261 #[.pointer (some ⟨i.c,0,none⟩),.string key] (w.drewN m) (λe w'=>e= .returned (.bool false)/\w'=w.drewN m) from λm=>by
  have:=hasY (w.drewN m) i S mo t N A G f b (r.drewN m) key hs;rw[hi1,hi2] at this;exact this.mono λ_ _ h=>⟨h.1,h.2.symm⟩)
 have U2:=Lib.hid (show ∀m,Calls Tryz.prog 263 #[.pointer (some ⟨i.c,0,none⟩)] (w.drewN m) (λe w'=>e= .returned (.int .i64 (q:Int))/\∃m',w'=(w.drewN m).drewN m') from λm=>by
  have:=lenY (w.drewN m) i S mo t N A G f b (r.drewN m);rw[← hq] at this;exact this)
 have HH:=Lib.hid r;have HN:=Lib.hid (show key∉N from inn_no.1 hi1);have RM:=Lib.hid (λm=>removeY (w.drewN m) i S mo t N A G f b (r.drewN m) key hs (by rw[hi1];intro h;cases h));have e1:rem N key=N:=rem_none (inn_no.1 hi1);have e2:rem A key=A:=rem_none (inn_no.1 hi2);rw[e1,e2] at RM;clear r hi1 hi2 hq e1 e2;go_enter Tryz.func258,Tryz.ntmps258;go_wp2_with fail
 go_quiet(first
  |(go_at_call 261;exact Calls.quiet_of_same (U.out _))
  |(go_at_call 263;exact Calls.quiet_of (U2.out _)))
 go_wp2_with fail
 refine(RM.out _).mono ?_;rintro e w2 ⟨rfl,S2,r2,hW⟩;obtain⟨_,_,c2,_⟩:=r2.cells;have R2:=Lib.hid r2;have W2:=Lib.hid ((Went.below (below_drewN w _)).trans hW);clear r2 hW RM U U2;go_wp2_with fail
 refine(ls_front_new w2 i.n S2.n N b R2.out.n key (b+1) HN.out hs (by omega) (by omega) (by omega)).mono ?_;intro e w3 hp;obtain⟨rfl,S3,r3,hW3⟩:=R2.out.onN hp (by omega);have P:=Lib.hid (show RPost (.bool true) w i S mo t (key::N) A (rem G key) (tdel f key) (b+1) (.returned (.bool true)) w3 from⟨rfl,S3,r3,W2.out.trans hW3⟩);clear hp r3 hW3;go_wp2_with fail
 go_ret;exact P.out
end
def NewC(mo t:Nat)(w:World)(e:Ending)(w':World):Prop:=∃i S,e= .returned (.pointer (some ⟨i.c,0,none⟩))/\Raw w' i S mo t [] [] [] (λ_=>false) 0/\(∀k,blk i S k->w.heap.size<=k)/\Below w.heap.size w w'
theorem made_y{w w1 w2 w3:World}{n a g mo t:Nat}{Sn Sa Sg:Nat->Prop}(L1:LS w1 n Sn [] 0)(B1:Below w.heap.size w w1)(h1:∀k,Sn k->w.heap.size<=k)(L2:LS w2 a Sa [] 0)(B2:Below w1.heap.size w1 w2)(h2:∀k,Sa k->w1.heap.size<=k)
 (L3:LS w3 g Sg [] 0) (B3:Below w2.heap.size w2 w3) (h3:∀k,Sg k->w2.heap.size<=k) (hm:mo<=9223372036854775807/\t<=9223372036854775807):
 NewC mo t w (.returned (.pointer (some ⟨w3.heap.size+1,0,none⟩))) ((w3.alloc (.map #[] 0)).alloc (.cells #[.int .i64 (mo:Int),.int .i64 (t:Int),.pointer (some ⟨n,0,none⟩),.pointer (some ⟨a,0,none⟩),.pointer (some ⟨g,0,none⟩),.map (some w3.heap.size)] 171)):=by
 have s1:=B1.size;have s2:=B2.size;have s3:=B3.size;have s4:(w3.alloc (.map #[] 0)).heap.size=w3.heap.size+1:=by simp
 have b5:=((Below.refl w3.heap.size w3).alloc (Nat.le_refl _) (.map #[] 0)).alloc (by rw[s4];omega) (.cells #[.int .i64 (mo:Int),.int .i64 (t:Int),.pointer (some ⟨n,0,none⟩),.pointer (some ⟨a,0,none⟩),.pointer (some ⟨g,0,none⟩),.map (some w3.heap.size)] 171);have q:=heap_alloc_new (w3.alloc (.map #[] 0)) (.cells #[.int .i64 (mo:Int),.int .i64 (t:Int),.pointer (some ⟨n,0,none⟩),.pointer (some ⟨a,0,none⟩),.pointer (some ⟨g,0,none⟩),.map (some w3.heap.size)] 171);rw[s4] at q;have t1:∀k,Sn k->k < w1.heap.size:=λk hk=>L1.lt hk;have t2:∀k,Sa k->k < w2.heap.size:=λk hk=>L2.lt hk;have t3:∀k,Sg k->k < w3.heap.size:=λk hk=>L3.lt hk;have bb1:Below w1.heap.size w1 w3:=B2.trans (B3.mono s2);refine⟨⟨w3.heap.size+1,n,a,g,w3.heap.size⟩,⟨Sn,Sa,Sg⟩,rfl,⟨q,?_,?_,?_,?_,?_,hm⟩,λk hk=>?_,((B1.trans (B2.mono s1)).trans (B3.mono (by omega))).trans (b5.mono (by omega))⟩
 . exact L1.kept (by have:=b5.size;omega) λk hk=>(b5.block k (by have:=t1 k hk;omega)).trans (bb1.block k (t1 k hk))
 . exact L2.kept (by have:=b5.size;omega) λk hk=>(b5.block k (by have:=t2 k hk;omega)).trans (B3.block k (t2 k hk))
 . exact L3.kept b5.size λk hk=>b5.block k (t3 k hk)
 . exact(Om.made w3).same (Below.heap_alloc _ _ _ (by rw[s4];omega))
 . exact⟨λk hk ha=>by have:=t1 k hk;have:=h2 k ha;omega,λk hk ha=>by have:=t1 k hk;have:=h3 k ha;omega,λk hk ha=>by have:=t2 k hk;have:=h3 k ha;omega,
    λhk=>by have:=t1 _ hk;simp only at this;omega,λhk=>by have:=t2 _ hk;simp only at this;omega,λhk=>by have:=t3 _ hk;simp only at this;omega,
    λhk=>by have:=t1 _ hk;simp only at this;omega,λhk=>by have:=t2 _ hk;simp only at this;omega,λhk=>by have:=t3 _ hk;simp only at this;omega,by show w3.heap.size+1≠w3.heap.size;omega⟩
 . rcases hk with h|h|h|h|h
   . simp only at h;omega
   . simp only at h;omega
   . exact h1 k h
   . have:=h2 k h;omega
   . have:=h3 k h;omega
theorem new_any2(w:World)(z:Int)(n:Nat)(hz: -9223372036854775808<=z/\z<=9223372036854775807)(hn:n=z.toNat):Calls Tryz.prog 64 #[.int .i64 z] w (NewC n (n / 2) w):=by
 have e1:(if z < 0 then(0:Int) else z)=(n:Int):=by split <;> omega
 have hmax:max z 0=(n:Int):=by omega
 obtain⟨u,hu⟩:∃u,u=n / 2:=⟨_,rfl⟩;have e2:(n:Int).tdiv 2=(u:Int):=by rw[hu,Int.tdiv_eq_ediv_of_nonneg (by omega)];rfl
 rw[← hu];have HB:=Lib.hid (show n<=9223372036854775807/\u<=9223372036854775807 from⟨by omega,by omega⟩);have e3:IntKind.i64.wrap (u:Int)=(u:Int):=IntWalk.i64_in _ (by omega);have h2:=@run_makeMap Tryz.prog;clear hu hn;go_enter Tryz.func64,Tryz.ntmps64;go_wp2_with fail
 refine(ls_new w).mono ?_;rintro e w1 ⟨n1,Sn,rfl,hn1,L1,B1⟩;have HL1:=Lib.hid (And.intro L1 (And.intro B1 hn1));clear L1 B1 hn1;go_wp2_with fail
 refine(ls_new w1).mono ?_;rintro e w2 ⟨n2,Sa,rfl,hn2,L2,B2⟩;have HL2:=Lib.hid (And.intro L2 (And.intro B2 hn2));clear L2 B2 hn2;go_wp2_with fail
 refine(ls_new w2).mono ?_;rintro e w3 ⟨n3,Sg,rfl,hn3,L3,B3⟩;have F:=Lib.hid (made_y HL1.out.1 HL1.out.2.1 HL1.out.2.2 HL2.out.1 HL2.out.2.1 HL2.out.2.2 L3 B3 hn3 HB.out);clear L3 B3 hn3;go_wp2_with fail
 go_ret;exact F.out
end Go.Proofs.YtdmmciggopmglaaGreatDoor.SR
namespace Go.Proofs.YtdmmciggopmglaaGreatDoor.SR
open Go.RowKit Sg
structure St where
 mo:Nat
 t:Nat
 N:List ByteArray
 A:List ByteArray
 G:List ByteArray
 f:Told
def St.all(s:St):List ByteArray:=s.A++s.N++s.G
structure Pre(E:ByteArray->Prop)(s:St):Prop where
 nd:s.all.Nodup
 fin:∀x,s.f x=true->E x\/x∈s.all
 fA:∀x∈s.A,s.f x=true
structure Ok(s:St):Prop extends Pre (λ_=>False) s where
 le:s.A.length+s.N.length<=s.mo
 gl:s.G.length<=s.mo
 tl:s.t<=s.mo
def St.tot(s:St):Nat:=s.A.length+s.N.length+s.G.length
def St.hit(s:St)(k:ByteArray):Bool:=inn s.N k||inn s.A k
def St.cut(s:St)(n:Nat):St:=⟨s.mo,s.t,cutN n s.N s.A,cutA n s.N s.A,(cutQ n s.N s.A s.G).take s.mo,tcut s.f ((cutQ n s.N s.A s.G).drop s.mo)⟩
def St.prom(s:St)(k:ByteArray):St:=⟨s.mo,s.t,(k::s.A).drop (mx s.t)++s.N,(k::s.A).take (mx s.t),s.G,tput s.f k⟩
def St.onN(s:St)(k:ByteArray):St:=⟨s.mo,if s.f k=true then upT s.mo s.t else s.t,rem s.N k,s.A,s.G,s.f⟩
def St.onG(s:St)(k:ByteArray):St:=⟨s.mo,if s.f k=true then s.t else dnT s.t,s.N,s.A,rem s.G k,s.f⟩
def St.onA(s:St)(k:ByteArray):St:=⟨s.mo,s.t,s.N,k::rem s.A k,s.G,s.f⟩
def St.fr(s:St)(k:ByteArray):St:=⟨s.mo,s.t,k::s.N,s.A,s.G,s.f⟩
def St.req(s:St)(k:ByteArray):St:=
 if s.mo=0 then s
 else if inn s.A k=true then s.onA k
 else if inn s.N k=true then(s.onN k).prom k
 else if inn s.G k=true then((s.onG k).cut (s.mo - 1)).prom k
 else(s.cut (s.mo - 1)).fr k
def St.out(s:St)(k:ByteArray):Bool:=decide (s.mo≠0)&&!s.hit k&&decide (s.mo<=s.A.length+s.N.length)
def St.vic(s:St)(k:ByteArray):ByteArray:=if s.out k=true then lastKey (s.A++s.N) else⟨#[]⟩
def St.step(s:St)(k:ByteArray):Value:= .agg #[.bool (s.hit k),.string (s.vic k),.bool (s.out k)]
def St.rm(s:St)(k:ByteArray):St:=⟨s.mo,s.t,rem s.N k,rem s.A k,rem s.G k,tdel s.f k⟩
def St.adB(s:St)(k:ByteArray):Bool:=!s.hit k&&decide (s.N.length+s.A.length < s.mo)
def St.ad(s:St)(k:ByteArray):St:=if s.adB k=true then⟨s.mo,s.t,k::s.N,s.A,rem s.G k,tdel s.f k⟩ else s
def St.dr(s:St):St:=⟨s.mo,s.t,s.N.dropLast,dA s.N s.A,s.G,if anyKey (s.A++s.N)=true then tdel s.f (lastKey (s.A++s.N)) else s.f⟩
def St.size(s:St)(n:Nat):St:=⟨n,mn s.t n,s.N,s.A,s.G,s.f⟩
def St.rs(s:St)(n:Nat):St:=(s.size n).cut n
def St.start(n:Nat):St:=⟨n,n / 2,[],[],[],λ_=>false⟩
theorem cut_app(n:Nat)(N A:List ByteArray):cutA n N A++cutN n N A=(A++N).take (A.length+N.length - gone n N A):=by
 unfold cutA cutN;rw[List.take_append];congr 2;unfold gone;omega
theorem cut_len(n:Nat)(N A:List ByteArray):(cutA n N A).length+(cutN n N A).length=min n (A.length+N.length):=by
 rw[← List.length_append,cut_app,List.length_take,List.length_append];unfold gone;omega
theorem cutQ_len(n:Nat)(N A G:List ByteArray):(cutQ n N A G).length=gone n N A+G.length:=by
 unfold cutQ;rw[List.length_append,List.length_drop,List.length_append];unfold gone;omega
theorem cut_whole(n:Nat)(N A G:List ByteArray):cutA n N A++cutN n N A++cutQ n N A G=A++N++G:=by
 rw[cut_app];unfold cutQ;rw[← List.append_assoc,List.take_append_drop]
theorem cut_sub(s:St)(n:Nat):(s.cut n).all.Sublist s.all:=by
 have:=cut_whole n s.N s.A s.G;unfold St.all St.cut;rw[← this];exact List.Sublist.append_left (List.take_sublist _ _) _
theorem cut_tot(s:St)(n:Nat):(s.cut n).tot<=s.tot:=by
 have h1:=cut_len n s.N s.A;have h2:((cutQ n s.N s.A s.G).take s.mo).length<=gone n s.N s.A+s.G.length:=by rw[List.length_take,cutQ_len];omega
 unfold St.tot St.cut;show(cutA n s.N s.A).length+(cutN n s.N s.A).length+((cutQ n s.N s.A s.G).take s.mo).length<=_;unfold gone at h2;omega
section
variable{E:ByteArray->Prop}{s:St}{k:ByteArray}{n:Nat}
theorem Pre.cut(p:Pre E s)(n:Nat):Pre E (s.cut n):=by
 have hw:=cut_whole n s.N s.A s.G;have hnd:=p.nd;unfold St.all at hnd;rw[← hw] at hnd;refine⟨p.nd.sublist (cut_sub s n),λx hx=>?_,λx hx=>?_⟩
 . have hx:(s.f x&&!inn ((cutQ n s.N s.A s.G).drop s.mo) x)=true:=hx;rw[Bool.and_eq_true,Bool.not_eq_true',inn_no] at hx;refine(p.fin x hx.1).imp id λh=>?_;unfold St.all at h;rw[← hw] at h;unfold St.all St.cut;rcases List.mem_append.1 h with h|h
   . exact List.mem_append_left _ h
   . refine List.mem_append_right _ ?_;rw[← List.take_append_drop s.mo (cutQ n s.N s.A s.G)] at h;rcases List.mem_append.1 h with h|h
     . exact h
     . exact absurd h hx.2
 . show(s.f x&&!inn ((cutQ n s.N s.A s.G).drop s.mo) x)=true;have hxA:x∈cutA n s.N s.A:=hx;rw[Bool.and_eq_true,Bool.not_eq_true',inn_no];refine⟨p.fA x (List.mem_of_mem_take hxA),λh=>?_⟩;exact(List.nodup_append.1 hnd).2.2 x (List.mem_append_left _ hxA) x (List.mem_of_mem_drop h) rfl
theorem ok_cut(p:Pre (λ_=>False) s)(ht:s.t<=s.mo)(hn:n<=s.mo):Ok (s.cut n):=by
 refine⟨p.cut n,?_,?_,ht⟩
 . show(cutA n s.N s.A).length+(cutN n s.N s.A).length<=s.mo;rw[cut_len];omega
 . show((cutQ n s.N s.A s.G).take s.mo).length<=s.mo;rw[List.length_take];omega
theorem ok_prom(p:Pre (λx=>x=k) s)(hk:k∉s.all)(hl:s.A.length+s.N.length+1<=s.mo)(hg:s.G.length<=s.mo)(ht:s.t<=s.mo):Ok (s.prom k):=by
 have hw:(s.prom k).all=k::s.all:=by
  unfold St.all St.prom;rw[← List.append_assoc,List.take_append_drop];rfl
 refine⟨⟨by rw[hw,List.nodup_cons];exact⟨hk,p.nd⟩,λx hx=>Or.inr ?_,λx hx=>?_⟩,?_,hg,ht⟩
 . rw[hw];have hx:(if x=k then true else s.f x)=true:=hx
   by_cases e:x=k
   . rw[e];exact List.mem_cons_self
   . rw[if_neg e] at hx;rcases p.fin x hx with h|h
     . exact absurd h e
     . exact List.mem_cons_of_mem _ h
 . show(if x=k then true else s.f x)=true
   by_cases e:x=k
   . rw[if_pos e]
   . rw[if_neg e];rcases List.mem_cons.1 (List.mem_of_mem_take hx) with h|h
     . exact absurd h e
     . exact p.fA x h
 . show((k::s.A).take (mx s.t)).length+((k::s.A).drop (mx s.t)++s.N).length<=s.mo;rw[List.length_append,<-Nat.add_assoc,<-List.length_append,List.take_append_drop,List.length_cons];omega
theorem prom_tot(s:St)(k:ByteArray):(s.prom k).tot=s.tot+1:=by
 unfold St.tot St.prom;show((k::s.A).take (mx s.t)).length+((k::s.A).drop (mx s.t)++s.N).length+s.G.length=_;rw[List.length_append,<-Nat.add_assoc,<-List.length_append,List.take_append_drop,List.length_cons];omega
theorem up_le{mo t:Nat}(h:t<=mo):upT mo t<=mo:=by unfold upT;split <;> omega
theorem dn_le{mo t:Nat}(h:t<=mo):dnT t<=mo:=by unfold dnT;split <;> omega
theorem Ok.onA(p:Ok s)(hk:k∈s.A):Ok (s.onA k):=by
 have hA:(s.A).Nodup:=by have:=p.nd;unfold St.all at this;exact(List.nodup_append.1 (List.nodup_append.1 this).1).1
 have hp:(k::rem s.A k).Perm s.A:=by
  obtain⟨ps,qs,e⟩:=List.append_of_mem hk;rw[e] at hA|-;have h1:=List.nodup_append.1 hA;have h2:=List.nodup_cons.1 h1.2.1;have e1:rem ps k=ps:=rem_none (λhx=>h1.2.2 k hx k (by simp) rfl);have e2:rem qs k=qs:=rem_none h2.1
  have e3:rem (ps++k::qs) k=rem ps k++rem qs k:=by
   unfold rem;rw[List.filter_append,List.filter_cons_of_neg (by simp)]
  rw[e3,e1,e2];exact List.perm_middle.symm
 have hw:(s.onA k).all.Perm s.all:=by
  unfold St.all St.onA;exact(hp.append_right _).append_right _
 refine⟨⟨hw.nodup_iff.2 p.nd,λx hx=>(p.fin x hx).imp id λh=>hw.mem_iff.2 h,λx hx=>p.fA x (hp.mem_iff.1 hx)⟩,?_,p.gl,p.tl⟩;have:=hp.length_eq;show(k::rem s.A k).length+s.N.length<=s.mo;rw[this];exact p.le
theorem all_sub{s s':St}(hA:s'.A.Sublist s.A)(hN:s'.N.Sublist s.N)(hG:s'.G.Sublist s.G):s'.all.Sublist s.all:=(hA.append hN).append hG
theorem rem_sub(xs:List ByteArray)(k:ByteArray):(rem xs k).Sublist xs:=List.filter_sublist
theorem Ok.onN(p:Ok s)(hk:k∈s.N):Ok ((s.onN k).prom k):=by
 have hn:=p.nd;have hnN:s.N.Nodup:=by unfold St.all at hn;exact(List.nodup_append.1 (List.nodup_append.1 hn).1).2.1
 have hr:=rem_len hnN hk
 have hnot:k∉(s.onN k).all:=by
  unfold St.all St.onN;unfold St.all at hn;rw[List.mem_append,List.mem_append];rintro((h|h)|h)
  . exact(List.nodup_append.1 (List.nodup_append.1 hn).1).2.2 k h k hk rfl
  . exact rem_not h
  . exact(List.nodup_append.1 hn).2.2 k (List.mem_append_right _ hk) k h rfl
 refine ok_prom ⟨hn.sublist (show(s.onN k).all.Sublist s.all from all_sub (List.Sublist.refl _) (rem_sub _ _) (List.Sublist.refl _)),λx hx=>?_,p.fA⟩ hnot ?_ p.gl ?_
 . by_cases e:x=k
   . exact Or.inl e
   . rcases p.fin x hx with h|h
     . exact h.elim
     . right;unfold St.all at h|-;unfold St.onN;simp only[List.mem_append,rem_mem] at h|-;rcases h with(h|h)|h
       . exact Or.inl (Or.inl h)
       . exact Or.inl (Or.inr ⟨h,e⟩)
       . exact Or.inr h
 . show s.A.length+(rem s.N k).length+1<=s.mo;have:=p.le;omega
 . show(if s.f k=true then upT s.mo s.t else s.t)<=s.mo;split
   . exact up_le p.tl
   . exact p.tl
theorem Ok.onG(p:Ok s)(hk:k∈s.G)(hm:s.mo≠0):Ok (((s.onG k).cut (s.mo - 1)).prom k):=by
 have hn:=p.nd
 have hnot:k∉(s.onG k).all:=by
  unfold St.all St.onG;unfold St.all at hn;rw[List.mem_append];rintro(h|h)
  . exact(List.nodup_append.1 hn).2.2 k h k hk rfl
  . exact rem_not h
 have q:Pre (λx=>x=k) (s.onG k):=by
  refine⟨hn.sublist (show(s.onG k).all.Sublist s.all from all_sub (List.Sublist.refl _) (List.Sublist.refl _) (rem_sub _ _)),λx hx=>?_,p.fA⟩
  by_cases e:x=k
  . exact Or.inl e
  . rcases p.fin x hx with h|h
    . exact h.elim
    . right;unfold St.all at h|-;unfold St.onG;simp only[List.mem_append,rem_mem] at h|-;exact h.imp id λh=>⟨h,e⟩
 have hl:=cut_len (s.mo - 1) s.N s.A;refine ok_prom (q.cut _) (λh=>hnot ((cut_sub _ _).subset h)) ?_ ?_ ?_
 . show(cutA (s.mo - 1) s.N s.A).length+(cutN (s.mo - 1) s.N s.A).length+1<=s.mo;omega
 . show((cutQ (s.mo - 1) s.N s.A (rem s.G k)).take s.mo).length<=s.mo;rw[List.length_take];omega
 . show(if s.f k=true then s.t else dnT s.t)<=s.mo;split
   . exact p.tl
   . exact dn_le p.tl
theorem Ok.fresh(p:Ok s)(h1:k∉s.A)(h2:k∉s.N)(h3:k∉s.G)(hm:s.mo≠0):Ok ((s.cut (s.mo - 1)).fr k):=by
 have q:=ok_cut (n:=s.mo - 1) p.toPre p.tl (by omega)
 have hnot:k∉(s.cut (s.mo - 1)).all:=λh=>by
  have:=(cut_sub _ _).subset h;unfold St.all at this;rcases List.mem_append.1 this with h|h
  . rcases List.mem_append.1 h with h|h
    . exact h1 h
    . exact h2 h
  . exact h3 h
 have hl:=cut_len (s.mo - 1) s.N s.A
 have hw:((s.cut (s.mo - 1)).fr k).all.Perm (k::(s.cut (s.mo - 1)).all):=by
  unfold St.all St.fr;rw[List.append_assoc,List.append_assoc];exact List.perm_middle
 refine⟨⟨hw.nodup_iff.2 (List.nodup_cons.2 ⟨hnot,q.nd⟩),λx hx=>(q.fin x hx).imp id λh=>hw.mem_iff.2 (List.mem_cons_of_mem _ h),q.fA⟩,?_,q.gl,q.tl⟩;show(cutA (s.mo - 1) s.N s.A).length+(k::cutN (s.mo - 1) s.N s.A).length<=s.mo;rw[List.length_cons];omega
theorem Ok.req(p:Ok s)(k:ByteArray):Ok (s.req k):=by
 unfold St.req;split
 . exact p
 . rename_i hm
   split
   . rename_i h;exact p.onA (inn_iff.1 h)
   . rename_i h1
     split
     . rename_i h;exact p.onN (inn_iff.1 h)
     . rename_i h2
       split
       . rename_i h;exact p.onG (inn_iff.1 h) hm
       . rename_i h3
         exact p.fresh (λh=>h1 (inn_iff.2 h)) (λh=>h2 (inn_iff.2 h)) (λh=>h3 (inn_iff.2 h)) hm
theorem req_tot(_p:Ok s)(k:ByteArray):(s.req k).tot<=s.tot+1:=by
 unfold St.req;split
 . omega
 . split
   . unfold St.tot St.onA;show(k::rem s.A k).length+s.N.length+s.G.length<=_;have:=rem_le s.A k;rw[List.length_cons];omega
   . split
     . rw[prom_tot];unfold St.tot St.onN;show s.A.length+(rem s.N k).length+s.G.length+1<=_;have:=rem_le s.N k;omega
     . split
       . rw[prom_tot];have h1:=cut_tot (s.onG k) (s.mo - 1)
         have h2:(s.onG k).tot<=s.tot:=by
          unfold St.tot St.onG;show s.A.length+s.N.length+(rem s.G k).length<=_;have:=rem_le s.G k;omega
         omega
       . have h1:=cut_tot s (s.mo - 1)
         have h2:((s.cut (s.mo - 1)).fr k).tot=(s.cut (s.mo - 1)).tot+1:=by
          unfold St.tot St.fr;show(s.cut (s.mo - 1)).A.length+(k::(s.cut (s.mo - 1)).N).length+(s.cut (s.mo - 1)).G.length=_;rw[List.length_cons];omega
         omega
theorem tdel_fin{f:Told}{x:ByteArray}(h:tdel f k x=true):x≠k/\f x=true:=by
 unfold tdel at h
 by_cases e:x=k
 . rw[if_pos e] at h;cases h
 . rw[if_neg e] at h;exact⟨e,h⟩
theorem tdel_tru{f:Told}{x:ByteArray}(e:x≠k)(h:f x=true):tdel f k x=true:=by
 unfold tdel;rw[if_neg e];exact h
theorem Ok.rm(p:Ok s)(k:ByteArray):Ok (s.rm k):=by
 refine⟨⟨p.nd.sublist (all_sub (rem_sub _ _) (rem_sub _ _) (rem_sub _ _)),λx hx=>?_,λx hx=>?_⟩,?_,?_,p.tl⟩
 . obtain⟨e,h⟩:=tdel_fin hx;refine(p.fin x h).imp id λh=>?_;unfold St.all at h|-;unfold St.rm;simp only[List.mem_append,rem_mem] at h|-;rcases h with(h|h)|h
   . exact Or.inl (Or.inl ⟨h,e⟩)
   . exact Or.inl (Or.inr ⟨h,e⟩)
   . exact Or.inr ⟨h,e⟩
 . have:=(rem_mem (xs:=s.A) (k:=k) (x:=x)).1 hx;exact tdel_tru this.2 (p.fA x this.1)
 . show(rem s.A k).length+(rem s.N k).length<=s.mo;have:=rem_le s.A k;have:=rem_le s.N k;have:=p.le;omega
 . show(rem s.G k).length<=s.mo;have:=rem_le s.G k;have:=p.gl;omega
theorem rm_tot(s:St)(k:ByteArray):(s.rm k).tot<=s.tot:=by
 unfold St.tot St.rm;show(rem s.A k).length+(rem s.N k).length+(rem s.G k).length<=_;have:=rem_le s.A k;have:=rem_le s.N k;have:=rem_le s.G k;omega
theorem Ok.ad(p:Ok s)(k:ByteArray):Ok (s.ad k):=by
 unfold St.ad;split
 . rename_i h
   unfold St.adB St.hit at h;rw[Bool.and_eq_true,Bool.not_eq_true',Bool.or_eq_false_iff,inn_no,inn_no,decide_eq_true_eq] at h;obtain⟨⟨h1,h2⟩,h3⟩:=h;have q:=p.rm k
   have e:(s.rm k).fr k=⟨s.mo,s.t,k::s.N,s.A,rem s.G k,tdel s.f k⟩:=by
    unfold St.fr St.rm;rw[rem_none h1,rem_none h2]
   rw[← e]
   have hnot:k∉(s.rm k).all:=λh=>by
    unfold St.all St.rm at h;simp only[List.mem_append,rem_mem] at h;rcases h with(h|h)|h
    . exact h.2 rfl
    . exact h.2 rfl
    . exact h.2 rfl
   have hw:((s.rm k).fr k).all.Perm (k::(s.rm k).all):=by
    unfold St.all St.fr;rw[List.append_assoc,List.append_assoc];exact List.perm_middle
   refine⟨⟨hw.nodup_iff.2 (List.nodup_cons.2 ⟨hnot,q.nd⟩),λx hx=>(q.fin x hx).imp id λh=>hw.mem_iff.2 (List.mem_cons_of_mem _ h),q.fA⟩,?_,q.gl,q.tl⟩;show(rem s.A k).length+(k::rem s.N k).length<=s.mo;rw[rem_none h1,rem_none h2,List.length_cons];omega
 . exact p
theorem ad_tot(s:St)(k:ByteArray):(s.ad k).tot<=s.tot+1:=by
 unfold St.ad;split
 . unfold St.tot;show s.A.length+(k::s.N).length+(rem s.G k).length<=_;have:=rem_le s.G k;rw[List.length_cons];omega
 . omega
theorem Ok.rs(p:Ok s)(n:Nat):Ok (s.rs n):=ok_cut (s:=s.size n) ⟨p.nd,p.fin,p.fA⟩ (by show mn s.t n<=n;unfold mn;split <;> omega) (Nat.le_refl _)
theorem rs_tot(s:St)(n:Nat):(s.rs n).tot<=s.tot:=cut_tot (s.size n) n
theorem ok_start(n:Nat):Ok (St.start n):=⟨⟨List.nodup_nil,(λx h=>by cases h),(λx h=>by cases h)⟩,Nat.zero_le _,Nat.zero_le _,by show n / 2<=n;omega⟩
end
end Go.Proofs.YtdmmciggopmglaaGreatDoor.SR
namespace Go.Proofs.YtdmmciggopmglaaGreatDoor.SR
open Go.RowKit Sg
def Ca(w:World)(c:Nat)(T:Nat->Prop)(s:St)(b:Nat):Prop:=∃i S,i.c=c/\T=blk i S/\Raw w i S s.mo s.t s.N s.A s.G s.f b/\Ok s/\s.tot<=b
def CaPost(v:Value)(w:World)(c:Nat)(T:Nat->Prop)(s:St)(b:Nat)(e:Ending)(w':World):Prop:=e= .returned v/\∃T',Ca w' c T' s b/\Went w w' T T'
section
variable{w w':World}{i:Ix}{S:Sx}{c b b':Nat}{T:Nat->Prop}{s:St}{v:Value}{e:Ending}{k:ByteArray}
theorem RPost.ca(h:RPost v w i S s.mo s.t s.N s.A s.G s.f b e w')(p:Ok s)(ht:s.tot<=b):CaPost v w i.c (blk i S) s b e w':=by
 obtain⟨he,S',hR,hW⟩:=h;exact⟨he,blk i S',⟨i,S',rfl,rfl,hR,p,ht⟩,hW⟩
theorem Ca.lt(h:Ca w c T s b){k:Nat}(hk:T k):k < w.heap.size:=by
 obtain⟨i,S,rfl,rfl,hR,_⟩:=h;exact hR.lt hk
theorem Ca.below(h:Ca w c T s b)(hb:Below w.heap.size w w'):Ca w' c T s b:=by
 obtain⟨i,S,rfl,rfl,hR,hp⟩:=h;exact⟨i,S,rfl,rfl,hR.below hb,hp⟩
theorem Ca.ok(h:Ca w c T s b):Ok s:=by obtain⟨i,S,rfl,rfl,hR,hp,_⟩:=h;exact hp
theorem Ca.small(h:Ca w c T s b):∀x∈s.all,x.size<=maxLen:=by
 obtain⟨i,S,rfl,rfl,hR,_⟩:=h;intro x hx;unfold St.all at hx;rcases List.mem_append.1 hx with h|h
 . rcases List.mem_append.1 h with h|h
   . exact hR.a.small x h
   . exact hR.n.small x h
 . exact hR.g.small x h
theorem Ca.mono(h:Ca w c T s b)(hb:b<=b'):Ca w c T s b':=by
 obtain⟨i,S,rfl,rfl,hR,hp,ht⟩:=h;exact⟨i,S,rfl,rfl,hR.mono hb,hp,by omega⟩
theorem Ca.beside(h:Ca w c T s b){X:Nat->Prop}(ht:Turn X w w')(hx:∀k,T k->¬X k):Ca w' c T s b:=by
 obtain⟨i,S,rfl,rfl,hR,hp⟩:=h;exact⟨i,S,rfl,rfl,hR.beside ht hx,hp⟩
theorem step_miss(p:Ok s)(hm:s.mo≠0)(hh:s.hit k=false)(m:Nat)(hmm:s.mo=m+1):
 Value.agg #[.bool false,.string (vicOf ((s.A++s.N).reverse.take (s.A.length+s.N.length - m))),.bool (!((s.A++s.N).reverse.take (s.A.length+s.N.length - m)).isEmpty)]=s.step k:=by
 have hle:=p.le;unfold St.step St.vic St.out;rw[hh]
 by_cases hf:s.mo<=s.A.length+s.N.length
 . have hn:s.A.length+s.N.length - m=1:=by omega
   rw[hn];have hL:s.A++s.N≠ []:=λh=>by have:=congrArg List.length h;rw[List.length_append,List.length_nil] at this;omega
   have e1:(s.A++s.N).reverse.take 1= [lastKey (s.A++s.N)]:=by
    have:=(gone_row (L:=s.A++s.N) (j:=0) (by rw[List.length_append];omega)).2;rw[List.take_zero,List.nil_append] at this;rw[this];unfold lastKey;rw[List.getLastD_eq_getLast?,List.getLast?_eq_getElem?,List.getD_eq_getElem?_getD]
   rw[e1];simp[hm,hf,vicOf,lastKey]
 . have hn:s.A.length+s.N.length - m=0:=by omega
   rw[hn];simp[hf,vicOf]
end
section
variable(w:World)(c:Nat)(T:Nat->Prop)(s:St)(b:Nat)(key:ByteArray)(h:Ca w c T s b)
include h
theorem has_ca(hs:key.size<=maxLen):Calls Tryz.prog 261 #[.pointer (some ⟨c,0,none⟩),.string key] w (BoolPost (s.hit key) w):=by
 obtain⟨i,S,rfl,rfl,hR,hp⟩:=h;exact hasY w i S _ _ _ _ _ _ b hR key hs
theorem len_ca:Calls Tryz.prog 263 #[.pointer (some ⟨c,0,none⟩)] w (Qt (.int .i64 ((s.N.length+s.A.length:Nat):Int)) w):=by
 obtain⟨i,S,rfl,rfl,hR,hp⟩:=h;exact lenY w i S _ _ _ _ _ _ b hR
theorem keys_ca:Calls Tryz.prog 262 #[.pointer (some ⟨c,0,none⟩)] w (RowPost (s.A++s.N).reverse w):=by
 obtain⟨i,S,rfl,rfl,hR,hp⟩:=h;exact keysY w i S _ _ _ _ _ _ b hR
theorem victim_ca:Calls Tryz.prog 267 #[.pointer (some ⟨c,0,none⟩)] w (KeyPost (lastKey (s.A++s.N)) (anyKey (s.A++s.N)) w):=by
 obtain⟨i,S,rfl,rfl,hR,hp⟩:=h;exact victimY w i S _ _ _ _ _ _ b hR
theorem remove_ca(hs:key.size<=maxLen):Calls Tryz.prog 264 #[.pointer (some ⟨c,0,none⟩),.string key] w (CaPost (.bool (s.hit key)) w c T (s.rm key) b):=by
 obtain⟨i,S,rfl,rfl,hR,hp,ht⟩:=h;refine(removeY w i S _ _ _ _ _ _ b hR key hs λh1=>?_).mono λe w' q=>RPost.ca (s:=s.rm key) q (hp.rm key) (Nat.le_trans (rm_tot s key) ht);rw[inn_no];intro h2;have:=hp.nd;unfold St.all at this;exact(List.nodup_append.1 (List.nodup_append.1 this).1).2.2 key h2 key (inn_iff.1 h1) rfl
theorem adopt_ca(hs:key.size<=maxLen)(hb:b<=98000):Calls Tryz.prog 258 #[.pointer (some ⟨c,0,none⟩),.string key] w (CaPost (.bool (s.adB key)) w c T (s.ad key) (b+1)):=by
 obtain⟨i,S,rfl,rfl,hR,hp,ht⟩:=h;have htt:=Nat.le_trans (ad_tot s key) (Nat.succ_le_succ ht);have hok:=hp.ad key;have hlen:=hR.n.len;cases hi:s.hit key with
 |true=>
  have e1:s.adB key=false:=by simp[St.adB,hi]
  have e2:s.ad key=s:=by unfold St.ad;rw[e1];rfl
  rw[e1,e2];refine(adopt_in w i S _ _ _ _ _ _ b key hR hs hi).mono λe w' ⟨he,S',r,hW⟩=>?_;exact⟨he,_,⟨i,S',rfl,rfl,r.mono (by omega),hp,by omega⟩,hW⟩
 |false=>
  have hi2:=hi;unfold St.hit at hi2;rw[Bool.or_eq_false_iff] at hi2
  by_cases hf:s.N.length+s.A.length < s.mo
  . have e1:s.adB key=true:=by simp[St.adB,hi,hf]
    rw[e1];refine(adopt_room w i S _ _ _ _ _ _ b key hR hs hi2.1 hi2.2 hf hlen.1 hb).mono λe w' q=>?_;unfold St.ad at hok htt|-;rw[if_pos e1] at hok htt|-;exact RPost.ca q hok htt
  . have e1:s.adB key=false:=by simp[St.adB,hi,hf]
    have e2:s.ad key=s:=by unfold St.ad;rw[e1];rfl
    rw[e1,e2];refine(adopt_full w i S _ _ _ _ _ _ b key hR hs hi (by omega)).mono λe w' ⟨he,S',r,hW⟩=>?_;exact⟨he,_,⟨i,S',rfl,rfl,r.mono (by omega),hp,by omega⟩,hW⟩
theorem request_ca(hs:key.size<=maxLen)(hb:b<=98000):Calls Tryz.prog 265 #[.pointer (some ⟨c,0,none⟩),.string key] w (CaPost (s.step key) w c T (s.req key) (b+1)):=by
 obtain⟨i,S,rfl,rfl,hR,hp,ht⟩:=h;have htt:=Nat.le_trans (req_tot hp key) (Nat.succ_le_succ ht);have hok:=hp.req key;have hnd:=hp.nd;unfold St.all at hnd;have hle:=hp.le;have htot:=ht;unfold St.tot at htot
 by_cases hm:s.mo=0
 . have hA:s.A= []:=List.eq_nil_of_length_eq_zero (by omega);have hN:s.N= []:=List.eq_nil_of_length_eq_zero (by omega);have e2:s.req key=s:=by unfold St.req;rw[if_pos hm]
   have e1:s.step key= .agg #[.bool false,.string ⟨#[]⟩,.bool false]:=by
    unfold St.step St.vic St.out St.hit;rw[hA,hN];simp[hm,inn]
   rw[e1,e2];refine(req_zero w i S _ _ _ _ _ _ b key hR hs hm (by rw[hN];rfl) (by rw[hA];rfl)).mono λe w' ⟨he,S',r,hW⟩=>?_;exact⟨he,_,⟨i,S',rfl,rfl,r.mono (by omega),hp,by omega⟩,hW⟩
 cases hA:inn s.A key with
 |true=>
  have hN:inn s.N key=false:=by
   rw[inn_no];intro h2;exact(List.nodup_append.1 (List.nodup_append.1 hnd).1).2.2 key (inn_iff.1 hA) key h2 rfl
  have e2:s.req key=s.onA key:=by unfold St.req;rw[if_neg hm,if_pos hA]
  have e1:s.step key= .agg #[.bool true,.string ⟨#[]⟩,.bool false]:=by
   unfold St.step St.vic St.out St.hit;rw[hA,hN];simp
  rw[e2] at hok htt;rw[e1,e2];exact(req_A w i S _ _ _ _ _ _ b key hR hs hb hm hN hA (by omega)).mono λe w' q=>RPost.ca (s:=s.onA key) q hok htt
 |false=>
 cases hN:inn s.N key with
 |true=>
  have e2:s.req key=(s.onN key).prom key:=by unfold St.req;rw[if_neg hm,if_neg (by rw[hA];simp),if_pos hN]
  have e1:s.step key= .agg #[.bool true,.string ⟨#[]⟩,.bool false]:=by
   unfold St.step St.vic St.out St.hit;rw[hA,hN];simp
  rw[e2] at hok htt;rw[e1,e2];cases hf:s.f key with
  |true=>
   refine(req_No w i S _ _ _ _ _ _ b key hR hs hb hm hN hA hf (List.nodup_append.1 hnd).1 (by omega)).mono λe w' q=>RPost.ca (s:=(s.onN key).prom key) ?_ hok htt;unfold St.prom St.onN;simp only[hf,if_true];exact q
  |false=>
   refine(req_Nn w i S _ _ _ _ _ _ b key hR hs hb hm hN hA hf (List.nodup_append.1 hnd).1 (by omega)).mono λe w' q=>RPost.ca (s:=(s.onN key).prom key) ?_ hok htt;unfold St.prom St.onN;simp only[hf];exact q
 |false=>
 have hh:s.hit key=false:=by unfold St.hit;rw[hA,hN];rfl
 have hst:=step_miss hp hm hh (s.mo - 1) (by omega);cases hG:inn s.G key with
 |true=>
  have e2:s.req key=((s.onG key).cut (s.mo - 1)).prom key:=by unfold St.req;rw[if_neg hm,if_neg (by rw[hA];simp),if_neg (by rw[hN];simp),if_pos hG]
  rw[e2] at hok htt;rw[← hst,e2];cases hf:s.f key with
  |true=>
   refine(req_Go w i S _ _ _ _ _ _ b key hR hs hb (s.mo - 1) (by omega) hN hA hG hf hnd (by omega)).mono λe w' q=>RPost.ca (s:=((s.onG key).cut (s.mo - 1)).prom key) ?_ hok htt;unfold St.prom St.cut St.onG;simp only[hf,if_true];exact q
  |false=>
   refine(req_Gn w i S _ _ _ _ _ _ b key hR hs hb (s.mo - 1) (by omega) hN hA hG hf hnd (by omega)).mono λe w' q=>RPost.ca (s:=((s.onG key).cut (s.mo - 1)).prom key) ?_ hok htt;unfold St.prom St.cut St.onG;simp only[hf];exact q
 |false=>
  have e2:s.req key=(s.cut (s.mo - 1)).fr key:=by unfold St.req;rw[if_neg hm,if_neg (by rw[hA];simp),if_neg (by rw[hN];simp),if_neg (by rw[hG];simp)]
  rw[e2] at hok htt;rw[← hst,e2];exact(req_new w i S _ _ _ _ _ _ b key hR hs hb (s.mo - 1) (by omega) hN hA hG hnd (by omega)).mono λe w' q=>RPost.ca (s:=(s.cut (s.mo - 1)).fr key) q hok htt
theorem resize_ca(z:Int)(hz: -9223372036854775808<=z/\z<=9223372036854775807)(hb:b<=98000):Calls Tryz.prog 266 #[.pointer (some ⟨c,0,none⟩),.int .i64 z] w
 (λe w'=>∃v T',e= .returned v/\Own w' w.heap.size v ((s.A++s.N).reverse.take (s.A.length+s.N.length - z.toNat))/\Ca w' c T' (s.rs z.toNat) b/\Went w w' T T'/\∀g,v.ownBlock=some g->¬T' g):=by
 obtain⟨i,S,rfl,rfl,hR,hp,ht⟩:=h;have hnd:=hp.nd;unfold St.all at hnd;have htot:=ht;unfold St.tot at htot;refine(resizeY w i S _ _ _ _ _ _ b z z.toNat hR hz rfl hnd (by omega) hb).mono ?_;rintro e w' ⟨v,S',he,hO,r,hW,hv⟩;exact⟨v,_,he,hO,⟨i,S',rfl,rfl,r,hp.rs _,Nat.le_trans (rs_tot s _) ht⟩,hW,hv⟩
end
def NewS(s:St)(w:World)(e:Ending)(w':World):Prop:=∃c T,e= .returned (.pointer (some ⟨c,0,none⟩))/\Ca w' c T s 0/\(∀k,T k->w.heap.size<=k)/\Below w.heap.size w w'
theorem new_ca(w:World)(z:Int)(hz: -9223372036854775808<=z/\z<=9223372036854775807):Calls Tryz.prog 64 #[.int .i64 z] w (NewS (St.start z.toNat) w):=by
 refine(new_any2 w z z.toNat hz rfl).mono ?_;rintro e w' ⟨i,S,he,r,hS,hB⟩;exact⟨i.c,_,he,⟨i,S,rfl,rfl,r,ok_start _,Nat.le_refl _⟩,hS,hB⟩
section
variable{w0 w w':World}{c b b':Nat}{T T':Nat->Prop}{s s':St}{xs:List ByteArray}{r v:Value}{e:Ending}
end
section
variable(w:World)(a b a' b':Bool)(s t:ByteArray)
end
end Go.Proofs.YtdmmciggopmglaaGreatDoor.SR
