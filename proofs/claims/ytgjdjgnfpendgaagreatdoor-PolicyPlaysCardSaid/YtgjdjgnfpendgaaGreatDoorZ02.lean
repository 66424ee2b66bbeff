/- Part 2 of the proof. -/
import Derived.Test.YtgjdjgnfpendgaaGreatDoorZ00
import Derived.Test.YtgjdjgnfpendgaaGreatDoorZ01
import Derived.BigQuiet
import Derived.Deep.Draws
import Derived.Deep.LoopGhost
import Derived.Deep.QuietTactic
import Derived.Deep.RegionHeld3
import Derived.Laws.StructEq
set_option maxHeartbeats 16000000
set_option maxRecDepth 20000
namespace Go.Proofs.YtgjdjgnfpendgaaGreatDoor
open Go.Proofs.Tryz
namespace LF
namespace HS
open Go.RowKit Ht Go.Maps Go.WideMaps
def oB(a b:aa Key):Int:=if lt a b then -1 else if lt b a then 1 else 0
def JO(z:Int)(w:zw)(e:Ending)(w':zw):Prop:=e= .returned (.int .i64 z)/\b6 w w'
theorem JP(w:zw)(x y:Nat)(a b:aa Key)(hx:Seen w x a)(hy:Seen w y b):
 Calls prog 185 #[.pointer (some ⟨x,0,none⟩),.pointer (some ⟨y,0,none⟩)] w (JO (oB a b) w):=by
 have A1:=J (kU w x y a b hx hy);have A2:=J (λ(w':zw) (g:b6 w w')=>kU w' y x b a (hy.j' g) (hx.j' g));clear hx hy
 by_cases h1:lt a b
 . have HZ:=J (show oB a b= -1 from if_pos h1);rw[decide_eq_true h1] at A1;clear h1;go_enter func185,ntmps185;go_wp2_with fail
   refine A1.out.mono ?_;rintro e w1 ⟨rfl,hG⟩;have G1:=J hG;clear hG;go_wp2_with fail
   go_ret;exact⟨kn HZ.out.symm,G1.out⟩
 . rw[decide_eq_false h1] at A1
   by_cases h2:lt b a
   . have HZ:=J (show oB a b=1 by unfold oB;rw[if_neg h1,if_pos h2]);rw[decide_eq_true h2] at A2;clear h1 h2;go_enter func185,ntmps185;go_wp2_with fail
     refine A1.out.mono ?_;rintro e w1 ⟨rfl,hG⟩;have G1:=J hG;clear hG;go_wp2_with fail
     refine(A2.out w1 G1.out).mono ?_;rintro e w2 ⟨rfl,hG⟩;have G2:=J hG;clear hG;go_wp2_with fail
     go_ret;exact⟨kn HZ.out.symm,G1.out.trans G2.out⟩
   . have HZ:=J (show oB a b=0 by unfold oB;rw[if_neg h1,if_neg h2]);rw[decide_eq_false h2] at A2;clear h1 h2;go_enter func185,ntmps185;go_wp2_with fail
     refine A1.out.mono ?_;rintro e w1 ⟨rfl,hG⟩;have G1:=J hG;clear hG;go_wp2_with fail
     refine(A2.out w1 G1.out).mono ?_;rintro e w2 ⟨rfl,hG⟩;have G2:=J hG;clear hG;go_wp2_with fail
     go_ret;exact⟨kn HZ.out.symm,G1.out.trans G2.out⟩
def Row(base:Nat)(rv:Value)(B:List Nat)(W:zw):Prop:=∃a cap,rv= .slice a B.length cap/\B.length<=cap/\cap<=maxLen/\(B.length≠0->∃g,a=some ⟨g,0,none⟩/\base<=g/\g < W.heap.size/\∀j,j < B.length->W.cell? ⟨g,j,none⟩=some (.pointer (some ⟨tg B j,0,none⟩))/\W.frozen? ⟨g,j,none⟩=false)
def DO(w:zw)(B:List Nat)(e:Ending)(w':zw):Prop:=∃rv,e= .returned rv/\Row w.heap.size rv B w'/\Below w.heap.size w w'
theorem DP(w:zw)(v:Value)(T:List Nat)(hT:Tree w v T)(hl:T.length<=1000):
 Calls prog 183 #[v] w (DO w T):=by
 rcases hT with⟨rfl,rfl⟩|⟨tb,cap,arr,rfl,h2,h3,h4,h5,h6⟩
 . exact(AnyE.slices_Clone_nil DM 0 0 w).mono λe w' h=>⟨_,h.1,⟨none,0,rfl,Nat.le_refl _,by unfold maxLen;omega,λh=>absurd rfl h⟩,by rw[h.2];exact Below.refl _ _⟩
 . obtain⟨i0,hi,fL,fC,fx⟩:=info_parts IN;refine(AnyE.slices_Clone DM i0 (.pointer none) 1 8 hi fL fC fx rfl (by decide) (λ_=>by kernel_rfl) tb 0 T.length cap (T.map λb=>Value.pointer (some ⟨b,0,none⟩)) w (by simp) (by unfold maxLen;omega) (by omega) ?_ ?_).mono ?_
   . intro j u hj;rw[xj] at hj
     have mQ:j < T.length:=by
      by_cases h:j < T.length
      . exact h
      . rw[List.getElem?_eq_none (by omega)] at hj;cases hj
     rw[fm mQ] at hj;rw[Nat.zero_add,cell_of_row w _ _ _ _ _ h2,h6 j mQ];exact hj
   . intro u hu;obtain⟨b,_,rfl⟩:=List.mem_map.1 hu;rfl
   . rintro e w' ⟨v',rfl,aS,ko,hb⟩;refine⟨v',rfl,?_,hb⟩;rcases aS.2 with⟨h1,h0⟩|⟨g,fY,cur,rfl,hg,c2,c4,c5,c3,c6⟩
     . exact absurd h1 ko
     . refine⟨_,fY,rfl,c4,c5,λ_=>⟨g,rfl,hg,(Array.getElem?_eq_some_iff.1 c2).1,λj hj=>⟨?_,frozen_of_row w' _ _ _ _ c2⟩⟩⟩;rw[cell_of_row w' _ _ _ _ _ c2];have:=congrArg (λl=>l[j]?) c6;simp only[xv,xj,fm hj] at this;rw[if_pos (by omega),Array.getElem?_toList] at this;exact this
theorem uk{α:Type} [Inhabited α] (enc:α->Value)(w:zw)(ax off n:Nat)(d:Array α)(os:Array Obj){k:Nat}(hk:k < w.heap.size)(al:k≠ax):(sortWorld enc w ax off n d os).heap[k]?=w.heap[k]?:=by
 unfold sortWorld;rw[Go.Sort.heap_grow_old _ _ (by simpa using hk)];simp[Go.Sort.putRow,Go.Sort.mapBlock,Array.getElem?_modify,qa al]
theorem Cu{α:Type} [Inhabited α] (enc:α->Value)(w:zw)(ax off n B:Nat)(d:Array α)(os:Array Obj)(hB:B<=ax)(hblk:ax < w.heap.size):Below B w (sortWorld enc w ax off n d os):=
 ⟨rfl,rfl,rfl,by unfold sortWorld;simp,λ_ hk=>uk enc w ax off n d os (by omega) (by omega)⟩
abbrev It(T:List Nat):Type:={b:Nat // b∈T}
def encI(T:List Nat)(x:It T):Value:= .pointer (some ⟨x.1,0,none⟩)
def DQ(T:List Nat)(E:Nat->aa Key)(x y:It T):Int:=oB (E x.1) (E y.1)
theorem IZ(T:List Nat)(E:Nat->aa Key)(x y:It T):ltOf (DQ T E) x y=decide (lt (E x.1) (E y.1)):=by
 unfold ltOf DQ oB
 by_cases h1:lt (E x.1) (E y.1)
 . simp[h1]
 . by_cases h2:lt (E y.1) (E x.1) <;> simp[h1,h2]
theorem Tq(T:List Nat)(E:Nat->aa Key):Go.Sort.SWO (ltOf (DQ T E)) where
 irrefl x:=by rw[IZ];exact decide_eq_false (lt.irrefl _)
 trans x y z h1 h2:=by rw[IZ] at *;exact decide_eq_true ((of_decide_eq_true h1).trans (of_decide_eq_true h2))
 ntrans x y z h1 h2:=by
  rw[IZ] at*;have h1:=of_decide_eq_false h1;have h2:=of_decide_eq_false h2;refine decide_eq_false (λh3=>?_);unfold lt at h1 h2 h3;omega
def F0(w0:zw)(L:List (aa Key))(E:Nat->aa Key)(T:List Nat)(rv:Value)(e:Ending)(w':zw):Prop:=e= .returned (.tuple #[])/\∃B,B.map E=L/\(∀b∈B,b∈T)/\Row w0.heap.size rv B w'/\Below w0.heap.size w0 w'
theorem vA{T:List Nat}(E:Nat->aa Key){d d':Array (It T)} [Inhabited (It T)] (hd:d.toList.map (·.1)=T)(hp:Go.Sort.PermIn 0 d.size d d'):(d'.toList.map λx=>E x.1).Perm (T.map E):=by
 have h1:=hp.2.2;have e1:d.extract 0 d.size=d:=by simp
 have e2:d'.extract 0 d.size=d':=by rw[← hp.1];simp
 rw[e1,e2] at h1;have:=h1.map (λx=>E x.1);refine this.trans ?_;have e:T.map E=(d.toList.map (·.1)).map E:=by rw[hd]
 rw[e,List.map_map];exact List.Perm.refl _
theorem F8(w w1:zw)(h M:Nat)(v:Value)(T:List Nat)(E:Nat->aa Key)(f:Key->Option Nat)(L:List (aa Key))(c:Nat)(rv:Value)(s:St w h M v T E f L c)(hR:Row w.heap.size rv T w1)(hb:Below w.heap.size w w1):
 Calls prog 184 #[rv,.func (.func 185) #[] #[]] w1 (F0 w L E T rv):=by
 obtain⟨a,cap,rfl,hc,hm,jh⟩:=hR
 by_cases hT:T.length=0
 . obtain rfl:=qe hT;have hL:L= []:=qe s.len;subst hL;exact(AnyF.slices_SortFunc_none {IY with} a cap _ w1).mono λe w' h=>⟨h.1,[],rfl,by simp,⟨a,cap,rfl,hc,hm,λh=>absurd rfl h⟩,by rw[h.2];exact hb⟩
 . obtain⟨g,rfl,hg,Cv,bX⟩:=jh hT;have:Inhabited (It T):=⟨⟨tg T 0,dZ (by omega)⟩⟩;obtain⟨d,hd⟩:∃d:Array (It T),d=T.attach.toArray:=⟨_,rfl⟩;have I0:d.size=T.length:=by rw[hd];simp
   have DS:d.toList.map (·.1)=T:=by
    rw[hd];exact List.attach_map_subtype_val T
   have QY:∀j,j < d.size->(d[j]!).1=tg T j:=λj hj=>by
    have h1:=congrArg (λl=>l[j]?) DS;simp only[xj,Array.getElem?_toList] at h1;rw[Array.getElem?_eq_getElem hj,fm (by omega)] at h1;rw[getElem!_pos d j hj];exact Option.some.inj h1
   have hH:Go.Sort.Holds (encI T) w1 g 0 d:=λj hj=>by
    rw[Nat.zero_add];obtain⟨q1,q2⟩:=bX j (by omega);refine⟨?_,q2⟩;rw[q1];unfold encI;rw[QY j hj]
   have Po:∀x:It T,Seen w1 x.1 (E x.1)/\x.1 < w.heap.size:=λx=>by
    obtain⟨i,hi,he⟩:=gP x.2;have aQ:=s.hold.ue hi;have h1:=s.hold.seen hi;rw[he] at h1 aQ;exact⟨⟨(hb.cell (p:=⟨x.1,1,none⟩) aQ).trans h1.1,(hb.cell (p:=⟨x.1,2,none⟩) aQ).trans h1.2.1,(hb.cell (p:=⟨x.1,3,none⟩) aQ).trans h1.2.2⟩,aQ⟩
   have Tr:CmpLays1 prog 185 #[] (encI T) (DQ T E) g 0 d.size w1:=by
    intro m os dk jl x y
    have hs:∀x:It T,Seen (sortWorld (encI T) w1 g 0 m dk os) x.1 (E x.1):=λx=>by
     obtain⟨h1,h2⟩:=Po x;have bW:=hb.size;have hk:=uk (encI T) w1 g 0 m dk os (k:=x.1) (by omega) (by omega);exact⟨(World.cell?_of_block (a:=⟨x.1,1,none⟩) hk).trans h1.1,(World.cell?_of_block (a:=⟨x.1,2,none⟩) hk).trans h1.2.1,(World.cell?_of_block (a:=⟨x.1,3,none⟩) hk).trans h1.2.2⟩
    exact JP _ x.1 y.1 (E x.1) (E y.1) (hs x) (hs y)
   have eg:∀args w,(callFunc 185 args).run prog w= .ok (.enter 185 args) w:=enters_of func185 (by kernel_rfl) rfl;have LD:=Any.slices_SortFunc IY (encI T) (λ_=>rfl) (DQ T E) (Tq T E) 185 #[] g 0 cap d w1 eg Tr hH Cv (by have:=s.hold.top;omega);rw[I0] at LD;refine Calls.mono (show Calls prog 184 _ w1 _ from LD) ?_;rintro e w' ⟨rfl,d',n,os,hp,QZ,rfl⟩;rw[← I0] at hp QZ;have F9:=hp.1
   have hB:(d'.toList.map (·.1)).map E=L:=by
    rw[List.map_map];have mO:=vA E DS hp;refine mJ.uniq (mO.trans s.perm.symm) ?_ s.nY;have cG:=s.eD;have LG:((d'.toList.map λx=>E x.1).map (·.set)).Nodup:=((mO.map _).nodup_iff).2 (by rw[List.map_map];exact cG);refine List.pairwise_iff_getElem.2 λi j hi hj p9=>?_;have mN:i < d'.size:=by simpa using hi
    have yl:j < d'.size:=by simpa using hj
    have q1:=QZ i j (xg _) p9 (by omega);rw[IZ,getElem!_pos d' j yl,getElem!_pos d' i mN] at q1;have q2:=List.pairwise_iff_getElem.1 LG i j (by simpa using hi) (by simpa using hj) p9;simp only[List.getElem_map,Array.getElem_toList] at q2|-;exact lt.cz (qa q2) (of_decide_eq_false q1)
   refine⟨rfl,d'.toList.map (·.1),hB,λb j9=>?_,⟨_,cap,by simp[F9,I0],by simp[F9,I0];exact hc,hm,λ_=>⟨g,rfl,hg,lt_sortWorld _ _ _ _ _ _ _ Cv,λj hj=>?_⟩⟩,?_⟩
   . obtain⟨x,_,rfl⟩:=List.mem_map.1 j9;exact x.2
   . have yl:j < d'.size:=by simpa using hj
     have q:=holds_sortWorld (encI T) w1 g 0 n d d' os Cv hH F9 j yl;rw[Nat.zero_add] at q;refine⟨?_,q.2⟩;rw[q.1];unfold encI
     have:tg (d'.toList.map (·.1)) j=(d'[j]!).1:=by
      have h1:=fm (T:=d'.toList.map (·.1)) (i:=j) hj;simp only[xj,Array.getElem?_toList] at h1;rw[Array.getElem?_eq_getElem yl] at h1;rw[getElem!_pos d' j yl];exact(Option.some.inj h1).symm
     rw[this]
   . exact hb.trans (Cu _ _ _ _ _ _ _ _ hg Cv)
end HS
end LF
namespace LF
namespace HS
open Go.RowKit Ht Go.Maps Go.WideMaps
structure LH(w w2:zw)(E:Nat->aa Key)(B:List Nat)(i:Nat)(W:zw):Prop where
 mem:∃arr:Array Value,W.heap[w2.heap.size]?=some (.cells arr 9 (0,0))/\arr.size=B.length/\∀j,j < i->arr[j]?=some (.string (E (tg B j)).key)
 az:Below w2.heap.size w2 W
def Ts(w w2:zw)(E:Nat->aa Key)(B:List Nat)(n g:Nat)(z:Value)(W:zw):Prop:=∃i,g+i=n/\z= .int .i64 (i:Int)/\LH w w2 E B i W
theorem DT(z:Value)(m:Nat):(madeCells #[z] m).size=m:=by simp[madeCells]
set_option maxRecDepth 100000 in
theorem DU(w:zw)(h:Nat)(S:Nat->Prop)(L:List (aa Key))(c:Nat)(s:HS w h S L c):
 Calls prog 172 #[.pointer (some ⟨h,0,none⟩)] w (br (L.map (·.key)) w):=by
 obtain⟨M,v,T,E,f,st,rfl⟩:=s;have c1:=st.hold.c1;have CL:=J (DP w v T st.hold.tree st.hold.top);have SO:=J (λw1 rv hR hb=>F8 w w1 h M v T E f L c rv st hR hb);have ST:=J st;clear st;go_enter func172,ntmps172;go_wp2_with fail
 refine CL.out.mono ?_;rintro e w1 ⟨rv,rfl,hR,hb⟩;have SR:=J (SO.out w1 rv hR hb);clear c1 hR hb SO CL;go_wp2_with fail
 refine SR.out.mono ?_;rintro e w2 ⟨rfl,B,LI,LJ,hR,hb⟩;obtain⟨a,cap,rfl,hc,hm,jh⟩:=hR
 have UN:B.length<=1000:=by
  have h1:B.length=L.length:=by rw[← LI];simp
  rw[h1,ST.out.len];exact ST.out.hold.top
 have wF:=UM w2 B.length (by omega);have Tt:=J jh;have HB:=J hb;have ym:=J LI;have WR:=J LJ
 have bX:=λj (hj:j < B.length)=>show w2.cell? ⟨tg B j,0,none⟩=some (.string (E (tg B j)).key) from by
  obtain⟨i,hi,he⟩:=gP (LJ _ (dZ hj));have h1:=ST.out.hold.i0 hi;have h2:=ST.out.hold.ue hi;rw[he] at h1 h2;exact(hb.cell (p:=⟨tg B j,0,none⟩) h2).trans h1
 have HC:=J bX;have bW:=hb.size;obtain⟨n,hn⟩:∃n,B.length=n:=⟨_,rfl⟩;have HN:=J hn;rw[hn] at wF hc UN|-;unfold maxLen at hm;clear jh hb LI LJ bX SR hn;go_wp2_with fail
 clear wF;go_loopg [19] n (λg z W=>Ts w w2 E B n g z W)
 case atStart=>
  refine⟨0,by omega,rfl,⟨⟨_,heap_alloc_new _ _,?_,λj hj=>by omega⟩,(zo _ _).alloc (zg _) _⟩⟩;rw[DT];exact HN.out.symm
 case round=>
  obtain⟨i,um,rfl,hO⟩:=hrel;have HO:=J hO;have HG:=J um;clear hO
  by_cases hi:i < n
  . have e0:decide (i < n)=true:=by simpa using hi
    obtain⟨g,rfl,yn,dn,Q0⟩:=Tt.out (by have:=HN.out;omega);have r1:=(HO.out.az.cell (p:=⟨g,i,none⟩) dn).trans (Q0 i (by have:=HN.out;omega)).1;have aQ:=l' (HC.out i (by have:=HN.out;omega));have r2:=(HO.out.az.cell (p:=⟨tg B i,0,none⟩) aQ).trans (HC.out i (by have:=HN.out;omega));obtain⟨arr,k1,k2,k3⟩:=HO.out.mem;have WS:arr.size=n:=k2.trans HN.out;have r3:wr.cell? ⟨w2.heap.size,i,none⟩=some arr[i]:=(cell_of_row wr _ _ _ _ _ k1).trans (Array.getElem?_eq_getElem (by omega));have f3:wr.frozen? ⟨w2.heap.size,i,none⟩=false:=frozen_of_row wr _ _ _ _ k1
    have R:=J (show LH w w2 E B (i+1) (wr.setCell ⟨w2.heap.size,i,none⟩ (.string (E (tg B i)).key)) from by
     refine⟨⟨_,heap_setCell_same _ _ _ _ _ _ k1,by simpa using k2,λj hj=>?_⟩,HO.out.az.setCell (p:=⟨w2.heap.size,i,none⟩) (zg _) _⟩
     by_cases e:j=i
     . subst e;rw[xr (by omega)]
     . rw[qv (by omega)];exact k3 j (by omega))
    generalize(E (tg B i)).key=key at r2 R;generalize tg B i=x at r1 r2;generalize arr[i]=old at r3;clear Q0 aQ k1 k2 k3 um;go_wp2_with fail
    go_roundg(n - (i+1))
    case measure=>have:=HG.out;omega
    case rel=>exact⟨i+1,by omega,rfl,R.out⟩
  . have e0:decide (i < n)=false:=by simpa using hi
    obtain rfl:i=n:=by have:=HG.out;omega
    clear um;go_wp2_with fail
    go_ret;obtain⟨arr,k1,k2,k3⟩:=HO.out.mem;refine⟨_,rfl,⟨?_,?_,?_⟩,HB.out.trans (HO.out.az.mono bW)⟩
    . have hl:(L.map (·.key)).length=i:=by rw[← ym.out];simpa using HN.out
      rw[hl];refine⟨by rw[List.length_map,hl];omega,Or.inr ⟨w2.heap.size,i,arr,rfl,bW,k1,Nat.le_refl _,by unfold maxLen;omega,by rw[k2,HN.out];omega,?_⟩⟩;apply List.ext_getElem?;intro j;rw[xv,<-ym.out,List.map_map,List.map_map,xj]
      by_cases hj:j < i
      . rw[if_pos (by omega),Array.getElem?_toList,k3 j hj,fm (by have:=HN.out;omega)];rfl
      . rw[if_neg (by omega),List.getElem?_eq_none (by have:=HN.out;omega)];rfl
    . rw[xe,ST.out.len];have:=ST.out.hold.top;omega
    . intro x hx;obtain⟨e,he,rfl⟩:=List.mem_map.1 hx;exact ST.out.ok e he
end HS
end LF
namespace LF
open Ht HS
namespace Lf
def sg(ch:Bool):Int:=if ch=true then -1 else 1
theorem LK(ch:Bool): -1<=sg ch/\sg ch<=1:=by unfold sg;split <;> omega
theorem DV(ch:Bool):sg ch=1\/sg ch= -1:=by unfold sg;split <;> omega
theorem LL(ch:Bool)(n:Nat): -(n:Int)<=sg ch*(n:Int)/\sg ch*(n:Int)<=(n:Int):=by rcases DV ch with h|h <;> rw[h] <;> omega
theorem JQ(ch:Bool)(n:Nat):sg ch*(n:Int)+sg ch=sg ch*((n+1:Nat):Int):=by rcases DV ch with h|h <;> rw[h] <;> omega
def eE(L:List (aa Key))(k:Key):Int:=((find L k).map (·.one)).getD 0
def da(L:List (aa Key))(k:Key):Bool:=(find L k).isSome
def yp(ch:Bool)(n:Nat)(k:Key)(t:Int):aa Key:=⟨k,t,sg ch*((n+1:Nat):Int),n+1⟩
def put(ch:Bool)(n:Nat)(L:List (aa Key))(k:Key):List (aa Key):=ins (yp ch n k (eE L k+1)) (rem L k)
structure Fit(ch:Bool)(L:List (aa Key))(n:Nat):Prop where
 two:∀e∈L,e.two=sg ch*(e.set:Int)
 one:∀e∈L,1<=e.one/\e.one<=(n:Int)
theorem sT{L:List (aa Key)}{k:Key}:da L k=true<->∃e∈L,e.key=k:=by
 unfold da;cases h:find L k with
 |none=>simp only[Option.isSome_none,Bool.false_eq_true,false_iff];rintro⟨e,he,hk⟩;exact kR h e he hk
 |some e=>simp only[Option.isSome_some,true_iff];exact⟨e,gz h⟩
theorem Bo{L:List (aa Key)}{k:Key}:da L k=false<->∀e∈L,e.key≠k:=by
 rw[← Bool.not_eq_true,sT];constructor
 . intro h e he hk;exact h ⟨e,he,hk⟩
 . rintro h ⟨e,he,hk⟩;exact h e he hk
theorem LM{L:List (aa Key)}{k:Key}(h:da L k=false):eE L k=0:=by
 unfold da at h;unfold eE;cases hf:find L k with
 |none=>rfl
 |some e=>rw[hf] at h;cases h
theorem jJ{ch:Bool}{L:List (aa Key)}{n:Nat}(f:Fit ch L n)(k:Key):0<=eE L k/\eE L k<=(n:Int):=by
 unfold eE;cases h:find L k with
 |none=>exact⟨Int.le_refl _,Int.natCast_nonneg _⟩
 |some e=>have:=f.one e (gz h).1;exact⟨by show 0<=e.one;omega,this.2⟩
theorem oJ{ch:Bool}{L:List (aa Key)}{n:Nat}(f:Fit ch L n)(k:Key):decide (0 < eE L k)=da L k:=by
 unfold eE da;cases h:find L k with
 |none=>rfl
 |some e=>have:=f.one e (gz h).1;simp;omega
section
variable{ch:Bool}{n:Nat}{L:List (aa Key)}
theorem oK{k:Key}{e:aa Key}:e∈put ch n L k<->e=yp ch n k (eE L k+1)\/(e∈L/\e.key≠k):=by unfold put;rw[vu,gY]
theorem Ga(o:ed L n)(k:Key):ed (put ch n L k) (n+1):=(o.rem k).put k _ _ λ_ he=>(gY.1 he).2
theorem Bp(f:Fit ch L n)(k:Key):Fit ch (put ch n L k) (n+1):=by
 have:=jJ f k;constructor
 . intro e he;rcases oK.1 he with rfl|⟨h,_⟩
   . rfl
   . exact f.two e h
 . intro e he;rcases oK.1 he with rfl|⟨h,_⟩
   . show 1<=eE L k+1/\eE L k+1<=((n+1:Nat):Int);omega
   . have:=f.one e h;omega
theorem vC{L':List (aa Key)}(f:Fit ch L n)(h:∀e∈L',e∈L):Fit ch L' n:=⟨λe he=>f.two e (h e he),λe he=>f.one e (h e he)⟩
theorem eY(o:ed L n){k:Key}(h:da L k=true):(rem L k).length+1=L.length:=by
 obtain⟨e,he,rfl⟩:=sT.1 h;obtain⟨ps,qs,rfl⟩:=List.append_of_mem he;have hk:=o.keys;rw[xc,xb] at hk;obtain⟨_,h2,h3⟩:=List.nodup_append.1 hk;have h4:=List.nodup_cons.1 h2;have e1:rem ps e.key=ps:=aZ λx hx yq=>h3 x.key (xt hx) e.key (by simp) yq;have e2:rem qs e.key=qs:=aZ λx hx yq=>h4.1 (yq▸xt hx)
 have e3:rem (ps++e::qs) e.key=rem ps e.key++rem qs e.key:=by
  unfold rem;rw[List.filter_append,List.filter_cons_of_neg (by simp)]
 rw[e3,e1,e2];simp only[zh,zv];omega
theorem Cw{k:Key}(h:da L k=false):rem L k=L:=aZ (Bo.1 h)
theorem aI(L:List (aa Key))(k:Key):(rem L k).length<=L.length:=List.length_filter_le _ _
theorem mh(k:Key):(put ch n L k).length=(rem L k).length+1:=by unfold put;rw[JH]
end
def fN(ch:Bool)(mo n:Nat)(L:List (aa Key))(k:Key):List (aa Key):=
 if mo=0 then L else if da L k=true then put ch n L k else put ch n (L.drop (L.length+1 - mo)) k
def lJ(mo n:Nat):Nat:=if mo=0 then n else n+1
theorem JR(mo n:Nat):n<=lJ mo n/\lJ mo n<=n+1:=by unfold lJ;split <;> omega
def eK(mo:Nat)(L:List (aa Key))(k:Key):Bool:=decide (mo≠0)&&da L k
def ef(mo:Nat)(L:List (aa Key))(k:Key):Bool:=decide (mo≠0)&&!da L k&&decide (mo<=L.length)
def jK(L:List (aa Key)):Key:=match L with|e::_=>e.key| []=>⟨#[]⟩
def eL(mo:Nat)(L:List (aa Key))(k:Key):Key:=if ef mo L k=true then jK L else⟨#[]⟩
def cS(mo:Nat)(L:List (aa Key))(k:Key):Value:= .agg #[.bool (eK mo L k),.string (eL mo L k),.bool (ef mo L k)]
def bD(mo:Nat)(L:List (aa Key))(k:Key):Bool:=!da L k&&decide (L.length < mo)
def qE(ch:Bool)(mo n:Nat)(L:List (aa Key))(k:Key):List (aa Key):=if bD mo L k=true then put ch n L k else L
def mR(mo n:Nat)(L:List (aa Key))(k:Key):Nat:=if bD mo L k=true then n+1 else n
theorem LN(mo n:Nat)(L:List (aa Key))(k:Key):n<=mR mo n L k/\mR mo n L k<=n+1:=by unfold mR;split <;> omega
def aC(L:List (aa Key)):List Key:=L.map (·.key)
theorem cw(L:List (aa Key)):(aC L).length=L.length:=by simp[aC]
theorem yr:∀{n:Nat} {l:List Nat},l.Nodup->(∀x∈l,1<=x/\x<=n)->l.length<=n
 |0,l,_,hx=>by
  cases l with
  |nil=>exact zg _
  |cons x l=>have:=hx x xa;omega
 |n+1,l,h,hx=>by
  have h2:=yr (n:=n) (l:=l.filter λx=>decide (x≠n+1)) (h.sublist xx) (λx hm=>by
   obtain⟨h1,h2⟩:=List.mem_filter.1 hm;have:=hx x h1;have:x≠n+1:=by simpa using h2
   omega)
  have h3:l.length<=(l.filter λx=>decide (x≠n+1)).length+1:=by
   clear h2 hx
   induction l with
   |nil=>simp
   |cons x l ih=>
    have h4:=List.nodup_cons.1 h
    by_cases e:x=n+1
    . subst e
      have h5:(l.filter λx=>decide (x≠n+1))=l:=by
       rw[List.filter_eq_self];intro y hy;have:y≠n+1:=λe=>h4.1 (e▸hy);simp[this]
      rw[List.filter_cons_of_neg (by simp),h5,zv];exact zg _
    . have:=ih h4.2;rw[List.filter_cons_of_pos (by simp[e]),zv,zv];omega
  omega
theorem yt{L:List (aa Key)}{n:Nat}(o:ed L n):L.length<=n+1:=by
 have h:=yr (n:=n+1) (l:=(L.map (·.set)).map (· +1)) (List.Pairwise.map (· +1) (λa b (h:a≠b) (e:a+1=b+1)=>h (by omega)) o.qM) (λx hx=>by
  obtain⟨y,hy,rfl⟩:=List.mem_map.1 hx;obtain⟨e,he,rfl⟩:=List.mem_map.1 hy;have:=o.le e he;show 1<=e.set+1/\e.set+1<=n+1;omega)
 simpa using h
end Lf
end LF
namespace LF
open Go.RowKit Ht HS Lf
structure Raw(w:zw)(c h:Nat)(T:Nat->Prop)(mo:Nat)(ch:Bool)(mk:Int)(L:List (aa Key))(n:Nat):Prop where
 hs:HS w h T L n
 cT:¬T c
 box:w.heap[c]?=some (.cells #[.int .i64 (mo:Int),.pointer (some ⟨h,0,none⟩),.int .i64 mk,.int .i64 (sg ch)] 195 (0,0))
 top:mo<=9223372036854775807
 fit:Fit ch L n
section
variable{w w':zw}{c h mo n n':Nat}{T T':Nat->Prop}{ch:Bool}{mk:Int}{L L':List (aa Key)}
theorem Raw.c0(r:Raw w c h T mo ch mk L n):w.cell? ⟨c,0,none⟩=some (.int .i64 (mo:Int)):=cell_of_row w _ 0 _ _ _ r.box
theorem Raw.c1(r:Raw w c h T mo ch mk L n):w.cell? ⟨c,1,none⟩=some (.pointer (some ⟨h,0,none⟩)):=cell_of_row w _ 1 _ _ _ r.box
theorem Raw.c2(r:Raw w c h T mo ch mk L n):w.cell? ⟨c,2,none⟩=some (.int .i64 mk):=cell_of_row w _ 2 _ _ _ r.box
theorem Raw.c3(r:Raw w c h T mo ch mk L n):w.cell? ⟨c,3,none⟩=some (.int .i64 (sg ch)):=cell_of_row w _ 3 _ _ _ r.box
theorem Raw.f0(r:Raw w c h T mo ch mk L n):w.frozen? ⟨c,0,none⟩=false:=frozen_of_row w _ 0 _ _ r.box
theorem Raw.f2(r:Raw w c h T mo ch mk L n):w.frozen? ⟨c,2,none⟩=false:=frozen_of_row w _ 2 _ _ r.box
theorem Raw.cx(r:Raw w c h T mo ch mk L n):c < w.heap.size:=(Array.getElem?_eq_some_iff.1 r.box).1
theorem Raw.len(r:Raw w c h T mo ch mk L n):L.length<=1000:=r.hs.top
theorem Raw.same(r:Raw w c h T mo ch mk L n)(hc:w'.heap[c]?=w.heap[c]?)(hT:∀k,T k->w'.heap[k]?=w.heap[k]?):Raw w' c h T mo ch mk L n:=
 ⟨r.hs.same hT,r.cT,hc.trans r.box,r.top,r.fit⟩
theorem Raw.below(r:Raw w c h T mo ch mk L n)(hb:Below w.heap.size w w'):Raw w' c h T mo ch mk L n:=
 r.same (hb.block _ r.cx) λk hk=>hb.block k (r.hs.lt hk)
theorem Raw.next(r:Raw w c h T mo ch mk L n)(hs:HS w' h T' L' n')(hn:∀k,T' k->T k\/w.heap.size<=k)(ht:ao T w w')(f:Fit ch L' n'):Raw w' c h T' mo ch mk L' n':=by
 have hc:=r.cx;refine⟨hs,λhk=>?_,(ht.block c hc r.cT).trans r.box,r.top,f⟩;rcases hn c hk with h|h
 . exact r.cT h
 . omega
end
def qF(v:Value)(w:zw)(c h:Nat)(T:Nat->Prop)(mo:Nat)(ch:Bool)(mk:Int)(L:List (aa Key))(n:Nat)(e:Ending)(w':zw):Prop:=
 e= .returned v/\∃T',Raw w' c h T' mo ch mk L n/\(∀k,T' k->T k\/w.heap.size<=k)/\ao T w w'
section
variable(w:zw)(c h:Nat)(T:Nat->Prop)(mo:Nat)(ch:Bool)(mk:Int)(L:List (aa Key))(n:Nat)(key:Key)(r:Raw w c h T mo ch mk L n)
include r
theorem jx:Calls prog 164 #[.pointer (some ⟨c,0,none⟩)] w (bS (L.length:Int) w):=by
 have c1:=r.c1;have U:=J (oI w h T L n r.hs);clear r;go_enter func164,ntmps164;go_wp2_with fail
 refine U.out.mono ?_;rintro e w1 ⟨rfl,rfl⟩;go_wp2_with fail
 go_ret;exact⟨rfl,rfl⟩
theorem LP(hs:key.size<=maxLen):Calls prog 180 #[.pointer (some ⟨c,0,none⟩),.string key] w (eJ (.int .i64 (eE L key)) w):=by
 have c1:=r.c1;have U:=yj w h T L n key r.hs hs;have hf:=r.fit;unfold Cs at U;unfold eE;cases hq:find L key with
 |none=>
  rw[hq] at U;have U:=J U;clear r hf hq;go_enter func180,ntmps180;go_wp2_with fail
  refine U.out.mono ?_;rintro e w1 ⟨rfl,hB⟩;have HB:=J hB;clear hB;go_wp2_with fail
  go_ret;exact⟨rfl,HB.out.alloc HB.out.size _⟩
 |some x=>
  rw[hq] at U;have U:=J U;clear r hf hq;go_enter func180,ntmps180;go_wp2_with fail
  refine U.out.mono ?_;rintro e w1 ⟨rfl,hB⟩;have HB:=J hB;clear hB;go_wp2_with fail
  go_ret;exact⟨rfl,HB.out.alloc HB.out.size _⟩
theorem jy(hs:key.size<=maxLen):Calls prog 162 #[.pointer (some ⟨c,0,none⟩),.string key] w (eJ (.bool (da L key)) w):=by
 have c1:=r.c1;have U:=yj w h T L n key r.hs hs;unfold Cs at U;unfold da;cases hq:find L key with
 |none=>
  rw[hq] at U;have U:=J U;clear r hq;go_enter func162,ntmps162;go_wp2_with fail
  refine U.out.mono ?_;rintro e w1 ⟨rfl,hB⟩;have HB:=J hB;clear hB;go_wp2_with fail
  go_ret;exact⟨rfl,HB.out.alloc HB.out.size _⟩
 |some x=>
  rw[hq] at U;have U:=J U;clear r hq;go_enter func162,ntmps162;go_wp2_with fail
  refine U.out.mono ?_;rintro e w1 ⟨rfl,hB⟩;have HB:=J hB;clear hB;go_wp2_with fail
  go_ret;exact⟨rfl,HB.out.alloc HB.out.size _⟩
theorem vD(hs:key.size<=maxLen):Calls prog 165 #[.pointer (some ⟨c,0,none⟩),.string key] w (qF (.bool (da L key)) w c h T mo ch mk (rem L key) n):=by
 have c1:=r.c1;have U:=zs (Calls _ _ _ _ (cJ (.bool (da L key)) w h T (rem L key) n)) (jU w h T L n key r.hs hs);have HH:=J r;clear r;go_enter func165,ntmps165;go_wp2_with fail
 refine U.out.mono ?_;rintro e w1 ⟨rfl,T',hS,hN,hT⟩;have R:=J (HH.out.next hS hN hT (vC HH.out.fit λe he=>(gY.1 he).1));have HN:=J hN;have HT:=J hT;clear hS hN hT;go_wp2_with fail
 go_ret;exact⟨rfl,T',R.out,HN.out,HT.out⟩
theorem vE:Calls prog 168 #[.pointer (some ⟨c,0,none⟩)] w (eJ (.tuple #[.string (jK L),.bool (!L.isEmpty)]) w):=by
 have c1:=r.c1;have U:=wE w h T L n r.hs;unfold ui at U;cases L with
 |nil=>
  have U:=J U;clear r;go_enter func168,ntmps168;go_wp2_with fail
  refine U.out.mono ?_;rintro e w1 ⟨rfl,hB⟩;have HB:=J hB;clear hB;go_wp2_with fail
  go_ret2
  exact⟨rfl,HB.out.alloc HB.out.size _⟩
 |cons x L=>
  have U:=J U;clear r;go_enter func168,ntmps168;go_wp2_with fail
  refine U.out.mono ?_;rintro e w1 ⟨rfl,hB⟩;have HB:=J hB;clear hB;go_wp2_with fail
  go_ret2
  exact⟨rfl,HB.out.alloc HB.out.size _⟩
theorem pz:Calls prog 160 #[.pointer (some ⟨c,0,none⟩)] w (qF (.tuple #[.string (jK L),.bool (!L.isEmpty)]) w c h T mo ch mk L.tail n):=by
 have c1:=r.c1
 have U:Calls prog 170 #[.pointer (some ⟨h,0,none⟩)] w (cJ (.tuple #[.string (jK L),.bool (!L.isEmpty)]) w h T L.tail n):=by
  have:=rZ w h T L n r.hs;cases L <;> exact this
 have HF:=J (vC r.fit λe he=>List.mem_of_mem_tail he);have U:=J U;have HH:=J r;generalize jK L=x at*;generalize(!L.isEmpty)=t at*;clear r;go_enter func160,ntmps160;go_wp2_with fail
 refine U.out.mono ?_;rintro e w1 ⟨rfl,T',hS,hN,hT⟩;have R:=J (HH.out.next hS hN hT HF.out);have HN:=J hN;have HT:=J hT;clear hS hN hT;go_wp2_with fail
 go_ret2
 exact⟨rfl,T',R.out,HN.out,HT.out⟩
end
theorem vF(w:zw)(c:Nat):
 Calls prog 161 #[.pointer (some ⟨c,0,none⟩)] w (λe w'=>e= .returned (.slice none 0 0)/\w=w'):=by
 go_enter func161,ntmps161;go_wp2_with fail
 go_ret;exact⟨rfl,rfl⟩
end LF
namespace LF
open Go.RowKit Ht HS Lf
def ax(c:Nat)(T:Nat->Prop):Nat->Prop:=λk=>k=c\/T k
def Ca(w:zw)(c:Nat)(S:Nat->Prop)(mo:Nat)(ch:Bool)(L:List (aa Key))(n:Nat):Prop:=∃h T,S=ax c T/\Raw w c h T mo ch (sg ch*(n:Int)) L n/\L.length<=mo
def bs(v:Value)(w:zw)(c:Nat)(S:Nat->Prop)(mo:Nat)(ch:Bool)(L:List (aa Key))(n:Nat)(e:Ending)(w':zw):Prop:=
 e= .returned v/\∃S',Ca w' c S' mo ch L n/\(∀k,S' k->S k\/w.heap.size<=k)/\ao S w w'
theorem ao.put{S:Nat->Prop}{w w1:zw}(h:ao S w w1){p:Addr}(hp:S p.block\/w.heap.size<=p.block)(u:Value):ao S w (w1.setCell p u):=
 h.trans (S':=λk=>k=p.block) ⟨rfl,rfl,rfl,by simp[World.setCell],λk _ h1=>qc _ _ _ _ h1⟩ (λk hk e=>by subst e;rcases hp with h|h;exact h;omega)
section
variable{w w':zw}{c h mo n:Nat}{T T' S:Nat->Prop}{ch:Bool}{L:List (aa Key)}{v:Value}{e:Ending}
theorem dU(hT:∀k,T' k->T k\/w.heap.size<=k):∀k,ax c T' k->ax c T k\/w.heap.size<=k:=by
 intro k hk;rcases hk with h|h
 . exact xz (xz h)
 . exact(hT k h).imp ja id
theorem Gb(h:ao T w w'):ao (ax c T) w w':=h.wide λ_ _ h=>ja h
theorem qF.post(p:qF v w c h T mo ch (sg ch*(n:Int)) L n e w')(hl:L.length<=mo):bs v w c (ax c T) mo ch L n e w':=by
 obtain⟨he,T',hR,hN,hT⟩:=p;exact⟨he,_,⟨h,T',rfl,hR,hl⟩,dU hN,Gb hT⟩
theorem Raw.lt{mk:Int}(r:Raw w c h T mo ch mk L n){k:Nat}(hk:ax c T k):k < w.heap.size:=by
 rcases hk with rfl|hk
 . exact r.cx
 . exact r.hs.lt hk
theorem Raw.pA{mk:Int}(r:Raw w c h T mo ch mk L n)(hs:∀k,ax c T k->w'.heap[k]?=w.heap[k]?):Raw w' c h T mo ch mk L n:=r.same (hs c (xz rfl)) λk hk=>hs k (ja hk)
theorem Ca.lt(a:Ca w c S mo ch L n){k:Nat}(hk:S k):k < w.heap.size:=by
 obtain⟨h,T,rfl,hR,_⟩:=a;exact hR.lt hk
theorem Ca.kept(a:Ca w c S mo ch L n){S2:Nat->Prop}(ht:ao S2 w w')(hd:∀k,S k->¬S2 k):Ca w' c S mo ch L n:=by
 have aQ:∀k,S k->k < w.heap.size:=λk hk=>a.lt hk;obtain⟨h,T,rfl,hR,hl⟩:=a;exact⟨h,T,rfl,hR.pA λk hk=>ht.block k (aQ k hk) (hd k hk),hl⟩
theorem Ca.below(a:Ca w c S mo ch L n)(hb:Below w.heap.size w w'):Ca w' c S mo ch L n:=by
 obtain⟨h,T,rfl,hR,hl⟩:=a;exact⟨h,T,rfl,hR.below hb,hl⟩
theorem Ca.once(a:Ca w c S mo ch L n):ed L n:=by obtain⟨h,T,rfl,hR,hl⟩:=a;exact hR.hs.once
theorem Ca.nY(a:Ca w c S mo ch L n):mJ L:=by obtain⟨h,T,rfl,hR,hl⟩:=a;exact hR.hs.nY
theorem Ca.ok(a:Ca w c S mo ch L n):∀e∈L,e.key.size<=maxLen:=by obtain⟨h,T,rfl,hR,hl⟩:=a;exact hR.hs.ok
theorem Ca.fit(a:Ca w c S mo ch L n):Fit ch L n:=by obtain⟨h,T,rfl,hR,hl⟩:=a;exact hR.fit
theorem Ca.le(a:Ca w c S mo ch L n):L.length<=mo/\L.length<=1000:=by obtain⟨h,T,rfl,hR,hl⟩:=a;exact⟨hl,hR.len⟩
end
section
variable(w:zw)(c:Nat)(S:Nat->Prop)(mo:Nat)(ch:Bool)(L:List (aa Key))(n:Nat)(key:Key)(a:Ca w c S mo ch L n)
include a
theorem mS:Calls prog 164 #[.pointer (some ⟨c,0,none⟩)] w (bS (L.length:Int) w):=by
 obtain⟨h,T,rfl,hR,hl⟩:=a;exact jx w c h T mo ch _ L n hR
theorem mT(hs:key.size<=maxLen):Calls prog 162 #[.pointer (some ⟨c,0,none⟩),.string key] w (eJ (.bool (da L key)) w):=by
 obtain⟨h,T,rfl,hR,hl⟩:=a;exact jy w c h T mo ch _ L n key hR hs
theorem ix(hs:key.size<=maxLen):Calls prog 165 #[.pointer (some ⟨c,0,none⟩),.string key] w (bs (.bool (da L key)) w c S mo ch (rem L key) n):=by
 obtain⟨h,T,rfl,hR,hl⟩:=a;exact(vD w c h T mo ch _ L n key hR hs).mono λe w' hp=>hp.post (zr (aI _ _) hl)
theorem iy:Calls prog 168 #[.pointer (some ⟨c,0,none⟩)] w (eJ (.tuple #[.string (jK L),.bool (!L.isEmpty)]) w):=by
 obtain⟨h,T,rfl,hR,hl⟩:=a;exact vE w c h T mo ch _ L n hR
theorem kq:Calls prog 160 #[.pointer (some ⟨c,0,none⟩)] w (bs (.tuple #[.string (jK L),.bool (!L.isEmpty)]) w c S mo ch L.tail n):=by
 obtain⟨h,T,rfl,hR,hl⟩:=a;exact(pz w c h T mo ch _ L n hR).mono λe w' hp=>hp.post (by rw[List.length_tail];omega)
end
def jz(mo:Nat)(ch:Bool)(w:zw)(e:Ending)(w':zw):Prop:=∃c S,e= .returned (.pointer (some ⟨c,0,none⟩))/\Ca w' c S mo ch [] 0/\(∀k,S k->w.heap.size<=k)/\Below w.heap.size w w'
abbrev yu(mo:Nat)(h:Nat)(s:Int):Obj:= .cells #[.int .i64 (mo:Int),.pointer (some ⟨h,0,none⟩),.int .i64 0,.int .i64 s] 195
theorem kr{w w1:zw}{h mo:Nat}{T:Nat->Prop}(ch:Bool)(H:HS w1 h T [] 0)(hT:∀k,T k->w.heap.size<=k)(HB:Below w.heap.size w w1)(hm:mo<=9223372036854775807):
 jz mo ch w (.returned (.pointer (some ⟨w1.heap.size,0,none⟩))) (w1.alloc (yu mo h (sg ch))):=by
 have hb:=(zo w1.heap.size w1).alloc (zg _) (yu mo h (sg ch));have hs:=HB.size;have hn:¬T w1.heap.size:=λhk=>by have:=H.lt hk;omega
 have hx:=heap_alloc_new w1 (yu mo h (sg ch))
 have Tu:∀k,ax w1.heap.size T k->w.heap.size<=k:=λk hk=>by
  rcases hk with rfl|hk
  . exact hs
  . exact hT k hk
 exact⟨w1.heap.size,ax w1.heap.size T,rfl,⟨h,T,rfl,⟨H.below hb,hn,by rw[hx];simp,hm,⟨by simp,by simp⟩⟩,xg _⟩,Tu,HB.trans (hb.mono hs)⟩
theorem vG(w:zw)(z:Int)(ch:Bool)(hz: -9223372036854775808<=z/\z<=9223372036854775807)(h0:z < 0):
 Calls prog 78 #[.int .i64 z,.bool ch] w (jz 0 ch w):=by
 have U:=J (mg w);go_enter func78,ntmps78;go_wp2_with fail
 refine U.out.mono ?_;rintro e w1 ⟨h,T,rfl,hH,hT,hB⟩;have r1:=kr (mo:=0) false hH hT hB (by omega);have r2:=kr (mo:=0) true hH hT hB (by omega);have R1:=J r1;have R2:=J r2;clear hH hT hB r1 r2;cases ch with
 |false=>
  go_wp2_with fail
  go_ret;(try rw[show max z 0=(0:Int) by omega]);exact R1.out
 |true=>
  go_wp2_with fail
  go_ret;(try rw[show max z 0=(0:Int) by omega]);exact R2.out
theorem vH(w:zw)(n:Nat)(ch:Bool)(hz:n<=9223372036854775807):
 Calls prog 78 #[.int .i64 (n:Int),.bool ch] w (jz n ch w):=by
 have U:=J (mg w);have h0:¬((n:Int) < 0):=by omega
 go_enter func78,ntmps78;go_wp2_with fail
 refine U.out.mono ?_;rintro e w1 ⟨h,T,rfl,hH,hT,hB⟩;have r1:=kr (mo:=n) false hH hT hB hz;have r2:=kr (mo:=n) true hH hT hB hz;have R1:=J r1;have R2:=J r2;clear hH hT hB r1 r2;cases ch with
 |false=>
  go_wp2_with fail
  go_ret;exact R1.out
 |true=>
  go_wp2_with fail
  go_ret;exact R2.out
theorem kV(w:zw)(z:Int)(ch:Bool)(hz: -9223372036854775808<=z/\z<=9223372036854775807):
 Calls prog 78 #[.int .i64 z,.bool ch] w (jz z.toNat ch w):=by
 by_cases h0:z < 0
 . rw[show z.toNat=0 by omega];exact vG w z ch hz h0
 . obtain⟨n,rfl⟩:∃n:Nat,z=(n:Int):=⟨z.toNat,by omega⟩;exact vH w n ch (by omega)
theorem Raw.mark{w:zw}{c h mo n:Nat}{T:Nat->Prop}{ch:Bool}{mk:Int}{L:List (aa Key)}(r:Raw w c h T mo ch mk L n)(m:Int):Raw (w.setCell ⟨c,2,none⟩ (.int .i64 m)) c h T mo ch m L n:=by
 refine⟨r.hs.same (λk hk=>qc _ _ _ _ (λe=>r.cT (by have e:k=c:=e;exact e▸hk))),r.cT,?_,r.top,r.fit⟩;rw[heap_setCell_same _ _ _ _ _ _ r.box];rfl
def r5(w:zw)(c h:Nat)(T:Nat->Prop)(mo:Nat)(ch:Bool)(L:List (aa Key))(n:Nat)(key:Key)(e:Ending)(w':zw):Prop:=
 e= .returned (.tuple #[])/\∃T',Raw w' c h T' mo ch (sg ch*((n+1:Nat):Int)) (put ch n L key) (n+1)/\(∀k,T' k->T k\/w.heap.size<=k)/\ao (ax c T) w w'
theorem JS{w w1 w2 w3:zw}{c h mo n:Nat}{T:Nat->Prop}{ch:Bool}{L:List (aa Key)}{key:Key}{e:Ending}(t1:ao (ax c T) w w1)(r1:Raw w1 c h T mo ch (sg ch*((n+1:Nat):Int)) L n)(b2:Below w1.heap.size w1 w2)
 (p:cJ (.tuple #[]) w2 h T (put ch n L key) (n+1) e w3):r5 w c h T mo ch L n key e w3:=by
 obtain⟨he,T',hS,hN,hT⟩:=p;have bW:=t1.size;have Lq:=b2.size;refine⟨he,T',(r1.below b2).next hS hN hT (Bp r1.fit key),λk hk=>(hN k hk).imp id (λh=>by omega),(t1.trans (ao.cZ (S:=T) b2) (λ_ _ h=>ja h)).trans hT (λ_ _ h=>ja h)⟩
set_option maxRecDepth 100000 in
theorem uo(w:zw)(c h:Nat)(T:Nat->Prop)(mo:Nat)(ch:Bool)(L:List (aa Key))(n:Nat)(key:Key)(r:Raw w c h T mo ch (sg ch*(n:Int)) L n)(hs:key.size<=maxLen)(hl:L.length<=999)(hn:n<=90000):
 Calls prog 169 #[.pointer (some ⟨c,0,none⟩),.string key] w (r5 w c h T mo ch L n key):=by
 have c2:=r.c2;have c3:=r.c3;have f2:=r.f2;have hm:=LL ch n;have hg:=LK ch;have he:=JQ ch n;have ht:=jJ r.fit key;have r1:=λm=>(r.mark m).below (w':=(w.setCell ⟨c,2,none⟩ (.int .i64 m)).drew) ⟨rfl,rfl,rfl,zg _,λ_ _=>rfl⟩;have R1:=J r1;have T1:=J (λu=>((ao.refl (ax c T) w).put (p:=⟨c,2,none⟩) (xz (xz rfl)) u).drew);have HE:=J he;obtain⟨t,hT⟩:=zx (eE L key);have HT:=J hT;rw[← hT] at ht;clear r r1 he hT;obtain⟨mk,wF⟩:=zx (sg ch*(n:Int));obtain⟨s,LQ⟩:=zx (sg ch);have LU:=zs (mk+s=sg ch*((n+1:Nat):Int)) (by rw[wF,LQ];exact HE.out);rw[← wF] at c2 hm;rw[← LQ] at c3 hg;clear wF LQ HE;go_enter func169,ntmps169;go_wp2_with fail
 go_region;go_wp2_with fail
 have r2:=R1.out (mk+s);have t2:=T1.out (.int .i64 (mk+s));have d1:=r2.c1;have d2:=r2.c2;clear R1 T1 c2 c3 f2;generalize(w.setCell ⟨c,2,none⟩ (.int .i64 (mk+s))).drew=w1 at*;rw[LU.out] at r2;have R2:=J r2;have T2:=J t2;clear r2 t2;have TM:=J (λ(w':zw) (g:Below w1.heap.size w1 w')=>LP w' c h T mo ch _ L n key (R2.out.below g) hs);rw[← HT.out] at TM;have EP:=zs (put ch n L key=ins ⟨key,t+1,mk+s,n+1⟩ (rem L key)) (by unfold put yp;rw[LU.out,HT.out])
 have SE:=J (show ∀w',Below w1.heap.size w1 w'->Calls prog 179 #[.pointer (some ⟨h,0,none⟩),.string key,.agg #[.int .i64 (t+1),.int .i64 (mk+s)]] w' (cJ (.tuple #[]) w' h T (put ch n L key) (n+1)) from λw' g=>by
  rw[EP.out];exact JN w' h T L n key (t+1) (mk+s) (R2.out.below g).hs hs hl hn)
 have ZE:=J (show ∀(w2:zw),Below w1.heap.size w1 w2->∀(e:Ending) (w3:zw),cJ (.tuple #[]) w2 h T (put ch n L key) (n+1) e w3->e= .returned (.tuple #[])/\r5 w c h T mo ch L n key (.returned (.tuple #[])) w3/\w3.cell? ⟨c,1,none⟩=some (.pointer (some ⟨h,0,none⟩))/\w3.cell? ⟨c,2,none⟩=some (.int .i64 (mk+s)) from λw2 b2 e w3 hp=>by
  have cp:=JS (key:=key) T2.out R2.out b2 hp;have r3:=R2.out.below b2;have he:=hp.1;subst he;obtain⟨_,T3,WT,WU,jH⟩:=hp;exact⟨rfl,cp,(World.cell?_of_block (a:=⟨c,1,none⟩) (jH.block c r3.cx r3.cT)).trans r3.c1,(World.cell?_of_block (a:=⟨c,2,none⟩) (jH.block c r3.cx r3.cT)).trans (LU.out▸r3.c2)⟩)
 have HW:=J (Go.IntWalk.i64_in (t+1) (by omega));have BD:=zs (∀w2,Below w1.drew.heap.size w1.drew w2->Below w1.heap.size w1 w2) (λw2 hB=>⟨hB.os,hB.tape,hB.output,hB.size,hB.block⟩);have BC:=zs (∀w2,Below w1.heap.size w1 w2->w2.cell? ⟨c,1,none⟩=some (.pointer (some ⟨h,0,none⟩))/\w2.cell? ⟨c,2,none⟩=some (.int .i64 (mk+s))) (λw2 hB=>⟨(hB.cell (p:=⟨c,1,none⟩) (l' d1)).trans d1,(hB.cell (p:=⟨c,2,none⟩) (l' d2)).trans d2⟩)
 go_region_held3(λw'=>w'.cell? ⟨c,1,none⟩=some (.pointer (some ⟨h,0,none⟩))/\w'.cell? ⟨c,2,none⟩=some (.int .i64 (mk+s))) (first|(exact⟨‹_›,‹_›⟩)|go_keep)
  (first
    |(go_at_call 180;refine(TM.out w1.drew ⟨rfl,rfl,rfl,zg _,λ_ _=>rfl⟩).mono ?_;rintro e w2 ⟨rfl,hB⟩;have B2:=J (BD.out w2 hB);have z1:=(BC.out w2 B2.out).1;have z2:=(BC.out w2 B2.out).2;clear hB)
    |(go_at_call 179;rw[HW.out];refine(SE.out w2 B2.out).mono ?_;intro e w3 hp;obtain⟨rfl,cp,z3,z4⟩:=ZE.out w2 B2.out e w3 hp;have CP:=J cp;clear hp cp))
 go_wp2_with fail
 go_end0;exact CP.out
end LF
namespace LF
open Go.RowKit Ht HS Lf
def aT(w:zw)(sb:Nat)(h:Bool)(s:zy)(o:Bool):Prop:=w.heap[sb]?=some (.cells #[.bool h,.string s,.bool o] 49 (0,0))
section
variable{w:zw}{sb:Nat}{h o:Bool}{s:zy}
theorem aT.set(k:aT w sb h s o)(x:zy):aT ((w.setCell ⟨sb,1,none⟩ (.string x)).setCell ⟨sb,2,none⟩ (.bool true)) sb h x true:=by
 unfold aT at*;have r1:(w.setCell ⟨sb,1,none⟩ (.string x)).heap[sb]?=some (.cells #[.bool h,.string x,.bool o] 49 (0,0)):=by rw[heap_setCell_same _ _ _ _ _ _ k];rfl
 rw[heap_setCell_same _ _ _ _ _ _ r1];rfl
theorem aT.cells(k:aT w sb h s o):w.cell? ⟨sb,0,none⟩=some (.bool h)/\w.cell? ⟨sb,1,none⟩=some (.string s)/\w.cell? ⟨sb,2,none⟩=some (.bool o)/\w.frozen? ⟨sb,1,none⟩=false/\w.frozen? ⟨sb,2,none⟩=false:=
 ⟨cell_of_row w _ 0 _ _ _ k,cell_of_row w _ 1 _ _ _ k,cell_of_row w _ 2 _ _ _ k,frozen_of_row w _ 1 _ _ k,frozen_of_row w _ 2 _ _ k⟩
theorem aT.lt(k:aT w sb h s o):sb < w.heap.size:=(Array.getElem?_eq_some_iff.1 k).1
theorem aT.put(k:aT w sb h s o)(h' o':Bool)(s':zy):aT (((w.setCell ⟨sb,0,none⟩ (.bool h')).setCell ⟨sb,1,none⟩ (.string s')).setCell ⟨sb,2,none⟩ (.bool o')) sb h' s' o':=by
 unfold aT at*;have r1:(w.setCell ⟨sb,0,none⟩ (.bool h')).heap[sb]?=some (.cells #[.bool h',.string s,.bool o] 49 (0,0)):=by rw[heap_setCell_same _ _ _ _ _ _ k];rfl
 have r2:((w.setCell ⟨sb,0,none⟩ (.bool h')).setCell ⟨sb,1,none⟩ (.string s')).heap[sb]?=some (.cells #[.bool h',.string s',.bool o] 49 (0,0)):=by rw[heap_setCell_same _ _ _ _ _ _ r1];rfl
 rw[heap_setCell_same _ _ _ _ _ _ r2];rfl
theorem bo(k:aT w sb h s o):(loadVar 49 ⟨sb,0,none⟩).run prog w= .ok (.agg #[.bool h,.string s,.bool o]) w:=by
 obtain⟨k0,k1,k2,_,_⟩:=k.cells;unfold loadVar;go_simp
end
theorem aV{fn:Func}{a:Tmp}{ty:TypeId}(h:fn.results= #[.cell a ty])(tmps:Array Value)(P:Program)(w:zw)(p:Addr)(v:Value)(ha:tmps.getD a undef= .pointer (some p))(hv:(loadVar ty p).run P w= .ok v w):
 (results fn tmps).run P w= .ok v w:=by
 rw[qt] at ha;simp[results,h,ha,asAddr,hv]
theorem sU(w:zw)(sb:Nat)(h o:Bool)(s x:zy)(k:aT w sb h s o):
 Calls prog 176 #[.string x,.pointer (some ⟨sb,0,none⟩)] w (λe w'=>e= .returned (.tuple #[])/\aT w' sb h x true/\ao (λk=>k=sb) w w'):=by
 obtain⟨k0,k1,k2,f1,f2⟩:=k.cells;have R:=J (k.set x);clear k;go_enter func176,ntmps176;go_wp2_with fail
 go_end0;exact⟨rfl,R.out,((ao.refl (λk=>k=sb) w).put (p:=⟨sb,1,none⟩) (xz rfl) _).put (p:=⟨sb,2,none⟩) (xz rfl) _⟩
theorem qU(w:zw)(c h:Nat)(T:Nat->Prop)(mo:Nat)(ch:Bool)(mk:Int)(L:List (aa Key))(n:Nat)(m:Nat)(f:Value)(r:Raw w c h T mo ch mk L n)(hn:L.length<=m):
 Calls prog 175 #[.pointer (some ⟨c,0,none⟩),.int .i64 (m:Int),f] w (λe w'=>e= .returned (.tuple #[])/\w=w'):=by
 have U:=J (jx w c h T mo ch mk L n r);have e0:decide (m < L.length)=false:=by simp;omega
 clear r;go_enter func175,ntmps175;go_wp2_with fail
 go_loopg [] 0 (λk W=>W=w)
 case atStart=>rfl
 case round=>
  obtain rfl:=hrel;go_wp2_with fail
  refine U.out.mono ?_;rintro e w1 ⟨rfl,rfl⟩;go_wp2_with fail
  go_end0;exact⟨rfl,rfl⟩
def mW(w:zw)(c h:Nat)(T:Nat->Prop)(mo:Nat)(ch:Bool)(mk:Int)(x:aa Key)(L:List (aa Key))(n sb:Nat)(hb o:Bool)(s:zy)(k:Nat)(W:zw):Prop:=
 ∃T',(∀k,T' k->T k\/w.heap.size<=k)/\ao (λk=>T k\/k=sb) w W/\¬T' sb/\((k=1/\Raw W c h T' mo ch mk (x::L) n/\aT W sb hb s o)\/(k=0/\Raw W c h T' mo ch mk L n/\aT W sb hb x.key true))
theorem uq{w:zw}{c h:Nat}{T:Nat->Prop}{mo:Nat}{ch:Bool}{mk:Int}{L:List (aa Key)}{n sb:Nat}{hb o:Bool}{s:zy}(r:Raw w c h T mo ch mk L n)(k:aT w sb hb s o):c≠sb:=bT r.box k (by decide)
theorem mY(w:zw)(c h:Nat)(T:Nat->Prop)(mo:Nat)(ch:Bool)(mk:Int)(x:aa Key)(L:List (aa Key))(n sb:Nat)(hb o:Bool)(s:zy)(r:Raw w c h T mo ch mk (x::L) n)(hs:¬T sb)(hB:aT w sb hb s o):
 Calls prog 175 #[.pointer (some ⟨c,0,none⟩),.int .i64 (L.length:Int),.func (.func 176) #[] #[.pointer (some ⟨sb,0,none⟩)]] w (λe w'=>e= .returned (.tuple #[])/\mW w c h T mo ch mk x L n sb hb o s 0 w'):=by
 have HH:=J r;have HS:=J hs;have HB:=J hB;clear r hs hB;go_enter func175,ntmps175;go_wp2_with fail
 go_loopg [] 1 (λk W=>mW w c h T mo ch mk x L n sb hb o s k W)
 case atStart=>exact⟨T,λ_ h=>xz h,ao.refl _ _,HS.out,xz ⟨rfl,HH.out,HB.out⟩⟩
 case round=>
  obtain⟨T',hN,hT,hn,hrel|hrel⟩:=hrel
  . obtain⟨rfl,hR,hB⟩:=hrel;have U1:=jx wr c h T' mo ch mk _ n hR;rw[zv] at U1;have U1:=J U1;have U2:=zs (Calls prog 160 #[.pointer (some ⟨c,0,none⟩)] wr (qF (.tuple #[.string x.key,.bool true]) wr c h T' mo ch mk L n)) (pz wr c h T' mo ch mk _ n hR);have H1:=J hN;have H2:=J hT;have H3:=J hn;have H4:=J hB;have H5:=J hR;have hlen:=hR.len;rw[zv] at hlen;have e0:decide (L.length < L.length+1)=true:=by simp
    clear hN hT hn hB hR;go_wp2_with fail
    refine U1.out.mono ?_;rintro e wr ⟨rfl,rfl⟩;go_wp2_with fail
    refine U2.out.mono ?_;rintro e w2 ⟨rfl,T2,hR,hN,hT⟩
    have N2:¬T2 sb:=λhk=>by
     rcases hN sb hk with h|h
     . exact H3.out h
     . have:=H4.out.lt;omega
    have B2:aT w2 sb hb s o:=(hT.block sb H4.out.lt H3.out).trans H4.out;have H6:=J hN;have H7:=J hR;have H8:=J hT;have H9:=J N2;have U3:=J (sU w2 sb hb o s x.key B2);clear hN hR hT N2 B2 U1 U2;go_wp2_with fail
    refine U3.out.mono ?_;rintro e w3 ⟨rfl,eh,jH⟩
    have R3:=J (show mW w c h T mo ch mk x L n sb hb o s 0 w3 by
     have bW:=H2.out.size
     have t12:ao (λk=>T k\/k=sb) w w2:=H2.out.trans H8.out (λk hk hS=>by
      rcases H1.out k hS with h|h
      . exact xz h
      . omega)
     refine⟨T2,?_,t12.trans jH (λk _ e=>ja e),H9.out,ja ⟨rfl,?_,eh⟩⟩
     . intro k hk;rcases H6.out k hk with h|h
       . exact H1.out k h
       . exact ja (by omega)
     . have hR:=H7.out;have al:=uq H5.out H4.out
       exact hR.pA λk hk=>jH.block k (hR.lt hk) (λe=>by
        rcases hk with hk|hk
        . exact al (hk▸e)
        . exact H9.out (by have e:k=sb:=e;exact e▸hk)))
    clear eh jH;go_wp2_with fail
    go_roundg 0
    case measure=>omega
    case rel=>exact R3.out
  . obtain⟨rfl,hR,hB⟩:=hrel;have U1:=J (jx wr c h T' mo ch mk _ n hR);have R3:=zs (mW w c h T mo ch mk x L n sb hb o s 0 wr) (⟨T',hN,hT,hn,ja ⟨rfl,hR,hB⟩⟩);have e0:decide (L.length < L.length)=false:=by simp
    clear hN hT hn hB hR;go_wp2_with fail
    refine U1.out.mono ?_;rintro e wr ⟨rfl,rfl⟩;go_wp2_with fail
    go_end0;exact⟨rfl,R3.out⟩
abbrev ei:Obj:= .cells #[.bool false,.string ⟨#[]⟩,.bool false] 49
structure bN(w W:zw)(c h:Nat)(T T':Nat->Prop)(mo:Nat)(ch:Bool)(L:List (aa Key))(n rb sb:Nat)(hh o:Bool)(s:zy):Prop where
 raw:Raw W c h T' mo ch (sg ch*(n:Int)) L n
 res:aT W rb false ⟨#[]⟩ false
 step:aT W sb hh s o
 a8:ao (ax c T) w W
 new:∀k,T' k->T k\/w.heap.size<=k
 DW:¬T' rb
 LV:¬T' sb
 ne:rb≠sb
 DX:w.heap.size<=rb
 LW:w.heap.size<=sb
section
variable{w w1 W W':zw}{c h mo n rb sb:Nat}{T T':Nat->Prop}{ch:Bool}{L:List (aa Key)}{hh o:Bool}{s:zy}
theorem bN.start(r:Raw w c h T mo ch (sg ch*(n:Int)) L n)(hb:Below (w.alloc ei).heap.size (w.alloc ei) w1)(hh:Bool):
 bN w (w1.alloc (.cells #[.bool hh,.string ⟨#[]⟩,.bool false] 49)) c h T T mo ch L n w.heap.size w1.heap.size hh false ⟨#[]⟩:=by
 have s1:(w.alloc ei).heap.size=w.heap.size+1:=by simp
 have s2:=hb.size;have b1:=(zo w.heap.size w).alloc (zg _) ei;have b2:Below w.heap.size w w1:=b1.trans (hb.mono (by omega));have b3:=b2.alloc (by omega) (.cells #[.bool hh,.string ⟨#[]⟩,.bool false] 49);have Q1:∀k,T k->k < w.heap.size:=λk hk=>r.hs.lt hk;refine⟨r.below b3,?_,heap_alloc_new _ _,ao.cZ b3,λk hk=>xz hk,λhk=>?_,λhk=>?_,by omega,zg _,by omega⟩
 . exact(qf _ _ _ (by omega)).trans ((hb.block w.heap.size (by omega)).trans (heap_alloc_new _ _))
 . have:=Q1 _ hk;omega
 . have:=Q1 _ hk;omega
theorem bN.count(m:bN w W c h T T' mo ch L n rb sb hh o s){key:Key}{e:Ending}(hp:r5 W c h T' mo ch L n key e W'):
 e= .returned (.tuple #[])/\∃T2,bN w W' c h T T2 mo ch (put ch n L key) (n+1) rb sb hh o s:=by
 obtain⟨he,T2,hR,hN,hT⟩:=hp;have bW:=m.a8.size;have n1:=uq m.raw m.res;have n2:=uq m.raw m.step;have q:∀k,k < W.heap.size->c≠k->¬T' k->W'.heap[k]?=W.heap[k]?:=λk hk h1 h2=>hT.block k hk (λe=>by rcases e with e|e;exact h1 e.symm;exact h2 e)
 refine⟨he,T2,hR,(q _ m.res.lt n1 m.DW).trans m.res,(q _ m.step.lt n2 m.LV).trans m.step,m.a8.trans hT (λk hk hS=>?_),λk hk=>?_,λhk=>?_,λhk=>?_,m.ne,m.DX,m.LW⟩
 . rcases hS with h|h
   . exact xz h
   . rcases m.new k h with h|h
     . exact ja h
     . omega
 . rcases hN k hk with h|h
   . exact m.new k h
   . exact ja (by omega)
 . rcases hN _ hk with h|h
   . exact m.DW h
   . have:=m.res.lt;omega
 . rcases hN _ hk with h|h
   . exact m.LV h
   . have:=m.step.lt;omega
theorem bN.cut{x:aa Key}(m:bN w W c h T T' mo ch (x::L) n rb sb hh o s)(q:mW W c h T' mo ch (sg ch*(n:Int)) x L n sb hh o s 0 W'):
 ∃T2,bN w W' c h T T2 mo ch L n rb sb hh true x.key:=by
 obtain⟨T2,hN,hT,hn,⟨h0,_⟩|⟨_,qG,cQ⟩⟩:=q
 . omega
 have bW:=m.a8.size;refine⟨T2,qG,(hT.block _ m.res.lt (λe=>by rcases e with e|e;exact m.DW e;exact m.ne e)).trans m.res,cQ,m.a8.trans hT (λk hk hS=>?_),λk hk=>?_,λhk=>?_,hn,m.ne,m.DX,m.LW⟩
 . rcases hS with h|h
   . rcases m.new k h with h|h
     . exact ja h
     . omega
   . have:=m.LW;omega
 . rcases hN k hk with h|h
   . exact m.new k h
   . exact ja (by omega)
 . rcases hN _ hk with h|h
   . exact m.DW h
   . have:=m.res.lt;omega
theorem bN.out(m:bN w W c h T T' mo ch L n rb sb hh o s)(hl:L.length<=mo):
 aT (((W.setCell ⟨rb,0,none⟩ (.bool hh)).setCell ⟨rb,1,none⟩ (.string s)).setCell ⟨rb,2,none⟩ (.bool o)) rb hh s o/\
 bs (.agg #[.bool hh,.string s,.bool o]) w c (ax c T) mo ch L n (.returned (.agg #[.bool hh,.string s,.bool o])) (((W.setCell ⟨rb,0,none⟩ (.bool hh)).setCell ⟨rb,1,none⟩ (.string s)).setCell ⟨rb,2,none⟩ (.bool o)):=by
 have n1:=uq m.raw m.res;refine⟨m.res.put hh o s,rfl,_,⟨h,T',rfl,m.raw.pA λk hk=>?_,hl⟩,dU m.new,((m.a8.put (p:=⟨rb,0,none⟩) (ja m.DX) _).put (p:=⟨rb,1,none⟩) (ja m.DX) _).put (p:=⟨rb,2,none⟩) (ja m.DX) _⟩
 have al:k≠rb:=λe=>by
  subst e;rcases hk with h|h
  . exact n1 h.symm
  . exact m.DW h
 rw[qc _ _ _ _ al,qc _ _ _ _ al,qc _ _ _ _ al]
end
theorem jA(w:zw)(c h:Nat)(T:Nat->Prop)(ch:Bool)(L:List (aa Key))(n:Nat)(key:Key)(r:Raw w c h T 0 ch (sg ch*(n:Int)) L n)(hl:L.length<=0):
 Calls prog 166 #[.pointer (some ⟨c,0,none⟩),.string key] w (bs (.agg #[.bool false,.string ⟨#[]⟩,.bool false]) w c (ax c T) 0 ch L n):=by
 have cx:=r.cx;have c0:=r.c0;have hb:=(zo w.heap.size w).alloc (zg _) ei
 have R:=J (show bs (.agg #[.bool false,.string ⟨#[]⟩,.bool false]) w c (ax c T) 0 ch L n (.returned (.agg #[.bool false,.string ⟨#[]⟩,.bool false])) (w.alloc ei) from
  ⟨rfl,_,⟨h,T,rfl,r.below hb,hl⟩,λk hk=>xz hk,ao.cZ hb⟩)
 have B:=zs (aT (w.alloc ei) w.heap.size false ⟨#[]⟩ false) (heap_alloc_new _ _);clear r hb;go_enter func166,ntmps166;go_wp2_with fail
 refine bodyPost_ret (aV rfl _ _ _ ⟨w.heap.size,0,none⟩ _ rfl (bo B.out)) rfl ?_;exact R.out
theorem oL(w:zw)(c h:Nat)(T:Nat->Prop)(mo:Nat)(ch:Bool)(L:List (aa Key))(n:Nat)(key:Key)(r:Raw w c h T (mo+1) ch (sg ch*(n:Int)) L n)(hl:L.length<=mo+1)(hi:da L key=true)(hs:key.size<=maxLen)(hn:n<=90000)(h9:L.length<=999):
 Calls prog 166 #[.pointer (some ⟨c,0,none⟩),.string key] w (bs (.agg #[.bool true,.string ⟨#[]⟩,.bool false]) w c (ax c T) (mo+1) ch (put ch n L key) (n+1)):=by
 have cx:=r.cx;have c0:=r.c0;have ht:=r.top;have U:=jy _ c h T _ ch _ L n key (r.below ((zo w.heap.size w).alloc (zg _) ei)) hs;rw[hi] at U;have U:=J U;have HH:=J r;have HF:=zs ((put ch n L key).length<=mo+1) (by rw[mh];have:=Lf.eY r.hs.once hi;omega);clear r;go_enter func166,ntmps166;go_wp2_with fail
 refine U.out.mono ?_;rintro e w1 ⟨rfl,hb⟩;have m0:=bN.start HH.out hb true;have M0:=J m0;have U2:=J (uo _ c h T _ ch L n key m0.raw hs h9 hn);clear hb m0 U;go_wp2_with fail
 refine U2.out.mono ?_;intro e w2 hp;obtain⟨rfl,T2,M2⟩:=M0.out.count hp;have F:=J (M2.out HF.out);obtain⟨k0,k1,k2,f1,f2⟩:=M2.step.cells;obtain⟨r0,r1,r2,g1,g2⟩:=M2.res.cells;have g0:w2.frozen? ⟨w.heap.size,0,none⟩=false:=frozen_of_row w2 _ 0 _ _ M2.res;have al:=M2.ne;clear hp M0 U2 M2;go_wp2_with fail
 refine bodyPost_ret (aV rfl _ _ _ ⟨w.heap.size,0,none⟩ _ rfl (bo F.out.1)) rfl ?_;exact F.out.2
theorem sV(w:zw)(c h:Nat)(T:Nat->Prop)(mo:Nat)(ch:Bool)(L:List (aa Key))(n:Nat)(key:Key)(r:Raw w c h T (mo+1) ch (sg ch*(n:Int)) L n)(hl:L.length<=mo)(hi:da L key=false)(hs:key.size<=maxLen)(hn:n<=90000)(h9:L.length<=999):
 Calls prog 166 #[.pointer (some ⟨c,0,none⟩),.string key] w (bs (.agg #[.bool false,.string ⟨#[]⟩,.bool false]) w c (ax c T) (mo+1) ch (put ch n L key) (n+1)):=by
 have cx:=r.cx;have c0:=r.c0;have ht:=r.top;have U:=jy _ c h T _ ch _ L n key (r.below ((zo w.heap.size w).alloc (zg _) ei)) hs;rw[hi] at U;have U:=J U;have HH:=J r;have HF:=zs ((put ch n L key).length<=mo+1) (by rw[mh];have:=Lf.aI L key;omega);clear r;go_enter func166,ntmps166;go_wp2_with fail
 refine U.out.mono ?_;rintro e w1 ⟨rfl,hb⟩;have m0:=bN.start HH.out hb false;have M0:=J m0;have d0:=m0.raw.c0;have V:=J (λf=>qU _ c h T _ ch _ L n mo f m0.raw hl);have U2:=J (uo _ c h T _ ch L n key m0.raw hs h9 hn);clear hb m0 U;go_wp2_with fail
 refine(V.out _).mono ?_;rintro e w1 ⟨rfl,rfl⟩;go_wp2_with fail
 refine U2.out.mono ?_;intro e w2 hp;obtain⟨rfl,T2,M2⟩:=M0.out.count hp;have F:=J (M2.out HF.out);obtain⟨k0,k1,k2,f1,f2⟩:=M2.step.cells;obtain⟨r0,r1,r2,g1,g2⟩:=M2.res.cells;have g0:w2.frozen? ⟨w.heap.size,0,none⟩=false:=frozen_of_row w2 _ 0 _ _ M2.res;have al:=M2.ne;clear hp M0 U2 M2;go_wp2_with fail
 refine bodyPost_ret (aV rfl _ _ _ ⟨w.heap.size,0,none⟩ _ rfl (bo F.out.1)) rfl ?_;exact F.out.2
theorem sW(w:zw)(c h:Nat)(T:Nat->Prop)(ch:Bool)(x:aa Key)(L:List (aa Key))(n:Nat)(key:Key)(r:Raw w c h T (L.length+1) ch (sg ch*(n:Int)) (x::L) n)(hi:da (x::L) key=false)(hs:key.size<=maxLen)(hn:n<=90000):
 Calls prog 166 #[.pointer (some ⟨c,0,none⟩),.string key] w (bs (.agg #[.bool false,.string x.key,.bool true]) w c (ax c T) (L.length+1) ch (put ch n L key) (n+1)):=by
 have cx:=r.cx;have c0:=r.c0;have ht:=r.top;have h9:L.length<=999:=by have:=r.len;rw[zv] at this;omega
 have U:=jy _ c h T _ ch _ (x::L) n key (r.below ((zo w.heap.size w).alloc (zg _) ei)) hs;rw[hi] at U;have U:=J U;have HH:=J r;have HF:=zs ((put ch n L key).length<=L.length+1) (by rw[mh];have:=Lf.aI L key;omega);clear r;go_enter func166,ntmps166;go_wp2_with fail
 refine U.out.mono ?_;rintro e w1 ⟨rfl,hb⟩;have m0:=bN.start HH.out hb false;have M0:=J m0;have d0:=m0.raw.c0;have V:=J (mY _ c h T _ ch _ x L n w1.heap.size _ _ _ m0.raw m0.LV m0.step);clear hb m0 U;go_wp2_with fail
 refine V.out.mono ?_;rintro e w2 ⟨rfl,hq⟩;obtain⟨T2,m2⟩:=M0.out.cut hq;have U2:=J (uo _ c h T2 _ ch L n key m2.raw hs h9 hn);have M2:=J m2;clear hq M0 m2 V c0 d0;go_wp2_with fail
 refine U2.out.mono ?_;intro e w3 hp;obtain⟨rfl,T3,M3⟩:=M2.out.count hp;have F:=J (M3.out HF.out);obtain⟨k0,k1,k2,f1,f2⟩:=M3.step.cells;obtain⟨r0,r1,r2,g1,g2⟩:=M3.res.cells;have g0:w3.frozen? ⟨w.heap.size,0,none⟩=false:=frozen_of_row w3 _ 0 _ _ M3.res;have al:=M3.ne;clear hp M2 U2 M3;go_wp2_with fail
 refine bodyPost_ret (aV rfl _ _ _ ⟨w.heap.size,0,none⟩ _ rfl (bo F.out.1)) rfl ?_;exact F.out.2
theorem gF(w:zw)(c:Nat)(S:Nat->Prop)(mo:Nat)(ch:Bool)(L:List (aa Key))(n:Nat)(key:Key)(a:Ca w c S mo ch L n)(hs:key.size<=maxLen)(hn:n<=900):
 Calls prog 166 #[.pointer (some ⟨c,0,none⟩),.string key] w (bs (cS mo L key) w c S mo ch (fN ch mo n L key) (lJ mo n)):=by
 have h9:L.length<=999:=by have:=yt a.once;omega
 obtain⟨h,T,rfl,hR,hl⟩:=a;cases mo with
 |zero=>exact jA w c h T ch L n key hR hl
 |succ mo=>
  have en:lJ (mo+1) n=n+1:=by simp[lJ]
  rw[en];cases hi:da L key with
  |true=>
   have e1:cS (mo+1) L key= .agg #[.bool true,.string ⟨#[]⟩,.bool false]:=by simp[cS,eK,eL,ef,hi]
   have e2:fN ch (mo+1) n L key=put ch n L key:=by simp[fN,hi]
   rw[e1,e2];exact oL w c h T mo ch L n key hR hl hi hs (by omega) h9
  |false=>
   by_cases hf:L.length<=mo
   . have e1:cS (mo+1) L key= .agg #[.bool false,.string ⟨#[]⟩,.bool false]:=by
      have:¬(mo+1<=L.length):=by omega
      simp[cS,eK,eL,ef,hi,this]
     have e2:fN ch (mo+1) n L key=put ch n L key:=by
      simp only[fN,hi,show L.length+1 - (mo+1)=0 by omega,List.drop_zero];simp
     rw[e1,e2];exact sV w c h T mo ch L n key hR hf hi hs (by omega) h9
   . cases L with
     |nil=>simp at hf
     |cons x L=>
      obtain rfl:mo=L.length:=by rw[zv] at hf hl;omega
      have e1:cS (L.length+1) (x::L) key= .agg #[.bool false,.string x.key,.bool true]:=by simp[cS,eK,eL,ef,hi,jK]
      have e2:fN ch (L.length+1) n (x::L) key=put ch n L key:=by
       simp only[fN,hi,zv,show L.length+1+1 - (L.length+1)=1 by omega,List.drop_succ_cons,List.drop_zero];simp
      rw[e1,e2];exact sW w c h T ch x L n key hR hi hs (by omega)
end LF
namespace LF
open Go.RowKit Ht HS Lf
theorem dP{α:Type}(xs:List α)(k:Nat)(d:α)(h:k < xs.length):xs.take (k+1)=xs.take k++ [xs.getD k d]:=by
 rw[List.take_succ_eq_append_getElem h,zt,zm h];rfl
theorem Own.nil(w:zw)(base:Nat):Own w base (.slice none 0 0) []:=⟨⟨rfl,xz ⟨rfl,rfl⟩⟩,by simp,by simp⟩
theorem jm{w:zw}{base:Nat}{v:Value}{xs:zY}(h:Own w base v xs)(x:zy)(hx:x.size<=maxLen)(hl:xs.length<=1999)(hb:base<=w.heap.size):
 ∃(A:Option Addr) (cap:Nat) (w2:zw),(Builtin.append_ #[30,30] 30 #[v,.slice (some ⟨w.heap.size,0,none⟩) 1 1]).run prog (w.alloc (.cells #[.string x] 9))= .ok (.slice A (xs.length+1) cap) w2/\
  Own w2 base (.slice A (xs.length+1) cap) (xs++ [x])/\w.grownBy w2 v.ownBlock/\(∀g,(Value.slice A (xs.length+1) cap).ownBlock=some g->v.ownBlock=some g\/w.heap.size<=g):=by
 obtain⟨i0,hi,fL,fC,fx⟩:=info_parts uj
 obtain⟨v',w2,aB,bC,hg,ko,bw⟩:=run_append_own_at (P:=prog) (w.alloc (.cells #[.string x] 9)) base 30 30 9 i0 _ 1 16
  underlying30 hi fL fC fx rfl (by decide) _ _ _ (h.1.alloc _) ⟨w.heap.size,0,none⟩ 1 1 [.string x] rfl (cell_one_new _ _ _) (by simp[Value.oneCell']) (by unfold maxLen;omega) (by omega) (by simp;omega)
 have iO:=bC;rcases bC.2 with⟨_,h0⟩|⟨g,cap,cur,rfl,_⟩
 . omega
 refine⟨_,cap,w2,aB,⟨?_,by rw[zh];simp only[zv,ql];omega,λy hy=>?_⟩,(World.grownBy_alloc w _ _).trans hg,λg' dB=>?_⟩
 . rw[xc,zh];exact iO
 . rcases List.mem_append.1 hy with h1|h1
   . exact h.2.2 y h1
   . rw[List.mem_singleton.1 h1];exact hx
 . rcases bw with h1|h1
   . exact xz (h1▸dB)
   . rw[h1] at dB;injection dB with dB
     rw[show(w.alloc (.cells #[.string x] 9)).heap.size=w.heap.size+1 by simp] at dB;exact ja (by omega)
def bJ(w:zw)(gb:Nat)(v:Value):Prop:=w.heap[gb]?=some (.cells #[v] 30 (0,0))
theorem bJ.lt{w:zw}{gb:Nat}{v:Value}(k:bJ w gb v):gb < w.heap.size:=(Array.getElem?_eq_some_iff.1 k).1
theorem bJ.put{w:zw}{gb:Nat}{v:Value}(k:bJ w gb v)(u:Value):bJ (w.setCell ⟨gb,0,none⟩ u) gb u:=by
 unfold bJ at*;rw[heap_setCell_same _ _ _ _ _ _ k];rfl
theorem sX(w:zw)(gb base:Nat)(v:Value)(ts:zY)(x:zy)(k:bJ w gb v)(o:Own w base v ts)(hl:ts.length<=1999)(hx:x.size<=maxLen)(hb:base<=w.heap.size)(al:v.ownBlock≠some gb):
 Calls prog 177 #[.string x,.pointer (some ⟨gb,0,none⟩)] w (λe w'=>e= .returned (.tuple #[])/\∃v',bJ w' gb v'/\Own w' base v' (ts++ [x])/\(∀g,v'.ownBlock=some g->v.ownBlock=some g\/w.heap.size<=g)/\ao (λk=>k=gb\/v.ownBlock=some k) w w'):=by
 obtain⟨A2,cap,w2,aB,aS,hg,bw⟩:=jm o x hx hl hb;obtain⟨A1,c1,rfl⟩:=o.len;have yv:=k.lt;have k1:w.cell? ⟨gb,0,none⟩=some (.slice A1 ts.length c1):=cell_of_row w _ 0 _ _ _ k;have k2:bJ w2 gb (.slice A1 ts.length c1):=(hg.block gb yv (λe=>al e.symm)).trans k;have k3:w2.cell? ⟨gb,0,none⟩=some (.slice A1 ts.length c1):=cell_of_row w2 _ 0 _ _ _ k2;have k4:w2.frozen? ⟨gb,0,none⟩=false:=frozen_of_row w2 _ 0 _ _ k2;have df:=J aB
 have R:=J (show ∃v',bJ (w2.setCell ⟨gb,0,none⟩ (.slice A2 (ts.length+1) cap)) gb v'/\Own (w2.setCell ⟨gb,0,none⟩ (.slice A2 (ts.length+1) cap)) base v' (ts++ [x])/\(∀g,v'.ownBlock=some g->(Value.slice A1 ts.length c1).ownBlock=some g\/w.heap.size<=g)/\ao (λk=>k=gb\/(Value.slice A1 ts.length c1).ownBlock=some k) w (w2.setCell ⟨gb,0,none⟩ (.slice A2 (ts.length+1) cap)) by
  refine⟨_,k2.put _,aS.same (λg dB=>?_),bw,?_⟩
  . refine qc _ _ _ _ (λe=>?_);have e:g=gb:=e;subst e;rcases bw g dB with h|h
    . exact al h
    . omega
  . have t1:ao (λk=>k=gb\/(Value.slice A1 ts.length c1).ownBlock=some k) w w2:=⟨hg.os,hg.tape,hg.output,hg.size,λi hi h1=>hg.block i hi (λe=>h1 (ja e.symm))⟩;exact t1.put (p:=⟨gb,0,none⟩) (xz (xz rfl)) _)
 clear aB aS hg bw k k2 o al;go_enter func177,ntmps177;go_wp2_with(at_builtin;refine aq rfl _ _ _ rfl _ _ _ _ rfl rfl df.out ?_)
 go_end0;exact⟨rfl,R.out⟩
structure ur(w:zw)(c h:Nat)(T:Nat->Prop)(mo:Nat)(ch:Bool)(mk:Int)(L:List (aa Key))(n gb base m k:Nat)(W:zw)(T':Nat->Prop)(j:Nat)(v:Value):Prop where
 new:∀k,T' k->T k\/w.heap.size<=k
 a8:ao (λk=>T k\/k=gb) w W
 DY:¬T' gb
 vn:∀g,v.ownBlock=some g->¬ax c T' g/\g≠gb/\w.heap.size<=g
 yw:j+k=L.length - m
 raw:Raw W c h T' mo ch mk (L.drop j) n
 box:bJ W gb v
 own:Own W base v ((aC L).take j)
def pB(w:zw)(c h:Nat)(T:Nat->Prop)(mo:Nat)(ch:Bool)(mk:Int)(L:List (aa Key))(n gb base m k:Nat)(W:zw):Prop:=∃T' j v,ur w c h T mo ch mk L n gb base m k W T' j v
theorem jL{L:List (aa Key)}{j:Nat}(h:j < L.length):∃x,L.drop j=x::L.drop (j+1)/\x∈L/\(aC L).getD j ⟨#[]⟩=x.key:=by
 refine⟨L[j],List.drop_eq_getElem_cons h,qy h,?_⟩;rw[zt,aC,xj,zm h];rfl
theorem JT{w:zw}{c h:Nat}{T:Nat->Prop}{mo:Nat}{ch:Bool}{mk:Int}{L:List (aa Key)}{n gb:Nat}{v:Value}(r:Raw w c h T mo ch mk L n)(k:bJ w gb v):c≠gb:=bT r.box k (by decide)
theorem ur.next{w:zw}{c h:Nat}{T:Nat->Prop}{mo:Nat}{ch:Bool}{mk:Int}{L:List (aa Key)}{n gb base m k:Nat}{W W1 W2:zw}{T' T2:Nat->Prop}{j:Nat}{v v':Value}(r:ur w c h T mo ch mk L n gb base m (k+1) W T' j v)
 (hP:∀k,T2 k->T' k\/W.heap.size<=k) (hT:ao T' W W1) (hR:Raw W1 c h T2 mo ch mk (L.drop (j+1)) n)
 (g1:bJ W2 gb v') (g2:Own W2 base v' ((aC L).take j++ [(aC L).getD j ⟨#[]⟩])) (g3:∀g,v'.ownBlock=some g->v.ownBlock=some g\/W1.heap.size<=g) (g4:ao (λk=>k=gb\/v.ownBlock=some k) W1 W2) (hj:j < L.length):
 ur w c h T mo ch mk L n gb base m k W2 T2 (j+1) v':=by
 have s1:=r.a8.size;have s2:=hT.size;have s3:=g4.size
 have n2:¬T2 gb:=λhk=>by
  rcases hP gb hk with h|h
  . exact r.DY h
  . have:=r.box.lt;omega
 have aQ:∀k,ax c T2 k->k < W1.heap.size:=λk hk=>hR.lt hk;have LX:∀g,v.ownBlock=some g->g < W.heap.size:=λg hg=>(r.own.lt hg).1
 have nv:∀g,v.ownBlock=some g->¬ax c T2 g:=λg hg hk=>by
  rcases dU hP g hk with h|h
  . exact(r.vn g hg).1 h
  . have:=LX g hg;omega
 have al:=JT r.raw r.box;refine⟨?_,?_,n2,λg hg=>?_,by have:=r.yw;omega,?_,g1,?_⟩
 . intro k hk;rcases hP k hk with h|h
   . exact r.new k h
   . exact ja (by omega)
 . have t1:=r.a8.trans hT (λk hk hS=>by
    rcases r.new k hS with h|h
    . exact xz h
    . omega)
   refine t1.trans g4 (λk hk hS=>?_);rcases hS with h|h
   . exact ja h
   . have:=(r.vn k h).2.2;omega
 . rcases g3 g hg with h|h
   . exact⟨nv g h,(r.vn g h).2⟩
   . refine⟨λhk=>?_,λe=>?_,by omega⟩
     . have:=aQ g hk;omega
     . have:=r.box.lt;omega
 . exact hR.pA λk hk=>g4.block k (aQ k hk) (λe=>by
    rcases e with e|e
    . subst e;rcases hk with hk|hk
      . exact al hk.symm
      . exact n2 hk
    . exact nv k e hk)
 . rw[dP (aC L) j ⟨#[]⟩ (by rw[cw];exact hj)];exact g2
theorem yx(w:zw)(c h:Nat)(T:Nat->Prop)(mo:Nat)(ch:Bool)(mk:Int)(L:List (aa Key))(n gb base m:Nat)(r:Raw w c h T mo ch mk L n)(hs:¬T gb)(hB:bJ w gb (.slice none 0 0))(hb:base<=w.heap.size):
 Calls prog 175 #[.pointer (some ⟨c,0,none⟩),.int .i64 (m:Int),.func (.func 177) #[] #[.pointer (some ⟨gb,0,none⟩)]] w (λe w'=>e= .returned (.tuple #[])/\pB w c h T mo ch mk L n gb base m 0 w'):=by
 have R0:=zs (pB w c h T mo ch mk L n gb base m (L.length - m) w) (⟨T,0,_,λ_ h=>xz h,ao.refl _ _,hs,λg hg=>(by cases hg),by omega,r,hB,Own.nil _ _⟩);have fD:=r.len;have HS:=zs (∀x∈L,x.key.size<=maxLen) r.hs.ok;clear r hs hB;go_enter func175,ntmps175;go_wp2_with fail
 go_loopg [] (L.length - m) (λk W=>pB w c h T mo ch mk L n gb base m k W)
 case atStart=>exact R0.out
 case round=>
  obtain⟨T',j,v,r⟩:=hrel;have yz:=r.yw;have RR:=J r;have U1:=jx wr c h T' mo ch mk _ n r.raw;rw[xm] at U1;obtain⟨q,hq⟩:=zx (L.length - j);rw[← hq] at U1;have U1:=J U1;have HQ:=J hq;cases gk with
  |zero=>
   have e0:decide (m < q)=false:=by simp;omega
   clear r yz R0 hq;go_wp2_with fail
   refine U1.out.mono ?_;rintro e wr ⟨rfl,rfl⟩;go_wp2_with fail
   go_end0;exact⟨rfl,T',j,v,RR.out⟩
  |succ gk=>
   have e0:decide (m < q)=true:=by simp;omega
   have hj:j < L.length:=by omega
   have U2:=pz wr c h T' mo ch mk _ n r.raw;obtain⟨x,hx,qH,jn⟩:=jL hj;rw[hx] at U2;have U2:=zs (Calls prog 160 #[.pointer (some ⟨c,0,none⟩)] wr (qF (.tuple #[.string x.key,.bool true]) wr c h T' mo ch mk (L.drop (j+1)) n)) U2;have ob:=HS.out x qH;have HX:=J jn;clear r yz R0 hx qH jn hq;go_wp2_with fail
   refine U1.out.mono ?_;rintro e wr ⟨rfl,rfl⟩;go_wp2_with fail
   refine U2.out.mono ?_;rintro e w2 ⟨rfl,T2,hR,hN,hT⟩;have r:=RR.out;have s2:=hT.size;have s1:=r.a8.size;have b2:bJ w2 gb v:=(hT.block gb r.box.lt r.DY).trans r.box;have o2:Own w2 base v ((aC L).take j):=r.own.same (λg hg=>hT.block g (r.own.lt hg).1 (λe=>(r.vn g hg).1 (ja e)));have U3:=J (sX w2 gb base v _ x.key b2 o2 (by rw[qh];omega) ob (by omega) (λe=>(r.vn gb e).2.1 rfl));have H1:=J hN;have H2:=J hR;have H3:=J hT;clear hN hR hT b2 o2 r U1 U2;go_wp2_with fail
   refine U3.out.mono ?_;rintro e w3 ⟨rfl,v',g1,g2,g3,g4⟩;rw[← HX.out] at g2;have R3:=J (RR.out.next H1.out H3.out H2.out g1 g2 g3 g4 hj);clear g1 g2 g3 g4 U3;go_wp2_with fail
   go_roundg gk
   case measure=>omega
   case rel=>exact⟨T2,j+1,v',R3.out⟩
def eM(w:zw)(c:Nat)(S:Nat->Prop)(m:Nat)(ch:Bool)(L:List (aa Key))(n:Nat)(e:Ending)(w':zw):Prop:=
 ∃v S',e= .returned v/\Own w' w.heap.size v ((aC L).take (L.length - m))/\Ca w' c S' m ch (L.drop (L.length - m)) n/\(∀k,S' k->S k\/w.heap.size<=k)/\ao S w w'/\(∀g,v.ownBlock=some g->¬S' g)
theorem kW{w:zw}{c h:Nat}{T:Nat->Prop}{mo:Nat}{ch:Bool}{mk:Int}{L:List (aa Key)}{n:Nat}(r:Raw w c h T mo ch mk L n)(m:Nat)(hm:m<=9223372036854775807):
 Raw ((w.setCell ⟨c,0,none⟩ (.int .i64 (m:Int))).alloc (.cells #[.slice none 0 0] 30)) c h T m ch mk L n/\¬T w.heap.size/\bJ ((w.setCell ⟨c,0,none⟩ (.int .i64 (m:Int))).alloc (.cells #[.slice none 0 0] 30)) w.heap.size (.slice none 0 0):=by
 have bW:(w.setCell ⟨c,0,none⟩ (.int .i64 (m:Int))).heap.size=w.heap.size:=by simp[World.setCell]
 have r1:Raw (w.setCell ⟨c,0,none⟩ (.int .i64 (m:Int))) c h T m ch mk L n:=by
  refine⟨r.hs.same (λk hk=>qc _ _ _ _ (λe=>r.cT (by have e:k=c:=e;exact e▸hk))),r.cT,?_,hm,r.fit⟩;rw[heap_setCell_same _ _ _ _ _ _ r.box];rfl
 refine⟨r1.below ((zo _ _).alloc (zg _) _),λhk=>?_,?_⟩
 . have:=r.hs.lt hk;omega
 . have:=heap_alloc_new (w.setCell ⟨c,0,none⟩ (.int .i64 (m:Int))) (.cells #[.slice none 0 0] 30);rw[bW] at this;exact this
theorem iP{w w2:zw}{c h:Nat}{T:Nat->Prop}{ch:Bool}{L:List (aa Key)}{n m:Nat}(r:pB ((w.setCell ⟨c,0,none⟩ (.int .i64 (m:Int))).alloc (.cells #[.slice none 0 0] 30)) c h T m ch (sg ch*(n:Int)) L n w.heap.size w.heap.size m 0 w2):
 ∃A q cp,bJ w2 w.heap.size (.slice A q cp)/\eM w c (ax c T) m ch L n (.returned (.slice A q cp)) w2:=by
 obtain⟨T',j,v,r⟩:=r;have bW:((w.setCell ⟨c,0,none⟩ (.int .i64 (m:Int))).alloc (.cells #[.slice none 0 0] 30)).heap.size=w.heap.size+1:=by simp[World.setCell]
 have hj:=r.yw;obtain rfl:j=L.length - m:=by omega
 have aS:=r.own;obtain⟨A,cp,rfl⟩:=aS.len;refine⟨A,_,cp,r.box,_,ax c T',rfl,aS,⟨h,T',rfl,r.raw,?_⟩,?_,?_,λg hg=>(r.vn g hg).1⟩
 . rw[xm];omega
 . refine dU λk hk=>?_;rcases r.new k hk with h|h
   . exact xz h
   . exact ja (by omega)
 . have t0:ao (ax c T) w ((w.setCell ⟨c,0,none⟩ (.int .i64 (m:Int))).alloc (.cells #[.slice none 0 0] 30)):=((ao.refl _ _).put (p:=⟨c,0,none⟩) (xz (xz rfl)) _).alloc _
   exact t0.trans r.a8 (λk hk hS=>by
    rcases hS with h|h
    . exact ja h
    . omega)
theorem vI(w:zw)(c h:Nat)(T:Nat->Prop)(mo:Nat)(ch:Bool)(L:List (aa Key))(n:Nat)(z:Int)(hz: -9223372036854775808<=z)(h0:z < 0)(r:Raw w c h T mo ch (sg ch*(n:Int)) L n):
 Calls prog 167 #[.pointer (some ⟨c,0,none⟩),.int .i64 z] w (eM w c (ax c T) 0 ch L n):=by
 have c0:=r.c0;have f0:=r.f0;have cx:=r.cx;obtain⟨r1,r2,r3⟩:=kW r 0 (by omega);have c1:=r1.c0;have U:=yx _ c h T 0 ch _ L n w.heap.size w.heap.size 0 r1 r2 r3 (by simp[World.setCell]);simp only[Int.natCast_zero] at U c1;have HM:=zs (max z 0=0) (by omega);have U:=J U;clear r r1 r2 r3;go_enter func167,ntmps167;go_wp2_with fail
 rw[HM.out];refine U.out.mono ?_;rintro e w2 ⟨rfl,hr⟩;obtain⟨A,q,cp,hg,hp⟩:=iP (m:=0) hr;have k1:w2.cell? ⟨w.heap.size,0,none⟩=some (.slice A q cp):=cell_of_row w2 _ 0 _ _ _ hg;have HP:=J hp;clear hr hg hp;go_wp2_with fail
 go_ret;exact HP.out
theorem vJ(w:zw)(c h:Nat)(T:Nat->Prop)(mo:Nat)(ch:Bool)(L:List (aa Key))(n:Nat)(m:Nat)(hz:m<=9223372036854775807)(r:Raw w c h T mo ch (sg ch*(n:Int)) L n):
 Calls prog 167 #[.pointer (some ⟨c,0,none⟩),.int .i64 (m:Int)] w (eM w c (ax c T) m ch L n):=by
 have c0:=r.c0;have f0:=r.f0;have cx:=r.cx;have h0:¬((m:Int) < 0):=by omega
 obtain⟨r1,r2,r3⟩:=kW r m hz;have c1:=r1.c0;have U:=yx _ c h T m ch _ L n w.heap.size w.heap.size m r1 r2 r3 (by simp[World.setCell]);have U:=J U;clear r r1 r2 r3;go_enter func167,ntmps167;go_wp2_with fail
 refine U.out.mono ?_;rintro e w2 ⟨rfl,hr⟩;obtain⟨A,q,cp,hg,hp⟩:=iP (m:=m) hr;have k1:w2.cell? ⟨w.heap.size,0,none⟩=some (.slice A q cp):=cell_of_row w2 _ 0 _ _ _ hg;have HP:=J hp;clear hr hg hp;go_wp2_with fail
 go_ret;exact HP.out
theorem iA(w:zw)(c:Nat)(S:Nat->Prop)(mo:Nat)(ch:Bool)(L:List (aa Key))(n:Nat)(z:Int)(hz: -9223372036854775808<=z/\z<=9223372036854775807)(a:Ca w c S mo ch L n):
 Calls prog 167 #[.pointer (some ⟨c,0,none⟩),.int .i64 z] w (eM w c S z.toNat ch L n):=by
 obtain⟨h,T,rfl,hR,hl⟩:=a
 by_cases h0:z < 0
 . rw[show z.toNat=0 by omega];exact vI w c h T mo ch L n z hz.1 h0 hR
 . obtain⟨m,rfl⟩:∃m:Nat,z=(m:Int):=⟨z.toNat,by omega⟩;exact vJ w c h T mo ch L n m (by omega) hR
theorem Cx(w:zw)(c h:Nat)(T:Nat->Prop)(mo:Nat)(ch:Bool)(mk:Int)(L:List (aa Key))(n:Nat)(r:Raw w c h T mo ch mk L n):
 Calls prog 163 #[.pointer (some ⟨c,0,none⟩)] w (br (aC L) w):=by
 have c1:=r.c1;have U:=J (DU w h T L n r.hs);clear r;go_enter func163,ntmps163;go_wp2_with fail
 refine U.out.mono ?_;rintro e w1 ⟨v,rfl,hO,hB⟩;have HO:=J hO;have HB:=J hB;clear hO hB;go_wp2_with fail
 go_ret;exact⟨v,rfl,HO.out,HB.out⟩
theorem kt(w:zw)(c:Nat)(S:Nat->Prop)(mo:Nat)(ch:Bool)(L:List (aa Key))(n:Nat)(a:Ca w c S mo ch L n):Calls prog 163 #[.pointer (some ⟨c,0,none⟩)] w (br (aC L) w):=by
 obtain⟨h,T,rfl,hR,hl⟩:=a;exact Cx w c h T mo ch _ L n hR
end LF
namespace LF
open Go.RowKit Ht HS Lf
set_option maxRecDepth 100000 in
theorem jB(w:zw)(c h:Nat)(T:Nat->Prop)(mo:Nat)(ch:Bool)(L:List (aa Key))(n:Nat)(key:Key)(r:Raw w c h T mo ch (sg ch*(n:Int)) L n)(hl:L.length<=mo)(hi:da L key=true)(hs:key.size<=maxLen):
 Calls prog 159 #[.pointer (some ⟨c,0,none⟩),.string key] w (bs (.bool false) w c (ax c T) mo ch L n):=by
 have HH:=J r;have HL:=J hl;have HI:=J hi;have BD:=zs (∀w2,Below w.drew.heap.size w.drew w2->Below w.heap.size w w2) (λw2 hB=>⟨hB.os,hB.tape,hB.output,hB.size,hB.block⟩);clear r hl hi;go_enter func159,ntmps159;go_wp2_with fail
 refine wp_region_noPanic ?_;refine wp_region_held_drew (S:=λ_=>True) (by kernel_rfl) trivial (λhHeld=>?_)
 iterate 2 (refine zi 0 (v:=?_) rfl (by kernel_rfl) zq ‹_› (by intro w aO;(try dsimp only at aO);go_simp;(try with_reducible rfl)) ?_;(try simp only[Act.put,za,zb,zc]))
 refine wpAnyH_ready (rs:=[2]) (by kernel_rfl) (by simp) ?_;refine zn rfl (λK hK=>?_);go_simp;refine(jy w.drew c h T mo ch _ L n key (HH.out.below ⟨rfl,rfl,rfl,zg _,λ_ _=>rfl⟩) hs).mono ?_;rintro e w2 ⟨rfl,hB⟩;rw[HI.out];have B2:=J (BD.out w2 hB);clear hB;go_wp2_with fail
 refine hK.out _ _ ?_ (λhHeld=>?_)
 . exact trivial
 clear hK K;(try simp only[Act.put,za,zb,zc]);refine zi 0 (v:=?_) rfl (by kernel_rfl) zq ‹_› (by intro w aO;(try dsimp only at aO);go_simp;(try with_reducible rfl)) ?_;(try simp only[Act.put,za,zb,zc])
 iterate 7 (refine zj 0 rfl (by kernel_rfl) zq ‹_› ?_;(try simp only[Act.put,za,zb,zc]))
 refine zi 0 (v:=?_) rfl (by kernel_rfl) zq ‹_› (by intro w aO;(try dsimp only at aO);go_simp;(try with_reducible rfl)) ?_;(try simp only[Act.put,za,zb,zc]);refine wpAnyH_done (by kernel_rfl) ?_ _;refine NoPanic.normal ?_;go_wp2_with fail
 go_ret;exact⟨rfl,_,⟨h,T,rfl,HH.out.below B2.out,HL.out⟩,λk hk=>xz hk,ao.cZ B2.out⟩
set_option maxRecDepth 100000 in
theorem gG(w:zw)(c h:Nat)(T:Nat->Prop)(mo:Nat)(ch:Bool)(L:List (aa Key))(n:Nat)(key:Key)(r:Raw w c h T mo ch (sg ch*(n:Int)) L n)(hl:L.length<=mo)(hi:da L key=false)(hf:mo<=L.length)(hs:key.size<=maxLen):
 Calls prog 159 #[.pointer (some ⟨c,0,none⟩),.string key] w (bs (.bool false) w c (ax c T) mo ch L n):=by
 have c0:=r.c0;have e0:decide (mo<=L.length)=true:=by simpa using hf
 have HH:=J r;have HL:=J hl;have HF:=J hf
 have HA:=J (show Calls prog 162 #[.pointer (some ⟨c,0,none⟩),.string key] w.drew (eJ (.bool false) w.drew) from by
  have:=jy w.drew c h T mo ch _ L n key (r.below ⟨rfl,rfl,rfl,zg _,λ_ _=>rfl⟩) hs;rw[hi] at this;exact this)
 have BD:=J (show ∀w2,Below w.drew.heap.size w.drew w2->Below w.heap.size w w2/\w2.cell? ⟨c,0,none⟩=some (.int .i64 (mo:Int)) from λw2 hB=>by
  have hb:Below w.heap.size w w2:=⟨hB.os,hB.tape,hB.output,hB.size,hB.block⟩;exact⟨hb,(hb.cell (p:=⟨c,0,none⟩) (l' c0)).trans c0⟩)
 clear r hl hi hf;go_enter func159,ntmps159;go_wp2_with fail
 go_region_held3(λw'=>w'.cell? ⟨c,0,none⟩=some (.int .i64 (mo:Int))) (first|assumption|go_keep)
  (first
    |(go_at_call 162;refine HA.out.mono ?_;rintro e w2 ⟨rfl,hB⟩;have B2:=J (BD.out w2 hB).1;have z1:=(BD.out w2 hB).2;clear hB)
    |(go_at_call 164;refine(jx w2 c h T mo ch _ L n (HH.out.below B2.out)).mono ?_;rintro e w3 ⟨rfl,rfl⟩))
 go_wp2_with fail
 go_ret;exact⟨rfl,_,⟨h,T,rfl,HH.out.below B2.out,HL.out⟩,λk hk=>xz hk,ao.cZ B2.out⟩
set_option maxRecDepth 100000 in
theorem gH(w:zw)(c h:Nat)(T:Nat->Prop)(mo:Nat)(ch:Bool)(L:List (aa Key))(n:Nat)(key:Key)(r:Raw w c h T mo ch (sg ch*(n:Int)) L n)(hl:L.length<=mo)(hi:da L key=false)(hf:L.length < mo)(hs:key.size<=maxLen)(hn:n<=90000)(h9:L.length<=999):
 Calls prog 159 #[.pointer (some ⟨c,0,none⟩),.string key] w (bs (.bool true) w c (ax c T) mo ch (put ch n L key) (n+1)):=by
 have c0:=r.c0;have e0:decide (mo<=L.length)=false:=by simpa using hf
 have HH:=J r;have HL:=J hl;have HF:=J hf
 have HA:=J (show Calls prog 162 #[.pointer (some ⟨c,0,none⟩),.string key] w.drew (eJ (.bool false) w.drew) from by
  have:=jy w.drew c h T mo ch _ L n key (r.below ⟨rfl,rfl,rfl,zg _,λ_ _=>rfl⟩) hs;rw[hi] at this;exact this)
 have BD:=J (show ∀w2,Below w.drew.heap.size w.drew w2->Below w.heap.size w w2/\w2.cell? ⟨c,0,none⟩=some (.int .i64 (mo:Int)) from λw2 hB=>by
  have hb:Below w.heap.size w w2:=⟨hB.os,hB.tape,hB.output,hB.size,hB.block⟩;exact⟨hb,(hb.cell (p:=⟨c,0,none⟩) (l' c0)).trans c0⟩)
 clear r hl hi hf;go_enter func159,ntmps159;go_wp2_with fail
 go_region_held3(λw'=>w'.cell? ⟨c,0,none⟩=some (.int .i64 (mo:Int))) (first|assumption|go_keep)
  (first
    |(go_at_call 162;refine HA.out.mono ?_;rintro e w2 ⟨rfl,hB⟩;have B2:=J (BD.out w2 hB).1;have z1:=(BD.out w2 hB).2;clear hB)
    |(go_at_call 164;refine(jx w2 c h T mo ch _ L n (HH.out.below B2.out)).mono ?_;rintro e w3 ⟨rfl,rfl⟩))
 go_wp2_with fail
 refine(uo w2 c h T mo ch L n key (HH.out.below B2.out) hs h9 hn).mono ?_;rintro e w3 ⟨rfl,T3,hR,hN,hT⟩
 have R:=J (show bs (.bool true) w c (ax c T) mo ch (put ch n L key) (n+1) (.returned (.bool true)) w3 from by
  have bW:=B2.out.size;refine⟨rfl,_,⟨h,T3,rfl,hR,?_⟩,λk hk=>?_,(ao.cZ (S:=ax c T) B2.out).trans hT (λ_ _ h=>h)⟩
  . rw[mh];have:=HF.out;have:=Lf.aI L key;omega
  . rcases dU hN k hk with h|h
    . exact xz h
    . exact ja (by omega))
 clear hR hN hT z1;go_wp2_with fail
 go_ret;exact R.out
theorem jC(w:zw)(c:Nat)(S:Nat->Prop)(mo:Nat)(ch:Bool)(L:List (aa Key))(n:Nat)(key:Key)(a:Ca w c S mo ch L n)(hs:key.size<=maxLen)(hn:n<=900):
 Calls prog 159 #[.pointer (some ⟨c,0,none⟩),.string key] w (bs (.bool (bD mo L key)) w c S mo ch (qE ch mo n L key) (mR mo n L key)):=by
 have h9:L.length<=999:=by have:=yt a.once;omega
 obtain⟨h,T,rfl,hR,hl⟩:=a;cases hi:da L key with
 |true=>
  have e1:bD mo L key=false:=by simp[bD,hi]
  rw[show qE ch mo n L key=L by unfold qE;rw[e1];rfl,show mR mo n L key=n by unfold mR;rw[e1];rfl,e1];exact jB w c h T mo ch L n key hR hl hi hs
 |false=>
  by_cases hf:L.length < mo
  . have e1:bD mo L key=true:=by simp[bD,hi,hf]
    rw[show qE ch mo n L key=put ch n L key by unfold qE;rw[e1];rfl,show mR mo n L key=n+1 by unfold mR;rw[e1];rfl,e1];exact gH w c h T mo ch L n key hR hl hi hf hs (by omega) h9
  . have e1:bD mo L key=false:=by simp[bD,hi,hf]
    rw[show qE ch mo n L key=L by unfold qE;rw[e1];rfl,show mR mo n L key=n by unfold mR;rw[e1];rfl,e1];exact gG w c h T mo ch L n key hR hl hi (by omega) hs
end LF
namespace LF
open Go.RowKit Ht HS Lf
theorem mZ{a b:zy}(h:a.toList=b.toList):a=b:=by
 rw[ByteArray.toList_eq,ByteArray.toList_eq] at h;exact ByteArray.ext (Array.toList_inj.1 h)
theorem yA(a b:zy):(a.toList==b.toList)=decide (a=b):=by
 rw[Bool.eq_iff_iff];simp only[beq_iff_eq,decide_eq_true_eq];exact⟨mZ,λh=>by rw[h]⟩
theorem jM{a b:zy}(h:a≠b):(a.toList==b.toList)=false:=by rw[yA];simpa using h
theorem iB{a b:zy}(h:a=b):(a.toList==b.toList)=true:=by rw[yA];simpa using h
end LF
namespace LF
open Go.RowKit Ht HS Lf
theorem av(w:zw)(n:Nat):Below w.heap.size w (w.drewN n):=⟨rfl,rfl,rfl,zg _,λ_ _=>rfl⟩
section
variable{w0 w w':zw}{c mo n n':Nat}{S S':Nat->Prop}{ch:Bool}{L L':List (aa Key)}{xs:zY}{r v:Value}{e:Ending}
end
section
variable(w:zw)(a b a' b':Bool)(s t:zy)
end
end LF
namespace LF
open Go.RowKit Ht HS Lf
theorem aT.below{W w':zw}{z:Nat}{h o:Bool}{s:zy}(k:aT W z h s o)(hb:Below W.heap.size W w'):aT w' z h s o:=(hb.block z k.lt).trans k
theorem aT.dR{W:zw}{z:Nat}{h o:Bool}{s:zy}(k:aT W z h s o):W.cell? ⟨z,0,none⟩=some (.bool h)/\W.cell? ⟨z,1,none⟩=some (.string s)/\W.cell? ⟨z,2,none⟩=some (.bool o)/\W.frozen? ⟨z,0,none⟩=false/\W.frozen? ⟨z,1,none⟩=false/\W.frozen? ⟨z,2,none⟩=false:=
 ⟨k.cells.1,k.cells.2.1,k.cells.2.2.1,frozen_of_row W _ 0 _ _ k,k.cells.2.2.2.1,k.cells.2.2.2.2⟩
end LF
namespace LF
open Ht HS Lf
structure By(ch:Bool)(L B:List (aa Key))(n:Nat):Prop where
 perm:L.Perm B
 Cy:B.Pairwise λa b=>a.set < b.set
 nY:mJ L
 once:ed L n
 fit:Fit ch L n
section
variable{ch:Bool}{L B:List (aa Key)}{n:Nat}
theorem By.start(ch:Bool):By ch [] [] 0:=⟨List.Perm.refl _,List.Pairwise.nil,List.Pairwise.nil,⟨List.nodup_nil,List.nodup_nil,by simp⟩,⟨by simp,by simp⟩⟩
theorem By.I1(y:By ch L B n):ed B n:=y.once.perm y.perm
theorem By.find(y:By ch L B n)(k:Key):find B k=find L k:=by
 cases h:Ht.find L k with
 |some e=>
  obtain⟨h1,h2⟩:=gz h;have:=y.I1.find (y.perm.mem_iff.1 h1);rw[h2] at this;exact this
 |none=>
  cases hb:Ht.find B k with
  |none=>rfl
  |some e=>obtain⟨h1,h2⟩:=gz hb;exact absurd h2 (kR h e (y.perm.mem_iff.2 h1))
theorem By.eE(y:By ch L B n)(k:Key):eE B k=eE L k:=by unfold Lf.eE;rw[y.find]
theorem By.len(y:By ch L B n):B.length=L.length:=y.perm.length_eq.symm
theorem By.rem(y:By ch L B n)(k:Key):By ch (rem L k) (rem B k) n:=
 ⟨y.perm.filter _,y.Cy.filter _,rW y.nY k,y.once.rem k,vC y.fit λ_ he=>(gY.1 he).1⟩
theorem By.put(y:By ch L B n)(k:Key):By ch (put ch n L k) (Ht.rem B k++ [yp ch n k (Lf.eE L k+1)]) (n+1):=by
 refine⟨?_,?_,?_,Ga y.once k,Bp y.fit k⟩
 . refine(km _ _).trans ?_;refine List.Perm.trans ?_ (List.perm_append_comm (l₁:=[yp ch n k (Lf.eE L k+1)]) (l₂:=Ht.rem B k));exact(y.perm.filter _).cons _
 . rw[List.pairwise_append];refine⟨(y.rem k).Cy,List.pairwise_singleton _ _,λa ha b hb=>?_⟩;rw[qo] at hb;subst hb;have:=y.I1.le a (gY.1 ha).1;show a.set < n+1;omega
 . refine vw _ _ (rW y.nY k) λx hx=>?_;have:=y.once.le x (gY.1 hx).1;show x.set≠n+1;omega
def r6(ch:Bool)(b:Option (aa Key))(x:aa Key):Option (aa Key):=match b with
 |none=>some x
 |some y=>if x.one < y.one\/(ch=true/\x.one=y.one) then some x else some y
def ni(ch:Bool)(B:List (aa Key)):Option (aa Key):=B.foldl (r6 ch) none
theorem yC(ch:Bool)(B:List (aa Key))(x:aa Key):ni ch (B++ [x])=r6 ch (ni ch B) x:=by unfold ni;rw[List.foldl_append];rfl
theorem Bq(ch:Bool):∀(R:List (aa Key)),R.reverse.Pairwise (λa b=>a.set < b.set)->(∀e∈R.reverse,e.two=sg ch*(e.set:Int))->(R.reverse= []/\ni ch R.reverse=none)\/∃b,ni ch R.reverse=some b/\b∈R.reverse/\∀x∈R.reverse,x=b\/lt b x
 | [],_,_=>xz ⟨rfl,rfl⟩
 |x::R,hp,hf=>by
  have ih:=Bq ch R;rw[List.reverse_cons] at hp hf|-;generalize R.reverse=B at ih hp hf|-;right;rw[List.pairwise_append] at hp;obtain⟨fy,_,UO⟩:=hp;have Q2:=hf x (by simp);rw[yC];rcases ih fy (λe he=>hf e (qq _ he)) with⟨rfl,hb⟩|⟨b,hb,Br,ke⟩
  . rw[hb];exact⟨x,rfl,by simp,λy hy=>xz (by simpa using hy)⟩
  . rw[hb];have LG:=UO b Br x (by simp);have Q3:=hf b (qq _ Br);unfold r6;simp only;split
    . rename_i hc
      have aQ:lt x b:=by
       unfold lt;rcases hc with hc|⟨rfl,hc⟩
       . exact xz hc
       . right;refine⟨hc,xz ?_⟩;rw[Q2,Q3,show sg true= -1 from rfl];omega
      refine⟨x,rfl,by simp,λy hy=>?_⟩;rcases List.mem_append.1 hy with hy|hy
      . rcases ke y hy with rfl|h
        . exact ja aQ
        . exact ja (aQ.trans h)
      . exact xz (by simpa using hy)
    . rename_i hc
      have aQ:lt b x:=by
       unfold lt
       by_cases h1:b.one < x.one
       . exact xz h1
       . right;have h2:¬x.one < b.one:=λh=>hc (xz h);have h3:x.one=b.one:=by omega
         refine⟨h3.symm,xz ?_⟩
         have h4:ch=false:=by
          cases ch with
          |false=>rfl
          |true=>exact absurd (ja ⟨rfl,h3⟩) hc
         subst h4;rw[Q2,Q3,show sg false=1 from rfl];omega
      refine⟨b,rfl,qq _ Br,λy hy=>?_⟩;rcases List.mem_append.1 hy with hy|hy
      . exact ke y hy
      . rw[qo] at hy;subst hy;exact ja aQ
theorem DZ(ch:Bool)(B:List (aa Key))(h1:B.Pairwise λa b=>a.set < b.set)(h2:∀e∈B,e.two=sg ch*(e.set:Int)):(B= []/\ni ch B=none)\/∃b,ni ch B=some b/\b∈B/\∀x∈B,x=b\/lt b x:=by
 have:=Bq ch B.reverse;rw[List.reverse_reverse] at this;exact this h1 h2
theorem By.ni(y:By ch L B n):ni ch B=L.head?:=by
 rcases DZ ch B y.Cy (λe he=>y.fit.two e (y.perm.mem_iff.2 he)) with⟨rfl,hb⟩|⟨b,hb,Br,ke⟩
 . rw[hb,List.perm_nil.1 y.perm];rfl
 . rw[hb];cases L with
   |nil=>have:=y.perm.mem_iff.2 Br;cases this
   |cons a L=>
    have ha:a∈B:=y.perm.mem_iff.1 xa;rcases ke a ha with rfl|h
    . rfl
    . rcases List.mem_cons.1 (y.perm.mem_iff.2 Br) with rfl|j9
      . rfl
      . exact absurd ((List.pairwise_cons.1 y.nY).1 b j9) h.asymm
theorem By.drop{e:aa Key}(y:By ch (e::L) B n):By ch L (Ht.rem B e.key) n:=by
 have:=y.rem e.key;rw[y.once.pw] at this;exact this
end
end LF
namespace LF
open Go.RowKit Ht HS Lf
def bO(w:zw)(g:Nat)(v:Value)(L:List (aa Key)):Prop:=
 L.length<=2000/\(∀e∈L,e.key.size<=maxLen)/\((L= []/\∃A c,v= .slice A 0 c)\/∃o c,v= .slice (some ⟨g,o,none⟩) L.length c/\g < w.heap.size/\L.length<=c/\c<=maxLen/\
  ∀j x,L[j]?=some x->w.cell? ⟨g,o+j*2,none⟩=some (.string x.key)/\w.cell? ⟨g,o+j*2+1,none⟩=some (.int .i64 x.one))
section
variable{w w':zw}{g:Nat}{v:Value}{L:List (aa Key)}
theorem bO.shape(h:bO w g v L):∃A c,v= .slice A L.length c:=by
 rcases h.2.2 with⟨rfl,A,c,e⟩|⟨o,c,e,_⟩
 . exact⟨A,c,e⟩
 . exact⟨_,c,e⟩
theorem bO.same(h:bO w g v L)(hs:w.heap.size<=w'.heap.size)(hb:g < w.heap.size->w'.heap[g]?=w.heap[g]?):bO w' g v L:=by
 refine⟨h.1,h.2.1,?_⟩;rcases h.2.2 with h1|⟨o,c,e,h1,h2,h3,h4⟩
 . exact xz h1
 . refine ja ⟨o,c,e,by omega,h2,h3,λj x hj=>?_⟩;obtain⟨q1,q2⟩:=h4 j x hj;exact⟨(World.cell?_of_block (a:=⟨g,o+j*2,none⟩) (hb h1)).trans q1,(World.cell?_of_block (a:=⟨g,o+j*2+1,none⟩) (hb h1)).trans q2⟩
theorem bO.below(h:bO w g v L)(hb:Below w.heap.size w w'):bO w' g v L:=h.same hb.size λhg=>hb.block g hg
theorem bO.nil(w:zw)(g:Nat)(A:Option Addr)(c:Nat):bO w g (.slice A 0 c) []:=⟨by simp,by simp,xz ⟨rfl,A,c,rfl⟩⟩
theorem bO.lt(h:bO w g v L)(hx:L≠ []):g < w.heap.size:=by
 rcases h.2.2 with⟨h,_⟩|⟨o,c,e,h1,_⟩
 . exact absurd h hx
 . exact h1
theorem bO.at{A:Option Addr}{m c:Nat}(h:bO w g (.slice A m c) L){j:Nat}{x:aa Key}(hj:L[j]?=some x):∃o,A=some ⟨g,o,none⟩/\g < w.heap.size/\L.length<=c/\c<=maxLen/\w.cell? ⟨g,o+j*2,none⟩=some (.string x.key)/\w.cell? ⟨g,o+j*2+1,none⟩=some (.int .i64 x.one):=by
 rcases h.2.2 with⟨rfl,_⟩|⟨o,c',e,h1,h2,h3,h4⟩
 . simp at hj
 . injection e with e1 e2 e3
   subst e3;exact⟨o,e1,h1,h2,h3,h4 j x hj⟩
theorem bO.set{q:Addr}(r:bO w g v L)(hq:g≠q.block)(u:Value):bO (w.setCell q u) g v L:=r.same (by simp[World.setCell]) (λ_=>qc _ _ _ _ hq)
end
def fS(L:List (aa Key)):List Value:=L.flatMap λe=>[.string e.key,.int .i64 e.one]
theorem uu:∀(L:List (aa Key)) (j:Nat) (x:aa Key),L[j]?=some x->(fS L)[j*2]?=some (.string x.key)/\(fS L)[j*2+1]?=some (.int .i64 x.one)
 | [],j,x,h=>by simp at h
 |y::L,0,x,h=>by
  simp at h;subst h;exact⟨rfl,rfl⟩
 |y::L,j+1,x,h=>by
  have h':L[j]?=some x:=by simpa using h
  obtain⟨q1,q2⟩:=uu L j x h';have e:fS (y::L)= [.string y.key,.int .i64 y.one]++fS L:=rfl;rw[e];refine⟨?_,?_⟩
  . rw[List.getElem?_append_right (by simp;omega)];rw[show(j+1)*2 - [Value.string y.key,.int .i64 y.one].length=j*2 by simp;omega];exact q1
  . rw[List.getElem?_append_right (by simp;omega)];rw[show(j+1)*2+1 - [Value.string y.key,.int .i64 y.one].length=j*2+1 by simp;omega];exact q2
theorem Cz(L M:List (aa Key)):fS (L++M)=fS L++fS M:=by simp[fS]
theorem CA(L:List (aa Key)):∀u∈fS L,u.oneCell'=true:=by
 intro u hu;unfold fS at hu;obtain⟨e,_,he⟩:=List.mem_flatMap.1 hu;simp at he;rcases he with rfl|rfl <;> rfl
def fc(w:zw)(base:Nat)(v:Value)(L:List (aa Key)):Prop:=w.ownsRow base 180 2 v L.length (fS L)/\L.length<=2000/\∀e∈L,e.key.size<=maxLen
theorem fc.row{w:zw}{base:Nat}{v:Value}{L:List (aa Key)}(h:fc w base v L):∃g,base<=g/\bO w g v L:=by
 obtain⟨h1,h2,h3⟩:=h;have yD:=h1;rcases h1.2 with⟨rfl,h0⟩|⟨g,cap,cur,rfl,hb,hg,hn,hm,hs,ht⟩
 . obtain rfl:L= []:=qe h0;exact⟨base,zg _,bO.nil _ _ _ _⟩
 . refine⟨g,hb,h2,h3,ja ⟨0,cap,rfl,(Array.getElem?_eq_some_iff.1 hg).1,hn,hm,λj x hj=>?_⟩⟩;obtain⟨q1,q2⟩:=uu L j x hj
   have key:∀m u,(fS L)[m]?=some u->w.cell? ⟨g,0+m,none⟩=some u:=λm u hm=>by
    have:=yD.cells (g:=g) rfl m u hm;rw[show(⟨g,0,none⟩:Addr).add m=⟨g,0+m,none⟩ by unfold Addr.add;split <;> simp_all] at this;exact this
   exact⟨key _ _ q1,key _ _ q2⟩
theorem fc.len{w:zw}{base:Nat}{v:Value}{L:List (aa Key)}(h:fc w base v L):∃A c,v= .slice A L.length c:=by
 rcases h.1.2 with⟨rfl,h0⟩|⟨g,cap,cur,rfl,_⟩
 . exact⟨none,0,by rw[h0]⟩
 . exact⟨_,_,rfl⟩
theorem Gc(w:zw)(base:Nat):fc w base (.slice none 0 0) []:=⟨⟨rfl,xz ⟨rfl,rfl⟩⟩,by simp,by simp⟩
theorem Pp:(prog.info? 180).map (λi=>(i.zero,i.size,i.bytes))=some (some (.agg #[.string ⟨#[]⟩,.int .i64 0]),2,24):=by kernel_rfl
theorem fc.lt{w:zw}{base g:Nat}{v:Value}{L:List (aa Key)}(h:fc w base v L)(hg:v.ownBlock=some g):g < w.heap.size/\base<=g:=by
 rcases h.1.2 with⟨rfl,_⟩|⟨g',cap,arr,rfl,hb,h2,h3⟩
 . cases hg
 . cases hg;exact⟨(Array.getElem?_eq_some_iff.1 h2).1,hb⟩
theorem fc.same{w w':zw}{base:Nat}{v:Value}{L:List (aa Key)}(o:fc w base v L)(hs:∀g,v.ownBlock=some g->w'.heap[g]?=w.heap[g]?):fc w' base v L:=by
 refine⟨⟨o.1.1,?_⟩,o.2⟩;rcases o.1.2 with h1|⟨g,cap,arr,rfl,hb,h2,h3⟩
 . exact xz h1
 . exact ja ⟨g,cap,arr,rfl,hb,(hs g rfl).trans h2,h3⟩
theorem I2{w:zw}{base:Nat}{v:Value}{L:List (aa Key)}(h:fc w base v L)(x:aa Key)(hx:x.key.size<=maxLen)(hl:L.length<=1999)(hb:base<=w.heap.size):
 ∃(A:Option Addr) (c:Nat) (w2:zw),(Builtin.append_ #[33,33] 33 #[v,.slice (some ⟨w.heap.size,0,none⟩) 1 1]).run prog (w.alloc (.cells #[.string x.key,.int .i64 x.one] 180))= .ok (.slice A (L.length+1) c) w2/\
  fc w2 base (.slice A (L.length+1) c) (L++ [x])/\w.grownBy w2 v.ownBlock:=by
 obtain⟨i0,hi,fL,fC,fx⟩:=info_parts Pp
 obtain⟨v',w2,aB,bC,hg,ko,bw⟩:=run_append_own_at (P:=prog) (w.alloc (.cells #[.string x.key,.int .i64 x.one] 180)) base 33 33 180 i0 _ 2 24
  underlying33 hi fL fC fx rfl (by decide) _ _ _ (h.1.alloc _) ⟨w.heap.size,0,none⟩ 1 1 (fS [x]) rfl (λj u hj=>by
   rw[show(⟨w.heap.size,0,none⟩:Addr).add j=⟨w.heap.size,j,none⟩ by unfold Addr.add;split <;> simp_all,cell_of_row _ _ _ _ _ _ (heap_alloc_new w _)];simpa[fS] using hj) (CA [x]) (by unfold maxLen;omega) (by omega) (by simp;omega)
 have iO:=bC;rcases bC.2 with⟨_,h0⟩|⟨g,cap,cur,rfl,_⟩
 . omega
 refine⟨_,cap,w2,aB,⟨?_,by rw[zh];simp only[zv,ql];omega,λe he=>?_⟩,(World.grownBy_alloc w _ _).trans hg⟩
 . rw[Cz,zh];exact iO
 . rcases List.mem_append.1 he with h1|h1
   . exact h.2.2 e h1
   . rw[List.mem_singleton.1 h1];exact hx
def bh(w:zw)(p mo:Nat)(ch:Bool)(v:Value):Prop:=w.heap[p]?=some (.cells #[.int .i64 (mo:Int),.bool ch,v] 35 (0,0))
abbrev eN(mo:Nat)(ch:Bool)(v:Value):Obj:= .cells #[.int .i64 (mo:Int),.bool ch,v] 35
abbrev od:Obj:= .cells #[.int .i64 0,.bool false,.slice none 0 0] 35
abbrev Tv(mo:Nat)(ch:Bool)(v:Value):Value:= .agg #[.int .i64 (mo:Int),.bool ch,v]
section
variable{w w':zw}{p mo:Nat}{ch:Bool}{v:Value}
theorem bh.lt(k:bh w p mo ch v):p < w.heap.size:=(Array.getElem?_eq_some_iff.1 k).1
theorem bh.c(k:bh w p mo ch v):w.cell? ⟨p,0,none⟩=some (.int .i64 (mo:Int))/\w.cell? ⟨p,1,none⟩=some (.bool ch)/\w.cell? ⟨p,2,none⟩=some v:=⟨cell_of_row w _ 0 _ _ _ k,cell_of_row w _ 1 _ _ _ k,cell_of_row w _ 2 _ _ _ k⟩
theorem bh.f(k:bh w p mo ch v):w.frozen? ⟨p,0,none⟩=false/\w.frozen? ⟨p,1,none⟩=false/\w.frozen? ⟨p,2,none⟩=false:=⟨frozen_of_row w _ 0 _ _ k,frozen_of_row w _ 1 _ _ k,frozen_of_row w _ 2 _ _ k⟩
theorem bh.below(k:bh w p mo ch v)(hb:Below w.heap.size w w'):bh w' p mo ch v:=(hb.block p k.lt).trans k
theorem bh.other(k:bh w p mo ch v){q:Addr}(hq:p≠q.block)(u:Value):bh (w.setCell q u) p mo ch v:=(qc _ _ _ _ hq).trans k
theorem bh.fE(k:bh w p mo ch v)(u:Value):bh (w.setCell ⟨p,2,none⟩ u) p mo ch u:=by
 unfold bh at*;rw[heap_setCell_same _ _ _ _ _ _ k];rfl
theorem bh.eV(k:bh w p mo ch v)(m:Nat):bh (w.setCell ⟨p,0,none⟩ (.int .i64 (m:Int))) p m ch v:=by
 unfold bh at*;rw[heap_setCell_same _ _ _ _ _ _ k];rfl
theorem bh.lK(k:bh w p mo ch v)(b:Bool):bh (w.setCell ⟨p,1,none⟩ (.bool b)) p mo b v:=by
 unfold bh at*;rw[heap_setCell_same _ _ _ _ _ _ k];rfl
theorem bh.put(k:bh w p mo ch v)(m:Nat)(b:Bool)(u:Value):bh (((w.setCell ⟨p,0,none⟩ (.int .i64 (m:Int))).setCell ⟨p,1,none⟩ (.bool b)).setCell ⟨p,2,none⟩ u) p m b u:=((k.eV m).lK b).fE u
end
theorem cY{w:zw}{p mo n c:Nat}{ch:Bool}{A:Option Addr}(k:bh w p mo ch (.slice A n c)):(loadVar 35 ⟨p,0,none⟩).run prog w= .ok (.agg #[.int .i64 (mo:Int),.bool ch,.slice A n c]) w:=by
 obtain⟨k0,k1,k2⟩:=k.c;unfold loadVar;go_simp
def pC(mo:Nat)(ch:Bool)(w:zw)(e:Ending)(w':zw):Prop:=e= .returned (Tv mo ch (.slice none 0 0))/\Below w.heap.size w w'
theorem nj(w:zw)(n:Nat)(ch:Bool)(hz:n<=9223372036854775807):Calls prog 46 #[.int .i64 (n:Int),.bool ch] w (pC n ch w):=by
 have k:=heap_alloc_new w (eN n ch (.slice none 0 0));have h0:¬((n:Int) < 0):=by omega
 have K:=zs (bh _ _ n ch (.slice none 0 0)) k;clear k;go_enter func46,ntmps46;go_wp2_with fail
 refine bodyPost_ret (aV rfl _ _ _ ⟨w.heap.size,0,none⟩ _ rfl (cY K.out)) rfl ?_;exact⟨rfl,(zo _ _).alloc (zg _) _⟩
theorem sY(w:zw)(z:Int)(ch:Bool)(Q4: -9223372036854775808<=z)(h0:z < 0):Calls prog 46 #[.int .i64 z,.bool ch] w (pC 0 ch w):=by
 have k:=heap_alloc_new w (eN 0 ch (.slice none 0 0));have e0:decide (z < 0)=true:=by simpa using h0
 have K:=zs (bh _ _ 0 ch (.slice none 0 0)) k;clear k;go_enter func46,ntmps46;go_wp2_with fail
 refine bodyPost_ret (aV rfl _ _ _ ⟨w.heap.size,0,none⟩ _ rfl (cY K.out)) rfl ?_;exact⟨rfl,(zo _ _).alloc (zg _) _⟩
theorem sZ(w:zw)(z:Int)(ch:Bool)(hz: -9223372036854775808<=z/\z<=9223372036854775807):Calls prog 46 #[.int .i64 z,.bool ch] w (pC z.toNat ch w):=by
 by_cases h0:z < 0
 . rw[show z.toNat=0 by omega];exact sY w z ch hz.1 h0
 . obtain⟨n,rfl⟩:∃n:Nat,z=(n:Int):=⟨z.toNat,by omega⟩;exact nj w n ch (by omega)
structure Bx(w W:zw)(p mo:Nat)(ch:Bool)(v:Value):Prop where
 c:bh W p mo ch v
 az:Below w.heap.size w W
 low:w.heap.size<=p
theorem td(w:zw)(mo:Nat)(ch:Bool)(v:Value):Bx w (w.alloc (eN mo ch v)) w.heap.size mo ch v:=⟨heap_alloc_new _ _,(zo _ _).alloc (zg _) _,zg _⟩
theorem CD{L:List (aa Key)}{key:Key}{i:Nat}{x:aa Key}(hx:L[i]?=some x)(hk:x.key=key)(hb:∀j e,j < i->L[j]?=some e->e.key≠key):find L key=some x:=by
 unfold find;rw[List.find?_eq_some_iff_getElem];obtain⟨hi,he⟩:=List.getElem?_eq_some_iff.1 hx;refine⟨by simpa using hk,i,hi,he,λj hj=>?_⟩;have:=hb j L[j] hj (zm (by omega));simpa using this
set_option maxRecDepth 100000 in
theorem gI(w:zw)(g mo:Nat)(ch:Bool)(A:Option Addr)(m c:Nat)(B:List (aa Key))(key:Key)(h:bO w g (.slice A m c) B)(hm:B.length=m):
 Calls prog 88 #[.agg #[.int .i64 (mo:Int),.bool ch,.slice A m c],.string key] w (eJ (.int .i64 (eE B key)) w):=by
 have X0:=td w mo ch (.slice A m c);have hl:=h.1;have HR:=J (h.below X0.az);obtain⟨w1,cA⟩:∃w1,w.alloc (eN mo ch (.slice A m c))=w1:=⟨_,rfl⟩;obtain⟨bx,ib⟩:∃bx,w.heap.size=bx:=⟨_,rfl⟩;have HB:=zs (Below w.heap.size w w1) (cA▸X0.az);rw[cA,ib] at X0;rw[cA] at HR;obtain⟨k0,k1,k2⟩:=X0.c.c;have HM:=J hm;rw[hm] at hl;clear h X0 hm;go_enter func88,ntmps88;go_wp2_with fail
 clear cA ib;go_loopg [5] m (λq iz W=>∃i,q+i=m/\iz= .int .i64 (i:Int)/\W=w1/\∀j e,j < i->B[j]?=some e->e.key≠key)
 case atStart=>exact⟨0,by omega,rfl,rfl,λj e hj=>by omega⟩
 case round=>
  obtain⟨i,um,rfl,rfl,cu⟩:=hrel;have NO:=J cu;have GI:=J um;clear cu um
  by_cases hi:i < m
  . have e0:decide (i < m)=true:=by simpa using hi
    obtain⟨x,hx⟩:∃x,B[i]?=some x:=⟨_,zm (by rw[HM.out];exact hi)⟩
    obtain⟨o,rfl,hg,cF,bL,m0,m1⟩:=HR.out.at hx;rw[HM.out] at cF;unfold maxLen at bL;have XX:=J hx;clear hx
    by_cases hk:x.key=key
    . have e1:=iB hk;have FF:=zs (eE B key=x.one) (by unfold eE;rw[CD XX.out hk NO.out];rfl);clear hk;go_wp2_with fail
      go_ret;exact⟨kn FF.out.symm,HB.out⟩
    . have e1:=jM hk;have NK:=J hk;clear hk;go_wp2_with fail
      go_roundg(m - (i+1))
      case measure=>have:=GI.out;omega
      case rel=>
       refine⟨i+1,by omega,rfl,rfl,λj e hj he=>?_⟩
       by_cases LY:j=i
       . subst LY;rw[XX.out] at he;cases he;exact NK.out
       . exact NO.out j e (by omega) he
  . have e0:decide (i < m)=false:=by simpa using hi
    have FF:=J (show eE B key=0 from LM (Bo.2 λe he hk=>by
     obtain⟨j,hj,rfl⟩:=List.mem_iff_getElem.1 he;exact NO.out j _ (by have:=GI.out;have:=HM.out;omega) (zm hj) hk))
    go_wp2_with fail
    go_ret;exact⟨kn FF.out.symm,HB.out⟩
end LF
namespace LF
open Go.RowKit Ht HS Lf
theorem fc.mono{w:zw}{base oe:Nat}{v:Value}{L:List (aa Key)}(h:fc w base v L)(hb:oe<=base):fc w oe v L:=by
 refine⟨⟨h.1.1,?_⟩,h.2⟩;rcases h.1.2 with h1|⟨g,cap,cur,e,h1,h2⟩
 . exact xz h1
 . exact ja ⟨g,cap,cur,e,by omega,h2⟩
structure Rw(w W:zw)(p0 p1 mo:Nat)(ch:Bool)(v:Value):Prop where
 c:bh W p0 mo ch v
 r1:bh W p1 0 false (.slice none 0 0)
 az:Below w.heap.size w W
 ne:p0≠p1/\p1≠p0
 low:w.heap.size<=p0/\w.heap.size<=p1
abbrev oM(w:zw)(mo:Nat)(ch:Bool)(v:Value):zw:=(w.alloc (eN mo ch v)).alloc od
theorem fF(w:zw)(mo:Nat)(ch:Bool)(v:Value):Rw w (oM w mo ch v) w.heap.size (w.heap.size+1) mo ch v:=by
 have a1:(w.alloc (eN mo ch v)).heap.size=w.heap.size+1:=by simp
 have b1:=heap_alloc_new w (eN mo ch v);have b2:=heap_alloc_new (w.alloc (eN mo ch v)) od;rw[a1] at b2;refine⟨?_,b2,?_,by omega,by omega⟩
 . exact(qf _ _ _ (by omega)).trans b1
 . exact((zo _ _).alloc (zg _) _).alloc (by omega) _
section
variable{w W W':zw}{p0 p1 mo:Nat}{ch:Bool}{v:Value}
theorem Rw.fE(r:Rw w W p0 p1 mo ch v)(u:Value):Rw w (W.setCell ⟨p0,2,none⟩ u) p0 p1 mo ch u:=⟨r.c.fE u,r.r1.other r.ne.2 _,r.az.setCell (p:=⟨p0,2,none⟩) r.low.1 _,r.ne,r.low⟩
theorem Rw.eV(r:Rw w W p0 p1 mo ch v)(m:Nat):Rw w (W.setCell ⟨p0,0,none⟩ (.int .i64 (m:Int))) p0 p1 m ch v:=⟨r.c.eV m,r.r1.other r.ne.2 _,r.az.setCell (p:=⟨p0,0,none⟩) r.low.1 _,r.ne,r.low⟩
theorem Rw.below(r:Rw w W p0 p1 mo ch v)(hb:Below W.heap.size W W'):Rw w W' p0 p1 mo ch v:=⟨r.c.below hb,r.r1.below hb,r.az.trans (hb.mono r.az.size),r.ne,r.low⟩
theorem Rw.all(r:Rw w W p0 p1 mo ch v)(m:Nat)(b:Bool)(u:Value):Rw w (((W.setCell ⟨p0,0,none⟩ (.int .i64 (m:Int))).setCell ⟨p0,1,none⟩ (.bool b)).setCell ⟨p0,2,none⟩ u) p0 p1 m b u:=
 ⟨r.c.put m b u,((r.r1.other r.ne.2 _).other r.ne.2 _).other r.ne.2 _,((r.az.setCell (p:=⟨p0,0,none⟩) r.low.1 _).setCell (p:=⟨p0,1,none⟩) r.low.1 _).setCell (p:=⟨p0,2,none⟩) r.low.1 _,r.ne,r.low⟩
theorem Rw.out(r:Rw w W p0 p1 mo ch v):bh (((W.setCell ⟨p1,0,none⟩ (.int .i64 (mo:Int))).setCell ⟨p1,1,none⟩ (.bool ch)).setCell ⟨p1,2,none⟩ v) p1 mo ch v/\Below w.heap.size w (((W.setCell ⟨p1,0,none⟩ (.int .i64 (mo:Int))).setCell ⟨p1,1,none⟩ (.bool ch)).setCell ⟨p1,2,none⟩ v):=
 ⟨r.r1.put mo ch v,((r.az.setCell (p:=⟨p1,0,none⟩) r.low.2 _).setCell (p:=⟨p1,1,none⟩) r.low.2 _).setCell (p:=⟨p1,2,none⟩) r.low.2 _⟩
end
def I4(mo:Nat)(ch:Bool)(B:List (aa Key))(w:zw)(e:Ending)(w':zw):Prop:=∃A m c,e= .returned (.agg #[.int .i64 (mo:Int),.bool ch,.slice A m c])/\fc w' w.heap.size (.slice A m c) B/\Below w.heap.size w w'
def Tw(B:List (aa Key))(key:Key)(w w1:zw)(p0 p1 mo:Nat)(ch:Bool)(u v i:Value)(W:zw):Prop:=∃k:Nat,i= .int .i64 (k:Int)/\k<=B.length/\fc W w1.heap.size v (rem (B.take k) key)/\Rw w W p0 p1 mo ch u/\Below w1.heap.size w1 W
theorem Gd{B:List (aa Key)}{key:Key}{k:Nat}{x:aa Key}(h:B[k]?=some x):rem (B.take (k+1)) key=if x.key=key then rem (B.take k) key else rem (B.take k) key++ [x]:=by
 obtain⟨hk,hx⟩:=List.getElem?_eq_some_iff.1 h;rw[List.take_succ_eq_append_getElem hk,hx];unfold rem;rw[List.filter_append];split
 . rename_i h;simp[h]
 . rename_i h;simp[h]
set_option maxRecDepth 100000 in
theorem oC(w:zw)(g mo:Nat)(ch:Bool)(A:Option Addr)(m c:Nat)(B:List (aa Key))(key:Key)(h:bO w g (.slice A m c) B)(hm:B.length=m)(hl:m<=1900):
 Calls prog 56 #[.agg #[.int .i64 (mo:Int),.bool ch,.slice A m c],.string key] w (I4 mo ch (rem B key) w):=by
 have X0:=fF w mo ch (.slice A m c);obtain⟨w1,cA⟩:∃w1,oM w mo ch (.slice A m c)=w1:=⟨_,rfl⟩;obtain⟨p0,cC⟩:∃p,w.heap.size=p:=⟨_,rfl⟩;obtain⟨p1,fy⟩:∃p,p0+1=p:=⟨_,rfl⟩;have HR:=J (h.below X0.az);rw[cA] at X0 HR;rw[cC,fy] at X0;have RW:=J X0;have HM:=J hm;have HP:=zs (p0 < w1.heap.size/\p1 < w1.heap.size) (⟨X0.c.lt,X0.r1.lt⟩);have HG:=J h;have LZ:=J cC;clear h hm X0;go_enter func56,ntmps56;go_wp2_with fail
 clear cA cC fy;go_loopw [5,6] (λv i W=>Tw B key w w1 p0 p1 mo ch (.slice A m c) v i W) (λ_ i _=>m - (intOf i).toNat)
 case atStart=>exact⟨0,rfl,xg _,Gc _ _,RW.out,zo _ _⟩
 case round=>
  obtain⟨k,rfl,hk,aS,nk,cD⟩:=hrel;rw[HM.out] at hk;have bW:=cD.size;obtain⟨k0,k1,k2⟩:=nk.c.c
  by_cases aQ:k < m
  . have e0:decide (k < m)=true:=by simpa using aQ
    obtain⟨x,hx⟩:∃x,B[k]?=some x:=⟨_,zm (by rw[HM.out];exact aQ)⟩
    obtain⟨o,rfl,hg,cF,bL,m0,m1⟩:=HR.out.at hx;rw[HM.out] at cF;have m0:=(cD.cell (p:=⟨g,o+k*2,none⟩) hg).trans m0;have m1:=(cD.cell (p:=⟨g,o+k*2+1,none⟩) hg).trans m1;have ej:=Gd (key:=key) hx;have gQ:=HR.out.2.1 x (List.mem_of_getElem? hx);unfold maxLen at bL;have hle:(rem (B.take k) key).length<=1900:=by have:=Lf.aI (B.take k) key;rw[qh] at this;omega
    clear hx
    by_cases jn:x.key=key
    . have e1:=iB jn;rw[if_pos jn] at ej;have HS:=J ej;have HO:=J aS;have HW:=J nk;have HB:=J cD;clear ej jn aS nk cD gQ;go_wp2_with fail
      go_roundw
      case rel=>exact⟨k+1,by go_num,by rw[HM.out];omega,by rw[HS.out];exact HO.out,HW.out,HB.out⟩
      case measure=>simp[intOf];omega
    . have e1:=jM jn;rw[if_neg jn] at ej;have HS:=J ej;obtain⟨A2,Tx,w2,aB,bC,dn⟩:=I2 aS x gQ (by omega) bW;have df:=J aB;have ie:Below w1.heap.size wr w2:=(zo _ _).grown dn bW (λj hj=>(aS.lt hj).2);have te:=HP.out;have HW:=zs (Rw w w2 p0 p1 mo ch (.slice (some ⟨g,o,none⟩) m c)) (⟨(ie.block p0 te.1).trans nk.c,(ie.block p1 te.2).trans nk.r1,nk.az.trans (ie.mono RW.out.az.size),nk.ne,nk.low⟩);have HB:=J (cD.trans ie);have HO:=J bC;obtain⟨Ao,co,hv⟩:=aS.len;clear aB bC dn ej jn ie te gQ aS nk cD;subst hv;go_wp2_with(at_builtin;refine aq rfl _ _ _ rfl _ _ _ _ rfl rfl df.out ?_)
      go_roundw
      case rel=>exact⟨k+1,by go_num,by rw[HM.out];omega,by rw[HS.out];exact HO.out,HW.out,HB.out⟩
      case measure=>simp[intOf];omega
  . have e0:decide (k < m)=false:=by simpa using aQ
    obtain rfl:k=m:=by omega
    rw[qk (by rw[HM.out];exact zg _)] at aS;obtain⟨Ao,co,rfl⟩:=aS.len;have F:=(nk.fE (.slice Ao (rem B key).length co)).out;have HF:=J F;obtain⟨f0,f1,f2⟩:=nk.c.f;obtain⟨r0,r1,r2⟩:=nk.r1.c;obtain⟨q0,q1,q2⟩:=nk.r1.f;obtain⟨n1,n2⟩:=nk.ne;have HO:=J aS;have HB:=J cD;have L8:=J RW.out.az.size;clear F aS nk cD RW;generalize(rem B key).length=l at*;go_wp2_with fail
    refine bodyPost_ret (aV rfl _ _ _ ⟨p1,0,none⟩ _ rfl (cY HF.out.1)) rfl ?_;refine⟨_,_,_,rfl,(HO.out.same λgg oN=>?_).mono L8.out,HF.out.2⟩;have Bs:=(HO.out.lt oN).2;have hp:=HP.out;rw[qc _ _ _ _ (by show gg≠p1;omega),qc _ _ _ _ (by show gg≠p1;omega),qc _ _ _ _ (by show gg≠p1;omega),qc _ _ _ _ (by show gg≠p0;omega)]
def Ty(ch:Bool)(B:List (aa Key))(w1:zw)(b i:Value)(W:zw):Prop:=∃(k q:Nat) (z:Int),b= .int .i64 z/\i= .int .i64 (k:Int)/\k<=B.length/\W=w1.drewN q/\((k=0/\z= -1)\/∃(bi:Nat) (y:aa Key),z=(bi:Int)/\bi < k/\B[bi]?=some y/\ni ch (B.take k)=some y)
theorem Ge{ch:Bool}{B:List (aa Key)}{k:Nat}{x:aa Key}(h:B[k]?=some x):ni ch (B.take (k+1))=r6 ch (ni ch (B.take k)) x:=by
 obtain⟨hk,hx⟩:=List.getElem?_eq_some_iff.1 h;rw[List.take_succ_eq_append_getElem hk,hx,yC]
set_option maxRecDepth 100000 in
theorem sz(w:zw)(g mo:Nat)(ch:Bool)(A:Option Addr)(m c:Nat)(L B:List (aa Key))(n:Nat)(h:bO w g (.slice A m c) B)(hm:B.length=m)(y:By ch L B n):
 Calls prog 101 #[.agg #[.int .i64 (mo:Int),.bool ch,.slice A m c]] w (eJ (.tuple #[.string (jK L),.bool (!L.isEmpty)]) w):=by
 have X0:=td w mo ch (.slice A m c);have hl:=h.1;have HR:=J (h.below X0.az);obtain⟨w1,cA⟩:∃w1,w.alloc (eN mo ch (.slice A m c))=w1:=⟨_,rfl⟩;obtain⟨bx,ib⟩:∃bx,w.heap.size=bx:=⟨_,rfl⟩;have HB:=zs (Below w.heap.size w w1) (cA▸X0.az);rw[cA,ib] at X0;rw[cA] at HR;have K:=J X0.c;have HM:=J hm;have HY:=J y.ni;rw[hm] at hl;clear h X0 hm y;go_enter func101,ntmps101;go_wp2_with fail
 clear cA ib;go_loopw [4,5] (λb i W=>Ty ch B w1 b i W) (λ_ i _=>m - (intOf i).toNat)
 case atStart=>exact⟨0,0, -1,rfl,rfl,xg _,rfl,xz ⟨rfl,rfl⟩⟩
 case round=>
  obtain⟨k,q,z,rfl,rfl,hk,hW,kT⟩:=hrel;rw[HM.out] at hk;have k1:wr.cell? ⟨bx,1,none⟩=some (.bool ch):=by rw[hW];exact K.out.c.2.1
  have k2:wr.cell? ⟨bx,2,none⟩=some (.slice A m c):=by rw[hW];exact K.out.c.2.2
  have yE:bO wr g (.slice A m c) B:=by rw[hW];exact HR.out.below (av _ _)
  have Q5:=zs (Below w.heap.size w wr) (by rw[hW];exact HB.out.trans ((av _ _).mono HB.out.size));have HW:=J hW;clear hW
  by_cases aQ:k < m
  . have e0:decide (k < m)=true:=by simpa using aQ
    obtain⟨x,hx⟩:∃x,B[k]?=some x:=⟨_,zm (by rw[HM.out];exact aQ)⟩
    obtain⟨o,rfl,hg,cF,bL,m0,m1⟩:=yE.at hx;rw[HM.out] at cF;unfold maxLen at bL;have BT:=J (Ge (ch:=ch) hx);have XX:=J hx;clear hx m0;generalize Q6:x.one=xo at m1;have Q7:=J Q6;clear Q6;rcases kT with⟨rfl,hz⟩|⟨bi,yy,rfl,DA,Bt,hb⟩
    . have e1:decide (z < 0)=true:=by rw[hz];rfl
      clear hz yE;go_wp2_with fail
      go_quiet(fail)
      go_wp2_with fail
      go_roundw
      case rel=>exact⟨0+1,_,_,rfl,by go_num,by rw[HM.out];omega,by rw[HW.out];exact World.drewN_drewN _ _ _,ja ⟨0,x,rfl,by omega,XX.out,by rw[BT.out];rfl⟩⟩
      case measure=>simp[intOf];omega
    . have e1:decide ((bi:Int) < 0)=false:=by simp
      obtain⟨o',I5,_,_,_,_,m2⟩:=yE.at Bt;obtain rfl:o=o':=by injection I5 with I5;injection I5
      generalize Q8:yy.one=yo at m2;have Q9:=J Q8;have Ra:=J Bt;have kX:=J hb;have i1:(bi:Int) < (m:Int):=by omega
      have i2:bi < m:=by omega
      have i3:(0:Int)<=(bi:Int):=by omega
      clear yE I5 Q8 Bt hb
      by_cases hc:xo < yo\/(ch=true/\xo=yo)
      . have NB:=J (show ni ch (B.take (k+1))=some x by rw[BT.out,kX.out];unfold r6;simp only;rw[if_pos (by rw[Q7.out,Q9.out];exact hc)])
        by_cases Bs:xo < yo
        . have e2:decide (xo < yo)=true:=by simpa using Bs
          clear hc Bs;go_wp2_with fail
          go_quiet(fail)
          go_wp2_with fail
          go_roundw
          case rel=>exact⟨k+1,_,_,rfl,by go_num,by rw[HM.out];omega,by rw[HW.out];exact World.drewN_drewN _ _ _,ja ⟨k,x,rfl,by omega,XX.out,NB.out⟩⟩
          case measure=>simp[intOf];omega
        . have e2:decide (xo < yo)=false:=by simpa using Bs
          obtain⟨rfl,Bu⟩:ch=true/\xo=yo:=by rcases hc with h|h;exact absurd h Bs;exact h
          subst Bu;clear hc Bs;go_wp2_with fail
          go_quiet(fail)
          go_wp2_with fail
          go_roundw
          case rel=>exact⟨k+1,_,_,rfl,by go_num,by rw[HM.out];omega,by rw[HW.out];exact World.drewN_drewN _ _ _,ja ⟨k,x,rfl,by omega,XX.out,NB.out⟩⟩
          case measure=>simp[intOf];omega
      . have NB:=J (show ni ch (B.take (k+1))=some yy by rw[BT.out,kX.out];unfold r6;simp only;rw[if_neg (by rw[Q7.out,Q9.out];exact hc)]);have e2:decide (xo < yo)=false:=by simp only[decide_eq_false_iff_not];exact λh=>hc (xz h)
        cases ch with
        |false=>
         clear hc;go_wp2_with fail
         go_quiet(fail)
         go_wp2_with fail
         go_roundw
         case rel=>exact⟨k+1,_,_,rfl,by go_num,by rw[HM.out];omega,by rw[HW.out];exact World.drewN_drewN _ _ _,ja ⟨bi,yy,rfl,by omega,Ra.out,NB.out⟩⟩
         case measure=>simp[intOf];omega
        |true=>
         have e3:(xo==yo)=false:=by simp only[beq_eq_false_iff_ne];exact λh=>hc (ja ⟨rfl,h⟩)
         clear hc;go_wp2_with fail
         go_quiet(fail)
         go_wp2_with fail
         go_roundw
         case rel=>exact⟨k+1,_,_,rfl,by go_num,by rw[HM.out];omega,by rw[HW.out];exact World.drewN_drewN _ _ _,ja ⟨bi,yy,rfl,by omega,Ra.out,NB.out⟩⟩
         case measure=>simp[intOf];omega
  . have e0:decide (k < m)=false:=by simpa using aQ
    obtain rfl:k=m:=by omega
    rcases kT with⟨rfl,hz⟩|⟨bi,yy,rfl,DA,Bt,hb⟩
    . have e1:decide (z < 0)=true:=by rw[hz];rfl
      have HL:L= []:=by
       have hB:B= []:=qe HM.out;have:=HY.out;rw[hB] at this;cases L with
       |nil=>rfl
       |cons a L=>cases this
      subst HL;clear hz yE;go_wp2_with fail
      go_ret2
      exact⟨rfl,Q5.out⟩
    . have e1:decide ((bi:Int) < 0)=false:=by simp
      obtain⟨o,rfl,hg,cF,bL,m0,m1⟩:=yE.at Bt;rw[qk (by rw[HM.out];exact zg _),HY.out] at hb
      have HL:jK L=yy.key/\(!L.isEmpty)=true:=by
       cases L with
       |nil=>cases hb
       |cons a L=>cases hb;exact⟨rfl,rfl⟩
      have Rc:=J HL;rw[HM.out] at cF;unfold maxLen at bL;clear yE Bt hb HL;go_wp2_with fail
      go_ret2
      refine⟨?_,Q5.out⟩;rw[Rc.out.1,Rc.out.2];rfl
end LF
namespace LF
open Go.RowKit Ht HS Lf
theorem bg{fn:Func}{a u t:Tmp}{ty:TypeId}(h:fn.results= #[.cell a ty,.tmp u,.tmp t])(tmps:Array Value)(P:Program)(w:zw)(p:Addr)(v:Value)(ha:tmps.getD a undef= .pointer (some p))(hv:(loadVar ty p).run P w= .ok v w):
 (results fn tmps).run P w= .ok (.tuple #[v,tmps.getD u undef,tmps.getD t undef]) w:=by
 rw[qt] at ha;simp[results,h,ha,asAddr,hv]
theorem bc{fn:Func}{a u:Tmp}{ty:TypeId}(h:fn.results= #[.cell a ty,.tmp u])(tmps:Array Value)(P:Program)(w:zw)(p:Addr)(v:Value)(ha:tmps.getD a undef= .pointer (some p))(hv:(loadVar ty p).run P w= .ok v w):
 (results fn tmps).run P w= .ok (.tuple #[v,tmps.getD u undef]) w:=by
 rw[qt] at ha;simp[results,h,ha,asAddr,hv]
theorem aP{fn:Func}{a u:Tmp}{ty tu:TypeId}(h:fn.results= #[.cell a ty,.cell u tu])(tmps:Array Value)(P:Program)(w:zw)(p q:Addr)(v x:Value)(ha:tmps.getD a undef= .pointer (some p))(hv:(loadVar ty p).run P w= .ok v w)
 (hu:tmps.getD u undef= .pointer (some q)) (hx:(loadVar tu q).run P w= .ok x w):(results fn tmps).run P w= .ok (.tuple #[v,x]) w:=by
 rw[qt] at ha hu;simp[results,h,ha,hu,asAddr,hv,hx]
def Kp(w w':zw)(g:Nat)(v:Value)(B:List (aa Key)):Prop:=∃g',bO w' g' v B/\(g'=g\/w.heap.size<=g')
theorem qV{w w':zw}{g:Nat}{v:Value}{B:List (aa Key)}(o:fc w' w.heap.size v B):Kp w w' g v B:=by
 obtain⟨g',h1,h2⟩:=o.row;exact⟨g',h2,ja h1⟩
def yF(w:zw)(g mo:Nat)(ch:Bool)(k:zy)(t:Bool)(B:List (aa Key))(e:Ending)(w':zw):Prop:=∃A m c,e= .returned (.tuple #[.agg #[.int .i64 (mo:Int),.bool ch,.slice A m c],.string k,.bool t])/\Kp w w' g (.slice A m c) B/\B.length=m/\Below w.heap.size w w'
theorem fc.three{W:zw}{base p:Nat}{v:Value}{B:List (aa Key)}(o:fc W base v B)(hp:p < base)(x y z:Value):fc (((W.setCell ⟨p,0,none⟩ x).setCell ⟨p,1,none⟩ y).setCell ⟨p,2,none⟩ z) base v B:=
 o.same λg hg=>by
  have:=(o.lt hg).2;rw[qc _ _ _ _ (by show g≠p;omega),qc _ _ _ _ (by show g≠p;omega),qc _ _ _ _ (by show g≠p;omega)]
set_option maxRecDepth 100000 in
theorem CE(w:zw)(g mo:Nat)(ch:Bool)(A:Option Addr)(m c:Nat)(B:List (aa Key))(n:Nat)(h:bO w g (.slice A m c) B)(hm:B.length=m)(y:By ch [] B n):
 Calls prog 63 #[.agg #[.int .i64 (mo:Int),.bool ch,.slice A m c]] w (yF w g mo ch ⟨#[]⟩ false B):=by
 have X0:=fF w mo ch (.slice A m c);obtain⟨w1,cA⟩:∃w1,oM w mo ch (.slice A m c)=w1:=⟨_,rfl⟩;obtain⟨p0,cC⟩:∃p,w.heap.size=p:=⟨_,rfl⟩;obtain⟨p1,fy⟩:∃p,p0+1=p:=⟨_,rfl⟩;have hr:=h.below X0.az;rw[cA] at X0 hr;rw[cC,fy] at X0;have RW:=J X0;have U:=J (sz w1 g mo ch A m c [] B n hr hm y);have HH:=J h;have HM:=J hm;obtain⟨k0,k1,k2⟩:=X0.c.c;clear h hm X0 hr y;go_enter func63,ntmps63;go_wp2_with fail
 clear cA cC fy;refine U.out.mono ?_;rintro e w2 ⟨rfl,hB⟩;have X2:=RW.out.below hB;have F:=J X2.out;obtain⟨c0,c1,c2⟩:=X2.c.c;obtain⟨r0,r1,r2⟩:=X2.r1.c;obtain⟨q0,q1,q2⟩:=X2.r1.f;obtain⟨n1,n2⟩:=X2.ne;clear hB X2 k0 k1 k2 U;rw[show jK []=⟨#[]⟩ from rfl];go_wp2_with fail
 refine bodyPost_ret (bg rfl _ _ _ ⟨p1,0,none⟩ _ rfl (cY F.out.1)) rfl ?_;exact⟨_,_,_,rfl,⟨g,HH.out.below F.out.2,xz rfl⟩,HM.out,F.out.2⟩
set_option maxRecDepth 100000 in
theorem pD(w:zw)(g mo:Nat)(ch:Bool)(A:Option Addr)(m c:Nat)(x:aa Key)(L B:List (aa Key))(n:Nat)(h:bO w g (.slice A m c) B)(hm:B.length=m)(hl:m<=1900)(y:By ch (x::L) B n):
 Calls prog 63 #[.agg #[.int .i64 (mo:Int),.bool ch,.slice A m c]] w (yF w g mo ch x.key true (rem B x.key)):=by
 have X0:=fF w mo ch (.slice A m c);obtain⟨w1,cA⟩:∃w1,oM w mo ch (.slice A m c)=w1:=⟨_,rfl⟩;obtain⟨p0,cC⟩:∃p,w.heap.size=p:=⟨_,rfl⟩;obtain⟨p1,fy⟩:∃p,p0+1=p:=⟨_,rfl⟩;have hr:=h.below X0.az;rw[cA] at X0 hr;rw[cC,fy] at X0;have RW:=J X0;have U:=zs (Calls prog 101 #[.agg #[.int .i64 (mo:Int),.bool ch,.slice A m c]] w1 (eJ (.tuple #[.string x.key,.bool true]) w1)) (sz w1 g mo ch A m c (x::L) B n hr hm y);have HR:=J hr;have HM:=J hm;obtain⟨k0,k1,k2⟩:=X0.c.c;clear h hm X0 hr y;go_enter func63,ntmps63;go_wp2_with fail
 clear cA cC fy;refine U.out.mono ?_;rintro e w2 ⟨rfl,hB⟩;have X2:=RW.out.below hB;obtain⟨c0,c1,c2⟩:=X2.c.c;have R2:=J X2;have U2:=J (oC w2 g mo ch A m c B x.key (HR.out.below hB) HM.out hl);clear hB X2 k0 k1 k2 U RW HR;go_wp2_with fail
 refine U2.out.mono ?_;rintro e w3 ⟨A3,m3,c3,rfl,hO,hB⟩;have X3:=R2.out.below hB
 have Bv:(rem B x.key).length=m3:=by
  obtain⟨_,_,hv⟩:=hO.len;injection hv with _ hv _
  exact hv.symm
 have Ma:=J Bv
 have F:=J (show bh (((w3.setCell ⟨p1,0,none⟩ (.int .i64 (mo:Int))).setCell ⟨p1,1,none⟩ (.bool ch)).setCell ⟨p1,2,none⟩ (.slice A3 m3 c3)) p1 mo ch (.slice A3 m3 c3)/\Below w.heap.size w (((w3.setCell ⟨p1,0,none⟩ (.int .i64 (mo:Int))).setCell ⟨p1,1,none⟩ (.bool ch)).setCell ⟨p1,2,none⟩ (.slice A3 m3 c3)) from
  ⟨X3.r1.put mo ch _,((X3.az.setCell (p:=⟨p1,0,none⟩) X3.low.2 _).setCell (p:=⟨p1,1,none⟩) X3.low.2 _).setCell (p:=⟨p1,2,none⟩) X3.low.2 _⟩)
 have HO:=J ((hO.three (p:=p1) (R2.out.r1.lt) (.int .i64 (mo:Int)) (.bool ch) (.slice A3 m3 c3)).mono R2.out.az.size);obtain⟨r0,r1,r2⟩:=X3.r1.c;obtain⟨q0,q1,q2⟩:=X3.r1.f;clear hO hB X3 Bv U2 c0 c1 c2;go_wp2_with fail
 refine bodyPost_ret (bg rfl _ _ _ ⟨p1,0,none⟩ _ rfl (cY F.out.1)) rfl ?_;exact⟨_,_,_,rfl,qV HO.out,Ma.out,F.out.2⟩
def iC(ch:Bool)(n:Nat)(L B:List (aa Key))(k:Key):List (aa Key):=rem B k++ [yp ch n k (eE L k+1)]
set_option maxRecDepth 100000 in
theorem pE(w:zw)(g mo:Nat)(ch:Bool)(A:Option Addr)(m c:Nat)(L B:List (aa Key))(n:Nat)(key:Key)(h:bO w g (.slice A m c) B)(hm:B.length=m)(hl:m<=1900)(y:By ch L B n)(hn:n<=90000)(hs:key.size<=maxLen):
 Calls prog 89 #[.agg #[.int .i64 (mo:Int),.bool ch,.slice A m c],.string key] w (I4 mo ch (iC ch n L B key) w):=by
 have X0:=fF w mo ch (.slice A m c);obtain⟨w1,cA⟩:∃w1,oM w mo ch (.slice A m c)=w1:=⟨_,rfl⟩;obtain⟨p0,cC⟩:∃p,w.heap.size=p:=⟨_,rfl⟩;obtain⟨p1,fy⟩:∃p,p0+1=p:=⟨_,rfl⟩;have hr:=h.below X0.az;rw[cA] at X0 hr;rw[cC,fy] at X0;have RW:=J X0;have U:=gI w1 g mo ch A m c B key hr hm;rw[y.eE] at U;have ht:=jJ y.fit key;obtain⟨t,hT⟩:=zx (eE L key);rw[← hT] at U ht;have HT:=J hT;have U:=J U;have HR:=J hr;have HM:=J hm;obtain⟨k0,k1,k2⟩:=X0.c.c;clear h hm X0 hr y hT;go_enter func89,ntmps89;go_wp2_with fail
 clear cA cC fy;refine U.out.mono ?_;rintro e w2 ⟨rfl,hB⟩;have X2:=RW.out.below hB;obtain⟨c0,c1,c2⟩:=X2.c.c;have R2:=J X2;have U2:=J (oC w2 g mo ch A m c B key (HR.out.below hB) HM.out hl);clear hB X2 k0 k1 k2 U RW HR;go_wp2_with fail
 refine U2.out.mono ?_;rintro e w3 ⟨A3,m3,c3,rfl,hO,hB⟩;have X3:=(R2.out.below hB).all mo ch (.slice A3 m3 c3)
 have Bv:(rem B key).length=m3:=by
  obtain⟨_,_,hv⟩:=hO.len;injection hv with _ hv _
  exact hv.symm
 have WV:m3<=1900:=by have:=Lf.aI B key;have:=HM.out;omega
 have O3:=hO.three (p:=p0) (R2.out.c.lt) (.int .i64 (mo:Int)) (.bool ch) (.slice A3 m3 c3);obtain⟨f0,f1,f2⟩:=(R2.out.below hB).c.f;obtain⟨b0,b1,b2⟩:=(R2.out.below hB).c.c;obtain⟨w4,nt⟩:=zx (((w3.setCell ⟨p0,0,none⟩ (.int .i64 (mo:Int))).setCell ⟨p0,1,none⟩ (.bool ch)).setCell ⟨p0,2,none⟩ (.slice A3 m3 c3));rw[← nt] at X3 O3;have uv:=J nt;clear nt
 have Mb:w2.heap.size<=w4.heap.size:=by
  have h1:=hB.size;have h2:w4.heap.size=w3.heap.size:=by rw[uv.out];simp[World.setCell]
  omega
 obtain⟨A5,c5,w5,aB,xP,Re⟩:=I2 O3 (yp ch n key (t+1)) hs (by rw[Bv];omega) Mb;rw[Bv] at aB xP;have yG:Below w2.heap.size w4 w5:=(zo _ _).grown Re Mb (λj hj=>(O3.lt hj).2);have X5:Rw w w5 p0 p1 mo ch (.slice A3 m3 c3):=⟨(yG.block p0 R2.out.c.lt).trans X3.c,(yG.block p1 R2.out.r1.lt).trans X3.r1,X3.az.trans (yG.mono R2.out.az.size),X3.ne,X3.low⟩;have X6:=X5.fE (.slice A5 (m3+1) c5);have F:=J X6.out
 have HO:=J (((xP.same (w':=w5.setCell ⟨p0,2,none⟩ (.slice A5 (m3+1) c5)) λgg oN=>qc _ _ _ _ (by
  have:=(xP.lt oN).2;have:=R2.out.c.lt;show gg≠p0;omega)).three (p:=p1) R2.out.r1.lt (.int .i64 (mo:Int)) (.bool ch) (.slice A5 (m3+1) c5)).mono R2.out.az.size)
 have df:=zs ((Builtin.append_ #[33,33] 33 #[.slice A3 m3 c3,.slice (some ⟨w4.heap.size,0,none⟩) 1 1]).run prog (w4.alloc (.cells #[.string key,.int .i64 (t+1)] 180))= .ok (.slice A5 (m3+1) c5) w5) aB;obtain⟨WW,WX,Bw⟩:=X3.c.c;obtain⟨d0,d1,d2⟩:=X5.c.c;obtain⟨e0,e1,e2⟩:=X5.c.f;obtain⟨r0,r1,r2⟩:=X5.r1.c;obtain⟨q0,q1,q2⟩:=X5.r1.f;obtain⟨n1,n2⟩:=X5.ne;have Ww:=X3.c.lt;clear hO hB X3 Bv U2 c0 c1 c2 O3 Mb aB xP Re yG X5 X6;go_upto_region 3 with fail
 rw[← uv.out];clear b0 b1 b2 f0 f1 f2 uv;go_wp2_with(at_builtin;refine aq rfl _ _ _ rfl _ _ _ _ rfl rfl df.out ?_)
 refine bodyPost_ret (aV rfl _ _ _ ⟨p1,0,none⟩ _ rfl (cY F.out.1)) rfl ?_;refine⟨_,_,_,rfl,?_,F.out.2⟩;unfold iC;rw[← HT.out];exact HO.out
end LF
namespace LF
open Go.RowKit Ht HS Lf
def kY(w:zw)(g mo:Nat)(ch:Bool)(st:Value)(B:List (aa Key))(e:Ending)(w':zw):Prop:=∃A m c,e= .returned (.tuple #[.agg #[.int .i64 (mo:Int),.bool ch,.slice A m c],st])/\Kp w w' g (.slice A m c) B/\B.length=m/\Below w.heap.size w w'
theorem yH{w':zw}{A:Option Addr}{m c base:Nat}{B:List (aa Key)}(hO:fc w' base (.slice A m c) B):B.length=m:=by
 obtain⟨_,_,hv⟩:=hO.len;injection hv with _ hv _
 exact hv.symm
set_option maxRecDepth 100000 in
theorem D1(w:zw)(g mo:Nat)(ch:Bool)(A:Option Addr)(m c:Nat)(L B:List (aa Key))(n:Nat)(key:Key)(h:bO w g (.slice A m c) B)(hm:B.length=m)(UQ:m<=1900)(Gf:mo<=9223372036854775807)(y:By ch L B n)(hf:da L key=true\/(da L key=false/\mo<=m)):
 Calls prog 60 #[.agg #[.int .i64 (mo:Int),.bool ch,.slice A m c],.string key] w (kY w g mo ch (.bool false) B):=by
 have X0:=fF w mo ch (.slice A m c);obtain⟨w1,cA⟩:∃w1,oM w mo ch (.slice A m c)=w1:=⟨_,rfl⟩;obtain⟨p0,cC⟩:∃p,w.heap.size=p:=⟨_,rfl⟩;obtain⟨p1,fy⟩:∃p,p0+1=p:=⟨_,rfl⟩;have hr:=h.below X0.az;rw[cA] at X0 hr;rw[cC,fy] at X0;have RW:=J X0;have U:=gI w1 g mo ch A m c B key hr hm;rw[y.eE] at U;have tp:=oJ y.fit key;have ht:=jJ y.fit key;generalize eE L key=t at U tp ht;have U:=J U;have HH:=J h;have HM:=J hm;obtain⟨k0,k1,k2⟩:=X0.c.c;clear h hm X0 hr y;rcases hf with hi|⟨hi,hf⟩
 . rw[hi] at tp;clear hi;go_enter func60,ntmps60;go_wp2_with fail
   clear cA cC fy;refine U.out.mono ?_;rintro e w2 ⟨rfl,hB⟩;have X2:=RW.out.below hB;have F:=J X2.out;obtain⟨c0,c1,c2⟩:=X2.c.c;obtain⟨r0,r1,r2⟩:=X2.r1.c;obtain⟨q0,q1,q2⟩:=X2.r1.f;obtain⟨n1,n2⟩:=X2.ne;clear hB X2 k0 k1 k2 U;go_wp2_with fail
   refine bodyPost_ret (bc rfl _ _ _ ⟨p1,0,none⟩ _ rfl (cY F.out.1)) rfl ?_;exact⟨_,_,_,rfl,⟨g,HH.out.below F.out.2,xz rfl⟩,HM.out,F.out.2⟩
 . rw[hi] at tp;have e1:decide (mo<=m)=true:=by simpa using hf
   clear hi hf;go_enter func60,ntmps60;go_wp2_with fail
   clear cA cC fy;refine U.out.mono ?_;rintro e w2 ⟨rfl,hB⟩;have X2:=RW.out.below hB;have F:=J X2.out;obtain⟨c0,c1,c2⟩:=X2.c.c;obtain⟨r0,r1,r2⟩:=X2.r1.c;obtain⟨q0,q1,q2⟩:=X2.r1.f;obtain⟨n1,n2⟩:=X2.ne;clear hB X2 k0 k1 k2 U;go_wp2_with fail
   refine bodyPost_ret (bc rfl _ _ _ ⟨p1,0,none⟩ _ rfl (cY F.out.1)) rfl ?_;exact⟨_,_,_,rfl,⟨g,HH.out.below F.out.2,xz rfl⟩,HM.out,F.out.2⟩
set_option maxRecDepth 100000 in
theorem JU(w:zw)(g mo:Nat)(ch:Bool)(A:Option Addr)(m c:Nat)(L B:List (aa Key))(n:Nat)(key:Key)(h:bO w g (.slice A m c) B)(hm:B.length=m)(hl:m<=1900)(Gf:mo<=9223372036854775807)(y:By ch L B n)(hn:n<=90000)(hs:key.size<=maxLen)(hi:da L key=false)(hf:m < mo):
 Calls prog 60 #[.agg #[.int .i64 (mo:Int),.bool ch,.slice A m c],.string key] w (kY w g mo ch (.bool true) (iC ch n L B key)):=by
 have X0:=fF w mo ch (.slice A m c);obtain⟨w1,cA⟩:∃w1,oM w mo ch (.slice A m c)=w1:=⟨_,rfl⟩;obtain⟨p0,cC⟩:∃p,w.heap.size=p:=⟨_,rfl⟩;obtain⟨p1,fy⟩:∃p,p0+1=p:=⟨_,rfl⟩;have hr:=h.below X0.az;rw[cA] at X0 hr;rw[cC,fy] at X0;have RW:=J X0;have U:=gI w1 g mo ch A m c B key hr hm;rw[y.eE] at U;have tp:=oJ y.fit key;have ht:=jJ y.fit key;have AS:=J (λ(W:zw) (hz:bO W g (.slice A m c) B)=>pE W g mo ch A m c L B n key hz hm hl y hn hs);rw[hi] at tp;generalize iC ch n L B key=B2 at*;generalize eE L key=t at U tp ht;have e1:decide (mo<=m)=false:=by simpa using hf
 have U:=J U;have HR:=J hr;obtain⟨k0,k1,k2⟩:=X0.c.c;clear h X0 hr y hi hf;go_enter func60,ntmps60;go_wp2_with fail
 clear cA cC fy;refine U.out.mono ?_;rintro e w2 ⟨rfl,hB⟩;have X2:=RW.out.below hB;have R2:=J X2;have U2:=J (AS.out w2 (HR.out.below hB));obtain⟨c0,c1,c2⟩:=X2.c.c;clear hB X2 k0 k1 k2 U RW HR AS;go_wp2_with fail
 refine U2.out.mono ?_;rintro e w3 ⟨A3,m3,c3,rfl,hO,hB⟩;have X3:=R2.out.below hB;have Ma:=J (yH hO)
 have F:=J (show bh (((w3.setCell ⟨p1,0,none⟩ (.int .i64 (mo:Int))).setCell ⟨p1,1,none⟩ (.bool ch)).setCell ⟨p1,2,none⟩ (.slice A3 m3 c3)) p1 mo ch (.slice A3 m3 c3)/\Below w.heap.size w (((w3.setCell ⟨p1,0,none⟩ (.int .i64 (mo:Int))).setCell ⟨p1,1,none⟩ (.bool ch)).setCell ⟨p1,2,none⟩ (.slice A3 m3 c3)) from
  ⟨X3.r1.put mo ch _,((X3.az.setCell (p:=⟨p1,0,none⟩) X3.low.2 _).setCell (p:=⟨p1,1,none⟩) X3.low.2 _).setCell (p:=⟨p1,2,none⟩) X3.low.2 _⟩)
 have HO:=J ((hO.three (p:=p1) (R2.out.r1.lt) (.int .i64 (mo:Int)) (.bool ch) (.slice A3 m3 c3)).mono R2.out.az.size);obtain⟨r0,r1,r2⟩:=X3.r1.c;obtain⟨q0,q1,q2⟩:=X3.r1.f;clear hO hB X3 U2 c0 c1 c2;go_wp2_with fail
 refine bodyPost_ret (bc rfl _ _ _ ⟨p1,0,none⟩ _ rfl (cY F.out.1)) rfl ?_;exact⟨_,_,_,rfl,qV HO.out,Ma.out,F.out.2⟩
def wG(ch:Bool)(mo n:Nat)(L B:List (aa Key))(k:Key):List (aa Key):=if bD mo L k=true then iC ch n L B k else B
theorem JV(w:zw)(g mo:Nat)(ch:Bool)(A:Option Addr)(m c:Nat)(L B:List (aa Key))(n:Nat)(key:Key)(h:bO w g (.slice A m c) B)(hm:B.length=m)(hl:m<=1900)(ey:mo<=9223372036854775807)(y:By ch L B n)(hn:n<=90000)(hs:key.size<=maxLen):
 Calls prog 60 #[.agg #[.int .i64 (mo:Int),.bool ch,.slice A m c],.string key] w (kY w g mo ch (.bool (bD mo L key)) (wG ch mo n L B key))/\By ch (qE ch mo n L key) (wG ch mo n L B key) (mR mo n L key):=by
 have hlen:=y.len;unfold wG qE mR;cases hi:da L key with
 |true=>
  have e1:bD mo L key=false:=by simp[bD,hi]
  rw[e1];exact⟨D1 w g mo ch A m c L B n key h hm hl ey y (xz hi),y⟩
 |false=>
  by_cases hf:L.length < mo
  . have e1:bD mo L key=true:=by simp[bD,hi,hf]
    rw[e1];exact⟨JU w g mo ch A m c L B n key h hm hl ey y hn hs hi (by omega),y.put key⟩
  . have e1:bD mo L key=false:=by simp[bD,hi,hf]
    rw[e1];exact⟨D1 w g mo ch A m c L B n key h hm hl ey y (ja ⟨hi,by omega⟩),y⟩
structure Rv(w W:zw)(p0 p1 p2 p3 mo:Nat)(ch:Bool)(v:Value)(h:Bool)(s:zy)(o:Bool):Prop where
 c:bh W p0 mo ch v
 r1:bh W p1 0 false (.slice none 0 0)
 r2:aT W p2 false ⟨#[]⟩ false
 s:aT W p3 h s o
 az:Below w.heap.size w W
 ne:(p0≠p1/\p0≠p2/\p0≠p3)/\(p1≠p0/\p1≠p2/\p1≠p3)/\(p2≠p0/\p2≠p1/\p2≠p3)/\(p3≠p0/\p3≠p1/\p3≠p2)
 low:w.heap.size<=p0/\w.heap.size<=p1/\w.heap.size<=p2/\w.heap.size<=p3
abbrev yI(w:zw)(mo:Nat)(ch:Bool)(v:Value):zw:=(((w.alloc (eN mo ch v)).alloc od).alloc ei).alloc ei
theorem gJ(w:zw)(mo:Nat)(ch:Bool)(v:Value):Rv w (yI w mo ch v) w.heap.size (w.heap.size+1) (w.heap.size+1+1) (w.heap.size+1+1+1) mo ch v false ⟨#[]⟩ false:=by
 have a1:(w.alloc (eN mo ch v)).heap.size=w.heap.size+1:=by simp
 have a2:((w.alloc (eN mo ch v)).alloc od).heap.size=w.heap.size+1+1:=by simp
 have a3:(((w.alloc (eN mo ch v)).alloc od).alloc ei).heap.size=w.heap.size+1+1+1:=by simp
 have b1:=heap_alloc_new w (eN mo ch v);have b2:=heap_alloc_new (w.alloc (eN mo ch v)) od;have b3:=heap_alloc_new ((w.alloc (eN mo ch v)).alloc od) ei;have b4:=heap_alloc_new (((w.alloc (eN mo ch v)).alloc od).alloc ei) ei;rw[a1] at b2;rw[a2] at b3;rw[a3] at b4;refine⟨?_,?_,?_,b4,?_,by omega,by omega⟩
 . exact(qf _ _ _ (by omega)).trans ((qf _ _ _ (by omega)).trans ((qf _ _ _ (by omega)).trans b1))
 . exact(qf _ _ _ (by omega)).trans ((qf _ _ _ (by omega)).trans b2)
 . exact(qf _ _ _ (by omega)).trans b3
 . exact((((zo _ _).alloc (zg _) _).alloc (by omega) _).alloc (by omega) _).alloc (by omega) _
theorem aT.other{w:zw}{sb:Nat}{h o:Bool}{s:zy}(k:aT w sb h s o){q:Addr}(hq:sb≠q.block)(u:Value):aT (w.setCell q u) sb h s o:=(qc _ _ _ _ hq).trans k
theorem aT.Gg{w:zw}{sb:Nat}{h o:Bool}{s:zy}(k:aT w sb h s o)(h':Bool):aT (w.setCell ⟨sb,0,none⟩ (.bool h')) sb h' s o:=by
 unfold aT at*;rw[heap_setCell_same _ _ _ _ _ _ k];rfl
section
variable{w W W':zw}{p0 p1 p2 p3 mo:Nat}{ch:Bool}{v:Value}{h o:Bool}{s:zy}
theorem Rv.aF(r:Rv w W p0 p1 p2 p3 mo ch v h s o)(h':Bool):Rv w (W.setCell ⟨p3,0,none⟩ (.bool h')) p0 p1 p2 p3 mo ch v h' s o:=
 ⟨r.c.other r.ne.1.2.2 _,r.r1.other r.ne.2.1.2.2 _,r.r2.other r.ne.2.2.1.2.2 _,r.s.Gg h',r.az.setCell (p:=⟨p3,0,none⟩) r.low.2.2.2 _,r.ne,r.low⟩
theorem Rv.dW(r:Rv w W p0 p1 p2 p3 mo ch v h s o)(x:zy):Rv w ((W.setCell ⟨p3,1,none⟩ (.string x)).setCell ⟨p3,2,none⟩ (.bool true)) p0 p1 p2 p3 mo ch v h x true:=
 ⟨(r.c.other r.ne.1.2.2 _).other r.ne.1.2.2 _,(r.r1.other r.ne.2.1.2.2 _).other r.ne.2.1.2.2 _,(r.r2.other r.ne.2.2.1.2.2 _).other r.ne.2.2.1.2.2 _,r.s.set x,(r.az.setCell (p:=⟨p3,1,none⟩) r.low.2.2.2 _).setCell (p:=⟨p3,2,none⟩) r.low.2.2.2 _,r.ne,r.low⟩
theorem Rv.all(r:Rv w W p0 p1 p2 p3 mo ch v h s o)(m:Nat)(b:Bool)(u:Value):Rv w (((W.setCell ⟨p0,0,none⟩ (.int .i64 (m:Int))).setCell ⟨p0,1,none⟩ (.bool b)).setCell ⟨p0,2,none⟩ u) p0 p1 p2 p3 m b u h s o:=
 ⟨r.c.put m b u,((r.r1.other r.ne.2.1.1 _).other r.ne.2.1.1 _).other r.ne.2.1.1 _,((r.r2.other r.ne.2.2.1.1 _).other r.ne.2.2.1.1 _).other r.ne.2.2.1.1 _,((r.s.other r.ne.2.2.2.1 _).other r.ne.2.2.2.1 _).other r.ne.2.2.2.1 _,((r.az.setCell (p:=⟨p0,0,none⟩) r.low.1 _).setCell (p:=⟨p0,1,none⟩) r.low.1 _).setCell (p:=⟨p0,2,none⟩) r.low.1 _,r.ne,r.low⟩
theorem Rv.below(r:Rv w W p0 p1 p2 p3 mo ch v h s o)(hb:Below W.heap.size W W'):Rv w W' p0 p1 p2 p3 mo ch v h s o:=
 ⟨r.c.below hb,r.r1.below hb,r.r2.below hb,r.s.below hb,r.az.trans (hb.mono r.az.size),r.ne,r.low⟩
theorem Rv.out(r:Rv w W p0 p1 p2 p3 mo ch v h s o)(m:Nat)(b:Bool)(u:Value)(W':zw)(hW:W'=(((((W.setCell ⟨p1,0,none⟩ (.int .i64 (m:Int))).setCell ⟨p1,1,none⟩ (.bool b)).setCell ⟨p1,2,none⟩ u).setCell ⟨p2,0,none⟩ (.bool h)).setCell ⟨p2,1,none⟩ (.string s)).setCell ⟨p2,2,none⟩ (.bool o)):
 bh W' p1 m b u/\aT W' p2 h s o/\Below w.heap.size w W':=by
 subst hW;refine⟨((r.r1.put m b u).other r.ne.2.1.2.1 _ |>.other r.ne.2.1.2.1 _).other r.ne.2.1.2.1 _,?_,?_⟩
 . exact aT.put (((r.r2.other r.ne.2.2.1.2.1 _).other r.ne.2.2.1.2.1 _).other r.ne.2.2.1.2.1 _) h o s
 . exact(((((r.az.setCell (p:=⟨p1,0,none⟩) r.low.2.1 _).setCell (p:=⟨p1,1,none⟩) r.low.2.1 _).setCell (p:=⟨p1,2,none⟩) r.low.2.1 _).setCell (p:=⟨p2,0,none⟩) r.low.2.2.1 _).setCell (p:=⟨p2,1,none⟩) r.low.2.2.1 _).setCell (p:=⟨p2,2,none⟩) r.low.2.2.1 _
theorem fc.dR{base:Nat}{B:List (aa Key)}(q:fc W base v B)(h1:p1 < base)(h2:p2 < base)(x1 x2 x3 x4 x5 x6:Value):fc ((((((W.setCell ⟨p1,0,none⟩ x1).setCell ⟨p1,1,none⟩ x2).setCell ⟨p1,2,none⟩ x3).setCell ⟨p2,0,none⟩ x4).setCell ⟨p2,1,none⟩ x5).setCell ⟨p2,2,none⟩ x6) base v B:=
 (q.three h1 x1 x2 x3).three h2 x4 x5 x6
end
end LF
namespace LF
open Go.RowKit Ht HS Lf
theorem bh.drew{w:zw}{p mo:Nat}{ch:Bool}{v:Value}(k:bh w p mo ch v):bh w.drew p mo ch v:=k
theorem aT.drew{w:zw}{sb:Nat}{h o:Bool}{s:zy}(k:aT w sb h s o):aT w.drew sb h s o:=k
set_option maxRecDepth 100000 in
theorem ku(w:zw)(g:Nat)(ch:Bool)(A:Option Addr)(c n:Nat)(key:Key)(h:bO w g (.slice A 0 c) [])(_y:By ch [] [] n):
 Calls prog 52 #[.agg #[.int .i64 ((0:Nat):Int),.bool ch,.slice A 0 c],.string key] w (kY w g 0 ch (.agg #[.bool false,.string ⟨#[]⟩,.bool false]) []):=by
 have V0:=gJ w 0 ch (.slice A 0 c);have U:=zs (Calls prog 88 #[.agg #[.int .i64 0,.bool ch,.slice A 0 c],.string key] (yI w 0 ch (.slice A 0 c)) (eJ (.int .i64 0) (yI w 0 ch (.slice A 0 c)))) (gI _ g 0 ch A 0 c [] key (h.below V0.az) rfl);have HH:=J h;have HV:=J V0;clear h _y V0;go_enter func52,ntmps52;go_wp2_with fail
 refine U.out.mono ?_;rintro e W ⟨rfl,hb⟩;have V0:=HV.out.below hb;clear hb U HV;generalize w.heap.size+1+1+1=p3 at V0|-;generalize w.heap.size+1+1=p2 at V0|-;generalize w.heap.size+1=p1 at V0|-;obtain⟨p0,cC⟩:=zx w.heap.size;rw[← cC] at V0|-;clear cC;obtain⟨c0,c1,c2⟩:=V0.c.c;obtain⟨r0,r1,r2⟩:=V0.r1.c;obtain⟨u0,u1,u2⟩:=V0.r1.f;obtain⟨q0,q1,q2,q3,q4,q5⟩:=V0.r2.dR;obtain⟨s0,s1,s2,s3,s4,s5⟩:=V0.s.dR;obtain⟨⟨n1,n2,n3⟩,⟨n4,n5,n6⟩,⟨n7,n8,n9⟩,⟨m1,m2,m3⟩⟩:=V0.ne;have R:=J (V0.aF false);clear V0;go_wp2_with fail
 go_region;go_wp2_with fail
 have F:=R.out.out 0 ch (.slice A 0 c) _ rfl;refine bodyPost_ret (aP rfl _ _ _ ⟨p1,0,none⟩ ⟨p2,0,none⟩ _ _ rfl (cY (mo:=0) F.1.drew) rfl (bo F.2.1.drew)) rfl ?_;exact⟨_,_,_,rfl,⟨g,HH.out.below F.2.2.drew,xz rfl⟩,rfl,F.2.2.drew⟩
end LF
namespace LF
open Go.RowKit Ht HS Lf
set_option maxRecDepth 100000 in
theorem qW(w:zw)(g mo:Nat)(ch:Bool)(A:Option Addr)(m c:Nat)(L B:List (aa Key))(n:Nat)(key:Key)(h:bO w g (.slice A m c) B)(hm:B.length=m)(hl:m<=1900)(ey:mo<=9223372036854775807)(y:By ch L B n)(hn:n<=90000)(hs:key.size<=maxLen)(ji:1<=mo)(hi:da L key=true):
 Calls prog 52 #[.agg #[.int .i64 ((mo:Nat):Int),.bool ch,.slice A m c],.string key] w (kY w g (mo) ch (.agg #[.bool true,.string ⟨#[]⟩,.bool false]) (iC ch n L B key)):=by
 have V0:=gJ w (mo) ch (.slice A m c);have U:=gI _ g (mo) ch A m c B key (h.below V0.az) hm;rw[y.eE] at U;have tp:=oJ y.fit key;have ht:=jJ y.fit key;have e9:((mo:Int)==0)=false:=by simp;omega
 have e8:(mo==0)=false:=by simp;omega
 have AS:=J (λ(W:zw) (hz:bO W g (.slice A m c) B)=>pE W g mo ch A m c L B n key hz hm hl y hn hs);rw[hi] at tp;generalize iC ch n L B key=B2 at*;generalize eE L key=t at U tp ht;have U:=J U;have HH:=J h;have HV:=J V0;clear h y V0 hi;go_enter func52,ntmps52;go_wp2_with fail
 refine U.out.mono ?_;rintro e W ⟨rfl,hb⟩;have V0:=HV.out.below hb;clear hb U HV;generalize w.heap.size+1+1+1=p3 at V0|-;generalize w.heap.size+1+1=p2 at V0|-;generalize w.heap.size+1=p1 at V0|-;obtain⟨p0,cC⟩:=zx w.heap.size;rw[← cC] at V0|-;have LZ:=J cC;clear cC;obtain⟨c0,c1,c2⟩:=V0.c.c;obtain⟨s0,s1,s2,s3,s4,s5⟩:=V0.s.dR;obtain⟨⟨n1,n2,n3⟩,⟨n4,n5,n6⟩,⟨n7,n8,n9⟩,⟨m1,m2,qX⟩⟩:=V0.ne;have V1:=V0.aF true;obtain⟨W1,dx⟩:=zx (W.setCell ⟨p3,0,none⟩ (.bool true));rw[← dx] at V1;have R1:=J V1;have og:=J dx;clear dx V0;clear V1;go_upto_region 7 with fail
 rw[← og.out];clear c0 c1 c2 s0 s1 s2 s3 s4 s5 og;have R2:=R1.out;obtain⟨c0,c1,c2⟩:=R2.c.c;obtain⟨s0,s1,s2,s3,s4,s5⟩:=R2.s.dR;have D2:=J (AS.out W1.drew (HH.out.below R2.az.drew));clear R2 AS;have BD:=zs (∀w3,Below W1.drew.heap.size W1.drew w3->Below W1.heap.size W1 w3) (λw3 hB=>⟨hB.os,hB.tape,hB.output,hB.size,hB.block⟩);refine wp_region_noPanic ?_;refine wp_region_held_drew (S:=λw'=>w'.cell? ⟨p0,0,none⟩=some (.int .i64 (mo:Int))/\w'.cell? ⟨p0,1,none⟩=some (.bool ch)/\w'.cell? ⟨p0,2,none⟩=some (.slice A m c)/\w'.cell? ⟨p3,0,none⟩=some (.bool true)/\w'.cell? ⟨p3,1,none⟩=some (.string ⟨#[]⟩)/\w'.cell? ⟨p3,2,none⟩=some (.bool false)) (by kernel_rfl) ?_ (λhHeld=>?_)
 . exact⟨c0,c1,c2,s0,s1,s2⟩
 iterate 2 (refine zi 0 (v:=?_) rfl (by kernel_rfl) zq ‹_› (by intro w aO;(try dsimp only at aO);go_simp;(try with_reducible rfl)) ?_;(try simp only[Act.put,za,zb,zc]))
 refine zi 1 (v:=?_) rfl (by kernel_rfl) zq ‹_› (by intro w aO;(try dsimp only at aO);go_simp;(try with_reducible rfl)) ?_;(try simp only[Act.put,za,zb,zc]);refine wpAnyH_ready (rs:=[2]) (by kernel_rfl) (by simp) ?_;refine zn rfl (λK hK=>?_);go_simp;refine D2.out.mono ?_;rintro e w3 ⟨A3,m3,c3,rfl,hO,hB⟩;have X3:=R1.out.below (BD.out w3 hB);have O3:=J hO;have M3:=J (yH hO);have R3:=J X3;clear hO hB X3 BD;go_wp2_with fail
 refine hK.out _ _ ?_ (λhHeld=>?_)
 . exact⟨R3.out.c.c.1,R3.out.c.c.2.1,R3.out.c.c.2.2,R3.out.s.cells.1,R3.out.s.cells.2.1,R3.out.s.cells.2.2.1⟩
 clear hK K c0 c1 c2 s0 s1 s2;(try simp only[Act.put,za,zb,zc]);have Yc:=J (((R3.out.c.other (q:=⟨p1,0,none⟩) n1 (.int .i64 (mo:Int))).other (q:=⟨p1,1,none⟩) n1 (.bool ch)).other (q:=⟨p1,2,none⟩) n1 (.slice A3 m3 c3));have Ys:=J (((R3.out.s.other (q:=⟨p1,0,none⟩) m2 (.int .i64 (mo:Int))).other (q:=⟨p1,1,none⟩) m2 (.bool ch)).other (q:=⟨p1,2,none⟩) m2 (.slice A3 m3 c3));have Yr:=J (((R3.out.r2.other (q:=⟨p1,0,none⟩) n8 (.int .i64 (mo:Int))).other (q:=⟨p1,1,none⟩) n8 (.bool ch)).other (q:=⟨p1,2,none⟩) n8 (.slice A3 m3 c3));refine wpAnyH_ready (rs:=[4]) (by kernel_rfl) (by simp) ?_;refine zn rfl (λK hK=>?_);obtain⟨r0,r1,r2⟩:=R3.out.r1.c;obtain⟨u0,u1,u2⟩:=R3.out.r1.f;go_simp;refine hK.out _ _ ?_ (λhHeld=>?_)
 . exact⟨Yc.out.c.1,Yc.out.c.2.1,Yc.out.c.2.2,Ys.out.cells.1,Ys.out.cells.2.1,Ys.out.cells.2.2.1⟩
 clear hK K r0 r1 r2 u0 u1 u2;(try simp only[Act.put,za,zb,zc]);obtain⟨w4,nt⟩:=zx (((w3.setCell ⟨p1,0,none⟩ (.int .i64 (mo:Int))).setCell ⟨p1,1,none⟩ (.bool ch)).setCell ⟨p1,2,none⟩ (.slice A3 m3 c3));rw[← nt] at Yc Ys Yr hHeld|-;have uv:=J nt;clear nt;refine wpAnyH_ready (rs:=[5]) (by kernel_rfl) (by simp) ?_;refine zn rfl (λK hK=>?_);obtain⟨q0,q1,q2,q3,q4,q5⟩:=Yr.out.dR;go_simp;have Zc:=J (((Yc.out.other (q:=⟨p2,0,none⟩) n2 (.bool true)).other (q:=⟨p2,1,none⟩) n2 (.string ⟨#[]⟩)).other (q:=⟨p2,2,none⟩) n2 (.bool false));have Zs:=J (((Ys.out.other (q:=⟨p2,0,none⟩) qX (.bool true)).other (q:=⟨p2,1,none⟩) qX (.string ⟨#[]⟩)).other (q:=⟨p2,2,none⟩) qX (.bool false));refine hK.out _ _ ?_ (λhHeld=>?_)
 . exact⟨Zc.out.c.1,Zc.out.c.2.1,Zc.out.c.2.2,Zs.out.cells.1,Zs.out.cells.2.1,Zs.out.cells.2.2.1⟩
 clear hK K q0 q1 q2 q3 q4 q5 Yc Ys Yr Zc Zs;(try simp only[Act.put,za,zb,zc]);refine wpAnyH_done (by kernel_rfl) ?_ _;refine NoPanic.normal ?_;clear hHeld;rw[uv.out];go_wp2_with fail
 have F:=R3.out.out mo ch (.slice A3 m3 c3) _ rfl;have fy:=R1.out.r1.lt;have D3:=R1.out.r2.lt;have O4:=(O3.out.dR (p1:=p1) (p2:=p2) fy D3 (.int .i64 (mo:Int)) (.bool ch) (.slice A3 m3 c3) (.bool true) (.string ⟨#[]⟩) (.bool false)).mono R1.out.az.size;refine bodyPost_ret (aP rfl _ _ _ ⟨p1,0,none⟩ ⟨p2,0,none⟩ _ _ rfl (cY (mo:=mo) F.1) rfl (bo F.2.1)) rfl ?_;exact⟨_,_,_,rfl,qV O4,M3.out,F.2.2⟩
set_option maxRecDepth 100000 in
theorem vL(w:zw)(g mo:Nat)(ch:Bool)(A:Option Addr)(m c:Nat)(L B:List (aa Key))(n:Nat)(key:Key)(h:bO w g (.slice A m c) B)(hm:B.length=m)(hl:m<=1900)(ey:mo<=9223372036854775807)(y:By ch L B n)(hn:n<=90000)(hs:key.size<=maxLen)(ji:1<=mo)(hi:da L key=false)(hr:m < mo):
 Calls prog 52 #[.agg #[.int .i64 ((mo:Nat):Int),.bool ch,.slice A m c],.string key] w (kY w g (mo) ch (.agg #[.bool false,.string ⟨#[]⟩,.bool false]) (iC ch n L B key)):=by
 have V0:=gJ w (mo) ch (.slice A m c);have U:=gI _ g (mo) ch A m c B key (h.below V0.az) hm;rw[y.eE] at U;have tp:=oJ y.fit key;have ht:=jJ y.fit key;have e9:((mo:Int)==0)=false:=by simp;omega
 have e8:(mo==0)=false:=by simp;omega
 have AS:=J (λ(W:zw) (hz:bO W g (.slice A m c) B)=>pE W g mo ch A m c L B n key hz hm hl y hn hs);rw[hi] at tp;generalize iC ch n L B key=B2 at*;generalize eE L key=t at U tp ht;have U:=J U;have HH:=J h;have HV:=J V0;have e1:decide (mo<=m)=false:=by simp;omega
 clear h y V0 hi;go_enter func52,ntmps52;go_wp2_with fail
 refine U.out.mono ?_;rintro e W ⟨rfl,hb⟩;have V0:=HV.out.below hb;clear hb U HV;generalize w.heap.size+1+1+1=p3 at V0|-;generalize w.heap.size+1+1=p2 at V0|-;generalize w.heap.size+1=p1 at V0|-;obtain⟨p0,cC⟩:=zx w.heap.size;rw[← cC] at V0|-;have LZ:=J cC;clear cC;obtain⟨c0,c1,c2⟩:=V0.c.c;obtain⟨s0,s1,s2,s3,s4,s5⟩:=V0.s.dR;obtain⟨⟨n1,n2,n3⟩,⟨n4,n5,n6⟩,⟨n7,n8,n9⟩,⟨m1,m2,qX⟩⟩:=V0.ne;have V1:=V0.aF false;obtain⟨W1,dx⟩:=zx (W.setCell ⟨p3,0,none⟩ (.bool false));rw[← dx] at V1;have R1:=J V1;have og:=J dx;clear dx V0;clear V1;go_upto_region 7 with fail
 rw[← og.out];clear c0 c1 c2 s0 s1 s2 s3 s4 s5 og;have R2:=R1.out;obtain⟨c0,c1,c2⟩:=R2.c.c;obtain⟨s0,s1,s2,s3,s4,s5⟩:=R2.s.dR;have D2:=J (AS.out W1.drew (HH.out.below R2.az.drew));clear R2 AS;have BD:=zs (∀w3,Below W1.drew.heap.size W1.drew w3->Below W1.heap.size W1 w3) (λw3 hB=>⟨hB.os,hB.tape,hB.output,hB.size,hB.block⟩);refine wp_region_noPanic ?_;refine wp_region_held_drew (S:=λw'=>w'.cell? ⟨p0,0,none⟩=some (.int .i64 (mo:Int))/\w'.cell? ⟨p0,1,none⟩=some (.bool ch)/\w'.cell? ⟨p0,2,none⟩=some (.slice A m c)/\w'.cell? ⟨p3,0,none⟩=some (.bool false)/\w'.cell? ⟨p3,1,none⟩=some (.string ⟨#[]⟩)/\w'.cell? ⟨p3,2,none⟩=some (.bool false)) (by kernel_rfl) ?_ (λhHeld=>?_)
 . exact⟨c0,c1,c2,s0,s1,s2⟩
 iterate 2 (refine zi 0 (v:=?_) rfl (by kernel_rfl) zq ‹_› (by intro w aO;(try dsimp only at aO);go_simp;(try with_reducible rfl)) ?_;(try simp only[Act.put,za,zb,zc]))
 refine zi 1 (v:=?_) rfl (by kernel_rfl) zq ‹_› (by intro w aO;(try dsimp only at aO);go_simp;(try with_reducible rfl)) ?_;(try simp only[Act.put,za,zb,zc]);refine wpAnyH_ready (rs:=[2]) (by kernel_rfl) (by simp) ?_;refine zn rfl (λK hK=>?_);go_simp;refine D2.out.mono ?_;rintro e w3 ⟨A3,m3,c3,rfl,hO,hB⟩;have X3:=R1.out.below (BD.out w3 hB);have O3:=J hO;have M3:=J (yH hO);have R3:=J X3;clear hO hB X3 BD;go_wp2_with fail
 refine hK.out _ _ ?_ (λhHeld=>?_)
 . exact⟨R3.out.c.c.1,R3.out.c.c.2.1,R3.out.c.c.2.2,R3.out.s.cells.1,R3.out.s.cells.2.1,R3.out.s.cells.2.2.1⟩
 clear hK K c0 c1 c2 s0 s1 s2;(try simp only[Act.put,za,zb,zc]);have Yc:=J (((R3.out.c.other (q:=⟨p1,0,none⟩) n1 (.int .i64 (mo:Int))).other (q:=⟨p1,1,none⟩) n1 (.bool ch)).other (q:=⟨p1,2,none⟩) n1 (.slice A3 m3 c3));have Ys:=J (((R3.out.s.other (q:=⟨p1,0,none⟩) m2 (.int .i64 (mo:Int))).other (q:=⟨p1,1,none⟩) m2 (.bool ch)).other (q:=⟨p1,2,none⟩) m2 (.slice A3 m3 c3));have Yr:=J (((R3.out.r2.other (q:=⟨p1,0,none⟩) n8 (.int .i64 (mo:Int))).other (q:=⟨p1,1,none⟩) n8 (.bool ch)).other (q:=⟨p1,2,none⟩) n8 (.slice A3 m3 c3));refine wpAnyH_ready (rs:=[4]) (by kernel_rfl) (by simp) ?_;refine zn rfl (λK hK=>?_);obtain⟨r0,r1,r2⟩:=R3.out.r1.c;obtain⟨u0,u1,u2⟩:=R3.out.r1.f;go_simp;refine hK.out _ _ ?_ (λhHeld=>?_)
 . exact⟨Yc.out.c.1,Yc.out.c.2.1,Yc.out.c.2.2,Ys.out.cells.1,Ys.out.cells.2.1,Ys.out.cells.2.2.1⟩
 clear hK K r0 r1 r2 u0 u1 u2;(try simp only[Act.put,za,zb,zc]);obtain⟨w4,nt⟩:=zx (((w3.setCell ⟨p1,0,none⟩ (.int .i64 (mo:Int))).setCell ⟨p1,1,none⟩ (.bool ch)).setCell ⟨p1,2,none⟩ (.slice A3 m3 c3));rw[← nt] at Yc Ys Yr hHeld|-;have uv:=J nt;clear nt;refine wpAnyH_ready (rs:=[5]) (by kernel_rfl) (by simp) ?_;refine zn rfl (λK hK=>?_);obtain⟨q0,q1,q2,q3,q4,q5⟩:=Yr.out.dR;go_simp;have Zc:=J (((Yc.out.other (q:=⟨p2,0,none⟩) n2 (.bool false)).other (q:=⟨p2,1,none⟩) n2 (.string ⟨#[]⟩)).other (q:=⟨p2,2,none⟩) n2 (.bool false));have Zs:=J (((Ys.out.other (q:=⟨p2,0,none⟩) qX (.bool false)).other (q:=⟨p2,1,none⟩) qX (.string ⟨#[]⟩)).other (q:=⟨p2,2,none⟩) qX (.bool false));refine hK.out _ _ ?_ (λhHeld=>?_)
 . exact⟨Zc.out.c.1,Zc.out.c.2.1,Zc.out.c.2.2,Zs.out.cells.1,Zs.out.cells.2.1,Zs.out.cells.2.2.1⟩
 clear hK K q0 q1 q2 q3 q4 q5 Yc Ys Yr Zc Zs;(try simp only[Act.put,za,zb,zc]);refine wpAnyH_done (by kernel_rfl) ?_ _;refine NoPanic.normal ?_;clear hHeld;rw[uv.out];go_wp2_with fail
 have F:=R3.out.out mo ch (.slice A3 m3 c3) _ rfl;have fy:=R1.out.r1.lt;have D3:=R1.out.r2.lt;have O4:=(O3.out.dR (p1:=p1) (p2:=p2) fy D3 (.int .i64 (mo:Int)) (.bool ch) (.slice A3 m3 c3) (.bool false) (.string ⟨#[]⟩) (.bool false)).mono R1.out.az.size;refine bodyPost_ret (aP rfl _ _ _ ⟨p1,0,none⟩ ⟨p2,0,none⟩ _ _ rfl (cY (mo:=mo) F.1) rfl (bo F.2.1)) rfl ?_;exact⟨_,_,_,rfl,qV O4,M3.out,F.2.2⟩
end LF
namespace LF
open Go.RowKit Ht HS Lf
set_option maxRecDepth 100000 in
theorem vM(w:zw)(g mo:Nat)(ch:Bool)(A:Option Addr)(m c:Nat)(x:aa Key)(L B:List (aa Key))(n:Nat)(key:Key)(h:bO w g (.slice A m c) B)(hm:B.length=m)(hl:m<=1900)(ey:mo<=9223372036854775807)(y:By ch (x::L) B n)(hn:n<=90000)(hs:key.size<=maxLen)(ji:1<=mo)(hi:da (x::L) key=false)(Pq:m=mo):
 Calls prog 52 #[.agg #[.int .i64 ((mo:Nat):Int),.bool ch,.slice A m c],.string key] w (kY w g (mo) ch (.agg #[.bool false,.string x.key,.bool true]) (iC ch n L (rem B x.key) key)):=by
 have V0:=gJ w (mo) ch (.slice A m c);have U:=gI _ g (mo) ch A m c B key (h.below V0.az) hm;rw[y.eE] at U;have tp:=oJ y.fit key;have ht:=jJ y.fit key;have e9:((mo:Int)==0)=false:=by simp;omega
 have e8:(mo==0)=false:=by simp;omega
 have DR:=J (λ(W:zw) (hz:bO W g (.slice A m c) B)=>pD W g mo ch A m c x L B n hz hm hl y);have AS:=J (λ(W:zw) (g':Nat) (A':Option Addr) (m' c':Nat) (hz:bO W g' (.slice A' m' c') (rem B x.key)) (Bm:(rem B x.key).length=m')=>pE W g' mo ch A' m' c' L (rem B x.key) n key hz Bm (by have:=Lf.aI B x.key;omega) y.drop hn hs);rw[hi] at tp;have iY:=h.lt (λe=>by rw[e] at hm;simp at hm;omega);generalize iC ch n L (rem B x.key) key=B2 at*;generalize rem B x.key=B1 at*;generalize eE (x::L) key=t at U tp ht;have U:=J U;have HH:=J h;have HV:=J V0;have e1:decide (mo<=m)=true:=by simp;omega
 have yJ:=J iY;clear h y V0 hi iY Pq;go_enter func52,ntmps52;go_wp2_with fail
 refine U.out.mono ?_;rintro e W ⟨rfl,hb⟩;have V0:=HV.out.below hb;clear hb U HV;generalize w.heap.size+1+1+1=p3 at V0|-;generalize w.heap.size+1+1=p2 at V0|-;generalize w.heap.size+1=p1 at V0|-;obtain⟨p0,cC⟩:=zx w.heap.size;rw[← cC] at V0|-;have LZ:=J cC;clear cC;obtain⟨c0,c1,c2⟩:=V0.c.c;obtain⟨s0,s1,s2,s3,s4,s5⟩:=V0.s.dR;obtain⟨⟨n1,n2,n3⟩,⟨n4,n5,n6⟩,⟨n7,n8,n9⟩,⟨m1,m2,qX⟩⟩:=V0.ne;have V1:=V0.aF false;obtain⟨W1,dx⟩:=zx (W.setCell ⟨p3,0,none⟩ (.bool false));rw[← dx] at V1;have R1:=J V1;have og:=J dx;clear dx V0;have Rf:=J (DR.out W1 (HH.out.below V1.az));clear V1 DR;go_upto_region 6 with fail
 rw[← og.out];clear c0 c1 c2 s0 s1 s2 s3 s4 s5 og;obtain⟨c0,c1,c2⟩:=R1.out.c.c;go_wp2_with fail
 refine Rf.out.mono ?_;rintro e w2 ⟨A2,D4,Bw,rfl,hK,US,cQ⟩;have V2:=R1.out.below cQ;have V3:=(V2.all mo ch (.slice A2 D4 Bw)).dW x.key;obtain⟨b0,b1,b2⟩:=V2.c.c;obtain⟨f0,f1,f2⟩:=V2.c.f;obtain⟨s0,s1,s2,s3,s4,s5⟩:=V2.s.dR;obtain⟨W3,gf⟩:=zx (((((w2.setCell ⟨p0,0,none⟩ (.int .i64 ((mo:Nat):Int))).setCell ⟨p0,1,none⟩ (.bool ch)).setCell ⟨p0,2,none⟩ (.slice A2 D4 Bw)).setCell ⟨p3,1,none⟩ (.string x.key)).setCell ⟨p3,2,none⟩ (.bool true));obtain⟨g2,fx,dn⟩:=hK
 have al:g2≠p0/\g2≠p3:=by
  have h1:=R1.out.c.lt;have h2:=R1.out.s.lt;have h3:=yJ.out;have h4:=R1.out.low;rcases dn with rfl|dn
  . exact⟨by omega,by omega⟩
  . exact⟨by omega,by omega⟩
 have Rg:bO W3 g2 (.slice A2 D4 Bw) B1:=by
  rw[gf];exact((((fx.set (q:=⟨p0,0,none⟩) al.1 _).set (q:=⟨p0,1,none⟩) al.1 _).set (q:=⟨p0,2,none⟩) al.1 _).set (q:=⟨p3,1,none⟩) al.2 _).set (q:=⟨p3,2,none⟩) al.2 _
 rw[← gf] at V3;have D5:=J gf;have UT:=R1;clear R1;have R1:=J V3;have D2:=J (AS.out W3.drew g2 A2 D4 Bw (Rg.below ⟨rfl,rfl,rfl,zg _,λ_ _=>rfl⟩) US);clear fx Rg dn al cQ V2 V3 gf Rf AS UT c0 c1 c2;go_upto_region 7 with fail
 rw[← D5.out];clear b0 b1 b2 f0 f1 f2 s0 s1 s2 s3 s4 s5 D5;obtain⟨c0,c1,c2⟩:=R1.out.c.c;obtain⟨s0,s1,s2,s3,s4,s5⟩:=R1.out.s.dR;have BD:=zs (∀w3,Below W3.drew.heap.size W3.drew w3->Below W3.heap.size W3 w3) (λw3 hB=>⟨hB.os,hB.tape,hB.output,hB.size,hB.block⟩);refine wp_region_noPanic ?_;refine wp_region_held_drew (S:=λw'=>w'.cell? ⟨p0,0,none⟩=some (.int .i64 (mo:Int))/\w'.cell? ⟨p0,1,none⟩=some (.bool ch)/\w'.cell? ⟨p0,2,none⟩=some (.slice A2 D4 Bw)/\w'.cell? ⟨p3,0,none⟩=some (.bool false)/\w'.cell? ⟨p3,1,none⟩=some (.string x.key)/\w'.cell? ⟨p3,2,none⟩=some (.bool true)) (by kernel_rfl) ?_ (λhHeld=>?_)
 . exact⟨c0,c1,c2,s0,s1,s2⟩
 iterate 2 (refine zi 0 (v:=?_) rfl (by kernel_rfl) zq ‹_› (by intro w aO;(try dsimp only at aO);go_simp;(try with_reducible rfl)) ?_;(try simp only[Act.put,za,zb,zc]))
 refine zi 1 (v:=?_) rfl (by kernel_rfl) zq ‹_› (by intro w aO;(try dsimp only at aO);go_simp;(try with_reducible rfl)) ?_;(try simp only[Act.put,za,zb,zc]);refine wpAnyH_ready (rs:=[2]) (by kernel_rfl) (by simp) ?_;refine zn rfl (λK hK=>?_);go_simp;refine D2.out.mono ?_;rintro e w3 ⟨A3,m3,c3,rfl,hO,hB⟩;have X3:=R1.out.below (BD.out w3 hB);have O3:=J hO;have M3:=J (yH hO);have R3:=J X3;clear hO hB X3 BD;go_wp2_with fail
 refine hK.out _ _ ?_ (λhHeld=>?_)
 . exact⟨R3.out.c.c.1,R3.out.c.c.2.1,R3.out.c.c.2.2,R3.out.s.cells.1,R3.out.s.cells.2.1,R3.out.s.cells.2.2.1⟩
 clear hK K c0 c1 c2 s0 s1 s2;(try simp only[Act.put,za,zb,zc]);have Yc:=J (((R3.out.c.other (q:=⟨p1,0,none⟩) n1 (.int .i64 (mo:Int))).other (q:=⟨p1,1,none⟩) n1 (.bool ch)).other (q:=⟨p1,2,none⟩) n1 (.slice A3 m3 c3));have Ys:=J (((R3.out.s.other (q:=⟨p1,0,none⟩) m2 (.int .i64 (mo:Int))).other (q:=⟨p1,1,none⟩) m2 (.bool ch)).other (q:=⟨p1,2,none⟩) m2 (.slice A3 m3 c3));have Yr:=J (((R3.out.r2.other (q:=⟨p1,0,none⟩) n8 (.int .i64 (mo:Int))).other (q:=⟨p1,1,none⟩) n8 (.bool ch)).other (q:=⟨p1,2,none⟩) n8 (.slice A3 m3 c3));refine wpAnyH_ready (rs:=[4]) (by kernel_rfl) (by simp) ?_;refine zn rfl (λK hK=>?_);obtain⟨r0,r1,r2⟩:=R3.out.r1.c;obtain⟨u0,u1,u2⟩:=R3.out.r1.f;go_simp;refine hK.out _ _ ?_ (λhHeld=>?_)
 . exact⟨Yc.out.c.1,Yc.out.c.2.1,Yc.out.c.2.2,Ys.out.cells.1,Ys.out.cells.2.1,Ys.out.cells.2.2.1⟩
 clear hK K r0 r1 r2 u0 u1 u2;(try simp only[Act.put,za,zb,zc]);obtain⟨w4,nt⟩:=zx (((w3.setCell ⟨p1,0,none⟩ (.int .i64 (mo:Int))).setCell ⟨p1,1,none⟩ (.bool ch)).setCell ⟨p1,2,none⟩ (.slice A3 m3 c3));rw[← nt] at Yc Ys Yr hHeld|-;have uv:=J nt;clear nt;refine wpAnyH_ready (rs:=[5]) (by kernel_rfl) (by simp) ?_;refine zn rfl (λK hK=>?_);obtain⟨q0,q1,q2,q3,q4,q5⟩:=Yr.out.dR;go_simp;have Zc:=J (((Yc.out.other (q:=⟨p2,0,none⟩) n2 (.bool false)).other (q:=⟨p2,1,none⟩) n2 (.string x.key)).other (q:=⟨p2,2,none⟩) n2 (.bool true));have Zs:=J (((Ys.out.other (q:=⟨p2,0,none⟩) qX (.bool false)).other (q:=⟨p2,1,none⟩) qX (.string x.key)).other (q:=⟨p2,2,none⟩) qX (.bool true));refine hK.out _ _ ?_ (λhHeld=>?_)
 . exact⟨Zc.out.c.1,Zc.out.c.2.1,Zc.out.c.2.2,Zs.out.cells.1,Zs.out.cells.2.1,Zs.out.cells.2.2.1⟩
 clear hK K q0 q1 q2 q3 q4 q5 Yc Ys Yr Zc Zs;(try simp only[Act.put,za,zb,zc]);refine wpAnyH_done (by kernel_rfl) ?_ _;refine NoPanic.normal ?_;clear hHeld;rw[uv.out];go_wp2_with fail
 have F:=R3.out.out mo ch (.slice A3 m3 c3) _ rfl;have fy:=R1.out.r1.lt;have D3:=R1.out.r2.lt;have O4:=(O3.out.dR (p1:=p1) (p2:=p2) fy D3 (.int .i64 (mo:Int)) (.bool ch) (.slice A3 m3 c3) (.bool false) (.string x.key) (.bool true)).mono R1.out.az.size;refine bodyPost_ret (aP rfl _ _ _ ⟨p1,0,none⟩ ⟨p2,0,none⟩ _ _ rfl (cY (mo:=mo) F.1) rfl (bo F.2.1)) rfl ?_;exact⟨_,_,_,rfl,qV O4,M3.out,F.2.2⟩
def kv(ch:Bool)(mo n:Nat)(L B:List (aa Key))(k:Key):List (aa Key):=
 if mo=0 then B else if da L k=true then iC ch n L B k else if mo<=L.length then iC ch n L.tail (rem B (jK L)) k else iC ch n L B k
theorem yL(w:zw)(g mo:Nat)(ch:Bool)(A:Option Addr)(m c:Nat)(L B:List (aa Key))(n:Nat)(key:Key)(h:bO w g (.slice A m c) B)(hm:B.length=m)(hl:m<=1900)(ey:mo<=9223372036854775807)(y:By ch L B n)(hn:n<=90000)(hs:key.size<=maxLen)(Mc:L.length<=mo):
 Calls prog 52 #[.agg #[.int .i64 (mo:Int),.bool ch,.slice A m c],.string key] w (kY w g mo ch (cS mo L key) (kv ch mo n L B key))/\By ch (fN ch mo n L key) (kv ch mo n L B key) (lJ mo n):=by
 have hlen:=y.len;cases mo with
 |zero=>
  obtain rfl:L= []:=qe (by omega);obtain rfl:B= []:=qe (by rw[hlen];rfl);obtain rfl:m=0:=hm.symm;exact⟨ku w g ch A c n key h y,y⟩
 |succ mo=>
  have en:lJ (mo+1) n=n+1:=by simp[lJ]
  rw[en];cases hi:da L key with
  |true=>
   have e1:cS (mo+1) L key= .agg #[.bool true,.string ⟨#[]⟩,.bool false]:=by simp[cS,eK,eL,ef,hi]
   have e2:fN ch (mo+1) n L key=put ch n L key:=by simp[fN,hi]
   have e3:kv ch (mo+1) n L B key=iC ch n L B key:=by simp[kv,hi]
   rw[e1,e2,e3];exact⟨qW w g (mo+1) ch A m c L B n key h hm hl ey y hn hs (by omega) hi,y.put key⟩
  |false=>
   by_cases hf:L.length<=mo
   . have e1:cS (mo+1) L key= .agg #[.bool false,.string ⟨#[]⟩,.bool false]:=by
      have:¬(mo+1<=L.length):=by omega
      simp[cS,eK,eL,ef,hi,this]
     have e2:fN ch (mo+1) n L key=put ch n L key:=by
      simp only[fN,hi,show L.length+1 - (mo+1)=0 by omega,List.drop_zero];simp
     have e3:kv ch (mo+1) n L B key=iC ch n L B key:=by
      have:¬(mo+1<=L.length):=by omega
      simp[kv,hi,this]
     rw[e1,e2,e3];exact⟨vL w g (mo+1) ch A m c L B n key h hm hl ey y hn hs (by omega) hi (by omega),y.put key⟩
   . cases L with
     |nil=>simp at hf
     |cons x L=>
      obtain rfl:mo=L.length:=by rw[zv] at hf Mc;omega
      have e1:cS (L.length+1) (x::L) key= .agg #[.bool false,.string x.key,.bool true]:=by simp[cS,eK,eL,ef,hi,jK]
      have e2:fN ch (L.length+1) n (x::L) key=put ch n L key:=by
       simp only[fN,hi,zv,show L.length+1+1 - (L.length+1)=1 by omega,List.drop_succ_cons,List.drop_zero];simp
      have e3:kv ch (L.length+1) n (x::L) B key=iC ch n L (rem B x.key) key:=by simp[kv,hi,jK]
      rw[e1,e2,e3];exact⟨vM w g (L.length+1) ch A m c x L B n key h hm hl ey y hn hs (by omega) hi (by rw[← hm,hlen];rfl),y.drop.put key⟩
end LF
namespace LF
open Go.RowKit Ht HS Lf
theorem Own.three{W:zw}{base p:Nat}{v:Value}{xs:zY}(o:Own W base v xs)(hp:p < base)(x y z:Value):Own (((W.setCell ⟨p,0,none⟩ x).setCell ⟨p,1,none⟩ y).setCell ⟨p,2,none⟩ z) base v xs:=
 HS.Own.same o λg hg=>by
  have:=(HS.Own.lt o hg).2;rw[qc _ _ _ _ (by show g≠p;omega),qc _ _ _ _ (by show g≠p;omega),qc _ _ _ _ (by show g≠p;omega)]
theorem Own.mono{w:zw}{base oe:Nat}{v:Value}{xs:zY}(h:Own w base v xs)(hb:oe<=base):Own w oe v xs:=by
 refine⟨⟨h.1.1,?_⟩,h.2⟩;rcases h.1.2 with h1|⟨g,cap,cur,e,h1,h2⟩
 . exact xz h1
 . exact ja ⟨g,cap,cur,e,by omega,h2⟩
theorem bO.pA{w w':zw}{g:Nat}{v:Value}{B:List (aa Key)}(h:bO w g v B)(hs:w.heap.size<=w'.heap.size)(hb:B≠ []->w'.heap[g]?=w.heap[g]?):bO w' g v B:=by
 by_cases e:B= []
 . subst e;obtain⟨A,c,rfl⟩:=h.shape;exact bO.nil _ _ _ _
 . exact h.same hs λ_=>hb e
theorem sB(W:zw)(p k:Nat)(x y z:Value)(hk:k≠p):(((W.setCell ⟨p,0,none⟩ x).setCell ⟨p,1,none⟩ y).setCell ⟨p,2,none⟩ z).heap[k]?=W.heap[k]?:=by
 rw[qc _ _ _ _ hk,qc _ _ _ _ hk,qc _ _ _ _ hk]
structure Md(w w1 W:zw)(p0 p1 mo:Nat)(ch:Bool)(L:List (aa Key))(n j:Nat)(v:Value)(A:Option Addr)(m c g:Nat)(B:List (aa Key)):Prop where
 rw:Rw w W p0 p1 mo ch (.slice A m c)
 row:bO W g (.slice A m c) B
 len:B.length=m
 ne:B≠ []->g≠p0/\g≠p1/\∀gg,v.ownBlock=some gg->gg≠g
 Me:By ch (L.drop j) B n
 own:Own W w1.heap.size v ((aC L).take j)
 size:w1.heap.size<=W.heap.size
def Ps(w w1:zw)(p0 p1 mo:Nat)(ch:Bool)(L:List (aa Key))(n g0 k:Nat)(u:Value)(W:zw):Prop:=∃v j A m c g B,v=u/\j+k=L.length - mo/\(g=g0\/w.heap.size<=g)/\Md w w1 W p0 p1 mo ch L n j v A m c g B
def yM(w:zw)(g mo:Nat)(ch:Bool)(L:List (aa Key))(n:Nat)(e:Ending)(w':zw):Prop:=∃A m c v g' B,e= .returned (.tuple #[.agg #[.int .i64 (mo:Int),.bool ch,.slice A m c],v])/\bO w' g' (.slice A m c) B/\(g'=g\/w.heap.size<=g')/\B.length=m/\By ch (L.drop (L.length - mo)) B n/\Own w' w.heap.size v ((aC L).take (L.length - mo))/\Below w.heap.size w w'
theorem Mf(w:zw)(mo:Int)(ch:Bool)(_v:Value):(Instr.field 35 (.agg #[.int .i64 mo,.bool ch,.slice none 0 0]) 0).run prog w= .ok (.int .i64 mo) w:=by kernel_rfl
set_option maxRecDepth 100000 in
theorem yN(w:zw)(g mo fT:Nat)(ch:Bool)(A:Option Addr)(m c:Nat)(L B:List (aa Key))(n:Nat)(z:Int)(h:bO w g (.slice A m c) B)(hm:B.length=m)(hl:m<=1900)(hz: -9223372036854775808<=z/\z<=9223372036854775807)(Rh:fT=z.toNat)(y:By ch L B n)(nu:∀e∈L,e.key.size<=maxLen):
 Calls prog 67 #[.agg #[.int .i64 (mo:Int),.bool ch,.slice A m c],.int .i64 z] w (yM w g fT ch L n):=by
 have fM:=λw=>Mf w (fT:Int) false (.slice none 0 0);have X0:=fF w mo ch (.slice A m c);obtain⟨w1,cA⟩:∃w1,oM w mo ch (.slice A m c)=w1:=⟨_,rfl⟩;obtain⟨p0,cC⟩:∃p,w.heap.size=p:=⟨_,rfl⟩;obtain⟨p1,fy⟩:∃p,p0+1=p:=⟨_,rfl⟩;have hr:=h.below X0.az;rw[cA] at X0 hr;have bB:=zs (B≠ []->g≠p0/\g≠p1) (λe=>by have:=h.lt e;exact⟨by omega,by omega⟩);rw[cC,fy] at X0;have RW:=J X0;have U:=zs (Calls prog 46 #[.int .i64 z,.bool false] w1 (pC fT false w1)) (Rh▸sZ w1 z false hz);have HR:=J hr;have HM:=J hm;have HY:=J y;have ux:=J nu;have hlen:=y.len;have Wx:fT<=9223372036854775807:=by omega
 have Tz:=J hlen;clear h hm X0 hr y Rh hlen nu;go_enter func67,ntmps67;go_wp2_with fail
 clear cA cC fy;refine U.out.mono ?_;rintro e w2 ⟨rfl,hB⟩;have X2:=(RW.out.below hB).eV fT;have dY:=J ((HR.out.below hB).pA (w':=w2.setCell ⟨p0,0,none⟩ (.int .i64 (fT:Int))) (by simp[World.setCell]) λe=>qc _ _ _ _ (bB.out e).1);obtain⟨f0,f1,f2⟩:=(RW.out.below hB).c.f;obtain⟨b0,b1,b2⟩:=(RW.out.below hB).c.c;obtain⟨w3,qQ⟩:=zx (w2.setCell ⟨p0,0,none⟩ (.int .i64 (fT:Int)));rw[← qQ] at X2 dY;have D5:=J qQ;have R3:=J X2
 have Wy:w1.heap.size<=w3.heap.size:=by
  have h1:=hB.size;have h2:w3.heap.size=w2.heap.size:=by rw[qQ];simp[World.setCell]
  omega
 have HP:=zs (p0 < w3.heap.size/\p1 < w3.heap.size) (⟨X2.c.lt,X2.r1.lt⟩);clear hB X2 qQ U RW HR;go_upto_region 2 with fail
 rw[← D5.out];clear b0 b1 b2 f0 f1 f2 D5 fM;go_wp2_with fail
 go_loopg [6] (L.length - fT) (λk v W=>Ps w w3 p0 p1 fT ch L n g k v W)
 case atStart=>exact⟨_,0,A,m,c,g,B,rfl,by omega,xz rfl,⟨R3.out,dY.out,HM.out,λe=>⟨(bB.out e).1,(bB.out e).2,λgg oN=>(by cases oN)⟩,HY.out,Own.nil _ _,zg _⟩⟩
 case round=>
  obtain⟨v,j,A',m',c',g',B',UU,Ri,dB,r⟩:=hrel;subst UU;obtain⟨k0,k1,k2⟩:=r.rw.c.c;have ug:=r.Me.len;rw[xm,r.len] at ug;have RR:=J r;have HG:=J dB;have fG:L.length<=1900:=by have:=Tz.out;have:=HM.out;omega
  cases gk with
  |zero=>
   have e0:decide (fT < m')=false:=by simp;omega
   obtain⟨Av,cv,hv⟩:=HS.Own.len r.own;obtain⟨q0,q1,q2⟩:=r.rw.r1.c;obtain⟨u0,u1,u2⟩:=r.rw.r1.f;obtain⟨n1,n2⟩:=r.rw.ne;have F:=J r.rw.out;obtain rfl:j=L.length - fT:=by omega
   clear r dB ug Ri;subst hv;generalize I6:((aC L).take (L.length - fT)).length=vl at*;clear I6;go_wp2_with fail
   refine bodyPost_ret (bc rfl _ _ _ ⟨p1,0,none⟩ _ rfl (cY F.out.1)) rfl ?_;refine⟨A',m',c',_,g',B',rfl,RR.out.row.pA (by simp[World.setCell]) (λe=>sB _ _ _ _ _ _ (RR.out.ne e).2.1),HG.out,RR.out.len,RR.out.Me,?_,F.out.2⟩;exact Own.mono (Own.three RR.out.own HP.out.2 _ _ _) (zr (R3.out.az.size) (zg _))
  |succ gk=>
   have e0:decide (fT < m')=true:=by simp;omega
   have hj:j < L.length:=by omega
   obtain⟨x,hx,qH,jn⟩:=jL hj;have y':=r.Me;rw[hx] at y';have U:=J (pD wr g' fT ch A' m' c' x (L.drop (j+1)) B' n r.row r.len (by omega) y');have HX:=J jn;have UW:=J (ux.out x qH);have UX:=J y'.drop;clear r dB ug hx qH jn y';go_wp2_with fail
   refine U.out.mono ?_;rintro e w4 ⟨A4,m4,c4,rfl,hK,Rj,yO⟩;obtain⟨g4,Mg,iW⟩:=hK;have X4:=RR.out.rw.below yO;have b5:=(zo w4.heap.size w4).alloc (zg _) (eN fT ch (.slice A4 m4 c4));have X5:=(X4.below b5).all fT ch (.slice A4 m4 c4);have Rk:=heap_alloc_new w4 (eN fT ch (.slice A4 m4 c4));have N5:bh (w4.alloc (eN fT ch (.slice A4 m4 c4))) w4.heap.size fT ch (.slice A4 m4 c4):=Rk;obtain⟨l0,l1,l2⟩:=N5.c;obtain⟨f0,f1,f2⟩:=(X4.below b5).c.f;obtain⟨b0,b1,b2⟩:=(X4.below b5).c.c;have UY:=RR.out.rw.c.lt;have TA:=RR.out.rw.r1.lt;have s4:=yO.size;have Rl:w4.heap.size < ((((w4.alloc (eN fT ch (.slice A4 m4 c4))).setCell ⟨p0,0,none⟩ (.int .i64 (fT:Int))).setCell ⟨p0,1,none⟩ (.bool ch)).setCell ⟨p0,2,none⟩ (.slice A4 m4 c4)).heap.size:=by simp[World.setCell]
   have qY:rem B' x.key≠ []->g4≠p0/\g4≠p1/\(∀gg,v.ownBlock=some gg->gg≠g4)/\g4 < w4.heap.size:=λe=>by
    have Mh:=Mg.lt e;have eB:B'≠ []:=λe0=>e (by rw[e0];rfl);obtain⟨a1,a2,a3⟩:=RR.out.ne eB;rcases iW with rfl|iW
    . exact⟨a1,a2,a3,Mh⟩
    . exact⟨by omega,by omega,λgg oN=>by have:=(HS.Own.lt RR.out.own oN).1;omega,Mh⟩
   have Z5:=(Mg.below b5).pA (w':=(((w4.alloc (eN fT ch (.slice A4 m4 c4))).setCell ⟨p0,0,none⟩ (.int .i64 (fT:Int))).setCell ⟨p0,1,none⟩ (.bool ch)).setCell ⟨p0,2,none⟩ (.slice A4 m4 c4)) (by simp[World.setCell]) (λe=>sB _ _ _ _ _ _ (qY e).1)
   have O5:=Own.three (HS.Own.same RR.out.own (w':=w4.alloc (eN fT ch (.slice A4 m4 c4))) λgg oN=>by
    have:=(HS.Own.lt RR.out.own oN).1;rw[b5.block gg (by omega),yO.block gg this]) HP.out.1 (.int .i64 (fT:Int)) (.bool ch) (.slice A4 m4 c4)
   have bW:=RR.out.size;obtain⟨w6,Mi⟩:=zx ((((w4.alloc (eN fT ch (.slice A4 m4 c4))).setCell ⟨p0,0,none⟩ (.int .i64 (fT:Int))).setCell ⟨p0,1,none⟩ (.bool ch)).setCell ⟨p0,2,none⟩ (.slice A4 m4 c4));rw[← Mi] at X5 Z5 O5 Rl;obtain⟨A7,c7,w7,aB,Mj,Bz,I7⟩:=jm O5 x.key UW.out (by rw[qh];omega) (by omega);have Mk:∀p,p < w3.heap.size->w7.heap[p]?=w6.heap[p]?:=λp hp=>Bz.block p (by omega) (λe=>by have:=(HS.Own.lt O5 e.symm).2;omega)
   have Ml:Below w.heap.size w w7:=X5.az.grown Bz X5.az.size (λk hk=>zr R3.out.az.size (HS.Own.lt O5 hk).2)
   have r7:Md w w3 w7 p0 p1 fT ch L n (j+1) (.slice A7 (((aC L).take j).length+1) c7) A4 m4 c4 g4 (rem B' x.key):=by
    refine⟨⟨(Mk p0 HP.out.1).trans X5.c,(Mk p1 HP.out.2).trans X5.r1,Ml,X5.ne,X5.low⟩,Z5.pA Bz.size (λe=>?_),Rj,λe=>⟨(qY e).1,(qY e).2.1,λgg oN=>?_⟩,UX.out,?_,by have:=Bz.size;omega⟩
    . refine Bz.block g4 (by have:=(qY e).2.2.2;omega) (λe2=>?_);exact(qY e).2.2.1 g4 e2.symm rfl
    . rcases I7 gg oN with h1|h1
      . exact(qY e).2.2.1 gg h1
      . have:=(qY e).2.2.2;omega
    . rw[dP (aC L) j ⟨#[]⟩ (by rw[cw];exact hj),HX.out];exact Mj
   have R7:=J r7
   have UZ:=J (show g4=g\/w.heap.size<=g4 from by
    rcases iW with rfl|iW
    . exact HG.out
    . exact ja (by have:=RR.out.rw.az.size;omega))
   have df:=J aB;have Rm:=J Mi;obtain⟨Av,cv,hv⟩:=HS.Own.len RR.out.own;have U5:=J Ri;have TB:p0≠w4.heap.size:=by omega
   have Pt:w4.heap.size≠p0:=by omega
   clear Mg iW X4 b5 X5 Rk N5 UY TA s4 Rl qY Z5 O5 bW aB Mj Bz I7 Mk Ml r7 Mi yO Rj U;subst hv;generalize((aC L).take j).length=vl at*;go_upto_region 6 with fail
   rw[← Rm.out];clear l0 l1 l2 f0 f1 f2 b0 b1 b2 Rm TB Pt;go_wp2_with(at_builtin;refine aq rfl _ _ _ rfl _ _ _ _ rfl rfl df.out ?_)
   go_roundg gk
   case measure=>omega
   case rel=>exact⟨_,j+1,A4,m4,c4,g4,rem B' x.key,rfl,by have:=U5.out;omega,UZ.out,R7.out⟩
set_option maxRecDepth 100000 in
theorem D6(w:zw)(g mo:Nat)(ch:Bool)(A:Option Addr)(m c:Nat)(L B:List (aa Key))(n:Nat)(h:bO w g (.slice A m c) B)(hm:B.length=m)(hl:m<=1900)(y:By ch L B n)(nu:∀e∈L,e.key.size<=maxLen):
 Calls prog 72 #[.agg #[.int .i64 (mo:Int),.bool ch,.slice A m c]] w (br (aC L) w):=by
 have X0:=td w mo ch (.slice A m c);have U:=yN (w.alloc (eN mo ch (.slice A m c))) g mo 0 ch A m c L B n 0 (h.below X0.az) hm hl (by omega) rfl y nu;have U:=J U;have HB:=J X0.az;obtain⟨k0,k1,k2⟩:=X0.c.c;clear h X0 y nu;go_enter func72,ntmps72;go_wp2_with fail
 refine U.out.mono ?_;rintro e w2 ⟨A2,m2,c2,v,g2,B2,rfl,hz,hg,hlen,hy,hO,hB⟩;rw[qk (by rw[cw];omega)] at hO;obtain⟨Av,cv,rfl⟩:=HS.Own.len hO;have b3:=(zo w2.heap.size w2).alloc (zg _) (eN 0 ch (.slice A2 m2 c2));have HO:=J (HS.Own.same hO (w':=w2.alloc (eN 0 ch (.slice A2 m2 c2))) λgg oN=>b3.block gg (HS.Own.lt hO oN).1);have kX:=J ((HB.out.trans (hB.mono HB.out.size)).trans (b3.mono (zr HB.out.size hB.size)));have L8:=J HB.out.size;clear hz hg hlen hy hO hB b3 k0 k1 k2;generalize(aC L).length=kl at*;go_wp2_with fail
 go_ret;exact⟨_,rfl,Own.mono HO.out L8.out,kX.out⟩
