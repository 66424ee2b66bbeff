/- heap, in order: HoS HqS. -/
import Derived.Test.YtdmmciggopmglaaGreatDoorGHp
import Derived.Test.YtdmmciggopmglaaGreatDoorLay
set_option maxRecDepth 20000
namespace Go.Proofs.YtdmmciggopmglaaGreatDoor.LF
namespace HS
open Go.RowKit Ht Go.Maps Go.WideMaps
def cmpE(a b:Ent Key):Int:=if lt a b then -1 else if lt b a then 1 else 0
def CmpPost(z:Int)(w:World)(e:Ending)(w':World):Prop:=e= .returned (.int .i64 z)/\Grw w w'
set_option maxHeartbeats 1000000 in
theorem cmp_any(w:World)(x y:Nat)(a b:Ent Key)(hx:Seen w x a)(hy:Seen w y b):
 Calls Tryz.prog 232 #[.pointer (some ⟨x,0,none⟩),.pointer (some ⟨y,0,none⟩)] w (CmpPost (cmpE a b) w):=by
 have A1:=Lib.hid (ahead_any w x y a b hx hy);have A2:=Lib.hid (λ(w':World) (g:Grw w w')=>ahead_any w' y x b a (hy.grw g) (hx.grw g));clear hx hy
 by_cases h1:lt a b
 . have HZ:=Lib.hid (show cmpE a b= -1 from if_pos h1);rw[decide_eq_true h1] at A1;clear h1;go_enter Tryz.func232,Tryz.ntmps232;go_wp2_with fail
   refine A1.out.mono ?_;rintro e w1 ⟨rfl,hG⟩;have G1:=Lib.hid hG;clear hG;go_wp2_with fail
   go_ret;exact⟨ret_int HZ.out.symm,G1.out⟩
 . rw[decide_eq_false h1] at A1
   by_cases h2:lt b a
   . have HZ:=Lib.hid (show cmpE a b=1 by unfold cmpE;rw[if_neg h1,if_pos h2]);rw[decide_eq_true h2] at A2;clear h1 h2;go_enter Tryz.func232,Tryz.ntmps232;go_wp2_with fail
     refine A1.out.mono ?_;rintro e w1 ⟨rfl,hG⟩;have G1:=Lib.hid hG;clear hG;go_wp2_with fail
     refine(A2.out w1 G1.out).mono ?_;rintro e w2 ⟨rfl,hG⟩;have G2:=Lib.hid hG;clear hG;go_wp2_with fail
     go_ret;exact⟨ret_int HZ.out.symm,G1.out.trans G2.out⟩
   . have HZ:=Lib.hid (show cmpE a b=0 by unfold cmpE;rw[if_neg h1,if_neg h2]);rw[decide_eq_false h2] at A2;clear h1 h2;go_enter Tryz.func232,Tryz.ntmps232;go_wp2_with fail
     refine A1.out.mono ?_;rintro e w1 ⟨rfl,hG⟩;have G1:=Lib.hid hG;clear hG;go_wp2_with fail
     refine(A2.out w1 G1.out).mono ?_;rintro e w2 ⟨rfl,hG⟩;have G2:=Lib.hid hG;clear hG;go_wp2_with fail
     go_ret;exact⟨ret_int HZ.out.symm,G1.out.trans G2.out⟩
def Row(base:Nat)(rv:Value)(B:List Nat)(W:World):Prop:=∃a cap,rv= .slice a B.length cap/\B.length<=cap/\cap<=maxLen/\(B.length≠0->∃g,a=some ⟨g,0,none⟩/\base<=g/\g < W.heap.size/\∀j,j < B.length->W.cell? ⟨g,j,none⟩=some (.pointer (some ⟨tg B j,0,none⟩))/\W.frozen? ⟨g,j,none⟩=false)
def ClonePost(w:World)(B:List Nat)(e:Ending)(w':World):Prop:=∃rv,e= .returned rv/\Row w.heap.size rv B w'/\Below w.heap.size w w'
theorem clone_any(w:World)(v:Value)(T:List Nat)(hT:Tree w v T)(hl:T.length<=100000):
 Calls Tryz.prog 230 #[v] w (ClonePost w T):=by
 rcases hT with⟨rfl,rfl⟩|⟨tb,cap,arr,rfl,h2,h3,h4,h5,h6⟩
 . exact(AnyE.slices_Clone_nil Tryz.cloneS 0 0 w).mono λe w' h=>⟨_,h.1,⟨none,0,rfl,Nat.le_refl _,by unfold maxLen;omega,λh=>absurd rfl h⟩,by rw[h.2];exact Below.refl _ _⟩
 . obtain⟨i0,hi,hz0,hz1,hz2⟩:=info_parts infoP;refine(AnyE.slices_Clone Tryz.cloneS i0 (.pointer none) 1 8 hi hz0 hz1 hz2 rfl (by decide) (λ_=>by kernel_rfl) tb 0 T.length cap (T.map λb=>Value.pointer (some ⟨b,0,none⟩)) w (by simp) (by unfold maxLen;omega) (by omega) ?_ ?_).mono ?_
   . intro j u hj;rw[List.getElem?_map] at hj
     have hjl:j < T.length:=by
      by_cases h:j < T.length
      . exact h
      . rw[List.getElem?_eq_none (by omega)] at hj;cases hj
     rw[tg_get hjl] at hj;rw[Nat.zero_add,cell_of_row w _ _ _ _ _ h2,h6 j hjl];exact hj
   . intro u hu;obtain⟨b,_,rfl⟩:=List.mem_map.1 hu;rfl
   . rintro e w' ⟨v',rfl,hown,hnil,hb⟩;refine⟨v',rfl,?_,hb⟩;rcases hown.2 with⟨h1,h0⟩|⟨g,cap',cur,rfl,hg,c2,c4,c5,c3,c6⟩
     . exact absurd h1 hnil
     . refine⟨_,cap',rfl,c4,c5,λ_=>⟨g,rfl,hg,(Array.getElem?_eq_some_iff.1 c2).1,λj hj=>⟨?_,frozen_of_row w' _ _ _ _ c2⟩⟩⟩;rw[cell_of_row w' _ _ _ _ _ c2];have:=congrArg (λl=>l[j]?) c6;simp only[List.getElem?_take,List.getElem?_map,tg_get hj] at this;rw[if_pos (by omega),Array.getElem?_toList] at this;exact this
theorem sort_other{α:Type} [Inhabited α] (enc:α->Value)(w:World)(blk off n:Nat)(d:Array α)(os:Array Obj){k:Nat}(hk:k < w.heap.size)(hne:k≠blk):(sortWorld enc w blk off n d os).heap[k]?=w.heap[k]?:=by
 unfold sortWorld;rw[Go.Sort.heap_grow_old _ _ (by simpa using hk)];simp[Go.Sort.putRow,Go.Sort.mapBlock,Array.getElem?_modify,Ne.symm hne]
theorem sort_below{α:Type} [Inhabited α] (enc:α->Value)(w:World)(blk off n B:Nat)(d:Array α)(os:Array Obj)(hB:B<=blk)(hblk:blk < w.heap.size):Below B w (sortWorld enc w blk off n d os):=
 ⟨rfl,rfl,rfl,by unfold sortWorld;simp,λ_ hk=>sort_other enc w blk off n d os (by omega) (by omega)⟩
abbrev It(T:List Nat):Type:={b:Nat // b∈T}
def encI(T:List Nat)(x:It T):Value:= .pointer (some ⟨x.1,0,none⟩)
def cfI(T:List Nat)(E:Nat->Ent Key)(x y:It T):Int:=cmpE (E x.1) (E y.1)
theorem ltI(T:List Nat)(E:Nat->Ent Key)(x y:It T):ltOf (cfI T E) x y=decide (lt (E x.1) (E y.1)):=by
 unfold ltOf cfI cmpE
 by_cases h1:lt (E x.1) (E y.1)
 . simp[h1]
 . by_cases h2:lt (E y.1) (E x.1) <;> simp[h1,h2]
theorem swoI(T:List Nat)(E:Nat->Ent Key):Go.Sort.SWO (ltOf (cfI T E)) where
 irrefl x:=by rw[ltI];exact decide_eq_false (lt.irrefl _)
 trans x y z h1 h2:=by rw[ltI] at *;exact decide_eq_true ((of_decide_eq_true h1).trans (of_decide_eq_true h2))
 ntrans x y z h1 h2:=by
  rw[ltI] at*;have h1:=of_decide_eq_false h1;have h2:=of_decide_eq_false h2;refine decide_eq_false (λh3=>?_);unfold lt at h1 h2 h3;omega
def SortPost(w0:World)(L:List (Ent Key))(E:Nat->Ent Key)(T:List Nat)(rv:Value)(e:Ending)(w':World):Prop:=e= .returned (.tuple #[])/\∃B,B.map E=L/\(∀b∈B,b∈T)/\Row w0.heap.size rv B w'/\Below w0.heap.size w0 w'
theorem perm_of_attach{T:List Nat}(E:Nat->Ent Key){d d':Array (It T)} [Inhabited (It T)] (hd:d.toList.map (·.1)=T)(hp:Go.Sort.PermIn 0 d.size d d'):(d'.toList.map λx=>E x.1).Perm (T.map E):=by
 have h1:=hp.2.2;have e1:d.extract 0 d.size=d:=by simp
 have e2:d'.extract 0 d.size=d':=by rw[← hp.1];simp
 rw[e1,e2] at h1;have:=h1.map (λx=>E x.1);refine this.trans ?_;have e:T.map E=(d.toList.map (·.1)).map E:=by rw[hd]
 rw[e,List.map_map];exact List.Perm.refl _
set_option maxHeartbeats 1000000 in
theorem sort_any(w w1:World)(h M:Nat)(v:Value)(T:List Nat)(E:Nat->Ent Key)(f:Key->Option Nat)(L:List (Ent Key))(c:Nat)(rv:Value)(s:St w h M v T E f L c)(hR:Row w.heap.size rv T w1)(hb:Below w.heap.size w w1):
 Calls Tryz.prog 231 #[rv,.func (.func 232) #[] #[]] w1 (SortPost w L E T rv):=by
 obtain⟨a,cap,rfl,hc,hm,hrow⟩:=hR
 by_cases hT:T.length=0
 . obtain rfl:=List.eq_nil_of_length_eq_zero hT;have hL:L= []:=List.eq_nil_of_length_eq_zero s.len;subst hL;exact(AnyF.slices_SortFunc_none {Tryz.sortS with} a cap _ w1).mono λe w' h=>⟨h.1,[],rfl,by simp,⟨a,cap,rfl,hc,hm,λh=>absurd rfl h⟩,by rw[h.2];exact hb⟩
 . obtain⟨g,rfl,hg,hglt,hcell⟩:=hrow hT;have:Inhabited (It T):=⟨⟨tg T 0,tg_mem (by omega)⟩⟩;obtain⟨d,hd⟩:∃d:Array (It T),d=T.attach.toArray:=⟨_,rfl⟩;have hds:d.size=T.length:=by rw[hd];simp
   have hdl:d.toList.map (·.1)=T:=by
    rw[hd];exact List.attach_map_subtype_val T
   have hdj:∀j,j < d.size->(d[j]!).1=tg T j:=λj hj=>by
    have h1:=congrArg (λl=>l[j]?) hdl;simp only[List.getElem?_map,Array.getElem?_toList] at h1;rw[Array.getElem?_eq_getElem hj,tg_get (by omega)] at h1;rw[getElem!_pos d j hj];exact Option.some.inj h1
   have hH:Go.Sort.Holds (encI T) w1 g 0 d:=λj hj=>by
    rw[Nat.zero_add];obtain⟨q1,q2⟩:=hcell j (by omega);refine⟨?_,q2⟩;rw[q1];unfold encI;rw[hdj j hj]
   have hseen:∀x:It T,Seen w1 x.1 (E x.1)/\x.1 < w.heap.size:=λx=>by
    obtain⟨i,hi,he⟩:=mem_tg x.2;have hlt:=s.hold.ilt hi;have h1:=s.hold.seen hi;rw[he] at h1 hlt;exact⟨⟨(hb.cell (p:=⟨x.1,1,none⟩) hlt).trans h1.1,(hb.cell (p:=⟨x.1,2,none⟩) hlt).trans h1.2.1,(hb.cell (p:=⟨x.1,3,none⟩) hlt).trans h1.2.2⟩,hlt⟩
   have hcmp:CmpLays1 Tryz.prog 232 #[] (encI T) (cfI T E) g 0 d.size w1:=by
    intro m os dk hdk x y
    have hs:∀x:It T,Seen (sortWorld (encI T) w1 g 0 m dk os) x.1 (E x.1):=λx=>by
     obtain⟨h1,h2⟩:=hseen x;have hsz:=hb.size;have hk:=sort_other (encI T) w1 g 0 m dk os (k:=x.1) (by omega) (by omega);exact⟨(World.cell?_of_block (a:=⟨x.1,1,none⟩) hk).trans h1.1,(World.cell?_of_block (a:=⟨x.1,2,none⟩) hk).trans h1.2.1,(World.cell?_of_block (a:=⟨x.1,3,none⟩) hk).trans h1.2.2⟩
    exact cmp_any _ x.1 y.1 (E x.1) (E y.1) (hs x) (hs y)
   have eg:∀args w,(callFunc 232 args).run Tryz.prog w= .ok (.enter 232 args) w:=enters_of Tryz.func232 (by kernel_rfl) rfl;have hcon:=Any.slices_SortFunc Tryz.sortS (encI T) (λ_=>rfl) (cfI T E) (swoI T E) 232 #[] g 0 cap d w1 eg hcmp hH hglt (by have:=s.hold.top;omega);rw[hds] at hcon;refine Calls.mono (show Calls Tryz.prog 231 _ w1 _ from hcon) ?_;rintro e w' ⟨rfl,d',n,os,hp,hso,rfl⟩;rw[← hds] at hp hso;have hsz':=hp.1
   have hB:(d'.toList.map (·.1)).map E=L:=by
    rw[List.map_map];have hpm:=perm_of_attach E hdl hp;refine Srt.uniq (hpm.trans s.perm.symm) ?_ s.srt;have hnd:=s.dis;have hset:((d'.toList.map λx=>E x.1).map (·.set)).Nodup:=((hpm.map _).nodup_iff).2 (by rw[List.map_map];exact hnd);refine List.pairwise_iff_getElem.2 λi j hi hj hij=>?_;have hi':i < d'.size:=by simpa using hi
    have hj':j < d'.size:=by simpa using hj
    have q1:=hso i j (Nat.zero_le _) hij (by omega);rw[ltI,getElem!_pos d' j hj',getElem!_pos d' i hi'] at q1;have q2:=List.pairwise_iff_getElem.1 hset i j (by simpa using hi) (by simpa using hj) hij;simp only[List.getElem_map,Array.getElem_toList] at q2|-;exact lt.tot (Ne.symm q2) (of_decide_eq_false q1)
   refine⟨rfl,d'.toList.map (·.1),hB,λb hb'=>?_,⟨_,cap,by simp[hsz',hds],by simp[hsz',hds];exact hc,hm,λ_=>⟨g,rfl,hg,lt_sortWorld _ _ _ _ _ _ _ hglt,λj hj=>?_⟩⟩,?_⟩
   . obtain⟨x,_,rfl⟩:=List.mem_map.1 hb';exact x.2
   . have hj':j < d'.size:=by simpa using hj
     have q:=holds_sortWorld (encI T) w1 g 0 n d d' os hglt hH hsz' j hj';rw[Nat.zero_add] at q;refine⟨?_,q.2⟩;rw[q.1];unfold encI
     have:tg (d'.toList.map (·.1)) j=(d'[j]!).1:=by
      have h1:=tg_get (T:=d'.toList.map (·.1)) (i:=j) hj;simp only[List.getElem?_map,Array.getElem?_toList] at h1;rw[Array.getElem?_eq_getElem hj'] at h1;rw[getElem!_pos d' j hj'];exact(Option.some.inj h1).symm
     rw[this]
   . exact hb.trans (sort_below _ _ _ _ _ _ _ _ hg hglt)
end HS
end Go.Proofs.YtdmmciggopmglaaGreatDoor.LF
namespace Go.Proofs.YtdmmciggopmglaaGreatDoor.LF
namespace HS
open Go.RowKit Ht Go.Maps Go.WideMaps
structure OrdR(w w2:World)(E:Nat->Ent Key)(B:List Nat)(i:Nat)(W:World):Prop where
 mem:∃arr:Array Value,W.heap[w2.heap.size]?=some (.cells arr 9 (0,0))/\arr.size=B.length/\∀j,j < i->arr[j]?=some (.string (E (tg B j)).key)
 bel:Below w2.heap.size w2 W
def OrdG(w w2:World)(E:Nat->Ent Key)(B:List Nat)(n g:Nat)(z:Value)(W:World):Prop:=∃i,g+i=n/\z= .int .i64 (i:Int)/\OrdR w w2 E B i W
theorem made_size(z:Value)(m:Nat):(madeCells #[z] m).size=m:=by simp[madeCells]
set_option maxHeartbeats 2000000 in
set_option maxRecDepth 100000 in
theorem order_any(w:World)(h:Nat)(S:Nat->Prop)(L:List (Ent Key))(c:Nat)(s:HS w h S L c):
 Calls Tryz.prog 219 #[.pointer (some ⟨h,0,none⟩)] w (RowPost (L.map (·.key)) w):=by
 obtain⟨M,v,T,E,f,st,rfl⟩:=s;have c1:=st.hold.c1;have CL:=Lib.hid (clone_any w v T st.hold.tree st.hold.top);have SO:=Lib.hid (λw1 rv hR hb=>sort_any w w1 h M v T E f L c rv st hR hb);have ST:=Lib.hid st;clear st;go_enter Tryz.func219,Tryz.ntmps219;go_wp2_with fail
 refine CL.out.mono ?_;rintro e w1 ⟨rv,rfl,hR,hb⟩;have SR:=Lib.hid (SO.out w1 rv hR hb);clear c1 hR hb SO CL;go_wp2_with fail
 refine SR.out.mono ?_;rintro e w2 ⟨rfl,B,hBL,hBT,hR,hb⟩;obtain⟨a,cap,rfl,hc,hm,hrow⟩:=hR
 have hBl:B.length<=100000:=by
  have h1:B.length=L.length:=by rw[← hBL];simp
  rw[h1,ST.out.len];exact ST.out.hold.top
 have hmk:=mkK w2 B.length (by omega);have HROW:=Lib.hid hrow;have HB:=Lib.hid hb;have HBL:=Lib.hid hBL;have HBT:=Lib.hid hBT
 have hcell:=λj (hj:j < B.length)=>show w2.cell? ⟨tg B j,0,none⟩=some (.string (E (tg B j)).key) from by
  obtain⟨i,hi,he⟩:=mem_tg (hBT _ (tg_mem hj));have h1:=ST.out.hold.i0 hi;have h2:=ST.out.hold.ilt hi;rw[he] at h1 h2;exact(hb.cell (p:=⟨tg B j,0,none⟩) h2).trans h1
 have HC:=Lib.hid hcell;have hsz:=hb.size;obtain⟨n,hn⟩:∃n,B.length=n:=⟨_,rfl⟩;have HN:=Lib.hid hn;rw[hn] at hmk hc hBl|-;unfold maxLen at hm;clear hrow hb hBL hBT hcell SR hn;go_wp2_with fail
 clear hmk;go_loopg [19] n (λg z W=>OrdG w w2 E B n g z W)
 case atStart=>
  refine⟨0,by omega,rfl,⟨⟨_,heap_alloc_new _ _,?_,λj hj=>by omega⟩,(Below.refl _ _).alloc (Nat.le_refl _) _⟩⟩;rw[made_size];exact HN.out.symm
 case round=>
  obtain⟨i,hgi,rfl,hO⟩:=hrel;have HO:=Lib.hid hO;have HG:=Lib.hid hgi;clear hO
  by_cases hi:i < n
  . have e0:decide (i < n)=true:=by simpa using hi
    obtain⟨g,rfl,hg1,hg2,hgc⟩:=HROW.out (by have:=HN.out;omega);have r1:=(HO.out.bel.cell (p:=⟨g,i,none⟩) hg2).trans (hgc i (by have:=HN.out;omega)).1;have hlt:=cell_lt (HC.out i (by have:=HN.out;omega));have r2:=(HO.out.bel.cell (p:=⟨tg B i,0,none⟩) hlt).trans (HC.out i (by have:=HN.out;omega));obtain⟨arr,k1,k2,k3⟩:=HO.out.mem;have k2':arr.size=n:=k2.trans HN.out;have r3:wr.cell? ⟨w2.heap.size,i,none⟩=some arr[i]:=(cell_of_row wr _ _ _ _ _ k1).trans (Array.getElem?_eq_getElem (by omega));have f3:wr.frozen? ⟨w2.heap.size,i,none⟩=false:=frozen_of_row wr _ _ _ _ k1
    have R:=Lib.hid (show OrdR w w2 E B (i+1) (wr.setCell ⟨w2.heap.size,i,none⟩ (.string (E (tg B i)).key)) from by
     refine⟨⟨_,heap_setCell_same _ _ _ _ _ _ k1,by simpa using k2,λj hj=>?_⟩,HO.out.bel.setCell (p:=⟨w2.heap.size,i,none⟩) (Nat.le_refl _) _⟩
     by_cases e:j=i
     . subst e;rw[Array.getElem?_setIfInBounds_self_of_lt (by omega)]
     . rw[Array.getElem?_setIfInBounds_ne (by omega)];exact k3 j (by omega))
    generalize(E (tg B i)).key=key at r2 R;generalize tg B i=x at r1 r2;generalize arr[i]=old at r3;clear hgc hlt k1 k2 k3 hgi;go_wp2_with fail
    go_roundg(n - (i+1))
    case measure=>have:=HG.out;omega
    case rel=>exact⟨i+1,by omega,rfl,R.out⟩
  . have e0:decide (i < n)=false:=by simpa using hi
    obtain rfl:i=n:=by have:=HG.out;omega
    clear hgi;go_wp2_with fail
    go_ret;obtain⟨arr,k1,k2,k3⟩:=HO.out.mem;refine⟨_,rfl,⟨?_,?_,?_⟩,HB.out.trans (HO.out.bel.mono hsz)⟩
    . have hl:(L.map (·.key)).length=i:=by rw[← HBL.out];simpa using HN.out
      rw[hl];refine⟨by rw[List.length_map,hl];omega,Or.inr ⟨w2.heap.size,i,arr,rfl,hsz,k1,Nat.le_refl _,by unfold maxLen;omega,by rw[k2,HN.out];omega,?_⟩⟩;apply List.ext_getElem?;intro j;rw[List.getElem?_take,<-HBL.out,List.map_map,List.map_map,List.getElem?_map]
      by_cases hj:j < i
      . rw[if_pos (by omega),Array.getElem?_toList,k3 j hj,tg_get (by have:=HN.out;omega)];rfl
      . rw[if_neg (by omega),List.getElem?_eq_none (by have:=HN.out;omega)];rfl
    . rw[List.length_map,ST.out.len];have:=ST.out.hold.top;omega
    . intro x hx;obtain⟨e,he,rfl⟩:=List.mem_map.1 hx;exact ST.out.ok e he
end HS
end Go.Proofs.YtdmmciggopmglaaGreatDoor.LF
