/- La Lb Lo, in one text. -/
import Derived.Test.YtdmmciggopmglaaGreatDoorY1
import Derived.Test.YtdmmciggopmglaaGreatDoorY2
import Derived.Test.YtdmmciggopmglaaGreatDoorY3
import Derived.Deep.QuietTactic
import Derived.BigQuiet
set_option maxRecDepth 20000
namespace Go.Proofs.YtdmmciggopmglaaGreatDoor.LE
open Go.RowKit Go.Maps Go.WideMaps Sg
inductive Part where
 |pol (st:KSt)
 |row (xs:List ByteArray)
 |map (f:ByteArray->Option Nat)
def PartIn(w:World)(p:Nat)(S:Nat->Prop)(b:Nat):Part->Prop
 | .pol st=>Pc w p S st b
 | .row xs=>LS w p S xs b
 | .map f=>S=(λk=>k=p)/\∃n,n<=b/\Mp w p f n
section
variable{w w':World}{p b b' n:Nat}{S:Nat->Prop}{x:Part}{f:ByteArray->Option Nat}
theorem PartIn.lt(h:PartIn w p S b x){k:Nat}(hk:S k):k < w.heap.size:=by
 cases x with
 |pol st=>exact Pc.lt h hk
 |row xs=>exact LS.lt h hk
 |map f=>
  obtain⟨rfl,n,_,hm⟩:=h;have:=hm.lt;have hk:k=p:=hk;omega
theorem PartIn.beside(h:PartIn w p S b x){X:Nat->Prop}(ht:Turn X w w')(hx:∀k,S k->¬X k):PartIn w' p S b x:=by
 have hlt:=λk (hk:S k)=>h.lt hk;cases x with
 |pol st=>exact Pc.beside h ht hx
 |row xs=>exact LS.kept h ht.size λk hk=>ht.block k (hlt k hk) (hx k hk)
 |map f=>
  obtain⟨rfl,n,hn,hm⟩:=h;exact⟨rfl,n,hn,hm.same (ht.block p hm.lt (hx p rfl))⟩
theorem PartIn.below(h:PartIn w p S b x)(hb:Below w.heap.size w w'):PartIn w' p S b x:=h.beside (X:=λ_=>False) (Turn.of_below hb) λ_ _ e=>e
theorem PartIn.mono(h:PartIn w p S b x)(hb:b<=b'):PartIn w p S b' x:=by
 cases x with
 |pol st=>exact Pc.mono h hb
 |row xs=>exact LS.mono h hb
 |map f=>
  obtain⟨rfl,n,hn,hm⟩:=h;exact⟨rfl,n,Nat.le_trans hn hb,hm⟩
theorem Mp.dropAny(h:Mp w p f n){s:ByteArray}(hs:s.size<=maxLen)(ty:TypeId):
 ∃w' n',(Builtin.delete_ #[111,9] ty #[.map (some p),.string s]).run Tryz.prog w= .ok (.tuple #[]) w'/\Mp w' p (fdel f s) n'/\n'<=n/\w.grownBy w' (some p):=by
 obtain⟨D,h1,h2,h3⟩:=h;obtain⟨w',hrun,hown,hg⟩:=h1.drop lawS Tryz.underlying111 (keyOf_string_mk Tryz.underlying9 hs) ty
 have hsz:Maps.size (D.del (.string s.data.toList))<=n:=by
  have:=size_del (k:= .string s.data.toList) (h1.tidy lawS);rw[h2] at this;rw[← this];exact Nat.le_add_right _ _
 refine⟨w',_,hrun,⟨_,owns_size hown,rfl,λt=>?_⟩,hsz,hg.grown⟩;unfold fdel
 by_cases e:t=s
 . subst e;rw[if_pos rfl,has_del_same,atKey_del_same];exact⟨rfl,rfl⟩
 . rw[if_neg e,has_del_other (str_ne e),atKey_del_other (str_ne e)];exact h3 t
end
structure Ix where
 l:Nat
 r:Nat->Nat
abbrev Sx:=Nat->Nat->Prop
def blk(i:Ix)(S:Sx):Nat->Prop:=λx=>x=i.l\/∃k,k < 5/\S k x
structure Fl where
 kd:Nat
 mo:Nat
 clock:Nat
 w:Nat
 rate:Nat
 asked:Nat
 hits:Nat
 last:Nat
 ended:Bool
 down:Bool
 still:Nat
 B:Nat
 lane:Int
def lcells(i:Ix)(F:Fl):Array Value:=#[.int .i64 (F.kd:Int),.int .i64 (F.mo:Int),.pointer (some ⟨i.r 0,0,none⟩),.pointer (some ⟨i.r 1,0,none⟩),.pointer (some ⟨i.r 2,0,none⟩),.pointer (some ⟨i.r 3,0,none⟩),
 .map (some (i.r 4)),.int .i64 (F.clock:Int),.int .u64 (F.w:Int),.int .u64 (F.rate:Int),.int .i64 (F.asked:Int),.int .i64 (F.hits:Int),.int .i64 (F.last:Int),.bool F.ended,.bool F.down,.int .i64 (F.still:Int),.pointer (some ⟨F.B+1,0,none⟩),.int .i64 F.lane]
def LBox(w:World)(l:Nat)(cs:Array Value):Prop:=w.heap[l]?=some (.cells cs 120 (0,0))
structure Raw(w:World)(i:Ix)(S:Sx)(F:Fl)(R:Nat->Part)(b:Nat->Nat):Prop where
 box:LBox w i.l (lcells i F)
 pt:∀k,k < 5->PartIn w (i.r k) (S k) (b k) (R k)
 sep:∀j k,j < 5->k < 5->j≠k->∀x,S j x->¬S k x
 out:∀k,k < 5->¬S k i.l
def RPost(v:Value)(w:World)(i:Ix)(S:Sx)(F:Fl)(R:Nat->Part)(b:Nat->Nat)(e:Ending)(w':World):Prop:=
 e= .returned v/\∃S',Raw w' i S' F R b/\Went w w' (blk i S) (blk i S')
def updP(R:Nat->Part)(k:Nat)(x:Part):Nat->Part:=λj=>if j=k then x else R j
section
variable{w w':World}{i:Ix}{S:Sx}{F F':Fl}{b b':Nat->Nat}{R R':Nat->Part}{v:Value}{e:Ending}
theorem Raw.clt(r:Raw w i S F R b):i.l < w.heap.size:=(Array.getElem?_eq_some_iff.1 r.box).1
theorem Raw.lt(r:Raw w i S F R b){k:Nat}(hk:blk i S k):k < w.heap.size:=by
 rcases hk with h|⟨j,hj,h⟩
 . have:=r.clt;omega
 . exact(r.pt j hj).lt h
theorem Raw.beside(r:Raw w i S F R b){X:Nat->Prop}(ht:Turn X w w')(hx:∀k,blk i S k->¬X k):Raw w' i S F R b:=
 ⟨(ht.block _ r.clt (hx _ (Or.inl rfl))).trans r.box,λj hj=>(r.pt j hj).beside ht λk hk=>hx k (Or.inr ⟨j,hj,hk⟩),r.sep,r.out⟩
theorem Raw.below(r:Raw w i S F R b)(hb:Below w.heap.size w w'):Raw w' i S F R b:=r.beside (X:=λ_=>False) (Turn.of_below hb) λ_ _ e=>e
theorem Raw.mono(r:Raw w i S F R b)(hb:∀k,k < 5->b k<=b' k):Raw w i S F R b':=⟨r.box,λj hj=>(r.pt j hj).mono (hb j hj),r.sep,r.out⟩
theorem Raw.congr(r:Raw w i S F R b)(h:∀k,k < 5->R' k=R k):Raw w i S F R' b:=⟨r.box,λj hj=>by rw[h j hj];exact r.pt j hj,r.sep,r.out⟩
theorem RPost.congr(r:RPost v w i S F R b e w')(h:∀k,k < 5->R' k=R k):RPost v w i S F R' b e w':=by
 obtain⟨he,S',r',hW⟩:=r;exact⟨he,S',r'.congr h,hW⟩
theorem RPost.trans{F1:Fl}{b1:Nat->Nat}{R1:Nat->Part}{S1:Sx}{w1:World}(hW:Went w w1 (blk i S) (blk i S1))(hp:RPost v w1 i S1 F1 R1 b1 e w'):RPost v w i S F1 R1 b1 e w':=by
 obtain⟨he,S2,hR,h2⟩:=hp;exact⟨he,S2,hR,hW.trans h2⟩
theorem Raw.on(r:Raw w i S F R b){k:Nat}(hk:k < 5){x:Part}{n:Nat}(hp:e= .returned v/\∃S',PartIn w' (i.r k) S' n x/\Went w w' (S k) S')(hn:n<=b' k)(hb:∀j,j < 5->j≠k->b j<=b' j):RPost v w i S F (updP R k x) b' e w':=by
 obtain⟨he,S',hL,hW⟩:=hp;have q:∀x,x < w.heap.size->¬S k x->w'.heap[x]?=w.heap[x]?:=λx hx hn=>hW.turn.block x hx hn
 have z:∀x,x < w.heap.size->¬S k x->¬S' x:=λx hx hn h=>by
  rcases hW.new x h with h|h
  . exact hn h
  . omega
 refine⟨he,λj=>if j=k then S' else S j,⟨(q _ r.clt (r.out k hk)).trans r.box,λj hj=>?_,λj l hj hl hne x hx hx2=>?_,λj hj=>?_⟩,λx hx=>?_,hW.turn.wide λx _ h=>Or.inr ⟨k,hk,h⟩⟩
 . unfold updP
   by_cases e:j=k
   . subst e;rw[if_pos rfl,if_pos rfl];exact hL.mono hn
   . rw[if_neg e,if_neg e];exact((r.pt j hj).beside hW.turn λx hx=>r.sep j k hj hk e x hx).mono (hb j hj e)
 . by_cases e:j=k
   . subst e;rw[if_pos rfl] at hx;rw[if_neg (Ne.symm hne)] at hx2;exact z x ((r.pt l hl).lt hx2) (r.sep l j hl hj (Ne.symm hne) x hx2) hx
   . rw[if_neg e] at hx
     by_cases e2:l=k
     . subst e2;rw[if_pos rfl] at hx2;exact z x ((r.pt j hj).lt hx) (r.sep j l hj hl e x hx) hx2
     . rw[if_neg e2] at hx2;exact r.sep j l hj hl hne x hx hx2
 . by_cases e:j=k
   . rw[if_pos e];exact z _ r.clt (r.out k hk)
   . rw[if_neg e];exact r.out j hj
 . rcases hx with h|⟨j,hj,h⟩
   . exact Or.inl (Or.inl h)
   . by_cases e:j=k
     . rw[if_pos e] at h;exact(hW.new x h).imp (λh=>Or.inr ⟨k,hk,h⟩) id
     . rw[if_neg e] at h;exact Or.inl (Or.inr ⟨j,hj,h⟩)
theorem Raw.set(r:Raw w i S F R b)(o:Nat)(x:Value)(hc:(lcells i F).setIfInBounds o x=lcells i F'):Raw (w.setCell ⟨i.l,o,none⟩ x) i S F' R b/\Went w (w.setCell ⟨i.l,o,none⟩ x) (blk i S) (blk i S):=by
 have ht:Turn (λk=>k=i.l) w (w.setCell ⟨i.l,o,none⟩ x):=(Turn.refl (λk=>k=i.l) w).setCell (p:=⟨i.l,o,none⟩) (Or.inl rfl) _;refine⟨⟨?_,λj hj=>(r.pt j hj).beside ht λk hk e=>r.out j hj (by rw[← (show k=i.l from e)];exact hk),r.sep,r.out⟩,Went.same (ht.wide λk _ h=>Or.inl h)⟩;have:=r.box;unfold LBox at this|-;rw[heap_setCell_same _ _ _ _ _ _ this,hc]
theorem Raw.c(r:Raw w i S F R b)(o:Nat){x:Value}(hx:(lcells i F)[o]?=some x):w.cell? ⟨i.l,o,none⟩=some x:=(cell_of_row w i.l o _ _ _ r.box).trans hx
theorem Raw.f(r:Raw w i S F R b)(o:Nat):w.frozen? ⟨i.l,o,none⟩=false:=frozen_of_row w i.l o _ _ r.box
end
def pts(A B:KSt)(G H:List ByteArray)(f:ByteArray->Option Nat):Nat->Part
 |0=> .pol A
 |1=> .pol B
 |2=> .row G
 |3=> .row H
 |_=> .map f
section
variable{w w':World}{i:Ix}{S:Sx}{F:Fl}{A B A' B':KSt}{G H G' H':List ByteArray}{f f':ByteArray->Option Nat}{b b':Nat->Nat}{n:Nat}{v:Value}{e:Ending}
theorem Raw.pa(r:Raw w i S F (pts A B G H f) b):Pc w (i.r 0) (S 0) A (b 0):=r.pt 0 (by omega)
theorem Raw.pb(r:Raw w i S F (pts A B G H f) b):Pc w (i.r 1) (S 1) B (b 1):=r.pt 1 (by omega)
theorem Raw.ra(r:Raw w i S F (pts A B G H f) b):LS w (i.r 2) (S 2) G (b 2):=r.pt 2 (by omega)
theorem Raw.rb(r:Raw w i S F (pts A B G H f) b):LS w (i.r 3) (S 3) H (b 3):=r.pt 3 (by omega)
theorem Raw.mp(r:Raw w i S F (pts A B G H f) b):S 4=(λk=>k=i.r 4)/\∃n,n<=b 4/\Mp w (i.r 4) f n:=r.pt 4 (by omega)
theorem five{P:Nat->Prop}(h0:P 0)(h1:P 1)(h2:P 2)(h3:P 3)(h4:P 4):∀k,k < 5->P k:=by
 intro k hk;rcases k with _|_|_|_|_|k
 . exact h0
 . exact h1
 . exact h2
 . exact h3
 . exact h4
 . omega
theorem Raw.onA(r:Raw w i S F (pts A B G H f) b)(hp:PPost v w (i.r 0) (S 0) A' n e w')(hn:n<=b' 0)(hb:∀j,j < 5->j≠0->b j<=b' j):RPost v w i S F (pts A' B G H f) b' e w':=(r.on (k:=0) (by omega) (x:= .pol A') hp hn hb).congr (five rfl rfl rfl rfl rfl)
theorem Raw.onB(r:Raw w i S F (pts A B G H f) b)(hp:PPost v w (i.r 1) (S 1) B' n e w')(hn:n<=b' 1)(hb:∀j,j < 5->j≠1->b j<=b' j):RPost v w i S F (pts A B' G H f) b' e w':=(r.on (k:=1) (by omega) (x:= .pol B') hp hn hb).congr (five rfl rfl rfl rfl rfl)
theorem Raw.onG(r:Raw w i S F (pts A B G H f) b)(hp:LPost v w (i.r 2) (S 2) G' n e w')(hn:n<=b' 2)(hb:∀j,j < 5->j≠2->b j<=b' j):RPost v w i S F (pts A B G' H f) b' e w':=(r.on (k:=2) (by omega) (x:= .row G') hp hn hb).congr (five rfl rfl rfl rfl rfl)
theorem Raw.onH(r:Raw w i S F (pts A B G H f) b)(hp:LPost v w (i.r 3) (S 3) H' n e w')(hn:n<=b' 3)(hb:∀j,j < 5->j≠3->b j<=b' j):RPost v w i S F (pts A B G H' f) b' e w':=(r.on (k:=3) (by omega) (x:= .row H') hp hn hb).congr (five rfl rfl rfl rfl rfl)
theorem grown_turn{p:Nat}(hg:w.grownBy w' (some p)):Turn (λk=>k=p) w w':=⟨hg.os,hg.tape,hg.output,hg.size,λk hk hn=>hg.block k hk (λe=>hn (by injection e))⟩
theorem Raw.onM(r:Raw w i S F (pts A B G H f) b)(hn:n<=b' 4)(hm:Mp w' (i.r 4) f' n)(hg:w.grownBy w' (some (i.r 4)))(hb:∀j,j < 5->j≠4->b j<=b' j):RPost (.tuple #[]) w i S F (pts A B G H f') b' (.returned (.tuple #[])) w':=by
 have e4:=r.mp.1;have:=r.on (k:=4) (by omega) (v:= .tuple #[]) (e:= .returned (.tuple #[])) (w':=w') (b':=b') (n:=b' 4) (x:= .map f') ⟨rfl,S 4,⟨e4,n,hn,hm⟩,by rw[e4];exact Went.same (grown_turn hg)⟩ (Nat.le_refl _) hb;exact this.congr (five rfl rfl rfl rfl rfl)
theorem Raw.look(r:Raw w i S F (pts A B G H f) b){s:ByteArray}(hs:s.size<=maxLen):
 (Instr.lookup 111 (.map (some (i.r 4))) (.string s) true).run Tryz.prog w= .ok (.tuple #[.int .i64 (((f s).getD 0:Nat):Int),.bool (f s).isSome]) w:=by
 obtain⟨_,n,_,hm⟩:=r.mp;exact hm.look hs
theorem Raw.keep(r:Raw w i S F (pts A B G H f) b){s:ByteArray}(hs:s.size<=maxLen)(hb:b 4<=97500)(hf:f s=none){t:Nat}(ht:t<=100000)(hc:∀j,j < 5->j≠4->b j<=b' j)(h4:b 4+1<=b' 4):
 ∃w',(Instr.mapUpdate 111 (.map (some (i.r 4))) (.string s) (.int .i64 (t:Int))).run Tryz.prog w= .ok () w'/\RPost (.tuple #[]) w i S F (pts A B G H (fput f s t)) b' (.returned (.tuple #[])) w':=by
 obtain⟨_,n,hn,hm⟩:=r.mp;obtain⟨w',h1,h2,h3⟩:=hm.store hs (by omega) hf (v:=t) (by omega);exact⟨w',h1,r.onM (by omega) h2 h3 hc⟩
theorem Raw.let_go(r:Raw w i S F (pts A B G H f) b){s:ByteArray}(hs:s.size<=maxLen)(ty:TypeId):
 ∃w',(Builtin.delete_ #[111,9] ty #[.map (some (i.r 4)),.string s]).run Tryz.prog w= .ok (.tuple #[]) w'/\RPost (.tuple #[]) w i S F (pts A B G H (fdel f s)) b (.returned (.tuple #[])) w':=by
 obtain⟨_,n,hn,hm⟩:=r.mp;obtain⟨w',n',h1,h2,h3,h4⟩:=Mp.dropAny hm hs ty;exact⟨w',h1,r.onM (by omega) h2 h4 λ_ _ _=>Nat.le_refl _⟩
end
end Go.Proofs.YtdmmciggopmglaaGreatDoor.LE
set_option maxRecDepth 20000
namespace Go.Proofs.YtdmmciggopmglaaGreatDoor.LE
open Go.RowKit Go.Maps Go.WideMaps Sg
def fOf(H G:List (ByteArray × Nat))(k:ByteArray):Option Nat:=
 match look H k with
 |some t=>some t
 |none=>look G k
def flOf(s:St)(B:Nat)(lane:Int):Fl:=⟨if s.six then 6 else 5,s.mo,s.clock,s.w,s.rate,s.asked,if s.six=true then s.hits else 0,s.last,decide (s.ends≠0),s.down,s.still,B,lane⟩
def pOf(s:St):Nat->Part:=pts s.A s.B (gk s.HA) (gk s.HB) (fOf s.HA s.HB)
structure Lim(s:St)(b:Nat):Prop where
 mo:s.mo<=16777216
 clock:s.clock<=b
 asked:s.asked<=b
 hits:s.hits<=b
 last:s.last<=b
 still:s.still<=9
theorem Lim.mono{s:St}{b b':Nat}(h:Lim s b)(hb:b<=b'):Lim s b':=⟨h.mo,Nat.le_trans h.clock hb,Nat.le_trans h.asked hb,Nat.le_trans h.hits hb,Nat.le_trans h.last hb,h.still⟩
theorem look_wo(H:List (ByteArray × Nat))(k x:ByteArray):look (wo H k) x=if x=k then none else look H x:=by
 by_cases e:x=k
 . subst e;rw[if_pos rfl,look_none,gk_wo];exact λh=>(rem_mem.1 h).2 rfl
 . rw[if_neg e];unfold look wo;rw[List.find?_filter];congr 1;congr 1
   funext p
   by_cases h:p.1=x
   . have:p.1≠k:=λg=>e (h.symm.trans g);simp[h,e]
   . simp[h]
theorem look_cons(k:ByteArray)(t:Nat)(H:List (ByteArray × Nat))(x:ByteArray):look ((k,t)::H) x=if x=k then some t else look H x:=by
 unfold look
 by_cases e:x=k
 . subst e;simp
 . rw[if_neg e,List.find?_cons_of_neg (by simpa using λh=>e h.symm)]
theorem fOf_none{H G:List (ByteArray × Nat)}{k:ByteArray}:fOf H G k=none<->k∉gk H++gk G:=by
 unfold fOf;cases h:look H k with
 |some t=>
  have:=look_some h;simp only[reduceCtorEq,false_iff,Classical.not_not];exact List.mem_append_left _ (gk_mem.2 ⟨t,this⟩)
 |none=>
  have h1:=look_none.1 h;show look G k=none<->_;rw[look_none,List.mem_append,not_or];exact⟨λh=>⟨h1,h⟩,λh=>h.2⟩
theorem fOf_wo(H G:List (ByteArray × Nat))(k:ByteArray):fOf (wo H k) (wo G k)=fdel (fOf H G) k:=by
 funext x
 unfold fOf fdel;rw[look_wo,look_wo]
 by_cases e:x=k
 . rw[if_pos e,if_pos e,if_pos e]
 . rw[if_neg e,if_neg e,if_neg e]
theorem fOf_consA(H G:List (ByteArray × Nat))(k:ByteArray)(t:Nat):fOf ((k,t)::H) G=fput (fOf H G) k t:=by
 funext x
 unfold fOf fput;rw[look_cons]
 by_cases e:x=k
 . rw[if_pos e,if_pos e]
 . rw[if_neg e,if_neg e]
theorem fOf_consB{H G:List (ByteArray × Nat)}{k:ByteArray}(t:Nat)(hk:k∉gk H):fOf H ((k,t)::G)=fput (fOf H G) k t:=by
 funext x
 unfold fOf fput;rw[look_cons]
 by_cases e:x=k
 . subst e;rw[if_pos rfl,if_pos rfl,look_none.2 hk]
 . rw[if_neg e,if_neg e]
def fcut(f:ByteArray->Option Nat)(xs:List ByteArray):ByteArray->Option Nat:=λx=>if inn xs x=true then none else f x
theorem fcut_nil(f:ByteArray->Option Nat):fcut f []=f:=rfl
theorem fcut_snoc(f:ByteArray->Option Nat)(k:ByteArray)(xs:List ByteArray):fdel (fcut f xs) k=fcut f (k::xs):=by
 funext x
 unfold fdel fcut
 by_cases e:x=k
 . subst e;rw[if_pos rfl,if_pos (inn_iff.2 List.mem_cons_self)]
 . rw[if_neg e]
   have:inn (k::xs) x=inn xs x:=by
    rw[Bool.eq_iff_iff,inn_iff,inn_iff,List.mem_cons];exact⟨λh=>h.resolve_left e,Or.inr⟩
   rw[this]
theorem look_append(H G:List (ByteArray × Nat))(x:ByteArray):look (H++G) x=fOf H G x:=by
 unfold look fOf;rw[List.find?_append];unfold look;cases h:H.find? λp=>decide (p.1=x) with
 |none=>simp
 |some p=>simp
theorem look_take{H:List (ByteArray × Nat)}(hn:(gk H).Nodup)(m:Nat)(x:ByteArray):look (H.take m) x=if inn (gk (H.drop m)) x=true then none else look H x:=by
 have e:H=H.take m++H.drop m:=(List.take_append_drop m H).symm
 have hd:∀x,x∈gk (H.take m)->x∉gk (H.drop m):=by
  rw[e] at hn;unfold gk at hn|-;rw[List.map_append] at hn;exact λx h1 h2=>(List.nodup_append.1 hn).2.2 x h1 x h2 rfl
 by_cases h:inn (gk (H.drop m)) x=true
 . rw[if_pos h,look_none];exact λg=>hd x g (inn_iff.1 h)
 . rw[if_neg h];have h2:look (H.drop m) x=none:=look_none.2 λg=>h (inn_iff.2 g)
   conv=>rhs;rw[e,look_append]
   unfold fOf;rw[h2];cases look (H.take m) x <;> rfl
theorem fOf_takeA{H G:List (ByteArray × Nat)}(hn:(gk H++gk G).Nodup)(m:Nat):fOf (H.take m) G=fcut (fOf H G) (gk (H.drop m)):=by
 funext x
 unfold fcut
 by_cases h:inn (gk (H.drop m)) x=true
 . rw[if_pos h,fOf_none,List.mem_append,not_or]
   have hx:x∈gk H:=by
    have:=inn_iff.1 h;unfold gk at this|-;rw[List.map_drop] at this;exact List.mem_of_mem_drop this
   refine⟨look_none.1 (by rw[look_take (List.nodup_append.1 hn).1,if_pos h]),λg=>(List.nodup_append.1 hn).2.2 x hx x g rfl⟩
 . rw[if_neg h];unfold fOf;rw[look_take (List.nodup_append.1 hn).1,if_neg h]
theorem fOf_takeB{H G:List (ByteArray × Nat)}(hn:(gk H++gk G).Nodup)(m:Nat):fOf H (G.take m)=fcut (fOf H G) (gk (G.drop m)):=by
 funext x
 unfold fcut
 by_cases h:inn (gk (G.drop m)) x=true
 . rw[if_pos h,fOf_none,List.mem_append,not_or]
   have hx:x∈gk G:=by
    have:=inn_iff.1 h;unfold gk at this|-;rw[List.map_drop] at this;exact List.mem_of_mem_drop this
   refine⟨λg=>(List.nodup_append.1 hn).2.2 x g x hx rfl,look_none.1 (by rw[look_take (List.nodup_append.1 hn).2.1,if_pos h])⟩
 . rw[if_neg h];unfold fOf;rw[look_take (List.nodup_append.1 hn).2.1,if_neg h]
structure LT(w:World)(i:Ix)(S:Sx)(B E:Nat)(L:List (List Nat))(lane:Int)(s:St)(b:Nat):Prop where
 raw:Raw w i S (flOf s B lane) (pOf s) λ_=>b
 ok:Ok s
 lim:Lim s b
 tp:DR.Tape w B E L
 sep:∀k,blk i S k->¬(B<=k/\k < E)
 vs:DR.lget L lane=s.vs
def tblk(i:Ix)(S:Sx)(B E:Nat):Nat->Prop:=λk=>blk i S k\/(B<=k/\k < E)
def TPost(v:Value)(w:World)(i:Ix)(S:Sx)(B E:Nat)(L:List (List Nat))(lane:Int)(s':St)(b':Nat)(e:Ending)(w':World):Prop:=
 e= .returned v/\∃S' L',LT w' i S' B E L' lane s' b'/\(∀j,j≠lane->DR.lget L' j=DR.lget L j)/\Went w w' (tblk i S B E) (tblk i S' B E)
section
variable{w w1 w':World}{i:Ix}{S S1:Sx}{B E:Nat}{L L1:List (List Nat)}{lane:Int}{s s':St}{b b':Nat}{v:Value}{e:Ending}
theorem LT.lt(h:LT w i S B E L lane s b){k:Nat}(hk:tblk i S B E k):k < w.heap.size:=by
 rcases hk with hk|hk
 . exact h.raw.lt hk
 . have:=h.tp.lt;omega
theorem LT.beside(h:LT w i S B E L lane s b){X:Nat->Prop}(ht:Turn X w w')(hx:∀k,tblk i S B E k->¬X k):LT w' i S B E L lane s b:=
 ⟨h.raw.beside ht λk hk=>hx k (Or.inl hk),h.ok,h.lim,h.tp.same ht.size λk h1 h2=>ht.block k (by have:=h.tp.lt;omega) (hx k (Or.inr ⟨h1,h2⟩)),h.sep,h.vs⟩
theorem LT.below(h:LT w i S B E L lane s b)(hb:Below w.heap.size w w'):LT w' i S B E L lane s b:=h.beside (X:=λ_=>False) (Turn.of_below hb) λ_ _ e=>e
theorem LT.mono(h:LT w i S B E L lane s b)(hb:b<=b'):LT w i S B E L lane s b':=⟨h.raw.mono λ_ _=>hb,h.ok,h.lim.mono hb,h.tp,h.sep,h.vs⟩
theorem LT.went(h:LT w i S B E L lane s b)(hR:Raw w' i S1 (flOf s' B lane) (pOf s') λ_=>b')(hW:Went w w' (blk i S) (blk i S1))(ok:Ok s')(lim:Lim s' b')(hv:s'.vs=s.vs):LT w' i S1 B E L lane s' b'/\Went w w' (tblk i S B E) (tblk i S1 B E):=by
 have hlt:=h.tp.lt;refine⟨⟨hR,ok,lim,h.tp.same hW.turn.size λk h1 h2=>hW.turn.block k (by omega) λg=>h.sep k g ⟨h1,h2⟩,λk hk hk2=>?_,h.vs.trans hv.symm⟩,λk hk=>?_,hW.turn.wide λk _ g=>Or.inl g⟩
 . rcases hW.new k hk with g|g
   . exact h.sep k g hk2
   . omega
 . rcases hk with hk|hk
   . exact(hW.new k hk).imp Or.inl id
   . exact Or.inl (Or.inr hk)
theorem LT.post(h:LT w i S B E L lane s b)(hp:RPost v w i S (flOf s' B lane) (pOf s') (λ_=>b') e w')(ok:Ok s')(lim:Lim s' b')(hv:s'.vs=s.vs):TPost v w i S B E L lane s' b' e w':=by
 obtain⟨he,S',hR,hW⟩:=hp;obtain⟨h1,h2⟩:=h.went hR hW ok lim hv;exact⟨he,S',L,h1,λ_ _=>rfl,h2⟩
theorem TPost.trans(hW:Went w w1 (tblk i S B E) (tblk i S1 B E))(hL:∀j,j≠lane->DR.lget L1 j=DR.lget L j)(hp:TPost v w1 i S1 B E L1 lane s' b' e w'):TPost v w i S B E L lane s' b' e w':=by
 obtain⟨he,S',L',h1,h2,h3⟩:=hp;exact⟨he,S',L',h1,λj hj=>(h2 j hj).trans (hL j hj),hW.trans h3⟩
end
end Go.Proofs.YtdmmciggopmglaaGreatDoor.LE
namespace Go.Proofs.YtdmmciggopmglaaGreatDoor.LE
open Sg
section
variable{s:St}
theorem req_miss(hm:s.mo≠0){k:ByteArray}(hk:s.has k=false):s.req k=((s.tick.make k).both k).window:=by
 unfold St.req;rw[if_neg hm,if_neg (by have:s.A.has k=false:=hk;rw[this];simp)]
theorem req_hit(hm:s.mo≠0){k:ByteArray}(hk:s.has k=true):s.req k=(s.tick.onHit k).window:=by
 unfold St.req;rw[if_neg hm,if_pos (show s.A.has k=true from hk)]
theorem make_w(s:St)(k:ByteArray):(s.make k).w=s.wR k/\(s.make k).six=s.six/\(s.make k).mo=s.mo/\(s.make k).rate=s.rate:=by
 unfold St.make St.evict
 (repeat' split) <;> exact⟨rfl,rfl,rfl,rfl⟩
end
end Go.Proofs.YtdmmciggopmglaaGreatDoor.LE
