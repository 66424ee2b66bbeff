/- lfu: Lf Fa Fb Fc Fd Fe Rs Live6. -/
import Derived.Test.YtdmmciggopmglaaGreatDoorHd
import Derived.Test.YtdmmciggopmglaaGreatDoorGHp
import Derived.Deep.LoopGhost
import Derived.Deep.RegionHeld3
import Derived.Test.YtdmmciggopmglaaGreatDoorGHo
import Derived.Deep.QuietTactic
import Derived.BigQuiet
import Derived.Deep.Draws
import Derived.Laws.StructEq
set_option maxRecDepth 20000
namespace Go.Proofs.YtdmmciggopmglaaGreatDoor.LF
open Ht HS
namespace Lf
def sg(ch:Bool):Int:=if ch=true then -1 else 1
theorem sg_rng(ch:Bool): -1<=sg ch/\sg ch<=1:=by unfold sg;split <;> omega
theorem sg_two(ch:Bool):sg ch=1\/sg ch= -1:=by unfold sg;split <;> omega
theorem sg_mul(ch:Bool)(n:Nat): -(n:Int)<=sg ch*(n:Int)/\sg ch*(n:Int)<=(n:Int):=by rcases sg_two ch with h|h <;> rw[h] <;> omega
theorem sg_succ(ch:Bool)(n:Nat):sg ch*(n:Int)+sg ch=sg ch*((n+1:Nat):Int):=by rcases sg_two ch with h|h <;> rw[h] <;> omega
def tms(L:List (Ent Key))(k:Key):Int:=((find L k).map (·.one)).getD 0
def isIn(L:List (Ent Key))(k:Key):Bool:=(find L k).isSome
def ent(ch:Bool)(n:Nat)(k:Key)(t:Int):Ent Key:=⟨k,t,sg ch*((n+1:Nat):Int),n+1⟩
def put(ch:Bool)(n:Nat)(L:List (Ent Key))(k:Key):List (Ent Key):=ins (ent ch n k (tms L k+1)) (rem L k)
structure Fit(ch:Bool)(L:List (Ent Key))(n:Nat):Prop where
 two:∀e∈L,e.two=sg ch*(e.set:Int)
 one:∀e∈L,1<=e.one/\e.one<=(n:Int)
theorem isIn_iff{L:List (Ent Key)}{k:Key}:isIn L k=true<->∃e∈L,e.key=k:=by
 unfold isIn;cases h:find L k with
 |none=>simp only[Option.isSome_none,Bool.false_eq_true,false_iff];rintro⟨e,he,hk⟩;exact find_none h e he hk
 |some e=>simp only[Option.isSome_some,true_iff];exact⟨e,find_some h⟩
theorem isIn_no{L:List (Ent Key)}{k:Key}:isIn L k=false<->∀e∈L,e.key≠k:=by
 rw[← Bool.not_eq_true,isIn_iff];constructor
 . intro h e he hk;exact h ⟨e,he,hk⟩
 . rintro h ⟨e,he,hk⟩;exact h e he hk
theorem tms_rng{ch:Bool}{L:List (Ent Key)}{n:Nat}(f:Fit ch L n)(k:Key):0<=tms L k/\tms L k<=(n:Int):=by
 unfold tms;cases h:find L k with
 |none=>exact⟨Int.le_refl _,Int.natCast_nonneg _⟩
 |some e=>have:=f.one e (find_some h).1;exact⟨by show 0<=e.one;omega,this.2⟩
section
variable{ch:Bool}{n:Nat}{L:List (Ent Key)}
theorem mem_put{k:Key}{e:Ent Key}:e∈put ch n L k<->e=ent ch n k (tms L k+1)\/(e∈L/\e.key≠k):=by unfold put;rw[ins_mem,mem_rem]
theorem put_once(o:Once L n)(k:Key):Once (put ch n L k) (n+1):=(o.rem k).put k _ _ λ_ he=>(mem_rem.1 he).2
theorem put_fit(f:Fit ch L n)(k:Key):Fit ch (put ch n L k) (n+1):=by
 have:=tms_rng f k;constructor
 . intro e he;rcases mem_put.1 he with rfl|⟨h,_⟩
   . rfl
   . exact f.two e h
 . intro e he;rcases mem_put.1 he with rfl|⟨h,_⟩
   . show 1<=tms L k+1/\tms L k+1<=((n+1:Nat):Int);omega
   . have:=f.one e h;omega
theorem fit_sub{L':List (Ent Key)}(f:Fit ch L n)(h:∀e∈L',e∈L):Fit ch L' n:=⟨λe he=>f.two e (h e he),λe he=>f.one e (h e he)⟩
theorem once_sub{L':List (Ent Key)}(o:Once L n)(h:L'.Sublist L):Once L' n:=⟨o.keys.sublist (h.map _),o.sets.sublist (h.map _),λe he=>o.le e (h.subset he)⟩
theorem rem_len(o:Once L n){k:Key}(h:isIn L k=true):(rem L k).length+1=L.length:=by
 obtain⟨e,he,rfl⟩:=isIn_iff.1 h;obtain⟨ps,qs,rfl⟩:=List.append_of_mem he;have hk:=o.keys;rw[List.map_append,List.map_cons] at hk;obtain⟨_,h2,h3⟩:=List.nodup_append.1 hk;have h4:=List.nodup_cons.1 h2;have e1:rem ps e.key=ps:=rem_none λx hx hxe=>h3 x.key (List.mem_map_of_mem hx) e.key (by simp) hxe;have e2:rem qs e.key=qs:=rem_none λx hx hxe=>h4.1 (hxe▸List.mem_map_of_mem hx)
 have e3:rem (ps++e::qs) e.key=rem ps e.key++rem qs e.key:=by
  unfold rem;rw[List.filter_append,List.filter_cons_of_neg (by simp)]
 rw[e3,e1,e2];simp only[List.length_append,List.length_cons];omega
theorem rem_len_no{k:Key}(h:isIn L k=false):rem L k=L:=rem_none (isIn_no.1 h)
theorem rem_le(L:List (Ent Key))(k:Key):(rem L k).length<=L.length:=List.length_filter_le _ _
theorem put_len(k:Key):(put ch n L k).length=(rem L k).length+1:=by unfold put;rw[ins_len]
end
def reqL(ch:Bool)(mo n:Nat)(L:List (Ent Key))(k:Key):List (Ent Key):=
 if mo=0 then L else if isIn L k=true then put ch n L k else put ch n (L.drop (L.length+1 - mo)) k
def reqN(mo n:Nat):Nat:=if mo=0 then n else n+1
theorem reqN_le(mo n:Nat):n<=reqN mo n/\reqN mo n<=n+1:=by unfold reqN;split <;> omega
def hitB(mo:Nat)(L:List (Ent Key))(k:Key):Bool:=decide (mo≠0)&&isIn L k
def outB(mo:Nat)(L:List (Ent Key))(k:Key):Bool:=decide (mo≠0)&&!isIn L k&&decide (mo<=L.length)
def hdK(L:List (Ent Key)):Key:=match L with|e::_=>e.key| []=>⟨#[]⟩
def vicK(mo:Nat)(L:List (Ent Key))(k:Key):Key:=if outB mo L k=true then hdK L else⟨#[]⟩
def stepV(mo:Nat)(L:List (Ent Key))(k:Key):Value:= .agg #[.bool (hitB mo L k),.string (vicK mo L k),.bool (outB mo L k)]
def adB(mo:Nat)(L:List (Ent Key))(k:Key):Bool:=!isIn L k&&decide (L.length < mo)
def adL(ch:Bool)(mo n:Nat)(L:List (Ent Key))(k:Key):List (Ent Key):=if adB mo L k=true then put ch n L k else L
def adN(mo n:Nat)(L:List (Ent Key))(k:Key):Nat:=if adB mo L k=true then n+1 else n
theorem adN_le(mo n:Nat)(L:List (Ent Key))(k:Key):n<=adN mo n L k/\adN mo n L k<=n+1:=by unfold adN;split <;> omega
def keysL(L:List (Ent Key)):List Key:=L.map (·.key)
theorem keysL_len(L:List (Ent Key)):(keysL L).length=L.length:=by simp[keysL]
theorem nodup_le:∀{n:Nat} {l:List Nat},l.Nodup->(∀x∈l,1<=x/\x<=n)->l.length<=n
 |0,l,_,hx=>by
  cases l with
  |nil=>exact Nat.le_refl _
  |cons x l=>have:=hx x List.mem_cons_self;omega
 |n+1,l,h,hx=>by
  have h2:=nodup_le (n:=n) (l:=l.filter λx=>decide (x≠n+1)) (h.sublist List.filter_sublist) (λx hm=>by
   obtain⟨h1,h2⟩:=List.mem_filter.1 hm;have:=hx x h1;have:x≠n+1:=by simpa using h2
   omega)
  have h3:l.length<=(l.filter λx=>decide (x≠n+1)).length+1:=by
   clear h2 hx
   induction l with
   |nil=>simp
   |cons x l ih=>
    have h4:=List.nodup_cons.1 h
    by_cases e:x=n+1
    . subst e
      have h5:(l.filter λx=>decide (x≠n+1))=l:=by
       rw[List.filter_eq_self];intro y hy;have:y≠n+1:=λe=>h4.1 (e▸hy);simp[this]
      rw[List.filter_cons_of_neg (by simp),h5,List.length_cons];exact Nat.le_refl _
    . have:=ih h4.2;rw[List.filter_cons_of_pos (by simp[e]),List.length_cons,List.length_cons];omega
  omega
theorem once_len{L:List (Ent Key)}{n:Nat}(o:Once L n):L.length<=n+1:=by
 have h:=nodup_le (n:=n+1) (l:=(L.map (·.set)).map (· +1)) (List.Pairwise.map (· +1) (λa b (h:a≠b) (e:a+1=b+1)=>h (by omega)) o.sets) (λx hx=>by
  obtain⟨y,hy,rfl⟩:=List.mem_map.1 hx;obtain⟨e,he,rfl⟩:=List.mem_map.1 hy;have:=o.le e he;show 1<=e.set+1/\e.set+1<=n+1;omega)
 simpa using h
end Lf
end Go.Proofs.YtdmmciggopmglaaGreatDoor.LF
namespace Go.Proofs.YtdmmciggopmglaaGreatDoor.LF
open Go.RowKit Ht HS Lf
structure Raw(w:World)(c h:Nat)(T:Nat->Prop)(mo:Nat)(ch:Bool)(mk:Int)(L:List (Ent Key))(n:Nat):Prop where
 hs:HS w h T L n
 cT:¬T c
 box:w.heap[c]?=some (.cells #[.int .i64 (mo:Int),.pointer (some ⟨h,0,none⟩),.int .i64 mk,.int .i64 (sg ch)] 168 (0,0))
 top:mo<=9223372036854775807
 fit:Fit ch L n
section
variable{w w':World}{c h mo n n':Nat}{T T':Nat->Prop}{ch:Bool}{mk:Int}{L L':List (Ent Key)}
theorem Raw.c0(r:Raw w c h T mo ch mk L n):w.cell? ⟨c,0,none⟩=some (.int .i64 (mo:Int)):=cell_of_row w _ 0 _ _ _ r.box
theorem Raw.c1(r:Raw w c h T mo ch mk L n):w.cell? ⟨c,1,none⟩=some (.pointer (some ⟨h,0,none⟩)):=cell_of_row w _ 1 _ _ _ r.box
theorem Raw.c2(r:Raw w c h T mo ch mk L n):w.cell? ⟨c,2,none⟩=some (.int .i64 mk):=cell_of_row w _ 2 _ _ _ r.box
theorem Raw.c3(r:Raw w c h T mo ch mk L n):w.cell? ⟨c,3,none⟩=some (.int .i64 (sg ch)):=cell_of_row w _ 3 _ _ _ r.box
theorem Raw.f0(r:Raw w c h T mo ch mk L n):w.frozen? ⟨c,0,none⟩=false:=frozen_of_row w _ 0 _ _ r.box
theorem Raw.f2(r:Raw w c h T mo ch mk L n):w.frozen? ⟨c,2,none⟩=false:=frozen_of_row w _ 2 _ _ r.box
theorem Raw.clt(r:Raw w c h T mo ch mk L n):c < w.heap.size:=(Array.getElem?_eq_some_iff.1 r.box).1
theorem Raw.len(r:Raw w c h T mo ch mk L n):L.length<=100000:=r.hs.top
theorem Raw.same(r:Raw w c h T mo ch mk L n)(hc:w'.heap[c]?=w.heap[c]?)(hT:∀k,T k->w'.heap[k]?=w.heap[k]?):Raw w' c h T mo ch mk L n:=
 ⟨r.hs.same hT,r.cT,hc.trans r.box,r.top,r.fit⟩
theorem Raw.below(r:Raw w c h T mo ch mk L n)(hb:Below w.heap.size w w'):Raw w' c h T mo ch mk L n:=
 r.same (hb.block _ r.clt) λk hk=>hb.block k (r.hs.lt hk)
theorem Raw.next(r:Raw w c h T mo ch mk L n)(hs:HS w' h T' L' n')(hn:∀k,T' k->T k\/w.heap.size<=k)(ht:Turn T w w')(f:Fit ch L' n'):Raw w' c h T' mo ch mk L' n':=by
 have hc:=r.clt;refine⟨hs,λhk=>?_,(ht.block c hc r.cT).trans r.box,r.top,f⟩;rcases hn c hk with h|h
 . exact r.cT h
 . omega
end
def OpR(v:Value)(w:World)(c h:Nat)(T:Nat->Prop)(mo:Nat)(ch:Bool)(mk:Int)(L:List (Ent Key))(n:Nat)(e:Ending)(w':World):Prop:=
 e= .returned v/\∃T',Raw w' c h T' mo ch mk L n/\(∀k,T' k->T k\/w.heap.size<=k)/\Turn T w w'
section
variable(w:World)(c h:Nat)(T:Nat->Prop)(mo:Nat)(ch:Bool)(mk:Int)(L:List (Ent Key))(n:Nat)(key:Key)(r:Raw w c h T mo ch mk L n)
include r
theorem lenC:Calls Tryz.prog 211 #[.pointer (some ⟨c,0,none⟩)] w (IntPost (L.length:Int) w):=by
 have c1:=r.c1;have U:=Lib.hid (len_any w h T L n r.hs);clear r;go_enter Tryz.func211,Tryz.ntmps211;go_wp2_with fail
 refine U.out.mono ?_;rintro e w1 ⟨rfl,rfl⟩;go_wp2_with fail
 go_ret;exact⟨rfl,rfl⟩
theorem timesC(hs:key.size<=maxLen):Calls Tryz.prog 227 #[.pointer (some ⟨c,0,none⟩),.string key] w (ValBelow (.int .i64 (tms L key)) w):=by
 have c1:=r.c1;have U:=rank_any w h T L n key r.hs hs;have hf:=r.fit;unfold rankV at U;unfold tms;cases hq:find L key with
 |none=>
  rw[hq] at U;have U:=Lib.hid U;clear r hf hq;go_enter Tryz.func227,Tryz.ntmps227;go_wp2_with fail
  refine U.out.mono ?_;rintro e w1 ⟨rfl,hB⟩;have HB:=Lib.hid hB;clear hB;go_wp2_with fail
  go_ret;exact⟨rfl,HB.out.alloc HB.out.size _⟩
 |some x=>
  rw[hq] at U;have U:=Lib.hid U;clear r hf hq;go_enter Tryz.func227,Tryz.ntmps227;go_wp2_with fail
  refine U.out.mono ?_;rintro e w1 ⟨rfl,hB⟩;have HB:=Lib.hid hB;clear hB;go_wp2_with fail
  go_ret;exact⟨rfl,HB.out.alloc HB.out.size _⟩
theorem hasC(hs:key.size<=maxLen):Calls Tryz.prog 209 #[.pointer (some ⟨c,0,none⟩),.string key] w (ValBelow (.bool (isIn L key)) w):=by
 have c1:=r.c1;have U:=rank_any w h T L n key r.hs hs;unfold rankV at U;unfold isIn;cases hq:find L key with
 |none=>
  rw[hq] at U;have U:=Lib.hid U;clear r hq;go_enter Tryz.func209,Tryz.ntmps209;go_wp2_with fail
  refine U.out.mono ?_;rintro e w1 ⟨rfl,hB⟩;have HB:=Lib.hid hB;clear hB;go_wp2_with fail
  go_ret;exact⟨rfl,HB.out.alloc HB.out.size _⟩
 |some x=>
  rw[hq] at U;have U:=Lib.hid U;clear r hq;go_enter Tryz.func209,Tryz.ntmps209;go_wp2_with fail
  refine U.out.mono ?_;rintro e w1 ⟨rfl,hB⟩;have HB:=Lib.hid hB;clear hB;go_wp2_with fail
  go_ret;exact⟨rfl,HB.out.alloc HB.out.size _⟩
theorem removeC(hs:key.size<=maxLen):Calls Tryz.prog 212 #[.pointer (some ⟨c,0,none⟩),.string key] w (OpR (.bool (isIn L key)) w c h T mo ch mk (rem L key) n):=by
 have c1:=r.c1;have U:=Lib.hid (show Calls _ _ _ _ (OpPost (.bool (isIn L key)) w h T (rem L key) n) from remove_any w h T L n key r.hs hs);have HH:=Lib.hid r;clear r;go_enter Tryz.func212,Tryz.ntmps212;go_wp2_with fail
 refine U.out.mono ?_;rintro e w1 ⟨rfl,T',hS,hN,hT⟩;have R:=Lib.hid (HH.out.next hS hN hT (fit_sub HH.out.fit λe he=>(mem_rem.1 he).1));have HN:=Lib.hid hN;have HT:=Lib.hid hT;clear hS hN hT;go_wp2_with fail
 go_ret;exact⟨rfl,T',R.out,HN.out,HT.out⟩
theorem victimC:Calls Tryz.prog 215 #[.pointer (some ⟨c,0,none⟩)] w (ValBelow (.tuple #[.string (hdK L),.bool (!L.isEmpty)]) w):=by
 have c1:=r.c1;have U:=least_any w h T L n r.hs;unfold leastV at U;cases L with
 |nil=>
  have U:=Lib.hid U;clear r;go_enter Tryz.func215,Tryz.ntmps215;go_wp2_with fail
  refine U.out.mono ?_;rintro e w1 ⟨rfl,hB⟩;have HB:=Lib.hid hB;clear hB;go_wp2_with fail
  go_ret2
  exact⟨rfl,HB.out.alloc HB.out.size _⟩
 |cons x L=>
  have U:=Lib.hid U;clear r;go_enter Tryz.func215,Tryz.ntmps215;go_wp2_with fail
  refine U.out.mono ?_;rintro e w1 ⟨rfl,hB⟩;have HB:=Lib.hid hB;clear hB;go_wp2_with fail
  go_ret2
  exact⟨rfl,HB.out.alloc HB.out.size _⟩
theorem dropC:Calls Tryz.prog 207 #[.pointer (some ⟨c,0,none⟩)] w (OpR (.tuple #[.string (hdK L),.bool (!L.isEmpty)]) w c h T mo ch mk L.tail n):=by
 have c1:=r.c1
 have U:Calls Tryz.prog 217 #[.pointer (some ⟨h,0,none⟩)] w (OpPost (.tuple #[.string (hdK L),.bool (!L.isEmpty)]) w h T L.tail n):=by
  have:=pop_any w h T L n r.hs;cases L <;> exact this
 have HF:=Lib.hid (fit_sub r.fit λe he=>List.mem_of_mem_tail he);have U:=Lib.hid U;have HH:=Lib.hid r;generalize hdK L=x at*;generalize(!L.isEmpty)=t at*;clear r;go_enter Tryz.func207,Tryz.ntmps207;go_wp2_with fail
 refine U.out.mono ?_;rintro e w1 ⟨rfl,T',hS,hN,hT⟩;have R:=Lib.hid (HH.out.next hS hN hT HF.out);have HN:=Lib.hid hN;have HT:=Lib.hid hT;clear hS hN hT;go_wp2_with fail
 go_ret2
 exact⟨rfl,T',R.out,HN.out,HT.out⟩
end
end Go.Proofs.YtdmmciggopmglaaGreatDoor.LF
namespace Go.Proofs.YtdmmciggopmglaaGreatDoor.LF
open Go.RowKit Ht HS Lf
def blk(c:Nat)(T:Nat->Prop):Nat->Prop:=λk=>k=c\/T k
def Ca(w:World)(c:Nat)(S:Nat->Prop)(mo:Nat)(ch:Bool)(L:List (Ent Key))(n:Nat):Prop:=∃h T,S=blk c T/\Raw w c h T mo ch (sg ch*(n:Int)) L n/\L.length<=mo
def CaPost(v:Value)(w:World)(c:Nat)(S:Nat->Prop)(mo:Nat)(ch:Bool)(L:List (Ent Key))(n:Nat)(e:Ending)(w':World):Prop:=
 e= .returned v/\∃S',Ca w' c S' mo ch L n/\(∀k,S' k->S k\/w.heap.size<=k)/\Turn S w w'
theorem Turn.put{S:Nat->Prop}{w w1:World}(h:Turn S w w1){p:Addr}(hp:S p.block\/w.heap.size<=p.block)(u:Value):Turn S w (w1.setCell p u):=
 h.trans (S':=λk=>k=p.block) ⟨rfl,rfl,rfl,by simp[World.setCell],λk _ h1=>Below.heap_setCell _ _ _ _ h1⟩ (λk hk e=>by subst e;rcases hp with h|h;exact h;omega)
section
variable{w w':World}{c h mo n:Nat}{T T' S:Nat->Prop}{ch:Bool}{L:List (Ent Key)}{v:Value}{e:Ending}
theorem blk_next(hT:∀k,T' k->T k\/w.heap.size<=k):∀k,blk c T' k->blk c T k\/w.heap.size<=k:=by
 intro k hk;rcases hk with h|h
 . exact Or.inl (Or.inl h)
 . exact(hT k h).imp Or.inr id
theorem turn_blk(h:Turn T w w'):Turn (blk c T) w w':=h.wide λ_ _ h=>Or.inr h
theorem OpR.post(p:OpR v w c h T mo ch (sg ch*(n:Int)) L n e w')(hl:L.length<=mo):CaPost v w c (blk c T) mo ch L n e w':=by
 obtain⟨he,T',hR,hN,hT⟩:=p;exact⟨he,_,⟨h,T',rfl,hR,hl⟩,blk_next hN,turn_blk hT⟩
theorem Raw.lt{mk:Int}(r:Raw w c h T mo ch mk L n){k:Nat}(hk:blk c T k):k < w.heap.size:=by
 rcases hk with rfl|hk
 . exact r.clt
 . exact r.hs.lt hk
theorem Raw.keep{mk:Int}(r:Raw w c h T mo ch mk L n)(hs:∀k,blk c T k->w'.heap[k]?=w.heap[k]?):Raw w' c h T mo ch mk L n:=r.same (hs c (Or.inl rfl)) λk hk=>hs k (Or.inr hk)
theorem Ca.lt(a:Ca w c S mo ch L n){k:Nat}(hk:S k):k < w.heap.size:=by
 obtain⟨h,T,rfl,hR,_⟩:=a;exact hR.lt hk
theorem Ca.kept(a:Ca w c S mo ch L n){S2:Nat->Prop}(ht:Turn S2 w w')(hd:∀k,S k->¬S2 k):Ca w' c S mo ch L n:=by
 have hlt:∀k,S k->k < w.heap.size:=λk hk=>a.lt hk;obtain⟨h,T,rfl,hR,hl⟩:=a;exact⟨h,T,rfl,hR.keep λk hk=>ht.block k (hlt k hk) (hd k hk),hl⟩
theorem Ca.below(a:Ca w c S mo ch L n)(hb:Below w.heap.size w w'):Ca w' c S mo ch L n:=by
 obtain⟨h,T,rfl,hR,hl⟩:=a;exact⟨h,T,rfl,hR.below hb,hl⟩
theorem Ca.once(a:Ca w c S mo ch L n):Once L n:=by obtain⟨h,T,rfl,hR,hl⟩:=a;exact hR.hs.once
theorem Ca.srt(a:Ca w c S mo ch L n):Srt L:=by obtain⟨h,T,rfl,hR,hl⟩:=a;exact hR.hs.srt
theorem Ca.ok(a:Ca w c S mo ch L n):∀e∈L,e.key.size<=maxLen:=by obtain⟨h,T,rfl,hR,hl⟩:=a;exact hR.hs.ok
theorem Ca.fit(a:Ca w c S mo ch L n):Fit ch L n:=by obtain⟨h,T,rfl,hR,hl⟩:=a;exact hR.fit
theorem Ca.le(a:Ca w c S mo ch L n):L.length<=mo/\L.length<=100000:=by obtain⟨h,T,rfl,hR,hl⟩:=a;exact⟨hl,hR.len⟩
end
section
variable(w:World)(c:Nat)(S:Nat->Prop)(mo:Nat)(ch:Bool)(L:List (Ent Key))(n:Nat)(key:Key)(a:Ca w c S mo ch L n)
include a
theorem len_ca:Calls Tryz.prog 211 #[.pointer (some ⟨c,0,none⟩)] w (IntPost (L.length:Int) w):=by
 obtain⟨h,T,rfl,hR,hl⟩:=a;exact lenC w c h T mo ch _ L n hR
theorem has_ca(hs:key.size<=maxLen):Calls Tryz.prog 209 #[.pointer (some ⟨c,0,none⟩),.string key] w (ValBelow (.bool (isIn L key)) w):=by
 obtain⟨h,T,rfl,hR,hl⟩:=a;exact hasC w c h T mo ch _ L n key hR hs
theorem remove_ca(hs:key.size<=maxLen):Calls Tryz.prog 212 #[.pointer (some ⟨c,0,none⟩),.string key] w (CaPost (.bool (isIn L key)) w c S mo ch (rem L key) n):=by
 obtain⟨h,T,rfl,hR,hl⟩:=a;exact(removeC w c h T mo ch _ L n key hR hs).mono λe w' hp=>hp.post (Nat.le_trans (rem_le _ _) hl)
theorem victim_ca:Calls Tryz.prog 215 #[.pointer (some ⟨c,0,none⟩)] w (ValBelow (.tuple #[.string (hdK L),.bool (!L.isEmpty)]) w):=by
 obtain⟨h,T,rfl,hR,hl⟩:=a;exact victimC w c h T mo ch _ L n hR
end
def NewC(mo:Nat)(ch:Bool)(w:World)(e:Ending)(w':World):Prop:=∃c S,e= .returned (.pointer (some ⟨c,0,none⟩))/\Ca w' c S mo ch [] 0/\(∀k,S k->w.heap.size<=k)/\Below w.heap.size w w'
abbrev newBox(mo:Nat)(h:Nat)(s:Int):Obj:= .cells #[.int .i64 (mo:Int),.pointer (some ⟨h,0,none⟩),.int .i64 0,.int .i64 s] 168
theorem made_ca{w w1:World}{h mo:Nat}{T:Nat->Prop}(ch:Bool)(H:HS w1 h T [] 0)(hT:∀k,T k->w.heap.size<=k)(HB:Below w.heap.size w w1)(hm:mo<=9223372036854775807):
 NewC mo ch w (.returned (.pointer (some ⟨w1.heap.size,0,none⟩))) (w1.alloc (newBox mo h (sg ch))):=by
 have hb:=(Below.refl w1.heap.size w1).alloc (Nat.le_refl _) (newBox mo h (sg ch));have hs:=HB.size;have hn:¬T w1.heap.size:=λhk=>by have:=H.lt hk;omega
 have hx:=heap_alloc_new w1 (newBox mo h (sg ch))
 have hlow:∀k,blk w1.heap.size T k->w.heap.size<=k:=λk hk=>by
  rcases hk with rfl|hk
  . exact hs
  . exact hT k hk
 exact⟨w1.heap.size,blk w1.heap.size T,rfl,⟨h,T,rfl,⟨H.below hb,hn,by rw[hx];simp,hm,⟨by simp,by simp⟩⟩,Nat.zero_le _⟩,hlow,HB.trans (hb.mono hs)⟩
theorem new_neg(w:World)(z:Int)(ch:Bool)(hz: -9223372036854775808<=z/\z<=9223372036854775807)(h0:z < 0):
 Calls Tryz.prog 63 #[.int .i64 z,.bool ch] w (NewC 0 ch w):=by
 have U:=Lib.hid (new_any w);go_enter Tryz.func63,Tryz.ntmps63;go_wp2_with fail
 refine U.out.mono ?_;rintro e w1 ⟨h,T,rfl,hH,hT,hB⟩;have r1:=made_ca (mo:=0) false hH hT hB (by omega);have r2:=made_ca (mo:=0) true hH hT hB (by omega);have R1:=Lib.hid r1;have R2:=Lib.hid r2;clear hH hT hB r1 r2;cases ch with
 |false=>
  go_wp2_with fail
  go_ret;(try rw[show max z 0=(0:Int) by omega]);exact R1.out
 |true=>
  go_wp2_with fail
  go_ret;(try rw[show max z 0=(0:Int) by omega]);exact R2.out
theorem new_pos(w:World)(n:Nat)(ch:Bool)(hz:n<=9223372036854775807):
 Calls Tryz.prog 63 #[.int .i64 (n:Int),.bool ch] w (NewC n ch w):=by
 have U:=Lib.hid (new_any w);have h0:¬((n:Int) < 0):=by omega
 go_enter Tryz.func63,Tryz.ntmps63;go_wp2_with fail
 refine U.out.mono ?_;rintro e w1 ⟨h,T,rfl,hH,hT,hB⟩;have r1:=made_ca (mo:=n) false hH hT hB hz;have r2:=made_ca (mo:=n) true hH hT hB hz;have R1:=Lib.hid r1;have R2:=Lib.hid r2;clear hH hT hB r1 r2;cases ch with
 |false=>
  go_wp2_with fail
  go_ret;exact R1.out
 |true=>
  go_wp2_with fail
  go_ret;exact R2.out
theorem new_ca(w:World)(z:Int)(ch:Bool)(hz: -9223372036854775808<=z/\z<=9223372036854775807):
 Calls Tryz.prog 63 #[.int .i64 z,.bool ch] w (NewC z.toNat ch w):=by
 by_cases h0:z < 0
 . rw[show z.toNat=0 by omega];exact new_neg w z ch hz h0
 . obtain⟨n,rfl⟩:∃n:Nat,z=(n:Int):=⟨z.toNat,by omega⟩;exact new_pos w n ch (by omega)
theorem Raw.mark{w:World}{c h mo n:Nat}{T:Nat->Prop}{ch:Bool}{mk:Int}{L:List (Ent Key)}(r:Raw w c h T mo ch mk L n)(m:Int):Raw (w.setCell ⟨c,2,none⟩ (.int .i64 m)) c h T mo ch m L n:=by
 refine⟨r.hs.same (λk hk=>Below.heap_setCell _ _ _ _ (λe=>r.cT (by have e:k=c:=e;exact e▸hk))),r.cT,?_,r.top,r.fit⟩;rw[heap_setCell_same _ _ _ _ _ _ r.box];rfl
def CntPost(w:World)(c h:Nat)(T:Nat->Prop)(mo:Nat)(ch:Bool)(L:List (Ent Key))(n:Nat)(key:Key)(e:Ending)(w':World):Prop:=
 e= .returned (.tuple #[])/\∃T',Raw w' c h T' mo ch (sg ch*((n+1:Nat):Int)) (put ch n L key) (n+1)/\(∀k,T' k->T k\/w.heap.size<=k)/\Turn (blk c T) w w'
theorem cnt_end{w w1 w2 w3:World}{c h mo n:Nat}{T:Nat->Prop}{ch:Bool}{L:List (Ent Key)}{key:Key}{e:Ending}(t1:Turn (blk c T) w w1)(r1:Raw w1 c h T mo ch (sg ch*((n+1:Nat):Int)) L n)(b2:Below w1.heap.size w1 w2)
 (p:OpPost (.tuple #[]) w2 h T (put ch n L key) (n+1) e w3):CntPost w c h T mo ch L n key e w3:=by
 obtain⟨he,T',hS,hN,hT⟩:=p;have hsz:=t1.size;have hsz2:=b2.size;refine⟨he,T',(r1.below b2).next hS hN hT (put_fit r1.fit key),λk hk=>(hN k hk).imp id (λh=>by omega),(t1.trans (Turn.of_below (S:=T) b2) (λ_ _ h=>Or.inr h)).trans hT (λ_ _ h=>Or.inr h)⟩
set_option maxHeartbeats 2000000 in
set_option maxRecDepth 100000 in
theorem countC(w:World)(c h:Nat)(T:Nat->Prop)(mo:Nat)(ch:Bool)(L:List (Ent Key))(n:Nat)(key:Key)(r:Raw w c h T mo ch (sg ch*(n:Int)) L n)(hs:key.size<=maxLen)(hl:L.length<=99999)(hn:n<=9000000):
 Calls Tryz.prog 216 #[.pointer (some ⟨c,0,none⟩),.string key] w (CntPost w c h T mo ch L n key):=by
 have c2:=r.c2;have c3:=r.c3;have f2:=r.f2;have hm:=sg_mul ch n;have hg:=sg_rng ch;have he:=sg_succ ch n;have ht:=tms_rng r.fit key;have r1:=λm=>(r.mark m).below (w':=(w.setCell ⟨c,2,none⟩ (.int .i64 m)).drew) ⟨rfl,rfl,rfl,Nat.le_refl _,λ_ _=>rfl⟩;have R1:=Lib.hid r1;have T1:=Lib.hid (λu=>((Turn.refl (blk c T) w).put (p:=⟨c,2,none⟩) (Or.inl (Or.inl rfl)) u).drew);have HE:=Lib.hid he;obtain⟨t,hT⟩:∃t,t=tms L key:=⟨_,rfl⟩;have HT:=Lib.hid hT;rw[← hT] at ht;clear r r1 he hT;obtain⟨mk,hmk⟩:∃m,m=sg ch*(n:Int):=⟨_,rfl⟩;obtain⟨s,hsg⟩:∃s,s=sg ch:=⟨_,rfl⟩;have HE2:=Lib.hid (show mk+s=sg ch*((n+1:Nat):Int) by rw[hmk,hsg];exact HE.out);rw[← hmk] at c2 hm;rw[← hsg] at c3 hg;clear hmk hsg HE;go_enter Tryz.func216,Tryz.ntmps216;go_wp2_with fail
 go_region;go_wp2_with fail
 have r2:=R1.out (mk+s);have t2:=T1.out (.int .i64 (mk+s));have d1:=r2.c1;have d2:=r2.c2;clear R1 T1 c2 c3 f2;generalize(w.setCell ⟨c,2,none⟩ (.int .i64 (mk+s))).drew=w1 at*;rw[HE2.out] at r2;have R2:=Lib.hid r2;have T2:=Lib.hid t2;clear r2 t2;have TM:=Lib.hid (λ(w':World) (g:Below w1.heap.size w1 w')=>timesC w' c h T mo ch _ L n key (R2.out.below g) hs);rw[← HT.out] at TM;have EP:=Lib.hid (show put ch n L key=ins ⟨key,t+1,mk+s,n+1⟩ (rem L key) by unfold put ent;rw[HE2.out,HT.out])
 have SE:=Lib.hid (show ∀w',Below w1.heap.size w1 w'->Calls Tryz.prog 226 #[.pointer (some ⟨h,0,none⟩),.string key,.agg #[.int .i64 (t+1),.int .i64 (mk+s)]] w' (OpPost (.tuple #[]) w' h T (put ch n L key) (n+1)) from λw' g=>by
  rw[EP.out];exact set_any w' h T L n key (t+1) (mk+s) (R2.out.below g).hs hs hl hn)
 have ZE:=Lib.hid (show ∀(w2:World),Below w1.heap.size w1 w2->∀(e:Ending) (w3:World),OpPost (.tuple #[]) w2 h T (put ch n L key) (n+1) e w3->e= .returned (.tuple #[])/\CntPost w c h T mo ch L n key (.returned (.tuple #[])) w3/\w3.cell? ⟨c,1,none⟩=some (.pointer (some ⟨h,0,none⟩))/\w3.cell? ⟨c,2,none⟩=some (.int .i64 (mk+s)) from λw2 b2 e w3 hp=>by
  have cp:=cnt_end (key:=key) T2.out R2.out b2 hp;have r3:=R2.out.below b2;have he:=hp.1;subst he;obtain⟨_,T3,hS3,hN3,hT3⟩:=hp;exact⟨rfl,cp,(World.cell?_of_block (a:=⟨c,1,none⟩) (hT3.block c r3.clt r3.cT)).trans r3.c1,(World.cell?_of_block (a:=⟨c,2,none⟩) (hT3.block c r3.clt r3.cT)).trans (HE2.out▸r3.c2)⟩)
 have HW:=Lib.hid (Go.IntWalk.i64_in (t+1) (by omega));have BD:=Lib.hid (show ∀w2,Below w1.drew.heap.size w1.drew w2->Below w1.heap.size w1 w2 from λw2 hB=>⟨hB.os,hB.tape,hB.output,hB.size,hB.block⟩);have BC:=Lib.hid (show ∀w2,Below w1.heap.size w1 w2->w2.cell? ⟨c,1,none⟩=some (.pointer (some ⟨h,0,none⟩))/\w2.cell? ⟨c,2,none⟩=some (.int .i64 (mk+s)) from λw2 hB=>⟨(hB.cell (p:=⟨c,1,none⟩) (cell_lt d1)).trans d1,(hB.cell (p:=⟨c,2,none⟩) (cell_lt d2)).trans d2⟩)
 go_region_held3(λw'=>w'.cell? ⟨c,1,none⟩=some (.pointer (some ⟨h,0,none⟩))/\w'.cell? ⟨c,2,none⟩=some (.int .i64 (mk+s))) (first|(exact⟨‹_›,‹_›⟩)|go_keep)
  (first
    |(go_at_call 227;refine(TM.out w1.drew ⟨rfl,rfl,rfl,Nat.le_refl _,λ_ _=>rfl⟩).mono ?_;rintro e w2 ⟨rfl,hB⟩;have B2:=Lib.hid (BD.out w2 hB);have z1:=(BC.out w2 B2.out).1;have z2:=(BC.out w2 B2.out).2;clear hB)
    |(go_at_call 226;rw[HW.out];refine(SE.out w2 B2.out).mono ?_;intro e w3 hp;obtain⟨rfl,cp,z3,z4⟩:=ZE.out w2 B2.out e w3 hp;have CP:=Lib.hid cp;clear hp cp))
 go_wp2_with fail
 go_end0;exact CP.out
end Go.Proofs.YtdmmciggopmglaaGreatDoor.LF
namespace Go.Proofs.YtdmmciggopmglaaGreatDoor.LF
open Go.RowKit Ht HS Lf
def Box(w:World)(sb:Nat)(h:Bool)(s:ByteArray)(o:Bool):Prop:=w.heap[sb]?=some (.cells #[.bool h,.string s,.bool o] 41 (0,0))
section
variable{w:World}{sb:Nat}{h o:Bool}{s:ByteArray}
theorem Box.set(k:Box w sb h s o)(x:ByteArray):Box ((w.setCell ⟨sb,1,none⟩ (.string x)).setCell ⟨sb,2,none⟩ (.bool true)) sb h x true:=by
 unfold Box at*;have r1:(w.setCell ⟨sb,1,none⟩ (.string x)).heap[sb]?=some (.cells #[.bool h,.string x,.bool o] 41 (0,0)):=by rw[heap_setCell_same _ _ _ _ _ _ k];rfl
 rw[heap_setCell_same _ _ _ _ _ _ r1];rfl
theorem Box.cells(k:Box w sb h s o):w.cell? ⟨sb,0,none⟩=some (.bool h)/\w.cell? ⟨sb,1,none⟩=some (.string s)/\w.cell? ⟨sb,2,none⟩=some (.bool o)/\w.frozen? ⟨sb,1,none⟩=false/\w.frozen? ⟨sb,2,none⟩=false:=
 ⟨cell_of_row w _ 0 _ _ _ k,cell_of_row w _ 1 _ _ _ k,cell_of_row w _ 2 _ _ _ k,frozen_of_row w _ 1 _ _ k,frozen_of_row w _ 2 _ _ k⟩
theorem Box.lt(k:Box w sb h s o):sb < w.heap.size:=(Array.getElem?_eq_some_iff.1 k).1
theorem Box.put(k:Box w sb h s o)(h' o':Bool)(s':ByteArray):Box (((w.setCell ⟨sb,0,none⟩ (.bool h')).setCell ⟨sb,1,none⟩ (.string s')).setCell ⟨sb,2,none⟩ (.bool o')) sb h' s' o':=by
 unfold Box at*;have r1:(w.setCell ⟨sb,0,none⟩ (.bool h')).heap[sb]?=some (.cells #[.bool h',.string s,.bool o] 41 (0,0)):=by rw[heap_setCell_same _ _ _ _ _ _ k];rfl
 have r2:((w.setCell ⟨sb,0,none⟩ (.bool h')).setCell ⟨sb,1,none⟩ (.string s')).heap[sb]?=some (.cells #[.bool h',.string s',.bool o] 41 (0,0)):=by rw[heap_setCell_same _ _ _ _ _ _ r1];rfl
 rw[heap_setCell_same _ _ _ _ _ _ r2];rfl
theorem load_step(k:Box w sb h s o):(loadVar 41 ⟨sb,0,none⟩).run Tryz.prog w= .ok (.agg #[.bool h,.string s,.bool o]) w:=by
 obtain⟨k0,k1,k2,_,_⟩:=k.cells;unfold loadVar;go_simp
end
theorem results_c{fn:Func}{a:Tmp}{ty:TypeId}(h:fn.results= #[.cell a ty])(tmps:Array Value)(P:Program)(w:World)(p:Addr)(v:Value)(ha:tmps.getD a undef= .pointer (some p))(hv:(loadVar ty p).run P w= .ok v w):
 (results fn tmps).run P w= .ok v w:=by
 rw[Array.getD_eq_getD_getElem?] at ha;simp[results,h,ha,asAddr,hv]
theorem cloQ(w:World)(sb:Nat)(h o:Bool)(s x:ByteArray)(k:Box w sb h s o):
 Calls Tryz.prog 223 #[.string x,.pointer (some ⟨sb,0,none⟩)] w (λe w'=>e= .returned (.tuple #[])/\Box w' sb h x true/\Turn (λk=>k=sb) w w'):=by
 obtain⟨k0,k1,k2,f1,f2⟩:=k.cells;have R:=Lib.hid (k.set x);clear k;go_enter Tryz.func223,Tryz.ntmps223;go_wp2_with fail
 go_end0;exact⟨rfl,R.out,((Turn.refl (λk=>k=sb) w).put (p:=⟨sb,1,none⟩) (Or.inl rfl) _).put (p:=⟨sb,2,none⟩) (Or.inl rfl) _⟩
theorem cutQ_none(w:World)(c h:Nat)(T:Nat->Prop)(mo:Nat)(ch:Bool)(mk:Int)(L:List (Ent Key))(n:Nat)(m:Nat)(f:Value)(r:Raw w c h T mo ch mk L n)(hn:L.length<=m):
 Calls Tryz.prog 222 #[.pointer (some ⟨c,0,none⟩),.int .i64 (m:Int),f] w (λe w'=>e= .returned (.tuple #[])/\w=w'):=by
 have U:=Lib.hid (lenC w c h T mo ch mk L n r);have e0:decide (m < L.length)=false:=by simp;omega
 clear r;go_enter Tryz.func222,Tryz.ntmps222;go_wp2_with fail
 go_loopg [] 0 (λk W=>W=w)
 case atStart=>rfl
 case round=>
  obtain rfl:=hrel;go_wp2_with fail
  refine U.out.mono ?_;rintro e w1 ⟨rfl,rfl⟩;go_wp2_with fail
  go_end0;exact⟨rfl,rfl⟩
def QRel(w:World)(c h:Nat)(T:Nat->Prop)(mo:Nat)(ch:Bool)(mk:Int)(x:Ent Key)(L:List (Ent Key))(n sb:Nat)(hb o:Bool)(s:ByteArray)(k:Nat)(W:World):Prop:=
 ∃T',(∀k,T' k->T k\/w.heap.size<=k)/\Turn (λk=>T k\/k=sb) w W/\¬T' sb/\((k=1/\Raw W c h T' mo ch mk (x::L) n/\Box W sb hb s o)\/(k=0/\Raw W c h T' mo ch mk L n/\Box W sb hb x.key true))
theorem box_ne{w:World}{c h:Nat}{T:Nat->Prop}{mo:Nat}{ch:Bool}{mk:Int}{L:List (Ent Key)}{n sb:Nat}{hb o:Bool}{s:ByteArray}(r:Raw w c h T mo ch mk L n)(k:Box w sb hb s o):c≠sb:=cells_ne r.box k (by decide)
theorem cutQ_one(w:World)(c h:Nat)(T:Nat->Prop)(mo:Nat)(ch:Bool)(mk:Int)(x:Ent Key)(L:List (Ent Key))(n sb:Nat)(hb o:Bool)(s:ByteArray)(r:Raw w c h T mo ch mk (x::L) n)(hs:¬T sb)(hB:Box w sb hb s o):
 Calls Tryz.prog 222 #[.pointer (some ⟨c,0,none⟩),.int .i64 (L.length:Int),.func (.func 223) #[] #[.pointer (some ⟨sb,0,none⟩)]] w (λe w'=>e= .returned (.tuple #[])/\QRel w c h T mo ch mk x L n sb hb o s 0 w'):=by
 have HH:=Lib.hid r;have HS:=Lib.hid hs;have HB:=Lib.hid hB;clear r hs hB;go_enter Tryz.func222,Tryz.ntmps222;go_wp2_with fail
 go_loopg [] 1 (λk W=>QRel w c h T mo ch mk x L n sb hb o s k W)
 case atStart=>exact⟨T,λ_ h=>Or.inl h,Turn.refl _ _,HS.out,Or.inl ⟨rfl,HH.out,HB.out⟩⟩
 case round=>
  obtain⟨T',hN,hT,hn,hrel|hrel⟩:=hrel
  . obtain⟨rfl,hR,hB⟩:=hrel;have U1:=lenC wr c h T' mo ch mk _ n hR;rw[List.length_cons] at U1;have U1:=Lib.hid U1;have U2:=Lib.hid (show Calls Tryz.prog 207 #[.pointer (some ⟨c,0,none⟩)] wr (OpR (.tuple #[.string x.key,.bool true]) wr c h T' mo ch mk L n) from dropC wr c h T' mo ch mk _ n hR);have H1:=Lib.hid hN;have H2:=Lib.hid hT;have H3:=Lib.hid hn;have H4:=Lib.hid hB;have H5:=Lib.hid hR;have hlen:=hR.len;rw[List.length_cons] at hlen;have e0:decide (L.length < L.length+1)=true:=by simp
    clear hN hT hn hB hR;go_wp2_with fail
    refine U1.out.mono ?_;rintro e wr ⟨rfl,rfl⟩;go_wp2_with fail
    refine U2.out.mono ?_;rintro e w2 ⟨rfl,T2,hR,hN,hT⟩
    have N2:¬T2 sb:=λhk=>by
     rcases hN sb hk with h|h
     . exact H3.out h
     . have:=H4.out.lt;omega
    have B2:Box w2 sb hb s o:=(hT.block sb H4.out.lt H3.out).trans H4.out;have H6:=Lib.hid hN;have H7:=Lib.hid hR;have H8:=Lib.hid hT;have H9:=Lib.hid N2;have U3:=Lib.hid (cloQ w2 sb hb o s x.key B2);clear hN hR hT N2 B2 U1 U2;go_wp2_with fail
    refine U3.out.mono ?_;rintro e w3 ⟨rfl,hB3,hT3⟩
    have R3:=Lib.hid (show QRel w c h T mo ch mk x L n sb hb o s 0 w3 by
     have hsz:=H2.out.size
     have t12:Turn (λk=>T k\/k=sb) w w2:=H2.out.trans H8.out (λk hk hS=>by
      rcases H1.out k hS with h|h
      . exact Or.inl h
      . omega)
     refine⟨T2,?_,t12.trans hT3 (λk _ e=>Or.inr e),H9.out,Or.inr ⟨rfl,?_,hB3⟩⟩
     . intro k hk;rcases H6.out k hk with h|h
       . exact H1.out k h
       . exact Or.inr (by omega)
     . have hR:=H7.out;have hne:=box_ne H5.out H4.out
       exact hR.keep λk hk=>hT3.block k (hR.lt hk) (λe=>by
        rcases hk with hk|hk
        . exact hne (hk▸e)
        . exact H9.out (by have e:k=sb:=e;exact e▸hk)))
    clear hB3 hT3;go_wp2_with fail
    go_roundg 0
    case measure=>omega
    case rel=>exact R3.out
  . obtain⟨rfl,hR,hB⟩:=hrel;have U1:=Lib.hid (lenC wr c h T' mo ch mk _ n hR);have R3:=Lib.hid (show QRel w c h T mo ch mk x L n sb hb o s 0 wr from⟨T',hN,hT,hn,Or.inr ⟨rfl,hR,hB⟩⟩);have e0:decide (L.length < L.length)=false:=by simp
    clear hN hT hn hB hR;go_wp2_with fail
    refine U1.out.mono ?_;rintro e wr ⟨rfl,rfl⟩;go_wp2_with fail
    go_end0;exact⟨rfl,R3.out⟩
abbrev zStep:Obj:= .cells #[.bool false,.string ⟨#[]⟩,.bool false] 41
structure Mid(w W:World)(c h:Nat)(T T':Nat->Prop)(mo:Nat)(ch:Bool)(L:List (Ent Key))(n rb sb:Nat)(hh o:Bool)(s:ByteArray):Prop where
 raw:Raw W c h T' mo ch (sg ch*(n:Int)) L n
 res:Box W rb false ⟨#[]⟩ false
 step:Box W sb hh s o
 turn:Turn (blk c T) w W
 new:∀k,T' k->T k\/w.heap.size<=k
 rbT:¬T' rb
 sbT:¬T' sb
 ne:rb≠sb
 rb0:w.heap.size<=rb
 sb0:w.heap.size<=sb
section
variable{w w1 W W':World}{c h mo n rb sb:Nat}{T T':Nat->Prop}{ch:Bool}{L:List (Ent Key)}{hh o:Bool}{s:ByteArray}
theorem Mid.start(r:Raw w c h T mo ch (sg ch*(n:Int)) L n)(hb:Below (w.alloc zStep).heap.size (w.alloc zStep) w1)(hh:Bool):
 Mid w (w1.alloc (.cells #[.bool hh,.string ⟨#[]⟩,.bool false] 41)) c h T T mo ch L n w.heap.size w1.heap.size hh false ⟨#[]⟩:=by
 have s1:(w.alloc zStep).heap.size=w.heap.size+1:=by simp
 have s2:=hb.size;have b1:=(Below.refl w.heap.size w).alloc (Nat.le_refl _) zStep;have b2:Below w.heap.size w w1:=b1.trans (hb.mono (by omega));have b3:=b2.alloc (by omega) (.cells #[.bool hh,.string ⟨#[]⟩,.bool false] 41);have rlt:∀k,T k->k < w.heap.size:=λk hk=>r.hs.lt hk;refine⟨r.below b3,?_,heap_alloc_new _ _,Turn.of_below b3,λk hk=>Or.inl hk,λhk=>?_,λhk=>?_,by omega,Nat.le_refl _,by omega⟩
 . exact(Below.heap_alloc _ _ _ (by omega)).trans ((hb.block w.heap.size (by omega)).trans (heap_alloc_new _ _))
 . have:=rlt _ hk;omega
 . have:=rlt _ hk;omega
theorem Mid.count(m:Mid w W c h T T' mo ch L n rb sb hh o s){key:Key}{e:Ending}(hp:CntPost W c h T' mo ch L n key e W'):
 e= .returned (.tuple #[])/\∃T2,Mid w W' c h T T2 mo ch (put ch n L key) (n+1) rb sb hh o s:=by
 obtain⟨he,T2,hR,hN,hT⟩:=hp;have hsz:=m.turn.size;have n1:=box_ne m.raw m.res;have n2:=box_ne m.raw m.step;have q:∀k,k < W.heap.size->c≠k->¬T' k->W'.heap[k]?=W.heap[k]?:=λk hk h1 h2=>hT.block k hk (λe=>by rcases e with e|e;exact h1 e.symm;exact h2 e)
 refine⟨he,T2,hR,(q _ m.res.lt n1 m.rbT).trans m.res,(q _ m.step.lt n2 m.sbT).trans m.step,m.turn.trans hT (λk hk hS=>?_),λk hk=>?_,λhk=>?_,λhk=>?_,m.ne,m.rb0,m.sb0⟩
 . rcases hS with h|h
   . exact Or.inl h
   . rcases m.new k h with h|h
     . exact Or.inr h
     . omega
 . rcases hN k hk with h|h
   . exact m.new k h
   . exact Or.inr (by omega)
 . rcases hN _ hk with h|h
   . exact m.rbT h
   . have:=m.res.lt;omega
 . rcases hN _ hk with h|h
   . exact m.sbT h
   . have:=m.step.lt;omega
theorem Mid.cut{x:Ent Key}(m:Mid w W c h T T' mo ch (x::L) n rb sb hh o s)(q:QRel W c h T' mo ch (sg ch*(n:Int)) x L n sb hh o s 0 W'):
 ∃T2,Mid w W' c h T T2 mo ch L n rb sb hh true x.key:=by
 obtain⟨T2,hN,hT,hn,⟨h0,_⟩|⟨_,hR2,hB2⟩⟩:=q
 . omega
 have hsz:=m.turn.size;refine⟨T2,hR2,(hT.block _ m.res.lt (λe=>by rcases e with e|e;exact m.rbT e;exact m.ne e)).trans m.res,hB2,m.turn.trans hT (λk hk hS=>?_),λk hk=>?_,λhk=>?_,hn,m.ne,m.rb0,m.sb0⟩
 . rcases hS with h|h
   . rcases m.new k h with h|h
     . exact Or.inr h
     . omega
   . have:=m.sb0;omega
 . rcases hN k hk with h|h
   . exact m.new k h
   . exact Or.inr (by omega)
 . rcases hN _ hk with h|h
   . exact m.rbT h
   . have:=m.res.lt;omega
theorem Mid.out(m:Mid w W c h T T' mo ch L n rb sb hh o s)(hl:L.length<=mo):
 Box (((W.setCell ⟨rb,0,none⟩ (.bool hh)).setCell ⟨rb,1,none⟩ (.string s)).setCell ⟨rb,2,none⟩ (.bool o)) rb hh s o/\
 CaPost (.agg #[.bool hh,.string s,.bool o]) w c (blk c T) mo ch L n (.returned (.agg #[.bool hh,.string s,.bool o])) (((W.setCell ⟨rb,0,none⟩ (.bool hh)).setCell ⟨rb,1,none⟩ (.string s)).setCell ⟨rb,2,none⟩ (.bool o)):=by
 have n1:=box_ne m.raw m.res;refine⟨m.res.put hh o s,rfl,_,⟨h,T',rfl,m.raw.keep λk hk=>?_,hl⟩,blk_next m.new,((m.turn.put (p:=⟨rb,0,none⟩) (Or.inr m.rb0) _).put (p:=⟨rb,1,none⟩) (Or.inr m.rb0) _).put (p:=⟨rb,2,none⟩) (Or.inr m.rb0) _⟩
 have hne:k≠rb:=λe=>by
  subst e;rcases hk with h|h
  . exact n1 h.symm
  . exact m.rbT h
 rw[Below.heap_setCell _ _ _ _ hne,Below.heap_setCell _ _ _ _ hne,Below.heap_setCell _ _ _ _ hne]
end
theorem req_zero(w:World)(c h:Nat)(T:Nat->Prop)(ch:Bool)(L:List (Ent Key))(n:Nat)(key:Key)(r:Raw w c h T 0 ch (sg ch*(n:Int)) L n)(hl:L.length<=0):
 Calls Tryz.prog 213 #[.pointer (some ⟨c,0,none⟩),.string key] w (CaPost (.agg #[.bool false,.string ⟨#[]⟩,.bool false]) w c (blk c T) 0 ch L n):=by
 have clt:=r.clt;have c0:=r.c0;have hb:=(Below.refl w.heap.size w).alloc (Nat.le_refl _) zStep
 have R:=Lib.hid (show CaPost (.agg #[.bool false,.string ⟨#[]⟩,.bool false]) w c (blk c T) 0 ch L n (.returned (.agg #[.bool false,.string ⟨#[]⟩,.bool false])) (w.alloc zStep) from
  ⟨rfl,_,⟨h,T,rfl,r.below hb,hl⟩,λk hk=>Or.inl hk,Turn.of_below hb⟩)
 have B:=Lib.hid (show Box (w.alloc zStep) w.heap.size false ⟨#[]⟩ false from heap_alloc_new _ _);clear r hb;go_enter Tryz.func213,Tryz.ntmps213;go_wp2_with fail
 refine bodyPost_ret (results_c rfl _ _ _ ⟨w.heap.size,0,none⟩ _ rfl (load_step B.out)) rfl ?_;exact R.out
set_option maxHeartbeats 1000000 in
theorem req_hit(w:World)(c h:Nat)(T:Nat->Prop)(mo:Nat)(ch:Bool)(L:List (Ent Key))(n:Nat)(key:Key)(r:Raw w c h T (mo+1) ch (sg ch*(n:Int)) L n)(hl:L.length<=mo+1)(hi:isIn L key=true)(hs:key.size<=maxLen)(hn:n<=9000000)(h9:L.length<=99999):
 Calls Tryz.prog 213 #[.pointer (some ⟨c,0,none⟩),.string key] w (CaPost (.agg #[.bool true,.string ⟨#[]⟩,.bool false]) w c (blk c T) (mo+1) ch (put ch n L key) (n+1)):=by
 have clt:=r.clt;have c0:=r.c0;have ht:=r.top;have U:=hasC _ c h T _ ch _ L n key (r.below ((Below.refl w.heap.size w).alloc (Nat.le_refl _) zStep)) hs;rw[hi] at U;have U:=Lib.hid U;have HH:=Lib.hid r;have HF:=Lib.hid (show(put ch n L key).length<=mo+1 by rw[put_len];have:=Lf.rem_len r.hs.once hi;omega);clear r;go_enter Tryz.func213,Tryz.ntmps213;go_wp2_with fail
 refine U.out.mono ?_;rintro e w1 ⟨rfl,hb⟩;have m0:=Mid.start HH.out hb true;have M0:=Lib.hid m0;have U2:=Lib.hid (countC _ c h T _ ch L n key m0.raw hs h9 hn);clear hb m0 U;go_wp2_with fail
 refine U2.out.mono ?_;intro e w2 hp;obtain⟨rfl,T2,M2⟩:=M0.out.count hp;have F:=Lib.hid (M2.out HF.out);obtain⟨k0,k1,k2,f1,f2⟩:=M2.step.cells;obtain⟨r0,r1,r2,g1,g2⟩:=M2.res.cells;have g0:w2.frozen? ⟨w.heap.size,0,none⟩=false:=frozen_of_row w2 _ 0 _ _ M2.res;have hne:=M2.ne;clear hp M0 U2 M2;go_wp2_with fail
 refine bodyPost_ret (results_c rfl _ _ _ ⟨w.heap.size,0,none⟩ _ rfl (load_step F.out.1)) rfl ?_;exact F.out.2
set_option maxHeartbeats 1000000 in
theorem req_room(w:World)(c h:Nat)(T:Nat->Prop)(mo:Nat)(ch:Bool)(L:List (Ent Key))(n:Nat)(key:Key)(r:Raw w c h T (mo+1) ch (sg ch*(n:Int)) L n)(hl:L.length<=mo)(hi:isIn L key=false)(hs:key.size<=maxLen)(hn:n<=9000000)(h9:L.length<=99999):
 Calls Tryz.prog 213 #[.pointer (some ⟨c,0,none⟩),.string key] w (CaPost (.agg #[.bool false,.string ⟨#[]⟩,.bool false]) w c (blk c T) (mo+1) ch (put ch n L key) (n+1)):=by
 have clt:=r.clt;have c0:=r.c0;have ht:=r.top;have U:=hasC _ c h T _ ch _ L n key (r.below ((Below.refl w.heap.size w).alloc (Nat.le_refl _) zStep)) hs;rw[hi] at U;have U:=Lib.hid U;have HH:=Lib.hid r;have HF:=Lib.hid (show(put ch n L key).length<=mo+1 by rw[put_len];have:=Lf.rem_le L key;omega);clear r;go_enter Tryz.func213,Tryz.ntmps213;go_wp2_with fail
 refine U.out.mono ?_;rintro e w1 ⟨rfl,hb⟩;have m0:=Mid.start HH.out hb false;have M0:=Lib.hid m0;have d0:=m0.raw.c0;have V:=Lib.hid (λf=>cutQ_none _ c h T _ ch _ L n mo f m0.raw hl);have U2:=Lib.hid (countC _ c h T _ ch L n key m0.raw hs h9 hn);clear hb m0 U;go_wp2_with fail
 refine(V.out _).mono ?_;rintro e w1 ⟨rfl,rfl⟩;go_wp2_with fail
 refine U2.out.mono ?_;intro e w2 hp;obtain⟨rfl,T2,M2⟩:=M0.out.count hp;have F:=Lib.hid (M2.out HF.out);obtain⟨k0,k1,k2,f1,f2⟩:=M2.step.cells;obtain⟨r0,r1,r2,g1,g2⟩:=M2.res.cells;have g0:w2.frozen? ⟨w.heap.size,0,none⟩=false:=frozen_of_row w2 _ 0 _ _ M2.res;have hne:=M2.ne;clear hp M0 U2 M2;go_wp2_with fail
 refine bodyPost_ret (results_c rfl _ _ _ ⟨w.heap.size,0,none⟩ _ rfl (load_step F.out.1)) rfl ?_;exact F.out.2
set_option maxHeartbeats 1000000 in
theorem req_full(w:World)(c h:Nat)(T:Nat->Prop)(ch:Bool)(x:Ent Key)(L:List (Ent Key))(n:Nat)(key:Key)(r:Raw w c h T (L.length+1) ch (sg ch*(n:Int)) (x::L) n)(hi:isIn (x::L) key=false)(hs:key.size<=maxLen)(hn:n<=9000000):
 Calls Tryz.prog 213 #[.pointer (some ⟨c,0,none⟩),.string key] w (CaPost (.agg #[.bool false,.string x.key,.bool true]) w c (blk c T) (L.length+1) ch (put ch n L key) (n+1)):=by
 have clt:=r.clt;have c0:=r.c0;have ht:=r.top;have h9:L.length<=99999:=by have:=r.len;rw[List.length_cons] at this;omega
 have U:=hasC _ c h T _ ch _ (x::L) n key (r.below ((Below.refl w.heap.size w).alloc (Nat.le_refl _) zStep)) hs;rw[hi] at U;have U:=Lib.hid U;have HH:=Lib.hid r;have HF:=Lib.hid (show(put ch n L key).length<=L.length+1 by rw[put_len];have:=Lf.rem_le L key;omega);clear r;go_enter Tryz.func213,Tryz.ntmps213;go_wp2_with fail
 refine U.out.mono ?_;rintro e w1 ⟨rfl,hb⟩;have m0:=Mid.start HH.out hb false;have M0:=Lib.hid m0;have d0:=m0.raw.c0;have V:=Lib.hid (cutQ_one _ c h T _ ch _ x L n w1.heap.size _ _ _ m0.raw m0.sbT m0.step);clear hb m0 U;go_wp2_with fail
 refine V.out.mono ?_;rintro e w2 ⟨rfl,hq⟩;obtain⟨T2,m2⟩:=M0.out.cut hq;have U2:=Lib.hid (countC _ c h T2 _ ch L n key m2.raw hs h9 hn);have M2:=Lib.hid m2;clear hq M0 m2 V c0 d0;go_wp2_with fail
 refine U2.out.mono ?_;intro e w3 hp;obtain⟨rfl,T3,M3⟩:=M2.out.count hp;have F:=Lib.hid (M3.out HF.out);obtain⟨k0,k1,k2,f1,f2⟩:=M3.step.cells;obtain⟨r0,r1,r2,g1,g2⟩:=M3.res.cells;have g0:w3.frozen? ⟨w.heap.size,0,none⟩=false:=frozen_of_row w3 _ 0 _ _ M3.res;have hne:=M3.ne;clear hp M2 U2 M3;go_wp2_with fail
 refine bodyPost_ret (results_c rfl _ _ _ ⟨w.heap.size,0,none⟩ _ rfl (load_step F.out.1)) rfl ?_;exact F.out.2
theorem request_ca(w:World)(c:Nat)(S:Nat->Prop)(mo:Nat)(ch:Bool)(L:List (Ent Key))(n:Nat)(key:Key)(a:Ca w c S mo ch L n)(hs:key.size<=maxLen)(hn:n<=97500):
 Calls Tryz.prog 213 #[.pointer (some ⟨c,0,none⟩),.string key] w (CaPost (stepV mo L key) w c S mo ch (reqL ch mo n L key) (reqN mo n)):=by
 have h9:L.length<=99999:=by have:=once_len a.once;omega
 obtain⟨h,T,rfl,hR,hl⟩:=a;cases mo with
 |zero=>exact req_zero w c h T ch L n key hR hl
 |succ mo=>
  have en:reqN (mo+1) n=n+1:=by simp[reqN]
  rw[en];cases hi:isIn L key with
  |true=>
   have e1:stepV (mo+1) L key= .agg #[.bool true,.string ⟨#[]⟩,.bool false]:=by simp[stepV,hitB,vicK,outB,hi]
   have e2:reqL ch (mo+1) n L key=put ch n L key:=by simp[reqL,hi]
   rw[e1,e2];exact req_hit w c h T mo ch L n key hR hl hi hs (by omega) h9
  |false=>
   by_cases hf:L.length<=mo
   . have e1:stepV (mo+1) L key= .agg #[.bool false,.string ⟨#[]⟩,.bool false]:=by
      have:¬(mo+1<=L.length):=by omega
      simp[stepV,hitB,vicK,outB,hi,this]
     have e2:reqL ch (mo+1) n L key=put ch n L key:=by
      simp only[reqL,hi,show L.length+1 - (mo+1)=0 by omega,List.drop_zero];simp
     rw[e1,e2];exact req_room w c h T mo ch L n key hR hf hi hs (by omega) h9
   . cases L with
     |nil=>simp at hf
     |cons x L=>
      obtain rfl:mo=L.length:=by rw[List.length_cons] at hf hl;omega
      have e1:stepV (L.length+1) (x::L) key= .agg #[.bool false,.string x.key,.bool true]:=by simp[stepV,hitB,vicK,outB,hi,hdK]
      have e2:reqL ch (L.length+1) n (x::L) key=put ch n L key:=by
       simp only[reqL,hi,List.length_cons,show L.length+1+1 - (L.length+1)=1 by omega,List.drop_succ_cons,List.drop_zero];simp
      rw[e1,e2];exact req_full w c h T ch x L n key hR hi hs (by omega)
end Go.Proofs.YtdmmciggopmglaaGreatDoor.LF
namespace Go.Proofs.YtdmmciggopmglaaGreatDoor.LF
open Go.RowKit Ht HS Lf
theorem take_snoc{α:Type}(xs:List α)(k:Nat)(d:α)(h:k < xs.length):xs.take (k+1)=xs.take k++ [xs.getD k d]:=by
 rw[List.take_succ_eq_append_getElem h,List.getD_eq_getElem?_getD,List.getElem?_eq_getElem h];rfl
theorem Own.nil(w:World)(base:Nat):Own w base (.slice none 0 0) []:=⟨⟨rfl,Or.inl ⟨rfl,rfl⟩⟩,by simp,by simp⟩
theorem app_at{w:World}{base:Nat}{v:Value}{xs:List ByteArray}(h:Own w base v xs)(x:ByteArray)(hx:x.size<=maxLen)(hl:xs.length<=199999)(hb:base<=w.heap.size):
 ∃(A:Option Addr) (cap:Nat) (w2:World),(Builtin.append_ #[23,23] 23 #[v,.slice (some ⟨w.heap.size,0,none⟩) 1 1]).run Tryz.prog (w.alloc (.cells #[.string x] 9))= .ok (.slice A (xs.length+1) cap) w2/\
  Own w2 base (.slice A (xs.length+1) cap) (xs++ [x])/\w.grownBy w2 v.ownBlock/\(∀g,(Value.slice A (xs.length+1) cap).ownBlock=some g->v.ownBlock=some g\/w.heap.size<=g):=by
 obtain⟨i0,hi,hz0,hz1,hz2⟩:=info_parts infoK
 obtain⟨v',w2,hrun,hown2,hg,hnil,hloc⟩:=run_append_own_at (P:=Tryz.prog) (w.alloc (.cells #[.string x] 9)) base 23 23 9 i0 _ 1 16
  Tryz.underlying23 hi hz0 hz1 hz2 rfl (by decide) _ _ _ (h.1.alloc _) ⟨w.heap.size,0,none⟩ 1 1 [.string x] rfl (cell_one_new _ _ _) (by simp[Value.oneCell']) (by unfold maxLen;omega) (by omega) (by simp;omega)
 have hown3:=hown2;rcases hown2.2 with⟨_,h0⟩|⟨g,cap,cur,rfl,_⟩
 . omega
 refine⟨_,cap,w2,hrun,⟨?_,by rw[List.length_append];simp only[List.length_cons,List.length_nil];omega,λy hy=>?_⟩,(World.grownBy_alloc w _ _).trans hg,λg' hg'=>?_⟩
 . rw[List.map_append,List.length_append];exact hown3
 . rcases List.mem_append.1 hy with h1|h1
   . exact h.2.2 y h1
   . rw[List.mem_singleton.1 h1];exact hx
 . rcases hloc with h1|h1
   . exact Or.inl (h1▸hg')
   . rw[h1] at hg';injection hg' with hg'
     rw[show(w.alloc (.cells #[.string x] 9)).heap.size=w.heap.size+1 by simp] at hg';exact Or.inr (by omega)
def GBox(w:World)(gb:Nat)(v:Value):Prop:=w.heap[gb]?=some (.cells #[v] 23 (0,0))
theorem GBox.lt{w:World}{gb:Nat}{v:Value}(k:GBox w gb v):gb < w.heap.size:=(Array.getElem?_eq_some_iff.1 k).1
theorem GBox.put{w:World}{gb:Nat}{v:Value}(k:GBox w gb v)(u:Value):GBox (w.setCell ⟨gb,0,none⟩ u) gb u:=by
 unfold GBox at*;rw[heap_setCell_same _ _ _ _ _ _ k];rfl
theorem cloR(w:World)(gb base:Nat)(v:Value)(ts:List ByteArray)(x:ByteArray)(k:GBox w gb v)(o:Own w base v ts)(hl:ts.length<=199999)(hx:x.size<=maxLen)(hb:base<=w.heap.size)(hne:v.ownBlock≠some gb):
 Calls Tryz.prog 224 #[.string x,.pointer (some ⟨gb,0,none⟩)] w (λe w'=>e= .returned (.tuple #[])/\∃v',GBox w' gb v'/\Own w' base v' (ts++ [x])/\(∀g,v'.ownBlock=some g->v.ownBlock=some g\/w.heap.size<=g)/\Turn (λk=>k=gb\/v.ownBlock=some k) w w'):=by
 obtain⟨A2,cap,w2,hrun,hown,hg,hloc⟩:=app_at o x hx hl hb;obtain⟨A1,c1,rfl⟩:=o.len;have hgb:=k.lt;have k1:w.cell? ⟨gb,0,none⟩=some (.slice A1 ts.length c1):=cell_of_row w _ 0 _ _ _ k;have k2:GBox w2 gb (.slice A1 ts.length c1):=(hg.block gb hgb (λe=>hne e.symm)).trans k;have k3:w2.cell? ⟨gb,0,none⟩=some (.slice A1 ts.length c1):=cell_of_row w2 _ 0 _ _ _ k2;have k4:w2.frozen? ⟨gb,0,none⟩=false:=frozen_of_row w2 _ 0 _ _ k2;have HRUN:=Lib.hid hrun
 have R:=Lib.hid (show ∃v',GBox (w2.setCell ⟨gb,0,none⟩ (.slice A2 (ts.length+1) cap)) gb v'/\Own (w2.setCell ⟨gb,0,none⟩ (.slice A2 (ts.length+1) cap)) base v' (ts++ [x])/\(∀g,v'.ownBlock=some g->(Value.slice A1 ts.length c1).ownBlock=some g\/w.heap.size<=g)/\Turn (λk=>k=gb\/(Value.slice A1 ts.length c1).ownBlock=some k) w (w2.setCell ⟨gb,0,none⟩ (.slice A2 (ts.length+1) cap)) by
  refine⟨_,k2.put _,hown.same (λg hg'=>?_),hloc,?_⟩
  . refine Below.heap_setCell _ _ _ _ (λe=>?_);have e:g=gb:=e;subst e;rcases hloc g hg' with h|h
    . exact hne h
    . omega
  . have t1:Turn (λk=>k=gb\/(Value.slice A1 ts.length c1).ownBlock=some k) w w2:=⟨hg.os,hg.tape,hg.output,hg.size,λi hi h1=>hg.block i hi (λe=>h1 (Or.inr e.symm))⟩;exact t1.put (p:=⟨gb,0,none⟩) (Or.inl (Or.inl rfl)) _)
 clear hrun hown hg hloc k k2 o hne;go_enter Tryz.func224,Tryz.ntmps224;go_wp2_with(at_builtin;refine wpList_append_run rfl _ _ _ rfl _ _ _ _ rfl rfl HRUN.out ?_)
 go_end0;exact⟨rfl,R.out⟩
structure RAt(w:World)(c h:Nat)(T:Nat->Prop)(mo:Nat)(ch:Bool)(mk:Int)(L:List (Ent Key))(n gb base m k:Nat)(W:World)(T':Nat->Prop)(j:Nat)(v:Value):Prop where
 new:∀k,T' k->T k\/w.heap.size<=k
 turn:Turn (λk=>T k\/k=gb) w W
 gbn:¬T' gb
 vn:∀g,v.ownBlock=some g->¬blk c T' g/\g≠gb/\w.heap.size<=g
 cnt:j+k=L.length - m
 raw:Raw W c h T' mo ch mk (L.drop j) n
 box:GBox W gb v
 own:Own W base v ((keysL L).take j)
def RRel(w:World)(c h:Nat)(T:Nat->Prop)(mo:Nat)(ch:Bool)(mk:Int)(L:List (Ent Key))(n gb base m k:Nat)(W:World):Prop:=∃T' j v,RAt w c h T mo ch mk L n gb base m k W T' j v
theorem drop_some{L:List (Ent Key)}{j:Nat}(h:j < L.length):∃x,L.drop j=x::L.drop (j+1)/\x∈L/\(keysL L).getD j ⟨#[]⟩=x.key:=by
 refine⟨L[j],List.drop_eq_getElem_cons h,List.getElem_mem h,?_⟩;rw[List.getD_eq_getElem?_getD,keysL,List.getElem?_map,List.getElem?_eq_getElem h];rfl
theorem gbox_ne{w:World}{c h:Nat}{T:Nat->Prop}{mo:Nat}{ch:Bool}{mk:Int}{L:List (Ent Key)}{n gb:Nat}{v:Value}(r:Raw w c h T mo ch mk L n)(k:GBox w gb v):c≠gb:=cells_ne r.box k (by decide)
theorem RAt.next{w:World}{c h:Nat}{T:Nat->Prop}{mo:Nat}{ch:Bool}{mk:Int}{L:List (Ent Key)}{n gb base m k:Nat}{W W1 W2:World}{T' T2:Nat->Prop}{j:Nat}{v v':Value}(r:RAt w c h T mo ch mk L n gb base m (k+1) W T' j v)
 (hP:∀k,T2 k->T' k\/W.heap.size<=k) (hT:Turn T' W W1) (hR:Raw W1 c h T2 mo ch mk (L.drop (j+1)) n)
 (g1:GBox W2 gb v') (g2:Own W2 base v' ((keysL L).take j++ [(keysL L).getD j ⟨#[]⟩])) (g3:∀g,v'.ownBlock=some g->v.ownBlock=some g\/W1.heap.size<=g) (g4:Turn (λk=>k=gb\/v.ownBlock=some k) W1 W2) (hj:j < L.length):
 RAt w c h T mo ch mk L n gb base m k W2 T2 (j+1) v':=by
 have s1:=r.turn.size;have s2:=hT.size;have s3:=g4.size
 have n2:¬T2 gb:=λhk=>by
  rcases hP gb hk with h|h
  . exact r.gbn h
  . have:=r.box.lt;omega
 have hlt:∀k,blk c T2 k->k < W1.heap.size:=λk hk=>hR.lt hk;have vlt:∀g,v.ownBlock=some g->g < W.heap.size:=λg hg=>(r.own.lt hg).1
 have nv:∀g,v.ownBlock=some g->¬blk c T2 g:=λg hg hk=>by
  rcases blk_next hP g hk with h|h
  . exact(r.vn g hg).1 h
  . have:=vlt g hg;omega
 have hne:=gbox_ne r.raw r.box;refine⟨?_,?_,n2,λg hg=>?_,by have:=r.cnt;omega,?_,g1,?_⟩
 . intro k hk;rcases hP k hk with h|h
   . exact r.new k h
   . exact Or.inr (by omega)
 . have t1:=r.turn.trans hT (λk hk hS=>by
    rcases r.new k hS with h|h
    . exact Or.inl h
    . omega)
   refine t1.trans g4 (λk hk hS=>?_);rcases hS with h|h
   . exact Or.inr h
   . have:=(r.vn k h).2.2;omega
 . rcases g3 g hg with h|h
   . exact⟨nv g h,(r.vn g h).2⟩
   . refine⟨λhk=>?_,λe=>?_,by omega⟩
     . have:=hlt g hk;omega
     . have:=r.box.lt;omega
 . exact hR.keep λk hk=>g4.block k (hlt k hk) (λe=>by
    rcases e with e|e
    . subst e;rcases hk with hk|hk
      . exact hne hk.symm
      . exact n2 hk
    . exact nv k e hk)
 . rw[take_snoc (keysL L) j ⟨#[]⟩ (by rw[keysL_len];exact hj)];exact g2
theorem cutR(w:World)(c h:Nat)(T:Nat->Prop)(mo:Nat)(ch:Bool)(mk:Int)(L:List (Ent Key))(n gb base m:Nat)(r:Raw w c h T mo ch mk L n)(hs:¬T gb)(hB:GBox w gb (.slice none 0 0))(hb:base<=w.heap.size):
 Calls Tryz.prog 222 #[.pointer (some ⟨c,0,none⟩),.int .i64 (m:Int),.func (.func 224) #[] #[.pointer (some ⟨gb,0,none⟩)]] w (λe w'=>e= .returned (.tuple #[])/\RRel w c h T mo ch mk L n gb base m 0 w'):=by
 have R0:=Lib.hid (show RRel w c h T mo ch mk L n gb base m (L.length - m) w from⟨T,0,_,λ_ h=>Or.inl h,Turn.refl _ _,hs,λg hg=>(by cases hg),by omega,r,hB,Own.nil _ _⟩);have hks:=r.len;have HS:=Lib.hid (show ∀x∈L,x.key.size<=maxLen from r.hs.ok);clear r hs hB;go_enter Tryz.func222,Tryz.ntmps222;go_wp2_with fail
 go_loopg [] (L.length - m) (λk W=>RRel w c h T mo ch mk L n gb base m k W)
 case atStart=>exact R0.out
 case round=>
  obtain⟨T',j,v,r⟩:=hrel;have hcnt:=r.cnt;have RR:=Lib.hid r;have U1:=lenC wr c h T' mo ch mk _ n r.raw;rw[List.length_drop] at U1;obtain⟨q,hq⟩:∃q,q=L.length - j:=⟨_,rfl⟩;rw[← hq] at U1;have U1:=Lib.hid U1;have HQ:=Lib.hid hq;cases gk with
  |zero=>
   have e0:decide (m < q)=false:=by simp;omega
   clear r hcnt R0 hq;go_wp2_with fail
   refine U1.out.mono ?_;rintro e wr ⟨rfl,rfl⟩;go_wp2_with fail
   go_end0;exact⟨rfl,T',j,v,RR.out⟩
  |succ gk=>
   have e0:decide (m < q)=true:=by simp;omega
   have hj:j < L.length:=by omega
   have U2:=dropC wr c h T' mo ch mk _ n r.raw;obtain⟨x,hx,hxm,hxk⟩:=drop_some hj;rw[hx] at U2;have U2:=Lib.hid (show Calls Tryz.prog 207 #[.pointer (some ⟨c,0,none⟩)] wr (OpR (.tuple #[.string x.key,.bool true]) wr c h T' mo ch mk (L.drop (j+1)) n) from U2);have hxs:=HS.out x hxm;have HX:=Lib.hid hxk;clear r hcnt R0 hx hxm hxk hq;go_wp2_with fail
   refine U1.out.mono ?_;rintro e wr ⟨rfl,rfl⟩;go_wp2_with fail
   refine U2.out.mono ?_;rintro e w2 ⟨rfl,T2,hR,hN,hT⟩;have r:=RR.out;have s2:=hT.size;have s1:=r.turn.size;have b2:GBox w2 gb v:=(hT.block gb r.box.lt r.gbn).trans r.box;have o2:Own w2 base v ((keysL L).take j):=r.own.same (λg hg=>hT.block g (r.own.lt hg).1 (λe=>(r.vn g hg).1 (Or.inr e)));have U3:=Lib.hid (cloR w2 gb base v _ x.key b2 o2 (by rw[List.length_take];omega) hxs (by omega) (λe=>(r.vn gb e).2.1 rfl));have H1:=Lib.hid hN;have H2:=Lib.hid hR;have H3:=Lib.hid hT;clear hN hR hT b2 o2 r U1 U2;go_wp2_with fail
   refine U3.out.mono ?_;rintro e w3 ⟨rfl,v',g1,g2,g3,g4⟩;rw[← HX.out] at g2;have R3:=Lib.hid (RR.out.next H1.out H3.out H2.out g1 g2 g3 g4 hj);clear g1 g2 g3 g4 U3;go_wp2_with fail
   go_roundg gk
   case measure=>omega
   case rel=>exact⟨T2,j+1,v',R3.out⟩
def ResPost(w:World)(c:Nat)(S:Nat->Prop)(m:Nat)(ch:Bool)(L:List (Ent Key))(n:Nat)(e:Ending)(w':World):Prop:=
 ∃v S',e= .returned v/\Own w' w.heap.size v ((keysL L).take (L.length - m))/\Ca w' c S' m ch (L.drop (L.length - m)) n/\(∀k,S' k->S k\/w.heap.size<=k)/\Turn S w w'/\(∀g,v.ownBlock=some g->¬S' g)
theorem res_start{w:World}{c h:Nat}{T:Nat->Prop}{mo:Nat}{ch:Bool}{mk:Int}{L:List (Ent Key)}{n:Nat}(r:Raw w c h T mo ch mk L n)(m:Nat)(hm:m<=9223372036854775807):
 Raw ((w.setCell ⟨c,0,none⟩ (.int .i64 (m:Int))).alloc (.cells #[.slice none 0 0] 23)) c h T m ch mk L n/\¬T w.heap.size/\GBox ((w.setCell ⟨c,0,none⟩ (.int .i64 (m:Int))).alloc (.cells #[.slice none 0 0] 23)) w.heap.size (.slice none 0 0):=by
 have hsz:(w.setCell ⟨c,0,none⟩ (.int .i64 (m:Int))).heap.size=w.heap.size:=by simp[World.setCell]
 have r1:Raw (w.setCell ⟨c,0,none⟩ (.int .i64 (m:Int))) c h T m ch mk L n:=by
  refine⟨r.hs.same (λk hk=>Below.heap_setCell _ _ _ _ (λe=>r.cT (by have e:k=c:=e;exact e▸hk))),r.cT,?_,hm,r.fit⟩;rw[heap_setCell_same _ _ _ _ _ _ r.box];rfl
 refine⟨r1.below ((Below.refl _ _).alloc (Nat.le_refl _) _),λhk=>?_,?_⟩
 . have:=r.hs.lt hk;omega
 . have:=heap_alloc_new (w.setCell ⟨c,0,none⟩ (.int .i64 (m:Int))) (.cells #[.slice none 0 0] 23);rw[hsz] at this;exact this
theorem res_end{w w2:World}{c h:Nat}{T:Nat->Prop}{ch:Bool}{L:List (Ent Key)}{n m:Nat}(r:RRel ((w.setCell ⟨c,0,none⟩ (.int .i64 (m:Int))).alloc (.cells #[.slice none 0 0] 23)) c h T m ch (sg ch*(n:Int)) L n w.heap.size w.heap.size m 0 w2):
 ∃A q cp,GBox w2 w.heap.size (.slice A q cp)/\ResPost w c (blk c T) m ch L n (.returned (.slice A q cp)) w2:=by
 obtain⟨T',j,v,r⟩:=r;have hsz:((w.setCell ⟨c,0,none⟩ (.int .i64 (m:Int))).alloc (.cells #[.slice none 0 0] 23)).heap.size=w.heap.size+1:=by simp[World.setCell]
 have hj:=r.cnt;obtain rfl:j=L.length - m:=by omega
 have hown:=r.own;obtain⟨A,cp,rfl⟩:=hown.len;refine⟨A,_,cp,r.box,_,blk c T',rfl,hown,⟨h,T',rfl,r.raw,?_⟩,?_,?_,λg hg=>(r.vn g hg).1⟩
 . rw[List.length_drop];omega
 . refine blk_next λk hk=>?_;rcases r.new k hk with h|h
   . exact Or.inl h
   . exact Or.inr (by omega)
 . have t0:Turn (blk c T) w ((w.setCell ⟨c,0,none⟩ (.int .i64 (m:Int))).alloc (.cells #[.slice none 0 0] 23)):=((Turn.refl _ _).put (p:=⟨c,0,none⟩) (Or.inl (Or.inl rfl)) _).alloc _
   exact t0.trans r.turn (λk hk hS=>by
    rcases hS with h|h
    . exact Or.inr h
    . omega)
set_option maxHeartbeats 1000000 in
theorem res_neg(w:World)(c h:Nat)(T:Nat->Prop)(mo:Nat)(ch:Bool)(L:List (Ent Key))(n:Nat)(z:Int)(hz: -9223372036854775808<=z)(h0:z < 0)(r:Raw w c h T mo ch (sg ch*(n:Int)) L n):
 Calls Tryz.prog 214 #[.pointer (some ⟨c,0,none⟩),.int .i64 z] w (ResPost w c (blk c T) 0 ch L n):=by
 have c0:=r.c0;have f0:=r.f0;have clt:=r.clt;obtain⟨r1,r2,r3⟩:=res_start r 0 (by omega);have c1:=r1.c0;have U:=cutR _ c h T 0 ch _ L n w.heap.size w.heap.size 0 r1 r2 r3 (by simp[World.setCell]);simp only[Int.natCast_zero] at U c1;have HM:=Lib.hid (show max z 0=0 by omega);have U:=Lib.hid U;clear r r1 r2 r3;go_enter Tryz.func214,Tryz.ntmps214;go_wp2_with fail
 rw[HM.out];refine U.out.mono ?_;rintro e w2 ⟨rfl,hr⟩;obtain⟨A,q,cp,hg,hp⟩:=res_end (m:=0) hr;have k1:w2.cell? ⟨w.heap.size,0,none⟩=some (.slice A q cp):=cell_of_row w2 _ 0 _ _ _ hg;have HP:=Lib.hid hp;clear hr hg hp;go_wp2_with fail
 go_ret;exact HP.out
set_option maxHeartbeats 1000000 in
theorem res_pos(w:World)(c h:Nat)(T:Nat->Prop)(mo:Nat)(ch:Bool)(L:List (Ent Key))(n:Nat)(m:Nat)(hz:m<=9223372036854775807)(r:Raw w c h T mo ch (sg ch*(n:Int)) L n):
 Calls Tryz.prog 214 #[.pointer (some ⟨c,0,none⟩),.int .i64 (m:Int)] w (ResPost w c (blk c T) m ch L n):=by
 have c0:=r.c0;have f0:=r.f0;have clt:=r.clt;have h0:¬((m:Int) < 0):=by omega
 obtain⟨r1,r2,r3⟩:=res_start r m hz;have c1:=r1.c0;have U:=cutR _ c h T m ch _ L n w.heap.size w.heap.size m r1 r2 r3 (by simp[World.setCell]);have U:=Lib.hid U;clear r r1 r2 r3;go_enter Tryz.func214,Tryz.ntmps214;go_wp2_with fail
 refine U.out.mono ?_;rintro e w2 ⟨rfl,hr⟩;obtain⟨A,q,cp,hg,hp⟩:=res_end (m:=m) hr;have k1:w2.cell? ⟨w.heap.size,0,none⟩=some (.slice A q cp):=cell_of_row w2 _ 0 _ _ _ hg;have HP:=Lib.hid hp;clear hr hg hp;go_wp2_with fail
 go_ret;exact HP.out
theorem resize_ca(w:World)(c:Nat)(S:Nat->Prop)(mo:Nat)(ch:Bool)(L:List (Ent Key))(n:Nat)(z:Int)(hz: -9223372036854775808<=z/\z<=9223372036854775807)(a:Ca w c S mo ch L n):
 Calls Tryz.prog 214 #[.pointer (some ⟨c,0,none⟩),.int .i64 z] w (ResPost w c S z.toNat ch L n):=by
 obtain⟨h,T,rfl,hR,hl⟩:=a
 by_cases h0:z < 0
 . rw[show z.toNat=0 by omega];exact res_neg w c h T mo ch L n z hz.1 h0 hR
 . obtain⟨m,rfl⟩:∃m:Nat,z=(m:Int):=⟨z.toNat,by omega⟩;exact res_pos w c h T mo ch L n m (by omega) hR
theorem keysC(w:World)(c h:Nat)(T:Nat->Prop)(mo:Nat)(ch:Bool)(mk:Int)(L:List (Ent Key))(n:Nat)(r:Raw w c h T mo ch mk L n):
 Calls Tryz.prog 210 #[.pointer (some ⟨c,0,none⟩)] w (RowPost (keysL L) w):=by
 have c1:=r.c1;have U:=Lib.hid (order_any w h T L n r.hs);clear r;go_enter Tryz.func210,Tryz.ntmps210;go_wp2_with fail
 refine U.out.mono ?_;rintro e w1 ⟨v,rfl,hO,hB⟩;have HO:=Lib.hid hO;have HB:=Lib.hid hB;clear hO hB;go_wp2_with fail
 go_ret;exact⟨v,rfl,HO.out,HB.out⟩
theorem keys_ca(w:World)(c:Nat)(S:Nat->Prop)(mo:Nat)(ch:Bool)(L:List (Ent Key))(n:Nat)(a:Ca w c S mo ch L n):Calls Tryz.prog 210 #[.pointer (some ⟨c,0,none⟩)] w (RowPost (keysL L) w):=by
 obtain⟨h,T,rfl,hR,hl⟩:=a;exact keysC w c h T mo ch _ L n hR
end Go.Proofs.YtdmmciggopmglaaGreatDoor.LF
namespace Go.Proofs.YtdmmciggopmglaaGreatDoor.LF
open Go.RowKit Ht HS Lf
set_option maxHeartbeats 1000000 in
set_option maxRecDepth 100000 in
theorem adopt_in(w:World)(c h:Nat)(T:Nat->Prop)(mo:Nat)(ch:Bool)(L:List (Ent Key))(n:Nat)(key:Key)(r:Raw w c h T mo ch (sg ch*(n:Int)) L n)(hl:L.length<=mo)(hi:isIn L key=true)(hs:key.size<=maxLen):
 Calls Tryz.prog 206 #[.pointer (some ⟨c,0,none⟩),.string key] w (CaPost (.bool false) w c (blk c T) mo ch L n):=by
 have HH:=Lib.hid r;have HL:=Lib.hid hl;have HI:=Lib.hid hi;have BD:=Lib.hid (show ∀w2,Below w.drew.heap.size w.drew w2->Below w.heap.size w w2 from λw2 hB=>⟨hB.os,hB.tape,hB.output,hB.size,hB.block⟩);clear r hl hi;go_enter Tryz.func206,Tryz.ntmps206;go_wp2_with fail
 refine wp_region_noPanic ?_;refine wp_region_held_drew (S:=λ_=>True) (by kernel_rfl) trivial (λhHeld=>?_);refine tk 0 ?_;refine tk 1 ?_;refine rdy 2 (λK hK=>?_);go_simp;refine(hasC w.drew c h T mo ch _ L n key (HH.out.below ⟨rfl,rfl,rfl,Nat.le_refl _,λ_ _=>rfl⟩) hs).mono ?_;rintro e w2 ⟨rfl,hB⟩;rw[HI.out];have B2:=Lib.hid (BD.out w2 hB);clear hB;go_wp2_with fail
 refine hK.out _ _ ?_ (λhHeld=>?_)
 . exact trivial
 clear hK K;refine tk 3 ?_;refine tn 4 ?_;refine tn 5 ?_;refine tn 6 ?_;refine tn 7 ?_;refine tn 8 ?_;refine tn 9 ?_;refine tn 10 ?_;refine tk 11 ?_;refine dn ?_;refine NoPanic.normal ?_;go_wp2_with fail
 go_ret;exact⟨rfl,_,⟨h,T,rfl,HH.out.below B2.out,HL.out⟩,λk hk=>Or.inl hk,Turn.of_below B2.out⟩
set_option maxHeartbeats 2000000 in
set_option maxRecDepth 100000 in
theorem adopt_full(w:World)(c h:Nat)(T:Nat->Prop)(mo:Nat)(ch:Bool)(L:List (Ent Key))(n:Nat)(key:Key)(r:Raw w c h T mo ch (sg ch*(n:Int)) L n)(hl:L.length<=mo)(hi:isIn L key=false)(hf:mo<=L.length)(hs:key.size<=maxLen):
 Calls Tryz.prog 206 #[.pointer (some ⟨c,0,none⟩),.string key] w (CaPost (.bool false) w c (blk c T) mo ch L n):=by
 have c0:=r.c0;have e0:decide (mo<=L.length)=true:=by simpa using hf
 have HH:=Lib.hid r;have HL:=Lib.hid hl;have HF:=Lib.hid hf
 have HA:=Lib.hid (show Calls Tryz.prog 209 #[.pointer (some ⟨c,0,none⟩),.string key] w.drew (ValBelow (.bool false) w.drew) from by
  have:=hasC w.drew c h T mo ch _ L n key (r.below ⟨rfl,rfl,rfl,Nat.le_refl _,λ_ _=>rfl⟩) hs;rw[hi] at this;exact this)
 have BD:=Lib.hid (show ∀w2,Below w.drew.heap.size w.drew w2->Below w.heap.size w w2/\w2.cell? ⟨c,0,none⟩=some (.int .i64 (mo:Int)) from λw2 hB=>by
  have hb:Below w.heap.size w w2:=⟨hB.os,hB.tape,hB.output,hB.size,hB.block⟩;exact⟨hb,(hb.cell (p:=⟨c,0,none⟩) (cell_lt c0)).trans c0⟩)
 clear r hl hi hf;go_enter Tryz.func206,Tryz.ntmps206;go_wp2_with fail
 go_region_held3(λw'=>w'.cell? ⟨c,0,none⟩=some (.int .i64 (mo:Int))) (first|assumption|go_keep)
  (first
    |(go_at_call 209;refine HA.out.mono ?_;rintro e w2 ⟨rfl,hB⟩;have B2:=Lib.hid (BD.out w2 hB).1;have z1:=(BD.out w2 hB).2;clear hB)
    |(go_at_call 211;refine(lenC w2 c h T mo ch _ L n (HH.out.below B2.out)).mono ?_;rintro e w3 ⟨rfl,rfl⟩))
 go_wp2_with fail
 go_ret;exact⟨rfl,_,⟨h,T,rfl,HH.out.below B2.out,HL.out⟩,λk hk=>Or.inl hk,Turn.of_below B2.out⟩
set_option maxHeartbeats 2000000 in
set_option maxRecDepth 100000 in
theorem adopt_room(w:World)(c h:Nat)(T:Nat->Prop)(mo:Nat)(ch:Bool)(L:List (Ent Key))(n:Nat)(key:Key)(r:Raw w c h T mo ch (sg ch*(n:Int)) L n)(hl:L.length<=mo)(hi:isIn L key=false)(hf:L.length < mo)(hs:key.size<=maxLen)(hn:n<=9000000)(h9:L.length<=99999):
 Calls Tryz.prog 206 #[.pointer (some ⟨c,0,none⟩),.string key] w (CaPost (.bool true) w c (blk c T) mo ch (put ch n L key) (n+1)):=by
 have c0:=r.c0;have e0:decide (mo<=L.length)=false:=by simpa using hf
 have HH:=Lib.hid r;have HL:=Lib.hid hl;have HF:=Lib.hid hf
 have HA:=Lib.hid (show Calls Tryz.prog 209 #[.pointer (some ⟨c,0,none⟩),.string key] w.drew (ValBelow (.bool false) w.drew) from by
  have:=hasC w.drew c h T mo ch _ L n key (r.below ⟨rfl,rfl,rfl,Nat.le_refl _,λ_ _=>rfl⟩) hs;rw[hi] at this;exact this)
 have BD:=Lib.hid (show ∀w2,Below w.drew.heap.size w.drew w2->Below w.heap.size w w2/\w2.cell? ⟨c,0,none⟩=some (.int .i64 (mo:Int)) from λw2 hB=>by
  have hb:Below w.heap.size w w2:=⟨hB.os,hB.tape,hB.output,hB.size,hB.block⟩;exact⟨hb,(hb.cell (p:=⟨c,0,none⟩) (cell_lt c0)).trans c0⟩)
 clear r hl hi hf;go_enter Tryz.func206,Tryz.ntmps206;go_wp2_with fail
 go_region_held3(λw'=>w'.cell? ⟨c,0,none⟩=some (.int .i64 (mo:Int))) (first|assumption|go_keep)
  (first
    |(go_at_call 209;refine HA.out.mono ?_;rintro e w2 ⟨rfl,hB⟩;have B2:=Lib.hid (BD.out w2 hB).1;have z1:=(BD.out w2 hB).2;clear hB)
    |(go_at_call 211;refine(lenC w2 c h T mo ch _ L n (HH.out.below B2.out)).mono ?_;rintro e w3 ⟨rfl,rfl⟩))
 go_wp2_with fail
 refine(countC w2 c h T mo ch L n key (HH.out.below B2.out) hs h9 hn).mono ?_;rintro e w3 ⟨rfl,T3,hR,hN,hT⟩
 have R:=Lib.hid (show CaPost (.bool true) w c (blk c T) mo ch (put ch n L key) (n+1) (.returned (.bool true)) w3 from by
  have hsz:=B2.out.size;refine⟨rfl,_,⟨h,T3,rfl,hR,?_⟩,λk hk=>?_,(Turn.of_below (S:=blk c T) B2.out).trans hT (λ_ _ h=>h)⟩
  . rw[put_len];have:=HF.out;have:=Lf.rem_le L key;omega
  . rcases blk_next hN k hk with h|h
    . exact Or.inl h
    . exact Or.inr (by omega))
 clear hR hN hT z1;go_wp2_with fail
 go_ret;exact R.out
theorem adopt_ca(w:World)(c:Nat)(S:Nat->Prop)(mo:Nat)(ch:Bool)(L:List (Ent Key))(n:Nat)(key:Key)(a:Ca w c S mo ch L n)(hs:key.size<=maxLen)(hn:n<=97500):
 Calls Tryz.prog 206 #[.pointer (some ⟨c,0,none⟩),.string key] w (CaPost (.bool (adB mo L key)) w c S mo ch (adL ch mo n L key) (adN mo n L key)):=by
 have h9:L.length<=99999:=by have:=once_len a.once;omega
 obtain⟨h,T,rfl,hR,hl⟩:=a;cases hi:isIn L key with
 |true=>
  have e1:adB mo L key=false:=by simp[adB,hi]
  rw[show adL ch mo n L key=L by unfold adL;rw[e1];rfl,show adN mo n L key=n by unfold adN;rw[e1];rfl,e1];exact adopt_in w c h T mo ch L n key hR hl hi hs
 |false=>
  by_cases hf:L.length < mo
  . have e1:adB mo L key=true:=by simp[adB,hi,hf]
    rw[show adL ch mo n L key=put ch n L key by unfold adL;rw[e1];rfl,show adN mo n L key=n+1 by unfold adN;rw[e1];rfl,e1];exact adopt_room w c h T mo ch L n key hR hl hi hf hs (by omega) h9
  . have e1:adB mo L key=false:=by simp[adB,hi,hf]
    rw[show adL ch mo n L key=L by unfold adL;rw[e1];rfl,show adN mo n L key=n by unfold adN;rw[e1];rfl,e1];exact adopt_full w c h T mo ch L n key hR hl hi (by omega) hs
end Go.Proofs.YtdmmciggopmglaaGreatDoor.LF
namespace Go.Proofs.YtdmmciggopmglaaGreatDoor.LF
open Go.RowKit Ht HS Lf
end Go.Proofs.YtdmmciggopmglaaGreatDoor.LF
namespace Go.Proofs.YtdmmciggopmglaaGreatDoor.LF
open Go.RowKit Ht HS Lf
section
variable{w0 w w':World}{c mo n n':Nat}{S S':Nat->Prop}{ch:Bool}{L L':List (Ent Key)}{xs:List ByteArray}{r v:Value}{e:Ending}
end
section
variable(w:World)(a b a' b':Bool)(s t:ByteArray)
end
end Go.Proofs.YtdmmciggopmglaaGreatDoor.LF
