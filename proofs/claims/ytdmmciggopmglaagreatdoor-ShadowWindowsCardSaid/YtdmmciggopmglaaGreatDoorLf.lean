/- The pace of a learner: windows, and what moves the rate. -/
import Derived.Test.YtdmmciggopmglaaGreatDoorY5
set_option maxRecDepth 20000
namespace Go.Proofs.YtdmmciggopmglaaGreatDoor.LE
open Go.RowKit Go.Maps Go.WideMaps Sg
section
variable{w w1 w':World}{i:Ix}{S:Sx}{B E:Nat}{L L':List (List Nat)}{lane:Int}{s s':St}{b b':Nat}
theorem LT.tape(h:LT w i S B E L lane s b)(hT:DR.Tape w' B E L')(hg:w.grownBy w' (some B))(ok:Ok s')(lim:Lim s' b)(hf:flOf s' B lane=flOf s B lane)(hp:pOf s'=pOf s)(hv:DR.lget L' lane=s'.vs):LT w' i S B E L' lane s' b:=by
 have hE:=h.tp.lt;have ht:=grown_turn hg;refine⟨?_,ok,lim,hT,h.sep,hv⟩;rw[hf,hp];exact h.raw.beside ht λk hk e=>h.sep k hk (by have e:k=B:=e;omega)
theorem LT.vs_ok(h:LT w i S B E L lane s b):s.vs.headD 0<=18446744073709551615:=by rw[← h.vs];exact(h.tp.bound lane).1
end
section
variable(w:World)(i:Ix)(S:Sx)(B E:Nat)(L:List (List Nat))(lane:Int)(s:St)(b:Nat)(h:LT w i S B E L lane s b)
include h
def NPost(w:World)(i:Ix)(S:Sx)(B E:Nat)(L:List (List Nat))(lane:Int)(s:St)(b:Nat)(e:Ending)(w':World):Prop:=
 e= .returned (.int .u64 ((s.vs.headD 0:Nat):Int))/\∃L',LT w' i S B E L' lane {s with vs:=s.vs.tail} b/\(∀j,j≠lane->DR.lget L' j=DR.lget L j)/\Turn (λk=>k=B) w w'
theorem next_l:Calls Tryz.prog 131 #[.pointer (some ⟨B+1,0,none⟩),.int .i64 lane] w (NPost w i S B E L lane s b):=by
 refine(DR.next_any w B E L lane h.tp).mono ?_;rintro e w' ⟨he,hT,hg⟩;rw[h.vs] at he;refine⟨he,_,h.tape hT hg {h.ok with} ⟨h.lim.mo,h.lim.clock,h.lim.asked,h.lim.hits,h.lim.last,h.lim.still⟩ rfl rfl ?_,λj hj=>?_,grown_turn hg⟩
 . rw[DR.lget_adv,if_pos rfl,h.vs]
 . rw[DR.lget_adv,if_neg hj]
theorem next_t(x:Nat)(hx:w.cell? ⟨x,0,none⟩=some (.pointer (some ⟨i.l,0,none⟩)))(hxn:¬tblk i S B E x):Calls Tryz.prog 130 #[.pointer (some ⟨x,0,none⟩)] w (NPost w i S B E L lane s b):=by
 have hd:=h.below (FX.bdrew (Below.refl _ _) 1);have U:=Lib.hid (show Calls Tryz.prog 131 #[.pointer (some ⟨B+1,0,none⟩),.int .i64 lane] w.drew (NPost w.drew i S B E L lane s b) from next_l w.drew i S B E L lane s b hd);have c16:=h.ct;have c17:=h.cl;have HN:=Lib.hid hxn;have hBE:=h.tp.lt;have hxB:x≠B:=λe=>hxn (Or.inr (by omega));have hxl:x < w.heap.size:=World.block_lt_of_cell? _ _ hx;unfold NPost at U|-;generalize((s.vs.headD 0:Nat):Int)=z at*;clear h hd hxn;go_enter Tryz.func130,Tryz.ntmps130;go_wp2_with fail
 go_region_held3(λw'=>w'.cell? ⟨x,0,none⟩=some (.pointer (some ⟨i.l,0,none⟩))/\w'.cell? ⟨i.l,16,none⟩=some (.pointer (some ⟨B+1,0,none⟩))/\w'.cell? ⟨i.l,17,none⟩=some (.int .i64 lane)) (first|(with_reducible exact⟨y1,y2,y3⟩)|(with_reducible exact⟨hx,c16,c17⟩)|go_keep)
  ((go_at_call 131;refine U.out.mono ?_;rintro e w1 ⟨rfl,L',h1,h2,h3⟩;have y1:w1.cell? ⟨x,0,none⟩=some (.pointer (some ⟨i.l,0,none⟩)):=(World.cell?_of_block (a:=⟨x,0,none⟩) (h3.block x hxl hxB)).trans hx;have y2:=h1.ct;have y3:=h1.cl;have P:=Lib.hid (And.intro h1 (And.intro h2 h3));clear h1 h2 h3 U))
 clear y1 y2 y3 hx c16 c17;go_wp2_with fail
 go_ret;obtain⟨h1,h2,h3⟩:=P.out;exact⟨rfl,L',h1,h2,⟨h3.os,h3.tape,h3.output,h3.size,h3.block⟩⟩
def SPost(w:World)(i:Ix)(S:Sx)(B E:Nat)(L:List (List Nat))(lane:Int)(s':St)(b':Nat)(e:Ending)(w':World):Prop:=
 e= .returned (.tuple #[])/\LT w' i S B E L lane s' b'/\Went w w' (tblk i S B E) (tblk i S B E)
theorem move_t(h6:s.six=true):Calls Tryz.prog 153 #[.pointer (some ⟨i.l,9,none⟩)] w (SPost w i S B E L lane {s with rate:=St.moved s.down s.rate} b):=by
 have cr:=h.cr;have cd:=h.c14;have fr:=h.fr 9;have hr:=h.ok.rh;have hr2:=h.ok.rl;have hone:one=4611686018427387904:=rfl;have hslow:=slow_val;have M:=Lib.hid (moved_in s.down s.rate);have C:=Lib.hid (λw1 (hb:Below w.heap.size w w1)=>And.intro (h.below hb).cr ((h.below hb).fr 9));have U:=Lib.hid (slow_l)
 have SET:=Lib.hid (λ(w1:World) (hb:Below w.heap.size w w1)=>show LT (w1.setCell ⟨i.l,9,none⟩ (.int .u64 ((St.moved s.down s.rate:Nat):Int))) i S B E L lane {s with rate:=St.moved s.down s.rate} b/\Went w (w1.setCell ⟨i.l,9,none⟩ (.int .u64 ((St.moved s.down s.rate:Nat):Int))) (tblk i S B E) (tblk i S B E) from by
  have:=(h.below hb).set (s':={s with rate:=St.moved s.down s.rate}) (b':=b) 9 _ rfl rfl (Nat.le_refl _) {h.ok with rl:=M.out.1,rh:=M.out.2,r5:=λe=>by rw[h6] at e;cases e} ⟨h.lim.mo,h.lim.clock,h.lim.asked,h.lim.hits,h.lim.last,h.lim.still⟩ rfl;exact⟨this.1,(Went.below hb).trans this.2⟩)
 unfold SPost;generalize hs:({s with rate:=St.moved s.down s.rate}:St)=s2 at*;clear hs h6 h M;generalize s.rate=r at*;generalize s.down=d at*;obtain⟨q,hq⟩:∃q:Nat,q=r / 4:=⟨_,rfl⟩;have hq1:(r:Int) / 4=(q:Int):=by omega
 obtain⟨m,hm2⟩:∃m,m=St.moved d r:=⟨_,rfl⟩;rw[← hm2] at SET;unfold St.moved at hm2;rw[← hq] at hm2;have hw0:IntKind.u64.wrap (q:Int)=(q:Int):=IntWalk.u64_in _ (by omega);clear hq;cases d with
 |true=>
  have hw1:IntKind.u64.wrap ((r:Int) - (q:Int))=(r:Int) - (q:Int):=IntWalk.u64_in _ (by omega);have hmx:max ((r:Int) - (q:Int)) (slow:Int)=(m:Int):=by rw[if_pos rfl] at hm2;omega
  clear hr hr2 hone hslow hm2;go_enter Tryz.func153,Tryz.ntmps153;go_wp2_with fail
  go_region_with((go_at_call 163;refine(U.out _).mono ?_;rintro e w1 ⟨rfl,hB0⟩;have hB:=((Below.refl w.heap.size w).drew).trans hB0;obtain⟨cr1,fr1⟩:=C.out w1 hB;have P:=Lib.hid (SET.out w1 hB);clear hB hB0))
  all_goals
   go_wp2_with fail
   go_end0;exact⟨rfl,P.out.1,P.out.2⟩
 |false=>
  have hw2:IntKind.u64.wrap ((r:Int)+(q:Int))=(r:Int)+(q:Int):=IntWalk.u64_in _ (by omega);have hmx:min ((r:Int)+(q:Int)) 4611686018427387904=(m:Int):=by rw[if_neg (by simp)] at hm2;omega
  have P:=Lib.hid (SET.out w (Below.refl _ _));clear hr hr2 hone hslow hm2;go_enter Tryz.func153,Tryz.ntmps153;go_wp2_with fail
  go_end0;exact⟨rfl,P.out.1,P.out.2⟩
end
structure Nx(w:World)(i:Ix)(S:Sx)(B E x:Nat):Prop where
 cell:w.cell? ⟨x,0,none⟩=some (.pointer (some ⟨i.l,0,none⟩))
 out:¬tblk i S B E x
theorem Nx.went{w w':World}{i:Ix}{S S':Sx}{B E x:Nat}(n:Nx w i S B E x)(h:Went w w' (tblk i S B E) (tblk i S' B E)):Nx w' i S' B E x:=by
 have hl:=World.block_lt_of_cell? _ _ n.cell;refine⟨(World.cell?_of_block (a:=⟨x,0,none⟩) (h.turn.block x hl n.out)).trans n.cell,λe=>?_⟩;rcases h.new x e with g|g
 . exact n.out g
 . exact absurd hl (Nat.not_lt.2 g)
theorem Nx.below{w w':World}{i:Ix}{S:Sx}{B E x:Nat}(n:Nx w i S B E x)(h:Below w.heap.size w w'):Nx w' i S B E x:=n.went (Went.below h)
def stood(s:St):St:=if s.still=9 then{s with still:=0,rate:=St.drawn (s.vs.headD 0),vs:=s.vs.tail} else{s with still:=s.still+1}
def turned(s:St):St:=if s.hits=s.last then stood s else{s with still:=0,down:=s.turnD,rate:=St.moved s.turnD s.rate}
def cnt(s:St)(hit:Bool):St:=(if hit=true then{s with hits:=s.hits+1} else s).window
abbrev nxF(x:Nat):Value:= .func (.func 130) #[] #[.pointer (some ⟨x,0,none⟩)]
section
variable(w:World)(i:Ix)(S:Sx)(B E:Nat)(L:List (List Nat))(lane:Int)(s:St)(b:Nat)(h:LT w i S B E L lane s b)(x:Nat)(n:Nx w i S B E x)(h6:s.six=true)
include h n h6
theorem stand_t:Calls Tryz.prog 152 #[.pointer (some ⟨i.l,9,none⟩),nxF x] w (TPost (.tuple #[]) w i S B E L lane (stood s) b):=by
 have c15:=h.c15;have f15:=h.fr 15
 by_cases h9:s.still=9
 . rw[h9] at c15;have c15:w.cell? ⟨i.l,15,none⟩=some (.int .i64 9):=c15;obtain⟨r1,g1⟩:=h.raw.set (F':={flOf s B lane with still:=10}) 15 (.int .i64 10) rfl;obtain⟨r2,g2⟩:=r1.set (F':=flOf {s with still:=0} B lane) 15 (.int .i64 0) rfl;obtain⟨q1,q2⟩:=h.went (s':={s with still:=0}) (b':=b) r2 (g1.trans g2) {h.ok with} ⟨h.lim.mo,h.lim.clock,h.lim.asked,h.lim.hits,h.lim.last,Nat.zero_le _⟩ rfl;have H2:=Lib.hid (And.intro q1 (And.intro q2 (n.went q2)));have hst:stood s= {s with still:=0,rate:=St.drawn (s.vs.headD 0),vs:=s.vs.tail}:=by unfold stood;rw[if_pos h9]
   rw[hst];have HV:=Lib.hid (And.intro h.vs_ok (drawn_in _ h.vs_ok));have SL:=Lib.hid slow_l;have hF:=run_enter9 Tryz.func130 (by kernel_rfl) rfl;have BE:=Lib.hid (h.tp.lt);obtain⟨n0,hn0⟩:∃n0,n0=s.vs.headD 0:=⟨_,rfl⟩;rw[← hn0] at HV|-
   have NX:=Lib.hid (λ(w2:World) (q:LT w2 i S B E L lane {s with still:=0} b/\Went w w2 (tblk i S B E) (tblk i S B E)/\Nx w2 i S B E x)=>show Calls Tryz.prog 130 #[.pointer (some ⟨x,0,none⟩)] w2 (λe w'=>e= .returned (.int .u64 (n0:Int))/\∃L',LT w' i S B E L' lane {s with still:=0,vs:=s.vs.tail} b/\(∀j,j≠lane->DR.lget L' j=DR.lget L j)/\Turn (λk=>k=B) w2 w') from by
    have:=next_t w2 i S B E L lane {s with still:=0} b q.1 x q.2.2.cell q.2.2.out;unfold NPost at this;rw[show({s with still:=0}:St).vs=s.vs from rfl,<-hn0] at this;exact this)
   have SET:=Lib.hid (λ(w4:World) (L4:List (List Nat)) (h4:LT w4 i S B E L4 lane {s with still:=0,vs:=s.vs.tail} b)=>h4.set (s':={s with still:=0,rate:=St.drawn n0,vs:=s.vs.tail}) (b':=b) 9 (.int .u64 ((St.drawn n0:Nat):Int)) rfl rfl (Nat.le_refl _) {h4.ok with rl:=HV.out.2.1,rh:=HV.out.2.2,r5:=λe=>by rw[show({s with still:=0,rate:=St.drawn n0,vs:=s.vs.tail}:St).six=s.six from rfl,h6] at e;cases e} ⟨h4.lim.mo,h4.lim.clock,h4.lim.asked,h4.lim.hits,h4.lim.last,h4.lim.still⟩ rfl);have CR:=Lib.hid (λ(w4:World) (L4:List (List Nat)) (h4:LT w4 i S B E L4 lane {s with still:=0,vs:=s.vs.tail} b)=>And.intro h4.cr (h4.fr 9));generalize hs2:({s with still:=0,rate:=St.drawn n0,vs:=s.vs.tail}:St)=s9 at*;generalize hs3:({s with still:=0,vs:=s.vs.tail}:St)=s8 at*;generalize hs4:({s with still:=0}:St)=s7 at*;obtain⟨q,hq⟩:∃q:Nat,q=n0 / 4:=⟨_,rfl⟩;have hq1:(n0:Int) / 4=(q:Int):=by omega
   obtain⟨m,hm⟩:∃m,m=St.drawn n0:=⟨_,rfl⟩;rw[← hm] at SET;unfold St.drawn at hm;rw[← hq] at hm;have hmx:max (q:Int) (slow:Int)=(m:Int):=by omega
   clear r1 g1 r2 g2 q1 q2 hst h n hs2 hs3 hs4 hn0 hq hm HV h9 h6;go_enter Tryz.func152,Tryz.ntmps152;go_wp2_with fail
   generalize(w.setCell ⟨i.l,15,none⟩ (.int .i64 10)).setCell ⟨i.l,15,none⟩ (.int .i64 0)=w2 at H2|-;refine(NX.out w2 H2.out).mono ?_;rintro e w3 ⟨rfl,L3,h3,hL3,ht3⟩;have P3:=Lib.hid (And.intro h3 (And.intro hL3 ht3));clear h3 hL3 ht3;go_wp2_with fail
   refine(SL.out _).mono ?_;rintro e w4 ⟨rfl,hB⟩;have h4:=P3.out.1.below hB;obtain⟨c9,f9⟩:=CR.out w4 L3 h4;have P4:=Lib.hid (SET.out w4 L3 h4);have B4:=Lib.hid hB;clear h4 hB SET CR;go_wp2_with fail
   go_end0;have W3:Went w2 w3 (tblk i S B E) (tblk i S B E):=Went.same (P3.out.2.2.wide λk _ e=>Or.inr (by have:=BE.out;have e:k=B:=e;omega));exact⟨rfl,S,L3,P4.out.1,P3.out.2.1,((H2.out.2.1.trans W3).trans (Went.below B4.out)).trans P4.out.2⟩
 . have hst:stood s= {s with still:=s.still+1}:=by unfold stood;rw[if_neg h9]
   have hl:=h.lim.still;obtain⟨k,hk⟩:∃k,k=s.still:=⟨_,rfl⟩;have hw:=IntWalk.i64_in ((k:Int)+1) (by omega);have e1:((k:Int)+1==10)=false:=by simp;omega
   obtain⟨q1,q2⟩:=h.set (s':={s with still:=s.still+1}) (b':=b) 15 (.int .i64 ((k:Int)+1)) (by rw[hk];rfl) rfl (Nat.le_refl _) {h.ok with} ⟨h.lim.mo,h.lim.clock,h.lim.asked,h.lim.hits,h.lim.last,by show s.still+1<=9;omega⟩ rfl;have P:=Lib.hid (And.intro q1 q2);rw[hst];rw[← hk] at c15;generalize({s with still:=s.still+1}:St)=s2 at*;clear q1 q2 hst h n hl hk h9 h6;go_enter Tryz.func152,Tryz.ntmps152;go_wp2_with fail
   go_end0;exact⟨rfl,S,L,P.out.1,λ_ _=>rfl,P.out.2⟩
theorem turn_t:Calls Tryz.prog 141 #[.pointer (some ⟨i.l,9,none⟩),nxF x] w (TPost (.tuple #[]) w i S B E L lane (turned s) b):=by
 have c11:=h.c11 h6;have c12:=h.c12
 by_cases he:s.hits=s.last
 . have ht:turned s=stood s:=by unfold turned;rw[if_pos he]
   rw[ht];rw[← he] at c12;have U:=Lib.hid (λm=>stand_t (w.drewN m) i S B E L lane s b (h.below (FX.bdrew (Below.refl _ _) m)) x (n.below (FX.bdrew (Below.refl _ _) m)) h6);have W:=Lib.hid (λm=>Went.below (S:=tblk i S B E) (FX.bdrew (Below.refl w.heap.size w) m));generalize s.hits=k at*;clear h n he ht h6;go_enter Tryz.func141,Tryz.ntmps141;go_wp2_with fail
   go_quiet(fail)
   go_wp2_with fail
   refine(U.out _).mono ?_;intro e w2 hp;obtain⟨rfl,h1⟩:=TPost.trans (W.out _) (λ_ _=>rfl) hp;have H1:=Lib.hid h1;clear hp h1 U W;go_wp2_with fail
   (try simp only[Exit.inBlock,Exit.then]);refine bodyPost_ret (results_none rfl _ _ _) rfl ?_;exact⟨rfl,H1.out⟩
 . have ht:turned s= {s with still:=0,down:=s.turnD,rate:=St.moved s.turnD s.rate}:=by unfold turned;rw[if_neg he]
   rw[ht];have P0:=Lib.hid (λm=>And.intro (h.below (FX.bdrew (Below.refl _ _) m)) (Went.below (S:=tblk i S B E) (FX.bdrew (Below.refl w.heap.size w) m)));have e1:(s.hits==s.last)=false:=by simpa using he
   have e2:((s.hits:Int)==(s.last:Int))=false:=by simp;omega
   obtain⟨lt,hlt⟩:∃lt,lt=decide (s.hits < s.last):=⟨_,rfl⟩;obtain⟨dd,hdd⟩:∃dd,dd=s.down:=⟨_,rfl⟩;have TD:=Lib.hid (show s.turnD=(if lt=true then !dd else dd) by unfold St.turnD;rw[hlt,hdd];simp);have HL:=Lib.hid (show decide (s.hits < s.last)=lt/\decide ((s.hits:Int) < (s.last:Int))=lt from⟨hlt.symm,by rw[hlt];simp⟩);have HD:=Lib.hid hdd;have ok:=Lib.hid h.ok;have H6:=Lib.hid h6;have lim:=Lib.hid h.lim;have UU:=Lib.hid (λ(w2:World) (h3:LT w2 i S B E L lane {s with still:=0,down:=s.turnD} b)=>show Calls Tryz.prog 153 #[.pointer (some ⟨i.l,9,none⟩)] w2 (SPost w2 i S B E L lane {s with still:=0,down:=s.turnD,rate:=St.moved s.turnD s.rate} b) from move_t w2 i S B E L lane {s with still:=0,down:=s.turnD} b h3 h6);clear h n ht h6 he hlt hdd;go_enter Tryz.func141,Tryz.ntmps141;go_wp2_with fail
   go_quiet(fail)
   obtain⟨h1,g1⟩:=P0.out nq;generalize w.drewN nq=w1 at h1 g1|-;obtain⟨q1,q2⟩:=h1.set (s':={s with still:=0}) (b':=b) 15 (.int .i64 0) rfl rfl (Nat.le_refl _) {h1.ok with} ⟨h1.lim.mo,h1.lim.clock,h1.lim.asked,h1.lim.hits,h1.lim.last,Nat.zero_le _⟩ rfl;have c15:=h1.c15;have f15:=h1.fr 15;have G1:=Lib.hid g1;have Q:=Lib.hid (And.intro q1 q2);clear P0 c11 c12 h1 g1 q1 q2;go_wp2_with fail
   generalize w1.setCell ⟨i.l,15,none⟩ (.int .i64 0)=w2 at Q|-;have h2:=Q.out.1;obtain⟨q3,q4⟩:=h2.set (s':={s with still:=0,down:=s.turnD}) (b':=b) 14 (.bool s.turnD) rfl rfl (Nat.le_refl _) {h2.ok with} ⟨h2.lim.mo,h2.lim.clock,h2.lim.asked,h2.lim.hits,h2.lim.last,Nat.zero_le _⟩ rfl;have d11:w2.cell? ⟨i.l,11,none⟩=some (.int .i64 (s.hits:Int)):=Q.out.1.c11 H6.out;have d12:w2.cell? ⟨i.l,12,none⟩=some (.int .i64 (s.last:Int)):=Q.out.1.c12;have d14:w2.cell? ⟨i.l,14,none⟩=some (.bool s.down):=Q.out.1.c14;have f14:=Q.out.1.fr 14;rw[← HD.out] at d14;have P:=Lib.hid (And.intro (q3.below ((Below.refl _ _).drew)) (((G1.out.trans Q.out.2).trans q4).trans (Went.below ((Below.refl _ _).drew))));obtain⟨hl1,hl2⟩:=HL.out;generalize({s with still:=0,down:=s.turnD,rate:=St.moved s.turnD s.rate}:St)=s9 at*;generalize({s with still:=0,down:=s.turnD}:St)=s8 at*;generalize s.turnD=td at*;generalize s.hits=hh at*;generalize s.last=ll at*;have htd:=TD.out;clear HL HD TD h2 q3 q4 Q G1 ok lim e1 e2 c15 f15;cases lt <;> cases dd <;> simp only[Bool.false_eq_true,if_false,if_true,Bool.not_true,Bool.not_false] at htd <;> subst htd
   all_goals
    go_region;generalize(w2.setCell ⟨i.l,14,none⟩ _).drew=w3 at P|-;go_wp2_with fail
    refine(UU.out w3 P.out.1).mono ?_;rintro e w4 ⟨rfl,h4,g4⟩;have P4:=Lib.hid (And.intro h4 (P.out.2.trans g4));clear h4 g4 UU P;go_wp2_with fail
    go_end0;exact⟨rfl,S,L,P4.out.1,λ_ _=>rfl,P4.out.2⟩
end
theorem ends_eq{s:St}(h6:s.six=true)(h:¬s.asked+1 < s.mo):s.window=(if s.ends=0 then{s with asked:=s.asked+1} else turned {s with asked:=s.asked+1}).endW:=by
 unfold St.window;rw[if_neg (by rw[h6];simp),if_neg h]
 by_cases he:s.ends=0
 . rw[if_pos he,if_pos he];rfl
 . rw[if_neg he,if_neg he];unfold turned
   by_cases hl:s.hits=s.last
   . rw[if_pos hl,if_pos (show({s with asked:=s.asked+1}:St).hits=({s with asked:=s.asked+1}:St).last from hl)];unfold stood
     by_cases h9:s.still=9
     . rw[if_pos h9,if_pos (show({s with asked:=s.asked+1}:St).still=9 from h9)];rfl
     . rw[if_neg h9,if_neg (show ¬({s with asked:=s.asked+1}:St).still=9 from h9)];rfl
   . rw[if_neg hl,if_neg (show ¬({s with asked:=s.asked+1}:St).hits=({s with asked:=s.asked+1}:St).last from hl)];rfl
section
variable(w:World)(i:Ix)(S:Sx)(B E:Nat)(L:List (List Nat))(lane:Int)(s:St)(b:Nat)(h:LT w i S B E L lane s b)(x:Nat)(n:Nx w i S B E x)(h6:s.six=true)
include h n h6
end
end Go.Proofs.YtdmmciggopmglaaGreatDoor.LE
