/- 'cachewiselaw12.ShadowIgnores' returns true for every shift and every row of keys, and leaves what was there as it was. The listed variables read as the program's text lays them. -/
import Derived.Test.YtdmmciggopmglaaGreatDoorYh
import Derived.Test.YtdmmciggopmglaaGreatDoorYd
import Derived.Test.YtdmmciggopmglaaGreatDoorHd
import Derived.Test.YtdmmciggopmglaaGreatDoorCards
import Derived.Test.YtdmmciggopmglaaGreatDoorTie
import Derived.SevenTiedAt
import Derived.Deep.DeepCutAuto
import Derived.Deep.CutBlock
import Derived.Deep.RegionHeld3
import Derived.Deep.RegionLaw
set_option maxRecDepth 20000
namespace Go.Proofs.YtdmmciggopmglaaGreatDoor.SW
open Go.Maps Go.ChangeShapes Go.WideShapes Go.ChangeAt Go.RowKit Sg IN HS
structure Two(w0 W:World)(p:Nat)(X:Nat->Nat)(U:Nat->Nat->Prop)(B E:Nat)(L:List (List Nat))(s:Sh)(b:Nat->Nat)(p2:Nat)(X2:Nat->Nat)(U2:Nat->Nat->Prop)(B2 E2:Nat)(L2:List (List Nat))(s2:Sh)(b2:Nat->Nat):Prop where
 one:ShL w0 W p X U B E L s b
 two:ShL w0 W p2 X2 U2 B2 E2 L2 s2 b2
 off:∀y,sblk p U B E y->¬sblk p2 U2 B2 E2 y
def tw(p:Nat)(U:Nat->Nat->Prop)(B E p2:Nat)(U2:Nat->Nat->Prop)(B2 E2:Nat):Nat->Prop:=λy=>sblk p U B E y\/sblk p2 U2 B2 E2 y
def RB(W:World)(T:Nat->Prop)(v:Value)(xs:List ByteArray):Prop:=(xs= []/\∃A c,v= .slice A 0 c)\/∃g,g < W.heap.size/\Row W g v xs/\¬T g
section
variable{w0 W W':World}{p p2 B E B2 E2:Nat}{X X2:Nat->Nat}{U U2:Nat->Nat->Prop}{L L2:List (List Nat)}{s s' s2 s2':Sh}{b b2 c:Nat->Nat}{v r:Value}{e:Ending}{T T':Nat->Prop}{xs:List ByteArray}
theorem Two.below(q:Two w0 W p X U B E L s b p2 X2 U2 B2 E2 L2 s2 b2)(hb:Below W.heap.size W W'):Two w0 W' p X U B E L s b p2 X2 U2 B2 E2 L2 s2 b2:=⟨q.one.below hb,q.two.below hb,q.off⟩
theorem Two.lt(q:Two w0 W p X U B E L s b p2 X2 U2 B2 E2 L2 s2 b2){y:Nat}(h:tw p U B E p2 U2 B2 E2 y):y < W.heap.size:=h.elim (q.one.lt y) (q.two.lt y)
theorem Two.op1(q:Two w0 W p X U B E L s b p2 X2 U2 B2 E2 L2 s2 b2)(hp:SPost r W p X U B E s' c e W'):e= .returned r/\∃U' L',Two w0 W' p X U' B E L' s' c p2 X2 U2 B2 E2 L2 s2 b2/\Went W W' (tw p U B E p2 U2 B2 E2) (tw p U' B E p2 U2 B2 E2):=by
 obtain⟨he,U',L',h1,h2⟩:=q.one.op hp;refine⟨he,U',L',⟨h1,⟨q.two.ca.beside h2.turn λk hk g=>q.off k g hk,h1.bel,q.two.low⟩,λy hy g=>?_⟩,⟨λk hk=>?_,h2.turn.wide λk _ g=>Or.inl g⟩⟩
 . rcases h2.new y hy with h|h
   . exact q.off y h g
   . have:=q.two.lt y g;omega
 . rcases hk with hk|hk
   . exact(h2.new k hk).imp Or.inl id
   . exact Or.inl (Or.inr hk)
theorem Two.op2(q:Two w0 W p X U B E L s b p2 X2 U2 B2 E2 L2 s2 b2)(hp:SPost r W p2 X2 U2 B2 E2 s2' c e W'):e= .returned r/\∃U' L',Two w0 W' p X U B E L s b p2 X2 U' B2 E2 L' s2' c/\Went W W' (tw p U B E p2 U2 B2 E2) (tw p U B E p2 U' B2 E2):=by
 obtain⟨he,U',L',h1,h2⟩:=q.two.op hp;refine⟨he,U',L',⟨⟨q.one.ca.beside h2.turn λk hk g=>q.off k hk g,h1.bel,q.one.low⟩,h1,λy hy g=>?_⟩,⟨λk hk=>?_,h2.turn.wide λk _ g=>Or.inr g⟩⟩
 . rcases h2.new y g with h|h
   . exact q.off y hy h
   . have:=q.one.lt y hy;omega
 . rcases hk with hk|hk
   . exact Or.inl (Or.inl hk)
   . exact(h2.new k hk).imp Or.inr id
theorem RB.went(h:RB W T v xs)(g:Went W W' T T'):RB W' T' v xs:=by
 rcases h with h|⟨k,h1,h2,h3⟩
 . exact Or.inl h
 . have o:=SR.went_out g h1 h3;exact Or.inr ⟨k,Nat.lt_of_lt_of_le h1 g.turn.size,h2.same g.turn.size λ_=>o.1,o.2⟩
theorem RB.below(h:RB W T v xs)(g:Below W.heap.size W W'):RB W' T v xs:=h.went (Went.below g)
theorem RB.row(h:RB W T v xs):∃g,Row W g v xs:=by
 rcases h with⟨rfl,A,c,rfl⟩|⟨g,_,h2,_⟩
 . exact⟨0,Row.nil W 0 A c⟩
 . exact⟨g,h2⟩
theorem RB.made{W0:World}(hT:∀k,T k->k < W0.heap.size)(o:Own W W0.heap.size v xs):RB W T v xs:=by
 obtain⟨g,h1,h2⟩:=o.row
 by_cases h:xs= []
 . obtain⟨A,c,e⟩:=h2.shape;rw[h] at e;exact Or.inl ⟨h,A,c,e⟩
 . exact Or.inr ⟨g,h2.lt h,h2,λe=>by have:=hT g e;omega⟩
end
theorem idx0(W:World)(x0 x1 x2 x3 x4 x5 x6:Int):(Instr.index 34 (.agg #[.int .i64 x0,.int .i64 x1,.int .i64 x2,.int .i64 x3,.int .i64 x4,.int .i64 x5,.int .i64 x6]) (.int .i64 0)).run Tryz.prog W= .ok (.int .i64 x0) W:=by kernel_rfl
theorem req_room{x:ISt}(h:x.Ok)(hr:x.keys.length < x.mo)(k:ByteArray):(∀y,y∈(x.req k).keys<->y∈x.keys\/y=k)/\(x.req k).keys.length<=x.keys.length+1/\x.hitB k=inn x.keys k:=by
 have hm:x.mo≠0:=by omega
 have f:=ISt.req_f h hm k;have ho:x.outB k=false:=by rw[f.outE,decide_eq_false (by omega),Bool.and_false]
 refine⟨λy=>⟨λhy=>f.old y hy,?_⟩,?_,f.hitE⟩
 . rintro(hy|rfl)
   . exact(f.stay y hy).resolve_right λe=>by rw[ho] at e;cases e.1
   . exact f.has
 . have:=f.len;rw[this];split <;> omega
structure TI(a c i:Nat)(s u:Sh):Prop where
 sa:s.shift=a
 sc:u.shift=c
 ls:s.left+i=1048576
 lu:u.left+i=1048576
 ms:1024<=(s.st 0).mo
 mu:1024<=(u.st 0).mo
 ks:(s.st 0).keys.length<=i
 ku:(u.st 0).keys.length<=i
 same:∀y,smp y a=true->(y∈(s.st 0).keys<->y∈(u.st 0).keys)
 le:s.mis 0<=u.mis 0
theorem TI.next{a c i:Nat}{s u:Sh}(q:TI a c i s u)(hac:c<=a)(hi:i < 200)(os:(s.st 0).Ok)(ou:(u.st 0).Ok)(key:ByteArray):
 TI a c (i+1) (s.req key) (u.req key)/\(smp key a=false->(s.req key).mis=s.mis/\((s.req key).st 0).keys=(s.st 0).keys)/\(smp key a=true->inn ((s.req key).st 0).keys key=true):=by
 have hls:=q.ls;have hlu:=q.lu;have hks:=q.ks;have hku:=q.ku;have hms:=q.ms;have hmu:=q.mu;have hle:=q.le;obtain⟨g1,g2,g3⟩:=Sh.req_go (s:=s) key (by omega);obtain⟨r1,r2,r3⟩:=Sh.req_go (s:=u) key (by omega);obtain⟨x1,x2,x3⟩:=req_room os (by omega) key;obtain⟨y1,y2,y3⟩:=req_room ou (by omega) key;have s1:=Sh.req_st s key 0;have u1:=Sh.req_st u key 0;have s2:=(Sh.asked_at s key 0).2;have u2:=(Sh.asked_at u key 0).2;rw[q.sa] at s1 s2;rw[q.sc] at u1 u2;cases ha:smp key a with
 |true=>
  have hc:=smp_less hac ha;rw[ha,if_pos rfl] at s1;rw[hc,if_pos rfl] at u1;rw[ha] at s2;rw[hc] at u2
  have hh:(s.st 0).hitB key=(u.st 0).hitB key:=by
   rw[x3,y3,Bool.eq_iff_iff,inn_iff,inn_iff];exact q.same key ha
  rw[hh] at s2;refine⟨⟨(Sh.req_same s key).1.trans q.sa,(Sh.req_same u key).1.trans q.sc,by rw[g1];omega,by rw[r1];omega,by rw[s1,ISt.mo_req];exact hms,by rw[u1,ISt.mo_req];exact hmu,by rw[s1];omega,by rw[u1];omega,λy hy=>?_,?_⟩,λe=>Bool.noConfusion e,λ_=>?_⟩
  . rw[s1,u1,x1,y1,q.same y hy]
  . rw[g3,r3,s2,u2];omega
  . rw[s1];exact inn_iff.2 ((x1 key).2 (Or.inr rfl))
 |false=>
  rw[ha,if_neg (by simp)] at s1;rw[ha,if_neg (by simp)] at s2
  have sm:(s.req key).mis=s.mis:=by
   rw[g3];unfold Sh.asked;rw[q.sa,ha];rfl
  refine⟨⟨(Sh.req_same s key).1.trans q.sa,(Sh.req_same u key).1.trans q.sc,by rw[g1];omega,by rw[r1];omega,by rw[s1];exact hms,?_,by rw[s1];omega,?_,λy hy=>?_,?_⟩,λ_=>⟨sm,by rw[s1]⟩,λe=>Bool.noConfusion e⟩
  . rw[u1];split
    . rw[ISt.mo_req];exact hmu
    . exact hmu
  . rw[u1];split
    . omega
    . omega
  . have hne:y≠key:=λe=>by rw[e,ha] at hy;cases hy
    rw[s1,u1];split
    . rw[y1,q.same y hy];exact⟨Or.inl,λh=>h.resolve_right hne⟩
    . exact q.same y hy
  . rw[sm,r3,u2];omega
set_option maxHeartbeats 8000000 in
set_option maxRecDepth 100000 in
theorem shadowIgnores_main(w:World)(sh:Nat)(A:Option Addr)(n cc:Nat)(S:Nat->ByteArray)(g0:¬((sh:Int) < 1))(g1:¬(10 < (sh:Int)))(hn:n<=maxLen)(hk:KRow w A n cc S)(hf:FewB n 0 S (λ_=>undef))(hl:Laid w/\Named w):
 Calls Tryz.prog 5 #[.int .i64 (sh:Int),.slice A n cc] w (RetB true w):=by
 have AW:=Lib.hid (awake_any w hl.1);have FW:=Lib.hid (λw1 hb=>few_told (w:=w) hn (Nat.zero_le _) hk (VRow.nil w (λ_=>undef)) (fb:=true) ⟨λ_=>hf,λ_=>rfl⟩ w1 hb);have LN:DR.Lanes w w.heap.size (.slice none 0 0) []:=⟨by simp,Or.inl ⟨rfl,none,0,rfl⟩⟩;have TP:=Lib.hid (λ(w1:World) (hb:Below w.heap.size w w1)=>DR.newE_any _ _ w1 (lanes_below LN hb));have KR:=Lib.hid hk;have FB:=Lib.hid hf;have e0:decide ((sh:Int) < 1)=false:=decide_eq_false g0;have e1:decide (10 < (sh:Int))=false:=decide_eq_false g1;have SZ:=Lib.hid (show 1<=sh/\sh<=10 from⟨by omega,by omega⟩);clear hk hl hf hn LN g0 g1;go_enter Tryz.func5,Tryz.ntmps5;go_wp2_with fail
 refine AW.out.mono ?_;rintro e w0 ⟨rfl,hb0⟩;have b0:=Lib.hid hb0;clear hb0 AW;go_wp2_with fail
 refine(FW.out w0 b0.out).mono ?_;rintro e w1 ⟨rfl,hB⟩;have b1:=Lib.hid (b0.out.trans (hB.mono b0.out.size));clear hB b0 FW;go_wp2_with fail
 refine Calls.mono (show Calls Tryz.prog 12 #[.slice none 0 0] w1 (DR.NewE [] w1) from TP.out w1 b1.out) ?_;rintro e w2 ⟨B,rfl,hT,hB0,hB⟩;have T1:=Lib.hid (And.intro hT (And.intro hB0 hB));clear hT hB0 hB;go_wp2_with fail
 refine Calls.mono (show Calls Tryz.prog 11 #[.int .i64 1048576,.int .i64 (sh:Int),.int .i64 1048576,.pointer (some ⟨B+1,0,none⟩)] w2 (SNew 1048576 sh 1048576 B w2.heap.size [] w2) from new_any w2 1048576 sh 1048576 B w2.heap.size [] (by omega) (by have:=SZ.out.2;omega) (by omega) (by omega) T1.out.1) ?_;rintro e w3 ⟨p,X,U,rfl,hC,hU,hB⟩;have L3:=Lib.hid (ShL.made b1.out T1.out.2.1 T1.out.2.2 hC hU hB);have b3:=Lib.hid (b1.out.trans ((T1.out.2.2.trans (hB.mono T1.out.2.2.size)).mono b1.out.size));generalize w2.heap.size=E at*;obtain⟨sc,hsc⟩:∃sc,sc=sh - 1:=⟨_,rfl⟩;have SC:=Lib.hid (show sc<=sh/\sc<=10/\sc+1=sh from by have:=SZ.out;omega);have wr1:IntKind.i64.wrap ((sh:Int) - 1)=(sc:Int):=by have:=SC.out;rw[IntWalk.i64_in _ (by omega)];omega
 clear hC hU hB T1 b1 hsc;go_wp2_with fail
 refine Calls.mono (show Calls Tryz.prog 12 #[.slice none 0 0] w3 (DR.NewE [] w3) from TP.out w3 b3.out) ?_;rintro e w4 ⟨B2,rfl,hT,hB0,hB⟩;have T2:=Lib.hid (And.intro hT (And.intro hB0 hB));have L4:=Lib.hid (L3.out.below hB);clear hT hB0 hB TP;go_wp2_with fail
 refine Calls.mono (show Calls Tryz.prog 11 #[.int .i64 1048576,.int .i64 (sc:Int),.int .i64 1048576,.pointer (some ⟨B2+1,0,none⟩)] w4 (SNew 1048576 sc 1048576 B2 w4.heap.size [] w4) from new_any w4 1048576 sc 1048576 B2 w4.heap.size [] (by omega) (by have:=SC.out.2.1;omega) (by omega) (by omega) T2.out.1) ?_;rintro e w5 ⟨p2,X2,U2,rfl,hC,hU,hB⟩;have Q:=Lib.hid (show Two w w5 p X U B E [] (Sh.start sh 1048576 (sml 1048576 sh) []) (λ_=>4*0) p2 X2 U2 B2 w4.heap.size [] (Sh.start sc 1048576 (sml 1048576 sc) []) (λ_=>4*0) from⟨L4.out.below hB,ShL.made b3.out T2.out.2.1 T2.out.2.2 hC hU hB,λy hy g=>by have:=L3.out.lt y hy;have:=hU y g;have:=T2.out.2.1;omega⟩)
 have sml_big:∀a,a<=10->1024<=sml 1048576 a:=λa ha=>by
  unfold sml;have h1:(2:Nat) ^ a<=2 ^ 10:=Nat.pow_le_pow_right (by omega) ha;have h2:1048576 / 2 ^ 10<=1048576 / 2 ^ a:=Nat.div_le_div_left h1 (Nat.pow_pos (by omega));have h3:1048576 / 2 ^ 10=1024:=rfl;omega
 have I0:=Lib.hid (show TI sh sc 0 (Sh.start sh 1048576 (sml 1048576 sh) []) (Sh.start sc 1048576 (sml 1048576 sc) []) from by
  have k1:=ISt.start_kind (k:=0) (by omega) (sml 1048576 sh) (DR.lget [] ((0:Nat):Int));have k2:=ISt.start_kind (k:=0) (by omega) (sml 1048576 sc) (DR.lget [] ((0:Nat):Int));have e1:((Sh.start sh 1048576 (sml 1048576 sh) []).st 0).keys= []:=k1.2.2.1;have e2:((Sh.start sc 1048576 (sml 1048576 sc) []).st 0).keys= []:=k2.2.2.1;refine⟨rfl,rfl,rfl,rfl,?_,?_,by rw[e1];exact Nat.le_refl _,by rw[e2];exact Nat.le_refl _,λy _=>by rw[e1,e2],Nat.le_refl _⟩
  . rw[show((Sh.start sh 1048576 (sml 1048576 sh) []).st 0).mo=sml 1048576 sh from k1.2.1];exact sml_big sh SZ.out.2
  . rw[show((Sh.start sc 1048576 (sml 1048576 sc) []).st 0).mo=sml 1048576 sc from k2.2.1];exact sml_big sc SC.out.2.1)
 generalize w4.heap.size=E2 at*;generalize Sh.start sh 1048576 (sml 1048576 sh) []=s0 at*;generalize Sh.start sc 1048576 (sml 1048576 sc) []=u0 at*;clear hC hU hB T2 b3 L3 L4 sml_big wr1;go_wp2_with fail
 go_loopw [9] (λv W=>∃(i:Nat) (U U2:Nat->Nat->Prop) (L L2:List (List Nat)) (s u:Sh),v= .int .i64 (i:Int)/\i<=n/\Two w W p X U B E L s (λ_=>4*i) p2 X2 U2 B2 E2 L2 u (λ_=>4*i)/\TI sh sc i s u) (λv _=>n - (intOf v).toNat)
 case atStart=>exact⟨0,U,U2,[],[],s0,u0,rfl,Nat.zero_le _,Q.out,I0.out⟩
 case round=>
  obtain⟨i,U,U2,L,L2,s,u,rfl,hi,hQ,hI⟩:=hrel;have R:=Lib.hid (And.intro hQ hI);clear hQ hI Q I0 s0 u0;have hn150:=FB.out.1
  by_cases hlt:i < n
  . have e0:decide (i < n)=true:=by simpa using hlt
    obtain⟨g,o,rfl,hg,hc1,hc2,hcell⟩:=KR.out.2 (by omega);have hsz:=FB.out.2.2.1 i hlt;obtain⟨key,hkey⟩:∃key,key=S i:=⟨_,rfl⟩;have KC:=Lib.hid (show ∀W,Below w.heap.size w W->W.cell? ⟨g,o+i,none⟩=some (.string key) from λW hb=>by rw[hkey];exact(hb.cell (p:=⟨g,o+i,none⟩) hg).trans (hcell i hlt));rw[← hkey] at hsz;have HS:=Lib.hid hsz;unfold maxLen at hc2;clear hcell hg hsz hkey;have NX:=Lib.hid (R.out.2.next SC.out.1 (by omega) (R.out.1.one.ok (k:=0) (by omega)) (R.out.1.two.ok (k:=0) (by omega)) key);have V:=Lib.hid (misses_any wr p _ _ _ _ _ _ R.out.1.one.ca.box);obtain⟨m1,hm1⟩:∃m,m=s.mis:=⟨_,rfl⟩;rw[← hm1] at V;have HM:=Lib.hid hm1;clear hm1;go_wp2_with fail
    refine V.out.mono ?_;rintro e w6 ⟨rfl,hB⟩;have R6:=Lib.hid (R.out.1.below hB);clear hB V;obtain⟨b1,b2⟩:=laid7_box w6 m1 (T:=tw p U B E p2 U2 B2 E2) (λy hy=>R6.out.lt hy);obtain⟨w7,hw7⟩:∃q,q=laid7 w6 m1:=⟨_,rfl⟩;rw[← hw7] at b1 b2;unfold laid7 at hw7;have LD:=Lib.hid (And.intro (R6.out.below b2) (And.intro b1 hw7));clear b1 b2 hw7;unfold agg7;go_upto_region 13 with fail
    rw[← LD.out.2.2];have LD:=Lib.hid (And.intro LD.out.1 LD.out.2.1);clear R6;generalize w6.heap.size=xm at*;have V:=Lib.hid (keys_any w7 p X U B E L s _ LD.out.1.one.ca 0 (by omega));obtain⟨ks,hks⟩:∃ks,ks=(s.st 0).keys:=⟨_,rfl⟩;rw[← hks] at V;have HK:=Lib.hid hks;clear hks;go_wp2_with fail
    refine Calls.mono (show Calls Tryz.prog 19 #[.pointer (some ⟨p,0,none⟩),.int .i64 0] w7 (RowPost ks w7) from V.out) ?_;rintro e w8 ⟨v8,rfl,hO,hB⟩;have Q8:=Lib.hid (And.intro (LD.out.1.below hB) (And.intro (LD.out.2.below hB) (RB.made (T:=tw p U B E p2 U2 B2 E2) (λk hk=>LD.out.1.lt hk) hO)));clear hO hB V LD;have h1:=KC.out w8 Q8.out.1.one.bel;have V:=Lib.hid (request_any w8 p X U B E L s _ key Q8.out.1.one.ca (by have:=HS.out;omega) (by have:=R.out.2.ls;omega) (λ_ _=>by show 4*i<=96800;omega));generalize decide (s.left=1)=bb at*;generalize s.req key=s1 at*;go_wp2_with fail
    refine V.out.mono ?_;intro e w9 hp;obtain⟨rfl,U9,L9,hQ9,hW9⟩:=Q8.out.1.op1 hp;have Q9:=Lib.hid (And.intro hQ9 (And.intro (Q8.out.2.1.went hW9) (Q8.out.2.2.went hW9)));clear hp hQ9 hW9 Q8 V h1;have h1:=KC.out w9 Q9.out.1.one.bel;have V:=Lib.hid (request_any w9 p2 X2 U2 B2 E2 L2 u _ key Q9.out.1.two.ca (by have:=HS.out;omega) (by have:=R.out.2.lu;omega) (λ_ _=>by show 4*i<=96800;omega));generalize decide (u.left=1)=bb2 at*;generalize u.req key=u1 at*;go_wp2_with fail
    refine V.out.mono ?_;intro e wa hp;obtain⟨rfl,Ua,La,hQa,hWa⟩:=Q9.out.1.op2 hp;have Qa:=Lib.hid (And.intro hQa (And.intro (Q9.out.2.1.went hWa) (Q9.out.2.2.went hWa)));clear hp hQa hWa Q9 V h1 R;have SAM:=Lib.hid (λ(W:World)=>smp_any key sh W (by have:=HS.out;omega) (by have:=SZ.out.2;omega));have eL:=Lib.hid NX.out.1.le;obtain⟨a1,ha1⟩:∃f,f=s1.mis:=⟨_,rfl⟩;obtain⟨a2,ha2⟩:∃f,f=u1.mis:=⟨_,rfl⟩;rw[← ha1,<-ha2] at eL;have HA:=Lib.hid (And.intro ha1 ha2);obtain⟨y1,hy1⟩:∃y,y=a1 0:=⟨_,rfl⟩;obtain⟨y2,hy2⟩:∃y,y=a2 0:=⟨_,rfl⟩;have hle:y1<=y2:=by rw[hy1,hy2];exact eL.out
    have HY:=Lib.hid (And.intro hy1 hy2);have e5:decide ((y2:Int) < (y1:Int))=false:=decide_eq_false (by omega);have e6:decide (y2 < y1)=false:=decide_eq_false (by omega);have h1:=KC.out wa Qa.out.1.one.bel;clear ha1 ha2 hy1 hy2 hle eL;have ixz:=λW (x0 x1 x2 x3 x4 x5 x6:Int)=>idx0 W x0 x1 x2 x3 x4 x5 x6;cases hq:smp key sh with
    |true=>
     rw[hq] at SAM;have HN:=Lib.hid (NX.out.2.2 hq);clear hq;go_wp2_with fail
     go_quiet((go_at_call 16;exact Calls.quiet_of_same (SAM.out _)))
     have hd:=SR.below_drewN wa nq;have Qb:=Lib.hid (Qa.out.1.below hd);clear hd Qa h1;generalize wa.drewN nq=wb at*;have az:=KC.out wb Qb.out.one.bel;go_wp2_with fail
     go_region_held3(λw'=>w'.cell? ⟨g,o+i,none⟩=some (.string key)) (first|(with_reducible exact az)|(with_reducible exact bz)|(with_reducible exact cz)|(with_reducible exact dz)|(with_reducible exact fz)|(with_reducible exact hz)|go_keep)
      (first
      |(go_at_call 14;have V:=misses_any _ p _ _ _ _ _ _ (Qb.out.below (bdrew wb)).one.ca.box;rw[← HA.out.1] at V;unfold agg7 at V;rw[← HY.out.1] at V;refine Calls.mono V ?_;rintro e wc ⟨rfl,hB⟩;have Qc:=Lib.hid ((Qb.out.below (bdrew wb)).below hB);have bz:=KC.out wc Qc.out.one.bel;clear hB V)
      |(go_at_call 14;have V:=misses_any _ p2 _ _ _ _ _ _ Qc.out.two.ca.box;rw[← HA.out.2] at V;unfold agg7 at V;rw[← HY.out.2] at V;refine Calls.mono V ?_;rintro e wd ⟨rfl,hB⟩;have Qd:=Lib.hid (Qc.out.below hB);have cz:=KC.out wd Qd.out.one.bel;clear hB V)
      |(go_at_call 16;refine(SAM.out _).mono ?_;rintro e we ⟨rfl,hw⟩;have dz:=hw▸cz;have Qe:=Lib.hid (hw▸Qd.out);clear hw)
      |(go_at_call 19;have V:=keys_any _ p X U9 B E L9 s1 _ Qe.out.one.ca 0 (by omega);refine Calls.mono V ?_;rintro e wf ⟨vf,rfl,hO,hB⟩;have Qf:=Lib.hid (Qe.out.below hB);obtain⟨gf,_,hr⟩:=hO.row;have HR:=Lib.hid hr;obtain⟨A9,c9,rfl⟩:=hr.shape;have fz:=KC.out wf Qf.out.one.bel;clear hO hB hr V)
      |(go_at_call 23;refine(refHas_any _ gf _ _ key HR.out).mono ?_;rw[HN.out];rintro e wg ⟨rfl,hw⟩;have hz:=hw▸fz;have Qg:=Lib.hid (hw▸Qf.out);clear hw))
     all_goals clear az bz cz dz fz hz Qb Qc Qd Qe Qf
     all_goals
      have FIN:=Lib.hid (show Two w wg p X U9 B E L9 s1 (λ_=>4*(i+1)) p2 X2 Ua B2 E2 La u1 (λ_=>4*(i+1)) from⟨Qg.out.one.mono (λ_ _=>by show 4*i+4<=4*(i+1);omega),Qg.out.two.mono (λ_ _=>by show 4*i+4<=4*(i+1);omega),Qg.out.off⟩);clear Qg;go_wp2_with fail
      go_roundw
      case rel=>exact⟨i+1,U9,Ua,L9,La,s1,u1,by go_num,by omega,FIN.out,NX.out.1⟩
      case measure=>simp[intOf] <;> omega
    |false=>
     rw[hq] at SAM;have HN:=Lib.hid (NX.out.2.1 hq);clear hq h1;have Qb:=Lib.hid (And.intro (Qa.out.1.below (bdrew wa)) (And.intro (Qa.out.2.1.below (bdrew wa)) (Qa.out.2.2.below (bdrew wa))));have az:=KC.out wa.drew Qb.out.1.one.bel;obtain⟨am0,am1,am2,am3,am4,am5,am6⟩:=Qb.out.2.1.cells;have q1:=λW=>neq7 W (m1 0:Int) (m1 1:Int) (m1 2:Int) (m1 3:Int) (m1 4:Int) (m1 5:Int) (m1 6:Int);have q3:=λ(W:World)=>guard7 W;go_wp2_with fail
     go_region_held3(λw'=>w'.cell? ⟨g,o+i,none⟩=some (.string key)/\w'.cell? ⟨xm,0,none⟩=some (.int .i64 (m1 0:Int))/\w'.cell? ⟨xm,1,none⟩=some (.int .i64 (m1 1:Int))/\w'.cell? ⟨xm,2,none⟩=some (.int .i64 (m1 2:Int))/\w'.cell? ⟨xm,3,none⟩=some (.int .i64 (m1 3:Int))/\w'.cell? ⟨xm,4,none⟩=some (.int .i64 (m1 4:Int))/\w'.cell? ⟨xm,5,none⟩=some (.int .i64 (m1 5:Int))/\w'.cell? ⟨xm,6,none⟩=some (.int .i64 (m1 6:Int))) (first|(with_reducible exact⟨az,am0,am1,am2,am3,am4,am5,am6⟩)|(with_reducible exact⟨bz,bm0,bm1,bm2,bm3,bm4,bm5,bm6⟩)|(with_reducible exact⟨cz,cm0,cm1,cm2,cm3,cm4,cm5,cm6⟩)|(with_reducible exact⟨dz,dm0,dm1,dm2,dm3,dm4,dm5,dm6⟩)|(with_reducible exact⟨fz,fm0,fm1,fm2,fm3,fm4,fm5,fm6⟩)|go_keep)
      (first
      |(go_at_call 16;refine(SAM.out _).mono ?_;rintro e wb ⟨rfl,hw⟩;have Qc:=Lib.hid (hw▸Qb.out);have bz:=KC.out wb Qc.out.1.one.bel;obtain⟨bm0,bm1,bm2,bm3,bm4,bm5,bm6⟩:=Qc.out.2.1.cells;clear hw)
      |(go_at_call 14;have V:=misses_any _ p _ _ _ _ _ _ Qc.out.1.one.ca.box;rw[HN.out.1,<-HM.out] at V;unfold agg7 at V;refine Calls.mono V ?_;rintro e wc ⟨rfl,hB⟩;have Qd:=Lib.hid (And.intro (Qc.out.1.below hB) (And.intro (Qc.out.2.1.below hB) (Qc.out.2.2.below hB)));have cz:=KC.out wc Qd.out.1.one.bel;obtain⟨cm0,cm1,cm2,cm3,cm4,cm5,cm6⟩:=Qd.out.2.1.cells;clear hB V)
      |(go_at_call 19;have V:=keys_any _ p X U9 B E L9 s1 _ Qd.out.1.one.ca 0 (by omega);rw[HN.out.2,<-HK.out] at V;refine Calls.mono V ?_;rintro e wd ⟨vf,rfl,hO,hB⟩;have Qe:=Lib.hid (And.intro (Qd.out.1.below hB) (And.intro (Qd.out.2.1.below hB) (Qd.out.2.2.below hB)));obtain⟨gf,_,hr⟩:=hO.row;have HR:=Lib.hid hr;have dz:=KC.out wd Qe.out.1.one.bel;obtain⟨dm0,dm1,dm2,dm3,dm4,dm5,dm6⟩:=Qe.out.2.1.cells;clear hO hB hr V)
      |(go_at_call 18;obtain⟨g8,hr8⟩:=Qe.out.2.2.row;have V:=refSame_any _ _ _ _ _ _ _ HR.out hr8;rw[decide_eq_true rfl] at V;refine Calls.mono V ?_;intro e wg0 hp;obtain⟨rfl,hB⟩:=same_below hp;have Qf:=Lib.hid (And.intro (Qe.out.1.below hB) (And.intro (Qe.out.2.1.below hB) (Qe.out.2.2.below hB)));have fz:=KC.out wg0 Qf.out.1.one.bel;obtain⟨fm0,fm1,fm2,fm3,fm4,fm5,fm6⟩:=Qf.out.2.1.cells;clear hp hB V hr8))
     clear az am0 am1 am2 am3 am4 am5 am6 bz bm0 bm1 bm2 bm3 bm4 bm5 bm6 cz cm0 cm1 cm2 cm3 cm4 cm5 cm6 dz dm0 dm1 dm2 dm3 dm4 dm5 dm6 fz fm0 fm1 fm2 fm3 fm4 fm5 fm6;clear q1 q3 Qa Qb Qc Qd Qe HN;have Qf:=Lib.hid Qf.out.1;generalize hwg:wg0=wb at*;clear hwg;have az:=KC.out wb Qf.out.one.bel;go_wp2_with fail
     refine rg (λw'=>w'.cell? ⟨g,o+i,none⟩=some (.string key)) az (λhHeld=>?_);refine tk 0 ?_;refine tk 3 ?_;refine rdy 1 (λK hK=>?_);go_simp;have V:=misses_any _ p _ _ _ _ _ _ (Qf.out.below (bdrew wb)).one.ca.box;rw[← HA.out.1] at V;unfold agg7 at V;rw[← HY.out.1] at V;refine Calls.mono V ?_;rintro e wh ⟨rfl,hB⟩;have Qh:=Lib.hid ((Qf.out.below (bdrew wb)).below hB);have bz:=KC.out wh Qh.out.one.bel;clear hB V hHeld;go_wp2_with fail
     refine hK.out _ _ ?_ (λhHeld=>?_)
     . exact bz
     clear hK K;refine tk 2 ?_;refine rdy 4 (λK hK=>?_);go_simp;have V:=misses_any _ p2 _ _ _ _ _ _ Qh.out.two.ca.box;rw[← HA.out.2] at V;unfold agg7 at V;rw[← HY.out.2] at V;refine Calls.mono V ?_;rintro e wi ⟨rfl,hB⟩;have Qi:=Lib.hid (Qh.out.below hB);have cz:=KC.out wi Qi.out.one.bel;clear hB V hHeld;go_wp2_with fail
     refine hK.out _ _ ?_ (λhHeld=>?_)
     . exact cz
     clear hK K;refine tk 5 ?_;refine tk 6 ?_;refine tk 7 ?_;refine tk 8 ?_;refine tk 9 ?_;refine tk 10 ?_;refine tk 11 ?_;refine tk 12 ?_;refine rdy 13 (λK hK=>?_);go_simp;refine(SAM.out _).mono ?_;rintro e wk ⟨rfl,hw⟩;have dz:=hw▸cz;have Qg:=Lib.hid (hw▸Qi.out);clear hw hHeld;go_wp2_with fail
     refine hK.out _ _ ?_ (λhHeld=>?_)
     . exact dz
     clear hK K;refine tk 14 ?_;refine tn 15 ?_;refine tn 16 ?_;refine tn 17 ?_;refine tn 18 ?_;refine tn 19 ?_;refine tn 20 ?_;refine tn 21 ?_;refine tn 22 ?_;refine tk 23 ?_;refine tk 24 ?_;refine dn ?_;refine NoPanic.normal ?_;clear az bz cz dz hHeld Qf Qh Qi;have FIN:=Lib.hid (show Two w wk p X U9 B E L9 s1 (λ_=>4*(i+1)) p2 X2 Ua B2 E2 La u1 (λ_=>4*(i+1)) from⟨Qg.out.one.mono (λ_ _=>by show 4*i+4<=4*(i+1);omega),Qg.out.two.mono (λ_ _=>by show 4*i+4<=4*(i+1);omega),Qg.out.off⟩);clear Qg;go_wp2_with fail
     go_roundw
     case rel=>exact⟨i+1,U9,Ua,L9,La,s1,u1,by go_num,by omega,FIN.out,NX.out.1⟩
     case measure=>simp[intOf] <;> omega
  . have e0:decide (i < n)=false:=by simpa using hlt
    go_wp2_with fail
    go_ret;exact⟨rfl,R.out.1.one.bel⟩
end Go.Proofs.YtdmmciggopmglaaGreatDoor.SW
namespace Go.Proofs.YtdmmciggopmglaaGreatDoor
open Go.ChangeShapes Go.WideShapes Go.ChangeAt Go.RowKit Sg
open Go.ChangeMaps (open_string shut_string)
theorem walk_shadowIgnores(a0:Int)(v1:Value)(w:World)(w0:(Lit.int .i64 a0).wf=true)(w1:CameS w v1)(hl:Laid w/\Named w):Calls Tryz.prog 5 #[.int .i64 a0,v1] w (IN.RetB true w):=by
 obtain⟨A,n,cc,rfl,hn,S,hr,hc⟩:=w1;have hz0:=i64_rng w0;obtain⟨fb,hfb⟩:=SW.few_bool n 0 S (λ_=>undef)
 by_cases hok:fb=true/\¬(a0 < 1)/\¬(10 < a0)
 . obtain⟨q,q0,q1⟩:=hok;obtain⟨sh,rfl⟩:∃m:Nat,a0=(m:Int):=⟨a0.toNat,by omega⟩;have hf:=hfb.1 q;exact SW.shadowIgnores_main w sh A n cc S q0 q1 hn ⟨hr,hc⟩ hf hl
 . have PW:=Lib.hid (show fb=false\/(fb=true/\decide (a0 < 1)=true)\/(fb=true/\decide (a0 < 1)=false/\decide (10 < a0)=true) from by
    by_cases pf:fb=true
    . refine Or.inr ?_
      by_cases p0:decide (a0 < 1)=true
      . exact Or.inl ⟨pf,p0⟩
      rw[Bool.not_eq_true] at p0
      by_cases p1:decide (10 < a0)=true
      . exact Or.inr (⟨pf,p0,p1⟩)
      rw[Bool.not_eq_true] at p1;exact absurd ⟨pf,of_decide_eq_false p0,of_decide_eq_false p1⟩ hok
    . exact Or.inl (by simpa using pf))
   have AW:=Lib.hid (SW.awake_any w hl.1);have FW:=Lib.hid (λw1 hb=>SW.few_told (w:=w) hn (Nat.zero_le _) ⟨hr,hc⟩ (SW.VRow.nil w (λ_=>undef)) hfb w1 hb);unfold maxLen at hn;clear hr hc hok hl hfb hz0 w0;rcases PW.out with rfl|⟨rfl,e0⟩|⟨rfl,e0,e1⟩
   all_goals
    clear PW;go_enter Tryz.func5,Tryz.ntmps5;go_wp2_with fail
    refine AW.out.mono ?_;rintro e w0 ⟨rfl,hb0⟩;have b0:=Lib.hid hb0;clear hb0 AW;go_wp2_with fail
    refine(FW.out w0 b0.out).mono ?_;rintro e w1 ⟨rfl,hB⟩;have b1:=Lib.hid (b0.out.trans (hB.mono b0.out.size));clear hB b0;go_wp2_with fail
    go_ret;exact⟨rfl,b1.out⟩
namespace LShadowIgnores
set_option maxRecDepth 100000 in
theorem lifted(os:Os)(started:os.Started)(H:Type)(enc:TypeId × Value->H):
 ReturnsInHanded {} Tryz.checked os 5 .any (λw args=>(Rows.shadowIgnoresSpec.pre enc Tryz.prog Tryz.f5 [] false w args/\laidMetH Tryz.prog seatLaid w)/\sizedMet enc Tryz.prog Tryz.f5 (OpenSpec.ofChange Rows.shadowIgnoresSpec) false w args)
  (Rows.shadowIgnoresSpec.post enc Tryz.prog Tryz.f5 false true false false):=by
 refine returnsInHanded_of_change_and (C:=Tryz.checked) (X:=λw _=>laidMetH Tryz.prog seatLaid w) (λ_ _ _ hh h=>h.of_heap hh) own started (by kernel_rfl) Tryz.func5
  (ChangeSpec.witness_at (enc:=enc) (C:=Tryz.checked) (os:=os) (X:=λw _=>laidMetH Tryz.prog seatLaid w) false (laidWorld os) #[.int .i64 0,.slice none 0 0] 8 rfl (by kernel_rfl) (by kernel_rfl) (by kernel_rfl) (by kernel_rfl) (by kernel_rfl) (laidWorld_met os _)) ?_
 intro W base args ds gs before hval0 hW _ _ hL _;have hval:∀(j:Nat) t v,Tryz.f5.params[j]?=some t->args[j]?=some v->Value.okWide Tryz.prog W .any base t v:=hval0
 have hW':=hW;obtain⟨p,q,hA0,hV,rfl,hfz,hnd⟩:=hW;have hA:DataW.TrodAll enc Tryz.prog W 0 (λ_=>true) true Tryz.f5.params.toList args.toList ds p:=hA0;rw[Tryz.params5] at hA hval;obtain⟨v0,vs0,d0,ds0,p0,q0,hargs,rfl,rfl,h0,r0⟩:=trodAll_cons hA;obtain⟨v1,vs1,d1,ds1,p1,q1,rfl,rfl,rfl,h1,r1⟩:=trodAll_cons r0;obtain⟨rfl,rfl,rfl⟩:=trodAll_nil r1;obtain rfl:args= #[v0,v1]:=by cases args;simp_all
 obtain⟨rfl,rfl⟩:=trodVars_none hV;obtain⟨a0,rfl,rfl,rfl,w0⟩:=open_int Tryz.underlying3 (hval 0 3 v0 rfl rfl) h0;have k1:=h1;have lt1:∀x∈p1,x.block < W.heap.size:=by obtain⟨m,hm⟩:=k1;exact DataW.trod_lt m _ _ _ hm
 have w1:=open_z (hval 1 23 v1 rfl rfl) h1;clear hA0 hval0;refine(walk_shadowIgnores a0 v1 W w0 w1 (laid_of hL)).mono λe W' ⟨he,bel⟩=>?_;subst he;exact⟨_,rfl,_,_,_,[],_,[],hW',trodAll_mk1 (shut_bool Tryz.underlying4 _),(trodAll_cons_mk (shut_int Tryz.underlying3 w0) (trodAll_cons_mk (Below.trod laidOut (by kernel_rfl) (of_decide_eq_true (by kernel_rfl)) k1 bel lt1) trodAll_mk0)),rfl,bel.frame _,λh=>by cases h⟩
theorem band{x y:Bool}(h:x=true)(k:y=true):(x&&y)=true:=by rw[h,k];rfl
set_option maxRecDepth 100000
theorem cj0:(Rows.shadowIgnoresRow.wf (OpenSpec.ofChange Rows.shadowIgnoresSpec))=true:=by kernel_rfl
theorem cj1:(laidOutB Tryz.pinned.checked.prog)=true:=by kernel_rfl
theorem cj2:(mapsRowed Tryz.pinned.checked.prog)=true:=by kernel_rfl
theorem cj9:(Rows.shadowIgnoresRow.inPlace==Tryz.pinned.checked.prog.inPlace 5)=true:=by kernel_rfl
theorem cj10:(Rows.shadowIgnoresRow.unfollowed==Tryz.pinned.checked.prog.unfollowed 5)=true:=by kernel_rfl
theorem cj11:(Rows.shadowIgnoresRow.recurses==Tryz.pinned.checked.prog.recurses 5)=true:=by kernel_rfl
theorem cj12:(Rows.shadowIgnoresRow.named==Tryz.pinned.checked.prog.varsNamed 5)=true:=by kernel_rfl
theorem cj22:(Rows.shadowIgnoresRow.plainKeys==Tryz.pinned.checked.prog.plainKeys)=true:=by kernel_rfl
theorem cj24:(Tryz.pinned.checked.prog.stopsHeard)=true:=by kernel_rfl
theorem cj25:(Tryz.pinned.checked.prog.mayEnter)=true:=by kernel_rfl
theorem cj26:(Rows.shadowIgnoresRow.lifted==Tryz.pinned.checked.prog.liftsFinal)=true:=by kernel_rfl
theorem cj27:(Tryz.pinned.checked.prog.make==some Rows.shadowIgnoresRow.make)=true:=by kernel_rfl
theorem closed:joinedFacts Tryz.pinned.checked.prog 5 Tryz.f5 Rows.shadowIgnoresSpec Rows.shadowIgnoresRow=true:=by
 unfold joinedFacts;exact band (band (band (band (band (band (band (band (band (band (band (band (band (band (band (band (band (band (band (band (band (band (band (band (band (band (band (band (band (band (band (cj0) cj1) cj2) (by kernel_rfl)) (by kernel_rfl)) (by kernel_rfl)) (by kernel_rfl)) (by kernel_rfl)) (by kernel_rfl)) cj9) cj10) cj11) cj12) (by kernel_rfl)) (by kernel_rfl)) (by kernel_rfl)) (by kernel_rfl)) (by kernel_rfl)) (by kernel_rfl)) (by kernel_rfl)) (by kernel_rfl)) (by kernel_rfl)) cj22) (by kernel_rfl)) cj24) cj25) cj26) cj27) (by kernel_rfl)) (by kernel_rfl)) (by kernel_rfl)) (by kernel_rfl)
theorem fnm:Tryz.pinned.checked.prog.funcNamed "cachewise/cachewiselaw12.ShadowIgnores" =some 5:=by kernel_rfl
theorem isIn:Tryz.f5.isInstance Tryz.pinned.checked.prog Rows.shadowIgnoresRow.origin Rows.shadowIgnoresRow.targs:=of_decide_eq_true (by kernel_rfl)
theorem isWr:Tryz.f5.isWrapper Tryz.pinned.checked.prog Rows.shadowIgnoresRow.wrapper Rows.shadowIgnoresRow.mainSum:=by unfold Func.isWrapper;rw[if_neg (of_decide_eq_false (by kernel_rfl))];exact⟨rfl,rfl⟩
theorem said:Rows.ShadowIgnoresSaid:=
 OpenClaim.holds_of_wide 5 Tryz.f5 rfl rfl rfl rfl rfl rfl rfl ⟨rfl,rfl,rfl,rfl,rfl⟩ rfl rfl rfl rfl rfl fnm Tryz.func5 closed isIn isWr
  (λos started H enc _=>lifted os started H enc)
theorem hwT:Rows.shadowIgnoresRow.wfByText (OpenSpec.ofChange Rows.shadowIgnoresSpec)=true:=by kernel_rfl
theorem mnI:Tryz.pinned.checked.prog.mainIs=some (Rows.shadowIgnoresCard.stood.harness.1,Rows.shadowIgnoresCard.stood.harness.2.toList):=by kernel_rfl
theorem lkT:Rows.shadowIgnoresCard.stood.looks=Tryz.pinned.checked.prog.looks []:=by kernel_rfl
theorem gsB:false=Rows.shadowIgnoresRow.goesBy Tryz.pinned.checked.prog:=by kernel_rfl
theorem sii:Tryz.prog.wantsStandIn 3=false:=by kernel_rfl
theorem siz:Tryz.prog.wantsStandIn 23=false:=by kernel_rfl
theorem card:Rows.ShadowIgnoresCardSaid:=
 Claim7.holds_tied_plain_at .later [] _ _ _ _ said (λ_ h=>by cases h) hwT (λ_ h=>by cases h) shadowIgnores_row_tie rfl ⟨rfl,rfl⟩ mnI rfl
  (λf fn hf hfn=>by
    obtain rfl:f=5:=Option.some.inj (fnm.symm.trans hf) |>.symm;obtain rfl:fn=Tryz.f5:=(Option.some.inj (Tryz.func5.symm.trans hfn)).symm;refine⟨lkT,λj t ht=>?_⟩;rw[Tryz.params5] at ht;rcases j with _|_|j
    . obtain rfl:t=3:=by simpa using ht.symm
      exact sii
    . obtain rfl:t=23:=by simpa using ht.symm
      exact siz
    . simp at ht)
  gsB
#print axioms card
end LShadowIgnores
end Go.Proofs.YtdmmciggopmglaaGreatDoor
