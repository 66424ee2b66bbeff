/- 'cachewiselaw12.ShadowWindows' returns true for every window, every row of lanes and every row of keys, and leaves what was there as it was. The listed variables read as the program's text lays them. -/
import Derived.Test.YtdmmciggopmglaaGreatDoorYh
import Derived.Test.YtdmmciggopmglaaGreatDoorYd
import Derived.Test.YtdmmciggopmglaaGreatDoorHd
import Derived.Test.YtdmmciggopmglaaGreatDoorCards
import Derived.Test.YtdmmciggopmglaaGreatDoorTie
import Derived.SevenTiedAt
import Derived.Deep.DeepCutAuto
import Derived.Deep.CutBlock
import Derived.Deep.RegionHeld3
import Derived.Deep.RegionLaw
set_option maxRecDepth 20000
namespace Go.Proofs.YtdmmciggopmglaaGreatDoor.SW
open Go.Maps Go.ChangeShapes Go.WideShapes Go.ChangeAt Go.RowKit Sg IN HS
theorem mod_next{i wi:Nat}(h:1<=wi):(i % wi+1=wi/\(i+1) % wi=0)\/(i % wi+1 < wi/\(i+1) % wi=i % wi+1):=by
 have h1:=Nat.mod_lt i h;have h2:(i+1) % wi=(i % wi+1) % wi:=(Nat.mod_add_mod i wi 1).symm;rw[h2];rcases Nat.lt_or_ge (i % wi+1) wi with g|g
 . exact Or.inr ⟨g,Nat.mod_eq_of_lt g⟩
 . have e:i % wi+1=wi:=by omega
   rw[e];exact Or.inl ⟨rfl,Nat.mod_self _⟩
structure WI(wi i:Nat)(s:Sh):Prop where
 sh:s.shift=0
 wn:s.win=wi
 ll:s.left+i % wi=wi
 l1:1<=s.left
 bd:∀k,s.sco k+s.mis k<=i
theorem WI.next{wi i:Nat}{s:Sh}(q:WI wi i s)(h:1<=wi)(K:ByteArray):WI wi (i+1) (s.req K)/\
 ((s.left=1/\(i+1) % wi=0/\(∀k,(s.req K).mis k=0)/\∀k,∃d,d<=1/\(s.req K).sco k=s.sco k / 2+s.mis k+d)\/
 (s.left≠1/\(i+1) % wi≠0/\(s.req K).sco=s.sco/\∀k,∃d,d<=1/\(s.req K).mis k=s.mis k+d)):=by
 have hd:∀k,(if(s.st k).hitB K=false then 1 else 0:Nat)<=1:=λk=>by split <;> omega
 have hl:=q.ll;have h1:=q.l1
 by_cases e:s.left=1
 . obtain⟨g1,g2,g3,g4,_,g6⟩:=Sh.req_end0 (s:=s) K q.sh e;rcases mod_next (i:=i) h with⟨m1,m2⟩|⟨m1,m2⟩
   . refine⟨⟨g1,g2.trans q.wn,by rw[g3,q.wn,m2];rfl,by rw[g3,q.wn];exact h,λk=>?_⟩,Or.inl ⟨e,m2,λk=>by rw[g4],λk=>⟨_,hd k,by rw[g6 k,Nat.add_assoc]⟩⟩⟩;have a1:=q.bd k;have a2:=hd k;rw[g6 k,g4];show _+0<=_;omega
   . omega
 . obtain⟨g1,g2,g3,g4,_,g6⟩:=Sh.req_go0 (s:=s) K q.sh e;rcases mod_next (i:=i) h with⟨m1,m2⟩|⟨m1,m2⟩
   . omega
   . refine⟨⟨g1,g2.trans q.wn,by rw[g3,m2];omega,by rw[g3];omega,λk=>?_⟩,Or.inr ⟨e,by omega,g4,λk=>⟨_,hd k,g6 k⟩⟩⟩;have a1:=q.bd k;have a2:=hd k;rw[g6 k,g4];omega
theorem A7.fr{w:World}{T:Nat->Prop}{x:Nat}{M:Nat->Nat}(h:A7 w T x M)(j:Nat):w.frozen? ⟨x,j,none⟩=false:=frozen_of_row w x j _ _ h.1
theorem A7.put{w:World}{T:Nat->Prop}{x:Nat}{M:Nat->Nat}(h:A7 w T x M){k:Nat}(hk:k < 7)(n:Nat):A7 (w.setCell ⟨x,k,none⟩ (.int .i64 (n:Int))) T x (pu M k n):=by
 refine⟨?_,h.2⟩;rw[heap_setCell_same _ _ _ _ _ _ h.1];rcases seven hk with rfl|rfl|rfl|rfl|rfl|rfl|rfl <;> rfl
theorem A7.side{w:World}{T:Nat->Prop}{x y:Nat}{M:Nat->Nat}(h:A7 w T y M)(hxy:y≠x)(k:Nat)(v:Value):A7 (w.setCell ⟨x,k,none⟩ v) T y M:=by
 have ht:Turn (λz=>z=x) w (w.setCell ⟨x,k,none⟩ v):=(Turn.refl (λz=>z=x) w).setCell (p:=⟨x,k,none⟩) (Or.inl rfl) v;exact⟨(ht.block y (heap_lt h.1) (λe=>hxy e)).trans h.1,h.2⟩
theorem ShL.put{w0 w:World}{p B E x:Nat}{X:Nat->Nat}{U:Nat->Nat->Prop}{L:List (List Nat)}{s:Sh}{b:Nat->Nat}(l:ShL w0 w p X U B E L s b)(hx:¬sblk p U B E x)(h0:w0.heap.size<=x)(k:Nat)(v:Value):ShL w0 (w.setCell ⟨x,k,none⟩ v) p X U B E L s b:=by
 have ht:Turn (λz=>z=x) w (w.setCell ⟨x,k,none⟩ v):=(Turn.refl (λz=>z=x) w).setCell (p:=⟨x,k,none⟩) (Or.inl rfl) v;exact⟨l.ca.beside ht λy hy e=>hx (e▸hy),l.bel.trans (ht.below (λy e=>by rw[e];exact h0) l.bel.size),l.low⟩
theorem A7.congr{w:World}{T:Nat->Prop}{x:Nat}{M M':Nat->Nat}(h:A7 w T x M)(e:∀k,k < 7->M' k=M k):A7 w T x M':=by
 refine⟨?_,h.2⟩;rw[h.1];unfold agg7;rw[e 0 (by omega),e 1 (by omega),e 2 (by omega),e 3 (by omega),e 4 (by omega),e 5 (by omega),e 6 (by omega)]
def zero7(w:World):World:=w.alloc (.cells #[.int .i64 0,.int .i64 0,.int .i64 0,.int .i64 0,.int .i64 0,.int .i64 0,.int .i64 0] 34)
theorem zero7_box(w:World){T:Nat->Prop}(hT:∀k,T k->k < w.heap.size):A7 (zero7 w) T w.heap.size (λ_=>0)/\Below w.heap.size w (zero7 w)/\(zero7 w).heap.size=w.heap.size+1:=
 ⟨⟨heap_alloc_new w _,λe=>Nat.lt_irrefl _ (hT _ e)⟩,(Below.refl w.heap.size w).alloc (Nat.le_refl _) _,by show(w.heap.push _).size=_;exact Array.size_push _⟩
structure W4(w0 w:World)(p:Nat)(X:Nat->Nat)(U:Nat->Nat->Prop)(B E:Nat)(L:List (List Nat))(s:Sh)(b:Nat->Nat)(xw xs:Nat)(a c:Nat->Nat):Prop where
 sh:ShL w0 w p X U B E L s b
 wa:A7 w (sblk p U B E) xw a
 sc:A7 w (sblk p U B E) xs c
theorem W4.below{w0 w w':World}{p B E xw xs:Nat}{X:Nat->Nat}{U:Nat->Nat->Prop}{L:List (List Nat)}{s:Sh}{b a c:Nat->Nat}(h:W4 w0 w p X U B E L s b xw xs a c)(hb:Below w.heap.size w w'):W4 w0 w' p X U B E L s b xw xs a c:=⟨h.sh.below hb,h.wa.below hb,h.sc.below hb⟩
structure W6(w0 w:World)(p:Nat)(X:Nat->Nat)(U:Nat->Nat->Prop)(B E:Nat)(L:List (List Nat))(s:Sh)(b:Nat->Nat)(xw xb xn:Nat)(a c m1 m2:Nat->Nat):Prop where
 w4:W4 w0 w p X U B E L s b xw (xw+1) a c
 be:A7 w (sblk p U B E) xb m1
 no:A7 w (sblk p U B E) xn m2
section
variable{w0 w w':World}{p B E xw xb xn:Nat}{X:Nat->Nat}{U:Nat->Nat->Prop}{L:List (List Nat)}{s:Sh}{b a a' c m1 m2:Nat->Nat}
theorem W6.below(h:W6 w0 w p X U B E L s b xw xb xn a c m1 m2)(hb:Below w.heap.size w w'):W6 w0 w' p X U B E L s b xw xb xn a c m1 m2:=⟨h.w4.below hb,h.be.below hb,h.no.below hb⟩
theorem W6.put(h:W6 w0 w p X U B E L s b xw xb xn a c m1 m2)(h0:w0.heap.size<=xw)(n1:xb≠xw)(n2:xn≠xw){k:Nat}(hk:k < 7)(n:Nat)(ha:∀j,j < 7->a' j=pu a k n j):W6 w0 (w.setCell ⟨xw,k,none⟩ (.int .i64 (n:Int))) p X U B E L s b xw xb xn a' c m1 m2:=
 ⟨⟨h.w4.sh.put h.w4.wa.2 h0 k _,(h.w4.wa.put hk n).congr ha,h.w4.sc.side (by omega) k _⟩,h.be.side n1 k _,h.no.side n2 k _⟩
theorem W4.all(h:W4 w0 w p X U B E L s b xw (xw+1) a c)(h0:w0.heap.size<=xw)(M:Nat->Nat){v:World}(hv:v=(((((((w.setCell ⟨xw+1,0,none⟩ (.int .i64 (M 0:Int))).setCell ⟨xw+1,1,none⟩ (.int .i64 (M 1:Int))).setCell ⟨xw+1,2,none⟩ (.int .i64 (M 2:Int))).setCell ⟨xw+1,3,none⟩ (.int .i64 (M 3:Int))).setCell ⟨xw+1,4,none⟩ (.int .i64 (M 4:Int))).setCell ⟨xw+1,5,none⟩ (.int .i64 (M 5:Int))).setCell ⟨xw+1,6,none⟩ (.int .i64 (M 6:Int))))(ha:∀j,j < 7->a' j=a j):W4 w0 v p X U B E L s b xw (xw+1) a' M:=by
 obtain⟨p1,p2⟩:=put7 h.sc.1 M;rw[← hv] at p1 p2;refine⟨⟨h.sh.ca.beside p2 λy hy e=>h.sc.2 (e▸hy),h.sh.bel.trans (p2.below (λy e=>by rw[e];omega) h.sh.bel.size),h.sh.low⟩,A7.congr ⟨(p2.block xw (heap_lt h.wa.1) (by omega)).trans h.wa.1,h.wa.2⟩ ha,⟨p1,h.sc.2⟩⟩
end
set_option maxHeartbeats 8000000 in
set_option maxRecDepth 100000 in
theorem shadowWindows_main(w:World)(wi:Nat)(Al:Option Addr)(nl cl:Nat)(V:Nat->Value)(L:List (List Nat))(A:Option Addr)(n cc:Nat)(S:Nat->ByteArray)(g0:¬((wi:Int) < 1))(g1:¬(50 < (wi:Int)))(hn:n<=maxLen)(hnl:nl<=maxLen)(hk:KRow w A n cc S)(hv:VRow w Al nl cl V)(hL:DR.Lanes w w.heap.size (.slice Al nl cl) L)(hf:FewB n nl S V)(hl:Laid w/\Named w):
 Calls Tryz.prog 4 #[.int .i64 (wi:Int),.slice Al nl cl,.slice A n cc] w (RetB true w):=by
 have AW:=Lib.hid (awake_any w hl.1);have FW:=Lib.hid (λw1 hb=>few_told (w:=w) hn hnl hk hv (fb:=true) ⟨λ_=>hf,λ_=>rfl⟩ w1 hb);have LN:DR.Lanes w w.heap.size (.slice Al nl cl) L:=hL;have TP:=Lib.hid (λ(w1:World) (hb:Below w.heap.size w w1)=>DR.newE_any _ _ w1 (lanes_below LN hb));have KR:=Lib.hid hk;have FB:=Lib.hid hf;have e0:decide ((wi:Int) < 1)=false:=decide_eq_false g0;have e1:decide (50 < (wi:Int))=false:=decide_eq_false g1;have SZ:=Lib.hid (show 1<=wi/\wi<=50 from⟨by omega,by omega⟩);clear hk hl hf hn LN hv hL hnl g0 g1;go_enter Tryz.func4,Tryz.ntmps4;go_wp2_with fail
 refine AW.out.mono ?_;rintro e w0 ⟨rfl,hb0⟩;have b0:=Lib.hid hb0;clear hb0 AW;go_wp2_with fail
 refine(FW.out w0 b0.out).mono ?_;rintro e w1 ⟨rfl,hB⟩;have b1:=Lib.hid (b0.out.trans (hB.mono b0.out.size));clear hB b0 FW;go_wp2_with fail
 refine(TP.out w1 b1.out).mono ?_;rintro e w2 ⟨B,rfl,hT,hB0,hB⟩;have T1:=Lib.hid (And.intro hT (And.intro hB0 hB));clear hT hB0 hB;go_wp2_with fail
 refine Calls.mono (show Calls Tryz.prog 11 #[.int .i64 3,.int .i64 0,.int .i64 (wi:Int),.pointer (some ⟨B+1,0,none⟩)] w2 (SNew 3 0 wi B w2.heap.size L w2) from new_any w2 3 0 wi B w2.heap.size L (by omega) (by omega) SZ.out.1 (by have:=SZ.out.2;omega) T1.out.1) ?_;rintro e w3 ⟨p,X,U,rfl,hC,hU,hB⟩;have L3:=Lib.hid (ShL.made b1.out T1.out.2.1 T1.out.2.2 hC hU hB);generalize w2.heap.size=E at*;rw[show sml 3 0=3 from rfl] at L3;have I0:=Lib.hid (show WI wi 0 (Sh.start 0 wi 3 L)/\(∀k,(Sh.start 0 wi 3 L).mis k=0)/\∀k,(Sh.start 0 wi 3 L).sco k=0 from⟨⟨rfl,rfl,by rw[Nat.zero_mod];rfl,SZ.out.1,λ_=>Nat.le_refl _⟩,λ_=>rfl,λ_=>rfl⟩);generalize Sh.start 0 wi 3 L=s0 at*;clear hC hU hB T1 TP b1;obtain⟨w4,hw4⟩:∃q,q=zero7 w3:=⟨_,rfl⟩;obtain⟨w5,hw5⟩:∃q,q=zero7 w4:=⟨_,rfl⟩;obtain⟨z1,z2,z3⟩:=zero7_box w3 (T:=sblk p U B E) L3.out.lt;rw[← hw4] at z1 z2 z3;have L4:=L3.out.below z2;obtain⟨z4,z5,z6⟩:=zero7_box w4 (T:=sblk p U B E) L4.lt;rw[← hw5] at z4 z5 z6;have hs4:w4.heap.size=w3.heap.size+1:=z3;rw[hs4] at z4;unfold zero7 at hw4 hw5;have HW:=Lib.hid (And.intro hw4 hw5);have LD:=Lib.hid (show W4 w w5 p X U B E _ s0 _ w3.heap.size (w3.heap.size+1) s0.mis s0.sco/\w.heap.size<=w3.heap.size from⟨⟨L4.below z5,(z1.below z5).congr λk _=>I0.out.2.1 k,z4.congr λk _=>I0.out.2.2 k⟩,L3.out.bel.size⟩);have I1:=Lib.hid I0.out.1;clear z1 z2 z3 z4 z5 z6 L4 hw4 hw5 hs4 I0;go_upto_region 9 with fail
 rw[← HW.out.1,<-HW.out.2];clear HW L3;generalize w3.heap.size=xw at*;have XX:=Lib.hid LD.out.2;have LE:=Lib.hid LD.out.1;clear LD;go_wp2_with fail
 go_loopw [11] (λv W=>∃(i:Nat) (U:Nat->Nat->Prop) (M:List (List Nat)) (s:Sh),v= .int .i64 (i:Int)/\i<=n/\W4 w W p X U B E M s (λ_=>4*i) xw (xw+1) s.mis s.sco/\WI wi i s) (λv _=>n - (intOf v).toNat)
 case atStart=>exact⟨0,U,_,s0,rfl,Nat.zero_le _,LE.out,I1.out⟩
 case round=>
  obtain⟨i,U1,L1,s,rfl,hi,hR,hD⟩:=hrel;have R:=Lib.hid (And.intro hR hD);clear hR hD LE I1 U s0;have hn150:=FB.out.1
  by_cases hlt:i < n
  . have e0:decide (i < n)=true:=by simpa using hlt
    have VL:=Lib.hid (left_any wr p _ _ _ _ _ _ R.out.1.sh.ca.box);obtain⟨l0,hl0⟩:∃m,m=s.left:=⟨_,rfl⟩;rw[← hl0] at VL;have HL:=Lib.hid hl0;clear hl0;go_wp2_with fail
    refine VL.out.mono ?_;rintro e w4 ⟨rfl,hB⟩;have R4:=Lib.hid (R.out.1.below hB);clear hB VL;have V:=Lib.hid (misses_any w4 p _ _ _ _ _ _ R4.out.sh.ca.box);obtain⟨m1,hm1⟩:∃m,m=s.mis:=⟨_,rfl⟩;rw[← hm1] at V;have HM1:=Lib.hid hm1;clear hm1;go_wp2_with fail
    refine V.out.mono ?_;rintro e w5 ⟨rfl,hB⟩;have R5:=Lib.hid (R4.out.below hB);clear hB V R4;obtain⟨b1,b2⟩:=laid7_box w5 m1 (T:=sblk p U1 B E) R5.out.sh.lt;obtain⟨w6,hw6⟩:∃q,q=laid7 w5 m1:=⟨_,rfl⟩;rw[← hw6] at b1 b2;unfold laid7 at hw6;have R6:=Lib.hid (And.intro (R5.out.below b2) (And.intro b1 hw6));clear b1 b2 hw6;unfold agg7;go_upto_region 14 with fail
    rw[← R6.out.2.2];have R6:=Lib.hid (And.intro R6.out.1 R6.out.2.1);have hxb:w5.heap.size≠xw:=by have:=heap_lt R5.out.wa.1;omega
    clear R5;generalize w5.heap.size=xb at*;obtain⟨g,o,rfl,hg,hc1,hc2,hcell⟩:=KR.out.2 (by omega);have h1:=(R6.out.1.sh.bel.cell (p:=⟨g,o+i,none⟩) hg).trans (hcell i hlt);have hsz:=FB.out.2.2.1 i hlt;have V1:=Lib.hid (request_any w6 p X U1 B E L1 s _ (S i) R6.out.1.sh.ca (by omega) R.out.2.l1 (λ_ _=>by show 4*i<=96800;omega));have NX:=Lib.hid (R.out.2.next SZ.out.1 (S i));have W0:=Lib.hid (show WI wi i s/\l0=s.left/\m1=s.mis from⟨R.out.2,HL.out,HM1.out⟩);generalize S i=kj at*;obtain⟨bb,hbb⟩:∃b,b=decide (s.left=1):=⟨_,rfl⟩;rw[← hbb] at V1;generalize s.req kj=s2 at*;have HB:=Lib.hid hbb;clear hcell hg hsz HL HM1 R hbb;unfold maxLen at hc2;go_wp2_with fail
    refine V1.out.mono ?_;intro e w7 hp;obtain⟨rfl,U7,L7,hR7,hW⟩:=R6.out.1.sh.op hp;have R7:=Lib.hid (And.intro (show W4 w w7 p X U7 B E L7 s2 (λ_=>4*(i+1)) xw (xw+1) s.mis s.sco from⟨hR7.mono (λ_ _=>by show 4*i+4<=4*(i+1);omega),R6.out.1.wa.went hW,R6.out.1.sc.went hW⟩) (R6.out.2.went hW));clear hp hR7 hW V1 h1 R6;have V:=Lib.hid (misses_any w7 p _ _ _ _ _ _ R7.out.1.sh.ca.box);obtain⟨m2,hm2⟩:∃m,m=s2.mis:=⟨_,rfl⟩;rw[← hm2] at V;have HM:=Lib.hid hm2;clear hm2;go_wp2_with fail
    refine V.out.mono ?_;rintro e w8 ⟨rfl,hB⟩;have R8:=Lib.hid (And.intro (R7.out.1.below hB) (R7.out.2.below hB));clear hB V R7;obtain⟨b1,b2⟩:=laid7_box w8 m2 (T:=sblk p U7 B E) R8.out.1.sh.lt;obtain⟨w9,hw9⟩:∃q,q=laid7 w8 m2:=⟨_,rfl⟩;rw[← hw9] at b1 b2;unfold laid7 at hw9;have R9:=Lib.hid (And.intro (R8.out.1.below b2) (And.intro (R8.out.2.below b2) (And.intro b1 hw9)));clear b1 b2 hw9;unfold agg7;go_upto_region 16 with fail
    rw[← R9.out.2.2.2];have R9:=Lib.hid (And.intro R9.out.1 (And.intro R9.out.2.1 R9.out.2.2.1));have hxn:w8.heap.size≠xw:=by have:=heap_lt R8.out.1.wa.1;omega
    have XN:=Lib.hid (And.intro hxb hxn);clear R8 hxb hxn;generalize w8.heap.size=xn at*;have RA:=Lib.hid (show W6 w w9 p X U7 B E L7 s2 (λ_=>4*(i+1)) xw xb xn s.mis s.sco m1 m2 from⟨R9.out.1,R9.out.2.1,R9.out.2.2⟩);clear R9;obtain⟨q,hq⟩:∃q,q=i % wi:=⟨_,rfl⟩;have QL:=Lib.hid (show l0+q=wi/\i<=150 from⟨by rw[W0.out.2.1,hq];exact W0.out.1.ll,by omega⟩);have hq1:(i:Int) % (wi:Int)=(q:Int):=by rw[hq];rfl
    have hq2:Int.tmod (i:Int) (wi:Int)=(q:Int):=by rw[hq];rfl
    have hw0:((wi:Int)==0)=false:=beq_eq_false_iff_ne.2 (by have:=SZ.out.1;omega);have hl9:IntKind.i64.wrap ((wi:Int) - (q:Int))=(l0:Int):=by have:=QL.out;have:=SZ.out;rw[IntWalk.i64_in _ (by omega)];omega
    have e1:((l0:Int) != (l0:Int))=false:=by simp
    have hl8:wrap64 ((wi:Int) - (i:Int) % (wi:Int))=(l0:Int):=by have:=QL.out;have:=SZ.out;rw[hq1,IntWalk.wrap64_in _ (by omega)];omega
    have el:((l0:Int) != wrap64 ((wi:Int) - (i:Int) % (wi:Int)))=false:=by rw[hl8];exact e1
    have ew1:decide (wi=0)=false:=decide_eq_false (by have:=SZ.out.1;omega);have ew2:(wi==0)=false:=beq_eq_false_iff_ne.2 (by have:=SZ.out.1;omega);have ew3:¬wi=0:=by have:=SZ.out.1;omega
    have IN:=Lib.hid hlt;clear hq hlt hl8;rcases NX.out.2 with⟨g1,g2,g3,g4⟩|⟨g1,g2,g3,g4⟩
    . obtain rfl:bb=true:=by rw[HB.out];exact decide_eq_true g1
      have hr1:((i:Int)+1) % (wi:Int)=0:=by have h:(((i+1) % wi:Nat):Int)=0:=by rw[g2];rfl
                                            exact h
      have hr2:Int.tmod ((i:Int)+1) (wi:Int)=0:=by have h:(((i+1) % wi:Nat):Int)=0:=by rw[g2];rfl
                                                   exact h
      have er:decide (((i:Int)+1) % (wi:Int)=0)=true:=decide_eq_true hr1;have er2:(((i:Int)+1) % (wi:Int)==0)=true:=beq_iff_eq.2 hr1;have GG:=Lib.hid (show(∀k,s2.mis k=0)/\∀k,∃d,d<=1/\s2.sco k=s.sco k / 2+s.mis k+d from⟨g3,g4⟩);clear g1 g2 g3 g4;clear hr1 hr2 hq1 hq2 hl9 e1;go_wp2_with fail
      clear er er2 el ew1 ew2 ew3 hw0;go_loopw [16] (λv W=>∃k:Nat,v= .int .i64 (k:Int)/\k<=7/\W6 w W p X U7 B E L7 s2 (λ_=>4*(i+1)) xw xb xn (λj=>if j < k then s2.mis j else s.mis j) s.sco m1 m2) (λv _=>7 - (intOf v).toNat)
      case atStart=>exact⟨0,rfl,by omega,RA.out⟩
      case round=>
       obtain⟨k,rfl,hk,hL⟩:=hrel;have L2:=Lib.hid hL;clear hL RA;have hi150:=QL.out.2
       by_cases hlt3:k < 7
       . have e4:decide ((k:Int) < 7)=true:=decide_eq_true (by omega);have hbd:=W0.out.1.bd k;obtain⟨d,hd1,hd2⟩:=GG.out.2 k;obtain⟨c,hc⟩:∃c,c=s.sco k:=⟨_,rfl⟩;obtain⟨b,hb⟩:∃b,b=s.mis k:=⟨_,rfl⟩;rw[← hc,<-hb] at hbd;have i0:=ix0 hlt3 xb;have i1:=ix0 hlt3 xw;have i2:=ix0 hlt3 xn;have i3:=ix0 hlt3 (xw+1);obtain⟨h,hh⟩:∃h,h=c / 2:=⟨_,rfl⟩;obtain⟨z,hz⟩:∃z,z=s2.sco k:=⟨_,rfl⟩;have hz2:z=h+b+d:=by rw[hz,hd2,<-hc,<-hb,hh]
         have hz0:s2.mis k=0:=GG.out.1 k
         have CF:=Lib.hid (show(∀W:World,W6 w W p X U7 B E L7 s2 (λ_=>4*(i+1)) xw xb xn (λj=>if j < k then s2.mis j else s.mis j) s.sco m1 m2->W.cell? ⟨xw+1,k,none⟩=some (.int .i64 (c:Int))/\W.cell? ⟨xb,k,none⟩=some (.int .i64 (b:Int))/\W.cell? ⟨xw,k,none⟩=some (.int .i64 (b:Int))/\W.cell? ⟨xn,k,none⟩=some (.int .i64 0)) from λW q=>by
          refine⟨?_,?_,?_,?_⟩
          . rw[hc];exact q.w4.sc.cell hlt3
          . rw[hb,<-W0.out.2.2];exact q.be.cell hlt3
          . have:=q.w4.wa.cell hlt3;rw[if_neg (Nat.lt_irrefl k)] at this;rw[hb];exact this
          . have:=q.no.cell hlt3;rw[HM.out,hz0] at this;exact this)
         have V:=scores_any wr.drew p _ _ _ _ _ _ (L2.out.below (bdrew wr)).w4.sh.ca.box;obtain⟨s7,hs7⟩:∃m,m=s2.sco:=⟨_,rfl⟩;rw[← hs7] at V;have i4:=λW=>ix7 hlt3 s7 W;rw[show s7 k=z from by rw[hs7,hz]] at i4;unfold agg7 at V
         replace V:=Lib.hid V
         have hq0:(c:Int) / 2=(h:Int):=by omega
         have hw3:IntKind.i64.wrap (h:Int)=(h:Int):=by rw[IntWalk.i64_in _ (by omega)]
         obtain⟨y,hy⟩:∃y,y=b+d:=⟨_,rfl⟩;have hw1:IntKind.i64.wrap ((z:Int) - (h:Int))=(y:Int):=by rw[IntWalk.i64_in _ (by omega)];omega
         have hw2:IntKind.i64.wrap ((y:Int) - (b:Int))=(d:Int):=by rw[IntWalk.i64_in _ (by omega)];omega
         have WR:=Lib.hid (show wrap64 (wrap64 ((z:Int) - wrap64 (h:Int)) - (b:Int))=(d:Int) from by rw[IntWalk.wrap64_in (h:Int) (by omega),IntWalk.wrap64_in ((z:Int) - (h:Int)) (by omega),IntWalk.wrap64_in _ (by omega)];omega);have e5:decide ((d:Int) < 0)=false:=decide_eq_false (by omega);have e6:decide (1 < (d:Int))=false:=decide_eq_false (by omega);have e7:((b:Int) != (b:Int))=false:=by simp
         have e8:((0:Int) != 0)=false:=rfl;obtain⟨a0,a1,_,_⟩:=CF.out wr L2.out;have HK:=Lib.hid (show k < 7/\s2.mis k=0 from⟨hlt3,hz0⟩);clear hbd hd2 hc hb hh hz hz2 hz0 hs7 hy;go_wp2_with fail
         go_region_held3(λw'=>w'.cell? ⟨xw+1,k,none⟩=some (.int .i64 (c:Int))/\w'.cell? ⟨xb,k,none⟩=some (.int .i64 (b:Int))) (first|(with_reducible exact⟨a0,a1⟩)|(with_reducible exact⟨y0,y1⟩)|go_keep)
          ((go_at_call 22;refine V.out.mono ?_;rintro e we ⟨rfl,hB⟩;have L3:=Lib.hid ((L2.out.below (bdrew wr)).below hB);obtain⟨y0,y1,_,_⟩:=CF.out we L3.out;clear hB V))
         clear a0 a1 y0 y1 L2;obtain⟨a0,a1,a2,a3⟩:=CF.out we L3.out;clear i3 i4 hq0 hw3 hw1 hw2;go_wp2_with fail
         go_quiet(fail)
         have hd:=SR.below_drewN we nq;have L4:=Lib.hid (L3.out.below hd);clear hd L3 a0 a1 a2 a3;generalize we.drewN nq=wf at*;obtain⟨a0,a1,a2,a3⟩:=CF.out wf L4.out;have f0:=L4.out.w4.wa.fr k
         have FN:=Lib.hid (L4.out.put (a':=λj=>if j < k+1 then s2.mis j else s.mis j) XX.out XN.out.1 XN.out.2 hlt3 0 (λj _=>by
          show(if j < k+1 then s2.mis j else s.mis j)=if j=k then 0 else if j < k then s2.mis j else s.mis j
          by_cases e:j=k
          . rw[if_pos e,if_pos (by omega),e];exact HK.out.2
          . by_cases h:j < k
            . rw[if_neg e,if_pos h,if_pos (by omega)]
            . rw[if_neg e,if_neg h,if_neg (by omega)]))
         clear L4 CF;go_wp2_with fail
         go_roundw
         case rel=>exact⟨k+1,by go_num,by omega,FN.out⟩
         case measure=>simp[intOf] <;> omega
       . obtain rfl:k=7:=by omega
         have e4:decide ((7:Int) < 7)=false:=rfl;go_wp2_with fail
         go_quiet(fail)
         have hd:=SR.below_drewN wr nq;have L4:=Lib.hid (L2.out.w4.below hd);clear hd L2;generalize wr.drewN nq=we at*;have V:=scores_any we p _ _ _ _ _ _ L4.out.sh.ca.box;obtain⟨s7,hs7⟩:∃m,m=s2.sco:=⟨_,rfl⟩;rw[← hs7] at V;unfold agg7 at V
         replace V:=Lib.hid V
         have HS7:=Lib.hid hs7;clear hs7;go_wp2_with fail
         refine V.out.mono ?_;rintro e wf ⟨rfl,hB⟩;have L5:=Lib.hid (L4.out.below hB);clear hB V L4;obtain⟨a0,a1,a2,a3,a4,a5,a6⟩:=L5.out.sc.cells;have f0:=L5.out.sc.fr 0;have f1:=L5.out.sc.fr 1;have f2:=L5.out.sc.fr 2;have f3:=L5.out.sc.fr 3;have f4:=L5.out.sc.fr 4;have f5:=L5.out.sc.fr 5;have f6:=L5.out.sc.fr 6;have FN:=Lib.hid (L5.out.all (a':=s2.mis) XX.out s7 rfl λj hj=>(if_pos hj).symm);have NY:=Lib.hid NX.out.1;clear L5;go_wp2_with fail
         go_roundw
         case rel=>exact⟨i+1,U7,L7,s2,by go_num,IN.out,by rw[← HS7.out];exact FN.out,NY.out⟩
         case measure=>have:=IN.out;simp[intOf] <;> omega
    . obtain rfl:bb=false:=by rw[HB.out];exact decide_eq_false g1
      obtain⟨r,hr⟩:∃r,r=(i+1) % wi:=⟨_,rfl⟩;rw[← hr] at g2;have hr1:((i:Int)+1) % (wi:Int)=(r:Int):=by rw[hr];rfl
      have hr2:Int.tmod ((i:Int)+1) (wi:Int)=(r:Int):=by rw[hr];rfl
      have er:decide (((i:Int)+1) % (wi:Int)=0)=false:=decide_eq_false (by rw[hr1];omega);have er2:(((i:Int)+1) % (wi:Int)==0)=false:=beq_eq_false_iff_ne.2 (by rw[hr1];omega);have GG:=Lib.hid (show s2.sco=s.sco/\∀k,∃d,d<=1/\s2.mis k=s.mis k+d from⟨g3,g4⟩);clear g1 g2 g3 g4 hr;clear hr1 hr2 hq1 hq2 hl9 e1;go_wp2_with fail
      clear er er2 el ew1 ew2 ew3 hw0;go_loopw [16] (λv W=>∃k:Nat,v= .int .i64 (k:Int)/\k<=7/\W6 w W p X U7 B E L7 s2 (λ_=>4*(i+1)) xw xb xn (λj=>if j < k then s2.mis j else s.mis j) s.sco m1 m2) (λv _=>7 - (intOf v).toNat)
      case atStart=>exact⟨0,rfl,by omega,RA.out⟩
      case round=>
       obtain⟨k,rfl,hk,hL⟩:=hrel;have L2:=Lib.hid hL;clear hL RA;have hi150:=QL.out.2
       by_cases hlt3:k < 7
       . have e4:decide ((k:Int) < 7)=true:=decide_eq_true (by omega);have hbd:=W0.out.1.bd k;obtain⟨d,hd1,hd2⟩:=GG.out.2 k;obtain⟨c,hc⟩:∃c,c=s.sco k:=⟨_,rfl⟩;obtain⟨b,hb⟩:∃b,b=s.mis k:=⟨_,rfl⟩;rw[← hc,<-hb] at hbd;have i0:=ix0 hlt3 xb;have i1:=ix0 hlt3 xw;have i2:=ix0 hlt3 xn;obtain⟨z,hz⟩:∃z,z=s2.mis k:=⟨_,rfl⟩;have hz2:z=b+d:=by rw[hz,hd2,<-hb]
         have CF:=Lib.hid (show(∀W:World,W6 w W p X U7 B E L7 s2 (λ_=>4*(i+1)) xw xb xn (λj=>if j < k then s2.mis j else s.mis j) s.sco m1 m2->W.cell? ⟨xb,k,none⟩=some (.int .i64 (b:Int))/\W.cell? ⟨xn,k,none⟩=some (.int .i64 (z:Int))) from λW q=>by
          refine⟨?_,?_⟩
          . rw[hb,<-W0.out.2.2];exact q.be.cell hlt3
          . rw[hz,<-HM.out];exact q.no.cell hlt3)
         obtain⟨y,hy⟩:∃y,y=b+1:=⟨_,rfl⟩;have hw1:IntKind.i64.wrap ((b:Int)+1)=(y:Int):=by rw[IntWalk.i64_in _ (by omega)];omega
         have e5:decide ((z:Int) < (b:Int))=false:=decide_eq_false (by omega);have e6:decide ((y:Int) < (z:Int))=false:=decide_eq_false (by omega);have e7:decide (z < b)=false:=decide_eq_false (by omega);have e8:decide (y < z)=false:=decide_eq_false (by omega);obtain⟨a0,a1⟩:=CF.out wr L2.out;have HK:=Lib.hid (show k < 7/\s2.mis k=z from⟨hlt3,hz.symm⟩);clear hbd hd2 hc hb hz hz2 hy;go_wp2_with fail
         go_quiet(fail)
         have hd:=SR.below_drewN wr nq;have L4:=Lib.hid (L2.out.below hd);clear hd L2 a0 a1;generalize wr.drewN nq=wf at*;obtain⟨a0,a1⟩:=CF.out wf L4.out;have a2:=L4.out.w4.wa.cell hlt3;rw[if_neg (Nat.lt_irrefl k)] at a2;have f0:=L4.out.w4.wa.fr k
         have FN:=Lib.hid (L4.out.put (a':=λj=>if j < k+1 then s2.mis j else s.mis j) XX.out XN.out.1 XN.out.2 hlt3 z (λj _=>by
          show(if j < k+1 then s2.mis j else s.mis j)=if j=k then z else if j < k then s2.mis j else s.mis j
          by_cases e:j=k
          . rw[if_pos e,if_pos (by omega),e];exact HK.out.2
          . by_cases h:j < k
            . rw[if_neg e,if_pos h,if_pos (by omega)]
            . rw[if_neg e,if_neg h,if_neg (by omega)]))
         clear L4 CF;go_wp2_with fail
         go_roundw
         case rel=>exact⟨k+1,by go_num,by omega,FN.out⟩
         case measure=>simp[intOf] <;> omega
       . obtain rfl:k=7:=by omega
         have e4:decide ((7:Int) < 7)=false:=rfl;have V:=scores_any wr.drew p _ _ _ _ _ _ (L2.out.below (bdrew wr)).w4.sh.ca.box;obtain⟨s7,hs7⟩:∃m,m=s2.sco:=⟨_,rfl⟩;have HS7:=Lib.hid hs7;have L3:=Lib.hid L2.out.w4;rw[← hs7] at V;rw[← GG.out.1,<-hs7] at L3;unfold agg7 at V
         replace V:=Lib.hid V
         clear hs7 L2;obtain⟨a0,a1,a2,a3,a4,a5,a6⟩:=L3.out.sc.cells;have q1:=λW=>neq7 W (s7 0:Int) (s7 1:Int) (s7 2:Int) (s7 3:Int) (s7 4:Int) (s7 5:Int) (s7 6:Int);have q2:=λ(W:World)=>guard7 W;go_wp2_with fail
         go_region_held3(λw'=>w'.cell? ⟨xw+1,0,none⟩=some (.int .i64 (s7 0:Int))/\w'.cell? ⟨xw+1,1,none⟩=some (.int .i64 (s7 1:Int))/\w'.cell? ⟨xw+1,2,none⟩=some (.int .i64 (s7 2:Int))/\w'.cell? ⟨xw+1,3,none⟩=some (.int .i64 (s7 3:Int))/\w'.cell? ⟨xw+1,4,none⟩=some (.int .i64 (s7 4:Int))/\w'.cell? ⟨xw+1,5,none⟩=some (.int .i64 (s7 5:Int))/\w'.cell? ⟨xw+1,6,none⟩=some (.int .i64 (s7 6:Int))) (first|(with_reducible exact⟨y0,y1,y2,y3,y4,y5,y6⟩)|(with_reducible exact⟨a0,a1,a2,a3,a4,a5,a6⟩)|go_keep)
          ((go_at_call 22;refine V.out.mono ?_;rintro e we ⟨rfl,hB⟩;have L4:=Lib.hid ((L3.out.below (bdrew wr)).below hB);obtain⟨y0,y1,y2,y3,y4,y5,y6⟩:=L4.out.sc.cells;clear hB V))
         clear a0 a1 a2 a3 a4 a5 a6 y0 y1 y2 y3 y4 y5 y6 q1 q2 L3;have V:=scores_any we p _ _ _ _ _ _ L4.out.sh.ca.box;rw[← HS7.out] at V;unfold agg7 at V
         replace V:=Lib.hid V
         go_wp2_with fail
         refine V.out.mono ?_;rintro e wf ⟨rfl,hB⟩;have L5:=Lib.hid (L4.out.below hB);clear hB V L4;obtain⟨a0,a1,a2,a3,a4,a5,a6⟩:=L5.out.sc.cells;have f0:=L5.out.sc.fr 0;have f1:=L5.out.sc.fr 1;have f2:=L5.out.sc.fr 2;have f3:=L5.out.sc.fr 3;have f4:=L5.out.sc.fr 4;have f5:=L5.out.sc.fr 5;have f6:=L5.out.sc.fr 6;have FN:=Lib.hid (L5.out.all (a':=s2.mis) XX.out s7 rfl λj hj=>(if_pos hj).symm);have NY:=Lib.hid NX.out.1;clear L5;go_wp2_with fail
         go_roundw
         case rel=>exact⟨i+1,U7,L7,s2,by go_num,IN.out,by rw[← HS7.out];exact FN.out,NY.out⟩
         case measure=>have:=IN.out;simp[intOf] <;> omega
  . have e0:decide (i < n)=false:=by simpa using hlt
    go_wp2_with fail
    go_ret;exact⟨rfl,R.out.1.sh.bel⟩
end Go.Proofs.YtdmmciggopmglaaGreatDoor.SW
namespace Go.Proofs.YtdmmciggopmglaaGreatDoor
open Go.ChangeShapes Go.WideShapes Go.ChangeAt Go.RowKit Sg
open Go.ChangeMaps (open_string shut_string)
theorem walk_shadowWindows(a0:Int)(v1:Value)(v2:Value)(w:World)(w0:(Lit.int .i64 a0).wf=true)(w1:CameRR w v1)(w2:CameS w v2)(hl:Laid w/\Named w):Calls Tryz.prog 4 #[.int .i64 a0,v1,v2] w (IN.RetB true w):=by
 obtain⟨A,n,cc,rfl,hn,S,hr,hc⟩:=w2;obtain⟨Al,nl,cl,V,rfl,hnl,hv1,hv2,hL⟩:=pick_lanes2 w1;have hz0:=i64_rng w0;obtain⟨fb,hfb⟩:=SW.few_bool n nl S V
 by_cases hok:fb=true/\¬(a0 < 1)/\¬(50 < a0)
 . obtain⟨q,q0,q1⟩:=hok;obtain⟨wi,rfl⟩:∃m:Nat,a0=(m:Int):=⟨a0.toNat,by omega⟩;have hf:=hfb.1 q
   obtain⟨L,hL1,_⟩:=hL hf.2.1 λi hi=>by
    obtain⟨a,m,d,e,_⟩:=hv1 i hi;have h3:=hf.2.2.2 i hi;rw[e] at h3;exact⟨a,m,d,e,h3⟩
   exact SW.shadowWindows_main w wi Al nl cl V L A n cc S q0 q1 hn hnl ⟨hr,hc⟩ ⟨hv1,hv2⟩ hL1 hf hl
 . have PW:=Lib.hid (show fb=false\/(fb=true/\decide (a0 < 1)=true)\/(fb=true/\decide (a0 < 1)=false/\decide (50 < a0)=true) from by
    by_cases pf:fb=true
    . refine Or.inr ?_
      by_cases p0:decide (a0 < 1)=true
      . exact Or.inl ⟨pf,p0⟩
      rw[Bool.not_eq_true] at p0
      by_cases p1:decide (50 < a0)=true
      . exact Or.inr (⟨pf,p0,p1⟩)
      rw[Bool.not_eq_true] at p1;exact absurd ⟨pf,of_decide_eq_false p0,of_decide_eq_false p1⟩ hok
    . exact Or.inl (by simpa using pf))
   have AW:=Lib.hid (SW.awake_any w hl.1);have FW:=Lib.hid (λw1 hb=>SW.few_told (w:=w) hn hnl ⟨hr,hc⟩ ⟨hv1,hv2⟩ hfb w1 hb);unfold maxLen at hn hnl;clear hr hc hok hl hfb hv1 hv2 hL hz0 w0 w1;rcases PW.out with rfl|⟨rfl,e0⟩|⟨rfl,e0,e1⟩
   all_goals
    clear PW;go_enter Tryz.func4,Tryz.ntmps4;go_wp2_with fail
    refine AW.out.mono ?_;rintro e w0 ⟨rfl,hb0⟩;have b0:=Lib.hid hb0;clear hb0 AW;go_wp2_with fail
    refine(FW.out w0 b0.out).mono ?_;rintro e w1 ⟨rfl,hB⟩;have b1:=Lib.hid (b0.out.trans (hB.mono b0.out.size));clear hB b0;go_wp2_with fail
    go_ret;exact⟨rfl,b1.out⟩
namespace LShadowWindows
set_option maxRecDepth 100000 in
theorem lifted(os:Os)(started:os.Started)(H:Type)(enc:TypeId × Value->H):
 ReturnsInHanded {} Tryz.checked os 4 .any (λw args=>(Rows.shadowWindowsSpec.pre enc Tryz.prog Tryz.f4 [] false w args/\laidMetH Tryz.prog seatLaid w)/\sizedMet enc Tryz.prog Tryz.f4 (OpenSpec.ofChange Rows.shadowWindowsSpec) false w args)
  (Rows.shadowWindowsSpec.post enc Tryz.prog Tryz.f4 false true false false):=by
 refine returnsInHanded_of_change_and (C:=Tryz.checked) (X:=λw _=>laidMetH Tryz.prog seatLaid w) (λ_ _ _ hh h=>h.of_heap hh) own started (by kernel_rfl) Tryz.func4
  (ChangeSpec.witness_at (enc:=enc) (C:=Tryz.checked) (os:=os) (X:=λw _=>laidMetH Tryz.prog seatLaid w) false (laidWorld os) #[.int .i64 0,.slice none 0 0,.slice none 0 0] 8 rfl (by kernel_rfl) (by kernel_rfl) (by kernel_rfl) (by kernel_rfl) (by kernel_rfl) (laidWorld_met os _)) ?_
 intro W base args ds gs before hval0 hW _ _ hL _;have hval:∀(j:Nat) t v,Tryz.f4.params[j]?=some t->args[j]?=some v->Value.okWide Tryz.prog W .any base t v:=hval0
 have hW':=hW;obtain⟨p,q,hA0,hV,rfl,hfz,hnd⟩:=hW;have hA:DataW.TrodAll enc Tryz.prog W 0 (λ_=>true) true Tryz.f4.params.toList args.toList ds p:=hA0;rw[Tryz.params4] at hA hval;obtain⟨v0,vs0,d0,ds0,p0,q0,hargs,rfl,rfl,h0,r0⟩:=trodAll_cons hA;obtain⟨v1,vs1,d1,ds1,p1,q1,rfl,rfl,rfl,h1,r1⟩:=trodAll_cons r0;obtain⟨v2,vs2,d2,ds2,p2,q2,rfl,rfl,rfl,h2,r2⟩:=trodAll_cons r1;obtain⟨rfl,rfl,rfl⟩:=trodAll_nil r2;obtain rfl:args= #[v0,v1,v2]:=by cases args;simp_all
 obtain⟨rfl,rfl⟩:=trodVars_none hV;obtain⟨a0,rfl,rfl,rfl,w0⟩:=open_int Tryz.underlying3 (hval 0 3 v0 rfl rfl) h0;have k1:=h1;have lt1:∀x∈p1,x.block < W.heap.size:=by obtain⟨m,hm⟩:=k1;exact DataW.trod_lt m _ _ _ hm
 have w1:=open_R (hval 1 22 v1 rfl rfl) h1;have k2:=h2;have lt2:∀x∈p2,x.block < W.heap.size:=by obtain⟨m,hm⟩:=k2;exact DataW.trod_lt m _ _ _ hm
 have w2:=open_z (hval 2 23 v2 rfl rfl) h2;clear hA0 hval0;refine(walk_shadowWindows a0 v1 v2 W w0 w1 w2 (laid_of hL)).mono λe W' ⟨he,bel⟩=>?_;subst he;exact⟨_,rfl,_,_,_,[],_,[],hW',trodAll_mk1 (shut_bool Tryz.underlying4 _),(trodAll_cons_mk (shut_int Tryz.underlying3 w0) (trodAll_cons_mk (Below.trod laidOut (by kernel_rfl) (of_decide_eq_true (by kernel_rfl)) k1 bel lt1) (trodAll_cons_mk (Below.trod laidOut (by kernel_rfl) (of_decide_eq_true (by kernel_rfl)) k2 bel lt2) trodAll_mk0))),rfl,bel.frame _,λh=>by cases h⟩
theorem band{x y:Bool}(h:x=true)(k:y=true):(x&&y)=true:=by rw[h,k];rfl
set_option maxRecDepth 100000
theorem cj0:(Rows.shadowWindowsRow.wf (OpenSpec.ofChange Rows.shadowWindowsSpec))=true:=by kernel_rfl
theorem cj1:(laidOutB Tryz.pinned.checked.prog)=true:=by kernel_rfl
theorem cj2:(mapsRowed Tryz.pinned.checked.prog)=true:=by kernel_rfl
theorem cj9:(Rows.shadowWindowsRow.inPlace==Tryz.pinned.checked.prog.inPlace 4)=true:=by kernel_rfl
theorem cj10:(Rows.shadowWindowsRow.unfollowed==Tryz.pinned.checked.prog.unfollowed 4)=true:=by kernel_rfl
theorem cj11:(Rows.shadowWindowsRow.recurses==Tryz.pinned.checked.prog.recurses 4)=true:=by kernel_rfl
theorem cj12:(Rows.shadowWindowsRow.named==Tryz.pinned.checked.prog.varsNamed 4)=true:=by kernel_rfl
theorem cj22:(Rows.shadowWindowsRow.plainKeys==Tryz.pinned.checked.prog.plainKeys)=true:=by kernel_rfl
theorem cj24:(Tryz.pinned.checked.prog.stopsHeard)=true:=by kernel_rfl
theorem cj25:(Tryz.pinned.checked.prog.mayEnter)=true:=by kernel_rfl
theorem cj26:(Rows.shadowWindowsRow.lifted==Tryz.pinned.checked.prog.liftsFinal)=true:=by kernel_rfl
theorem cj27:(Tryz.pinned.checked.prog.make==some Rows.shadowWindowsRow.make)=true:=by kernel_rfl
theorem closed:joinedFacts Tryz.pinned.checked.prog 4 Tryz.f4 Rows.shadowWindowsSpec Rows.shadowWindowsRow=true:=by
 unfold joinedFacts;exact band (band (band (band (band (band (band (band (band (band (band (band (band (band (band (band (band (band (band (band (band (band (band (band (band (band (band (band (band (band (band (cj0) cj1) cj2) (by kernel_rfl)) (by kernel_rfl)) (by kernel_rfl)) (by kernel_rfl)) (by kernel_rfl)) (by kernel_rfl)) cj9) cj10) cj11) cj12) (by kernel_rfl)) (by kernel_rfl)) (by kernel_rfl)) (by kernel_rfl)) (by kernel_rfl)) (by kernel_rfl)) (by kernel_rfl)) (by kernel_rfl)) (by kernel_rfl)) cj22) (by kernel_rfl)) cj24) cj25) cj26) cj27) (by kernel_rfl)) (by kernel_rfl)) (by kernel_rfl)) (by kernel_rfl)
theorem fnm:Tryz.pinned.checked.prog.funcNamed "cachewise/cachewiselaw12.ShadowWindows" =some 4:=by kernel_rfl
theorem isIn:Tryz.f4.isInstance Tryz.pinned.checked.prog Rows.shadowWindowsRow.origin Rows.shadowWindowsRow.targs:=of_decide_eq_true (by kernel_rfl)
theorem isWr:Tryz.f4.isWrapper Tryz.pinned.checked.prog Rows.shadowWindowsRow.wrapper Rows.shadowWindowsRow.mainSum:=by unfold Func.isWrapper;rw[if_neg (of_decide_eq_false (by kernel_rfl))];exact⟨rfl,rfl⟩
theorem said:Rows.ShadowWindowsSaid:=
 OpenClaim.holds_of_wide 4 Tryz.f4 rfl rfl rfl rfl rfl rfl rfl ⟨rfl,rfl,rfl,rfl,rfl⟩ rfl rfl rfl rfl rfl fnm Tryz.func4 closed isIn isWr
  (λos started H enc _=>lifted os started H enc)
theorem hwT:Rows.shadowWindowsRow.wfByText (OpenSpec.ofChange Rows.shadowWindowsSpec)=true:=by kernel_rfl
theorem mnI:Tryz.pinned.checked.prog.mainIs=some (Rows.shadowWindowsCard.stood.harness.1,Rows.shadowWindowsCard.stood.harness.2.toList):=by kernel_rfl
theorem lkT:Rows.shadowWindowsCard.stood.looks=Tryz.pinned.checked.prog.looks []:=by kernel_rfl
theorem gsB:false=Rows.shadowWindowsRow.goesBy Tryz.pinned.checked.prog:=by kernel_rfl
theorem siR:Tryz.prog.wantsStandIn 22=false:=by kernel_rfl
theorem sii:Tryz.prog.wantsStandIn 3=false:=by kernel_rfl
theorem siz:Tryz.prog.wantsStandIn 23=false:=by kernel_rfl
theorem card:Rows.ShadowWindowsCardSaid:=
 Claim7.holds_tied_plain_at .later [] _ _ _ _ said (λ_ h=>by cases h) hwT (λ_ h=>by cases h) shadowWindows_row_tie rfl ⟨rfl,rfl⟩ mnI rfl
  (λf fn hf hfn=>by
    obtain rfl:f=4:=Option.some.inj (fnm.symm.trans hf) |>.symm;obtain rfl:fn=Tryz.f4:=(Option.some.inj (Tryz.func4.symm.trans hfn)).symm;refine⟨lkT,λj t ht=>?_⟩;rw[Tryz.params4] at ht;rcases j with _|_|_|j
    . obtain rfl:t=3:=by simpa using ht.symm
      exact sii
    . obtain rfl:t=22:=by simpa using ht.symm
      exact siR
    . obtain rfl:t=23:=by simpa using ht.symm
      exact siz
    . simp at ht)
  gsB
#print axioms card
end LShadowWindows
end Go.Proofs.YtdmmciggopmglaaGreatDoor
