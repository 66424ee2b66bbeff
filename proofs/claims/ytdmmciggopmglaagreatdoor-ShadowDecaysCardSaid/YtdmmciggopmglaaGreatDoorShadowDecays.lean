/- 'cachewiselaw12.ShadowDecays' returns true for every window and every row of keys, and leaves what was there as it was. The listed variables read as the program's text lays them. -/
import Derived.Test.YtdmmciggopmglaaGreatDoorYh
import Derived.Test.YtdmmciggopmglaaGreatDoorYd
import Derived.Test.YtdmmciggopmglaaGreatDoorHd
import Derived.Test.YtdmmciggopmglaaGreatDoorCards
import Derived.Test.YtdmmciggopmglaaGreatDoorTie
import Derived.SevenTiedAt
import Derived.Deep.DeepCutAuto
import Derived.Deep.CutBlock
import Derived.Deep.RegionHeld3
import Derived.Deep.RegionLaw
set_option maxRecDepth 20000
namespace Go.Proofs.YtdmmciggopmglaaGreatDoor.SW
open Go.Maps Go.ChangeShapes Go.WideShapes Go.ChangeAt Go.RowKit Sg IN HS
theorem dst_has(S:Nat->ByteArray){j i:Nat}(h:j < i):S j∈dst S i:=by
 induction i with
 |zero=>omega
 |succ i ih=>
  show S j∈add (dst S i) (S i);rw[mem_add]
  by_cases e:j=i
  . rw[e];exact Or.inr rfl
  . exact Or.inl (ih (by omega))
def seqD(S:Nat->ByteArray)(n wi:Nat)(i:Nat):ByteArray:=if i < n then S i else if i < n+wi then S 0 else S (n - 1)
structure DI(K:Nat->ByteArray)(wi i:Nat)(s:Sh)(m c:Nat):Prop where
 sh:s.shift=0
 wn:s.win=wi
 l1:1<=s.left
 ml:m+s.left<=wi
 cc:c<=2*wi
 all:∀k,k < 7->s.mis k=m/\s.sco k=c/\∃h,Eno K 1000 (s.st k) i h
theorem DI.next{K:Nat->ByteArray}{wi i m c:Nat}{s:Sh}(q:DI K wi i s m c)(ok:∀k,k < 7->(s.st k).Ok)(hi:i < 1000):
 ∃m' c',DI K wi (i+1) (s.req (K i)) m' c'/\(K i∈dst K i->(s.left=1/\(s.req (K i)).left=wi/\m'=0/\c'=c / 2+m)\/(s.left≠1/\(s.req (K i)).left=s.left - 1/\m'=m/\c'=c)):=by
 have hd:(dst K (i+1)).length<=1000:=Nat.le_trans (dst_le K (i+1)) hi
 have hit:∀k,k < 7->(s.st k).hitB (K i)=inn (dst K i) (K i)/\∃h,Eno K 1000 ((s.st k).req (K i)) (i+1) h:=λk hk=>by
  obtain⟨_,_,h,hE⟩:=q.all k hk;obtain⟨g1,_,_,g4⟩:=hE.next (ok k hk) (Nat.lt_succ_self i) hd
  exact⟨g1,_,g4⟩
 obtain⟨d,hdd⟩:∃d,d=(if inn (dst K i) (K i)=false then 1 else 0:Nat):=⟨_,rfl⟩;have hd1:d<=1:=by rw[hdd];split <;> omega
 have hm:∀k,k < 7->s.mis k+(if(s.st k).hitB (K i)=false then 1 else 0)=m+d:=λk hk=>by rw[(hit k hk).1,(q.all k hk).1,hdd]
 have hin:K i∈dst K i->d=0:=λh=>by rw[hdd,inn_iff.2 h];rfl
 have hml:=q.ml;have hl1:=q.l1;have hcc:=q.cc
 by_cases e:s.left=1
 . obtain⟨g1,g2,g3,g4,g5,g6⟩:=Sh.req_end0 (s:=s) (K i) q.sh e;refine⟨0,c / 2+(m+d),⟨g1,g2.trans q.wn,by rw[g3,q.wn];omega,by rw[g3,q.wn];omega,by omega,λk hk=>⟨by rw[g4],?_,?_⟩⟩,λh=>Or.inl ⟨e,g3.trans q.wn,rfl,by rw[hin h];rfl⟩⟩
   . rw[g6 k,hm k hk,(q.all k hk).2.1]
   . rw[g5 k];exact(hit k hk).2
 . obtain⟨g1,g2,g3,g4,g5,g6⟩:=Sh.req_go0 (s:=s) (K i) q.sh e;refine⟨m+d,c,⟨g1,g2.trans q.wn,by rw[g3];omega,by rw[g3];omega,hcc,λk hk=>⟨?_,?_,?_⟩⟩,λh=>Or.inr ⟨e,g3,by rw[hin h];rfl,rfl⟩⟩
   . rw[g6 k,hm k hk]
   . rw[g4];exact(q.all k hk).2.1
   . rw[g5 k];exact(hit k hk).2
def PH(wi l0 m0 c0 t l m c:Nat):Prop:=(t < l0/\l=l0 - t/\m=m0/\c=c0)\/(l0<=t/\l+t=l0+wi/\m=0/\c=c0 / 2+m0)
theorem PH.next{wi l0 m0 c0 t l m c l' m' c':Nat}(h:PH wi l0 m0 c0 t l m c)(ht:t < wi)(h0:1<=l0)(_hw:l0<=wi)(h1:1<=l)(g:(l=1/\l'=wi/\m'=0/\c'=c / 2+m)\/(l≠1/\l'=l - 1/\m'=m/\c'=c)):PH wi l0 m0 c0 (t+1) l' m' c':=by
 unfold PH at*;rcases h with⟨a1,a2,a3,a4⟩|⟨a1,a2,a3,a4⟩
 . rcases g with⟨b1,b2,b3,b4⟩|⟨b1,b2,b3,b4⟩
   . exact Or.inr ⟨by omega,by omega,b3,by rw[b4,a3,a4]⟩
   . exact Or.inl ⟨by omega,by omega,by rw[b3,a3],by rw[b4,a4]⟩
 . rcases g with⟨b1,b2,b3,b4⟩|⟨b1,b2,b3,b4⟩
   . omega
   . exact Or.inr ⟨by omega,by omega,by rw[b3,a3],by rw[b4,a4]⟩
theorem PH.done{wi l0 m0 c0 l m c:Nat}(h:PH wi l0 m0 c0 wi l m c)(hw:l0<=wi):l=l0/\m=0/\c=c0 / 2+m0:=by
 rcases h with⟨a1,_⟩|⟨a1,a2,a3,a4⟩
 . omega
 . exact⟨by omega,a3,a4⟩
theorem half_pow{c j:Nat}(h:c*2 ^ j<=40):c / 2*2 ^ (j+1)<=40:=by
 have h1:c / 2*2<=c:=Nat.div_mul_le_self c 2;have h2:c / 2*2 ^ (j+1)=c / 2*2*2 ^ j:=by rw[Nat.pow_succ,Nat.mul_assoc,Nat.mul_comm 2]
 rw[h2];exact Nat.le_trans (Nat.mul_le_mul_right _ h1) h
theorem pow_zero_of{c:Nat}(h:c*2 ^ 10<=40):c=0:=by
 have:(2:Nat) ^ 10=1024:=rfl;rw[this] at h;omega
set_option maxHeartbeats 8000000 in
set_option maxRecDepth 100000 in
theorem shadowDecays_main(w:World)(wi:Nat)(A:Option Addr)(n cc:Nat)(S:Nat->ByteArray)(g0:¬((wi:Int) < 1))(g1:¬(20 < (wi:Int)))(g2:¬((n:Int)=0))(hn:n<=maxLen)(hk:KRow w A n cc S)(hf:FewB n 0 S (λ_=>undef))(hl:Laid w/\Named w):
 Calls Tryz.prog 8 #[.int .i64 (wi:Int),.slice A n cc] w (RetB true w):=by
 have AW:=Lib.hid (awake_any w hl.1);have FW:=Lib.hid (λw1 hb=>few_told (w:=w) hn (Nat.zero_le _) hk (VRow.nil w (λ_=>undef)) (fb:=true) ⟨λ_=>hf,λ_=>rfl⟩ w1 hb);have LN:DR.Lanes w w.heap.size (.slice none 0 0) []:=⟨by simp,Or.inl ⟨rfl,none,0,rfl⟩⟩;have TP:=Lib.hid (λ(w1:World) (hb:Below w.heap.size w w1)=>DR.newE_any _ _ w1 (lanes_below LN hb));have KR:=Lib.hid hk;have FB:=Lib.hid hf;have e0:decide ((wi:Int) < 1)=false:=decide_eq_false g0;have e1:decide (20 < (wi:Int))=false:=decide_eq_false g1;have e2:((n:Int)==0)=false:=beq_eq_false_iff_ne.2 g2;have SZ:=Lib.hid (show 1<=wi/\wi<=20/\0 < n from⟨by omega,by omega,by omega⟩);clear hk hl hf hn LN g0 g1 g2;go_enter Tryz.func8,Tryz.ntmps8;go_wp2_with fail
 refine AW.out.mono ?_;rintro e w0 ⟨rfl,hb0⟩;have b0:=Lib.hid hb0;clear hb0 AW;go_wp2_with fail
 refine(FW.out w0 b0.out).mono ?_;rintro e w1 ⟨rfl,hB⟩;have b1:=Lib.hid (b0.out.trans (hB.mono b0.out.size));clear hB b0 FW;go_wp2_with fail
 refine Calls.mono (show Calls Tryz.prog 12 #[.slice none 0 0] w1 (DR.NewE [] w1) from TP.out w1 b1.out) ?_;rintro e w2 ⟨B,rfl,hT,hB0,hB⟩;have T1:=Lib.hid (And.intro hT (And.intro hB0 hB));clear hT hB0 hB;go_wp2_with fail
 refine Calls.mono (show Calls Tryz.prog 11 #[.int .i64 1000,.int .i64 0,.int .i64 (wi:Int),.pointer (some ⟨B+1,0,none⟩)] w2 (SNew 1000 0 wi B w2.heap.size [] w2) from new_any w2 1000 0 wi B w2.heap.size [] (by omega) (by omega) SZ.out.1 (by have:=SZ.out.2.1;omega) T1.out.1) ?_;rintro e w3 ⟨p,X,U,rfl,hC,hU,hB⟩;have L3:=Lib.hid (ShL.made b1.out T1.out.2.1 T1.out.2.2 hC hU hB);generalize w2.heap.size=E at*;rw[show sml 1000 0=1000 from rfl] at L3;obtain⟨K,hK⟩:∃K,K=seqD S n wi:=⟨_,rfl⟩;have I0:=Lib.hid (show DI K wi 0 (Sh.start 0 wi 1000 []) 0 0 from⟨rfl,rfl,SZ.out.1,by show 0+wi<=wi;omega,by omega,λk hk=>⟨rfl,rfl,0,Eno.start hk _⟩⟩)
 have K1:=Lib.hid (show(∀i,i < n->K i=S i)/\(∀i,n<=i->i < n+wi->K i=S 0)/\(∀i,n+wi<=i->K i=S (n - 1))/\∀i,n<=i->K i∈dst K i from by
  have a1:∀i,i < n->K i=S i:=λi hi=>by rw[hK];exact if_pos hi
  have a2:∀i,n<=i->i < n+wi->K i=S 0:=λi h1 h2=>by rw[hK];exact(if_neg (by omega)).trans (if_pos h2)
  have a3:∀i,n+wi<=i->K i=S (n - 1):=λi h1=>by rw[hK];exact(if_neg (by omega)).trans (if_neg (by omega))
  have h0:=SZ.out.2.2;refine⟨a1,a2,a3,λi hi=>?_⟩
  by_cases h:i < n+wi
  . rw[a2 i hi h,<-a1 0 h0];exact dst_has K (by omega)
  . rw[a3 i (by omega),<-a1 (n - 1) (by omega)];exact dst_has K (by omega))
 generalize Sh.start 0 wi 1000 []=s0 at*
 have KS:=Lib.hid (show ∀i,(K i).size<=100 from λi=>by
  have h0:=SZ.out.2.2
  by_cases h1:i < n
  . rw[K1.out.1 i h1];exact FB.out.2.2.1 i h1
  . by_cases h2:i < n+wi
    . rw[K1.out.2.1 i (by omega) h2];exact FB.out.2.2.1 0 h0
    . rw[K1.out.2.2.1 i (by omega)];exact FB.out.2.2.1 (n - 1) (by omega))
 clear hK hC hU hB T1 TP b1;go_wp2_with fail
 go_loopw [7] (λv W=>∃(i:Nat) (U:Nat->Nat->Prop) (M:List (List Nat)) (s:Sh) (m c:Nat),v= .int .i64 (i:Int)/\i<=n/\ShL w W p X U B E M s (λ_=>4*i)/\DI K wi i s m c) (λv _=>n - (intOf v).toNat)
 case atStart=>exact⟨0,U,_,s0,0,0,rfl,Nat.zero_le _,L3.out,I0.out⟩
 case round=>
  obtain⟨i,U1,L1,s,m,c,rfl,hi,hR,hD⟩:=hrel;have R:=Lib.hid (And.intro hR hD);clear hR hD L3 I0 U s0;have hn150:=FB.out.1
  by_cases hlt:i < n
  . have e0:decide (i < n)=true:=by simpa using hlt
    obtain⟨g,o,rfl,hg,hc1,hc2,hcell⟩:=KR.out.2 (by omega);have h1:=(R.out.1.bel.cell (p:=⟨g,o+i,none⟩) hg).trans (hcell i hlt);rw[← K1.out.1 i hlt] at h1;have V1:=Lib.hid (request_any wr p X U1 B E L1 s _ (K i) R.out.1.ca (by have:=KS.out i;omega) R.out.2.l1 (λ_ _=>by show 4*i<=96800;omega));obtain⟨m',c',hD2,_⟩:=R.out.2.next (λk hk=>R.out.1.ok (k:=k) hk) (by omega)
    have D2:=Lib.hid hD2;generalize decide (s.left=1)=bb at*;generalize s.req (K i)=s2 at*;generalize K i=kj at*;clear hcell hg hD2;unfold maxLen at hc2;go_wp2_with fail
    refine V1.out.mono ?_;intro e w5 hp;obtain⟨rfl,U5,L5,hR5,_⟩:=R.out.1.op hp;have R5:=Lib.hid (And.intro (hR5.mono (c:=λ_=>4*(i+1)) (λ_ _=>by show 4*i+4<=4*(i+1);omega)) D2.out);clear hp hR5 R V1 h1 D2;go_wp2_with fail
    go_roundw
    case rel=>exact⟨i+1,U5,L5,s2,m',c',by go_num,by omega,R5.out⟩
    case measure=>simp[intOf] <;> omega
  . have e0:decide (i < n)=false:=by simpa using hlt
    have hin:i=n:=by omega
    rw[hin] at R;clear hlt hi;obtain⟨l0,hl0⟩:∃l0,l0=s.left:=⟨_,rfl⟩;have L0:=Lib.hid (show 1<=l0/\l0<=wi/\m+l0<=wi/\c<=2*wi from by have h1:=R.out.2.l1;have h2:=R.out.2.ml;rw[← hl0] at h1 h2;exact⟨h1,by omega,h2,R.out.2.cc⟩);have P0:=Lib.hid (show PH wi l0 m c 0 s.left m c from Or.inl ⟨L0.out.1,by rw[hl0];rfl,rfl,rfl⟩);clear hl0 hin;go_wp2_with fail
    go_loopw [8] (λv W=>∃(t:Nat) (U:Nat->Nat->Prop) (M:List (List Nat)) (s:Sh) (m1 c1:Nat),v= .int .i64 (t:Int)/\t<=wi/\ShL w W p X U B E M s (λ_=>4*(n+t))/\DI K wi (n+t) s m1 c1/\PH wi l0 m c t s.left m1 c1) (λv _=>wi - (intOf v).toNat)
    case atStart=>exact⟨0,U1,L1,s,m,c,rfl,Nat.zero_le _,R.out.1,R.out.2,P0.out⟩
    case round=>
     obtain⟨t,U2,L2,s2,m1,c1,rfl,ht,hR,hD,hP⟩:=hrel;have R2:=Lib.hid (And.intro hR (And.intro hD hP));clear hR hD hP P0 R;have hwi:=SZ.out.2.1
     by_cases hlt:t < wi
     . have e1:decide (t < wi)=true:=by simpa using hlt
       have e1':decide ((t:Int) < (wi:Int))=true:=decide_eq_true (by omega);have hn0:=SZ.out.2.2;obtain⟨g,o,rfl,hg,hc1,hc2,hcell⟩:=KR.out.2 hn0;have h1:=(R2.out.1.bel.cell (p:=⟨g,o,none⟩) hg).trans (hcell 0 hn0);rw[← K1.out.2.1 (n+t) (by omega) (by omega)] at h1;have V1:=Lib.hid (request_any wr p X U2 B E L2 s2 _ (K (n+t)) R2.out.1.ca (by have:=KS.out (n+t);omega) R2.out.2.1.l1 (λ_ _=>by show 4*(n+t)<=96800;omega));obtain⟨m',c',hD2,hn⟩:=R2.out.2.1.next (λk hk=>R2.out.1.ok (k:=k) hk) (by omega)
       have D2:=Lib.hid (And.intro hD2 (R2.out.2.2.next hlt L0.out.1 L0.out.2.1 R2.out.2.1.l1 (hn (K1.out.2.2.2 _ (by omega)))));generalize decide (s2.left=1)=bb at*;generalize s2.req (K (n+t))=s3 at*;generalize K (n+t)=kj at*;clear hcell hg hD2 hn;unfold maxLen at hc2;go_wp2_with fail
       refine V1.out.mono ?_;intro e w5 hp;obtain⟨rfl,U5,L5,hR5,_⟩:=R2.out.1.op hp;have R5:=Lib.hid (And.intro (hR5.mono (c:=λ_=>4*(n+(t+1))) (λ_ _=>by show 4*(n+t)+4<=4*(n+(t+1));omega)) D2.out);clear hp hR5 R2 V1 h1 D2;go_wp2_with fail
       go_roundw
       case rel=>exact⟨t+1,U5,L5,s3,m',c',by go_num,by omega,R5.out⟩
       case measure=>simp[intOf] <;> omega
     . have e1:decide (t < wi)=false:=by simpa using hlt
       have e1':decide ((t:Int) < (wi:Int))=false:=decide_eq_false (by omega);have htw:t=wi:=by omega
       rw[htw] at R2;obtain⟨d1,d2,d3⟩:=R2.out.2.2.done L0.out.2.1;have hcc:=R2.out.2.1.cc;have R3:=Lib.hid (show ShL w wr p X U2 B E L2 s2 (λ_=>4*(n+wi))/\DI K wi (n+wi) s2 0 c1/\c1*2 ^ 0<=40 from⟨R2.out.1,by rw[← d2];exact R2.out.2.1,by omega⟩);clear htw hlt ht d1 d2 d3 hcc R2 L0;go_wp2_with fail
       go_loopw [9] (λv W=>∃(j q:Nat) (U:Nat->Nat->Prop) (M:List (List Nat)) (s:Sh) (c1:Nat),v= .int .i64 (j:Int)/\j<=10/\n+wi<=q/\q<=170+20*j/\ShL w W p X U B E M s (λ_=>4*q)/\DI K wi q s 0 c1/\c1*2 ^ j<=40) (λv _=>10 - (intOf v).toNat)
       case atStart=>exact⟨0,n+wi,U2,L2,s2,c1,rfl,Nat.zero_le _,Nat.le_refl _,by omega,R3.out⟩
       case round=>
        obtain⟨j,q,U3,L3,s3,c3,rfl,hj,hq1,hq2,hR⟩:=hrel;have R4:=Lib.hid (And.intro hq1 (And.intro hq2 hR));clear hq1 hq2 hR R3
        by_cases hlt:j < 10
        . have e2:decide ((j:Int) < 10)=true:=decide_eq_true (by omega);have e2':decide (j < 10)=true:=by simpa using hlt
          have V:=Lib.hid (scores_any wr p _ _ _ _ _ _ R4.out.2.2.1.ca.box);obtain⟨n1,hn1⟩:∃m,m=s3.sco:=⟨_,rfl⟩;rw[← hn1] at V;have N1:=Lib.hid (show ∀k,k < 7->n1 k=c3 from λk hk=>by rw[hn1];exact(R4.out.2.2.2.1.all k hk).2.1);clear hn1;go_wp2_with fail
          refine V.out.mono ?_;rintro e w5 ⟨rfl,hB⟩;have L5:=Lib.hid (R4.out.2.2.1.below hB);clear hB V;obtain⟨b1,b2⟩:=laid7_box w5 n1 (T:=sblk p U3 B E) L5.out.lt;obtain⟨w6,hw6⟩:∃q,q=laid7 w5 n1:=⟨_,rfl⟩;rw[← hw6] at b1 b2;unfold laid7 at hw6;have LD:=Lib.hid (And.intro (L5.out.below b2) (And.intro b1 hw6));clear b1 b2 hw6;unfold agg7;go_upto_region 20 with fail
          rw[← LD.out.2.2];have LD:=Lib.hid (And.intro LD.out.1 LD.out.2.1);clear L5;generalize w5.heap.size=xm at*;obtain⟨l0,hl0⟩:∃l0,l0=s3.left:=⟨_,rfl⟩;have L0:=Lib.hid (show 1<=l0/\l0<=wi from by have h1:=R4.out.2.2.2.1.l1;have h2:=R4.out.2.2.2.1.ml;rw[← hl0] at h1 h2;exact⟨h1,by omega⟩);have P0:=Lib.hid (show PH wi l0 0 c3 0 s3.left 0 c3 from Or.inl ⟨L0.out.1,by rw[hl0];rfl,rfl,rfl⟩);clear hl0;go_wp2_with fail
          go_loopw [11] (λv W=>∃(t:Nat) (U:Nat->Nat->Prop) (M:List (List Nat)) (s:Sh) (m1 c1:Nat),v= .int .i64 (t:Int)/\t<=wi/\ShL w W p X U B E M s (λ_=>4*(q+t))/\DI K wi (q+t) s m1 c1/\PH wi l0 0 c3 t s.left m1 c1/\A7 W (sblk p U B E) xm n1) (λv _=>wi - (intOf v).toNat)
          case atStart=>exact⟨0,U3,L3,s3,0,c3,rfl,Nat.zero_le _,LD.out.1,R4.out.2.2.2.1,P0.out,LD.out.2⟩
          case round=>
           obtain⟨t,U5,L5,s5,m5,c5,rfl,ht,hR,hD,hP,hA⟩:=hrel;have R5:=Lib.hid (And.intro hR (And.intro hD (And.intro hP hA)));clear hR hD hP hA P0 LD;have hwi:=SZ.out.2.1
           by_cases hlt2:t < wi
           . have e3:decide (t < wi)=true:=by simpa using hlt2
             have e3':decide ((t:Int) < (wi:Int))=true:=decide_eq_true (by omega);have hn0:=SZ.out.2.2;obtain⟨g,o,rfl,hg,hc1,hc2,hcell⟩:=KR.out.2 hn0;have h1:=(R5.out.1.bel.cell (p:=⟨g,o+(n - 1),none⟩) hg).trans (hcell (n - 1) (by omega));have hq1:=R4.out.1;have hq2:=R4.out.2.1;rw[← K1.out.2.2.1 (q+t) (by omega)] at h1;obtain⟨nn,hnn⟩:∃nn,nn=n - 1:=⟨_,rfl⟩;rw[← hnn] at h1;have wr1:IntKind.i64.wrap ((n:Int) - 1)=(nn:Int):=by rw[IntWalk.i64_in _ (by omega)];omega
             have hb1:nn < n:=by omega
             have V1:=Lib.hid (request_any wr p X U5 B E L5 s5 _ (K (q+t)) R5.out.1.ca (by have:=KS.out (q+t);omega) R5.out.2.1.l1 (λ_ _=>by show 4*(q+t)<=96800;omega));obtain⟨m',c',hD2,hn⟩:=R5.out.2.1.next (λk hk=>R5.out.1.ok (k:=k) hk) (by omega)
             have D2:=Lib.hid (And.intro hD2 (R5.out.2.2.1.next hlt2 L0.out.1 L0.out.2 R5.out.2.1.l1 (hn (K1.out.2.2.2 _ (by omega)))));generalize decide (s5.left=1)=bb at*;generalize s5.req (K (q+t))=s6 at*;generalize K (q+t)=kj at*;clear hcell hg hD2 hn hnn hq1 hq2;unfold maxLen at hc2;go_wp2_with fail
             refine V1.out.mono ?_;intro e w7 hp;obtain⟨rfl,U7,L7,hR7,hW7⟩:=R5.out.1.op hp;have R7:=Lib.hid (And.intro (hR7.mono (c:=λ_=>4*(q+(t+1))) (λ_ _=>by show 4*(q+t)+4<=4*(q+(t+1));omega)) (And.intro D2.out.1 (And.intro D2.out.2 (R5.out.2.2.2.went hW7))));clear hp hR7 hW7 R5 V1 h1 D2;go_wp2_with fail
             go_roundw
             case rel=>exact⟨t+1,U7,L7,s6,m',c',by go_num,by omega,R7.out⟩
             case measure=>simp[intOf] <;> omega
           . have e3:decide (t < wi)=false:=by simpa using hlt2
             have e3':decide ((t:Int) < (wi:Int))=false:=decide_eq_false (by omega);have htw:t=wi:=by omega
             rw[htw] at R5;obtain⟨d1,d2,d3⟩:=R5.out.2.2.1.done L0.out.2;have V:=Lib.hid (scores_any wr p _ _ _ _ _ _ R5.out.1.ca.box);obtain⟨n2,hn2⟩:∃m,m=s5.sco:=⟨_,rfl⟩;rw[← hn2] at V;have N2:=Lib.hid (show(∀k,k < 7->n2 k=c5)/\c5=c3 / 2/\c3<=40 from⟨λk hk=>by rw[hn2];exact(R5.out.2.1.all k hk).2.1,d3,by have:=R4.out.2.2.2.1.cc;omega⟩);have D5:=Lib.hid (show DI K wi (q+wi) s5 0 c5 from by rw[← d2];exact R5.out.2.1);have R6:=Lib.hid (And.intro R5.out.1 R5.out.2.2.2);clear hn2 d1 d2 d3 htw hlt2 ht R5 L0;go_wp2_with fail
             refine V.out.mono ?_;rintro e w7 ⟨rfl,hB⟩;have R7:=Lib.hid (And.intro (R6.out.1.below hB) (R6.out.2.below hB));clear hB V R6;obtain⟨b1,b2⟩:=laid7_box w7 n2 (T:=sblk p U5 B E) R7.out.1.lt;obtain⟨w8,hw8⟩:∃q,q=laid7 w7 n2:=⟨_,rfl⟩;rw[← hw8] at b1 b2;unfold laid7 at hw8;have LD:=Lib.hid (And.intro (R7.out.1.below b2) (And.intro (R7.out.2.below b2) (And.intro b1 hw8)));clear b1 b2 hw8;unfold agg7;go_upto_region 25 with fail
             rw[← LD.out.2.2.2];have LD:=Lib.hid (And.intro LD.out.1 (And.intro LD.out.2.1 LD.out.2.2.1));clear R7;generalize w7.heap.size=xn at*;go_wp2_with fail
             go_loopw [13] (λv W=>∃k:Nat,v= .int .i64 (k:Int)/\k<=7/\ShL w W p X U5 B E L5 s5 (λ_=>4*(q+wi))/\A7 W (sblk p U5 B E) xm n1/\A7 W (sblk p U5 B E) xn n2) (λv _=>7 - (intOf v).toNat)
             case atStart=>exact⟨0,rfl,by omega,LD.out⟩
             case round=>
              obtain⟨k,rfl,hk,hL⟩:=hrel;have L1:=Lib.hid hL;clear hL LD
              by_cases hlt3:k < 7
              . have e4:decide ((k:Int) < 7)=true:=decide_eq_true (by omega);have a0:=L1.out.2.1.cell hlt3;have a1:=L1.out.2.2.cell hlt3;have a2:=L1.out.2.2.cell (k:=0) (by omega);rw[N1.out k hlt3] at a0;rw[N2.out.1 k hlt3] at a1;rw[N2.out.1 0 (by omega)] at a2;have i0:=ix0 hlt3 xm;have i1:=ix0 hlt3 xn;have hc3:=N2.out.2.2;have hc5:=N2.out.2.1;have hq0:(c3:Int) / 2=(c5:Int):=by omega
                have hw0:IntKind.i64.wrap (c5:Int)=(c5:Int):=by rw[IntWalk.i64_in _ (by omega)]
                have e5:((c5:Int) != (c5:Int))=false:=by simp
                clear hc3 hc5;go_wp2_with fail
                go_quiet(fail)
                have hd:=SR.below_drewN wr nq;have L2:=Lib.hid (And.intro (L1.out.1.below hd) (And.intro (L1.out.2.1.below hd) (L1.out.2.2.below hd)));clear hd L1 a0 a1 a2;go_wp2_with fail
                go_roundw
                case rel=>exact⟨k+1,by go_num,by omega,L2.out⟩
                case measure=>simp[intOf] <;> omega
              . obtain rfl:k=7:=by omega
                have N3:=Lib.hid (half_pow R4.out.2.2.2.2);rw[← N2.out.2.1] at N3;go_wp2_with fail
                go_roundw
                case rel=>exact⟨j+1,q+wi,U5,L5,s5,c5,by go_num,by omega,by have:=R4.out.1;omega,by have:=R4.out.2.1;have:=SZ.out.2.1;omega,L1.out.1,D5.out,N3.out⟩
                case measure=>simp[intOf] <;> omega
        . obtain rfl:j=10:=by omega
          have Z:=Lib.hid (pow_zero_of R4.out.2.2.2.2);have V:=scores_any wr p _ _ _ _ _ _ R4.out.2.2.1.ca.box;obtain⟨n1,hn1⟩:∃m,m=s3.sco:=⟨_,rfl⟩;rw[← hn1] at V;have N1:=Lib.hid (show ∀k,k < 7->n1 k=0 from λk hk=>by rw[hn1,(R4.out.2.2.2.1.all k hk).2.1];exact Z.out);have q1:∀W:World,(binOp .eql 34 (.agg #[.int .i64 (n1 0:Int),.int .i64 (n1 1:Int),.int .i64 (n1 2:Int),.int .i64 (n1 3:Int),.int .i64 (n1 4:Int),.int .i64 (n1 5:Int),.int .i64 (n1 6:Int)]) (.agg #[.int .i64 0,.int .i64 0,.int .i64 0,.int .i64 0,.int .i64 0,.int .i64 0,.int .i64 0])).run Tryz.prog W= .ok (.bool true) W:=λW=>all7 N1.out W;have q3:=λ(W:World)=>guard7 W;unfold agg7 at V
          replace V:=Lib.hid V
          clear hn1;go_wp2_with fail
          refine V.out.mono ?_;rintro e w5 ⟨rfl,hB⟩;have L5:=Lib.hid (R4.out.2.2.1.below hB);clear hB V;go_wp2_with fail
          go_ret;exact⟨rfl,L5.out.bel⟩
end Go.Proofs.YtdmmciggopmglaaGreatDoor.SW
namespace Go.Proofs.YtdmmciggopmglaaGreatDoor
open Go.ChangeShapes Go.WideShapes Go.ChangeAt Go.RowKit Sg
open Go.ChangeMaps (open_string shut_string)
theorem walk_shadowDecays(a0:Int)(v1:Value)(w:World)(w0:(Lit.int .i64 a0).wf=true)(w1:CameS w v1)(hl:Laid w/\Named w):Calls Tryz.prog 8 #[.int .i64 a0,v1] w (IN.RetB true w):=by
 obtain⟨A,n,cc,rfl,hn,S,hr,hc⟩:=w1;have hz0:=i64_rng w0;obtain⟨fb,hfb⟩:=SW.few_bool n 0 S (λ_=>undef)
 by_cases hok:fb=true/\¬(a0 < 1)/\¬(20 < a0)/\¬((n:Int)=0)
 . obtain⟨q,q0,q1,q2⟩:=hok;obtain⟨wi,rfl⟩:∃m:Nat,a0=(m:Int):=⟨a0.toNat,by omega⟩;have hf:=hfb.1 q;exact SW.shadowDecays_main w wi A n cc S q0 q1 q2 hn ⟨hr,hc⟩ hf hl
 . have PW:=Lib.hid (show fb=false\/(fb=true/\decide (a0 < 1)=true)\/(fb=true/\decide (a0 < 1)=false/\decide (20 < a0)=true)\/(fb=true/\decide (a0 < 1)=false/\decide (20 < a0)=false/\((n:Int)==0)=true) from by
    by_cases pf:fb=true
    . refine Or.inr ?_
      by_cases p0:decide (a0 < 1)=true
      . exact Or.inl ⟨pf,p0⟩
      rw[Bool.not_eq_true] at p0
      by_cases p1:decide (20 < a0)=true
      . exact Or.inr (Or.inl ⟨pf,p0,p1⟩)
      rw[Bool.not_eq_true] at p1
      by_cases p2:((n:Int)==0)=true
      . exact Or.inr (Or.inr (⟨pf,p0,p1,p2⟩))
      rw[Bool.not_eq_true] at p2;exact absurd ⟨pf,of_decide_eq_false p0,of_decide_eq_false p1,beq_eq_false_iff_ne.1 p2⟩ hok
    . exact Or.inl (by simpa using pf))
   have AW:=Lib.hid (SW.awake_any w hl.1);have FW:=Lib.hid (λw1 hb=>SW.few_told (w:=w) hn (Nat.zero_le _) ⟨hr,hc⟩ (SW.VRow.nil w (λ_=>undef)) hfb w1 hb);unfold maxLen at hn;clear hr hc hok hl hfb hz0 w0;rcases PW.out with rfl|⟨rfl,e0⟩|⟨rfl,e0,e1⟩|⟨rfl,e0,e1,e2⟩
   all_goals
    clear PW;go_enter Tryz.func8,Tryz.ntmps8;go_wp2_with fail
    refine AW.out.mono ?_;rintro e w0 ⟨rfl,hb0⟩;have b0:=Lib.hid hb0;clear hb0 AW;go_wp2_with fail
    refine(FW.out w0 b0.out).mono ?_;rintro e w1 ⟨rfl,hB⟩;have b1:=Lib.hid (b0.out.trans (hB.mono b0.out.size));clear hB b0;go_wp2_with fail
    go_ret;exact⟨rfl,b1.out⟩
namespace LShadowDecays
set_option maxRecDepth 100000 in
theorem lifted(os:Os)(started:os.Started)(H:Type)(enc:TypeId × Value->H):
 ReturnsInHanded {} Tryz.checked os 8 .any (λw args=>(Rows.shadowDecaysSpec.pre enc Tryz.prog Tryz.f8 [] false w args/\laidMetH Tryz.prog seatLaid w)/\sizedMet enc Tryz.prog Tryz.f8 (OpenSpec.ofChange Rows.shadowDecaysSpec) false w args)
  (Rows.shadowDecaysSpec.post enc Tryz.prog Tryz.f8 false true false false):=by
 refine returnsInHanded_of_change_and (C:=Tryz.checked) (X:=λw _=>laidMetH Tryz.prog seatLaid w) (λ_ _ _ hh h=>h.of_heap hh) own started (by kernel_rfl) Tryz.func8
  (ChangeSpec.witness_at (enc:=enc) (C:=Tryz.checked) (os:=os) (X:=λw _=>laidMetH Tryz.prog seatLaid w) false (laidWorld os) #[.int .i64 0,.slice none 0 0] 8 rfl (by kernel_rfl) (by kernel_rfl) (by kernel_rfl) (by kernel_rfl) (by kernel_rfl) (laidWorld_met os _)) ?_
 intro W base args ds gs before hval0 hW _ _ hL _;have hval:∀(j:Nat) t v,Tryz.f8.params[j]?=some t->args[j]?=some v->Value.okWide Tryz.prog W .any base t v:=hval0
 have hW':=hW;obtain⟨p,q,hA0,hV,rfl,hfz,hnd⟩:=hW;have hA:DataW.TrodAll enc Tryz.prog W 0 (λ_=>true) true Tryz.f8.params.toList args.toList ds p:=hA0;rw[Tryz.params8] at hA hval;obtain⟨v0,vs0,d0,ds0,p0,q0,hargs,rfl,rfl,h0,r0⟩:=trodAll_cons hA;obtain⟨v1,vs1,d1,ds1,p1,q1,rfl,rfl,rfl,h1,r1⟩:=trodAll_cons r0;obtain⟨rfl,rfl,rfl⟩:=trodAll_nil r1;obtain rfl:args= #[v0,v1]:=by cases args;simp_all
 obtain⟨rfl,rfl⟩:=trodVars_none hV;obtain⟨a0,rfl,rfl,rfl,w0⟩:=open_int Tryz.underlying3 (hval 0 3 v0 rfl rfl) h0;have k1:=h1;have lt1:∀x∈p1,x.block < W.heap.size:=by obtain⟨m,hm⟩:=k1;exact DataW.trod_lt m _ _ _ hm
 have w1:=open_z (hval 1 23 v1 rfl rfl) h1;clear hA0 hval0;refine(walk_shadowDecays a0 v1 W w0 w1 (laid_of hL)).mono λe W' ⟨he,bel⟩=>?_;subst he;exact⟨_,rfl,_,_,_,[],_,[],hW',trodAll_mk1 (shut_bool Tryz.underlying4 _),(trodAll_cons_mk (shut_int Tryz.underlying3 w0) (trodAll_cons_mk (Below.trod laidOut (by kernel_rfl) (of_decide_eq_true (by kernel_rfl)) k1 bel lt1) trodAll_mk0)),rfl,bel.frame _,λh=>by cases h⟩
theorem band{x y:Bool}(h:x=true)(k:y=true):(x&&y)=true:=by rw[h,k];rfl
set_option maxRecDepth 100000
theorem cj0:(Rows.shadowDecaysRow.wf (OpenSpec.ofChange Rows.shadowDecaysSpec))=true:=by kernel_rfl
theorem cj1:(laidOutB Tryz.pinned.checked.prog)=true:=by kernel_rfl
theorem cj2:(mapsRowed Tryz.pinned.checked.prog)=true:=by kernel_rfl
theorem cj9:(Rows.shadowDecaysRow.inPlace==Tryz.pinned.checked.prog.inPlace 8)=true:=by kernel_rfl
theorem cj10:(Rows.shadowDecaysRow.unfollowed==Tryz.pinned.checked.prog.unfollowed 8)=true:=by kernel_rfl
theorem cj11:(Rows.shadowDecaysRow.recurses==Tryz.pinned.checked.prog.recurses 8)=true:=by kernel_rfl
theorem cj12:(Rows.shadowDecaysRow.named==Tryz.pinned.checked.prog.varsNamed 8)=true:=by kernel_rfl
theorem cj22:(Rows.shadowDecaysRow.plainKeys==Tryz.pinned.checked.prog.plainKeys)=true:=by kernel_rfl
theorem cj24:(Tryz.pinned.checked.prog.stopsHeard)=true:=by kernel_rfl
theorem cj25:(Tryz.pinned.checked.prog.mayEnter)=true:=by kernel_rfl
theorem cj26:(Rows.shadowDecaysRow.lifted==Tryz.pinned.checked.prog.liftsFinal)=true:=by kernel_rfl
theorem cj27:(Tryz.pinned.checked.prog.make==some Rows.shadowDecaysRow.make)=true:=by kernel_rfl
theorem closed:joinedFacts Tryz.pinned.checked.prog 8 Tryz.f8 Rows.shadowDecaysSpec Rows.shadowDecaysRow=true:=by
 unfold joinedFacts;exact band (band (band (band (band (band (band (band (band (band (band (band (band (band (band (band (band (band (band (band (band (band (band (band (band (band (band (band (band (band (band (cj0) cj1) cj2) (by kernel_rfl)) (by kernel_rfl)) (by kernel_rfl)) (by kernel_rfl)) (by kernel_rfl)) (by kernel_rfl)) cj9) cj10) cj11) cj12) (by kernel_rfl)) (by kernel_rfl)) (by kernel_rfl)) (by kernel_rfl)) (by kernel_rfl)) (by kernel_rfl)) (by kernel_rfl)) (by kernel_rfl)) (by kernel_rfl)) cj22) (by kernel_rfl)) cj24) cj25) cj26) cj27) (by kernel_rfl)) (by kernel_rfl)) (by kernel_rfl)) (by kernel_rfl)
theorem fnm:Tryz.pinned.checked.prog.funcNamed "cachewise/cachewiselaw12.ShadowDecays" =some 8:=by kernel_rfl
theorem isIn:Tryz.f8.isInstance Tryz.pinned.checked.prog Rows.shadowDecaysRow.origin Rows.shadowDecaysRow.targs:=of_decide_eq_true (by kernel_rfl)
theorem isWr:Tryz.f8.isWrapper Tryz.pinned.checked.prog Rows.shadowDecaysRow.wrapper Rows.shadowDecaysRow.mainSum:=by unfold Func.isWrapper;rw[if_neg (of_decide_eq_false (by kernel_rfl))];exact⟨rfl,rfl⟩
theorem said:Rows.ShadowDecaysSaid:=
 OpenClaim.holds_of_wide 8 Tryz.f8 rfl rfl rfl rfl rfl rfl rfl ⟨rfl,rfl,rfl,rfl,rfl⟩ rfl rfl rfl rfl rfl fnm Tryz.func8 closed isIn isWr
  (λos started H enc _=>lifted os started H enc)
theorem hwT:Rows.shadowDecaysRow.wfByText (OpenSpec.ofChange Rows.shadowDecaysSpec)=true:=by kernel_rfl
theorem mnI:Tryz.pinned.checked.prog.mainIs=some (Rows.shadowDecaysCard.stood.harness.1,Rows.shadowDecaysCard.stood.harness.2.toList):=by kernel_rfl
theorem lkT:Rows.shadowDecaysCard.stood.looks=Tryz.pinned.checked.prog.looks []:=by kernel_rfl
theorem gsB:false=Rows.shadowDecaysRow.goesBy Tryz.pinned.checked.prog:=by kernel_rfl
theorem sii:Tryz.prog.wantsStandIn 3=false:=by kernel_rfl
theorem siz:Tryz.prog.wantsStandIn 23=false:=by kernel_rfl
theorem card:Rows.ShadowDecaysCardSaid:=
 Claim7.holds_tied_plain_at .later [] _ _ _ _ said (λ_ h=>by cases h) hwT (λ_ h=>by cases h) shadowDecays_row_tie rfl ⟨rfl,rfl⟩ mnI rfl
  (λf fn hf hfn=>by
    obtain rfl:f=8:=Option.some.inj (fnm.symm.trans hf) |>.symm;obtain rfl:fn=Tryz.f8:=(Option.some.inj (Tryz.func8.symm.trans hfn)).symm;refine⟨lkT,λj t ht=>?_⟩;rw[Tryz.params8] at ht;rcases j with _|_|j
    . obtain rfl:t=3:=by simpa using ht.symm
      exact sii
    . obtain rfl:t=23:=by simpa using ht.symm
      exact siz
    . simp at ht)
  gsB
#print axioms card
end LShadowDecays
end Go.Proofs.YtdmmciggopmglaaGreatDoor
