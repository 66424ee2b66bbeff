/- 'cachewiselaw12.ShadowResizes' returns true for every shift, every row of sizes, every row of lanes and every row of keys, and leaves what was there as it was. The listed variables read as the program's text lays them. -/
import Derived.Test.YtdmmciggopmglaaGreatDoorYh
import Derived.Test.YtdmmciggopmglaaGreatDoorYd
import Derived.Test.YtdmmciggopmglaaGreatDoorHd
import Derived.Test.YtdmmciggopmglaaGreatDoorCards
import Derived.Test.YtdmmciggopmglaaGreatDoorTie
import Derived.SevenTiedAt
import Derived.Deep.DeepCutAuto
import Derived.Deep.CutBlock
import Derived.Deep.RegionHeld3
import Derived.Deep.RegionLaw
set_option maxRecDepth 20000
namespace Go.Proofs.YtdmmciggopmglaaGreatDoor.SW
open Go.Maps Go.ChangeShapes Go.WideShapes Go.ChangeAt Go.RowKit Sg IN HS
def ZRow(w:World)(A:Option Addr)(n c:Nat)(Z:Nat->Int):Prop:=
 (∀i,i < n-> -9223372036854775808<=Z i/\Z i<=9223372036854775807)/\(0 < n->∃g o,A=some ⟨g,o,none⟩/\g < w.heap.size/\n<=c/\c<=maxLen/\∀i,i < n->w.cell? ⟨g,o+i,none⟩=some (.int .i64 (Z i)))
def RInv(sh mm r:Nat)(s:Sh):Prop:=s.shift=sh/\s.win=7/\1<=s.left/\∀k,k < 7->(s.st k).mo=mm/\(s.st k).keys.length<=r
theorem RInv.req{sh mm r:Nat}{s:Sh}(h:RInv sh mm r s)(hm:mm≠0)(ok:∀k,k < 7->(s.st k).Ok)(key:ByteArray):RInv sh mm (r+1) (s.req key):=by
 obtain⟨h1,h2,h3,h4⟩:=h;refine⟨(Sh.req_same s key).1.trans h1,(Sh.req_same s key).2.trans h2,?_,λk hk=>?_⟩
 . by_cases e:s.left=1
   . rw[(Sh.req_end key e).1,h2];omega
   . rw[(Sh.req_go key e).1];omega
 . rw[Sh.req_st];obtain⟨g1,g2⟩:=h4 k hk;split
   . refine⟨by rw[ISt.mo_req];exact g1,?_⟩;have:=ISt.req_len (ok k hk) (by rw[g1];exact hm) key;rw[this];split <;> omega
   . exact⟨g1,by omega⟩
theorem RInv.rs{sh mm r m:Nat}{s:Sh}(h:RInv sh mm r s)(ok:∀k,k < 7->(s.st k).Ok):RInv sh m r (rsA s m):=by
 obtain⟨h1,h2,h3,h4⟩:=h;refine⟨h1,h2,h3,λk hk=>⟨ISt.mo_rs _ _,?_⟩⟩;have f:=ISt.rs_f (ok k hk) m;have:=(h4 k hk).2;have:=f.len;show((s.st k).rs m).keys.length<=r;omega
set_option maxHeartbeats 8000000 in
set_option maxRecDepth 100000 in
theorem shadowResizes_main(w:World)(sh:Nat)(Az:Option Addr)(nz cz:Nat)(Z:Nat->Int)(Al:Option Addr)(nl cl:Nat)(V:Nat->Value)(L:List (List Nat))(A:Option Addr)(n cc:Nat)(S:Nat->ByteArray)(g0:¬((sh:Int) < 0))(g1:¬(16 < (sh:Int)))(g2:¬(40 < (nz:Int)))(hn:n<=maxLen)(hnl:nl<=maxLen)(hk:KRow w A n cc S)(hv:VRow w Al nl cl V)(hL:DR.Lanes w w.heap.size (.slice Al nl cl) L)(hnz:nz<=maxLen)(hz:ZRow w Az nz cz Z)(hf:FewB n nl S V)(hl:Laid w/\Named w):
 Calls Tryz.prog 6 #[.int .i64 (sh:Int),.slice Az nz cz,.slice Al nl cl,.slice A n cc] w (RetB true w):=by
 have AW:=Lib.hid (awake_any w hl.1);have FW:=Lib.hid (λw1 hb=>few_told (w:=w) hn hnl hk hv (fb:=true) ⟨λ_=>hf,λ_=>rfl⟩ w1 hb);have LN:DR.Lanes w w.heap.size (.slice Al nl cl) L:=hL;have TP:=Lib.hid (λ(w1:World) (hb:Below w.heap.size w w1)=>DR.newE_any _ _ w1 (lanes_below LN hb));have KR:=Lib.hid hk;have FB:=Lib.hid hf;have e0:decide ((sh:Int) < 0)=false:=decide_eq_false g0;have e1:decide (16 < (sh:Int))=false:=decide_eq_false g1;have e2:decide (40 < (nz:Int))=false:=decide_eq_false g2;have SZ:=Lib.hid (show sh<=16/\nz<=40 from⟨by omega,by omega⟩);have ZR:=Lib.hid hz;have HLD:=Lib.hid hl.1;unfold maxLen at hnz;clear hk hl hf hn LN hv hL hnl g0 g1 g2 hz;go_enter Tryz.func6,Tryz.ntmps6;go_wp2_with fail
 refine AW.out.mono ?_;rintro e w0 ⟨rfl,hb0⟩;have b0:=Lib.hid hb0;clear hb0 AW;go_wp2_with fail
 refine(FW.out w0 b0.out).mono ?_;rintro e w1 ⟨rfl,hB⟩;have b1:=Lib.hid (b0.out.trans (hB.mono b0.out.size));clear hB b0 FW;go_wp2_with fail
 refine(TP.out w1 b1.out).mono ?_;rintro e w2 ⟨B,rfl,hT,hB0,hB⟩;have T1:=Lib.hid (And.intro hT (And.intro hB0 hB));clear hT hB0 hB;go_wp2_with fail
 refine Calls.mono (show Calls Tryz.prog 11 #[.int .i64 5,.int .i64 (sh:Int),.int .i64 7,.pointer (some ⟨B+1,0,none⟩)] w2 (SNew 5 sh 7 B w2.heap.size L w2) from new_any w2 5 sh 7 B w2.heap.size L (by omega) SZ.out.1 (by omega) (by omega) T1.out.1) ?_;rintro e w3 ⟨p,X,U,rfl,hC,hU,hB⟩;have L3:=Lib.hid (ShL.made b1.out T1.out.2.1 T1.out.2.2 hC hU hB);generalize w2.heap.size=E at*;have I0:=Lib.hid (show RInv sh (sml 5 sh) 0 (Sh.start sh 7 (sml 5 sh) L) from⟨rfl,rfl,by show 1<=7;omega,λk hk=>⟨(ISt.start_kind hk _ _).2.1,by rw[show((Sh.start sh 7 (sml 5 sh) L).st k).keys= [] from(ISt.start_kind hk _ _).2.2.1];exact Nat.le_refl _⟩⟩);have M0:=Lib.hid (show sml 5 sh≠0 from by have:=(sml_le (n:=5) sh (by omega)).1;omega);generalize Sh.start sh 7 (sml 5 sh) L=s0 at*;generalize sml 5 sh=m0 at*;clear hC hU hB T1 TP b1;go_wp2_with fail
 go_loopw [11] (λv W=>∃(i r mm:Nat) (U:Nat->Nat->Prop) (M:List (List Nat)) (s:Sh),v= .int .i64 (i:Int)/\i<=nz/\r<=150*i/\mm≠0/\RInv sh mm r s/\ShL w W p X U B E M s (λ_=>4*r)) (λv _=>nz - (intOf v).toNat)
 case atStart=>exact⟨0,0,m0,U,L,s0,rfl,Nat.zero_le _,Nat.zero_le _,M0.out,I0.out,L3.out⟩
 case round=>
  obtain⟨i,r,mm,U1,L1,s,rfl,hi,hr,hmm,hI,hR⟩:=hrel;have R:=Lib.hid (And.intro hr (And.intro hmm (And.intro hI hR)));clear hr hmm hI hR L3 I0 M0 U L s0 m0;have hnz40:=SZ.out.2
  by_cases hlt:i < nz
  . have e0:decide (i < nz)=true:=by simpa using hlt
    obtain⟨g,o,rfl,hg,hc1,hc2,hcell⟩:=ZR.out.2 (by omega);have ZC:=Lib.hid (λ(W:World) (hb:Below w.heap.size w W)=>(hb.cell (p:=⟨g,o+i,none⟩) hg).trans (hcell i hlt));have HRG:=Lib.hid (ZR.out.1 i hlt);have h1:=ZC.out wr R.out.2.2.2.bel;unfold maxLen at hc2;obtain⟨z,hz⟩:∃z,z=Z i:=⟨_,rfl⟩;rw[← hz] at h1;have ZC:=Lib.hid (show ∀W,Below w.heap.size w W->W.cell? ⟨g,o+i,none⟩=some (.int .i64 z) from λW hb=>by rw[hz];exact ZC.out W hb);clear hcell hg hz HRG
    by_cases hok:0<=z/\z<=16777216
    . obtain⟨zn,rfl⟩:∃q:Nat,z=(q:Int):=⟨z.toNat,by omega⟩;have ZN:=Lib.hid (show zn<=16777216 from by omega);have e1:decide ((zn:Int) < 0)=false:=decide_eq_false (by omega);have e2:decide (16777216 < (zn:Int))=false:=decide_eq_false (by omega);have e2':decide (16777216 < zn)=false:=decide_eq_false (by omega);clear hok;have V:=Lib.hid (misses_any wr p _ _ _ _ _ _ R.out.2.2.2.ca.box);go_wp2_with fail
      refine V.out.mono ?_;rintro e w5 ⟨rfl,hB⟩;have L5:=Lib.hid (R.out.2.2.2.below hB);have V:=Lib.hid (scores_any w5 p _ _ _ _ _ _ L5.out.ca.box);clear hB;go_wp2_with fail
      refine V.out.mono ?_;rintro e w6 ⟨rfl,hB⟩;have L6:=Lib.hid (L5.out.below hB);have V:=Lib.hid (left_any w6 p _ _ _ _ _ _ L6.out.ca.box);clear hB L5;go_wp2_with fail
      refine V.out.mono ?_;rintro e w7 ⟨rfl,hB⟩;have L7:=Lib.hid (L6.out.below hB);clear hB L6 V h1 e1 e2 e2';obtain⟨m1,hm1⟩:∃m,m=s.mis:=⟨_,rfl⟩;obtain⟨n1,hn1⟩:∃m,m=s.sco:=⟨_,rfl⟩;obtain⟨l1,hl1⟩:∃m,m=s.left:=⟨_,rfl⟩;rw[← hm1,<-hn1,<-hl1];have HM:=Lib.hid (And.intro hm1 (And.intro hn1 hl1));clear hm1 hn1 hl1;obtain⟨b1,b2⟩:=laid7_box w7 m1 (T:=sblk p U1 B E) L7.out.lt;have L8:=L7.out.below b2;obtain⟨b3,b4⟩:=laid7_box (laid7 w7 m1) n1 (T:=sblk p U1 B E) L8.lt;have hxm:(laid7 w7 m1).heap.size=w7.heap.size+1:=by unfold laid7;simp
      rw[hxm] at b3;obtain⟨w8,hw8⟩:∃q,q=laid7 (laid7 w7 m1) n1:=⟨_,rfl⟩;rw[← hw8] at b3 b4;have b5:=b1.below b4;have LD:=Lib.hid (And.intro (L8.below b4) (And.intro b5 b3));unfold laid7 at hw8;have HW:=Lib.hid hw8;clear b1 b2 b3 b4 b5 L8 hw8 hxm;unfold agg7;go_upto_region 16 with fail
      rw[← HW.out];clear HW L7;generalize w7.heap.size=xm at*;generalize xm+1=xn at*;have RZ:=Lib.hid (resize_any w8.drew p X U1 B E L1 s _ zn (LD.out.1.below (bdrew w8)).ca ZN.out (λk hk=>by have:=R.out.1;show 4*r<=96800;omega) (λk hk=>by have:=(R.out.2.2.1.2.2.2 k hk).2;have:=R.out.1;omega));rw[R.out.2.2.1.1] at RZ;have OK:=Lib.hid (λk hk=>LD.out.1.ok (k:=k) hk);have I2:=Lib.hid (RInv.rs (m:=sml zn sh) R.out.2.2.1 OK.out);have ST:=Lib.hid (show(rsA s (sml zn sh)).mis=s.mis/\(rsA s (sml zn sh)).sco=s.sco/\(rsA s (sml zn sh)).left=s.left from⟨rfl,rfl,rfl⟩);obtain⟨t,ht⟩:∃t,t=rsA s (sml zn sh):=⟨_,rfl⟩;obtain⟨m2,hm2⟩:∃m,m=sml zn sh:=⟨_,rfl⟩;rw[← ht] at RZ I2 ST;rw[← hm2] at I2
      have hmx:max (1:Int) ((zn:Int) / 2 ^ sh)=(m2:Int):=by
       rw[show((zn:Int) / 2 ^ sh)=((zn / 2 ^ sh:Nat):Int) by simp,hm2];unfold sml;omega
      have HMX:=Lib.hid (And.intro hmx (show m2≠0 from by rw[hm2];have:=(sml_le (n:=zn) sh ZN.out).1;omega));have hsh:=SZ.out.1;have hmin:min sh 64=sh:=by omega
      have s1:decide (64 < (sh:Int))=false:=decide_eq_false (by omega);have s2:decide ((sh:Int) < 0)=false:=decide_eq_false (by omega);have e9:((m2:Int) != (m2:Int))=false:=by simp
      have e8:((l1:Int) != (l1:Int))=false:=by simp
      have q1:=λW=>neq7 W (m1 0:Int) (m1 1:Int) (m1 2:Int) (m1 3:Int) (m1 4:Int) (m1 5:Int) (m1 6:Int);have q2:=λW=>neq7 W (n1 0:Int) (n1 1:Int) (n1 2:Int) (n1 3:Int) (n1 4:Int) (n1 5:Int) (n1 6:Int);have q3:=λ(W:World)=>guard7 W;clear ht hm2;have az:=ZC.out w8 LD.out.1.bel;obtain⟨am0,am1,am2,am3,am4,am5,am6⟩:=LD.out.2.1.cells;obtain⟨an0,an1,an2,an3,an4,an5,an6⟩:=LD.out.2.2.cells;go_wp2_with fail
      go_region_held3(λw'=>w'.cell? ⟨g,o+i,none⟩=some (.int .i64 (zn:Int))/\w'.cell? ⟨xm,0,none⟩=some (.int .i64 (m1 0:Int))/\w'.cell? ⟨xm,1,none⟩=some (.int .i64 (m1 1:Int))/\w'.cell? ⟨xm,2,none⟩=some (.int .i64 (m1 2:Int))/\w'.cell? ⟨xm,3,none⟩=some (.int .i64 (m1 3:Int))/\w'.cell? ⟨xm,4,none⟩=some (.int .i64 (m1 4:Int))/\w'.cell? ⟨xm,5,none⟩=some (.int .i64 (m1 5:Int))/\w'.cell? ⟨xm,6,none⟩=some (.int .i64 (m1 6:Int))/\w'.cell? ⟨xn,0,none⟩=some (.int .i64 (n1 0:Int))/\w'.cell? ⟨xn,1,none⟩=some (.int .i64 (n1 1:Int))/\w'.cell? ⟨xn,2,none⟩=some (.int .i64 (n1 2:Int))/\w'.cell? ⟨xn,3,none⟩=some (.int .i64 (n1 3:Int))/\w'.cell? ⟨xn,4,none⟩=some (.int .i64 (n1 4:Int))/\w'.cell? ⟨xn,5,none⟩=some (.int .i64 (n1 5:Int))/\w'.cell? ⟨xn,6,none⟩=some (.int .i64 (n1 6:Int))) (first|(with_reducible exact⟨az,am0,am1,am2,am3,am4,am5,am6,an0,an1,an2,an3,an4,an5,an6⟩)|(with_reducible exact⟨bz,bm0,bm1,bm2,bm3,bm4,bm5,bm6,bn0,bn1,bn2,bn3,bn4,bn5,bn6⟩)|(with_reducible exact⟨cz,cm0,cm1,cm2,cm3,cm4,cm5,cm6,cn0,cn1,cn2,cn3,cn4,cn5,cn6⟩)|(with_reducible exact⟨dz,dm0,dm1,dm2,dm3,dm4,dm5,dm6,dn0,dn1,dn2,dn3,dn4,dn5,dn6⟩)|(with_reducible exact⟨fz,fm0,fm1,fm2,fm3,fm4,fm5,fm6,fn0,fn1,fn2,fn3,fn4,fn5,fn6⟩)|(with_reducible exact⟨hz,hm0,hm1,hm2,hm3,hm4,hm5,hm6,hn0,hn1,hn2,hn3,hn4,hn5,hn6⟩)|go_keep)
       (first
       |(go_at_call 26;refine RZ.out.mono ?_;intro e w9 hp;obtain⟨rfl,U9,L9,hL9,hW9⟩:=(LD.out.1.below (bdrew w8)).op hp;have Q9:=Lib.hid (And.intro hL9 (And.intro ((LD.out.2.1.below (bdrew w8)).went hW9) ((LD.out.2.2.below (bdrew w8)).went hW9)));have bz:=ZC.out w9 Q9.out.1.bel;obtain⟨bm0,bm1,bm2,bm3,bm4,bm5,bm6⟩:=Q9.out.2.1.cells;obtain⟨bn0,bn1,bn2,bn3,bn4,bn5,bn6⟩:=Q9.out.2.2.cells;clear hp hL9 hW9)
       |(go_at_call 24;have V:=most_any w9 p X U9 B E L9 t _ Q9.out.1.ca;rw[(I2.out.2.2.2 0 (by omega)).1] at V;refine Calls.mono V ?_;rintro e wa ⟨rfl,hB⟩;have Qa:=Lib.hid (And.intro (Q9.out.1.below hB) (And.intro (Q9.out.2.1.below hB) (Q9.out.2.2.below hB)));have cz:=ZC.out wa Qa.out.1.bel;obtain⟨cm0,cm1,cm2,cm3,cm4,cm5,cm6⟩:=Qa.out.2.1.cells;obtain⟨cn0,cn1,cn2,cn3,cn4,cn5,cn6⟩:=Qa.out.2.2.cells;clear hB V)
       |(go_at_call 14;have V:=misses_any wa p _ _ _ _ _ _ Qa.out.1.ca.box;rw[ST.out.1,<-HM.out.1] at V;unfold agg7 at V;refine Calls.mono V ?_;rintro e wb ⟨rfl,hB⟩;have Qb:=Lib.hid (And.intro (Qa.out.1.below hB) (And.intro (Qa.out.2.1.below hB) (Qa.out.2.2.below hB)));have dz:=ZC.out wb Qb.out.1.bel;obtain⟨dm0,dm1,dm2,dm3,dm4,dm5,dm6⟩:=Qb.out.2.1.cells;obtain⟨dn0,dn1,dn2,dn3,dn4,dn5,dn6⟩:=Qb.out.2.2.cells;clear hB V)
       |(go_at_call 22;have V:=scores_any wb p _ _ _ _ _ _ Qb.out.1.ca.box;rw[ST.out.2.1,<-HM.out.2.1] at V;unfold agg7 at V;refine Calls.mono V ?_;rintro e wc ⟨rfl,hB⟩;have Qc:=Lib.hid (And.intro (Qb.out.1.below hB) (And.intro (Qb.out.2.1.below hB) (Qb.out.2.2.below hB)));have fz:=ZC.out wc Qc.out.1.bel;obtain⟨fm0,fm1,fm2,fm3,fm4,fm5,fm6⟩:=Qc.out.2.1.cells;obtain⟨fn0,fn1,fn2,fn3,fn4,fn5,fn6⟩:=Qc.out.2.2.cells;clear hB V)
       |(go_at_call 21;have V:=left_any wc p _ _ _ _ _ _ Qc.out.1.ca.box;rw[ST.out.2.2,<-HM.out.2.2] at V;refine Calls.mono V ?_;rintro e wd ⟨rfl,hB⟩;have Qd:=Lib.hid (And.intro (Qc.out.1.below hB) (And.intro (Qc.out.2.1.below hB) (Qc.out.2.2.below hB)));have hz:=ZC.out wd Qd.out.1.bel;obtain⟨hm0,hm1,hm2,hm3,hm4,hm5,hm6⟩:=Qd.out.2.1.cells;obtain⟨hn0,hn1,hn2,hn3,hn4,hn5,hn6⟩:=Qd.out.2.2.cells;clear hB V))
      all_goals
       clear az am0 am1 am2 am3 am4 am5 am6 an0 an1 an2 an3 an4 an5 an6 bz bm0 bm1 bm2 bm3 bm4 bm5 bm6 bn0 bn1 bn2 bn3 bn4 bn5 bn6 cz cm0 cm1 cm2 cm3 cm4 cm5 cm6 cn0 cn1 cn2 cn3 cn4 cn5 cn6 dz dm0 dm1 dm2 dm3 dm4 dm5 dm6 dn0 dn1 dn2 dn3 dn4 dn5 dn6 fz fm0 fm1 fm2 fm3 fm4 fm5 fm6 fn0 fn1 fn2 fn3 fn4 fn5 fn6 hz hm0 hm1 hm2 hm3 hm4 hm5 hm6 hn0 hn1 hn2 hn3 hn4 hn5 hn6;have RR:=Lib.hid (And.intro R.out.1 (And.intro HMX.out.2 (And.intro I2.out Qd.out.1)));clear q1 q2 q3 Q9 Qa Qb Qc Qd LD R RZ OK ST HM ZC hmx s1 s2 I2;go_wp2_with fail
       go_loopw [16] (λv W=>∃(j r2:Nat) (U:Nat->Nat->Prop) (M:List (List Nat)) (s2:Sh),v= .int .i64 (j:Int)/\j<=n/\r2<=150*i+j/\RInv sh m2 r2 s2/\ShL w W p X U B E M s2 (λ_=>4*r2)) (λv _=>n - (intOf v).toNat)
       case atStart=>exact⟨0,r,U9,L9,t,rfl,Nat.zero_le _,RR.out.1,RR.out.2.2⟩
       case round=>
        obtain⟨j,r2,U2,M2,s2,rfl,hj,hr2,hI2,hR2⟩:=hrel;have R2:=Lib.hid (And.intro hr2 (And.intro hI2 hR2));clear hr2 hI2 hR2;have hn150:=FB.out.1
        by_cases hlt2:j < n
        . have e0:decide (j < n)=true:=by simpa using hlt2
          obtain⟨g,o,rfl,hg,hc1,hc2,hcell⟩:=KR.out.2 (by omega);have h1:=(R2.out.2.2.bel.cell (p:=⟨g,o+j,none⟩) hg).trans (hcell j hlt2);have hsz:=FB.out.2.2.1 j hlt2;have V1:=Lib.hid (request_any wr p X U2 B E M2 s2 _ (S j) R2.out.2.2.ca (by omega) R2.out.2.1.2.2.1 (λ_ _=>by have:=R2.out.1;show 4*r2<=96800;omega));have I3:=Lib.hid (R2.out.2.1.req RR.out.2.1 (λk hk=>R2.out.2.2.ok (k:=k) hk) (S j));generalize decide (s2.left=1)=bb at*;generalize S j=kj at*;clear hcell hg hsz;unfold maxLen at hc2;go_wp2_with fail
          refine V1.out.mono ?_;intro e w5 hp;obtain⟨rfl,U5,L5,hR5,_⟩:=R2.out.2.2.op hp;have R5:=Lib.hid (And.intro (show r2+1<=150*i+(j+1) from by have:=R2.out.1;omega) (And.intro I3.out (hR5.mono (c:=λ_=>4*(r2+1)) (λ_ _=>by show 4*r2+4<=4*(r2+1);omega))));clear hp hR5 R2 V1 h1 I3;go_wp2_with fail
          go_roundw
          case rel=>exact⟨j+1,r2+1,U5,L5,_,by go_num,by omega,R5.out⟩
          case measure=>simp[intOf] <;> omega
        . have e0:decide (j < n)=false:=by simpa using hlt2
          have hjn:j=n:=by omega
          have R3:=Lib.hid (show r2<=150*(i+1)/\RInv sh m2 r2 s2/\ShL w wr p X U2 B E M2 s2 (λ_=>4*r2) from⟨by have:=R2.out.1;omega,R2.out.2⟩);clear R2 hjn;go_wp2_with fail
          go_loopw [17] (λv W=>∃k:Nat,v= .int .i64 (k:Int)/\k<=7/\ShL w W p X U2 B E M2 s2 (λ_=>4*r2)) (λv _=>7 - (intOf v).toNat)
          case atStart=>exact⟨0,rfl,by omega,R3.out.2.2⟩
          case round=>
             obtain⟨k,rfl,hk,hL⟩:=hrel;have L1:=Lib.hid hL;clear hL
             by_cases hlt3:k < 7
             . have e1:decide ((k:Int) < 7)=true:=decide_eq_true (by omega);have V:=Lib.hid (keys_any wr p X U2 B E M2 s2 _ L1.out.ca k hlt3)
               have LE1:=Lib.hid (show(s2.st k).keys.length<=m2 from by
                have:=ISt.le (L1.out.ok (k:=k) hlt3);rw[(R3.out.2.1.2.2.2 k hlt3).1] at this;exact this)
               generalize(s2.st k).keys=ks at*;go_wp2_with fail
               refine V.out.mono ?_;rintro e w6 ⟨v6,rfl,hO,hB⟩;obtain⟨g6,_,hr6⟩:=hO.row;obtain⟨A6,c6,rfl⟩:=hr6.shape;have L2:=Lib.hid (L1.out.below hB);have V:=most_any w6 p X U2 B E M2 s2 _ L2.out.ca;rw[(R3.out.2.1.2.2.2 0 (by omega)).1] at V
               replace V:=Lib.hid V
               obtain⟨kl,hkl⟩:∃y,y=ks.length:=⟨_,rfl⟩;rw[← hkl] at LE1|-;have hle:=LE1.out;have e4:decide ((m2:Int) < (kl:Int))=false:=decide_eq_false (by omega);have e5:decide (m2 < kl)=false:=decide_eq_false (by omega);clear hO hB hr6 L1 hkl hle;go_wp2_with fail
               refine V.out.mono ?_;rintro e w7 ⟨rfl,hB⟩;have L3:=Lib.hid (L2.out.below hB);clear hB V L2;go_wp2_with fail
               go_roundw
               case rel=>exact⟨k+1,by go_num,by omega,L3.out⟩
               case measure=>simp[intOf] <;> omega
             . obtain rfl:k=7:=by omega
               go_wp2_with fail
               go_roundw
               case rel=>exact⟨i+1,r2,m2,U2,M2,s2,by go_num,by omega,R3.out.1,RR.out.2.1,R3.out.2.1,L1.out⟩
               case measure=>simp[intOf] <;> omega
    . have bad:z < 0\/16777216 < z:=by omega
      have BD:=Lib.hid bad;have V:=Lib.hid (most_any wr p X U1 B E L1 s _ R.out.2.2.2.ca);rw[(R.out.2.2.1.2.2.2 0 (by omega)).1] at V
      have e1:decide (z < 0)=true\/(decide (z < 0)=false/\decide (16777216 < z)=true):=by
       rcases bad with h|h
       . exact Or.inl (decide_eq_true h)
       . by_cases h0:z < 0
         . exact Or.inl (decide_eq_true h0)
         . exact Or.inr ⟨decide_eq_false h0,decide_eq_true h⟩
      have E1:=Lib.hid e1;clear bad hok e1;rcases E1.out with e1|⟨e1,e2⟩
      all_goals
       clear E1;go_wp2_with fail
       refine V.out.mono ?_;rintro e w5 ⟨rfl,hB⟩;have L5:=Lib.hid (R.out.2.2.2.below hB);have h1:=ZC.out w5 L5.out.bel;have N:=Lib.hid (resize_no w5 p z BD.out);clear hB V;go_wp2_with fail
       refine N.out.mono ?_;rintro e w6 ⟨v,rfl,hF,hB⟩;have L6:=Lib.hid (L5.out.below hB);have WR:=Lib.hid (hF.wraps (by decide) (HLD.out.below L6.out.bel (Nat.le_refl _)));clear hF hB N L5;go_wp2_with fail
       refine Calls.mono (show Calls Tryz.prog 25 #[v,.string ⟨#[114,101,115,105,122,101]⟩,.string ⟨#[]⟩,.int .i64 1] w6 _ from WR.out) ?_;rintro e w7 ⟨rfl,hB⟩;have L7:=Lib.hid (L6.out.below hB);have V:=Lib.hid (most_any w7 p X U1 B E L1 s _ L7.out.ca);rw[(R.out.2.2.1.2.2.2 0 (by omega)).1] at V;have e9:((mm:Int) != (mm:Int))=false:=by simp
       clear hB WR L6;go_wp2_with fail
       refine V.out.mono ?_;rintro e w8 ⟨rfl,hB⟩;have L8:=Lib.hid (L7.out.below hB);clear hB V L7;go_wp2_with fail
       go_roundw
       case rel=>exact⟨i+1,r,mm,U1,L1,s,by go_num,by omega,by have:=R.out.1;omega,R.out.2.1,R.out.2.2.1,L8.out⟩
       case measure=>simp[intOf] <;> omega
  . have e0:decide (i < nz)=false:=by simpa using hlt
    go_wp2_with fail
    go_ret;exact⟨rfl,R.out.2.2.2.bel⟩
end Go.Proofs.YtdmmciggopmglaaGreatDoor.SW
namespace Go.Proofs.YtdmmciggopmglaaGreatDoor
open Go.ChangeShapes Go.WideShapes Go.ChangeAt Go.RowKit Sg
open Go.ChangeMaps (open_string shut_string)
theorem walk_shadowResizes(a0:Int)(v1:Value)(v2:Value)(v3:Value)(w:World)(w0:(Lit.int .i64 a0).wf=true)(w1:CameN w v1)(w2:CameRR w v2)(w3:CameS w v3)(hl:Laid w/\Named w):Calls Tryz.prog 6 #[.int .i64 a0,v1,v2,v3] w (IN.RetB true w):=by
 obtain⟨A,n,cc,rfl,hn,S,hr,hc⟩:=w3;obtain⟨Al,nl,cl,V,rfl,hnl,hv1,hv2,hL⟩:=pick_lanes2 w2;obtain⟨Az,nz,cz,rfl,hnz,Z,hz1,hz2⟩:=w1;have hz0:=i64_rng w0;obtain⟨fb,hfb⟩:=SW.few_bool n nl S V
 by_cases hok:fb=true/\¬(a0 < 0)/\¬(16 < a0)/\¬(40 < (nz:Int))
 . obtain⟨q,q0,q1,q2⟩:=hok;obtain⟨sh,rfl⟩:∃m:Nat,a0=(m:Int):=⟨a0.toNat,by omega⟩;have hf:=hfb.1 q
   obtain⟨L,hL1,_⟩:=hL hf.2.1 λi hi=>by
    obtain⟨a,m,d,e,_⟩:=hv1 i hi;have h3:=hf.2.2.2 i hi;rw[e] at h3;exact⟨a,m,d,e,h3⟩
   exact SW.shadowResizes_main w sh Az nz cz Z Al nl cl V L A n cc S q0 q1 q2 hn hnl ⟨hr,hc⟩ ⟨hv1,hv2⟩ hL1 hnz ⟨hz1,hz2⟩ hf hl
 . have PW:=Lib.hid (show fb=false\/(fb=true/\decide (a0 < 0)=true)\/(fb=true/\decide (a0 < 0)=false/\decide (16 < a0)=true)\/(fb=true/\decide (a0 < 0)=false/\decide (16 < a0)=false/\decide (40 < (nz:Int))=true) from by
    by_cases pf:fb=true
    . refine Or.inr ?_
      by_cases p0:decide (a0 < 0)=true
      . exact Or.inl ⟨pf,p0⟩
      rw[Bool.not_eq_true] at p0
      by_cases p1:decide (16 < a0)=true
      . exact Or.inr (Or.inl ⟨pf,p0,p1⟩)
      rw[Bool.not_eq_true] at p1
      by_cases p2:decide (40 < (nz:Int))=true
      . exact Or.inr (Or.inr (⟨pf,p0,p1,p2⟩))
      rw[Bool.not_eq_true] at p2;exact absurd ⟨pf,of_decide_eq_false p0,of_decide_eq_false p1,of_decide_eq_false p2⟩ hok
    . exact Or.inl (by simpa using pf))
   have AW:=Lib.hid (SW.awake_any w hl.1);have FW:=Lib.hid (λw1 hb=>SW.few_told (w:=w) hn hnl ⟨hr,hc⟩ ⟨hv1,hv2⟩ hfb w1 hb);unfold maxLen at hn hnl hnz;clear hr hc hok hl hfb hv1 hv2 hL hz1 hz2 hz0 w0 w2;rcases PW.out with rfl|⟨rfl,e0⟩|⟨rfl,e0,e1⟩|⟨rfl,e0,e1,e2⟩
   all_goals
    clear PW;go_enter Tryz.func6,Tryz.ntmps6;go_wp2_with fail
    refine AW.out.mono ?_;rintro e w0 ⟨rfl,hb0⟩;have b0:=Lib.hid hb0;clear hb0 AW;go_wp2_with fail
    refine(FW.out w0 b0.out).mono ?_;rintro e w1 ⟨rfl,hB⟩;have b1:=Lib.hid (b0.out.trans (hB.mono b0.out.size));clear hB b0;go_wp2_with fail
    go_ret;exact⟨rfl,b1.out⟩
namespace LShadowResizes
set_option maxRecDepth 100000 in
theorem lifted(os:Os)(started:os.Started)(H:Type)(enc:TypeId × Value->H):
 ReturnsInHanded {} Tryz.checked os 6 .any (λw args=>(Rows.shadowResizesSpec.pre enc Tryz.prog Tryz.f6 [] false w args/\laidMetH Tryz.prog seatLaid w)/\sizedMet enc Tryz.prog Tryz.f6 (OpenSpec.ofChange Rows.shadowResizesSpec) false w args)
  (Rows.shadowResizesSpec.post enc Tryz.prog Tryz.f6 false true false false):=by
 refine returnsInHanded_of_change_and (C:=Tryz.checked) (X:=λw _=>laidMetH Tryz.prog seatLaid w) (λ_ _ _ hh h=>h.of_heap hh) own started (by kernel_rfl) Tryz.func6
  (ChangeSpec.witness_at (enc:=enc) (C:=Tryz.checked) (os:=os) (X:=λw _=>laidMetH Tryz.prog seatLaid w) false (laidWorld os) #[.int .i64 0,.slice none 0 0,.slice none 0 0,.slice none 0 0] 8 rfl (by kernel_rfl) (by kernel_rfl) (by kernel_rfl) (by kernel_rfl) (by kernel_rfl) (laidWorld_met os _)) ?_
 intro W base args ds gs before hval0 hW _ _ hL _;have hval:∀(j:Nat) t v,Tryz.f6.params[j]?=some t->args[j]?=some v->Value.okWide Tryz.prog W .any base t v:=hval0
 have hW':=hW;obtain⟨p,q,hA0,hV,rfl,hfz,hnd⟩:=hW;have hA:DataW.TrodAll enc Tryz.prog W 0 (λ_=>true) true Tryz.f6.params.toList args.toList ds p:=hA0;rw[Tryz.params6] at hA hval;obtain⟨v0,vs0,d0,ds0,p0,q0,hargs,rfl,rfl,h0,r0⟩:=trodAll_cons hA;obtain⟨v1,vs1,d1,ds1,p1,q1,rfl,rfl,rfl,h1,r1⟩:=trodAll_cons r0;obtain⟨v2,vs2,d2,ds2,p2,q2,rfl,rfl,rfl,h2,r2⟩:=trodAll_cons r1;obtain⟨v3,vs3,d3,ds3,p3,q3,rfl,rfl,rfl,h3,r3⟩:=trodAll_cons r2;obtain⟨rfl,rfl,rfl⟩:=trodAll_nil r3;obtain rfl:args= #[v0,v1,v2,v3]:=by cases args;simp_all
 obtain⟨rfl,rfl⟩:=trodVars_none hV;obtain⟨a0,rfl,rfl,rfl,w0⟩:=open_int Tryz.underlying3 (hval 0 3 v0 rfl rfl) h0;have k1:=h1;have lt1:∀x∈p1,x.block < W.heap.size:=by obtain⟨m,hm⟩:=k1;exact DataW.trod_lt m _ _ _ hm
 have w1:=open_n (hval 1 51 v1 rfl rfl) h1;have k2:=h2;have lt2:∀x∈p2,x.block < W.heap.size:=by obtain⟨m,hm⟩:=k2;exact DataW.trod_lt m _ _ _ hm
 have w2:=open_R (hval 2 22 v2 rfl rfl) h2;have k3:=h3;have lt3:∀x∈p3,x.block < W.heap.size:=by obtain⟨m,hm⟩:=k3;exact DataW.trod_lt m _ _ _ hm
 have w3:=open_z (hval 3 23 v3 rfl rfl) h3;clear hA0 hval0;refine(walk_shadowResizes a0 v1 v2 v3 W w0 w1 w2 w3 (laid_of hL)).mono λe W' ⟨he,bel⟩=>?_;subst he;exact⟨_,rfl,_,_,_,[],_,[],hW',trodAll_mk1 (shut_bool Tryz.underlying4 _),(trodAll_cons_mk (shut_int Tryz.underlying3 w0) (trodAll_cons_mk (Below.trod laidOut (by kernel_rfl) (of_decide_eq_true (by kernel_rfl)) k1 bel lt1) (trodAll_cons_mk (Below.trod laidOut (by kernel_rfl) (of_decide_eq_true (by kernel_rfl)) k2 bel lt2) (trodAll_cons_mk (Below.trod laidOut (by kernel_rfl) (of_decide_eq_true (by kernel_rfl)) k3 bel lt3) trodAll_mk0)))),rfl,bel.frame _,λh=>by cases h⟩
theorem band{x y:Bool}(h:x=true)(k:y=true):(x&&y)=true:=by rw[h,k];rfl
set_option maxRecDepth 100000
theorem cj0:(Rows.shadowResizesRow.wf (OpenSpec.ofChange Rows.shadowResizesSpec))=true:=by kernel_rfl
theorem cj1:(laidOutB Tryz.pinned.checked.prog)=true:=by kernel_rfl
theorem cj2:(mapsRowed Tryz.pinned.checked.prog)=true:=by kernel_rfl
theorem cj9:(Rows.shadowResizesRow.inPlace==Tryz.pinned.checked.prog.inPlace 6)=true:=by kernel_rfl
theorem cj10:(Rows.shadowResizesRow.unfollowed==Tryz.pinned.checked.prog.unfollowed 6)=true:=by kernel_rfl
theorem cj11:(Rows.shadowResizesRow.recurses==Tryz.pinned.checked.prog.recurses 6)=true:=by kernel_rfl
theorem cj12:(Rows.shadowResizesRow.named==Tryz.pinned.checked.prog.varsNamed 6)=true:=by kernel_rfl
theorem cj22:(Rows.shadowResizesRow.plainKeys==Tryz.pinned.checked.prog.plainKeys)=true:=by kernel_rfl
theorem cj24:(Tryz.pinned.checked.prog.stopsHeard)=true:=by kernel_rfl
theorem cj25:(Tryz.pinned.checked.prog.mayEnter)=true:=by kernel_rfl
theorem cj26:(Rows.shadowResizesRow.lifted==Tryz.pinned.checked.prog.liftsFinal)=true:=by kernel_rfl
theorem cj27:(Tryz.pinned.checked.prog.make==some Rows.shadowResizesRow.make)=true:=by kernel_rfl
theorem closed:joinedFacts Tryz.pinned.checked.prog 6 Tryz.f6 Rows.shadowResizesSpec Rows.shadowResizesRow=true:=by
 unfold joinedFacts;exact band (band (band (band (band (band (band (band (band (band (band (band (band (band (band (band (band (band (band (band (band (band (band (band (band (band (band (band (band (band (band (cj0) cj1) cj2) (by kernel_rfl)) (by kernel_rfl)) (by kernel_rfl)) (by kernel_rfl)) (by kernel_rfl)) (by kernel_rfl)) cj9) cj10) cj11) cj12) (by kernel_rfl)) (by kernel_rfl)) (by kernel_rfl)) (by kernel_rfl)) (by kernel_rfl)) (by kernel_rfl)) (by kernel_rfl)) (by kernel_rfl)) (by kernel_rfl)) cj22) (by kernel_rfl)) cj24) cj25) cj26) cj27) (by kernel_rfl)) (by kernel_rfl)) (by kernel_rfl)) (by kernel_rfl)
theorem fnm:Tryz.pinned.checked.prog.funcNamed "cachewise/cachewiselaw12.ShadowResizes" =some 6:=by kernel_rfl
theorem isIn:Tryz.f6.isInstance Tryz.pinned.checked.prog Rows.shadowResizesRow.origin Rows.shadowResizesRow.targs:=of_decide_eq_true (by kernel_rfl)
theorem isWr:Tryz.f6.isWrapper Tryz.pinned.checked.prog Rows.shadowResizesRow.wrapper Rows.shadowResizesRow.mainSum:=by unfold Func.isWrapper;rw[if_neg (of_decide_eq_false (by kernel_rfl))];exact⟨rfl,rfl⟩
theorem said:Rows.ShadowResizesSaid:=
 OpenClaim.holds_of_wide 6 Tryz.f6 rfl rfl rfl rfl rfl rfl rfl ⟨rfl,rfl,rfl,rfl,rfl⟩ rfl rfl rfl rfl rfl fnm Tryz.func6 closed isIn isWr
  (λos started H enc _=>lifted os started H enc)
theorem hwT:Rows.shadowResizesRow.wfByText (OpenSpec.ofChange Rows.shadowResizesSpec)=true:=by kernel_rfl
theorem mnI:Tryz.pinned.checked.prog.mainIs=some (Rows.shadowResizesCard.stood.harness.1,Rows.shadowResizesCard.stood.harness.2.toList):=by kernel_rfl
theorem lkT:Rows.shadowResizesCard.stood.looks=Tryz.pinned.checked.prog.looks []:=by kernel_rfl
theorem gsB:false=Rows.shadowResizesRow.goesBy Tryz.pinned.checked.prog:=by kernel_rfl
theorem siR:Tryz.prog.wantsStandIn 22=false:=by kernel_rfl
theorem sii:Tryz.prog.wantsStandIn 3=false:=by kernel_rfl
theorem sin:Tryz.prog.wantsStandIn 51=false:=by kernel_rfl
theorem siz:Tryz.prog.wantsStandIn 23=false:=by kernel_rfl
theorem card:Rows.ShadowResizesCardSaid:=
 Claim7.holds_tied_plain_at .later [] _ _ _ _ said (λ_ h=>by cases h) hwT (λ_ h=>by cases h) shadowResizes_row_tie rfl ⟨rfl,rfl⟩ mnI rfl
  (λf fn hf hfn=>by
    obtain rfl:f=6:=Option.some.inj (fnm.symm.trans hf) |>.symm;obtain rfl:fn=Tryz.f6:=(Option.some.inj (Tryz.func6.symm.trans hfn)).symm;refine⟨lkT,λj t ht=>?_⟩;rw[Tryz.params6] at ht;rcases j with _|_|_|_|j
    . obtain rfl:t=3:=by simpa using ht.symm
      exact sii
    . obtain rfl:t=51:=by simpa using ht.symm
      exact sin
    . obtain rfl:t=22:=by simpa using ht.symm
      exact siR
    . obtain rfl:t=23:=by simpa using ht.symm
      exact siz
    . simp at ht)
  gsB
#print axioms card
end LShadowResizes
end Go.Proofs.YtdmmciggopmglaaGreatDoor
