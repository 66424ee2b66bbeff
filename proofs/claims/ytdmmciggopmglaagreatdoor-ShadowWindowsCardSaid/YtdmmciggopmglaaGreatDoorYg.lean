/- SwE SwF SwN, in one text. -/
import Derived.Test.YtdmmciggopmglaaGreatDoorYf
import Derived.Test.YtdmmciggopmglaaGreatDoorY8
import Derived.RegionTactic
import Derived.BigRegion
set_option maxRecDepth 20000
namespace Go.Proofs.YtdmmciggopmglaaGreatDoor.SW
open Go.RowKit Sg IN HS
theorem ix7{k:Nat}(hk:k < 7)(M:Nat->Nat)(W:World):(Instr.index 34 (.agg #[.int .i64 (M 0:Int),.int .i64 (M 1:Int),.int .i64 (M 2:Int),.int .i64 (M 3:Int),.int .i64 (M 4:Int),.int .i64 (M 5:Int),.int .i64 (M 6:Int)]) (.int .i64 (k:Int))).run Tryz.prog W= .ok (.int .i64 (M k:Int)) W:=by
 rcases seven hk with rfl|rfl|rfl|rfl|rfl|rfl|rfl <;> kernel_rfl
theorem SBox.zeroM{w:World}{p a b c:Nat}{P:Nat->Value}{M S:Nat->Nat}(h:SBox w p a b c P M S):
 SBox (((((((w.setCell ⟨p,10,none⟩ (.int .i64 0)).setCell ⟨p,11,none⟩ (.int .i64 0)).setCell ⟨p,12,none⟩ (.int .i64 0)).setCell ⟨p,13,none⟩ (.int .i64 0)).setCell ⟨p,14,none⟩ (.int .i64 0)).setCell ⟨p,15,none⟩ (.int .i64 0)).setCell ⟨p,16,none⟩ (.int .i64 0)) p a b c P (λ_=>0) S/\
 Turn (λk=>k=p) w (((((((w.setCell ⟨p,10,none⟩ (.int .i64 0)).setCell ⟨p,11,none⟩ (.int .i64 0)).setCell ⟨p,12,none⟩ (.int .i64 0)).setCell ⟨p,13,none⟩ (.int .i64 0)).setCell ⟨p,14,none⟩ (.int .i64 0)).setCell ⟨p,15,none⟩ (.int .i64 0)).setCell ⟨p,16,none⟩ (.int .i64 0)):=by
 refine⟨?_,((((((((Turn.refl (λk=>k=p) w).setCell (p:=⟨p,10,none⟩) (Or.inl rfl) _).setCell (p:=⟨p,11,none⟩) (Or.inl rfl) _).setCell (p:=⟨p,12,none⟩) (Or.inl rfl) _).setCell (p:=⟨p,13,none⟩) (Or.inl rfl) _).setCell (p:=⟨p,14,none⟩) (Or.inl rfl) _).setCell (p:=⟨p,15,none⟩) (Or.inl rfl) _).setCell (p:=⟨p,16,none⟩) (Or.inl rfl) _)⟩;have r0:SBox (w.setCell ⟨p,10,none⟩ (.int .i64 0)) p a b c P (pu M 0 0) S:=h.sM (k:=0) (by omega) 0;generalize w.setCell ⟨p,10,none⟩ (.int .i64 0)=w0 at*;have r1:SBox (w0.setCell ⟨p,11,none⟩ (.int .i64 0)) p a b c P (pu (pu M 0 0) 1 0) S:=r0.sM (k:=1) (by omega) 0;generalize w0.setCell ⟨p,11,none⟩ (.int .i64 0)=w1 at*;have r2:SBox (w1.setCell ⟨p,12,none⟩ (.int .i64 0)) p a b c P (pu (pu (pu M 0 0) 1 0) 2 0) S:=r1.sM (k:=2) (by omega) 0;generalize w1.setCell ⟨p,12,none⟩ (.int .i64 0)=w2 at*;have r3:SBox (w2.setCell ⟨p,13,none⟩ (.int .i64 0)) p a b c P (pu (pu (pu (pu M 0 0) 1 0) 2 0) 3 0) S:=r2.sM (k:=3) (by omega) 0;generalize w2.setCell ⟨p,13,none⟩ (.int .i64 0)=w3 at*;have r4:SBox (w3.setCell ⟨p,14,none⟩ (.int .i64 0)) p a b c P (pu (pu (pu (pu (pu M 0 0) 1 0) 2 0) 3 0) 4 0) S:=r3.sM (k:=4) (by omega) 0;generalize w3.setCell ⟨p,14,none⟩ (.int .i64 0)=w4 at*;have r5:SBox (w4.setCell ⟨p,15,none⟩ (.int .i64 0)) p a b c P (pu (pu (pu (pu (pu (pu M 0 0) 1 0) 2 0) 3 0) 4 0) 5 0) S:=r4.sM (k:=5) (by omega) 0;generalize w4.setCell ⟨p,15,none⟩ (.int .i64 0)=w5 at*;have r6:SBox (w5.setCell ⟨p,16,none⟩ (.int .i64 0)) p a b c P (pu (pu (pu (pu (pu (pu (pu M 0 0) 1 0) 2 0) 3 0) 4 0) 5 0) 6 0) S:=r5.sM (k:=6) (by omega) 0;exact r6
def EPost(w:World)(p:Nat)(X:Nat->Nat)(U:Nat->Nat->Prop)(B E:Nat)(L:List (List Nat))(s:Sh)(b:Nat->Nat)(e:Ending)(w':World):Prop:=
 e= .returned (.tuple #[])/\Shd w' p X U B E L s b/\Went w w' (sblk p U B E) (sblk p U B E)
set_option maxHeartbeats 2000000 in
theorem endWindow_any(w:World)(p:Nat)(X:Nat->Nat)(U:Nat->Nat->Prop)(B E:Nat)(L:List (List Nat))(s:Sh)(b:Nat->Nat)(q:Shd w p X U B E L s b)(hb:∀k,k < 7->b k<=100000):
 Calls Tryz.prog 32 #[.pointer (some ⟨p,0,none⟩)] w (EPost w p X U B E L s.endw b):=by
 have m0:=q.box.cM (k:=0) (by omega);have m1:=q.box.cM (k:=1) (by omega);have m2:=q.box.cM (k:=2) (by omega);have m3:=q.box.cM (k:=3) (by omega);have m4:=q.box.cM (k:=4) (by omega);have m5:=q.box.cM (k:=5) (by omega);have m6:=q.box.cM (k:=6) (by omega);simp only[Nat.reduceAdd] at m0 m1 m2 m3 m4 m5 m6;have IX:=Lib.hid (λ(k:Nat) (W:World) (hk:k < 7)=>ix7 hk s.mis W);have Q0:=Lib.hid (show Shd w p X U B E L (s.endS 0) b from q.congr rfl rfl rfl (λ_ _=>rfl) (λ_ _=>rfl) (λk _=>show(if k < 0 then s.sco k / 2+s.mis k else s.sco k)=_ from if_neg (Nat.not_lt_zero k)) (λ_ _=>Nat.le_refl _));have HB:=Lib.hid (And.intro hb (And.intro q.mis q.sco));clear q hb;go_enter Tryz.func32,Tryz.ntmps32;go_wp2_with fail
 clear m0 m1 m2 m3 m4 m5 m6;go_loopw [8] (λv W=>∃k:Nat,v= .int .i64 (k:Int)/\k<=7/\Shd W p X U B E L (s.endS k) b/\Went w W (sblk p U B E) (sblk p U B E)) (λv _=>7 - (intOf v).toNat)
 case atStart=>exact⟨0,rfl,by omega,Q0.out,Went.refl _ _⟩
 case round=>
  obtain⟨k,rfl,hk,hq,hW⟩:=hrel;have Q:=Lib.hid (And.intro hq hW);clear hq hW Q0
  by_cases hlt:k < 7
  . have e0:decide ((k:Int) < 7)=true:=decide_eq_true (by omega);have i0:=λW=>IX.out k W hlt;have i1:=ixS hlt p;have cs:=Q.out.1.box.cS hlt;have fs:=Q.out.1.box.fr (17+k);have es:(s.endS k).sco k=s.sco k:=if_neg (Nat.lt_irrefl k);obtain⟨n,hn⟩:∃n,n=s.sco k:=⟨_,rfl⟩;obtain⟨y,hy⟩:∃y,y=s.mis k:=⟨_,rfl⟩;obtain⟨h,hh⟩:∃h,h=n / 2:=⟨_,rfl⟩;obtain⟨z,hz⟩:∃z,z=h+y:=⟨_,rfl⟩;have hbk:=HB.out.1 k hlt;have hmk:=HB.out.2.1 k hlt;have hsk:=HB.out.2.2 k hlt;rw[← hn] at hsk;rw[← hy] at hmk;rw[es,<-hn] at cs;have hqn:(n:Int) / 2=(h:Int):=by omega
    have WR:=Lib.hid (show wrap64 (wrap64 (h:Int)+(y:Int))=(z:Int) from by rw[IntWalk.wrap64_in (h:Int) (by omega),IntWalk.wrap64_in _ (by omega)];omega);rw[← hy] at i0;have ht:Turn (λk=>k=p) wr (wr.setCell ⟨p,17+k,none⟩ (.int .i64 (z:Int))):=(Turn.refl (λk=>k=p) wr).setCell (p:=⟨p,17+k,none⟩) (Or.inl rfl) _
    have FIN:=Lib.hid (Q.out.1.wrote (s':=s.endS (k+1)) (c:=b) ht (by
     have h9:=Q.out.1.box.sS hlt z;unfold SBox at h9|-;rw[h9];congr 2;refine scells_congr (λ_ _=>rfl) (λ_ _=>rfl) λj _=>?_;show pu (s.endS k).sco k z j=if j < k+1 then s.sco j / 2+s.mis j else s.sco j
     by_cases e:j=k
     . rw[e,pu_at,if_pos (Nat.lt_succ_self k),<-hn,<-hy,<-hh,<-hz]
     . rw[pu_ne _ _ e];show(if j < k then s.sco j / 2+s.mis j else s.sco j)=_
       by_cases h5:j < k
       . rw[if_pos h5,if_pos (by omega)]
       . rw[if_neg h5,if_neg (by omega)]) rfl (λj hj=>HB.out.2.1 j hj) (λj hj=>by
     show(if j < k+1 then s.sco j / 2+s.mis j else s.sco j)<=2*b j;have:=HB.out.2.1 j hj;have:=HB.out.2.2 j hj;split <;> omega) (λ_ _=>Nat.le_refl _) Q.out.1.sh Q.out.1.lw)
    have QW:=Lib.hid Q.out.2;clear es hn hy hh hz hbk hmk hsk ht Q;go_wp2_with fail
    go_region;rw[WR.out];have hd:=Lib.hid (bdrew (wr.setCell ⟨p,17+k,none⟩ (.int .i64 (z:Int))));go_wp2_with fail
    go_roundw
    case rel=>exact⟨k+1,by go_num,by omega,FIN.out.1.below hd.out,(QW.out.trans FIN.out.2).trans (Went.below hd.out)⟩
    case measure=>simp[intOf] <;> omega
  . obtain rfl:k=7:=by omega
    have hf:=Q.out.1.box.fr;have c1:=Q.out.1.box.c1;have m0:=Q.out.1.box.cM (k:=0) (by omega);have m1:=Q.out.1.box.cM (k:=1) (by omega);have m2:=Q.out.1.box.cM (k:=2) (by omega);have m3:=Q.out.1.box.cM (k:=3) (by omega);have m4:=Q.out.1.box.cM (k:=4) (by omega);have m5:=Q.out.1.box.cM (k:=5) (by omega);have m6:=Q.out.1.box.cM (k:=6) (by omega);have f0:=hf 10;have f1:=hf 11;have f2:=hf 12;have f3:=hf 13;have f4:=hf 14;have f5:=hf 15;have f6:=hf 16;simp only[Nat.reduceAdd] at m0 m1 m2 m3 m4 m5 m6;clear hf;obtain⟨z1,z2⟩:=Q.out.1.box.zeroM;have Z:=Lib.hid (And.intro z1 z2);clear z1 z2;go_upto_region 6 with fail
    generalize(((((((wr.setCell ⟨p,10,none⟩ (.int .i64 0)).setCell ⟨p,11,none⟩ (.int .i64 0)).setCell ⟨p,12,none⟩ (.int .i64 0)).setCell ⟨p,13,none⟩ (.int .i64 0)).setCell ⟨p,14,none⟩ (.int .i64 0)).setCell ⟨p,15,none⟩ (.int .i64 0)).setCell ⟨p,16,none⟩ (.int .i64 0))=w2 at*;clear m0 m1 m2 m3 m4 m5 m6 f0 f1 f2 f3 f4 f5 f6 c1;have c1:=Z.out.1.c1;have c2:=Z.out.1.c2;have f2:=Z.out.1.fr 2;have ht:Turn (λk=>k=p) wr (w2.setCell ⟨p,2,none⟩ (.int .i64 ((s.endS 7).win:Int))):=Z.out.2.setCell (p:=⟨p,2,none⟩) (Or.inl rfl) _
    have FIN:=Lib.hid (Q.out.1.wrote (s':=s.endw) (c:=b) ht (by
     have h9:=Z.out.1.s2 (s.endS 7).win;unfold SBox at h9|-;rw[h9];rfl) rfl (λ_ _=>Nat.zero_le _) (λj hj=>by
     show s.sco j / 2+s.mis j<=2*b j;have:=HB.out.2.1 j hj;have:=HB.out.2.2 j hj;omega) (λ_ _=>Nat.le_refl _) Q.out.1.sh ⟨Nat.le_refl _,Q.out.1.lw.2⟩)
    have QW:=Lib.hid Q.out.2;clear ht Q Z;go_wp2_with fail
    go_end0;exact⟨rfl,FIN.out.1,QW.out.trans FIN.out.2⟩
theorem smp_any(key:ByteArray)(a:Nat)(W:World)(hs:key.size<=500)(ha:a<=16):Calls Tryz.prog 16 #[.string key,.int .i64 (a:Int)] W (λe w'=>e= .returned (.bool (smp key a))/\w'=W):=by
 rw[smp_eq];exact(samp_any key a W hs (by omega) (by omega)).mono λ_ _ h=>⟨h.1,h.2.symm⟩
set_option maxHeartbeats 2000000 in
theorem request_any(w:World)(p:Nat)(X:Nat->Nat)(U:Nat->Nat->Prop)(B E:Nat)(L:List (List Nat))(s:Sh)(b:Nat->Nat)(key:ByteArray)(q:Shd w p X U B E L s b)(hs:key.size<=500)(hl:1<=s.left)(hb:∀k,k < 7->b k<=96800):
 Calls Tryz.prog 13 #[.pointer (some ⟨p,0,none⟩),.string key] w (SPost (.bool (decide (s.left=1))) w p X U B E (s.req key) (λk=>b k+4)):=by
 obtain⟨q1,b1⟩:=q.newbox (.pointer (some ⟨p,0,none⟩)) 26;have hb1:=(Below.refl w.heap.size w).alloc (Nat.le_refl _) (.cells #[.pointer (some ⟨p,0,none⟩)] 26);obtain⟨q2,b2⟩:=q1.newbox (.string key) 9;have hb2:=(Below.refl (w.alloc (.cells #[.pointer (some ⟨p,0,none⟩)] 26)).heap.size (w.alloc (.cells #[.pointer (some ⟨p,0,none⟩)] 26))).alloc (Nat.le_refl _) (.cells #[.string key] 9);rw[show(w.alloc (.cells #[.pointer (some ⟨p,0,none⟩)] 26)).heap.size=w.heap.size+1 by simp] at b2;have Q2:=Lib.hid (And.intro q2 (And.intro (b1.below hb2) (And.intro b2 ((Went.below (S:=sblk p U B E) hb1).trans (Went.below hb2)))));have LL:=Lib.hid (And.intro hl q.lw);have HB:=Lib.hid hb;have HS:=Lib.hid hs;have SM:=Lib.hid (λ(W:World)=>smp_any key s.shift W hs q.sh);obtain⟨eb,heb⟩:∃eb,eb=decide (s.left=1):=⟨_,rfl⟩;rw[← heb];have EB:=Lib.hid heb;clear q q1 b1 hb1 q2 b2 hb2 hb hs hl heb;go_enter Tryz.func13,Tryz.ntmps13;go_upto_region 1 with fail
 obtain⟨n,hn⟩:∃n,n=w.heap.size:=⟨_,rfl⟩;rw[← hn] at Q2|-;clear hn;generalize(w.alloc (.cells #[.pointer (some ⟨p,0,none⟩)] 26)).alloc (.cells #[.string key] 9)=w2 at Q2|-;have c0:=Q2.out.1.box.c0;have k1:=Q2.out.2.1.1;have k2:=Q2.out.2.2.1.1;go_quiet((go_at_call 16;exact Calls.quiet_of_same (SM.out _)))
 have hd:=SR.below_drewN w2 nq;have Q3:=Lib.hid (And.intro (Q2.out.1.below hd) (And.intro (Q2.out.2.1.below hd) (And.intro (Q2.out.2.2.1.below hd) (Q2.out.2.2.2.trans (Went.below hd)))));clear hd Q2 c0 k1 k2 SM;generalize w2.drewN nq=w3 at Q3|-;have k1:=Q3.out.2.1.1;cases hsm:smp key s.shift with
 |true=>
  have AK:=Lib.hid (askAll w3 p X U B E L s b (n+1) n key Q3.out.1 Q3.out.2.2.1 Q3.out.2.1 (by have:=HS.out;unfold maxLen;omega) HB.out);have AE:=Lib.hid (show s.asked key=s.askA key from by unfold Sh.asked;rw[hsm];rfl);clear hsm;go_wp2_with fail
  refine AK.out.mono ?_;rintro e w4 ⟨rfl,U1,L1,g1,g2⟩;have Q3:=Lib.hid (show Shd w4 p X U1 B E L1 (s.asked key) (λk=>b k+4)/\SB w4 p U1 B E n (.pointer (some ⟨p,0,none⟩))/\Went w w4 (sblk p U B E) (sblk p U1 B E) from⟨by rw[AE.out];exact g1,Q3.out.2.1.went g2,Q3.out.2.2.2.trans g2⟩);clear g1 g2 AK AE k1;generalize hw:w4=w3 at*;clear hw;obtain⟨l,hl⟩:∃l,l=s.left:=⟨_,rfl⟩;have l2:=Q3.out.1.box.c2;rw[(Sh.asked_same s key).2.2.1,<-hl] at l2;have k1:=Q3.out.2.1.1;have fr2:=Q3.out.1.box.fr 2;have lw:=LL.out;rw[← hl] at lw;obtain⟨l1,hl1⟩:∃l1,l1=l - 1:=⟨_,rfl⟩;have WR:=Lib.hid (show wrap64 ((l:Int) - 1)=(l1:Int) from by rw[IntWalk.wrap64_in _ (by omega)];omega);have wr1:IntKind.i64.wrap ((l:Int) - 1)=(l1:Int):=by rw[IntWalk.i64_in _ (by omega)];omega
  have ht:Turn (λk=>k=p) w3 (w3.setCell ⟨p,2,none⟩ (.int .i64 (l1:Int))):=(Turn.refl (λk=>k=p) w3).setCell (p:=⟨p,2,none⟩) (Or.inl rfl) _;obtain⟨t,ht0⟩:∃t,t=({s.asked key with left:=l1}:Sh):=⟨_,rfl⟩;have T0:=Lib.hid ht0;obtain⟨g1,g2⟩:=Q3.out.1.wrote (s':=t) (c:=λk=>b k+4) ht (by rw[ht0];exact Q3.out.1.box.s2 l1) (by rw[ht0]) (by rw[ht0];exact Q3.out.1.mis) (by rw[ht0];exact Q3.out.1.sco) (λ_ _=>Nat.le_refl _) (by rw[ht0];exact Q3.out.1.sh) (by rw[ht0];exact⟨by show l1<=(s.asked key).win;rw[(Sh.asked_same s key).2.1];omega,Q3.out.1.lw.2⟩);have Q4:=Lib.hid (And.intro g1 (And.intro (Q3.out.2.1.went g2) (Q3.out.2.2.trans g2)));have LH:=Lib.hid (And.intro hl hl1);clear ht g1 g2 lw hl hl1 ht0 Q3;go_upto_region 4 with fail
  generalize w3.setCell ⟨p,2,none⟩ (.int .i64 (l1:Int))=w4 at Q4|-;clear l2 k1 fr2 wr1;have l2:=Q4.out.1.box.c2;rw[show t.left=l1 from by rw[T0.out]] at l2;have k1:=Q4.out.2.1.1
  by_cases he:l=1
  . have h0:l1=0:=by have:=LH.out.2;omega
    have EW:=Lib.hid (endWindow_any w4 p X U1 B E L1 t _ Q4.out.1 (λk hk=>by have:=HB.out k hk;show b k+4<=100000;omega))
    have RQ:=Lib.hid (show s.req key=t.endw from by
     have e1:s.left=1:=by rw[← LH.out.1];exact he
     unfold Sh.req;rw[if_pos e1,T0.out];rfl)
    rw[h0] at l2;have EBT:=Lib.hid (show eb=true from by rw[EB.out];exact decide_eq_true (by rw[← LH.out.1];exact he));clear he h0;go_wp2_with fail
    refine EW.out.mono ?_;rintro e w5 ⟨rfl,g1,g2⟩;have FIN:=Lib.hid (And.intro g1 g2);clear g1 g2;go_wp2_with fail
    go_ret;rw[RQ.out,EBT.out];exact⟨rfl,U1,L1,FIN.out.1,Q4.out.2.2.trans FIN.out.2⟩
  . have e1:((l1:Int)==0)=false:=by have:=LH.out.2;have:=LL.out.1;have:=LH.out.1;simp;omega
    have e2:(l1==0)=false:=by simpa using e1
    have RQ:=Lib.hid (show s.req key=t from by
     have e1:¬s.left=1:=by rw[← LH.out.1];exact he
     unfold Sh.req;rw[if_neg e1,T0.out,LH.out.2,LH.out.1])
    have EBT:=Lib.hid (show eb=false from by rw[EB.out];exact decide_eq_false (by rw[← LH.out.1];exact he));clear he;go_wp2_with fail
    go_ret;rw[RQ.out,EBT.out];exact⟨rfl,U1,L1,Q4.out.1,Q4.out.2.2⟩
 |false=>
  have AE:=Lib.hid (show s.asked key=s from by unfold Sh.asked;rw[hsm];rfl);have Q3:=Lib.hid (show Shd w3 p X U B E L (s.asked key) (λk=>b k+4)/\SB w3 p U B E n (.pointer (some ⟨p,0,none⟩))/\Went w w3 (sblk p U B E) (sblk p U B E) from⟨by rw[AE.out];exact Q3.out.1.congr rfl rfl rfl (λ_ _=>rfl) (λ_ _=>rfl) (λ_ _=>rfl) (λ_ _=>Nat.le_add_right _ _),Q3.out.2.1,Q3.out.2.2.2⟩);clear AE hsm k1;obtain⟨U1,hU1⟩:∃V,V=U:=⟨_,rfl⟩;obtain⟨L1,hL1⟩:∃M,M=L:=⟨_,rfl⟩;have Q3:=Lib.hid (show Shd w3 p X U1 B E L1 (s.asked key) (λk=>b k+4)/\SB w3 p U1 B E n (.pointer (some ⟨p,0,none⟩))/\Went w w3 (sblk p U B E) (sblk p U1 B E) from by rw[hU1,hL1];exact Q3.out);clear hU1 hL1;obtain⟨l,hl⟩:∃l,l=s.left:=⟨_,rfl⟩;have l2:=Q3.out.1.box.c2;rw[(Sh.asked_same s key).2.2.1,<-hl] at l2;have k1:=Q3.out.2.1.1;have fr2:=Q3.out.1.box.fr 2;have lw:=LL.out;rw[← hl] at lw;obtain⟨l1,hl1⟩:∃l1,l1=l - 1:=⟨_,rfl⟩;have WR:=Lib.hid (show wrap64 ((l:Int) - 1)=(l1:Int) from by rw[IntWalk.wrap64_in _ (by omega)];omega);have wr1:IntKind.i64.wrap ((l:Int) - 1)=(l1:Int):=by rw[IntWalk.i64_in _ (by omega)];omega
  have ht:Turn (λk=>k=p) w3 (w3.setCell ⟨p,2,none⟩ (.int .i64 (l1:Int))):=(Turn.refl (λk=>k=p) w3).setCell (p:=⟨p,2,none⟩) (Or.inl rfl) _;obtain⟨t,ht0⟩:∃t,t=({s.asked key with left:=l1}:Sh):=⟨_,rfl⟩;have T0:=Lib.hid ht0;obtain⟨g1,g2⟩:=Q3.out.1.wrote (s':=t) (c:=λk=>b k+4) ht (by rw[ht0];exact Q3.out.1.box.s2 l1) (by rw[ht0]) (by rw[ht0];exact Q3.out.1.mis) (by rw[ht0];exact Q3.out.1.sco) (λ_ _=>Nat.le_refl _) (by rw[ht0];exact Q3.out.1.sh) (by rw[ht0];exact⟨by show l1<=(s.asked key).win;rw[(Sh.asked_same s key).2.1];omega,Q3.out.1.lw.2⟩);have Q4:=Lib.hid (And.intro g1 (And.intro (Q3.out.2.1.went g2) (Q3.out.2.2.trans g2)));have LH:=Lib.hid (And.intro hl hl1);clear ht g1 g2 lw hl hl1 ht0 Q3;go_upto_region 4 with fail
  generalize w3.setCell ⟨p,2,none⟩ (.int .i64 (l1:Int))=w4 at Q4|-;clear l2 k1 fr2 wr1;have l2:=Q4.out.1.box.c2;rw[show t.left=l1 from by rw[T0.out]] at l2;have k1:=Q4.out.2.1.1
  by_cases he:l=1
  . have h0:l1=0:=by have:=LH.out.2;omega
    have EW:=Lib.hid (endWindow_any w4 p X U1 B E L1 t _ Q4.out.1 (λk hk=>by have:=HB.out k hk;show b k+4<=100000;omega))
    have RQ:=Lib.hid (show s.req key=t.endw from by
     have e1:s.left=1:=by rw[← LH.out.1];exact he
     unfold Sh.req;rw[if_pos e1,T0.out];rfl)
    rw[h0] at l2;have EBT:=Lib.hid (show eb=true from by rw[EB.out];exact decide_eq_true (by rw[← LH.out.1];exact he));clear he h0;go_wp2_with fail
    refine EW.out.mono ?_;rintro e w5 ⟨rfl,g1,g2⟩;have FIN:=Lib.hid (And.intro g1 g2);clear g1 g2;go_wp2_with fail
    go_ret;rw[RQ.out,EBT.out];exact⟨rfl,U1,L1,FIN.out.1,Q4.out.2.2.trans FIN.out.2⟩
  . have e1:((l1:Int)==0)=false:=by have:=LH.out.2;have:=LL.out.1;have:=LH.out.1;simp;omega
    have e2:(l1==0)=false:=by simpa using e1
    have RQ:=Lib.hid (show s.req key=t from by
     have e1:¬s.left=1:=by rw[← LH.out.1];exact he
     unfold Sh.req;rw[if_neg e1,T0.out,LH.out.2,LH.out.1])
    have EBT:=Lib.hid (show eb=false from by rw[EB.out];exact decide_eq_false (by rw[← LH.out.1];exact he));clear he;go_wp2_with fail
    go_ret;rw[RQ.out,EBT.out];exact⟨rfl,U1,L1,Q4.out.1,Q4.out.2.2⟩
end Go.Proofs.YtdmmciggopmglaaGreatDoor.SW
set_option maxRecDepth 20000
namespace Go.Proofs.YtdmmciggopmglaaGreatDoor.SW
open Go.RowKit Sg IN HS
theorem rmN_next(s:Sh)(k:Nat)(key:ByteArray)(j:Nat):pu (s.rmN k key).st k (((s.rmN k key).st k).rm key) j=(s.rmN (k+1) key).st j:=by
 show pu (λj=>if j < k then(s.st j).rm key else s.st j) k ((if k < k then(s.st k).rm key else s.st k).rm key) j=if j < k+1 then(s.st j).rm key else s.st j
 rw[if_neg (Nat.lt_irrefl k)];unfold pu
 by_cases e:j=k
 . rw[if_pos e,e,if_pos (Nat.lt_succ_self k)]
 . rw[if_neg e];show(if j < k then(s.st j).rm key else s.st j)=_
   by_cases h:j < k
   . rw[if_pos h,if_pos (by omega)]
   . rw[if_neg h,if_neg (by omega)]
theorem rsN_next(s:Sh)(k m:Nat)(j:Nat):pu (s.rsN k m).st k (((s.rsN k m).st k).rs m) j=(s.rsN (k+1) m).st j:=by
 show pu (λj=>if j < k then(s.st j).rs m else s.st j) k ((if k < k then(s.st k).rs m else s.st k).rs m) j=if j < k+1 then(s.st j).rs m else s.st j
 rw[if_neg (Nat.lt_irrefl k)];unfold pu
 by_cases e:j=k
 . rw[if_pos e,e,if_pos (Nat.lt_succ_self k)]
 . rw[if_neg e];show(if j < k then(s.st j).rs m else s.st j)=_
   by_cases h:j < k
   . rw[if_pos h,if_pos (by omega)]
   . rw[if_neg h,if_neg (by omega)]
theorem pu_same(b:Nat->Nat)(k j:Nat):pu b k (b k) j=b j:=by
 unfold pu;split
 . rename_i e;rw[e]
 . rfl
theorem cRm(w:World)(p:Nat)(X:Nat->Nat)(U:Nat->Nat->Prop)(B E:Nat)(L:List (List Nat))(s:Sh)(b:Nat->Nat)(k kb:Nat)(key:ByteArray)(q:Shd w p X U B E L s b)(hk:k < 7)(h1:SB w p U B E kb (.string key))(hs:key.size<=maxLen):
 Calls Tryz.prog 41 #[.int .i64 (k:Int),.pointer (some ⟨X k,0,none⟩),.pointer (some ⟨kb,0,none⟩)] w (SPost (.tuple #[]) w p X U B E {s with st:=pu s.st k ((s.st k).rm key)} (pu b k (b k))):=by
 have V:=Lib.hid (remove_s w (X k) (U k) B E L (k:Int) (s.st k) (b k) (q.ins k hk) key hs);have c1:=h1.1;have MV:=Lib.hid (λ(e:Ending) (w1:World) (v:Value) (hp:ISP v w (X k) (U k) B E L (k:Int) ((s.st k).rm key) (b k) e w1)=>q.move hk hp (Nat.le_refl _));generalize(s.st k).has key=hh at*;clear q h1 hs hk;go_enter Tryz.func41,Tryz.ntmps41;go_wp2_with fail
 refine V.out.mono ?_;intro e w1 hp;have G:=Lib.hid (MV.out e w1 _ hp).2;obtain⟨rfl,_⟩:=hp;clear MV V c1;go_wp2_with fail
 go_end0;exact⟨rfl,G.out⟩
theorem cRmE(args:Array Value)(w:World):(callFunc 41 args).run Tryz.prog w= .ok (.enter 41 args) w:=run_enter9 Tryz.func41 (by kernel_rfl) rfl args w
def rmA(s:Sh)(key:ByteArray):Sh:={s with st:=λj=>(s.st j).rm key}
def rsA(s:Sh)(m:Nat):Sh:={s with st:=λj=>(s.st j).rs m}
theorem remove_any(w:World)(p:Nat)(X:Nat->Nat)(U:Nat->Nat->Prop)(B E:Nat)(L:List (List Nat))(s:Sh)(b:Nat->Nat)(key:ByteArray)(q:Shd w p X U B E L s b)(hs:key.size<=maxLen):
 Calls Tryz.prog 27 #[.pointer (some ⟨p,0,none⟩),.string key] w (SPost (.tuple #[]) w p X U B E (rmA s key) b):=by
 obtain⟨q1,b1⟩:=q.newbox (.string key) 9;have hb1:=(Below.refl w.heap.size w).alloc (Nat.le_refl _) (.cells #[.string key] 9)
 have AL:=Lib.hid (show Calls Tryz.prog 30 #[.pointer (some ⟨p,0,none⟩),.func (.func 41) #[] #[.pointer (some ⟨w.heap.size,0,none⟩)]] (w.alloc (.cells #[.string key] 9)) (SPost (.tuple #[]) w p X U B E (rmA s key) b) from by
  refine(each_any _ p s.shift s.win s.left (pts X) s.mis s.sco q1.box 41 #[.pointer (some ⟨w.heap.size,0,none⟩)]
   (λn W=>∃U' L',Shd W p X U' B E L' (s.rmN n key) b/\Went (w.alloc (.cells #[.string key] 9)) W (sblk p U B E) (sblk p U' B E)) cRmE ⟨U,L,q1.congr rfl rfl rfl (λk _=>show(if k < 0 then(s.st k).rm key else s.st k)=_ from if_neg (Nat.not_lt_zero k)) (λ_ _=>rfl) (λ_ _=>rfl) (λ_ _=>Nat.le_refl _),Went.refl _ _⟩ ?_).mono ?_
  . rintro k hk w1 ⟨U1,L1,g1,g2⟩;refine(cRm w1 p X U1 B E L1 (s.rmN k key) b k _ key g1 hk (b1.went g2) hs).mono λe w2 hp=>?_;exact SPost.next g2 hp rfl rfl rfl (λj _=>(rmN_next s k key j).symm) (λ_ _=>rfl) (λ_ _=>rfl) λj _=>Nat.le_of_eq (pu_same b k j)
  . rintro e w' ⟨rfl,U1,L1,g1,g2⟩;exact⟨rfl,U1,L1,g1.congr rfl rfl rfl (λk hk=>(show(if k < 7 then(s.st k).rm key else s.st k)=_ from if_pos hk).symm) (λ_ _=>rfl) (λ_ _=>rfl) (λ_ _=>Nat.le_refl _),(Went.below hb1).trans g2⟩)
 clear q q1 b1 hb1 hs;go_enter Tryz.func27,Tryz.ntmps27;go_wp2_with fail
 refine AL.out.mono ?_;rintro e w1 ⟨rfl,h⟩;have H:=Lib.hid h;clear h AL;go_wp2_with fail
 go_end0;exact⟨rfl,H.out⟩
theorem cRs(w:World)(p:Nat)(X:Nat->Nat)(U:Nat->Nat->Prop)(B E:Nat)(L:List (List Nat))(s:Sh)(b:Nat->Nat)(k zb sb n:Nat)(q:Shd w p X U B E L s b)(hk:k < 7)(h1:SB w p U B E sb (.pointer (some ⟨p,0,none⟩)))(h2:SB w p U B E zb (.int .i64 (n:Int)))(hn:n<=16777216)(hb:b k<=96800)(hl:(s.st k).keys.length<=199999):
 Calls Tryz.prog 39 #[.int .i64 (k:Int),.pointer (some ⟨X k,0,none⟩),.pointer (some ⟨sb,0,none⟩),.pointer (some ⟨zb,0,none⟩)] w (SPost (.tuple #[]) w p X U B E {s with st:=pu s.st k ((s.st k).rs (sml n s.shift))} (pu b k (b k))):=by
 have MO:=Lib.hid (mostOf_any w p s.shift s.win s.left (pts X) s.mis s.sco q.box n hn q.sh);have V:=Lib.hid (resize_s w (X k) (U k) B E L (k:Int) (s.st k) (b k) (q.ins k hk) (sml n s.shift) (sml_le s.shift hn).2 hb hl);have c1:=h1.1;have c2:=h2.1;have MV:=Lib.hid (λ(e:Ending) (w1:World) (v:Value) (hp:ISP v w (X k) (U k) B E L (k:Int) ((s.st k).rs (sml n s.shift)) (b k) e w1)=>q.move hk hp (Nat.le_refl _));generalize sml n s.shift=m at*;clear q h1 h2 hb hl hk;go_enter Tryz.func39,Tryz.ntmps39;go_wp2_with fail
 refine MO.out.mono ?_;rintro e w1 ⟨rfl,rfl⟩;clear MO c1 c2;go_wp2_with fail
 refine V.out.mono ?_;rintro e w1 ⟨v,hp⟩;have G:=Lib.hid (MV.out e w1 _ hp).2;obtain⟨rfl,_⟩:=hp;clear MV V;go_wp2_with fail
 go_end0;exact⟨rfl,G.out⟩
theorem cRsE(args:Array Value)(w:World):(callFunc 39 args).run Tryz.prog w= .ok (.enter 39 args) w:=run_enter9 Tryz.func39 (by kernel_rfl) rfl args w
def sRes:ByteArray:=⟨#[114,101,115,105,122,101]⟩
theorem resize_any(w:World)(p:Nat)(X:Nat->Nat)(U:Nat->Nat->Prop)(B E:Nat)(L:List (List Nat))(s:Sh)(b:Nat->Nat)(n:Nat)(q:Shd w p X U B E L s b)(hn:n<=16777216)(hb:∀k,k < 7->b k<=96800)(hl:∀k,k < 7->(s.st k).keys.length<=199999):
 Calls Tryz.prog 26 #[.pointer (some ⟨p,0,none⟩),.int .i64 (n:Int)] w (SPost .nilIface w p X U B E (rsA s (sml n s.shift)) b):=by
 obtain⟨q1,b1⟩:=q.newbox (.pointer (some ⟨p,0,none⟩)) 26;have hb1:=(Below.refl w.heap.size w).alloc (Nat.le_refl _) (.cells #[.pointer (some ⟨p,0,none⟩)] 26);obtain⟨q2,b2⟩:=q1.newbox (.int .i64 (n:Int)) 3;have hb2:=(Below.refl (w.alloc (.cells #[.pointer (some ⟨p,0,none⟩)] 26)).heap.size (w.alloc (.cells #[.pointer (some ⟨p,0,none⟩)] 26))).alloc (Nat.le_refl _) (.cells #[.int .i64 (n:Int)] 3);rw[show(w.alloc (.cells #[.pointer (some ⟨p,0,none⟩)] 26)).heap.size=w.heap.size+1 by simp] at b2;have Q2:=Lib.hid (And.intro q2 (And.intro (b1.below hb2) (And.intro b2 ((Went.below (S:=sblk p U B E) hb1).trans (Went.below hb2)))))
 have IS:=Lib.hid (show ∀w1,Calls Tryz.prog 28 #[.int .i64 (n:Int)] w1 (λe w'=>e= .returned (.bool true)/\w1=w') from λw1=>by
  have:=isSize_any w1 (n:Int);rw[decide_eq_true (by omega),decide_eq_true (by omega)] at this;exact this)
 have HB:=Lib.hid (And.intro hn (And.intro hb hl));clear q q1 b1 hb1 q2 b2 hb2 hb hl hn;go_enter Tryz.func26,Tryz.ntmps26;go_upto_region 1 with fail
 obtain⟨m,hm⟩:∃m,m=w.heap.size:=⟨_,rfl⟩;rw[← hm] at Q2|-;clear hm;generalize(w.alloc (.cells #[.pointer (some ⟨p,0,none⟩)] 26)).alloc (.cells #[.int .i64 (n:Int)] 3)=w2 at Q2|-;have k1:=Q2.out.2.1.1;have k2:=Q2.out.2.2.1.1
 have AL:=Lib.hid (show Calls Tryz.prog 30 #[.pointer (some ⟨p,0,none⟩),.func (.func 39) #[] #[.pointer (some ⟨m,0,none⟩),.pointer (some ⟨m+1,0,none⟩)]] w2 (SPost (.tuple #[]) w p X U B E (rsA s (sml n s.shift)) b) from by
  refine(each_any w2 p s.shift s.win s.left (pts X) s.mis s.sco Q2.out.1.box 39 #[.pointer (some ⟨m,0,none⟩),.pointer (some ⟨m+1,0,none⟩)]
   (λj W=>∃U' L',Shd W p X U' B E L' (s.rsN j (sml n s.shift)) b/\Went w2 W (sblk p U B E) (sblk p U' B E)) cRsE ⟨U,L,Q2.out.1.congr rfl rfl rfl (λk _=>show(if k < 0 then(s.st k).rs (sml n s.shift) else s.st k)=_ from if_neg (Nat.not_lt_zero k)) (λ_ _=>rfl) (λ_ _=>rfl) (λ_ _=>Nat.le_refl _),Went.refl _ _⟩ ?_).mono ?_
  . rintro k hk w1 ⟨U1,L1,g1,g2⟩;refine(cRs w1 p X U1 B E L1 (s.rsN k (sml n s.shift)) b k (m+1) m n g1 hk (Q2.out.2.1.went g2) (Q2.out.2.2.1.went g2) HB.out.1 (HB.out.2.1 k hk) (by show(if k < k then(s.st k).rs (sml n s.shift) else s.st k).keys.length<=199999;rw[if_neg (Nat.lt_irrefl k)];exact HB.out.2.2 k hk)).mono λe w2 hp=>?_;exact SPost.next g2 hp rfl rfl rfl (λj _=>(rsN_next s k (sml n s.shift) j).symm) (λ_ _=>rfl) (λ_ _=>rfl) λj _=>Nat.le_of_eq (pu_same b k j)
  . rintro e w' ⟨rfl,U1,L1,g1,g2⟩;exact⟨rfl,U1,L1,g1.congr rfl rfl rfl (λk hk=>(show(if k < 7 then(s.st k).rs (sml n s.shift) else s.st k)=_ from if_pos hk).symm) (λ_ _=>rfl) (λ_ _=>rfl) (λ_ _=>Nat.le_refl _),Q2.out.2.2.2.trans g2⟩)
 go_wp2_with(go_at_call 28;refine(IS.out _).mono ?_;rintro e w' ⟨rfl,rfl⟩)
 refine AL.out.mono ?_;rintro e w1 ⟨rfl,h⟩;have H:=Lib.hid h;clear h AL;go_wp2_with fail
 go_ret;exact⟨rfl,H.out⟩
theorem resize_no(w:World)(p:Nat)(z:Int)(hz:z < 0\/16777216 < z):
 Calls Tryz.prog 26 #[.pointer (some ⟨p,0,none⟩),.int .i64 z] w (λe w'=>∃v,e= .returned v/\Flt w' sRes 1 v/\Below w.heap.size w w'):=by
 have IS:=Lib.hid (show ∀w1,Calls Tryz.prog 28 #[.int .i64 z] w1 (λe w'=>e= .returned (.bool false)/\w1=w') from λw1=>by
  have:=isSize_any w1 z
  rw[show(decide (0<=z)&&decide (z<=16777216))=false by
   rcases hz with h|h
   . rw[decide_eq_false (by omega)];rfl
   . rw[decide_eq_false (p:=z<=16777216) (by omega),Bool.and_false]] at this
  exact this)
 have b2:=(((Below.refl w.heap.size w).alloc (Nat.le_refl _) (.cells #[.pointer (some ⟨p,0,none⟩)] 26)).alloc (by simp) (.cells #[.int .i64 z] 3))
 have c2:((w.alloc (.cells #[.pointer (some ⟨p,0,none⟩)] 26)).alloc (.cells #[.int .i64 z] 3)).cell? ⟨w.heap.size+1,0,none⟩=some (.int .i64 z):=by
  have:=LE.sbox_new (w.alloc (.cells #[.pointer (some ⟨p,0,none⟩)] 26)) (.int .i64 z) 3;rw[show(w.alloc (.cells #[.pointer (some ⟨p,0,none⟩)] 26)).heap.size=w.heap.size+1 by simp] at this;exact this
 have B2:=Lib.hid b2;clear hz b2;go_enter Tryz.func26,Tryz.ntmps26;go_upto_region 1 with fail
 generalize hw2:(w.alloc (.cells #[.pointer (some ⟨p,0,none⟩)] 26)).alloc (.cells #[.int .i64 z] 3)=w2 at*;clear hw2;go_wp2_with(go_at_call 28;refine(IS.out _).mono ?_;rintro e w' ⟨rfl,rfl⟩)
 go_ret;exact⟨_,rfl,⟨_,rfl,by simp,heap_alloc_new _ _⟩,B2.out.alloc B2.out.size _⟩
section
variable(w:World)(p:Nat)(X:Nat->Nat)(U:Nat->Nat->Prop)(B E:Nat)(L:List (List Nat))(s:Sh)(b:Nat->Nat)(q:Shd w p X U B E L s b)
include q
theorem most_any:Calls Tryz.prog 24 #[.pointer (some ⟨p,0,none⟩)] w (Told (.int .i64 ((s.st 0).mo:Int)) w):=by
 have V:=Lib.hid (most_s w (X 0) (U 0) B E L (0:Nat) (s.st 0) (b 0) (q.ins 0 (by omega)));have c0:=q.box.cP (k:=0) (by omega);simp only[Nat.add_zero] at c0
 replace c0:w.cell? ⟨p,3,none⟩=some (.pointer (some ⟨X 0,0,none⟩)):=c0
 generalize(s.st 0).mo=m at*;clear q;go_enter Tryz.func24,Tryz.ntmps24;go_wp2_with fail
 refine V.out.mono ?_;rintro e w1 ⟨rfl,hB⟩;have HB:=Lib.hid hB;clear hB V c0;go_wp2_with fail
 go_ret;exact⟨rfl,HB.out⟩
theorem keys_any(k:Nat)(hk:k < 7):Calls Tryz.prog 19 #[.pointer (some ⟨p,0,none⟩),.int .i64 (k:Int)] w (RowPost (s.st k).keys w):=by
 have V:=Lib.hid (keys_s w (X k) (U k) B E L (k:Int) (s.st k) (b k) (q.ins k hk));have c0:=q.box.cP hk
 replace c0:w.cell? ⟨p,3+k,none⟩=some (.pointer (some ⟨X k,0,none⟩)):=c0
 have ix:=ixP hk p;have e1:decide ((k:Int) < 0)=false:=decide_eq_false (by omega);have e2:decide ((7:Int)<=(k:Int))=false:=decide_eq_false (by omega);have e3:decide (7<=k)=false:=decide_eq_false (by omega);generalize(s.st k).keys=ks at*;clear q hk;go_enter Tryz.func19,Tryz.ntmps19;go_wp2_with fail
 refine V.out.mono ?_;rintro e w1 ⟨v,rfl,h⟩;have H:=Lib.hid h;clear h V c0;go_wp2_with fail
 go_ret;exact⟨v,rfl,H.out⟩
end
theorem keys_seven(w:World)(p:Nat):Calls Tryz.prog 19 #[.pointer (some ⟨p,0,none⟩),.int .i64 7] w (Told (.slice none 0 0) w):=by
 go_enter Tryz.func19,Tryz.ntmps19;go_wp2_with fail
 go_ret;exact⟨rfl,Below.refl _ _⟩
end Go.Proofs.YtdmmciggopmglaaGreatDoor.SW
set_option maxRecDepth 20000
namespace Go.Proofs.YtdmmciggopmglaaGreatDoor.SW
open Go.RowKit Sg IN HS
structure Fil(w W:World)(p a c m:Nat)(X:Nat->Nat)(U:Nat->Nat->Prop)(B E:Nat)(L:List (List Nat))(k:Nat):Prop where
 box:SBox W p a c c (λj=>if j < k then pts X j else .pointer none) (λ_=>0) (λ_=>0)
 ins:∀j,j < k->InS W (X j) (U j) B E L (j:Int) (ISt.start j m (DR.lget L (j:Int))) 0
 dis:∀i j,i < k->j < k->i≠j->∀x,U i x->¬U j x
 out:∀j,j < k->¬U j p
 low:∀j,j < k->∀x,U j x->w.heap.size<=x
 plo:w.heap.size<=p
 bel:Below w.heap.size w W
 tp:DR.Tape w B E L
section
variable{w W W':World}{p a c m B E k:Nat}{X:Nat->Nat}{U:Nat->Nat->Prop}{L:List (List Nat)}
theorem Fil.tape(q:Fil w W p a c m X U B E L k):DR.Tape W B E L:=q.tp.below q.bel
theorem Fil.below(q:Fil w W p a c m X U B E L k)(hb:Below W.heap.size W W'):Fil w W' p a c m X U B E L k:=
 ⟨(hb.block p q.box.lt).trans q.box,λj hj=>(q.ins j hj).below hb,q.dis,q.out,q.low,q.plo,q.bel.trans (hb.mono q.bel.size),q.tp⟩
theorem Fil.cell(q:Fil w W p a c m X U B E L k)(hk:k < 7):W.cell? ⟨p,3+k,none⟩=some (.pointer none):=
 (q.box.cP hk).trans (congrArg some (show(if k < k then pts X k else .pointer none)=_ from if_neg (Nat.lt_irrefl k)))
theorem Fil.add(q:Fil w W p a c m X U B E L k)(hk:k < 7){x:Nat}{V:Nat->Prop}(hi:InS W' x V B E L (k:Int) (ISt.start k m (DR.lget L (k:Int))) 0)(hV:∀j,V j->W.heap.size<=j)(hb:Below W.heap.size W W'):
 Fil w (W'.setCell ⟨p,3+k,none⟩ (.pointer (some ⟨x,0,none⟩))) p a c m (pu X k x) (pu U k V) B E L (k+1):=by
 have q2:=q.below hb;have hpl:=q.box.lt;have ht:Turn (λj=>j=p) W' (W'.setCell ⟨p,3+k,none⟩ (.pointer (some ⟨x,0,none⟩))):=(Turn.refl (λj=>j=p) W').setCell (p:=⟨p,3+k,none⟩) (Or.inl rfl) _;have hpt:∀j,tb B E j->¬j=p:=λj hj e=>by have:=q.tp.lt;have:=hj.2;have:=q.plo;omega
 have hT:DR.Tape (W'.setCell ⟨p,3+k,none⟩ (.pointer (some ⟨x,0,none⟩))) B E L:=q2.tape.same ht.size λj k1 k2=>ht.block j (by have:=q2.tape.lt;omega) (hpt j ⟨k1,k2⟩);have hVp:¬V p:=λe=>by have:=hV p e;omega
 refine⟨?_,λj hj=>?_,λi j hi' hj hn y h1 h2=>?_,λj hj=>?_,λj hj y hy=>?_,q.plo,?_,q.tp⟩
 . have h:=q2.box.sP hk (.pointer (some ⟨x,0,none⟩));unfold SBox at h|-;rw[h];congr 2;refine scells_congr (λj hj=>?_) (λ_ _=>rfl) λ_ _=>rfl;unfold pts pu
   by_cases e:j=k
   . subst e;simp
   . by_cases e2:j < k
     . simp[e,e2,show j < k+1 by omega]
     . simp[e,e2,show ¬j < k+1 by omega]
 . by_cases e:j=k
   . subst e;rw[pu_at,pu_at];exact hi.beside ht (λy hy g=>hVp ((show y=p from g)▸hy)) hT rfl
   . rw[pu_ne _ _ e,pu_ne _ _ e];exact(q2.ins j (by omega)).beside ht (λy hy g=>q.out j (by omega) ((show y=p from g)▸hy)) hT rfl
 . by_cases e1:i=k
   . subst e1;rw[pu_at] at h1;rw[pu_ne _ _ (Ne.symm hn)] at h2;have:=hV y h1;have:=(q.ins j (by omega)).lt h2;omega
   . rw[pu_ne _ _ e1] at h1
     by_cases e2:j=k
     . subst e2;rw[pu_at] at h2;have:=hV y h2;have:=(q.ins i (by omega)).lt h1;omega
     . rw[pu_ne _ _ e2] at h2;exact q.dis i j (by omega) (by omega) hn y h1 h2
 . by_cases e:j=k
   . subst e;rw[pu_at];exact hVp
   . rw[pu_ne _ _ e];exact q.out j (by omega)
 . by_cases e:j=k
   . subst e;rw[pu_at] at hy;have:=hV y hy;have:=q.bel.size;omega
   . rw[pu_ne _ _ e] at hy;exact q.low j (by omega) y hy
 . exact(q2.bel).setCell (p:=⟨p,3+k,none⟩) q.plo _
theorem Fil.done(q:Fil w W p a c m X U B E L 7)(ha:a<=16)(hc:c<=1048576):Shd W p X U B E L (Sh.start a c m L) (λ_=>0)/\(∀x,sblk p U B E x->B<=x):=by
 have hE:=q.tp.lt;refine⟨⟨?_,λk hk=>q.ins k hk,λi j hi hj=>q.dis i j hi hj,λk hk=>q.out k hk,λe=>?_,q.tape,λ_ _=>Nat.le_refl _,λ_ _=>Nat.le_refl _,ha,Nat.le_refl _,hc⟩,λx hx=>?_⟩
 . have h:=q.box;unfold SBox at h|-;rw[h];rfl
 . have:=e.2;have:=q.plo;omega
 . rcases hx with rfl|hx|⟨k,hk,hx⟩
   . have:=q.plo;omega
   . exact hx.1
   . have:=q.low k hk x hx;omega
end
def SNew(size a c:Nat)(B E:Nat)(L:List (List Nat))(w:World)(e:Ending)(w':World):Prop:=
 ∃p X U,e= .returned (.tuple #[.pointer (some ⟨p,0,none⟩),.nilIface])/\Shd w' p X U B E L (Sh.start a c (sml size a) L) (λ_=>0)/\(∀x,sblk p U B E x->B<=x)/\Below w.heap.size w w'
set_option maxHeartbeats 4000000 in
theorem new_any(w:World)(size a c B E:Nat)(L:List (List Nat))(hz:size<=16777216)(ha:a<=16)(hc1:1<=c)(hc:c<=1048576)(hT:DR.Tape w B E L):
 Calls Tryz.prog 11 #[.int .i64 (size:Int),.int .i64 (a:Int),.int .i64 (c:Int),.pointer (some ⟨B+1,0,none⟩)] w (SNew size a c B E L w):=by
 have IS:=Lib.hid (show ∀w1,Calls Tryz.prog 28 #[.int .i64 (size:Int)] w1 (λe w'=>e= .returned (.bool true)/\w1=w') from λw1=>by
  have:=isSize_any w1 (size:Int);rw[decide_eq_true (by omega),decide_eq_true (by omega)] at this;exact this)
 have h1:decide ((a:Int) < 0)=false:=decide_eq_false (by omega);have h2:decide (16 < (a:Int))=false:=decide_eq_false (by omega);have h3:decide ((c:Int) < 1)=false:=decide_eq_false (by omega);have h4:decide (1048576 < (c:Int))=false:=decide_eq_false (by omega);obtain⟨m,hm⟩:∃m,m=sml size a:=⟨_,rfl⟩;have MO:=Lib.hid (λ(W:World) (p b:Nat) (P:Nat->Value) (M S:Nat->Nat) (h:SBox W p a b c P M S)=>mostOf_any W p a b c P M S h size hz ha);rw[← hm] at MO
 have F0:=Lib.hid (show Fil w (w.alloc (.cells #[.int .i64 (a:Int),.int .i64 (c:Int),.int .i64 (c:Int),.pointer none,.pointer none,.pointer none,.pointer none,.pointer none,.pointer none,.pointer none,.int .i64 0,.int .i64 0,.int .i64 0,.int .i64 0,.int .i64 0,.int .i64 0,.int .i64 0,.int .i64 0,.int .i64 0,.int .i64 0,.int .i64 0,.int .i64 0,.int .i64 0,.int .i64 0] 65)) w.heap.size a c m (λ_=>0) (λ_ _=>False) B E L 0 from by
  refine⟨?_,λj hj=>by omega,λi j hi=>by omega,λj hj=>by omega,λj hj=>by omega,Nat.le_refl _,(Below.refl _ _).alloc (Nat.le_refl _) _,hT⟩;exact heap_alloc_new _ _)
 have HM:=Lib.hid (And.intro (hm▸(sml_le a hz).2) (And.intro ha (And.intro hc hm)));clear hT hm ha hc hc1 hz;go_enter Tryz.func11,Tryz.ntmps11;go_wp2_with(go_at_call 28;refine(IS.out _).mono ?_;rintro e w' ⟨rfl,rfl⟩)
 generalize w.alloc (.cells #[.int .i64 (a:Int),.int .i64 (c:Int),.int .i64 (c:Int),.pointer none,.pointer none,.pointer none,.pointer none,.pointer none,.pointer none,.pointer none,.int .i64 0,.int .i64 0,.int .i64 0,.int .i64 0,.int .i64 0,.int .i64 0,.int .i64 0,.int .i64 0,.int .i64 0,.int .i64 0,.int .i64 0,.int .i64 0,.int .i64 0,.int .i64 0] 65)=w1 at F0|-;obtain⟨p,hp⟩:∃p,p=w.heap.size:=⟨_,rfl⟩;rw[← hp] at F0|-;clear hp h1 h2 h3 h4;go_loopw [40] (λv W=>∃(k:Nat) (X:Nat->Nat) (U:Nat->Nat->Prop),v= .int .i64 (k:Int)/\k<=7/\Fil w W p a c m X U B E L k) (λv _=>7 - (intOf v).toNat)
 case atStart=>exact⟨0,_,_,rfl,by omega,F0.out⟩
 case round=>
  obtain⟨k,X,U,rfl,hk,hF⟩:=hrel;have F:=Lib.hid hF;clear hF F0
  by_cases hlt:k < 7
  . have e0:decide ((k:Int) < 7)=true:=decide_eq_true (by omega);have i1:=ixP hlt p;have F:=Lib.hid (F.out.below (bdrew wr));have M1:=Lib.hid (MO.out wr.drew p c _ _ _ F.out.box);have N1:=Lib.hid (new_s wr.drew k m B E L (k:Int) hlt HM.out.1 F.out.tape);go_wp2_with fail
    go_region_with(first
     |(go_at_call 29;refine M1.out.mono ?_;rintro e w2 ⟨rfl,rfl⟩)
     |(go_at_call 15;refine N1.out.mono ?_;rintro e w2 ⟨x,V,rfl,hI,hV,hB⟩;have A:=Lib.hid (And.intro hI (And.intro hV hB));have fr:=(F.out.below hB).box.fr (3+k);have cc:w2.cell? ⟨p,3+k,none⟩=some (.pointer none):=(F.out.below hB).cell hlt;clear hI hV hB))
    have G:=Lib.hid (F.out.add hlt A.out.1 A.out.2.1 A.out.2.2);clear A F M1 N1 fr cc i1;generalize w2.setCell ⟨p,3+k,none⟩ (.pointer (some ⟨x,0,none⟩))=w3 at G|-;go_wp2_with fail
    go_roundw
    case rel=>exact⟨k+1,_,_,by go_num,by omega,G.out⟩
    case measure=>simp[intOf] <;> omega
  . obtain rfl:k=7:=by omega
    obtain⟨g1,g2⟩:=F.out.done HM.out.2.1 HM.out.2.2.1;rw[HM.out.2.2.2] at g1;have FIN:=Lib.hid (And.intro g1 (And.intro g2 F.out.bel));clear g1 g2 F;go_wp2_with fail
    go_ret2
    exact⟨p,X,U,rfl,FIN.out⟩
def sSha:ByteArray:=⟨#[115,104,97,100,111,119]⟩
def FCell(w:World)(g:Nat):Prop:=w.heap[g]?=some (.cells #[.string sSha,.string ⟨#[]⟩,.iface 60 (.int .i64 1)] 62 (0,0))
def SNo(w:World)(e:Ending)(w':World):Prop:=∃g,e= .returned (.tuple #[.pointer none,.iface 59 (.pointer (some ⟨g,0,none⟩))])/\w.heap.size<=g/\FCell w' g/\Below w.heap.size w w'
theorem isSize_at(w1:World)(z:Int)(b:Bool)(h:(decide (0<=z)&&decide (z<=16777216))=b):Calls Tryz.prog 28 #[.int .i64 z] w1 (λe w'=>e= .returned (.bool b)/\w1=w'):=by
 rw[← h];exact isSize_any w1 z
theorem new_no1(w:World)(t:Value):Calls Tryz.prog 11 #[.int .i64 (-1),.int .i64 0,.int .i64 1,t] w (SNo w):=by
 have IS:=λw1=>isSize_at w1 (-1) false (by decide);go_enter Tryz.func11,Tryz.ntmps11;go_wp2_with(go_at_call 28;refine(IS _).mono ?_;rintro e w' ⟨rfl,rfl⟩)
 go_ret2
 exact⟨_,rfl,Nat.le_refl _,heap_alloc_new _ _,(Below.refl _ _).alloc (Nat.le_refl _) _⟩
theorem new_no2(w:World)(t:Value):Calls Tryz.prog 11 #[.int .i64 1,.int .i64 17,.int .i64 1,t] w (SNo w):=by
 have IS:=λw1=>isSize_at w1 1 true (by decide);go_enter Tryz.func11,Tryz.ntmps11;go_wp2_with(go_at_call 28;refine(IS _).mono ?_;rintro e w' ⟨rfl,rfl⟩)
 go_ret2
 exact⟨_,rfl,Nat.le_refl _,heap_alloc_new _ _,(Below.refl _ _).alloc (Nat.le_refl _) _⟩
theorem new_no3(w:World)(t:Value):Calls Tryz.prog 11 #[.int .i64 1,.int .i64 0,.int .i64 0,t] w (SNo w):=by
 have IS:=λw1=>isSize_at w1 1 true (by decide);go_enter Tryz.func11,Tryz.ntmps11;go_wp2_with(go_at_call 28;refine(IS _).mono ?_;rintro e w' ⟨rfl,rfl⟩)
 go_ret2
 exact⟨_,rfl,Nat.le_refl _,heap_alloc_new _ _,(Below.refl _ _).alloc (Nat.le_refl _) _⟩
end Go.Proofs.YtdmmciggopmglaaGreatDoor.SW
