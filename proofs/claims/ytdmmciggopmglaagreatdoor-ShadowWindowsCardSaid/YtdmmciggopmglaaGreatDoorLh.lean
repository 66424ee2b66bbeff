/- One request more of a window. -/
import Derived.Test.YtdmmciggopmglaaGreatDoorLf
set_option maxRecDepth 20000
namespace Go.Proofs.YtdmmciggopmglaaGreatDoor.LE
open Go.RowKit Go.Maps Go.WideMaps Sg
theorem turned_six(s:St):(turned s).six=s.six:=by
 unfold turned;split
 . unfold stood;split <;> rfl
 . rfl
theorem endW_fl(v:St)(B:Nat)(lane:Int):({flOf v B lane with last:=v.hits,ended:=true,asked:=0,hits:=0}:Fl)=flOf v.endW B lane:=by
 unfold flOf St.endW;simp
theorem LT.endW{w:World}{i:Ix}{S:Sx}{B E:Nat}{L:List (List Nat)}{lane:Int}{v:St}{b:Nat}(h:LT w i S B E L lane v b)(h6:v.six=true):
 LT ((((w.setCell ⟨i.l,12,none⟩ (.int .i64 (v.hits:Int))).setCell ⟨i.l,13,none⟩ (.bool true)).setCell ⟨i.l,10,none⟩ (.int .i64 0)).setCell ⟨i.l,11,none⟩ (.int .i64 0)) i S B E L lane v.endW b/\
 Went w ((((w.setCell ⟨i.l,12,none⟩ (.int .i64 (v.hits:Int))).setCell ⟨i.l,13,none⟩ (.bool true)).setCell ⟨i.l,10,none⟩ (.int .i64 0)).setCell ⟨i.l,11,none⟩ (.int .i64 0)) (tblk i S B E) (tblk i S B E):=by
 obtain⟨r1,g1⟩:=h.raw.set (F':={flOf v B lane with last:=v.hits}) 12 (.int .i64 (v.hits:Int)) rfl;obtain⟨r2,g2⟩:=r1.set (F':={flOf v B lane with last:=v.hits,ended:=true}) 13 (.bool true) rfl;obtain⟨r3,g3⟩:=r2.set (F':={flOf v B lane with last:=v.hits,ended:=true,asked:=0}) 10 (.int .i64 0) rfl;obtain⟨r4,g4⟩:=r3.set (F':={flOf v B lane with last:=v.hits,ended:=true,asked:=0,hits:=0}) 11 (.int .i64 0) rfl;rw[endW_fl] at r4;exact h.went (s':=v.endW) r4 (((g1.trans g2).trans g3).trans g4) {h.ok with} ⟨h.lim.mo,h.lim.clock,Nat.zero_le _,Nat.zero_le _,h.lim.hits,h.lim.still⟩ rfl
section
variable(w:World)(i:Ix)(S:Sx)(B E:Nat)(L:List (List Nat))(lane:Int)(s:St)(b:Nat)(h:LT w i S B E L lane s b)(x:Nat)(n:Nx w i S B E x)(h6:s.six=true)
include h n h6
set_option maxHeartbeats 2000000 in
theorem count_t(hit:Bool)(hb:b<=97500):Calls Tryz.prog 129 #[.pointer (some ⟨i.l,9,none⟩),.bool hit,.int .i64 (s.mo:Int),nxF x] w (TPost (.tuple #[]) w i S B E L lane (cnt s hit) (b+1)):=by
 have a10:=h.c10;have a11:=h.c11 h6;have g10:=h.fr 10;have g11:=h.fr 11;have hla:=h.lim.asked;have hlh:=h.lim.hits;have hwa:=IntWalk.i64_in ((s.asked:Int)+1) (by omega);have hwh:=IntWalk.i64_in ((s.hits:Int)+1) (by omega);obtain⟨q1,q2⟩:=h.set (s':={s with asked:=s.asked+1}) (b':=b+1) 10 (.int .i64 ((s.asked:Int)+1)) rfl rfl (by omega) {h.ok with} ⟨h.lim.mo,by have:=h.lim.clock;show s.clock<=b+1;omega,by show s.asked+1<=b+1;omega,by show s.hits<=b+1;omega,by have:=h.lim.last;show s.last<=b+1;omega,h.lim.still⟩ rfl;cases hit with
 |false=>
  unfold cnt;rw[if_neg (by simp)];have H1:=Lib.hid (And.intro q1 (And.intro q2 (n.went q2)));have HT:=Lib.hid h6;have d10:=q1.c10;clear h n h6 q1 q2 a11 g11 hla hlh;obtain⟨t,ht⟩:∃t,t=s:=⟨_,rfl⟩;subst ht;go_enter Tryz.func129,Tryz.ntmps129;go_upto_region 3 with fail
  generalize w.setCell ⟨i.l,10,none⟩ (.int .i64 ((t.asked:Int)+1))=w1 at*;clear a10 g10 d10;have c10:=H1.out.1.c10;have c1:=H1.out.1.cm;have c13:=H1.out.1.c13;have hm2:=H1.out.1.lim.mo
  by_cases hs:t.asked+1 < t.mo
  . have e1:decide (t.asked+1 < t.mo)=true:=decide_eq_true hs;have e2:decide ((t.asked:Int)+1 < (t.mo:Int))=true:=decide_eq_true (by omega);have hw:t.window= {t with asked:=t.asked+1}:=by unfold St.window;rw[if_neg (by rw[HT.out];simp),if_pos hs]
    have HW:=Lib.hid hw;clear hs hw c13;go_wp2_with fail
    (try simp only[Exit.inBlock,Exit.then]);refine bodyPost_ret (results_none rfl _ _ _) rfl ?_;exact⟨rfl,S,L,by rw[HW.out];exact H1.out.1,λ_ _=>rfl,H1.out.2.1⟩
  . have e1:decide (t.asked+1 < t.mo)=false:=decide_eq_false hs;have e2:decide ((t.asked:Int)+1 < (t.mo:Int))=false:=decide_eq_false (by omega);have hw:=ends_eq HT.out hs
    by_cases he:t.ends=0
    . rw[if_pos he] at hw
      replace c13:w1.cell? ⟨i.l,13,none⟩=some (.bool false):=by rw[c13];show some (Value.bool (decide (t.ends≠0)))=_;rw[he];rfl
      have c11:=H1.out.1.c11 HT.out;have c12:=H1.out.1.c12;have f10:=H1.out.1.fr 10;have f11:=H1.out.1.fr 11;have f12:=H1.out.1.fr 12;have f13:=H1.out.1.fr 13;obtain⟨q1,q2⟩:=H1.out.1.endW HT.out;rw[← hw] at q1;have Q:=Lib.hid (And.intro q1 (H1.out.2.1.trans q2));generalize t.window=tw at*;clear hw he hs q1 q2;go_wp2_with fail
      go_end0;exact⟨rfl,S,L,Q.out.1,λ_ _=>rfl,Q.out.2⟩
    . rw[if_neg he] at hw
      replace c13:w1.cell? ⟨i.l,13,none⟩=some (.bool true):=by rw[c13];show some (Value.bool (decide (t.ends≠0)))=_;rw[decide_eq_true he]
      have U:=Lib.hid (turn_t w1 i S B E L lane {t with asked:=t.asked+1} (b+1) H1.out.1 x H1.out.2.2 HT.out);have WN:=Lib.hid hw;have W1:=Lib.hid H1.out.2.1;clear hw he hs;go_wp2_with fail
      refine U.out.mono ?_;rintro e w2 ⟨rfl,S2,L2,h2,hL2,g2⟩;have c11:=h2.c11 (show(turned {t with asked:=t.asked+1}).six=true by rw[turned_six];exact HT.out);have c12:=h2.c12;have d13:=h2.c13;have d10:=h2.c10;have f10:=h2.fr 10;have f11:=h2.fr 11;have f12:=h2.fr 12;have f13:=h2.fr 13;obtain⟨q1,q2⟩:=h2.endW (by rw[turned_six];exact HT.out);rw[← WN.out] at q1;have Q:=Lib.hid (And.intro q1 (And.intro hL2 ((W1.out.trans g2).trans q2)));generalize t.window=tw at*;generalize turned {t with asked:=t.asked+1}=v at*;clear q1 q2 h2 g2 hL2 U WN W1 H1 c10 c1 c13;go_wp2_with fail
      go_end0;exact⟨rfl,S2,L2,Q.out.1,Q.out.2.1,Q.out.2.2⟩
 |true=>
  unfold cnt;rw[if_pos rfl];have b11:=q1.c11 h6;have k11:=q1.fr 11
  obtain⟨q3,q4⟩:=q1.set (s':={s with asked:=s.asked+1,hits:=s.hits+1}) (b':=b+1) 11 (.int .i64 ((s.hits:Int)+1)) (by
   have e:(flOf {s with asked:=s.asked+1,hits:=s.hits+1} B lane).hits=s.hits+1:=if_pos h6;unfold lcells;rw[e];rfl) rfl (Nat.le_refl _) {h.ok with} ⟨q1.lim.mo,q1.lim.clock,q1.lim.asked,by show s.hits+1<=b+1;omega,q1.lim.last,q1.lim.still⟩ rfl
  have H1:=Lib.hid (show LT ((w.setCell ⟨i.l,10,none⟩ (.int .i64 ((s.asked:Int)+1))).setCell ⟨i.l,11,none⟩ (.int .i64 ((s.hits:Int)+1))) i S B E L lane {({s with hits:=s.hits+1}:St) with asked:=({s with hits:=s.hits+1}:St).asked+1} (b+1)/\_/\_ from And.intro q3 (And.intro (q2.trans q4) (n.went (q2.trans q4))));have HT:=Lib.hid (show({s with hits:=s.hits+1}:St).six=true from h6);have hwa2:IntKind.i64.wrap (((({s with hits:=s.hits+1}:St).asked:Nat):Int)+1)=((({s with hits:=s.hits+1}:St).asked:Nat):Int)+1:=hwa;clear h n h6 q1 q2 q3 q4 hla hlh;go_enter Tryz.func129,Tryz.ntmps129;go_upto_region 3 with fail
  generalize(w.setCell ⟨i.l,10,none⟩ (.int .i64 ((s.asked:Int)+1))).setCell ⟨i.l,11,none⟩ (.int .i64 ((s.hits:Int)+1))=w1 at H1|-;have hmo:s.mo=({s with hits:=s.hits+1}:St).mo:=rfl;rw[hmo];clear a10 g10 a11 g11 b11 k11 hwa hwh hmo;generalize({s with hits:=s.hits+1}:St)=t at*;have c10:=H1.out.1.c10;have c1:=H1.out.1.cm;have c13:=H1.out.1.c13;have hm2:=H1.out.1.lim.mo
  by_cases hs:t.asked+1 < t.mo
  . have e1:decide (t.asked+1 < t.mo)=true:=decide_eq_true hs;have e2:decide ((t.asked:Int)+1 < (t.mo:Int))=true:=decide_eq_true (by omega);have hw:t.window= {t with asked:=t.asked+1}:=by unfold St.window;rw[if_neg (by rw[HT.out];simp),if_pos hs]
    have HW:=Lib.hid hw;clear hs hw c13;go_wp2_with fail
    (try simp only[Exit.inBlock,Exit.then]);refine bodyPost_ret (results_none rfl _ _ _) rfl ?_;exact⟨rfl,S,L,by rw[HW.out];exact H1.out.1,λ_ _=>rfl,H1.out.2.1⟩
  . have e1:decide (t.asked+1 < t.mo)=false:=decide_eq_false hs;have e2:decide ((t.asked:Int)+1 < (t.mo:Int))=false:=decide_eq_false (by omega);have hw:=ends_eq HT.out hs
    by_cases he:t.ends=0
    . rw[if_pos he] at hw
      replace c13:w1.cell? ⟨i.l,13,none⟩=some (.bool false):=by rw[c13];show some (Value.bool (decide (t.ends≠0)))=_;rw[he];rfl
      have c11:=H1.out.1.c11 HT.out;have c12:=H1.out.1.c12;have f10:=H1.out.1.fr 10;have f11:=H1.out.1.fr 11;have f12:=H1.out.1.fr 12;have f13:=H1.out.1.fr 13;obtain⟨q1,q2⟩:=H1.out.1.endW HT.out;rw[← hw] at q1;have Q:=Lib.hid (And.intro q1 (H1.out.2.1.trans q2));generalize t.window=tw at*;clear hw he hs q1 q2;go_wp2_with fail
      go_end0;exact⟨rfl,S,L,Q.out.1,λ_ _=>rfl,Q.out.2⟩
    . rw[if_neg he] at hw
      replace c13:w1.cell? ⟨i.l,13,none⟩=some (.bool true):=by rw[c13];show some (Value.bool (decide (t.ends≠0)))=_;rw[decide_eq_true he]
      have U:=Lib.hid (turn_t w1 i S B E L lane {t with asked:=t.asked+1} (b+1) H1.out.1 x H1.out.2.2 HT.out);have WN:=Lib.hid hw;have W1:=Lib.hid H1.out.2.1;clear hw he hs;go_wp2_with fail
      refine U.out.mono ?_;rintro e w2 ⟨rfl,S2,L2,h2,hL2,g2⟩;have c11:=h2.c11 (show(turned {t with asked:=t.asked+1}).six=true by rw[turned_six];exact HT.out);have c12:=h2.c12;have d13:=h2.c13;have d10:=h2.c10;have f10:=h2.fr 10;have f11:=h2.fr 11;have f12:=h2.fr 12;have f13:=h2.fr 13;obtain⟨q1,q2⟩:=h2.endW (by rw[turned_six];exact HT.out);rw[← WN.out] at q1;have Q:=Lib.hid (And.intro q1 (And.intro hL2 ((W1.out.trans g2).trans q2)));generalize t.window=tw at*;generalize turned {t with asked:=t.asked+1}=v at*;clear q1 q2 h2 g2 hL2 U WN W1 H1 c10 c1 c13;go_wp2_with fail
      go_end0;exact⟨rfl,S2,L2,Q.out.1,Q.out.2.1,Q.out.2.2⟩
end
end Go.Proofs.YtdmmciggopmglaaGreatDoor.LE
