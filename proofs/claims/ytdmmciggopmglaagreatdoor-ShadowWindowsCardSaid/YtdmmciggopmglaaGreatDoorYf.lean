/- SwP SwC SwD, in one text. -/
import Derived.Test.YtdmmciggopmglaaGreatDoorYe
import Derived.Test.YtdmmciggopmglaaGreatDoorGHs
import Derived.Deep.RegionHeld3
import Derived.Deep.RegionLaw
import Derived.Deep.CutBlock
import Derived.Deep.DeepCutAuto
import Derived.Deep.QuietTactic
import Derived.BigQuiet
import Derived.BigRegion
import Derived.Deep.LoopGhost
set_option maxRecDepth 20000
namespace Go.Proofs.YtdmmciggopmglaaGreatDoor.SW
open Go.RowKit Sg IN HS
def sml(n a:Nat):Nat:=max (n / 2 ^ a) 1
theorem sml_le{n:Nat}(a:Nat)(h:n<=16777216):1<=sml n a/\sml n a<=16777216:=by
 have:n / 2 ^ a<=n:=Nat.div_le_self _ _;unfold sml;omega
theorem smp_ex(key:ByteArray)(a:Nat):∃q,q=Hs.samp (Hs.hash key.data.toList) (a:Int):=⟨_,rfl⟩
noncomputable def smp (key:ByteArray) (a:Nat):Bool:=(smp_ex key a).choose
theorem smp_eq(key:ByteArray)(a:Nat):smp key a=Hs.samp (Hs.hash key.data.toList) (a:Int):=(smp_ex key a).choose_spec
theorem smp_less{key:ByteArray}{a c:Nat}(h:c<=a)(hs:smp key a=true):smp key c=true:=by
 rw[smp_eq] at hs|-;exact Hs.samp_less (by omega) hs
theorem smp_zero(key:ByteArray):smp key 0=true:=by
 rw[smp_eq];exact Hs.samp_zero (Hs.hash_le _) (by omega)
namespace Sh
def ask1(s:Sh)(k:Nat)(key:ByteArray):Sh:={s with st:=pu s.st k ((s.st k).req key),mis:=if(s.st k).hitB key=true then s.mis else pu s.mis k (s.mis k+1)}
def askN(n:Nat)(s:Sh)(key:ByteArray):Sh:={s with st:=λj=>if j < n then(s.st j).req key else s.st j,mis:=λj=>if j < n then s.mis j+(if(s.st j).hitB key=true then 0 else 1) else s.mis j}
def endS(s:Sh)(n:Nat):Sh:={s with sco:=λj=>if j < n then s.sco j / 2+s.mis j else s.sco j}
def endw(s:Sh):Sh:={s with sco:=λj=>s.sco j / 2+s.mis j,mis:=λ_=>0,left:=s.win}
def askA(s:Sh)(key:ByteArray):Sh:={s with st:=λj=>(s.st j).req key,mis:=λj=>s.mis j+(if(s.st j).hitB key=true then 0 else 1)}
noncomputable def asked (s:Sh) (key:ByteArray):Sh:=if smp key s.shift=true then askA s key else s
noncomputable def req (s:Sh) (key:ByteArray):Sh:=if s.left=1 then endw (asked s key) else{asked s key with left:=s.left - 1}
def rmN(s:Sh)(n:Nat)(key:ByteArray):Sh:={s with st:=λj=>if j < n then(s.st j).rm key else s.st j}
def rsN(s:Sh)(n m:Nat):Sh:={s with st:=λj=>if j < n then(s.st j).rs m else s.st j}
def start(a c m:Nat)(L:List (List Nat)):Sh:=⟨a,c,c,λk=>ISt.start k m (DR.lget L (k:Int)),λ_=>0,λ_=>0⟩
theorem askN_st(n:Nat)(s:Sh)(key:ByteArray)(j:Nat):(askN n s key).st j=if j < n then(s.st j).req key else s.st j:=rfl
theorem askN_mis(n:Nat)(s:Sh)(key:ByteArray)(j:Nat):(askN n s key).mis j=if j < n then s.mis j+(if(s.st j).hitB key=true then 0 else 1) else s.mis j:=rfl
theorem ask1_at(n:Nat)(s:Sh)(key:ByteArray)(j:Nat):((askN n s key).ask1 n key).st j=(askN (n+1) s key).st j/\((askN n s key).ask1 n key).mis j=(askN (n+1) s key).mis j:=by
 have hn:(askN n s key).st n=s.st n:=if_neg (Nat.lt_irrefl n);have hm:(askN n s key).mis n=s.mis n:=if_neg (Nat.lt_irrefl n);refine⟨?_,?_⟩
 . show pu (askN n s key).st n (((askN n s key).st n).req key) j=if j < n+1 then(s.st j).req key else s.st j
   by_cases e:j=n
   . rw[e,pu_at,hn,if_pos (Nat.lt_succ_self n)]
   . rw[pu_ne _ _ e];show(if j < n then(s.st j).req key else s.st j)=_
     by_cases h:j < n
     . rw[if_pos h,if_pos (by omega)]
     . rw[if_neg h,if_neg (by omega)]
 . show(if((askN n s key).st n).hitB key=true then(askN n s key).mis else pu (askN n s key).mis n ((askN n s key).mis n+1)) j=if j < n+1 then s.mis j+(if(s.st j).hitB key=true then 0 else 1) else s.mis j
   rw[hn,hm]
   by_cases e:j=n
   . rw[e,if_pos (Nat.lt_succ_self n)];cases hb:(s.st n).hitB key with
     |true=>rw[if_pos rfl,if_pos rfl,hm];rfl
     |false=>rw[if_neg (by simp),if_neg (by simp),pu_at]
   . have e1:(if(s.st n).hitB key=true then(askN n s key).mis else pu (askN n s key).mis n (s.mis n+1)) j=(askN n s key).mis j:=by
      cases(s.st n).hitB key with
      |true=>rw[if_pos rfl]
      |false=>rw[if_neg (by simp),pu_ne _ _ e]
     rw[e1];show(if j < n then s.mis j+(if(s.st j).hitB key=true then 0 else 1) else s.mis j)=_
     by_cases h:j < n
     . rw[if_pos h,if_pos (show j < n+1 by omega)]
     . rw[if_neg h,if_neg (show ¬j < n+1 by omega)]
theorem asked_same(s:Sh)(key:ByteArray):(asked s key).shift=s.shift/\(asked s key).win=s.win/\(asked s key).left=s.left/\(asked s key).sco=s.sco:=by
 unfold asked;split
 . exact⟨rfl,rfl,rfl,rfl⟩
 . exact⟨rfl,rfl,rfl,rfl⟩
theorem asked_at(s:Sh)(key:ByteArray)(j:Nat):(asked s key).st j=(if smp key s.shift=true then(s.st j).req key else s.st j)/\(asked s key).mis j=s.mis j+(if smp key s.shift=true/\(s.st j).hitB key=false then 1 else 0):=by
 unfold asked;generalize smp key s.shift=q;cases q with
 |true=>
  rw[if_pos rfl,if_pos rfl];refine⟨rfl,?_⟩;show s.mis j+_=_;cases hb:(s.st j).hitB key with
  |true=>rfl
  |false=>rfl
 |false=>exact⟨rfl,rfl⟩
theorem req_same(s:Sh)(key:ByteArray):(req s key).shift=s.shift/\(req s key).win=s.win:=by
 unfold req;split
 . exact⟨(asked_same s key).1,(asked_same s key).2.1⟩
 . exact⟨(asked_same s key).1,(asked_same s key).2.1⟩
theorem req_st(s:Sh)(key:ByteArray)(j:Nat):(req s key).st j=(if smp key s.shift=true then(s.st j).req key else s.st j):=by
 unfold req;split
 . exact(asked_at s key j).1
 . exact(asked_at s key j).1
theorem req_go{s:Sh}(key:ByteArray)(h:s.left≠1):(req s key).left=s.left - 1/\(req s key).sco=s.sco/\(req s key).mis=(asked s key).mis:=by
 unfold req;rw[if_neg h];exact⟨rfl,(asked_same s key).2.2.2,rfl⟩
theorem req_end{s:Sh}(key:ByteArray)(h:s.left=1):(req s key).left=s.win/\(req s key).mis=(λ_=>0)/\∀j,(req s key).sco j=s.sco j / 2+(asked s key).mis j:=by
 unfold req;rw[if_pos h];refine⟨(asked_same s key).2.1,rfl,λj=>?_⟩;show(asked s key).sco j / 2+_=_;rw[(asked_same s key).2.2.2]
theorem req_go0{s:Sh}(key:ByteArray)(h0:s.shift=0)(h:s.left≠1):(req s key).shift=0/\(req s key).win=s.win/\(req s key).left=s.left - 1/\(req s key).sco=s.sco/\(∀j,(req s key).st j=(s.st j).req key)/\∀j,(req s key).mis j=s.mis j+(if(s.st j).hitB key=false then 1 else 0):=by
 obtain⟨g1,g2,g3⟩:=req_go (s:=s) key h;refine⟨(req_same s key).1.trans h0,(req_same s key).2,g1,g2,λj=>?_,λj=>?_⟩
 . rw[req_st,h0,smp_zero,if_pos rfl]
 . rw[g3,(asked_at s key j).2,h0,smp_zero];cases(s.st j).hitB key <;> rfl
theorem req_end0{s:Sh}(key:ByteArray)(h0:s.shift=0)(h:s.left=1):(req s key).shift=0/\(req s key).win=s.win/\(req s key).left=s.win/\(req s key).mis=(λ_=>0)/\(∀j,(req s key).st j=(s.st j).req key)/\∀j,(req s key).sco j=s.sco j / 2+(s.mis j+(if(s.st j).hitB key=false then 1 else 0)):=by
 obtain⟨g1,g2,g3⟩:=req_end (s:=s) key h;refine⟨(req_same s key).1.trans h0,(req_same s key).2,g1,g2,λj=>?_,λj=>?_⟩
 . rw[req_st,h0,smp_zero,if_pos rfl]
 . rw[g3,(asked_at s key j).2,h0,smp_zero];cases(s.st j).hitB key <;> rfl
end Sh
noncomputable def run1 (a:Nat) (K:Nat->ByteArray):Nat->ISt->ISt
 |0,x=>x
 |n+1,x=>if smp (K n) a=true then(run1 a K n x).req (K n) else run1 a K n x
noncomputable def cnt1 (a:Nat) (K:Nat->ByteArray):Nat->ISt->Nat
 |0,_=>0
 |n+1,x=>cnt1 a K n x+(if smp (K n) a=true/\(run1 a K n x).hitB (K n)=false then 1 else 0)
theorem cnt1_le(a:Nat)(K:Nat->ByteArray)(n:Nat)(x:ISt):cnt1 a K n x<=n:=by
 induction n with
 |zero=>exact Nat.le_refl _
 |succ n ih=>
  show cnt1 a K n x+_<=n+1;split <;> omega
theorem run1_mo(a:Nat)(K:Nat->ByteArray)(n:Nat)(x:ISt):(run1 a K n x).mo=x.mo:=by
 induction n with
 |zero=>rfl
 |succ n ih=>
  show(if smp (K n) a=true then(run1 a K n x).req (K n) else run1 a K n x).mo=_;split
  . rw[ISt.mo_req];exact ih
  . exact ih
noncomputable def runS (K:Nat->ByteArray):Nat->Sh->Sh
 |0,s=>s
 |n+1,s=>(runS K n s).req (K n)
theorem runS_same(K:Nat->ByteArray)(n:Nat)(s:Sh):(runS K n s).shift=s.shift/\(runS K n s).win=s.win:=by
 induction n with
 |zero=>exact⟨rfl,rfl⟩
 |succ n ih=>
  have:=Sh.req_same (runS K n s) (K n);exact⟨this.1.trans ih.1,this.2.trans ih.2⟩
theorem runS_st(K:Nat->ByteArray)(n:Nat)(s:Sh)(j:Nat):(runS K n s).st j=run1 s.shift K n (s.st j):=by
 induction n with
 |zero=>rfl
 |succ n ih=>
  show((runS K n s).req (K n)).st j=_;rw[Sh.req_st,ih,(runS_same K n s).1];rfl
theorem runS_go(K:Nat->ByteArray)(n:Nat)(s:Sh)(hn:n < s.left):(runS K n s).left=s.left - n/\(runS K n s).sco=s.sco/\∀j,(runS K n s).mis j=s.mis j+cnt1 s.shift K n (s.st j):=by
 induction n with
 |zero=>exact⟨rfl,rfl,λ_=>rfl⟩
 |succ n ih=>
  obtain⟨h1,h2,h3⟩:=ih (by omega);obtain⟨g1,g2,g3⟩:=Sh.req_go (s:=runS K n s) (K n) (by omega);refine⟨?_,g2.trans h2,λj=>?_⟩
  . show((runS K n s).req (K n)).left=_;rw[g1,h1];omega
  . show((runS K n s).req (K n)).mis j=_;rw[g3,(Sh.asked_at _ _ j).2,h3 j,runS_st K n s,(runS_same K n s).1,Nat.add_assoc];rfl
end Go.Proofs.YtdmmciggopmglaaGreatDoor.SW
set_option maxRecDepth 20000
namespace Go.Proofs.YtdmmciggopmglaaGreatDoor.SW
open Go.RowKit Sg IN HS
theorem isSize_any(w:World)(z:Int):Calls Tryz.prog 28 #[.int .i64 z] w (λe w'=>e= .returned (.bool (decide (0<=z)&&decide (z<=16777216)))/\w=w'):=by
 go_enter Tryz.func28,Tryz.ntmps28
 by_cases h0:0<=z
 . by_cases h1:z<=16777216
   . rw[decide_eq_true h0,decide_eq_true h1];go_wp2_with fail
     go_ret;exact⟨rfl,rfl⟩
   . rw[decide_eq_true h0,decide_eq_false h1];go_wp2_with fail
     go_ret;exact⟨rfl,rfl⟩
 . rw[decide_eq_false h0];go_wp2_with fail
   go_ret;exact⟨rfl,rfl⟩
theorem mostOf_any(w:World)(p a b c:Nat)(P:Nat->Value)(M S:Nat->Nat)(h:SBox w p a b c P M S)(n:Nat)(hn:n<=16777216)(ha:a<=16):
 Calls Tryz.prog 29 #[.pointer (some ⟨p,0,none⟩),.int .i64 (n:Int)] w (λe w'=>e= .returned (.int .i64 (sml n a:Int))/\w=w'):=by
 have c0:=h.c0;have h1:decide (64 < (a:Int))=false:=decide_eq_false (by omega);have h2:decide ((a:Int) < 0)=false:=decide_eq_false (by omega);clear h;go_enter Tryz.func29,Tryz.ntmps29;go_wp2_with fail
 go_ret;refine⟨DR.ret_int ?_,rfl⟩;rw[show((n:Int) / 2 ^ a)=((n / 2 ^ a:Nat):Int) by simp];unfold sml;omega
def agg7(M:Nat->Nat):Array Value:=#[.int .i64 (M 0:Int),.int .i64 (M 1:Int),.int .i64 (M 2:Int),.int .i64 (M 3:Int),.int .i64 (M 4:Int),.int .i64 (M 5:Int),.int .i64 (M 6:Int)]
theorem put7{w:World}{x:Nat}{a0 a1 a2 a3 a4 a5 a6:Value}(h:w.heap[x]?=some (.cells #[a0,a1,a2,a3,a4,a5,a6] 34 (0,0)))(M:Nat->Nat):
 (((((((w.setCell ⟨x,0,none⟩ (.int .i64 (M 0:Int))).setCell ⟨x,1,none⟩ (.int .i64 (M 1:Int))).setCell ⟨x,2,none⟩ (.int .i64 (M 2:Int))).setCell ⟨x,3,none⟩ (.int .i64 (M 3:Int))).setCell ⟨x,4,none⟩ (.int .i64 (M 4:Int))).setCell ⟨x,5,none⟩ (.int .i64 (M 5:Int))).setCell ⟨x,6,none⟩ (.int .i64 (M 6:Int))).heap[x]?=some (.cells (agg7 M) 34 (0,0))/\
 Turn (λk=>k=x) w (((((((w.setCell ⟨x,0,none⟩ (.int .i64 (M 0:Int))).setCell ⟨x,1,none⟩ (.int .i64 (M 1:Int))).setCell ⟨x,2,none⟩ (.int .i64 (M 2:Int))).setCell ⟨x,3,none⟩ (.int .i64 (M 3:Int))).setCell ⟨x,4,none⟩ (.int .i64 (M 4:Int))).setCell ⟨x,5,none⟩ (.int .i64 (M 5:Int))).setCell ⟨x,6,none⟩ (.int .i64 (M 6:Int))):=by
 refine⟨?_,((((((((Turn.refl (λk=>k=x) w).setCell (p:=⟨x,0,none⟩) (Or.inl rfl) _).setCell (p:=⟨x,1,none⟩) (Or.inl rfl) _).setCell (p:=⟨x,2,none⟩) (Or.inl rfl) _).setCell (p:=⟨x,3,none⟩) (Or.inl rfl) _).setCell (p:=⟨x,4,none⟩) (Or.inl rfl) _).setCell (p:=⟨x,5,none⟩) (Or.inl rfl) _).setCell (p:=⟨x,6,none⟩) (Or.inl rfl) _)⟩;have r0:(w.setCell ⟨x,0,none⟩ (.int .i64 (M 0:Int))).heap[x]?=some (.cells #[.int .i64 (M 0:Int),a1,a2,a3,a4,a5,a6] 34 (0,0)):=by rw[heap_setCell_same _ _ _ _ _ _ h];rfl
 generalize w.setCell ⟨x,0,none⟩ (.int .i64 (M 0:Int))=w0 at*;have r1:(w0.setCell ⟨x,1,none⟩ (.int .i64 (M 1:Int))).heap[x]?=some (.cells #[.int .i64 (M 0:Int),.int .i64 (M 1:Int),a2,a3,a4,a5,a6] 34 (0,0)):=by rw[heap_setCell_same _ _ _ _ _ _ r0];rfl
 generalize w0.setCell ⟨x,1,none⟩ (.int .i64 (M 1:Int))=w1 at*;have r2:(w1.setCell ⟨x,2,none⟩ (.int .i64 (M 2:Int))).heap[x]?=some (.cells #[.int .i64 (M 0:Int),.int .i64 (M 1:Int),.int .i64 (M 2:Int),a3,a4,a5,a6] 34 (0,0)):=by rw[heap_setCell_same _ _ _ _ _ _ r1];rfl
 generalize w1.setCell ⟨x,2,none⟩ (.int .i64 (M 2:Int))=w2 at*;have r3:(w2.setCell ⟨x,3,none⟩ (.int .i64 (M 3:Int))).heap[x]?=some (.cells #[.int .i64 (M 0:Int),.int .i64 (M 1:Int),.int .i64 (M 2:Int),.int .i64 (M 3:Int),a4,a5,a6] 34 (0,0)):=by rw[heap_setCell_same _ _ _ _ _ _ r2];rfl
 generalize w2.setCell ⟨x,3,none⟩ (.int .i64 (M 3:Int))=w3 at*;have r4:(w3.setCell ⟨x,4,none⟩ (.int .i64 (M 4:Int))).heap[x]?=some (.cells #[.int .i64 (M 0:Int),.int .i64 (M 1:Int),.int .i64 (M 2:Int),.int .i64 (M 3:Int),.int .i64 (M 4:Int),a5,a6] 34 (0,0)):=by rw[heap_setCell_same _ _ _ _ _ _ r3];rfl
 generalize w3.setCell ⟨x,4,none⟩ (.int .i64 (M 4:Int))=w4 at*;have r5:(w4.setCell ⟨x,5,none⟩ (.int .i64 (M 5:Int))).heap[x]?=some (.cells #[.int .i64 (M 0:Int),.int .i64 (M 1:Int),.int .i64 (M 2:Int),.int .i64 (M 3:Int),.int .i64 (M 4:Int),.int .i64 (M 5:Int),a6] 34 (0,0)):=by rw[heap_setCell_same _ _ _ _ _ _ r4];rfl
 generalize w4.setCell ⟨x,5,none⟩ (.int .i64 (M 5:Int))=w5 at*;rw[heap_setCell_same _ _ _ _ _ _ r5];rfl
theorem load_seven{w:World}{x:Nat}{M:Nat->Nat}(k:w.heap[x]?=some (.cells (agg7 M) 34 (0,0))):(loadVar 34 ⟨x,0,none⟩).run Tryz.prog w= .ok (.agg (agg7 M)) w:=by
 have k0:=cell_of_row w _ 0 _ _ _ k;have k1:=cell_of_row w _ 1 _ _ _ k;have k2:=cell_of_row w _ 2 _ _ _ k;have k3:=cell_of_row w _ 3 _ _ _ k;have k4:=cell_of_row w _ 4 _ _ _ k;have k5:=cell_of_row w _ 5 _ _ _ k;have k6:=cell_of_row w _ 6 _ _ _ k;unfold agg7 at*;clear k;unfold loadVar;go_simp
section
variable(w:World)(p a b c:Nat)(P:Nat->Value)(M S:Nat->Nat)(h:SBox w p a b c P M S)
include h
theorem misses_any:Calls Tryz.prog 14 #[.pointer (some ⟨p,0,none⟩)] w (Told (.agg (agg7 M)) w):=by
 have hb:=(Below.refl w.heap.size w).alloc (Nat.le_refl _) (.cells #[.int .i64 0,.int .i64 0,.int .i64 0,.int .i64 0,.int .i64 0,.int .i64 0,.int .i64 0] 34);have h1:SBox (w.alloc (.cells #[.int .i64 0,.int .i64 0,.int .i64 0,.int .i64 0,.int .i64 0,.int .i64 0,.int .i64 0] 34)) p a b c P M S:=(hb.block p h.lt).trans h;have N1:=heap_alloc_new w (.cells #[.int .i64 0,.int .i64 0,.int .i64 0,.int .i64 0,.int .i64 0,.int .i64 0,.int .i64 0] 34);have m0:=h1.cM (k:=0) (by omega);have m1:=h1.cM (k:=1) (by omega);have m2:=h1.cM (k:=2) (by omega);have m3:=h1.cM (k:=3) (by omega);have m4:=h1.cM (k:=4) (by omega);have m5:=h1.cM (k:=5) (by omega);have m6:=h1.cM (k:=6) (by omega);simp only[Nat.reduceAdd] at m0 m1 m2 m3 m4 m5 m6;have HB:=Lib.hid (And.intro hb N1);clear h h1 hb;go_enter Tryz.func14,Tryz.ntmps14;go_upto_region 1 with fail
 generalize w.alloc (.cells #[.int .i64 0,.int .i64 0,.int .i64 0,.int .i64 0,.int .i64 0,.int .i64 0,.int .i64 0] 34)=w1 at*;have z0:=cell_of_row w1 _ 0 _ _ _ N1;have z1:=cell_of_row w1 _ 1 _ _ _ N1;have z2:=cell_of_row w1 _ 2 _ _ _ N1;have z3:=cell_of_row w1 _ 3 _ _ _ N1;have z4:=cell_of_row w1 _ 4 _ _ _ N1;have z5:=cell_of_row w1 _ 5 _ _ _ N1;have z6:=cell_of_row w1 _ 6 _ _ _ N1;have f0:=frozen_of_row w1 _ 0 _ _ N1;have f1:=frozen_of_row w1 _ 1 _ _ N1;have f2:=frozen_of_row w1 _ 2 _ _ N1;have f3:=frozen_of_row w1 _ 3 _ _ N1;have f4:=frozen_of_row w1 _ 4 _ _ N1;have f5:=frozen_of_row w1 _ 5 _ _ N1;have f6:=frozen_of_row w1 _ 6 _ _ N1;clear N1;obtain⟨p1,p2⟩:=put7 HB.out.2 M;have FN:=Lib.hid (And.intro p1 (HB.out.1.trans (p2.below (B:=w.heap.size) (λk hk=>Nat.le_of_eq (show w.heap.size=k from hk.symm)) HB.out.1.size)));clear p1 p2;generalize hx:w.heap.size=x at*;have HX:=Lib.hid hx;clear hx;go_wp2_with fail
 refine bodyPost_ret (LR.results_c rfl _ _ _ ⟨x,0,none⟩ _ rfl (load_seven FN.out.1)) rfl ?_;exact⟨rfl,by rw[HX.out];exact FN.out.2⟩
theorem scores_any:Calls Tryz.prog 22 #[.pointer (some ⟨p,0,none⟩)] w (Told (.agg (agg7 S)) w):=by
 have hb:=(Below.refl w.heap.size w).alloc (Nat.le_refl _) (.cells #[.int .i64 0,.int .i64 0,.int .i64 0,.int .i64 0,.int .i64 0,.int .i64 0,.int .i64 0] 34);have h1:SBox (w.alloc (.cells #[.int .i64 0,.int .i64 0,.int .i64 0,.int .i64 0,.int .i64 0,.int .i64 0,.int .i64 0] 34)) p a b c P M S:=(hb.block p h.lt).trans h;have N1:=heap_alloc_new w (.cells #[.int .i64 0,.int .i64 0,.int .i64 0,.int .i64 0,.int .i64 0,.int .i64 0,.int .i64 0] 34);have m0:=h1.cS (k:=0) (by omega);have m1:=h1.cS (k:=1) (by omega);have m2:=h1.cS (k:=2) (by omega);have m3:=h1.cS (k:=3) (by omega);have m4:=h1.cS (k:=4) (by omega);have m5:=h1.cS (k:=5) (by omega);have m6:=h1.cS (k:=6) (by omega);simp only[Nat.reduceAdd] at m0 m1 m2 m3 m4 m5 m6;have HB:=Lib.hid (And.intro hb N1);clear h h1 hb;go_enter Tryz.func22,Tryz.ntmps22;go_upto_region 1 with fail
 generalize w.alloc (.cells #[.int .i64 0,.int .i64 0,.int .i64 0,.int .i64 0,.int .i64 0,.int .i64 0,.int .i64 0] 34)=w1 at*;have z0:=cell_of_row w1 _ 0 _ _ _ N1;have z1:=cell_of_row w1 _ 1 _ _ _ N1;have z2:=cell_of_row w1 _ 2 _ _ _ N1;have z3:=cell_of_row w1 _ 3 _ _ _ N1;have z4:=cell_of_row w1 _ 4 _ _ _ N1;have z5:=cell_of_row w1 _ 5 _ _ _ N1;have z6:=cell_of_row w1 _ 6 _ _ _ N1;have f0:=frozen_of_row w1 _ 0 _ _ N1;have f1:=frozen_of_row w1 _ 1 _ _ N1;have f2:=frozen_of_row w1 _ 2 _ _ N1;have f3:=frozen_of_row w1 _ 3 _ _ N1;have f4:=frozen_of_row w1 _ 4 _ _ N1;have f5:=frozen_of_row w1 _ 5 _ _ N1;have f6:=frozen_of_row w1 _ 6 _ _ N1;clear N1;obtain⟨p1,p2⟩:=put7 HB.out.2 S;have FN:=Lib.hid (And.intro p1 (HB.out.1.trans (p2.below (B:=w.heap.size) (λk hk=>Nat.le_of_eq (show w.heap.size=k from hk.symm)) HB.out.1.size)));clear p1 p2;generalize hx:w.heap.size=x at*;have HX:=Lib.hid hx;clear hx;go_wp2_with fail
 refine bodyPost_ret (LR.results_c rfl _ _ _ ⟨x,0,none⟩ _ rfl (load_seven FN.out.1)) rfl ?_;exact⟨rfl,by rw[HX.out];exact FN.out.2⟩
theorem left_any:Calls Tryz.prog 21 #[.pointer (some ⟨p,0,none⟩)] w (Told (.int .i64 (c:Int)) w):=by
 have c2:=h.c2;clear h;go_enter Tryz.func21,Tryz.ntmps21;go_wp2_with fail
 go_ret;exact⟨rfl,Below.refl _ _⟩
end
theorem each_any(w:World)(p a b c:Nat)(P:Nat->Value)(M S:Nat->Nat)(h:SBox w p a b c P M S)(F:FuncId)(cs:Array Value)(R:Nat->World->Prop)(hF:∀args w,(callFunc F args).run Tryz.prog w= .ok (.enter F args) w)(h0:R 0 w)
 (hs:∀k,k < 7->∀w1,R k w1->Calls Tryz.prog F (#[.int .i64 (k:Int),P k]++cs) w1 (λe w2=>e= .returned (.tuple #[])/\R (k+1) w2)):
 Calls Tryz.prog 30 #[.pointer (some ⟨p,0,none⟩),.func (.func F) #[] cs] w (λe w'=>e= .returned (.tuple #[])/\R 7 w'):=by
 have k0:=h.cP (k:=0) (by omega);have k1:=h.cP (k:=1) (by omega);have k2:=h.cP (k:=2) (by omega);have k3:=h.cP (k:=3) (by omega);have k4:=h.cP (k:=4) (by omega);have k5:=h.cP (k:=5) (by omega);have k6:=h.cP (k:=6) (by omega);simp only[Nat.reduceAdd] at k0 k1 k2 k3 k4 k5 k6
 have ix:∀(k:Nat) (W:World),k < 7->(Instr.index 63 (.agg #[P 0,P 1,P 2,P 3,P 4,P 5,P 6]) (.int .i64 (k:Int))).run Tryz.prog W= .ok (P k) W:=λk W hk=>by
  rcases seven hk with rfl|rfl|rfl|rfl|rfl|rfl|rfl <;> kernel_rfl
 have IX:=Lib.hid ix;have HS:=Lib.hid hs;have H0:=Lib.hid h0;clear h ix hs h0;go_enter Tryz.func30,Tryz.ntmps30;go_wp2_with fail
 clear k0 k1 k2 k3 k4 k5 k6;go_loopw [10] (λv W=>∃k:Nat,v= .int .i64 (k:Int)/\k<=7/\R k W) (λv _=>7 - (intOf v).toNat)
 case atStart=>exact⟨0,rfl,by omega,H0.out⟩
 case round=>
  obtain⟨k,rfl,hk,hR⟩:=hrel;have HR:=Lib.hid hR;clear hR H0
  by_cases hlt:k < 7
  . have e0:decide ((k:Int) < 7)=true:=decide_eq_true (by omega);have i0:=λW=>IX.out k W hlt;have hlt':k < 7:=hlt;have CL:=Lib.hid (HS.out k hlt wr HR.out);go_wp2_with fail
    refine CL.out.mono ?_;rintro e w2 ⟨rfl,hR⟩;have HR2:=Lib.hid hR;clear hR CL HR i0;go_wp2_with fail
    go_roundw
    case rel=>exact⟨k+1,by go_num,by omega,HR2.out⟩
    case measure=>simp[intOf] <;> omega
  . obtain rfl:k=7:=by omega
    go_wp2_with fail
    go_end0;exact⟨rfl,HR.out⟩
end Go.Proofs.YtdmmciggopmglaaGreatDoor.SW
set_option maxRecDepth 20000
namespace Go.Proofs.YtdmmciggopmglaaGreatDoor.SW
open Go.RowKit Sg IN HS
theorem ixM{k:Nat}(hk:k < 7)(p:Nat)(W:World):(Instr.indexAt 34 (.pointer (some ⟨p,10,none⟩)) (.int .i64 (k:Int))).run Tryz.prog W= .ok (.pointer (some ⟨p,10+k,none⟩)) W:=by
 rcases seven hk with rfl|rfl|rfl|rfl|rfl|rfl|rfl <;> kernel_rfl
theorem ixS{k:Nat}(hk:k < 7)(p:Nat)(W:World):(Instr.indexAt 34 (.pointer (some ⟨p,17,none⟩)) (.int .i64 (k:Int))).run Tryz.prog W= .ok (.pointer (some ⟨p,17+k,none⟩)) W:=by
 rcases seven hk with rfl|rfl|rfl|rfl|rfl|rfl|rfl <;> kernel_rfl
theorem ixP{k:Nat}(hk:k < 7)(p:Nat)(W:World):(Instr.indexAt 63 (.pointer (some ⟨p,3,none⟩)) (.int .i64 (k:Int))).run Tryz.prog W= .ok (.pointer (some ⟨p,3+k,none⟩)) W:=by
 rcases seven hk with rfl|rfl|rfl|rfl|rfl|rfl|rfl <;> kernel_rfl
theorem bdrew(w:World):Below w.heap.size w w.drew:=⟨rfl,rfl,rfl,Nat.le_refl _,λ_ _=>rfl⟩
theorem fieldH(W:World)(h o:Bool)(s:ByteArray):(Instr.field 41 (.agg #[.bool h,.string s,.bool o]) 0).run Tryz.prog W= .ok (.bool h) W:=by kernel_rfl
def SB(w:World)(p:Nat)(U:Nat->Nat->Prop)(B E x:Nat)(v:Value):Prop:=w.cell? ⟨x,0,none⟩=some v/\¬sblk p U B E x
section
variable{w w':World}{p B E x:Nat}{X:Nat->Nat}{U U':Nat->Nat->Prop}{L:List (List Nat)}{s s':Sh}{b c:Nat->Nat}{v:Value}{e:Ending}
theorem SB.went(h:SB w p U B E x v)(g:Went w w' (sblk p U B E) (sblk p U' B E)):SB w' p U' B E x v:=by
 have hx:=World.block_lt_of_cell? _ _ h.1;have o:=SR.went_out g hx h.2;exact⟨(World.cell?_of_block (a:=⟨x,0,none⟩) o.1).trans h.1,o.2⟩
theorem SB.below(h:SB w p U B E x v)(g:Below w.heap.size w w'):SB w' p U B E x v:=h.went (Went.below g)
theorem Shd.newbox(q:Shd w p X U B E L s b)(v:Value)(t:TypeId):Shd (w.alloc (.cells #[v] t)) p X U B E L s b/\SB (w.alloc (.cells #[v] t)) p U B E w.heap.size v:=by
 have hb:=(Below.refl w.heap.size w).alloc (Nat.le_refl _) (.cells #[v] t);exact⟨q.below hb,cell_of_row _ _ 0 _ _ _ (heap_alloc_new w _),λe=>Nat.lt_irrefl _ (q.lt e)⟩
end
set_option maxHeartbeats 1000000 in
theorem cReq(w:World)(p:Nat)(X:Nat->Nat)(U:Nat->Nat->Prop)(B E:Nat)(L:List (List Nat))(s:Sh)(b:Nat->Nat)(k kb sb:Nat)(key:ByteArray)(q:Shd w p X U B E L s b)(hk:k < 7)(h1:SB w p U B E kb (.string key))(h2:SB w p U B E sb (.pointer (some ⟨p,0,none⟩)))(hs:key.size<=maxLen)(hb:b k<=96800):
 Calls Tryz.prog 31 #[.int .i64 (k:Int),.pointer (some ⟨X k,0,none⟩),.pointer (some ⟨kb,0,none⟩),.pointer (some ⟨sb,0,none⟩)] w (SPost (.tuple #[]) w p X U B E (s.ask1 k key) (pu b k (b k+4))):=by
 have V:=request_s w (X k) (U k) B E L (k:Int) (s.st k) (b k) (q.ins k hk) key hs hb;unfold ISt.step at V;have c1:=h1.1;have c2:=h2.1;have Q:=Lib.hid (And.intro q h2);have MV:=Lib.hid (λ(e:Ending) (w1:World) (v:Value) (hp:ISP v w (X k) (U k) B E L (k:Int) ((s.st k).req key) (b k+4) e w1)=>q.move hk hp (by omega));have A1:=Lib.hid (show s.ask1 k key= {s with st:=pu s.st k ((s.st k).req key),mis:=if(s.st k).hitB key=true then s.mis else pu s.mis k (s.mis k+1)} from rfl);have HK:=Lib.hid (And.intro hk hb);generalize s.ask1 k key=sn at*;generalize(s.st k).hitB key=hit at*;generalize(s.st k).vicV key=vic at*;generalize(s.st k).outB key=out at*;generalize(s.st k).req key=st1 at*;have V:=Lib.hid V;have fld:=fieldH;clear q h1 h2 hs hb hk;go_enter Tryz.func31,Tryz.ntmps31;go_wp2_with fail
 refine V.out.mono ?_;intro e w1 hp;obtain⟨rfl,U1,L1,g1,g2⟩:=MV.out e w1 _ hp;have G:=Lib.hid (And.intro g1 g2);have S1:=Lib.hid (Q.out.2.went g2);clear hp g1 g2 MV V c1 c2;cases hit with
 |true=>
  rw[if_pos rfl] at A1;go_wp2_with fail
  go_end0;rw[A1.out];exact⟨rfl,U1,L1,G.out.1,G.out.2⟩
 |false=>
  rw[if_neg (by simp)] at A1;have c2:=S1.out.1;have hk7:=HK.out.1;have cm:=G.out.1.box.cM hk7;have fm:=G.out.1.box.fr (10+k);have ix:=ixM hk7 p;have ml:=G.out.1.mis k hk7;rw[pu_at] at ml;obtain⟨n,hn⟩:∃n,n=s.mis k:=⟨_,rfl⟩;have hbk:=HK.out.2
  have wr:IntKind.i64.wrap ((n:Int)+1)=((n+1:Nat):Int):=by
   have:n<=b k+4:=by rw[hn];exact ml
   rw[IntWalk.i64_in _ (by omega)];rfl
  have HN:=Lib.hid hn
  replace cm:w1.cell? ⟨p,10+k,none⟩=some (.int .i64 (n:Int)):=by rw[hn];exact cm
  have ht:Turn (λk=>k=p) w1 (w1.setCell ⟨p,10+k,none⟩ (.int .i64 ((n+1:Nat):Int))):=(Turn.refl (λk=>k=p) w1).setCell (p:=⟨p,10+k,none⟩) (Or.inl rfl) _
  have FIN:=Lib.hid (G.out.1.wrote (s':=sn) (c:=pu b k (b k+4)) ht (by rw[A1.out];show SBox _ p s.shift s.win s.left (pts X) (pu s.mis k (s.mis k+1)) s.sco;rw[← hn];exact G.out.1.box.sM hk7 (n+1)) (by rw[A1.out]) (λj hj=>by
   rw[A1.out];show pu s.mis k (s.mis k+1) j<=pu b k (b k+4) j
   by_cases e:j=k
   . subst e;rw[pu_at,pu_at];have:=Q.out.1.mis j hj;omega
   . rw[pu_ne _ _ e,pu_ne _ _ e];exact Q.out.1.mis j hj) (λj hj=>by rw[A1.out];exact G.out.1.sco j hj) (λ_ _=>Nat.le_refl _) (by rw[A1.out];exact G.out.1.sh) (by rw[A1.out];exact G.out.1.lw))
  clear ht ml hn hbk hk7 S1 Q HK;generalize n+1=n1 at*;go_wp2_with fail
  go_region;go_wp2_with fail
  go_end0;have hd:=bdrew (w1.setCell ⟨p,10+k,none⟩ (.int .i64 (n1:Int)));exact⟨rfl,U1,L1,FIN.out.1.below hd,(G.out.2.trans FIN.out.2).trans (Went.below hd)⟩
theorem SPost.next{w0 w w':World}{p B E:Nat}{X:Nat->Nat}{U0 U:Nat->Nat->Prop}{s s':Sh}{b c:Nat->Nat}{v:Value}{e:Ending}(hW:Went w0 w (sblk p U0 B E) (sblk p U B E))(hp:SPost v w p X U B E s b e w')(h1:s'.shift=s.shift)(h2:s'.win=s.win)(h3:s'.left=s.left)(h4:∀k,k < 7->s'.st k=s.st k)(h5:∀k,k < 7->s'.mis k=s.mis k)(h6:∀k,k < 7->s'.sco k=s.sco k)(h7:∀k,k < 7->b k<=c k):
 e= .returned v/\∃U' L',Shd w' p X U' B E L' s' c/\Went w0 w' (sblk p U0 B E) (sblk p U' B E):=by
 obtain⟨he,U',L',g1,g2⟩:=hp;exact⟨he,U',L',g1.congr h1 h2 h3 h4 h5 h6 h7,hW.trans g2⟩
theorem cReqE(args:Array Value)(w:World):(callFunc 31 args).run Tryz.prog w= .ok (.enter 31 args) w:=run_enter9 Tryz.func31 (by kernel_rfl) rfl args w
theorem askAll(w:World)(p:Nat)(X:Nat->Nat)(U:Nat->Nat->Prop)(B E:Nat)(L:List (List Nat))(s:Sh)(b:Nat->Nat)(kb sb:Nat)(key:ByteArray)(q:Shd w p X U B E L s b)(h1:SB w p U B E kb (.string key))(h2:SB w p U B E sb (.pointer (some ⟨p,0,none⟩)))(hs:key.size<=maxLen)(hb:∀k,k < 7->b k<=96800):
 Calls Tryz.prog 30 #[.pointer (some ⟨p,0,none⟩),.func (.func 31) #[] #[.pointer (some ⟨kb,0,none⟩),.pointer (some ⟨sb,0,none⟩)]] w (SPost (.tuple #[]) w p X U B E (s.askA key) (λk=>b k+4)):=by
 refine(each_any w p s.shift s.win s.left (pts X) s.mis s.sco q.box 31 #[.pointer (some ⟨kb,0,none⟩),.pointer (some ⟨sb,0,none⟩)]
  (λn W=>∃U' L',Shd W p X U' B E L' (s.askN n key) (λj=>if j < n then b j+4 else b j)/\Went w W (sblk p U B E) (sblk p U' B E)) cReqE ⟨U,L,q.congr rfl rfl rfl (λk _=>by rw[Sh.askN_st,if_neg (by omega)]) (λk _=>by rw[Sh.askN_mis,if_neg (by omega)]) (λ_ _=>rfl) (λk _=>by simp),Went.refl _ _⟩ ?_).mono ?_
 . rintro k hk w1 ⟨U1,L1,g1,g2⟩;have h:=cReq w1 p X U1 B E L1 (s.askN k key) _ k kb sb key g1 hk (h1.went g2) (h2.went g2) hs (by show(if k < k then b k+4 else b k)<=96800;rw[if_neg (Nat.lt_irrefl _)];exact hb k hk);refine h.mono λe w2 hp=>?_
   obtain⟨he,U2,L2,g3,g4⟩:=SPost.next (s':=s.askN (k+1) key) (c:=λj=>if j < k+1 then b j+4 else b j) g2 hp rfl rfl rfl (λj _=>((Sh.ask1_at k s key j).1).symm) (λj _=>((Sh.ask1_at k s key j).2).symm) (λ_ _=>rfl) λj _=>by
    unfold pu
    by_cases e:j=k
    . subst e;simp
    . rw[if_neg e];show(if j < k then b j+4 else b j)<=if j < k+1 then b j+4 else b j
      by_cases h:j < k
      . rw[if_pos h,if_pos (by omega)];exact Nat.le_refl _
      . rw[if_neg h,if_neg (by omega)];exact Nat.le_refl _
   exact⟨he,U2,L2,g3,g4⟩
 . rintro e w' ⟨rfl,U1,L1,g1,g2⟩;exact⟨rfl,U1,L1,g1.congr rfl rfl rfl (λk hk=>by rw[Sh.askN_st,if_pos hk];rfl) (λk hk=>by rw[Sh.askN_mis,if_pos hk];rfl) (λ_ _=>rfl) (λk hk=>by simp[hk]),g2⟩
end Go.Proofs.YtdmmciggopmglaaGreatDoor.SW
