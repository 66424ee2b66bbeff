/- Pn0 Pn, in one text. -/
import Derived.Test.YtdmmciggopmglaaGreatDoorHd
import Derived.Test.YtdmmciggopmglaaGreatDoorY2
import Derived.Deep.MidRow
import Derived.Deep.RegionHeld3
import Derived.Deep.RegionLaw
set_option maxRecDepth 20000
namespace Go.Proofs.YtdmmciggopmglaaGreatDoor
open Go.RowKit Sg
def fnA(k c:Nat):Array Value:=#[mV k c "Has" ,mV k c "Len" ,mV k c "Request" ,mV k c "Remove" ,mV k c "Adopt" ,mV k c "Victim" ,mV k c "Drop" ,mV k c "Resize" ,mV k c "Keys" ,mV k c "Ghosts" ]
def fns(k c:Nat):Value:= .agg (fnA k c)
theorem st1{P:Program}{W:World}{b o n:Nat}{v:Value}(hth:W.there b 0 n)(ho:o < n)(hv:v.oneCell'=true):(store ⟨b,o,none⟩ v).run P W= .ok () (W.setCell ⟨b,o,none⟩ v):=by
 rw[run_store P W _ v _ hv];have h:=hth o ho;rw[Nat.zero_add] at h;obtain⟨h1,h2⟩:=h;cases hc:W.cell? ⟨b,o,none⟩ with
 |none=>rw[hc] at h1;cases h1
 |some x=>simp only[h2];rfl
theorem thS{W:World}{b n:Nat}(h:W.there b 0 n)(g o:Nat)(v:Value):(W.setCell ⟨g,o,none⟩ v).there b 0 n:=World.there_setCells h g o [v]
set_option maxHeartbeats 4000000 in
theorem callsOf_any(w:World)(k c:Nat):Calls Tryz.prog 58 #[cI k c] w (λe w'=>e= .returned (fns k c)/\Below w.heap.size w w'):=by
 unfold fns fnA mV cI;generalize tC k=t;have hx:=heap_alloc_new w (.cells #[.nilFunc,.nilFunc,.nilFunc,.nilFunc,.nilFunc,.nilFunc,.nilFunc,.nilFunc,.nilFunc,.nilFunc] 128)
 have hth:(w.alloc (.cells #[.nilFunc,.nilFunc,.nilFunc,.nilFunc,.nilFunc,.nilFunc,.nilFunc,.nilFunc,.nilFunc,.nilFunc] 128)).drew.there w.heap.size 0 10:=λj hj=>by
  have hj':j=0\/j=1\/j=2\/j=3\/j=4\/j=5\/j=6\/j=7\/j=8\/j=9:=by omega
  refine⟨?_,?_⟩
  . show((w.alloc (.cells #[.nilFunc,.nilFunc,.nilFunc,.nilFunc,.nilFunc,.nilFunc,.nilFunc,.nilFunc,.nilFunc,.nilFunc] 128)).drew.cell? ⟨w.heap.size,0+j,none⟩).isSome=true
    rw[Nat.zero_add,show(w.alloc (.cells #[.nilFunc,.nilFunc,.nilFunc,.nilFunc,.nilFunc,.nilFunc,.nilFunc,.nilFunc,.nilFunc,.nilFunc] 128)).drew.cell? ⟨w.heap.size,j,none⟩=some .nilFunc by
     rcases hj' with rfl|rfl|rfl|rfl|rfl|rfl|rfl|rfl|rfl|rfl <;> exact cell_of_row (w.alloc (.cells #[.nilFunc,.nilFunc,.nilFunc,.nilFunc,.nilFunc,.nilFunc,.nilFunc,.nilFunc,.nilFunc,.nilFunc] 128)) _ _ _ _ _ hx]
    rfl
  . have:=frozen_of_row (w.alloc (.cells #[.nilFunc,.nilFunc,.nilFunc,.nilFunc,.nilFunc,.nilFunc,.nilFunc,.nilFunc,.nilFunc,.nilFunc] 128)) w.heap.size j _ 128 hx;show(w.alloc (.cells #[.nilFunc,.nilFunc,.nilFunc,.nilFunc,.nilFunc,.nilFunc,.nilFunc,.nilFunc,.nilFunc,.nilFunc] 128)).frozen? ⟨w.heap.size,0+j,none⟩=false;rw[Nat.zero_add];exact this
 have hr:=World.rangeAt_setCells_same _ _ _ (Array.toList #[.func (.method "Has" ) #[.iface t (.pointer (some ⟨c,0,none⟩))] #[],.func (.method "Len" ) #[.iface t (.pointer (some ⟨c,0,none⟩))] #[],.func (.method "Request" ) #[.iface t (.pointer (some ⟨c,0,none⟩))] #[],.func (.method "Remove" ) #[.iface t (.pointer (some ⟨c,0,none⟩))] #[],.func (.method "Adopt" ) #[.iface t (.pointer (some ⟨c,0,none⟩))] #[],.func (.method "Victim" ) #[.iface t (.pointer (some ⟨c,0,none⟩))] #[],.func (.method "Drop" ) #[.iface t (.pointer (some ⟨c,0,none⟩))] #[],.func (.method "Resize" ) #[.iface t (.pointer (some ⟨c,0,none⟩))] #[],.func (.method "Keys" ) #[.iface t (.pointer (some ⟨c,0,none⟩))] #[],.func (.method "Ghosts" ) #[.iface t (.pointer (some ⟨c,0,none⟩))] #[]]) hth;have hl:=run_loadVar_mid (P:=Tryz.prog) _ w.heap.size 0 128 (Array.toList #[.func (.method "Has" ) #[.iface t (.pointer (some ⟨c,0,none⟩))] #[],.func (.method "Len" ) #[.iface t (.pointer (some ⟨c,0,none⟩))] #[],.func (.method "Request" ) #[.iface t (.pointer (some ⟨c,0,none⟩))] #[],.func (.method "Remove" ) #[.iface t (.pointer (some ⟨c,0,none⟩))] #[],.func (.method "Adopt" ) #[.iface t (.pointer (some ⟨c,0,none⟩))] #[],.func (.method "Victim" ) #[.iface t (.pointer (some ⟨c,0,none⟩))] #[],.func (.method "Drop" ) #[.iface t (.pointer (some ⟨c,0,none⟩))] #[],.func (.method "Resize" ) #[.iface t (.pointer (some ⟨c,0,none⟩))] #[],.func (.method "Keys" ) #[.iface t (.pointer (some ⟨c,0,none⟩))] #[],.func (.method "Ghosts" ) #[.iface t (.pointer (some ⟨c,0,none⟩))] #[]]) _ hr (show Tryz.prog.underlying 128=some (.struct _) from Tryz.underlying128) rfl (by kernel_rfl)
 have hb:Below w.heap.size w ((w.alloc (.cells #[.nilFunc,.nilFunc,.nilFunc,.nilFunc,.nilFunc,.nilFunc,.nilFunc,.nilFunc,.nilFunc,.nilFunc] 128)).drew.setCells w.heap.size 0 (Array.toList #[.func (.method "Has" ) #[.iface t (.pointer (some ⟨c,0,none⟩))] #[],.func (.method "Len" ) #[.iface t (.pointer (some ⟨c,0,none⟩))] #[],.func (.method "Request" ) #[.iface t (.pointer (some ⟨c,0,none⟩))] #[],.func (.method "Remove" ) #[.iface t (.pointer (some ⟨c,0,none⟩))] #[],.func (.method "Adopt" ) #[.iface t (.pointer (some ⟨c,0,none⟩))] #[],.func (.method "Victim" ) #[.iface t (.pointer (some ⟨c,0,none⟩))] #[],.func (.method "Drop" ) #[.iface t (.pointer (some ⟨c,0,none⟩))] #[],.func (.method "Resize" ) #[.iface t (.pointer (some ⟨c,0,none⟩))] #[],.func (.method "Keys" ) #[.iface t (.pointer (some ⟨c,0,none⟩))] #[],.func (.method "Ghosts" ) #[.iface t (.pointer (some ⟨c,0,none⟩))] #[]])):=by
  have key:∀(vs:List Value) (o:Nat) (w1:World),Below w.heap.size w w1->Below w.heap.size w (w1.setCells w.heap.size o vs):=by
   intro vs
   induction vs with
   |nil=>exact λo w1 h=>h
   |cons v vs ih=>exact λo w1 h=>ih (o+1) _ (h.setCell (p:=⟨w.heap.size,o,none⟩) (Nat.le_refl _) v)
  exact key _ _ _ (((Below.refl _ _).alloc (Nat.le_refl _) _).trans ⟨rfl,rfl,rfl,Nat.le_refl _,λ_ _=>rfl⟩)
 have HL:=Lib.hid hl;have HB:=Lib.hid hb;clear hx hr hl hb;go_enter Tryz.func58,Tryz.ntmps58;go_wp2_with fail
 refine wp_region_noPanic ?_;refine wp_region_held_drew (S:=λ_=>True) (by kernel_rfl) trivial (λhHeld=>?_);refine tk 0 ?_;refine tk 1 ?_;refine tk 2 ?_;refine tk 3 ?_;refine tk 4 ?_;refine tk 5 ?_;refine tk 6 ?_;refine tk 7 ?_;refine tk 8 ?_;refine tk 9 ?_;refine tk 10 ?_;refine tk 11 ?_;refine tk 12 ?_;refine tk 13 ?_;refine tk 14 ?_;refine tk 15 ?_;refine tk 16 ?_;refine tk 17 ?_;refine tk 18 ?_;refine tk 19 ?_;refine tk 20 ?_;refine tk 21 ?_;refine tk 22 ?_;refine tk 23 ?_;refine tk 24 ?_;refine tk 25 ?_;refine tk 26 ?_;refine tk 27 ?_;refine tk 28 ?_;refine tk 29 ?_;refine tk 30 ?_;refine rdy 31 (λK hK=>?_);go_simp;have h0:=hth;rw[st1 (P:=Tryz.prog) h0 (show 0 < 10 by omega) rfl];simp only[Result.andThen_ok];have h1:=thS h0 w.heap.size 0 (.func (.method "Has" ) #[.iface t (.pointer (some ⟨c,0,none⟩))] #[]);rw[st1 (P:=Tryz.prog) h1 (show 1 < 10 by omega) rfl];simp only[Result.andThen_ok];have h2:=thS h1 w.heap.size 1 (.func (.method "Len" ) #[.iface t (.pointer (some ⟨c,0,none⟩))] #[]);rw[st1 (P:=Tryz.prog) h2 (show 2 < 10 by omega) rfl];simp only[Result.andThen_ok];have h3:=thS h2 w.heap.size 2 (.func (.method "Request" ) #[.iface t (.pointer (some ⟨c,0,none⟩))] #[]);rw[st1 (P:=Tryz.prog) h3 (show 3 < 10 by omega) rfl];simp only[Result.andThen_ok];have h4:=thS h3 w.heap.size 3 (.func (.method "Remove" ) #[.iface t (.pointer (some ⟨c,0,none⟩))] #[]);rw[st1 (P:=Tryz.prog) h4 (show 4 < 10 by omega) rfl];simp only[Result.andThen_ok];have h5:=thS h4 w.heap.size 4 (.func (.method "Adopt" ) #[.iface t (.pointer (some ⟨c,0,none⟩))] #[]);rw[st1 (P:=Tryz.prog) h5 (show 5 < 10 by omega) rfl];simp only[Result.andThen_ok];have h6:=thS h5 w.heap.size 5 (.func (.method "Victim" ) #[.iface t (.pointer (some ⟨c,0,none⟩))] #[]);rw[st1 (P:=Tryz.prog) h6 (show 6 < 10 by omega) rfl];simp only[Result.andThen_ok];have h7:=thS h6 w.heap.size 6 (.func (.method "Drop" ) #[.iface t (.pointer (some ⟨c,0,none⟩))] #[]);rw[st1 (P:=Tryz.prog) h7 (show 7 < 10 by omega) rfl];simp only[Result.andThen_ok];have h8:=thS h7 w.heap.size 7 (.func (.method "Resize" ) #[.iface t (.pointer (some ⟨c,0,none⟩))] #[]);rw[st1 (P:=Tryz.prog) h8 (show 8 < 10 by omega) rfl];simp only[Result.andThen_ok];have h9:=thS h8 w.heap.size 8 (.func (.method "Keys" ) #[.iface t (.pointer (some ⟨c,0,none⟩))] #[]);rw[st1 (P:=Tryz.prog) h9 (show 9 < 10 by omega) rfl];simp only[Result.andThen_ok];have h10:=thS h9 w.heap.size 9 (.func (.method "Ghosts" ) #[.iface t (.pointer (some ⟨c,0,none⟩))] #[]);refine hK.out _ _ trivial (λhHeld=>?_);clear hK K;(try simp only[Act.put,List.setIfInBounds_toArray,List.set_cons_zero,List.set_cons_succ]);refine dn ?_;refine NoPanic.normal ?_;clear hth;go_wp2_with fail
 refine bodyPost_ret (LR.results_c rfl _ _ _ ⟨w.heap.size,0,none⟩ _ rfl HL.out) rfl ?_;exact⟨rfl,HB.out⟩
end Go.Proofs.YtdmmciggopmglaaGreatDoor
set_option maxRecDepth 20000
namespace Go.Proofs.YtdmmciggopmglaaGreatDoor
open Go.RowKit Sg
def CNew(k m:Nat)(w:World)(e:Ending)(w':World):Prop:=∃c T,e= .returned (.tuple #[cI k c,.bool true])/\KCa w' c T (KSt.start k m) 0/\(∀j,T j->w.heap.size<=j)/\Below w.heap.size w w'
theorem cacheOf_any(w:World)(k:Nat)(hk:k < 5)(z:Int)(hz: -9223372036854775808<=z/\z<=9223372036854775807):Calls Tryz.prog 56 #[.int .i64 (k:Int),.int .i64 z] w (CNew k z.toNat w):=by
 rcases k with _|_|_|_|_|k
 . show Calls Tryz.prog 56 #[.int .i64 0,.int .i64 z] w _;have U:=Lib.hid (LR.new_ca w z hz);clear hk;go_enter Tryz.func56,Tryz.ntmps56;go_wp2_with(go_at_call 62;refine U.out.mono ?_;rintro e w1 ⟨c,T,rfl,h1,h2,h3⟩;have R:=Lib.hid (And.intro h1 (And.intro h2 h3));clear h1 h2 h3)
   go_ret2
   exact⟨c,T,rfl,R.out.1,R.out.2.1,R.out.2.2⟩
 . show Calls Tryz.prog 56 #[.int .i64 1,.int .i64 z] w _;have U:=Lib.hid (LF.new_ca w z false hz);clear hk;go_enter Tryz.func56,Tryz.ntmps56;go_wp2_with(go_at_call 63;refine U.out.mono ?_;rintro e w1 ⟨c,T,rfl,h1,h2,h3⟩;have R:=Lib.hid (And.intro h1 (And.intro h2 h3));clear h1 h2 h3)
   go_ret2
   exact⟨c,T,rfl,⟨R.out.1,Nat.le_refl _⟩,R.out.2.1,R.out.2.2⟩
 . show Calls Tryz.prog 56 #[.int .i64 2,.int .i64 z] w _;have U:=Lib.hid (LF.new_ca w z true hz);clear hk;go_enter Tryz.func56,Tryz.ntmps56;go_wp2_with(go_at_call 63;refine U.out.mono ?_;rintro e w1 ⟨c,T,rfl,h1,h2,h3⟩;have R:=Lib.hid (And.intro h1 (And.intro h2 h3));clear h1 h2 h3)
   go_ret2
   exact⟨c,T,rfl,⟨R.out.1,Nat.le_refl _⟩,R.out.2.1,R.out.2.2⟩
 . show Calls Tryz.prog 56 #[.int .i64 3,.int .i64 z] w _;have U:=Lib.hid (SR.new_ca w z hz);clear hk;go_enter Tryz.func56,Tryz.ntmps56;go_wp2_with(go_at_call 64;refine U.out.mono ?_;rintro e w1 ⟨c,T,rfl,h1,h2,h3⟩;have R:=Lib.hid (And.intro h1 (And.intro h2 h3));clear h1 h2 h3)
   go_ret2
   exact⟨c,T,rfl,R.out.1,R.out.2.1,R.out.2.2⟩
 . show Calls Tryz.prog 56 #[.int .i64 4,.int .i64 z] w _;have U:=Lib.hid (AR.new_ca w z hz);clear hk;go_enter Tryz.func56,Tryz.ntmps56;go_wp2_with(go_at_call 65;refine U.out.mono ?_;rintro e w1 ⟨c,T,rfl,h1,h2,h3⟩;have R:=Lib.hid (And.intro h1 (And.intro h2 h3));clear h1 h2 h3)
   go_ret2
   exact⟨c,T,rfl,R.out.1,R.out.2.1,R.out.2.2⟩
 . omega
def PNew(k m:Nat)(w:World)(e:Ending)(w':World):Prop:=∃p U,e= .returned (.tuple #[.pointer (some ⟨p,0,none⟩),.nilIface])/\Pc w' p U (KSt.start k m) 0/\(∀j,U j->w.heap.size<=j)/\Below w.heap.size w w'
theorem new_p(w:World)(k:Nat)(hk:k < 5)(m:Nat)(hm:m<=16777216):Calls Tryz.prog 44 #[.int .i64 (k:Int),.int .i64 (m:Int)] w (PNew k m w):=by
 have V:=cacheOf_any w k hk (m:Int) (by omega);rw[Int.toNat_natCast] at V;have V:=Lib.hid V
 have I:=Lib.hid (λw1=>show Calls Tryz.prog 57 #[.int .i64 (m:Int)] w1 (λe w'=>e= .returned (.bool true)/\w1=w') by
  have:=isRoom_any w1 (m:Int);rw[decide_eq_true (by omega),decide_eq_true (by omega)] at this;exact this)
 have C:=Lib.hid (λw1 c=>callsOf_any w1 k c);have K:=Lib.hid (KSt.start_kind hk m);go_enter Tryz.func44,Tryz.ntmps44;go_wp2_with fail
 refine V.out.mono ?_;rintro e w1 ⟨c,T,rfl,h1,h2,h3⟩;have R:=Lib.hid (And.intro h1 (And.intro h2 h3));clear h1 h2 h3;go_wp2_with fail
 refine(I.out _).mono ?_;rintro e w1 ⟨rfl,rfl⟩;go_wp2_with fail
 refine(C.out _ _).mono ?_;rintro e w2 ⟨rfl,hB⟩;have HB:=Lib.hid hB;clear hB;unfold fns fnA;go_wp2_with fail
 go_ret2
 obtain⟨h1,h2,h3⟩:=R.out;obtain⟨q1,q2,_,_⟩:=K.out;have hs2:=HB.out.size;have b3:=(Below.refl w2.heap.size w2).alloc (Nat.le_refl _) (.cells (pcells k m c) 131);have hb:=HB.out.trans (b3.mono hs2);have hTl:∀j,T j->j < w1.heap.size:=λj hj=>h1.lt hj;refine⟨w2.heap.size,λj=>j=w2.heap.size\/T j,rfl,⟨c,T,rfl,h1.below hb,λhj=>?_,?_⟩,λj hj=>?_,h3.trans (hb.mono h3.size)⟩
 . have:=hTl _ hj;omega
 . rw[q1,q2];exact heap_alloc_new _ _
 . have:=h3.size;rcases hj with rfl|hj
   . omega
   . exact h2 j hj
end Go.Proofs.YtdmmciggopmglaaGreatDoor
