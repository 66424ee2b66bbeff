/- InB InC InD InN, in one text. -/
import Derived.Test.YtdmmciggopmglaaGreatDoorY7
import Derived.Test.YtdmmciggopmglaaGreatDoorYa
import Derived.Test.YtdmmciggopmglaaGreatDoorY2
import Derived.Test.YtdmmciggopmglaaGreatDoorY8
import Derived.Test.YtdmmciggopmglaaGreatDoorY9
set_option maxRecDepth 20000
namespace Go.Proofs.YtdmmciggopmglaaGreatDoor.IN
open Go.RowKit Sg
def Inner(w:World)(c:Nat)(T:Nat->Prop)(b:Nat):ISt->Prop
 | .p st=>Pc w c T st b
 | .l s=>LE.LC w c T s b
section
variable{w w':World}{c b b':Nat}{T:Nat->Prop}{st:ISt}
end
section
variable(w:World)(c:Nat)(T:Nat->Prop)(st:ISt)(b:Nat)(h:Inner w c T b st)
include h
end
def icells(b:Bool)(c n h:Nat):Array Value:=#[cV b c,.int .i64 (n:Int),.int .i64 (h:Int)]
def IBox(w:World)(x:Nat)(b:Bool)(c n h:Nat):Prop:=w.heap[x]?=some (.cells (icells b c n h) 78 (0,0))
section
variable{w w':World}{x c n h m:Nat}{b:Bool}
theorem IBox.lt(k:IBox w x b c n h):x < w.heap.size:=heap_lt k
theorem IBox.below(k:IBox w x b c n h)(hb:Below w.heap.size w w'):IBox w' x b c n h:=(hb.block x k.lt).trans k
theorem IBox.c0(k:IBox w x b c n h):w.cell? ⟨x,0,none⟩=some (cV b c):=cell_of_row w x 0 _ _ _ k
theorem IBox.c1(k:IBox w x b c n h):w.cell? ⟨x,1,none⟩=some (.int .i64 (n:Int)):=cell_of_row w x 1 _ _ _ k
theorem IBox.c2(k:IBox w x b c n h):w.cell? ⟨x,2,none⟩=some (.int .i64 (h:Int)):=cell_of_row w x 2 _ _ _ k
theorem IBox.f1(k:IBox w x b c n h):w.frozen? ⟨x,1,none⟩=false:=frozen_of_row w x 1 _ _ k
theorem IBox.f2(k:IBox w x b c n h):w.frozen? ⟨x,2,none⟩=false:=frozen_of_row w x 2 _ _ k
theorem IBox.s1(k:IBox w x b c n h):IBox (w.setCell ⟨x,1,none⟩ (.int .i64 (m:Int))) x b c m h:=by
 unfold IBox;rw[heap_setCell_same _ _ _ _ _ _ k];rfl
theorem IBox.s2(k:IBox w x b c n h):IBox (w.setCell ⟨x,2,none⟩ (.int .i64 (m:Int))) x b c n m:=by
 unfold IBox;rw[heap_setCell_same _ _ _ _ _ _ k];rfl
end
end Go.Proofs.YtdmmciggopmglaaGreatDoor.IN
set_option maxRecDepth 20000
namespace Go.Proofs.YtdmmciggopmglaaGreatDoor.IN
open Go.RowKit Sg
def In(w:World)(x:Nat)(U:Nat->Prop)(st:ISt)(n h b:Nat):Prop:=
 ∃c T,U=(λk=>k=x\/T k)/\Inner w c T b st/\¬T x/\IBox w x st.lrn c n h
section
variable{w w':World}{x c n h b b':Nat}{T U U':Nat->Prop}{st st':ISt}{v:Value}{e:Ending}
end
set_option maxHeartbeats 2000000 in
theorem atRequest(b:Bool)(w:World)(x c n h:Nat)(key:ByteArray)(hit o:Bool)(s:ByteArray)(Q:World->Prop)(hn:n<=100000000)(hh:h<=100000000)(k:IBox w x b c n h)
 (QB:∀w1,Q w1->IBox w1 x b c n h/\w.heap.size < w1.heap.size/\LR.Box w1 w.heap.size false ⟨#[]⟩ false)
 (U:Calls Tryz.prog (gRequest b) #[.pointer (some ⟨c,0,none⟩),.string key] (w.alloc zStep) (λe w'=>e= .returned (.agg #[.bool hit,.string s,.bool o])/\Q w')):
 Calls Tryz.prog 17 #[.pointer (some ⟨x,0,none⟩),.string key] w (λe w'=>e= .returned (.agg #[.bool hit,.string s,.bool o])/\
  ∃w1,Q w1/\Turn (λk=>k=x\/k=w.heap.size) w1 w'/\IBox w' x b c (n+1) (if hit=true then h+1 else h)):=by
 have me:=meRequest b ⟨c,0,none⟩;have cf:=cfRequest b;have XL:=Lib.hid k.lt;have k1:IBox (w.alloc zStep) x b c n h:=k.below ((Below.refl _ _).alloc (Nat.le_refl _) _);have h0:=k1.c0;have U:=Lib.hid U;have QB:=Lib.hid QB;unfold cV at h0;clear k k1;generalize gRequest b=fn at*;generalize htn:tI b=tn at*;go_enter Tryz.func17,Tryz.ntmps17;go_wp2_with fail
 refine U.out.mono ?_;rintro e w1 ⟨rfl,hQ⟩;obtain⟨k1,hl,bx⟩:=QB.out w1 hQ;have K1:=Lib.hid (And.intro hQ (And.intro k1 (And.intro hl bx)));clear hQ k1 hl bx h0 U QB;go_upto_region 2 with fail
 have M2:=Lib.hid (show ∃z,z=w1.heap.size/\IBox (w1.alloc (.cells #[.bool hit,.string s,.bool o] 41)) x b c n h/\LR.Box (w1.alloc (.cells #[.bool hit,.string s,.bool o] 41)) z hit s o/\LR.Box (w1.alloc (.cells #[.bool hit,.string s,.bool o] 41)) w.heap.size false ⟨#[]⟩ false/\z≠x/\z≠w.heap.size/\x≠w.heap.size/\Turn (λk=>k=x\/k=w.heap.size) w1 (w1.alloc (.cells #[.bool hit,.string s,.bool o] 41)) from by
  obtain⟨_,k1,hl,bx⟩:=K1.out;have hb:=(Below.refl w1.heap.size w1).alloc (Nat.le_refl _) (.cells #[.bool hit,.string s,.bool o] 41);have h1:=k1.lt;have h2:=XL.out;exact⟨_,rfl,k1.below hb,heap_alloc_new _ _,(hb.block _ hl).trans bx,by omega,by omega,by omega,(Turn.refl _ w1).alloc _⟩)
 obtain⟨z,hz,m1,m2,m3,m4,m5,m6,m7⟩:=M2.out;rw[← hz];have M3:=Lib.hid (And.intro m1 (And.intro m2 (And.intro m3 m7)));have c1:=m1.c1;have f1:=m1.f1;clear m1 m2 m3 m7 M2 hz;generalize w1.alloc (.cells #[.bool hit,.string s,.bool o] 41)=w2 at M3 c1 f1|-;obtain⟨wx,hwx⟩:∃y,y=w.heap.size:=⟨_,rfl⟩;rw[← hwx] at M3 m5 m6|-;have HWX:=Lib.hid hwx;clear hwx;have wr1:IntKind.i64.wrap ((n:Int)+1)=((n+1:Nat):Int):=by rw[IntWalk.i64_in _ (by omega)];rfl
 have wr2:IntKind.i64.wrap ((h:Int)+1)=((h+1:Nat):Int):=by rw[IntWalk.i64_in _ (by omega)];rfl
 generalize hn1:n+1=n1 at wr1|-;generalize hh1:h+1=h1 at wr2|-;go_upto_region 3 with fail
 have M4:=Lib.hid (show IBox (w2.setCell ⟨x,1,none⟩ (.int .i64 (n1:Int))) x b c n1 h/\LR.Box (w2.setCell ⟨x,1,none⟩ (.int .i64 (n1:Int))) z hit s o/\LR.Box (w2.setCell ⟨x,1,none⟩ (.int .i64 (n1:Int))) wx false ⟨#[]⟩ false/\Turn (λk=>k=x\/k=wx) w1 (w2.setCell ⟨x,1,none⟩ (.int .i64 (n1:Int))) from
  ⟨M3.out.1.s1,(Below.heap_setCell _ ⟨x,1,none⟩ _ _ m4).trans M3.out.2.1,(Below.heap_setCell _ ⟨x,1,none⟩ _ _ (Ne.symm m6)).trans M3.out.2.2.1,M3.out.2.2.2.setCell (p:=⟨x,1,none⟩) (Or.inl (Or.inl rfl)) _⟩)
 clear c1 f1 M3;generalize w2.setCell ⟨x,1,none⟩ (.int .i64 (n1:Int))=w3 at M4|-;have c2:=M4.out.1.c2;have f2:=M4.out.1.f2;have z0:=M4.out.2.1.cells.1;cases hit with
 |false=>
  obtain⟨_,z1,z2,_,_⟩:=M4.out.2.1.cells;obtain⟨r0,r1,r2,g1,g2⟩:=M4.out.2.2.1.cells;have g0:=frozen_of_row w3 _ 0 _ _ M4.out.2.2.1;go_wp2_with fail
  have B:=Lib.hid (M4.out.2.2.1.put false o s);refine bodyPost_ret (LR.results_c rfl _ _ _ ⟨wx,0,none⟩ _ rfl (LR.load_step B.out)) rfl ?_;refine⟨rfl,w1,K1.out.1,HWX.out▸M4.out.2.2.2.trans (put_turn9 w3 wx false o s) (λ_ _ e=>Or.inr e),?_⟩;exact((put_turn9 w3 wx false o s).block x M4.out.1.lt m6).trans M4.out.1
 |true=>
  go_upto_region 5 with fail
  have M5:=Lib.hid (show IBox (w3.setCell ⟨x,2,none⟩ (.int .i64 (h1:Int))) x b c n1 h1/\LR.Box (w3.setCell ⟨x,2,none⟩ (.int .i64 (h1:Int))) z true s o/\LR.Box (w3.setCell ⟨x,2,none⟩ (.int .i64 (h1:Int))) wx false ⟨#[]⟩ false/\Turn (λk=>k=x\/k=wx) w1 (w3.setCell ⟨x,2,none⟩ (.int .i64 (h1:Int))) from
   ⟨M4.out.1.s2,(Below.heap_setCell _ ⟨x,2,none⟩ _ _ m4).trans M4.out.2.1,(Below.heap_setCell _ ⟨x,2,none⟩ _ _ (Ne.symm m6)).trans M4.out.2.2.1,M4.out.2.2.2.setCell (p:=⟨x,2,none⟩) (Or.inl (Or.inl rfl)) _⟩)
  clear c2 f2 z0 M4;generalize w3.setCell ⟨x,2,none⟩ (.int .i64 (h1:Int))=w4 at M5|-;obtain⟨z0,z1,z2,_,_⟩:=M5.out.2.1.cells;obtain⟨r0,r1,r2,g1,g2⟩:=M5.out.2.2.1.cells;have g0:=frozen_of_row w4 _ 0 _ _ M5.out.2.2.1;go_wp2_with fail
  have B:=Lib.hid (M5.out.2.2.1.put true o s);refine bodyPost_ret (LR.results_c rfl _ _ _ ⟨wx,0,none⟩ _ rfl (LR.load_step B.out)) rfl ?_;refine⟨rfl,w1,K1.out.1,HWX.out▸M5.out.2.2.2.trans (put_turn9 w4 wx true o s) (λ_ _ e=>Or.inr e),?_⟩;exact((put_turn9 w4 wx true o s).block x M5.out.1.lt m6).trans M5.out.1
end Go.Proofs.YtdmmciggopmglaaGreatDoor.IN
set_option maxRecDepth 20000
namespace Go.Proofs.YtdmmciggopmglaaGreatDoor.IN
open Go.RowKit Sg
namespace ISt
theorem lrn_req(x:ISt)(k:ByteArray):(x.req k).lrn=x.lrn:=by cases x <;> rfl
theorem lrn_rm(x:ISt)(k:ByteArray):(x.rm k).lrn=x.lrn:=by cases x <;> rfl
theorem lrn_rs(x:ISt)(n:Nat):(x.rs n).lrn=x.lrn:=by cases x <;> rfl
end ISt
section
variable(w:World)(x:Nat)(U:Nat->Prop)(st:ISt)(n h b:Nat)(q:In w x U st n h b)
include q
end
section
variable{w0 w w':World}{x n h n' h' b b':Nat}{U U':Nat->Prop}{st st':ISt}{xs:List ByteArray}{r v:Value}{e:Ending}
end
end Go.Proofs.YtdmmciggopmglaaGreatDoor.IN
set_option maxRecDepth 20000
namespace Go.Proofs.YtdmmciggopmglaaGreatDoor.IN
open Go.RowKit Sg
def CNew(k m:Nat)(vs:List Nat)(B:Nat)(w:World)(e:Ending)(w':World):Prop:=
 ∃c T,e= .returned (.tuple #[cV (decide (4 < k)) c,.nilIface])/\Inner w' c T 0 (ISt.start k m vs)/\(∀j,T j->B<=j)/\Below w.heap.size w w'
theorem cacheOf_p(w:World)(k m B:Nat)(vs:List Nat)(t:Value)(ln:Int)(hk:k < 5)(hm:m<=16777216)(hB:B<=w.heap.size):Calls Tryz.prog 33 #[.int .i64 (k:Int),.int .i64 (m:Int),t,.int .i64 ln] w (CNew k m vs B w):=by
 have U:=Lib.hid (new_p w k hk m hm);have HK:=Lib.hid (And.intro hk hB);have e5:((k:Int)==5)=false:=by rw[beq_eq_false_iff_ne];omega
 have e6:((k:Int)==6)=false:=by rw[beq_eq_false_iff_ne];omega
 clear hk hm hB;go_enter Tryz.func33,Tryz.ntmps33;go_wp2_with fail
 refine U.out.mono ?_;rintro e w1 ⟨c,T,rfl,h1,h2,h3⟩;have R:=Lib.hid (And.intro h1 (And.intro h2 h3));clear h1 h2 h3 e5 e6;go_wp2_with fail
 go_ret2
 obtain⟨h1,h2,h3⟩:=R.out;obtain⟨hk,hB⟩:=HK.out;refine⟨c,T,?_,?_,λj hj=>Nat.le_trans hB (h2 j hj),h3⟩
 . rw[decide_eq_false (by omega)];rfl
 . unfold ISt.start;rw[if_pos hk];exact h1
end Go.Proofs.YtdmmciggopmglaaGreatDoor.IN
