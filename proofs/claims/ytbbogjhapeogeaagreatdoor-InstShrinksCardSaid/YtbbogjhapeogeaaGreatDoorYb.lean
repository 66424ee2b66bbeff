/- InB InC InD InN, in one text. -/
import Derived.Test.YtbbogjhapeogeaaGreatDoorY7
import Derived.Test.YtbbogjhapeogeaaGreatDoorYa
import Derived.Test.YtbbogjhapeogeaaGreatDoorY2
import Derived.Test.YtbbogjhapeogeaaGreatDoorY8
import Derived.Test.YtbbogjhapeogeaaGreatDoorY9
set_option maxRecDepth 20000
namespace Go.Proofs.YtbbogjhapeogeaaGreatDoor.IN
open Go.RowKit Sg
def Inner(w:World)(c:Nat)(T:Nat->Prop)(b:Nat):ISt->Prop
 | .p st=>Pc w c T st b
 | .l s=>LE.LC w c T s b
def NPost(v:Value)(w:World)(c:Nat)(T:Nat->Prop)(st:ISt)(b:Nat)(e:Ending)(w':World):Prop:=e= .returned v/\∃T',Inner w' c T' b st/\Went w w' T T'
section
variable{w w':World}{c b b':Nat}{T:Nat->Prop}{st:ISt}
theorem Inner.lt(h:Inner w c T b st){k:Nat}(hk:T k):k < w.heap.size:=by
 cases st with
 |p st=>exact Pc.lt h hk
 |l s=>exact LE.LC.lt h hk
theorem Inner.beside(h:Inner w c T b st){X:Nat->Prop}(ht:Turn X w w')(hx:∀k,T k->¬X k):Inner w' c T b st:=by
 cases st with
 |p st=>exact Pc.beside h ht hx
 |l s=>exact LE.LC.beside h ht hx
theorem Inner.mono(h:Inner w c T b st)(hb:b<=b'):Inner w c T b' st:=by
 cases st with
 |p st=>exact Pc.mono h hb
 |l s=>exact LE.LC.mono h hb
theorem Inner.ok(h:Inner w c T b st):st.Ok:=by
 cases st with
 |p st=>exact Pc.ok h
 |l s=>exact LE.LC.ok h
theorem Inner.small(h:Inner w c T b st):∀x∈st.keys,x.size<=maxLen:=by
 cases st with
 |p st=>exact Pc.small h
 |l s=>exact LE.LC.small h
end
section
variable(w:World)(c:Nat)(T:Nat->Prop)(st:ISt)(b:Nat)(h:Inner w c T b st)
include h
theorem kind_n:Calls Tryz.prog (gKind st.lrn) #[.pointer (some ⟨c,0,none⟩)] w (Told (.int .i64 (st.kind:Int)) w):=by
 cases st with
 |p st=>exact kind_p w c T st b h
 |l s=>exact LE.kind_l w c T s b h
theorem most_n:Calls Tryz.prog (gMost st.lrn) #[.pointer (some ⟨c,0,none⟩)] w (Told (.int .i64 (st.mo:Int)) w):=by
 cases st with
 |p st=>exact most_p w c T st b h
 |l s=>exact LE.most_l w c T s b h
theorem has_n(key:ByteArray)(hs:key.size<=maxLen):Calls Tryz.prog (gHas st.lrn) #[.pointer (some ⟨c,0,none⟩),.string key] w (Told (.bool (st.has key)) w):=by
 cases st with
 |p st=>exact has_p w c T st b key h hs
 |l s=>exact LE.has_l w c T s b h key hs
theorem len_n:Calls Tryz.prog (gLen st.lrn) #[.pointer (some ⟨c,0,none⟩)] w (Told (.int .i64 (st.keys.length:Int)) w):=by
 cases st with
 |p st=>exact len_p w c T st b h
 |l s=>exact LE.len_l w c T s b h
theorem keys_n:Calls Tryz.prog (gKeys st.lrn) #[.pointer (some ⟨c,0,none⟩)] w (RowPost st.keys w):=by
 cases st with
 |p st=>exact keys_p w c T st b h
 |l s=>exact LE.keys_l w c T s b h
theorem ghosts_n:Calls Tryz.prog (gGhosts st.lrn) #[.pointer (some ⟨c,0,none⟩)] w (RowPost st.ghosts w):=by
 cases st with
 |p st=>exact ghosts_p w c T st b h
 |l s=>exact LE.ghosts_l w c T s b h
theorem victim_n:Calls Tryz.prog (gVictim st.lrn) #[.pointer (some ⟨c,0,none⟩)] w (Told (.tuple #[.string st.vic,.bool st.any]) w):=by
 cases st with
 |p st=>exact victim_p w c T st b h
 |l s=>exact LE.victim_l w c T s b h
theorem drop_n:Calls Tryz.prog (gDrop st.lrn) #[.pointer (some ⟨c,0,none⟩)] w (NPost (.tuple #[.string st.vic,.bool st.any]) w c T st.dr b):=by
 cases st with
 |p st=>exact drop_p w c T st b h
 |l s=>exact LE.drop_l w c T s b h
theorem remove_n(key:ByteArray)(hs:key.size<=maxLen):Calls Tryz.prog (gRemove st.lrn) #[.pointer (some ⟨c,0,none⟩),.string key] w (NPost (.bool (st.has key)) w c T (st.rm key) b):=by
 cases st with
 |p st=>exact remove_p w c T st b key h hs
 |l s=>exact LE.remove_l w c T s b h key hs
theorem adopt_n(key:ByteArray)(hs:key.size<=maxLen)(hb:b<=968):Calls Tryz.prog (gAdopt st.lrn) #[.pointer (some ⟨c,0,none⟩),.string key] w (NPost (.bool (st.adB key)) w c T (st.ad key) (b+1)):=by
 cases st with
 |p st=>exact adopt_p w c T st b key h hs (by omega)
 |l s=>exact LE.adopt_l w c T s b h key hs (by omega)
theorem request_n(key:ByteArray)(hs:key.size<=maxLen)(hb:b<=968):Calls Tryz.prog (gRequest st.lrn) #[.pointer (some ⟨c,0,none⟩),.string key] w (NPost (st.step key) w c T (st.req key) (b+4)):=by
 cases st with
 |p st=>
  refine(request_p w c T st b key h hs (by omega)).mono ?_;rintro e w' ⟨he,T',h1,h2⟩;exact⟨he,T',Pc.mono h1 (by omega),h2⟩
 |l s=>exact LE.request_l w c T s b h key hs hb
def RsN(w:World)(c:Nat)(T:Nat->Prop)(st:ISt)(b n:Nat)(v f:Value)(w':World):Prop:=
 f= .nilIface/\∃T',Inner w' c T' b (st.rs n)/\Went w w' T T'/\Own w' w.heap.size v (st.gone n)/\∀g,v.ownBlock=some g->¬T' g
theorem resize_n(n:Nat)(hn:n<=16777216)(hb:b<=968)(hk:st.keys.length<=1999):Calls Tryz.prog (gResize st.lrn) #[.pointer (some ⟨c,0,none⟩),.int .i64 (n:Int)] w (λe w'=>∃v f,e= .returned (.tuple #[v,f])/\RsN w c T st b n v f w'):=by
 cases st with
 |p st=>
  refine(resize_p w c T st b n h (by omega) hn).mono ?_;rintro e w' ⟨v,U',rfl,h1,h2,h3,h4⟩;exact⟨v,_,rfl,rfl,U',h2,h3,h1,h4⟩
 |l s=>
  refine(LE.resize_l w c T s b n h hn hb hk).mono ?_;rintro e w' ⟨v,T',rfl,h1,h2,h3,h4⟩;exact⟨v,_,rfl,rfl,T',h1,h2,h3,h4⟩
end
def icells(b:Bool)(c n h:Nat):Array Value:=#[cV b c,.int .i64 (n:Int),.int .i64 (h:Int)]
def IBox(w:World)(x:Nat)(b:Bool)(c n h:Nat):Prop:=w.heap[x]?=some (.cells (icells b c n h) 67 (0,0))
section
variable{w w':World}{x c n h m:Nat}{b:Bool}
theorem IBox.lt(k:IBox w x b c n h):x < w.heap.size:=heap_lt k
theorem IBox.below(k:IBox w x b c n h)(hb:Below w.heap.size w w'):IBox w' x b c n h:=(hb.block x k.lt).trans k
theorem IBox.c0(k:IBox w x b c n h):w.cell? ⟨x,0,none⟩=some (cV b c):=cell_of_row w x 0 _ _ _ k
theorem IBox.c1(k:IBox w x b c n h):w.cell? ⟨x,1,none⟩=some (.int .i64 (n:Int)):=cell_of_row w x 1 _ _ _ k
theorem IBox.c2(k:IBox w x b c n h):w.cell? ⟨x,2,none⟩=some (.int .i64 (h:Int)):=cell_of_row w x 2 _ _ _ k
theorem IBox.f1(k:IBox w x b c n h):w.frozen? ⟨x,1,none⟩=false:=frozen_of_row w x 1 _ _ k
theorem IBox.f2(k:IBox w x b c n h):w.frozen? ⟨x,2,none⟩=false:=frozen_of_row w x 2 _ _ k
theorem IBox.s1(k:IBox w x b c n h):IBox (w.setCell ⟨x,1,none⟩ (.int .i64 (m:Int))) x b c m h:=by
 unfold IBox;rw[heap_setCell_same _ _ _ _ _ _ k];rfl
theorem IBox.s2(k:IBox w x b c n h):IBox (w.setCell ⟨x,2,none⟩ (.int .i64 (m:Int))) x b c n m:=by
 unfold IBox;rw[heap_setCell_same _ _ _ _ _ _ k];rfl
end
theorem count_b(w:World)(x c n h:Nat)(b:Bool)(k:IBox w x b c n h):Calls Tryz.prog 15 #[.pointer (some ⟨x,0,none⟩)] w (Told (.tuple #[.int .i64 (n:Int),.int .i64 (h:Int)]) w):=by
 have c1:=k.c1;have c2:=k.c2;clear k;go_enter Tryz.func15,Tryz.ntmps15;go_wp2_with fail
 go_quiet(fail)
 go_wp2_with fail
 go_ret2
 exact⟨rfl,SR.below_drewN _ _⟩
theorem isP(v:Value)(xT:TypeId)(w:World):(Instr.typeAssert (.iface 77 v) xT 71 true).run Tryz.prog w= .ok (.tuple #[.pointer none,.bool false]) w:=by kernel_rfl
theorem isL(v:Value)(xT:TypeId)(w:World):(Instr.typeAssert (.iface 71 v) xT 71 true).run Tryz.prog w= .ok (.tuple #[v,.bool true]) w:=by kernel_rfl
theorem weight_p(w:World)(x c n h:Nat)(k:IBox w x false c n h):Calls Tryz.prog 27 #[.pointer (some ⟨x,0,none⟩)] w (Told (.tuple #[.int .u64 0,.bool false]) w):=by
 have c0:=k.c0;unfold cV tI at c0;have q:=isP;clear k;go_enter Tryz.func27,Tryz.ntmps27;go_wp2_with fail
 go_ret2
 exact⟨rfl,Below.refl _ _⟩
theorem weight_l(w:World)(x c n h wt:Nat)(k:IBox w x true c n h)(U:Calls Tryz.prog 32 #[.pointer (some ⟨c,0,none⟩)] w (Told (.int .u64 (wt:Int)) w)):Calls Tryz.prog 27 #[.pointer (some ⟨x,0,none⟩)] w (Told (.tuple #[.int .u64 (wt:Int),.bool true]) w):=by
 have c0:=k.c0;unfold cV tI at c0;have q:=isL;have U:=Lib.hid U;clear k;go_enter Tryz.func27,Tryz.ntmps27;go_wp2_with fail
 refine U.out.mono ?_;rintro e w1 ⟨rfl,hB⟩;have HB:=Lib.hid hB;clear hB;go_wp2_with fail
 go_ret2
 exact⟨rfl,HB.out⟩
end Go.Proofs.YtbbogjhapeogeaaGreatDoor.IN
set_option maxRecDepth 20000
namespace Go.Proofs.YtbbogjhapeogeaaGreatDoor.IN
open Go.RowKit Sg
def In(w:World)(x:Nat)(U:Nat->Prop)(st:ISt)(n h b:Nat):Prop:=
 ∃c T,U=(λk=>k=x\/T k)/\Inner w c T b st/\¬T x/\IBox w x st.lrn c n h
def IPost(v:Value)(w:World)(x:Nat)(U:Nat->Prop)(st:ISt)(n h b:Nat)(e:Ending)(w':World):Prop:=e= .returned v/\∃U',In w' x U' st n h b/\Went w w' U U'
section
variable{w w':World}{x c n h b b':Nat}{T U U':Nat->Prop}{st st':ISt}{v:Value}{e:Ending}
theorem In.lt(q:In w x U st n h b){k:Nat}(hk:U k):k < w.heap.size:=by
 obtain⟨c,T,rfl,hc,hn,hb⟩:=q;rcases hk with rfl|hk
 . exact hb.lt
 . exact hc.lt hk
theorem In.beside(q:In w x U st n h b){X:Nat->Prop}(ht:Turn X w w')(hx:∀k,U k->¬X k):In w' x U st n h b:=by
 obtain⟨c,T,rfl,hc,hn,hb⟩:=q;exact⟨c,T,rfl,hc.beside ht λk hk=>hx k (Or.inr hk),hn,(ht.block x hb.lt (hx x (Or.inl rfl))).trans hb⟩
theorem In.below(q:In w x U st n h b)(hb:Below w.heap.size w w'):In w' x U st n h b:=q.beside (X:=λ_=>False) (Turn.of_below hb) λ_ _ e=>e
theorem In.mono(q:In w x U st n h b)(hb:b<=b'):In w x U st n h b':=by
 obtain⟨c,T,rfl,hc,hn,hx⟩:=q;exact⟨c,T,rfl,hc.mono hb,hn,hx⟩
theorem In.ok(q:In w x U st n h b):st.Ok:=by obtain⟨c,T,rfl,hc,_⟩:=q;exact hc.ok
theorem In.small(q:In w x U st n h b):∀x∈st.keys,x.size<=maxLen:=by obtain⟨c,T,rfl,hc,_⟩:=q;exact hc.small
theorem NPost.inst(q:NPost v w c T st' b' e w')(k:IBox w x st.lrn c n h)(hn:¬T x)(hl:st'.lrn=st.lrn):IPost v w x (λk=>k=x\/T k) st' n h b' e w':=by
 obtain⟨he,T',hc,hW⟩:=q;have hx:=k.lt;refine⟨he,λk=>k=x\/T' k,⟨c,T',rfl,hc,λht=>?_,?_⟩,λk hk=>?_,?_⟩
 . rcases hW.new x ht with h|h
   . exact hn h
   . omega
 . rw[hl];exact(hW.turn.block x hx hn).trans k
 . rcases hk with rfl|hk
   . exact Or.inl (Or.inl rfl)
   . exact(hW.new k hk).imp Or.inr id
 . have t:=hW.turn;exact⟨t.os,t.tape,t.output,t.size,λk hk hu=>t.block k hk λht=>hu (Or.inr ht)⟩
end
set_option maxHeartbeats 2000000 in
theorem atRequest(b:Bool)(w:World)(x c n h:Nat)(key:ByteArray)(hit o:Bool)(s:ByteArray)(Q:World->Prop)(hn:n<=1000000)(hh:h<=1000000)(k:IBox w x b c n h)
 (QB:∀w1,Q w1->IBox w1 x b c n h/\w.heap.size < w1.heap.size/\LR.Box w1 w.heap.size false ⟨#[]⟩ false)
 (U:Calls Tryz.prog (gRequest b) #[.pointer (some ⟨c,0,none⟩),.string key] (w.alloc zStep) (λe w'=>e= .returned (.agg #[.bool hit,.string s,.bool o])/\Q w')):
 Calls Tryz.prog 14 #[.pointer (some ⟨x,0,none⟩),.string key] w (λe w'=>e= .returned (.agg #[.bool hit,.string s,.bool o])/\
  ∃w1,Q w1/\Turn (λk=>k=x\/k=w.heap.size) w1 w'/\IBox w' x b c (n+1) (if hit=true then h+1 else h)):=by
 have me:=meRequest b ⟨c,0,none⟩;have cf:=cfRequest b;have XL:=Lib.hid k.lt;have k1:IBox (w.alloc zStep) x b c n h:=k.below ((Below.refl _ _).alloc (Nat.le_refl _) _);have h0:=k1.c0;have U:=Lib.hid U;have QB:=Lib.hid QB;unfold cV at h0;clear k k1;generalize gRequest b=fn at*;generalize htn:tI b=tn at*;go_enter Tryz.func14,Tryz.ntmps14;go_wp2_with fail
 refine U.out.mono ?_;rintro e w1 ⟨rfl,hQ⟩;obtain⟨k1,hl,bx⟩:=QB.out w1 hQ;have K1:=Lib.hid (And.intro hQ (And.intro k1 (And.intro hl bx)));clear hQ k1 hl bx h0 U QB;go_upto_region 2 with fail
 have M2:=Lib.hid (show ∃z,z=w1.heap.size/\IBox (w1.alloc (.cells #[.bool hit,.string s,.bool o] 34)) x b c n h/\LR.Box (w1.alloc (.cells #[.bool hit,.string s,.bool o] 34)) z hit s o/\LR.Box (w1.alloc (.cells #[.bool hit,.string s,.bool o] 34)) w.heap.size false ⟨#[]⟩ false/\z≠x/\z≠w.heap.size/\x≠w.heap.size/\Turn (λk=>k=x\/k=w.heap.size) w1 (w1.alloc (.cells #[.bool hit,.string s,.bool o] 34)) from by
  obtain⟨_,k1,hl,bx⟩:=K1.out;have hb:=(Below.refl w1.heap.size w1).alloc (Nat.le_refl _) (.cells #[.bool hit,.string s,.bool o] 34);have h1:=k1.lt;have h2:=XL.out;exact⟨_,rfl,k1.below hb,heap_alloc_new _ _,(hb.block _ hl).trans bx,by omega,by omega,by omega,(Turn.refl _ w1).alloc _⟩)
 obtain⟨z,hz,m1,m2,m3,m4,m5,m6,m7⟩:=M2.out;rw[← hz];have M3:=Lib.hid (And.intro m1 (And.intro m2 (And.intro m3 m7)));have c1:=m1.c1;have f1:=m1.f1;clear m1 m2 m3 m7 M2 hz;generalize w1.alloc (.cells #[.bool hit,.string s,.bool o] 34)=w2 at M3 c1 f1|-;obtain⟨wx,hwx⟩:∃y,y=w.heap.size:=⟨_,rfl⟩;rw[← hwx] at M3 m5 m6|-;have HWX:=Lib.hid hwx;clear hwx;have wr1:IntKind.i64.wrap ((n:Int)+1)=((n+1:Nat):Int):=by rw[IntWalk.i64_in _ (by omega)];rfl
 have wr2:IntKind.i64.wrap ((h:Int)+1)=((h+1:Nat):Int):=by rw[IntWalk.i64_in _ (by omega)];rfl
 generalize hn1:n+1=n1 at wr1|-;generalize hh1:h+1=h1 at wr2|-;go_upto_region 3 with fail
 have M4:=Lib.hid (show IBox (w2.setCell ⟨x,1,none⟩ (.int .i64 (n1:Int))) x b c n1 h/\LR.Box (w2.setCell ⟨x,1,none⟩ (.int .i64 (n1:Int))) z hit s o/\LR.Box (w2.setCell ⟨x,1,none⟩ (.int .i64 (n1:Int))) wx false ⟨#[]⟩ false/\Turn (λk=>k=x\/k=wx) w1 (w2.setCell ⟨x,1,none⟩ (.int .i64 (n1:Int))) from
  ⟨M3.out.1.s1,(Below.heap_setCell _ ⟨x,1,none⟩ _ _ m4).trans M3.out.2.1,(Below.heap_setCell _ ⟨x,1,none⟩ _ _ (Ne.symm m6)).trans M3.out.2.2.1,M3.out.2.2.2.setCell (p:=⟨x,1,none⟩) (Or.inl (Or.inl rfl)) _⟩)
 clear c1 f1 M3;generalize w2.setCell ⟨x,1,none⟩ (.int .i64 (n1:Int))=w3 at M4|-;have c2:=M4.out.1.c2;have f2:=M4.out.1.f2;have z0:=M4.out.2.1.cells.1;cases hit with
 |false=>
  obtain⟨_,z1,z2,_,_⟩:=M4.out.2.1.cells;obtain⟨r0,r1,r2,g1,g2⟩:=M4.out.2.2.1.cells;have g0:=frozen_of_row w3 _ 0 _ _ M4.out.2.2.1;go_wp2_with fail
  have B:=Lib.hid (M4.out.2.2.1.put false o s);refine bodyPost_ret (LR.results_c rfl _ _ _ ⟨wx,0,none⟩ _ rfl (LR.load_step B.out)) rfl ?_;refine⟨rfl,w1,K1.out.1,HWX.out▸M4.out.2.2.2.trans (put_turn9 w3 wx false o s) (λ_ _ e=>Or.inr e),?_⟩;exact((put_turn9 w3 wx false o s).block x M4.out.1.lt m6).trans M4.out.1
 |true=>
  go_upto_region 5 with fail
  have M5:=Lib.hid (show IBox (w3.setCell ⟨x,2,none⟩ (.int .i64 (h1:Int))) x b c n1 h1/\LR.Box (w3.setCell ⟨x,2,none⟩ (.int .i64 (h1:Int))) z true s o/\LR.Box (w3.setCell ⟨x,2,none⟩ (.int .i64 (h1:Int))) wx false ⟨#[]⟩ false/\Turn (λk=>k=x\/k=wx) w1 (w3.setCell ⟨x,2,none⟩ (.int .i64 (h1:Int))) from
   ⟨M4.out.1.s2,(Below.heap_setCell _ ⟨x,2,none⟩ _ _ m4).trans M4.out.2.1,(Below.heap_setCell _ ⟨x,2,none⟩ _ _ (Ne.symm m6)).trans M4.out.2.2.1,M4.out.2.2.2.setCell (p:=⟨x,2,none⟩) (Or.inl (Or.inl rfl)) _⟩)
  clear c2 f2 z0 M4;generalize w3.setCell ⟨x,2,none⟩ (.int .i64 (h1:Int))=w4 at M5|-;obtain⟨z0,z1,z2,_,_⟩:=M5.out.2.1.cells;obtain⟨r0,r1,r2,g1,g2⟩:=M5.out.2.2.1.cells;have g0:=frozen_of_row w4 _ 0 _ _ M5.out.2.2.1;go_wp2_with fail
  have B:=Lib.hid (M5.out.2.2.1.put true o s);refine bodyPost_ret (LR.results_c rfl _ _ _ ⟨wx,0,none⟩ _ rfl (LR.load_step B.out)) rfl ?_;refine⟨rfl,w1,K1.out.1,HWX.out▸M5.out.2.2.2.trans (put_turn9 w4 wx true o s) (λ_ _ e=>Or.inr e),?_⟩;exact((put_turn9 w4 wx true o s).block x M5.out.1.lt m6).trans M5.out.1
end Go.Proofs.YtbbogjhapeogeaaGreatDoor.IN
set_option maxRecDepth 20000
namespace Go.Proofs.YtbbogjhapeogeaaGreatDoor.IN
open Go.RowKit Sg
namespace ISt
theorem lrn_req(x:ISt)(k:ByteArray):(x.req k).lrn=x.lrn:=by cases x <;> rfl
theorem lrn_rm(x:ISt)(k:ByteArray):(x.rm k).lrn=x.lrn:=by cases x <;> rfl
theorem lrn_ad(x:ISt)(k:ByteArray):(x.ad k).lrn=x.lrn:=by cases x <;> rfl
theorem lrn_dr(x:ISt):x.dr.lrn=x.lrn:=by cases x <;> rfl
theorem lrn_rs(x:ISt)(n:Nat):(x.rs n).lrn=x.lrn:=by cases x <;> rfl
end ISt
section
variable(w:World)(x:Nat)(U:Nat->Prop)(st:ISt)(n h b:Nat)(q:In w x U st n h b)
include q
theorem kind_i:Calls Tryz.prog 28 #[.pointer (some ⟨x,0,none⟩)] w (Told (.int .i64 (st.kind:Int)) w):=by
 obtain⟨c,T,rfl,hc,hn,hb⟩:=q;refine(atKind st.lrn w x c (λv w'=>v= .int .i64 (st.kind:Int)/\Below w.heap.size w w') hb.c0 ((kind_n w c T st b hc).mono ?_)).mono ?_
 . rintro e w' ⟨rfl,h⟩;exact⟨_,rfl,rfl,h⟩
 . rintro e w' ⟨v,rfl,rfl,h⟩;exact⟨rfl,h⟩
theorem most_i:Calls Tryz.prog 25 #[.pointer (some ⟨x,0,none⟩)] w (Told (.int .i64 (st.mo:Int)) w):=by
 obtain⟨c,T,rfl,hc,hn,hb⟩:=q;refine(atMost st.lrn w x c (λv w'=>v= .int .i64 (st.mo:Int)/\Below w.heap.size w w') hb.c0 ((most_n w c T st b hc).mono ?_)).mono ?_
 . rintro e w' ⟨rfl,h⟩;exact⟨_,rfl,rfl,h⟩
 . rintro e w' ⟨v,rfl,rfl,h⟩;exact⟨rfl,h⟩
theorem has_i(key:ByteArray)(hs:key.size<=maxLen):Calls Tryz.prog 17 #[.pointer (some ⟨x,0,none⟩),.string key] w (Told (.bool (st.has key)) w):=by
 obtain⟨c,T,rfl,hc,hn,hb⟩:=q;refine(atHas st.lrn w x c key (λv w'=>v= .bool (st.has key)/\Below w.heap.size w w') hb.c0 ((has_n w c T st b hc key hs).mono ?_)).mono ?_
 . rintro e w' ⟨rfl,h⟩;exact⟨_,rfl,rfl,h⟩
 . rintro e w' ⟨v,rfl,rfl,h⟩;exact⟨rfl,h⟩
theorem len_i:Calls Tryz.prog 18 #[.pointer (some ⟨x,0,none⟩)] w (Told (.int .i64 (st.keys.length:Int)) w):=by
 obtain⟨c,T,rfl,hc,hn,hb⟩:=q;refine(atLen st.lrn w x c (λv w'=>v= .int .i64 (st.keys.length:Int)/\Below w.heap.size w w') hb.c0 ((len_n w c T st b hc).mono ?_)).mono ?_
 . rintro e w' ⟨rfl,h⟩;exact⟨_,rfl,rfl,h⟩
 . rintro e w' ⟨v,rfl,rfl,h⟩;exact⟨rfl,h⟩
theorem keys_i:Calls Tryz.prog 13 #[.pointer (some ⟨x,0,none⟩)] w (RowPost st.keys w):=by
 obtain⟨c,T,rfl,hc,hn,hb⟩:=q;exact atKeys st.lrn w x c (λv w'=>Own w' w.heap.size v st.keys/\Below w.heap.size w w') hb.c0 (keys_n w c T st b hc)
theorem ghosts_i:Calls Tryz.prog 19 #[.pointer (some ⟨x,0,none⟩)] w (RowPost st.ghosts w):=by
 obtain⟨c,T,rfl,hc,hn,hb⟩:=q;exact atGhosts st.lrn w x c (λv w'=>Own w' w.heap.size v st.ghosts/\Below w.heap.size w w') hb.c0 (ghosts_n w c T st b hc)
theorem victim_i:Calls Tryz.prog 21 #[.pointer (some ⟨x,0,none⟩)] w (Told (.tuple #[.string st.vic,.bool st.any]) w):=by
 obtain⟨c,T,rfl,hc,hn,hb⟩:=q;exact atVictim st.lrn w x c st.vic st.any (λw'=>Below w.heap.size w w') hb.c0 (victim_n w c T st b hc)
theorem drop_i:Calls Tryz.prog 22 #[.pointer (some ⟨x,0,none⟩)] w (IPost (.tuple #[.string st.vic,.bool st.any]) w x U st.dr n h b):=by
 obtain⟨c,T,rfl,hc,hn,hb⟩:=q;refine(atDrop st.lrn w x c st.vic st.any (λw'=>∃T',Inner w' c T' b st.dr/\Went w w' T T') hb.c0 (drop_n w c T st b hc)).mono λe w' hp=>?_;exact NPost.inst (st:=st) hp hb hn (ISt.lrn_dr st)
theorem remove_i(key:ByteArray)(hs:key.size<=maxLen):Calls Tryz.prog 26 #[.pointer (some ⟨x,0,none⟩),.string key] w (IPost (.bool (st.has key)) w x U (st.rm key) n h b):=by
 obtain⟨c,T,rfl,hc,hn,hb⟩:=q;refine(atRemove st.lrn w x c key (λv w'=>v= .bool (st.has key)/\∃T',Inner w' c T' b (st.rm key)/\Went w w' T T') hb.c0 ((remove_n w c T st b hc key hs).mono ?_)).mono ?_
 . rintro e w' ⟨rfl,h⟩;exact⟨_,rfl,rfl,h⟩
 . rintro e w' ⟨v,rfl,rfl,h⟩;exact NPost.inst (st:=st) ⟨rfl,h⟩ hb hn (ISt.lrn_rm st key)
theorem adopt_i(key:ByteArray)(hs:key.size<=maxLen)(hB:b<=968):Calls Tryz.prog 23 #[.pointer (some ⟨x,0,none⟩),.string key] w (IPost (.bool (st.adB key)) w x U (st.ad key) n h (b+1)):=by
 obtain⟨c,T,rfl,hc,hn,hb⟩:=q;refine(atAdopt st.lrn w x c key (λv w'=>v= .bool (st.adB key)/\∃T',Inner w' c T' (b+1) (st.ad key)/\Went w w' T T') hb.c0 ((adopt_n w c T st b hc key hs hB).mono ?_)).mono ?_
 . rintro e w' ⟨rfl,h⟩;exact⟨_,rfl,rfl,h⟩
 . rintro e w' ⟨v,rfl,rfl,h⟩;exact NPost.inst (st:=st) ⟨rfl,h⟩ hb hn (ISt.lrn_ad st key)
theorem count_i:Calls Tryz.prog 15 #[.pointer (some ⟨x,0,none⟩)] w (Told (.tuple #[.int .i64 (n:Int),.int .i64 (h:Int)]) w):=by
 obtain⟨c,T,rfl,hc,hn,hb⟩:=q;exact count_b w x c n h _ hb
theorem weight_i:Calls Tryz.prog 27 #[.pointer (some ⟨x,0,none⟩)] w (Told (.tuple #[.int .u64 (st.wt:Int),.bool st.lrn]) w):=by
 obtain⟨c,T,rfl,hc,hn,hb⟩:=q;cases st with
 |p st=>exact weight_p w x c n h hb
 |l s=>exact weight_l w x c n h s.w hb (LE.weight_l w c T s b hc)
theorem request_i(key:ByteArray)(hs:key.size<=maxLen)(hB:b<=968)(hn0:n<=1000000)(hh:h<=1000000):Calls Tryz.prog 14 #[.pointer (some ⟨x,0,none⟩),.string key] w (IPost (st.step key) w x U (st.req key) (n+1) (if st.hitB key=true then h+1 else h) (b+4)):=by
 have hlt:∀k,U k->k < w.heap.size:=λ_ hk=>q.lt hk;obtain⟨c,T,rfl,hc,hn,hb⟩:=q;have hb0:=(Below.refl w.heap.size w).alloc (Nat.le_refl _) zStep;have hc1:Inner (w.alloc zStep) c T b st:=hc.beside (X:=λ_=>False) (Turn.of_below hb0) λ_ _ e=>e;have hb1:=hb.below hb0;have hsz:(w.alloc zStep).heap.size=w.heap.size+1:=by simp
 have hnT:¬T w.heap.size:=λe=>by have:=hlt _ (Or.inr e);omega
 have hbx:LR.Box (w.alloc zStep) w.heap.size false ⟨#[]⟩ false:=heap_alloc_new _ _;refine(atRequest st.lrn w x c n h key (st.hitB key) (st.outB key) (st.vicV key) (λw'=>∃T',Inner w' c T' (b+4) (st.req key)/\Went (w.alloc zStep) w' T T') hn0 hh hb ?_ ((request_n _ c T st b hc1 key hs hB).mono ?_)).mono ?_
 . rintro w1 ⟨T',h1,h2⟩;have hs1:=h2.turn.size;exact⟨(h2.turn.block x hb1.lt hn).trans hb1,by omega,(h2.turn.block _ (by omega) hnT).trans hbx⟩
 . rintro e w' ⟨he,h⟩;exact⟨he,h⟩
 . rintro e w' ⟨he,w1,⟨T',h1,h2⟩,ht,hx⟩;have hxl:=hb.lt;have hT':∀k,T' k->T k\/w.heap.size+1<=k:=λk hk=>(h2.new k hk).imp id λe=>by omega
   have hx':¬T' x:=λe=>by
    rcases hT' x e with e|e
    . exact hn e
    . omega
   refine⟨he,λk=>k=x\/T' k,⟨c,T',rfl,h1.beside ht ?_,hx',?_⟩,λk hk=>?_,?_⟩
   . rintro k hk (rfl|rfl)
     . exact hx' hk
     . rcases hT' _ hk with e|e
       . exact hnT e
       . omega
   . rw[ISt.lrn_req];exact hx
   . rcases hk with rfl|hk
     . exact Or.inl (Or.inl rfl)
     . exact(hT' k hk).imp Or.inr λe=>by omega
   . refine((Turn.of_below (S:=λk=>k=x\/T k) hb0).trans h2.turn (λ_ _ hk=>Or.inr hk)).trans ht (λk hk e=>?_);rcases e with rfl|rfl
     . exact Or.inl rfl
     . omega
def RsI(w:World)(x:Nat)(U:Nat->Prop)(st:ISt)(n h b m:Nat)(e:Ending)(w':World):Prop:=
 ∃v U',e= .returned (.tuple #[v,.nilIface])/\In w' x U' (st.rs m) n h b/\Went w w' U U'/\Own w' w.heap.size v (st.gone m)/\∀g,v.ownBlock=some g->¬U' g
theorem resize_i(m:Nat)(hm:m<=16777216)(hB:b<=968)(hk:st.keys.length<=1999):Calls Tryz.prog 24 #[.pointer (some ⟨x,0,none⟩),.int .i64 (m:Int)] w (RsI w x U st n h b m):=by
 obtain⟨c,T,rfl,hc,hn,hb⟩:=q;refine(atResize st.lrn w x c (m:Int) (λv f w'=>RsN w c T st b m v f w') hb.c0 (resize_n w c T st b hc m hm hB hk)).mono ?_;rintro e w' ⟨v,f,rfl,rfl,T',h1,h2,h3,h4⟩;obtain⟨_,U',hi,hw⟩:=NPost.inst (st:=st) (e:= .returned v) (v:=v) ⟨rfl,T',h1,h2⟩ hb hn (ISt.lrn_rs st m);have hx:=hb.lt;refine⟨v,λk=>k=x\/T' k,rfl,⟨c,T',rfl,h1,λe=>?_,?_⟩,⟨λk hk=>?_,hw.turn⟩,h3,λg hg hk=>?_⟩
 . rcases h2.new x e with e|e
   . exact hn e
   . omega
 . rw[ISt.lrn_rs];exact(h2.turn.block x hx hn).trans hb
 . rcases hk with rfl|hk
   . exact Or.inl (Or.inl rfl)
   . exact(h2.new k hk).imp Or.inr id
 . rcases hk with rfl|hk
   . have:=(h3.lt hg).2;omega
   . exact h4 g hg hk
end
structure IL(w0 w:World)(x:Nat)(U:Nat->Prop)(st:ISt)(n h b:Nat):Prop where
 ca:In w x U st n h b
 bel:Below w0.heap.size w0 w
 low:∀k,U k->w0.heap.size<=k
section
variable{w0 w w':World}{x n h n' h' b b':Nat}{U U':Nat->Prop}{st st':ISt}{xs:List ByteArray}{r v:Value}{e:Ending}
theorem IL.below(l:IL w0 w x U st n h b)(hb:Below w.heap.size w w'):IL w0 w' x U st n h b:=⟨l.ca.below hb,l.bel.trans (hb.mono l.bel.size),l.low⟩
theorem IL.made{B:Nat}(hb0:Below w0.heap.size w0 w)(hc:In w' x U st n h b)(hT:∀k,U k->B<=k)(hB:w0.heap.size<=B)(hb:Below w.heap.size w w'):IL w0 w' x U st n h b:=
 ⟨hc,hb0.trans (hb.mono hb0.size),λk hk=>Nat.le_trans hB (hT k hk)⟩
theorem IL.went(l:IL w0 w x U st n h b)(hc:In w' x U' st' n' h' b')(hW:Went w w' U U'):IL w0 w' x U' st' n' h' b':=by
 have hsz:=l.bel.size;exact⟨hc,l.bel.trans (hW.turn.below l.low hsz),λk hk=>by rcases hW.new k hk with h|h;exact l.low k h;omega⟩
theorem IL.op(l:IL w0 w x U st n h b)(hp:IPost r w x U st' n' h' b' e w'):e= .returned r/\∃U',IL w0 w' x U' st' n' h' b'/\Went w w' U U':=by
 obtain⟨he,U',h1,h2⟩:=hp;exact⟨he,U',l.went h1 h2,h2⟩
theorem IL.lt(l:IL w0 w x U st n h b):∀k,U k->k < w.heap.size:=λ_ hk=>l.ca.lt hk
theorem IL.mine(o:Own w' w.heap.size v xs)(hc:In w x U st n h b):PMine w' U v xs:=by
 obtain⟨g,hg,hr⟩:=o.row;exact⟨g,hr,λhk=>by have:=hc.lt hk;omega⟩
end
end Go.Proofs.YtbbogjhapeogeaaGreatDoor.IN
set_option maxRecDepth 20000
namespace Go.Proofs.YtbbogjhapeogeaaGreatDoor.IN
open Go.RowKit Sg
def CNew(k m:Nat)(vs:List Nat)(B:Nat)(w:World)(e:Ending)(w':World):Prop:=
 ∃c T,e= .returned (.tuple #[cV (decide (4 < k)) c,.nilIface])/\Inner w' c T 0 (ISt.start k m vs)/\(∀j,T j->B<=j)/\Below w.heap.size w w'
def CNo(s:ByteArray)(n:Int)(w:World)(e:Ending)(w':World):Prop:=∃c v,e= .returned (.tuple #[c,v])/\Flt w' s n v/\Below w.heap.size w w'
def sPol:ByteArray:=⟨#[112,111,108,105,99,121]⟩
def sLrn:ByteArray:=⟨#[108,101,97,114,110]⟩
def sIns:ByteArray:=⟨#[105,110,115,116]⟩
def LNo(n:Int)(w:World)(e:Ending)(w':World):Prop:=∃v,e= .returned (.tuple #[.pointer none,v])/\Flt w' sLrn n v/\Below w.heap.size w w'
theorem room_no{y:Int}(hy:y < 0\/16777216 < y)(w1:World):Calls Tryz.prog 40 #[.int .i64 y] w1 (λe w'=>e= .returned (.bool false)/\w1=w'):=by
 have:=LE.isRoom_l w1 y
 rw[show(decide (0<=y)&&decide (y<=16777216))=false by
  rcases hy with h|h
  . rw[decide_eq_false (by omega)];rfl
  . rw[decide_eq_false (p:=y<=16777216) (by omega),Bool.and_false]] at this
 exact this
theorem lsize_five(w:World)(y:Int)(hy:y < 0\/16777216 < y)(t:Value)(ln:Int):Calls Tryz.prog 35 #[.int .i64 5,.int .i64 y,t,.int .i64 ln] w (LNo 1 w):=by
 have X:=Lib.hid (LE.experts_five w);have I:=Lib.hid (room_no hy);clear hy;go_enter Tryz.func35,Tryz.ntmps35;go_wp2_with fail
 refine X.out.mono ?_;rintro e w1 ⟨rfl,hB1⟩;have B1:=Lib.hid hB1;clear hB1 X;go_upto_region 4 with fail
 have B2:=Lib.hid (B1.out.alloc B1.out.size (.cells #[.int .i64 0,.int .i64 1] 96));clear B1;generalize w1.alloc (.cells #[.int .i64 0,.int .i64 1] 96)=w2 at B2|-;go_wp2_with fail
 refine(I.out _).mono ?_;rintro e w3 ⟨rfl,rfl⟩;go_wp2_with fail
 go_ret2
 exact⟨_,rfl,⟨_,rfl,by simp,heap_alloc_new _ _⟩,B2.out.alloc B2.out.size _⟩
theorem lsize_six(w:World)(y:Int)(hy:y < 0\/16777216 < y)(t:Value)(ln:Int):Calls Tryz.prog 35 #[.int .i64 6,.int .i64 y,t,.int .i64 ln] w (LNo 1 w):=by
 have X:=Lib.hid (LE.experts_six w);have I:=Lib.hid (room_no hy);clear hy;go_enter Tryz.func35,Tryz.ntmps35;go_wp2_with fail
 refine X.out.mono ?_;rintro e w1 ⟨rfl,hB1⟩;have B1:=Lib.hid hB1;clear hB1 X;go_upto_region 4 with fail
 have B2:=Lib.hid (B1.out.alloc B1.out.size (.cells #[.int .i64 3,.int .i64 2] 96));clear B1;generalize w1.alloc (.cells #[.int .i64 3,.int .i64 2] 96)=w2 at B2|-;go_wp2_with fail
 refine(I.out _).mono ?_;rintro e w3 ⟨rfl,rfl⟩;go_wp2_with fail
 go_ret2
 exact⟨_,rfl,⟨_,rfl,by simp,heap_alloc_new _ _⟩,B2.out.alloc B2.out.size _⟩
theorem cacheOf_p(w:World)(k m B:Nat)(vs:List Nat)(t:Value)(ln:Int)(hk:k < 5)(hm:m<=16777216)(hB:B<=w.heap.size):Calls Tryz.prog 30 #[.int .i64 (k:Int),.int .i64 (m:Int),t,.int .i64 ln] w (CNew k m vs B w):=by
 have U:=Lib.hid (new_p w k hk m hm);have HK:=Lib.hid (And.intro hk hB);have e5:((k:Int)==5)=false:=by rw[beq_eq_false_iff_ne];omega
 have e6:((k:Int)==6)=false:=by rw[beq_eq_false_iff_ne];omega
 clear hk hm hB;go_enter Tryz.func30,Tryz.ntmps30;go_wp2_with fail
 refine U.out.mono ?_;rintro e w1 ⟨c,T,rfl,h1,h2,h3⟩;have R:=Lib.hid (And.intro h1 (And.intro h2 h3));clear h1 h2 h3 e5 e6;go_wp2_with fail
 go_ret2
 obtain⟨h1,h2,h3⟩:=R.out;obtain⟨hk,hB⟩:=HK.out;refine⟨c,T,?_,?_,λj hj=>Nat.le_trans hB (h2 j hj),h3⟩
 . rw[decide_eq_false (by omega)];rfl
 . unfold ISt.start;rw[if_pos hk];exact h1
theorem cacheOf_l(w:World)(k m B E:Nat)(L:List (List Nat))(hk:k=5\/k=6)(hm:m<=16777216)(hT:DR.Tape w B E L):Calls Tryz.prog 30 #[.int .i64 (k:Int),.int .i64 (m:Int),.pointer (some ⟨B+1,0,none⟩),.int .i64 0] w (CNew k m (DR.lget L 0) B w):=by
 have hBl:B < w.heap.size:=by have:=hT.lt;omega
 rcases hk with rfl|rfl
 . have U:=Lib.hid (LE.new_five w m B E L 0 hm hT);clear hm hT;go_enter Tryz.func30,Tryz.ntmps30;go_wp2_with fail
   refine U.out.mono ?_;rintro e w1 ⟨i,S,rfl,h1,h2,h3⟩;have R:=Lib.hid (And.intro h1 (And.intro h2 h3));clear h1 h2 h3;go_wp2_with fail
   go_ret2
   obtain⟨h1,h2,h3⟩:=R.out;refine⟨i.l,_,rfl,⟨i,S,B,E,L,rfl,rfl,h1⟩,λj hj=>?_,h3⟩;rcases hj with hj|hj
   . have:=h2 j hj;omega
   . exact hj.1
 . have U:=Lib.hid (LE.new_six w m B E L 0 hm hT);clear hm hT;go_enter Tryz.func30,Tryz.ntmps30;go_wp2_with fail
   refine U.out.mono ?_;rintro e w1 ⟨i,S,rfl,h1,h2,h3⟩;have R:=Lib.hid (And.intro h1 (And.intro h2 h3));clear h1 h2 h3;go_wp2_with fail
   go_ret2
   obtain⟨h1,h2,h3⟩:=R.out;refine⟨i.l,_,rfl,⟨i,S,B,E,L,rfl,rfl,h1⟩,λj hj=>?_,h3⟩;rcases hj with hj|hj
   . have:=h2 j hj;omega
   . exact hj.1
theorem cacheOf_kind(w:World)(z y:Int)(t:Value)(ln:Int)(hz:z < 0\/6 < z):Calls Tryz.prog 30 #[.int .i64 z,.int .i64 y,t,.int .i64 ln] w (CNo sPol 7 w):=by
 have U:=Lib.hid (new_kind w z (by omega) y);have e5:(z==5)=false:=by rw[beq_eq_false_iff_ne];omega
 have e6:(z==6)=false:=by rw[beq_eq_false_iff_ne];omega
 clear hz;go_enter Tryz.func30,Tryz.ntmps30;go_wp2_with fail
 refine U.out.mono ?_;rintro e w1 ⟨v,rfl,h1,h2⟩;have R:=Lib.hid (And.intro h1 h2);clear h1 h2;go_wp2_with fail
 go_ret2
 exact⟨_,v,rfl,R.out.1,R.out.2⟩
theorem cacheOf_sizeL(w:World)(k:Nat)(hk:k=5\/k=6)(y:Int)(hy:y < 0\/16777216 < y)(t:Value)(ln:Int):Calls Tryz.prog 30 #[.int .i64 (k:Int),.int .i64 y,t,.int .i64 ln] w (CNo sLrn 1 w):=by
 rcases hk with rfl|rfl
 . have U:=Lib.hid (lsize_five w y hy t ln);clear hy;go_enter Tryz.func30,Tryz.ntmps30;go_wp2_with fail
   refine U.out.mono ?_;rintro e w1 ⟨v,rfl,h1,h2⟩;have R:=Lib.hid (And.intro h1 h2);clear h1 h2;go_wp2_with fail
   go_ret2
   exact⟨_,v,rfl,R.out.1,R.out.2⟩
 . have U:=Lib.hid (lsize_six w y hy t ln);clear hy;go_enter Tryz.func30,Tryz.ntmps30;go_wp2_with fail
   refine U.out.mono ?_;rintro e w1 ⟨v,rfl,h1,h2⟩;have R:=Lib.hid (And.intro h1 h2);clear h1 h2;go_wp2_with fail
   go_ret2
   exact⟨_,v,rfl,R.out.1,R.out.2⟩
def INew(k m:Nat)(vs:List Nat)(B:Nat)(w:World)(e:Ending)(w':World):Prop:=
 ∃x U,e= .returned (.tuple #[.pointer (some ⟨x,0,none⟩),.nilIface])/\In w' x U (ISt.start k m vs) 0 0 0/\(∀j,U j->B<=j)/\Below w.heap.size w w'
theorem new_of(w:World)(k m B:Nat)(vs:List Nat)(t:Value)(ln:Int)(hk:k < 7)(hB:B<=w.heap.size)(U:Calls Tryz.prog 30 #[.int .i64 (k:Int),.int .i64 (m:Int),t,.int .i64 ln] w (CNew k m vs B w)):Calls Tryz.prog 11 #[.int .i64 (k:Int),.int .i64 (m:Int),t,.int .i64 ln] w (INew k m vs B w):=by
 have U:=Lib.hid U;have HB:=Lib.hid (And.intro hk hB);clear hB hk;go_enter Tryz.func11,Tryz.ntmps11;go_wp2_with fail
 refine U.out.mono ?_;rintro e w1 ⟨c,T,rfl,h1,h2,h3⟩;have R:=Lib.hid (And.intro h1 (And.intro h2 h3));clear h1 h2 h3;unfold cV;generalize ht:tI (decide (4 < k))=tn;go_wp2_with fail
 go_ret2
 obtain⟨h1,h2,h3⟩:=R.out;obtain⟨hk,hB⟩:=HB.out;have hb:=(Below.refl w1.heap.size w1).alloc (Nat.le_refl _) (.cells #[.iface tn (.pointer (some ⟨c,0,none⟩)),.int .i64 0,.int .i64 0] 67);have hl:(ISt.start k m vs).lrn=decide (4 < k):=by rw[ISt.kind_lrn,(ISt.start_kind hk m vs).1]
 refine⟨w1.heap.size,λj=>j=w1.heap.size\/T j,rfl,⟨c,T,rfl,h1.beside (X:=λ_=>False) (Turn.of_below hb) (λ_ _ e=>e),λhj=>?_,?_⟩,λj hj=>?_,h3.trans (hb.mono h3.size)⟩
 . have:=h1.lt hj;omega
 . unfold IBox icells cV;rw[hl,ht];exact heap_alloc_new _ _
 . rcases hj with rfl|hj
   . have:=h3.size;omega
   . exact h2 j hj
theorem new_i(w:World)(k m B E:Nat)(L:List (List Nat))(hk:k < 7)(hm:m<=16777216)(hT:DR.Tape w B E L):Calls Tryz.prog 11 #[.int .i64 (k:Int),.int .i64 (m:Int),.pointer (some ⟨B+1,0,none⟩),.int .i64 0] w (INew k m (DR.lget L 0) B w):=by
 have hBl:B < w.heap.size:=by have:=hT.lt;omega
 by_cases h:k < 5
 . exact new_of w k m B _ _ 0 hk (by omega) (cacheOf_p w k m B _ _ 0 h hm (by omega))
 . exact new_of w k m B _ _ 0 hk (by omega) (cacheOf_l w k m B E L (by omega) hm hT)
def IFlt(w:World)(key s:ByteArray)(n:Int)(v:Value):Prop:=
 ∃g u,v= .iface 63 (.pointer (some ⟨g,0,none⟩))/\g < w.heap.size/\w.heap[g]?=some (.cells #[.string sIns,.string key,u] 65 (0,0))/\Flt w s n u
theorem IFlt.below{w w':World}{key s:ByteArray}{n:Int}{v:Value}(h:IFlt w key s n v)(hb:Below w.heap.size w w'):IFlt w' key s n v:=by
 obtain⟨g,u,rfl,hg,hx,hf⟩:=h;exact⟨g,u,rfl,Nat.lt_of_lt_of_le hg hb.size,(hb.block g hg).trans hx,hf.below hb⟩
def INo(key s:ByteArray)(n:Int)(w:World)(e:Ending)(w':World):Prop:=∃v,e= .returned (.tuple #[.pointer none,v])/\IFlt w' key s n v/\Below w.heap.size w w'
def NmP(key:ByteArray)(w:World)(e:Ending)(w':World):Prop:=∃v,e= .returned (.tuple #[.string key,v])/\Below w.heap.size w w'
theorem new_no(w:World)(z y:Int)(t:Value)(ln:Int)(key s:ByteArray)(n:Int)(U:Calls Tryz.prog 30 #[.int .i64 z,.int .i64 y,t,.int .i64 ln] w (CNo s n w))(NM:∀w1,Below w.heap.size w w1->Calls Tryz.prog 31 #[.int .i64 z] w1 (NmP key w1)):Calls Tryz.prog 11 #[.int .i64 z,.int .i64 y,t,.int .i64 ln] w (INo key s n w):=by
 have U:=Lib.hid U;have NM:=Lib.hid NM;go_enter Tryz.func11,Tryz.ntmps11;go_wp2_with fail
 refine U.out.mono ?_;rintro e w1 ⟨c,v,rfl,⟨g,rfl,hg,hx⟩,h2⟩;have R:=Lib.hid (And.intro (show Flt w1 s n (.iface 63 (.pointer (some ⟨g,0,none⟩))) from⟨g,rfl,hg,hx⟩) h2);clear h2 hg hx;go_wp2_with fail
 refine(NM.out w1 R.out.2).mono ?_;rintro e w2 ⟨v2,rfl,hB⟩;have HB:=Lib.hid hB;clear hB;go_wp2_with fail
 go_ret2
 have hb:=(Below.refl w2.heap.size w2).alloc (Nat.le_refl _) (.cells #[.string sIns,.string key,.iface 63 (.pointer (some ⟨g,0,none⟩))] 65);have h2:=R.out.2.trans (HB.out.mono R.out.2.size);refine⟨_,rfl,⟨w2.heap.size,_,rfl,by simp,heap_alloc_new _ _,(R.out.1.below HB.out).below hb⟩,h2.trans (hb.mono h2.size)⟩
theorem named_i(w:World)(k:Nat)(hk:k < 7)(hn:Named w):Calls Tryz.prog 31 #[.int .i64 (k:Int)] w (NmP (nameOf k) w):=by
 refine(name_any w k hk hn).mono ?_;rintro e w' ⟨rfl,rfl⟩;exact⟨_,rfl,Below.refl _ _⟩
theorem nameless_i(w:World)(z:Int)(hz:z < 0\/7<=z):Calls Tryz.prog 31 #[.int .i64 z] w (NmP ⟨#[]⟩ w):=by
 refine(name_no w z hz).mono ?_;rintro e w' ⟨v,rfl,_,hB⟩;exact⟨_,rfl,hB⟩
theorem new_kindI(w:World)(z y:Int)(t:Value)(ln:Int)(hz:z < 0\/6 < z):Calls Tryz.prog 11 #[.int .i64 z,.int .i64 y,t,.int .i64 ln] w (INo ⟨#[]⟩ sPol 7 w):=
 new_no w z y t ln _ _ _ (cacheOf_kind w z y t ln hz) λw1 _=>nameless_i w1 z (by omega)
theorem new_sizeI(w:World)(k:Nat)(hk:k=5\/k=6)(y:Int)(hy:y < 0\/16777216 < y)(t:Value)(ln:Int)(hn:Named w):Calls Tryz.prog 11 #[.int .i64 (k:Int),.int .i64 y,t,.int .i64 ln] w (INo (nameOf k) sLrn 1 w):=
 new_no w k y t ln _ _ _ (cacheOf_sizeL w k hk y hy t ln) λw1 hb=>named_i w1 k (by omega) (hn.below hb (Nat.le_refl _))
end Go.Proofs.YtbbogjhapeogeaaGreatDoor.IN
