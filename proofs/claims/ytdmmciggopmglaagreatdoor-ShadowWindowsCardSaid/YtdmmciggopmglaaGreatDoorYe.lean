/- SwA SwB, in one text. -/
import Derived.Test.YtdmmciggopmglaaGreatDoorYb
set_option maxRecDepth 20000
namespace Go.Proofs.YtdmmciggopmglaaGreatDoor.SW
open Go.RowKit Sg IN
def tb(B E:Nat):Nat->Prop:=λk=>B<=k/\k < E
def un(U:Nat->Prop)(B E:Nat):Nat->Prop:=λk=>U k\/tb B E k
def Inr(w:World)(c:Nat)(T:Nat->Prop)(B E:Nat)(L:List (List Nat))(lane:Int)(b:Nat):ISt->Prop
 | .p st=>Pc w c T st b
 | .l s=>∃i S,i.l=c/\T=LE.blk i S/\LE.LT w i S B E L lane s b
def IrP(v:Value)(w:World)(c:Nat)(T:Nat->Prop)(B E:Nat)(L:List (List Nat))(lane:Int)(st:ISt)(b:Nat)(e:Ending)(w':World):Prop:=
 e= .returned v/\∃T' L',Inr w' c T' B E L' lane b st/\DR.Tape w' B E L'/\(∀j,j≠lane->DR.lget L' j=DR.lget L j)/\Went w w' (un T B E) (un T' B E)/\∀k,T' k->¬tb B E k
section
variable{w w':World}{c b b' B E:Nat}{T:Nat->Prop}{L L':List (List Nat)}{lane:Int}{st:ISt}{v:Value}{e:Ending}
theorem Inr.lt(h:Inr w c T B E L lane b st){k:Nat}(hk:T k):k < w.heap.size:=by
 cases st with
 |p st=>exact Pc.lt h hk
 |l s=>obtain⟨i,S,rfl,rfl,h⟩:=h;exact h.raw.lt hk
theorem Inr.beside(h:Inr w c T B E L lane b st){X:Nat->Prop}(ht:Turn X w w')(hx:∀k,T k->¬X k)(hT:DR.Tape w' B E L')(hL:DR.lget L' lane=DR.lget L lane):Inr w' c T B E L' lane b st:=by
 cases st with
 |p st=>exact Pc.beside h ht hx
 |l s=>
  obtain⟨i,S,rfl,rfl,h⟩:=h;exact⟨i,S,rfl,rfl,⟨h.raw.beside ht hx,h.ok,h.lim,hT,h.sep,hL.trans h.vs⟩⟩
theorem Inr.mono(h:Inr w c T B E L lane b st)(hb:b<=b'):Inr w c T B E L lane b' st:=by
 cases st with
 |p st=>exact Pc.mono h hb
 |l s=>obtain⟨i,S,rfl,rfl,h⟩:=h;exact⟨i,S,rfl,rfl,h.mono hb⟩
theorem Inr.ok(h:Inr w c T B E L lane b st):st.Ok:=by
 cases st with
 |p st=>exact Pc.ok h
 |l s=>obtain⟨i,S,rfl,rfl,h⟩:=h;exact h.ok
theorem IrP.mono(h:IrP v w c T B E L lane st b e w')(hb:b<=b'):IrP v w c T B E L lane st b' e w':=by
 obtain⟨he,T',L',h1,h2⟩:=h;exact⟨he,T',L',h1.mono hb,h2⟩
theorem went_tape{T T':Nat->Prop}(hT:DR.Tape w B E L)(hs:∀k,T k->¬tb B E k)(h2:Went w w' T T'):DR.Tape w' B E L/\Went w w' (un T B E) (un T' B E)/\∀k,T' k->¬tb B E k:=by
 have hlt:=hT.lt;refine⟨hT.same h2.turn.size λk k1 k2=>h2.turn.block k (by omega) λg=>hs k g ⟨k1,k2⟩,⟨λk hk=>?_,h2.turn.wide λk _ g=>Or.inl g⟩,λk hk g=>?_⟩
 . rcases hk with hk|hk
   . exact(h2.new k hk).imp Or.inl id
   . exact Or.inl (Or.inr hk)
 . rcases h2.new k hk with h|h
   . exact hs k h g
   . have:=g.2;omega
theorem IrP.pol{st':KSt}(hT:DR.Tape w B E L)(hs:∀k,T k->¬tb B E k)(h:PPost v w c T st' b' e w'):IrP v w c T B E L lane (.p st') b' e w':=by
 obtain⟨he,T',h1,h2⟩:=h;obtain⟨q1,q2,q3⟩:=went_tape hT hs h2;exact⟨he,T',L,h1,q1,λ_ _=>rfl,q2,q3⟩
theorem IrP.lea{i:LE.Ix}{S:LE.Sx}{s':LE.St}(h:LE.TPost v w i S B E L lane s' b' e w'):IrP v w i.l (LE.blk i S) B E L lane (.l s') b' e w':=by
 obtain⟨he,S',L',h1,h2,h3⟩:=h;exact⟨he,_,L',⟨i,S',rfl,rfl,h1⟩,h1.tp,h2,h3,h1.sep⟩
end
section
variable(w:World)(c:Nat)(T:Nat->Prop)(B E:Nat)(L:List (List Nat))(lane:Int)(st:ISt)(b:Nat)(h:Inr w c T B E L lane b st)
include h
theorem most_r:Calls Tryz.prog (gMost st.lrn) #[.pointer (some ⟨c,0,none⟩)] w (Told (.int .i64 (st.mo:Int)) w):=by
 cases st with
 |p st=>exact most_p w c T st b h
 |l s=>obtain⟨i,S,rfl,rfl,h⟩:=h;exact LE.most_t w i S B E L lane s b h
theorem keys_r:Calls Tryz.prog (gKeys st.lrn) #[.pointer (some ⟨c,0,none⟩)] w (RowPost st.keys w):=by
 cases st with
 |p st=>exact keys_p w c T st b h
 |l s=>obtain⟨i,S,rfl,rfl,h⟩:=h;exact LE.keys_t w i S B E L lane s b h
variable(hT:DR.Tape w B E L)(hS:∀k,T k->¬tb B E k)
include hT hS
theorem request_r(key:ByteArray)(hs:key.size<=maxLen)(hb:b<=96800):Calls Tryz.prog (gRequest st.lrn) #[.pointer (some ⟨c,0,none⟩),.string key] w (IrP (st.step key) w c T B E L lane (st.req key) (b+4)):=by
 cases st with
 |p st=>exact(request_p w c T st b key h hs (by omega)).mono λe w' hp=>(IrP.pol hT hS hp).mono (by omega)
 |l s=>obtain⟨i,S,rfl,rfl,h⟩:=h;exact(LE.request_t w i S B E L lane s b h key hs hb).mono λe w' hp=>IrP.lea hp
theorem remove_r(key:ByteArray)(hs:key.size<=maxLen):Calls Tryz.prog (gRemove st.lrn) #[.pointer (some ⟨c,0,none⟩),.string key] w (IrP (.bool (st.has key)) w c T B E L lane (st.rm key) b):=by
 cases st with
 |p st=>exact(remove_p w c T st b key h hs).mono λe w' hp=>IrP.pol hT hS hp
 |l s=>obtain⟨i,S,rfl,rfl,h⟩:=h;exact(LE.remove_t w i S B E L lane s b h key hs).mono λe w' hp=>IrP.lea hp
def RsR(w:World)(c:Nat)(T:Nat->Prop)(B E:Nat)(L:List (List Nat))(lane:Int)(st:ISt)(b n:Nat)(f:Value)(w':World):Prop:=
 f= .nilIface/\∃T' L',Inr w' c T' B E L' lane b (st.rs n)/\DR.Tape w' B E L'/\(∀j,j≠lane->DR.lget L' j=DR.lget L j)/\Went w w' (un T B E) (un T' B E)/\∀k,T' k->¬tb B E k
theorem resize_r(n:Nat)(hn:n<=16777216)(hb:b<=96800)(hk:st.keys.length<=199999):Calls Tryz.prog (gResize st.lrn) #[.pointer (some ⟨c,0,none⟩),.int .i64 (n:Int)] w (λe w'=>∃v f,e= .returned (.tuple #[v,f])/\RsR w c T B E L lane st b n f w'):=by
 cases st with
 |p st=>
  refine(resize_p w c T st b n h (by omega) hn).mono ?_;rintro e w' ⟨v,U',rfl,h1,h2,h3,h4⟩;obtain⟨q1,q2,q3⟩:=went_tape hT hS h3;exact⟨v,_,rfl,rfl,U',L,h2,q1,λ_ _=>rfl,q2,q3⟩
 |l s=>
  obtain⟨i,S,rfl,rfl,h⟩:=h;refine(LE.resize_t w i S B E L lane s b n h hn hb hk).mono ?_;rintro e w' ⟨v,S',L',rfl,h1,h2,h3,_,_⟩;exact⟨v,_,rfl,rfl,_,L',⟨i,S',rfl,rfl,h1⟩,h1.tp,h2,h3,h1.sep⟩
end
structure InS(w:World)(x:Nat)(U:Nat->Prop)(B E:Nat)(L:List (List Nat))(lane:Int)(st:ISt)(b:Nat):Prop where
 inn:∃c T n h,U=(λk=>k=x\/T k)/\Inr w c T B E L lane b st/\¬T x/\IBox w x st.lrn c n h/\n<=b/\h<=b
 tp:DR.Tape w B E L
 sep:∀k,U k->¬tb B E k
def ISP(v:Value)(w:World)(x:Nat)(U:Nat->Prop)(B E:Nat)(L:List (List Nat))(lane:Int)(st:ISt)(b:Nat)(e:Ending)(w':World):Prop:=
 e= .returned v/\∃U' L',InS w' x U' B E L' lane st b/\(∀j,j≠lane->DR.lget L' j=DR.lget L j)/\Went w w' (un U B E) (un U' B E)
section
variable{w w':World}{x c n h b b' B E:Nat}{T U U':Nat->Prop}{L L':List (List Nat)}{lane:Int}{st st':ISt}{v:Value}{e:Ending}
theorem InS.lt(q:InS w x U B E L lane st b){k:Nat}(hk:U k):k < w.heap.size:=by
 obtain⟨⟨c,T,n,h,rfl,hc,hn,hb,_⟩,_⟩:=q;rcases hk with rfl|hk
 . exact hb.lt
 . exact hc.lt hk
theorem InS.beside(q:InS w x U B E L lane st b){X:Nat->Prop}(ht:Turn X w w')(hx:∀k,U k->¬X k)(hT:DR.Tape w' B E L')(hL:DR.lget L' lane=DR.lget L lane):InS w' x U B E L' lane st b:=by
 obtain⟨⟨c,T,n,h,rfl,hc,hn,hb,hl⟩,_,hs⟩:=q;exact⟨⟨c,T,n,h,rfl,hc.beside ht (λk hk=>hx k (Or.inr hk)) hT hL,hn,(ht.block x hb.lt (hx x (Or.inl rfl))).trans hb,hl⟩,hT,hs⟩
theorem InS.below(q:InS w x U B E L lane st b)(hb:Below w.heap.size w w'):InS w' x U B E L lane st b:=q.beside (X:=λ_=>False) (Turn.of_below hb) (λ_ _ e=>e) (q.tp.below hb) rfl
theorem InS.mono(q:InS w x U B E L lane st b)(hb:b<=b'):InS w x U B E L lane st b':=by
 obtain⟨⟨c,T,n,h,rfl,hc,hn,hx,h1,h2⟩,ht,hs⟩:=q;exact⟨⟨c,T,n,h,rfl,hc.mono hb,hn,hx,by omega,by omega⟩,ht,hs⟩
theorem InS.ok(q:InS w x U B E L lane st b):st.Ok:=by obtain⟨⟨c,T,n,h,rfl,hc,_⟩,_⟩:=q;exact hc.ok
theorem IrP.inst(q:IrP v w c T B E L lane st' b' e w')(k:IBox w x st.lrn c n h)(hn:¬T x)(hx:¬tb B E x)(hl:st'.lrn=st.lrn)(h1:n<=b')(h2:h<=b'):ISP v w x (λk=>k=x\/T k) B E L lane st' b' e w':=by
 obtain⟨he,T',L',hc,hT,hL,hW,hS⟩:=q;have hlt:=k.lt;have hnu:¬un T B E x:=λe=>e.elim hn hx;refine⟨he,λk=>k=x\/T' k,L',⟨⟨c,T',n,h,rfl,hc,λht=>?_,?_,h1,h2⟩,hT,λk hk=>?_⟩,hL,λk hk=>?_,?_⟩
 . rcases hW.new x (Or.inl ht) with g|g
   . exact hnu g
   . omega
 . rw[hl];exact(hW.turn.block x hlt hnu).trans k
 . rcases hk with rfl|hk
   . exact hx
   . exact hS k hk
 . rcases hk with(rfl|hk)|hk
   . exact Or.inl (Or.inl (Or.inl rfl))
   . exact(hW.new k (Or.inl hk)).imp (λg=>g.elim (λg=>Or.inl (Or.inr g)) Or.inr) id
   . exact Or.inl (Or.inr hk)
 . exact hW.turn.wide λk _ g=>g.elim (λg=>Or.inl (Or.inr g)) Or.inr
end
section
variable(w:World)(x:Nat)(U:Nat->Prop)(B E:Nat)(L:List (List Nat))(lane:Int)(st:ISt)(b:Nat)(q:InS w x U B E L lane st b)
include q
theorem most_s:Calls Tryz.prog 36 #[.pointer (some ⟨x,0,none⟩)] w (Told (.int .i64 (st.mo:Int)) w):=by
 obtain⟨⟨c,T,n,h,rfl,hc,hn,hb,_⟩,_⟩:=q;refine(IN.atMost st.lrn w x c (λv w'=>v= .int .i64 (st.mo:Int)/\Below w.heap.size w w') hb.c0 ((most_r w c T B E L lane st b hc).mono ?_)).mono ?_
 . rintro e w' ⟨rfl,h⟩;exact⟨_,rfl,rfl,h⟩
 . rintro e w' ⟨v,rfl,rfl,h⟩;exact⟨rfl,h⟩
theorem keys_s:Calls Tryz.prog 20 #[.pointer (some ⟨x,0,none⟩)] w (RowPost st.keys w):=by
 obtain⟨⟨c,T,n,h,rfl,hc,hn,hb,_⟩,_⟩:=q;exact IN.atKeys st.lrn w x c (λv w'=>Own w' w.heap.size v st.keys/\Below w.heap.size w w') hb.c0 (keys_r w c T B E L lane st b hc)
theorem remove_s(key:ByteArray)(hs:key.size<=maxLen):Calls Tryz.prog 42 #[.pointer (some ⟨x,0,none⟩),.string key] w (ISP (.bool (st.has key)) w x U B E L lane (st.rm key) b):=by
 obtain⟨⟨c,T,n,h,rfl,hc,hn,hb,h1,h2⟩,hT,hS⟩:=q;refine(IN.atRemove st.lrn w x c key (λv w'=>IrP (.bool (st.has key)) w c T B E L lane (st.rm key) b (.returned v) w') hb.c0 ((remove_r w c T B E L lane st b hc hT (λk hk=>hS k (Or.inr hk)) key hs).mono ?_)).mono ?_
 . intro e w' hp;obtain⟨rfl,hq⟩:=hp;exact⟨_,rfl,rfl,hq⟩
 . rintro e w' ⟨v,rfl,hp⟩;exact IrP.inst (st:=st) hp hb hn (hS x (Or.inl rfl)) (ISt.lrn_rm st key) h1 h2
theorem request_s(key:ByteArray)(hs:key.size<=maxLen)(hB:b<=96800):Calls Tryz.prog 17 #[.pointer (some ⟨x,0,none⟩),.string key] w (ISP (st.step key) w x U B E L lane (st.req key) (b+4)):=by
 have hlt:∀k,U k->k < w.heap.size:=λ_ hk=>q.lt hk;obtain⟨⟨c,T,n,h,rfl,hc,hn,hb,h1,h2⟩,hT,hS⟩:=q;have hb0:=(Below.refl w.heap.size w).alloc (Nat.le_refl _) zStep;have hT1:=hT.below hb0;have hc1:Inr (w.alloc zStep) c T B E L lane b st:=hc.beside (X:=λ_=>False) (Turn.of_below hb0) (λ_ _ e=>e) hT1 rfl;have hb1:=hb.below hb0;have hsz:(w.alloc zStep).heap.size=w.heap.size+1:=by simp
 have hE:=hT.lt
 have hnT:¬un T B E w.heap.size:=λe=>by
  rcases e with e|e
  . have:=hlt _ (Or.inr e);omega
  . have:=e.2;omega
 have hxu:¬un T B E x:=λe=>e.elim hn (hS x (Or.inl rfl));have hbx:LR.Box (w.alloc zStep) w.heap.size false ⟨#[]⟩ false:=heap_alloc_new _ _;refine(IN.atRequest st.lrn w x c n h key (st.hitB key) (st.outB key) (st.vicV key) (λw'=>IrP (st.step key) (w.alloc zStep) c T B E L lane (st.req key) (b+4) (.returned (st.step key)) w') (by omega) (by omega) hb ?_ ((request_r _ c T B E L lane st b hc1 hT1 (λk hk=>hS k (Or.inr hk)) key hs hB).mono ?_)).mono ?_
 . rintro w1 ⟨_,T',L',_,_,_,hW,_⟩;have hs1:=hW.turn.size;exact⟨(hW.turn.block x hb1.lt hxu).trans hb1,by omega,(hW.turn.block _ (by omega) hnT).trans hbx⟩
 . intro e w' hp;obtain⟨rfl,hq⟩:=hp;exact⟨rfl,rfl,hq⟩
 . rintro e w' ⟨he,w1,⟨_,T',L',g1,g2,g3,g4,g5⟩,ht,hx⟩;have hxl:=hb.lt;have hw1:=g4.turn.size;have hT':∀k,T' k->un T B E k\/w.heap.size+1<=k:=λk hk=>(g4.new k (Or.inl hk)).imp id λe=>by omega
   have hx':¬T' x:=λe=>by
    rcases hT' x e with e|e
    . exact hxu e
    . omega
   have off:∀k,un T' B E k->¬(k=x\/k=w.heap.size):=by
    rintro k (hk|hk) (rfl|rfl)
    . exact hx' hk
    . rcases hT' _ hk with e|e
      . exact hnT e
      . omega
    . exact hS _ (Or.inl rfl) hk
    . have:=hk.2;omega
   have hT2:DR.Tape w' B E L':=g2.same ht.size λk k1 k2=>ht.block k (by omega) (off k (Or.inr ⟨k1,k2⟩));refine⟨he,λk=>k=x\/T' k,L',⟨⟨c,T',n+1,(if st.hitB key=true then h+1 else h),rfl,g1.beside ht (λk hk=>off k (Or.inl hk)) hT2 rfl,hx',?_,by omega,?_⟩,hT2,λk hk=>?_⟩,g3,λk hk=>?_,?_⟩
   . rw[ISt.lrn_req];exact hx
   . split <;> omega
   . rcases hk with rfl|hk
     . exact hS _ (Or.inl rfl)
     . exact g5 k hk
   . rcases hk with(rfl|hk)|hk
     . exact Or.inl (Or.inl (Or.inl rfl))
     . exact(hT' k hk).imp (λg=>g.elim (λg=>Or.inl (Or.inr g)) Or.inr) λe=>by omega
     . exact Or.inl (Or.inr hk)
   . refine((Turn.of_below (S:=un (λk=>k=x\/T k) B E) hb0).trans g4.turn (λ_ _ hk=>hk.elim (λg=>Or.inl (Or.inr g)) Or.inr)).trans ht (λk hk e=>?_);rcases e with rfl|rfl
     . exact Or.inl (Or.inl rfl)
     . omega
def RsS(w:World)(x:Nat)(U:Nat->Prop)(B E:Nat)(L:List (List Nat))(lane:Int)(st:ISt)(b n:Nat)(e:Ending)(w':World):Prop:=
 ∃v,ISP (.tuple #[v,.nilIface]) w x U B E L lane (st.rs n) b e w'
theorem resize_s(m:Nat)(hm:m<=16777216)(hB:b<=96800)(hk:st.keys.length<=199999):Calls Tryz.prog 40 #[.pointer (some ⟨x,0,none⟩),.int .i64 (m:Int)] w (RsS w x U B E L lane st b m):=by
 obtain⟨⟨c,T,n,h,rfl,hc,hn,hb,h1,h2⟩,hT,hS⟩:=q;refine(IN.atResize st.lrn w x c (m:Int) (λv f w'=>RsR w c T B E L lane st b m f w') hb.c0 (resize_r w c T B E L lane st b hc hT (λk hk=>hS k (Or.inr hk)) m hm hB hk)).mono ?_;rintro e w' ⟨v,f,rfl,rfl,hq⟩;exact⟨v,IrP.inst (st:=st) (e:= .returned (.tuple #[v,.nilIface])) ⟨rfl,hq⟩ hb hn (hS x (Or.inl rfl)) (ISt.lrn_rs st m) h1 h2⟩
end
def CNs(k m:Nat)(B E:Nat)(L:List (List Nat))(lane:Int)(w:World)(e:Ending)(w':World):Prop:=
 ∃c T,e= .returned (.tuple #[cV (decide (4 < k)) c,.nilIface])/\Inr w' c T B E L lane 0 (ISt.start k m (DR.lget L lane))/\(∀j,T j->w.heap.size<=j)/\Below w.heap.size w w'
theorem cacheOf_s(w:World)(k m B E:Nat)(L:List (List Nat))(lane:Int)(hk:k=5\/k=6)(hm:m<=16777216)(hT:DR.Tape w B E L):Calls Tryz.prog 33 #[.int .i64 (k:Int),.int .i64 (m:Int),.pointer (some ⟨B+1,0,none⟩),.int .i64 lane] w (CNs k m B E L lane w):=by
 rcases hk with rfl|rfl
 . have U:=Lib.hid (LE.new_five w m B E L lane hm hT);clear hm hT;go_enter Tryz.func33,Tryz.ntmps33;go_wp2_with fail
   refine U.out.mono ?_;rintro e w1 ⟨i,S,rfl,h1,h2,h3⟩;have R:=Lib.hid (And.intro h1 (And.intro h2 h3));clear h1 h2 h3;go_wp2_with fail
   go_ret2
   obtain⟨h1,h2,h3⟩:=R.out;exact⟨i.l,_,rfl,⟨i,S,rfl,rfl,h1⟩,h2,h3⟩
 . have U:=Lib.hid (LE.new_six w m B E L lane hm hT);clear hm hT;go_enter Tryz.func33,Tryz.ntmps33;go_wp2_with fail
   refine U.out.mono ?_;rintro e w1 ⟨i,S,rfl,h1,h2,h3⟩;have R:=Lib.hid (And.intro h1 (And.intro h2 h3));clear h1 h2 h3;go_wp2_with fail
   go_ret2
   obtain⟨h1,h2,h3⟩:=R.out;exact⟨i.l,_,rfl,⟨i,S,rfl,rfl,h1⟩,h2,h3⟩
theorem cacheOf_sp(w:World)(k m B E:Nat)(L:List (List Nat))(lane:Int)(t:Value)(hk:k < 5)(hm:m<=16777216):Calls Tryz.prog 33 #[.int .i64 (k:Int),.int .i64 (m:Int),t,.int .i64 lane] w (CNs k m B E L lane w):=by
 refine(cacheOf_p w k m w.heap.size (DR.lget L lane) t lane hk hm (Nat.le_refl _)).mono ?_;rintro e w' ⟨c,T,rfl,h1,h2,h3⟩;refine⟨c,T,rfl,?_,h2,h3⟩;have e:ISt.start k m (DR.lget L lane)= .p (KSt.start k m):=by unfold ISt.start;rw[if_pos hk]
 rw[e] at h1|-;exact h1
def INs(k m:Nat)(B E:Nat)(L:List (List Nat))(lane:Int)(w:World)(e:Ending)(w':World):Prop:=
 ∃x U,e= .returned (.tuple #[.pointer (some ⟨x,0,none⟩),.nilIface])/\InS w' x U B E L lane (ISt.start k m (DR.lget L lane)) 0/\(∀j,U j->w.heap.size<=j)/\Below w.heap.size w w'
theorem new_s(w:World)(k m B E:Nat)(L:List (List Nat))(lane:Int)(hk:k < 7)(hm:m<=16777216)(hT:DR.Tape w B E L):Calls Tryz.prog 15 #[.int .i64 (k:Int),.int .i64 (m:Int),.pointer (some ⟨B+1,0,none⟩),.int .i64 lane] w (INs k m B E L lane w):=by
 have U:Calls Tryz.prog 33 #[.int .i64 (k:Int),.int .i64 (m:Int),.pointer (some ⟨B+1,0,none⟩),.int .i64 lane] w (CNs k m B E L lane w):=by
  by_cases h:k < 5
  . exact cacheOf_sp w k m B E L lane _ h hm
  . exact cacheOf_s w k m B E L lane (by omega) hm hT
 have U:=Lib.hid U;have HB:=Lib.hid (And.intro hk hT);clear hT hk hm;generalize Value.pointer (some ⟨B+1,0,none⟩)=t at*;go_enter Tryz.func15,Tryz.ntmps15;go_wp2_with fail
 refine U.out.mono ?_;rintro e w1 ⟨c,T,rfl,h1,h2,h3⟩;have R:=Lib.hid (And.intro h1 (And.intro h2 h3));clear h1 h2 h3;unfold cV;generalize ht:tI (decide (4 < k))=tn;go_wp2_with fail
 go_ret2
 obtain⟨h1,h2,h3⟩:=R.out;obtain⟨hk,hT⟩:=HB.out;have hE:=hT.lt;have hb:=(Below.refl w1.heap.size w1).alloc (Nat.le_refl _) (.cells #[.iface tn (.pointer (some ⟨c,0,none⟩)),.int .i64 0,.int .i64 0] 78);have hl:(ISt.start k m (DR.lget L lane)).lrn=decide (4 < k):=by rw[ISt.kind_lrn,(ISt.start_kind hk m _).1]
 have h3s:=h3.size;have hT1:=(hT.below h3).below hb;refine⟨w1.heap.size,λj=>j=w1.heap.size\/T j,rfl,⟨⟨c,T,0,0,rfl,h1.beside (X:=λ_=>False) (Turn.of_below hb) (λ_ _ e=>e) hT1 rfl,λhj=>?_,?_,Nat.le_refl _,Nat.le_refl _⟩,hT1,λj hj=>?_⟩,λj hj=>?_,h3.trans (hb.mono h3.size)⟩
 . have:=h1.lt hj;omega
 . unfold IBox icells cV;rw[hl,ht];exact heap_alloc_new _ _
 . intro g;have:=g.2;rcases hj with rfl|hj
   . omega
   . have:=h2 j hj;omega
 . rcases hj with rfl|hj
   . omega
   . exact h2 j hj
end Go.Proofs.YtdmmciggopmglaaGreatDoor.SW
set_option maxRecDepth 20000
namespace Go.Proofs.YtdmmciggopmglaaGreatDoor.SW
open Go.RowKit Sg IN
def pu{α:Type}(f:Nat->α)(k:Nat)(v:α):Nat->α:=λj=>if j=k then v else f j
theorem pu_at{α:Type}(f:Nat->α)(k:Nat)(v:α):pu f k v k=v:=if_pos rfl
theorem pu_ne{α:Type}(f:Nat->α){k j:Nat}(v:α)(h:j≠k):pu f k v j=f j:=if_neg h
theorem seven{k:Nat}(h:k < 7):k=0\/k=1\/k=2\/k=3\/k=4\/k=5\/k=6:=by omega
def scells(a b c:Nat)(P:Nat->Value)(M S:Nat->Nat):Array Value:=
 #[.int .i64 (a:Int),.int .i64 (b:Int),.int .i64 (c:Int),P 0,P 1,P 2,P 3,P 4,P 5,P 6,
   .int .i64 (M 0:Int),.int .i64 (M 1:Int),.int .i64 (M 2:Int),.int .i64 (M 3:Int),.int .i64 (M 4:Int),.int .i64 (M 5:Int),.int .i64 (M 6:Int),
   .int .i64 (S 0:Int),.int .i64 (S 1:Int),.int .i64 (S 2:Int),.int .i64 (S 3:Int),.int .i64 (S 4:Int),.int .i64 (S 5:Int),.int .i64 (S 6:Int)]
def SBox(w:World)(p a b c:Nat)(P:Nat->Value)(M S:Nat->Nat):Prop:=w.heap[p]?=some (.cells (scells a b c P M S) 65 (0,0))
section
variable{w w':World}{p a b c:Nat}{P P':Nat->Value}{M S M' S':Nat->Nat}
theorem SBox.lt(h:SBox w p a b c P M S):p < w.heap.size:=heap_lt h
theorem SBox.c0(h:SBox w p a b c P M S):w.cell? ⟨p,0,none⟩=some (.int .i64 (a:Int)):=cell_of_row w p 0 _ _ _ h
theorem SBox.c1(h:SBox w p a b c P M S):w.cell? ⟨p,1,none⟩=some (.int .i64 (b:Int)):=cell_of_row w p 1 _ _ _ h
theorem SBox.c2(h:SBox w p a b c P M S):w.cell? ⟨p,2,none⟩=some (.int .i64 (c:Int)):=cell_of_row w p 2 _ _ _ h
theorem SBox.cP(h:SBox w p a b c P M S){k:Nat}(hk:k < 7):w.cell? ⟨p,3+k,none⟩=some (P k):=by
 rcases seven hk with rfl|rfl|rfl|rfl|rfl|rfl|rfl <;> exact cell_of_row w p _ _ _ _ h
theorem SBox.cM(h:SBox w p a b c P M S){k:Nat}(hk:k < 7):w.cell? ⟨p,10+k,none⟩=some (.int .i64 (M k:Int)):=by
 rcases seven hk with rfl|rfl|rfl|rfl|rfl|rfl|rfl <;> exact cell_of_row w p _ _ _ _ h
theorem SBox.cS(h:SBox w p a b c P M S){k:Nat}(hk:k < 7):w.cell? ⟨p,17+k,none⟩=some (.int .i64 (S k:Int)):=by
 rcases seven hk with rfl|rfl|rfl|rfl|rfl|rfl|rfl <;> exact cell_of_row w p _ _ _ _ h
theorem SBox.fr(h:SBox w p a b c P M S)(j:Nat):w.frozen? ⟨p,j,none⟩=false:=frozen_of_row w p j _ _ h
theorem SBox.s2(h:SBox w p a b c P M S)(n:Nat):SBox (w.setCell ⟨p,2,none⟩ (.int .i64 (n:Int))) p a b n P M S:=by
 unfold SBox;rw[heap_setCell_same _ _ _ _ _ _ h];rfl
theorem SBox.sP(h:SBox w p a b c P M S){k:Nat}(hk:k < 7)(v:Value):SBox (w.setCell ⟨p,3+k,none⟩ v) p a b c (pu P k v) M S:=by
 unfold SBox;rw[heap_setCell_same _ _ _ _ _ _ h];rcases seven hk with rfl|rfl|rfl|rfl|rfl|rfl|rfl <;> rfl
theorem SBox.sM(h:SBox w p a b c P M S){k:Nat}(hk:k < 7)(n:Nat):SBox (w.setCell ⟨p,10+k,none⟩ (.int .i64 (n:Int))) p a b c P (pu M k n) S:=by
 unfold SBox;rw[heap_setCell_same _ _ _ _ _ _ h];rcases seven hk with rfl|rfl|rfl|rfl|rfl|rfl|rfl <;> rfl
theorem SBox.sS(h:SBox w p a b c P M S){k:Nat}(hk:k < 7)(n:Nat):SBox (w.setCell ⟨p,17+k,none⟩ (.int .i64 (n:Int))) p a b c P M (pu S k n):=by
 unfold SBox;rw[heap_setCell_same _ _ _ _ _ _ h];rcases seven hk with rfl|rfl|rfl|rfl|rfl|rfl|rfl <;> rfl
theorem scells_congr(hP:∀k,k < 7->P' k=P k)(hM:∀k,k < 7->M' k=M k)(hS:∀k,k < 7->S' k=S k):scells a b c P' M' S'=scells a b c P M S:=by
 unfold scells;rw[hP 0 (by omega),hP 1 (by omega),hP 2 (by omega),hP 3 (by omega),hP 4 (by omega),hP 5 (by omega),hP 6 (by omega),hM 0 (by omega),hM 1 (by omega),hM 2 (by omega),hM 3 (by omega),hM 4 (by omega),hM 5 (by omega),hM 6 (by omega),hS 0 (by omega),hS 1 (by omega),hS 2 (by omega),hS 3 (by omega),hS 4 (by omega),hS 5 (by omega),hS 6 (by omega)]
end
structure Sh where
 shift:Nat
 win:Nat
 left:Nat
 st:Nat->ISt
 mis:Nat->Nat
 sco:Nat->Nat
def pts(X:Nat->Nat):Nat->Value:=λk=> .pointer (some ⟨X k,0,none⟩)
def sblk(p:Nat)(U:Nat->Nat->Prop)(B E:Nat):Nat->Prop:=λx=>x=p\/tb B E x\/∃k,k < 7/\U k x
structure Shd(w:World)(p:Nat)(X:Nat->Nat)(U:Nat->Nat->Prop)(B E:Nat)(L:List (List Nat))(s:Sh)(b:Nat->Nat):Prop where
 box:SBox w p s.shift s.win s.left (pts X) s.mis s.sco
 ins:∀k,k < 7->InS w (X k) (U k) B E L (k:Int) (s.st k) (b k)
 dis:∀j k,j < 7->k < 7->j≠k->∀x,U j x->¬U k x
 out:∀k,k < 7->¬U k p
 pt:¬tb B E p
 tp:DR.Tape w B E L
 mis:∀k,k < 7->s.mis k<=b k
 sco:∀k,k < 7->s.sco k<=2*b k
 sh:s.shift<=16
 lw:s.left<=s.win/\s.win<=1048576
def SPost(v:Value)(w:World)(p:Nat)(X:Nat->Nat)(U:Nat->Nat->Prop)(B E:Nat)(s:Sh)(b:Nat->Nat)(e:Ending)(w':World):Prop:=
 e= .returned v/\∃U' L',Shd w' p X U' B E L' s b/\Went w w' (sblk p U B E) (sblk p U' B E)
section
variable{w w':World}{p B E k b':Nat}{X:Nat->Nat}{U:Nat->Nat->Prop}{L:List (List Nat)}{s s':Sh}{b c:Nat->Nat}{v:Value}{e:Ending}{st':ISt}
theorem Shd.lt(q:Shd w p X U B E L s b){x:Nat}(hx:sblk p U B E x):x < w.heap.size:=by
 rcases hx with rfl|h|⟨k,hk,h⟩
 . exact q.box.lt
 . have:=q.tp.lt;have:=h.2;omega
 . exact(q.ins k hk).lt h
theorem Shd.beside(q:Shd w p X U B E L s b){Y:Nat->Prop}(ht:Turn Y w w')(hx:∀k,sblk p U B E k->¬Y k):Shd w' p X U B E L s b:=by
 have hE:=q.tp.lt;have hT:DR.Tape w' B E L:=q.tp.same ht.size λk k1 k2=>ht.block k (by omega) (hx k (Or.inr (Or.inl ⟨k1,k2⟩)));exact⟨(ht.block p q.box.lt (hx p (Or.inl rfl))).trans q.box,λk hk=>(q.ins k hk).beside ht (λx h=>hx x (Or.inr (Or.inr ⟨k,hk,h⟩))) hT rfl,q.dis,q.out,q.pt,hT,q.mis,q.sco,q.sh,q.lw⟩
theorem Shd.below(q:Shd w p X U B E L s b)(hb:Below w.heap.size w w'):Shd w' p X U B E L s b:=q.beside (Y:=λ_=>False) (Turn.of_below hb) λ_ _ e=>e
theorem Shd.congr(q:Shd w p X U B E L s b)(h1:s'.shift=s.shift)(h2:s'.win=s.win)(h3:s'.left=s.left)(h4:∀k,k < 7->s'.st k=s.st k)(h5:∀k,k < 7->s'.mis k=s.mis k)(h6:∀k,k < 7->s'.sco k=s.sco k)(h7:∀k,k < 7->b k<=c k):Shd w p X U B E L s' c:=by
 refine⟨?_,λk hk=>by rw[h4 k hk];exact(q.ins k hk).mono (h7 k hk),q.dis,q.out,q.pt,q.tp,λk hk=>by rw[h5 k hk];exact Nat.le_trans (q.mis k hk) (h7 k hk),λk hk=>by rw[h6 k hk];have:=q.sco k hk;have:=h7 k hk;omega,by rw[h1];exact q.sh,by rw[h2,h3];exact q.lw⟩;unfold SBox;rw[h1,h2,h3,scells_congr (λ_ _=>rfl) h5 h6];exact q.box
theorem Shd.wrote(q:Shd w p X U B E L s b)(ht:Turn (λk=>k=p) w w')(hb:SBox w' p s'.shift s'.win s'.left (pts X) s'.mis s'.sco)(hst:s'.st=s.st)(h5:∀k,k < 7->s'.mis k<=c k)(h6:∀k,k < 7->s'.sco k<=2*c k)(h7:∀k,k < 7->b k<=c k)(h8:s'.shift<=16)(h9:s'.left<=s'.win/\s'.win<=1048576):
 Shd w' p X U B E L s' c/\Went w w' (sblk p U B E) (sblk p U B E):=by
 have hE:=q.tp.lt;have hT:DR.Tape w' B E L:=q.tp.same ht.size λk k1 k2=>ht.block k (by omega) λg=>q.pt (by rw[← (show k=p from g)];exact⟨k1,k2⟩);refine⟨⟨hb,λk hk=>?_,q.dis,q.out,q.pt,hT,h5,h6,h8,h9⟩,⟨λ_ h=>Or.inl h,ht.wide λk _ h=>Or.inl h⟩⟩;rw[hst];exact((q.ins k hk).beside ht (λx h g=>q.out k hk (by rw[← (show x=p from g)];exact h)) hT rfl).mono (h7 k hk)
theorem Shd.move(q:Shd w p X U B E L s b)(hk:k < 7)(h:ISP v w (X k) (U k) B E L (k:Int) st' b' e w')(hb:b k<=b'):SPost v w p X U B E {s with st:=pu s.st k st'} (pu b k b') e w':=by
 obtain⟨he,V,L',hi,hL,hW⟩:=h;have hE:=q.tp.lt;have hp:=q.box.lt
 have hV:∀x,V x->U k x\/w.heap.size<=x:=λx hx=>by
  rcases hW.new x (Or.inl hx) with(g|g)|g
  . exact Or.inl g
  . exact absurd g (hi.sep x hx)
  . exact Or.inr g
 have hVj:∀j,j < 7->j≠k->∀x,U j x->¬V x:=λj hj hn x hx g=>by
  rcases hV x g with g|g
  . exact q.dis j k hj hk hn x hx g
  . have:=(q.ins j hj).lt hx;omega
 have off:∀j,j < 7->j≠k->∀x,U j x->¬un (U k) B E x:=λj hj hn x hx g=>g.elim (q.dis j k hj hk hn x hx) ((q.ins j hj).sep x hx);have hpu:¬un (U k) B E p:=λg=>g.elim (q.out k hk) q.pt;refine⟨he,λj=>if j=k then V else U j,L',⟨?_,λj hj=>?_,λi j hi' hj hn x h1 h2=>?_,λj hj=>?_,q.pt,hi.tp,λj hj=>?_,λj hj=>?_,q.sh,q.lw⟩,⟨λx hx=>?_,hW.turn.wide λx _ g=>?_⟩⟩
 . exact(hW.turn.block p hp hpu).trans q.box
 . by_cases e:j=k
   . subst e;simp only[if_pos,pu_at];exact hi
   . simp only[if_neg e];show InS w' (X j) (U j) B E L' j (pu s.st k st' j) (pu b k b' j);rw[pu_ne _ _ e,pu_ne _ _ e];exact(q.ins j hj).beside hW.turn (off j hj e) hi.tp (hL j (by omega))
 . by_cases e1:i=k
   . subst e1;rw[if_pos rfl] at h1;rw[if_neg (Ne.symm hn)] at h2;exact hVj j hj (Ne.symm hn) x h2 h1
   . rw[if_neg e1] at h1
     by_cases e2:j=k
     . subst e2;rw[if_pos rfl] at h2;exact hVj i hi' hn x h1 h2
     . rw[if_neg e2] at h2;exact q.dis i j hi' hj hn x h1 h2
 . by_cases e:j=k
   . subst e;simp only[if_pos];intro g;rcases hV p g with g|g
     . exact q.out j hj g
     . omega
   . simp only[if_neg e];exact q.out j hj
 . have:=q.mis j hj;show s.mis j<=pu b k b' j;unfold pu;split
   . rename_i e;subst e;omega
   . exact this
 . have:=q.sco j hj;show s.sco j<=2*pu b k b' j;unfold pu;split
   . rename_i e;subst e;omega
   . exact this
 . rcases hx with rfl|hx|⟨j,hj,hx⟩
   . exact Or.inl (Or.inl rfl)
   . exact Or.inl (Or.inr (Or.inl hx))
   . by_cases e:j=k
     . subst e;simp only[if_pos] at hx;exact(hV x hx).imp (λg=>Or.inr (Or.inr ⟨j,hj,g⟩)) id
     . simp only[if_neg e] at hx;exact Or.inl (Or.inr (Or.inr ⟨j,hj,hx⟩))
 . rcases g with g|g
   . exact Or.inr (Or.inr ⟨k,hk,g⟩)
   . exact Or.inr (Or.inl g)
end
end Go.Proofs.YtdmmciggopmglaaGreatDoor.SW
