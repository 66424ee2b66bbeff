/- lru: Ca Cb Cc Cd Ce Live5. -/
import Derived.Test.YtdmmciggopmglaaGreatDoorGBas
import Derived.Deep.LoopGhost
import Derived.Deep.QuietTactic
import Derived.BigQuiet
import Derived.Laws.StructEq
set_option maxRecDepth 20000
namespace Go.Proofs.YtdmmciggopmglaaGreatDoor.LR
open Go.RowKit Sg
structure Raw(w:World)(c l M P:Nat)(mo:Nat)(ks:List ByteArray)(b:Nat):Prop where
 cl:c≠l
 cM:c≠M
 cP:c≠P
 box:w.heap[c]?=some (.cells #[.int .i64 (mo:Int),.pointer (some ⟨l,0,none⟩)] 164 (0,0))
 lst:∃m,m<=b/\Lst w l M P ks.reverse m
 top:mo<=9223372036854775807
section
variable{w w':World}{c l M P P' mo b:Nat}{ks ks':List ByteArray}
theorem Raw.c0(h:Raw w c l M P mo ks b):w.cell? ⟨c,0,none⟩=some (.int .i64 (mo:Int)):=cell_of_row w _ 0 _ _ _ h.box
theorem Raw.c1(h:Raw w c l M P mo ks b):w.cell? ⟨c,1,none⟩=some (.pointer (some ⟨l,0,none⟩)):=cell_of_row w _ 1 _ _ _ h.box
theorem Raw.f0(h:Raw w c l M P mo ks b):w.frozen? ⟨c,0,none⟩=false:=frozen_of_row w _ 0 _ _ h.box
theorem Raw.clt(h:Raw w c l M P mo ks b):c < w.heap.size:=(Array.getElem?_eq_some_iff.1 h.box).1
theorem Raw.llt(h:Raw w c l M P mo ks b):l < w.heap.size/\M < w.heap.size/\P < w.heap.size:=by
 obtain⟨m,_,hL⟩:=h.lst;exact hL.llt
theorem Raw.nodup(h:Raw w c l M P mo ks b):ks.Nodup:=by
 obtain⟨m,_,hL⟩:=h.lst;have:=hL.nodup;exact(List.pairwise_reverse.1 this).imp λh=>Ne.symm h
theorem Raw.small(h:Raw w c l M P mo ks b):∀x∈ks,x.size<=maxLen:=by
 obtain⟨m,_,hL⟩:=h.lst;intro x hx;exact hL.small x (List.mem_reverse.2 hx)
theorem Raw.len(h:Raw w c l M P mo ks b):ks.length<=b/\ks.length<=99999:=by
 obtain⟨m,hm,hL⟩:=h.lst;have:=hL.le;rw[List.length_reverse] at this;omega
theorem Raw.same(h:Raw w c l M P mo ks b)(hs:w.heap.size<=w'.heap.size)(hc:w'.heap[c]?=w.heap[c]?)(hl:w'.heap[l]?=w.heap[l]?)(hM:w'.heap[M]?=w.heap[M]?)(hP:w'.heap[P]?=w.heap[P]?):Raw w' c l M P mo ks b:=by
 obtain⟨m,hm,hL⟩:=h.lst;exact⟨h.cl,h.cM,h.cP,hc.trans h.box,⟨m,hm,hL.same hs hl hM hP⟩,h.top⟩
theorem Raw.below(h:Raw w c l M P mo ks b)(hb:Below w.heap.size w w'):Raw w' c l M P mo ks b:=
 h.same hb.size (hb.block _ h.clt) (hb.block _ h.llt.1) (hb.block _ h.llt.2.1) (hb.block _ h.llt.2.2)
theorem Raw.next(h:Raw w c l M P mo ks b)(hP:P'=P\/w.heap.size<=P')(ht:Turned w w' l M P){m:Nat}{xs:List ByteArray}(hL:Lst w' l M P' xs m){b':Nat}(hm:m<=b')(hx:xs=ks'.reverse):Raw w' c l M P' mo ks' b':=by
 have hc:=h.clt;have h1:=h.cl;have h2:=h.cM;have h3:=h.cP;exact⟨h1,h2,by rcases hP with rfl|hP <;> omega,(ht.block c hc h1 h2 h3).trans h.box,⟨m,hm,hx▸hL⟩,h.top⟩
end
def OpR(v:Value)(w:World)(c l M P mo:Nat)(ks:List ByteArray)(b:Nat)(e:Ending)(w':World):Prop:=∃P',e= .returned v/\(P'=P\/w.heap.size<=P')/\Raw w' c l M P' mo ks b/\Turned w w' l M P
theorem lenC(w:World)(c l M P mo:Nat)(ks:List ByteArray)(b:Nat)(h:Raw w c l M P mo ks b):
 Calls Tryz.prog 197 #[.pointer (some ⟨c,0,none⟩)] w (IntPost (ks.length:Int) w):=by
 have c1:=h.c1;obtain⟨m,hm,hL⟩:=h.lst;have U:=Lib.hid (len_any w l M P _ m hL);rw[List.length_reverse] at U;clear h hL hm;go_enter Tryz.func197,Tryz.ntmps197;go_wp2_with fail
 refine U.out.mono ?_;rintro e w1 ⟨rfl,rfl⟩;go_wp2_with fail
 go_ret;exact⟨rfl,rfl⟩
theorem hasC(w:World)(c l M P mo:Nat)(ks:List ByteArray)(b:Nat)(key:ByteArray)(h:Raw w c l M P mo ks b)(hs:key.size<=maxLen):
 Calls Tryz.prog 195 #[.pointer (some ⟨c,0,none⟩),.string key] w (BoolPost (inn ks key) w):=by
 have c1:=h.c1;obtain⟨m,hm,hL⟩:=h.lst;have U:=Lib.hid (has_any w l M P _ m key hL hs);rw[inn_rev] at U;clear h hL hm;go_enter Tryz.func195,Tryz.ntmps195;go_wp2_with fail
 refine U.out.mono ?_;rintro e w1 ⟨rfl,rfl⟩;go_wp2_with fail
 go_ret;exact⟨rfl,rfl⟩
theorem removeC(w:World)(c l M P mo:Nat)(ks:List ByteArray)(b:Nat)(key:ByteArray)(h:Raw w c l M P mo ks b)(hs:key.size<=maxLen):
 Calls Tryz.prog 198 #[.pointer (some ⟨c,0,none⟩),.string key] w (OpR (.bool (inn ks key)) w c l M P mo (rem ks key) b):=by
 have c1:=h.c1;obtain⟨m,hm,hL⟩:=h.lst;have U:=Lib.hid (remove_any w l M P _ m key hL hs);rw[inn_rev] at U;have HH:=Lib.hid h;have HM:=Lib.hid hm;clear h hL hm;go_enter Tryz.func198,Tryz.ntmps198;go_wp2_with fail
 refine U.out.mono ?_;rintro e w1 ⟨P',rfl,hP,hL,hT⟩;have R:=Lib.hid (HH.out.next hP hT hL HM.out (rem_rev ks key));have HP:=Lib.hid hP;have HT:=Lib.hid hT;clear hP hT hL;go_wp2_with fail
 go_ret;exact⟨P',rfl,HP.out,R.out,HT.out⟩
theorem victim_fact(ks:List ByteArray):lastKey ks.reverse=ks.headD ⟨#[]⟩/\anyKey ks.reverse=!ks.isEmpty:=by
 unfold lastKey anyKey;cases ks <;> simp
theorem victimC(w:World)(c l M P mo:Nat)(ks:List ByteArray)(b:Nat)(h:Raw w c l M P mo ks b):
 Calls Tryz.prog 201 #[.pointer (some ⟨c,0,none⟩)] w (KeyPost (ks.headD ⟨#[]⟩) (!ks.isEmpty) w):=by
 have c1:=h.c1;obtain⟨m,hm,hL⟩:=h.lst;have U:=last_any w l M P _ m hL;rw[(victim_fact ks).1,(victim_fact ks).2] at U;have U:=Lib.hid U;generalize ks.headD ⟨#[]⟩=x at*;generalize(!ks.isEmpty)=t at*;clear h hL hm;go_enter Tryz.func201,Tryz.ntmps201;go_wp2_with fail
 refine U.out.mono ?_;rintro e w1 ⟨rfl,rfl⟩;go_wp2_with fail
 go_ret2
 exact⟨rfl,rfl⟩
theorem drop_fact(ks:List ByteArray):ks.reverse.dropLast=ks.tail.reverse:=by
 cases ks <;> simp
theorem dropC(w:World)(c l M P mo:Nat)(ks:List ByteArray)(b:Nat)(h:Raw w c l M P mo ks b):
 Calls Tryz.prog 193 #[.pointer (some ⟨c,0,none⟩)] w (OpR (.tuple #[.string (ks.headD ⟨#[]⟩),.bool (!ks.isEmpty)]) w c l M P mo ks.tail b):=by
 have c1:=h.c1;obtain⟨m,hm,hL⟩:=h.lst;have U:=pop_any w l M P _ m hL;rw[(victim_fact ks).1,(victim_fact ks).2,drop_fact] at U;have U:=Lib.hid U;have HH:=Lib.hid h;have HM:=Lib.hid hm;generalize ks.headD ⟨#[]⟩=x at*;generalize(!ks.isEmpty)=t at*;clear h hL hm;go_enter Tryz.func193,Tryz.ntmps193;go_wp2_with fail
 refine U.out.mono ?_;rintro e w1 ⟨P',rfl,hP,hL,hT⟩;have R:=Lib.hid (HH.out.next hP hT hL HM.out rfl);have HP:=Lib.hid hP;have HT:=Lib.hid hT;clear hP hT hL;go_wp2_with fail
 go_ret2
 exact⟨P',rfl,HP.out,R.out,HT.out⟩
theorem keysC(w:World)(c l M P mo:Nat)(ks:List ByteArray)(b:Nat)(h:Raw w c l M P mo ks b):
 Calls Tryz.prog 196 #[.pointer (some ⟨c,0,none⟩)] w (RowPost ks w):=by
 have c1:=h.c1;obtain⟨m,hm,hL⟩:=h.lst;have U:=Lib.hid (keys_any w l M P _ m hL);clear h hL hm;go_enter Tryz.func196,Tryz.ntmps196;go_wp2_with fail
 refine U.out.mono ?_;rintro e w1 ⟨v,rfl,hO,hB⟩;have U2:=Lib.hid (reverse_any w1 w.heap.size v _ hO hB.size);have HB:=Lib.hid hB;clear hO hB;go_wp2_with fail
 refine U2.out.mono ?_;rintro e w2 ⟨rfl,hO,hB⟩;rw[List.reverse_reverse] at hO;have HO:=Lib.hid hO;have HB2:=Lib.hid hB;clear hO hB;go_wp2_with fail
 go_ret;exact⟨v,rfl,HO.out,HB.out.trans HB2.out⟩
end Go.Proofs.YtdmmciggopmglaaGreatDoor.LR
namespace Go.Proofs.YtdmmciggopmglaaGreatDoor.LR
open Go.RowKit Sg
def blk(c l M P:Nat):Nat->Prop:=λk=>k=c\/k=l\/k=M\/k=P
def Ca(w:World)(c:Nat)(S:Nat->Prop)(mo:Nat)(ks:List ByteArray)(b:Nat):Prop:=∃l M P,S=blk c l M P/\Raw w c l M P mo ks b/\ks.length<=mo
def CaPost(v:Value)(w:World)(c:Nat)(S:Nat->Prop)(mo:Nat)(ks:List ByteArray)(b:Nat)(e:Ending)(w':World):Prop:=
 e= .returned v/\∃S',Ca w' c S' mo ks b/\(∀k,S' k->S k\/w.heap.size<=k)/\Turn S w w'
section
variable{w w':World}{c l M P P' mo b:Nat}{ks:List ByteArray}{S:Nat->Prop}{v:Value}{e:Ending}
theorem turned_turn(h:Turned w w' l M P):Turn (blk c l M P) w w':=
 ⟨h.os,h.tape,h.output,h.size,λk hk hn=>h.block k hk (λe=>hn (Or.inr (Or.inl e))) (λe=>hn (Or.inr (Or.inr (Or.inl e)))) (λe=>hn (Or.inr (Or.inr (Or.inr e))))⟩
theorem blk_next(hP:P'=P\/w.heap.size<=P'):∀k,blk c l M P' k->blk c l M P k\/w.heap.size<=k:=by
 intro k hk;rcases hk with h|h|h|h
 . exact Or.inl (Or.inl h)
 . exact Or.inl (Or.inr (Or.inl h))
 . exact Or.inl (Or.inr (Or.inr (Or.inl h)))
 . subst h;rcases hP with h|h
   . exact Or.inl (Or.inr (Or.inr (Or.inr h)))
   . exact Or.inr h
theorem OpR.post(h:OpR v w c l M P mo ks b e w')(hl:ks.length<=mo):CaPost v w c (blk c l M P) mo ks b e w':=by
 obtain⟨P',he,hP,hR,hT⟩:=h;exact⟨he,_,⟨l,M,P',rfl,hR,hl⟩,blk_next hP,turned_turn hT⟩
theorem Ca.lt(h:Ca w c S mo ks b){k:Nat}(hk:S k):k < w.heap.size:=by
 obtain⟨l,M,P,rfl,hR,_⟩:=h;have h1:=hR.clt;have h2:=hR.llt;rcases hk with h|h|h|h <;> omega
theorem Ca.below(h:Ca w c S mo ks b)(hb:Below w.heap.size w w'):Ca w' c S mo ks b:=by
 obtain⟨l,M,P,h1,hR,hl⟩:=h;exact⟨l,M,P,h1,hR.below hb,hl⟩
theorem Ca.kept(h:Ca w c S mo ks b){S2:Nat->Prop}(ht:Turn S2 w w')(hd:∀k,S k->¬S2 k):Ca w' c S mo ks b:=by
 have hlt:∀k,S k->k < w.heap.size:=λk hk=>h.lt hk;obtain⟨l,M,P,h1,hR,hl⟩:=h;subst h1;have q:∀k,blk c l M P k->w'.heap[k]?=w.heap[k]?:=λk hk=>ht.block k (hlt k hk) (hd k hk)
 exact⟨l,M,P,rfl,hR.same ht.size (q _ (Or.inl rfl)) (q _ (Or.inr (Or.inl rfl))) (q _ (Or.inr (Or.inr (Or.inl rfl)))) (q _ (Or.inr (Or.inr (Or.inr rfl)))),hl⟩
theorem Ca.nodup(h:Ca w c S mo ks b):ks.Nodup:=by obtain⟨l,M,P,h1,hR,hl⟩:=h;exact hR.nodup
theorem Ca.small(h:Ca w c S mo ks b):∀x∈ks,x.size<=maxLen:=by obtain⟨l,M,P,h1,hR,hl⟩:=h;exact hR.small
theorem Ca.le(h:Ca w c S mo ks b):ks.length<=mo/\ks.length<=b/\ks.length<=99999:=by obtain⟨l,M,P,h1,hR,hl⟩:=h;exact⟨hl,hR.len⟩
theorem Ca.mono(h:Ca w c S mo ks b){b':Nat}(hb:b<=b'):Ca w c S mo ks b':=by
 obtain⟨l,M,P,h1,hR,hl⟩:=h;obtain⟨m,hm,hL⟩:=hR.lst;exact⟨l,M,P,h1,⟨hR.cl,hR.cM,hR.cP,hR.box,⟨m,by omega,hL⟩,hR.top⟩,hl⟩
end
section
variable(w:World)(c:Nat)(S:Nat->Prop)(mo:Nat)(ks:List ByteArray)(b:Nat)(key:ByteArray)(h:Ca w c S mo ks b)
include h
theorem len_ca:Calls Tryz.prog 197 #[.pointer (some ⟨c,0,none⟩)] w (IntPost (ks.length:Int) w):=by
 obtain⟨l,M,P,rfl,hR,hl⟩:=h;exact lenC w c l M P mo ks b hR
theorem has_ca(hs:key.size<=maxLen):Calls Tryz.prog 195 #[.pointer (some ⟨c,0,none⟩),.string key] w (BoolPost (inn ks key) w):=by
 obtain⟨l,M,P,rfl,hR,hl⟩:=h;exact hasC w c l M P mo ks b key hR hs
theorem remove_ca(hs:key.size<=maxLen):Calls Tryz.prog 198 #[.pointer (some ⟨c,0,none⟩),.string key] w (CaPost (.bool (inn ks key)) w c S mo (rem ks key) b):=by
 obtain⟨l,M,P,rfl,hR,hl⟩:=h;exact(removeC w c l M P mo ks b key hR hs).mono λe w' hp=>hp.post (Nat.le_trans (rem_le _ _) hl)
theorem victim_ca:Calls Tryz.prog 201 #[.pointer (some ⟨c,0,none⟩)] w (KeyPost (ks.headD ⟨#[]⟩) (!ks.isEmpty) w):=by
 obtain⟨l,M,P,rfl,hR,hl⟩:=h;exact victimC w c l M P mo ks b hR
theorem keys_ca:Calls Tryz.prog 196 #[.pointer (some ⟨c,0,none⟩)] w (RowPost ks w):=by
 obtain⟨l,M,P,rfl,hR,hl⟩:=h;exact keysC w c l M P mo ks b hR
end
def NewC(mo:Nat)(w:World)(e:Ending)(w':World):Prop:=∃c S,e= .returned (.pointer (some ⟨c,0,none⟩))/\Ca w' c S mo [] 0/\(∀k,S k->w.heap.size<=k)/\Below w.heap.size w w'
theorem made_ca{w w1:World}{l M P mo:Nat}(HL:Lst w1 l M P [] 0)(HB:Below w.heap.size w w1)(hl:w.heap.size<=l)(hM:w.heap.size<=M)(hP:w.heap.size<=P)(hm:mo<=9223372036854775807):
 NewC mo w (.returned (.pointer (some ⟨w1.heap.size,0,none⟩))) (w1.alloc (.cells #[.int .i64 (mo:Int),.pointer (some ⟨l,0,none⟩)] 164)):=by
 have h1:=HL.llt;have hb:=(Below.refl w1.heap.size w1).alloc (Nat.le_refl _) (.cells #[.int .i64 (mo:Int),.pointer (some ⟨l,0,none⟩)] 164);have hs:=HB.size;refine⟨w1.heap.size,blk w1.heap.size l M P,rfl,⟨l,M,P,rfl,⟨by omega,by omega,by omega,heap_alloc_new _ _,⟨0,Nat.le_refl _,HL.below hb⟩,hm⟩,Nat.zero_le _⟩,λk hk=>?_,HB.trans (hb.mono hs)⟩;rcases hk with h|h|h|h <;> omega
theorem new_neg(w:World)(z:Int)(hz: -9223372036854775808<=z/\z<=9223372036854775807)(h0:z < 0):
 Calls Tryz.prog 62 #[.int .i64 z] w (NewC 0 w):=by
 have U:=Lib.hid (new_any w);go_enter Tryz.func62,Tryz.ntmps62;go_wp2_with fail
 refine U.out.mono ?_;rintro e w1 ⟨l,M,P,rfl,hl,hM,hP,hL,hB⟩;have R:=Lib.hid (made_ca (mo:=0) hL hB hl hM hP (by omega));clear hl hM hP hL hB;go_wp2_with fail
 go_ret;exact R.out
theorem new_pos(w:World)(n:Nat)(hz:n<=9223372036854775807):
 Calls Tryz.prog 62 #[.int .i64 (n:Int)] w (NewC n w):=by
 have U:=Lib.hid (new_any w);have h0:¬((n:Int) < 0):=by omega
 go_enter Tryz.func62,Tryz.ntmps62;go_wp2_with fail
 refine U.out.mono ?_;rintro e w1 ⟨l,M,P,rfl,hl,hM,hP,hL,hB⟩;have R:=Lib.hid (made_ca (mo:=n) hL hB hl hM hP (by omega));clear hl hM hP hL hB;go_wp2_with fail
 go_ret;exact R.out
theorem new_ca(w:World)(z:Int)(hz: -9223372036854775808<=z/\z<=9223372036854775807):
 Calls Tryz.prog 62 #[.int .i64 z] w (NewC z.toNat w):=by
 by_cases h0:z < 0
 . rw[show z.toNat=0 by omega];exact new_neg w z hz h0
 . obtain⟨n,rfl⟩:∃n:Nat,z=(n:Int):=⟨z.toNat,by omega⟩;exact new_pos w n (by omega)
def Box(w:World)(sb:Nat)(h:Bool)(s:ByteArray)(o:Bool):Prop:=w.heap[sb]?=some (.cells #[.bool h,.string s,.bool o] 41 (0,0))
theorem Box.set{w:World}{sb:Nat}{h o:Bool}{s:ByteArray}(k:Box w sb h s o)(x:ByteArray):Box ((w.setCell ⟨sb,1,none⟩ (.string x)).setCell ⟨sb,2,none⟩ (.bool true)) sb h x true:=by
 unfold Box at*;have r1:(w.setCell ⟨sb,1,none⟩ (.string x)).heap[sb]?=some (.cells #[.bool h,.string x,.bool o] 41 (0,0)):=by rw[heap_setCell_same _ _ _ _ _ _ k];rfl
 rw[heap_setCell_same _ _ _ _ _ _ r1];rfl
theorem Box.cells{w:World}{sb:Nat}{h o:Bool}{s:ByteArray}(k:Box w sb h s o):w.cell? ⟨sb,0,none⟩=some (.bool h)/\w.cell? ⟨sb,1,none⟩=some (.string s)/\w.cell? ⟨sb,2,none⟩=some (.bool o)/\w.frozen? ⟨sb,1,none⟩=false/\w.frozen? ⟨sb,2,none⟩=false:=
 ⟨cell_of_row w _ 0 _ _ _ k,cell_of_row w _ 1 _ _ _ k,cell_of_row w _ 2 _ _ _ k,frozen_of_row w _ 1 _ _ k,frozen_of_row w _ 2 _ _ k⟩
theorem Box.lt{w:World}{sb:Nat}{h o:Bool}{s:ByteArray}(k:Box w sb h s o):sb < w.heap.size:=(Array.getElem?_eq_some_iff.1 k).1
theorem cloQ(w:World)(sb:Nat)(h o:Bool)(s x:ByteArray)(k:Box w sb h s o):
 Calls Tryz.prog 204 #[.string x,.pointer (some ⟨sb,0,none⟩)] w (λe w'=>e= .returned (.tuple #[])/\Box w' sb h x true/\Turn (λk=>k=sb) w w'):=by
 obtain⟨k0,k1,k2,f1,f2⟩:=k.cells;have R:=Lib.hid (k.set x);clear k;go_enter Tryz.func204,Tryz.ntmps204;go_wp2_with fail
 go_end0;exact⟨rfl,R.out,((Turn.refl (λk=>k=sb) w).setCell (p:=⟨sb,1,none⟩) (Or.inl rfl) _).setCell (p:=⟨sb,2,none⟩) (Or.inl rfl) _⟩
theorem cutQ_none(w:World)(c l M P mo:Nat)(ks:List ByteArray)(b n:Nat)(f:Value)(h:Raw w c l M P mo ks b)(hn:ks.length<=n):
 Calls Tryz.prog 203 #[.pointer (some ⟨c,0,none⟩),.int .i64 (n:Int),f] w (λe w'=>e= .returned (.tuple #[])/\w=w'):=by
 have U:=Lib.hid (lenC w c l M P mo ks b h);have e0:decide (n < ks.length)=false:=by simp;omega
 clear h;go_enter Tryz.func203,Tryz.ntmps203;go_wp2_with fail
 go_loopg [] 0 (λk W=>W=w)
 case atStart=>rfl
 case round=>
  obtain rfl:=hrel;go_wp2_with fail
  refine U.out.mono ?_;rintro e w1 ⟨rfl,rfl⟩;go_wp2_with fail
  go_end0;exact⟨rfl,rfl⟩
def QRel(w:World)(c l M P mo:Nat)(x:ByteArray)(ks:List ByteArray)(b sb:Nat)(h o:Bool)(s:ByteArray)(k:Nat)(W:World):Prop:=
 ∃P',(P'=P\/w.heap.size<=P')/\Turn (λk=>blk c l M P k\/k=sb) w W/\¬blk c l M P' sb/\((k=1/\Raw W c l M P' mo (x::ks) b/\Box W sb h s o)\/(k=0/\Raw W c l M P' mo ks b/\Box W sb h x true))
theorem cutQ_one(w:World)(c l M P mo:Nat)(x:ByteArray)(ks:List ByteArray)(b sb:Nat)(hb o:Bool)(s:ByteArray)(h:Raw w c l M P mo (x::ks) b)(hs:¬blk c l M P sb)(hB:Box w sb hb s o):
 Calls Tryz.prog 203 #[.pointer (some ⟨c,0,none⟩),.int .i64 (ks.length:Int),.func (.func 204) #[] #[.pointer (some ⟨sb,0,none⟩)]] w (λe w'=>e= .returned (.tuple #[])/\QRel w c l M P mo x ks b sb hb o s 0 w'):=by
 have HH:=Lib.hid h;have HS:=Lib.hid hs;have HB:=Lib.hid hB;clear h hs hB;go_enter Tryz.func203,Tryz.ntmps203;go_wp2_with fail
 go_loopg [] 1 (λk W=>QRel w c l M P mo x ks b sb hb o s k W)
 case atStart=>exact⟨P,Or.inl rfl,Turn.refl _ _,HS.out,Or.inl ⟨rfl,HH.out,HB.out⟩⟩
 case round=>
  obtain⟨P',hP,hT,hn,hrel|hrel⟩:=hrel
  . obtain⟨rfl,hR,hB⟩:=hrel;have U1:=lenC wr c l M P' mo _ b hR;rw[List.length_cons] at U1;have U1:=Lib.hid U1;have U2:=Lib.hid (show Calls Tryz.prog 193 #[.pointer (some ⟨c,0,none⟩)] wr (OpR (.tuple #[.string x,.bool true]) wr c l M P' mo ks b) from dropC wr c l M P' mo _ b hR);have H1:=Lib.hid hP;have H2:=Lib.hid hT;have H3:=Lib.hid hn;have H4:=Lib.hid hB;have H5:=Lib.hid hR;have hlen:=hR.len;rw[List.length_cons] at hlen;have e0:decide (ks.length < ks.length+1)=true:=by simp
    clear hP hT hn hB hR;go_wp2_with fail
    refine U1.out.mono ?_;rintro e wr ⟨rfl,rfl⟩;go_wp2_with fail
    refine U2.out.mono ?_;rintro e w2 ⟨P2,rfl,hP,hR,hT⟩;have T2:Turn (blk c l M P') wr w2:=turned_turn hT
    have N2:¬blk c l M P2 sb:=λhk=>by
     rcases blk_next hP sb hk with h|h
     . exact H3.out h
     . have:=H4.out.lt;omega
    have B2:Box w2 sb hb s o:=(T2.block sb H4.out.lt H3.out).trans H4.out;have H6:=Lib.hid hP;have H7:=Lib.hid hR;have H8:=Lib.hid T2;have H9:=Lib.hid N2;have U3:=Lib.hid (cloQ w2 sb hb o s x B2);clear hP hR hT T2 N2 B2 U1 U2;go_wp2_with fail
    refine U3.out.mono ?_;rintro e w3 ⟨rfl,hB3,hT3⟩
    have R3:=Lib.hid (show QRel w c l M P mo x ks b sb hb o s 0 w3 by
     have hsz:=H2.out.size
     have t12:Turn (λk=>blk c l M P k\/k=sb) w w2:=H2.out.trans H8.out (λk hk hS=>by
      rcases blk_next H1.out k hS with h|h
      . exact Or.inl h
      . omega)
     refine⟨P2,?_,t12.trans hT3 (λk _ e=>Or.inr e),H9.out,Or.inr ⟨rfl,?_,hB3⟩⟩
     . have h1:=H1.out;have h6:=H6.out;rcases h6 with rfl|h6
       . exact h1
       . exact Or.inr (by omega)
     . have hR:=H7.out;have hd:∀k,blk c l M P2 k->w3.heap[k]?=w2.heap[k]?:=λk hk=>hT3.block k (by have:=hR.clt;have:=hR.llt;rcases hk with h|h|h|h <;> omega) (λe=>H9.out (e▸hk))
       exact hR.same hT3.size (hd _ (Or.inl rfl)) (hd _ (Or.inr (Or.inl rfl))) (hd _ (Or.inr (Or.inr (Or.inl rfl)))) (hd _ (Or.inr (Or.inr (Or.inr rfl)))))
    clear hB3 hT3;go_wp2_with fail
    go_roundg 0
    case measure=>omega
    case rel=>exact R3.out
  . obtain⟨rfl,hR,hB⟩:=hrel;have U1:=Lib.hid (lenC wr c l M P' mo _ b hR);have R3:=Lib.hid (show QRel w c l M P mo x ks b sb hb o s 0 wr from⟨P',hP,hT,hn,Or.inr ⟨rfl,hR,hB⟩⟩);have e0:decide (ks.length < ks.length)=false:=by simp
    clear hP hT hn hB hR;go_wp2_with fail
    refine U1.out.mono ?_;rintro e wr ⟨rfl,rfl⟩;go_wp2_with fail
    go_end0;exact⟨rfl,R3.out⟩
end Go.Proofs.YtdmmciggopmglaaGreatDoor.LR
namespace Go.Proofs.YtdmmciggopmglaaGreatDoor.LR
open Go.RowKit Sg
theorem load_step{w:World}{sb:Nat}{h o:Bool}{s:ByteArray}(k:Box w sb h s o):(loadVar 41 ⟨sb,0,none⟩).run Tryz.prog w= .ok (.agg #[.bool h,.string s,.bool o]) w:=by
 obtain⟨k0,k1,k2,_,_⟩:=k.cells;unfold loadVar;go_simp
theorem results_c{fn:Func}{a:Tmp}{ty:TypeId}(h:fn.results= #[.cell a ty])(tmps:Array Value)(P:Program)(w:World)(p:Addr)(v:Value)(ha:tmps.getD a undef= .pointer (some p))(hv:(loadVar ty p).run P w= .ok v w):
 (results fn tmps).run P w= .ok v w:=by
 rw[Array.getD_eq_getD_getElem?] at ha;simp[results,h,ha,asAddr,hv]
theorem results_ct{fn:Func}{a u:Tmp}{ty:TypeId}(h:fn.results= #[.cell a ty,.tmp u])(tmps:Array Value)(P:Program)(w:World)(p:Addr)(v:Value)(ha:tmps.getD a undef= .pointer (some p))(hv:(loadVar ty p).run P w= .ok v w):
 (results fn tmps).run P w= .ok (.tuple #[v,tmps.getD u undef]) w:=by
 rw[Array.getD_eq_getD_getElem?] at ha;simp[results,h,ha,asAddr,hv]
theorem Box.put{w:World}{sb:Nat}{h o:Bool}{s:ByteArray}(k:Box w sb h s o)(h' o':Bool)(s':ByteArray):Box (((w.setCell ⟨sb,0,none⟩ (.bool h')).setCell ⟨sb,1,none⟩ (.string s')).setCell ⟨sb,2,none⟩ (.bool o')) sb h' s' o':=by
 unfold Box at*;have r1:(w.setCell ⟨sb,0,none⟩ (.bool h')).heap[sb]?=some (.cells #[.bool h',.string s,.bool o] 41 (0,0)):=by rw[heap_setCell_same _ _ _ _ _ _ k];rfl
 have r2:((w.setCell ⟨sb,0,none⟩ (.bool h')).setCell ⟨sb,1,none⟩ (.string s')).heap[sb]?=some (.cells #[.bool h',.string s',.bool o] 41 (0,0)):=by rw[heap_setCell_same _ _ _ _ _ _ r1];rfl
 rw[heap_setCell_same _ _ _ _ _ _ r2];rfl
theorem req_zero(w:World)(c l M P:Nat)(ks:List ByteArray)(b:Nat)(key:ByteArray)(h:Raw w c l M P 0 ks b)(hl:ks.length<=0):
 Calls Tryz.prog 199 #[.pointer (some ⟨c,0,none⟩),.string key] w (CaPost (stepV 0 ks key) w c (blk c l M P) 0 (reqK 0 ks key) b):=by
 have clt:=h.clt;have c0:=h.c0;have hb:=(Below.refl w.heap.size w).alloc (Nat.le_refl _) (.cells #[.bool false,.string ⟨#[]⟩,.bool false] 41)
 have R:=Lib.hid (show CaPost (stepV 0 ks key) w c (blk c l M P) 0 (reqK 0 ks key) b (.returned (.agg #[.bool false,.string ⟨#[]⟩,.bool false])) (w.alloc (.cells #[.bool false,.string ⟨#[]⟩,.bool false] 41)) by
  refine⟨rfl,_,⟨l,M,P,rfl,?_,by rw[reqK_zero];simp⟩,λk hk=>Or.inl hk,Turn.of_below hb⟩;rw[reqK_zero];obtain rfl:ks= []:=List.eq_nil_of_length_eq_zero (by omega);exact h.below hb)
 have B:=Lib.hid (show Box (w.alloc (.cells #[.bool false,.string ⟨#[]⟩,.bool false] 41)) w.heap.size false ⟨#[]⟩ false from heap_alloc_new _ _);clear h hb;go_enter Tryz.func199,Tryz.ntmps199;go_wp2_with fail
 refine bodyPost_ret (results_c rfl _ _ _ ⟨w.heap.size,0,none⟩ _ rfl (load_step B.out)) rfl ?_;exact R.out
abbrev two(w:World)(h:Bool):World:=(w.alloc (.cells #[.bool false,.string ⟨#[]⟩,.bool false] 41)).alloc (.cells #[.bool h,.string ⟨#[]⟩,.bool false] 41)
structure Mid(w W:World)(c l M P P' mo:Nat)(ks:List ByteArray)(b:Nat)(h o:Bool)(s:ByteArray):Prop where
 raw:Raw W c l M P' mo ks b
 res:Box W w.heap.size false ⟨#[]⟩ false
 step:Box W (w.heap.size+1) h s o
 turn:Turn (blk c l M P) w W
 next:P'=P\/w.heap.size+2<=P'
section
variable{w W W':World}{c l M P P' mo b mo0 b0:Nat}{ks ks0:List ByteArray}{h o:Bool}{s:ByteArray}
theorem Mid.start(hR:Raw w c l M P mo ks b)(h:Bool):Mid w (two w h) c l M P P mo ks b h false ⟨#[]⟩:=by
 have b1:=(Below.refl w.heap.size w).alloc (Nat.le_refl _) (.cells #[.bool false,.string ⟨#[]⟩,.bool false] 41);have s1:(w.alloc (.cells #[.bool false,.string ⟨#[]⟩,.bool false] 41)).heap.size=w.heap.size+1:=by simp
 have b2:=b1.alloc (by omega) (.cells #[.bool h,.string ⟨#[]⟩,.bool false] 41);refine⟨hR.below b2,?_,?_,Turn.of_below b2,Or.inl rfl⟩
 . exact(Below.heap_alloc _ _ _ (by omega)).trans (heap_alloc_new _ _)
 . have:=heap_alloc_new (w.alloc (.cells #[.bool false,.string ⟨#[]⟩,.bool false] 41)) (.cells #[.bool h,.string ⟨#[]⟩,.bool false] 41);rw[s1] at this;exact this
theorem Mid.sep(m:Mid w W c l M P P' mo ks b h o s)(hR:Raw w c l M P mo0 ks0 b0):¬blk c l M P' w.heap.size/\¬blk c l M P' (w.heap.size+1):=by
 have h1:=hR.clt;have h2:=hR.llt;have h3:=m.next
 constructor
 . rintro(h|h|h|h) <;> omega
 . rintro(h|h|h|h) <;> omega
theorem Mid.last(m:Mid w W c l M P P' mo ks b h o s)(hR:Raw w c l M P mo0 ks0 b0){key:ByteArray}{e:Ending}{v:Value}{mm:Nat}(hp:OpPost v W l M P' (key::rem ks.reverse key) mm e W')(hm:mm<=b+1):
 e= .returned v/\∃P2,Mid w W' c l M P P2 mo (rem ks key++ [key]) (b+1) h o s:=by
 obtain⟨P2,he,hP,hL,hT⟩:=hp;have hT':Turn (blk c l M P') W W':=turned_turn hT;obtain⟨n1,n2⟩:=m.sep hR;have hsz:=m.turn.size;have hst:=m.step.lt;have h1:=hR.clt;have h2:=hR.llt;have h3:=m.next
 refine⟨he,P2,m.raw.next hP hT hL hm (by rw[rem_rev];simp),(hT'.block _ m.res.lt n1).trans m.res,(hT'.block _ m.step.lt n2).trans m.step,m.turn.trans hT' (λk hk hS=>?_),?_⟩
 . rcases hS with h|h|h|h
   . exact Or.inl h
   . exact Or.inr (Or.inl h)
   . exact Or.inr (Or.inr (Or.inl h))
   . rcases h3 with h3|h3
     . exact Or.inr (Or.inr (Or.inr (h.trans h3)))
     . omega
 . rcases hP with rfl|hP
   . exact h3
   . exact Or.inr (by omega)
theorem Mid.out(m:Mid w W c l M P P' mo ks b h o s)(hR:Raw w c l M P mo0 ks0 b0)(hl:ks.length<=mo):
 Box (((W.setCell ⟨w.heap.size,0,none⟩ (.bool h)).setCell ⟨w.heap.size,1,none⟩ (.string s)).setCell ⟨w.heap.size,2,none⟩ (.bool o)) w.heap.size h s o/\
 CaPost (.agg #[.bool h,.string s,.bool o]) w c (blk c l M P) mo ks b (.returned (.agg #[.bool h,.string s,.bool o])) (((W.setCell ⟨w.heap.size,0,none⟩ (.bool h)).setCell ⟨w.heap.size,1,none⟩ (.string s)).setCell ⟨w.heap.size,2,none⟩ (.bool o)):=by
 obtain⟨n1,n2⟩:=m.sep hR;refine⟨m.res.put h o s,rfl,_,⟨l,M,P',rfl,?_,hl⟩,blk_next (by rcases m.next with h|h;exact Or.inl h;exact Or.inr (by omega)),((m.turn.setCell (p:=⟨w.heap.size,0,none⟩) (Or.inr (Nat.le_refl _)) _).setCell (p:=⟨w.heap.size,1,none⟩) (Or.inr (Nat.le_refl _)) _).setCell (p:=⟨w.heap.size,2,none⟩) (Or.inr (Nat.le_refl _)) _⟩
 have q:∀k,blk c l M P' k->(((W.setCell ⟨w.heap.size,0,none⟩ (.bool h)).setCell ⟨w.heap.size,1,none⟩ (.string s)).setCell ⟨w.heap.size,2,none⟩ (.bool o)).heap[k]?=W.heap[k]?:=λk hk=>by
  have hne:k≠w.heap.size:=λe=>n1 (e▸hk);rw[Below.heap_setCell _ _ _ _ hne,Below.heap_setCell _ _ _ _ hne,Below.heap_setCell _ _ _ _ hne]
 exact m.raw.same (by simp[World.setCell]) (q _ (Or.inl rfl)) (q _ (Or.inr (Or.inl rfl))) (q _ (Or.inr (Or.inr (Or.inl rfl)))) (q _ (Or.inr (Or.inr (Or.inr rfl))))
end
theorem req_hit(w:World)(c l M P mo:Nat)(ks:List ByteArray)(b:Nat)(key:ByteArray)(h:Raw w c l M P (mo+1) ks b)(hl:ks.length<=mo+1)(hi:inn ks key=true)(hs:key.size<=maxLen)(hb:b<=98000):
 Calls Tryz.prog 199 #[.pointer (some ⟨c,0,none⟩),.string key] w (CaPost (.agg #[.bool true,.string ⟨#[]⟩,.bool false]) w c (blk c l M P) (mo+1) (rem ks key++ [key]) (b+1)):=by
 have clt:=h.clt;have c0:=h.c0;have c1:=h.c1;have ht:=h.top;have h1:=(h.below ((Below.refl w.heap.size w).alloc (Nat.le_refl _) (.cells #[.bool false,.string ⟨#[]⟩,.bool false] 41)));have U:=hasC _ c l M P _ ks b key h1 hs;rw[hi] at U;have U:=Lib.hid U;have M0:=Lib.hid (Mid.start h true);have HH:=Lib.hid h;obtain⟨m,hm,hL⟩:=M0.out.raw.lst;have hmle:=hL.le;have U2:=Lib.hid (front_any _ l M P _ m key hL hs (by omega))
 have HM:=Lib.hid (show max m ((rem ks.reverse key).length+1)<=b+1 by
  have:=rem_le ks.reverse key;have:=hL.le;omega)
 have HF:=Lib.hid (show(rem ks key++ [key]).length<=mo+1 by
  have:=rem_len h.nodup (inn_iff.1 hi);rw[List.length_append,List.length_cons,List.length_nil];omega)
 clear h h1 hL hmle hm;go_enter Tryz.func199,Tryz.ntmps199;go_wp2_with fail
 refine U.out.mono ?_;rintro e w1 ⟨rfl,rfl⟩;go_wp2_with fail
 refine U2.out.mono ?_;intro e w2 hp;obtain⟨rfl,P2,M2⟩:=M0.out.last HH.out hp HM.out;have F:=Lib.hid (M2.out HH.out HF.out);obtain⟨k0,k1,k2,f1,f2⟩:=M2.step.cells;obtain⟨r0,r1,r2,g1,g2⟩:=M2.res.cells;have g0:w2.frozen? ⟨w.heap.size,0,none⟩=false:=frozen_of_row w2 _ 0 _ _ M2.res;clear hp M0 U2 M2 HM;go_wp2_with fail
 refine bodyPost_ret (results_c rfl _ _ _ ⟨w.heap.size,0,none⟩ _ rfl (load_step F.out.1)) rfl ?_;exact F.out.2
theorem req_room(w:World)(c l M P mo:Nat)(ks:List ByteArray)(b:Nat)(key:ByteArray)(h:Raw w c l M P (mo+1) ks b)(hl:ks.length<=mo)(hi:inn ks key=false)(hs:key.size<=maxLen)(hb:b<=98000):
 Calls Tryz.prog 199 #[.pointer (some ⟨c,0,none⟩),.string key] w (CaPost (.agg #[.bool false,.string ⟨#[]⟩,.bool false]) w c (blk c l M P) (mo+1) (rem ks key++ [key]) (b+1)):=by
 have clt:=h.clt;have c0:=h.c0;have c1:=h.c1;have ht:=h.top;have h1:=(h.below ((Below.refl w.heap.size w).alloc (Nat.le_refl _) (.cells #[.bool false,.string ⟨#[]⟩,.bool false] 41)));have U:=hasC _ c l M P _ ks b key h1 hs;rw[hi] at U;have U:=Lib.hid U;have M0:=Lib.hid (Mid.start h false);have HH:=Lib.hid h;have V:=Lib.hid (λf=>cutQ_none _ c l M P _ ks b mo f M0.out.raw hl);obtain⟨m,hm,hL⟩:=M0.out.raw.lst;have hmle:=hL.le;have U2:=Lib.hid (front_any _ l M P _ m key hL hs (by omega))
 have HM:=Lib.hid (show max m ((rem ks.reverse key).length+1)<=b+1 by
  have:=rem_le ks.reverse key;have:=hL.le;omega)
 have HF:=Lib.hid (show(rem ks key++ [key]).length<=mo+1 by
  have:=rem_le ks key;rw[List.length_append,List.length_cons,List.length_nil];omega)
 clear h h1 hL hmle hm;go_enter Tryz.func199,Tryz.ntmps199;go_wp2_with fail
 refine U.out.mono ?_;rintro e w1 ⟨rfl,rfl⟩;go_wp2_with fail
 refine(V.out _).mono ?_;rintro e w1 ⟨rfl,rfl⟩;go_wp2_with fail
 refine U2.out.mono ?_;intro e w2 hp;obtain⟨rfl,P2,M2⟩:=M0.out.last HH.out hp HM.out;have F:=Lib.hid (M2.out HH.out HF.out);obtain⟨k0,k1,k2,f1,f2⟩:=M2.step.cells;obtain⟨r0,r1,r2,g1,g2⟩:=M2.res.cells;have g0:w2.frozen? ⟨w.heap.size,0,none⟩=false:=frozen_of_row w2 _ 0 _ _ M2.res;clear hp M0 U2 M2 HM;go_wp2_with fail
 refine bodyPost_ret (results_c rfl _ _ _ ⟨w.heap.size,0,none⟩ _ rfl (load_step F.out.1)) rfl ?_;exact F.out.2
theorem Mid.cut{w W W':World}{c l M P P' mo b:Nat}{x:ByteArray}{ks:List ByteArray}{h o:Bool}{s:ByteArray}(m:Mid w W c l M P P' mo (x::ks) b h o s)(hR:Raw w c l M P mo (x::ks) b)(q:QRel W c l M P' mo x ks b (w.heap.size+1) h o s 0 W'):
 ∃P2,Mid w W' c l M P P2 mo ks b h true x:=by
 obtain⟨P2,hP,hT,hn,⟨h0,_⟩|⟨_,hR2,hB2⟩⟩:=q
 . omega
 obtain⟨n1,n2⟩:=m.sep hR;have hsz:=m.turn.size;have hst:=m.step.lt;have h3:=m.next
 refine⟨P2,hR2,(hT.block _ m.res.lt (λe=>by rcases e with e|e;exact n1 e;omega)).trans m.res,hB2,m.turn.trans hT (λk hk hS=>?_),?_⟩
 . rcases hS with h|h
   . rcases h with h|h|h|h
     . exact Or.inl h
     . exact Or.inr (Or.inl h)
     . exact Or.inr (Or.inr (Or.inl h))
     . rcases h3 with h3|h3
       . exact Or.inr (Or.inr (Or.inr (h.trans h3)))
       . omega
   . omega
 . rcases hP with rfl|hP
   . exact h3
   . exact Or.inr (by omega)
theorem req_full(w:World)(c l M P:Nat)(x:ByteArray)(ks:List ByteArray)(b:Nat)(key:ByteArray)(h:Raw w c l M P (ks.length+1) (x::ks) b)(hi:inn (x::ks) key=false)(hs:key.size<=maxLen)(hb:b<=98000):
 Calls Tryz.prog 199 #[.pointer (some ⟨c,0,none⟩),.string key] w (CaPost (.agg #[.bool false,.string x,.bool true]) w c (blk c l M P) (ks.length+1) (rem ks key++ [key]) (b+1)):=by
 have clt:=h.clt;have c0:=h.c0;have c1:=h.c1;have ht:=h.top;have h1:=(h.below ((Below.refl w.heap.size w).alloc (Nat.le_refl _) (.cells #[.bool false,.string ⟨#[]⟩,.bool false] 41)));have U:=hasC _ c l M P _ _ b key h1 hs;rw[hi] at U;have U:=Lib.hid U;have M0:=Lib.hid (Mid.start h false);have HH:=Lib.hid h;have V:=Lib.hid (cutQ_one _ c l M P _ x ks b (w.heap.size+1) _ _ _ M0.out.raw (M0.out.sep h).2 M0.out.step)
 have HF:=Lib.hid (show(rem ks key++ [key]).length<=ks.length+1 by
  have:=rem_le ks key;rw[List.length_append,List.length_cons,List.length_nil];omega)
 clear h h1;go_enter Tryz.func199,Tryz.ntmps199;go_wp2_with fail
 refine U.out.mono ?_;rintro e w1 ⟨rfl,rfl⟩;go_wp2_with fail
 refine V.out.mono ?_;rintro e w2 ⟨rfl,hq⟩;obtain⟨P2,M2⟩:=M0.out.cut HH.out hq;have d1:=M2.raw.c1;obtain⟨m,hm,hL⟩:=M2.raw.lst;have hmle:=hL.le;have U2:=Lib.hid (front_any _ l M P2 _ m key hL hs (by omega))
 have HM:=Lib.hid (show max m ((rem ks.reverse key).length+1)<=b+1 by
  have:=rem_le ks.reverse key;have:=hL.le;omega)
 have N2:=Lib.hid M2;clear hq M0 hL hmle hm M2 U V c0 c1;go_wp2_with fail
 refine U2.out.mono ?_;intro e w3 hp;obtain⟨rfl,P3,M3⟩:=N2.out.last HH.out hp HM.out;have F:=Lib.hid (M3.out HH.out HF.out);obtain⟨k0,k1,k2,f1,f2⟩:=M3.step.cells;obtain⟨r0,r1,r2,g1,g2⟩:=M3.res.cells;have g0:w3.frozen? ⟨w.heap.size,0,none⟩=false:=frozen_of_row w3 _ 0 _ _ M3.res;clear hp N2 U2 M3 HM;go_wp2_with fail
 refine bodyPost_ret (results_c rfl _ _ _ ⟨w.heap.size,0,none⟩ _ rfl (load_step F.out.1)) rfl ?_;exact F.out.2
theorem request_ca(w:World)(c:Nat)(S:Nat->Prop)(mo:Nat)(ks:List ByteArray)(b:Nat)(key:ByteArray)(h:Ca w c S mo ks b)(hs:key.size<=maxLen)(hb:b<=98000):
 Calls Tryz.prog 199 #[.pointer (some ⟨c,0,none⟩),.string key] w (CaPost (stepV mo ks key) w c S mo (reqK mo ks key) (b+1)):=by
 obtain⟨l,M,P,rfl,hR,hl⟩:=h;have hnd:=hR.nodup;cases mo with
 |zero=>
  refine(req_zero w c l M P ks b key hR hl).mono ?_;rintro e w' ⟨he,S',h1,h2⟩;exact⟨he,S',h1.mono (by omega),h2⟩
 |succ mo=>
  cases hi:inn ks key with
  |true=>
   have e1:stepV (mo+1) ks key= .agg #[.bool true,.string ⟨#[]⟩,.bool false]:=by simp[stepV,hitB,vicK,outB,hi]
   rw[e1,reqK_hit hnd (inn_iff.1 hi) hl];exact req_hit w c l M P mo ks b key hR hl hi hs hb
  |false=>
   by_cases hf:ks.length<=mo
   . have e1:stepV (mo+1) ks key= .agg #[.bool false,.string ⟨#[]⟩,.bool false]:=by
      have:¬(mo+1<=ks.length):=by omega
      simp[stepV,hitB,vicK,outB,hi,this]
     rw[e1,reqK_room (by omega)];exact req_room w c l M P mo ks b key hR hf hi hs hb
   . cases ks with
     |nil=>simp at hf
     |cons x ks=>
      obtain rfl:mo=ks.length:=by rw[List.length_cons] at hf hl;omega
      have e1:stepV (ks.length+1) (x::ks) key= .agg #[.bool false,.string x,.bool true]:=by simp[stepV,hitB,vicK,outB,hi]
      rw[e1,reqK_full (mo:=ks.length+1) (inn_no.1 hi) rfl];exact req_full w c l M P x ks b key hR hi hs hb
end Go.Proofs.YtdmmciggopmglaaGreatDoor.LR
namespace Go.Proofs.YtdmmciggopmglaaGreatDoor.LR
open Go.RowKit Sg
theorem app_at{w:World}{base:Nat}{v:Value}{xs:List ByteArray}(h:Own w base v xs)(x:ByteArray)(hx:x.size<=maxLen)(hl:xs.length<=199999)(hb:base<=w.heap.size):
 ∃(A:Option Addr) (cap:Nat) (w2:World),(Builtin.append_ #[23,23] 23 #[v,.slice (some ⟨w.heap.size,0,none⟩) 1 1]).run Tryz.prog (w.alloc (.cells #[.string x] 9))= .ok (.slice A (xs.length+1) cap) w2/\
  Own w2 base (.slice A (xs.length+1) cap) (xs++ [x])/\w.grownBy w2 v.ownBlock/\(∀g,(Value.slice A (xs.length+1) cap).ownBlock=some g->v.ownBlock=some g\/w.heap.size<=g):=by
 obtain⟨i0,hi,hz0,hz1,hz2⟩:=info_parts infoStr
 obtain⟨v',w2,hrun,hown2,hg,hnil,hloc⟩:=run_append_own_at (P:=Tryz.prog) (w.alloc (.cells #[.string x] 9)) base 23 23 9 i0 _ 1 16
  Tryz.underlying23 hi hz0 hz1 hz2 rfl (by decide) _ _ _ (h.1.alloc _) ⟨w.heap.size,0,none⟩ 1 1 [.string x] rfl (cell_one_new _ _ _) (by simp[Value.oneCell']) (by unfold maxLen;omega) (by omega) (by simp;omega)
 have hown3:=hown2;rcases hown2.2 with⟨_,h0⟩|⟨g,cap,cur,rfl,_⟩
 . omega
 refine⟨_,cap,w2,hrun,⟨?_,by rw[List.length_append];simp only[List.length_cons,List.length_nil];omega,λy hy=>?_⟩,(World.grownBy_alloc w _ _).trans hg,λg' hg'=>?_⟩
 . rw[List.map_append,List.length_append];exact hown3
 . rcases List.mem_append.1 hy with h1|h1
   . exact h.2.2 y h1
   . rw[List.mem_singleton.1 h1];exact hx
 . rcases hloc with h1|h1
   . exact Or.inl (h1▸hg')
   . rw[h1] at hg';injection hg' with hg'
     rw[show(w.alloc (.cells #[.string x] 9)).heap.size=w.heap.size+1 by simp] at hg';exact Or.inr (by omega)
def GBox(w:World)(gb:Nat)(v:Value):Prop:=w.heap[gb]?=some (.cells #[v] 23 (0,0))
theorem GBox.lt{w:World}{gb:Nat}{v:Value}(k:GBox w gb v):gb < w.heap.size:=(Array.getElem?_eq_some_iff.1 k).1
theorem GBox.put{w:World}{gb:Nat}{v:Value}(k:GBox w gb v)(u:Value):GBox (w.setCell ⟨gb,0,none⟩ u) gb u:=by
 unfold GBox at*;rw[heap_setCell_same _ _ _ _ _ _ k];rfl
theorem cloR(w:World)(gb base:Nat)(v:Value)(ts:List ByteArray)(x:ByteArray)(k:GBox w gb v)(o:Own w base v ts)(hl:ts.length<=199999)(hx:x.size<=maxLen)(hb:base<=w.heap.size)(hne:v.ownBlock≠some gb):
 Calls Tryz.prog 205 #[.string x,.pointer (some ⟨gb,0,none⟩)] w (λe w'=>e= .returned (.tuple #[])/\∃v',GBox w' gb v'/\Own w' base v' (ts++ [x])/\(∀g,v'.ownBlock=some g->v.ownBlock=some g\/w.heap.size<=g)/\Turn (λk=>k=gb\/v.ownBlock=some k) w w'):=by
 obtain⟨A2,cap,w2,hrun,hown,hg,hloc⟩:=app_at o x hx hl hb;obtain⟨A1,c1,rfl⟩:=o.len;have hgb:=k.lt;have k1:w.cell? ⟨gb,0,none⟩=some (.slice A1 ts.length c1):=cell_of_row w _ 0 _ _ _ k;have k2:GBox w2 gb (.slice A1 ts.length c1):=(hg.block gb hgb (λe=>hne e.symm)).trans k;have k3:w2.cell? ⟨gb,0,none⟩=some (.slice A1 ts.length c1):=cell_of_row w2 _ 0 _ _ _ k2;have k4:w2.frozen? ⟨gb,0,none⟩=false:=frozen_of_row w2 _ 0 _ _ k2;have HRUN:=Lib.hid hrun
 have R:=Lib.hid (show ∃v',GBox (w2.setCell ⟨gb,0,none⟩ (.slice A2 (ts.length+1) cap)) gb v'/\Own (w2.setCell ⟨gb,0,none⟩ (.slice A2 (ts.length+1) cap)) base v' (ts++ [x])/\(∀g,v'.ownBlock=some g->(Value.slice A1 ts.length c1).ownBlock=some g\/w.heap.size<=g)/\Turn (λk=>k=gb\/(Value.slice A1 ts.length c1).ownBlock=some k) w (w2.setCell ⟨gb,0,none⟩ (.slice A2 (ts.length+1) cap)) by
  refine⟨_,k2.put _,hown.same (λg hg'=>?_),hloc,?_⟩
  . refine Below.heap_setCell _ _ _ _ (λe=>?_);have e:g=gb:=e;subst e;rcases hloc g hg' with h|h
    . exact hne h
    . omega
  . have t1:Turn (λk=>k=gb\/(Value.slice A1 ts.length c1).ownBlock=some k) w w2:=⟨hg.os,hg.tape,hg.output,hg.size,λi hi h1=>hg.block i hi (λe=>h1 (Or.inr e.symm))⟩;exact t1.setCell (p:=⟨gb,0,none⟩) (Or.inl (Or.inl rfl)) _)
 clear hrun hown hg hloc k k2 o hne;go_enter Tryz.func205,Tryz.ntmps205;go_wp2_with(at_builtin;refine wpList_append_run rfl _ _ _ rfl _ _ _ _ rfl rfl HRUN.out ?_)
 go_end0;exact⟨rfl,R.out⟩
structure RAt(w:World)(c l M P mo:Nat)(ks:List ByteArray)(b gb base n k:Nat)(W:World)(P' j:Nat)(v:Value):Prop where
 nextP:P'=P\/w.heap.size<=P'
 turn:Turn (λk=>blk c l M P k\/k=gb) w W
 gbn:¬blk c l M P' gb
 vn:∀g,v.ownBlock=some g->¬blk c l M P' g/\g≠gb/\w.heap.size<=g
 cnt:j+k=ks.length - n
 raw:Raw W c l M P' mo (ks.drop j) b
 box:GBox W gb v
 own:Own W base v (ks.take j)
def RRel(w:World)(c l M P mo:Nat)(ks:List ByteArray)(b gb base n k:Nat)(W:World):Prop:=∃P' j v,RAt w c l M P mo ks b gb base n k W P' j v
theorem drop_some{ks:List ByteArray}{j:Nat}(h:j < ks.length):ks.drop j=ks.getD j ⟨#[]⟩::ks.drop (j+1):=by
 rw[List.drop_eq_getElem_cons h,List.getD_eq_getElem?_getD,List.getElem?_eq_getElem h];rfl
theorem RAt.next{w:World}{c l M P mo:Nat}{ks:List ByteArray}{b gb base n k:Nat}{W W1 W2:World}{P' P2 j:Nat}{v v':Value}(r:RAt w c l M P mo ks b gb base n (k+1) W P' j v)
 (hP:P2=P'\/W.heap.size<=P2) (hT:Turn (blk c l M P') W W1) (hR:Raw W1 c l M P2 mo (ks.drop (j+1)) b)
 (g1:GBox W2 gb v') (g2:Own W2 base v' (ks.take j++ [ks.getD j ⟨#[]⟩])) (g3:∀g,v'.ownBlock=some g->v.ownBlock=some g\/W1.heap.size<=g) (g4:Turn (λk=>k=gb\/v.ownBlock=some k) W1 W2) (hj:j < ks.length):
 RAt w c l M P mo ks b gb base n k W2 P2 (j+1) v':=by
 have s1:=r.turn.size;have s2:=hT.size;have s3:=g4.size
 have n2:¬blk c l M P2 gb:=λhk=>by
  rcases blk_next hP gb hk with h|h
  . exact r.gbn h
  . have:=r.box.lt;omega
 have hlt:∀k,blk c l M P2 k->k < W1.heap.size:=λk hk=>by
  have h1:=hR.clt;have h2:=hR.llt;rcases hk with h|h|h|h <;> omega
 have vlt:∀g,v.ownBlock=some g->g < W.heap.size:=λg hg=>(r.own.lt hg).1
 have nv:∀g,v.ownBlock=some g->¬blk c l M P2 g:=λg hg hk=>by
  rcases blk_next hP g hk with h|h
  . exact(r.vn g hg).1 h
  . have:=vlt g hg;omega
 refine⟨?_,?_,n2,λg hg=>?_,by have:=r.cnt;omega,?_,g1,?_⟩
 . rcases hP with rfl|hP
   . exact r.nextP
   . exact Or.inr (by omega)
 . have t1:=r.turn.trans hT (λk hk hS=>by
    rcases blk_next r.nextP k hS with h|h
    . exact Or.inl h
    . omega)
   refine t1.trans g4 (λk hk hS=>?_);rcases hS with h|h
   . exact Or.inr h
   . have:=(r.vn k h).2.2;omega
 . rcases g3 g hg with h|h
   . exact⟨nv g h,(r.vn g h).2⟩
   . refine⟨λhk=>?_,λe=>?_,by omega⟩
     . have:=hlt g hk;omega
     . have:=r.box.lt;omega
 . have q:∀k,blk c l M P2 k->W2.heap[k]?=W1.heap[k]?:=λk hk=>g4.block k (hlt k hk) (λe=>by
    rcases e with e|e
    . exact n2 (e▸hk)
    . exact nv k e hk)
   exact hR.same s3 (q _ (Or.inl rfl)) (q _ (Or.inr (Or.inl rfl))) (q _ (Or.inr (Or.inr (Or.inl rfl)))) (q _ (Or.inr (Or.inr (Or.inr rfl))))
 . rw[take_snoc ks j ⟨#[]⟩ hj];exact g2
theorem cutR(w:World)(c l M P mo:Nat)(ks:List ByteArray)(b gb base n:Nat)(h:Raw w c l M P mo ks b)(hs:¬blk c l M P gb)(hB:GBox w gb (.slice none 0 0))(hb:base<=w.heap.size):
 Calls Tryz.prog 203 #[.pointer (some ⟨c,0,none⟩),.int .i64 (n:Int),.func (.func 205) #[] #[.pointer (some ⟨gb,0,none⟩)]] w (λe w'=>e= .returned (.tuple #[])/\RRel w c l M P mo ks b gb base n 0 w'):=by
 have R0:=Lib.hid (show RRel w c l M P mo ks b gb base n (ks.length - n) w from⟨P,0,_,Or.inl rfl,Turn.refl _ _,hs,λg hg=>(by cases hg),by omega,h,hB,Own.nil _ _⟩);have hks:=h.len;have HS:=Lib.hid h.small;clear h hs hB;go_enter Tryz.func203,Tryz.ntmps203;go_wp2_with fail
 go_loopg [] (ks.length - n) (λk W=>RRel w c l M P mo ks b gb base n k W)
 case atStart=>exact R0.out
 case round=>
  obtain⟨P',j,v,r⟩:=hrel;have hcnt:=r.cnt;have RR:=Lib.hid r;have U1:=lenC wr c l M P' mo _ b r.raw;rw[List.length_drop] at U1;obtain⟨q,hq⟩:∃q,q=ks.length - j:=⟨_,rfl⟩;rw[← hq] at U1;have U1:=Lib.hid U1;have HQ:=Lib.hid hq;cases gk with
  |zero=>
   have e0:decide (n < q)=false:=by simp;omega
   clear r hcnt R0 hq;go_wp2_with fail
   refine U1.out.mono ?_;rintro e wr ⟨rfl,rfl⟩;go_wp2_with fail
   go_end0;exact⟨rfl,P',j,v,RR.out⟩
  |succ gk=>
   have e0:decide (n < q)=true:=by simp;omega
   have hj:j < ks.length:=by omega
   have U2:=dropC wr c l M P' mo _ b r.raw;rw[drop_some hj] at U2;simp only[List.headD_cons,List.isEmpty_cons,Bool.not_false,List.tail_cons] at U2;have U2:=Lib.hid U2;have hxs:=HS.out (ks.getD j ⟨#[]⟩) (by rw[List.getD_eq_getElem?_getD,List.getElem?_eq_getElem hj];exact List.getElem_mem hj);obtain⟨x,hx⟩:∃x,x=ks.getD j ⟨#[]⟩:=⟨_,rfl⟩;rw[← hx] at U2 hxs;have HX:=Lib.hid hx;clear r hcnt R0 hx hq;go_wp2_with fail
   refine U1.out.mono ?_;rintro e wr ⟨rfl,rfl⟩;go_wp2_with fail
   refine U2.out.mono ?_;rintro e w2 ⟨P2,rfl,hP,hR,hT⟩;have T2:Turn (blk c l M P') wr w2:=turned_turn hT;have r:=RR.out;have s2:=T2.size;have s1:=r.turn.size;have b2:GBox w2 gb v:=(T2.block gb r.box.lt r.gbn).trans r.box;have o2:Own w2 base v (ks.take j):=r.own.same (λg hg=>T2.block g (r.own.lt hg).1 (r.vn g hg).1);have U3:=Lib.hid (cloR w2 gb base v _ x b2 o2 (by rw[List.length_take];omega) hxs (by omega) (λe=>(r.vn gb e).2.1 rfl));have H1:=Lib.hid hP;have H2:=Lib.hid hR;have H3:=Lib.hid T2;clear hP hR hT T2 b2 o2 r U1 U2;go_wp2_with fail
   refine U3.out.mono ?_;rintro e w3 ⟨rfl,v',g1,g2,g3,g4⟩;rw[HX.out] at g2;have R3:=Lib.hid (RR.out.next H1.out H3.out H2.out g1 g2 g3 g4 hj);clear g1 g2 g3 g4 U3;go_wp2_with fail
   go_roundg gk
   case measure=>omega
   case rel=>exact⟨P2,j+1,v',R3.out⟩
end Go.Proofs.YtdmmciggopmglaaGreatDoor.LR
namespace Go.Proofs.YtdmmciggopmglaaGreatDoor.LR
open Go.RowKit Sg
def ResPost(w:World)(c:Nat)(S:Nat->Prop)(n:Nat)(ks:List ByteArray)(b:Nat)(e:Ending)(w':World):Prop:=
 ∃v S',e= .returned v/\Own w' w.heap.size v (ks.take (ks.length - n))/\Ca w' c S' n (lastN n ks) b/\(∀k,S' k->S k\/w.heap.size<=k)/\Turn S w w'/\(∀g,v.ownBlock=some g->¬S' g)
theorem res_start{w:World}{c l M P mo:Nat}{ks:List ByteArray}{b:Nat}(h:Raw w c l M P mo ks b)(n:Nat)(hn:n<=9223372036854775807):
 Raw ((w.setCell ⟨c,0,none⟩ (.int .i64 (n:Int))).alloc (.cells #[.slice none 0 0] 23)) c l M P n ks b/\¬blk c l M P w.heap.size/\GBox ((w.setCell ⟨c,0,none⟩ (.int .i64 (n:Int))).alloc (.cells #[.slice none 0 0] 23)) w.heap.size (.slice none 0 0):=by
 have h1:=h.clt;have h2:=h.llt;have hsz:(w.setCell ⟨c,0,none⟩ (.int .i64 (n:Int))).heap.size=w.heap.size:=by simp[World.setCell]
 have r1:Raw (w.setCell ⟨c,0,none⟩ (.int .i64 (n:Int))) c l M P n ks b:=by
  obtain⟨m,hm,hL⟩:=h.lst;have q:∀k,k≠c->(w.setCell ⟨c,0,none⟩ (.int .i64 (n:Int))).heap[k]?=w.heap[k]?:=λk hk=>Below.heap_setCell _ _ _ _ hk
  refine⟨h.cl,h.cM,h.cP,?_,⟨m,hm,hL.same (by omega) (q _ (Ne.symm h.cl)) (q _ (Ne.symm h.cM)) (q _ (Ne.symm h.cP))⟩,hn⟩;rw[heap_setCell_same _ _ _ _ _ _ h.box];rfl
 refine⟨r1.below ((Below.refl _ _).alloc (Nat.le_refl _) _),?_,?_⟩
 . rintro(h|h|h|h) <;> omega
 . have:=heap_alloc_new (w.setCell ⟨c,0,none⟩ (.int .i64 (n:Int))) (.cells #[.slice none 0 0] 23);rw[hsz] at this;exact this
theorem res_end{w w2:World}{c l M P mo:Nat}{ks:List ByteArray}{b n:Nat}(_h:Raw w c l M P mo ks b)(r:RRel ((w.setCell ⟨c,0,none⟩ (.int .i64 (n:Int))).alloc (.cells #[.slice none 0 0] 23)) c l M P n ks b w.heap.size w.heap.size n 0 w2):
 ∃A m cp,GBox w2 w.heap.size (.slice A m cp)/\ResPost w c (blk c l M P) n ks b (.returned (.slice A m cp)) w2:=by
 obtain⟨P',j,v,r⟩:=r;have hsz:((w.setCell ⟨c,0,none⟩ (.int .i64 (n:Int))).alloc (.cells #[.slice none 0 0] 23)).heap.size=w.heap.size+1:=by simp[World.setCell]
 have hj:=r.cnt;obtain rfl:j=ks.length - n:=by omega
 have hown:=r.own;obtain⟨A,cp,rfl⟩:=hown.len;refine⟨A,_,cp,r.box,_,blk c l M P',rfl,hown,⟨l,M,P',rfl,r.raw,?_⟩,?_,?_,λg hg=>(r.vn g hg).1⟩
 . rw[lastN_len];omega
 . refine blk_next ?_;rcases r.nextP with h|h
   . exact Or.inl h
   . exact Or.inr (by omega)
 . have t0:Turn (blk c l M P) w ((w.setCell ⟨c,0,none⟩ (.int .i64 (n:Int))).alloc (.cells #[.slice none 0 0] 23)):=((Turn.refl _ _).setCell (p:=⟨c,0,none⟩) (Or.inl (Or.inl rfl)) _).alloc _
   exact t0.trans r.turn (λk hk hS=>by
    rcases hS with h|h
    . exact h
    . omega)
theorem res_neg(w:World)(c l M P mo:Nat)(ks:List ByteArray)(b:Nat)(z:Int)(_hz: -9223372036854775808<=z)(h0:z < 0)(h:Raw w c l M P mo ks b):
 Calls Tryz.prog 200 #[.pointer (some ⟨c,0,none⟩),.int .i64 z] w (ResPost w c (blk c l M P) 0 ks b):=by
 have c0:=h.c0;have f0:=h.f0;have clt:=h.clt;have HH:=Lib.hid h;obtain⟨r1,r2,r3⟩:=res_start h 0 (by omega);have c1:=r1.c0;have U:=Lib.hid (cutR _ c l M P 0 ks b w.heap.size w.heap.size 0 r1 r2 r3 (by simp[World.setCell]));clear h r1 r2 r3;go_enter Tryz.func200,Tryz.ntmps200;go_wp2_with fail
 refine U.out.mono ?_;rintro e w2 ⟨rfl,hr⟩;obtain⟨A,m,cp,hg,hp⟩:=res_end HH.out hr;have k1:w2.cell? ⟨w.heap.size,0,none⟩=some (.slice A m cp):=cell_of_row w2 _ 0 _ _ _ hg;have HP:=Lib.hid hp;clear hr hg hp;go_wp2_with fail
 go_ret;exact HP.out
theorem res_pos(w:World)(c l M P mo:Nat)(ks:List ByteArray)(b:Nat)(n:Nat)(hz:n<=9223372036854775807)(h:Raw w c l M P mo ks b):
 Calls Tryz.prog 200 #[.pointer (some ⟨c,0,none⟩),.int .i64 (n:Int)] w (ResPost w c (blk c l M P) n ks b):=by
 have c0:=h.c0;have f0:=h.f0;have clt:=h.clt;have h0:¬((n:Int) < 0):=by omega
 have HH:=Lib.hid h;obtain⟨r1,r2,r3⟩:=res_start h n hz;have c1:=r1.c0;have U:=Lib.hid (cutR _ c l M P n ks b w.heap.size w.heap.size n r1 r2 r3 (by simp[World.setCell]));clear h r1 r2 r3;go_enter Tryz.func200,Tryz.ntmps200;go_wp2_with fail
 refine U.out.mono ?_;rintro e w2 ⟨rfl,hr⟩;obtain⟨A,m,cp,hg,hp⟩:=res_end HH.out hr;have k1:w2.cell? ⟨w.heap.size,0,none⟩=some (.slice A m cp):=cell_of_row w2 _ 0 _ _ _ hg;have HP:=Lib.hid hp;clear hr hg hp;go_wp2_with fail
 go_ret;exact HP.out
theorem resize_ca(w:World)(c:Nat)(S:Nat->Prop)(mo:Nat)(ks:List ByteArray)(b:Nat)(z:Int)(hz: -9223372036854775808<=z/\z<=9223372036854775807)(h:Ca w c S mo ks b):
 Calls Tryz.prog 200 #[.pointer (some ⟨c,0,none⟩),.int .i64 z] w (ResPost w c S z.toNat ks b):=by
 obtain⟨l,M,P,rfl,hR,hl⟩:=h
 by_cases h0:z < 0
 . rw[show z.toNat=0 by omega];exact res_neg w c l M P mo ks b z hz.1 h0 hR
 . obtain⟨n,rfl⟩:∃n:Nat,z=(n:Int):=⟨z.toNat,by omega⟩;exact res_pos w c l M P mo ks b n (by omega) hR
def adB(mo:Nat)(ks:List ByteArray)(k:ByteArray):Bool:=!inn ks k&&decide (ks.length < mo)
def adK(mo:Nat)(ks:List ByteArray)(k:ByteArray):List ByteArray:=if adB mo ks k=true then rem ks k++ [k] else ks
theorem raw_drew{w:World}{c l M P mo:Nat}{ks:List ByteArray}{b:Nat}(h:Raw w c l M P mo ks b)(n:Nat):Raw (w.drewN n) c l M P mo ks b:=h.below ⟨rfl,rfl,rfl,Nat.le_refl _,λ_ _=>rfl⟩
theorem adopt_in(w:World)(c l M P mo:Nat)(ks:List ByteArray)(b:Nat)(key:ByteArray)(h:Raw w c l M P mo ks b)(hl:ks.length<=mo)(hi:inn ks key=true)(hs:key.size<=maxLen):
 Calls Tryz.prog 192 #[.pointer (some ⟨c,0,none⟩),.string key] w (CaPost (.bool false) w c (blk c l M P) mo ks b):=by
 have c0:=h.c0;have clt:=h.clt
 have U:=Lib.hid (show ∀m,Calls Tryz.prog 195 #[.pointer (some ⟨c,0,none⟩),.string key] (w.drewN m) (λe w'=>e= .returned (.bool true)/\w'=w.drewN m) from λm=>by
  have:=hasC (w.drewN m) c l M P mo ks b key (raw_drew h m) hs;rw[hi] at this;exact this.mono λ_ _ h=>⟨h.1,h.2.symm⟩)
 have HH:=Lib.hid h;have HL:=Lib.hid hl;clear h hl hi;go_enter Tryz.func192,Tryz.ntmps192;go_wp2_with fail
 go_quiet((go_at_call 195;exact Calls.quiet_of_same (U.out _)))
 go_wp2_with fail
 go_ret;exact⟨rfl,_,⟨l,M,P,rfl,raw_drew HH.out _,HL.out⟩,λk hk=>Or.inl hk,Turn.of_below ⟨rfl,rfl,rfl,Nat.le_refl _,λ_ _=>rfl⟩⟩
theorem adopt_full(w:World)(c l M P mo:Nat)(ks:List ByteArray)(b:Nat)(key:ByteArray)(h:Raw w c l M P mo ks b)(hl:ks.length<=mo)(hi:inn ks key=false)(hf:mo<=ks.length)(hs:key.size<=maxLen):
 Calls Tryz.prog 192 #[.pointer (some ⟨c,0,none⟩),.string key] w (CaPost (.bool false) w c (blk c l M P) mo ks b):=by
 have c0:=h.c0;have clt:=h.clt;have e0:decide (mo<=ks.length)=true:=by simpa using hf
 have U:=Lib.hid (show ∀m,Calls Tryz.prog 195 #[.pointer (some ⟨c,0,none⟩),.string key] (w.drewN m) (λe w'=>e= .returned (.bool false)/\w'=w.drewN m) from λm=>by
  have:=hasC (w.drewN m) c l M P mo ks b key (raw_drew h m) hs;rw[hi] at this;exact this.mono λ_ _ h=>⟨h.1,h.2.symm⟩)
 have U2:=Lib.hid (show ∀m,Calls Tryz.prog 197 #[.pointer (some ⟨c,0,none⟩)] (w.drewN m) (λe w'=>e= .returned (.int .i64 (ks.length:Int))/\w'=w.drewN m) from λm=>
  (lenC (w.drewN m) c l M P mo ks b (raw_drew h m)).mono λ_ _ h=>⟨h.1,h.2.symm⟩)
 have HH:=Lib.hid h;have HL:=Lib.hid hl;clear h hl hi hf;go_enter Tryz.func192,Tryz.ntmps192;go_wp2_with fail
 go_quiet(first
  |(go_at_call 195;exact Calls.quiet_of_same (U.out _))
  |(go_at_call 197;exact Calls.quiet_of_same (U2.out _)))
 go_wp2_with fail
 go_ret;exact⟨rfl,_,⟨l,M,P,rfl,raw_drew HH.out _,HL.out⟩,λk hk=>Or.inl hk,Turn.of_below ⟨rfl,rfl,rfl,Nat.le_refl _,λ_ _=>rfl⟩⟩
theorem adopt_room(w:World)(c l M P mo:Nat)(ks:List ByteArray)(b:Nat)(key:ByteArray)(h:Raw w c l M P mo ks b)(hi:inn ks key=false)(hf:ks.length < mo)(hs:key.size<=maxLen)(hb:b<=98000):
 Calls Tryz.prog 192 #[.pointer (some ⟨c,0,none⟩),.string key] w (CaPost (.bool true) w c (blk c l M P) mo (rem ks key++ [key]) (b+1)):=by
 have c0:=h.c0;have clt:=h.clt;have e0:decide (mo<=ks.length)=false:=by simpa using hf
 have U:=Lib.hid (show ∀m,Calls Tryz.prog 195 #[.pointer (some ⟨c,0,none⟩),.string key] (w.drewN m) (λe w'=>e= .returned (.bool false)/\w'=w.drewN m) from λm=>by
  have:=hasC (w.drewN m) c l M P mo ks b key (raw_drew h m) hs;rw[hi] at this;exact this.mono λ_ _ h=>⟨h.1,h.2.symm⟩)
 have U2:=Lib.hid (show ∀m,Calls Tryz.prog 197 #[.pointer (some ⟨c,0,none⟩)] (w.drewN m) (λe w'=>e= .returned (.int .i64 (ks.length:Int))/\w'=w.drewN m) from λm=>
  (lenC (w.drewN m) c l M P mo ks b (raw_drew h m)).mono λ_ _ h=>⟨h.1,h.2.symm⟩)
 have c1:=h.c1;obtain⟨m,hm,hL⟩:=h.lst;have hmle:=hL.le;have HLst:=Lib.hid hL
 have HM:=Lib.hid (show max m ((rem ks.reverse key).length+1)<=b+1 by
  have:=rem_le ks.reverse key;have:=hL.le;omega)
 have HH:=Lib.hid h;have HF:=Lib.hid hf;clear h hi hf hL;go_enter Tryz.func192,Tryz.ntmps192;go_wp2_with fail
 go_quiet(first
  |(go_at_call 195;exact Calls.quiet_of_same (U.out _))
  |(go_at_call 197;exact Calls.quiet_of_same (U2.out _)))
 go_wp2_with fail
 refine(front_any (w.drewN _) l M P _ m key (HLst.out.below ⟨rfl,rfl,rfl,Nat.le_refl _,λ_ _=>rfl⟩) hs (by omega)).mono ?_;rintro e w2 ⟨P2,rfl,hP,hL,hT⟩;have R:=Lib.hid ((raw_drew HH.out _).next (ks':=rem ks key++ [key]) hP hT hL HM.out (by rw[rem_rev];simp));have HP:=Lib.hid hP;have HT:=Lib.hid hT;clear hP hL hT;go_wp2_with fail
 go_ret;refine⟨rfl,_,⟨l,M,P2,rfl,R.out,?_⟩,blk_next HP.out,(Turn.of_below (S:=blk c l M P) (w:=w) (w1:=w.drewN _) ⟨rfl,rfl,rfl,Nat.le_refl _,λ_ _=>rfl⟩).trans (turned_turn (c:=c) HT.out) (λ_ _ h=>h)⟩;have:=HF.out;have:=rem_le ks key;rw[List.length_append,List.length_cons,List.length_nil];omega
theorem adopt_ca(w:World)(c:Nat)(S:Nat->Prop)(mo:Nat)(ks:List ByteArray)(b:Nat)(key:ByteArray)(h:Ca w c S mo ks b)(hs:key.size<=maxLen)(hb:b<=98000):
 Calls Tryz.prog 192 #[.pointer (some ⟨c,0,none⟩),.string key] w (CaPost (.bool (adB mo ks key)) w c S mo (adK mo ks key) (b+1)):=by
 obtain⟨l,M,P,rfl,hR,hl⟩:=h;cases hi:inn ks key with
 |true=>
  have e1:adB mo ks key=false:=by simp[adB,hi]
  have e2:adK mo ks key=ks:=by unfold adK;rw[e1];rfl
  rw[e1,e2];refine(adopt_in w c l M P mo ks b key hR hl hi hs).mono ?_;rintro e w' ⟨he,S',h1,h2⟩;exact⟨he,S',h1.mono (by omega),h2⟩
 |false=>
  by_cases hf:ks.length < mo
  . have e1:adB mo ks key=true:=by simp[adB,hi,hf]
    have e2:adK mo ks key=rem ks key++ [key]:=by unfold adK;rw[e1];rfl
    rw[e1,e2];exact adopt_room w c l M P mo ks b key hR hi hf hs hb
  . have e1:adB mo ks key=false:=by simp[adB,hi,hf]
    have e2:adK mo ks key=ks:=by unfold adK;rw[e1];rfl
    rw[e1,e2];refine(adopt_full w c l M P mo ks b key hR hl hi (by omega) hs).mono ?_;rintro e w' ⟨he,S',h1,h2⟩;exact⟨he,S',h1.mono (by omega),h2⟩
end Go.Proofs.YtdmmciggopmglaaGreatDoor.LR
namespace Go.Proofs.YtdmmciggopmglaaGreatDoor.LR
open Go.RowKit Sg
section
variable{w0 w w':World}{c mo mo' b b':Nat}{S S':Nat->Prop}{ks ks' xs:List ByteArray}{r v:Value}{e:Ending}
end
section
variable(w:World)(a b a' b':Bool)(s t:ByteArray)
end
end Go.Proofs.YtdmmciggopmglaaGreatDoor.LR
