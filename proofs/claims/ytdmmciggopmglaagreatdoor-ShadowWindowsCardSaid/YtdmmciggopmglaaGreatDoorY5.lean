/- Ld Le, in one text. -/
import Derived.Test.YtdmmciggopmglaaGreatDoorLc
set_option maxRecDepth 20000
namespace Go.Proofs.YtdmmciggopmglaaGreatDoor.LE
open Go.RowKit Go.Maps Go.WideMaps Sg
section
variable(w:World)(i:Ix)(S:Sx)(B E:Nat)(L:List (List Nat))(lane:Int)(s:St)(b:Nat)(h:LT w i S B E L lane s b)
include h
theorem fall_t(age:Nat)(ha:age<=100000):Calls Tryz.prog 147 #[.pointer (some ⟨i.l,0,none⟩),.int .i64 (age:Int)] w (Num (Fx.fall (Fx.mul s.rate (Fx.pw (Fx.quo s.mo (s.mo+1)) age 4611686018427387904))) w):=by
 have C:=Lib.hid (λw1 (hb:Below w.heap.size w w1)=>And.intro (h.below hb).cm (h.below hb).cr);have c1:=h.cm;have hm:=h.lim.mo;have hr:=h.ok.rh;have hq:=Fx.quo_le s.mo (s.mo+1) (by omega);have U:=part_l s.mo (s.mo+1) w.drew (by omega) (by omega) (by omega);rw[Int.natCast_add] at U;have U:=Lib.hid (show Calls Tryz.prog 61 #[.int .i64 (s.mo:Int),.int .i64 ((s.mo:Int)+1)] w.drew (Num (Fx.quo s.mo (s.mo+1)) w) from U.mono λ_ _ ⟨h1,h3⟩=>⟨h1,⟨h3.os,h3.tape,h3.output,h3.size,h3.block⟩⟩);have HW:IntKind.i64.wrap ((s.mo:Int)+1)=(s.mo:Int)+1:=IntWalk.i64_in _ (by omega);generalize Fx.quo s.mo (s.mo+1)=q at*;have V:=Lib.hid (λw1=>FX.powr_yes q age w1 hq (by omega));have hp:=Fx.pw_le age q 4611686018427387904 (by omega);generalize Fx.pw q age 4611686018427387904=x at*;have M:=Lib.hid (λw1=>FX.mul_any s.rate x w1 (by unfold one at hr;omega) hp);have hml:=Fx.mul_le s.rate x;generalize Fx.mul s.rate x=y at*;have Z:=Lib.hid (λw1=>FX.fall_any y w1 hml);generalize Fx.fall y=z at*;generalize s.mo=m at*;generalize s.rate=rt at*;clear h hr hq hp hml;go_enter Tryz.func147,Tryz.ntmps147;go_wp2_with fail
 go_region_held3(λw'=>w'.cell? ⟨i.l,1,none⟩=some (.int .i64 (m:Int))) (first|(with_reducible exact c3)|(with_reducible exact c2)|(with_reducible exact c1)|go_keep)
  (first
    |(go_at_call 61;refine U.out.mono ?_;rintro e w1 ⟨rfl,hB1⟩;have c2:=(C.out w1 hB1).1;have B1:=Lib.hid hB1;clear hB1 U)
    |(go_at_call 156;refine(V.out w1).mono ?_;rintro e w2 ⟨rfl,hB2⟩;have B2:=Lib.hid (B1.out.trans (hB2.mono B1.out.size));have c3:=(C.out w2 B2.out).1;clear hB2 V))
 have c4:=(C.out w2 B2.out).2;clear C c1 c2 c3 B1;go_wp2_with fail
 refine(M.out _).mono ?_;rintro e w3 ⟨rfl,rfl⟩;go_wp2_with fail
 refine(Z.out _).mono ?_;rintro e w3 ⟨rfl,k,rfl⟩;go_wp2_with fail
 go_ret;exact⟨rfl,FX.bdrew B2.out k⟩
end
theorem take_cap(xs:List ByteArray){m n:Nat}(h:m=n\/m=xs.length/\m<=n):xs.take m=xs.take n/\xs.drop m=xs.drop n:=by
 rcases h with rfl|⟨rfl,h⟩
 . exact⟨rfl,rfl⟩
 . rw[List.take_of_length_le (Nat.le_refl _),List.take_of_length_le h,List.drop_eq_nil_of_le (Nat.le_refl _),List.drop_eq_nil_of_le h];exact⟨rfl,rfl⟩
theorem last_mem2{xs:List ByteArray}(h:0 < xs.length):lastKey xs∈xs:=by
 have h2:xs≠ []:=λe=>by rw[e] at h;exact Nat.lt_irrefl _ h
 unfold lastKey;rw[List.getLastD_eq_getLast?,List.getLast?_eq_some_getLast h2];exact List.getLast_mem h2
theorem take_back{xs:List ByteArray}{m:Nat}(h:m < xs.length):(xs.take (m+1)).dropLast=xs.take m/\anyKey (xs.take (m+1))=true/\lastKey (xs.take (m+1))::xs.drop (m+1)=xs.drop m/\True:=by
 have e:xs.take (m+1)=xs.take m++ [xs[m]]:=(List.take_append_getElem h).symm;refine⟨by rw[e,List.dropLast_concat],by rw[e];unfold anyKey;cases xs.take m <;> rfl,?_,trivial⟩;rw[e];unfold lastKey;rw[List.getLastD_eq_getLast?,List.getLast?_concat];exact(List.drop_eq_getElem_cons h).symm
section
variable(w:World)(i:Ix)(S:Sx)(F:Fl)(A B:KSt)(G H:List ByteArray)(f:ByteArray->Option Nat)(b:Nat->Nat)(r:Raw w i S F (pts A B G H f) b)
include r
theorem forget_r(key:ByteArray)(hs:key.size<=maxLen):Calls Tryz.prog 119 #[.pointer (some ⟨i.l,0,none⟩),.string key] w (RPost (.tuple #[]) w i S F (pts A B (rem G key) (rem H key) (fdel f key)) b):=by
 have c4:w.cell? ⟨i.l,4,none⟩=some (.pointer (some ⟨i.r 2,0,none⟩)):=r.c 4 rfl;have c5:w.cell? ⟨i.l,5,none⟩=some (.pointer (some ⟨i.r 3,0,none⟩)):=r.c 5 rfl;have HR:=Lib.hid r;have X0:=idx2l_0;have X1:=idx2l_1;clear r;go_enter Tryz.func119,Tryz.ntmps119;go_wp2_with fail
 go_loopw [10] (λz W=>(z= .int .i64 0/\W=w)\/(z= .int .i64 1/\∃S',Raw W i S' F (pts A B (rem G key) H f) b/\Went w W (blk i S) (blk i S'))\/(z= .int .i64 2/\∃S',Raw W i S' F (pts A B (rem G key) (rem H key) f) b/\Went w W (blk i S) (blk i S'))) (λz _=>2 - (intOf z).toNat)
 case atStart=>exact Or.inl ⟨rfl,rfl⟩
 case round=>
  clear c4 c5;rcases hrel with⟨rfl,rfl⟩|⟨rfl,S',hR,hW⟩|⟨rfl,S',hR,hW⟩
  . have V:=Lib.hid (ls_remove wr (i.r 2) (S 2) G _ HR.out.ra key hs);go_wp2_with fail
    refine V.out.mono ?_;intro e w2 hp;obtain⟨rfl,S2,r2,hW2⟩:=HR.out.onG hp (Nat.le_refl _) λ_ _ _=>Nat.le_refl _;have N:=Lib.hid (And.intro r2 hW2);clear hp r2 hW2 V;go_wp2_with fail
    go_roundw
    case rel=>exact Or.inr (Or.inl ⟨by go_num,S2,N.out.1,N.out.2⟩)
    case measure=>simp[intOf]
  . have V:=Lib.hid (ls_remove wr (i.r 3) (S' 3) H _ hR.rb key hs);have HR2:=Lib.hid hR;have HW:=Lib.hid hW;clear hR hW;go_wp2_with fail
    refine V.out.mono ?_;intro e w2 hp;obtain⟨rfl,S2,r2,hW2⟩:=HR2.out.onH hp (Nat.le_refl _) λ_ _ _=>Nat.le_refl _;have N:=Lib.hid (And.intro r2 (HW.out.trans hW2));clear hp r2 hW2 V;go_wp2_with fail
    go_roundw
    case rel=>exact Or.inr (Or.inr ⟨by go_num,S2,N.out.1,N.out.2⟩)
    case measure=>simp[intOf]
  . have c6:wr.cell? ⟨i.l,6,none⟩=some (.map (some (i.r 4))):=hR.c 6 rfl;obtain⟨w2,hdel,hp⟩:=hR.let_go hs 0;have hdel':∀ty,(Builtin.delete_ #[111,9] ty #[.map (some (i.r 4)),.string key]).run Tryz.prog wr= .ok (.tuple #[]) w2:=λ_=>hdel;have P:=Lib.hid (hp.trans hW);clear hdel hp hR hW;go_wp2_with fail
    go_end0;exact P.out
theorem cut_r0:Calls Tryz.prog 134 #[.pointer (some ⟨i.l,0,none⟩),.int .i64 0] w (RPost (.tuple #[]) w i S F (pts A B (G.take F.mo) H (fcut f (G.drop F.mo))) b):=by
 have R0:=Lib.hid (show ∃S',Raw w i S' F (pts A B (G.take G.length) H (fcut f (G.drop G.length))) b/\Went w w (blk i S) (blk i S') from⟨S,by rw[List.take_length,List.drop_length,fcut_nil];exact r,Went.refl _ _⟩);clear r;go_enter Tryz.func134,Tryz.ntmps134;go_wp2_with fail
 go_loopg [] (G.length - F.mo) (λk W=>∃m,m<=G.length/\(m=k+F.mo\/k=0/\m=G.length/\m<=F.mo)/\∃S',Raw W i S' F (pts A B (G.take m) H (fcut f (G.drop m))) b/\Went w W (blk i S) (blk i S'))
 case atStart=>exact⟨G.length,Nat.le_refl _,by omega,R0.out⟩
 case round=>
  obtain⟨m,hm,hk,S',hR,hW⟩:=hrel
  have U:=Lib.hid (show ∀n,Calls Tryz.prog 137 #[.pointer (some ⟨i.r 2,0,none⟩)] (wr.drewN n) (λe w'=>e= .returned (.int .i64 (m:Int))/\w'=wr.drewN n) from λn=>by
   have:=ls_len (wr.drewN n) (i.r 2) (S' 2) _ _ (hR.below (FX.bdrew (Below.refl _ _) n)).ra;rw[List.length_take,Nat.min_eq_left hm] at this;exact this.mono λ_ _ h=>⟨h.1,h.2.symm⟩)
  have c1:wr.cell? ⟨i.l,1,none⟩=some (.int .i64 (F.mo:Int)):=hR.c 1 rfl;have c4:wr.cell? ⟨i.l,4,none⟩=some (.pointer (some ⟨i.r 2,0,none⟩)):=hR.c 4 rfl;have RN:=Lib.hid (λn=>hR.below (FX.bdrew (Below.refl _ _) n));have WN:=Lib.hid (λn=>hW.trans (Went.below (S:=blk i S') (FX.bdrew (Below.refl wr.heap.size wr) n)));have HM:=Lib.hid hm;clear hR hW R0 hm;cases gk with
  |zero=>
   have e0:decide (F.mo < m)=false:=by simp;omega
   have TC:=Lib.hid (take_cap G (show m=F.mo\/m=G.length/\m<=F.mo by omega));clear hk;go_wp2_with fail
   go_quiet((go_at_call 137;exact Calls.quiet_of_same (U.out _)))
   go_wp2_with fail
   go_end0;refine⟨rfl,S',?_,WN.out _⟩;rw[← TC.out.1,<-TC.out.2];exact RN.out _
  |succ gk=>
   have e0:decide (F.mo < m)=true:=by simp;omega
   obtain⟨m',hm'⟩:∃m',m=m'+1:=⟨m - 1,by omega⟩;have hk2:m'=gk+F.mo:=by omega
   have HK:=Lib.hid hk2;obtain⟨t1,t2,t3,t4⟩:=take_back (xs:=G) (m:=m') (by have:=HM.out;omega);obtain⟨x,hx⟩:∃x,x=lastKey (G.take m):=⟨_,rfl⟩;rw[← hm'] at t1 t2 t3;rw[← hx] at t3;have T3:=Lib.hid t3
   have V:=Lib.hid (show ∀n,Calls Tryz.prog 143 #[.pointer (some ⟨i.r 2,0,none⟩)] (wr.drewN n) (LPost (.tuple #[.string x,.bool true]) (wr.drewN n) (i.r 2) (S' 2) (G.take m') (b 2)) from λn=>by
    have:=ls_pop (wr.drewN n) (i.r 2) (S' 2) _ _ (RN.out n).ra;rw[t1,t2,<-hx] at this;exact this)
   have hxs:x.size<=maxLen:=by
    refine(RN.out 0).ra.small x ?_;rw[hx];exact last_mem2 (by rw[List.length_take];have:=HM.out;omega)
   have HX:=Lib.hid hxs;have ML:=Lib.hid (show m'<=G.length by have:=HM.out;omega);clear hk hm' hk2 t1 t2 t3 t4 hx hxs HM;go_wp2_with fail
   go_quiet((go_at_call 137;exact Calls.quiet_of_same (U.out _)))
   go_wp2_with fail
   refine(V.out _).mono ?_;intro e w2 hp;obtain⟨rfl,S2,r2,hW2⟩:=(RN.out _).onG hp (Nat.le_refl _) λ_ _ _=>Nat.le_refl _;have c6:w2.cell? ⟨i.l,6,none⟩=some (.map (some (i.r 4))):=r2.c 6 rfl;obtain⟨w3,hdel,hp3⟩:=r2.let_go HX.out 0;have hdel':∀ty,(Builtin.delete_ #[111,9] ty #[.map (some (i.r 4)),.string x]).run Tryz.prog w2= .ok (.tuple #[]) w3:=λ_=>hdel;obtain⟨_,S3,r3,hW3⟩:=hp3;rw[fcut_snoc,T3.out] at r3;have N:=Lib.hid (show ∃S',Raw w3 i S' F (pts A B (G.take m') H (fcut f (G.drop m'))) b/\Went w w3 (blk i S) (blk i S') from⟨S3,r3,((WN.out _).trans hW2).trans hW3⟩);clear hp r2 hW2 hdel r3 hW3 U V RN WN T3 HX c1 c4;go_wp2_with fail
   go_roundg gk
   case measure=>omega
   case rel=>exact⟨m',ML.out,Or.inl HK.out,N.out⟩
theorem cut_r1:Calls Tryz.prog 134 #[.pointer (some ⟨i.l,0,none⟩),.int .i64 1] w (RPost (.tuple #[]) w i S F (pts A B G (H.take F.mo) (fcut f (H.drop F.mo))) b):=by
 have R0:=Lib.hid (show ∃S',Raw w i S' F (pts A B G (H.take H.length) (fcut f (H.drop H.length))) b/\Went w w (blk i S) (blk i S') from⟨S,by rw[List.take_length,List.drop_length,fcut_nil];exact r,Went.refl _ _⟩);clear r;go_enter Tryz.func134,Tryz.ntmps134;go_wp2_with fail
 go_loopg [] (H.length - F.mo) (λk W=>∃m,m<=H.length/\(m=k+F.mo\/k=0/\m=H.length/\m<=F.mo)/\∃S',Raw W i S' F (pts A B G (H.take m) (fcut f (H.drop m))) b/\Went w W (blk i S) (blk i S'))
 case atStart=>exact⟨H.length,Nat.le_refl _,by omega,R0.out⟩
 case round=>
  obtain⟨m,hm,hk,S',hR,hW⟩:=hrel
  have U:=Lib.hid (show ∀n,Calls Tryz.prog 137 #[.pointer (some ⟨i.r 3,0,none⟩)] (wr.drewN n) (λe w'=>e= .returned (.int .i64 (m:Int))/\w'=wr.drewN n) from λn=>by
   have:=ls_len (wr.drewN n) (i.r 3) (S' 3) _ _ (hR.below (FX.bdrew (Below.refl _ _) n)).rb;rw[List.length_take,Nat.min_eq_left hm] at this;exact this.mono λ_ _ h=>⟨h.1,h.2.symm⟩)
  have c1:wr.cell? ⟨i.l,1,none⟩=some (.int .i64 (F.mo:Int)):=hR.c 1 rfl;have c4:wr.cell? ⟨i.l,5,none⟩=some (.pointer (some ⟨i.r 3,0,none⟩)):=hR.c 5 rfl;have RN:=Lib.hid (λn=>hR.below (FX.bdrew (Below.refl _ _) n));have WN:=Lib.hid (λn=>hW.trans (Went.below (S:=blk i S') (FX.bdrew (Below.refl wr.heap.size wr) n)));have HM:=Lib.hid hm;clear hR hW R0 hm;cases gk with
  |zero=>
   have e0:decide (F.mo < m)=false:=by simp;omega
   have TC:=Lib.hid (take_cap H (show m=F.mo\/m=H.length/\m<=F.mo by omega));clear hk;go_wp2_with fail
   go_quiet((go_at_call 137;exact Calls.quiet_of_same (U.out _)))
   go_wp2_with fail
   go_end0;refine⟨rfl,S',?_,WN.out _⟩;rw[← TC.out.1,<-TC.out.2];exact RN.out _
  |succ gk=>
   have e0:decide (F.mo < m)=true:=by simp;omega
   obtain⟨m',hm'⟩:∃m',m=m'+1:=⟨m - 1,by omega⟩;have hk2:m'=gk+F.mo:=by omega
   have HK:=Lib.hid hk2;obtain⟨t1,t2,t3,t4⟩:=take_back (xs:=H) (m:=m') (by have:=HM.out;omega);obtain⟨x,hx⟩:∃x,x=lastKey (H.take m):=⟨_,rfl⟩;rw[← hm'] at t1 t2 t3;rw[← hx] at t3;have T3:=Lib.hid t3
   have V:=Lib.hid (show ∀n,Calls Tryz.prog 143 #[.pointer (some ⟨i.r 3,0,none⟩)] (wr.drewN n) (LPost (.tuple #[.string x,.bool true]) (wr.drewN n) (i.r 3) (S' 3) (H.take m') (b 3)) from λn=>by
    have:=ls_pop (wr.drewN n) (i.r 3) (S' 3) _ _ (RN.out n).rb;rw[t1,t2,<-hx] at this;exact this)
   have hxs:x.size<=maxLen:=by
    refine(RN.out 0).rb.small x ?_;rw[hx];exact last_mem2 (by rw[List.length_take];have:=HM.out;omega)
   have HX:=Lib.hid hxs;have ML:=Lib.hid (show m'<=H.length by have:=HM.out;omega);clear hk hm' hk2 t1 t2 t3 t4 hx hxs HM;go_wp2_with fail
   go_quiet((go_at_call 137;exact Calls.quiet_of_same (U.out _)))
   go_wp2_with fail
   refine(V.out _).mono ?_;intro e w2 hp;obtain⟨rfl,S2,r2,hW2⟩:=(RN.out _).onH hp (Nat.le_refl _) λ_ _ _=>Nat.le_refl _;have c6:w2.cell? ⟨i.l,6,none⟩=some (.map (some (i.r 4))):=r2.c 6 rfl;obtain⟨w3,hdel,hp3⟩:=r2.let_go HX.out 0;have hdel':∀ty,(Builtin.delete_ #[111,9] ty #[.map (some (i.r 4)),.string x]).run Tryz.prog w2= .ok (.tuple #[]) w3:=λ_=>hdel;obtain⟨_,S3,r3,hW3⟩:=hp3;rw[fcut_snoc,T3.out] at r3;have N:=Lib.hid (show ∃S',Raw w3 i S' F (pts A B G (H.take m') (fcut f (H.drop m'))) b/\Went w w3 (blk i S) (blk i S') from⟨S3,r3,((WN.out _).trans hW2).trans hW3⟩);clear hp r2 hW2 hdel r3 hW3 U V RN WN T3 HX c1 c4;go_wp2_with fail
   go_roundg gk
   case measure=>omega
   case rel=>exact⟨m',ML.out,Or.inl HK.out,N.out⟩
end
end Go.Proofs.YtdmmciggopmglaaGreatDoor.LE
set_option maxRecDepth 20000
namespace Go.Proofs.YtdmmciggopmglaaGreatDoor.LE
open Go.RowKit Go.Maps Go.WideMaps Sg
theorem cReq(w:World)(p:Nat)(U:Nat->Prop)(st:KSt)(b x:Nat)(key:ByteArray)(h:Pc w p U st b)(hx:w.cell? ⟨x,0,none⟩=some (.string key))(hs:key.size<=maxLen)(hb:b<=97500):
 Calls Tryz.prog 126 #[.pointer (some ⟨p,0,none⟩),.pointer (some ⟨x,0,none⟩)] w (PPost (.tuple #[]) w p U (st.req key) (b+1)):=by
 have V:=request_p w p U st b key h hs hb;unfold KSt.step at V;have V:=Lib.hid V;clear h;go_enter Tryz.func126,Tryz.ntmps126;go_wp2_with fail
 refine V.out.mono ?_;intro e w1 hp;obtain⟨rfl,h1⟩:=hp;have H1:=Lib.hid h1;clear h1 V;go_wp2_with fail
 go_end0;exact⟨rfl,H1.out⟩
theorem cReqE(args:Array Value)(w:World):(callFunc 126 args).run Tryz.prog w= .ok (.enter 126 args) w:=run_enter9 Tryz.func126 (by kernel_rfl) rfl args w
theorem cRmR(w:World)(p:Nat)(U:Nat->Prop)(st:KSt)(b x:Nat)(key:ByteArray)(h:Pc w p U st b)(hx:w.cell? ⟨x,0,none⟩=some (.string key))(hs:key.size<=maxLen):
 Calls Tryz.prog 124 #[.pointer (some ⟨p,0,none⟩),.pointer (some ⟨x,0,none⟩)] w (PPost (.tuple #[]) w p U (st.rm key) b):=by
 have V:=remove_p w p U st b key h hs;have V:=Lib.hid V;clear h;go_enter Tryz.func124,Tryz.ntmps124;go_wp2_with fail
 refine V.out.mono ?_;intro e w1 hp;obtain⟨rfl,h1⟩:=hp;have H1:=Lib.hid h1;clear h1 V;go_wp2_with fail
 go_end0;exact⟨rfl,H1.out⟩
theorem cRmRE(args:Array Value)(w:World):(callFunc 124 args).run Tryz.prog w= .ok (.enter 124 args) w:=run_enter9 Tryz.func124 (by kernel_rfl) rfl args w
theorem cRmE(w:World)(p:Nat)(U:Nat->Prop)(st:KSt)(b x:Nat)(key:ByteArray)(h:Pc w p U st b)(hx:w.cell? ⟨x,0,none⟩=some (.string key))(hs:key.size<=maxLen):
 Calls Tryz.prog 150 #[.pointer (some ⟨p,0,none⟩),.pointer (some ⟨x,0,none⟩)] w (PPost (.tuple #[]) w p U (st.rm key) b):=by
 have V:=remove_p w p U st b key h hs;have V:=Lib.hid V;clear h;go_enter Tryz.func150,Tryz.ntmps150;go_wp2_with fail
 refine V.out.mono ?_;intro e w1 hp;obtain⟨rfl,h1⟩:=hp;have H1:=Lib.hid h1;clear h1 V;go_wp2_with fail
 go_end0;exact⟨rfl,H1.out⟩
theorem cRmEE(args:Array Value)(w:World):(callFunc 150 args).run Tryz.prog w= .ok (.enter 150 args) w:=run_enter9 Tryz.func150 (by kernel_rfl) rfl args w
theorem cAdF(w:World)(p:Nat)(U:Nat->Prop)(st:KSt)(b x:Nat)(key:ByteArray)(h:Pc w p U st b)(hx:w.cell? ⟨x,0,none⟩=some (.string key))(hs:key.size<=maxLen)(hb:b<=97500):
 Calls Tryz.prog 140 #[.pointer (some ⟨p,0,none⟩),.pointer (some ⟨x,0,none⟩)] w (PPost (.tuple #[]) w p U (st.ad key) (b+1)):=by
 have V:=adopt_p w p U st b key h hs hb;have V:=Lib.hid V;clear h;go_enter Tryz.func140,Tryz.ntmps140;go_wp2_with fail
 refine V.out.mono ?_;intro e w1 hp;obtain⟨rfl,h1⟩:=hp;have H1:=Lib.hid h1;clear h1 V;go_wp2_with fail
 go_end0;exact⟨rfl,H1.out⟩
theorem cAdFE(args:Array Value)(w:World):(callFunc 140 args).run Tryz.prog w= .ok (.enter 140 args) w:=run_enter9 Tryz.func140 (by kernel_rfl) rfl args w
theorem cRes(w:World)(p:Nat)(U:Nat->Prop)(st:KSt)(b x n:Nat)(h:Pc w p U st b)(hx:w.cell? ⟨x,0,none⟩=some (.int .i64 (n:Int)))(hb:b<=97500)(hn:n<=16777216):
 Calls Tryz.prog 132 #[.pointer (some ⟨p,0,none⟩),.pointer (some ⟨x,0,none⟩)] w (PPost (.tuple #[]) w p U (st.rs n) b):=by
 have V:=Lib.hid (resize_p w p U st b n h hb hn);clear h;go_enter Tryz.func132,Tryz.ntmps132;go_wp2_with fail
 refine V.out.mono ?_;rintro e w1 ⟨v,U',rfl,hO,h1,h2,h3⟩;have H1:=Lib.hid (And.intro h1 h2);clear hO h1 h2 h3 V;go_wp2_with fail
 go_end0;exact⟨rfl,U',H1.out.1,H1.out.2⟩
theorem cResE(args:Array Value)(w:World):(callFunc 132 args).run Tryz.prog w= .ok (.enter 132 args) w:=run_enter9 Tryz.func132 (by kernel_rfl) rfl args w
theorem both_r(w:World)(i:Ix)(S:Sx)(F:Fl)(A B A' B':KSt)(G H:List ByteArray)(f:ByteArray->Option Nat)(b c:Nat->Nat)(Fn:FuncId)(x:Nat)(v:Value)(r:Raw w i S F (pts A B G H f) b)
 (hx:w.cell? ⟨x,0,none⟩=some v) (hn:¬blk i S x) (hF:∀args w,(callFunc Fn args).run Tryz.prog w= .ok (.enter Fn args) w) (hc:∀j,j < 5->b j<=c j)
 (cA:∀w1 p U,Pc w1 p U A (b 0)->w1.cell? ⟨x,0,none⟩=some v->Calls Tryz.prog Fn #[.pointer (some ⟨p,0,none⟩),.pointer (some ⟨x,0,none⟩)] w1 (PPost (.tuple #[]) w1 p U A' (c 0)))
 (cB:∀w1 p U,Pc w1 p U B (b 1)->w1.cell? ⟨x,0,none⟩=some v->Calls Tryz.prog Fn #[.pointer (some ⟨p,0,none⟩),.pointer (some ⟨x,0,none⟩)] w1 (PPost (.tuple #[]) w1 p U B' (c 1))):
 Calls Tryz.prog 116 #[.pointer (some ⟨i.l,0,none⟩),.func (.func Fn) #[] #[.pointer (some ⟨x,0,none⟩)]] w (λe w'=>e= .returned (.tuple #[])/\∃S',Raw w' i S' F (pts A' B' G H f) c/\Went w w' (blk i S) (blk i S')/\¬blk i S' x/\w'.cell? ⟨x,0,none⟩=some v):=by
 have hxl:x < w.heap.size:=World.block_lt_of_cell? _ _ hx;refine both_any w i.l (i.r 0) (i.r 1) Fn ⟨x,0,none⟩ (λw1=>∃S1,Raw w1 i S1 F (pts A' B G H f) (λj=>if j=0 then c 0 else b j)/\Went w w1 (blk i S) (blk i S1)) _ (r.c 2 rfl) (r.c 3 rfl) hF ?_ ?_
 . refine(cA w _ _ r.pa hx).mono ?_;intro e w1 hp;obtain⟨he,S1,h1,h2⟩:=r.onA (b':=λj=>if j=0 then c 0 else b j) hp (by rw[if_pos rfl];exact Nat.le_refl _) (λj _ hj=>by rw[if_neg hj];exact Nat.le_refl _);exact⟨he,S1,h1,h2⟩
 . rintro w1 ⟨S1,h1,h2⟩;have o:=SR.went_out h2 hxl hn;have hx1:w1.cell? ⟨x,0,none⟩=some v:=(World.cell?_of_block (a:=⟨x,0,none⟩) o.1).trans hx;have hxl1:x < w1.heap.size:=World.block_lt_of_cell? _ _ hx1;refine(cB w1 _ _ h1.pb hx1).mono ?_;intro e w2 hp
   obtain⟨he,S2,h3,h4⟩:=h1.onB (b':=c) hp (Nat.le_refl _) (λj hj _=>by
    split
    . rename_i e;subst e;exact Nat.le_refl _
    . exact hc j hj)
   have o2:=SR.went_out h4 hxl1 o.2;exact⟨he,S2,h3,h2.trans h4,o2.2,(World.cell?_of_block (a:=⟨x,0,none⟩) o2.1).trans hx1⟩
def WBox(w:World)(g a c:Nat):Prop:=w.heap[g]?=some (.cells #[.int .u64 (a:Int),.int .u64 (c:Int)] 215 (0,0))
theorem WBox.cells{w:World}{g a c:Nat}(h:WBox w g a c):w.cell? ⟨g,0,none⟩=some (.int .u64 (a:Int))/\w.cell? ⟨g,1,none⟩=some (.int .u64 (c:Int))/\w.frozen? ⟨g,0,none⟩=false/\w.frozen? ⟨g,1,none⟩=false:=
 ⟨cell_of_row w _ 0 _ _ _ h,cell_of_row w _ 1 _ _ _ h,frozen_of_row w _ 0 _ _ h,frozen_of_row w _ 1 _ _ h⟩
theorem WBox.set0{w:World}{g a c:Nat}(h:WBox w g a c)(n:Nat):WBox (w.setCell ⟨g,0,none⟩ (.int .u64 (n:Int))) g n c:=by unfold WBox at *;rw[heap_setCell_same _ _ _ _ _ _ h];rfl
theorem WBox.set1{w:World}{g a c:Nat}(h:WBox w g a c)(n:Nat):WBox (w.setCell ⟨g,1,none⟩ (.int .u64 (n:Int))) g a n:=by unfold WBox at *;rw[heap_setCell_same _ _ _ _ _ _ h];rfl
theorem WBox.below{w w':World}{g a c:Nat}(h:WBox w g a c)(hb:Below w.heap.size w w'):WBox w' g a c:=(hb.block g (Array.getElem?_eq_some_iff.1 h).1).trans h
end Go.Proofs.YtdmmciggopmglaaGreatDoor.LE
