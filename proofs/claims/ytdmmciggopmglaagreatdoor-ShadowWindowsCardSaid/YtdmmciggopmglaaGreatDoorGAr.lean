/- arc: Wb Wc Wd We Wf Wg Wh Wi Wj Wk Wl. -/
import Derived.Test.YtdmmciggopmglaaGreatDoorGBas
import Derived.Deep.QuietTactic
import Derived.BigQuiet
import Derived.Deep.RegionHeld3
import Derived.Deep.LoopGhost
import Derived.Deep.RegionLaw
import Derived.BigRegion
import Derived.Deep.CutBlock
import Derived.Deep.DeepCutAuto
import Derived.Laws.StructEq
set_option maxRecDepth 20000
namespace Go.Proofs.YtdmmciggopmglaaGreatDoor.AR
open Go.RowKit Sg
abbrev Rw4:=Nat->List ByteArray
structure Ix where
 c:Nat
 r:Nat->Nat
abbrev Sx:=Nat->Nat->Prop
def blk(i:Ix)(S:Sx):Nat->Prop:=λx=>x=i.c\/∃k,k < 4/\S k x
def cBox(w:World)(i:Ix)(mo p:Nat):Prop:=w.heap[i.c]?=some (.cells #[.int .i64 (mo:Int),.int .i64 (p:Int),.pointer (some ⟨i.r 0,0,none⟩),.pointer (some ⟨i.r 1,0,none⟩),.pointer (some ⟨i.r 2,0,none⟩),.pointer (some ⟨i.r 3,0,none⟩)] 174 (0,0))
structure Raw(w:World)(i:Ix)(S:Sx)(mo p:Nat)(R:Rw4)(b:Nat):Prop where
 box:cBox w i mo p
 ls:∀k,k < 4->LS w (i.r k) (S k) (R k) b
 sep:∀j k,j < 4->k < 4->j≠k->∀x,S j x->¬S k x
 out:∀k,k < 4->¬S k i.c
 top:mo<=9223372036854775807/\p<=9223372036854775807
def RPost(v:Value)(w:World)(i:Ix)(S:Sx)(mo p:Nat)(R:Rw4)(b:Nat)(e:Ending)(w':World):Prop:=
 e= .returned v/\∃S',Raw w' i S' mo p R b/\Went w w' (blk i S) (blk i S')
section
variable{w w':World}{i:Ix}{S:Sx}{mo p b b':Nat}{R R':Rw4}{v:Value}{e:Ending}
theorem Raw.cells(r:Raw w i S mo p R b):w.cell? ⟨i.c,0,none⟩=some (.int .i64 (mo:Int))/\w.cell? ⟨i.c,1,none⟩=some (.int .i64 (p:Int))/\w.cell? ⟨i.c,2,none⟩=some (.pointer (some ⟨i.r 0,0,none⟩))/\w.cell? ⟨i.c,3,none⟩=some (.pointer (some ⟨i.r 1,0,none⟩))/\w.cell? ⟨i.c,4,none⟩=some (.pointer (some ⟨i.r 2,0,none⟩))/\w.cell? ⟨i.c,5,none⟩=some (.pointer (some ⟨i.r 3,0,none⟩)):=
 ⟨cell_of_row w _ 0 _ _ _ r.box,cell_of_row w _ 1 _ _ _ r.box,cell_of_row w _ 2 _ _ _ r.box,cell_of_row w _ 3 _ _ _ r.box,cell_of_row w _ 4 _ _ _ r.box,cell_of_row w _ 5 _ _ _ r.box⟩
theorem Raw.froz(r:Raw w i S mo p R b):w.frozen? ⟨i.c,0,none⟩=false/\w.frozen? ⟨i.c,1,none⟩=false:=⟨frozen_of_row w _ 0 _ _ r.box,frozen_of_row w _ 1 _ _ r.box⟩
theorem Raw.clt(r:Raw w i S mo p R b):i.c < w.heap.size:=(Array.getElem?_eq_some_iff.1 r.box).1
theorem Raw.lt(r:Raw w i S mo p R b){k:Nat}(hk:blk i S k):k < w.heap.size:=by
 rcases hk with h|⟨j,hj,h⟩
 . have:=r.clt;omega
 . exact(r.ls j hj).lt h
theorem Raw.kept(r:Raw w i S mo p R b)(hs:w.heap.size<=w'.heap.size)(hb:∀k,blk i S k->w'.heap[k]?=w.heap[k]?):Raw w' i S mo p R b:=
 ⟨(hb _ (Or.inl rfl)).trans r.box,λj hj=>(r.ls j hj).kept hs λk hk=>hb k (Or.inr ⟨j,hj,hk⟩),r.sep,r.out,r.top⟩
theorem Raw.below(r:Raw w i S mo p R b)(hb:Below w.heap.size w w'):Raw w' i S mo p R b:=r.kept hb.size λk hk=>hb.block k (r.lt hk)
theorem Raw.beside(r:Raw w i S mo p R b){X:Nat->Prop}(ht:Turn X w w')(hx:∀k,blk i S k->¬X k):Raw w' i S mo p R b:=r.kept ht.size λk hk=>ht.block k (r.lt hk) (hx k hk)
theorem below_drewN(w:World)(n:Nat):Below w.heap.size w (w.drewN n):=⟨rfl,rfl,rfl,Nat.le_refl _,λ_ _=>rfl⟩
theorem Raw.drewN(r:Raw w i S mo p R b)(m:Nat):Raw (w.drewN m) i S mo p R b:=r.below (below_drewN w m)
theorem Raw.mono(r:Raw w i S mo p R b)(hb:b<=b'):Raw w i S mo p R b':=⟨r.box,λj hj=>(r.ls j hj).mono hb,r.sep,r.out,r.top⟩
theorem Raw.congr(r:Raw w i S mo p R b)(h:∀k,k < 4->R' k=R k):Raw w i S mo p R' b:=⟨r.box,λj hj=>by rw[h j hj];exact r.ls j hj,r.sep,r.out,r.top⟩
theorem Raw.on(r:Raw w i S mo p R b){k:Nat}(hk:k < 4){xs:List ByteArray}(hp:LPost v w (i.r k) (S k) xs b' e w')(hb:b<=b'):RPost v w i S mo p (upd R k xs) b' e w':=by
 obtain⟨he,S',hL,hW⟩:=hp;have q:∀x,x < w.heap.size->¬S k x->w'.heap[x]?=w.heap[x]?:=λx hx hn=>hW.turn.block x hx hn
 have z:∀x,x < w.heap.size->¬S k x->¬S' x:=λx hx hn h=>by
  rcases hW.new x h with h|h
  . exact hn h
  . omega
 refine⟨he,λj=>if j=k then S' else S j,⟨(q _ r.clt (r.out k hk)).trans r.box,λj hj=>?_,λj l hj hl hne x hx hx2=>?_,λj hj=>?_,r.top⟩,λx hx=>?_,hW.turn.wide λx _ h=>Or.inr ⟨k,hk,h⟩⟩
 . by_cases e:j=k
   . subst e;rw[upd_same,if_pos rfl];exact hL
   . rw[upd_ne e,if_neg e];exact((r.ls j hj).kept hW.turn.size λx hx=>q x ((r.ls j hj).lt hx) (r.sep j k hj hk e x hx)).mono hb
 . by_cases e:j=k
   . subst e;rw[if_pos rfl] at hx;rw[if_neg (Ne.symm hne)] at hx2;exact z x ((r.ls l hl).lt hx2) (r.sep l j hl hj (Ne.symm hne) x hx2) hx
   . rw[if_neg e] at hx
     by_cases e2:l=k
     . subst e2;rw[if_pos rfl] at hx2;exact z x ((r.ls j hj).lt hx) (r.sep j l hj hl e x hx) hx2
     . rw[if_neg e2] at hx2;exact r.sep j l hj hl hne x hx hx2
 . by_cases e:j=k
   . rw[if_pos e];exact z _ r.clt (r.out k hk)
   . rw[if_neg e];exact r.out j hj
 . rcases hx with h|⟨j,hj,h⟩
   . exact Or.inl (Or.inl h)
   . by_cases e:j=k
     . rw[if_pos e] at h;exact(hW.new x h).imp (λh=>Or.inr ⟨k,hk,h⟩) id
     . rw[if_neg e] at h;exact Or.inl (Or.inr ⟨j,hj,h⟩)
theorem Raw.setC(r:Raw w i S mo p R b)(o:Nat)(x:Value):(∀k,k < 4->LS (w.setCell ⟨i.c,o,none⟩ x) (i.r k) (S k) (R k) b)/\Turn (blk i S) w (w.setCell ⟨i.c,o,none⟩ x):=by
 have hs:w.heap.size<=(w.setCell ⟨i.c,o,none⟩ x).heap.size:=by simp[World.setCell]
 exact⟨λj hj=>(r.ls j hj).kept hs λk hk=>Below.heap_setCell _ _ _ _ λh=>r.out j hj (by rw[← (show k=i.c from h)];exact hk),(Turn.refl _ _).setCell (p:=⟨i.c,o,none⟩) (Or.inl (Or.inl rfl)) _⟩
theorem Raw.setP(r:Raw w i S mo p R b)(u:Nat)(hu:u<=9223372036854775807):Raw (w.setCell ⟨i.c,1,none⟩ (.int .i64 (u:Int))) i S mo u R b/\Turn (blk i S) w (w.setCell ⟨i.c,1,none⟩ (.int .i64 (u:Int))):=by
 obtain⟨h1,h2⟩:=r.setC 1 (.int .i64 (u:Int));refine⟨⟨?_,h1,r.sep,r.out,r.top.1,hu⟩,h2⟩;have:=r.box;unfold cBox at this|-;rw[heap_setCell_same _ _ _ _ _ _ this];rfl
theorem Raw.setM(r:Raw w i S mo p R b)(u:Nat)(hu:u<=9223372036854775807):Raw (w.setCell ⟨i.c,0,none⟩ (.int .i64 (u:Int))) i S u p R b/\Turn (blk i S) w (w.setCell ⟨i.c,0,none⟩ (.int .i64 (u:Int))):=by
 obtain⟨h1,h2⟩:=r.setC 0 (.int .i64 (u:Int));refine⟨⟨?_,h1,r.sep,r.out,hu,r.top.2⟩,h2⟩;have:=r.box;unfold cBox at this|-;rw[heap_setCell_same _ _ _ _ _ _ this];rfl
theorem RPost.trans{mo1 p1 b1:Nat}{R1:Rw4}{S1:Sx}{w1:World}(hW:Went w w1 (blk i S) (blk i S1))(hp:RPost v w1 i S1 mo1 p1 R1 b1 e w'):RPost v w i S mo1 p1 R1 b1 e w':=by
 obtain⟨he,S2,hR,h2⟩:=hp;exact⟨he,S2,hR,hW.trans h2⟩
end
def Stl(v:Value)(w:World)(e:Ending)(w':World):Prop:=e= .returned v/\Below w.heap.size w w'
def sumk(R:Rw4)(ks:List Nat):Nat:=(ks.map λk=>(R k).length).sum
theorem sumk_snoc(R:Rw4)(ks:List Nat)(k:Nat):sumk R (ks++ [k])=sumk R ks+(R k).length:=by unfold sumk;rw[List.map_append,List.sum_append];simp
def Nums(w:World)(g:Nat)(ks:List Nat):Prop:=∀j k:Nat,ks[j]?=some k->w.cell? ⟨g,j,none⟩=some (.int .i64 (k:Int))
theorem nums_two(w:World)(x y:Nat):Nums (w.alloc (.cells #[.int .i64 (x:Int),.int .i64 (y:Int)] 3)) w.heap.size [x,y]:=by
 have hn:=heap_alloc_new w (.cells #[.int .i64 (x:Int),.int .i64 (y:Int)] 3);intro j k h;rcases j with _|_|j
 . simp at h;subst h;exact cell_of_row _ _ 0 _ _ _ hn
 . simp at h;subst h;exact cell_of_row _ _ 1 _ _ _ hn
 . simp at h
theorem nums_one(w:World)(x:Nat):Nums (w.alloc (.cells #[.int .i64 (x:Int)] 3)) w.heap.size [x]:=by
 have hn:=heap_alloc_new w (.cells #[.int .i64 (x:Int)] 3);intro j k h;rcases j with _|j
 . simp at h;subst h;exact cell_of_row _ _ 0 _ _ _ hn
 . simp at h
theorem nums_four(w:World)(x y z u:Nat):Nums (w.alloc (.cells #[.int .i64 (x:Int),.int .i64 (y:Int),.int .i64 (z:Int),.int .i64 (u:Int)] 3)) w.heap.size [x,y,z,u]:=by
 have hn:=heap_alloc_new w (.cells #[.int .i64 (x:Int),.int .i64 (y:Int),.int .i64 (z:Int),.int .i64 (u:Int)] 3);intro j k h;rcases j with _|_|_|_|j
 . simp at h;subst h;exact cell_of_row _ _ 0 _ _ _ hn
 . simp at h;subst h;exact cell_of_row _ _ 1 _ _ _ hn
 . simp at h;subst h;exact cell_of_row _ _ 2 _ _ _ hn
 . simp at h;subst h;exact cell_of_row _ _ 3 _ _ _ hn
 . simp at h
section
variable(w:World)(i:Ix)(S:Sx)(mo p:Nat)(R:Rw4)(b:Nat)(r:Raw w i S mo p R b)
include r
set_option maxHeartbeats 1000000 in
theorem countW(g:Nat)(ks:List Nat)(hg:Nums w g ks)(hk:∀k∈ks,k < 4)(h4:ks.length<=4):Calls Tryz.prog 294 #[.pointer (some ⟨i.c,0,none⟩),.slice (some ⟨g,0,none⟩) ks.length ks.length] w (IntPost (sumk R ks:Int) w):=by
 obtain⟨_,_,c2,c3,c4,c5⟩:=r.cells;have L:=λk (h:k < 4)=>ls_len w (i.r k) (S k) (R k) b (r.ls k h);have B:=Lib.hid (λk (h:k < 4)=>(r.ls k h).len);have L0:=Lib.hid (L 0 (by omega));have L1:=Lib.hid (L 1 (by omega));have L2:=Lib.hid (L 2 (by omega));have L3:=Lib.hid (L 3 (by omega));have HG:=Lib.hid hg;have HK:=Lib.hid hk;clear r L hg hk;go_enter Tryz.func294,Tryz.ntmps294;go_wp2_with fail
 go_loopw [5,10] (λn z W=>∃j,j<=ks.length/\n= .int .i64 (sumk R (ks.take j):Int)/\z= .int .i64 (j:Int)/\sumk R (ks.take j)<=j*99999/\W=w) (λ_ z _=>ks.length - (intOf z).toNat)
 case atStart=>exact⟨0,Nat.zero_le _,rfl,rfl,by simp[sumk],rfl⟩
 case round=>
  obtain⟨j,hj,rfl,rfl,hs,rfl⟩:=hrel
  by_cases hlt:j < ks.length
  . have e0:decide (j < ks.length)=true:=by simpa using hlt
    have hkj:ks[j]?=some ks[j]:=List.getElem?_eq_getElem hlt
    have hk4:=HK.out ks[j] (List.getElem_mem hlt);have hB:=B.out ks[j] hk4;have hc:=HG.out j ks[j] hkj;have htk:ks.take (j+1)=ks.take j++ [ks[j]]:=by rw[List.take_add_one,hkj];rfl
    have hsn:=sumk_snoc R (ks.take j) ks[j];rw[← htk] at hsn;have HS:=Lib.hid hsn;generalize ks[j]=k at*;have HT:=Lib.hid htk;obtain⟨s,hse⟩:∃s,s=sumk R (ks.take j):=⟨_,rfl⟩;rw[← hse] at hs HS|-;clear hse hsn htk hkj;have HW:=IntWalk.i64_in ((s:Int)+((R k).length:Int)) (by omega);rcases k with _|_|_|_|k
    . go_wp2_with fail
      refine L0.out.mono ?_;rintro e w1 ⟨rfl,rfl⟩;go_wp2_with fail
      go_roundw
      case rel=>exact⟨j+1,by omega,by rw[HS.out];go_num,by go_num,by rw[HS.out];omega,trivial⟩
      case measure=>simp[intOf];omega
    . go_wp2_with fail
      refine L1.out.mono ?_;rintro e w1 ⟨rfl,rfl⟩;go_wp2_with fail
      go_roundw
      case rel=>exact⟨j+1,by omega,by rw[HS.out];go_num,by go_num,by rw[HS.out];omega,trivial⟩
      case measure=>simp[intOf];omega
    . go_wp2_with fail
      refine L2.out.mono ?_;rintro e w1 ⟨rfl,rfl⟩;go_wp2_with fail
      go_roundw
      case rel=>exact⟨j+1,by omega,by rw[HS.out];go_num,by go_num,by rw[HS.out];omega,trivial⟩
      case measure=>simp[intOf];omega
    . go_wp2_with fail
      refine L3.out.mono ?_;rintro e w1 ⟨rfl,rfl⟩;go_wp2_with fail
      go_roundw
      case rel=>exact⟨j+1,by omega,by rw[HS.out];go_num,by go_num,by rw[HS.out];omega,trivial⟩
      case measure=>simp[intOf];omega
    . omega
  . have e0:decide (j < ks.length)=false:=by simpa using hlt
    have E:=Lib.hid (show ks.take j=ks from List.take_of_length_le (by omega));go_wp2_with fail
    go_ret;exact⟨by rw[E.out];rfl,rfl⟩
end
end Go.Proofs.YtdmmciggopmglaaGreatDoor.AR
namespace Go.Proofs.YtdmmciggopmglaaGreatDoor.AR
open Go.RowKit Sg
theorem step_append_run{P:Program}{ops:Array Oper}{o:Oper}{a:Act}{w:World}{K:Act->World->Prop}{Q:Exit->Act->World->Prop}{E:Prop}(hgd:o.guard=none)(s x:Operand)(t:TypeId)
 (ho:o.op= .call {callee:= .builtin .append,args:=#[s,x],argTypes:=#[t,t]}) (v u v':Value) (w':World) (hs:a.eval s=v) (hx:a.eval x=u) (hr:(Builtin.append_ #[t,t] o.type #[v,u]).run P w= .ok v' w')
 (h:K (a.put o.dst v') w'):if Region.wanted o (yielded ops a.tmps)=true then Oper.wp P o a w K Q else E:=by
 have hw:Region.wanted o (yielded ops a.tmps)=true:=by simp[Region.wanted,hgd]
 rw[if_pos hw];unfold Oper.wp execOp;simp only[ho,resolve,invoke,builtin,Sem.run_bind,Sem.run_pure,Result.andThen_ok,List.map_toArray,List.map_cons,List.map_nil,hs,hx,hr];exact h
def hit(R:Rw4)(key:ByteArray):Bool:=inn (R 0) key||inn (R 1) key
def lv(R:Rw4)(p:Nat)(q:Bool):Nat:=if p < (R 0).length\/(0 < (R 0).length/\(R 0).length=p/\q=true)\/(R 1).length=0 then 0 else 1
section
variable(w:World)(i:Ix)(S:Sx)(mo p:Nat)(R:Rw4)(b:Nat)(r:Raw w i S mo p R b)
include r
theorem count_one(k:Nat)(hk:k < 4):Calls Tryz.prog 294 #[.pointer (some ⟨i.c,0,none⟩),.slice (some ⟨w.heap.size,0,none⟩) 1 1] (w.alloc (.cells #[.int .i64 (k:Int)] 3)) (IntPost ((R k).length:Int) (w.alloc (.cells #[.int .i64 (k:Int)] 3))):=by
 have:=countW _ i S mo p R b (r.below ((Below.refl _ _).alloc (Nat.le_refl _) (.cells #[.int .i64 (k:Int)] 3))) w.heap.size [k] (nums_one w k) (by simp;omega) (by simp);simp only[sumk,List.map_cons,List.map_nil,List.sum_cons,List.sum_nil,Nat.add_zero,List.length_cons,List.length_nil] at this;exact this
theorem count_two(k l:Nat)(hk:k < 4)(hl:l < 4):Calls Tryz.prog 294 #[.pointer (some ⟨i.c,0,none⟩),.slice (some ⟨w.heap.size,0,none⟩) 2 2] (w.alloc (.cells #[.int .i64 (k:Int),.int .i64 (l:Int)] 3)) (IntPost (((R k).length+(R l).length:Nat):Int) (w.alloc (.cells #[.int .i64 (k:Int),.int .i64 (l:Int)] 3))):=by
 have:=countW _ i S mo p R b (r.below ((Below.refl _ _).alloc (Nat.le_refl _) (.cells #[.int .i64 (k:Int),.int .i64 (l:Int)] 3))) w.heap.size [k,l] (nums_two w k l) (by simp;omega) (by simp);simp only[sumk,List.map_cons,List.map_nil,List.sum_cons,List.sum_nil,Nat.add_zero,List.length_cons,List.length_nil] at this;exact this
theorem count_four:Calls Tryz.prog 294 #[.pointer (some ⟨i.c,0,none⟩),.slice (some ⟨w.heap.size,0,none⟩) 4 4] (w.alloc (.cells #[.int .i64 0,.int .i64 1,.int .i64 2,.int .i64 3] 3)) (IntPost (((R 0).length+(R 1).length+(R 2).length+(R 3).length:Nat):Int) (w.alloc (.cells #[.int .i64 0,.int .i64 1,.int .i64 2,.int .i64 3] 3))):=by
 have:=countW _ i S mo p R b (r.below ((Below.refl _ _).alloc (Nat.le_refl _) (.cells #[.int .i64 0,.int .i64 1,.int .i64 2,.int .i64 3] 3))) w.heap.size [0,1,2,3] (nums_four w 0 1 2 3) (by simp) (by simp);simp only[sumk,List.map_cons,List.map_nil,List.sum_cons,List.sum_nil,Nat.add_zero,List.length_cons,List.length_nil] at this;rw[show(R 0).length+(R 1).length+(R 2).length+(R 3).length=(R 0).length+((R 1).length+((R 2).length+(R 3).length)) by omega];exact this
theorem lenW:Calls Tryz.prog 285 #[.pointer (some ⟨i.c,0,none⟩)] w (Stl (.int .i64 (((R 0).length+(R 1).length:Nat):Int)) w):=by
 have U:=Lib.hid (show Calls Tryz.prog 294 #[.pointer (some ⟨i.c,0,none⟩),.slice (some ⟨w.heap.size,0,none⟩) 2 2] (w.alloc (.cells #[.int .i64 0,.int .i64 1] 3)) (IntPost (((R 0).length+(R 1).length:Nat):Int) (w.alloc (.cells #[.int .i64 0,.int .i64 1] 3))) from count_two w i S mo p R b r 0 1 (by omega) (by omega));clear r;go_enter Tryz.func285,Tryz.ntmps285;go_wp2_with fail
 refine U.out.mono ?_;rintro e w1 ⟨rfl,rfl⟩;go_wp2_with fail
 go_ret;exact⟨rfl,(Below.refl _ _).alloc (Nat.le_refl _) _⟩
theorem hasW(key:ByteArray)(hs:key.size<=maxLen):Calls Tryz.prog 283 #[.pointer (some ⟨i.c,0,none⟩),.string key] w (BoolPost (hit R key) w):=by
 obtain⟨_,_,c2,c3,_⟩:=r.cells;have U:=ls_has w (i.r 0) (S 0) (R 0) b (r.ls 0 (by omega)) key hs;have V:=Lib.hid (ls_has w (i.r 1) (S 1) (R 1) b (r.ls 1 (by omega)) key hs);unfold hit;clear r;cases hi:inn (R 0) key with
 |true=>
  rw[hi] at U;have U:=Lib.hid U;clear hi V;rw[Bool.true_or];go_enter Tryz.func283,Tryz.ntmps283;go_wp2_with fail
  refine U.out.mono ?_;rintro e w1 ⟨rfl,rfl⟩;go_wp2_with fail
  go_ret;exact⟨rfl,rfl⟩
 |false=>
  rw[hi] at U;have U:=Lib.hid U;clear hi;rw[Bool.false_or];go_enter Tryz.func283,Tryz.ntmps283;go_wp2_with fail
  refine U.out.mono ?_;rintro e w1 ⟨rfl,rfl⟩;go_wp2_with fail
  refine V.out.mono ?_;rintro e w1 ⟨rfl,rfl⟩;go_wp2_with fail
  go_ret;exact⟨rfl,rfl⟩
set_option maxHeartbeats 2000000 in
theorem keysW:Calls Tryz.prog 284 #[.pointer (some ⟨i.c,0,none⟩)] w (RowPost (R 1++R 0).reverse w):=by
 have ca:w.cell? ⟨i.c,3,none⟩=some (.pointer (some ⟨i.r 1,0,none⟩)):=r.cells.2.2.2.1;have cb:w.cell? ⟨i.c,2,none⟩=some (.pointer (some ⟨i.r 0,0,none⟩)):=r.cells.2.2.1;have U:=Lib.hid (show Calls Tryz.prog 120 #[.pointer (some ⟨i.r 1,0,none⟩)] w.drew (RowPost (R 1) w) from(ls_keys w.drew (i.r 1) (S 1) (R 1) b ((r.below (below_drewN w 1)).ls 1 (by omega))).mono λ_ _ ⟨v,h1,h2,h3⟩=>⟨v,h1,h2,⟨h3.os,h3.tape,h3.output,h3.size,h3.block⟩⟩);have V:=Lib.hid (λ(w1:World) (h:Below w.heap.size w w1)=>ls_keys w1 (i.r 0) (S 0) (R 0) b ((r.below h).ls 0 (by omega)));have C:=Lib.hid (show ∀w1,Below w.heap.size w w1->w1.cell? ⟨i.c,3,none⟩=some (.pointer (some ⟨i.r 1,0,none⟩))/\w1.cell? ⟨i.c,2,none⟩=some (.pointer (some ⟨i.r 0,0,none⟩)) from λw1 h=>⟨(r.below h).cells.2.2.2.1,(r.below h).cells.2.2.1⟩);have h1:=(r.ls 1 (by omega)).len;have h2:=(r.ls 0 (by omega)).len;obtain⟨ic,ir⟩:=i;simp only at ca cb U V C|-;generalize ir 1=n at*;generalize ir 0=a at*;clear r;go_enter Tryz.func284,Tryz.ntmps284;go_wp2_with fail
 go_region_held3(λw'=>w'.cell? ⟨ic,3,none⟩=some (.pointer (some ⟨n,0,none⟩))/\w'.cell? ⟨ic,2,none⟩=some (.pointer (some ⟨a,0,none⟩))) (first|(exact⟨‹_›,‹_›⟩)|go_keep)
  (first
    |(go_at_call 120;refine U.out.mono ?_;rintro e w1 ⟨v1,rfl,hO1,hB1⟩;obtain⟨z2,z3⟩:=C.out w1 hB1;have O1:=Lib.hid hO1;have B1:=Lib.hid hB1;clear hO1 hB1 U)
    |(go_at_call 120;refine(V.out w1 B1.out).mono ?_;rintro e w2 ⟨v2,rfl,hO2,hB2⟩;obtain⟨z4,z5⟩:=C.out w2 (B1.out.trans (hB2.mono B1.out.size));obtain⟨v3,w3,hrun,hO3,hg3⟩:=app_all (O1.out.below hB2) hO2 (by omega) (Nat.le_trans B1.out.size hB2.size);have RUN:=Lib.hid hrun;have O3:=Lib.hid hO3;have B3:=Lib.hid (show Below w.heap.size w w3 from(B1.out.trans (hB2.mono B1.out.size)).grown hg3 (Nat.le_trans B1.out.size hB2.size) (λk hk=>((O1.out.below hB2).1.lt k hk).1));obtain⟨z6,z7⟩:=C.out w3 B3.out;clear hO2 hB2 hrun hO3 hg3 V O1 B1)
    |(refine step_append_run rfl _ _ _ rfl _ _ _ _ rfl rfl RUN.out ?_))
 go_wp2_with fail
 refine(reverse_any w3 w.heap.size v3 _ O3.out B3.out.size).mono ?_;rintro e w4 ⟨rfl,hO,hB⟩;have O4:=Lib.hid hO;have B4:=Lib.hid hB;clear hO hB;go_wp2_with fail
 go_ret;exact⟨v3,rfl,O4.out,B3.out.trans B4.out⟩
set_option maxHeartbeats 2000000 in
theorem ghostsW:Calls Tryz.prog 282 #[.pointer (some ⟨i.c,0,none⟩)] w (RowPost (R 2++R 3) w):=by
 have ca:w.cell? ⟨i.c,4,none⟩=some (.pointer (some ⟨i.r 2,0,none⟩)):=r.cells.2.2.2.2.1;have cb:w.cell? ⟨i.c,5,none⟩=some (.pointer (some ⟨i.r 3,0,none⟩)):=r.cells.2.2.2.2.2;have U:=Lib.hid (show Calls Tryz.prog 120 #[.pointer (some ⟨i.r 2,0,none⟩)] w.drew (RowPost (R 2) w) from(ls_keys w.drew (i.r 2) (S 2) (R 2) b ((r.below (below_drewN w 1)).ls 2 (by omega))).mono λ_ _ ⟨v,h1,h2,h3⟩=>⟨v,h1,h2,⟨h3.os,h3.tape,h3.output,h3.size,h3.block⟩⟩);have V:=Lib.hid (λ(w1:World) (h:Below w.heap.size w w1)=>ls_keys w1 (i.r 3) (S 3) (R 3) b ((r.below h).ls 3 (by omega)));have C:=Lib.hid (show ∀w1,Below w.heap.size w w1->w1.cell? ⟨i.c,4,none⟩=some (.pointer (some ⟨i.r 2,0,none⟩))/\w1.cell? ⟨i.c,5,none⟩=some (.pointer (some ⟨i.r 3,0,none⟩)) from λw1 h=>⟨(r.below h).cells.2.2.2.2.1,(r.below h).cells.2.2.2.2.2⟩);have h1:=(r.ls 2 (by omega)).len;have h2:=(r.ls 3 (by omega)).len;obtain⟨ic,ir⟩:=i;simp only at ca cb U V C|-;generalize ir 2=n at*;generalize ir 3=a at*;clear r;go_enter Tryz.func282,Tryz.ntmps282;go_wp2_with fail
 go_region_held3(λw'=>w'.cell? ⟨ic,4,none⟩=some (.pointer (some ⟨n,0,none⟩))/\w'.cell? ⟨ic,5,none⟩=some (.pointer (some ⟨a,0,none⟩))) (first|(exact⟨‹_›,‹_›⟩)|go_keep)
  (first
    |(go_at_call 120;refine U.out.mono ?_;rintro e w1 ⟨v1,rfl,hO1,hB1⟩;obtain⟨z2,z3⟩:=C.out w1 hB1;have O1:=Lib.hid hO1;have B1:=Lib.hid hB1;clear hO1 hB1 U)
    |(go_at_call 120;refine(V.out w1 B1.out).mono ?_;rintro e w2 ⟨v2,rfl,hO2,hB2⟩;obtain⟨z4,z5⟩:=C.out w2 (B1.out.trans (hB2.mono B1.out.size));obtain⟨v3,w3,hrun,hO3,hg3⟩:=app_all (O1.out.below hB2) hO2 (by omega) (Nat.le_trans B1.out.size hB2.size);have RUN:=Lib.hid hrun;have O3:=Lib.hid hO3;have B3:=Lib.hid (show Below w.heap.size w w3 from(B1.out.trans (hB2.mono B1.out.size)).grown hg3 (Nat.le_trans B1.out.size hB2.size) (λk hk=>((O1.out.below hB2).1.lt k hk).1));obtain⟨z6,z7⟩:=C.out w3 B3.out;clear hO2 hB2 hrun hO3 hg3 V O1 B1)
    |(refine step_append_run rfl _ _ _ rfl _ _ _ _ rfl rfl RUN.out ?_))
 go_wp2_with fail
 go_ret;exact⟨v3,rfl,O3.out,B3.out⟩
theorem overW:Calls Tryz.prog 303 #[.pointer (some ⟨i.c,0,none⟩)] w (Stl (.int .i64 ((((R 0).length+(R 1).length+(R 2).length+(R 3).length:Nat):Int) - (mo:Int))) w):=by
 obtain⟨c0,_⟩:=r.cells;have hb:=((Below.refl w.heap.size w).trans (below_drewN w 1)).alloc (Nat.le_refl _) (.cells #[.int .i64 0,.int .i64 1,.int .i64 2,.int .i64 3] 3);have K0:(w.drew.alloc (.cells #[.int .i64 0,.int .i64 1,.int .i64 2,.int .i64 3] 3)).cell? ⟨i.c,0,none⟩=some (.int .i64 (mo:Int)):=(r.below hb).cells.1;have U:=Lib.hid (count_four w.drew i S mo p R b (r.below (below_drewN w 1)));have B:=Lib.hid hb;have h0:=(r.ls 0 (by omega)).len;have h1:=(r.ls 1 (by omega)).len;have h2:=(r.ls 2 (by omega)).len;have h3:=(r.ls 3 (by omega)).len;have ht:=r.top.1;obtain⟨q,hq⟩:∃q,q=(R 0).length+(R 1).length+(R 2).length+(R 3).length:=⟨_,rfl⟩;rw[← hq] at U|-;have HW:=IntWalk.i64_in ((q:Int) - (mo:Int)) (by omega);clear hb hq h0 h1 h2 h3 ht r;go_enter Tryz.func303,Tryz.ntmps303;go_wp2_with fail
 go_region_held3(λw'=>w'.cell? ⟨i.c,0,none⟩=some (.int .i64 (mo:Int))) (first|(with_reducible exact K0)|(with_reducible exact c0)|go_keep)
  ((go_at_call 294;refine U.out.mono ?_;rintro e w1 ⟨rfl,rfl⟩))
 all_goals
  go_wp2_with fail
  go_ret;exact⟨rfl,B.out⟩
set_option maxHeartbeats 1000000 in
theorem leavingW(q:Bool):Calls Tryz.prog 293 #[.pointer (some ⟨i.c,0,none⟩),.bool q] w (Stl (.int .i64 (lv R p q:Int)) w):=by
 obtain⟨_,c1,_⟩:=r.cells;have hb1:=(Below.refl w.heap.size w).alloc (Nat.le_refl _) (.cells #[.int .i64 0] 3);have hb2:=hb1.alloc hb1.size (.cells #[.int .i64 1] 3);have K1:(w.alloc (.cells #[.int .i64 0] 3)).cell? ⟨i.c,1,none⟩=some (.int .i64 (p:Int)):=(r.below hb1).cells.2.1;have U:=count_one w i S mo p R b r 0 (by omega);have V:=count_one (w.alloc (.cells #[.int .i64 0] 3)) i S mo p R b (r.below hb1) 1 (by omega);have B1:=Lib.hid hb1;have B2:=Lib.hid hb2;unfold lv;generalize(R 0).length=n at*;generalize(R 1).length=m at*;have U:=Lib.hid (show Calls Tryz.prog 294 #[.pointer (some ⟨i.c,0,none⟩),.slice (some ⟨w.heap.size,0,none⟩) 1 1] (w.alloc (.cells #[.int .i64 0] 3)) (IntPost (n:Int) (w.alloc (.cells #[.int .i64 0] 3))) from U);have V:=Lib.hid (show Calls Tryz.prog 294 #[.pointer (some ⟨i.c,0,none⟩),.slice (some ⟨(w.alloc (.cells #[.int .i64 0] 3)).heap.size,0,none⟩) 1 1] ((w.alloc (.cells #[.int .i64 0] 3)).alloc (.cells #[.int .i64 1] 3)) (IntPost (m:Int) ((w.alloc (.cells #[.int .i64 0] 3)).alloc (.cells #[.int .i64 1] 3))) from V);rw[show(w.alloc (.cells #[.int .i64 0] 3)).heap.size=w.heap.size+1 by simp] at V;clear r hb1 hb2
 by_cases h1:p < n
 . rw[if_pos (Or.inl h1)];have e1:decide (p < n)=true:=by simpa using h1
   clear h1 V B2;go_enter Tryz.func293,Tryz.ntmps293;go_wp2_with fail
   refine U.out.mono ?_;rintro e w1 ⟨rfl,rfl⟩;go_wp2_with fail
   go_ret;exact⟨rfl,B1.out⟩
 have e1:decide (p < n)=false:=by simpa using h1
 by_cases h2:0 < n/\n=p/\q=true
 . rw[if_pos (Or.inr (Or.inl h2))];obtain⟨h3,rfl,rfl⟩:=h2;have e2:decide (0 < n)=true:=by simpa using h3
   clear h1 V B2 h3;go_enter Tryz.func293,Tryz.ntmps293;go_wp2_with fail
   refine U.out.mono ?_;rintro e w1 ⟨rfl,rfl⟩;go_wp2_with fail
   go_ret;exact⟨rfl,B1.out⟩
 have key:m=0->(if p < n\/(0 < n/\n=p/\q=true)\/m=0 then 0 else 1)=0:=λh=>if_pos (Or.inr (Or.inr h));have key2:m≠0->(if p < n\/(0 < n/\n=p/\q=true)\/m=0 then 0 else 1)=1:=λh=>if_neg (by rintro(h|h|h) <;> contradiction)
 by_cases h3:0 < n
 . have e2:decide (0 < n)=true:=by simpa using h3
   by_cases h4:n=p
   . subst h4;obtain rfl:q=false:=by cases q <;> simp_all
     by_cases h5:m=0
     . rw[key h5];subst h5;clear h1 h2 h3 key key2;go_enter Tryz.func293,Tryz.ntmps293;go_wp2_with fail
       refine U.out.mono ?_;rintro e w1 ⟨rfl,rfl⟩;go_wp2_with fail
       refine V.out.mono ?_;rintro e w1 ⟨rfl,rfl⟩;go_wp2_with fail
       go_ret;exact⟨rfl,B2.out⟩
     . rw[key2 h5];have e5:(m==0)=false:=by simpa using h5
       have e6:((m:Int)==0)=false:=by simp;omega
       clear h1 h2 h3 key key2 h5;go_enter Tryz.func293,Tryz.ntmps293;go_wp2_with fail
       refine U.out.mono ?_;rintro e w1 ⟨rfl,rfl⟩;go_wp2_with fail
       refine V.out.mono ?_;rintro e w1 ⟨rfl,rfl⟩;go_wp2_with fail
       go_ret;exact⟨rfl,B2.out⟩
   . have e4:(n==p)=false:=by simpa using h4
     have e7:((n:Int)==(p:Int))=false:=by simp;omega
     by_cases h5:m=0
     . rw[key h5];subst h5;clear h1 h2 h3 key key2 h4;go_enter Tryz.func293,Tryz.ntmps293;go_wp2_with fail
       refine U.out.mono ?_;rintro e w1 ⟨rfl,rfl⟩;go_wp2_with fail
       refine V.out.mono ?_;rintro e w1 ⟨rfl,rfl⟩;go_wp2_with fail
       go_ret;exact⟨rfl,B2.out⟩
     . rw[key2 h5];have e5:(m==0)=false:=by simpa using h5
       have e6:((m:Int)==0)=false:=by simp;omega
       clear h1 h2 h3 key key2 h5 h4;go_enter Tryz.func293,Tryz.ntmps293;go_wp2_with fail
       refine U.out.mono ?_;rintro e w1 ⟨rfl,rfl⟩;go_wp2_with fail
       refine V.out.mono ?_;rintro e w1 ⟨rfl,rfl⟩;go_wp2_with fail
       go_ret;exact⟨rfl,B2.out⟩
 . obtain rfl:n=0:=by omega
   by_cases h5:m=0
   . rw[key h5];subst h5;clear h1 h2 h3 key key2;go_enter Tryz.func293,Tryz.ntmps293;go_wp2_with fail
     refine U.out.mono ?_;rintro e w1 ⟨rfl,rfl⟩;go_wp2_with fail
     refine V.out.mono ?_;rintro e w1 ⟨rfl,rfl⟩;go_wp2_with fail
     go_ret;exact⟨rfl,B2.out⟩
   . rw[key2 h5];have e5:(m==0)=false:=by simpa using h5
     have e6:((m:Int)==0)=false:=by simp;omega
     clear h1 h2 h3 key key2 h5;go_enter Tryz.func293,Tryz.ntmps293;go_wp2_with fail
     refine U.out.mono ?_;rintro e w1 ⟨rfl,rfl⟩;go_wp2_with fail
     refine V.out.mono ?_;rintro e w1 ⟨rfl,rfl⟩;go_wp2_with fail
     go_ret;exact⟨rfl,B2.out⟩
end
end Go.Proofs.YtdmmciggopmglaaGreatDoor.AR
namespace Go.Proofs.YtdmmciggopmglaaGreatDoor.AR
open Go.RowKit Sg
def rmR(R:Rw4)(key:ByteArray):Rw4:=λk=>rem (R k) key
def rmK(R:Rw4)(key:ByteArray)(k:Nat):Rw4:=λj=>if j < k then rem (R j) key else R j
theorem rmK_at(R:Rw4)(key:ByteArray)(k:Nat):rmK R key k k=R k:=by unfold rmK;rw[if_neg (Nat.lt_irrefl k)]
theorem rmK_next(R:Rw4)(key:ByteArray)(k j:Nat):rmK R key (k+1) j=upd (rmK R key k) k (rem (R k) key) j:=by
 unfold rmK upd
 by_cases e:j=k
 . subst e;simp
 . simp only[e,if_false]
   by_cases h:j < k
   . rw[if_pos h,if_pos (by omega)]
   . rw[if_neg h,if_neg (by omega)]
def putR(R:Rw4)(key:ByteArray)(k:Nat):Rw4:=upd (rmR R key) k (key::rem (R k) key)
theorem lv_two(R:Rw4)(p:Nat)(q:Bool):lv R p q=0\/lv R p q=1:=by unfold lv;split <;> simp
def rpU(mo p:Nat)(R:Rw4):Nat:=p+min (max ((R 3).length / (R 2).length) 1) (mo - p)
def lpU(p:Nat)(R:Rw4):Nat:=p - min (max ((R 2).length / (R 3).length) 1) p
theorem idx4_0(w:World)(x0 x1 x2 x3:Value):(Instr.index 172 (.agg #[x0,x1,x2,x3]) (.int .i64 0)).run Tryz.prog w= .ok x0 w:=by kernel_rfl
theorem idx4_1(w:World)(x0 x1 x2 x3:Value):(Instr.index 172 (.agg #[x0,x1,x2,x3]) (.int .i64 1)).run Tryz.prog w= .ok x1 w:=by kernel_rfl
theorem idx4_2(w:World)(x0 x1 x2 x3:Value):(Instr.index 172 (.agg #[x0,x1,x2,x3]) (.int .i64 2)).run Tryz.prog w= .ok x2 w:=by kernel_rfl
theorem idx4_3(w:World)(x0 x1 x2 x3:Value):(Instr.index 172 (.agg #[x0,x1,x2,x3]) (.int .i64 3)).run Tryz.prog w= .ok x3 w:=by kernel_rfl
section
variable(w:World)(i:Ix)(S:Sx)(mo p:Nat)(R:Rw4)(b:Nat)(r:Raw w i S mo p R b)
include r
theorem removeW(key:ByteArray)(hs:key.size<=maxLen):Calls Tryz.prog 286 #[.pointer (some ⟨i.c,0,none⟩),.string key] w (RPost (.bool (hit R key)) w i S mo p (rmR R key) b):=by
 obtain⟨_,_,c2,c3,c4,c5⟩:=r.cells;have U:=Lib.hid (hasW w i S mo p R b r key hs);have HH:=Lib.hid r;obtain⟨h,hh⟩:∃h,h=hit R key:=⟨_,rfl⟩;rw[← hh] at U|-;clear r hh;go_enter Tryz.func286,Tryz.ntmps286;go_wp2_with fail
 refine U.out.mono ?_;rintro e w1 ⟨rfl,rfl⟩;go_wp2_with fail
 go_loopw [15] (λz W=>∃(k:Nat) (S':Sx),z= .int .i64 (k:Int)/\k<=4/\Raw W i S' mo p (rmK R key k) b/\Went w W (blk i S) (blk i S')) (λz _=>4 - (intOf z).toNat)
 case atStart=>exact⟨0,S,rfl,by omega,HH.out.congr (λk _=>by unfold rmK;rw[if_neg (by omega)]),Went.refl _ _⟩
 case round=>
  obtain⟨k,S',rfl,hk,hR,hW⟩:=hrel;have HR:=Lib.hid hR;have HW:=Lib.hid hW;clear hR hW c2 c3 c4 c5;rcases k with _|_|_|_|_|k
  . have V:=ls_remove wr (i.r 0) (S' 0) _ b (HR.out.ls 0 (by omega)) key hs;rw[rmK_at] at V;have V:=Lib.hid V;have X:=idx4_0;go_wp2_with fail
    refine V.out.mono ?_;intro e w2 hp;obtain⟨rfl,S2,r2,hW2⟩:=HR.out.on (show 0 < 4 by omega) hp (Nat.le_refl _);have N2:=Lib.hid (show ∃S2,Raw w2 i S2 mo p (rmK R key 1) b/\Went w w2 (blk i S) (blk i S2) from⟨S2,r2.congr (λj _=>rmK_next R key 0 j),HW.out.trans hW2⟩);clear hp r2 hW2 V;go_wp2_with fail
    go_roundw
    case rel=>
     obtain⟨S2,h1,h2⟩:=N2.out;exact⟨1,S2,by go_num,by omega,h1,h2⟩
    case measure=>simp[intOf]
  . have V:=ls_remove wr (i.r 1) (S' 1) _ b (HR.out.ls 1 (by omega)) key hs;rw[rmK_at] at V;have V:=Lib.hid V;have X:=idx4_1;go_wp2_with fail
    refine V.out.mono ?_;intro e w2 hp;obtain⟨rfl,S2,r2,hW2⟩:=HR.out.on (show 1 < 4 by omega) hp (Nat.le_refl _);have N2:=Lib.hid (show ∃S2,Raw w2 i S2 mo p (rmK R key 2) b/\Went w w2 (blk i S) (blk i S2) from⟨S2,r2.congr (λj _=>rmK_next R key 1 j),HW.out.trans hW2⟩);clear hp r2 hW2 V;go_wp2_with fail
    go_roundw
    case rel=>
     obtain⟨S2,h1,h2⟩:=N2.out;exact⟨2,S2,by go_num,by omega,h1,h2⟩
    case measure=>simp[intOf]
  . have V:=ls_remove wr (i.r 2) (S' 2) _ b (HR.out.ls 2 (by omega)) key hs;rw[rmK_at] at V;have V:=Lib.hid V;have X:=idx4_2;go_wp2_with fail
    refine V.out.mono ?_;intro e w2 hp;obtain⟨rfl,S2,r2,hW2⟩:=HR.out.on (show 2 < 4 by omega) hp (Nat.le_refl _);have N2:=Lib.hid (show ∃S2,Raw w2 i S2 mo p (rmK R key 3) b/\Went w w2 (blk i S) (blk i S2) from⟨S2,r2.congr (λj _=>rmK_next R key 2 j),HW.out.trans hW2⟩);clear hp r2 hW2 V;go_wp2_with fail
    go_roundw
    case rel=>
     obtain⟨S2,h1,h2⟩:=N2.out;exact⟨3,S2,by go_num,by omega,h1,h2⟩
    case measure=>simp[intOf]
  . have V:=ls_remove wr (i.r 3) (S' 3) _ b (HR.out.ls 3 (by omega)) key hs;rw[rmK_at] at V;have V:=Lib.hid V;have X:=idx4_3;go_wp2_with fail
    refine V.out.mono ?_;intro e w2 hp;obtain⟨rfl,S2,r2,hW2⟩:=HR.out.on (show 3 < 4 by omega) hp (Nat.le_refl _);have N2:=Lib.hid (show ∃S2,Raw w2 i S2 mo p (rmK R key 4) b/\Went w w2 (blk i S) (blk i S2) from⟨S2,r2.congr (λj _=>rmK_next R key 3 j),HW.out.trans hW2⟩);clear hp r2 hW2 V;go_wp2_with fail
    go_roundw
    case rel=>
     obtain⟨S2,h1,h2⟩:=N2.out;exact⟨4,S2,by go_num,by omega,h1,h2⟩
    case measure=>simp[intOf]
  . go_wp2_with fail
    go_ret;exact⟨rfl,S',HR.out.congr (λj hj=>by unfold rmK rmR;rw[if_pos (by omega)]),HW.out⟩
  . omega
theorem putW0(key:ByteArray)(hs:key.size<=maxLen)(hb:b<=98500):Calls Tryz.prog 291 #[.pointer (some ⟨i.c,0,none⟩),.string key,.int .i64 0] w (RPost (.tuple #[]) w i S mo p (putR R key 0) (b+1)):=by
 have U:=Lib.hid (removeW w i S mo p R b r key hs);generalize hit R key=h at U;clear r;go_enter Tryz.func291,Tryz.ntmps291;go_wp2_with fail
 refine U.out.mono ?_;rintro e w1 ⟨rfl,S1,r1,hW1⟩;have c2:w1.cell? ⟨i.c,2,none⟩=some (.pointer (some ⟨i.r 0,0,none⟩)):=r1.cells.2.2.1;have hl:=(r1.ls 0 (by omega)).len;have V:=Lib.hid (ls_front_new w1 (i.r 0) (S1 0) _ b (r1.ls 0 (by omega)) key (b+1) (show key∉rem (R 0) key from rem_not) hs (by omega) (by omega) (by omega));have R1:=Lib.hid r1;have W1:=Lib.hid hW1;clear r1 hW1 hl U;go_wp2_with fail
 refine V.out.mono ?_;intro e w2 hp;have P:=Lib.hid (RPost.trans W1.out (R1.out.on (show 0 < 4 by omega) hp (by omega)));obtain⟨rfl,_⟩:=hp;go_wp2_with fail
 go_end0;exact P.out
theorem putW1(key:ByteArray)(hs:key.size<=maxLen)(hb:b<=98500):Calls Tryz.prog 291 #[.pointer (some ⟨i.c,0,none⟩),.string key,.int .i64 1] w (RPost (.tuple #[]) w i S mo p (putR R key 1) (b+1)):=by
 have U:=Lib.hid (removeW w i S mo p R b r key hs);generalize hit R key=h at U;clear r;go_enter Tryz.func291,Tryz.ntmps291;go_wp2_with fail
 refine U.out.mono ?_;rintro e w1 ⟨rfl,S1,r1,hW1⟩;have c3:w1.cell? ⟨i.c,3,none⟩=some (.pointer (some ⟨i.r 1,0,none⟩)):=r1.cells.2.2.2.1;have hl:=(r1.ls 1 (by omega)).len;have V:=Lib.hid (ls_front_new w1 (i.r 1) (S1 1) _ b (r1.ls 1 (by omega)) key (b+1) (show key∉rem (R 1) key from rem_not) hs (by omega) (by omega) (by omega));have R1:=Lib.hid r1;have W1:=Lib.hid hW1;clear r1 hW1 hl U;go_wp2_with fail
 refine V.out.mono ?_;intro e w2 hp;have P:=Lib.hid (RPost.trans W1.out (R1.out.on (show 1 < 4 by omega) hp (by omega)));obtain⟨rfl,_⟩:=hp;go_wp2_with fail
 go_end0;exact P.out
set_option maxHeartbeats 1000000 in
theorem raiseW(h2:0 < (R 2).length)(hp:p<=mo):Calls Tryz.prog 296 #[.pointer (some ⟨i.c,0,none⟩)] w (RPost (.tuple #[]) w i S mo (rpU mo p R) R b):=by
 have hb1:=(Below.refl w.heap.size w).alloc (Nat.le_refl _) (.cells #[.int .i64 3] 3);have hb2:=hb1.alloc hb1.size (.cells #[.int .i64 2] 3);have U:=count_one w i S mo p R b r 3 (by omega);have V:=count_one (w.alloc (.cells #[.int .i64 3] 3)) i S mo p R b (r.below hb1) 2 (by omega);have hl:=(r.ls 3 (by omega)).len;have ht:=r.top;have HR:=Lib.hid (r.below hb2);have HB:=Lib.hid hb2;unfold rpU;generalize(R 3).length=n at*;generalize(R 2).length=m at*;obtain⟨u,hu⟩:∃u,u=n / m:=⟨_,rfl⟩;have hun:u<=n:=by rw[hu];exact Nat.div_le_self _ _
 have e1:(n:Int).tdiv (m:Int)=(u:Int):=by rw[hu,Int.tdiv_eq_ediv_of_nonneg (by omega)];rfl
 have e2:IntKind.i64.wrap (u:Int)=(u:Int):=IntWalk.i64_in _ (by omega);obtain⟨q,hq⟩:∃q,q=max u 1:=⟨_,rfl⟩;have e3:(if(u:Int) < 1 then(1:Int) else(u:Int))=(q:Int):=by rw[hq];split <;> omega
 have e4:max (u:Int) 1=(q:Int):=by omega
 have e5:(m==0)=false:=by simp;omega
 have e6:((m:Int)==0)=false:=by simp;omega
 have e7:(m:Int)≠0:=by omega
 have e8:m≠0:=by omega
 obtain⟨d,hd⟩:∃d,d=mo - p:=⟨_,rfl⟩;have f1:IntKind.i64.wrap ((mo:Int) - (p:Int))=(d:Int):=by rw[IntWalk.i64_in _ (by omega)];omega
 obtain⟨x,hx⟩:∃x,x=min q d:=⟨_,rfl⟩;have f2:(if d < q then(d:Int) else(q:Int))=(x:Int):=by rw[hx];split <;> omega
 have f3:min (q:Int) (d:Int)=(x:Int):=by omega
 have f4:IntKind.i64.wrap ((p:Int)+(x:Int))=((p+x:Nat):Int):=by rw[IntWalk.i64_in _ (by omega)];omega
 have HT:=Lib.hid (show p+x<=9223372036854775807 by omega);rw[← hu,<-hq,<-hd,<-hx];have U:=Lib.hid (show Calls Tryz.prog 294 #[.pointer (some ⟨i.c,0,none⟩),.slice (some ⟨w.heap.size,0,none⟩) 1 1] (w.alloc (.cells #[.int .i64 3] 3)) (IntPost (n:Int) (w.alloc (.cells #[.int .i64 3] 3))) from U);have V:=Lib.hid (show Calls Tryz.prog 294 #[.pointer (some ⟨i.c,0,none⟩),.slice (some ⟨(w.alloc (.cells #[.int .i64 3] 3)).heap.size,0,none⟩) 1 1] ((w.alloc (.cells #[.int .i64 3] 3)).alloc (.cells #[.int .i64 2] 3)) (IntPost (m:Int) ((w.alloc (.cells #[.int .i64 3] 3)).alloc (.cells #[.int .i64 2] 3))) from V);rw[show(w.alloc (.cells #[.int .i64 3] 3)).heap.size=w.heap.size+1 by simp] at V;clear r hb1 hb2 hu hq hun h2 hl hd hx hp ht;go_enter Tryz.func296,Tryz.ntmps296;go_wp2_with fail
 refine U.out.mono ?_;rintro e w1 ⟨rfl,rfl⟩;go_wp2_with fail
 refine V.out.mono ?_;rintro e w1 ⟨rfl,rfl⟩;go_wp2_with fail
 generalize(w.alloc (.cells #[.int .i64 3] 3)).alloc (.cells #[.int .i64 2] 3)=w2 at HR HB|-;obtain⟨c0,c1,_⟩:=HR.out.cells;obtain⟨_,f1⟩:=HR.out.froz;clear e1 e2 e3 e4 e5 e6 e7 e8 U V;go_region;go_wp2_with fail
 go_end0;exact⟨rfl,S,(HR.out.below (below_drewN w2 1)).setP _ HT.out |>.1,(Went.below (HB.out.trans ((below_drewN w2 1).mono HB.out.size))).trans (Went.same ((HR.out.below (below_drewN w2 1)).setP _ HT.out).2)⟩
set_option maxHeartbeats 1000000 in
theorem lowerW(h2:0 < (R 3).length)(_:p<=mo):Calls Tryz.prog 290 #[.pointer (some ⟨i.c,0,none⟩)] w (RPost (.tuple #[]) w i S mo (lpU p R) R b):=by
 have hb1:=(Below.refl w.heap.size w).alloc (Nat.le_refl _) (.cells #[.int .i64 2] 3);have hb2:=hb1.alloc hb1.size (.cells #[.int .i64 3] 3);have U:=count_one w i S mo p R b r 2 (by omega);have V:=count_one (w.alloc (.cells #[.int .i64 2] 3)) i S mo p R b (r.below hb1) 3 (by omega);have hl:=(r.ls 2 (by omega)).len;have ht:=r.top;have HR:=Lib.hid (r.below hb2);have HB:=Lib.hid hb2;unfold lpU;generalize(R 2).length=n at*;generalize(R 3).length=m at*;obtain⟨u,hu⟩:∃u,u=n / m:=⟨_,rfl⟩;have hun:u<=n:=by rw[hu];exact Nat.div_le_self _ _
 have e1:(n:Int).tdiv (m:Int)=(u:Int):=by rw[hu,Int.tdiv_eq_ediv_of_nonneg (by omega)];rfl
 have e2:IntKind.i64.wrap (u:Int)=(u:Int):=IntWalk.i64_in _ (by omega);obtain⟨q,hq⟩:∃q,q=max u 1:=⟨_,rfl⟩;have e3:(if(u:Int) < 1 then(1:Int) else(u:Int))=(q:Int):=by rw[hq];split <;> omega
 have e4:max (u:Int) 1=(q:Int):=by omega
 have e5:(m==0)=false:=by simp;omega
 have e6:((m:Int)==0)=false:=by simp;omega
 have e7:(m:Int)≠0:=by omega
 have e8:m≠0:=by omega
 obtain⟨x,hx⟩:∃x,x=min q p:=⟨_,rfl⟩;have f2:(if p < q then(p:Int) else(q:Int))=(x:Int):=by rw[hx];split <;> omega
 have f3:min (q:Int) (p:Int)=(x:Int):=by omega
 have f4:IntKind.i64.wrap ((p:Int) - (x:Int))=((p - x:Nat):Int):=by rw[IntWalk.i64_in _ (by omega)];omega
 have HT:=Lib.hid (show p - x<=9223372036854775807 by omega);rw[← hu,<-hq,<-hx];have U:=Lib.hid (show Calls Tryz.prog 294 #[.pointer (some ⟨i.c,0,none⟩),.slice (some ⟨w.heap.size,0,none⟩) 1 1] (w.alloc (.cells #[.int .i64 2] 3)) (IntPost (n:Int) (w.alloc (.cells #[.int .i64 2] 3))) from U);have V:=Lib.hid (show Calls Tryz.prog 294 #[.pointer (some ⟨i.c,0,none⟩),.slice (some ⟨(w.alloc (.cells #[.int .i64 2] 3)).heap.size,0,none⟩) 1 1] ((w.alloc (.cells #[.int .i64 2] 3)).alloc (.cells #[.int .i64 3] 3)) (IntPost (m:Int) ((w.alloc (.cells #[.int .i64 2] 3)).alloc (.cells #[.int .i64 3] 3))) from V);rw[show(w.alloc (.cells #[.int .i64 2] 3)).heap.size=w.heap.size+1 by simp] at V;clear r hb1 hb2 hu hq hun h2 hl hx ht;go_enter Tryz.func290,Tryz.ntmps290;go_wp2_with fail
 refine U.out.mono ?_;rintro e w1 ⟨rfl,rfl⟩;go_wp2_with fail
 refine V.out.mono ?_;rintro e w1 ⟨rfl,rfl⟩;go_wp2_with fail
 generalize(w.alloc (.cells #[.int .i64 2] 3)).alloc (.cells #[.int .i64 3] 3)=w2 at HR HB|-;obtain⟨c0,c1,_⟩:=HR.out.cells;obtain⟨_,f1⟩:=HR.out.froz;clear e1 e2 e3 e4 e5 e6 e7 e8 U V;go_region;go_wp2_with fail
 go_end0;exact⟨rfl,S,(HR.out.below (below_drewN w2 1)).setP _ HT.out |>.1,(Went.below (HB.out.trans ((below_drewN w2 1).mono HB.out.size))).trans (Went.same ((HR.out.below (below_drewN w2 1)).setP _ HT.out).2)⟩
end
end Go.Proofs.YtdmmciggopmglaaGreatDoor.AR
namespace Go.Proofs.YtdmmciggopmglaaGreatDoor.AR
open Go.RowKit Sg
def szA(n0 n1 n2 n3:Int):Nat->Array Value
 |0=>#[.int .i64 0,.int .i64 0,.int .i64 0,.int .i64 0]
 |1=>#[.int .i64 n0,.int .i64 0,.int .i64 0,.int .i64 0]
 |2=>#[.int .i64 n0,.int .i64 n1,.int .i64 0,.int .i64 0]
 |3=>#[.int .i64 n0,.int .i64 n1,.int .i64 n2,.int .i64 0]
 |_=>#[.int .i64 n0,.int .i64 n1,.int .i64 n2,.int .i64 n3]
theorem results_c{fn:Func}{a:Tmp}{ty:TypeId}(h:fn.results= #[.cell a ty])(tmps:Array Value)(P:Program)(w:World)(p:Addr)(v:Value)(ha:tmps.getD a undef= .pointer (some p))(hv:(loadVar ty p).run P w= .ok v w):
 (results fn tmps).run P w= .ok v w:=by
 rw[Array.getD_eq_getD_getElem?] at ha;simp[results,h,ha,asAddr,hv]
section
variable(w:World)(i:Ix)(S:Sx)(mo p:Nat)(R:Rw4)(b:Nat)(r:Raw w i S mo p R b)
include r
end
def nwA(mo:Nat)(r:Nat->Nat):Nat->Array Value
 |0=>#[.int .i64 (mo:Int),.int .i64 0,.pointer none,.pointer none,.pointer none,.pointer none]
 |1=>#[.int .i64 (mo:Int),.int .i64 0,.pointer (some ⟨r 0,0,none⟩),.pointer none,.pointer none,.pointer none]
 |2=>#[.int .i64 (mo:Int),.int .i64 0,.pointer (some ⟨r 0,0,none⟩),.pointer (some ⟨r 1,0,none⟩),.pointer none,.pointer none]
 |3=>#[.int .i64 (mo:Int),.int .i64 0,.pointer (some ⟨r 0,0,none⟩),.pointer (some ⟨r 1,0,none⟩),.pointer (some ⟨r 2,0,none⟩),.pointer none]
 |_=>#[.int .i64 (mo:Int),.int .i64 0,.pointer (some ⟨r 0,0,none⟩),.pointer (some ⟨r 1,0,none⟩),.pointer (some ⟨r 2,0,none⟩),.pointer (some ⟨r 3,0,none⟩)]
structure NwR(w:World)(arr:Array Value)(r:Nat->Nat)(S:Sx)(k:Nat)(W:World):Prop where
 box:W.heap[w.heap.size]?=some (.cells arr 174 (0,0))
 ls:∀j,j < k->LS W (r j) (S j) [] 0
 up:∀j,j < k->∀x,S j x->w.heap.size < x
 sep:∀j l,j < k->l < k->j≠l->∀x,S j x->¬S l x
 bel:Below w.heap.size w W
section
variable{w W W':World}{arr arr':Array Value}{r:Nat->Nat}{S:Sx}{k:Nat}{e:Ending}
theorem NwR.lt(h:NwR w arr r S k W):w.heap.size < W.heap.size:=(Array.getElem?_eq_some_iff.1 h.box).1
theorem NwR.below(h:NwR w arr r S k W)(hb:Below W.heap.size W W'):NwR w arr r S k W':=
 ⟨(hb.block _ h.lt).trans h.box,λj hj=>(h.ls j hj).kept hb.size λx hx=>hb.block x ((h.ls j hj).lt hx),h.up,h.sep,h.bel.trans (hb.mono h.bel.size)⟩
theorem NwR.store(h:NwR w arr r S k W)(o:Nat)(v:Value)(ha:arr'=arr.setIfInBounds o v):NwR w arr' r S k (W.setCell ⟨w.heap.size,o,none⟩ v):=by
 refine⟨by rw[heap_setCell_same _ _ _ _ _ _ h.box,ha],λj hj=>(h.ls j hj).kept (by simp[World.setCell]) λx hx=>Below.heap_setCell _ _ _ _ (λe=>?_),h.up,h.sep,h.bel.setCell (p:=⟨w.heap.size,o,none⟩) (Nat.le_refl _) v⟩;have:=h.up j hj x hx;have e:x=w.heap.size:=e;omega
theorem NwR.list(h:NwR w arr r S k W)(hp:NewL W e W'):∃l S',e= .returned (.pointer (some ⟨l,0,none⟩))/\NwR w arr (upd r k l) S' (k+1) W':=by
 obtain⟨l,S0,he,h1,h2,h3⟩:=hp;have h':=h.below h3;have hlt:=h.lt;refine⟨l,λj=>if j=k then S0 else S j,he,h'.box,λj hj=>?_,λj hj x hx=>?_,λj l hj hl hne x hx hx2=>?_,h'.bel⟩
 . by_cases e:j=k
   . subst e;rw[upd_same,if_pos rfl];exact h2
   . rw[upd_ne e,if_neg e];exact h'.ls j (by omega)
 . by_cases e:j=k
   . rw[if_pos e] at hx;have:=h1 x hx;omega
   . rw[if_neg e] at hx;exact h.up j (by omega) x hx
 . by_cases e:j=k
   . by_cases e2:l=k
     . omega
     . rw[if_pos e] at hx;rw[if_neg e2] at hx2;have:=h1 x hx;have:=(h.ls l (by omega)).lt hx2;omega
   . rw[if_neg e] at hx
     by_cases e2:l=k
     . rw[if_pos e2] at hx2;have:=h1 x hx2;have:=(h.ls j (by omega)).lt hx;omega
     . rw[if_neg e2] at hx2;exact h.sep j l (by omega) (by omega) hne x hx hx2
end
def NewC(mo:Nat)(w:World)(e:Ending)(w':World):Prop:=∃i S,e= .returned (.pointer (some ⟨i.c,0,none⟩))/\Raw w' i S mo 0 (λ_=>[]) 0/\(∀k,blk i S k->w.heap.size<=k)/\Below w.heap.size w w'
theorem NwR.made{w W:World}{mo:Nat}{r:Nat->Nat}{S:Sx}(h:NwR w (nwA mo r 4) r S 4 W)(hm:mo<=9223372036854775807):NewC mo w (.returned (.pointer (some ⟨w.heap.size,0,none⟩))) W:=by
 refine⟨⟨w.heap.size,r⟩,S,rfl,⟨h.box,λk hk=>h.ls k hk,λj k hj hk=>h.sep j k hj hk,λk hk hx=>?_,hm,by omega⟩,λx hx=>?_,h.bel⟩
 . have:=h.up k hk _ hx;exact Nat.lt_irrefl _ this
 . rcases hx with hx|⟨k,hk,hx⟩
   . exact Nat.le_of_eq hx.symm
   . exact Nat.le_of_lt (h.up k hk x hx)
theorem NwR.start(w:World)(mo:Nat):NwR w (nwA mo (λ_=>0) 0) (λ_=>0) (λ_ _=>False) 0 (w.alloc (.cells (nwA mo (λ_=>0) 0) 174)):=
 ⟨heap_alloc_new _ _,λ_ hj=>absurd hj (Nat.not_lt_zero _),λ_ hj=>absurd hj (Nat.not_lt_zero _),λ_ _ hj=>absurd hj (Nat.not_lt_zero _),(Below.refl _ _).alloc (Nat.le_refl _) _⟩
set_option maxHeartbeats 1000000 in
theorem newW(w:World)(z:Int)(n:Nat)(hz: -9223372036854775808<=z/\z<=9223372036854775807)(hn:n=z.toNat):Calls Tryz.prog 65 #[.int .i64 z] w (NewC n w):=by
 have e1:(if z < 0 then(0:Int) else z)=(n:Int):=by split <;> omega
 have hmax:max z 0=(n:Int):=by omega
 have HM:=Lib.hid (show n<=9223372036854775807 by omega);have S0:=Lib.hid (NwR.start w n);clear hn;go_enter Tryz.func65,Tryz.ntmps65;go_wp2_with fail
 go_loopw [9] (λz W=>∃(k:Nat) (r:Nat->Nat) (S:Sx),z= .int .i64 (k:Int)/\k<=4/\NwR w (nwA n r k) r S k W) (λz _=>4 - (intOf z).toNat)
 case atStart=>exact⟨0,_,_,rfl,by omega,S0.out⟩
 case round=>
  obtain⟨k,r,S,rfl,hk,hR⟩:=hrel;clear hmax e1;have HR:=Lib.hid hR;rcases k with _|_|_|_|_|k
  . have U:=Lib.hid (ls_new wr.drew);have D:=Lib.hid (hR.below (show Below wr.heap.size wr wr.drew from⟨rfl,rfl,rfl,Nat.le_refl _,λ_ _=>rfl⟩));clear hR;go_wp2_with fail
    go_region_with((go_at_call 55;refine U.out.mono ?_;intro e w2 hp;obtain⟨l,S2,rfl,h2⟩:=D.out.list hp;have f2:=frozen_of_row w2 _ 2 _ _ h2.box;have c2:w2.cell? ⟨w.heap.size,2,none⟩=some (.pointer none):=cell_of_row w2 _ 2 _ _ _ h2.box;have N2:=Lib.hid (h2.store 2 (.pointer (some ⟨l,0,none⟩)) (arr':=nwA n (upd r 0 l) 1) (by rfl));clear hp h2))
    all_goals
     go_wp2_with fail
     go_roundw
     case rel=>exact⟨1,_,S2,by go_num,by omega,N2.out⟩
     case measure=>simp[intOf]
  . have U:=Lib.hid (ls_new wr.drew);have D:=Lib.hid (hR.below (show Below wr.heap.size wr wr.drew from⟨rfl,rfl,rfl,Nat.le_refl _,λ_ _=>rfl⟩));clear hR;go_wp2_with fail
    go_region_with((go_at_call 55;refine U.out.mono ?_;intro e w2 hp;obtain⟨l,S2,rfl,h2⟩:=D.out.list hp;have f2:=frozen_of_row w2 _ 3 _ _ h2.box;have c2:w2.cell? ⟨w.heap.size,3,none⟩=some (.pointer none):=cell_of_row w2 _ 3 _ _ _ h2.box;have N2:=Lib.hid (h2.store 3 (.pointer (some ⟨l,0,none⟩)) (arr':=nwA n (upd r 1 l) 2) (by rfl));clear hp h2))
    all_goals
     go_wp2_with fail
     go_roundw
     case rel=>exact⟨2,_,S2,by go_num,by omega,N2.out⟩
     case measure=>simp[intOf]
  . have U:=Lib.hid (ls_new wr.drew);have D:=Lib.hid (hR.below (show Below wr.heap.size wr wr.drew from⟨rfl,rfl,rfl,Nat.le_refl _,λ_ _=>rfl⟩));clear hR;go_wp2_with fail
    go_region_with((go_at_call 55;refine U.out.mono ?_;intro e w2 hp;obtain⟨l,S2,rfl,h2⟩:=D.out.list hp;have f2:=frozen_of_row w2 _ 4 _ _ h2.box;have c2:w2.cell? ⟨w.heap.size,4,none⟩=some (.pointer none):=cell_of_row w2 _ 4 _ _ _ h2.box;have N2:=Lib.hid (h2.store 4 (.pointer (some ⟨l,0,none⟩)) (arr':=nwA n (upd r 2 l) 3) (by rfl));clear hp h2))
    all_goals
     go_wp2_with fail
     go_roundw
     case rel=>exact⟨3,_,S2,by go_num,by omega,N2.out⟩
     case measure=>simp[intOf]
  . have U:=Lib.hid (ls_new wr.drew);have D:=Lib.hid (hR.below (show Below wr.heap.size wr wr.drew from⟨rfl,rfl,rfl,Nat.le_refl _,λ_ _=>rfl⟩));clear hR;go_wp2_with fail
    go_region_with((go_at_call 55;refine U.out.mono ?_;intro e w2 hp;obtain⟨l,S2,rfl,h2⟩:=D.out.list hp;have f2:=frozen_of_row w2 _ 5 _ _ h2.box;have c2:w2.cell? ⟨w.heap.size,5,none⟩=some (.pointer none):=cell_of_row w2 _ 5 _ _ _ h2.box;have N2:=Lib.hid (h2.store 5 (.pointer (some ⟨l,0,none⟩)) (arr':=nwA n (upd r 3 l) 4) (by rfl));clear hp h2))
    all_goals
     go_wp2_with fail
     go_roundw
     case rel=>exact⟨4,_,S2,by go_num,by omega,N2.out⟩
     case measure=>simp[intOf]
  . go_wp2_with fail
    go_ret;exact hR.made HM.out
  . omega
end Go.Proofs.YtdmmciggopmglaaGreatDoor.AR
namespace Go.Proofs.YtdmmciggopmglaaGreatDoor.AR
open Go.RowKit Sg
def lenR(R:Rw4):Nat:=(R 0).length+(R 1).length
def totR(R:Rw4):Nat:=(R 0).length+(R 1).length+(R 2).length+(R 3).length
def cut1(p:Nat)(q:Bool)(R:Rw4):Rw4:=upd (upd R (lv R p q) (R (lv R p q)).dropLast) (lv R p q+2) (lastKey (R (lv R p q))::rem (R (lv R p q+2)) (lastKey (R (lv R p q))))
def cutn(p:Nat)(q:Bool)(R:Rw4):Nat->Rw4
 |0=>R
 |n+1=>cut1 p q (cutn p q R n)
def outs(p:Nat)(q:Bool)(R:Rw4):Nat->List ByteArray
 |0=>[]
 |n+1=>outs p q R n++ [lastKey (cutn p q R n (lv (cutn p q R n) p q))]
theorem lv_pos{R:Rw4}{p:Nat}{q:Bool}(h:0 < lenR R):0 < (R (lv R p q)).length:=by
 unfold lenR at h;unfold lv;split
 . rename_i h2
   rcases h2 with h2|⟨h2,_⟩|h2 <;> omega
 . rename_i h2
   have:(R 1).length≠0:=λe=>h2 (Or.inr (Or.inr e));omega
theorem lv_lt(R:Rw4)(p:Nat)(q:Bool):lv R p q < 4/\lv R p q+2 < 4:=by rcases lv_two R p q with h|h <;> omega
theorem last_mem{xs:List ByteArray}(h:0 < xs.length):lastKey xs∈xs:=by
 have h2:xs≠ []:=λe=>by rw[e] at h;exact Nat.lt_irrefl _ h
 unfold lastKey;rw[List.getLastD_eq_getLast?,List.getLast?_eq_some_getLast h2];exact List.getLast_mem h2
theorem any_pos{xs:List ByteArray}(h:0 < xs.length):anyKey xs=true:=by cases xs;exact absurd h (Nat.lt_irrefl _);rfl
theorem cut1_len{R:Rw4}{p:Nat}{q:Bool}(h:0 < lenR R):lenR (cut1 p q R)+1=lenR R:=by
 have hp:=lv_pos (p:=p) (q:=q) h;unfold cut1;rcases lv_two R p q with e|e <;> rw[e] at hp|- <;> simp[lenR,upd] <;> omega
theorem cut1_tot{R:Rw4}{p:Nat}{q:Bool}(h:0 < lenR R):totR (cut1 p q R)<=totR R:=by
 have hp:=lv_pos (p:=p) (q:=q) h;have r2:=rem_le (R 2) (lastKey (R 0));have r3:=rem_le (R 3) (lastKey (R 1));unfold cut1;rcases lv_two R p q with e|e <;> rw[e] at hp|- <;> simp[totR,upd] <;> omega
theorem cutn_len{R:Rw4}{p:Nat}{q:Bool}:∀{n:Nat},n<=lenR R->lenR (cutn p q R n)+n=lenR R
 |0,_=>rfl
 |n+1,h=>by
  have h1:=cutn_len (R:=R) (p:=p) (q:=q) (n:=n) (by omega);have h2:=cut1_len (R:=cutn p q R n) (p:=p) (q:=q) (by omega);show lenR (cut1 p q (cutn p q R n))+(n+1)=_;omega
theorem cutn_tot{R:Rw4}{p:Nat}{q:Bool}:∀{n:Nat},n<=lenR R->totR (cutn p q R n)<=totR R
 |0,_=>Nat.le_refl _
 |n+1,h=>by
  have h1:=cutn_tot (R:=R) (p:=p) (q:=q) (n:=n) (by omega);have h2:=cutn_len (R:=R) (p:=p) (q:=q) (n:=n) (by omega);exact Nat.le_trans (cut1_tot (by omega)) h1
structure Side(F:FuncId)(p:Addr)(K:List ByteArray->(Nat->Prop)->World->Prop):Prop where
 enter:∀args w,(callFunc F args).run Tryz.prog w= .ok (.enter F args) w
 lt:∀vs X W,K vs X W->∀k,X k->k < W.heap.size
 same:∀vs X W W',K vs X W->W.heap.size<=W'.heap.size->(∀k,X k->W'.heap[k]?=W.heap[k]?)->K vs X W'
 call:∀vs X W x,K vs X W->vs.length<=100000->x.size<=maxLen->Calls Tryz.prog F #[.string x,.pointer (some p)] W (λe W'=>e= .returned (.tuple #[])/\∃X',K (vs++ [x]) X' W'/\Went W W' X X')
def both(i:Ix)(S:Sx)(X:Nat->Prop):Nat->Prop:=λk=>blk i S k\/X k
theorem went_out{w w':World}{S S':Nat->Prop}{k:Nat}(h:Went w w' S S')(hk:k < w.heap.size)(hn:¬S k):w'.heap[k]?=w.heap[k]?/\¬S' k:=
 ⟨h.turn.block k hk hn,λh1=>by rcases h.new k h1 with h|h;exact hn h;omega⟩
structure CAt(w W:World)(i:Ix)(S S':Sx)(X X':Nat->Prop)(K:List ByteArray->(Nat->Prop)->World->Prop)(mo p:Nat)(R:Rw4)(b:Nat)(vs:List ByteArray):Prop where
 raw:Raw W i S' mo p R b
 side:K vs X' W
 went:Went w W (both i S X) (both i S' X')
 dis:∀k,X' k->¬blk i S' k
section
variable{w W W2:World}{i:Ix}{S S' S2:Sx}{X X' X2:Nat->Prop}{K:List ByteArray->(Nat->Prop)->World->Prop}{mo p p' mo' b b':Nat}{R R':Rw4}{vs vs':List ByteArray}{F:FuncId}{a:Addr}{e:Ending}{v:Value}
theorem CAt.below(c:CAt w W i S S' X X' K mo p R b vs)(sd:Side F a K)(hb:Below W.heap.size W W2):CAt w W2 i S S' X X' K mo p R b vs:=
 ⟨c.raw.below hb,sd.same _ _ _ _ c.side hb.size λk hk=>hb.block k (sd.lt _ _ _ c.side k hk),c.went.trans (Went.below hb),c.dis⟩
theorem CAt.op(c:CAt w W i S S' X X' K mo p R b vs)(sd:Side F a K)(hp:RPost v W i S' mo' p' R' b' e W2):e= .returned v/\∃S2,CAt w W2 i S S2 X X' K mo' p' R' b' vs:=by
 obtain⟨he,S2,r2,hW⟩:=hp;have hx:=sd.lt _ _ _ c.side;have o:=λk (hk:X' k)=>went_out hW (hx k hk) (c.dis k hk);refine⟨he,S2,r2,sd.same _ _ _ _ c.side hW.turn.size λk hk=>(o k hk).1,c.went.trans ⟨λk hk=>?_,hW.turn.wide λk _ h=>Or.inl h⟩,λk hk=>(o k hk).2⟩;rcases hk with h|h
 . exact(hW.new k h).imp Or.inl id
 . exact Or.inl (Or.inr h)
theorem CAt.take(c:CAt w W i S S' X X' K mo p R b vs)(hk:K vs' X2 W2)(hW:Went W W2 X' X2):CAt w W2 i S S' X X2 K mo p R b vs':=by
 have o:=λk (hk:blk i S' k)=>went_out hW (c.raw.lt hk) (λh=>c.dis k h hk);refine⟨c.raw.kept hW.turn.size λk hk=>(o k hk).1,hk,c.went.trans ⟨λk hk=>?_,hW.turn.wide λk _ h=>Or.inr h⟩,λk hk h=>(o k h).2 hk⟩;rcases hk with h|h
 . exact Or.inl (Or.inl h)
 . exact(hW.new k h).imp Or.inr id
theorem CAt.start(r:Raw w i S mo p R b)(k:K vs X w)(hdis:∀k,X k->¬blk i S k):CAt w w i S S X X K mo p R b vs:=⟨r,k,Went.refl _ _,hdis⟩
theorem CAt.trans{w0:World}{S0:Sx}{X0:Nat->Prop}(c:CAt w0 w i S0 S X0 X K mo p R b vs)(d:CAt w W i S S' X X' K mo' p' R' b' vs'):CAt w0 W i S0 S' X0 X' K mo' p' R' b' vs':=⟨d.raw,d.side,c.went.trans d.went,d.dis⟩
end
def CuPost(w:World)(i:Ix)(S:Sx)(X:Nat->Prop)(K:List ByteArray->(Nat->Prop)->World->Prop)(mo p:Nat)(R:Rw4)(b:Nat)(vs:List ByteArray)(e:Ending)(w':World):Prop:=
 e= .returned (.tuple #[])/\∃S' X',CAt w w' i S S' X X' K mo p R b vs
def CRel(w:World)(i:Ix)(S:Sx)(X:Nat->Prop)(K:List ByteArray->(Nat->Prop)->World->Prop)(mo p:Nat)(q:Bool)(R:Rw4)(b:Nat)(vs:List ByteArray)(n k:Nat)(W:World):Prop:=
 ∃S' X' j,j+k=n/\CAt w W i S S' X X' K mo p (cutn p q R j) b (vs++outs p q R j)
set_option maxHeartbeats 2000000 in
theorem cutTo_any(w:World)(i:Ix)(S:Sx)(mo p:Nat)(R:Rw4)(b left:Nat)(q:Bool)(X:Nat->Prop)(K:List ByteArray->(Nat->Prop)->World->Prop)(F:FuncId)(a:Addr)(vs:List ByteArray)(r:Raw w i S mo p R b)(k:K vs X w)(hdis:∀k,X k->¬blk i S k)(sd:Side F a K)
 (hv:vs.length<=5) (hl:totR R<=b) (hb:b<=98500):
 Calls Tryz.prog 297 #[.pointer (some ⟨i.c,0,none⟩),.int .i64 (left:Int),.bool q,.func (.func F) #[] #[.pointer (some a)]] w (CuPost w i S X K mo p (cutn p q R (lenR R - left)) b (vs++outs p q R (lenR R - left))):=by
 have C0:CAt w w i S S X X K mo p (cutn p q R 0) b (vs++outs p q R 0):=by
  rw[show outs p q R 0= [] from rfl,List.append_nil];exact CAt.start r k hdis
 have HC:=Lib.hid C0;have SD:=Lib.hid sd;have hF:=sd.enter
 have HO:=Lib.hid (show ∀j,(outs p q R j).length=j from λj=>by
  induction j with
  |zero=>rfl
  |succ j ih=>show(outs p q R j++ [_]).length=_;rw[List.length_append,ih];rfl)
 clear r k hdis sd C0;go_enter Tryz.func297,Tryz.ntmps297;go_wp2_with fail
 go_loopg [] (lenR R - left) (λk W=>CRel w i S X K mo p q R b vs (lenR R - left) k W)
 case atStart=>exact⟨S,X,0,by omega,HC.out⟩
 case round=>
  obtain⟨S',X',j,hj,C⟩:=hrel;have hcl:=cutn_len (R:=R) (p:=p) (q:=q) (n:=j) (by omega);have hct:=cutn_tot (R:=R) (p:=p) (q:=q) (n:=j) (by omega);have U:=lenW wr i S' mo p _ b C.raw;obtain⟨n,hn⟩:∃n,n=lenR (cutn p q R j):=⟨_,rfl⟩;rw[show(cutn p q R j 0).length+(cutn p q R j 1).length=n from hn.symm] at U;have U:=Lib.hid U;have CC:=Lib.hid C;rw[← hn] at hcl;have HJ:=Lib.hid hj;have HN:=Lib.hid (And.intro hn (And.intro hcl hct));cases gk with
  |zero=>
   have e0:decide (left < n)=false:=by simp;omega
   clear C HC hn hj hcl hct;go_wp2_with fail
   refine U.out.mono ?_;rintro e w1 ⟨rfl,hB⟩;have C1:=Lib.hid (CC.out.below SD.out hB);clear hB U;go_wp2_with fail
   go_end0;obtain rfl:j=lenR R - left:=by have:=HJ.out;omega
   exact⟨rfl,S',X',C1.out⟩
  |succ gk=>
   have e0:decide (left < n)=true:=by simp;omega
   have hpos:0 < lenR (cutn p q R j):=by omega
   have PO:=Lib.hid (lv_pos (p:=p) (q:=q) hpos);have HV:=Lib.hid (show vs.length+j<=100000 by have:lenR R<=totR R:=(by unfold lenR totR;omega);omega);have HT:=Lib.hid hct;have HB:=Lib.hid (And.intro hl hb);have NX:=Lib.hid (show cutn p q R (j+1)=cut1 p q (cutn p q R j)/\outs p q R (j+1)=outs p q R j++ [lastKey (cutn p q R j (lv (cutn p q R j) p q))] from⟨rfl,rfl⟩);have HOJ:=Lib.hid (HO.out j);generalize outs p q R j=os at*;generalize cutn p q R j=Q at*;clear C HC hn hj hcl hct hpos hl hb HN HO;go_wp2_with fail
   refine U.out.mono ?_;rintro e w1 ⟨rfl,hB⟩;have C1:=Lib.hid (CC.out.below SD.out hB);have V:=leavingW w1 i S' mo p Q b C1.out.raw q;clear hB U CC;unfold cut1 at NX;rcases lv_two Q p q with hlv|hlv
   . rw[hlv] at V PO NX;have V:=Lib.hid (show Calls Tryz.prog 293 #[.pointer (some ⟨i.c,0,none⟩),.bool q] w1 (Stl (.int .i64 0) w1) from V);clear hlv;go_wp2_with fail
     refine V.out.mono ?_;rintro e w2 ⟨rfl,hB⟩;have C2:=Lib.hid (C1.out.below SD.out hB);have c0:w2.cell? ⟨i.c,2,none⟩=some (.pointer (some ⟨i.r 0,0,none⟩)):=C2.out.raw.cells.2.2.1;have Z:=ls_pop w2 (i.r 0) (S' 0) _ b (C2.out.raw.ls 0 (by omega));have hsm:=Lib.hid ((C2.out.raw.ls 0 (by omega)).small _ (last_mem PO.out));rw[any_pos PO.out] at Z;obtain⟨x,hx⟩:∃x,x=lastKey (Q 0):=⟨_,rfl⟩;rw[← hx] at Z hsm NX;have Z:=Lib.hid Z;clear hB V C1 hx;go_wp2_with fail
     refine Z.out.mono ?_;intro e w3 hp;obtain⟨rfl,S3,C3'⟩:=C2.out.op SD.out (C2.out.raw.on (show 0 < 4 by omega) hp (Nat.le_refl _));have C3:=Lib.hid C3';have d0:w3.cell? ⟨i.c,4,none⟩=some (.pointer (some ⟨i.r 2,0,none⟩)):=C3'.raw.cells.2.2.2.2.1
     have Y:=ls_front w3 (i.r 2) (S3 2) _ b (C3'.raw.ls 2 (by omega)) x b hsm.out (by have:=HB.out;omega) (Nat.le_refl _) (by
      rw[upd_ne (by omega)];have h1:=rem_le (Q 2) x;have h2:=HT.out;have h3:=PO.out;have h4:=HB.out.1;unfold totR at h2 h4;omega)
     rw[upd_ne (by omega)] at Y;have Y:=Lib.hid Y;clear hp C3' Z c0 C2;go_wp2_with fail
     refine Y.out.mono ?_;intro e w4 hp;obtain⟨rfl,S4,C4'⟩:=C3.out.op SD.out (C3.out.raw.on (show 2 < 4 by omega) hp (Nat.le_refl _));have C4:=Lib.hid C4';have TK:=Lib.hid (SD.out.call _ _ _ x C4'.side (by rw[List.length_append,HOJ.out];exact HV.out) hsm.out);clear hp C4' Y d0 C3;go_wp2_with fail
     refine TK.out.mono ?_;rintro e w5 ⟨rfl,X5,hk,hW⟩;have C5:=Lib.hid (C4.out.take hk hW);clear hk hW TK C4;go_wp2_with fail
     go_roundg gk
     case measure=>omega
     case rel=>
      refine⟨S4,X5,j+1,by have:=HJ.out;omega,?_⟩;rw[NX.out.1,NX.out.2,<-List.append_assoc];exact C5.out
   . rw[hlv] at V PO NX;have V:=Lib.hid (show Calls Tryz.prog 293 #[.pointer (some ⟨i.c,0,none⟩),.bool q] w1 (Stl (.int .i64 1) w1) from V);clear hlv;go_wp2_with fail
     refine V.out.mono ?_;rintro e w2 ⟨rfl,hB⟩;have C2:=Lib.hid (C1.out.below SD.out hB);have c1:w2.cell? ⟨i.c,3,none⟩=some (.pointer (some ⟨i.r 1,0,none⟩)):=C2.out.raw.cells.2.2.2.1;have Z:=ls_pop w2 (i.r 1) (S' 1) _ b (C2.out.raw.ls 1 (by omega));have hsm:=Lib.hid ((C2.out.raw.ls 1 (by omega)).small _ (last_mem PO.out));rw[any_pos PO.out] at Z;obtain⟨x,hx⟩:∃x,x=lastKey (Q 1):=⟨_,rfl⟩;rw[← hx] at Z hsm NX;have Z:=Lib.hid Z;clear hB V C1 hx;go_wp2_with fail
     refine Z.out.mono ?_;intro e w3 hp;obtain⟨rfl,S3,C3'⟩:=C2.out.op SD.out (C2.out.raw.on (show 1 < 4 by omega) hp (Nat.le_refl _));have C3:=Lib.hid C3';have d1:w3.cell? ⟨i.c,5,none⟩=some (.pointer (some ⟨i.r 3,0,none⟩)):=C3'.raw.cells.2.2.2.2.2
     have Y:=ls_front w3 (i.r 3) (S3 3) _ b (C3'.raw.ls 3 (by omega)) x b hsm.out (by have:=HB.out;omega) (Nat.le_refl _) (by
      rw[upd_ne (by omega)];have h1:=rem_le (Q 3) x;have h2:=HT.out;have h3:=PO.out;have h4:=HB.out.1;unfold totR at h2 h4;omega)
     rw[upd_ne (by omega)] at Y;have Y:=Lib.hid Y;clear hp C3' Z c1 C2;go_wp2_with fail
     refine Y.out.mono ?_;intro e w4 hp;obtain⟨rfl,S4,C4'⟩:=C3.out.op SD.out (C3.out.raw.on (show 3 < 4 by omega) hp (Nat.le_refl _));have C4:=Lib.hid C4';have TK:=Lib.hid (SD.out.call _ _ _ x C4'.side (by rw[List.length_append,HOJ.out];exact HV.out) hsm.out);clear hp C4' Y d1 C3;go_wp2_with fail
     refine TK.out.mono ?_;rintro e w5 ⟨rfl,X5,hk,hW⟩;have C5:=Lib.hid (C4.out.take hk hW);clear hk hW TK C4;go_wp2_with fail
     go_roundg gk
     case measure=>omega
     case rel=>
      refine⟨S4,X5,j+1,by have:=HJ.out;omega,?_⟩;rw[NX.out.1,NX.out.2,<-List.append_assoc];exact C5.out
end Go.Proofs.YtdmmciggopmglaaGreatDoor.AR
namespace Go.Proofs.YtdmmciggopmglaaGreatDoor.AR
open Go.RowKit Sg
def trim2(mo:Nat)(R:Rw4):Rw4:=upd R 2 ((R 2).take (mo - (R 0).length))
def trim3(mo:Nat)(R:Rw4):Rw4:=upd R 3 ((R 3).take (2*mo - ((R 0).length+(R 1).length+(R 2).length)))
def trimR(mo:Nat)(R:Rw4):Rw4:=trim3 mo (trim2 mo R)
theorem upd_upd(R:Rw4)(k:Nat)(xs ys:List ByteArray):upd (upd R k xs) k ys=upd R k ys:=by funext j;unfold upd;split <;> rfl
theorem upd_self(R:Rw4)(k:Nat):upd R k (R k)=R:=by
 funext j
 by_cases e:j=k
 . subst e;exact upd_same _ _ _
 . exact upd_ne e
theorem take_last{xs:List ByteArray}{j:Nat}(h:j < xs.length):anyKey (xs.take (j+1))=true/\(xs.take (j+1)).dropLast=xs.take j:=by
 rw[take_snoc xs j ⟨#[]⟩ h];refine⟨?_,by simp⟩;unfold anyKey;cases h2:xs.take j <;> rfl
theorem take_min(xs:List ByteArray)(m:Nat):xs.take (min m xs.length)=xs.take m:=by
 by_cases h:m<=xs.length
 . rw[Nat.min_eq_left h]
 . rw[Nat.min_eq_right (by omega),List.take_length,List.take_of_length_le (by omega)]
def CB(w:World)(cb:Nat)(i:Ix):Prop:=w.heap[cb]?=some (.cells #[.pointer (some ⟨i.c,0,none⟩)] 159 (0,0))
theorem CB.lt{w:World}{cb:Nat}{i:Ix}(k:CB w cb i):cb < w.heap.size:=(Array.getElem?_eq_some_iff.1 k).1
theorem CB.cell{w:World}{cb:Nat}{i:Ix}(k:CB w cb i):w.cell? ⟨cb,0,none⟩=some (.pointer (some ⟨i.c,0,none⟩)):=cell_of_row w _ 0 _ _ _ k
section
variable(w:World)(cb:Nat)(i:Ix)(S:Sx)(mo p:Nat)(R:Rw4)(b:Nat)(r:Raw w i S mo p R b)(kb:CB w cb i)
include r kb
theorem many2:Calls Tryz.prog 301 #[.pointer (some ⟨cb,0,none⟩)] w (Stl (.bool (decide (mo < (R 0).length+(R 2).length))) w):=by
 obtain⟨c0,_⟩:=r.cells;have K0:=kb.cell;have hb:=((Below.refl w.heap.size w).trans (below_drewN w 1)).alloc (Nat.le_refl _) (.cells #[.int .i64 0,.int .i64 2] 3);have c1:(w.drew.alloc (.cells #[.int .i64 0,.int .i64 2] 3)).cell? ⟨i.c,0,none⟩=some (.int .i64 (mo:Int)):=(r.below hb).cells.1;have K1:(w.drew.alloc (.cells #[.int .i64 0,.int .i64 2] 3)).cell? ⟨cb,0,none⟩=some (.pointer (some ⟨i.c,0,none⟩)):=CB.cell (i:=i) ((hb.block _ kb.lt).trans kb);have U:=count_two w.drew i S mo p R b (r.below (below_drewN w 1)) 0 2 (by omega) (by omega);have B:=Lib.hid hb;obtain⟨q,hq⟩:∃q,q=(R 0).length+(R 2).length:=⟨_,rfl⟩;rw[← hq] at U|-;have U:=Lib.hid (show Calls Tryz.prog 294 #[.pointer (some ⟨i.c,0,none⟩),.slice (some ⟨w.drew.heap.size,0,none⟩) 2 2] (w.drew.alloc (.cells #[.int .i64 0,.int .i64 2] 3)) (IntPost (q:Int) (w.drew.alloc (.cells #[.int .i64 0,.int .i64 2] 3))) from U);clear hb hq r kb;go_enter Tryz.func301,Tryz.ntmps301;go_wp2_with fail
 go_region_held3(λw'=>w'.cell? ⟨cb,0,none⟩=some (.pointer (some ⟨i.c,0,none⟩))/\w'.cell? ⟨i.c,0,none⟩=some (.int .i64 (mo:Int))) (first|(with_reducible exact⟨K1,c1⟩)|(with_reducible exact⟨K0,c0⟩)|go_keep)
  ((go_at_call 294;refine U.out.mono ?_;rintro e w1 ⟨rfl,rfl⟩))
 all_goals
  go_wp2_with fail
  go_ret;exact⟨rfl,B.out⟩
theorem many3:Calls Tryz.prog 302 #[.pointer (some ⟨cb,0,none⟩)] w (Stl (.bool (decide (2*mo < (R 0).length+(R 1).length+(R 2).length+(R 3).length))) w):=by
 obtain⟨c0,_⟩:=r.cells;have K0:=kb.cell;have U:=overW w.drew i S mo p R b (r.below (below_drewN w 1));have C:=Lib.hid (show ∀w1,Below w.heap.size w w1->w1.cell? ⟨cb,0,none⟩=some (.pointer (some ⟨i.c,0,none⟩))/\w1.cell? ⟨i.c,0,none⟩=some (.int .i64 (mo:Int)) from λw1 h=>⟨CB.cell (i:=i) ((h.block _ kb.lt).trans kb),(r.below h).cells.1⟩);have BD:=Lib.hid (show ∀w1,Below w.drew.heap.size w.drew w1->Below w.heap.size w w1 from λw1 h=>(below_drewN w 1).trans h);obtain⟨q,hq⟩:∃q,q=(R 0).length+(R 1).length+(R 2).length+(R 3).length:=⟨_,rfl⟩;rw[← hq] at U|-;obtain⟨d,hd⟩:∃d:Int,d=(q:Int) - (mo:Int):=⟨_,rfl⟩;rw[← hd] at U;obtain⟨z,hz⟩:∃z,z=decide (2*mo < q):=⟨_,rfl⟩;have e0:decide ((mo:Int) < d)=z:=by rw[hz];by_cases h:2*mo < q <;> simp only[h,decide_true,decide_false] <;> simp <;> omega
 rw[← hz];have U:=Lib.hid U;clear hq r kb hz hd;go_enter Tryz.func302,Tryz.ntmps302;go_wp2_with fail
 go_region_held3(λw'=>w'.cell? ⟨cb,0,none⟩=some (.pointer (some ⟨i.c,0,none⟩))/\w'.cell? ⟨i.c,0,none⟩=some (.int .i64 (mo:Int))) (first|(with_reducible exact⟨K1,c1⟩)|(with_reducible exact⟨K0,c0⟩)|go_keep)
  ((go_at_call 303;refine U.out.mono ?_;rintro e w1 ⟨rfl,hB⟩;obtain⟨K1,c1⟩:=C.out w1 (BD.out w1 hB);have B:=Lib.hid (BD.out w1 hB);clear hB))
 all_goals
  go_wp2_with fail
  go_ret;exact⟨rfl,B.out⟩
end
def TRel(w:World)(cb:Nat)(i:Ix)(S:Sx)(mo p:Nat)(R:Rw4)(b k j:Nat)(W:World):Prop:=
 ∃S',Raw W i S' mo p (upd R k ((R k).take j)) b/\Went w W (blk i S) (blk i S')/\CB W cb i/\¬blk i S' cb
set_option maxHeartbeats 1000000 in
theorem cutG2(w:World)(cb:Nat)(i:Ix)(S:Sx)(mo p:Nat)(R:Rw4)(b m:Nat)(r:Raw w i S mo p R b)(kb:CB w cb i)(hn:¬blk i S cb)(FT:FuncId)(hF:∀args w,(callFunc FT args).run Tryz.prog w= .ok (.enter FT args) w)
 (hT:∀W S' j,Raw W i S' mo p (upd R 2 ((R 2).take j)) b->CB W cb i->j<=(R 2).length->Calls Tryz.prog FT #[.pointer (some ⟨cb,0,none⟩)] W (Stl (.bool (decide (m < j))) W)):
 Calls Tryz.prog 300 #[.int .i64 2,.func (.func FT) #[] #[.pointer (some ⟨cb,0,none⟩)],.pointer (some ⟨cb,0,none⟩)] w (λe w'=>e= .returned (.tuple #[])/\TRel w cb i S mo p R b 2 m w'):=by
 obtain⟨n,hnn⟩:∃n,n=(R 2).length:=⟨_,rfl⟩;have H0:=Lib.hid (show TRel w cb i S mo p R b 2 n w from⟨S,by rw[hnn,List.take_length,upd_self];exact r,Went.refl _ _,kb,hn⟩);have HT:=Lib.hid hT;have HN:=Lib.hid hnn;have TM:=Lib.hid (show(R 2).take (min m n)=(R 2).take m by rw[hnn];exact take_min _ _);clear r kb hn hT hnn;go_enter Tryz.func300,Tryz.ntmps300;go_wp2_with fail
 go_loopg [] (n - m) (λg W=>g<=n - m/\TRel w cb i S mo p R b 2 (min m n+g) W)
 case atStart=>exact⟨Nat.le_refl _,by rw[show min m n+(n - m)=n by omega];exact H0.out⟩
 case round=>
  obtain⟨hg,S',hR,hW,hK,hnb⟩:=hrel;have K0:=hK.cell;have U:=Lib.hid (HT.out wr S' (min m n+gk) hR hK (by have:=HN.out;omega));have HR:=Lib.hid (And.intro hR (And.intro hW (And.intro hK hnb)));clear hR hW hK hnb;cases gk with
  |zero=>
   have U:=Lib.hid (show Calls Tryz.prog FT #[.pointer (some ⟨cb,0,none⟩)] wr (Stl (.bool false) wr) by
    have:=U.out;rw[show decide (m < min m n+0)=false by simp;omega] at this;exact this)
   go_wp2_with fail
   refine U.out.mono ?_;rintro e w1 ⟨rfl,hB⟩;have B1:=Lib.hid hB;clear hB;go_wp2_with fail
   go_end0;obtain⟨hR,hW,hK,hnb⟩:=HR.out;refine⟨rfl,S',?_,hW.trans (Went.below B1.out),(B1.out.block _ hK.lt).trans hK,hnb⟩;have:=hR.below B1.out;rw[Nat.add_zero,TM.out] at this;exact this
  |succ gk=>
   have U:=Lib.hid (show Calls Tryz.prog FT #[.pointer (some ⟨cb,0,none⟩)] wr (Stl (.bool true) wr) by
    have:=U.out;rw[show decide (m < min m n+(gk+1))=true by simp;omega] at this;exact this)
   obtain⟨j,hj⟩:∃j,j=min m n+gk:=⟨_,rfl⟩;have HJ:=Lib.hid hj;have hjn:j < (R 2).length:=by have:=HN.out;omega
   rw[show min m n+(gk+1)=j+1 by omega] at HR;have TL:=Lib.hid (take_last hjn);clear hj;go_wp2_with fail
   refine U.out.mono ?_;rintro e w1 ⟨rfl,hB⟩;have B1:=Lib.hid hB;have R1:=Lib.hid (HR.out.1.below hB);have k1:CB w1 cb i:=(hB.block _ HR.out.2.2.1.lt).trans HR.out.2.2.1;have K1:=k1.cell;have V:=count_one w1 i S' mo p _ b R1.out 2 (by omega);rw[upd_same,List.length_take,Nat.min_eq_left (by omega)] at V;have V:=Lib.hid (show Calls Tryz.prog 294 #[.pointer (some ⟨i.c,0,none⟩),.slice (some ⟨w1.heap.size,0,none⟩) 1 1] (w1.alloc (.cells #[.int .i64 2] 3)) (IntPost ((j+1:Nat):Int) (w1.alloc (.cells #[.int .i64 2] 3))) from V);have hb2:=(Below.refl w1.heap.size w1).alloc (Nat.le_refl _) (.cells #[.int .i64 2] 3);have R2:=R1.out.below hb2;have k2:CB (w1.alloc (.cells #[.int .i64 2] 3)) cb i:=(hb2.block _ k1.lt).trans k1;have K2:=k2.cell;have c4:(w1.alloc (.cells #[.int .i64 2] 3)).cell? ⟨i.c,4,none⟩=some (.pointer (some ⟨i.r 2,0,none⟩)):=R2.cells.2.2.2.2.1;have Z:=ls_pop _ (i.r 2) (S' 2) _ b (R2.ls 2 (by omega));rw[upd_same,TL.out.1,TL.out.2] at Z;have Z:=Lib.hid Z;have HR2:=Lib.hid (And.intro R2 (And.intro ((HR.out.2.1.trans (Went.below B1.out)).trans (Went.below hb2)) (And.intro k2 HR.out.2.2.2)));clear hB k1 R1 U HR K0 hb2 R2 k2;go_wp2_with fail
   refine V.out.mono ?_;rintro e w2 ⟨rfl,rfl⟩;clear K1 V;go_wp2_with fail
   refine Z.out.mono ?_;intro e w3 hp;obtain⟨R2,W2,k2,hnb⟩:=HR2.out;obtain⟨rfl,S3,r3,hW3⟩:=R2.on (show 2 < 4 by omega) hp (Nat.le_refl _);rw[upd_upd] at r3;have o3:=went_out hW3 k2.lt hnb;have N3:=Lib.hid (show TRel w cb i S mo p R b 2 (min m n+gk) w3 from⟨S3,by rw[← HJ.out];exact r3,W2.trans hW3,o3.1.trans k2,o3.2⟩);clear hp r3 hW3 o3 R2 W2 k2 hnb HR2 Z c4 K2;go_wp2_with fail
   go_roundg gk
   case measure=>omega
   case rel=>exact⟨by omega,N3.out⟩
set_option maxHeartbeats 1000000 in
theorem cutG3(w:World)(cb:Nat)(i:Ix)(S:Sx)(mo p:Nat)(R:Rw4)(b m:Nat)(r:Raw w i S mo p R b)(kb:CB w cb i)(hn:¬blk i S cb)(FT:FuncId)(hF:∀args w,(callFunc FT args).run Tryz.prog w= .ok (.enter FT args) w)
 (hT:∀W S' j,Raw W i S' mo p (upd R 3 ((R 3).take j)) b->CB W cb i->j<=(R 3).length->Calls Tryz.prog FT #[.pointer (some ⟨cb,0,none⟩)] W (Stl (.bool (decide (m < j))) W)):
 Calls Tryz.prog 300 #[.int .i64 3,.func (.func FT) #[] #[.pointer (some ⟨cb,0,none⟩)],.pointer (some ⟨cb,0,none⟩)] w (λe w'=>e= .returned (.tuple #[])/\TRel w cb i S mo p R b 3 m w'):=by
 obtain⟨n,hnn⟩:∃n,n=(R 3).length:=⟨_,rfl⟩;have H0:=Lib.hid (show TRel w cb i S mo p R b 3 n w from⟨S,by rw[hnn,List.take_length,upd_self];exact r,Went.refl _ _,kb,hn⟩);have HT:=Lib.hid hT;have HN:=Lib.hid hnn;have TM:=Lib.hid (show(R 3).take (min m n)=(R 3).take m by rw[hnn];exact take_min _ _);clear r kb hn hT hnn;go_enter Tryz.func300,Tryz.ntmps300;go_wp2_with fail
 go_loopg [] (n - m) (λg W=>g<=n - m/\TRel w cb i S mo p R b 3 (min m n+g) W)
 case atStart=>exact⟨Nat.le_refl _,by rw[show min m n+(n - m)=n by omega];exact H0.out⟩
 case round=>
  obtain⟨hg,S',hR,hW,hK,hnb⟩:=hrel;have K0:=hK.cell;have U:=Lib.hid (HT.out wr S' (min m n+gk) hR hK (by have:=HN.out;omega));have HR:=Lib.hid (And.intro hR (And.intro hW (And.intro hK hnb)));clear hR hW hK hnb;cases gk with
  |zero=>
   have U:=Lib.hid (show Calls Tryz.prog FT #[.pointer (some ⟨cb,0,none⟩)] wr (Stl (.bool false) wr) by
    have:=U.out;rw[show decide (m < min m n+0)=false by simp;omega] at this;exact this)
   go_wp2_with fail
   refine U.out.mono ?_;rintro e w1 ⟨rfl,hB⟩;have B1:=Lib.hid hB;clear hB;go_wp2_with fail
   go_end0;obtain⟨hR,hW,hK,hnb⟩:=HR.out;refine⟨rfl,S',?_,hW.trans (Went.below B1.out),(B1.out.block _ hK.lt).trans hK,hnb⟩;have:=hR.below B1.out;rw[Nat.add_zero,TM.out] at this;exact this
  |succ gk=>
   have U:=Lib.hid (show Calls Tryz.prog FT #[.pointer (some ⟨cb,0,none⟩)] wr (Stl (.bool true) wr) by
    have:=U.out;rw[show decide (m < min m n+(gk+1))=true by simp;omega] at this;exact this)
   obtain⟨j,hj⟩:∃j,j=min m n+gk:=⟨_,rfl⟩;have HJ:=Lib.hid hj;have hjn:j < (R 3).length:=by have:=HN.out;omega
   rw[show min m n+(gk+1)=j+1 by omega] at HR;have TL:=Lib.hid (take_last hjn);clear hj;go_wp2_with fail
   refine U.out.mono ?_;rintro e w1 ⟨rfl,hB⟩;have B1:=Lib.hid hB;have R1:=Lib.hid (HR.out.1.below hB);have k1:CB w1 cb i:=(hB.block _ HR.out.2.2.1.lt).trans HR.out.2.2.1;have K1:=k1.cell;have V:=count_one w1 i S' mo p _ b R1.out 3 (by omega);rw[upd_same,List.length_take,Nat.min_eq_left (by omega)] at V;have V:=Lib.hid (show Calls Tryz.prog 294 #[.pointer (some ⟨i.c,0,none⟩),.slice (some ⟨w1.heap.size,0,none⟩) 1 1] (w1.alloc (.cells #[.int .i64 3] 3)) (IntPost ((j+1:Nat):Int) (w1.alloc (.cells #[.int .i64 3] 3))) from V);have hb2:=(Below.refl w1.heap.size w1).alloc (Nat.le_refl _) (.cells #[.int .i64 3] 3);have R2:=R1.out.below hb2;have k2:CB (w1.alloc (.cells #[.int .i64 3] 3)) cb i:=(hb2.block _ k1.lt).trans k1;have K2:=k2.cell;have c5:(w1.alloc (.cells #[.int .i64 3] 3)).cell? ⟨i.c,5,none⟩=some (.pointer (some ⟨i.r 3,0,none⟩)):=R2.cells.2.2.2.2.2;have Z:=ls_pop _ (i.r 3) (S' 3) _ b (R2.ls 3 (by omega));rw[upd_same,TL.out.1,TL.out.2] at Z;have Z:=Lib.hid Z;have HR2:=Lib.hid (And.intro R2 (And.intro ((HR.out.2.1.trans (Went.below B1.out)).trans (Went.below hb2)) (And.intro k2 HR.out.2.2.2)));clear hB k1 R1 U HR K0 hb2 R2 k2;go_wp2_with fail
   refine V.out.mono ?_;rintro e w2 ⟨rfl,rfl⟩;clear K1 V;go_wp2_with fail
   refine Z.out.mono ?_;intro e w3 hp;obtain⟨R2,W2,k2,hnb⟩:=HR2.out;obtain⟨rfl,S3,r3,hW3⟩:=R2.on (show 3 < 4 by omega) hp (Nat.le_refl _);rw[upd_upd] at r3;have o3:=went_out hW3 k2.lt hnb;have N3:=Lib.hid (show TRel w cb i S mo p R b 3 (min m n+gk) w3 from⟨S3,by rw[← HJ.out];exact r3,W2.trans hW3,o3.1.trans k2,o3.2⟩);clear hp r3 hW3 o3 R2 W2 k2 hnb HR2 Z c5 K2;go_wp2_with fail
   go_roundg gk
   case measure=>omega
   case rel=>exact⟨by omega,N3.out⟩
theorem fn2:∀args w,(callFunc 301 args).run Tryz.prog w= .ok (.enter 301 args) w:=λargs w=>by kernel_rfl
theorem fn3:∀args w,(callFunc 302 args).run Tryz.prog w= .ok (.enter 302 args) w:=λargs w=>by kernel_rfl
theorem trim_two(w:World)(cb:Nat)(i:Ix)(S:Sx)(mo p:Nat)(R:Rw4)(b:Nat)(r:Raw w i S mo p R b)(kb:CB w cb i)(hn:¬blk i S cb)(h0:(R 0).length<=mo):
 Calls Tryz.prog 300 #[.int .i64 2,.func (.func 301) #[] #[.pointer (some ⟨cb,0,none⟩)],.pointer (some ⟨cb,0,none⟩)] w (λe w'=>e= .returned (.tuple #[])/\∃S',Raw w' i S' mo p (trim2 mo R) b/\Went w w' (blk i S) (blk i S')/\CB w' cb i/\¬blk i S' cb):=by
 refine(cutG2 w cb i S mo p R b (mo - (R 0).length) r kb hn _ fn2 ?_).mono λe w' h=>h;intro W S' j hR hK hj;have:=many2 W cb i S' mo p _ b hR hK;rw[upd_same,upd_ne (by omega),List.length_take,Nat.min_eq_left hj] at this;rw[show decide (mo - (R 0).length < j)=decide (mo < (R 0).length+j) by congr 1;simp only[eq_iff_iff];omega];exact this
theorem trim_three(w:World)(cb:Nat)(i:Ix)(S:Sx)(mo p:Nat)(R:Rw4)(b:Nat)(r:Raw w i S mo p R b)(kb:CB w cb i)(hn:¬blk i S cb)(h0:(R 0).length+(R 1).length+(R 2).length<=2*mo):
 Calls Tryz.prog 300 #[.int .i64 3,.func (.func 302) #[] #[.pointer (some ⟨cb,0,none⟩)],.pointer (some ⟨cb,0,none⟩)] w (λe w'=>e= .returned (.tuple #[])/\∃S',Raw w' i S' mo p (trim3 mo R) b/\Went w w' (blk i S) (blk i S')/\CB w' cb i/\¬blk i S' cb):=by
 refine(cutG3 w cb i S mo p R b (2*mo - ((R 0).length+(R 1).length+(R 2).length)) r kb hn _ fn3 ?_).mono λe w' h=>h;intro W S' j hR hK hj;have:=many3 W cb i S' mo p _ b hR hK;rw[upd_same,upd_ne (by omega),upd_ne (by omega),upd_ne (by omega),List.length_take,Nat.min_eq_left hj] at this;rw[show decide (2*mo - ((R 0).length+(R 1).length+(R 2).length) < j)=decide (2*mo < (R 0).length+(R 1).length+(R 2).length+j) by congr 1;simp only[eq_iff_iff];omega];exact this
theorem trim2_len(mo:Nat)(R:Rw4):(trim2 mo R 2).length<=mo - (R 0).length:=by
 unfold trim2;rw[upd_same,List.length_take];omega
theorem trimW(w:World)(i:Ix)(S:Sx)(mo p:Nat)(R:Rw4)(b:Nat)(r:Raw w i S mo p R b)(h0:(R 0).length+(R 1).length<=mo):Calls Tryz.prog 292 #[.pointer (some ⟨i.c,0,none⟩)] w (RPost (.tuple #[]) w i S mo p (trimR mo R) b):=by
 have hb:=(Below.refl w.heap.size w).alloc (Nat.le_refl _) (.cells #[.pointer (some ⟨i.c,0,none⟩)] 159);have kb:CB (w.alloc (.cells #[.pointer (some ⟨i.c,0,none⟩)] 159)) w.heap.size i:=heap_alloc_new _ _;have U:=Lib.hid (trim_two _ w.heap.size i S mo p R b (r.below hb) kb (λh=>by have:=r.lt h;omega) (by omega));have B:=Lib.hid hb
 have h3:=Lib.hid (show(trim2 mo R 0).length+(trim2 mo R 1).length+(trim2 mo R 2).length<=2*mo by
  have:=trim2_len mo R;rw[show trim2 mo R 0=R 0 from upd_ne (by omega),show trim2 mo R 1=R 1 from upd_ne (by omega)];omega)
 clear r hb kb h0;go_enter Tryz.func292,Tryz.ntmps292;go_wp2_with fail
 refine U.out.mono ?_;rintro e w1 ⟨rfl,S1,r1,hW1,k1,n1⟩;have V:=Lib.hid (trim_three w1 w.heap.size i S1 mo p _ b r1 k1 n1 h3.out);have W1:=Lib.hid ((Went.below B.out:Went w _ (blk i S) (blk i S)).trans hW1);clear r1 hW1 k1 n1 U;go_wp2_with fail
 refine V.out.mono ?_;rintro e w2 ⟨rfl,S2,r2,hW2,k2,n2⟩;have P:=Lib.hid (show RPost (.tuple #[]) w i S mo p (trimR mo R) b (.returned (.tuple #[])) w2 from⟨rfl,S2,r2,W1.out.trans hW2⟩);clear r2 hW2 k2 n2 V;go_wp2_with fail
 go_end0;exact P.out
end Go.Proofs.YtdmmciggopmglaaGreatDoor.AR
namespace Go.Proofs.YtdmmciggopmglaaGreatDoor.AR
open Go.RowKit Sg
theorem place_end(w:World)(i:Ix)(S:Sx)(mo p m:Nat)(R:Rw4)(b:Nat)(X:Nat->Prop)(K:List ByteArray->(Nat->Prop)->World->Prop)(F:FuncId)(a:Addr)(sd:Side F a K)(hl:totR R<=b)(hb:b<=98500){w1:World}{S1:Sx}{X1:Nat->Prop}{R1:Rw4}{vs:List ByteArray}(C:CAt w w1 i S S1 X X1 K mo p R1 b vs)(hv:vs.length<=5)(ht:totR R1<=totR R):
 Calls Tryz.prog 297 #[.pointer (some ⟨i.c,0,none⟩),.int .i64 (m:Int),.bool false,.func (.func F) #[] #[.pointer (some a)]] w1 (CuPost w i S X K mo p (cutn p false R1 (lenR R1 - m)) b (vs++outs p false R1 (lenR R1 - m))):=
 (cutTo_any w1 i S1 mo p R1 b m false X1 K F a vs C.raw C.side C.dis sd hv (Nat.le_trans ht hl) hb).mono λ_ _ ⟨he,S2,X2,h⟩=>⟨he,S2,X2,C.trans h⟩
section
variable(w:World)(i:Ix)(S:Sx)(mo p m:Nat)(R:Rw4)(b:Nat)(X:Nat->Prop)(K:List ByteArray->(Nat->Prop)->World->Prop)(F:FuncId)(a:Addr)(r:Raw w i S mo p R b)(k:K [] X w)(hdis:∀k,X k->¬blk i S k)(sd:Side F a K)
 (hl:totR R<=b) (hb:b<=98500) (hm:mo=m+1)
include r k hdis sd hl hb hm
set_option maxHeartbeats 1000000 in
theorem place_full(h1:(R 0).length+(R 2).length < mo)(h2:2*mo<=totR R):Calls Tryz.prog 298 #[.pointer (some ⟨i.c,0,none⟩),.func (.func F) #[] #[.pointer (some a)]] w (CuPost w i S X K mo p (cutn p false (upd R 3 (R 3).dropLast) (lenR (upd R 3 (R 3).dropLast) - m)) b ([]++outs p false (upd R 3 (R 3).dropLast) (lenR (upd R 3 (R 3).dropLast) - m))):=by
 have HP:=Lib.hid (λ(w1:World) (S1:Sx) (X1:Nat->Prop) (R1:Rw4) (vs:List ByteArray) C hv ht=>place_end w i S mo p m R b X K F a sd hl hb (w1:=w1) (S1:=S1) (X1:=X1) (R1:=R1) (vs:=vs) C hv ht);have C0:=CAt.start r k hdis;have SD:=Lib.hid sd;have hF:=sd.enter;have hb1:=(below_drewN w 1).alloc (Nat.le_refl _) (.cells #[.int .i64 0,.int .i64 2] 3);obtain⟨c0,_⟩:=r.cells;have c1:(w.drew.alloc (.cells #[.int .i64 0,.int .i64 2] 3)).cell? ⟨i.c,0,none⟩=some (.int .i64 (mo:Int)):=(r.below hb1).cells.1;have U:=count_two w.drew i S mo p R b (r.below (below_drewN w 1)) 0 2 (by omega) (by omega);have U:=Lib.hid (show Calls Tryz.prog 294 #[.pointer (some ⟨i.c,0,none⟩),.slice (some ⟨w.drew.heap.size,0,none⟩) 2 2] (w.drew.alloc (.cells #[.int .i64 0,.int .i64 2] 3)) (IntPost (((R 0).length+(R 2).length:Nat):Int) (w.drew.alloc (.cells #[.int .i64 0,.int .i64 2] 3))) from U);have C1:=Lib.hid (show CAt w ((w.alloc (.cells #[.int .i64 0,.int .i64 2] 3)).drew) i S S X X K mo p R b [] from C0.below SD.out hb1);have ht:=r.top.1;have HW:IntKind.i64.wrap ((mo:Int) - 1)=(m:Int):=by rw[IntWalk.i64_in _ (by omega)];omega
 obtain⟨q,hq⟩:∃q,q=(R 0).length+(R 2).length:=⟨_,rfl⟩;rw[← hq] at U;have e0:decide (q < mo)=true:=by simp;omega
 obtain⟨d,hd⟩:∃d:Int,d=((((R 0).length+(R 1).length+(R 2).length+(R 3).length:Nat):Int) - (mo:Int)):=⟨_,rfl⟩;have e2:decide ((mo:Int)<=d)=true:=by unfold totR at h2;simp;omega
 have HD:=Lib.hid hd;clear hd;have H2:=Lib.hid (And.intro hm (And.intro h1 h2));clear r k hdis sd hb1 C0 hq ht hl hb hm h1 h2;go_enter Tryz.func298,Tryz.ntmps298;go_wp2_with fail
 go_region_held3(λw'=>w'.cell? ⟨i.c,0,none⟩=some (.int .i64 (mo:Int))) (first|(with_reducible exact c1)|(with_reducible exact c0)|go_keep)
  ((go_at_call 294;refine U.out.mono ?_;rintro e w1 ⟨rfl,rfl⟩))
 clear c0 c1 U;generalize(w.alloc (.cells #[.int .i64 0,.int .i64 2] 3)).drew=w2 at C1|-;have c1:w2.cell? ⟨i.c,0,none⟩=some (.int .i64 (mo:Int)):=C1.out.raw.cells.1;go_wp2_with fail
 have V:=overW w2.drew i S mo p R b (C1.out.raw.below (below_drewN w2 1));rw[← HD.out] at V;have V:=Lib.hid V;have CC:=Lib.hid (show ∀w3,Below w2.drew.heap.size w2.drew w3->w3.cell? ⟨i.c,0,none⟩=some (.int .i64 (mo:Int))/\CAt w w3 i S S X X K mo p R b [] from λw3 h=>⟨(C1.out.raw.below ((below_drewN w2 1).trans h)).cells.1,C1.out.below SD.out ((below_drewN w2 1).trans h)⟩)
 go_region_held3(λw'=>w'.cell? ⟨i.c,0,none⟩=some (.int .i64 (mo:Int))) (first|(with_reducible exact c3)|(with_reducible exact c1)|go_keep)
  ((go_at_call 303;refine V.out.mono ?_;rintro e w3 ⟨rfl,hB⟩;obtain⟨c3,C3'⟩:=CC.out w3 hB;have C3:=Lib.hid C3';clear hB C3'))
 clear V CC C1 c1;have d3:w3.cell? ⟨i.c,5,none⟩=some (.pointer (some ⟨i.r 3,0,none⟩)):=C3.out.raw.cells.2.2.2.2.2;have Z:=ls_pop w3 (i.r 3) (S 3) _ b (C3.out.raw.ls 3 (by omega));have Z:=Lib.hid Z;go_wp2_with fail
 refine Z.out.mono ?_;intro e w4 hp;obtain⟨rfl,S4,C4'⟩:=C3.out.op SD.out (C3.out.raw.on (show 3 < 4 by omega) hp (Nat.le_refl _));have C4:=Lib.hid C4';clear hp Z C3 c3;have c4:w4.cell? ⟨i.c,0,none⟩=some (.int .i64 (mo:Int)):=C4'.raw.cells.1;have E:=Lib.hid (HP.out w4 S4 X _ [] C4.out (by simp) (by simp[totR,upd]));clear C4';go_wp2_with fail
 refine E.out.mono ?_;intro e w6 hp;have P6:=Lib.hid hp;obtain⟨rfl,_⟩:=hp;go_wp2_with fail
 go_end0;exact P6.out
set_option maxHeartbeats 1000000 in
theorem place_room(h1:(R 0).length+(R 2).length < mo)(h2:totR R < 2*mo):Calls Tryz.prog 298 #[.pointer (some ⟨i.c,0,none⟩),.func (.func F) #[] #[.pointer (some a)]] w (CuPost w i S X K mo p (cutn p false R (lenR R - m)) b ([]++outs p false R (lenR R - m))):=by
 have HP:=Lib.hid (λ(w1:World) (S1:Sx) (X1:Nat->Prop) (R1:Rw4) (vs:List ByteArray) C hv ht=>place_end w i S mo p m R b X K F a sd hl hb (w1:=w1) (S1:=S1) (X1:=X1) (R1:=R1) (vs:=vs) C hv ht);have C0:=CAt.start r k hdis;have SD:=Lib.hid sd;have hF:=sd.enter;have hb1:=(below_drewN w 1).alloc (Nat.le_refl _) (.cells #[.int .i64 0,.int .i64 2] 3);obtain⟨c0,_⟩:=r.cells;have c1:(w.drew.alloc (.cells #[.int .i64 0,.int .i64 2] 3)).cell? ⟨i.c,0,none⟩=some (.int .i64 (mo:Int)):=(r.below hb1).cells.1;have U:=count_two w.drew i S mo p R b (r.below (below_drewN w 1)) 0 2 (by omega) (by omega);have U:=Lib.hid (show Calls Tryz.prog 294 #[.pointer (some ⟨i.c,0,none⟩),.slice (some ⟨w.drew.heap.size,0,none⟩) 2 2] (w.drew.alloc (.cells #[.int .i64 0,.int .i64 2] 3)) (IntPost (((R 0).length+(R 2).length:Nat):Int) (w.drew.alloc (.cells #[.int .i64 0,.int .i64 2] 3))) from U);have C1:=Lib.hid (show CAt w ((w.alloc (.cells #[.int .i64 0,.int .i64 2] 3)).drew) i S S X X K mo p R b [] from C0.below SD.out hb1);have ht:=r.top.1;have HW:IntKind.i64.wrap ((mo:Int) - 1)=(m:Int):=by rw[IntWalk.i64_in _ (by omega)];omega
 obtain⟨q,hq⟩:∃q,q=(R 0).length+(R 2).length:=⟨_,rfl⟩;rw[← hq] at U;have e0:decide (q < mo)=true:=by simp;omega
 obtain⟨d,hd⟩:∃d:Int,d=((((R 0).length+(R 1).length+(R 2).length+(R 3).length:Nat):Int) - (mo:Int)):=⟨_,rfl⟩;have e2:decide ((mo:Int)<=d)=false:=by unfold totR at h2;simp;omega
 have HD:=Lib.hid hd;clear hd;have H2:=Lib.hid (And.intro hm (And.intro h1 h2));clear r k hdis sd hb1 C0 hq ht hl hb hm h1 h2;go_enter Tryz.func298,Tryz.ntmps298;go_wp2_with fail
 go_region_held3(λw'=>w'.cell? ⟨i.c,0,none⟩=some (.int .i64 (mo:Int))) (first|(with_reducible exact c1)|(with_reducible exact c0)|go_keep)
  ((go_at_call 294;refine U.out.mono ?_;rintro e w1 ⟨rfl,rfl⟩))
 clear c0 c1 U;generalize(w.alloc (.cells #[.int .i64 0,.int .i64 2] 3)).drew=w2 at C1|-;have c1:w2.cell? ⟨i.c,0,none⟩=some (.int .i64 (mo:Int)):=C1.out.raw.cells.1;go_wp2_with fail
 have V:=overW w2.drew i S mo p R b (C1.out.raw.below (below_drewN w2 1));rw[← HD.out] at V;have V:=Lib.hid V;have CC:=Lib.hid (show ∀w3,Below w2.drew.heap.size w2.drew w3->w3.cell? ⟨i.c,0,none⟩=some (.int .i64 (mo:Int))/\CAt w w3 i S S X X K mo p R b [] from λw3 h=>⟨(C1.out.raw.below ((below_drewN w2 1).trans h)).cells.1,C1.out.below SD.out ((below_drewN w2 1).trans h)⟩)
 go_region_held3(λw'=>w'.cell? ⟨i.c,0,none⟩=some (.int .i64 (mo:Int))) (first|(with_reducible exact c3)|(with_reducible exact c1)|go_keep)
  ((go_at_call 303;refine V.out.mono ?_;rintro e w3 ⟨rfl,hB⟩;obtain⟨c3,C3'⟩:=CC.out w3 hB;have C3:=Lib.hid C3';clear hB C3'))
 clear V CC C1 c1;have E:=Lib.hid (HP.out w3 S X R [] C3.out (by simp) (Nat.le_refl _));go_wp2_with fail
 refine E.out.mono ?_;intro e w5 hp;have P5:=Lib.hid hp;obtain⟨rfl,_⟩:=hp;go_wp2_with fail
 go_end0;exact P5.out
set_option maxHeartbeats 1000000 in
theorem place_b1(h1:mo<=(R 0).length+(R 2).length)(h2:(R 0).length < mo):Calls Tryz.prog 298 #[.pointer (some ⟨i.c,0,none⟩),.func (.func F) #[] #[.pointer (some a)]] w (CuPost w i S X K mo p (cutn p false (upd R 2 (R 2).dropLast) (lenR (upd R 2 (R 2).dropLast) - m)) b ([]++outs p false (upd R 2 (R 2).dropLast) (lenR (upd R 2 (R 2).dropLast) - m))):=by
 have HP:=Lib.hid (λ(w1:World) (S1:Sx) (X1:Nat->Prop) (R1:Rw4) (vs:List ByteArray) C hv ht=>place_end w i S mo p m R b X K F a sd hl hb (w1:=w1) (S1:=S1) (X1:=X1) (R1:=R1) (vs:=vs) C hv ht);have C0:=CAt.start r k hdis;have SD:=Lib.hid sd;have hF:=sd.enter;have hb1:=(below_drewN w 1).alloc (Nat.le_refl _) (.cells #[.int .i64 0,.int .i64 2] 3);obtain⟨c0,_⟩:=r.cells;have c1:(w.drew.alloc (.cells #[.int .i64 0,.int .i64 2] 3)).cell? ⟨i.c,0,none⟩=some (.int .i64 (mo:Int)):=(r.below hb1).cells.1;have U:=count_two w.drew i S mo p R b (r.below (below_drewN w 1)) 0 2 (by omega) (by omega);have U:=Lib.hid (show Calls Tryz.prog 294 #[.pointer (some ⟨i.c,0,none⟩),.slice (some ⟨w.drew.heap.size,0,none⟩) 2 2] (w.drew.alloc (.cells #[.int .i64 0,.int .i64 2] 3)) (IntPost (((R 0).length+(R 2).length:Nat):Int) (w.drew.alloc (.cells #[.int .i64 0,.int .i64 2] 3))) from U);have C1:=Lib.hid (show CAt w ((w.alloc (.cells #[.int .i64 0,.int .i64 2] 3)).drew) i S S X X K mo p R b [] from C0.below SD.out hb1);have ht:=r.top.1;have HW:IntKind.i64.wrap ((mo:Int) - 1)=(m:Int):=by rw[IntWalk.i64_in _ (by omega)];omega
 obtain⟨q,hq⟩:∃q,q=(R 0).length+(R 2).length:=⟨_,rfl⟩;rw[← hq] at U;have e0:decide (q < mo)=false:=by simp;omega
 have e2:decide ((R 0).length < mo)=true:=by simp;omega
 have H2:=Lib.hid (And.intro hm (And.intro h1 h2));clear r k hdis sd hb1 C0 hq ht hl hb hm h1 h2;go_enter Tryz.func298,Tryz.ntmps298;go_wp2_with fail
 go_region_held3(λw'=>w'.cell? ⟨i.c,0,none⟩=some (.int .i64 (mo:Int))) (first|(with_reducible exact c1)|(with_reducible exact c0)|go_keep)
  ((go_at_call 294;refine U.out.mono ?_;rintro e w1 ⟨rfl,rfl⟩))
 clear c0 c1 U;generalize(w.alloc (.cells #[.int .i64 0,.int .i64 2] 3)).drew=w2 at C1|-;have c1:w2.cell? ⟨i.c,0,none⟩=some (.int .i64 (mo:Int)):=C1.out.raw.cells.1;go_wp2_with fail
 have V:=count_one w2.drew i S mo p R b (C1.out.raw.below (below_drewN w2 1)) 0 (by omega);have V:=Lib.hid (show Calls Tryz.prog 294 #[.pointer (some ⟨i.c,0,none⟩),.slice (some ⟨w2.drew.heap.size,0,none⟩) 1 1] (w2.drew.alloc (.cells #[.int .i64 0] 3)) (IntPost ((R 0).length:Int) (w2.drew.alloc (.cells #[.int .i64 0] 3))) from V);have hb3:=(below_drewN w2 1).alloc (Nat.le_refl _) (.cells #[.int .i64 0] 3);have c3:(w2.drew.alloc (.cells #[.int .i64 0] 3)).cell? ⟨i.c,0,none⟩=some (.int .i64 (mo:Int)):=(C1.out.raw.below hb3).cells.1;have C3:=Lib.hid (show CAt w ((w2.alloc (.cells #[.int .i64 0] 3)).drew) i S S X X K mo p R b [] from C1.out.below SD.out hb3);clear hb3
 go_region_held3(λw'=>w'.cell? ⟨i.c,0,none⟩=some (.int .i64 (mo:Int))) (first|(with_reducible exact c3)|(with_reducible exact c1)|go_keep)
  ((go_at_call 294;refine V.out.mono ?_;rintro e w1 ⟨rfl,rfl⟩))
 clear V C1 c1 c3;generalize(w2.alloc (.cells #[.int .i64 0] 3)).drew=w3 at C3|-;have c3:w3.cell? ⟨i.c,0,none⟩=some (.int .i64 (mo:Int)):=C3.out.raw.cells.1;have d2:w3.cell? ⟨i.c,4,none⟩=some (.pointer (some ⟨i.r 2,0,none⟩)):=C3.out.raw.cells.2.2.2.2.1;have Z:=ls_pop w3 (i.r 2) (S 2) _ b (C3.out.raw.ls 2 (by omega));have Z:=Lib.hid Z;go_wp2_with fail
 refine Z.out.mono ?_;intro e w4 hp;obtain⟨rfl,S4,C4'⟩:=C3.out.op SD.out (C3.out.raw.on (show 2 < 4 by omega) hp (Nat.le_refl _));have C4:=Lib.hid C4';clear hp Z C3 c3;have c4:w4.cell? ⟨i.c,0,none⟩=some (.int .i64 (mo:Int)):=C4'.raw.cells.1;have E:=Lib.hid (HP.out w4 S4 X _ [] C4.out (by simp) (by simp[totR,upd]));clear C4';go_wp2_with fail
 refine E.out.mono ?_;intro e w6 hp;have P6:=Lib.hid hp;obtain⟨rfl,_⟩:=hp;go_wp2_with fail
 go_end0;exact P6.out
set_option maxHeartbeats 1000000 in
theorem place_t1(h1:mo<=(R 0).length+(R 2).length)(h2:mo<=(R 0).length):Calls Tryz.prog 298 #[.pointer (some ⟨i.c,0,none⟩),.func (.func F) #[] #[.pointer (some a)]] w (CuPost w i S X K mo p (cutn p false (upd R 0 (R 0).dropLast) (lenR (upd R 0 (R 0).dropLast) - m)) b (([]++ [lastKey (R 0)])++outs p false (upd R 0 (R 0).dropLast) (lenR (upd R 0 (R 0).dropLast) - m))):=by
 have HP:=Lib.hid (λ(w1:World) (S1:Sx) (X1:Nat->Prop) (R1:Rw4) (vs:List ByteArray) C hv ht=>place_end w i S mo p m R b X K F a sd hl hb (w1:=w1) (S1:=S1) (X1:=X1) (R1:=R1) (vs:=vs) C hv ht);have C0:=CAt.start r k hdis;have SD:=Lib.hid sd;have hF:=sd.enter;have hb1:=(below_drewN w 1).alloc (Nat.le_refl _) (.cells #[.int .i64 0,.int .i64 2] 3);obtain⟨c0,_⟩:=r.cells;have c1:(w.drew.alloc (.cells #[.int .i64 0,.int .i64 2] 3)).cell? ⟨i.c,0,none⟩=some (.int .i64 (mo:Int)):=(r.below hb1).cells.1;have U:=count_two w.drew i S mo p R b (r.below (below_drewN w 1)) 0 2 (by omega) (by omega);have U:=Lib.hid (show Calls Tryz.prog 294 #[.pointer (some ⟨i.c,0,none⟩),.slice (some ⟨w.drew.heap.size,0,none⟩) 2 2] (w.drew.alloc (.cells #[.int .i64 0,.int .i64 2] 3)) (IntPost (((R 0).length+(R 2).length:Nat):Int) (w.drew.alloc (.cells #[.int .i64 0,.int .i64 2] 3))) from U);have C1:=Lib.hid (show CAt w ((w.alloc (.cells #[.int .i64 0,.int .i64 2] 3)).drew) i S S X X K mo p R b [] from C0.below SD.out hb1);have ht:=r.top.1;have HW:IntKind.i64.wrap ((mo:Int) - 1)=(m:Int):=by rw[IntWalk.i64_in _ (by omega)];omega
 obtain⟨q,hq⟩:∃q,q=(R 0).length+(R 2).length:=⟨_,rfl⟩;rw[← hq] at U;have e0:decide (q < mo)=false:=by simp;omega
 have e2:decide ((R 0).length < mo)=false:=by simp;omega
 have H2:=Lib.hid (And.intro hm (And.intro h1 h2));clear r k hdis sd hb1 C0 hq ht hl hb hm h1 h2;go_enter Tryz.func298,Tryz.ntmps298;go_wp2_with fail
 go_region_held3(λw'=>w'.cell? ⟨i.c,0,none⟩=some (.int .i64 (mo:Int))) (first|(with_reducible exact c1)|(with_reducible exact c0)|go_keep)
  ((go_at_call 294;refine U.out.mono ?_;rintro e w1 ⟨rfl,rfl⟩))
 clear c0 c1 U;generalize(w.alloc (.cells #[.int .i64 0,.int .i64 2] 3)).drew=w2 at C1|-;have c1:w2.cell? ⟨i.c,0,none⟩=some (.int .i64 (mo:Int)):=C1.out.raw.cells.1;go_wp2_with fail
 have V:=count_one w2.drew i S mo p R b (C1.out.raw.below (below_drewN w2 1)) 0 (by omega);have V:=Lib.hid (show Calls Tryz.prog 294 #[.pointer (some ⟨i.c,0,none⟩),.slice (some ⟨w2.drew.heap.size,0,none⟩) 1 1] (w2.drew.alloc (.cells #[.int .i64 0] 3)) (IntPost ((R 0).length:Int) (w2.drew.alloc (.cells #[.int .i64 0] 3))) from V);have hb3:=(below_drewN w2 1).alloc (Nat.le_refl _) (.cells #[.int .i64 0] 3);have c3:(w2.drew.alloc (.cells #[.int .i64 0] 3)).cell? ⟨i.c,0,none⟩=some (.int .i64 (mo:Int)):=(C1.out.raw.below hb3).cells.1;have C3:=Lib.hid (show CAt w ((w2.alloc (.cells #[.int .i64 0] 3)).drew) i S S X X K mo p R b [] from C1.out.below SD.out hb3);clear hb3
 go_region_held3(λw'=>w'.cell? ⟨i.c,0,none⟩=some (.int .i64 (mo:Int))) (first|(with_reducible exact c3)|(with_reducible exact c1)|go_keep)
  ((go_at_call 294;refine V.out.mono ?_;rintro e w1 ⟨rfl,rfl⟩))
 clear V C1 c1 c3;generalize(w2.alloc (.cells #[.int .i64 0] 3)).drew=w3 at C3|-;have c3:w3.cell? ⟨i.c,0,none⟩=some (.int .i64 (mo:Int)):=C3.out.raw.cells.1;have d0:w3.cell? ⟨i.c,2,none⟩=some (.pointer (some ⟨i.r 0,0,none⟩)):=C3.out.raw.cells.2.2.1;have Z:=ls_pop w3 (i.r 0) (S 0) _ b (C3.out.raw.ls 0 (by omega));have hpos:0 < (R 0).length:=by have:=H2.out;omega
 have hsm:=Lib.hid ((C3.out.raw.ls 0 (by omega)).small _ (last_mem hpos));rw[any_pos hpos] at Z;obtain⟨x,hx⟩:∃x,x=lastKey (R 0):=⟨_,rfl⟩;rw[← hx] at Z hsm;have HX:=Lib.hid hx;clear hx hpos;have Z:=Lib.hid Z;go_wp2_with fail
 refine Z.out.mono ?_;intro e w4 hp;obtain⟨rfl,S4,C4'⟩:=C3.out.op SD.out (C3.out.raw.on (show 0 < 4 by omega) hp (Nat.le_refl _));have C4:=Lib.hid C4';clear hp Z C3 c3;have TK:=Lib.hid (SD.out.call _ _ _ x C4'.side (by simp) hsm.out);clear C4';go_wp2_with fail
 refine TK.out.mono ?_;rintro e w5 ⟨rfl,X5,hk,hW⟩;have C5:=Lib.hid (C4.out.take hk hW);have c5:w5.cell? ⟨i.c,0,none⟩=some (.int .i64 (mo:Int)):=C5.out.raw.cells.1;have E:=HP.out w5 S4 X5 _ _ C5.out (by simp) (by simp[totR,upd]);rw[HX.out] at E;have E:=Lib.hid E;clear hk hW TK C4;go_wp2_with fail
 refine E.out.mono ?_;intro e w6 hp;have P6:=Lib.hid hp;obtain⟨rfl,_⟩:=hp;go_wp2_with fail
 go_end0;exact P6.out
end
end Go.Proofs.YtdmmciggopmglaaGreatDoor.AR
namespace Go.Proofs.YtdmmciggopmglaaGreatDoor.AR
open Go.RowKit Sg
theorem putR_len(R:Rw4)(key:ByteArray):(putR R key 0 0).length+(putR R key 0 1).length<=(R 0).length+(R 1).length+1:=by
 have r0:=rem_le (R 0) key;have r1:=rem_le (R 1) key;unfold putR;rw[upd_same,upd_ne (by omega),List.length_cons];show(rem (R 0) key).length+1+(rem (R 1) key).length<=_;omega
section
variable(w:World)(i:Ix)(S:Sx)(mo p:Nat)(R:Rw4)(b:Nat)(key:ByteArray)(r:Raw w i S mo p R b)(hs:key.size<=maxLen)
include r hs
theorem adopt_in(hi:hit R key=true):Calls Tryz.prog 280 #[.pointer (some ⟨i.c,0,none⟩),.string key] w (RPost (.bool false) w i S mo p R b):=by
 obtain⟨c0,_⟩:=r.cells
 have U:=Lib.hid (show ∀m,Calls Tryz.prog 283 #[.pointer (some ⟨i.c,0,none⟩),.string key] (w.drewN m) (λe w'=>e= .returned (.bool true)/\w'=w.drewN m) from λm=>by
  have:=hasW (w.drewN m) i S mo p R b (r.drewN m) key hs;rw[hi] at this;exact this.mono λ_ _ h=>⟨h.1,h.2.symm⟩)
 have HH:=Lib.hid r;clear r hi;go_enter Tryz.func280,Tryz.ntmps280;go_wp2_with fail
 go_quiet((go_at_call 283;exact Calls.quiet_of_same (U.out _)))
 go_wp2_with fail
 go_ret;exact⟨rfl,S,HH.out.drewN _,Went.below (below_drewN w _)⟩
theorem adopt_full(hi:hit R key=false)(hf:mo<=(R 0).length+(R 1).length):Calls Tryz.prog 280 #[.pointer (some ⟨i.c,0,none⟩),.string key] w (RPost (.bool false) w i S mo p R b):=by
 have C:=Lib.hid (show ∀w1,Below w.heap.size w w1->w1.cell? ⟨i.c,0,none⟩=some (.int .i64 (mo:Int)) from λw1 h=>(r.below h).cells.1);obtain⟨c0,_⟩:=r.cells;have HH:=Lib.hid r;have BD:=Lib.hid (show ∀w1,Below w.drew.heap.size w.drew w1->Below w.heap.size w w1 from λw1 h=>(below_drewN w 1).trans h);obtain⟨q,hq⟩:∃q,q=(R 0).length+(R 1).length:=⟨_,rfl⟩;have e0:decide (mo<=q)=true:=by simp;omega
 have U:=hasW w.drew i S mo p R b (r.below (below_drewN w 1)) key hs;rw[hi] at U;have V:=lenW w.drew i S mo p R b (r.below (below_drewN w 1));rw[← hq] at V;have U:=Lib.hid U;have V:=Lib.hid V;clear r hi hq hf;go_enter Tryz.func280,Tryz.ntmps280;go_wp2_with fail
 go_region_held3(λw'=>w'.cell? ⟨i.c,0,none⟩=some (.int .i64 (mo:Int))) (first|(with_reducible exact c1)|(with_reducible exact c0)|go_keep)
  (first
    |(go_at_call 283;refine U.out.mono ?_;rintro e w1 ⟨rfl,rfl⟩;clear U)
    |(go_at_call 285;refine V.out.mono ?_;rintro e w1 ⟨rfl,hB⟩;have c1:=C.out w1 (BD.out w1 hB);have B1:=Lib.hid (BD.out w1 hB);clear hB V))
 go_wp2_with fail
 go_ret;exact⟨rfl,S,HH.out.below B1.out,Went.below B1.out⟩
theorem adopt_room(hi:hit R key=false)(hf:(R 0).length+(R 1).length < mo)(hb:b<=98500):Calls Tryz.prog 280 #[.pointer (some ⟨i.c,0,none⟩),.string key] w (RPost (.bool true) w i S mo p (trimR mo (putR R key 0)) (b+1)):=by
 have h0:(putR R key 0 0).length+(putR R key 0 1).length<=mo:=by
  have:=putR_len R key;omega
 have C:=Lib.hid (show ∀w1,Below w.heap.size w w1->w1.cell? ⟨i.c,0,none⟩=some (.int .i64 (mo:Int)) from λw1 h=>(r.below h).cells.1);obtain⟨c0,_⟩:=r.cells;have HH:=Lib.hid r;have BD:=Lib.hid (show ∀w1,Below w.drew.heap.size w.drew w1->Below w.heap.size w w1 from λw1 h=>(below_drewN w 1).trans h);obtain⟨q,hq⟩:∃q,q=(R 0).length+(R 1).length:=⟨_,rfl⟩;have e0:decide (mo<=q)=false:=by simp;omega
 have U:=hasW w.drew i S mo p R b (r.below (below_drewN w 1)) key hs;rw[hi] at U;have V:=lenW w.drew i S mo p R b (r.below (below_drewN w 1));rw[← hq] at V;have U:=Lib.hid U;have V:=Lib.hid V;have HL:=Lib.hid (And.intro hf (And.intro h0 hb));clear r hi hq hf hb h0;go_enter Tryz.func280,Tryz.ntmps280;go_wp2_with fail
 go_region_held3(λw'=>w'.cell? ⟨i.c,0,none⟩=some (.int .i64 (mo:Int))) (first|(with_reducible exact c1)|(with_reducible exact c0)|go_keep)
  (first
    |(go_at_call 283;refine U.out.mono ?_;rintro e w1 ⟨rfl,rfl⟩;clear U)
    |(go_at_call 285;refine V.out.mono ?_;rintro e w1 ⟨rfl,hB⟩;have c1:=C.out w1 (BD.out w1 hB);have B1:=Lib.hid (BD.out w1 hB);clear hB V))
 go_wp2_with fail
 refine(putW0 w1 i S mo p R b (HH.out.below B1.out) key hs HL.out.2.2).mono ?_;rintro e w2 ⟨rfl,S2,r2,hW2⟩;have T:=Lib.hid (trimW w2 i S2 mo p _ _ r2 HL.out.2.1);have W2:=Lib.hid ((Went.below B1.out:Went w w1 (blk i S) (blk i S)).trans hW2);clear r2 hW2 HH c0;go_wp2_with fail
 refine T.out.mono ?_;rintro e w3 ⟨rfl,S3,r3,hW3⟩;have F:=Lib.hid (show RPost (.bool true) w i S mo p (trimR mo (putR R key 0)) (b+1) (.returned (.bool true)) w3 from⟨rfl,S3,r3,W2.out.trans hW3⟩);clear r3 hW3 T;go_wp2_with fail
 go_ret;exact F.out
end
theorem app_at{w:World}{base:Nat}{v:Value}{xs:List ByteArray}(h:Own w base v xs)(x:ByteArray)(hx:x.size<=maxLen)(hl:xs.length<=199999)(hb:base<=w.heap.size):
 ∃(A:Option Addr) (cap:Nat) (w2:World),(Builtin.append_ #[23,23] 23 #[v,.slice (some ⟨w.heap.size,0,none⟩) 1 1]).run Tryz.prog (w.alloc (.cells #[.string x] 9))= .ok (.slice A (xs.length+1) cap) w2/\
  Own w2 base (.slice A (xs.length+1) cap) (xs++ [x])/\w.grownBy w2 v.ownBlock/\(∀g,(Value.slice A (xs.length+1) cap).ownBlock=some g->v.ownBlock=some g\/w.heap.size<=g):=by
 obtain⟨i0,hi,hz0,hz1,hz2⟩:=info_parts infoStr
 obtain⟨v',w2,hrun,hown2,hg,hnil,hloc⟩:=run_append_own_at (P:=Tryz.prog) (w.alloc (.cells #[.string x] 9)) base 23 23 9 i0 _ 1 16
  Tryz.underlying23 hi hz0 hz1 hz2 rfl (by decide) _ _ _ (h.1.alloc _) ⟨w.heap.size,0,none⟩ 1 1 [.string x] rfl (cell_one_new _ _ _) (by simp[Value.oneCell']) (by unfold maxLen;omega) (by omega) (by simp;omega)
 have hown3:=hown2;rcases hown2.2 with⟨_,h0⟩|⟨g,cap,cur,rfl,_⟩
 . omega
 refine⟨_,cap,w2,hrun,⟨?_,by rw[List.length_append];simp only[List.length_cons,List.length_nil];omega,λy hy=>?_⟩,(World.grownBy_alloc w _ _).trans hg,λg' hg'=>?_⟩
 . rw[List.map_append,List.length_append];exact hown3
 . rcases List.mem_append.1 hy with h1|h1
   . exact h.2.2 y h1
   . rw[List.mem_singleton.1 h1];exact hx
 . rcases hloc with h1|h1
   . exact Or.inl (h1▸hg')
   . rw[h1] at hg';injection hg' with hg'
     rw[show(w.alloc (.cells #[.string x] 9)).heap.size=w.heap.size+1 by simp] at hg';exact Or.inr (by omega)
def GBox(w:World)(gb:Nat)(v:Value):Prop:=w.heap[gb]?=some (.cells #[v] 23 (0,0))
theorem GBox.lt{w:World}{gb:Nat}{v:Value}(k:GBox w gb v):gb < w.heap.size:=(Array.getElem?_eq_some_iff.1 k).1
theorem GBox.put{w:World}{gb:Nat}{v:Value}(k:GBox w gb v)(u:Value):GBox (w.setCell ⟨gb,0,none⟩ u) gb u:=by
 unfold GBox at*;rw[heap_setCell_same _ _ _ _ _ _ k];rfl
theorem cloR(w:World)(gb base:Nat)(v:Value)(ts:List ByteArray)(x:ByteArray)(k:GBox w gb v)(o:Own w base v ts)(hl:ts.length<=199999)(hx:x.size<=maxLen)(hb:base<=w.heap.size)(hne:v.ownBlock≠some gb):
 Calls Tryz.prog 299 #[.string x,.pointer (some ⟨gb,0,none⟩)] w (λe w'=>e= .returned (.tuple #[])/\∃v',GBox w' gb v'/\Own w' base v' (ts++ [x])/\(∀g,v'.ownBlock=some g->v.ownBlock=some g\/w.heap.size<=g)/\Turn (λk=>k=gb\/v.ownBlock=some k) w w'):=by
 obtain⟨A2,cap,w2,hrun,hown,hg,hloc⟩:=app_at o x hx hl hb;obtain⟨A1,c1,rfl⟩:=o.len;have hgb:=k.lt;have k1:w.cell? ⟨gb,0,none⟩=some (.slice A1 ts.length c1):=cell_of_row w _ 0 _ _ _ k;have k2:GBox w2 gb (.slice A1 ts.length c1):=(hg.block gb hgb (λe=>hne e.symm)).trans k;have k3:w2.cell? ⟨gb,0,none⟩=some (.slice A1 ts.length c1):=cell_of_row w2 _ 0 _ _ _ k2;have k4:w2.frozen? ⟨gb,0,none⟩=false:=frozen_of_row w2 _ 0 _ _ k2;have HRUN:=Lib.hid hrun
 have R:=Lib.hid (show ∃v',GBox (w2.setCell ⟨gb,0,none⟩ (.slice A2 (ts.length+1) cap)) gb v'/\Own (w2.setCell ⟨gb,0,none⟩ (.slice A2 (ts.length+1) cap)) base v' (ts++ [x])/\(∀g,v'.ownBlock=some g->(Value.slice A1 ts.length c1).ownBlock=some g\/w.heap.size<=g)/\Turn (λk=>k=gb\/(Value.slice A1 ts.length c1).ownBlock=some k) w (w2.setCell ⟨gb,0,none⟩ (.slice A2 (ts.length+1) cap)) by
  refine⟨_,k2.put _,hown.same (λg hg'=>?_),hloc,?_⟩
  . refine Below.heap_setCell _ _ _ _ (λe=>?_);have e:g=gb:=e;subst e;rcases hloc g hg' with h|h
    . exact hne h
    . omega
  . have t1:Turn (λk=>k=gb\/(Value.slice A1 ts.length c1).ownBlock=some k) w w2:=⟨hg.os,hg.tape,hg.output,hg.size,λi hi h1=>hg.block i hi (λe=>h1 (Or.inr e.symm))⟩;exact t1.setCell (p:=⟨gb,0,none⟩) (Or.inl (Or.inl rfl)) _)
 clear hrun hown hg hloc k k2 o hne;go_enter Tryz.func299,Tryz.ntmps299;go_wp2_with(at_builtin;refine wpList_append_run rfl _ _ _ rfl _ _ _ _ rfl rfl HRUN.out ?_)
 go_end0;exact⟨rfl,R.out⟩
def KR(gb base:Nat)(vs:List ByteArray)(X:Nat->Prop)(W:World):Prop:=∃v,X=(λk=>k=gb\/v.ownBlock=some k)/\GBox W gb v/\Own W base v vs/\base<=W.heap.size/\v.ownBlock≠some gb
theorem sideR(gb base:Nat):Side 299 ⟨gb,0,none⟩ (KR gb base) where
 enter:=λargs w=>by kernel_rfl
 lt:=by
  rintro vs X W ⟨v,rfl,hB,hO,_⟩ k hk;rcases hk with rfl|hk
  . exact hB.lt
  . exact(hO.lt hk).1
 same:=by
  rintro vs X W W' ⟨v,rfl,hB,hO,hb,hn⟩ hs hk;exact⟨v,rfl,(hk gb (Or.inl rfl)).trans hB,hO.same λg hg=>hk g (Or.inr hg),by omega,hn⟩
 call:=by
  rintro vs X W x ⟨v,rfl,hB,hO,hb,hn⟩ hl hx;refine(cloR W gb base v vs x hB hO (by omega) hx hb hn).mono ?_;rintro e W' ⟨he,v',hB',hO',hv,hT⟩;have hsz:=hT.size;refine⟨he,_,⟨v',rfl,hB',hO',by omega,λh=>?_⟩,λk hk=>?_,hT⟩
  . rcases hv gb h with h|h
    . exact hn h
    . have:=hB.lt;omega
  . rcases hk with rfl|hk
    . exact Or.inl (Or.inl rfl)
    . exact(hv k hk).imp Or.inr id
def ResPost(w:World)(i:Ix)(S:Sx)(mo p:Nat)(R:Rw4)(b:Nat)(gone:List ByteArray)(e:Ending)(w':World):Prop:=
 ∃v S',e= .returned v/\Own w' w.heap.size v gone/\Raw w' i S' mo p R b/\Went w w' (blk i S) (blk i S')/\∀g,v.ownBlock=some g->¬blk i S' g
theorem res_end{w w0 w1 w4:World}{i:Ix}{S S1 S4:Sx}{X4:Nat->Prop}{mo p:Nat}{R:Rw4}{b:Nat}{gone:List ByteArray}(h0:Went w w0 (blk i S) (blk i S1))(hb:Below w0.heap.size w0 w1)(hlt:w0.heap.size < w1.heap.size)(hgs:w.heap.size<=w0.heap.size)
 (h:CAt w1 w4 i S1 S4 (λk=>k=w0.heap.size) X4 (KR w0.heap.size w.heap.size) mo p R b gone):
 ∃A1 m1 c1,w4.cell? ⟨w0.heap.size,0,none⟩=some (.slice A1 m1 c1)/\ResPost w i S mo p R b gone (.returned (.slice A1 m1 c1)) w4:=by
 obtain⟨r4,⟨v,rfl,hB,hO,hbs,hn⟩,hW,hd⟩:=h;have hs1:=hb.size;have hs2:=hW.turn.size;obtain⟨A1,c1,rfl⟩:=hO.len;refine⟨A1,_,c1,cell_of_row w4 _ 0 _ _ _ hB,_,S4,rfl,hO,r4,⟨λk hk=>?_,?_⟩,λg hg=>hd g (Or.inr hg)⟩
 . rcases hW.new k (Or.inl hk) with h|h
   . rcases h with h|h
     . exact h0.new k h
     . exact Or.inr (by omega)
   . exact Or.inr (by omega)
 . refine(h0.turn.trans (Turn.of_below (S:=blk i S1) hb) (λk hk hS=>?_)).trans hW.turn (λk hk hS=>?_)
   . rcases h0.new k hS with h|h
     . exact h
     . omega
   . rcases hS with h|h
     . rcases h0.new k h with h|h
       . exact h
       . omega
     . omega
theorem cutn_two{p:Nat}{q:Bool}{R:Rw4}(n:Nat):lenR (cutn p q R (lenR R - n))=min n (lenR R):=by
 have:=cutn_len (R:=R) (p:=p) (q:=q) (n:=lenR R - n) (by omega);omega
def resR(p n:Nat)(R:Rw4):Rw4:=trimR n (cutn (min p n) false R (lenR R - n))
set_option maxHeartbeats 1000000 in
theorem resizeW(w:World)(i:Ix)(S:Sx)(mo p:Nat)(R:Rw4)(b:Nat)(z:Int)(n:Nat)(r:Raw w i S mo p R b)(hz: -9223372036854775808<=z/\z<=9223372036854775807)(hn:n=z.toNat)(hl:totR R<=b)(hb:b<=98000):
 Calls Tryz.prog 288 #[.pointer (some ⟨i.c,0,none⟩),.int .i64 z] w (ResPost w i S n (min p n) (resR p n R) b (outs (min p n) false R (lenR R - n))):=by
 obtain⟨c0,_⟩:=r.cells;obtain⟨f0,_⟩:=r.froz;have ht:=r.top;have e1:(if z < 0 then(0:Int) else z)=(n:Int):=by split <;> omega
 obtain⟨r1,T1⟩:=r.setM n (by omega);have hmax:max z 0=(n:Int):=by omega
 unfold resR;obtain⟨u,hu⟩:∃u,u=min p n:=⟨_,rfl⟩;have e2:(if n < p then(n:Int) else(p:Int))=(u:Int):=by rw[hu];split <;> omega
 have e3:min (p:Int) (n:Int)=(u:Int):=by omega
 have hult:u<=9223372036854775807:=by omega
 rw[← hu];have R1:=Lib.hid r1;have HT1:=Lib.hid T1;clear hn hu;go_enter Tryz.func288,Tryz.ntmps288;go_upto_region 2 with fail
 generalize w.setCell ⟨i.c,0,none⟩ (.int .i64 (n:Int))=W1 at R1 HT1|-;clear r1 T1 c0 f0;obtain⟨c0,c1,_⟩:=R1.out.cells;obtain⟨_,f1⟩:=R1.out.froz;have R2:=Lib.hid (R1.out.setP u hult);clear r;go_region;have R3:=Lib.hid (show Raw ((W1.setCell ⟨i.c,1,none⟩ (.int .i64 (u:Int))).drew) i S n u R b from R2.out.1.below ⟨rfl,rfl,rfl,Nat.le_refl _,λ_ _=>rfl⟩);have T3:=Lib.hid (show Went w ((W1.setCell ⟨i.c,1,none⟩ (.int .i64 (u:Int))).drew) (blk i S) (blk i S) from Went.same ((HT1.out.trans R2.out.2 λ_ _ h=>h).drew));generalize(W1.setCell ⟨i.c,1,none⟩ (.int .i64 (u:Int))).drew=W2 at R3 T3|-;clear R2 c0 c1 f1 R1 HT1 hmax e1 e2 e3;have B:=Lib.hid ((Below.refl W2.heap.size W2).alloc (Nat.le_refl _) (.cells #[.slice none 0 0] 23));have GB:=Lib.hid (show GBox (W2.alloc (.cells #[.slice none 0 0] 23)) W2.heap.size (.slice none 0 0) from heap_alloc_new _ _);have NB:=Lib.hid (show ¬blk i S W2.heap.size from λh=>by have:=R3.out.lt h;omega);have SZ:=Lib.hid (show(W2.alloc (.cells #[.slice none 0 0] 23)).heap.size=W2.heap.size+1 by simp);have U:=Lib.hid (cutTo_any _ i S n u R b n false (λk=>k=W2.heap.size) (KR W2.heap.size w.heap.size) 299 ⟨W2.heap.size,0,none⟩ [] (R3.out.below B.out) ⟨.slice none 0 0,by funext k;simp[Value.ownBlock],GB.out,Own.nil _ _,by have:=T3.out.turn.size;have:=SZ.out;omega,by simp[Value.ownBlock]⟩ (by rintro k rfl;exact NB.out) (sideR _ _) (by simp) hl (by omega));have d0:=(R3.out.below B.out).cells.1;have HC:=Lib.hid (show lenR (cutn u false R (lenR R - n))<=n by rw[cutn_two];omega);rw[List.nil_append] at U;clear hl hb;go_wp2_with fail
 refine U.out.mono ?_;rintro e w4 ⟨rfl,S4,X4,h4⟩;have C4:=Lib.hid h4;have V:=Lib.hid (trimW w4 i S4 n u _ b C4.out.raw HC.out);clear h4 U d0;go_wp2_with fail
 refine V.out.mono ?_;intro e w5 hp;obtain⟨rfl,S5,h5⟩:=C4.out.op (sideR _ _) hp;obtain⟨A1,m1,c1,k1,hq⟩:=res_end T3.out B.out (by have:=SZ.out;omega) T3.out.turn.size h5;have P:=Lib.hid hq;clear hp hq h5 V C4;go_wp2_with fail
 go_ret;exact P.out
end Go.Proofs.YtdmmciggopmglaaGreatDoor.AR
namespace Go.Proofs.YtdmmciggopmglaaGreatDoor.AR
open Go.RowKit Sg
def plR(mo:Nat)(R:Rw4):Rw4:=if(R 0).length+(R 2).length < mo then(if 2*mo<=totR R then upd R 3 (R 3).dropLast else R) else if(R 0).length < mo then upd R 2 (R 2).dropLast else upd R 0 (R 0).dropLast
def plV(mo:Nat)(R:Rw4):List ByteArray:=if(R 0).length+(R 2).length < mo then [] else if(R 0).length < mo then [] else [lastKey (R 0)]
theorem makePlace_any(w:World)(i:Ix)(S:Sx)(mo p m:Nat)(R:Rw4)(b:Nat)(X:Nat->Prop)(K:List ByteArray->(Nat->Prop)->World->Prop)(F:FuncId)(a:Addr)(r:Raw w i S mo p R b)(k:K [] X w)(hdis:∀k,X k->¬blk i S k)(sd:Side F a K)(hl:totR R<=b)(hb:b<=98500)(hm:mo=m+1):
 Calls Tryz.prog 298 #[.pointer (some ⟨i.c,0,none⟩),.func (.func F) #[] #[.pointer (some a)]] w (CuPost w i S X K mo p (cutn p false (plR mo R) (lenR (plR mo R) - m)) b (plV mo R++outs p false (plR mo R) (lenR (plR mo R) - m))):=by
 unfold plR plV
 by_cases h1:(R 0).length+(R 2).length < mo
 . simp only[h1,if_true]
   by_cases h2:2*mo<=totR R
   . simp only[h2,if_true];exact place_full w i S mo p m R b X K F a r k hdis sd hl hb hm h1 h2
   . simp only[h2,if_false];exact place_room w i S mo p m R b X K F a r k hdis sd hl hb hm h1 (by omega)
 . simp only[h1,if_false]
   by_cases h2:(R 0).length < mo
   . simp only[h2,if_true];exact place_b1 w i S mo p m R b X K F a r k hdis sd hl hb hm (by omega) h2
   . simp only[h2,if_false];exact place_t1 w i S mo p m R b X K F a r k hdis sd hl hb hm (by omega) (by omega)
def Box(w:World)(sb:Nat)(h:Bool)(s:ByteArray)(o:Bool):Prop:=w.heap[sb]?=some (.cells #[.bool h,.string s,.bool o] 41 (0,0))
section
variable{w:World}{sb:Nat}{h o:Bool}{s:ByteArray}
theorem Box.set(k:Box w sb h s o)(x:ByteArray):Box ((w.setCell ⟨sb,1,none⟩ (.string x)).setCell ⟨sb,2,none⟩ (.bool true)) sb h x true:=by
 unfold Box at*;have r1:(w.setCell ⟨sb,1,none⟩ (.string x)).heap[sb]?=some (.cells #[.bool h,.string x,.bool o] 41 (0,0)):=by rw[heap_setCell_same _ _ _ _ _ _ k];rfl
 rw[heap_setCell_same _ _ _ _ _ _ r1];rfl
theorem Box.cells(k:Box w sb h s o):w.cell? ⟨sb,0,none⟩=some (.bool h)/\w.cell? ⟨sb,1,none⟩=some (.string s)/\w.cell? ⟨sb,2,none⟩=some (.bool o)/\w.frozen? ⟨sb,1,none⟩=false/\w.frozen? ⟨sb,2,none⟩=false:=
 ⟨cell_of_row w _ 0 _ _ _ k,cell_of_row w _ 1 _ _ _ k,cell_of_row w _ 2 _ _ _ k,frozen_of_row w _ 1 _ _ k,frozen_of_row w _ 2 _ _ k⟩
theorem Box.lt(k:Box w sb h s o):sb < w.heap.size:=(Array.getElem?_eq_some_iff.1 k).1
theorem load_step(k:Box w sb h s o):(loadVar 41 ⟨sb,0,none⟩).run Tryz.prog w= .ok (.agg #[.bool h,.string s,.bool o]) w:=by
 obtain⟨k0,k1,k2,_,_⟩:=k.cells;unfold loadVar;go_simp
theorem Box.put(k:Box w sb h s o)(h' o':Bool)(s':ByteArray):Box (((w.setCell ⟨sb,0,none⟩ (.bool h')).setCell ⟨sb,1,none⟩ (.string s')).setCell ⟨sb,2,none⟩ (.bool o')) sb h' s' o':=by
 unfold Box at*;have r1:(w.setCell ⟨sb,0,none⟩ (.bool h')).heap[sb]?=some (.cells #[.bool h',.string s,.bool o] 41 (0,0)):=by rw[heap_setCell_same _ _ _ _ _ _ k];rfl
 have r2:((w.setCell ⟨sb,0,none⟩ (.bool h')).setCell ⟨sb,1,none⟩ (.string s')).heap[sb]?=some (.cells #[.bool h',.string s',.bool o] 41 (0,0)):=by rw[heap_setCell_same _ _ _ _ _ _ r1];rfl
 rw[heap_setCell_same _ _ _ _ _ _ r2];rfl
end
def vicOf(vs:List ByteArray):ByteArray:=if vs= [] then⟨#[]⟩ else lastKey vs
def KQ(sb:Nat)(h:Bool)(vs:List ByteArray)(X:Nat->Prop)(W:World):Prop:=X=(λk=>k=sb)/\Box W sb h (vicOf vs) (!vs.isEmpty)
theorem cloQ(w:World)(sb:Nat)(h o:Bool)(s x:ByteArray)(k:Box w sb h s o):
 Calls Tryz.prog 295 #[.string x,.pointer (some ⟨sb,0,none⟩)] w (λe w'=>e= .returned (.tuple #[])/\Box w' sb h x true/\Turn (λk=>k=sb) w w'):=by
 obtain⟨k0,k1,k2,f1,f2⟩:=k.cells;have R:=Lib.hid (k.set x);clear k;go_enter Tryz.func295,Tryz.ntmps295;go_wp2_with fail
 go_end0;exact⟨rfl,R.out,((Turn.refl (λk=>k=sb) w).setCell (p:=⟨sb,1,none⟩) (Or.inl rfl) _).setCell (p:=⟨sb,2,none⟩) (Or.inl rfl) _⟩
theorem sideQ(sb:Nat)(h:Bool):Side 295 ⟨sb,0,none⟩ (KQ sb h) where
 enter:=λargs w=>by kernel_rfl
 lt:=by rintro vs X W ⟨rfl,hB⟩ k rfl;exact hB.lt
 same:=by rintro vs X W W' ⟨rfl,hB⟩ _ hk;exact⟨rfl,(hk sb rfl).trans hB⟩
 call:=by
  rintro vs X W x ⟨rfl,hB⟩ _ _;refine(cloQ W sb h _ _ x hB).mono ?_;rintro e W' ⟨he,hB',hT⟩;refine⟨he,_,⟨rfl,?_⟩,Went.same hT⟩;rw[show vicOf (vs++ [x])=x by unfold vicOf;rw[if_neg (by simp)];simp[lastKey],show(!(vs++ [x]).isEmpty)=true by simp];exact hB'
abbrev sObj(h:Bool)(s:ByteArray)(o:Bool):Obj:= .cells #[.bool h,.string s,.bool o] 41
structure Mid(w:World)(i:Ix)(S:Sx)(h:Bool)(W0:World):Prop where
 bel:Below w.heap.size w W0
 res:Box W0 w.heap.size false ⟨#[]⟩ false
 step:Box W0 (w.heap.size+1) h ⟨#[]⟩ false
 n0:¬blk i S w.heap.size
 n1:¬blk i S (w.heap.size+1)
section
variable{w W W':World}{i:Ix}{S S' S2:Sx}{X':Nat->Prop}{mo p mo' p' b b':Nat}{R R':Rw4}{h o:Bool}{vs:List ByteArray}{e:Ending}{v:Value}
theorem Mid.start(r:Raw w i S mo p R b)(h:Bool):Mid w i S h ((w.alloc (sObj false ⟨#[]⟩ false)).alloc (sObj h ⟨#[]⟩ false)):=by
 have s1:(w.alloc (sObj false ⟨#[]⟩ false)).heap.size=w.heap.size+1:=by simp
 have b1:=(Below.refl w.heap.size w).alloc (Nat.le_refl _) (sObj false ⟨#[]⟩ false);have b2:=b1.alloc (by rw[s1];omega) (sObj h ⟨#[]⟩ false);have q2:=heap_alloc_new (w.alloc (sObj false ⟨#[]⟩ false)) (sObj h ⟨#[]⟩ false);rw[s1] at q2;exact⟨b2,(Below.heap_alloc _ _ _ (by rw[s1];omega)).trans (heap_alloc_new _ _),q2,λhk=>by have:=r.lt hk;omega,λhk=>by have:=r.lt hk;omega⟩
theorem Mid.at(m:Mid w i S h W)(r:Raw w i S mo p R b):CAt W W i S S (λk=>k=w.heap.size+1) (λk=>k=w.heap.size+1) (KQ (w.heap.size+1) h) mo p R b []:=
 CAt.start (r.below m.bel) ⟨rfl,m.step⟩ (by rintro k rfl;exact m.n1)
theorem Mid.out(m:Mid w i S h W)(c:CAt W W' i S S' (λk=>k=w.heap.size+1) X' (KQ (w.heap.size+1) h) mo p R b vs):
 (W'.cell? ⟨w.heap.size+1,0,none⟩=some (.bool h)/\W'.cell? ⟨w.heap.size+1,1,none⟩=some (.string (vicOf vs))/\W'.cell? ⟨w.heap.size+1,2,none⟩=some (.bool (!vs.isEmpty)))/\
 (W'.cell? ⟨w.heap.size,0,none⟩=some (.bool false)/\W'.cell? ⟨w.heap.size,1,none⟩=some (.string ⟨#[]⟩)/\W'.cell? ⟨w.heap.size,2,none⟩=some (.bool false))/\(W'.frozen? ⟨w.heap.size,0,none⟩=false/\W'.frozen? ⟨w.heap.size,1,none⟩=false/\W'.frozen? ⟨w.heap.size,2,none⟩=false)/\
 Box (((W'.setCell ⟨w.heap.size,0,none⟩ (.bool h)).setCell ⟨w.heap.size,1,none⟩ (.string (vicOf vs))).setCell ⟨w.heap.size,2,none⟩ (.bool (!vs.isEmpty))) w.heap.size h (vicOf vs) (!vs.isEmpty)/\
 RPost (.agg #[.bool h,.string (vicOf vs),.bool (!vs.isEmpty)]) w i S mo p R b (.returned (.agg #[.bool h,.string (vicOf vs),.bool (!vs.isEmpty)])) (((W'.setCell ⟨w.heap.size,0,none⟩ (.bool h)).setCell ⟨w.heap.size,1,none⟩ (.string (vicOf vs))).setCell ⟨w.heap.size,2,none⟩ (.bool (!vs.isEmpty))):=by
 obtain⟨r,⟨rfl,hB⟩,hW,hd⟩:=c;have hs0:=m.bel.size;have hs1:=hW.turn.size
 have ores:=went_out hW m.res.lt (λhk=>by
  rcases hk with hk|hk
  . exact m.n0 hk
  . have hk:w.heap.size=w.heap.size+1:=hk;omega)
 have hr:Box W' w.heap.size false ⟨#[]⟩ false:=ores.1.trans m.res;have hn:¬blk i S' w.heap.size:=λhk=>ores.2 (Or.inl hk);refine⟨⟨hB.cells.1,hB.cells.2.1,hB.cells.2.2.1⟩,⟨hr.cells.1,hr.cells.2.1,hr.cells.2.2.1⟩,⟨frozen_of_row W' _ 0 _ _ hr,frozen_of_row W' _ 1 _ _ hr,frozen_of_row W' _ 2 _ _ hr⟩,hr.put _ _ _,rfl,S',r.kept (by simp[World.setCell]) (λk hk=>?_),λk hk=>?_,?_⟩
 . have hne:k≠w.heap.size:=λe=>hn (e▸hk);rw[Below.heap_setCell _ _ _ _ hne,Below.heap_setCell _ _ _ _ hne,Below.heap_setCell _ _ _ _ hne]
 . rcases hW.new k (Or.inl hk) with h1|h1
   . rcases h1 with h1|h1
     . exact Or.inl h1
     . have h1:k=w.heap.size+1:=h1;exact Or.inr (by omega)
   . exact Or.inr (by omega)
 . have t1:Turn (blk i S) w W':=(Turn.of_below (S:=blk i S) m.bel).trans hW.turn (λk hk hS=>by
    rcases hS with h1|h1
    . exact h1
    . have h1:k=w.heap.size+1:=h1;omega)
   exact((t1.setCell (p:=⟨w.heap.size,0,none⟩) (Or.inr (Nat.le_refl _)) _).setCell (p:=⟨w.heap.size,1,none⟩) (Or.inr (Nat.le_refl _)) _).setCell (p:=⟨w.heap.size,2,none⟩) (Or.inr (Nat.le_refl _)) _
end
section
variable(w:World)(i:Ix)(S:Sx)(mo p:Nat)(R:Rw4)(b:Nat)(key:ByteArray)(r:Raw w i S mo p R b)
include r
theorem req_zero(hm:mo=0):Calls Tryz.prog 287 #[.pointer (some ⟨i.c,0,none⟩),.string key] w (RPost (.agg #[.bool false,.string ⟨#[]⟩,.bool false]) w i S mo p R b):=by
 have b1:=(Below.refl w.heap.size w).alloc (Nat.le_refl _) (sObj false ⟨#[]⟩ false);have hB:Box (w.alloc (sObj false ⟨#[]⟩ false)) w.heap.size false ⟨#[]⟩ false:=heap_alloc_new _ _;obtain⟨g0,g1,g2,f1,f2⟩:=hB.cells;have f0:(w.alloc (sObj false ⟨#[]⟩ false)).frozen? ⟨w.heap.size,0,none⟩=false:=frozen_of_row _ _ 0 _ _ hB;have c0:=(r.below b1).cells.1;have e9:((mo:Int)==0)=true:=by rw[hm];rfl
 have e8:(mo==0)=true:=by rw[hm];rfl
 have F:=Lib.hid hB;have P:=Lib.hid (show RPost (.agg #[.bool false,.string ⟨#[]⟩,.bool false]) w i S mo p R b (.returned (.agg #[.bool false,.string ⟨#[]⟩,.bool false])) (w.alloc (sObj false ⟨#[]⟩ false)) from⟨rfl,S,r.below b1,Went.below b1⟩);clear r b1 hB hm;go_enter Tryz.func287,Tryz.ntmps287;go_wp2_with fail
 refine bodyPost_ret (results_c rfl _ _ _ ⟨w.heap.size,0,none⟩ _ rfl (load_step F.out)) rfl ?_;exact P.out
variable(hs:key.size<=maxLen)
include hs
theorem has_mid(h:Bool)(hh:hit R key=h):Calls Tryz.prog 283 #[.pointer (some ⟨i.c,0,none⟩),.string key] (w.alloc (sObj false ⟨#[]⟩ false)) (BoolPost h (w.alloc (sObj false ⟨#[]⟩ false))):=by
 have b1:=(Below.refl w.heap.size w).alloc (Nat.le_refl _) (sObj false ⟨#[]⟩ false);have:=hasW _ i S mo p R b (r.below b1) key hs;rw[hh] at this;exact this
variable(m:Nat)(hm:mo=m+1)(hb:b<=98500)
include hm hb
theorem req_hit(h1:hit R key=true):Calls Tryz.prog 287 #[.pointer (some ⟨i.c,0,none⟩),.string key] w (RPost (.agg #[.bool true,.string (vicOf []),.bool (!([]:List ByteArray).isEmpty)]) w i S mo p (putR R key 1) (b+1)):=by
 have U:=Lib.hid (has_mid w i S mo p R b key r hs true h1);have b1:=(Below.refl w.heap.size w).alloc (Nat.le_refl _) (sObj false ⟨#[]⟩ false);have c0:=(r.below b1).cells.1;have M0:=Lib.hid (Mid.start r true);have A0:=Lib.hid (M0.out.at r);have ht:=r.top.1;have e9:((mo:Int)==0)=false:=by simp;omega
 have e8:(mo==0)=false:=by simp;omega
 have HW:IntKind.i64.wrap ((mo:Int) - 1)=(m:Int):=by rw[IntWalk.i64_in _ (by omega)];omega
 have HB:=Lib.hid hb;have HS:=Lib.hid hs;clear r b1 h1 ht hb hm;go_enter Tryz.func287,Tryz.ntmps287;go_wp2_with fail
 refine U.out.mono ?_;rintro e w1 ⟨rfl,rfl⟩;go_upto_region 4 with fail
 clear c0 U;generalize(w.alloc (sObj false ⟨#[]⟩ false)).alloc (sObj true ⟨#[]⟩ false)=w0 at M0 A0|-;obtain⟨s0,_,_⟩:=A0.out.side.2.cells;have Z:=Lib.hid (putW1 w0 i S mo p R b A0.out.raw key hs HB.out);go_wp2_with fail
 refine Z.out.mono ?_;intro e w2 hp;obtain⟨rfl,S2,A2'⟩:=A0.out.op (sideQ _ _) hp;have A2:=Lib.hid A2';clear hp A2' Z s0 e9 e8 HW A0;obtain⟨⟨s0,s1,s2⟩,⟨g0,g1,g2⟩,⟨f0,f1,f2⟩,F1,F2⟩:=M0.out.out A2.out;have F1:=Lib.hid F1;have F2:=Lib.hid F2;go_wp2_with fail
 refine bodyPost_ret (results_c rfl _ _ _ ⟨w.heap.size,0,none⟩ _ rfl (load_step F1.out)) rfl ?_;exact F2.out
set_option maxHeartbeats 1000000 in
theorem req_b1(h1:hit R key=false)(h2:inn (R 2) key=true)(hl:totR R<=b)(hp:p<=mo):Calls Tryz.prog 287 #[.pointer (some ⟨i.c,0,none⟩),.string key] w (RPost (.agg #[.bool false,.string (vicOf (outs (rpU mo p R) false R (lenR R - m))),.bool (!(outs (rpU mo p R) false R (lenR R - m)).isEmpty)]) w i S mo (rpU mo p R) (putR (cutn (rpU mo p R) false R (lenR R - m)) key 1) (b+1)):=by
 have U:=Lib.hid (has_mid w i S mo p R b key r hs false h1);have b1:=(Below.refl w.heap.size w).alloc (Nat.le_refl _) (sObj false ⟨#[]⟩ false);have c0:=(r.below b1).cells.1;have M0:=Lib.hid (Mid.start r false);have A0:=Lib.hid (M0.out.at r);have ht:=r.top.1;have e9:((mo:Int)==0)=false:=by simp;omega
 have e8:(mo==0)=false:=by simp;omega
 have HW:IntKind.i64.wrap ((mo:Int) - 1)=(m:Int):=by rw[IntWalk.i64_in _ (by omega)];omega
 have HB:=Lib.hid hb
 have H2:=Lib.hid (show 0 < (R 2).length from by
  rw[inn_iff] at h2;exact List.length_pos_of_mem h2)
 have HL:=Lib.hid (And.intro hl hp);have V2:=ls_has _ (i.r 2) (S 2) (R 2) b (A0.out.raw.ls 2 (by omega)) key hs;rw[h2] at V2;have V2:=Lib.hid V2;clear r b1 h1 ht hb hm h2 hl hp;go_enter Tryz.func287,Tryz.ntmps287;go_wp2_with fail
 refine U.out.mono ?_;rintro e w1 ⟨rfl,rfl⟩;go_upto_region 4 with fail
 clear c0 U;generalize(w.alloc (sObj false ⟨#[]⟩ false)).alloc (sObj false ⟨#[]⟩ false)=w0 at M0 A0 V2|-;obtain⟨s0,_,_⟩:=A0.out.side.2.cells;have c4:w0.cell? ⟨i.c,4,none⟩=some (.pointer (some ⟨i.r 2,0,none⟩)):=A0.out.raw.cells.2.2.2.2.1;go_wp2_with fail
 refine V2.out.mono ?_;rintro e w1 ⟨rfl,rfl⟩;clear V2;have Y:=Lib.hid (raiseW w0 i S mo p R b A0.out.raw H2.out HL.out.2);go_wp2_with fail
 refine Y.out.mono ?_;intro e w2 hp;obtain⟨rfl,S2,A2'⟩:=A0.out.op (sideQ _ _) hp;have A2:=Lib.hid A2';have c0:w2.cell? ⟨i.c,0,none⟩=some (.int .i64 (mo:Int)):=A2'.raw.cells.1;clear hp A2' Y s0 c4 e9 e8;obtain⟨u,hu⟩:∃u,u=(rpU mo p R):=⟨_,rfl⟩;rw[← hu] at A2;have HU:=Lib.hid hu;clear hu;have Z:=Lib.hid (cutTo_any w2 i S2 mo u R b m false _ _ 295 ⟨w.heap.size+1,0,none⟩ [] A2.out.raw A2.out.side A2.out.dis (sideQ _ _) (by simp) HL.out.1 HB.out);rw[List.nil_append] at Z;go_wp2_with fail
 refine Z.out.mono ?_;rintro e w3 ⟨rfl,S3,X3,A3'⟩;have A3:=Lib.hid (A2.out.trans A3');clear A3' A2 Z c0 HW;generalize hvs:outs u false R (lenR R - m)=vs at*;generalize hQ:cutn u false R (lenR R - m)=Q at*;have HV:=Lib.hid (And.intro hvs hQ);clear hvs hQ;have T:=Lib.hid (putW1 w3 i S3 mo u Q b A3.out.raw key hs HB.out);go_wp2_with fail
 refine T.out.mono ?_;intro e w4 hp;obtain⟨rfl,S4,A4'⟩:=A3.out.op (sideQ _ _) hp;have A4:=Lib.hid A4';clear hp A4' T A0 A3;obtain⟨⟨s0,s1,s2⟩,⟨g0,g1,g2⟩,⟨f0,f1,f2⟩,F1,F2⟩:=M0.out.out A4.out;have F1:=Lib.hid F1;have F2:=Lib.hid F2;go_wp2_with fail
 refine bodyPost_ret (results_c rfl _ _ _ ⟨w.heap.size,0,none⟩ _ rfl (load_step F1.out)) rfl ?_;obtain⟨e2,e3⟩:=HV.out;subst e2 e3;have e1:=HU.out;subst e1;exact F2.out
set_option maxHeartbeats 1000000 in
theorem req_b2(h1:hit R key=false)(h2:inn (R 2) key=false)(h3:inn (R 3) key=true)(hl:totR R<=b)(hp:p<=mo):Calls Tryz.prog 287 #[.pointer (some ⟨i.c,0,none⟩),.string key] w (RPost (.agg #[.bool false,.string (vicOf (outs (lpU p R) true R (lenR R - m))),.bool (!(outs (lpU p R) true R (lenR R - m)).isEmpty)]) w i S mo (lpU p R) (putR (cutn (lpU p R) true R (lenR R - m)) key 1) (b+1)):=by
 have U:=Lib.hid (has_mid w i S mo p R b key r hs false h1);have b1:=(Below.refl w.heap.size w).alloc (Nat.le_refl _) (sObj false ⟨#[]⟩ false);have c0:=(r.below b1).cells.1;have M0:=Lib.hid (Mid.start r false);have A0:=Lib.hid (M0.out.at r);have ht:=r.top.1;have e9:((mo:Int)==0)=false:=by simp;omega
 have e8:(mo==0)=false:=by simp;omega
 have HW:IntKind.i64.wrap ((mo:Int) - 1)=(m:Int):=by rw[IntWalk.i64_in _ (by omega)];omega
 have HB:=Lib.hid hb
 have H2:=Lib.hid (show 0 < (R 3).length from by
  rw[inn_iff] at h3;exact List.length_pos_of_mem h3)
 have HL:=Lib.hid (And.intro hl hp);have V2:=ls_has _ (i.r 2) (S 2) (R 2) b (A0.out.raw.ls 2 (by omega)) key hs;rw[h2] at V2;have V2:=Lib.hid V2;have V3:=ls_has _ (i.r 3) (S 3) (R 3) b (A0.out.raw.ls 3 (by omega)) key hs;rw[h3] at V3;have V3:=Lib.hid V3;clear r b1 h1 ht hb hm h2 hl hp h3;go_enter Tryz.func287,Tryz.ntmps287;go_wp2_with fail
 refine U.out.mono ?_;rintro e w1 ⟨rfl,rfl⟩;go_upto_region 4 with fail
 clear c0 U;generalize(w.alloc (sObj false ⟨#[]⟩ false)).alloc (sObj false ⟨#[]⟩ false)=w0 at M0 A0 V2 V3|-;obtain⟨s0,_,_⟩:=A0.out.side.2.cells;have c4:w0.cell? ⟨i.c,4,none⟩=some (.pointer (some ⟨i.r 2,0,none⟩)):=A0.out.raw.cells.2.2.2.2.1;have c5:w0.cell? ⟨i.c,5,none⟩=some (.pointer (some ⟨i.r 3,0,none⟩)):=A0.out.raw.cells.2.2.2.2.2;go_wp2_with fail
 refine V2.out.mono ?_;rintro e w1 ⟨rfl,rfl⟩;clear V2;go_wp2_with fail
 refine V3.out.mono ?_;rintro e w1 ⟨rfl,rfl⟩;clear V3;have Y:=Lib.hid (lowerW w0 i S mo p R b A0.out.raw H2.out HL.out.2);go_wp2_with fail
 refine Y.out.mono ?_;intro e w2 hp;obtain⟨rfl,S2,A2'⟩:=A0.out.op (sideQ _ _) hp;have A2:=Lib.hid A2';have c0:w2.cell? ⟨i.c,0,none⟩=some (.int .i64 (mo:Int)):=A2'.raw.cells.1;clear hp A2' Y s0 c4 c5 e9 e8;obtain⟨u,hu⟩:∃u,u=(lpU p R):=⟨_,rfl⟩;rw[← hu] at A2;have HU:=Lib.hid hu;clear hu;have Z:=Lib.hid (cutTo_any w2 i S2 mo u R b m true _ _ 295 ⟨w.heap.size+1,0,none⟩ [] A2.out.raw A2.out.side A2.out.dis (sideQ _ _) (by simp) HL.out.1 HB.out);rw[List.nil_append] at Z;go_wp2_with fail
 refine Z.out.mono ?_;rintro e w3 ⟨rfl,S3,X3,A3'⟩;have A3:=Lib.hid (A2.out.trans A3');clear A3' A2 Z c0 HW;generalize hvs:outs u true R (lenR R - m)=vs at*;generalize hQ:cutn u true R (lenR R - m)=Q at*;have HV:=Lib.hid (And.intro hvs hQ);clear hvs hQ;have T:=Lib.hid (putW1 w3 i S3 mo u Q b A3.out.raw key hs HB.out);go_wp2_with fail
 refine T.out.mono ?_;intro e w4 hp;obtain⟨rfl,S4,A4'⟩:=A3.out.op (sideQ _ _) hp;have A4:=Lib.hid A4';clear hp A4' T A0 A3;obtain⟨⟨s0,s1,s2⟩,⟨g0,g1,g2⟩,⟨f0,f1,f2⟩,F1,F2⟩:=M0.out.out A4.out;have F1:=Lib.hid F1;have F2:=Lib.hid F2;go_wp2_with fail
 refine bodyPost_ret (results_c rfl _ _ _ ⟨w.heap.size,0,none⟩ _ rfl (load_step F1.out)) rfl ?_;obtain⟨e2,e3⟩:=HV.out;subst e2 e3;have e1:=HU.out;subst e1;exact F2.out
set_option maxHeartbeats 1000000 in
theorem req_new(h1:hit R key=false)(h2:inn (R 2) key=false)(h3:inn (R 3) key=false)(hl:totR R<=b):Calls Tryz.prog 287 #[.pointer (some ⟨i.c,0,none⟩),.string key] w
 (RPost (.agg #[.bool false,.string (vicOf (plV mo R++outs p false (plR mo R) (lenR (plR mo R) - m))),.bool (!(plV mo R++outs p false (plR mo R) (lenR (plR mo R) - m)).isEmpty)]) w i S mo p (putR (cutn p false (plR mo R) (lenR (plR mo R) - m)) key 0) (b+1)):=by
 have U:=Lib.hid (has_mid w i S mo p R b key r hs false h1);have b1:=(Below.refl w.heap.size w).alloc (Nat.le_refl _) (sObj false ⟨#[]⟩ false);have c0:=(r.below b1).cells.1;have M0:=Lib.hid (Mid.start r false);have A0:=Lib.hid (M0.out.at r);have ht:=r.top.1;have e9:((mo:Int)==0)=false:=by simp;omega
 have e8:(mo==0)=false:=by simp;omega
 have HW:IntKind.i64.wrap ((mo:Int) - 1)=(m:Int):=by rw[IntWalk.i64_in _ (by omega)];omega
 have HB:=Lib.hid hb;have HL:=Lib.hid (And.intro hl hm);have V2:=ls_has _ (i.r 2) (S 2) (R 2) b (A0.out.raw.ls 2 (by omega)) key hs;rw[h2] at V2;have V2:=Lib.hid V2;have V3:=ls_has _ (i.r 3) (S 3) (R 3) b (A0.out.raw.ls 3 (by omega)) key hs;rw[h3] at V3;have V3:=Lib.hid V3;clear r b1 h1 ht hb hm h2 hl h3;go_enter Tryz.func287,Tryz.ntmps287;go_wp2_with fail
 refine U.out.mono ?_;rintro e w1 ⟨rfl,rfl⟩;go_upto_region 4 with fail
 clear c0 U;generalize(w.alloc (sObj false ⟨#[]⟩ false)).alloc (sObj false ⟨#[]⟩ false)=w0 at M0 A0 V2 V3|-;obtain⟨s0,_,_⟩:=A0.out.side.2.cells;have c4:w0.cell? ⟨i.c,4,none⟩=some (.pointer (some ⟨i.r 2,0,none⟩)):=A0.out.raw.cells.2.2.2.2.1;have c5:w0.cell? ⟨i.c,5,none⟩=some (.pointer (some ⟨i.r 3,0,none⟩)):=A0.out.raw.cells.2.2.2.2.2;go_wp2_with fail
 refine V2.out.mono ?_;rintro e w1 ⟨rfl,rfl⟩;clear V2;go_wp2_with fail
 refine V3.out.mono ?_;rintro e w1 ⟨rfl,rfl⟩;clear V3;have Z:=Lib.hid (makePlace_any w0 i S mo p m R b _ _ 295 ⟨w.heap.size+1,0,none⟩ A0.out.raw A0.out.side A0.out.dis (sideQ _ _) HL.out.1 HB.out HL.out.2);generalize plV mo R++outs p false (plR mo R) (lenR (plR mo R) - m)=vs at*;generalize cutn p false (plR mo R) (lenR (plR mo R) - m)=Q at*;go_wp2_with fail
 refine Z.out.mono ?_;rintro e w3 ⟨rfl,S3,X3,A3'⟩;have A3:=Lib.hid A3';clear A3' Z s0 c4 c5 e9 e8 HW;have T:=Lib.hid (putW0 w3 i S3 mo p Q b A3.out.raw key hs HB.out);go_wp2_with fail
 refine T.out.mono ?_;intro e w4 hp;obtain⟨rfl,S4,A4'⟩:=A3.out.op (sideQ _ _) hp;have A4:=Lib.hid A4';clear hp A4' T A0 A3;obtain⟨⟨s0,s1,s2⟩,⟨g0,g1,g2⟩,⟨f0,f1,f2⟩,F1,F2⟩:=M0.out.out A4.out;have F1:=Lib.hid F1;have F2:=Lib.hid F2;go_wp2_with fail
 refine bodyPost_ret (results_c rfl _ _ _ ⟨w.heap.size,0,none⟩ _ rfl (load_step F1.out)) rfl ?_;exact F2.out
end
end Go.Proofs.YtdmmciggopmglaaGreatDoor.AR
namespace Go.Proofs.YtdmmciggopmglaaGreatDoor.AR
open Sg
structure St where
 mo:Nat
 p:Nat
 R:Rw4
structure Pre(R:Rw4):Prop where
 dis:∀j k,j < 4->k < 4->∀x,x∈R j->x∈R k->j=k
 nd:∀k,k < 4->(R k).Nodup
def s02(R:Rw4):Nat:=(R 0).length+(R 2).length
structure Ok(s:St):Prop where
 pre:Pre s.R
 le:lenR s.R<=s.mo
 gl:s02 s.R<=s.mo
 tl:totR s.R<=2*s.mo
 pl:s.p<=s.mo
def St.req(s:St)(k:ByteArray):St:=
 if s.mo=0 then s
 else if hit s.R k=true then⟨s.mo,s.p,putR s.R k 1⟩
 else if inn (s.R 2) k=true then⟨s.mo,rpU s.mo s.p s.R,putR (cutn (rpU s.mo s.p s.R) false s.R (lenR s.R - (s.mo - 1))) k 1⟩
 else if inn (s.R 3) k=true then⟨s.mo,lpU s.p s.R,putR (cutn (lpU s.p s.R) true s.R (lenR s.R - (s.mo - 1))) k 1⟩
 else⟨s.mo,s.p,putR (cutn s.p false (plR s.mo s.R) (lenR (plR s.mo s.R) - (s.mo - 1))) k 0⟩
def St.vs(s:St)(k:ByteArray):List ByteArray:=
 if s.mo=0 then []
 else if hit s.R k=true then []
 else if inn (s.R 2) k=true then outs (rpU s.mo s.p s.R) false s.R (lenR s.R - (s.mo - 1))
 else if inn (s.R 3) k=true then outs (lpU s.p s.R) true s.R (lenR s.R - (s.mo - 1))
 else plV s.mo s.R++outs s.p false (plR s.mo s.R) (lenR (plR s.mo s.R) - (s.mo - 1))
def St.step(s:St)(k:ByteArray):Value:= .agg #[.bool (hit s.R k),.string (vicOf (s.vs k)),.bool (!(s.vs k).isEmpty)]
def St.rm(s:St)(k:ByteArray):St:=⟨s.mo,s.p,rmR s.R k⟩
def St.adB(s:St)(k:ByteArray):Bool:=!hit s.R k&&decide (lenR s.R < s.mo)
def St.ad(s:St)(k:ByteArray):St:=if s.adB k=true then⟨s.mo,s.p,trimR s.mo (putR s.R k 0)⟩ else s
def St.dr(s:St):St:=⟨s.mo,s.p,upd s.R (lv s.R s.p false) (s.R (lv s.R s.p false)).dropLast⟩
def St.rs(s:St)(n:Nat):St:=⟨n,min s.p n,resR s.p n s.R⟩
def St.start(n:Nat):St:=⟨n,0,λ_=>[]⟩
section
variable{R Q:Rw4}{x y:ByteArray}{p n k:Nat}{q:Bool}
theorem Pre.sub(h:Pre R)(hs:∀k,k < 4->(Q k).Sublist (R k)):Pre Q:=
 ⟨λj k hj hk x h1 h2=>h.dis j k hj hk x ((hs j hj).subset h1) ((hs k hk).subset h2),λk hk=>(h.nd k hk).sublist (hs k hk)⟩
theorem Pre.front(h:Pre R)(hx:∀j,j < 4->x∉R j)(k:Nat):Pre (upd R k (x::R k)):=by
 have key:∀j,j < 4->∀y,y∈upd R k (x::R k) j->(y=x/\j=k)\/y∈R j:=λj _ y hy=>by
  by_cases e:j=k
  . subst e;rw[upd_same] at hy;exact(List.mem_cons.1 hy).imp (λh=>⟨h,rfl⟩) id
  . rw[upd_ne e] at hy;exact Or.inr hy
 refine⟨λj l hj hl y h1 h2=>?_,λj hj=>?_⟩
 . rcases key j hj y h1 with⟨e1,f1⟩|g1
   . rcases key l hl y h2 with⟨e2,f2⟩|g2
     . omega
     . subst e1;exact absurd g2 (hx l hl)
   . rcases key l hl y h2 with⟨e2,f2⟩|g2
     . subst e2;exact absurd g1 (hx j hj)
     . exact h.dis j l hj hl y g1 g2
 . by_cases e:j=k
   . subst e;rw[upd_same,List.nodup_cons];exact⟨hx j hj,h.nd j hj⟩
   . rw[upd_ne e];exact h.nd j hj
theorem last_out{xs:List ByteArray}(h:xs.Nodup)(h0:0 < xs.length):lastKey xs∉xs.dropLast:=by
 have h2:xs≠ []:=λe=>by rw[e] at h0;exact Nat.lt_irrefl _ h0
 rw[← (dropLast_rem h h2).1];exact rem_not
theorem pop_out(h:Pre R)(hk:k < 4)(h0:0 < (R k).length):Pre (upd R k (R k).dropLast)/\∀j,j < 4->lastKey (R k)∉upd R k (R k).dropLast j:=by
 refine⟨h.sub λj hj=>?_,λj hj hm=>?_⟩
 . by_cases e:j=k
   . subst e;rw[upd_same];exact List.dropLast_sublist _
   . rw[upd_ne e];exact List.Sublist.refl _
 . by_cases e:j=k
   . subst e;rw[upd_same] at hm;exact last_out (h.nd j hj) h0 hm
   . rw[upd_ne e] at hm;exact e (h.dis j k hj hk _ hm (last_mem h0))
theorem cut1_eq(h:Pre R)(hl:0 < lenR R):cut1 p q R=upd (upd R (lv R p q) (R (lv R p q)).dropLast) (lv R p q+2) (lastKey (R (lv R p q))::upd R (lv R p q) (R (lv R p q)).dropLast (lv R p q+2)):=by
 have h0:=lv_pos (p:=p) (q:=q) hl;have h4:=lv_lt R p q;unfold cut1;rw[upd_ne (f:=R) (show lv R p q+2≠lv R p q by omega),rem_none];intro hm;have:=h.dis _ _ h4.2 h4.1 _ hm (last_mem h0);omega
structure Cut(R Q:Rw4)(n:Nat):Prop where
 pre:Pre Q
 len:lenR Q+n=lenR R
 gl:s02 Q=s02 R
 tot:totR Q=totR R
 gh:∀k,2<=k->k < 4->∀y,y∈R k->y∈Q k
 old:∀k,k < 4->∀y,y∈Q k->∃j,j < 4/\y∈R j
theorem cut1_ok(h:Pre R)(hl:0 < lenR R):Cut R (cut1 p q R) 1:=by
 have h0:=lv_pos (p:=p) (q:=q) hl;have h4:=lv_lt R p q;obtain⟨h1,h2⟩:=pop_out h h4.1 h0;have hlen:=cut1_len (p:=p) (q:=q) hl;rw[cut1_eq h hl] at hlen|-;refine⟨h1.front h2 _,hlen,?_,?_,λk hk hk4 y hy=>?_,λk hk y hy=>?_⟩
 . rcases lv_two R p q with e|e <;> rw[e] at h0|- <;> simp[s02,upd] <;> omega
 . rcases lv_two R p q with e|e <;> rw[e] at h0|- <;> simp[totR,upd] <;> omega
 . have hne:k≠lv R p q:=by rcases lv_two R p q with e|e <;> omega
   by_cases e:k=lv R p q+2
   . subst e;rw[upd_same,upd_ne hne];exact List.mem_cons_of_mem _ hy
   . rw[upd_ne e,upd_ne hne];exact hy
 . have key:∀j,j < 4->y∈upd R (lv R p q) (R (lv R p q)).dropLast j->∃j,j < 4/\y∈R j:=λj hj hm=>by
    by_cases e:j=lv R p q
    . subst e;rw[upd_same] at hm;exact⟨_,hj,List.dropLast_subset _ hm⟩
    . rw[upd_ne e] at hm;exact⟨j,hj,hm⟩
   by_cases e:k=lv R p q+2
   . rw[e,upd_same] at hy;rcases List.mem_cons.1 hy with hy|hy
     . exact⟨_,h4.1,hy▸last_mem h0⟩
     . exact key _ h4.2 hy
   . rw[upd_ne e] at hy;exact key k hk hy
theorem cutn_ok(h:Pre R):∀{n:Nat},n<=lenR R->Cut R (cutn p q R n) n
 |0,_=>⟨h,rfl,rfl,rfl,λ_ _ _ _ hy=>hy,λk hk _ hy=>⟨k,hk,hy⟩⟩
 |n+1,hn=>by
  have c:=cutn_ok h (n:=n) (by omega);have hl:=c.len;have d:=cut1_ok (p:=p) (q:=q) c.pre (by omega);have dl:=d.len;refine⟨d.pre,?_,d.gl.trans c.gl,d.tot.trans c.tot,λk h1 h2 y hy=>d.gh k h1 h2 y (c.gh k h1 h2 y hy),λk hk y hy=>?_⟩
  . show lenR (cut1 p q (cutn p q R n))+(n+1)=_;omega
  . obtain⟨j,hj,hm⟩:=d.old k hk y hy;exact c.old j hj y hm
theorem Pre.rm(h:Pre R)(x:ByteArray):Pre (rmR R x):=h.sub λ_ _=>List.filter_sublist
theorem rm_out(R:Rw4)(x:ByteArray):∀j,j < 4->x∉rmR R x j:=λ_ _=>rem_not
theorem Pre.put(h:Pre R)(x:ByteArray)(k:Nat):Pre (putR R x k):=(h.rm x).front (rm_out R x) k
theorem put_at(R:Rw4)(x:ByteArray)(k:Nat):putR R x k k=x::rem (R k) x:=upd_same _ _ _
theorem put_ne{j:Nat}(h:j≠k):putR R x k j=rem (R j) x:=upd_ne h
theorem put_tot(R:Rw4)(x:ByteArray)(hk:k < 2):totR (putR R x k)<=totR R+1:=by
 have r0:=rem_le (R 0) x;have r1:=rem_le (R 1) x;have r2:=rem_le (R 2) x;have r3:=rem_le (R 3) x;obtain rfl|rfl:k=0\/k=1:=by omega
 . unfold totR;rw[put_at,put_ne (by omega),put_ne (by omega),put_ne (by omega),List.length_cons];omega
 . unfold totR;rw[put_at,put_ne (by omega),put_ne (by omega),put_ne (by omega),List.length_cons];omega
theorem pl_tot(mo:Nat)(R:Rw4):totR (plR mo R)<=totR R:=by
 unfold plR;split
 . split
   . simp[totR,upd]
   . exact Nat.le_refl _
 . split
   . simp[totR,upd]
   . simp[totR,upd]
theorem trim_sub(mo:Nat)(R:Rw4)(k:Nat):(trimR mo R k).Sublist (R k):=by
 unfold trimR trim3
 by_cases e:k=3
 . subst e;rw[upd_same];refine(List.take_sublist _ _).trans ?_;rw[show trim2 mo R 3=R 3 from upd_ne (by omega)];exact List.Sublist.refl _
 . rw[upd_ne e];unfold trim2
   by_cases e2:k=2
   . subst e2;rw[upd_same];exact List.take_sublist _ _
   . rw[upd_ne e2];exact List.Sublist.refl _
theorem trim_cnt{mo:Nat}{R:Rw4}(h:lenR R<=mo):lenR (trimR mo R)=lenR R/\s02 (trimR mo R)<=mo/\totR (trimR mo R)<=2*mo/\totR (trimR mo R)<=totR R:=by
 have f0:trim2 mo R 0=R 0:=upd_ne (by omega);have f1:trim2 mo R 1=R 1:=upd_ne (by omega);have f2:trim2 mo R 2=(R 2).take (mo - (R 0).length):=upd_same _ _ _;have f3:trim2 mo R 3=R 3:=upd_ne (by omega);have ht:∀j,j≠3->trimR mo R j=trim2 mo R j:=λj hj=>by unfold trimR trim3;exact upd_ne hj
 have e0:trimR mo R 0=R 0:=(ht 0 (by omega)).trans f0;have e1:trimR mo R 1=R 1:=(ht 1 (by omega)).trans f1;have e2:trimR mo R 2=(R 2).take (mo - (R 0).length):=(ht 2 (by omega)).trans f2
 have e3:trimR mo R 3=(R 3).take (2*mo - ((R 0).length+(R 1).length+((R 2).take (mo - (R 0).length)).length)):=by
  show upd (trim2 mo R) 3 ((trim2 mo R 3).take (2*mo - ((trim2 mo R 0).length+(trim2 mo R 1).length+(trim2 mo R 2).length))) 3=_;rw[upd_same,f0,f1,f2,f3]
 unfold lenR at*;unfold s02 totR;rw[e0,e1,e2,e3,List.length_take,List.length_take];omega
end
section
variable{s:St}
theorem Ok.zero(h:Ok s)(hm:s.mo=0):s.R 0= []/\s.R 1= []:=by
 have:=h.le;unfold lenR at this;exact⟨List.eq_nil_of_length_eq_zero (by omega),List.eq_nil_of_length_eq_zero (by omega)⟩
theorem hit_iff{R:Rw4}{k:ByteArray}:hit R k=true<->k∈R 0\/k∈R 1:=by unfold hit;rw[Bool.or_eq_true,inn_iff,inn_iff]
theorem hit_no{R:Rw4}{k:ByteArray}:hit R k=false<->k∉R 0/\k∉R 1:=by unfold hit;rw[Bool.or_eq_false_iff,inn_no,inn_no]
theorem rp_le(mo p:Nat)(R:Rw4)(h:p<=mo):rpU mo p R<=mo:=by unfold rpU;omega
theorem lp_le(mo p:Nat)(R:Rw4)(h:p<=mo):lpU p R<=mo:=by unfold lpU;omega
theorem ok_ghost(h:Ok s)(hm:s.mo≠0)(k:ByteArray)(j:Nat)(hj:j=2\/j=3)(hk:k∈s.R j)(_:hit s.R k=false)(p:Nat)(hp:p<=s.mo)(q:Bool):Ok ⟨s.mo,p,putR (cutn p q s.R (lenR s.R - (s.mo - 1))) k 1⟩:=by
 have c:=cutn_ok (p:=p) (q:=q) h.pre (n:=lenR s.R - (s.mo - 1)) (by omega);have hkQ:=c.gh j (by omega) (by omega) k hk;have h1:=c.len;have h2:=c.gl;have h3:=c.tot;have g1:=h.le;have g2:=h.gl;have g3:=h.tl;have r:=rem_len (c.pre.nd j (by omega)) hkQ;generalize cutn p q s.R (lenR s.R - (s.mo - 1))=Q at*;refine⟨c.pre.put k 1,?_,?_,?_,hp⟩
 . show lenR (putR Q k 1)<=s.mo;have r0:=rem_le (Q 0) k;have r1:=rem_le (Q 1) k;unfold lenR at*;rw[put_at,put_ne (by omega),List.length_cons];omega
 . show s02 (putR Q k 1)<=s.mo;have r0:=rem_le (Q 0) k;have r2:=rem_le (Q 2) k;unfold s02 at*;rw[put_ne (by omega),put_ne (by omega)];omega
 . show totR (putR Q k 1)<=2*s.mo;have r0:=rem_le (Q 0) k;have r1:=rem_le (Q 1) k;have r2:=rem_le (Q 2) k;have r3:=rem_le (Q 3) k;unfold totR at*;rw[put_at,put_ne (by omega),put_ne (by omega),put_ne (by omega),List.length_cons];rcases hj with rfl|rfl <;> omega
theorem pl_ok(h:Ok s)(hm:s.mo≠0):Pre (plR s.mo s.R)/\(∀k,k < 4->(plR s.mo s.R k).Sublist (s.R k))/\s02 (plR s.mo s.R) < s.mo/\totR (plR s.mo s.R) < 2*s.mo/\lenR (plR s.mo s.R)<=s.mo:=by
 have g1:=h.le;have g2:=h.gl;have g3:=h.tl
 have up:∀j,∀k,k < 4->(upd s.R j (s.R j).dropLast k).Sublist (s.R k):=λj k _=>by
  by_cases e:k=j
  . subst e;rw[upd_same];exact List.dropLast_sublist _
  . rw[upd_ne e];exact List.Sublist.refl _
 unfold plR;unfold lenR s02 at*
 by_cases h1:(s.R 0).length+(s.R 2).length < s.mo
 . rw[if_pos h1]
   by_cases h2:2*s.mo<=totR s.R
   . rw[if_pos h2];refine⟨h.pre.sub (up 3),up 3,?_,?_,?_⟩
     . simp[upd];omega
     . unfold totR at *;simp[upd];omega
     . simp[upd];omega
   . rw[if_neg h2];exact⟨h.pre,λ_ _=>List.Sublist.refl _,h1,by omega,g1⟩
 . rw[if_neg h1]
   by_cases h2:(s.R 0).length < s.mo
   . rw[if_pos h2];refine⟨h.pre.sub (up 2),up 2,?_,?_,?_⟩
     . simp[upd];omega
     . unfold totR at *;simp[upd];omega
     . simp[upd];omega
   . rw[if_neg h2];refine⟨h.pre.sub (up 0),up 0,?_,?_,?_⟩
     . simp[upd];omega
     . unfold totR at *;simp[upd];omega
     . simp[upd];omega
theorem Ok.req(h:Ok s)(k:ByteArray):Ok (s.req k):=by
 have g1:=h.le;have g2:=h.gl;have g3:=h.tl;unfold St.req
 by_cases hm:s.mo=0
 . rw[if_pos hm];exact h
 rw[if_neg hm];cases hh:hit s.R k with
 |true=>
  rw[if_pos rfl];have r0:=rem_le (s.R 0) k;have r1:=rem_le (s.R 1) k;have r2:=rem_le (s.R 2) k;have r3:=rem_le (s.R 3) k
  have hc:(rem (s.R 0) k).length+(rem (s.R 1) k).length+1<=(s.R 0).length+(s.R 1).length:=by
   rcases hit_iff.1 hh with hi|hi
   . have:=rem_len (h.pre.nd 0 (by omega)) hi;omega
   . have:=rem_len (h.pre.nd 1 (by omega)) hi;omega
  refine⟨h.pre.put k 1,?_,?_,?_,h.pl⟩
  . show lenR (putR s.R k 1)<=s.mo;unfold lenR at*;rw[put_at,put_ne (by omega),List.length_cons];omega
  . show s02 (putR s.R k 1)<=s.mo;unfold s02 at*;rw[put_ne (by omega),put_ne (by omega)];omega
  . show totR (putR s.R k 1)<=2*s.mo;unfold totR at*;rw[put_at,put_ne (by omega),put_ne (by omega),put_ne (by omega),List.length_cons];omega
 |false=>
 rw[if_neg (by simp)];cases h2:inn (s.R 2) k with
 |true=>rw[if_pos rfl];exact ok_ghost h hm k 2 (Or.inl rfl) (inn_iff.1 h2) hh _ (rp_le _ _ _ h.pl) _
 |false=>
 rw[if_neg (by simp)];cases h3:inn (s.R 3) k with
 |true=>rw[if_pos rfl];exact ok_ghost h hm k 3 (Or.inr rfl) (inn_iff.1 h3) hh _ (lp_le _ _ _ h.pl) _
 |false=>
 rw[if_neg (by simp)];obtain⟨p1,p2,p3,p4,p5⟩:=pl_ok h hm;have c:=cutn_ok (p:=s.p) (q:=false) p1 (n:=lenR (plR s.mo s.R) - (s.mo - 1)) (by omega);have c1:=c.len;have c2:=c.gl;have c3:=c.tot;generalize cutn s.p false (plR s.mo s.R) (lenR (plR s.mo s.R) - (s.mo - 1))=Q at*;have r0:=rem_le (Q 0) k;have r1:=rem_le (Q 1) k;have r2:=rem_le (Q 2) k;have r3:=rem_le (Q 3) k;refine⟨c.pre.put k 0,?_,?_,?_,h.pl⟩
 . show lenR (putR Q k 0)<=s.mo;unfold lenR at*;rw[put_at,put_ne (by omega),List.length_cons];omega
 . show s02 (putR Q k 0)<=s.mo;unfold s02 at*;rw[put_at,put_ne (by omega),List.length_cons];omega
 . show totR (putR Q k 0)<=2*s.mo;unfold totR at*;rw[put_at,put_ne (by omega),put_ne (by omega),put_ne (by omega),List.length_cons];omega
theorem req_tot(h:Ok s)(k:ByteArray):totR (s.req k).R<=totR s.R+1:=by
 unfold St.req;split
 . exact Nat.le_succ _
 split
 . exact put_tot _ _ (by omega)
 split
 . exact Nat.le_trans (put_tot _ _ (by omega)) (Nat.succ_le_succ (Nat.le_of_eq (cutn_ok h.pre (by omega)).tot))
 split
 . exact Nat.le_trans (put_tot _ _ (by omega)) (Nat.succ_le_succ (Nat.le_of_eq (cutn_ok h.pre (by omega)).tot))
 . rename_i hm _ _ _
   exact Nat.le_trans (put_tot _ _ (by omega)) (Nat.succ_le_succ (Nat.le_trans (Nat.le_of_eq (cutn_ok (pl_ok h hm).1 (by omega)).tot) (pl_tot _ _)))
theorem Ok.rm(h:Ok s)(k:ByteArray):Ok (s.rm k):=by
 have g1:=h.le;have g2:=h.gl;have g3:=h.tl;have r0:=rem_le (s.R 0) k;have r1:=rem_le (s.R 1) k;have r2:=rem_le (s.R 2) k;have r3:=rem_le (s.R 3) k;unfold lenR at g1;unfold s02 at g2;unfold totR at g3;refine⟨h.pre.rm k,?_,?_,?_,h.pl⟩
 . show(rem (s.R 0) k).length+(rem (s.R 1) k).length<=s.mo;omega
 . show(rem (s.R 0) k).length+(rem (s.R 2) k).length<=s.mo;omega
 . show(rem (s.R 0) k).length+(rem (s.R 1) k).length+(rem (s.R 2) k).length+(rem (s.R 3) k).length<=2*s.mo;omega
theorem rm_tot(s:St)(k:ByteArray):totR (s.rm k).R<=totR s.R:=by
 have r0:=rem_le (s.R 0) k;have r1:=rem_le (s.R 1) k;have r2:=rem_le (s.R 2) k;have r3:=rem_le (s.R 3) k;show(rem (s.R 0) k).length+(rem (s.R 1) k).length+(rem (s.R 2) k).length+(rem (s.R 3) k).length<=totR s.R;unfold totR;omega
theorem ad_len(s:St)(k:ByteArray)(hl:lenR s.R < s.mo):lenR (putR s.R k 0)<=s.mo:=by
 have:=putR_len s.R k;unfold lenR at*;omega
theorem Ok.ad(h:Ok s)(k:ByteArray):Ok (s.ad k):=by
 unfold St.ad
 by_cases hb:s.adB k=true
 . rw[if_pos hb];have hl:lenR s.R < s.mo:=by unfold St.adB at hb;simp at hb;exact hb.2
   have hp:=ad_len s k hl;obtain⟨t1,t2,t3,_⟩:=trim_cnt hp;exact⟨(h.pre.put k 0).sub λj _=>trim_sub _ _ j,Nat.le_trans (Nat.le_of_eq t1) hp,t2,t3,h.pl⟩
 . rw[if_neg hb];exact h
theorem ad_tot(s:St)(k:ByteArray):totR (s.ad k).R<=totR s.R+1:=by
 unfold St.ad
 by_cases hb:s.adB k=true
 . rw[if_pos hb];have hl:lenR s.R < s.mo:=by unfold St.adB at hb;simp at hb;exact hb.2
   exact Nat.le_trans (trim_cnt (ad_len s k hl)).2.2.2 (put_tot _ _ (by omega))
 . rw[if_neg hb];exact Nat.le_succ _
theorem dr_sub(s:St)(k:Nat):(s.dr.R k).Sublist (s.R k):=by
 show(upd s.R (lv s.R s.p false) (s.R (lv s.R s.p false)).dropLast k).Sublist (s.R k)
 by_cases e:k=lv s.R s.p false
 . rw[e,upd_same];exact List.dropLast_sublist _
 . rw[upd_ne e];exact List.Sublist.refl _
theorem Ok.rs(h:Ok s)(n:Nat):Ok (s.rs n):=by
 have c:=cutn_ok (p:=min s.p n) (q:=false) h.pre (n:=lenR s.R - n) (by omega);have c1:=c.len;have hl:lenR (cutn (min s.p n) false s.R (lenR s.R - n))<=n:=by omega
 obtain⟨t1,t2,t3,_⟩:=trim_cnt hl;exact⟨c.pre.sub λj _=>trim_sub _ _ j,Nat.le_trans (Nat.le_of_eq t1) hl,t2,t3,Nat.min_le_right _ _⟩
theorem rs_tot(h:Ok s)(n:Nat):totR (s.rs n).R<=totR s.R:=by
 have c:=cutn_ok (p:=min s.p n) (q:=false) h.pre (n:=lenR s.R - n) (by omega);have c1:=c.len;have hl:lenR (cutn (min s.p n) false s.R (lenR s.R - n))<=n:=by omega
 exact Nat.le_trans (trim_cnt hl).2.2.2 (Nat.le_of_eq c.tot)
theorem ok_start(n:Nat):Ok (St.start n):=
 ⟨⟨λ_ _ _ _ _ h=>absurd h (List.not_mem_nil),λ_ _=>List.nodup_nil⟩,Nat.zero_le _,Nat.zero_le _,Nat.zero_le _,Nat.zero_le _⟩
end
end Go.Proofs.YtdmmciggopmglaaGreatDoor.AR
namespace Go.Proofs.YtdmmciggopmglaaGreatDoor.AR
open Go.RowKit Sg
def Ca(w:World)(c:Nat)(T:Nat->Prop)(s:St)(b:Nat):Prop:=∃i S,i.c=c/\T=blk i S/\Raw w i S s.mo s.p s.R b/\Ok s/\totR s.R<=b
def CaPost(v:Value)(w:World)(c:Nat)(T:Nat->Prop)(s:St)(b:Nat)(e:Ending)(w':World):Prop:=e= .returned v/\∃T',Ca w' c T' s b/\Went w w' T T'
section
variable{w w':World}{i:Ix}{S:Sx}{c b b':Nat}{T:Nat->Prop}{s:St}{v:Value}{e:Ending}{k:ByteArray}
theorem RPost.ca(h:RPost v w i S s.mo s.p s.R b e w')(p:Ok s)(ht:totR s.R<=b):CaPost v w i.c (blk i S) s b e w':=by
 obtain⟨he,S',hR,hW⟩:=h;exact⟨he,blk i S',⟨i,S',rfl,rfl,hR,p,ht⟩,hW⟩
theorem Ca.lt(h:Ca w c T s b){k:Nat}(hk:T k):k < w.heap.size:=by
 obtain⟨i,S,rfl,rfl,hR,_⟩:=h;exact hR.lt hk
theorem Ca.below(h:Ca w c T s b)(hb:Below w.heap.size w w'):Ca w' c T s b:=by
 obtain⟨i,S,rfl,rfl,hR,hp⟩:=h;exact⟨i,S,rfl,rfl,hR.below hb,hp⟩
theorem Ca.ok(h:Ca w c T s b):Ok s:=by obtain⟨i,S,rfl,rfl,hR,hp,_⟩:=h;exact hp
theorem Ca.small(h:Ca w c T s b):∀k,k < 4->∀x∈s.R k,x.size<=maxLen:=by
 obtain⟨i,S,rfl,rfl,hR,_⟩:=h;exact λk hk=>(hR.ls k hk).small
theorem Ca.mono(h:Ca w c T s b)(hb:b<=b'):Ca w c T s b':=by
 obtain⟨i,S,rfl,rfl,hR,hp,ht⟩:=h;exact⟨i,S,rfl,rfl,hR.mono hb,hp,by omega⟩
theorem Ca.beside(h:Ca w c T s b){X:Nat->Prop}(ht:Turn X w w')(hx:∀k,T k->¬X k):Ca w' c T s b:=by
 obtain⟨i,S,rfl,rfl,hR,hp⟩:=h;exact⟨i,S,rfl,rfl,hR.beside ht hx,hp⟩
end
section
variable(w:World)(c:Nat)(T:Nat->Prop)(s:St)(b:Nat)(key:ByteArray)(h:Ca w c T s b)
include h
theorem has_ca(hs:key.size<=maxLen):Calls Tryz.prog 283 #[.pointer (some ⟨c,0,none⟩),.string key] w (BoolPost (hit s.R key) w):=by
 obtain⟨i,S,rfl,rfl,hR,hp⟩:=h;exact hasW w i S _ _ _ b hR key hs
theorem len_ca:Calls Tryz.prog 285 #[.pointer (some ⟨c,0,none⟩)] w (Stl (.int .i64 (lenR s.R:Int)) w):=by
 obtain⟨i,S,rfl,rfl,hR,hp⟩:=h;exact lenW w i S _ _ _ b hR
theorem keys_ca:Calls Tryz.prog 284 #[.pointer (some ⟨c,0,none⟩)] w (RowPost (s.R 1++s.R 0).reverse w):=by
 obtain⟨i,S,rfl,rfl,hR,hp⟩:=h;exact keysW w i S _ _ _ b hR
theorem remove_ca(hs:key.size<=maxLen):Calls Tryz.prog 286 #[.pointer (some ⟨c,0,none⟩),.string key] w (CaPost (.bool (hit s.R key)) w c T (s.rm key) b):=by
 obtain⟨i,S,rfl,rfl,hR,hp,ht⟩:=h;exact(removeW w i S _ _ _ b hR key hs).mono λe w' q=>RPost.ca (s:=s.rm key) q (hp.rm key) (Nat.le_trans (rm_tot s key) ht)
theorem adopt_ca(hs:key.size<=maxLen)(hb:b<=98000):Calls Tryz.prog 280 #[.pointer (some ⟨c,0,none⟩),.string key] w (CaPost (.bool (s.adB key)) w c T (s.ad key) (b+1)):=by
 obtain⟨i,S,rfl,rfl,hR,hp,ht⟩:=h;have htt:=Nat.le_trans (ad_tot s key) (Nat.succ_le_succ ht);have hok:=hp.ad key;cases hi:hit s.R key with
 |true=>
  have e1:s.adB key=false:=by simp[St.adB,hi]
  have e2:s.ad key=s:=by unfold St.ad;rw[e1];rfl
  rw[e1,e2];refine(adopt_in w i S _ _ _ b key hR hs hi).mono λe w' ⟨he,S',r,hW⟩=>?_;exact⟨he,_,⟨i,S',rfl,rfl,r.mono (by omega),hp,by omega⟩,hW⟩
 |false=>
  by_cases hf:lenR s.R < s.mo
  . have e1:s.adB key=true:=by simp[St.adB,hi,hf]
    rw[e1];refine(adopt_room w i S _ _ _ b key hR hs hi hf (by omega)).mono λe w' q=>?_;unfold St.ad at hok htt|-;rw[if_pos e1] at hok htt|-;exact RPost.ca q hok htt
  . have e1:s.adB key=false:=by simp[St.adB,hi,hf]
    have e2:s.ad key=s:=by unfold St.ad;rw[e1];rfl
    rw[e1,e2];refine(adopt_full w i S _ _ _ b key hR hs hi (by unfold lenR at hf;omega)).mono λe w' ⟨he,S',r,hW⟩=>?_;exact⟨he,_,⟨i,S',rfl,rfl,r.mono (by omega),hp,by omega⟩,hW⟩
theorem request_ca(hs:key.size<=maxLen)(hb:b<=98000):Calls Tryz.prog 287 #[.pointer (some ⟨c,0,none⟩),.string key] w (CaPost (s.step key) w c T (s.req key) (b+1)):=by
 obtain⟨i,S,rfl,rfl,hR,hp,ht⟩:=h;have htt:=Nat.le_trans (req_tot hp key) (Nat.succ_le_succ ht);have hok:=hp.req key
 by_cases hm:s.mo=0
 . obtain⟨z0,z1⟩:=hp.zero hm;have e2:s.req key=s:=by unfold St.req;rw[if_pos hm]
   have e1:s.step key= .agg #[.bool false,.string ⟨#[]⟩,.bool false]:=by
    unfold St.step St.vs;rw[if_pos hm,hit_no.2 ⟨by rw[z0];simp,by rw[z1];simp⟩];rfl
   rw[e1,e2];refine(req_zero w i S _ _ _ b key hR hm).mono λe w' ⟨he,S',r,hW⟩=>?_;exact⟨he,_,⟨i,S',rfl,rfl,r.mono (by omega),hp,by omega⟩,hW⟩
 have hmm:s.mo=s.mo - 1+1:=by omega
 cases hh:hit s.R key with
 |true=>
  have e2:s.req key=⟨s.mo,s.p,putR s.R key 1⟩:=by unfold St.req;rw[if_neg hm,if_pos hh]
  have e1:s.step key= .agg #[.bool true,.string (vicOf []),.bool (!([]:List ByteArray).isEmpty)]:=by
   unfold St.step St.vs;rw[if_neg hm,if_pos hh,hh]
  rw[e2] at hok htt;rw[e1,e2];exact(req_hit w i S _ _ _ b key hR hs (s.mo - 1) hmm (by omega) hh).mono λe w' q=>RPost.ca (s:=⟨s.mo,s.p,putR s.R key 1⟩) q hok htt
 |false=>
 have nh:¬hit s.R key=true:=by rw[hh];simp
 cases h2:inn (s.R 2) key with
 |true=>
  have e2:s.req key=⟨s.mo,rpU s.mo s.p s.R,putR (cutn (rpU s.mo s.p s.R) false s.R (lenR s.R - (s.mo - 1))) key 1⟩:=by unfold St.req;rw[if_neg hm,if_neg nh,if_pos h2]
  have e1:s.step key= .agg #[.bool false,.string (vicOf (outs (rpU s.mo s.p s.R) false s.R (lenR s.R - (s.mo - 1)))),.bool (!(outs (rpU s.mo s.p s.R) false s.R (lenR s.R - (s.mo - 1))).isEmpty)]:=by
   unfold St.step St.vs;rw[if_neg hm,if_neg nh,if_pos h2,hh]
  rw[e2] at hok htt;rw[e1,e2];exact(req_b1 w i S _ _ _ b key hR hs (s.mo - 1) hmm (by omega) hh h2 ht hp.pl).mono λe w' q=>RPost.ca (s:=⟨s.mo,_,_⟩) q hok htt
 |false=>
 have n2:¬inn (s.R 2) key=true:=by rw[h2];simp
 cases h3:inn (s.R 3) key with
 |true=>
  have e2:s.req key=⟨s.mo,lpU s.p s.R,putR (cutn (lpU s.p s.R) true s.R (lenR s.R - (s.mo - 1))) key 1⟩:=by unfold St.req;rw[if_neg hm,if_neg nh,if_neg n2,if_pos h3]
  have e1:s.step key= .agg #[.bool false,.string (vicOf (outs (lpU s.p s.R) true s.R (lenR s.R - (s.mo - 1)))),.bool (!(outs (lpU s.p s.R) true s.R (lenR s.R - (s.mo - 1))).isEmpty)]:=by
   unfold St.step St.vs;rw[if_neg hm,if_neg nh,if_neg n2,if_pos h3,hh]
  rw[e2] at hok htt;rw[e1,e2];exact(req_b2 w i S _ _ _ b key hR hs (s.mo - 1) hmm (by omega) hh h2 h3 ht hp.pl).mono λe w' q=>RPost.ca (s:=⟨s.mo,_,_⟩) q hok htt
 |false=>
  have n3:¬inn (s.R 3) key=true:=by rw[h3];simp
  have e2:s.req key=⟨s.mo,s.p,putR (cutn s.p false (plR s.mo s.R) (lenR (plR s.mo s.R) - (s.mo - 1))) key 0⟩:=by unfold St.req;rw[if_neg hm,if_neg nh,if_neg n2,if_neg n3]
  have e1:s.step key= .agg #[.bool false,.string (vicOf (plV s.mo s.R++outs s.p false (plR s.mo s.R) (lenR (plR s.mo s.R) - (s.mo - 1)))),.bool (!(plV s.mo s.R++outs s.p false (plR s.mo s.R) (lenR (plR s.mo s.R) - (s.mo - 1))).isEmpty)]:=by
   unfold St.step St.vs;rw[if_neg hm,if_neg nh,if_neg n2,if_neg n3,hh]
  rw[e2] at hok htt;rw[e1,e2];exact(req_new w i S _ _ _ b key hR hs (s.mo - 1) hmm (by omega) hh h2 h3 ht).mono λe w' q=>RPost.ca (s:=⟨s.mo,_,_⟩) q hok htt
theorem resize_ca(z:Int)(hz: -9223372036854775808<=z/\z<=9223372036854775807)(hb:b<=98000):Calls Tryz.prog 288 #[.pointer (some ⟨c,0,none⟩),.int .i64 z] w
 (λe w'=>∃v T',e= .returned v/\Own w' w.heap.size v (outs (min s.p z.toNat) false s.R (lenR s.R - z.toNat))/\Ca w' c T' (s.rs z.toNat) b/\Went w w' T T'/\∀g,v.ownBlock=some g->¬T' g):=by
 obtain⟨i,S,rfl,rfl,hR,hp,ht⟩:=h;refine(resizeW w i S _ _ _ b z z.toNat hR hz rfl ht hb).mono ?_;rintro e w' ⟨v,S',he,hO,r,hW,hv⟩;exact⟨v,_,he,hO,⟨i,S',rfl,rfl,r,hp.rs _,Nat.le_trans (rs_tot hp _) ht⟩,hW,hv⟩
end
def NewS(s:St)(w:World)(e:Ending)(w':World):Prop:=∃c T,e= .returned (.pointer (some ⟨c,0,none⟩))/\Ca w' c T s 0/\(∀k,T k->w.heap.size<=k)/\Below w.heap.size w w'
theorem new_ca(w:World)(z:Int)(hz: -9223372036854775808<=z/\z<=9223372036854775807):Calls Tryz.prog 65 #[.int .i64 z] w (NewS (St.start z.toNat) w):=by
 refine(newW w z z.toNat hz rfl).mono ?_;rintro e w' ⟨i,S,he,r,hS,hB⟩;exact⟨i.c,_,he,⟨i,S,rfl,rfl,r,ok_start _,Nat.le_refl _⟩,hS,hB⟩
section
variable{w0 w w':World}{c b b':Nat}{T T':Nat->Prop}{s s':St}{xs:List ByteArray}{r v:Value}{e:Ending}
end
section
variable(w:World)(a b a' b':Bool)(s t:ByteArray)
end
end Go.Proofs.YtdmmciggopmglaaGreatDoor.AR
