/- Drx GDr, in one text. -/
import Derived.Test.YtdmmciggopmglaaGreatDoorChecked
import Derived.WalkKit
import Derived.IntWalk
import Derived.LoopTactic
import Derived.Lib.Hide
import Derived.Below
import Derived.Laws.OwnMore
import Derived.Laws.CopyOwn
import Derived.OwnWalk
import Derived.RegionTactic
import Derived.BigRegion
namespace Go.Proofs.YtdmmciggopmglaaGreatDoor.DR
theorem ret_int{k:IntKind}{a b:Int}(h:a=b):Ending.returned (.int k a)= .returned (.int k b):=by rw[h]
theorem ret_bool{a b:Bool}(h:a=b):Ending.returned (.bool a)= .returned (.bool b):=by rw[h]
end Go.Proofs.YtdmmciggopmglaaGreatDoor.DR
set_option maxRecDepth 20000
namespace Go.Proofs.YtdmmciggopmglaaGreatDoor.DR
open Go.RowKit
theorem infoU:(Tryz.prog.info? 79).map (λi=>(i.zero,i.size,i.bytes))=some (some (.int .u64 0),1,8):=by kernel_rfl
theorem infoS:(Tryz.prog.info? 57).map (λi=>(i.zero,i.size,i.bytes))=some (some (.slice none 0 0),1,24):=by kernel_rfl
def Lane(w:World)(lo hi:Nat)(v:Value)(xs:List Nat):Prop:=
 xs.length<=1000/\(∀x∈xs,x<=18446744073709551615)/\
 ((xs= []/\∃A c,v= .slice A 0 c)\/
  ∃g o c,v= .slice (some ⟨g,o,none⟩) xs.length c/\lo<=g/\g < hi/\xs.length<=c/\c<=maxLen/\∀j,j < xs.length->w.cell? ⟨g,o+j,none⟩=some (.int .u64 ((xs.getD j 0:Nat):Int)))
theorem Lane.shape{w:World}{lo hi:Nat}{v:Value}{xs:List Nat}(h:Lane w lo hi v xs):∃A c,v= .slice A xs.length c:=by
 rcases h.2.2 with⟨rfl,A,c,e⟩|⟨g,o,c,e,_⟩
 . exact⟨A,c,e⟩
 . exact⟨_,c,e⟩
theorem Lane.same{w w':World}{lo hi:Nat}{v:Value}{xs:List Nat}(h:Lane w lo hi v xs)(hb:∀k,lo<=k->k < hi->w'.heap[k]?=w.heap[k]?):Lane w' lo hi v xs:=by
 refine⟨h.1,h.2.1,?_⟩;rcases h.2.2 with h1|⟨g,o,c,e,h1,h2,h3,h4,h5⟩
 . exact Or.inl h1
 . exact Or.inr ⟨g,o,c,e,h1,h2,h3,h4,λj hj=>(World.cell?_of_block (a:=⟨g,o+j,none⟩) (hb g h1 h2)).trans (h5 j hj)⟩
theorem Lane.wide{w:World}{lo hi lo' hi':Nat}{v:Value}{xs:List Nat}(h:Lane w lo hi v xs)(h1:lo'<=lo)(h2:hi<=hi'):Lane w lo' hi' v xs:=by
 refine⟨h.1,h.2.1,?_⟩;rcases h.2.2 with h3|⟨g,o,c,e,h3,h4,h5⟩
 . exact Or.inl h3
 . exact Or.inr ⟨g,o,c,e,by omega,by omega,h5⟩
theorem Lane.nil(w:World)(lo hi:Nat)(A:Option Addr)(c:Nat):Lane w lo hi (.slice A 0 c) []:=⟨by simp,by simp,Or.inl ⟨rfl,A,c,rfl⟩⟩
def Lanes(w:World)(hi:Nat)(v:Value)(L:List (List Nat)):Prop:=
 L.length<=1000/\((L= []/\∃A c,v= .slice A 0 c)\/
  ∃g o c,v= .slice (some ⟨g,o,none⟩) L.length c/\g < hi/\L.length<=c/\c<=maxLen/\∀i,i < L.length->∃u,w.cell? ⟨g,o+i,none⟩=some u/\Lane w 0 hi u (L.getD i []))
theorem Lanes.shape{w:World}{hi:Nat}{v:Value}{L:List (List Nat)}(h:Lanes w hi v L):∃A c,v= .slice A L.length c:=by
 rcases h.2 with⟨rfl,A,c,e⟩|⟨g,o,c,e,_⟩
 . exact⟨A,c,e⟩
 . exact⟨_,c,e⟩
theorem Lanes.same{w w':World}{hi:Nat}{v:Value}{L:List (List Nat)}(h:Lanes w hi v L)(hb:∀k,k < hi->w'.heap[k]?=w.heap[k]?):Lanes w' hi v L:=by
 refine⟨h.1,?_⟩;rcases h.2 with h1|⟨g,o,c,e,h1,h2,h3,h4⟩
 . exact Or.inl h1
 . refine Or.inr ⟨g,o,c,e,h1,h2,h3,λi hi'=>?_⟩;obtain⟨u,k1,k2⟩:=h4 i hi';exact⟨u,(World.cell?_of_block (a:=⟨g,o+i,none⟩) (hb g h1)).trans k1,k2.same λk _ hk=>hb k hk⟩
theorem Lanes.wide{w:World}{hi hi':Nat}{v:Value}{L:List (List Nat)}(h:Lanes w hi v L)(h2:hi<=hi'):Lanes w hi' v L:=by
 refine⟨h.1,?_⟩;rcases h.2 with h3|⟨g,o,c,e,h3,h4,h5,h6⟩
 . exact Or.inl h3
 . refine Or.inr ⟨g,o,c,e,by omega,h4,h5,λi hi'=>?_⟩;obtain⟨u,k1,k2⟩:=h6 i hi';exact⟨u,k1,k2.wide (Nat.le_refl _) h2⟩
def Tape(w:World)(B E:Nat)(L:List (List Nat)):Prop:=
 B+2<=E/\E<=w.heap.size/\L.length<=1000/\∃vs:List Value,vs.length=L.length/\w.heap[B]?=some (.cells vs.toArray 57 (0,0))/\
  w.heap[B+1]?=some (.cells #[.slice (some ⟨B,0,none⟩) L.length L.length] 68 (0,0))/\∀i,i < L.length->Lane w (B+2) E (vs.getD i undef) (L.getD i [])
theorem Tape.same{w w':World}{B E:Nat}{L:List (List Nat)}(h:Tape w B E L)(hs:w.heap.size<=w'.heap.size)(hb:∀k,B<=k->k < E->w'.heap[k]?=w.heap[k]?):Tape w' B E L:=by
 obtain⟨h1,h2,h3,vs,h4,h5,h6,h7⟩:=h;exact⟨h1,by omega,h3,vs,h4,(hb B (by omega) (by omega)).trans h5,(hb (B+1) (by omega) (by omega)).trans h6,λi hi=>(h7 i hi).same λk k1 k2=>hb k (by omega) k2⟩
def lget(L:List (List Nat))(lane:Int):List Nat:=if 0<=lane then L.getD lane.toNat [] else []
def adv(L:List (List Nat))(lane:Int):List (List Nat):=if 0<=lane then L.set lane.toNat (lget L lane).tail else L
theorem lget_out{L:List (List Nat)}{lane:Int}(h:lane < 0\/(L.length:Int)<=lane):lget L lane= []:=by
 unfold lget;split
 . rw[List.getD_eq_getElem?_getD,List.getElem?_eq_none (by omega)];rfl
 . rfl
theorem lget_nat(L:List (List Nat))(i:Nat):lget L (i:Int)=L.getD i []:=by unfold lget;rw[if_pos (by omega)];rfl
theorem lget_adv(L:List (List Nat))(lane k:Int):lget (adv L lane) k=if k=lane then(lget L lane).tail else lget L k:=by
 by_cases h0:0<=lane
 . obtain⟨i,rfl⟩:=Int.eq_ofNat_of_zero_le h0;rw[adv,if_pos h0,Int.toNat_natCast]
   by_cases hk:0<=k
   . obtain⟨j,rfl⟩:=Int.eq_ofNat_of_zero_le hk;rw[lget_nat,lget_nat,lget_nat]
     by_cases e:j=i
     . subst e;rw[if_pos rfl]
       by_cases hj:j < L.length
       . rw[List.getD_eq_getElem?_getD,List.getElem?_set_self hj];rfl
       . rw[List.getD_eq_getElem?_getD,List.getD_eq_getElem?_getD,List.getElem?_eq_none (by simp;omega),List.getElem?_eq_none (by omega)];rfl
     . rw[if_neg (by omega),List.getD_eq_getElem?_getD,List.getElem?_set_ne (by omega),<-List.getD_eq_getElem?_getD]
   . rw[if_neg (by omega),lget_out (Or.inl (by omega)),lget_out (Or.inl (by omega))]
 . rw[adv,if_neg h0];split
   . rename_i e;subst e;rw[lget_out (Or.inl (by omega))];rfl
   . rfl
def zerosU(m:Nat):Array Value:=(List.replicate m (Value.int .u64 0)).toArray
def zerosS(m:Nat):Array Value:=(List.replicate m (Value.slice none 0 0)).toArray
theorem mkU(W:World)(m:Nat)(hm:m<=1000):(Instr.makeSlice 57 (.int .i64 (m:Int)) (.int .i64 (m:Int))).run Tryz.prog W= .ok (.slice (some ⟨W.heap.size,0,none⟩) m m) (W.alloc (.cells (zerosU m) 79)):=by
 obtain⟨i0,hi,hz0,hz1,hz2⟩:=info_parts infoU;have h:=run_make (P:=Tryz.prog) W 57 79 i0 (.int .u64 0) Tryz.underlying57 hi hz0 .i64 .i64 m m (by omega) (by omega) (by rw[hz2];omega) (by omega);rw[h,hz1,Int.toNat_natCast,Nat.mul_one]
 have e:madeCells (Value.int IntKind.u64 0).cells m=zerosU m:=by
  apply Array.toList_inj.1;rw[show(Value.int IntKind.u64 0).cells= #[Value.int IntKind.u64 0] from rfl,toList_madeCells_one];rfl
 rw[e]
theorem mkS(W:World)(m:Nat)(hm:m<=1000):(Instr.makeSlice 22 (.int .i64 (m:Int)) (.int .i64 (m:Int))).run Tryz.prog W= .ok (.slice (some ⟨W.heap.size,0,none⟩) m m) (W.alloc (.cells (zerosS m) 57)):=by
 obtain⟨i0,hi,hz0,hz1,hz2⟩:=info_parts infoS;have h:=run_make (P:=Tryz.prog) W 22 57 i0 (.slice none 0 0) Tryz.underlying22 hi hz0 .i64 .i64 m m (by omega) (by omega) (by rw[hz2];omega) (by omega);rw[h,hz1,Int.toNat_natCast,Nat.mul_one]
 have e:madeCells (Value.slice none 0 0).cells m=zerosS m:=by
  apply Array.toList_inj.1;rw[show(Value.slice none 0 0).cells= #[Value.slice none 0 0] from rfl,toList_madeCells_one];rfl
 rw[e]
end Go.Proofs.YtdmmciggopmglaaGreatDoor.DR
namespace Go.Proofs.YtdmmciggopmglaaGreatDoor.DR
open Go.RowKit
def NewRel(L:List (List Nat))(w:World)(i:Value)(W:World):Prop:=∃(k:Nat) (vs:List Value),i= .int .i64 (k:Int)/\k<=L.length/\vs.length=L.length/\W.heap[w.heap.size]?=some (.cells vs.toArray 57 (0,0))/\
 W.heap[w.heap.size+1]?=some (.cells #[.slice (some ⟨w.heap.size,0,none⟩) L.length L.length] 68 (0,0))/\(∀i,i < k->Lane W (w.heap.size+2) W.heap.size (vs.getD i undef) (L.getD i []))/\Below w.heap.size w W/\w.heap.size+2<=W.heap.size
def NewPost(L:List (List Nat))(w:World)(e:Ending)(w':World):Prop:=e= .returned (.pointer (some ⟨w.heap.size+1,0,none⟩))/\Tape w' w.heap.size w'.heap.size L/\Below w.heap.size w w'
theorem new_start(L:List (List Nat))(w:World)(hn:L.length<=1000):NewRel L w (.int .i64 0) ((w.alloc (.cells (zerosS L.length) 57)).alloc (.cells #[.slice (some ⟨w.heap.size,0,none⟩) L.length L.length] 68)):=by
 refine⟨0,List.replicate L.length (.slice none 0 0),rfl,by omega,by simp,?_,?_,λi hi=>by omega,((Below.refl _ _).alloc (Nat.le_refl _) _).alloc (by simp) _,by simp⟩
 . rw[Below.heap_alloc _ _ _ (by simp),heap_alloc_new];rfl
 . have:=heap_alloc_new (w.alloc (.cells (zerosS L.length) 57)) (.cells #[.slice (some ⟨w.heap.size,0,none⟩) L.length L.length] 68);rw[show(w.alloc (.cells (zerosS L.length) 57)).heap.size=w.heap.size+1 by simp] at this;exact this
structure NewMid(w wr w2:World)(vs:List Value)(n k m:Nat):Prop where
 row:w2.heap[w.heap.size]?=some (.cells (vs.set k (.slice (some ⟨wr.heap.size,0,none⟩) m m)).toArray 57 (0,0))
 own:w2.heap[w.heap.size+1]?=some (.cells #[.slice (some ⟨w.heap.size,0,none⟩) n n] 68 (0,0))
 lane:w2.heap[wr.heap.size]?=some (.cells (List.replicate m (Value.int .u64 0)).toArray 79 (0,0))
 size:w2.heap.size=wr.heap.size+1
 old:∀j,j < wr.heap.size->j≠w.heap.size->w2.heap[j]?=wr.heap[j]?
 below:Below w.heap.size w w2
theorem new_mid{w wr:World}{vs:List Value}{n k m:Nat}(hB:wr.heap[w.heap.size]?=some (.cells vs.toArray 57 (0,0)))
 (hB1:wr.heap[w.heap.size+1]?=some (.cells #[.slice (some ⟨w.heap.size,0,none⟩) n n] 68 (0,0))) (hsz:w.heap.size+2<=wr.heap.size) (hbel:Below w.heap.size w wr):
 NewMid w wr ((wr.setCell ⟨w.heap.size,k,none⟩ (.slice (some ⟨wr.heap.size,0,none⟩) m m)).alloc (.cells (zerosU m) 79)).drew vs n k m:=by
 have hs:(wr.setCell ⟨w.heap.size,k,none⟩ (.slice (some ⟨wr.heap.size,0,none⟩) m m)).heap.size=wr.heap.size:=by simp[World.setCell]
 have hold:∀j,j < wr.heap.size->j≠w.heap.size->((wr.setCell ⟨w.heap.size,k,none⟩ (.slice (some ⟨wr.heap.size,0,none⟩) m m)).alloc (.cells (zerosU m) 79)).heap[j]?=wr.heap[j]?:=by
  intro j hj hne;rw[Below.heap_alloc _ _ _ (by rw[hs];exact hj),heap_setCell_other _ _ _ _ hne]
 refine⟨?_,(hold _ (by omega) (by omega)).trans hB1,?_,by show(World.alloc _ _).heap.size=_;simp[World.setCell],hold,?_⟩
 . show(World.alloc _ _).heap[_]?=_
   rw[Below.heap_alloc _ _ _ (by rw[hs];omega),heap_setCell_same _ _ _ _ _ _ hB];simp
 . have:=heap_alloc_new (wr.setCell ⟨w.heap.size,k,none⟩ (.slice (some ⟨wr.heap.size,0,none⟩) m m)) (.cells (zerosU m) 79);rw[hs] at this;exact this
 . exact((hbel.setCell (by simp) _).alloc (by rw[hs];omega) _).drew
theorem infoU1:(Tryz.prog.info? 79).map (·.size)=some 1:=by kernel_rfl
theorem lane_src{w:World}{lo hi:Nat}{A:Option Addr}{c:Nat}{xs:List Nat}(h:Lane w lo hi (.slice A xs.length c) xs)(h0:0 < xs.length):
 ∃ad,A=some ad/\∀j v,(xs.map λx:Nat=>Value.int .u64 (x:Int))[j]?=some v->w.cell? (ad.add j)=some v:=by
 rcases h.2.2 with⟨h1,_⟩|⟨g,o,c',e,_,_,_,_,h5⟩
 . rw[h1] at h0;simp at h0
 . obtain rfl:A=some ⟨g,o,none⟩:=by injection e
   refine⟨_,rfl,λj v hj=>?_⟩
   by_cases hl:j < xs.length
   . rw[show Addr.add ⟨g,o,none⟩ j=⟨g,o+j,none⟩ by simp[Addr.add],h5 j hl];simp[hl] at hj;rw[← hj,List.getD_eq_getElem?_getD,List.getElem?_eq_getElem hl];rfl
   . simp[List.getElem?_eq_none (show xs.length<=j by omega)] at hj
theorem copy_run(w:World)(g:Nat)(A:Option Addr)(c:Nat)(xs:List Nat)(hg:w.heap[g]?=some (.cells (List.replicate xs.length (Value.int .u64 0)).toArray 79 (0,0)))
 (hsrc:0 < xs.length->∃ad,A=some ad/\∀j v,(xs.map λx:Nat=>Value.int .u64 (x:Int))[j]?=some v->w.cell? (ad.add j)=some v):
 ∃w',(Builtin.copy_ #[57,57] 3 #[.slice (some ⟨g,0,none⟩) xs.length xs.length,.slice A xs.length c]).run Tryz.prog w= .ok (.int .i64 (xs.length:Int)) w'/\
  w'.heap[g]?=some (.cells (splice (List.replicate xs.length (Value.int .u64 0)) 0 (xs.map λx:Nat=>Value.int .u64 (x:Int))).toArray 79 (0,0))/\Below g w w':=by
 by_cases h0:xs.length=0
 . obtain rfl:xs= []:=List.eq_nil_of_length_eq_zero h0;exact⟨w,run_copy_none (P:=Tryz.prog) w 57 57 3 79 _ _ _ _ _ _ Tryz.underlying57 infoU1 (by simp),by simpa[splice] using hg,Below.refl _ _⟩
 . obtain⟨ad,rfl,hs⟩:=hsrc (by omega);have hrun:=run_copy_row (P:=Tryz.prog) w 57 57 3 79 g 0 xs.length xs.length ad xs.length c _ 79 (xs.map λx:Nat=>Value.int .u64 (x:Int)) Tryz.underlying57 infoU1 hg (by simp) hs (by simp) (by simp[Value.oneCell']);rw[List.length_map] at hrun;refine⟨_,hrun,?_,below_setRow (Below.refl _ _) (Nat.le_refl _) _⟩;exact(by simpa[splice] using setRow_heap w g _ _ 79 _ hg)
theorem splice_whole{α:Type}(cur cs:List α)(h:cs.length=cur.length):splice cur 0 cs=cs:=by simp[splice,h]
theorem new_next{L:List (List Nat)}{w wr w2 w3:World}{vs:List Value}{k:Nat}{xs:List Nat}(hk:k < L.length)(hvs:vs.length=L.length)(hx:xs=L.getD k [])(hl:xs.length<=1000)(hb:∀x∈xs,x<=18446744073709551615)
 (hlanes:∀i,i < k->Lane wr (w.heap.size+2) wr.heap.size (vs.getD i undef) (L.getD i [])) (hsz:w.heap.size+2<=wr.heap.size) (M:NewMid w wr w2 vs L.length k xs.length)
 (hrow:w3.heap[wr.heap.size]?=some (.cells (splice (List.replicate xs.length (Value.int .u64 0)) 0 (xs.map λx:Nat=>Value.int .u64 (x:Int))).toArray 79 (0,0))) (hB3:Below wr.heap.size w2 w3):
 NewRel L w (.int .i64 ((k+1:Nat):Int)) w3:=by
 have hs3:=hB3.size;rw[M.size] at hs3;have hold:∀j,j < wr.heap.size->w3.heap[j]?=w2.heap[j]?:=hB3.block
 refine⟨k+1,vs.set k (.slice (some ⟨wr.heap.size,0,none⟩) xs.length xs.length),rfl,by omega,by rw[List.length_set];exact hvs,(hold _ (by omega)).trans M.row,(hold _ (by omega)).trans M.own,?_,M.below.trans (hB3.mono (by omega)),by omega⟩;intro i hi
 by_cases e:i=k
 . subst e;rw[List.getD_eq_getElem?_getD,List.getElem?_set_self (by omega),<-hx];refine⟨hl,hb,Or.inr ⟨wr.heap.size,0,xs.length,rfl,hsz,by omega,Nat.le_refl _,by unfold maxLen;omega,λj hj=>?_⟩⟩;rw[Nat.zero_add,cell_of_row w3 _ j _ _ _ hrow,splice_whole _ _ (by simp)];simp[hj,List.getD_eq_getElem?_getD]
 . rw[List.getD_eq_getElem?_getD,List.getElem?_set_ne (by omega),<-List.getD_eq_getElem?_getD];exact((hlanes i (by omega)).same (w':=w3) λj j1 j2=>(hold j j2).trans (M.old j j2 (by omega))).wide (Nat.le_refl _) (by omega)
set_option maxHeartbeats 2000000 in
theorem new_any(v:Value)(L:List (List Nat))(w:World)(hL:Lanes w w.heap.size v L):
 Calls Tryz.prog 12 #[v] w (NewPost L w):=by
 obtain⟨A,c,rfl⟩:=hL.shape;have hn:=hL.1;have hm1:=mkS w L.length hn;have HL:=Lib.hid hL;clear hL;go_enter Tryz.func12,Tryz.ntmps12;go_wp2_with fail
 clear hm1;go_loopw [13] (λi W=>NewRel L w i W) (λi _=>L.length - (intOf i).toNat)
 case atStart=>exact new_start L w hn
 case round=>
  obtain⟨k,vs,rfl,hk,hvs,hB,hB1,hlanes,hbel,hsz⟩:=hrel;have HLn:=Lib.hid hlanes;clear hlanes;have HVS:=Lib.hid hvs;clear hvs;have HB:=Lib.hid hB;clear hB;have HB1:=Lib.hid hB1;clear hB1
  by_cases hlt:k < L.length
  . have e0:decide (k < L.length)=true:=by simpa using hlt
    rcases HL.out.2 with⟨h,_⟩|⟨g,o,c',e,hg,hc,hmx,hcell⟩
    . rw[h] at hlt;simp at hlt
    obtain⟨rfl,rfl⟩:A=some ⟨g,o,none⟩/\c=c':=by injection e with e1 _ e2;exact⟨e1,e2⟩
    clear e;unfold maxLen at hmx;obtain⟨u,hu,hlane⟩:=hcell k hlt;clear hcell;obtain⟨A2,c2,rfl⟩:=hlane.shape;obtain⟨xs,hxs⟩:∃xs,xs=L.getD k []:=⟨_,rfl⟩;rw[← hxs] at hlane hu;have HXS:=Lib.hid hxs;clear hxs;have hm:=hlane.1;have HLane:=Lib.hid hlane;clear hlane;have hc1:wr.cell? ⟨g,o+k,none⟩=some (.slice A2 xs.length c2):=(hbel.cell (p:=⟨g,o+k,none⟩) hg).trans hu;clear hu;have hc2:wr.cell? ⟨w.heap.size+1,0,none⟩=some (.slice (some ⟨w.heap.size,0,none⟩) L.length L.length):=cell_of_row wr _ 0 _ _ _ HB1.out
    have hc3:wr.cell? ⟨w.heap.size,k,none⟩=some (vs.getD k undef):=by
     rw[cell_of_row wr _ k _ _ _ HB.out,List.getElem?_toArray,List.getD_eq_getElem?_getD,List.getElem?_eq_getElem (by rw[HVS.out];exact hlt)];rfl
    have hf:wr.frozen? ⟨w.heap.size,k,none⟩=false:=frozen_of_row wr _ k _ _ HB.out;have hmk:=λW=>mkU W xs.length hm;have hz:w.heap.size+1 < wr.heap.size:=by omega
    have hz0:w.heap.size < wr.heap.size:=by omega
    go_wp2_with fail
    go_region;have M:=Lib.hid (new_mid (k:=k) (m:=xs.length) HB.out HB1.out hsz hbel);clear hc1 hc2 hc3 hf hmk;generalize((wr.setCell ⟨w.heap.size,k,none⟩ (.slice (some ⟨wr.heap.size,0,none⟩) xs.length xs.length)).alloc (.cells (zerosU xs.length) 79)).drew=w2 at M|-;have hc2:w2.cell? ⟨w.heap.size+1,0,none⟩=some (.slice (some ⟨w.heap.size,0,none⟩) L.length L.length):=cell_of_row w2 _ 0 _ _ _ M.out.own
    have hc3:w2.cell? ⟨w.heap.size,k,none⟩=some (.slice (some ⟨wr.heap.size,0,none⟩) xs.length xs.length):=by
     rw[cell_of_row w2 _ k _ _ _ M.out.row,List.getElem?_toArray,List.getElem?_set_self (by rw[HVS.out];exact hlt)]
    have SRC:=Lib.hid (lane_src (HLane.out.same λj _ hj=>M.out.below.block j hj));obtain⟨w3,hcp,hrow3,hB3⟩:=copy_run w2 wr.heap.size A2 c2 xs M.out.lane SRC.out;have R:=Lib.hid (new_next hlt HVS.out HXS.out hm HLane.out.2.1 HLn.out hsz M.out hrow3 hB3);clear hrow3 hB3;go_wp2_with fail
    go_roundw
    case rel=>exact R.out
    case measure=>simp[intOf];omega
  . have e0:decide (k < L.length)=false:=by simpa using hlt
    go_wp2_with fail
    go_ret;refine⟨rfl,⟨by omega,by omega,hn,vs,HVS.out,HB.out,HB1.out,λi hi=>HLn.out i (by omega)⟩,hbel⟩
end Go.Proofs.YtdmmciggopmglaaGreatDoor.DR
namespace Go.Proofs.YtdmmciggopmglaaGreatDoor.DR
open Go.RowKit
theorem Tape.cells{w:World}{B E:Nat}{L:List (List Nat)}(h:Tape w B E L):w.cell? ⟨B+1,0,none⟩=some (.slice (some ⟨B,0,none⟩) L.length L.length):=by
 obtain⟨_,_,_,vs,_,_,h6,_⟩:=h;exact cell_of_row w _ 0 _ _ _ h6
theorem Tape.lane{w:World}{B E:Nat}{L:List (List Nat)}(h:Tape w B E L)(i:Nat)(hi:i < L.length):∃v,w.cell? ⟨B,i,none⟩=some v/\Lane w (B+2) E v (L.getD i []):=by
 obtain⟨_,_,_,vs,h4,h5,_,h7⟩:=h;refine⟨vs.getD i undef,?_,h7 i hi⟩;rw[cell_of_row w _ i _ _ _ h5,List.getElem?_toArray,List.getD_eq_getElem?_getD,List.getElem?_eq_getElem (by omega)];rfl
theorem Tape.free{w:World}{B E:Nat}{L:List (List Nat)}(h:Tape w B E L)(i:Nat):w.frozen? ⟨B,i,none⟩=false:=by
 obtain⟨_,_,_,vs,_,h5,_⟩:=h;exact frozen_of_row w _ i _ _ h5
def RestPost(w:World)(B E:Nat)(xs:List Nat)(e:Ending)(w':World):Prop:=∃v,e= .returned v/\Lane w (B+2) E v xs/\w=w'
set_option maxHeartbeats 1000000 in
theorem rest_any(w:World)(B E:Nat)(L:List (List Nat))(lane:Int)(h:Tape w B E L):
 Calls Tryz.prog 142 #[.pointer (some ⟨B+1,0,none⟩),.int .i64 lane] w (RestPost w B E (lget L lane)):=by
 have hc:=h.cells;have hn:=h.2.2.1;have HT:=Lib.hid h;clear h
 by_cases h0:lane < 0
 . have e0:decide (lane < 0)=true:=by simpa using h0
   have E0:=Lib.hid (lget_out (L:=L) (Or.inl h0));go_enter Tryz.func142,Tryz.ntmps142;go_wp2_with fail
   go_ret;exact⟨_,rfl,by rw[E0.out];exact Lane.nil _ _ _ _ _,rfl⟩
 . obtain⟨i,rfl⟩:=Int.eq_ofNat_of_zero_le (show 0<=lane by omega);have e0:decide ((i:Int) < 0)=false:=by simp
   by_cases hi:i < L.length
   . have e1:decide (L.length<=i)=false:=by simp;omega
     obtain⟨v,hv,hl⟩:=HT.out.lane i hi;have HLn:=Lib.hid (show Lane w (B+2) E v (lget L (i:Int)) by rw[lget_nat];exact hl);clear hl h0;go_enter Tryz.func142,Tryz.ntmps142;go_wp2_with fail
     go_ret;exact⟨_,rfl,HLn.out,rfl⟩
   . have e1:decide (L.length<=i)=true:=by simp;omega
     have E0:=Lib.hid (lget_out (L:=L) (lane:=(i:Int)) (Or.inr (by omega)));go_enter Tryz.func142,Tryz.ntmps142;go_wp2_with fail
     go_ret;exact⟨_,rfl,by rw[E0.out];exact Lane.nil _ _ _ _ _,rfl⟩
theorem adv_nil{L:List (List Nat)}{lane:Int}(h:lget L lane= []):adv L lane=L:=by
 unfold adv;split
 . obtain⟨i,rfl⟩:=Int.eq_ofNat_of_zero_le (show 0<=lane by assumption);rw[h,Int.toNat_natCast];rw[lget_nat] at h;apply List.ext_getElem?;intro j
   by_cases e:i=j
   . subst e
     by_cases hi:i < L.length
     . rw[List.getElem?_set_self hi,List.getElem?_eq_getElem hi];rw[List.getD_eq_getElem?_getD,List.getElem?_eq_getElem hi] at h;simpa using h.symm
     . rw[List.getElem?_eq_none (by simp;omega),List.getElem?_eq_none (by omega)]
   . rw[List.getElem?_set_ne e]
 . rfl
def NextPost(w:World)(B E:Nat)(L:List (List Nat))(lane:Int)(e:Ending)(w':World):Prop:=
 e= .returned (.int .u64 (((lget L lane).headD 0:Nat):Int))/\Tape w' B E (adv L lane)/\w.grownBy w' (some B)
theorem Lane.moved{w:World}{lo hi g o c m:Nat}{xs:List Nat}(h:Lane w lo hi (.slice (some ⟨g,o,none⟩) (m+1) c) xs)(hm:xs.length=m+1):
 Lane w lo hi (.slice (some (if c=1 then⟨g,o,none⟩ else⟨g,o+1,none⟩)) m (c - 1)) xs.tail:=by
 have ht:xs.tail.length=m:=by rw[List.length_tail];omega
 refine⟨by have:=h.1;omega,λx hx=>h.2.1 x (List.mem_of_mem_tail hx),?_⟩;rcases h.2.2 with⟨h1,_⟩|⟨g',o',c',e,h1,h2,h3,h4,h5⟩
 . rw[h1] at hm;simp at hm
 . obtain⟨rfl,rfl,rfl⟩:g=g'/\o=o'/\c=c':=by
    simp only[Value.slice.injEq,Option.some.injEq,Addr.mk.injEq,and_true] at e;exact⟨e.1.1,e.1.2,e.2.2⟩
   by_cases hc:c=1
   . have h0:m=0:=by omega
     subst h0;exact Or.inl ⟨List.eq_nil_of_length_eq_zero ht,_,_,rfl⟩
   . rw[if_neg hc];refine Or.inr ⟨g,o+1,c - 1,by rw[ht],h1,h2,by omega,by omega,λj hj=>?_⟩;rw[Nat.add_assoc,Nat.add_comm 1 j,h5 (j+1) (by omega)];congr 3;rw[List.getD_eq_getElem?_getD,List.getD_eq_getElem?_getD,List.getElem?_tail]
theorem Tape.stored{w:World}{B E:Nat}{L:List (List Nat)}(h:Tape w B E L)(i:Nat)(hi:i < L.length)(v:Value)(xs:List Nat)(hv:Lane w (B+2) E v xs):
 Tape (w.setCell ⟨B,i,none⟩ v).drew B E (L.set i xs)/\w.grownBy (w.setCell ⟨B,i,none⟩ v).drew (some B):=by
 obtain⟨h1,h2,h3,vs,h4,h5,h6,h7⟩:=h;have hs:(w.setCell ⟨B,i,none⟩ v).heap.size=w.heap.size:=by simp[World.setCell]
 have ho:∀k,k≠B->(w.setCell ⟨B,i,none⟩ v).heap[k]?=w.heap[k]?:=λk hk=>heap_setCell_other _ _ _ _ hk
 refine⟨⟨h1,by show E<=(w.setCell ⟨B,i,none⟩ v).heap.size;rw[hs];exact h2,by rw[List.length_set];exact h3,vs.set i v,by rw[List.length_set,List.length_set];exact h4,?_,?_,?_⟩,⟨rfl,rfl,rfl,by show _<=(w.setCell ⟨B,i,none⟩ v).heap.size;rw[hs];exact Nat.le_refl _,λk _ hk=>ho k (λe=>hk (by rw[e]))⟩⟩
 . show(w.setCell _ _).heap[_]?=_
   rw[heap_setCell_same _ _ _ _ _ _ h5];simp
 . rw[List.length_set];exact(ho _ (by omega)).trans h6
 . intro j hj;rw[List.length_set] at hj;have key:∀{u ys},Lane w (B+2) E u ys->Lane (w.setCell ⟨B,i,none⟩ v).drew (B+2) E u ys:=λhu=>hu.same λk k1 _=>ho k (by omega)
   by_cases e:i=j
   . subst e;rw[List.getD_eq_getElem?_getD,List.getD_eq_getElem?_getD,List.getElem?_set_self (by omega),List.getElem?_set_self hi];exact key hv
   . rw[List.getD_eq_getElem?_getD,List.getD_eq_getElem?_getD,List.getElem?_set_ne e,List.getElem?_set_ne e,<-List.getD_eq_getElem?_getD,<-List.getD_eq_getElem?_getD];exact key (h7 j hj)
set_option maxHeartbeats 1000000 in
theorem next_any(w:World)(B E:Nat)(L:List (List Nat))(lane:Int)(h:Tape w B E L):
 Calls Tryz.prog 131 #[.pointer (some ⟨B+1,0,none⟩),.int .i64 lane] w (NextPost w B E L lane):=by
 have R:=Lib.hid (rest_any w B E L lane h);have HT:=Lib.hid h;obtain⟨xs,hxs⟩:∃xs,xs=lget L lane:=⟨_,rfl⟩;rw[← hxs] at R;have HX:=Lib.hid hxs;rcases xs with _|⟨x,xs⟩
 . have E1:=Lib.hid (adv_nil hxs.symm);clear h hxs;go_enter Tryz.func131,Tryz.ntmps131;go_wp2_with fail
   refine R.out.mono ?_;rintro e w' ⟨v,rfl,hl,rfl⟩;obtain⟨A,c,rfl⟩:=hl.shape;clear hl;go_wp2_with fail
   go_ret;exact⟨by rw[← HX.out];rfl,by rw[E1.out];exact HT.out,World.grownBy.refl _ _⟩
 . have hlane:0<=lane/\lane < (L.length:Int):=by
    rcases Int.lt_or_le lane 0 with h1|h1
    . rw[lget_out (Or.inl h1)] at hxs;simp at hxs
    . rcases Int.lt_or_le lane (L.length:Int) with h2|h2
      . exact⟨h1,h2⟩
      . rw[lget_out (Or.inr h2)] at hxs;simp at hxs
   obtain⟨i,rfl⟩:=Int.eq_ofNat_of_zero_le hlane.1;have hi:i < L.length:=by omega
   have hn:=h.2.2.1;have hc:=h.cells;obtain⟨u,hu,_⟩:=h.lane i hi;have hf:=h.free i;clear h hxs;go_enter Tryz.func131,Tryz.ntmps131;go_wp2_with fail
   refine R.out.mono ?_;rintro e w' ⟨v,rfl,hl,rfl⟩;have HLn:=Lib.hid hl;rcases hl.2.2 with⟨h1,_⟩|⟨g,o,c,rfl,h1,h2,h3,h4,h5⟩
   . cases h1
   have hx0:w.cell? ⟨g,o,none⟩=some (.int .u64 (x:Int)):=by have:=h5 0 (by simp);simpa using this
   rw[List.length_cons] at h3;have hlen:=hl.1;rw[List.length_cons] at hlen;have S:=Lib.hid (HT.out.stored i hi _ _ (hl.moved (m:=xs.length) rfl));rw[show(x::xs:List Nat).tail=xs from rfl] at S;have AD:=Lib.hid (show adv L (i:Int)=L.set i xs by rw[adv,if_pos (by omega),<-HX.out,Int.toNat_natCast];rfl);have HD:=Lib.hid (show(lget L (i:Int)).headD 0=x by rw[← HX.out];rfl);clear h5 hl;unfold maxLen at h4;rw[List.length_cons]
   have hcx:∀u,(w.setCell ⟨B,i,none⟩ u).drew.cell? ⟨g,o,none⟩=some (.int .u64 (x:Int)):=λu=>
    (World.cell?_of_block (w:=w) (w':=(w.setCell ⟨B,i,none⟩ u).drew) (a:=⟨g,o,none⟩) (heap_setCell_other w ⟨B,i,none⟩ g u (show g≠B by omega))).trans hx0
   have e1:((xs.length:Int)+1==0)=false:=by simp;omega
   have hc1:1<=c:=by omega
   by_cases hc0:c=1
   . subst hc0;rw[if_pos rfl] at S;have hz:xs.length=0:=by omega
     obtain rfl:xs= []:=List.eq_nil_of_length_eq_zero hz;go_wp2_with fail
     go_region;have hx1:=hcx (.slice (some ⟨g,o,none⟩) 0 0);clear hcx hz hc hu hf hx0;have S2:=Lib.hid (show Tape (w.setCell ⟨B,i,none⟩ (.slice (some ⟨g,o,none⟩) 0 0)).drew B E (L.set i [])/\w.grownBy (w.setCell ⟨B,i,none⟩ (.slice (some ⟨g,o,none⟩) 0 0)).drew (some B) from S.out);clear S;generalize(w.setCell ⟨B,i,none⟩ (.slice (some ⟨g,o,none⟩) 0 0)).drew=w2 at hx1 S2|-;go_wp2_with fail
     go_ret;exact⟨ret_int (by rw[HD.out]),by rw[AD.out];exact S2.out.1,S2.out.2⟩
   . rw[if_neg hc0] at S;have hc2:¬c=1:=hc0;go_wp2_with fail
     go_region;have hx1:=hcx (.slice (some ⟨g,o+1,none⟩) xs.length (c - 1));clear hcx hc hu hf hx0;generalize(w.setCell ⟨B,i,none⟩ (.slice (some ⟨g,o+1,none⟩) xs.length (c - 1))).drew=w2 at hx1 S|-;go_wp2_with fail
     go_ret;exact⟨ret_int (by rw[HD.out]),by rw[AD.out];exact S.out.1,S.out.2⟩
def pickB(n:Nat)(W:Nat):Bool:=decide (n / 4 < W)
def PickPost(w:World)(B E:Nat)(L:List (List Nat))(lane:Int)(W:Nat)(e:Ending)(w':World):Prop:=
 e= .returned (.bool (pickB ((lget L lane).headD 0) W))/\Tape w' B E (adv L lane)/\w.grownBy w' (some B)
theorem Tape.bound{w:World}{B E:Nat}{L:List (List Nat)}(h:Tape w B E L)(lane:Int):(lget L lane).headD 0<=18446744073709551615/\(lget L lane).length<=1000:=by
 by_cases h0:lane < 0\/(L.length:Int)<=lane
 . rw[lget_out h0];simp
 . obtain⟨i,rfl⟩:=Int.eq_ofNat_of_zero_le (show 0<=lane by omega);obtain⟨v,_,hl⟩:=h.lane i (by omega);rw[lget_nat];refine⟨?_,hl.1⟩;cases hx:L.getD i [] with
   |nil=>simp
   |cons x xs=>exact hl.2.1 x (by rw[hx];simp)
theorem pick_any(w:World)(B E:Nat)(L:List (List Nat))(lane:Int)(W:Nat)(h:Tape w B E L):
 Calls Tryz.prog 149 #[.pointer (some ⟨B+1,0,none⟩),.int .i64 lane,.int .u64 (W:Int)] w (PickPost w B E L lane W):=by
 have R:=Lib.hid (next_any w B E L lane h);have hb:=(h.bound lane).1;obtain⟨n,hn⟩:∃n,n=(lget L lane).headD 0:=⟨_,rfl⟩;rw[← hn] at hb;have HN:=Lib.hid hn;clear h hn;go_enter Tryz.func149,Tryz.ntmps149;go_wp2_with fail
 refine R.out.mono ?_;rintro e w' ⟨rfl,ht,hg⟩;rw[← HN.out];have T:=Lib.hid (And.intro ht hg);clear ht hg;go_wp2_with fail
 go_ret;exact⟨ret_bool (by rw[← HN.out,pickB,Bool.eq_iff_iff];simp only[decide_eq_true_iff];omega),T.out.1,T.out.2⟩
end Go.Proofs.YtdmmciggopmglaaGreatDoor.DR
namespace Go.Proofs.YtdmmciggopmglaaGreatDoor.DR
open Go.RowKit
theorem Tape.kept{w w':World}{B E:Nat}{L:List (List Nat)}{C:Nat}(h:Tape w B E L)(hg:w.grownBy w' (some C))(hc:C < B\/E<=C):Tape w' B E L:=
 h.same hg.size λk k1 k2=>hg.block k (by have:=h.2.1;omega) (by simp;omega)
theorem Tape.below{w w':World}{B E:Nat}{L:List (List Nat)}(h:Tape w B E L)(hb:Below w.heap.size w w'):Tape w' B E L:=
 h.same hb.size λk _ k2=>hb.block k (by have:=h.2.1;omega)
theorem Tape.lt{w:World}{B E:Nat}{L:List (List Nat)}(h:Tape w B E L):B+2<=E/\E<=w.heap.size:=⟨h.1,h.2.1⟩
def NewE(L:List (List Nat))(w:World)(e:Ending)(w':World):Prop:=∃B,e= .returned (.pointer (some ⟨B+1,0,none⟩))/\Tape w' B w'.heap.size L/\w.heap.size<=B/\Below w.heap.size w w'
theorem newE_of{L:List (List Nat)}{w:World}{e:Ending}{w':World}(h:NewPost L w e w'):NewE L w e w':=⟨w.heap.size,h.1,h.2.1,Nat.le_refl _,h.2.2⟩
theorem newE_any(v:Value)(L:List (List Nat))(w:World)(hL:Lanes w w.heap.size v L):Calls Tryz.prog 12 #[v] w (NewE L w):=(new_any v L w hL).mono λ_ _ h=>newE_of h
def PickAt(w:World)(B E:Nat)(b:Bool)(L:List (List Nat))(e:Ending)(w':World):Prop:=e= .returned (.bool b)/\Tape w' B E L/\w.grownBy w' (some B)
theorem pick_at{w:World}{B E:Nat}{L:List (List Nat)}(lane:Int)(W:Int)(b:Bool)(L':List (List Nat))(h:Tape w B E L)(hW:0<=W)(hb:pickB ((lget L lane).headD 0) W.toNat=b)(hL:adv L lane=L'):
 Calls Tryz.prog 149 #[.pointer (some ⟨B+1,0,none⟩),.int .i64 lane,.int .u64 W] w (PickAt w B E b L'):=by
 obtain⟨n,rfl⟩:=Int.eq_ofNat_of_zero_le hW;subst hb;subst hL;exact pick_any w B E L lane n h
end Go.Proofs.YtdmmciggopmglaaGreatDoor.DR
namespace Go.Proofs.YtdmmciggopmglaaGreatDoor.DR
open Go.RowKit
end Go.Proofs.YtdmmciggopmglaaGreatDoor.DR
