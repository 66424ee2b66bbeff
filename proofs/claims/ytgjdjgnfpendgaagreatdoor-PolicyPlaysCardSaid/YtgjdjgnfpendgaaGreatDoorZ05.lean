/- Part 5 of the proof. -/
import Derived.Test.YtgjdjgnfpendgaaGreatDoorZ04
import Derived.BigRegion
import Derived.Deep.CutBlock
import Derived.Deep.DeepCutAuto
import Derived.Deep.RegionLaw
set_option maxHeartbeats 16000000
set_option maxRecDepth 20000
namespace Go.Proofs.YtgjdjgnfpendgaaGreatDoor
open Go.Proofs.Tryz
namespace SR
open Go.RowKit Sg
structure KE where
 s:zy
 o:Bool
 d:Bool
abbrev KE.v(e:KE):Value:= .agg #[.string e.s,.bool e.o,.bool e.d]
structure Sl where
 A:Option Addr
 n:Nat
 c:Nat
abbrev Sl.v(r:Sl):Value:= .slice r.A r.n r.c
structure KW(w:zw)(P:Nat->Prop)(r:Sl)(L:List KE):Prop where
 len:L.length=r.n
 le:L.length<=2000
 small:∀e∈L,e.s.size<=maxLen
 cells:L= []\/∃g o,P g/\r.A=some ⟨g,o,none⟩/\g < w.heap.size/\L.length<=r.c/\r.c<=maxLen/\
  ∀j x,L[j]?=some x->w.cell? ⟨g,o+j*3,none⟩=some (.string x.s)/\w.cell? ⟨g,o+j*3+1,none⟩=some (.bool x.o)/\w.cell? ⟨g,o+j*3+2,none⟩=some (.bool x.d)
section
variable{w w':zw}{P P':Nat->Prop}{r:Sl}{L:List KE}
theorem KW.same(h:KW w P r L)(hs:w.heap.size<=w'.heap.size)(hb:∀g,P g->g < w.heap.size->w'.heap[g]?=w.heap[g]?)(hp:∀g,P g->g < w.heap.size->P' g):KW w' P' r L:=by
 refine⟨h.len,h.le,h.small,?_⟩;rcases h.cells with h1|⟨g,o,hg,e,h1,h2,h3,h4⟩
 . exact xz h1
 . refine ja ⟨g,o,hp g hg h1,e,by omega,h2,h3,λj x hj=>?_⟩;obtain⟨q1,q2,q3⟩:=h4 j x hj;exact⟨(World.cell?_of_block (a:=⟨g,o+j*3,none⟩) (hb g hg h1)).trans q1,(World.cell?_of_block (a:=⟨g,o+j*3+1,none⟩) (hb g hg h1)).trans q2,(World.cell?_of_block (a:=⟨g,o+j*3+2,none⟩) (hb g hg h1)).trans q3⟩
theorem KW.below(h:KW w P r L)(hb:Below w.heap.size w w'):KW w' P r L:=h.same hb.size (λg _ hg=>hb.block g hg) λ_ h _=>h
theorem KW.wide(h:KW w P r L)(hp:∀g,P g->g < w.heap.size->P' g):KW w P' r L:=h.same (zg _) (λ_ _ _=>rfl) hp
theorem KW.set(h:KW w P r L){q:Addr}(hq:¬P q.block)(u:Value):KW (w.setCell q u) P r L:=h.same (by simp[World.setCell]) (λg hg _=>qc _ _ _ _ λe=>hq (e▸hg)) λ_ h _=>h
theorem KW.nil(w:zw)(P:Nat->Prop)(A:Option Addr)(c:Nat):KW w P ⟨A,0,c⟩ []:=⟨rfl,by simp,by simp,xz rfl⟩
theorem KW.at(h:KW w P r L){j:Nat}{x:KE}(hj:L[j]?=some x):∃g o,P g/\r.A=some ⟨g,o,none⟩/\g < w.heap.size/\r.n<=r.c/\r.c<=maxLen/\w.cell? ⟨g,o+j*3,none⟩=some (.string x.s)/\w.cell? ⟨g,o+j*3+1,none⟩=some (.bool x.o)/\w.cell? ⟨g,o+j*3+2,none⟩=some (.bool x.d):=by
 rcases h.cells with rfl|⟨g,o,hg,e,h1,h2,h3,h4⟩
 . simp at hj
 . exact⟨g,o,hg,e,h1,h.len▸h2,h3,h4 j x hj⟩
end
def di(L:List KE):List Value:=L.flatMap λe=>[.string e.s,.bool e.o,.bool e.d]
theorem CY(L:List KE):(di L).length=L.length*3:=by
 induction L with
 |nil=>rfl
 |cons x L ih=>simp[di] at ih ⊢;omega
theorem uJ:∀(L:List KE) (j:Nat) (x:KE),L[j]?=some x->(di L)[j*3]?=some (.string x.s)/\(di L)[j*3+1]?=some (.bool x.o)/\(di L)[j*3+2]?=some (.bool x.d)
 | [],j,x,h=>by simp at h
 |y::L,0,x,h=>by
  simp at h;subst h;exact⟨rfl,rfl,rfl⟩
 |y::L,j+1,x,h=>by
  have h':L[j]?=some x:=by simpa using h
  obtain⟨q1,q2,q3⟩:=uJ L j x h';have e:di (y::L)= [.string y.s,.bool y.o,.bool y.d]++di L:=rfl
  have key:∀m u,(di L)[m]?=some u->(di (y::L))[m+3]?=some u:=λm u hm=>by
   rw[e,List.getElem?_append_right (by simp)];simpa using hm
  refine⟨?_,?_,?_⟩
  . rw[show(j+1)*3=j*3+3 by omega];exact key _ _ q1
  . rw[show(j+1)*3+1=j*3+1+3 by omega];exact key _ _ q2
  . rw[show(j+1)*3+2=j*3+2+3 by omega];exact key _ _ q3
theorem uK(L M:List KE):di (L++M)=di L++di M:=by simp[di]
theorem uL(L:List KE):∀u∈di L,u.oneCell'=true:=by
 intro u hu;unfold di at hu;obtain⟨e,_,he⟩:=List.mem_flatMap.1 hu;simp at he;rcases he with rfl|rfl|rfl <;> rfl
theorem uM:∀(L:List KE) (m:Nat) (u:Value),(di L)[m]?=some u->∃j x,L[j]?=some x/\((m=j*3/\u= .string x.s)\/(m=j*3+1/\u= .bool x.o)\/(m=j*3+2/\u= .bool x.d))
 | [],m,u,h=>by simp[di] at h
 |y::L,m,u,h=>by
  have e:di (y::L)= [.string y.s,.bool y.o,.bool y.d]++di L:=rfl;rw[e] at h
  by_cases hm:m < 3
  . rcases m with _|_|_|m
    . simp at h;exact⟨0,y,rfl,xz ⟨rfl,h.symm⟩⟩
    . simp at h;exact⟨0,y,rfl,ja (xz ⟨rfl,h.symm⟩)⟩
    . simp at h;exact⟨0,y,rfl,ja (ja ⟨rfl,h.symm⟩)⟩
    . omega
  . rw[List.getElem?_append_right (by simp;omega)] at h;obtain⟨j,x,hj,hc⟩:=uM L _ u h;simp only[zv,ql] at hc;refine⟨j+1,x,by simpa using hj,?_⟩;rcases hc with⟨h1,h2⟩|⟨h1,h2⟩|⟨h1,h2⟩
    . exact xz ⟨by omega,h2⟩
    . exact ja (xz ⟨by omega,h2⟩)
    . exact ja (ja ⟨by omega,h2⟩)
def nF(w:zw)(base:Nat)(v:Value)(L:List KE):Prop:=w.ownsRow base 168 3 v L.length (di L)/\L.length<=2000/\∀e∈L,e.s.size<=maxLen
theorem nF.row{w:zw}{base:Nat}{v:Value}{L:List KE}{P:Nat->Prop}(h:nF w base v L)(hP:∀k,base<=k->P k):∃r:Sl,v=r.v/\KW w P r L:=by
 obtain⟨h1,h2,h3⟩:=h;have yD:=h1;rcases h1.2 with⟨rfl,h0⟩|⟨g,cap,cur,rfl,hb,hg,hn,hm,hs,ht⟩
 . obtain rfl:L= []:=qe h0;exact⟨⟨none,0,0⟩,rfl,KW.nil _ _ _ _⟩
 . refine⟨⟨some ⟨g,0,none⟩,L.length,cap⟩,rfl,rfl,h2,h3,ja ⟨g,0,hP g hb,rfl,(Array.getElem?_eq_some_iff.1 hg).1,hn,hm,λj x hj=>?_⟩⟩;obtain⟨q1,q2,q3⟩:=uJ L j x hj
   have key:∀m u,(di L)[m]?=some u->w.cell? ⟨g,0+m,none⟩=some u:=λm u hm=>by
    have:=yD.cells (g:=g) rfl m u hm;rw[show(⟨g,0,none⟩:Addr).add m=⟨g,0+m,none⟩ by unfold Addr.add;split <;> simp_all] at this;exact this
   exact⟨key _ _ q1,key _ _ q2,key _ _ q3⟩
theorem nF.len{w:zw}{base:Nat}{v:Value}{L:List KE}(h:nF w base v L):∃A c,v= .slice A L.length c:=by
 rcases h.1.2 with⟨rfl,h0⟩|⟨g,cap,cur,rfl,_⟩
 . exact⟨none,0,by rw[h0]⟩
 . exact⟨_,_,rfl⟩
theorem GC(w:zw)(base:Nat):nF w base (.slice none 0 0) []:=⟨⟨rfl,xz ⟨rfl,rfl⟩⟩,by simp,by simp⟩
theorem uj:(prog.info? 168).map (λi=>(i.zero,i.size,i.bytes))=some (some (.agg #[.string ⟨#[]⟩,.bool false,.bool false]),3,24):=by kernel_rfl
theorem PF{w:zw}{base:Nat}{v:Value}{L:List KE}(h:nF w base v L)(x:KE)(hx:x.s.size<=maxLen)(hl:L.length<=1999)(hb:base<=w.heap.size):
 ∃(A:Option Addr) (c:Nat) (w2:zw),(Builtin.append_ #[36,36] 36 #[v,.slice (some ⟨w.heap.size,0,none⟩) 1 1]).run prog (w.alloc (.cells #[.string x.s,.bool x.o,.bool x.d] 168))= .ok (.slice A (L.length+1) c) w2/\
  nF w2 base (.slice A (L.length+1) c) (L++ [x])/\w.grownBy w2 v.ownBlock:=by
 obtain⟨i0,hi,fL,fC,fx⟩:=info_parts uj
 obtain⟨v',w2,aB,bC,hg,ko,bw⟩:=run_append_own_at (P:=prog) (w.alloc (.cells #[.string x.s,.bool x.o,.bool x.d] 168)) base 36 36 168 i0 _ 3 24
  underlying36 hi fL fC fx rfl (by decide) _ _ _ (h.1.alloc _) ⟨w.heap.size,0,none⟩ 1 1 (di [x]) rfl (λj u hj=>by
   rw[show(⟨w.heap.size,0,none⟩:Addr).add j=⟨w.heap.size,j,none⟩ by unfold Addr.add;split <;> simp_all,cell_of_row _ _ _ _ _ _ (heap_alloc_new w _)];simpa[di] using hj) (uL [x]) (by unfold maxLen;omega) (by omega) (by simp;omega)
 have iO:=bC;rcases bC.2 with⟨_,h0⟩|⟨g,cap,cur,rfl,_⟩
 . omega
 refine⟨_,cap,w2,aB,⟨?_,by rw[zh];simp only[zv,ql];omega,λe he=>?_⟩,(World.grownBy_alloc w _ _).trans hg⟩
 . rw[uK,zh];exact iO
 . rcases List.mem_append.1 he with h1|h1
   . exact h.2.2 e h1
   . rw[List.mem_singleton.1 h1];exact hx
theorem GD(w:zw)(x:KE)(hx:x.s.size<=maxLen):nF (w.alloc (.cells #[.string x.s,.bool x.o,.bool x.d] 168)) w.heap.size (.slice (some ⟨w.heap.size,0,none⟩) 1 1) [x]:=
 ⟨⟨rfl,Or.inr ⟨w.heap.size,1,_,rfl,Nat.le_refl _,heap_alloc_new w _,Nat.le_refl _,by unfold maxLen;omega,rfl,rfl⟩⟩,by simp,by simpa using hx⟩
theorem MZ{w:zw}{base:Nat}{v:Value}{L M:List KE}{P:Nat->Prop}{r:Sl}(h:nF w base v L)(k:KW w P r M)(hl:L.length+M.length<=2000)(hb:base<=w.heap.size):
 ∃(v':Value) (w2:zw),(Builtin.append_ #[36,36] 36 #[v,r.v]).run prog w= .ok v' w2/\nF w2 base v' (L++M)/\w.grownBy w2 v.ownBlock:=by
 obtain⟨i0,hi,fL,fC,fx⟩:=info_parts uj;obtain⟨A,n,c⟩:=r;have bZ:=k.len;simp only at bZ
 have b7:∀y∈L++M,y.s.size<=maxLen:=λy hy=>by
  rcases List.mem_append.1 hy with h1|h1
  . exact h.2.2 y h1
  . exact k.small y h1
 rcases k.cells with rfl|⟨g,o,_,e,k1,k2,k3,k4⟩
 . obtain rfl:n=0:=bZ.symm;refine⟨v,w,?_,by rw[xq];exact h,⟨rfl,rfl,rfl,zg _,λ_ _ _=>rfl⟩⟩;rcases h.1.2 with⟨rfl,_⟩|⟨g,cap,cur,rfl,_,_,h3,_⟩
   . cases A <;> simp[Builtin.append_,run_underlying underlying36,sizeOf,typeInfo,hi,Builtin.lenOf,Builtin.firstCells,loadCells,loadCellsFrom]
   . cases A <;> simp[Builtin.append_,run_underlying underlying36,sizeOf,typeInfo,hi,Builtin.lenOf,Builtin.firstCells,storeCells,loadCells,loadCellsFrom,h3]
 . simp only at e k2 k3;subst e;subst bZ
   obtain⟨v',w2,aB,bC,hg,ko,bw⟩:=run_append_own_at (P:=prog) w base 36 36 168 i0 _ 3 24
    underlying36 hi fL fC fx rfl (by decide) _ _ _ h.1 ⟨g,o,none⟩ M.length c (di M) (CY M) (λj u hj=>by
     rw[show(⟨g,o,none⟩:Addr).add j=⟨g,o+j,none⟩ by unfold Addr.add;split <;> simp_all];obtain⟨i,x,hx,hc⟩:=uM M j u hj;obtain⟨q1,q2,q3⟩:=k4 i x hx;rcases hc with⟨rfl,rfl⟩|⟨rfl,rfl⟩|⟨rfl,rfl⟩
     . exact q1
     . rw[← Nat.add_assoc];exact q2
     . rw[← Nat.add_assoc];exact q3) (uL M) (by unfold maxLen;omega) (by omega) hb
   refine⟨v',w2,aB,⟨?_,by rw[zh];omega,b7⟩,hg⟩;rw[uK,zh];exact bC
theorem Jc(w:zw):(sizeOf 168).run prog w= .ok 3 w:=by kernel_rfl
theorem xV:prog.underlying 36=some (.slice (prog.elem 36)):=by kernel_rfl
theorem ED:prog.elem 36=168:=by kernel_rfl
theorem sh{w:zw}{P:Nat->Prop}{r:Sl}{L:List KE}(h:KW w P r L){p:Nat}(hp:p<=r.n):
 ∃r':Sl,r'.n=p/\(∀W:zw,(Instr.sliceAt 36 (.slice r.A r.n r.c) none (some (.int .i64 (p:Int))) none).run prog W= .ok (.slice r'.A r'.n r'.c) W)/\
  (∀W:zw,(Instr.slice 36 (.slice r.A r.n r.c) none (some (.int .i64 (p:Int))) none).run prog W= .ok (.slice r'.A r'.n r'.c) W)/\KW w P r' (L.take p):=by
 obtain⟨A,n,c⟩:=r;have bZ:=h.len;simp only at bZ hp|-;have sF:(L.take p).length=p:=by rw[qh,bZ];omega
 have b7:∀e∈L.take p,e.s.size<=maxLen:=λe he=>h.small e (xn he)
 by_cases h0:p=0
 . subst h0
   have aB:∀W:zw,(Instr.slice 36 (.slice A n c) none (some (.int .i64 ((0:Nat):Int))) none).run prog W= .ok (.slice (if c=0 then A else A.map (·.add (0*3))) 0 c) W:=λW=>by
    have lu:0<=c:=xg _;rw[run_slice_h W _ _ _ _ xV .i64 ((0:Nat):Int) (by omega) (by omega),ED,Jc];rfl
   refine⟨⟨if c=0 then A else A.map (·.add (0*3)),0,c⟩,rfl,λW=>(run_sliceAt_slice W _ _ _ _ _ xV).trans (aB W),aB,?_⟩;rw[List.take_zero];exact KW.nil _ _ _ _
 . rcases h.cells with rfl|⟨g,o,hg,e,h1,h2,h3,h4⟩
   . simp at bZ;omega
   . simp only at e h2 h3;subst e
     have aB:∀W:zw,(Instr.slice 36 (.slice (some ⟨g,o,none⟩) n c) none (some (.int .i64 (p:Int))) none).run prog W= .ok (.slice (some ⟨g,o,none⟩) p c) W:=λW=>by
      rw[run_slice_h W _ _ _ _ xV .i64 (p:Int) (by omega) (by omega),ED,Jc];show Result.ok (sliced _ 0 _ _ _) _=_;unfold sliced;rw[if_neg (by omega)];simp[Addr.add]
     refine⟨⟨some ⟨g,o,none⟩,p,c⟩,rfl,λW=>(run_sliceAt_slice W _ _ _ _ _ xV).trans (aB W),aB,sF,by have:=h.le;omega,b7,ja ⟨g,o,hg,rfl,h1,by rw[sF];show p<=c;omega,h3,λj x hj=>?_⟩⟩;rw[xv] at hj;split at hj
     . exact h4 j x hj
     . cases hj
def fk(L:List KE)(k:zy):KE:=(L.find? λe=>decide (e.s=k)).getD ⟨⟨#[]⟩,false,false⟩
def cV(L:List KE)(k:zy):Bool:=L.any λe=>decide (e.s=k)
def wo(L:List KE)(k:zy):List KE:=L.filter λe=>!decide (e.s=k)
theorem uN(L:List KE)(k:zy):(wo L k).length<=L.length:=List.length_filter_le _ _
def bQ(w:zw)(p:Nat)(e:KE):Prop:=w.heap[p]?=some (.cells #[.string e.s,.bool e.o,.bool e.d] 168 (0,0))
theorem bQ.lt{w:zw}{p:Nat}{e:KE}(k:bQ w p e):p < w.heap.size:=(Array.getElem?_eq_some_iff.1 k).1
theorem bQ.c{w:zw}{p:Nat}{e:KE}(k:bQ w p e):w.cell? ⟨p,0,none⟩=some (.string e.s)/\w.cell? ⟨p,1,none⟩=some (.bool e.o)/\w.cell? ⟨p,2,none⟩=some (.bool e.d):=⟨cell_of_row w _ 0 _ _ _ k,cell_of_row w _ 1 _ _ _ k,cell_of_row w _ 2 _ _ _ k⟩
theorem bQ.f{w:zw}{p:Nat}{e:KE}(k:bQ w p e):w.frozen? ⟨p,0,none⟩=false/\w.frozen? ⟨p,1,none⟩=false/\w.frozen? ⟨p,2,none⟩=false:=⟨frozen_of_row w _ 0 _ _ k,frozen_of_row w _ 1 _ _ k,frozen_of_row w _ 2 _ _ k⟩
theorem bQ.put{w:zw}{p:Nat}{e:KE}(k:bQ w p e)(e':KE):bQ (((w.setCell ⟨p,0,none⟩ (.string e'.s)).setCell ⟨p,1,none⟩ (.bool e'.o)).setCell ⟨p,2,none⟩ (.bool e'.d)) p e':=by
 unfold bQ at*;have r1:(w.setCell ⟨p,0,none⟩ (.string e'.s)).heap[p]?=some (.cells #[.string e'.s,.bool e.o,.bool e.d] 168 (0,0)):=by rw[heap_setCell_same _ _ _ _ _ _ k];rfl
 have r2:((w.setCell ⟨p,0,none⟩ (.string e'.s)).setCell ⟨p,1,none⟩ (.bool e'.o)).heap[p]?=some (.cells #[.string e'.s,.bool e'.o,.bool e.d] 168 (0,0)):=by rw[heap_setCell_same _ _ _ _ _ _ r1];rfl
 rw[heap_setCell_same _ _ _ _ _ _ r2];rfl
theorem uO{w:zw}{p:Nat}{e:KE}(k:bQ w p e):(loadVar 168 ⟨p,0,none⟩).run prog w= .ok e.v w:=by
 obtain⟨k0,k1,k2⟩:=k.c;unfold loadVar;go_simp
theorem bc{fn:Func}{a u:Tmp}{ty:TypeId}(h:fn.results= #[.cell a ty,.tmp u])(tmps:Array Value)(P:Program)(w:zw)(p:Addr)(v:Value)(ha:tmps.getD a undef= .pointer (some p))(hv:(loadVar ty p).run P w= .ok v w):
 (results fn tmps).run P w= .ok (.tuple #[v,tmps.getD u undef]) w:=by
 rw[qt] at ha;simp[results,h,ha,asAddr,hv]
theorem aP{fn:Func}{a u:Tmp}{ty tu:TypeId}(h:fn.results= #[.cell a ty,.cell u tu])(tmps:Array Value)(P:Program)(w:zw)(p q:Addr)(v x:Value)(ha:tmps.getD a undef= .pointer (some p))(hv:(loadVar ty p).run P w= .ok v w)
 (hu:tmps.getD u undef= .pointer (some q)) (hx:(loadVar tu q).run P w= .ok x w):(results fn tmps).run P w= .ok (.tuple #[v,x]) w:=by
 rw[qt] at ha hu;simp[results,h,ha,hu,asAddr,hv,hx]
def dV(v:Value)(w:zw)(e:Ending)(w':zw):Prop:=e= .returned v/\Below w.heap.size w w'
end SR
namespace SR
open Go.RowKit Sg
theorem GF{L:List KE}{key:zy}{i:Nat}{x:KE}(hx:L[i]?=some x)(hk:x.s=key)(hb:∀j e,j < i->L[j]?=some e->e.s≠key):fk L key=x/\cV L key=true:=by
 have h:L.find? (λe=>decide (e.s=key))=some x:=by
  rw[List.find?_eq_some_iff_getElem];obtain⟨hi,he⟩:=List.getElem?_eq_some_iff.1 hx;refine⟨by simpa using hk,i,hi,he,λj hj=>?_⟩;have:=hb j L[j] hj (zm (by omega));simpa using this
 refine⟨by unfold fk;rw[h];rfl,?_⟩;unfold cV;rw[List.any_eq_true];exact⟨x,List.mem_of_getElem? hx,by simpa using hk⟩
theorem J6{L:List KE}{key:zy}(h:∀e∈L,e.s≠key):fk L key=⟨⟨#[]⟩,false,false⟩/\cV L key=false:=by
 have h1:L.find? (λe=>decide (e.s=key))=none:=by
  rw[List.find?_eq_none];intro e he;simpa using h e he
 refine⟨by unfold fk;rw[h1];rfl,?_⟩;unfold cV;rw[List.any_eq_false];intro e he;simpa using h e he
theorem KW.mem{w:zw}{P:Nat->Prop}{r:Sl}{L:List KE}(h:KW w P r L){i:Nat}(hi:i < r.n):∃x,L[i]?=some x/\x∈L:=by
 have:i < L.length:=by rw[h.len];exact hi
 exact⟨L[i],zm this,qy this⟩
theorem cH(w:zw)(P:Nat->Prop)(r:Sl)(L:List KE)(key:zy)(h:KW w P r L):
 Calls prog 91 #[.slice r.A r.n r.c,.string key] w (dV (.tuple #[(fk L key).v,.bool (cV L key)]) w):=by
 obtain⟨A,n,c⟩:=r;have hb:=(zo w.heap.size w).alloc (zg _) (.cells #[.string ⟨#[]⟩,.bool false,.bool false] 168);have HR:=J (h.below hb);have HB:=J hb;have K0:=zs (bQ (w.alloc (.cells #[.string ⟨#[]⟩,.bool false,.bool false] 168)) w.heap.size ⟨⟨#[]⟩,false,false⟩) (heap_alloc_new _ _);have hl:=h.le;have bZ:=h.len;simp only at bZ|-;rw[bZ] at hl;have M6:=J bZ;clear h hb bZ;go_enter func91,ntmps91;go_wp2_with fail
 obtain⟨w1,cA⟩:∃w1,w.alloc (.cells #[.string ⟨#[]⟩,.bool false,.bool false] 168)=w1:=⟨_,rfl⟩;obtain⟨p,hp⟩:∃p,w.heap.size=p:=⟨_,rfl⟩;have HP:=J hp;rw[cA] at HR HB K0|-;rw[hp] at K0|-;clear cA hp;go_loopg [6] n (λq iz W=>∃i,q+i=n/\iz= .int .i64 (i:Int)/\W=w1/\∀j e,j < i->L[j]?=some e->e.s≠key)
 case atStart=>exact⟨0,by omega,rfl,rfl,λj e hj=>by omega⟩
 case round=>
  obtain⟨i,um,rfl,rfl,cu⟩:=hrel;have NO:=J cu;have GI:=J um;clear cu um;obtain⟨f0,f1,f2⟩:=K0.out.f;obtain⟨k0,k1,k2⟩:=K0.out.c
  by_cases hi:i < n
  . have e0:decide (i < n)=true:=by simpa using hi
    obtain⟨x,hx,_⟩:=HR.out.mem (i:=i) hi;obtain⟨g,o,_,hA,hg,cF,bL,m0,m1,m2⟩:=HR.out.at hx;simp only at hA cF bL;subst hA;unfold maxLen at bL;have XX:=J hx;clear hx
    by_cases hk:x.s=key
    . have e1:=iB hk;have FF:=J (GF XX.out hk NO.out);have K1:=J (K0.out.put x);clear hk;go_wp2_with fail
      (try simp only[Exit.inBlock,Exit.then]);refine bodyPost_ret (bc rfl _ _ _ ⟨p,0,none⟩ _ rfl (uO K1.out)) rfl ?_;rw[FF.out.1,FF.out.2];exact⟨rfl,((HB.out.setCell (p:=⟨p,0,none⟩) (HP.out▸zg _) _).setCell (p:=⟨p,1,none⟩) (HP.out▸zg _) _).setCell (p:=⟨p,2,none⟩) (HP.out▸zg _) _⟩
    . have e1:=jM hk;have NK:=J hk;clear hk;go_wp2_with fail
      go_roundg(n - (i+1))
      case measure=>have:=GI.out;omega
      case rel=>
       refine⟨i+1,by omega,rfl,rfl,λj e hj he=>?_⟩
       by_cases LY:j=i
       . subst LY;rw[XX.out] at he;cases he;exact NK.out
       . exact NO.out j e (by omega) he
  . have e0:decide (i < n)=false:=by simpa using hi
    have FF:=J (J6 (L:=L) (key:=key) λe he hk=>by
     obtain⟨j,hj,rfl⟩:=List.mem_iff_getElem.1 he;exact NO.out j _ (by have:=GI.out;have:=M6.out;omega) (zm hj) hk)
    have K1:=J (K0.out.put ⟨⟨#[]⟩,false,false⟩);go_wp2_with fail
    (try simp only[Exit.inBlock,Exit.then]);refine bodyPost_ret (bc rfl _ _ _ ⟨p,0,none⟩ _ rfl (uO K1.out)) rfl ?_;rw[FF.out.1,FF.out.2];exact⟨rfl,((HB.out.setCell (p:=⟨p,0,none⟩) (HP.out▸zg _) _).setCell (p:=⟨p,1,none⟩) (HP.out▸zg _) _).setCell (p:=⟨p,2,none⟩) (HP.out▸zg _) _⟩
def M7(w:zw)(P:Nat->Prop)(L:List KE)(e:Ending)(w':zw):Prop:=∃r:Sl,e= .returned (.slice r.A r.n r.c)/\KW w' P r L/\Below w.heap.size w w'
theorem J7(xs:List KE)(x:KE)(key:zy):wo (xs++ [x]) key=if x.s=key then wo xs key else wo xs key++ [x]:=by
 unfold wo;rw[List.filter_append];split
 . rename_i h;simp[h]
 . rename_i h;simp[h]
def Vp(L:List KE)(key:zy)(w:zw)(v i:Value)(W:zw):Prop:=∃k:Nat,i= .int .i64 (k:Int)/\k<=L.length/\nF W w.heap.size v (wo (L.take k) key)/\Below w.heap.size w W
theorem cE(w:zw)(P:Nat->Prop)(r:Sl)(L:List KE)(key:zy)(h:KW w P r L)(hl:L.length<=1900)(hP:∀k,w.heap.size<=k->P k):
 Calls prog 93 #[.slice r.A r.n r.c,.string key] w (M7 w P (wo L key)):=by
 obtain⟨A,n,c⟩:=r;have bZ:=h.len;simp only at bZ|-;have HH:=J h;have HP:=J hP;subst bZ;clear h hP;go_enter func93,ntmps93;go_wp2_with fail
 go_loopw [5,6] (λv i W=>Vp L key w v i W) (λ_ i _=>L.length - (intOf i).toNat)
 case atStart=>exact⟨0,rfl,xg _,GC _ _,zo _ _⟩
 case round=>
  obtain⟨k,rfl,hk,aS,cD⟩:=hrel;have bW:=cD.size
  by_cases aQ:k < L.length
  . have e0:decide (k < L.length)=true:=by simpa using aQ
    have hx:=zm aQ;obtain⟨g,o,_,hA,hg,cF,bL,m0,m1,m2⟩:=(HH.out.below cD).at hx;simp only at hA cF bL;subst hA;unfold maxLen at bL;have ej:=J7 (L.take k) L[k] key;rw[← List.take_succ_eq_append_getElem aQ] at ej;have gQ:=HH.out.small _ (qy aQ);generalize L[k]=x at m0 m1 m2 ej gQ hx;have hle:(wo (L.take k) key).length<=1900:=by have:=uN (L.take k) key;rw[qh] at this;omega
    by_cases jn:x.s=key
    . have e1:=iB jn;rw[if_pos jn] at ej;have HS:=J ej;have HO:=J aS;clear ej jn aS hx;go_wp2_with fail
      go_roundw
      case rel=>exact⟨k+1,by go_num,by omega,by rw[HS.out];exact HO.out,cD⟩
      case measure=>simp[intOf];omega
    . have e1:=jM jn;rw[if_neg jn] at ej;have HS:=J ej;obtain⟨A2,c2,w2,aB,bC,dn⟩:=PF aS x gQ (by omega) bW;have ij:=cD.grown dn bW (λk hk=>(aS.1.lt k hk).1);have df:=J aB;have nB:=J bC;have HB:=J ij;obtain⟨Av,cv,rfl⟩:=aS.len;clear ej jn aS aB bC ij dn hx;go_wp2_with(at_builtin;refine aq rfl _ _ _ rfl _ _ _ _ rfl rfl df.out ?_)
      go_roundw
      case rel=>exact⟨k+1,by go_num,by omega,by rw[HS.out];exact nB.out,HB.out⟩
      case measure=>simp[intOf];omega
  . have e0:decide (k < L.length)=false:=by simpa using aQ
    have HO:=J aS;clear aS;go_wp2_with fail
    go_ret;have:=HO.out;rw[qk (by omega)] at this;obtain⟨r,rfl,hr⟩:=this.row HP.out;exact⟨r,rfl,hr,cD⟩
theorem kC(w:zw)(P:Nat->Prop)(r:Sl)(L:List KE)(x:KE)(h:KW w P r L)(hl:L.length<=1900)(hx:x.s.size<=maxLen)(hP:∀k,w.heap.size<=k->P k):
 Calls prog 92 #[.slice r.A r.n r.c,.agg #[.string x.s,.bool x.o,.bool x.d]] w (M7 w P (x::L)):=by
 obtain⟨A,n,c⟩:=r;have bZ:=h.len;have s1:(w.alloc (.cells #[.string x.s,.bool x.o,.bool x.d] 168)).heap.size=w.heap.size+1:=by simp
 have cU:=(zo w.heap.size w).alloc (zg _) (.cells #[.string x.s,.bool x.o,.bool x.d] 168);have gC:=cU.alloc (by omega) (.cells #[.string x.s,.bool x.o,.bool x.d] 168);have O1:=GD (w.alloc (.cells #[.string x.s,.bool x.o,.bool x.d] 168)) x hx;obtain⟨v',w2,aB,aS,hg⟩:=MZ O1 (h.below gC) (by simp;omega) (by simp);rw[s1] at aB aS hg;have df:=J aB;have HB:=zs (Below w.heap.size w w2) (gC.grown hg (by have:=gC.size;omega) (λk hk=>by simp[Value.ownBlock] at hk;omega));have F:=J (aS.row (P:=P) λk hk=>hP k (by omega));have K:=heap_alloc_new w (.cells #[.string x.s,.bool x.o,.bool x.d] 168);simp only at bZ aB|-;clear h O1 aB aS hg cU gC K;go_enter func92,ntmps92;go_wp2_with(at_builtin;refine aq rfl _ _ _ rfl _ _ _ _ rfl rfl df.out ?_)
 go_ret;obtain⟨r,rfl,hr⟩:=F.out;exact⟨r,rfl,hr,HB.out⟩
def RB(w:zw)(p mo t:Nat)(n a g:Sl):Prop:=w.heap[p]?=some (.cells #[.int .i64 (mo:Int),.int .i64 (t:Int),.slice n.A n.n n.c,.slice a.A a.n a.c,.slice g.A g.n g.c] 38 (0,0))
abbrev aM(mo t:Nat)(n a g:Sl):Obj:= .cells #[.int .i64 (mo:Int),.int .i64 (t:Int),.slice n.A n.n n.c,.slice a.A a.n a.c,.slice g.A g.n g.c] 38
abbrev cK:Obj:= .cells #[.int .i64 0,.int .i64 0,.slice none 0 0,.slice none 0 0,.slice none 0 0] 38
abbrev aU(mo t:Nat)(n a g:Sl):Value:= .agg #[.int .i64 (mo:Int),.int .i64 (t:Int),.slice n.A n.n n.c,.slice a.A a.n a.c,.slice g.A g.n g.c]
section
variable{w w':zw}{p mo t:Nat}{n a g:Sl}
theorem RB.lt(k:RB w p mo t n a g):p < w.heap.size:=(Array.getElem?_eq_some_iff.1 k).1
theorem RB.c(k:RB w p mo t n a g):w.cell? ⟨p,0,none⟩=some (.int .i64 (mo:Int))/\w.cell? ⟨p,1,none⟩=some (.int .i64 (t:Int))/\w.cell? ⟨p,2,none⟩=some (.slice n.A n.n n.c)/\w.cell? ⟨p,3,none⟩=some (.slice a.A a.n a.c)/\w.cell? ⟨p,4,none⟩=some (.slice g.A g.n g.c):=
 ⟨cell_of_row w _ 0 _ _ _ k,cell_of_row w _ 1 _ _ _ k,cell_of_row w _ 2 _ _ _ k,cell_of_row w _ 3 _ _ _ k,cell_of_row w _ 4 _ _ _ k⟩
theorem RB.f(k:RB w p mo t n a g):w.frozen? ⟨p,0,none⟩=false/\w.frozen? ⟨p,1,none⟩=false/\w.frozen? ⟨p,2,none⟩=false/\w.frozen? ⟨p,3,none⟩=false/\w.frozen? ⟨p,4,none⟩=false:=
 ⟨frozen_of_row w _ 0 _ _ k,frozen_of_row w _ 1 _ _ k,frozen_of_row w _ 2 _ _ k,frozen_of_row w _ 3 _ _ k,frozen_of_row w _ 4 _ _ k⟩
theorem RB.below(k:RB w p mo t n a g)(hb:Below w.heap.size w w'):RB w' p mo t n a g:=(hb.block p k.lt).trans k
theorem RB.other(k:RB w p mo t n a g){q:Addr}(hq:p≠q.block)(u:Value):RB (w.setCell q u) p mo t n a g:=(qc _ _ _ _ hq).trans k
theorem RB.eV(k:RB w p mo t n a g)(m:Nat):RB (w.setCell ⟨p,0,none⟩ (.int .i64 (m:Int))) p m t n a g:=by
 unfold RB at*;rw[heap_setCell_same _ _ _ _ _ _ k];rfl
theorem RB.kB(k:RB w p mo t n a g)(m:Nat):RB (w.setCell ⟨p,1,none⟩ (.int .i64 (m:Int))) p mo m n a g:=by
 unfold RB at*;rw[heap_setCell_same _ _ _ _ _ _ k];rfl
theorem RB.j1(k:RB w p mo t n a g)(r:Sl):RB (w.setCell ⟨p,2,none⟩ (.slice r.A r.n r.c)) p mo t r a g:=by
 unfold RB at*;rw[heap_setCell_same _ _ _ _ _ _ k];rfl
theorem RB.jk(k:RB w p mo t n a g)(r:Sl):RB (w.setCell ⟨p,3,none⟩ (.slice r.A r.n r.c)) p mo t n r g:=by
 unfold RB at*;rw[heap_setCell_same _ _ _ _ _ _ k];rfl
theorem RB.iI(k:RB w p mo t n a g)(r:Sl):RB (w.setCell ⟨p,4,none⟩ (.slice r.A r.n r.c)) p mo t n a r:=by
 unfold RB at*;rw[heap_setCell_same _ _ _ _ _ _ k];rfl
abbrev cR(w:zw)(p mo t:Nat)(n a g:Sl):zw:=((((w.setCell ⟨p,0,none⟩ (.int .i64 (mo:Int))).setCell ⟨p,1,none⟩ (.int .i64 (t:Int))).setCell ⟨p,2,none⟩ (.slice n.A n.n n.c)).setCell ⟨p,3,none⟩ (.slice a.A a.n a.c)).setCell ⟨p,4,none⟩ (.slice g.A g.n g.c)
theorem RB.put{mo' t':Nat}{n' a' g':Sl}(k:RB w p mo t n a g):RB (cR w p mo' t' n' a' g') p mo' t' n' a' g':=((((k.eV mo').kB t').j1 n').jk a').iI g'
theorem bf(k:RB w p mo t n a g):(loadVar 38 ⟨p,0,none⟩).run prog w= .ok (aU mo t n a g) w:=by
 obtain⟨k0,k1,k2,k3,k4⟩:=k.c;unfold loadVar;go_simp
end
end SR
namespace SR
open Go.RowKit Sg
structure Rw(w:zw)(P:Nat->Prop)(n a g:Sl)(N A G:List KE):Prop where
 n:KW w P n N
 a:KW w P a A
 g:KW w P g G
section
variable{w w':zw}{P P':Nat->Prop}{n a g:Sl}{N A G:List KE}
theorem Rw.below(h:Rw w P n a g N A G)(hb:Below w.heap.size w w'):Rw w' P n a g N A G:=⟨h.n.below hb,h.a.below hb,h.g.below hb⟩
theorem Rw.wide(h:Rw w P n a g N A G)(hp:∀k,P k->k < w.heap.size->P' k):Rw w P' n a g N A G:=⟨h.n.wide hp,h.a.wide hp,h.g.wide hp⟩
theorem Rw.set(h:Rw w P n a g N A G){q:Addr}(hq:¬P q.block)(u:Value):Rw (w.setCell q u) P n a g N A G:=⟨h.n.set hq u,h.a.set hq u,h.g.set hq u⟩
theorem Rw.drew(h:Rw w P n a g N A G):Rw w.drew P n a g N A G:=h.below ⟨rfl,rfl,rfl,zg _,λ_ _=>rfl⟩
end
def Cl(w:zw)(P:Nat->Prop):Prop:=∀k,w.heap.size<=k->P k
theorem Cl.below{w w':zw}{P:Nat->Prop}(h:Cl w P)(hb:Below w.heap.size w w'):Cl w' P:=λk hk=>h k (zr hb.size hk)
def CT(w:zw)(P:Nat->Prop)(F:Value->Value)(mo t:Nat)(N A G:List KE)(e:Ending)(w':zw):Prop:=
 ∃n a g:Sl,e= .returned (F (aU mo t n a g))/\Rw w' P n a g N A G/\Below w.heap.size w w'
def gj(L:List KE):KE:=L.getLastD ⟨⟨#[]⟩,false,false⟩
theorem lx{L:List KE}(h:L≠ []):L[L.length - 1]?=some (gj L):=by
 unfold gj;rw[qw,<-List.getLast?_eq_getElem?,qz h];rfl
section
variable(w:zw)(P:Nat->Prop)(mo t:Nat)(n a g:Sl)(N A G:List KE)(h:Rw w P n a g N A G)
include h
theorem et(key:zy):Calls prog 90 #[aU mo t n a g,.string key] w (dV (.bool (cV N key||cV A key)) w):=by
 have hb:=(zo w.heap.size w).alloc (zg _) (aM mo t n a g);have K0:=zs (RB (w.alloc (aM mo t n a g)) w.heap.size mo t n a g) (heap_alloc_new _ _);have HR:=J (h.below hb);have HB:=J hb;clear h hb;go_enter func90,ntmps90;go_wp2_with fail
 generalize w.alloc (aM mo t n a g)=w1 at K0 HR HB|-;obtain⟨p,hp⟩:∃p,w.heap.size=p:=⟨_,rfl⟩;rw[hp] at K0|-;clear hp;refine(cH w1 P n N key HR.out.n).mono ?_;rintro e w2 ⟨rfl,hB⟩;have b3:=hB.trans (((zo w2.heap.size w2).alloc (zg _) (.cells #[.string (fk N key).s,.bool (fk N key).o,.bool (fk N key).d] 168)).mono hB.size);have K2:=K0.out.below b3;obtain⟨_,_,k2,k3,_⟩:=K2.c;have R2:=J (HR.out.below b3);have B2:=J (HB.out.trans (b3.mono HB.out.size));clear hB b3 K2 K0 HR HB;obtain⟨x1,kc⟩:=zx (fk N key);rw[← kc] at R2 B2 k2 k3|-;clear kc;go_wp2_with fail
 obtain⟨w3,qQ⟩:=zx (w2.alloc (.cells #[.string x1.s,.bool x1.o,.bool x1.d] 168));rw[← qQ] at R2 B2 k2 k3|-;clear qQ;refine(cH w3 P a A key R2.out.a).mono ?_;rintro e w4 ⟨rfl,hB⟩;have B4:=J (B2.out.trans ((hB.trans (((zo w4.heap.size w4).alloc (zg _) (.cells #[.string (fk A key).s,.bool (fk A key).o,.bool (fk A key).d] 168)).mono hB.size)).mono B2.out.size));clear hB;obtain⟨y,hy⟩:=zx (cV A key);rw[← hy];have HY:=J hy;clear hy;cases h1:cV N key with
 |true=>
  go_wp2_with fail
  go_ret;exact⟨by rw[h1];rfl,B4.out⟩
 |false=>
  go_wp2_with fail
  go_ret;exact⟨by rw[h1,<-HY.out];rfl,B4.out⟩
def vW(N A:List KE):zy:=if N= [] then(gj A).s else(gj N).s
def CZ(N A:List KE):Bool:=!(N++A).isEmpty
theorem pN:Calls prog 70 #[aU mo t n a g] w (dV (.tuple #[.string (vW N A),.bool (CZ N A)]) w):=by
 have hb:=(zo w.heap.size w).alloc (zg _) (aM mo t n a g);have K0:=show RB (w.alloc (aM mo t n a g)) w.heap.size mo t n a g from heap_alloc_new _ _
 have HR:=h.below hb;have HB:=J hb;obtain⟨_,_,k2,k3,_⟩:=K0.c;obtain⟨nA,nn,nc⟩:=n;obtain⟨aA,an,ac⟩:=a;have jN:=h.n.le;have j2:=h.a.le;rw[h.n.len] at jN;rw[h.a.len] at j2;simp only at k2 k3 jN j2|-;unfold vW CZ
 by_cases hN:N= []
 . have lR:nn=0:=by have:=h.n.len;rw[hN] at this;exact this.symm
   subst lR;rw[if_pos hN,hN,List.nil_append]
   by_cases hA:A= []
   . have q8:an=0:=by have:=h.a.len;rw[hA] at this;exact this.symm
     subst q8;rw[hA];have e1:(!([]:List KE).isEmpty)=false:=rfl;have e2:(gj []).s=⟨#[]⟩:=rfl;rw[e1,e2];clear h HR K0 hN hA e1 e2 jN j2;go_enter func70,ntmps70;go_wp2_with fail
     go_ret2
     exact⟨rfl,HB.out⟩
   . have q8:0 < an:=by have:=h.a.len;have:=List.length_pos_iff.2 hA;simp only at *;omega
     have e0:decide (0 < (an:Int))=true:=by simp;omega
     have e1:(!A.isEmpty)=true:=by cases A <;> simp_all
     obtain⟨gg,o,_,EE,hg,cF,bL,m0,m1,m2⟩:=HR.a.at (lx hA);rw[h.a.len] at m0;simp only at EE cF bL m0;subst EE;have Bn:IntKind.i64.wrap ((an:Int) - 1)=((an - 1:Nat):Int):=by rw[qi _ (by omega)];omega
     obtain⟨am,EF⟩:=zx (an - 1);rw[← EF] at Bn m0;have BL:am < an:=by omega
     rw[e1];generalize(gj A).s=y at*;unfold maxLen at bL;clear h HR K0 hN hA e1 jN EF m1 m2;go_enter func70,ntmps70;go_wp2_with fail
     go_ret2
     exact⟨rfl,HB.out⟩
 . have lR:0 < nn:=by have:=h.n.len;have:=List.length_pos_iff.2 hN;simp only at *;omega
   have e0:decide (0 < (nn:Int))=true:=by simp;omega
   have e1:(!(N++A).isEmpty)=true:=by cases N <;> simp_all
   obtain⟨gg,o,_,EE,hg,cF,bL,m0,m1,m2⟩:=HR.n.at (lx hN);rw[h.n.len] at m0;simp only at EE cF bL m0;subst EE;have Bn:IntKind.i64.wrap ((nn:Int) - 1)=((nn - 1:Nat):Int):=by rw[qi _ (by omega)];omega
   obtain⟨am,EF⟩:=zx (nn - 1);rw[← EF] at Bn m0;have BL:am < nn:=by omega
   rw[e1,if_neg hN];generalize(gj N).s=y at*;unfold maxLen at bL;clear h HR K0 hN e1 j2 EF m1 m2;go_enter func70,ntmps70;go_wp2_with fail
   go_ret2
   exact⟨rfl,HB.out⟩
structure R2(w W:zw)(P:Nat->Prop)(p q mo t:Nat)(n a g:Sl)(N A G:List KE):Prop where
 box:RB W p mo t n a g
 rows:Rw W P n a g N A G
 res:RB W q 0 0 ⟨none,0,0⟩ ⟨none,0,0⟩ ⟨none,0,0⟩
 az:Below w.heap.size w W
 low:w.heap.size<=p/\w.heap.size<=q
 ne:p≠q
 np:¬P p/\¬P q
 cl:Cl W P
end
def wi(P:Nat->Prop)(p q:Nat):Nat->Prop:=λk=>P k/\k≠p/\k≠q
section
variable{w W W':zw}{P:Nat->Prop}{p q mo t:Nat}{n a g n':Sl}{N A G N':List KE}
theorem ff(h:Rw w P n a g N A G)(hP:Cl w P)(mo t:Nat):R2 w ((w.alloc (aM mo t n a g)).alloc cK) (wi P w.heap.size (w.heap.size+1)) w.heap.size (w.heap.size+1) mo t n a g N A G:=by
 have s1:(w.alloc (aM mo t n a g)).heap.size=w.heap.size+1:=by simp
 have b1:=(zo w.heap.size w).alloc (zg _) (aM mo t n a g);have b2:=b1.alloc (by rw[s1];omega) cK;have q2:=heap_alloc_new (w.alloc (aM mo t n a g)) cK;rw[s1] at q2;refine⟨(qf _ _ _ (by rw[s1];omega)).trans (heap_alloc_new _ _),⟨(h.n.wide ?_).below b2,(h.a.wide ?_).below b2,(h.g.wide ?_).below b2⟩,q2,b2,⟨zg _,by omega⟩,by omega,⟨λh=>h.2.1 rfl,λh=>h.2.2 rfl⟩,λk hk=>?_⟩
 . exact λk hk hl=>⟨hk,by omega,by omega⟩
 . exact λk hk hl=>⟨hk,by omega,by omega⟩
 . exact λk hk hl=>⟨hk,by omega,by omega⟩
 . have:w.heap.size+1+1<=k:=by simpa using hk
   exact⟨hP k (by omega),by omega,by omega⟩
theorem R2.below(r:R2 w W P p q mo t n a g N A G)(hb:Below W.heap.size W W'):R2 w W' P p q mo t n a g N A G:=
 ⟨r.box.below hb,r.rows.below hb,r.res.below hb,r.az.trans (hb.mono r.az.size),r.low,r.ne,r.np,r.cl.below hb⟩
theorem eQ(W:zw)(x:Addr)(u:Value):(W.setCell x u).heap.size=W.heap.size:=by simp[World.setCell]
theorem R2.nG{x:Addr}(r:R2 w W P p q mo t n a g N A G)(u:Value):Cl (W.setCell x u) P:=λk hk=>r.cl k (by rw[eQ] at hk;exact hk)
theorem R2.j1(r:R2 w W P p q mo t n a g N A G)(h:KW W P n' N'):R2 w (W.setCell ⟨p,2,none⟩ (.slice n'.A n'.n n'.c)) P p q mo t n' a g N' A G:=
 ⟨r.box.j1 n',⟨h.set r.np.1 _,r.rows.a.set r.np.1 _,r.rows.g.set r.np.1 _⟩,r.res.other (qa r.ne) _,r.az.setCell (p:=⟨p,2,none⟩) r.low.1 _,r.low,r.ne,r.np,r.nG _⟩
theorem R2.jk(r:R2 w W P p q mo t n a g N A G)(h:KW W P n' N'):R2 w (W.setCell ⟨p,3,none⟩ (.slice n'.A n'.n n'.c)) P p q mo t n n' g N N' G:=
 ⟨r.box.jk n',⟨r.rows.n.set r.np.1 _,h.set r.np.1 _,r.rows.g.set r.np.1 _⟩,r.res.other (qa r.ne) _,r.az.setCell (p:=⟨p,3,none⟩) r.low.1 _,r.low,r.ne,r.np,r.nG _⟩
theorem R2.iI(r:R2 w W P p q mo t n a g N A G)(h:KW W P n' N'):R2 w (W.setCell ⟨p,4,none⟩ (.slice n'.A n'.n n'.c)) P p q mo t n a n' N A N':=
 ⟨r.box.iI n',⟨r.rows.n.set r.np.1 _,r.rows.a.set r.np.1 _,h.set r.np.1 _⟩,r.res.other (qa r.ne) _,r.az.setCell (p:=⟨p,4,none⟩) r.low.1 _,r.low,r.ne,r.np,r.nG _⟩
theorem R2.kB(r:R2 w W P p q mo t n a g N A G)(u:Nat):R2 w (W.setCell ⟨p,1,none⟩ (.int .i64 (u:Int))) P p q mo u n a g N A G:=
 ⟨r.box.kB u,r.rows.set r.np.1 _,r.res.other (qa r.ne) _,r.az.setCell (p:=⟨p,1,none⟩) r.low.1 _,r.low,r.ne,r.np,r.nG _⟩
theorem R2.eV(r:R2 w W P p q mo t n a g N A G)(u:Nat):R2 w (W.setCell ⟨p,0,none⟩ (.int .i64 (u:Int))) P p q u t n a g N A G:=
 ⟨r.box.eV u,r.rows.set r.np.1 _,r.res.other (qa r.ne) _,r.az.setCell (p:=⟨p,0,none⟩) r.low.1 _,r.low,r.ne,r.np,r.nG _⟩
theorem R2.dj{mo' t':Nat}{a' g':Sl}{A' G':List KE}(r:R2 w W P p q mo t n a g N A G)(h:Rw W P n' a' g' N' A' G'):R2 w (cR W p mo' t' n' a' g') P p q mo' t' n' a' g' N' A' G':=by
 have r1:R2 w (W.setCell ⟨p,0,none⟩ (.int .i64 (mo':Int))) P p q mo' t n' a' g' N' A' G'->True:=λ_=>trivial;have s:=((((h.set (q:=⟨p,0,none⟩) r.np.1 (.int .i64 (mo':Int))).set (q:=⟨p,1,none⟩) r.np.1 (.int .i64 (t':Int))).set (q:=⟨p,2,none⟩) r.np.1 (.slice n'.A n'.n n'.c)).set (q:=⟨p,3,none⟩) r.np.1 (.slice a'.A a'.n a'.c)).set (q:=⟨p,4,none⟩) r.np.1 (.slice g'.A g'.n g'.c);have al:=qa r.ne
 refine⟨r.box.put,s,((((r.res.other (q:=⟨p,0,none⟩) al _).other (q:=⟨p,1,none⟩) al _).other (q:=⟨p,2,none⟩) al _).other (q:=⟨p,3,none⟩) al _).other (q:=⟨p,4,none⟩) al _,
  ((((r.az.setCell (p:=⟨p,0,none⟩) r.low.1 _).setCell (p:=⟨p,1,none⟩) r.low.1 _).setCell (p:=⟨p,2,none⟩) r.low.1 _).setCell (p:=⟨p,3,none⟩) r.low.1 _).setCell (p:=⟨p,4,none⟩) r.low.1 _,r.low,r.ne,r.np,λk hk=>r.cl k (by simpa[cR,eQ] using hk)⟩
theorem R2.out{mo' t':Nat}{a' g':Sl}{A' G':List KE}{P0:Nat->Prop}(r:R2 w W (wi P0 p q) p q mo t n a g N A G)(h:Rw W (wi P0 p q) n' a' g' N' A' G'):
 RB (cR W q mo' t' n' a' g') q mo' t' n' a' g'/\Rw (cR W q mo' t' n' a' g') P0 n' a' g' N' A' G'/\Below w.heap.size w (cR W q mo' t' n' a' g'):=by
 have s:=((((h.set (q:=⟨q,0,none⟩) r.np.2 (.int .i64 (mo':Int))).set (q:=⟨q,1,none⟩) r.np.2 (.int .i64 (t':Int))).set (q:=⟨q,2,none⟩) r.np.2 (.slice n'.A n'.n n'.c)).set (q:=⟨q,3,none⟩) r.np.2 (.slice a'.A a'.n a'.c)).set (q:=⟨q,4,none⟩) r.np.2 (.slice g'.A g'.n g'.c);exact⟨r.res.put,s.wide λk hk _=>hk.1,((((r.az.setCell (p:=⟨q,0,none⟩) r.low.2 _).setCell (p:=⟨q,1,none⟩) r.low.2 _).setCell (p:=⟨q,2,none⟩) r.low.2 _).setCell (p:=⟨q,3,none⟩) r.low.2 _).setCell (p:=⟨q,4,none⟩) r.low.2 _⟩
theorem R2.gp(r:R2 w W P p q mo t n a g N A G):(W.cell? ⟨q,0,none⟩=some (.int .i64 0)/\W.cell? ⟨q,1,none⟩=some (.int .i64 0)/\W.cell? ⟨q,2,none⟩=some (.slice none 0 0)/\W.cell? ⟨q,3,none⟩=some (.slice none 0 0)/\W.cell? ⟨q,4,none⟩=some (.slice none 0 0))/\
 W.frozen? ⟨q,0,none⟩=false/\W.frozen? ⟨q,1,none⟩=false/\W.frozen? ⟨q,2,none⟩=false/\W.frozen? ⟨q,3,none⟩=false/\W.frozen? ⟨q,4,none⟩=false:=⟨r.res.c,r.res.f⟩
end
section
variable(w:zw)(P:Nat->Prop)(mo t:Nat)(n a g:Sl)(N A G:List KE)(h:Rw w P n a g N A G)(hP:Cl w P)
include h hP
theorem ry(Vq:mo<=9223372036854775807):Calls prog 103 #[aU mo t n a g] w (CT w P id mo t N A (G.take mo)):=by
 have R0:=J (ff h hP mo t);have iY:=h.g.len;have Rr:=h.g.le;clear h hP
 by_cases hc:mo < g.n
 . have e0:decide (mo < g.n)=true:=by simpa using hc
   obtain⟨g',I9,s1,s2,dB⟩:=sh R0.out.rows.g (p:=mo) (by omega);have HG:=J dB;clear dB iY I9;go_enter func103,ntmps103;go_upto_region 1 with fail
   generalize(w.alloc (aM mo t n a g)).alloc cK=W at R0 HG|-;generalize w.heap.size+1=q at R0 HG|-;obtain⟨p,hp⟩:=zx w.heap.size;rw[← hp] at R0 HG|-;clear hp;obtain⟨c0,c1,c2,c3,c4⟩:=R0.out.box.c;obtain⟨f0,f1,f2,f3,f4⟩:=R0.out.box.f;have R1:=J (R0.out.iI HG.out);clear R0;go_upto_region 3 with fail
   generalize W.setCell ⟨p,4,none⟩ (.slice g'.A g'.n g'.c)=W1 at R1|-;clear c0 c1 c2 c3 c4 f0 f1 f2 f3 f4;obtain⟨c0,c1,c2,c3,c4⟩:=R1.out.box.c;obtain⟨⟨k0,k1,k2,k3,k4⟩,f0,f1,f2,f3,f4⟩:=R1.out.gp;have F:=J (R1.out.out (mo':=mo) (t':=t) R1.out.rows);go_wp2_with fail
   refine bodyPost_ret (aV rfl _ _ _ ⟨q,0,none⟩ _ rfl (bf F.out.1)) rfl ?_;exact⟨n,a,g',rfl,F.out.2.1,F.out.2.2⟩
 . have e0:decide (mo < g.n)=false:=by simpa using hc
   have hG:G.take mo=G:=qk (by omega);rw[hG];clear hG iY;go_enter func103,ntmps103;go_upto_region 1 with fail
   generalize(w.alloc (aM mo t n a g)).alloc cK=W at R0|-;generalize w.heap.size+1=q at R0|-;obtain⟨p,hp⟩:=zx w.heap.size;rw[← hp] at R0|-;clear hp;obtain⟨c0,c1,c2,c3,c4⟩:=R0.out.box.c;obtain⟨⟨k0,k1,k2,k3,k4⟩,f0,f1,f2,f3,f4⟩:=R0.out.gp;have F:=J (R0.out.out (mo':=mo) (t':=t) R0.out.rows);go_wp2_with fail
   refine bodyPost_ret (aV rfl _ _ _ ⟨q,0,none⟩ _ rfl (bf F.out.1)) rfl ?_;exact⟨n,a,g,rfl,F.out.2.1,F.out.2.2⟩
end
end SR
namespace SR
open Go.RowKit Sg
def ex(P:Nat->Prop)(x:Nat):Nat->Prop:=λk=>P k/\k≠x
section
variable{w W W':zw}{P P' P0:Nat->Prop}{p q x mo t:Nat}{n a g n' a' g':Sl}{N A G N' A' G':List KE}{e:KE}
theorem R2.alloc(r:R2 w W P p q mo t n a g N A G)(o:Obj):R2 w (W.alloc o) (ex P W.heap.size) p q mo t n a g N A G:=by
 have hb:=(zo W.heap.size W).alloc (zg _) o;refine⟨r.box.below hb,(r.rows.wide λk hk hl=>⟨hk,by omega⟩).below hb,r.res.below hb,r.az.trans (hb.mono r.az.size),r.low,r.ne,⟨λh=>r.np.1 h.1,λh=>r.np.2 h.1⟩,λk hk=>?_⟩;have:W.heap.size+1<=k:=by simpa using hk
 exact⟨r.cl k (by omega),by omega⟩
theorem R2.pO{mo' t':Nat}(r:R2 w W P p q mo t n a g N A G)(hp:∀k,P k->P0 k)(h:Rw W P n' a' g' N' A' G'):
 RB (cR W q mo' t' n' a' g') q mo' t' n' a' g'/\Rw (cR W q mo' t' n' a' g') P0 n' a' g' N' A' G'/\Below w.heap.size w (cR W q mo' t' n' a' g'):=by
 have s:=((((h.set (q:=⟨q,0,none⟩) r.np.2 (.int .i64 (mo':Int))).set (q:=⟨q,1,none⟩) r.np.2 (.int .i64 (t':Int))).set (q:=⟨q,2,none⟩) r.np.2 (.slice n'.A n'.n n'.c)).set (q:=⟨q,3,none⟩) r.np.2 (.slice a'.A a'.n a'.c)).set (q:=⟨q,4,none⟩) r.np.2 (.slice g'.A g'.n g'.c);exact⟨r.res.put,s.wide λk hk _=>hp k hk,((((r.az.setCell (p:=⟨q,0,none⟩) r.low.2 _).setCell (p:=⟨q,1,none⟩) r.low.2 _).setCell (p:=⟨q,2,none⟩) r.low.2 _).setCell (p:=⟨q,3,none⟩) r.low.2 _).setCell (p:=⟨q,4,none⟩) r.low.2 _⟩
theorem bQ.below(k:bQ W x e)(hb:Below W.heap.size W W'):bQ W' x e:=(hb.block x k.lt).trans k
theorem bQ.other(k:bQ W x e){z:Addr}(hz:x≠z.block)(u:Value):bQ (W.setCell z u) x e:=(qc _ _ _ _ hz).trans k
abbrev gr(w:zw)(p:Nat)(e:KE):zw:=((w.setCell ⟨p,0,none⟩ (.string e.s)).setCell ⟨p,1,none⟩ (.bool e.o)).setCell ⟨p,2,none⟩ (.bool e.d)
theorem RB.gr(k:RB W p mo t n a g)(h:p≠x)(e:KE):RB (gr W x e) p mo t n a g:=((k.other (q:=⟨x,0,none⟩) h _).other (q:=⟨x,1,none⟩) h _).other (q:=⟨x,2,none⟩) h _
theorem bQ.cR(k:bQ W x e)(h:x≠p)(mo t:Nat)(n a g:Sl):bQ (cR W p mo t n a g) x e:=((((k.other (z:=⟨p,0,none⟩) h _).other (z:=⟨p,1,none⟩) h _).other (z:=⟨p,2,none⟩) h _).other (z:=⟨p,3,none⟩) h _).other (z:=⟨p,4,none⟩) h _
end
theorem aj(w:zw):Below w.heap.size w w.drew:=⟨rfl,rfl,rfl,zg _,λ_ _=>rfl⟩
theorem Rw.gr{w:zw}{P:Nat->Prop}{n a g:Sl}{N A G:List KE}{x:Nat}(h:Rw w P n a g N A G)(hx:¬P x)(e:KE):Rw (Go.Proofs.YtgjdjgnfpendgaaGreatDoor.SR.gr w x e) P n a g N A G:=
 ((h.set (q:=⟨x,0,none⟩) hx (.string e.s)).set (q:=⟨x,1,none⟩) hx (.bool e.o)).set (q:=⟨x,2,none⟩) hx (.bool e.d)
theorem C6{w W:zw}{x:Nat}(b:Below w.heap.size w W)(hl:w.heap.size<=x)(e:KE):Below w.heap.size w (gr W x e):=
 ((b.setCell (p:=⟨x,0,none⟩) hl (.string e.s)).setCell (p:=⟨x,1,none⟩) hl (.bool e.o)).setCell (p:=⟨x,2,none⟩) hl (.bool e.d)
theorem bQ.gr{w:zw}{x:Nat}{e0:KE}(k:bQ w x e0)(e:KE):bQ (Go.Proofs.YtgjdjgnfpendgaaGreatDoor.SR.gr w x e) x e:=k.put e
theorem R2.M8{w W:zw}{P P0:Nat->Prop}{p q x mo t:Nat}{n a g:Sl}{N A G:List KE}{e0 e:KE}(r:R2 w W P p q mo t n a g N A G)(hp:∀k,P k->P0 k)(k:bQ W x e0)(hx:¬P x)(Ru:x≠q)(hl:w.heap.size<=x):
 RB (gr (cR W q mo t n a g) x e).drew q mo t n a g/\bQ (gr (cR W q mo t n a g) x e).drew x e/\Rw (gr (cR W q mo t n a g) x e).drew P0 n a g N A G/\Below w.heap.size w (gr (cR W q mo t n a g) x e).drew:=by
 have o:=r.pO (mo':=mo) (t':=t) (P0:=P) (λ_ h=>h) r.rows;have k1:=k.cR Ru mo t n a g;generalize cR W q mo t n a g=V at o k1|-;have s:=o.2.1.gr hx e;have b:=C6 o.2.2 hl e;have o1:=o.1.gr (qa Ru) e;have k2:=k1.gr e;generalize gr V x e=U at s b o1 k2|-;exact⟨o1.below (aj _),k2.below (aj _),(s.wide λk hk _=>hp k hk).drew,b.trans ((aj U).mono b.size)⟩
abbrev fu:Obj:= .cells #[.string ⟨#[]⟩,.bool false,.bool false] 168
abbrev bE(e:KE):Obj:= .cells #[.string e.s,.bool e.o,.bool e.d] 168
section
variable(w:zw)(P:Nat->Prop)(mo t:Nat)(n a g:Sl)(N A G:List KE)(h:Rw w P n a g N A G)(hP:Cl w P)
include h hP
theorem PG(hN:N≠ []):Calls prog 102 #[aU mo t n a g] w (CT w P (λv=> .tuple #[v,(gj N).v]) mo t N.dropLast A G):=by
 have R0:=J ((ff h hP mo t).alloc fu);have KX:=zs (bQ (((w.alloc (aM mo t n a g)).alloc cK).alloc fu) ((w.alloc (aM mo t n a g)).alloc cK).heap.size ⟨⟨#[]⟩,false,false⟩) (heap_alloc_new _ _);have hx:((w.alloc (aM mo t n a g)).alloc cK).heap.size=w.heap.size+1+1:=by simp
 rw[hx] at R0 KX;have hlen:=h.n.len;have Jd:=List.length_pos_iff.2 hN;have hle:=h.n.le;obtain⟨m,hm⟩:=zx (n.n - 1);have e0:decide (0 < n.n)=true:=by simp;omega
 have Je:decide (0 < (n.n:Int))=true:=by simp;omega
 have cA:IntKind.i64.wrap ((n.n:Int) - 1)=(m:Int):=by rw[qi _ (by omega)];omega
 have wM:m < n.n:=by omega
 have ju:=lx hN;rw[show N.length - 1=m by omega] at ju;obtain⟨gb,o,_,hA,hg,cF,bL,m0,m1,m2⟩:=R0.out.rows.n.at ju;obtain⟨n',lQ,s1,s2,k7⟩:=sh R0.out.rows.n (p:=m) (by omega);rw[show N.take m=N.dropLast by rw[List.dropLast_eq_take,show N.length - 1=m by omega]] at k7;have HN:=J k7;generalize gj N=e at*;unfold maxLen at bL;clear h hP hN hx hlen Jd hle hm ju lQ k7;obtain⟨nA,nn,nc⟩:=n;simp only at hA cF s1 s2 wM e0 Je cA;subst hA;go_enter func102,ntmps102;go_upto_region 1 with fail
 generalize((w.alloc (aM mo t ⟨some ⟨gb,o,none⟩,nn,nc⟩ a g)).alloc cK).alloc fu=W at R0 KX m0 m1 m2 hg HN|-;have oU:=zs (w.heap.size < w.heap.size+1+1/\w.heap.size+1 < w.heap.size+1+1) (⟨by omega,by omega⟩);generalize w.heap.size+1+1=x at R0 KX oU HN|-;generalize w.heap.size+1=q at R0 oU HN|-;obtain⟨p,hp⟩:=zx w.heap.size;have M9:=zs (w.heap.size<=x) (by have:=oU.out.1;omega);rw[← hp] at R0 oU HN|-;clear hp;obtain⟨c0,c1,c2,c3,c4⟩:=R0.out.box.c;go_upto_region 3 with fail
 have R1:=J (R0.out.alloc (bE e));have KY:=zs (bQ (W.alloc (bE e)) W.heap.size e) (heap_alloc_new _ _);have zN:=J (KX.out.below ((zo W.heap.size W).alloc (zg _) (bE e)))
 have NX:=J (show x≠p/\x≠q/\W.heap.size≠x/\W.heap.size≠p/\W.heap.size≠q from by
  have:=KX.out.lt;have:=R0.out.box.lt;have:=R0.out.res.lt;refine⟨λh=>?_,λh=>?_,by omega,by omega,by omega⟩
  . have:=oU.out.1;omega
  . have:=oU.out.2;omega)
 have uQ:=zs (KW (W.alloc (bE e)) (ex (ex (wi P p q) x) W.heap.size) n' N.dropLast) ((HN.out.wide λk hk hl=>⟨hk,by omega⟩).below ((zo W.heap.size W).alloc (zg _) (bE e)));clear c0 c1 c2 c3 c4 m0 m1 m2 hg R0 KX HN;generalize W.alloc (bE e)=W1 at R1 KY zN uQ|-;generalize W.heap.size=y at R1 KY NX uQ|-;obtain⟨c0,c1,c2,c3,c4⟩:=R1.out.box.c;obtain⟨_,_,f2,_,_⟩:=R1.out.box.f;have jr:=J (R1.out.j1 uQ.out);have EG:=J (KY.out.other (z:=⟨p,2,none⟩) NX.out.2.2.2.1 (.slice n'.A n'.n n'.c));have uR:=J (zN.out.other (z:=⟨p,2,none⟩) NX.out.1 (.slice n'.A n'.n n'.c));clear R1 KY zN uQ;go_upto_region 4 with fail
 generalize W1.setCell ⟨p,2,none⟩ (.slice n'.A n'.n n'.c)=W2 at jr EG uR|-;clear c0 c1 c2 c3 c4 f2;obtain⟨c0,c1,c2,c3,c4⟩:=jr.out.box.c;obtain⟨y0,y1,y2⟩:=EG.out.c;obtain⟨⟨k0,k1,k2,k3,k4⟩,f0,f1,f2,f3,f4⟩:=jr.out.gp;obtain⟨x0,x1,x2⟩:=uR.out.c;obtain⟨g0,g1,g2⟩:=uR.out.f;have ik:q≠x:=qa NX.out.2.1;have du:x≠q:=NX.out.2.1;have wN:y≠q:=NX.out.2.2.2.2;have M':q≠y:=qa NX.out.2.2.2.2;have Vr:y≠x:=NX.out.2.2.1;have Vs:x≠y:=qa NX.out.2.2.1;have dg:p≠q:=jr.out.ne;have gD:q≠p:=qa jr.out.ne;have cW:p≠x:=qa NX.out.1;have bl:x≠p:=NX.out.1;go_region;have F:=J (jr.out.M8 (e:=e) (P0:=P) (λk hk=>hk.1.1.1) uR.out (λh=>h.1.2 rfl) NX.out.2.1 M9.out);go_wp2_with fail
 refine bodyPost_ret (aP rfl _ _ _ ⟨q,0,none⟩ ⟨x,0,none⟩ _ _ rfl (bf F.out.1) rfl (uO F.out.2.1)) rfl ?_;exact⟨_,_,_,rfl,F.out.2.2.1,F.out.2.2.2⟩
theorem PH(Rx:N= [])(hN:A≠ []):Calls prog 102 #[aU mo t n a g] w (CT w P (λv=> .tuple #[v,(gj A).v]) mo t N A.dropLast G):=by
 have R0:=J ((ff h hP mo t).alloc fu);have KX:=zs (bQ (((w.alloc (aM mo t n a g)).alloc cK).alloc fu) ((w.alloc (aM mo t n a g)).alloc cK).heap.size ⟨⟨#[]⟩,false,false⟩) (heap_alloc_new _ _);have hx:((w.alloc (aM mo t n a g)).alloc cK).heap.size=w.heap.size+1+1:=by simp
 rw[hx] at R0 KX;have hlen:=h.a.len;have lR:n.n=0:=by have:=h.n.len;rw[Rx] at this;exact this.symm
 have e9:decide (0 < n.n)=false:=by rw[lR];rfl
 have Xb:decide (0 < (n.n:Int))=false:=by rw[lR];rfl
 have Jd:=List.length_pos_iff.2 hN;have hle:=h.a.le;obtain⟨m,hm⟩:=zx (a.n - 1);have e0:decide (0 < a.n)=true:=by simp;omega
 have Je:decide (0 < (a.n:Int))=true:=by simp;omega
 have cA:IntKind.i64.wrap ((a.n:Int) - 1)=(m:Int):=by rw[qi _ (by omega)];omega
 have wM:m < a.n:=by omega
 have ju:=lx hN;rw[show A.length - 1=m by omega] at ju;obtain⟨gb,o,_,hA,hg,cF,bL,m0,m1,m2⟩:=R0.out.rows.a.at ju;obtain⟨n',lQ,s1,s2,k7⟩:=sh R0.out.rows.a (p:=m) (by omega);rw[show A.take m=A.dropLast by rw[List.dropLast_eq_take,show A.length - 1=m by omega]] at k7;have HN:=J k7;generalize gj A=e at*;unfold maxLen at bL;clear h hP hN hx hlen Rx lR Jd hle hm ju lQ k7;obtain⟨nA,nn,nc⟩:=a;simp only at hA cF s1 s2 wM e0 Je cA;subst hA;go_enter func102,ntmps102;go_upto_region 1 with fail
 generalize((w.alloc (aM mo t n ⟨some ⟨gb,o,none⟩,nn,nc⟩ g)).alloc cK).alloc fu=W at R0 KX m0 m1 m2 hg HN|-;have oU:=zs (w.heap.size < w.heap.size+1+1/\w.heap.size+1 < w.heap.size+1+1) (⟨by omega,by omega⟩);generalize w.heap.size+1+1=x at R0 KX oU HN|-;generalize w.heap.size+1=q at R0 oU HN|-;obtain⟨p,hp⟩:=zx w.heap.size;have M9:=zs (w.heap.size<=x) (by have:=oU.out.1;omega);rw[← hp] at R0 oU HN|-;clear hp;obtain⟨c0,c1,c2,c3,c4⟩:=R0.out.box.c;go_upto_region 6 with fail
 have R1:=J (R0.out.alloc (bE e));have KY:=zs (bQ (W.alloc (bE e)) W.heap.size e) (heap_alloc_new _ _);have zN:=J (KX.out.below ((zo W.heap.size W).alloc (zg _) (bE e)))
 have NX:=J (show x≠p/\x≠q/\W.heap.size≠x/\W.heap.size≠p/\W.heap.size≠q from by
  have:=KX.out.lt;have:=R0.out.box.lt;have:=R0.out.res.lt;refine⟨λh=>?_,λh=>?_,by omega,by omega,by omega⟩
  . have:=oU.out.1;omega
  . have:=oU.out.2;omega)
 have uQ:=zs (KW (W.alloc (bE e)) (ex (ex (wi P p q) x) W.heap.size) n' A.dropLast) ((HN.out.wide λk hk hl=>⟨hk,by omega⟩).below ((zo W.heap.size W).alloc (zg _) (bE e)));clear c0 c1 c2 c3 c4 m0 m1 m2 hg R0 KX HN;generalize W.alloc (bE e)=W1 at R1 KY zN uQ|-;generalize W.heap.size=y at R1 KY NX uQ|-;obtain⟨c0,c1,c2,c3,c4⟩:=R1.out.box.c;obtain⟨_,_,_,f2,_⟩:=R1.out.box.f;have jr:=J (R1.out.jk uQ.out);have EG:=J (KY.out.other (z:=⟨p,3,none⟩) NX.out.2.2.2.1 (.slice n'.A n'.n n'.c));have uR:=J (zN.out.other (z:=⟨p,3,none⟩) NX.out.1 (.slice n'.A n'.n n'.c));clear R1 KY zN uQ;go_upto_region 7 with fail
 generalize W1.setCell ⟨p,3,none⟩ (.slice n'.A n'.n n'.c)=W2 at jr EG uR|-;clear c0 c1 c2 c3 c4 f2;obtain⟨c0,c1,c2,c3,c4⟩:=jr.out.box.c;obtain⟨y0,y1,y2⟩:=EG.out.c;obtain⟨⟨k0,k1,k2,k3,k4⟩,f0,f1,f2,f3,f4⟩:=jr.out.gp;obtain⟨x0,x1,x2⟩:=uR.out.c;obtain⟨g0,g1,g2⟩:=uR.out.f;have ik:q≠x:=qa NX.out.2.1;have du:x≠q:=NX.out.2.1;have wN:y≠q:=NX.out.2.2.2.2;have M':q≠y:=qa NX.out.2.2.2.2;have Vr:y≠x:=NX.out.2.2.1;have Vs:x≠y:=qa NX.out.2.2.1;have dg:p≠q:=jr.out.ne;have gD:q≠p:=qa jr.out.ne;have cW:p≠x:=qa NX.out.1;have bl:x≠p:=NX.out.1;go_region;have F:=J (jr.out.M8 (e:=e) (P0:=P) (λk hk=>hk.1.1.1) uR.out (λh=>h.1.2 rfl) NX.out.2.1 M9.out);go_wp2_with fail
 refine bodyPost_ret (aP rfl _ _ _ ⟨q,0,none⟩ ⟨x,0,none⟩ _ _ rfl (bf F.out.1) rfl (uO F.out.2.1)) rfl ?_;exact⟨_,_,_,rfl,F.out.2.2.1,F.out.2.2.2⟩
end
end SR
namespace SR
open Go.RowKit Sg
def vK(N A:List KE):KE:=if N= [] then gj A else gj N
theorem wO{L:List KE}(h:L≠ []):gj L∈L:=List.mem_of_getElem? (lx h)
theorem zO{w:zw}{P:Nat->Prop}{n a:Sl}{N A:List KE}(hn:KW w P n N)(ha:KW w P a A)(al:N++A≠ []):(vK N A).s.size<=maxLen:=by
 unfold vK;split
 . rename_i h;exact ha.small _ (wO (by rw[h] at al;exact al))
 . rename_i h;exact hn.small _ (wO h)
def iJ(N:List KE):List KE:=N.dropLast
def jc(N A:List KE):List KE:=if N= [] then A.dropLast else A
theorem bg{fn:Func}{a u x:Tmp}{ty:TypeId}(h:fn.results= #[.cell a ty,.tmp u,.tmp x])(tmps:Array Value)(P:Program)(w:zw)(p:Addr)(v:Value)(ha:tmps.getD a undef= .pointer (some p))(hv:(loadVar ty p).run P w= .ok v w):
 (results fn tmps).run P w= .ok (.tuple #[v,tmps.getD u undef,tmps.getD x undef]) w:=by
 rw[qt] at ha;simp[results,h,ha,asAddr,hv]
section
variable{w W w2:zw}{P:Nat->Prop}{p q mo t:Nat}{n a g n2 a2 g2:Sl}{N A G N2 A2 G2:List KE}
theorem R2.other{x:Nat}(r:R2 w W P p q mo t n a g N A G)(hx:¬P x)(hp:x≠p)(hq:x≠q)(hl:w.heap.size<=x)(j:Nat)(u:Value):R2 w (W.setCell ⟨x,j,none⟩ u) P p q mo t n a g N A G:=
 ⟨r.box.other (qa hp) _,r.rows.set hx _,r.res.other (qa hq) _,r.az.setCell (p:=⟨x,j,none⟩) hl _,r.low,r.ne,r.np,r.nG _⟩
theorem R2.Na(r:R2 w W P p q mo t n a g N A G)(b:Below W.heap.size W w2)(h:Rw w2 P n2 a2 g2 N2 A2 G2)(e:KE):
 R2 w (gr (cR (w2.alloc fu) p mo t n2 a2 g2) w2.heap.size e) (ex P w2.heap.size) p q mo t n2 a2 g2 N2 A2 G2/\bQ (gr (cR (w2.alloc fu) p mo t n2 a2 g2) w2.heap.size e) w2.heap.size e/\w2.heap.size≠p/\w2.heap.size≠q/\w.heap.size<=w2.heap.size:=by
 have r0:=r.below b;have hp:=r0.box.lt;have hq:=r0.res.lt;have hl:=r0.az.size;have al:¬ex P w2.heap.size w2.heap.size:=λh=>h.2 rfl;have r1:=r0.alloc fu;have h1:Rw (w2.alloc fu) (ex P w2.heap.size) n2 a2 g2 N2 A2 G2:=(h.wide λk hk hl=>⟨hk,by omega⟩).below ((zo w2.heap.size w2).alloc (zg _) fu);have r2:=r1.dj (mo':=mo) (t':=t) h1;have k0:bQ (w2.alloc fu) w2.heap.size ⟨⟨#[]⟩,false,false⟩:=heap_alloc_new _ _;have k1:=k0.cR (p:=p) (by omega) mo t n2 a2 g2;generalize cR (w2.alloc fu) p mo t n2 a2 g2=V at r2 k1|-;have r3:=((r2.other al (by omega) (by omega) hl 0 (.string e.s)).other al (by omega) (by omega) hl 1 (.bool e.o)).other al (by omega) (by omega) hl 2 (.bool e.d);exact⟨r3,k1.gr e,by omega,by omega,hl⟩
end
theorem bQ.pP{w:zw}{x:Nat}{e:KE}(k:bQ w x e)(b:Bool):bQ (w.setCell ⟨x,2,none⟩ (.bool b)) x ⟨e.s,e.o,b⟩:=by
 unfold bQ at*;rw[heap_setCell_same _ _ _ _ _ _ k];rfl
section
variable(w:zw)(P:Nat->Prop)(mo t:Nat)(n a g:Sl)(N A G:List KE)(h:Rw w P n a g N A G)(hP:Cl w P)
include h hP
theorem Jf(al:N++A≠ []):Calls prog 102 #[aU mo t n a g] w (CT w P (λv=> .tuple #[v,(vK N A).v]) mo t (iJ N) (jc N A) G):=by
 unfold vK iJ jc
 by_cases hN:N= []
 . rw[if_pos hN,if_pos hN];have:=PH w P mo t n a g N A G h hP hN (by rw[hN] at al;exact al);rw[hN] at this|-;exact this
 . rw[if_neg hN,if_neg hN];exact PG w P mo t n a g N A G h hP hN
theorem EH(al:N++A= []):Calls prog 64 #[aU mo t n a g] w (CT w P (λv=> .tuple #[v,.string ⟨#[]⟩,.bool false]) mo t N A G):=by
 have R0:=J (ff h hP mo t);have Nb:=h.n.len;have Nc:=h.a.len;rw[(List.append_eq_nil_iff.1 al).1] at Nb;rw[(List.append_eq_nil_iff.1 al).2] at Nc;have hn:n.n=0:=Nb.symm;have ha:a.n=0:=Nc.symm;have cA:IntKind.i64.wrap ((n.n:Int)+(a.n:Int))=0:=by rw[hn,ha];rfl
 clear h hP al hn ha;clear Nb Nc;go_enter func64,ntmps64;go_upto_region 1 with fail
 generalize(w.alloc (aM mo t n a g)).alloc cK=W at R0|-;generalize w.heap.size+1=q at R0|-;obtain⟨p,hp⟩:=zx w.heap.size;have bR:=zs (w.heap.size<=p) (xf hp.symm);rw[← hp] at R0|-;clear hp;obtain⟨c0,c1,c2,c3,c4⟩:=R0.out.box.c;obtain⟨⟨k0,k1,k2,k3,k4⟩,f0,f1,f2,f3,f4⟩:=R0.out.gp;have F:=J (R0.out.out (mo':=mo) (t':=t) R0.out.rows);go_wp2_with fail
 (try simp only[Exit.inBlock,Exit.then]);refine bodyPost_ret (bg rfl _ _ _ ⟨q,0,none⟩ _ rfl (bf F.out.1)) rfl ?_;exact⟨n,a,g,rfl,F.out.2.1,F.out.2.2⟩
theorem jL(al:N++A≠ []):Calls prog 64 #[aU mo t n a g] w (CT w P (λv=> .tuple #[v,.string (vK N A).s,.bool true]) mo t (iJ N) (jc N A) G):=by
 have R0:=J (ff h hP mo t);have hn:=h.n.len;have ha:=h.a.len;have rh:=h.n.le;have Vt:=h.a.le;have hl:=List.length_pos_iff.2 al;rw[zh] at hl;obtain⟨m,hm⟩:=zx (n.n+a.n);have cA:IntKind.i64.wrap ((n.n:Int)+(a.n:Int))=(m:Int):=by rw[qi _ (by omega)];omega
 have e0:((m:Int)==0)=false:=by simp;omega
 have Je:(m==0)=false:=by simp;omega
 clear h hP hn ha rh Vt hl hm;go_enter func64,ntmps64;go_upto_region 1 with fail
 generalize(w.alloc (aM mo t n a g)).alloc cK=W at R0|-;generalize w.heap.size+1=q at R0|-;obtain⟨p,hp⟩:=zx w.heap.size;have bR:=zs (w.heap.size<=p) (xf hp.symm);rw[← hp] at R0|-;clear hp;obtain⟨c0,c1,c2,c3,c4⟩:=R0.out.box.c;have U:=J (Jf W (wi P p q) mo t n a g N A G R0.out.rows R0.out.cl al);go_wp2_with fail
 refine U.out.mono ?_;rintro e w2 ⟨n2,a2,g2,rfl,EI,B2⟩;have r1:=(R0.out.below B2).alloc fu;have T:=J (R0.out.Na B2 EI (vK N A));obtain⟨d0,d1,d2,d3,d4⟩:=r1.box.c;obtain⟨f0,f1,f2,f3,f4⟩:=r1.box.f;have kb:bQ (w2.alloc fu) w2.heap.size ⟨⟨#[]⟩,false,false⟩:=heap_alloc_new _ _;obtain⟨y0,y1,y2⟩:=kb.c;obtain⟨g0,g1,lV⟩:=kb.f;obtain⟨qI,wN,Jg⟩:=T.out.2.2;have Jh:p≠w2.heap.size:=qa qI;clear EI B2 r1 kb R0 U bR;clear c0 c1 c2 c3 c4;go_upto_region 4 with fail
 clear d0 d1 d2 d3 d4 f0 f1 f2 f3 f4 y0 y1 y2 g0 g1 lV;dsimp only[Go.Proofs.YtgjdjgnfpendgaaGreatDoor.SR.gr,Go.Proofs.YtgjdjgnfpendgaaGreatDoor.SR.cR] at T;generalize((((((((w2.alloc fu).setCell ⟨p,0,none⟩ (.int .i64 (mo:Int))).setCell ⟨p,1,none⟩ (.int .i64 (t:Int))).setCell ⟨p,2,none⟩ (.slice n2.A n2.n n2.c)).setCell ⟨p,3,none⟩ (.slice a2.A a2.n a2.c)).setCell ⟨p,4,none⟩ (.slice g2.A g2.n g2.c)).setCell ⟨w2.heap.size,0,none⟩ (.string (vK N A).s)).setCell ⟨w2.heap.size,1,none⟩ (.bool (vK N A).o)).setCell ⟨w2.heap.size,2,none⟩ (.bool (vK N A).d)=V at T|-;generalize w2.heap.size=y at T qI wN Jg Jh|-;obtain⟨c0,c1,c2,c3,c4⟩:=T.out.1.box.c;obtain⟨y0,_,_⟩:=T.out.2.1.c;obtain⟨⟨k0,k1,k2,k3,k4⟩,f0,f1,f2,f3,f4⟩:=T.out.1.gp;have M':q≠y:=qa wN;have dg:p≠q:=T.out.1.ne;have gD:q≠p:=qa dg;go_region;have F:=J (T.out.1.pO (mo':=mo) (t':=t) (P0:=P) (λk hk=>hk.1.1) T.out.1.rows);go_wp2_with fail
 (try simp only[Exit.inBlock,Exit.then]);refine bodyPost_ret (bg rfl _ _ _ ⟨q,0,none⟩ _ rfl (bf (F.out.1.below (aj _)))) rfl ?_;exact⟨n2,a2,g2,rfl,F.out.2.1.drew,F.out.2.2.trans ((aj _).mono F.out.2.2.size)⟩
theorem oV(al:N++A≠ [])(hm:mo<=9223372036854775807)(iY:G.length<=1800):Calls prog 95 #[aU mo t n a g] w (CT w P (λv=> .tuple #[v,.string (vK N A).s]) mo t (iJ N) (jc N A) (((⟨(vK N A).s,(vK N A).o,false⟩:KE)::G).take mo)):=by
 have R0:=J (ff h hP mo t);have HS:=zs ((vK N A).s.size<=maxLen) (zO h.n h.a al);clear h hP;go_enter func95,ntmps95;go_upto_region 1 with fail
 generalize(w.alloc (aM mo t n a g)).alloc cK=W at R0|-;generalize w.heap.size+1=q at R0|-;obtain⟨p,hp⟩:=zx w.heap.size;have bR:=zs (w.heap.size<=p) (xf hp.symm);rw[← hp] at R0|-;clear hp;obtain⟨c0,c1,c2,c3,c4⟩:=R0.out.box.c;have U:=J (Jf W (wi P p q) mo t n a g N A G R0.out.rows R0.out.cl al);go_wp2_with fail
 refine U.out.mono ?_;rintro e w2 ⟨n2,a2,g2,rfl,EI,B2⟩;have r1:=(R0.out.below B2).alloc fu;have T:=J (R0.out.Na B2 EI (vK N A));obtain⟨d0,d1,d2,d3,d4⟩:=r1.box.c;obtain⟨f0,f1,f2,f3,f4⟩:=r1.box.f;have kb:bQ (w2.alloc fu) w2.heap.size ⟨⟨#[]⟩,false,false⟩:=heap_alloc_new _ _;obtain⟨y0,y1,y2⟩:=kb.c;obtain⟨g0,g1,lV⟩:=kb.f;obtain⟨qI,wN,Jg⟩:=T.out.2.2;have Jh:p≠w2.heap.size:=qa qI;clear EI B2 r1 kb R0 U bR;clear c0 c1 c2 c3 c4;go_upto_region 2 with fail
 clear d0 d1 d2 d3 d4 f0 f1 f2 f3 f4 y0 y1 y2 g0 g1 lV;dsimp only[Go.Proofs.YtgjdjgnfpendgaaGreatDoor.SR.gr,Go.Proofs.YtgjdjgnfpendgaaGreatDoor.SR.cR] at T;generalize((((((((w2.alloc fu).setCell ⟨p,0,none⟩ (.int .i64 (mo:Int))).setCell ⟨p,1,none⟩ (.int .i64 (t:Int))).setCell ⟨p,2,none⟩ (.slice n2.A n2.n n2.c)).setCell ⟨p,3,none⟩ (.slice a2.A a2.n a2.c)).setCell ⟨p,4,none⟩ (.slice g2.A g2.n g2.c)).setCell ⟨w2.heap.size,0,none⟩ (.string (vK N A).s)).setCell ⟨w2.heap.size,1,none⟩ (.bool (vK N A).o)).setCell ⟨w2.heap.size,2,none⟩ (.bool (vK N A).d)=V at T|-;generalize w2.heap.size=y at T qI wN Jg Jh|-;obtain⟨y0,y1,y2⟩:=T.out.2.1.c;obtain⟨_,_,f2⟩:=T.out.2.1.f;have T2:=J (xy (T.out.1.other (λh=>h.2 rfl) qI wN Jg 2 (.bool false)) (T.out.2.1.pP false));go_upto_region 3 with fail
 clear y0 y1 y2 f2 T;generalize V.setCell ⟨y,2,none⟩ (.bool false)=V2 at T2|-;obtain⟨c0,c1,c2,c3,c4⟩:=T2.out.1.box.c;obtain⟨y0,y1,y2⟩:=T2.out.2.c;have U:=J (kC V2 _ g2 G ⟨(vK N A).s,(vK N A).o,false⟩ T2.out.1.rows.g (by omega) HS.out T2.out.1.cl);go_wp2_with fail
 refine U.out.mono ?_;rintro e V3 ⟨g3,rfl,k3,B3⟩;have T3:=J (xy ((T2.out.1.below B3).iI k3) ((T2.out.2.below B3).other (z:=⟨p,4,none⟩) qI (.slice g3.A g3.n g3.c)));obtain⟨_,_,_,_,d4⟩:=(T2.out.1.below B3).box.c;obtain⟨_,_,_,_,f4⟩:=(T2.out.1.below B3).box.f;clear c0 c1 c2 c3 c4 y0 y1 y2 k3 B3 T2 U;go_upto_region 4 with fail
 clear d4 f4;generalize V3.setCell ⟨p,4,none⟩ (.slice g3.A g3.n g3.c)=V4 at T3|-;obtain⟨c0,c1,c2,c3,c4⟩:=T3.out.1.box.c;obtain⟨y0,_,_⟩:=T3.out.2.c;obtain⟨⟨k0,k1,k2,k3,k4⟩,f0,f1,f2,f3,f4⟩:=T3.out.1.gp;have M':q≠y:=qa wN;have dg:p≠q:=T3.out.1.ne;have gD:q≠p:=qa dg;obtain⟨d0,d1,d2,d3,d4⟩:=(T3.out.1.below (aj _)).box.c;obtain⟨d5,_,_⟩:=(T3.out.2.below (aj _)).c;have U:=J (ry V4.drew _ mo t n2 a2 g3 _ _ _ (T3.out.1.below (aj _)).rows (T3.out.1.below (aj _)).cl hm)
 go_region_held3(λw'=>w'.cell? ⟨p,0,none⟩=some (.int .i64 (mo:Int))/\w'.cell? ⟨p,1,none⟩=some (.int .i64 (t:Int))/\w'.cell? ⟨p,2,none⟩=some (.slice n2.A n2.n n2.c)/\w'.cell? ⟨p,3,none⟩=some (.slice a2.A a2.n a2.c)/\w'.cell? ⟨p,4,none⟩=some (.slice g3.A g3.n g3.c)/\w'.cell? ⟨y,0,none⟩=some (.string (vK N A).s)) (first|(with_reducible exact⟨z0,z1,z2,z3,z4,z5⟩)|(with_reducible exact⟨d0,d1,d2,d3,d4,d5⟩)|go_keep)
  ((go_at_call 103;refine U.out.mono ?_;rintro e V5 ⟨n4,a4,g4,rfl,eF,B4⟩;have T4:=J (xy ((T3.out.1.below (aj _)).below B4) eF);obtain⟨z0,z1,z2,z3,z4⟩:=T4.out.1.box.c;obtain⟨z5,_,_⟩:=((T3.out.2.below (aj _)).below B4).c;obtain⟨⟨k0,k1,k2,k3,k4⟩,f0,f1,f2,f3,f4⟩:=T4.out.1.gp;clear eF B4))
 all_goals
  have F:=J (T4.out.1.pO (mo':=mo) (t':=t) (P0:=P) (λk hk=>hk.1.1) T4.out.2);go_wp2_with fail
  refine bodyPost_ret (bc rfl _ _ _ ⟨q,0,none⟩ _ rfl (bf F.out.1)) rfl ?_;exact⟨n4,a4,g4,rfl,F.out.2.1,F.out.2.2⟩
end
end SR
namespace SR
open Go.RowKit Sg
def EJ(e:KE):KE:=⟨e.s,true,true⟩
def wP(t:Nat)(N A:List KE):List KE:=(A.drop (max t 1)).map EJ++N
def wQ(t:Nat)(A:List KE):List KE:=A.take (max t 1)
def Vu(w:zw)(P:Nat->Prop)(p q mo t:Nat)(g:Sl)(N A1 G:List KE)(k:Nat)(W:zw):Prop:=
 ∃(j:Nat) (n a:Sl),k=j - max t 1/\1<=j/\j<=A1.length/\(j=A1.length\/max t 1<=j)/\R2 w W P p q mo t n a g ((A1.drop j).map EJ++N) (A1.take j) G
theorem J8{w W:zw}{P:Nat->Prop}{p q mo t j:Nat}{n a g:Sl}{N A1 G:List KE}(r:R2 w W P p q mo t n a g ((A1.drop j).map EJ++N) (A1.take j) G)(h1:j=A1.length\/max t 1<=j)(h2:¬max t 1 < j):R2 w W P p q mo t n a g (wP t N A1) (wQ t A1) G:=by
 unfold wP wQ
 by_cases h:max t 1=j
 . rw[h];exact r
 . have hj:j=A1.length:=by omega
   rw[List.drop_of_length_le (by omega),qk (by omega)];rw[hj,List.drop_length,List.take_length] at r;exact r
section
variable(w:zw)(P:Nat->Prop)(mo t:Nat)(n a g:Sl)(N A G:List KE)(h:Rw w P n a g N A G)(hP:Cl w P)
include h hP
theorem iR(s:zy)(hs:s.size<=maxLen)(hl:N.length+A.length<=1800):Calls prog 94 #[aU mo t n a g,.string s] w (CT w P id mo t (wP t N (⟨s,true,false⟩::A)) (wQ t (⟨s,true,false⟩::A)) G):=by
 obtain⟨A1,Nd⟩:=zx ((⟨s,true,false⟩:KE)::A);rw[← Nd];have HE:=J Nd;clear Nd;have R0:=J (ff h hP mo t);clear h hP;go_enter func94,ntmps94;go_upto_region 1 with fail
 generalize(w.alloc (aM mo t n a g)).alloc cK=W at R0|-;generalize w.heap.size+1=q at R0|-;obtain⟨p,hp⟩:=zx w.heap.size;have bR:=zs (w.heap.size<=p) (xf hp.symm);rw[← hp] at R0|-;clear hp;obtain⟨c0,c1,c2,c3,c4⟩:=R0.out.box.c;have U:=J (kC W (wi P p q) a A ⟨s,true,false⟩ R0.out.rows.a (by omega) hs R0.out.cl);go_wp2_with fail
 refine U.out.mono ?_;rintro e W1 ⟨a1,rfl,k1,B1⟩;have R1:=J ((R0.out.below B1).jk k1);obtain⟨_,_,_,d3,_⟩:=(R0.out.below B1).box.c;obtain⟨_,_,_,f3,_⟩:=(R0.out.below B1).box.f;clear c0 c1 c2 c3 c4 k1 B1 R0 U;go_wp2_with fail
 clear d3 f3;generalize W1.setCell ⟨p,3,none⟩ (.slice a1.A a1.n a1.c)=W2 at R1|-;have HL:=zs (N.length+((⟨s,true,false⟩:KE)::A).length<=1801) (by rw[zv];omega);have Ry:1<=((⟨s,true,false⟩:KE)::A).length:=by simp
 rw[← HE.out] at R1 HL Ry;go_loopg [] (A1.length - max t 1) (λk W=>Vu w (wi P p q) p q mo t g N A1 G k W)
 case atStart=>exact⟨A1.length,n,a1,rfl,Ry,zg _,xz rfl,by rw[List.drop_length,List.take_length];exact R1.out⟩
 case round=>
  obtain⟨j,n',a',rfl,Rz,hj,zP,r⟩:=hrel;have hlen:=r.rows.a.len;rw[qh,Nat.min_eq_left hj] at hlen;have RR:=J r;have HJ:=J (xy Rz (xy hj zP));obtain⟨c0,c1,c2,c3,c4⟩:=r.box.c;obtain⟨aA,an,ac⟩:=a';simp only at hlen;subst hlen
  by_cases hc:max t 1 < j
  . have e0:decide (t < j)=true:=by simp;omega
    have e1:decide ((1:Int) < (j:Int))=true:=by simp;omega
    have uS:decide (1 < j)=true:=by simp;omega
    obtain⟨m,hm⟩:=zx (j - 1)
    have hx:(A1.take j)[m]?=some (A1.getD m ⟨⟨#[]⟩,false,false⟩):=by
     rw[xv,if_pos (by omega),zt,zm (by omega)];rfl
    have Nf:A1.drop m=A1.getD m ⟨⟨#[]⟩,false,false⟩::A1.drop j:=by
     rw[List.drop_eq_getElem_cons (by omega),zt,zm (by omega),show m+1=j by omega];rfl
    generalize A1.getD m ⟨⟨#[]⟩,false,false⟩=x at hx Nf;have ob:=r.rows.a.small x (List.mem_of_getElem? hx);obtain⟨gb,o,_,hA,hg,cF,bL,m0,m1,m2⟩:=r.rows.a.at hx;obtain⟨a3,Vv,s1,s2,Ng⟩:=sh r.rows.a (p:=m) (by show m<=j;omega);rw[List.take_take,Nat.min_eq_left (by omega)] at Ng;simp only at hA cF s1 s2;subst hA;have cA:IntKind.i64.wrap ((j:Int) - 1)=(m:Int):=by have:=r.rows.a.le;rw[qh] at this;rw[qi _ (by omega)];omega
    have wM:m < j:=by omega
    unfold maxLen at bL;have HM:=J hm;have HC:=J hc;have HD:=J Nf;have HK:=J Ng;have HX:=J ob;clear r hm hc Nf Ng ob hx Vv Rz hj zP R1;go_upto_region 4 with fail
    have Rb:=J (RR.out.below ((zo wr.heap.size wr).alloc (zg _) (bE x)));have KY:=zs (bQ (wr.alloc (bE x)) wr.heap.size x) (heap_alloc_new _ _);have K3:=J (HK.out.below ((zo wr.heap.size wr).alloc (zg _) (bE x)));have qI:wr.heap.size≠p:=by have:=RR.out.box.lt;omega
    clear c0 c1 c2 c3 c4 m0 m1 m2 hg RR HK;generalize wr.alloc (bE x)=W3 at Rb KY K3|-;generalize wr.heap.size=y at KY qI|-;obtain⟨_,_,_,c3,_⟩:=Rb.out.box.c;obtain⟨_,_,_,f3,_⟩:=Rb.out.box.f;have R4:=J (Rb.out.jk K3.out);have Nh:=J (KY.out.other (z:=⟨p,3,none⟩) qI (.slice a3.A a3.n a3.c));clear Rb K3 KY;go_upto_region 5 with fail
    clear c3 f3;generalize W3.setCell ⟨p,3,none⟩ (.slice a3.A a3.n a3.c)=W4 at R4 Nh|-;obtain⟨_,_,c2,_,_⟩:=R4.out.box.c;obtain⟨y0,_,_⟩:=Nh.out.c;have U:=J (kC W4 _ n' _ ⟨x.s,true,true⟩ R4.out.rows.n (by rw[zh,xe,xm];have:=HL.out;omega) HX.out R4.out.cl);go_wp2_with fail
    refine U.out.mono ?_;rintro e W5 ⟨n5,rfl,k5,B5⟩;have R5:=J ((R4.out.below B5).j1 k5);obtain⟨_,_,d2,_,_⟩:=(R4.out.below B5).box.c;obtain⟨_,_,f2,_,_⟩:=(R4.out.below B5).box.f;clear c2 y0 k5 B5 R4 U Nh;go_wp2_with fail
    go_roundg(m - max t 1)
    case measure=>have:=HM.out;have:=HC.out;omega
    case rel=>
     refine⟨m,n5,a3,rfl,by have:=HM.out;have:=HC.out;omega,by have:=HM.out;have:=HJ.out.2.1;omega,ja (by have:=HM.out;have:=HC.out;omega),?_⟩;rw[HD.out];exact R5.out
  . have RE:=J (J8 r zP hc);obtain⟨⟨k0,k1,k2,k3,k4⟩,f0,f1,f2,f3,f4⟩:=r.gp;have F:=J (RE.out.out (mo':=mo) (t':=t) RE.out.rows)
    by_cases h1:t < j
    . have e0:decide (t < j)=true:=by simpa using h1
      have e1:decide ((1:Int) < (j:Int))=false:=by simp;omega
      have uS:decide (1 < j)=false:=by simp;omega
      clear r hc zP h1 R1 RR;go_wp2_with fail
      (try simp only[Exit.inBlock,Exit.then]);refine bodyPost_ret (aV rfl _ _ _ ⟨q,0,none⟩ _ rfl (bf F.out.1)) rfl ?_;exact⟨_,_,_,rfl,F.out.2.1,F.out.2.2⟩
    . have e0:decide (t < j)=false:=by simpa using h1
      clear r hc zP h1 R1 RR;go_wp2_with fail
      (try simp only[Exit.inBlock,Exit.then]);refine bodyPost_ret (aV rfl _ _ _ ⟨q,0,none⟩ _ rfl (bf F.out.1)) rfl ?_;exact⟨_,_,_,rfl,F.out.2.1,F.out.2.2⟩
end
end SR
namespace SR
open Go.RowKit Sg
abbrev fw(h:Bool)(v:zy)(e:Bool):Obj:= .cells #[.bool h,.string v,.bool e] 49
abbrev gE(h:Bool)(v:zy)(e:Bool):Value:= .agg #[.bool h,.string v,.bool e]
def ZB(w:zw)(p:Nat)(h:Bool)(v:zy)(e:Bool):Prop:=w.heap[p]?=some (.cells #[.bool h,.string v,.bool e] 49 (0,0))
section
variable{w w' W W':zw}{p:Nat}{h:Bool}{v:zy}{e:Bool}
theorem ZB.lt(k:ZB w p h v e):p < w.heap.size:=(Array.getElem?_eq_some_iff.1 k).1
theorem ZB.c(k:ZB w p h v e):w.cell? ⟨p,0,none⟩=some (.bool h)/\w.cell? ⟨p,1,none⟩=some (.string v)/\w.cell? ⟨p,2,none⟩=some (.bool e):=⟨cell_of_row w _ 0 _ _ _ k,cell_of_row w _ 1 _ _ _ k,cell_of_row w _ 2 _ _ _ k⟩
theorem ZB.f(k:ZB w p h v e):w.frozen? ⟨p,0,none⟩=false/\w.frozen? ⟨p,1,none⟩=false/\w.frozen? ⟨p,2,none⟩=false:=⟨frozen_of_row w _ 0 _ _ k,frozen_of_row w _ 1 _ _ k,frozen_of_row w _ 2 _ _ k⟩
theorem ZB.below(k:ZB w p h v e)(hb:Below w.heap.size w w'):ZB w' p h v e:=(hb.block p k.lt).trans k
theorem ZB.other(k:ZB w p h v e){z:Addr}(hz:p≠z.block)(u:Value):ZB (w.setCell z u) p h v e:=(qc _ _ _ _ hz).trans k
theorem ZB.dO(k:ZB w p h v e)(b:Bool):ZB (w.setCell ⟨p,0,none⟩ (.bool b)) p b v e:=by
 unfold ZB at*;rw[heap_setCell_same _ _ _ _ _ _ k];rfl
theorem ZB.eR(k:ZB w p h v e)(b:zy):ZB (w.setCell ⟨p,1,none⟩ (.string b)) p h b e:=by
 unfold ZB at*;rw[heap_setCell_same _ _ _ _ _ _ k];rfl
theorem ZB.fg(k:ZB w p h v e)(b:Bool):ZB (w.setCell ⟨p,2,none⟩ (.bool b)) p h v b:=by
 unfold ZB at*;rw[heap_setCell_same _ _ _ _ _ _ k];rfl
theorem cL(k:ZB w p h v e):(loadVar 49 ⟨p,0,none⟩).run prog w= .ok (gE h v e) w:=by
 obtain⟨k0,k1,k2⟩:=k.c;unfold loadVar;go_simp
end
abbrev gM(w:zw)(p:Nat)(h:Bool)(v:zy)(e:Bool):zw:=((w.setCell ⟨p,0,none⟩ (.bool h)).setCell ⟨p,1,none⟩ (.string v)).setCell ⟨p,2,none⟩ (.bool e)
structure RQ(w W:zw)(P:Nat->Prop)(p q r x mo t:Nat)(n a g:Sl)(N A G:List KE)(h:Bool)(v:zy)(e:Bool):Prop where
 two:R2 w W P p q mo t n a g N A G
 res:ZB W r false ⟨#[]⟩ false
 aH:ZB W x h v e
 np:¬P r/\¬P x
 ne:r≠p/\r≠q/\x≠p/\x≠q/\r≠x
 low:w.heap.size<=r/\w.heap.size<=x
section
variable{w W W':zw}{P P0:Nat->Prop}{p q r x mo t:Nat}{n a g n' a' g':Sl}{N A G N' A' G':List KE}{h e:Bool}{v:zy}
theorem RQ.start(k:Rw w P n a g N A G)(hP:Cl w P)(mo t:Nat):RQ w ((((w.alloc (aM mo t n a g)).alloc cK).alloc (fw false ⟨#[]⟩ false)).alloc (fw false ⟨#[]⟩ false)) (ex (ex (wi P w.heap.size (w.heap.size+1)) (w.heap.size+1+1)) (w.heap.size+1+1+1)) w.heap.size (w.heap.size+1) (w.heap.size+1+1) (w.heap.size+1+1+1) mo t n a g N A G false ⟨#[]⟩ false:=by
 have r0:=ff k hP mo t;have s2:((w.alloc (aM mo t n a g)).alloc cK).heap.size=w.heap.size+1+1:=by simp
 generalize(w.alloc (aM mo t n a g)).alloc cK=W0 at r0 s2|-;have r1:=(r0.alloc (fw false ⟨#[]⟩ false)).alloc (fw false ⟨#[]⟩ false);have s3:(W0.alloc (fw false ⟨#[]⟩ false)).heap.size=w.heap.size+1+1+1:=by simp;omega
 have q2:ZB ((W0.alloc (fw false ⟨#[]⟩ false)).alloc (fw false ⟨#[]⟩ false)) W0.heap.size false ⟨#[]⟩ false:=(qf _ _ _ (by omega)).trans (heap_alloc_new _ _);have q3:ZB ((W0.alloc (fw false ⟨#[]⟩ false)).alloc (fw false ⟨#[]⟩ false)) (W0.alloc (fw false ⟨#[]⟩ false)).heap.size false ⟨#[]⟩ false:=heap_alloc_new _ _;rw[s2] at q2;rw[s3] at q3;rw[s2,s3] at r1;exact⟨r1,q2,q3,⟨λh=>h.1.2 rfl,λh=>h.2 rfl⟩,⟨by omega,by omega,by omega,by omega,by omega⟩,⟨by omega,by omega⟩⟩
theorem RQ.below(k:RQ w W P p q r x mo t n a g N A G h v e)(hb:Below W.heap.size W W'):RQ w W' P p q r x mo t n a g N A G h v e:=⟨k.two.below hb,k.res.below hb,k.aH.below hb,k.np,k.ne,k.low⟩
theorem RQ.j1(k:RQ w W P p q r x mo t n a g N A G h v e)(s:KW W P n' N'):RQ w (W.setCell ⟨p,2,none⟩ (.slice n'.A n'.n n'.c)) P p q r x mo t n' a g N' A G h v e:=
 ⟨k.two.j1 s,k.res.other (z:=⟨p,2,none⟩) k.ne.1 _,k.aH.other (z:=⟨p,2,none⟩) k.ne.2.2.1 _,k.np,k.ne,k.low⟩
theorem RQ.jk(k:RQ w W P p q r x mo t n a g N A G h v e)(s:KW W P n' N'):RQ w (W.setCell ⟨p,3,none⟩ (.slice n'.A n'.n n'.c)) P p q r x mo t n n' g N N' G h v e:=
 ⟨k.two.jk s,k.res.other (z:=⟨p,3,none⟩) k.ne.1 _,k.aH.other (z:=⟨p,3,none⟩) k.ne.2.2.1 _,k.np,k.ne,k.low⟩
theorem RQ.iI(k:RQ w W P p q r x mo t n a g N A G h v e)(s:KW W P n' N'):RQ w (W.setCell ⟨p,4,none⟩ (.slice n'.A n'.n n'.c)) P p q r x mo t n a n' N A N' h v e:=
 ⟨k.two.iI s,k.res.other (z:=⟨p,4,none⟩) k.ne.1 _,k.aH.other (z:=⟨p,4,none⟩) k.ne.2.2.1 _,k.np,k.ne,k.low⟩
theorem RQ.kB(k:RQ w W P p q r x mo t n a g N A G h v e)(u:Nat):RQ w (W.setCell ⟨p,1,none⟩ (.int .i64 (u:Int))) P p q r x mo u n a g N A G h v e:=
 ⟨k.two.kB u,k.res.other (z:=⟨p,1,none⟩) k.ne.1 _,k.aH.other (z:=⟨p,1,none⟩) k.ne.2.2.1 _,k.np,k.ne,k.low⟩
theorem RQ.dO(k:RQ w W P p q r x mo t n a g N A G h v e)(b:Bool):RQ w (W.setCell ⟨x,0,none⟩ (.bool b)) P p q r x mo t n a g N A G b v e:=
 ⟨k.two.other k.np.2 k.ne.2.2.1 k.ne.2.2.2.1 k.low.2 0 _,k.res.other (z:=⟨x,0,none⟩) k.ne.2.2.2.2 _,k.aH.dO b,k.np,k.ne,k.low⟩
theorem RQ.eR(k:RQ w W P p q r x mo t n a g N A G h v e)(b:zy):RQ w (W.setCell ⟨x,1,none⟩ (.string b)) P p q r x mo t n a g N A G h b e:=
 ⟨k.two.other k.np.2 k.ne.2.2.1 k.ne.2.2.2.1 k.low.2 1 _,k.res.other (z:=⟨x,1,none⟩) k.ne.2.2.2.2 _,k.aH.eR b,k.np,k.ne,k.low⟩
theorem RQ.fg(k:RQ w W P p q r x mo t n a g N A G h v e)(b:Bool):RQ w (W.setCell ⟨x,2,none⟩ (.bool b)) P p q r x mo t n a g N A G h v b:=
 ⟨k.two.other k.np.2 k.ne.2.2.1 k.ne.2.2.2.1 k.low.2 2 _,k.res.other (z:=⟨x,2,none⟩) k.ne.2.2.2.2 _,k.aH.fg b,k.np,k.ne,k.low⟩
theorem RQ.dj{mo' t':Nat}(k:RQ w W P p q r x mo t n a g N A G h v e)(s:Rw W P n' a' g' N' A' G'):RQ w (cR W p mo' t' n' a' g') P p q r x mo' t' n' a' g' N' A' G' h v e:=by
 have o:∀{z h v e},z≠p->ZB W z h v e->ZB (cR W p mo' t' n' a' g') z h v e:=λhz s=>((((s.other (z:=⟨p,0,none⟩) hz _).other (z:=⟨p,1,none⟩) hz _).other (z:=⟨p,2,none⟩) hz _).other (z:=⟨p,3,none⟩) hz _).other (z:=⟨p,4,none⟩) hz _;exact⟨k.two.dj s,o k.ne.1 k.res,o k.ne.2.2.1 k.aH,k.np,k.ne,k.low⟩
theorem RQ.out{mo' t':Nat}(k:RQ w W P p q r x mo t n a g N A G h v e)(hp:∀k,P k->P0 k)(s:Rw W P n' a' g' N' A' G'):
 RB (gM (cR W q mo' t' n' a' g') r h v e) q mo' t' n' a' g'/\ZB (gM (cR W q mo' t' n' a' g') r h v e) r h v e/\Rw (gM (cR W q mo' t' n' a' g') r h v e) P0 n' a' g' N' A' G'/\Below w.heap.size w (gM (cR W q mo' t' n' a' g') r h v e):=by
 have o:=k.two.pO (mo':=mo') (t':=t') (P0:=P) (λ_ h=>h) s;have mH:=k.ne.2.1;have z:=((((k.res.other (z:=⟨q,0,none⟩) mH (.int .i64 (mo':Int))).other (z:=⟨q,1,none⟩) mH (.int .i64 (t':Int))).other (z:=⟨q,2,none⟩) mH (.slice n'.A n'.n n'.c)).other (z:=⟨q,3,none⟩) mH (.slice a'.A a'.n a'.c)).other (z:=⟨q,4,none⟩) mH (.slice g'.A g'.n g'.c);have nr:=k.np.1;have lr:=k.low.1
 change ZB (cR W q mo' t' n' a' g') r false ⟨#[]⟩ false at z
 generalize cR W q mo' t' n' a' g'=V at o z|-
 exact⟨((o.1.other (q:=⟨r,0,none⟩) (qa mH) _).other (q:=⟨r,1,none⟩) (qa mH) _).other (q:=⟨r,2,none⟩) (qa mH) _,((z.dO h).eR v).fg e,
  (((o.2.1.set (q:=⟨r,0,none⟩) nr (.bool h)).set (q:=⟨r,1,none⟩) nr (.string v)).set (q:=⟨r,2,none⟩) nr (.bool e)).wide λk hk _=>hp k hk,
  ((o.2.2.setCell (p:=⟨r,0,none⟩) lr _).setCell (p:=⟨r,1,none⟩) lr _).setCell (p:=⟨r,2,none⟩) lr _⟩
theorem RQ.C7(k:RQ w W P p q r x mo t n a g N A G h v e)(hp:∀k,P k->P0 k):
 RB (gM (cR W q mo t n a g) r h v e) q mo t n a g/\ZB (gM (cR W q mo t n a g) r h v e) r h v e/\Rw (gM (cR W q mo t n a g) r h v e) P0 n a g N A G/\Below w.heap.size w (gM (cR W q mo t n a g) r h v e):=k.out hp k.two.rows
end
section
variable(w:zw)(P:Nat->Prop)(mo t:Nat)(n a g:Sl)(N A G:List KE)(h:Rw w P n a g N A G)(hP:Cl w P)(s:zy)
include h hP
theorem ku(hm:mo=0)(aF:Bool)(hh:(cV N s||cV A s)=aF):Calls prog 53 #[aU mo t n a g,.string s] w (CT w P (λv=> .tuple #[v,gE aF ⟨#[]⟩ false]) mo t N A G):=by
 have e9:((mo:Int)==0)=true:=by rw[hm];rfl
 clear hm;have R0:=J (RQ.start h hP mo t);clear h hP;go_enter func53,ntmps53;go_upto_region 2 with fail
 generalize(((w.alloc (aM mo t n a g)).alloc cK).alloc (fw false ⟨#[]⟩ false)).alloc (fw false ⟨#[]⟩ false)=W at R0|-;generalize w.heap.size+1+1+1=x at R0|-;generalize w.heap.size+1+1=r at R0|-;generalize w.heap.size+1=q at R0|-;obtain⟨p,hp⟩:=zx w.heap.size;rw[← hp] at R0|-;clear hp;obtain⟨c0,c1,c2,c3,c4⟩:=R0.out.two.box.c;have U:=J (et W _ mo t n a g N A G R0.out.two.rows s);rw[hh] at U;go_wp2_with fail
 refine U.out.mono ?_;rintro e W1 ⟨rfl,B1⟩;have R1:=J ((R0.out.below B1).dO aF);obtain⟨x0,_,_⟩:=(R0.out.below B1).aH.c;obtain⟨g0,_,_⟩:=(R0.out.below B1).aH.f;clear c0 c1 c2 c3 c4 B1 R0 U;go_upto_region 3 with fail
 clear x0 g0;generalize W1.setCell ⟨x,0,none⟩ (.bool aF)=W2 at R1|-;obtain⟨c0,c1,c2,c3,c4⟩:=R1.out.two.box.c;(try go_upto_region 4 with fail);obtain⟨c0,c1,c2,c3,c4⟩:=R1.out.two.box.c;obtain⟨x0,x1,x2⟩:=R1.out.aH.c;obtain⟨⟨k0,k1,k2,k3,k4⟩,f0,f1,f2,f3,f4⟩:=R1.out.two.gp;obtain⟨r0,r1,r2⟩:=R1.out.res.c;obtain⟨g0,g1,lV⟩:=R1.out.res.f;obtain⟨dC,dD,bl,du,dE⟩:=R1.out.ne;have dg:p≠q:=R1.out.two.ne;have gD:q≠p:=qa dg;have jd:p≠r:=qa dC;have je:q≠r:=qa dD;have cW:p≠x:=qa bl;have ik:q≠x:=qa du;have jf:x≠r:=qa dE;go_region;have F:=J (R1.out.C7 (P0:=P) (λk hk=>hk.1.1.1));go_wp2_with fail
 (try simp only[Exit.inBlock,Exit.then]);refine bodyPost_ret (aP rfl _ _ _ ⟨q,0,none⟩ ⟨r,0,none⟩ _ _ rfl (bf (F.out.1.below (aj _))) rfl (cL (F.out.2.1.below (aj _)))) rfl ?_;exact⟨_,_,_,rfl,F.out.2.2.1.drew,F.out.2.2.2.trans ((aj _).mono F.out.2.2.2.size)⟩
end
end SR
namespace SR
open Go.RowKit Sg
theorem GG{w:zw}{P:Nat->Prop}{r:Sl}{L:List KE}(h:KW w P r L)(s:zy):(fk L s).s.size<=maxLen:=by
 unfold fk;cases hf:L.find? λe=>decide (e.s=s) with
 |none=>decide
 |some x=>exact h.small x (List.mem_of_find?_eq_some hf)
def nT(mo t:Nat)(d:Bool):Nat:=if d=true/\t < mo then t+1 else t
def gT(t:Nat)(gh o:Bool):Nat:=if gh=true/\o=false/\1 < t then t - 1 else t
section
variable(w:zw)(P:Nat->Prop)(mo t:Nat)(n a g:Sl)(N A G:List KE)(h:Rw w P n a g N A G)(hP:Cl w P)(s:zy)(hs:s.size<=maxLen)(hm:mo≠0)(ey:mo<=9223372036854775807)(hl:N.length+A.length<=1700)
include h hP hm hl
theorem TQ(aF:Bool)(hh:(cV N s||cV A s)=aF)(hA:cV A s=true):Calls prog 53 #[aU mo t n a g,.string s] w (CT w P (λv=> .tuple #[v,gE aF ⟨#[]⟩ false]) mo t N (fk A s::wo A s) G):=by
 have Vw:=J (GG h.a s);have e9:((mo:Int)==0)=false:=by simp;omega
 have e8:(mo==0)=false:=by simp;omega
 have R0:=J (RQ.start h hP mo t);clear h hP;go_enter func53,ntmps53;go_upto_region 2 with fail
 generalize(((w.alloc (aM mo t n a g)).alloc cK).alloc (fw false ⟨#[]⟩ false)).alloc (fw false ⟨#[]⟩ false)=W at R0|-;generalize w.heap.size+1+1+1=x at R0|-;generalize w.heap.size+1+1=r at R0|-;generalize w.heap.size+1=q at R0|-;obtain⟨p,hp⟩:=zx w.heap.size;rw[← hp] at R0|-;clear hp;obtain⟨c0,c1,c2,c3,c4⟩:=R0.out.two.box.c;have U:=J (et W _ mo t n a g N A G R0.out.two.rows s);rw[hh] at U;go_wp2_with fail
 refine U.out.mono ?_;rintro e W1 ⟨rfl,B1⟩;have R1:=J ((R0.out.below B1).dO aF);obtain⟨x0,_,_⟩:=(R0.out.below B1).aH.c;obtain⟨g0,_,_⟩:=(R0.out.below B1).aH.f;clear c0 c1 c2 c3 c4 B1 R0 U;go_upto_region 3 with fail
 clear x0 g0;generalize W1.setCell ⟨x,0,none⟩ (.bool aF)=W2 at R1|-;obtain⟨c0,c1,c2,c3,c4⟩:=R1.out.two.box.c;have V:=cH _ _ a A s R1.out.two.rows.a;rw[hA] at V;have V:=J V;go_wp2_with fail
 refine V.out.mono ?_;rintro e W3 ⟨rfl,B3⟩;have b4:=B3.trans (((zo W3.heap.size W3).alloc (zg _) (bE (fk A s))).mono B3.size);have R2:=J (R1.out.below b4);have KY:=zs (bQ (W3.alloc (bE (fk A s))) W3.heap.size (fk A s)) (heap_alloc_new _ _);have NY:=zs (W3.heap.size≠p/\W3.heap.size≠x) (by have:=(R1.out.below B3).two.box.lt;have:=(R1.out.below B3).aH.lt;omega);clear c0 c1 c2 c3 c4 B3 b4 V R1;go_upto_region 7 with fail
 generalize W3.alloc (bE (fk A s))=W4 at R2 KY|-;generalize W3.heap.size=y at KY NY|-;have R1:=J R2.out;clear R2;obtain⟨c0,c1,c2,c3,c4⟩:=R1.out.two.box.c;have oW:=zs ((wo A s).length<=1900) (by have:=uN A s;omega);obtain⟨_,_,_,d3,_⟩:=(R1.out.below (aj _)).two.box.c;obtain⟨y0,y1,y2⟩:=(KY.out.below (aj _)).c;have U1:=J (cE W4.drew _ a A s (R1.out.below (aj _)).two.rows.a (by omega) (R1.out.below (aj _)).two.cl);have qI:y≠p:=NY.out.1;have Jh:p≠y:=qa qI
 go_region_with
  (first
    |(go_at_call 93;refine U1.out.mono ?_;rintro e V5 ⟨a5,rfl,k5,B5⟩;have T5:=J (xy ((R1.out.below (aj _)).below B5) k5);have Y5:=J ((KY.out.below (aj _)).below B5);obtain⟨_,_,_,z3,_⟩:=T5.out.1.two.box.c;obtain⟨z4,z5,z6⟩:=Y5.out.c;clear k5 B5)
    |(go_at_call 92;refine(kC V5 _ a5 _ (fk A s) T5.out.2 oW.out Vw.out T5.out.1.two.cl).mono ?_;rintro e V6 ⟨a6,rfl,k6,B6⟩;have T6:=J (xy (T5.out.1.below B6) k6);have Y6:=J (Y5.out.below B6);obtain⟨_,_,_,u3,_⟩:=T6.out.1.two.box.c;obtain⟨_,_,_,f3,_⟩:=T6.out.1.two.box.f;obtain⟨u4,u5,u6⟩:=Y6.out.c;clear k6 B6))
 all_goals
  have R2:=J (T6.out.1.jk T6.out.2);clear R1 KY y0 y1 y2 d3 U1 z3 z4 z5 z6 u3 u4 u5 u6 f3 T5 T6 Y5 Y6 c0 c1 c2 c3 c4;(try go_upto_region 8 with fail);generalize V6.setCell ⟨p,3,none⟩ (.slice a6.A a6.n a6.c)=W5 at R2|-;have R1:=J R2.out;clear R2;(try go_upto_region 8 with fail);obtain⟨c0,c1,c2,c3,c4⟩:=R1.out.two.box.c;obtain⟨x0,x1,x2⟩:=R1.out.aH.c;obtain⟨⟨k0,k1,k2,k3,k4⟩,f0,f1,f2,f3,f4⟩:=R1.out.two.gp;obtain⟨r0,r1,r2⟩:=R1.out.res.c;obtain⟨g0,g1,lV⟩:=R1.out.res.f;obtain⟨dC,dD,bl,du,dE⟩:=R1.out.ne;have dg:p≠q:=R1.out.two.ne;have gD:q≠p:=qa dg;have jd:p≠r:=qa dC;have je:q≠r:=qa dD;have cW:p≠x:=qa bl;have ik:q≠x:=qa du;have jf:x≠r:=qa dE;go_region;have F:=J (R1.out.C7 (P0:=P) (λk hk=>hk.1.1.1));go_wp2_with fail
  (try simp only[Exit.inBlock,Exit.then]);refine bodyPost_ret (aP rfl _ _ _ ⟨q,0,none⟩ ⟨r,0,none⟩ _ _ rfl (bf (F.out.1.below (aj _))) rfl (cL (F.out.2.1.below (aj _)))) rfl ?_;exact⟨_,_,_,rfl,F.out.2.2.1.drew,F.out.2.2.2.trans ((aj _).mono F.out.2.2.2.size)⟩
include hs ey
theorem TR(aF:Bool)(hh:(cV N s||cV A s)=aF)(hA:cV A s=false)(hN:cV N s=true):Calls prog 53 #[aU mo t n a g,.string s] w (CT w P (λv=> .tuple #[v,gE aF ⟨#[]⟩ false]) mo (nT mo t (fk N s).d) (wP (nT mo t (fk N s).d) (wo N s) (⟨s,true,false⟩::A)) (wQ (nT mo t (fk N s).d) (⟨s,true,false⟩::A)) G):=by
 obtain⟨u,hu⟩:=zx (nT mo t (fk N s).d);rw[← hu];have HU:=J hu;clear hu;have e9:((mo:Int)==0)=false:=by simp;omega
 have e8:(mo==0)=false:=by simp;omega
 have R0:=J (RQ.start h hP mo t);clear h hP;go_enter func53,ntmps53;go_upto_region 2 with fail
 generalize(((w.alloc (aM mo t n a g)).alloc cK).alloc (fw false ⟨#[]⟩ false)).alloc (fw false ⟨#[]⟩ false)=W at R0|-;generalize w.heap.size+1+1+1=x at R0|-;generalize w.heap.size+1+1=r at R0|-;generalize w.heap.size+1=q at R0|-;obtain⟨p,hp⟩:=zx w.heap.size;rw[← hp] at R0|-;clear hp;obtain⟨c0,c1,c2,c3,c4⟩:=R0.out.two.box.c;have U:=J (et W _ mo t n a g N A G R0.out.two.rows s);rw[hh] at U;go_wp2_with fail
 refine U.out.mono ?_;rintro e W1 ⟨rfl,B1⟩;have R1:=J ((R0.out.below B1).dO aF);obtain⟨x0,_,_⟩:=(R0.out.below B1).aH.c;obtain⟨g0,_,_⟩:=(R0.out.below B1).aH.f;clear c0 c1 c2 c3 c4 B1 R0 U;go_upto_region 3 with fail
 clear x0 g0;generalize W1.setCell ⟨x,0,none⟩ (.bool aF)=W2 at R1|-;obtain⟨c0,c1,c2,c3,c4⟩:=R1.out.two.box.c;have V:=cH _ _ a A s R1.out.two.rows.a;rw[hA] at V;have V:=J V;go_wp2_with fail
 refine V.out.mono ?_;rintro e W3 ⟨rfl,B3⟩;have b4:=B3.trans (((zo W3.heap.size W3).alloc (zg _) (bE (fk A s))).mono B3.size);have R2:=J (R1.out.below b4);have KY:=zs (bQ (W3.alloc (bE (fk A s))) W3.heap.size (fk A s)) (heap_alloc_new _ _);have NY:=zs (W3.heap.size≠p/\W3.heap.size≠x) (by have:=(R1.out.below B3).two.box.lt;have:=(R1.out.below B3).aH.lt;omega);clear c0 c1 c2 c3 c4 B3 b4 V R1;go_upto_region 9 with fail
 generalize W3.alloc (bE (fk A s))=W4 at R2 KY|-;generalize W3.heap.size=y at KY NY|-;have R1:=J R2.out;clear R2;obtain⟨c0,c1,c2,c3,c4⟩:=R1.out.two.box.c;clear KY NY;have V:=cH _ _ n N s R1.out.two.rows.n;rw[hN] at V;have V:=J V;go_wp2_with fail
 refine V.out.mono ?_;rintro e W3 ⟨rfl,B3⟩;have b4:=B3.trans (((zo W3.heap.size W3).alloc (zg _) (bE (fk N s))).mono B3.size);have R2:=J (R1.out.below b4);have KY:=zs (bQ (W3.alloc (bE (fk N s))) W3.heap.size (fk N s)) (heap_alloc_new _ _);have NY:=zs (W3.heap.size≠p/\W3.heap.size≠x) (by have:=(R1.out.below B3).two.box.lt;have:=(R1.out.below B3).aH.lt;omega);clear c0 c1 c2 c3 c4 B3 b4 V R1;go_upto_region 11 with fail
 generalize W3.alloc (bE (fk N s))=W4 at R2 KY|-;generalize W3.heap.size=y at KY NY|-;have R1:=J R2.out;clear R2;obtain⟨c0,c1,c2,c3,c4⟩:=R1.out.two.box.c;obtain⟨y0,y1,y2⟩:=KY.out.c;have oW:=zs ((wo N s).length+A.length<=1800) (by have:=uN N s;omega);cases hd:(fk N s).d with
 |true=>
  by_cases lW:t < mo
  . have hu:u=t+1:=by have:=HU.out;rw[hd] at this;unfold nT at this;rwa[if_pos ⟨rfl,lW⟩] at this
    have e0:decide (t < mo)=true:=by simpa using lW
    have cA:IntKind.i64.wrap ((t:Int)+1)=(u:Int):=by rw[qi _ (by omega)];omega
    have R2:=J (R1.out.kB u);obtain⟨_,f1,_,_,_⟩:=R1.out.two.box.f;rw[hd] at y2;clear lW hu R1 KY NY HU hd;go_upto_region 13 with fail
    clear c0 c1 c2 c3 c4 y0 y1 y2 f1 e0 cA;generalize W4.setCell ⟨p,1,none⟩ (.int .i64 (u:Int))=W5 at R2|-;have R1:=J R2.out;clear R2;obtain⟨c0,c1,c2,c3,c4⟩:=R1.out.two.box.c;have U:=J (cE _ _ n N s R1.out.two.rows.n (by omega) R1.out.two.cl);go_wp2_with fail
    refine U.out.mono ?_;rintro e V1 ⟨n9,rfl,k9,B9⟩;have R2:=J ((R1.out.below B9).j1 k9);obtain⟨d0,d1,d2,d3,d4⟩:=(R1.out.below B9).two.box.c;obtain⟨f0,f1,f2,f3,f4⟩:=(R1.out.below B9).two.box.f;clear c0 c1 c2 c3 c4 k9 B9 R1 U;go_upto_region 14 with fail
    clear d0 d1 d2 d3 d4 f0 f1 f2 f3 f4;generalize V1.setCell ⟨p,2,none⟩ (.slice n9.A n9.n n9.c)=V2 at R2|-;have R1:=J R2.out;clear R2;obtain⟨c0,c1,c2,c3,c4⟩:=(R1.out.below (aj _)).two.box.c;obtain⟨x0,x1,x2⟩:=(R1.out.below (aj _)).aH.c;obtain⟨dC,dD,bl,du,dE⟩:=R1.out.ne;have dg:p≠q:=R1.out.two.ne;have gD:q≠p:=qa dg;have jd:p≠r:=qa dC;have je:q≠r:=qa dD;have cW:p≠x:=qa bl;have ik:q≠x:=qa du;have jf:x≠r:=qa dE;have U:=J (iR _ _ mo u _ _ _ _ _ _ (R1.out.below (aj _)).two.rows (R1.out.below (aj _)).two.cl s hs oW.out);have R2:=J (R1.out.below (aj _));clear R1
    go_region_held3(λw'=>w'.cell? ⟨p,0,none⟩=some (.int .i64 (mo:Int))/\w'.cell? ⟨p,1,none⟩=some (.int .i64 (u:Int))/\w'.cell? ⟨p,2,none⟩=some (.slice n9.A n9.n n9.c)/\w'.cell? ⟨p,3,none⟩=some (.slice a.A a.n a.c)/\w'.cell? ⟨p,4,none⟩=some (.slice g.A g.n g.c)/\w'.cell? ⟨x,0,none⟩=some (.bool aF)/\w'.cell? ⟨x,1,none⟩=some (.string ⟨#[]⟩)/\w'.cell? ⟨x,2,none⟩=some (.bool false)) (first|(with_reducible exact⟨z0,z1,z2,z3,z4,z5,z6,z7⟩)|(with_reducible exact⟨c0,c1,c2,c3,c4,x0,x1,x2⟩)|go_keep)
     ((go_at_call 94;refine U.out.mono ?_;rintro e V5 ⟨n4,a4,g4,rfl,eF,B4⟩;have T4:=J (xy (R2.out.below B4) eF);obtain⟨z0,z1,z2,z3,z4⟩:=T4.out.1.two.box.c;obtain⟨z5,z6,z7⟩:=T4.out.1.aH.c;obtain⟨⟨k0,k1,k2,k3,k4⟩,f0,f1,f2,f3,f4⟩:=T4.out.1.two.gp;obtain⟨r0,r1,r2⟩:=T4.out.1.res.c;obtain⟨g0,g1,lV⟩:=T4.out.1.res.f;clear eF B4))
    all_goals
     have F:=J (T4.out.1.out (mo':=mo) (t':=u) (P0:=P) (λk hk=>hk.1.1.1) T4.out.2);go_wp2_with fail
     (try simp only[Exit.inBlock,Exit.then]);refine bodyPost_ret (aP rfl _ _ _ ⟨q,0,none⟩ ⟨r,0,none⟩ _ _ rfl (bf F.out.1) rfl (cL F.out.2.1)) rfl ?_;exact⟨_,_,_,rfl,F.out.2.2.1,F.out.2.2.2⟩
  . have hu:u=t:=by have:=HU.out;rw[hd] at this;unfold nT at this;rwa[if_neg (λh=>lW h.2)] at this
    have e0:decide (t < mo)=false:=by simpa using lW
    rw[hd] at y2;clear lW KY NY HU hd;subst hu;go_upto_region 13 with fail
    clear c0 c1 c2 c3 c4 y0 y1 y2 e0;obtain⟨c0,c1,c2,c3,c4⟩:=R1.out.two.box.c;have U:=J (cE _ _ n N s R1.out.two.rows.n (by omega) R1.out.two.cl);go_wp2_with fail
    refine U.out.mono ?_;rintro e V1 ⟨n9,rfl,k9,B9⟩;have R2:=J ((R1.out.below B9).j1 k9);obtain⟨d0,d1,d2,d3,d4⟩:=(R1.out.below B9).two.box.c;obtain⟨f0,f1,f2,f3,f4⟩:=(R1.out.below B9).two.box.f;clear c0 c1 c2 c3 c4 k9 B9 R1 U;go_upto_region 14 with fail
    clear d0 d1 d2 d3 d4 f0 f1 f2 f3 f4;generalize V1.setCell ⟨p,2,none⟩ (.slice n9.A n9.n n9.c)=V2 at R2|-;have R1:=J R2.out;clear R2;obtain⟨c0,c1,c2,c3,c4⟩:=(R1.out.below (aj _)).two.box.c;obtain⟨x0,x1,x2⟩:=(R1.out.below (aj _)).aH.c;obtain⟨dC,dD,bl,du,dE⟩:=R1.out.ne;have dg:p≠q:=R1.out.two.ne;have gD:q≠p:=qa dg;have jd:p≠r:=qa dC;have je:q≠r:=qa dD;have cW:p≠x:=qa bl;have ik:q≠x:=qa du;have jf:x≠r:=qa dE;have U:=J (iR _ _ mo u _ _ _ _ _ _ (R1.out.below (aj _)).two.rows (R1.out.below (aj _)).two.cl s hs oW.out);have R2:=J (R1.out.below (aj _));clear R1
    go_region_held3(λw'=>w'.cell? ⟨p,0,none⟩=some (.int .i64 (mo:Int))/\w'.cell? ⟨p,1,none⟩=some (.int .i64 (u:Int))/\w'.cell? ⟨p,2,none⟩=some (.slice n9.A n9.n n9.c)/\w'.cell? ⟨p,3,none⟩=some (.slice a.A a.n a.c)/\w'.cell? ⟨p,4,none⟩=some (.slice g.A g.n g.c)/\w'.cell? ⟨x,0,none⟩=some (.bool aF)/\w'.cell? ⟨x,1,none⟩=some (.string ⟨#[]⟩)/\w'.cell? ⟨x,2,none⟩=some (.bool false)) (first|(with_reducible exact⟨z0,z1,z2,z3,z4,z5,z6,z7⟩)|(with_reducible exact⟨c0,c1,c2,c3,c4,x0,x1,x2⟩)|go_keep)
     ((go_at_call 94;refine U.out.mono ?_;rintro e V5 ⟨n4,a4,g4,rfl,eF,B4⟩;have T4:=J (xy (R2.out.below B4) eF);obtain⟨z0,z1,z2,z3,z4⟩:=T4.out.1.two.box.c;obtain⟨z5,z6,z7⟩:=T4.out.1.aH.c;obtain⟨⟨k0,k1,k2,k3,k4⟩,f0,f1,f2,f3,f4⟩:=T4.out.1.two.gp;obtain⟨r0,r1,r2⟩:=T4.out.1.res.c;obtain⟨g0,g1,lV⟩:=T4.out.1.res.f;clear eF B4))
    all_goals
     have F:=J (T4.out.1.out (mo':=mo) (t':=u) (P0:=P) (λk hk=>hk.1.1.1) T4.out.2);go_wp2_with fail
     (try simp only[Exit.inBlock,Exit.then]);refine bodyPost_ret (aP rfl _ _ _ ⟨q,0,none⟩ ⟨r,0,none⟩ _ _ rfl (bf F.out.1) rfl (cL F.out.2.1)) rfl ?_;exact⟨_,_,_,rfl,F.out.2.2.1,F.out.2.2.2⟩
 |false=>
  have hu:u=t:=by have:=HU.out;rw[hd] at this;unfold nT at this;rwa[if_neg (λh=>by cases h.1)] at this
  rw[hd] at y2;clear KY NY HU hd;subst hu;go_upto_region 13 with fail
  clear c0 c1 c2 c3 c4 y0 y1 y2;obtain⟨c0,c1,c2,c3,c4⟩:=R1.out.two.box.c;have U:=J (cE _ _ n N s R1.out.two.rows.n (by omega) R1.out.two.cl);go_wp2_with fail
  refine U.out.mono ?_;rintro e V1 ⟨n9,rfl,k9,B9⟩;have R2:=J ((R1.out.below B9).j1 k9);obtain⟨d0,d1,d2,d3,d4⟩:=(R1.out.below B9).two.box.c;obtain⟨f0,f1,f2,f3,f4⟩:=(R1.out.below B9).two.box.f;clear c0 c1 c2 c3 c4 k9 B9 R1 U;go_upto_region 14 with fail
  clear d0 d1 d2 d3 d4 f0 f1 f2 f3 f4;generalize V1.setCell ⟨p,2,none⟩ (.slice n9.A n9.n n9.c)=V2 at R2|-;have R1:=J R2.out;clear R2;obtain⟨c0,c1,c2,c3,c4⟩:=(R1.out.below (aj _)).two.box.c;obtain⟨x0,x1,x2⟩:=(R1.out.below (aj _)).aH.c;obtain⟨dC,dD,bl,du,dE⟩:=R1.out.ne;have dg:p≠q:=R1.out.two.ne;have gD:q≠p:=qa dg;have jd:p≠r:=qa dC;have je:q≠r:=qa dD;have cW:p≠x:=qa bl;have ik:q≠x:=qa du;have jf:x≠r:=qa dE;have U:=J (iR _ _ mo u _ _ _ _ _ _ (R1.out.below (aj _)).two.rows (R1.out.below (aj _)).two.cl s hs oW.out);have R2:=J (R1.out.below (aj _));clear R1
  go_region_held3(λw'=>w'.cell? ⟨p,0,none⟩=some (.int .i64 (mo:Int))/\w'.cell? ⟨p,1,none⟩=some (.int .i64 (u:Int))/\w'.cell? ⟨p,2,none⟩=some (.slice n9.A n9.n n9.c)/\w'.cell? ⟨p,3,none⟩=some (.slice a.A a.n a.c)/\w'.cell? ⟨p,4,none⟩=some (.slice g.A g.n g.c)/\w'.cell? ⟨x,0,none⟩=some (.bool aF)/\w'.cell? ⟨x,1,none⟩=some (.string ⟨#[]⟩)/\w'.cell? ⟨x,2,none⟩=some (.bool false)) (first|(with_reducible exact⟨z0,z1,z2,z3,z4,z5,z6,z7⟩)|(with_reducible exact⟨c0,c1,c2,c3,c4,x0,x1,x2⟩)|go_keep)
   ((go_at_call 94;refine U.out.mono ?_;rintro e V5 ⟨n4,a4,g4,rfl,eF,B4⟩;have T4:=J (xy (R2.out.below B4) eF);obtain⟨z0,z1,z2,z3,z4⟩:=T4.out.1.two.box.c;obtain⟨z5,z6,z7⟩:=T4.out.1.aH.c;obtain⟨⟨k0,k1,k2,k3,k4⟩,f0,f1,f2,f3,f4⟩:=T4.out.1.two.gp;obtain⟨r0,r1,r2⟩:=T4.out.1.res.c;obtain⟨g0,g1,lV⟩:=T4.out.1.res.f;clear eF B4))
  all_goals
   have F:=J (T4.out.1.out (mo':=mo) (t':=u) (P0:=P) (λk hk=>hk.1.1.1) T4.out.2);go_wp2_with fail
   (try simp only[Exit.inBlock,Exit.then]);refine bodyPost_ret (aP rfl _ _ _ ⟨q,0,none⟩ ⟨r,0,none⟩ _ _ rfl (bf F.out.1) rfl (cL F.out.2.1)) rfl ?_;exact⟨_,_,_,rfl,F.out.2.2.1,F.out.2.2.2⟩
end
end SR
namespace SR
open Go.RowKit Sg
section
variable(w:zw)(P:Nat->Prop)(mo t:Nat)(n a g:Sl)(N A G:List KE)(h:Rw w P n a g N A G)(hP:Cl w P)(s:zy)(hs:s.size<=maxLen)(hm:mo≠0)(ey:mo<=9223372036854775807)(ht:t<=9223372036854775807)(hl:N.length+A.length<=1700)(iY:G.length<=1700)
include h hP hm hl hs iY
theorem AQ(aF:Bool)(hh:(cV N s||cV A s)=aF)(hA:cV A s=false)(hN:cV N s=false)(hG:cV G s=false)(zQ:N.length+A.length < mo):Calls prog 53 #[aU mo t n a g,.string s] w (CT w P (λv=> .tuple #[v,gE aF ⟨#[]⟩ false]) mo t (⟨s,false,false⟩::N) A (wo G s)):=by
 have jN:=h.n.len;have j2:=h.a.len;obtain⟨m,iX⟩:=zx (N.length+A.length);have nH:IntKind.i64.wrap ((n.n:Int)+(a.n:Int))=(m:Int):=by rw[qi _ (by omega)];omega
 have em:decide (mo<=m)=false:=by simp;omega
 have Ni:=zs (N.length<=1900) (by omega);have Nj:=J (xy hl iY);clear jN j2 iX zQ;have e9:((mo:Int)==0)=false:=by simp;omega
 have e8:(mo==0)=false:=by simp;omega
 have R0:=J (RQ.start h hP mo t);clear h hP;go_enter func53,ntmps53;go_upto_region 2 with fail
 generalize(((w.alloc (aM mo t n a g)).alloc cK).alloc (fw false ⟨#[]⟩ false)).alloc (fw false ⟨#[]⟩ false)=W at R0|-;generalize w.heap.size+1+1+1=x at R0|-;generalize w.heap.size+1+1=r at R0|-;generalize w.heap.size+1=q at R0|-;obtain⟨p,hp⟩:=zx w.heap.size;rw[← hp] at R0|-;clear hp;obtain⟨c0,c1,c2,c3,c4⟩:=R0.out.two.box.c;have U:=J (et W _ mo t n a g N A G R0.out.two.rows s);rw[hh] at U;go_wp2_with fail
 refine U.out.mono ?_;rintro e W1 ⟨rfl,B1⟩;have R1:=J ((R0.out.below B1).dO aF);obtain⟨x0,_,_⟩:=(R0.out.below B1).aH.c;obtain⟨g0,_,_⟩:=(R0.out.below B1).aH.f;clear c0 c1 c2 c3 c4 B1 R0 U;go_upto_region 3 with fail
 clear x0 g0;generalize W1.setCell ⟨x,0,none⟩ (.bool aF)=W2 at R1|-;obtain⟨c0,c1,c2,c3,c4⟩:=R1.out.two.box.c;have V:=cH _ _ a A s R1.out.two.rows.a;rw[hA] at V;have V:=J V;go_wp2_with fail
 refine V.out.mono ?_;rintro e W3 ⟨rfl,B3⟩;have b4:=B3.trans (((zo W3.heap.size W3).alloc (zg _) (bE (fk A s))).mono B3.size);have R2:=J (R1.out.below b4);have KY:=zs (bQ (W3.alloc (bE (fk A s))) W3.heap.size (fk A s)) (heap_alloc_new _ _);have NY:=zs (W3.heap.size≠p/\W3.heap.size≠x) (by have:=(R1.out.below B3).two.box.lt;have:=(R1.out.below B3).aH.lt;omega);clear c0 c1 c2 c3 c4 B3 b4 V R1;go_upto_region 9 with fail
 generalize W3.alloc (bE (fk A s))=W4 at R2 KY|-;generalize W3.heap.size=y at KY NY|-;have R1:=J R2.out;clear R2;obtain⟨c0,c1,c2,c3,c4⟩:=R1.out.two.box.c;clear KY NY;have V:=cH _ _ n N s R1.out.two.rows.n;rw[hN] at V;have V:=J V;go_wp2_with fail
 refine V.out.mono ?_;rintro e W3 ⟨rfl,B3⟩;have b4:=B3.trans (((zo W3.heap.size W3).alloc (zg _) (bE (fk N s))).mono B3.size);have R2:=J (R1.out.below b4);have KY:=zs (bQ (W3.alloc (bE (fk N s))) W3.heap.size (fk N s)) (heap_alloc_new _ _);have NY:=zs (W3.heap.size≠p/\W3.heap.size≠x) (by have:=(R1.out.below B3).two.box.lt;have:=(R1.out.below B3).aH.lt;omega);clear c0 c1 c2 c3 c4 B3 b4 V R1;go_upto_region 15 with fail
 generalize W3.alloc (bE (fk N s))=W4 at R2 KY|-;generalize W3.heap.size=y at KY NY|-;have R1:=J R2.out;clear R2;obtain⟨c0,c1,c2,c3,c4⟩:=R1.out.two.box.c;clear KY NY;have V:=cH _ _ g G s R1.out.two.rows.g;rw[hG] at V;have V:=J V;go_wp2_with fail
 refine V.out.mono ?_;rintro e W3 ⟨rfl,B3⟩;have b4:=B3.trans (((zo W3.heap.size W3).alloc (zg _) (bE (fk G s))).mono B3.size);have R2:=J (R1.out.below b4);have KY:=zs (bQ (W3.alloc (bE (fk G s))) W3.heap.size (fk G s)) (heap_alloc_new _ _);have NY:=zs (W3.heap.size≠p/\W3.heap.size≠x) (by have:=(R1.out.below B3).two.box.lt;have:=(R1.out.below B3).aH.lt;omega);clear c0 c1 c2 c3 c4 B3 b4 V R1;go_upto_region 16 with fail
 generalize W3.alloc (bE (fk G s))=W4 at R2 KY|-;generalize W3.heap.size=y at KY NY|-;have R1:=J R2.out;clear R2;obtain⟨c0,c1,c2,c3,c4⟩:=R1.out.two.box.c;clear KY NY;go_upto_region 18 with fail
 clear c0 c1 c2 c3 c4;obtain⟨c0,c1,c2,c3,c4⟩:=R1.out.two.box.c;have U:=J (cE _ _ g G s R1.out.two.rows.g (by omega) R1.out.two.cl);go_wp2_with fail
 refine U.out.mono ?_;rintro e V1 ⟨n9,rfl,k9,B9⟩;have R2:=J ((R1.out.below B9).iI k9);obtain⟨d0,d1,d2,d3,d4⟩:=(R1.out.below B9).two.box.c;obtain⟨f0,f1,f2,f3,f4⟩:=(R1.out.below B9).two.box.f;clear c0 c1 c2 c3 c4 k9 B9 R1 U;go_upto_region 19 with fail
 clear d0 d1 d2 d3 d4 f0 f1 f2 f3 f4;generalize V1.setCell ⟨p,4,none⟩ (.slice n9.A n9.n n9.c)=V2 at R2|-;have R1:=J R2.out;clear R2;obtain⟨c0,c1,c2,c3,c4⟩:=R1.out.two.box.c;go_upto_region 24 with fail
 clear c0 c1 c2 c3 c4;obtain⟨c0,c1,c2,c3,c4⟩:=R1.out.two.box.c;have U:=J (kC _ _ n _ ⟨s,false,false⟩ R1.out.two.rows.n Ni.out hs R1.out.two.cl);go_wp2_with fail
 refine U.out.mono ?_;rintro e V6 ⟨n8,rfl,k8,B8⟩;have R2:=J ((R1.out.below B8).j1 k8);obtain⟨d0,d1,d2,d3,d4⟩:=(R1.out.below B8).two.box.c;obtain⟨f0,f1,f2,f3,f4⟩:=(R1.out.below B8).two.box.f;clear c0 c1 c2 c3 c4 k8 B8 R1 U;go_upto_region 25 with fail
 clear d0 d1 d2 d3 d4 f0 f1 f2 f3 f4;generalize V6.setCell ⟨p,2,none⟩ (.slice n8.A n8.n n8.c)=V7 at R2|-;have R1:=J R2.out;clear R2;(try go_upto_region 25 with fail);obtain⟨c0,c1,c2,c3,c4⟩:=R1.out.two.box.c;obtain⟨x0,x1,x2⟩:=R1.out.aH.c;obtain⟨⟨k0,k1,k2,k3,k4⟩,f0,f1,f2,f3,f4⟩:=R1.out.two.gp;obtain⟨r0,r1,r2⟩:=R1.out.res.c;obtain⟨g0,g1,lV⟩:=R1.out.res.f;obtain⟨dC,dD,bl,du,dE⟩:=R1.out.ne;have dg:p≠q:=R1.out.two.ne;have gD:q≠p:=qa dg;have jd:p≠r:=qa dC;have je:q≠r:=qa dD;have cW:p≠x:=qa bl;have ik:q≠x:=qa du;have jf:x≠r:=qa dE;go_region;have F:=J (R1.out.C7 (P0:=P) (λk hk=>hk.1.1.1));go_wp2_with fail
 (try simp only[Exit.inBlock,Exit.then]);refine bodyPost_ret (aP rfl _ _ _ ⟨q,0,none⟩ ⟨r,0,none⟩ _ _ rfl (bf (F.out.1.below (aj _))) rfl (cL (F.out.2.1.below (aj _)))) rfl ?_;exact⟨_,_,_,rfl,F.out.2.2.1.drew,F.out.2.2.2.trans ((aj _).mono F.out.2.2.2.size)⟩
include ey
theorem AU(aF:Bool)(hh:(cV N s||cV A s)=aF)(hA:cV A s=false)(hN:cV N s=false)(hG:cV G s=false)(zQ:mo<=N.length+A.length):Calls prog 53 #[aU mo t n a g,.string s] w (CT w P (λv=> .tuple #[v,gE aF (vK N A).s true]) mo t (⟨s,false,false⟩::iJ N) (jc N A) (((⟨(vK N A).s,(vK N A).o,false⟩:KE)::wo G s).take mo)):=by
 have jN:=h.n.len;have j2:=h.a.len;obtain⟨m,iX⟩:=zx (N.length+A.length);have nH:IntKind.i64.wrap ((n.n:Int)+(a.n:Int))=(m:Int):=by rw[qi _ (by omega)];omega
 have em:decide (mo<=m)=true:=by simp;omega
 have EK:=zs (N++A≠ []) (λh=>by have:=congrArg List.length h;rw[zh] at this;simp only[ql] at this;omega);have EL:=zs (mo<=9223372036854775807) (by omega);have yJ:=zs ((wo G s).length<=1800) (by have:=uN G s;omega);have Ni:=zs ((iJ N).length<=1900) (by unfold iJ;rw[List.length_dropLast];omega);have Nj:=J (xy hl iY);clear jN j2 iX zQ;have e9:((mo:Int)==0)=false:=by simp;omega
 have e8:(mo==0)=false:=by simp;omega
 have R0:=J (RQ.start h hP mo t);clear h hP;go_enter func53,ntmps53;go_upto_region 2 with fail
 generalize(((w.alloc (aM mo t n a g)).alloc cK).alloc (fw false ⟨#[]⟩ false)).alloc (fw false ⟨#[]⟩ false)=W at R0|-;generalize w.heap.size+1+1+1=x at R0|-;generalize w.heap.size+1+1=r at R0|-;generalize w.heap.size+1=q at R0|-;obtain⟨p,hp⟩:=zx w.heap.size;rw[← hp] at R0|-;clear hp;obtain⟨c0,c1,c2,c3,c4⟩:=R0.out.two.box.c;have U:=J (et W _ mo t n a g N A G R0.out.two.rows s);rw[hh] at U;go_wp2_with fail
 refine U.out.mono ?_;rintro e W1 ⟨rfl,B1⟩;have R1:=J ((R0.out.below B1).dO aF);obtain⟨x0,_,_⟩:=(R0.out.below B1).aH.c;obtain⟨g0,_,_⟩:=(R0.out.below B1).aH.f;clear c0 c1 c2 c3 c4 B1 R0 U;go_upto_region 3 with fail
 clear x0 g0;generalize W1.setCell ⟨x,0,none⟩ (.bool aF)=W2 at R1|-;obtain⟨c0,c1,c2,c3,c4⟩:=R1.out.two.box.c;have V:=cH _ _ a A s R1.out.two.rows.a;rw[hA] at V;have V:=J V;go_wp2_with fail
 refine V.out.mono ?_;rintro e W3 ⟨rfl,B3⟩;have b4:=B3.trans (((zo W3.heap.size W3).alloc (zg _) (bE (fk A s))).mono B3.size);have R2:=J (R1.out.below b4);have KY:=zs (bQ (W3.alloc (bE (fk A s))) W3.heap.size (fk A s)) (heap_alloc_new _ _);have NY:=zs (W3.heap.size≠p/\W3.heap.size≠x) (by have:=(R1.out.below B3).two.box.lt;have:=(R1.out.below B3).aH.lt;omega);clear c0 c1 c2 c3 c4 B3 b4 V R1;go_upto_region 9 with fail
 generalize W3.alloc (bE (fk A s))=W4 at R2 KY|-;generalize W3.heap.size=y at KY NY|-;have R1:=J R2.out;clear R2;obtain⟨c0,c1,c2,c3,c4⟩:=R1.out.two.box.c;clear KY NY;have V:=cH _ _ n N s R1.out.two.rows.n;rw[hN] at V;have V:=J V;go_wp2_with fail
 refine V.out.mono ?_;rintro e W3 ⟨rfl,B3⟩;have b4:=B3.trans (((zo W3.heap.size W3).alloc (zg _) (bE (fk N s))).mono B3.size);have R2:=J (R1.out.below b4);have KY:=zs (bQ (W3.alloc (bE (fk N s))) W3.heap.size (fk N s)) (heap_alloc_new _ _);have NY:=zs (W3.heap.size≠p/\W3.heap.size≠x) (by have:=(R1.out.below B3).two.box.lt;have:=(R1.out.below B3).aH.lt;omega);clear c0 c1 c2 c3 c4 B3 b4 V R1;go_upto_region 15 with fail
 generalize W3.alloc (bE (fk N s))=W4 at R2 KY|-;generalize W3.heap.size=y at KY NY|-;have R1:=J R2.out;clear R2;obtain⟨c0,c1,c2,c3,c4⟩:=R1.out.two.box.c;clear KY NY;have V:=cH _ _ g G s R1.out.two.rows.g;rw[hG] at V;have V:=J V;go_wp2_with fail
 refine V.out.mono ?_;rintro e W3 ⟨rfl,B3⟩;have b4:=B3.trans (((zo W3.heap.size W3).alloc (zg _) (bE (fk G s))).mono B3.size);have R2:=J (R1.out.below b4);have KY:=zs (bQ (W3.alloc (bE (fk G s))) W3.heap.size (fk G s)) (heap_alloc_new _ _);have NY:=zs (W3.heap.size≠p/\W3.heap.size≠x) (by have:=(R1.out.below B3).two.box.lt;have:=(R1.out.below B3).aH.lt;omega);clear c0 c1 c2 c3 c4 B3 b4 V R1;go_upto_region 16 with fail
 generalize W3.alloc (bE (fk G s))=W4 at R2 KY|-;generalize W3.heap.size=y at KY NY|-;have R1:=J R2.out;clear R2;obtain⟨c0,c1,c2,c3,c4⟩:=R1.out.two.box.c;clear KY NY;go_upto_region 18 with fail
 clear c0 c1 c2 c3 c4;obtain⟨c0,c1,c2,c3,c4⟩:=R1.out.two.box.c;have U:=J (cE _ _ g G s R1.out.two.rows.g (by omega) R1.out.two.cl);go_wp2_with fail
 refine U.out.mono ?_;rintro e V1 ⟨n9,rfl,k9,B9⟩;have R2:=J ((R1.out.below B9).iI k9);obtain⟨d0,d1,d2,d3,d4⟩:=(R1.out.below B9).two.box.c;obtain⟨f0,f1,f2,f3,f4⟩:=(R1.out.below B9).two.box.f;clear c0 c1 c2 c3 c4 k9 B9 R1 U;go_upto_region 19 with fail
 clear d0 d1 d2 d3 d4 f0 f1 f2 f3 f4;generalize V1.setCell ⟨p,4,none⟩ (.slice n9.A n9.n n9.c)=V2 at R2|-;have R1:=J R2.out;clear R2;obtain⟨c0,c1,c2,c3,c4⟩:=R1.out.two.box.c;go_upto_region 20 with fail
 clear c0 c1 c2 c3 c4;obtain⟨c0,c1,c2,c3,c4⟩:=R1.out.two.box.c;have U:=J (oV _ _ mo t _ _ _ _ _ _ R1.out.two.rows R1.out.two.cl EK.out EL.out yJ.out);go_wp2_with fail
 refine U.out.mono ?_;rintro e V3 ⟨n3,a3,g3,rfl,ly,B3⟩;have r1:=R1.out.below B3;have R2:=J ((r1.dj (mo':=mo) (t':=t) ly).eR (vK N A).s);obtain⟨d0,d1,d2,d3,d4⟩:=r1.two.box.c;obtain⟨f0,f1,f2,f3,f4⟩:=r1.two.box.f;obtain⟨_,x1,_⟩:=r1.aH.c;obtain⟨_,h1,_⟩:=r1.aH.f;have cW:p≠x:=qa r1.ne.2.2.1;have bl:x≠p:=r1.ne.2.2.1;clear c0 c1 c2 c3 c4 ly B3 R1 U r1;go_upto_region 21 with fail
 clear d0 d1 d2 d3 d4 f0 f1 f2 f3 f4 x1 h1 cW bl;dsimp only[cR] at R2;generalize(((((V3.setCell ⟨p,0,none⟩ (.int .i64 (mo:Int))).setCell ⟨p,1,none⟩ (.int .i64 (t:Int))).setCell ⟨p,2,none⟩ (.slice n3.A n3.n n3.c)).setCell ⟨p,3,none⟩ (.slice a3.A a3.n a3.c)).setCell ⟨p,4,none⟩ (.slice g3.A g3.n g3.c)).setCell ⟨x,1,none⟩ (.string (vK N A).s)=V4 at R2|-;obtain⟨_,_,x2⟩:=R2.out.aH.c;obtain⟨_,_,h2⟩:=R2.out.aH.f;have R3:=J (R2.out.fg true);clear R2;go_upto_region 22 with fail
 clear x2 h2;generalize V4.setCell ⟨x,2,none⟩ (.bool true)=V5 at R3|-;have R1:=J R3.out;clear R3;go_upto_region 24 with fail
 obtain⟨c0,c1,c2,c3,c4⟩:=R1.out.two.box.c;have U:=J (kC _ _ n3 _ ⟨s,false,false⟩ R1.out.two.rows.n Ni.out hs R1.out.two.cl);go_wp2_with fail
 refine U.out.mono ?_;rintro e V6 ⟨n8,rfl,k8,B8⟩;have R2:=J ((R1.out.below B8).j1 k8);obtain⟨d0,d1,d2,d3,d4⟩:=(R1.out.below B8).two.box.c;obtain⟨f0,f1,f2,f3,f4⟩:=(R1.out.below B8).two.box.f;clear c0 c1 c2 c3 c4 k8 B8 R1 U;go_upto_region 25 with fail
 clear d0 d1 d2 d3 d4 f0 f1 f2 f3 f4;generalize V6.setCell ⟨p,2,none⟩ (.slice n8.A n8.n n8.c)=V7 at R2|-;have R1:=J R2.out;clear R2;(try go_upto_region 25 with fail);obtain⟨c0,c1,c2,c3,c4⟩:=R1.out.two.box.c;obtain⟨x0,x1,x2⟩:=R1.out.aH.c;obtain⟨⟨k0,k1,k2,k3,k4⟩,f0,f1,f2,f3,f4⟩:=R1.out.two.gp;obtain⟨r0,r1,r2⟩:=R1.out.res.c;obtain⟨g0,g1,lV⟩:=R1.out.res.f;obtain⟨dC,dD,bl,du,dE⟩:=R1.out.ne;have dg:p≠q:=R1.out.two.ne;have gD:q≠p:=qa dg;have jd:p≠r:=qa dC;have je:q≠r:=qa dD;have cW:p≠x:=qa bl;have ik:q≠x:=qa du;have jf:x≠r:=qa dE;go_region;have F:=J (R1.out.C7 (P0:=P) (λk hk=>hk.1.1.1));go_wp2_with fail
 (try simp only[Exit.inBlock,Exit.then]);refine bodyPost_ret (aP rfl _ _ _ ⟨q,0,none⟩ ⟨r,0,none⟩ _ _ rfl (bf (F.out.1.below (aj _))) rfl (cL (F.out.2.1.below (aj _)))) rfl ?_;exact⟨_,_,_,rfl,F.out.2.2.1.drew,F.out.2.2.2.trans ((aj _).mono F.out.2.2.2.size)⟩
end
end SR
namespace SR
open Go.RowKit Sg
section
variable(w:zw)(P:Nat->Prop)(mo t:Nat)(n a g:Sl)(N A G:List KE)(h:Rw w P n a g N A G)(hP:Cl w P)(s:zy)(hs:s.size<=maxLen)(hm:mo≠0)(ey:mo<=9223372036854775807)(ht:t<=9223372036854775807)(hl:N.length+A.length<=1700)(iY:G.length<=1700)
include h hP hm hl hs iY
include ht
theorem xH(aF:Bool)(hh:(cV N s||cV A s)=aF)(hA:cV A s=false)(hN:cV N s=false)(hG:cV G s=true)(zQ:N.length+A.length < mo):Calls prog 53 #[aU mo t n a g,.string s] w (CT w P (λv=> .tuple #[v,gE aF ⟨#[]⟩ false]) mo (gT t true (fk G s).o) (wP (gT t true (fk G s).o) N (⟨s,true,false⟩::A)) (wQ (gT t true (fk G s).o) (⟨s,true,false⟩::A)) (wo G s)):=by
 obtain⟨u,hu⟩:=zx (gT t true (fk G s).o);rw[← hu];have HU:=J hu;clear hu;have jN:=h.n.len;have j2:=h.a.len;obtain⟨m,iX⟩:=zx (N.length+A.length);have nH:IntKind.i64.wrap ((n.n:Int)+(a.n:Int))=(m:Int):=by rw[qi _ (by omega)];omega
 have em:decide (mo<=m)=false:=by simp;omega
 have oW:=zs (N.length+A.length<=1800) (by omega);have Nj:=J (xy hl iY);clear jN j2 iX zQ;have e9:((mo:Int)==0)=false:=by simp;omega
 have e8:(mo==0)=false:=by simp;omega
 have R0:=J (RQ.start h hP mo t);clear h hP;go_enter func53,ntmps53;go_upto_region 2 with fail
 generalize(((w.alloc (aM mo t n a g)).alloc cK).alloc (fw false ⟨#[]⟩ false)).alloc (fw false ⟨#[]⟩ false)=W at R0|-;generalize w.heap.size+1+1+1=x at R0|-;generalize w.heap.size+1+1=r at R0|-;generalize w.heap.size+1=q at R0|-;obtain⟨p,hp⟩:=zx w.heap.size;rw[← hp] at R0|-;clear hp;obtain⟨c0,c1,c2,c3,c4⟩:=R0.out.two.box.c;have U:=J (et W _ mo t n a g N A G R0.out.two.rows s);rw[hh] at U;go_wp2_with fail
 refine U.out.mono ?_;rintro e W1 ⟨rfl,B1⟩;have R1:=J ((R0.out.below B1).dO aF);obtain⟨x0,_,_⟩:=(R0.out.below B1).aH.c;obtain⟨g0,_,_⟩:=(R0.out.below B1).aH.f;clear c0 c1 c2 c3 c4 B1 R0 U;go_upto_region 3 with fail
 clear x0 g0;generalize W1.setCell ⟨x,0,none⟩ (.bool aF)=W2 at R1|-;obtain⟨c0,c1,c2,c3,c4⟩:=R1.out.two.box.c;have V:=cH _ _ a A s R1.out.two.rows.a;rw[hA] at V;have V:=J V;go_wp2_with fail
 refine V.out.mono ?_;rintro e W3 ⟨rfl,B3⟩;have b4:=B3.trans (((zo W3.heap.size W3).alloc (zg _) (bE (fk A s))).mono B3.size);have R2:=J (R1.out.below b4);have KY:=zs (bQ (W3.alloc (bE (fk A s))) W3.heap.size (fk A s)) (heap_alloc_new _ _);have NY:=zs (W3.heap.size≠p/\W3.heap.size≠x) (by have:=(R1.out.below B3).two.box.lt;have:=(R1.out.below B3).aH.lt;omega);clear c0 c1 c2 c3 c4 B3 b4 V R1;go_upto_region 9 with fail
 generalize W3.alloc (bE (fk A s))=W4 at R2 KY|-;generalize W3.heap.size=y at KY NY|-;have R1:=J R2.out;clear R2;obtain⟨c0,c1,c2,c3,c4⟩:=R1.out.two.box.c;clear KY NY;have V:=cH _ _ n N s R1.out.two.rows.n;rw[hN] at V;have V:=J V;go_wp2_with fail
 refine V.out.mono ?_;rintro e W3 ⟨rfl,B3⟩;have b4:=B3.trans (((zo W3.heap.size W3).alloc (zg _) (bE (fk N s))).mono B3.size);have R2:=J (R1.out.below b4);have KY:=zs (bQ (W3.alloc (bE (fk N s))) W3.heap.size (fk N s)) (heap_alloc_new _ _);have NY:=zs (W3.heap.size≠p/\W3.heap.size≠x) (by have:=(R1.out.below B3).two.box.lt;have:=(R1.out.below B3).aH.lt;omega);clear c0 c1 c2 c3 c4 B3 b4 V R1;go_upto_region 15 with fail
 generalize W3.alloc (bE (fk N s))=W4 at R2 KY|-;generalize W3.heap.size=y at KY NY|-;have R1:=J R2.out;clear R2;obtain⟨c0,c1,c2,c3,c4⟩:=R1.out.two.box.c;clear KY NY;have V:=cH _ _ g G s R1.out.two.rows.g;rw[hG] at V;have V:=J V;go_wp2_with fail
 refine V.out.mono ?_;rintro e W3 ⟨rfl,B3⟩;have b4:=B3.trans (((zo W3.heap.size W3).alloc (zg _) (bE (fk G s))).mono B3.size);have R2:=J (R1.out.below b4);have KY:=zs (bQ (W3.alloc (bE (fk G s))) W3.heap.size (fk G s)) (heap_alloc_new _ _);have NY:=zs (W3.heap.size≠p/\W3.heap.size≠x) (by have:=(R1.out.below B3).two.box.lt;have:=(R1.out.below B3).aH.lt;omega);clear c0 c1 c2 c3 c4 B3 b4 V R1;go_upto_region 16 with fail
 generalize W3.alloc (bE (fk G s))=W4 at R2 KY|-;generalize W3.heap.size=y at KY NY|-;have R1:=J R2.out;clear R2;obtain⟨c0,c1,c2,c3,c4⟩:=R1.out.two.box.c;obtain⟨_,y1,_⟩:=KY.out.c;cases hd:(fk G s).o with
 |true=>
  have hu:u=t:=by have:=HU.out;rw[hd] at this;unfold gT at this;rwa[if_neg (λh=>by cases h.2.1)] at this
  rw[hd] at y1;clear KY NY HU hd;subst hu;go_upto_region 18 with fail
  clear c0 c1 c2 c3 c4 y1;obtain⟨c0,c1,c2,c3,c4⟩:=R1.out.two.box.c;have U:=J (cE _ _ g G s R1.out.two.rows.g (by omega) R1.out.two.cl);go_wp2_with fail
  refine U.out.mono ?_;rintro e V1 ⟨n9,rfl,k9,B9⟩;have R2:=J ((R1.out.below B9).iI k9);obtain⟨d0,d1,d2,d3,d4⟩:=(R1.out.below B9).two.box.c;obtain⟨f0,f1,f2,f3,f4⟩:=(R1.out.below B9).two.box.f;clear c0 c1 c2 c3 c4 k9 B9 R1 U;go_upto_region 19 with fail
  clear d0 d1 d2 d3 d4 f0 f1 f2 f3 f4;generalize V1.setCell ⟨p,4,none⟩ (.slice n9.A n9.n n9.c)=V2 at R2|-;have R1:=J R2.out;clear R2;obtain⟨c0,c1,c2,c3,c4⟩:=R1.out.two.box.c;go_upto_region 23 with fail
  clear c0 c1 c2 c3 c4;obtain⟨c0,c1,c2,c3,c4⟩:=(R1.out.below (aj _)).two.box.c;obtain⟨x0,x1,x2⟩:=(R1.out.below (aj _)).aH.c;obtain⟨dC,dD,bl,du,dE⟩:=R1.out.ne;have dg:p≠q:=R1.out.two.ne;have gD:q≠p:=qa dg;have jd:p≠r:=qa dC;have je:q≠r:=qa dD;have cW:p≠x:=qa bl;have ik:q≠x:=qa du;have jf:x≠r:=qa dE;have U:=J (iR _ _ mo u _ _ _ _ _ _ (R1.out.below (aj _)).two.rows (R1.out.below (aj _)).two.cl s hs oW.out);have R2:=J (R1.out.below (aj _));clear R1
  go_region_held3(λw'=>w'.cell? ⟨p,0,none⟩=some (.int .i64 (mo:Int))/\w'.cell? ⟨p,1,none⟩=some (.int .i64 (u:Int))/\w'.cell? ⟨p,2,none⟩=some (.slice n.A n.n n.c)/\w'.cell? ⟨p,3,none⟩=some (.slice a.A a.n a.c)/\w'.cell? ⟨p,4,none⟩=some (.slice n9.A n9.n n9.c)/\w'.cell? ⟨x,0,none⟩=some (.bool aF)/\w'.cell? ⟨x,1,none⟩=some (.string ⟨#[]⟩)/\w'.cell? ⟨x,2,none⟩=some (.bool false)) (first|(with_reducible exact⟨z0,z1,z2,z3,z4,z5,z6,z7⟩)|(with_reducible exact⟨c0,c1,c2,c3,c4,x0,x1,x2⟩)|go_keep)
   ((go_at_call 94;refine U.out.mono ?_;rintro e V5 ⟨n4,a4,g4,rfl,eF,B4⟩;have T4:=J (xy (R2.out.below B4) eF);obtain⟨z0,z1,z2,z3,z4⟩:=T4.out.1.two.box.c;obtain⟨z5,z6,z7⟩:=T4.out.1.aH.c;obtain⟨⟨k0,k1,k2,k3,k4⟩,f0,f1,f2,f3,f4⟩:=T4.out.1.two.gp;obtain⟨r0,r1,r2⟩:=T4.out.1.res.c;obtain⟨g0,g1,lV⟩:=T4.out.1.res.f;clear eF B4))
  all_goals
   have F:=J (T4.out.1.out (mo':=mo) (t':=u) (P0:=P) (λk hk=>hk.1.1.1) T4.out.2);go_wp2_with fail
   (try simp only[Exit.inBlock,Exit.then]);refine bodyPost_ret (aP rfl _ _ _ ⟨q,0,none⟩ ⟨r,0,none⟩ _ _ rfl (bf F.out.1) rfl (cL F.out.2.1)) rfl ?_;exact⟨_,_,_,rfl,F.out.2.2.1,F.out.2.2.2⟩
 |false=>
  by_cases lW:1 < t
  . have hu:u=t - 1:=by have:=HU.out;rw[hd] at this;unfold gT at this;rwa[if_pos ⟨rfl,rfl,lW⟩] at this
    have e1:decide ((1:Int) < (t:Int))=true:=by simp;omega
    have uS:decide (1 < t)=true:=by simp;omega
    have cA:IntKind.i64.wrap ((t:Int) - 1)=(u:Int):=by rw[qi _ (by omega)];omega
    have R2:=J (R1.out.kB u);obtain⟨_,f1,_,_,_⟩:=R1.out.two.box.f;rw[hd] at y1;clear lW hu R1 KY NY HU hd;go_upto_region 18 with fail
    clear c0 c1 c2 c3 c4 y1 f1 e1 uS cA;generalize W4.setCell ⟨p,1,none⟩ (.int .i64 (u:Int))=W5 at R2|-;have R1:=J R2.out;clear R2;obtain⟨c0,c1,c2,c3,c4⟩:=R1.out.two.box.c;have U:=J (cE _ _ g G s R1.out.two.rows.g (by omega) R1.out.two.cl);go_wp2_with fail
    refine U.out.mono ?_;rintro e V1 ⟨n9,rfl,k9,B9⟩;have R2:=J ((R1.out.below B9).iI k9);obtain⟨d0,d1,d2,d3,d4⟩:=(R1.out.below B9).two.box.c;obtain⟨f0,f1,f2,f3,f4⟩:=(R1.out.below B9).two.box.f;clear c0 c1 c2 c3 c4 k9 B9 R1 U;go_upto_region 19 with fail
    clear d0 d1 d2 d3 d4 f0 f1 f2 f3 f4;generalize V1.setCell ⟨p,4,none⟩ (.slice n9.A n9.n n9.c)=V2 at R2|-;have R1:=J R2.out;clear R2;obtain⟨c0,c1,c2,c3,c4⟩:=R1.out.two.box.c;go_upto_region 23 with fail
    clear c0 c1 c2 c3 c4;obtain⟨c0,c1,c2,c3,c4⟩:=(R1.out.below (aj _)).two.box.c;obtain⟨x0,x1,x2⟩:=(R1.out.below (aj _)).aH.c;obtain⟨dC,dD,bl,du,dE⟩:=R1.out.ne;have dg:p≠q:=R1.out.two.ne;have gD:q≠p:=qa dg;have jd:p≠r:=qa dC;have je:q≠r:=qa dD;have cW:p≠x:=qa bl;have ik:q≠x:=qa du;have jf:x≠r:=qa dE;have U:=J (iR _ _ mo u _ _ _ _ _ _ (R1.out.below (aj _)).two.rows (R1.out.below (aj _)).two.cl s hs oW.out);have R2:=J (R1.out.below (aj _));clear R1
    go_region_held3(λw'=>w'.cell? ⟨p,0,none⟩=some (.int .i64 (mo:Int))/\w'.cell? ⟨p,1,none⟩=some (.int .i64 (u:Int))/\w'.cell? ⟨p,2,none⟩=some (.slice n.A n.n n.c)/\w'.cell? ⟨p,3,none⟩=some (.slice a.A a.n a.c)/\w'.cell? ⟨p,4,none⟩=some (.slice n9.A n9.n n9.c)/\w'.cell? ⟨x,0,none⟩=some (.bool aF)/\w'.cell? ⟨x,1,none⟩=some (.string ⟨#[]⟩)/\w'.cell? ⟨x,2,none⟩=some (.bool false)) (first|(with_reducible exact⟨z0,z1,z2,z3,z4,z5,z6,z7⟩)|(with_reducible exact⟨c0,c1,c2,c3,c4,x0,x1,x2⟩)|go_keep)
     ((go_at_call 94;refine U.out.mono ?_;rintro e V5 ⟨n4,a4,g4,rfl,eF,B4⟩;have T4:=J (xy (R2.out.below B4) eF);obtain⟨z0,z1,z2,z3,z4⟩:=T4.out.1.two.box.c;obtain⟨z5,z6,z7⟩:=T4.out.1.aH.c;obtain⟨⟨k0,k1,k2,k3,k4⟩,f0,f1,f2,f3,f4⟩:=T4.out.1.two.gp;obtain⟨r0,r1,r2⟩:=T4.out.1.res.c;obtain⟨g0,g1,lV⟩:=T4.out.1.res.f;clear eF B4))
    all_goals
     have F:=J (T4.out.1.out (mo':=mo) (t':=u) (P0:=P) (λk hk=>hk.1.1.1) T4.out.2);go_wp2_with fail
     (try simp only[Exit.inBlock,Exit.then]);refine bodyPost_ret (aP rfl _ _ _ ⟨q,0,none⟩ ⟨r,0,none⟩ _ _ rfl (bf F.out.1) rfl (cL F.out.2.1)) rfl ?_;exact⟨_,_,_,rfl,F.out.2.2.1,F.out.2.2.2⟩
  . have hu:u=t:=by have:=HU.out;rw[hd] at this;unfold gT at this;rwa[if_neg (λh=>lW h.2.2)] at this
    have e1:decide ((1:Int) < (t:Int))=false:=by simp;omega
    have uS:decide (1 < t)=false:=by simp;omega
    rw[hd] at y1;clear lW KY NY HU hd;subst hu;go_upto_region 18 with fail
    clear c0 c1 c2 c3 c4 y1 e1 uS;obtain⟨c0,c1,c2,c3,c4⟩:=R1.out.two.box.c;have U:=J (cE _ _ g G s R1.out.two.rows.g (by omega) R1.out.two.cl);go_wp2_with fail
    refine U.out.mono ?_;rintro e V1 ⟨n9,rfl,k9,B9⟩;have R2:=J ((R1.out.below B9).iI k9);obtain⟨d0,d1,d2,d3,d4⟩:=(R1.out.below B9).two.box.c;obtain⟨f0,f1,f2,f3,f4⟩:=(R1.out.below B9).two.box.f;clear c0 c1 c2 c3 c4 k9 B9 R1 U;go_upto_region 19 with fail
    clear d0 d1 d2 d3 d4 f0 f1 f2 f3 f4;generalize V1.setCell ⟨p,4,none⟩ (.slice n9.A n9.n n9.c)=V2 at R2|-;have R1:=J R2.out;clear R2;obtain⟨c0,c1,c2,c3,c4⟩:=R1.out.two.box.c;go_upto_region 23 with fail
    clear c0 c1 c2 c3 c4;obtain⟨c0,c1,c2,c3,c4⟩:=(R1.out.below (aj _)).two.box.c;obtain⟨x0,x1,x2⟩:=(R1.out.below (aj _)).aH.c;obtain⟨dC,dD,bl,du,dE⟩:=R1.out.ne;have dg:p≠q:=R1.out.two.ne;have gD:q≠p:=qa dg;have jd:p≠r:=qa dC;have je:q≠r:=qa dD;have cW:p≠x:=qa bl;have ik:q≠x:=qa du;have jf:x≠r:=qa dE;have U:=J (iR _ _ mo u _ _ _ _ _ _ (R1.out.below (aj _)).two.rows (R1.out.below (aj _)).two.cl s hs oW.out);have R2:=J (R1.out.below (aj _));clear R1
    go_region_held3(λw'=>w'.cell? ⟨p,0,none⟩=some (.int .i64 (mo:Int))/\w'.cell? ⟨p,1,none⟩=some (.int .i64 (u:Int))/\w'.cell? ⟨p,2,none⟩=some (.slice n.A n.n n.c)/\w'.cell? ⟨p,3,none⟩=some (.slice a.A a.n a.c)/\w'.cell? ⟨p,4,none⟩=some (.slice n9.A n9.n n9.c)/\w'.cell? ⟨x,0,none⟩=some (.bool aF)/\w'.cell? ⟨x,1,none⟩=some (.string ⟨#[]⟩)/\w'.cell? ⟨x,2,none⟩=some (.bool false)) (first|(with_reducible exact⟨z0,z1,z2,z3,z4,z5,z6,z7⟩)|(with_reducible exact⟨c0,c1,c2,c3,c4,x0,x1,x2⟩)|go_keep)
     ((go_at_call 94;refine U.out.mono ?_;rintro e V5 ⟨n4,a4,g4,rfl,eF,B4⟩;have T4:=J (xy (R2.out.below B4) eF);obtain⟨z0,z1,z2,z3,z4⟩:=T4.out.1.two.box.c;obtain⟨z5,z6,z7⟩:=T4.out.1.aH.c;obtain⟨⟨k0,k1,k2,k3,k4⟩,f0,f1,f2,f3,f4⟩:=T4.out.1.two.gp;obtain⟨r0,r1,r2⟩:=T4.out.1.res.c;obtain⟨g0,g1,lV⟩:=T4.out.1.res.f;clear eF B4))
    all_goals
     have F:=J (T4.out.1.out (mo':=mo) (t':=u) (P0:=P) (λk hk=>hk.1.1.1) T4.out.2);go_wp2_with fail
     (try simp only[Exit.inBlock,Exit.then]);refine bodyPost_ret (aP rfl _ _ _ ⟨q,0,none⟩ ⟨r,0,none⟩ _ _ rfl (bf F.out.1) rfl (cL F.out.2.1)) rfl ?_;exact⟨_,_,_,rfl,F.out.2.2.1,F.out.2.2.2⟩
include ey
theorem xI(aF:Bool)(hh:(cV N s||cV A s)=aF)(hA:cV A s=false)(hN:cV N s=false)(hG:cV G s=true)(zQ:mo<=N.length+A.length):Calls prog 53 #[aU mo t n a g,.string s] w (CT w P (λv=> .tuple #[v,gE aF (vK N A).s true]) mo (gT t true (fk G s).o) (wP (gT t true (fk G s).o) (iJ N) (⟨s,true,false⟩::jc N A)) (wQ (gT t true (fk G s).o) (⟨s,true,false⟩::jc N A)) (((⟨(vK N A).s,(vK N A).o,false⟩:KE)::wo G s).take mo)):=by
 obtain⟨u,hu⟩:=zx (gT t true (fk G s).o);rw[← hu];have HU:=J hu;clear hu;have jN:=h.n.len;have j2:=h.a.len;obtain⟨m,iX⟩:=zx (N.length+A.length);have nH:IntKind.i64.wrap ((n.n:Int)+(a.n:Int))=(m:Int):=by rw[qi _ (by omega)];omega
 have em:decide (mo<=m)=true:=by simp;omega
 have EK:=zs (N++A≠ []) (λh=>by have:=congrArg List.length h;rw[zh] at this;simp only[ql] at this;omega);have EL:=zs (mo<=9223372036854775807) (by omega);have yJ:=zs ((wo G s).length<=1800) (by have:=uN G s;omega);have oW:=zs ((iJ N).length+(jc N A).length<=1800) (by unfold iJ jc;rw[List.length_dropLast];split <;> (try rw[List.length_dropLast]) <;> omega);have Nj:=J (xy hl iY);clear jN j2 iX zQ;have e9:((mo:Int)==0)=false:=by simp;omega
 have e8:(mo==0)=false:=by simp;omega
 have R0:=J (RQ.start h hP mo t);clear h hP;go_enter func53,ntmps53;go_upto_region 2 with fail
 generalize(((w.alloc (aM mo t n a g)).alloc cK).alloc (fw false ⟨#[]⟩ false)).alloc (fw false ⟨#[]⟩ false)=W at R0|-;generalize w.heap.size+1+1+1=x at R0|-;generalize w.heap.size+1+1=r at R0|-;generalize w.heap.size+1=q at R0|-;obtain⟨p,hp⟩:=zx w.heap.size;rw[← hp] at R0|-;clear hp;obtain⟨c0,c1,c2,c3,c4⟩:=R0.out.two.box.c;have U:=J (et W _ mo t n a g N A G R0.out.two.rows s);rw[hh] at U;go_wp2_with fail
 refine U.out.mono ?_;rintro e W1 ⟨rfl,B1⟩;have R1:=J ((R0.out.below B1).dO aF);obtain⟨x0,_,_⟩:=(R0.out.below B1).aH.c;obtain⟨g0,_,_⟩:=(R0.out.below B1).aH.f;clear c0 c1 c2 c3 c4 B1 R0 U;go_upto_region 3 with fail
 clear x0 g0;generalize W1.setCell ⟨x,0,none⟩ (.bool aF)=W2 at R1|-;obtain⟨c0,c1,c2,c3,c4⟩:=R1.out.two.box.c;have V:=cH _ _ a A s R1.out.two.rows.a;rw[hA] at V;have V:=J V;go_wp2_with fail
 refine V.out.mono ?_;rintro e W3 ⟨rfl,B3⟩;have b4:=B3.trans (((zo W3.heap.size W3).alloc (zg _) (bE (fk A s))).mono B3.size);have R2:=J (R1.out.below b4);have KY:=zs (bQ (W3.alloc (bE (fk A s))) W3.heap.size (fk A s)) (heap_alloc_new _ _);have NY:=zs (W3.heap.size≠p/\W3.heap.size≠x) (by have:=(R1.out.below B3).two.box.lt;have:=(R1.out.below B3).aH.lt;omega);clear c0 c1 c2 c3 c4 B3 b4 V R1;go_upto_region 9 with fail
 generalize W3.alloc (bE (fk A s))=W4 at R2 KY|-;generalize W3.heap.size=y at KY NY|-;have R1:=J R2.out;clear R2;obtain⟨c0,c1,c2,c3,c4⟩:=R1.out.two.box.c;clear KY NY;have V:=cH _ _ n N s R1.out.two.rows.n;rw[hN] at V;have V:=J V;go_wp2_with fail
 refine V.out.mono ?_;rintro e W3 ⟨rfl,B3⟩;have b4:=B3.trans (((zo W3.heap.size W3).alloc (zg _) (bE (fk N s))).mono B3.size);have R2:=J (R1.out.below b4);have KY:=zs (bQ (W3.alloc (bE (fk N s))) W3.heap.size (fk N s)) (heap_alloc_new _ _);have NY:=zs (W3.heap.size≠p/\W3.heap.size≠x) (by have:=(R1.out.below B3).two.box.lt;have:=(R1.out.below B3).aH.lt;omega);clear c0 c1 c2 c3 c4 B3 b4 V R1;go_upto_region 15 with fail
 generalize W3.alloc (bE (fk N s))=W4 at R2 KY|-;generalize W3.heap.size=y at KY NY|-;have R1:=J R2.out;clear R2;obtain⟨c0,c1,c2,c3,c4⟩:=R1.out.two.box.c;clear KY NY;have V:=cH _ _ g G s R1.out.two.rows.g;rw[hG] at V;have V:=J V;go_wp2_with fail
 refine V.out.mono ?_;rintro e W3 ⟨rfl,B3⟩;have b4:=B3.trans (((zo W3.heap.size W3).alloc (zg _) (bE (fk G s))).mono B3.size);have R2:=J (R1.out.below b4);have KY:=zs (bQ (W3.alloc (bE (fk G s))) W3.heap.size (fk G s)) (heap_alloc_new _ _);have NY:=zs (W3.heap.size≠p/\W3.heap.size≠x) (by have:=(R1.out.below B3).two.box.lt;have:=(R1.out.below B3).aH.lt;omega);clear c0 c1 c2 c3 c4 B3 b4 V R1;go_upto_region 16 with fail
 generalize W3.alloc (bE (fk G s))=W4 at R2 KY|-;generalize W3.heap.size=y at KY NY|-;have R1:=J R2.out;clear R2;obtain⟨c0,c1,c2,c3,c4⟩:=R1.out.two.box.c;obtain⟨_,y1,_⟩:=KY.out.c;cases hd:(fk G s).o with
 |true=>
  have hu:u=t:=by have:=HU.out;rw[hd] at this;unfold gT at this;rwa[if_neg (λh=>by cases h.2.1)] at this
  rw[hd] at y1;clear KY NY HU hd;subst hu;go_upto_region 18 with fail
  clear c0 c1 c2 c3 c4 y1;obtain⟨c0,c1,c2,c3,c4⟩:=R1.out.two.box.c;have U:=J (cE _ _ g G s R1.out.two.rows.g (by omega) R1.out.two.cl);go_wp2_with fail
  refine U.out.mono ?_;rintro e V1 ⟨n9,rfl,k9,B9⟩;have R2:=J ((R1.out.below B9).iI k9);obtain⟨d0,d1,d2,d3,d4⟩:=(R1.out.below B9).two.box.c;obtain⟨f0,f1,f2,f3,f4⟩:=(R1.out.below B9).two.box.f;clear c0 c1 c2 c3 c4 k9 B9 R1 U;go_upto_region 19 with fail
  clear d0 d1 d2 d3 d4 f0 f1 f2 f3 f4;generalize V1.setCell ⟨p,4,none⟩ (.slice n9.A n9.n n9.c)=V2 at R2|-;have R1:=J R2.out;clear R2;obtain⟨c0,c1,c2,c3,c4⟩:=R1.out.two.box.c;go_upto_region 20 with fail
  clear c0 c1 c2 c3 c4;obtain⟨c0,c1,c2,c3,c4⟩:=R1.out.two.box.c;have U:=J (oV _ _ mo u _ _ _ _ _ _ R1.out.two.rows R1.out.two.cl EK.out EL.out yJ.out);go_wp2_with fail
  refine U.out.mono ?_;rintro e V3 ⟨n3,a3,g3,rfl,ly,B3⟩;have r1:=R1.out.below B3;have R2:=J ((r1.dj (mo':=mo) (t':=u) ly).eR (vK N A).s);obtain⟨d0,d1,d2,d3,d4⟩:=r1.two.box.c;obtain⟨f0,f1,f2,f3,f4⟩:=r1.two.box.f;obtain⟨_,x1,_⟩:=r1.aH.c;obtain⟨_,h1,_⟩:=r1.aH.f;have cW:p≠x:=qa r1.ne.2.2.1;have bl:x≠p:=r1.ne.2.2.1;clear c0 c1 c2 c3 c4 ly B3 R1 U r1;go_upto_region 21 with fail
  clear d0 d1 d2 d3 d4 f0 f1 f2 f3 f4 x1 h1 cW bl;dsimp only[cR] at R2;generalize(((((V3.setCell ⟨p,0,none⟩ (.int .i64 (mo:Int))).setCell ⟨p,1,none⟩ (.int .i64 (u:Int))).setCell ⟨p,2,none⟩ (.slice n3.A n3.n n3.c)).setCell ⟨p,3,none⟩ (.slice a3.A a3.n a3.c)).setCell ⟨p,4,none⟩ (.slice g3.A g3.n g3.c)).setCell ⟨x,1,none⟩ (.string (vK N A).s)=V4 at R2|-;obtain⟨_,_,x2⟩:=R2.out.aH.c;obtain⟨_,_,h2⟩:=R2.out.aH.f;have R3:=J (R2.out.fg true);clear R2;go_upto_region 22 with fail
  clear x2 h2;generalize V4.setCell ⟨x,2,none⟩ (.bool true)=V5 at R3|-;have R1:=J R3.out;clear R3;go_upto_region 23 with fail
  obtain⟨c0,c1,c2,c3,c4⟩:=(R1.out.below (aj _)).two.box.c;obtain⟨x0,x1,x2⟩:=(R1.out.below (aj _)).aH.c;obtain⟨dC,dD,bl,du,dE⟩:=R1.out.ne;have dg:p≠q:=R1.out.two.ne;have gD:q≠p:=qa dg;have jd:p≠r:=qa dC;have je:q≠r:=qa dD;have cW:p≠x:=qa bl;have ik:q≠x:=qa du;have jf:x≠r:=qa dE;have U:=J (iR _ _ mo u _ _ _ _ _ _ (R1.out.below (aj _)).two.rows (R1.out.below (aj _)).two.cl s hs oW.out);have R2:=J (R1.out.below (aj _));clear R1
  go_region_held3(λw'=>w'.cell? ⟨p,0,none⟩=some (.int .i64 (mo:Int))/\w'.cell? ⟨p,1,none⟩=some (.int .i64 (u:Int))/\w'.cell? ⟨p,2,none⟩=some (.slice n3.A n3.n n3.c)/\w'.cell? ⟨p,3,none⟩=some (.slice a3.A a3.n a3.c)/\w'.cell? ⟨p,4,none⟩=some (.slice g3.A g3.n g3.c)/\w'.cell? ⟨x,0,none⟩=some (.bool aF)/\w'.cell? ⟨x,1,none⟩=some (.string (vK N A).s)/\w'.cell? ⟨x,2,none⟩=some (.bool true)) (first|(with_reducible exact⟨z0,z1,z2,z3,z4,z5,z6,z7⟩)|(with_reducible exact⟨c0,c1,c2,c3,c4,x0,x1,x2⟩)|go_keep)
   ((go_at_call 94;refine U.out.mono ?_;rintro e V5 ⟨n4,a4,g4,rfl,eF,B4⟩;have T4:=J (xy (R2.out.below B4) eF);obtain⟨z0,z1,z2,z3,z4⟩:=T4.out.1.two.box.c;obtain⟨z5,z6,z7⟩:=T4.out.1.aH.c;obtain⟨⟨k0,k1,k2,k3,k4⟩,f0,f1,f2,f3,f4⟩:=T4.out.1.two.gp;obtain⟨r0,r1,r2⟩:=T4.out.1.res.c;obtain⟨g0,g1,lV⟩:=T4.out.1.res.f;clear eF B4))
  all_goals
   have F:=J (T4.out.1.out (mo':=mo) (t':=u) (P0:=P) (λk hk=>hk.1.1.1) T4.out.2);go_wp2_with fail
   (try simp only[Exit.inBlock,Exit.then]);refine bodyPost_ret (aP rfl _ _ _ ⟨q,0,none⟩ ⟨r,0,none⟩ _ _ rfl (bf F.out.1) rfl (cL F.out.2.1)) rfl ?_;exact⟨_,_,_,rfl,F.out.2.2.1,F.out.2.2.2⟩
 |false=>
  by_cases lW:1 < t
  . have hu:u=t - 1:=by have:=HU.out;rw[hd] at this;unfold gT at this;rwa[if_pos ⟨rfl,rfl,lW⟩] at this
    have e1:decide ((1:Int) < (t:Int))=true:=by simp;omega
    have uS:decide (1 < t)=true:=by simp;omega
    have cA:IntKind.i64.wrap ((t:Int) - 1)=(u:Int):=by rw[qi _ (by omega)];omega
    have R2:=J (R1.out.kB u);obtain⟨_,f1,_,_,_⟩:=R1.out.two.box.f;rw[hd] at y1;clear lW hu R1 KY NY HU hd;go_upto_region 18 with fail
    clear c0 c1 c2 c3 c4 y1 f1 e1 uS cA;generalize W4.setCell ⟨p,1,none⟩ (.int .i64 (u:Int))=W5 at R2|-;have R1:=J R2.out;clear R2;obtain⟨c0,c1,c2,c3,c4⟩:=R1.out.two.box.c;have U:=J (cE _ _ g G s R1.out.two.rows.g (by omega) R1.out.two.cl);go_wp2_with fail
    refine U.out.mono ?_;rintro e V1 ⟨n9,rfl,k9,B9⟩;have R2:=J ((R1.out.below B9).iI k9);obtain⟨d0,d1,d2,d3,d4⟩:=(R1.out.below B9).two.box.c;obtain⟨f0,f1,f2,f3,f4⟩:=(R1.out.below B9).two.box.f;clear c0 c1 c2 c3 c4 k9 B9 R1 U;go_upto_region 19 with fail
    clear d0 d1 d2 d3 d4 f0 f1 f2 f3 f4;generalize V1.setCell ⟨p,4,none⟩ (.slice n9.A n9.n n9.c)=V2 at R2|-;have R1:=J R2.out;clear R2;obtain⟨c0,c1,c2,c3,c4⟩:=R1.out.two.box.c;go_upto_region 20 with fail
    clear c0 c1 c2 c3 c4;obtain⟨c0,c1,c2,c3,c4⟩:=R1.out.two.box.c;have U:=J (oV _ _ mo u _ _ _ _ _ _ R1.out.two.rows R1.out.two.cl EK.out EL.out yJ.out);go_wp2_with fail
    refine U.out.mono ?_;rintro e V3 ⟨n3,a3,g3,rfl,ly,B3⟩;have r1:=R1.out.below B3;have R2:=J ((r1.dj (mo':=mo) (t':=u) ly).eR (vK N A).s);obtain⟨d0,d1,d2,d3,d4⟩:=r1.two.box.c;obtain⟨f0,f1,f2,f3,f4⟩:=r1.two.box.f;obtain⟨_,x1,_⟩:=r1.aH.c;obtain⟨_,h1,_⟩:=r1.aH.f;have cW:p≠x:=qa r1.ne.2.2.1;have bl:x≠p:=r1.ne.2.2.1;clear c0 c1 c2 c3 c4 ly B3 R1 U r1;go_upto_region 21 with fail
    clear d0 d1 d2 d3 d4 f0 f1 f2 f3 f4 x1 h1 cW bl;dsimp only[cR] at R2;generalize(((((V3.setCell ⟨p,0,none⟩ (.int .i64 (mo:Int))).setCell ⟨p,1,none⟩ (.int .i64 (u:Int))).setCell ⟨p,2,none⟩ (.slice n3.A n3.n n3.c)).setCell ⟨p,3,none⟩ (.slice a3.A a3.n a3.c)).setCell ⟨p,4,none⟩ (.slice g3.A g3.n g3.c)).setCell ⟨x,1,none⟩ (.string (vK N A).s)=V4 at R2|-;obtain⟨_,_,x2⟩:=R2.out.aH.c;obtain⟨_,_,h2⟩:=R2.out.aH.f;have R3:=J (R2.out.fg true);clear R2;go_upto_region 22 with fail
    clear x2 h2;generalize V4.setCell ⟨x,2,none⟩ (.bool true)=V5 at R3|-;have R1:=J R3.out;clear R3;go_upto_region 23 with fail
    obtain⟨c0,c1,c2,c3,c4⟩:=(R1.out.below (aj _)).two.box.c;obtain⟨x0,x1,x2⟩:=(R1.out.below (aj _)).aH.c;obtain⟨dC,dD,bl,du,dE⟩:=R1.out.ne;have dg:p≠q:=R1.out.two.ne;have gD:q≠p:=qa dg;have jd:p≠r:=qa dC;have je:q≠r:=qa dD;have cW:p≠x:=qa bl;have ik:q≠x:=qa du;have jf:x≠r:=qa dE;have U:=J (iR _ _ mo u _ _ _ _ _ _ (R1.out.below (aj _)).two.rows (R1.out.below (aj _)).two.cl s hs oW.out);have R2:=J (R1.out.below (aj _));clear R1
    go_region_held3(λw'=>w'.cell? ⟨p,0,none⟩=some (.int .i64 (mo:Int))/\w'.cell? ⟨p,1,none⟩=some (.int .i64 (u:Int))/\w'.cell? ⟨p,2,none⟩=some (.slice n3.A n3.n n3.c)/\w'.cell? ⟨p,3,none⟩=some (.slice a3.A a3.n a3.c)/\w'.cell? ⟨p,4,none⟩=some (.slice g3.A g3.n g3.c)/\w'.cell? ⟨x,0,none⟩=some (.bool aF)/\w'.cell? ⟨x,1,none⟩=some (.string (vK N A).s)/\w'.cell? ⟨x,2,none⟩=some (.bool true)) (first|(with_reducible exact⟨z0,z1,z2,z3,z4,z5,z6,z7⟩)|(with_reducible exact⟨c0,c1,c2,c3,c4,x0,x1,x2⟩)|go_keep)
     ((go_at_call 94;refine U.out.mono ?_;rintro e V5 ⟨n4,a4,g4,rfl,eF,B4⟩;have T4:=J (xy (R2.out.below B4) eF);obtain⟨z0,z1,z2,z3,z4⟩:=T4.out.1.two.box.c;obtain⟨z5,z6,z7⟩:=T4.out.1.aH.c;obtain⟨⟨k0,k1,k2,k3,k4⟩,f0,f1,f2,f3,f4⟩:=T4.out.1.two.gp;obtain⟨r0,r1,r2⟩:=T4.out.1.res.c;obtain⟨g0,g1,lV⟩:=T4.out.1.res.f;clear eF B4))
    all_goals
     have F:=J (T4.out.1.out (mo':=mo) (t':=u) (P0:=P) (λk hk=>hk.1.1.1) T4.out.2);go_wp2_with fail
     (try simp only[Exit.inBlock,Exit.then]);refine bodyPost_ret (aP rfl _ _ _ ⟨q,0,none⟩ ⟨r,0,none⟩ _ _ rfl (bf F.out.1) rfl (cL F.out.2.1)) rfl ?_;exact⟨_,_,_,rfl,F.out.2.2.1,F.out.2.2.2⟩
  . have hu:u=t:=by have:=HU.out;rw[hd] at this;unfold gT at this;rwa[if_neg (λh=>lW h.2.2)] at this
    have e1:decide ((1:Int) < (t:Int))=false:=by simp;omega
    have uS:decide (1 < t)=false:=by simp;omega
    rw[hd] at y1;clear lW KY NY HU hd;subst hu;go_upto_region 18 with fail
    clear c0 c1 c2 c3 c4 y1 e1 uS;obtain⟨c0,c1,c2,c3,c4⟩:=R1.out.two.box.c;have U:=J (cE _ _ g G s R1.out.two.rows.g (by omega) R1.out.two.cl);go_wp2_with fail
    refine U.out.mono ?_;rintro e V1 ⟨n9,rfl,k9,B9⟩;have R2:=J ((R1.out.below B9).iI k9);obtain⟨d0,d1,d2,d3,d4⟩:=(R1.out.below B9).two.box.c;obtain⟨f0,f1,f2,f3,f4⟩:=(R1.out.below B9).two.box.f;clear c0 c1 c2 c3 c4 k9 B9 R1 U;go_upto_region 19 with fail
    clear d0 d1 d2 d3 d4 f0 f1 f2 f3 f4;generalize V1.setCell ⟨p,4,none⟩ (.slice n9.A n9.n n9.c)=V2 at R2|-;have R1:=J R2.out;clear R2;obtain⟨c0,c1,c2,c3,c4⟩:=R1.out.two.box.c;go_upto_region 20 with fail
    clear c0 c1 c2 c3 c4;obtain⟨c0,c1,c2,c3,c4⟩:=R1.out.two.box.c;have U:=J (oV _ _ mo u _ _ _ _ _ _ R1.out.two.rows R1.out.two.cl EK.out EL.out yJ.out);go_wp2_with fail
    refine U.out.mono ?_;rintro e V3 ⟨n3,a3,g3,rfl,ly,B3⟩;have r1:=R1.out.below B3;have R2:=J ((r1.dj (mo':=mo) (t':=u) ly).eR (vK N A).s);obtain⟨d0,d1,d2,d3,d4⟩:=r1.two.box.c;obtain⟨f0,f1,f2,f3,f4⟩:=r1.two.box.f;obtain⟨_,x1,_⟩:=r1.aH.c;obtain⟨_,h1,_⟩:=r1.aH.f;have cW:p≠x:=qa r1.ne.2.2.1;have bl:x≠p:=r1.ne.2.2.1;clear c0 c1 c2 c3 c4 ly B3 R1 U r1;go_upto_region 21 with fail
    clear d0 d1 d2 d3 d4 f0 f1 f2 f3 f4 x1 h1 cW bl;dsimp only[cR] at R2;generalize(((((V3.setCell ⟨p,0,none⟩ (.int .i64 (mo:Int))).setCell ⟨p,1,none⟩ (.int .i64 (u:Int))).setCell ⟨p,2,none⟩ (.slice n3.A n3.n n3.c)).setCell ⟨p,3,none⟩ (.slice a3.A a3.n a3.c)).setCell ⟨p,4,none⟩ (.slice g3.A g3.n g3.c)).setCell ⟨x,1,none⟩ (.string (vK N A).s)=V4 at R2|-;obtain⟨_,_,x2⟩:=R2.out.aH.c;obtain⟨_,_,h2⟩:=R2.out.aH.f;have R3:=J (R2.out.fg true);clear R2;go_upto_region 22 with fail
    clear x2 h2;generalize V4.setCell ⟨x,2,none⟩ (.bool true)=V5 at R3|-;have R1:=J R3.out;clear R3;go_upto_region 23 with fail
    obtain⟨c0,c1,c2,c3,c4⟩:=(R1.out.below (aj _)).two.box.c;obtain⟨x0,x1,x2⟩:=(R1.out.below (aj _)).aH.c;obtain⟨dC,dD,bl,du,dE⟩:=R1.out.ne;have dg:p≠q:=R1.out.two.ne;have gD:q≠p:=qa dg;have jd:p≠r:=qa dC;have je:q≠r:=qa dD;have cW:p≠x:=qa bl;have ik:q≠x:=qa du;have jf:x≠r:=qa dE;have U:=J (iR _ _ mo u _ _ _ _ _ _ (R1.out.below (aj _)).two.rows (R1.out.below (aj _)).two.cl s hs oW.out);have R2:=J (R1.out.below (aj _));clear R1
    go_region_held3(λw'=>w'.cell? ⟨p,0,none⟩=some (.int .i64 (mo:Int))/\w'.cell? ⟨p,1,none⟩=some (.int .i64 (u:Int))/\w'.cell? ⟨p,2,none⟩=some (.slice n3.A n3.n n3.c)/\w'.cell? ⟨p,3,none⟩=some (.slice a3.A a3.n a3.c)/\w'.cell? ⟨p,4,none⟩=some (.slice g3.A g3.n g3.c)/\w'.cell? ⟨x,0,none⟩=some (.bool aF)/\w'.cell? ⟨x,1,none⟩=some (.string (vK N A).s)/\w'.cell? ⟨x,2,none⟩=some (.bool true)) (first|(with_reducible exact⟨z0,z1,z2,z3,z4,z5,z6,z7⟩)|(with_reducible exact⟨c0,c1,c2,c3,c4,x0,x1,x2⟩)|go_keep)
     ((go_at_call 94;refine U.out.mono ?_;rintro e V5 ⟨n4,a4,g4,rfl,eF,B4⟩;have T4:=J (xy (R2.out.below B4) eF);obtain⟨z0,z1,z2,z3,z4⟩:=T4.out.1.two.box.c;obtain⟨z5,z6,z7⟩:=T4.out.1.aH.c;obtain⟨⟨k0,k1,k2,k3,k4⟩,f0,f1,f2,f3,f4⟩:=T4.out.1.two.gp;obtain⟨r0,r1,r2⟩:=T4.out.1.res.c;obtain⟨g0,g1,lV⟩:=T4.out.1.res.f;clear eF B4))
    all_goals
     have F:=J (T4.out.1.out (mo':=mo) (t':=u) (P0:=P) (λk hk=>hk.1.1.1) T4.out.2);go_wp2_with fail
     (try simp only[Exit.inBlock,Exit.then]);refine bodyPost_ret (aP rfl _ _ _ ⟨q,0,none⟩ ⟨r,0,none⟩ _ _ rfl (bf F.out.1) rfl (cL F.out.2.1)) rfl ?_;exact⟨_,_,_,rfl,F.out.2.2.1,F.out.2.2.2⟩
end
end SR
namespace SR
open Go.RowKit Sg
def nm(L:List KE):zY:=(L.map KE.s).reverse
theorem uT(L:List KE):(nm L).length=L.length:=by simp[nm]
theorem J9{L:List KE}{k:Nat}{x:KE}(hx:L[k]?=some x):nm (L.drop k)=nm (L.drop (k+1))++ [x.s]:=by
 obtain⟨h,rfl⟩:=List.getElem?_eq_some_iff.1 hx;unfold nm;rw[List.drop_eq_getElem_cons h,xb,List.reverse_cons]
def Vx(w:zw)(L:List KE)(v iz:Value)(W:zw):Prop:=∃(j:Nat) (z:Int),iz= .int .i64 z/\z=(j:Int) - 1/\j<=L.length/\Own W w.heap.size v (nm (L.drop j))/\Below w.heap.size w W
theorem rz(w:zw)(P:Nat->Prop)(r:Sl)(L:List KE)(h:KW w P r L)(hl:L.length<=1900):Calls prog 106 #[.slice r.A r.n r.c] w (br (nm L) w):=by
 obtain⟨A,n,c⟩:=r;have bZ:=h.len;simp only at bZ|-;have HH:=J h;subst bZ;have Vy:IntKind.i64.wrap ((L.length:Int) - 1)=(L.length:Int) - 1:=qi _ (by omega);clear h;go_enter func106,ntmps106;go_wp2_with fail
 clear Vy;go_loopw [3,4] (λv i W=>Vx w L v i W) (λ_ i _=>(intOf i+1).toNat)
 case atStart=>exact⟨L.length,_,rfl,rfl,zg _,by rw[List.drop_length];exact Own.nil _ _,zo _ _⟩
 case round=>
  obtain⟨j,z,rfl,hz,hj,aS,cD⟩:=hrel;have bW:=cD.size;cases j with
  |zero=>
   obtain rfl:z= -1:=by omega
   have HO:=J aS;clear aS hz;have e0:decide ((0:Int)<= -1)=false:=rfl;go_wp2_with fail
   go_ret;exact⟨_,rfl,HO.out,cD⟩
  |succ k=>
   obtain rfl:z=(k:Int):=by omega
   have e0:decide ((0:Int)<=(k:Int))=true:=by simp
   have aQ:k < L.length:=by omega
   have hx:=zm aQ;obtain⟨g,o,_,hA,hg,cF,bL,m0,m1,m2⟩:=(HH.out.below cD).at hx;simp only at hA cF bL;subst hA;unfold maxLen at bL;have gQ:=HH.out.small _ (qy aQ);have ej:=J9 hx;generalize L[k]=x at m0 m1 m2 gQ hx ej;have cA:IntKind.i64.wrap ((k:Int) - 1)=(k:Int) - 1:=qi _ (by omega);have hle:(nm (L.drop (k+1))).length<=1900:=by rw[uT,xm];omega
   obtain⟨g2,cap,w2,aB,bC,dn⟩:=oP aS x.s gQ (by omega) bW;have ij:=cD.grown dn bW (λk hk=>(aS.1.lt k hk).1);rw[← ej] at bC;have df:=J aB;have nB:=J bC;have HB:=J ij;obtain⟨Av,cv,rfl⟩:=aS.len;clear ej aS aB bC ij dn hx hz;go_wp2_with(at_builtin;refine aq rfl _ _ _ rfl _ _ _ _ rfl rfl df.out ?_)
   go_roundw
   case rel=>exact⟨k,_,rfl,rfl,by omega,nB.out,HB.out⟩
   case measure=>simp only[intOf];omega
section
variable(w:zw)(P:Nat->Prop)(mo t:Nat)(n a g:Sl)(N A G:List KE)(h:Rw w P n a g N A G)
include h
theorem zR(hl:N.length+A.length<=1700):Calls prog 73 #[aU mo t n a g] w (br (nm N++nm A) w):=by
 have hb:=(zo w.heap.size w).alloc (zg _) (aM mo t n a g);have K0:=zs (RB (w.alloc (aM mo t n a g)) w.heap.size mo t n a g) (heap_alloc_new _ _);have HR:=J (h.below hb);have HB:=J hb;have hn:(nm N).length+(nm A).length<=1700:=by rw[uT,uT];exact hl
 clear h hb;go_enter func73,ntmps73;go_upto_region 1 with fail
 generalize w.alloc (aM mo t n a g)=W at K0 HR HB|-;obtain⟨p,hp⟩:∃p,w.heap.size=p:=⟨_,rfl⟩;rw[hp] at K0|-;clear hp;obtain⟨_,_,c2,c3,_⟩:=(K0.out.below (aj _)).c;have U:=J (rz W.drew P n N (HR.out.below (aj _)).n (by omega));have V:=J (λ(w1:zw) (hb:Below W.drew.heap.size W.drew w1)=>rz w1 P a A (((HR.out.below (aj _)).below hb).a) (by omega));have C:=J (λ(w1:zw) (hb:Below W.drew.heap.size W.drew w1)=>((K0.out.below (aj _)).below hb).c);have WB:=zs (Below w.heap.size w W.drew) (HB.out.trans ((aj W).mono HB.out.size))
 go_region_held3(λw'=>w'.cell? ⟨p,2,none⟩=some (.slice n.A n.n n.c)/\w'.cell? ⟨p,3,none⟩=some (.slice a.A a.n a.c)) (first|(with_reducible exact⟨z6,z7⟩)|(with_reducible exact⟨z4,z5⟩)|(with_reducible exact⟨z2,z3⟩)|(with_reducible exact⟨c2,c3⟩)|go_keep)
  (first
    |(go_at_call 106;refine U.out.mono ?_;rintro e w1 ⟨v1,rfl,lh,dh⟩;obtain⟨_,_,z2,z3,_⟩:=C.out w1 dh;have O1:=J lh;have B1:=J dh;clear lh dh U)
    |(go_at_call 106;refine(V.out w1 B1.out).mono ?_;rintro e w2 ⟨v2,rfl,kg,cQ⟩;obtain⟨_,_,z4,z5,_⟩:=C.out w2 (B1.out.trans (cQ.mono B1.out.size));obtain⟨v3,w3,aB,jO,gA⟩:=mj (O1.out.below cQ) kg (by omega) (zr B1.out.size cQ.size);have zB:=J aB;have O3:=J jO;have B3:=J ((B1.out.trans (cQ.mono B1.out.size)).grown gA (zr B1.out.size cQ.size) (λk hk=>((O1.out.below cQ).1.lt k hk).1));obtain⟨_,_,z6,z7,_⟩:=C.out w3 B3.out;clear kg cQ aB jO gA V O1 B1)
    |(refine ek rfl _ _ _ rfl _ _ _ _ rfl rfl zB.out ?_))
 all_goals
  go_wp2_with fail
  go_ret;exact⟨v3,rfl,O3.out.mono WB.out.size,WB.out.trans (B3.out.mono WB.out.size)⟩
end
section
variable(w:zw)(P:Nat->Prop)(mo t:Nat)(n a g:Sl)(N A G:List KE)(h:Rw w P n a g N A G)
include h
theorem tF(hl:G.length<=1700)(cG:(G.map KE.s).Nodup):Calls prog 75 #[aU mo t n a g] w (br (G.map KE.s) w):=by
 have hb:=(zo w.heap.size w).alloc (zg _) (aM mo t n a g);have K0:=zs (RB (w.alloc (aM mo t n a g)) w.heap.size mo t n a g) (heap_alloc_new _ _);have HR:=J (h.below hb);have HB:=J hb;have Vz:=zs ((nm G).Nodup) (List.pairwise_reverse.2 (cG.imp qa));have iY:=uT G;clear h hb cG;go_enter func75,ntmps75;go_upto_region 1 with fail
 generalize w.alloc (aM mo t n a g)=W at K0 HR HB|-;obtain⟨p,hp⟩:∃p,w.heap.size=p:=⟨_,rfl⟩;rw[hp] at K0|-;obtain⟨_,_,_,_,c4⟩:=K0.out.c;have U:=J (rz W P g G HR.out.g (by omega));have HP:=J hp;clear hp;go_wp2_with fail
 refine U.out.mono ?_;rintro e w1 ⟨l,rfl,lh,dh⟩;obtain⟨gl,TS,Nk⟩:=lh.row;have RR:=J Nk;have WB:=J (HB.out.trans (dh.mono HB.out.size));obtain⟨Al,cl,rfl⟩:=Nk.shape;clear c4 U lh dh TS Nk K0 HR HB;go_wp2_with fail
 go_loopw [3,5] (λv i W=>∃j:Nat,i= .int .i64 (j:Int)/\j<=(nm G).length/\Own W w.heap.size v ((nm G).take j).reverse/\Below w1.heap.size w1 W) (λ_ i _=>(nm G).length - (intOf i).toNat)
 case atStart=>exact⟨0,rfl,xg _,Own.nil _ _,zo _ _⟩
 case round=>
  obtain⟨j,rfl,hj,aS,cD⟩:=hrel;have HO:=J aS;have ym:=J cD
  by_cases aQ:j < (nm G).length
  . have e0:decide (j < (nm G).length)=true:=by simpa using aQ
    obtain⟨o,hA,hg,m0,cF,bL⟩:=(RR.out.below cD).at aQ;subst hA;unfold maxLen at bL;have oo:=dP (nm G) j ⟨#[]⟩ aQ;have b7:((nm G).getD j ⟨#[]⟩).size<=maxLen:=RR.out.2.1 _ (by rw[zt,zm aQ];exact qy aQ)
    have cu:(nm G).getD j ⟨#[]⟩∉((nm G).take j).reverse:=by
     have cG:=Vz.out.sublist (List.take_sublist (j+1) (nm G));rw[oo] at cG;rw[xl];exact λhm=>(List.nodup_append.1 cG).2.2 _ hm _ (List.mem_singleton.2 rfl) rfl
    generalize(nm G).getD j ⟨#[]⟩=x at oo b7 cu m0;obtain⟨g2,dn,qG⟩:=aS.row;have U:=J (nC _ g2 _ _ x qG (by rw[qp,qh];omega) b7);rw[aZ cu,show x::((nm G).take j).reverse=((nm G).take (j+1)).reverse by rw[oo,List.reverse_append];rfl] at U;clear oo b7 cu aS cD qG dn;go_wp2_with fail
    refine U.out.mono ?_;rintro e w3 ⟨v3,rfl,jO,eh⟩;have O3:=J (jO.mono (zr WB.out.size ym.out.size));have B3:=J (ym.out.trans (eh.mono ym.out.size));clear jO eh U;go_wp2_with fail
    go_roundw
    case rel=>exact⟨j+1,by go_num,by omega,O3.out,B3.out⟩
    case measure=>simp[intOf];omega
  . have e0:decide (j < (nm G).length)=false:=by simpa using aQ
    have HJ:=zs (((nm G).take j).reverse=G.map KE.s) (by rw[qk (by omega)];simp[nm]);clear aS cD;go_wp2_with fail
    go_ret;exact⟨_,rfl,by rw[← HJ.out];exact HO.out,WB.out.trans (ym.out.mono WB.out.size)⟩
end
end SR
namespace SR
open Go.RowKit Sg
theorem uU{w W:zw}{x:Nat}(b:Below w.heap.size w W)(hl:w.heap.size<=x)(mo t:Nat)(n a g:Sl):Below w.heap.size w (cR W x mo t n a g):=
 ((((b.setCell (p:=⟨x,0,none⟩) hl _).setCell (p:=⟨x,1,none⟩) hl _).setCell (p:=⟨x,2,none⟩) hl _).setCell (p:=⟨x,3,none⟩) hl _).setCell (p:=⟨x,4,none⟩) hl _
section
variable(w:zw)(P:Nat->Prop)(mo t:Nat)(n a g:Sl)(N A G:List KE)(h:Rw w P n a g N A G)(hP:Cl w P)(s:zy)(hs:s.size<=maxLen)(hl:N.length+A.length<=1700)(iY:G.length<=1700)
include h hP hl
theorem tH(aF:Bool)(hh:(cV N s||cV A s)=aF)(cu:aF=true\/mo<=N.length+A.length):Calls prog 61 #[aU mo t n a g,.string s] w (CT w P (λv=> .tuple #[v,.bool false]) mo t N A G):=by
 have jN:=h.n.len;have j2:=h.a.len;have R0:=J (ff h hP mo t);clear h hP;obtain⟨m,iX⟩:=zx (N.length+A.length);have nH:IntKind.i64.wrap ((n.n:Int)+(a.n:Int))=(m:Int):=by rw[qi _ (by omega)];omega
 go_enter func61,ntmps61;go_upto_region 1 with fail
 generalize(w.alloc (aM mo t n a g)).alloc cK=W at R0|-;generalize w.heap.size+1=q at R0|-;obtain⟨p,hp⟩:=zx w.heap.size;have bR:=zs (w.heap.size<=p) (xf hp.symm);rw[← hp] at R0|-;clear hp;obtain⟨c0,c1,c2,c3,c4⟩:=R0.out.box.c;clear bR;have U:=J (et _ _ mo t _ _ _ _ _ _ R0.out.rows s);rw[hh] at U;have lT:=J cu;clear cu jN j2;go_wp2_with fail
 refine U.out.mono ?_;rintro e W1 ⟨rfl,B1⟩;have R1:=J (R0.out.below B1);clear c0 c1 c2 c3 c4 B1 R0 U;cases aF with
 |true=>
  clear lT iX;obtain⟨c0,c1,c2,c3,c4⟩:=R1.out.box.c;obtain⟨⟨k0,k1,k2,k3,k4⟩,f0,f1,f2,f3,f4⟩:=R1.out.gp;have F:=J (R1.out.pO (mo':=mo) (t':=t) (P0:=P) (λk hk=>hk.1) R1.out.rows);go_wp2_with fail
  (try simp only[Exit.inBlock,Exit.then]);refine bodyPost_ret (bc rfl _ _ _ ⟨q,0,none⟩ _ rfl (bf F.out.1)) rfl ?_;exact⟨_,_,_,rfl,F.out.2.1,F.out.2.2⟩
 |false=>
  have em:decide (mo<=m)=true:=by have:=lT.out;simp at this;simp;omega
  clear lT iX;obtain⟨c0,c1,c2,c3,c4⟩:=R1.out.box.c;obtain⟨⟨k0,k1,k2,k3,k4⟩,f0,f1,f2,f3,f4⟩:=R1.out.gp;have F:=J (R1.out.pO (mo':=mo) (t':=t) (P0:=P) (λk hk=>hk.1) R1.out.rows);go_wp2_with fail
  (try simp only[Exit.inBlock,Exit.then]);refine bodyPost_ret (bc rfl _ _ _ ⟨q,0,none⟩ _ rfl (bf F.out.1)) rfl ?_;exact⟨_,_,_,rfl,F.out.2.1,F.out.2.2⟩
include iY
theorem eu:Calls prog 57 #[aU mo t n a g,.string s] w (CT w P id mo t (wo N s) (wo A s) (wo G s)):=by
 have R0:=J (ff h hP mo t);clear h hP;go_enter func57,ntmps57;go_upto_region 1 with fail
 generalize(w.alloc (aM mo t n a g)).alloc cK=W at R0|-;generalize w.heap.size+1=q at R0|-;obtain⟨p,hp⟩:=zx w.heap.size;have bR:=zs (w.heap.size<=p) (xf hp.symm);rw[← hp] at R0|-;clear hp;obtain⟨c0,c1,c2,c3,c4⟩:=R0.out.box.c;clear c0 c1 c2 c3 c4 bR;have R1:=J R0.out;clear R0;obtain⟨c0,c1,c2,c3,c4⟩:=R1.out.box.c;have U:=J (cE _ _ n _ s R1.out.rows.n (by omega) R1.out.cl);go_wp2_with fail
 refine U.out.mono ?_;rintro e V1 ⟨n9,rfl,k9,B9⟩;have R2:=J ((R1.out.below B9).j1 k9);obtain⟨d0,d1,d2,d3,d4⟩:=(R1.out.below B9).box.c;obtain⟨f0,f1,f2,f3,f4⟩:=(R1.out.below B9).box.f;clear c0 c1 c2 c3 c4 k9 B9 R1 U;go_upto_region 2 with fail
 clear d0 d1 d2 d3 d4 f0 f1 f2 f3 f4;generalize V1.setCell ⟨p,2,none⟩ (.slice n9.A n9.n n9.c)=V2 at R2|-;have R1:=J R2.out;clear R2;obtain⟨c0,c1,c2,c3,c4⟩:=R1.out.box.c;have U:=J (cE _ _ a _ s R1.out.rows.a (by omega) R1.out.cl);go_wp2_with fail
 refine U.out.mono ?_;rintro e V1 ⟨n9,rfl,k9,B9⟩;have R2:=J ((R1.out.below B9).jk k9);obtain⟨d0,d1,d2,d3,d4⟩:=(R1.out.below B9).box.c;obtain⟨f0,f1,f2,f3,f4⟩:=(R1.out.below B9).box.f;clear c0 c1 c2 c3 c4 k9 B9 R1 U;go_upto_region 3 with fail
 clear d0 d1 d2 d3 d4 f0 f1 f2 f3 f4;generalize V1.setCell ⟨p,3,none⟩ (.slice n9.A n9.n n9.c)=V2 at R2|-;have R1:=J R2.out;clear R2;obtain⟨c0,c1,c2,c3,c4⟩:=R1.out.box.c;have U:=J (cE _ _ g _ s R1.out.rows.g (by omega) R1.out.cl);go_wp2_with fail
 refine U.out.mono ?_;rintro e V1 ⟨n9,rfl,k9,B9⟩;have R2:=J ((R1.out.below B9).iI k9);obtain⟨d0,d1,d2,d3,d4⟩:=(R1.out.below B9).box.c;obtain⟨f0,f1,f2,f3,f4⟩:=(R1.out.below B9).box.f;clear c0 c1 c2 c3 c4 k9 B9 R1 U;go_upto_region 4 with fail
 clear d0 d1 d2 d3 d4 f0 f1 f2 f3 f4;generalize V1.setCell ⟨p,4,none⟩ (.slice n9.A n9.n n9.c)=V2 at R2|-;have R1:=J R2.out;clear R2;obtain⟨c0,c1,c2,c3,c4⟩:=R1.out.box.c;obtain⟨⟨k0,k1,k2,k3,k4⟩,f0,f1,f2,f3,f4⟩:=R1.out.gp;have F:=J (R1.out.pO (mo':=mo) (t':=t) (P0:=P) (λk hk=>hk.1) R1.out.rows);go_wp2_with fail
 (try simp only[Exit.inBlock,Exit.then]);refine bodyPost_ret (aV rfl _ _ _ ⟨q,0,none⟩ _ rfl (bf F.out.1)) rfl ?_;exact⟨_,_,_,rfl,F.out.2.1,F.out.2.2⟩
include hs
theorem rB(hh:(cV N s||cV A s)=false)(cu:N.length+A.length < mo):Calls prog 61 #[aU mo t n a g,.string s] w (CT w P (λv=> .tuple #[v,.bool true]) mo t (⟨s,false,false⟩::N) A (wo G s)):=by
 have jN:=h.n.len;have j2:=h.a.len;have R0:=J (ff h hP mo t);clear h hP;obtain⟨m,iX⟩:=zx (N.length+A.length);have nH:IntKind.i64.wrap ((n.n:Int)+(a.n:Int))=(m:Int):=by rw[qi _ (by omega)];omega
 have em:decide (mo<=m)=false:=by simp;omega
 go_enter func61,ntmps61;go_upto_region 1 with fail
 generalize(w.alloc (aM mo t n a g)).alloc cK=W at R0|-;generalize w.heap.size+1=q at R0|-;obtain⟨p,hp⟩:=zx w.heap.size;have bR:=zs (w.heap.size<=p) (xf hp.symm);rw[← hp] at R0|-;clear hp;obtain⟨c0,c1,c2,c3,c4⟩:=R0.out.box.c;clear bR jN j2 iX cu;have U:=J (et _ _ mo t _ _ _ _ _ _ R0.out.rows s);rw[hh] at U;go_wp2_with fail
 refine U.out.mono ?_;rintro e W1 ⟨rfl,B1⟩;have R1:=J (R0.out.below B1);clear c0 c1 c2 c3 c4 B1 R0 U;obtain⟨c0,c1,c2,c3,c4⟩:=R1.out.box.c;go_upto_region 3 with fail
 clear c0 c1 c2 c3 c4;obtain⟨c0,c1,c2,c3,c4⟩:=R1.out.box.c;have U:=J (cE _ _ g _ s R1.out.rows.g (by omega) R1.out.cl);go_wp2_with fail
 refine U.out.mono ?_;rintro e V1 ⟨n9,rfl,k9,B9⟩;have R2:=J ((R1.out.below B9).iI k9);obtain⟨d0,d1,d2,d3,d4⟩:=(R1.out.below B9).box.c;obtain⟨f0,f1,f2,f3,f4⟩:=(R1.out.below B9).box.f;clear c0 c1 c2 c3 c4 k9 B9 R1 U;go_upto_region 4 with fail
 clear d0 d1 d2 d3 d4 f0 f1 f2 f3 f4;generalize V1.setCell ⟨p,4,none⟩ (.slice n9.A n9.n n9.c)=V2 at R2|-;have R1:=J R2.out;clear R2;obtain⟨c0,c1,c2,c3,c4⟩:=R1.out.box.c;have U:=J (kC _ _ n _ ⟨s,false,false⟩ R1.out.rows.n (by omega) hs R1.out.cl);go_wp2_with fail
 refine U.out.mono ?_;rintro e V6 ⟨n8,rfl,k8,B8⟩;have R2:=J ((R1.out.below B8).j1 k8);obtain⟨d0,d1,d2,d3,d4⟩:=(R1.out.below B8).box.c;obtain⟨f0,f1,f2,f3,f4⟩:=(R1.out.below B8).box.f;clear c0 c1 c2 c3 c4 k8 B8 R1 U;go_upto_region 5 with fail
 clear d0 d1 d2 d3 d4 f0 f1 f2 f3 f4;generalize V6.setCell ⟨p,2,none⟩ (.slice n8.A n8.n n8.c)=V7 at R2|-;have R1:=J R2.out;clear R2;obtain⟨c0,c1,c2,c3,c4⟩:=R1.out.box.c;obtain⟨⟨k0,k1,k2,k3,k4⟩,f0,f1,f2,f3,f4⟩:=R1.out.gp;have F:=J (R1.out.pO (mo':=mo) (t':=t) (P0:=P) (λk hk=>hk.1) R1.out.rows);go_wp2_with fail
 (try simp only[Exit.inBlock,Exit.then]);refine bodyPost_ret (bc rfl _ _ _ ⟨q,0,none⟩ _ rfl (bf F.out.1)) rfl ?_;exact⟨_,_,_,rfl,F.out.2.1,F.out.2.2⟩
end
theorem Nl(w:zw)(z:Int)(m:Nat)(hz: -9223372036854775808<=z/\z<=9223372036854775807)(hn:m=z.toNat):Calls prog 47 #[.int .i64 z] w (λe w'=>e= .returned (aU m (m / 2) ⟨none,0,0⟩ ⟨none,0,0⟩ ⟨none,0,0⟩)/\Below w.heap.size w w'):=by
 obtain⟨u,hu⟩:=zx (m / 2);have e2:(m:Int).tdiv 2=(u:Int):=by rw[hu,Int.tdiv_eq_ediv_of_nonneg (by omega)];rfl
 rw[← hu];have e3:IntKind.i64.wrap (u:Int)=(u:Int):=qi _ (by omega);have K0:=zs (RB (w.alloc cK) w.heap.size 0 0 ⟨none,0,0⟩ ⟨none,0,0⟩ ⟨none,0,0⟩) (heap_alloc_new _ _);have B0:=J ((zo w.heap.size w).alloc (zg _) cK)
 by_cases h0:z < 0
 . have e0:decide (z < 0)=true:=by simpa using h0
   obtain rfl:m=0:=by omega
   obtain rfl:u=0:=hu;clear hn h0 e2 e3;go_enter func47,ntmps47;go_upto_region 1 with fail
   obtain⟨q,hq⟩:=zx w.heap.size;have HQ:=zs (w.heap.size<=q) (xf hq.symm);rw[← hq] at K0|-;clear hq;generalize w.alloc cK=W at K0 B0|-;obtain⟨c0,c1,c2,c3,c4⟩:=K0.out.c;obtain⟨f0,f1,f2,f3,f4⟩:=K0.out.f;have F:=zs (RB (((((W.setCell ⟨q,0,none⟩ (.int .i64 0)).setCell ⟨q,1,none⟩ (.int .i64 0)).setCell ⟨q,2,none⟩ (.slice none 0 0)).setCell ⟨q,3,none⟩ (.slice none 0 0)).setCell ⟨q,4,none⟩ (.slice none 0 0)) q 0 0 ⟨none,0,0⟩ ⟨none,0,0⟩ ⟨none,0,0⟩/\Below w.heap.size w (((((W.setCell ⟨q,0,none⟩ (.int .i64 0)).setCell ⟨q,1,none⟩ (.int .i64 0)).setCell ⟨q,2,none⟩ (.slice none 0 0)).setCell ⟨q,3,none⟩ (.slice none 0 0)).setCell ⟨q,4,none⟩ (.slice none 0 0))) (⟨K0.out.put (mo':=0) (t':=0) (n':=⟨none,0,0⟩) (a':=⟨none,0,0⟩) (g':=⟨none,0,0⟩),uU B0.out HQ.out 0 0 ⟨none,0,0⟩ ⟨none,0,0⟩ ⟨none,0,0⟩⟩);go_wp2_with fail
   (try simp only[Exit.inBlock,Exit.then]);refine bodyPost_ret (aV rfl _ _ _ ⟨q,0,none⟩ _ rfl (bf F.out.1)) rfl ?_;exact⟨rfl,F.out.2⟩
 . have e0:decide (z < 0)=false:=by simpa using h0
   obtain rfl:z=(m:Int):=by omega
   clear hn h0 hu;go_enter func47,ntmps47;go_upto_region 1 with fail
   obtain⟨q,hq⟩:=zx w.heap.size;have HQ:=zs (w.heap.size<=q) (xf hq.symm);rw[← hq] at K0|-;clear hq;generalize w.alloc cK=W at K0 B0|-;obtain⟨c0,c1,c2,c3,c4⟩:=K0.out.c;obtain⟨f0,f1,f2,f3,f4⟩:=K0.out.f;have F:=J (K0.out.put (mo':=m) (t':=u) (n':=⟨none,0,0⟩) (a':=⟨none,0,0⟩) (g':=⟨none,0,0⟩));have B:=J (uU B0.out HQ.out m u ⟨none,0,0⟩ ⟨none,0,0⟩ ⟨none,0,0⟩);go_wp2_with fail
   (try simp only[Exit.inBlock,Exit.then]);refine bodyPost_ret (aV rfl _ _ _ ⟨q,0,none⟩ _ rfl (bf F.out)) rfl ?_;exact⟨rfl,B.out⟩
end SR
namespace SR
open Go.RowKit Sg
def sH(mo:Nat)(N A G:List KE):List KE:=((⟨(vK N A).s,(vK N A).o,false⟩:KE)::G).take mo
def oX(mo:Nat):Nat->List KE->List KE->List KE->List KE × List KE × List KE
 |0,N,A,G=>(N,A,G)
 |k+1,N,A,G=>oX mo k (iJ N) (jc N A) (sH mo N A G)
def uV:Nat->List KE->List KE->zY
 |0,_,_=>[]
 |k+1,N,A=>(vK N A).s::uV k (iJ N) (jc N A)
theorem Nn{N A:List KE}(h:N++A≠ []):(iJ N).length+(jc N A).length+1=N.length+A.length:=by
 unfold iJ jc
 by_cases hN:N= []
 . rw[if_pos hN,hN,xu];rw[hN,List.nil_append] at h;have:=List.length_pos_iff.2 h;simp;omega
 . rw[if_neg hN,xu];have:=List.length_pos_iff.2 hN;omega
theorem J'(mo:Nat)(N A G:List KE):(sH mo N A G).length<=G.length+1:=by
 unfold sH;rw[qh,zv];omega
def oY(P:Nat->Prop)(v:Value):Nat->Prop:=λk=>P k/\v.ownBlock≠some k
section
variable{w W W':zw}{P:Nat->Prop}{p q mo t base:Nat}{n a g:Sl}{N A G L:List KE}{v v':Value}{r:Sl}{xs:zY}
theorem KW.pQ(h:KW W (oY P v) r L)(hT:ao (λk=>v.ownBlock=some k) W W')(bw:∀g,v'.ownBlock=some g->v.ownBlock=some g\/W.heap.size<=g):KW W' (oY P v') r L:=
 h.same hT.size (λg hg hl=>hT.block g hl hg.2) λg hg hl=>⟨hg.1,λe=>(bw g e).elim hg.2 λh=>by omega⟩
theorem R2.pQ(k:R2 w W (oY P v) p q mo t n a g N A G)(hP:¬P p/\¬P q)(hc:∀i,W'.heap.size<=i->P i)(hT:ao (λk=>v.ownBlock=some k) W W')(bw:∀g,v'.ownBlock=some g->v.ownBlock=some g\/W.heap.size<=g)(hv:∀g,v.ownBlock=some g->g≠p/\g≠q/\w.heap.size<=g)(No:∀g,v'.ownBlock=some g->g < W'.heap.size):R2 w W' (oY P v') p q mo t n a g N A G:=
 ⟨(hT.block p k.box.lt λe=>(hv p e).1 rfl).trans k.box,⟨k.rows.n.pQ hT bw,k.rows.a.pQ hT bw,k.rows.g.pQ hT bw⟩,(hT.block q k.res.lt λe=>(hv q e).2.1 rfl).trans k.res,
   k.az.trans (hT.below (λi e=>(hv i e).2.2) k.az.size),k.low,k.ne,⟨λh=>hP.1 h.1,λh=>hP.2 h.1⟩,λi hi=>⟨hc i hi,λe=>by have:=No i e;omega⟩⟩
end
theorem zT{w:zw}{base q:Nat}{v:Value}{xs:zY}(o:Own w base v xs)(hq:q < base)(mo t:Nat)(n a g:Sl):Own (cR w q mo t n a g) base v xs:=by
 refine o.same λk hk=>?_;have:k≠q:=by have:=(o.lt hk).2;omega
 exact((((qc _ ⟨q,4,none⟩ _ _ this).trans (qc _ ⟨q,3,none⟩ _ _ this)).trans (qc _ ⟨q,2,none⟩ _ _ this)).trans (qc _ ⟨q,1,none⟩ _ _ this)).trans (qc _ ⟨q,0,none⟩ _ _ this)
theorem R2.GH{w W:zw}{P:Nat->Prop}{p q mo t:Nat}{n a g:Sl}{N A G:List KE}(r:R2 w W P p q mo t n a g N A G):R2 w W (oY P (.slice none 0 0)) p q mo t n a g N A G:=
 ⟨r.box,r.rows.wide λk hk _=>⟨hk,by simp[Value.ownBlock]⟩,r.res,r.az,r.low,r.ne,⟨λh=>r.np.1 h.1,λh=>r.np.2 h.1⟩,λk hk=>⟨r.cl k hk,by simp[Value.ownBlock]⟩⟩
theorem zU(m u:Nat)(n a g:Sl)(W:zw):(Instr.field 38 (aU m u n a g) 0).run prog W= .ok (.int .i64 (m:Int)) W:=by kernel_rfl
def Np(w:zw)(P:Nat->Prop)(p q m t:Nat)(X:List KE × List KE × List KE)(Y:zY)(k:Nat)(v:Value)(W:zw):Prop:=
 ∃(n a g:Sl) (N A G:List KE) (out:zY),k=N.length+A.length - m/\N.length+A.length+G.length<=1700/\out.length+N.length+A.length<=1700/\oX m k N A G=X/\out++uV k N A=Y/\
  R2 w W (oY (wi P p q) v) p q m t n a g N A G/\Own W (q+1) v out
section
variable(w:zw)(P:Nat->Prop)(mo t:Nat)(n a g:Sl)(N A G:List KE)(h:Rw w P n a g N A G)(hP:Cl w P)
include h hP
set_option maxRecDepth 8000 in
theorem tI(z:Int)(m t':Nat)(hz: -9223372036854775808<=z/\z<=9223372036854775807)(hm:m=z.toNat)(ht:t'=if m < t then m else t)(hl:N.length+A.length+G.length<=1700):
 Calls prog 68 #[aU mo t n a g,.int .i64 z] w (λe w'=>∃(n' a' g':Sl) (v:Value),e= .returned (.tuple #[aU m t' n' a' g',v])/\Rw w' P n' a' g' (oX m (N.length+A.length - m) N A G).1 (oX m (N.length+A.length - m) N A G).2.1 ((oX m (N.length+A.length - m) N A G).2.2.take m)/\Own w' w.heap.size v (uV (N.length+A.length - m) N A)/\Below w.heap.size w w'):=by
 have R0:=J (ff h hP mo t);obtain⟨X,hX⟩:=zx (oX m (N.length+A.length - m) N A G);obtain⟨Y,hY⟩:=zx (uV (N.length+A.length - m) N A);rw[← hX,<-hY];have uW:=J (xy hX.symm hY.symm);have HM:=zs (m<=9223372036854775807) (by omega);have HL:=J hl;clear h hP hX hY hl;have HT:=J ht;have HZ:=J (xy hz hm);clear ht hz hm;have HQ:=zs (w.heap.size < w.heap.size+1) (by omega);go_enter func68,ntmps68;go_upto_region 1 with fail
 generalize(w.alloc (aM mo t n a g)).alloc cK=W at R0|-;generalize w.heap.size+1=q at R0 HQ|-;obtain⟨p,hp⟩:=zx w.heap.size;rw[← hp] at R0 HQ|-;clear hp;have U0:=Nl W z m HZ.out.1 HZ.out.2;obtain⟨u,hu⟩:=zx (m / 2);rw[← hu] at U0;clear hu;have U:=J U0;clear U0;have Jb:=zU m u ⟨none,0,0⟩ ⟨none,0,0⟩ ⟨none,0,0⟩;go_wp2_with fail
 refine U.out.mono ?_;rintro e W1 ⟨rfl,B1⟩;have R1:=J ((R0.out.below B1).eV m);obtain⟨d0,d1,d2,d3,d4⟩:=(R0.out.below B1).box.c;obtain⟨f0,f1,f2,f3,f4⟩:=(R0.out.below B1).box.f;clear B1 R0 U;go_upto_region 2 with fail
 clear d0 d1 d2 d3 d4 f0 f1 f2 f3 f4 Jb;generalize W1.setCell ⟨p,0,none⟩ (.int .i64 (m:Int))=W2 at R1|-;obtain⟨c0,c1,c2,c3,c4⟩:=R1.out.box.c;go_upto_if 17 with fail
 go_cut [] (λW=>R2 w W (wi P p q) p q m t' n a g N A G)
 case first=>
  obtain⟨_,f1,_,_,_⟩:=R1.out.box.f;cases hb:decide (m < t) with
  |true=>
   have h1:=HT.out;rw[if_pos (of_decide_eq_true hb)] at h1;have jZ:=J h1;clear h1;go_wp2_with fail
   go_meet
   rw[jZ.out];exact R1.out.kB m
  |false=>
   have h1:=HT.out;rw[if_neg (of_decide_eq_false hb)] at h1;have jZ:=J h1;clear h1;go_wp2_with fail
   go_meet
   rw[jZ.out];exact R1.out
 case rest=>
  have jr:=J hcut;clear hcut c0 c1 c2 c3 c4 R1;go_wp2_with fail
  go_loopg [6] (N.length+A.length - m) (λk v W=>Np w P p q m t' X Y k v W)
  case atStart=>exact⟨n,a,g,N,A,G,[],rfl,HL.out,by have:=HL.out;simp;omega,uW.out.1,uW.out.2,jr.out.GH,Own.nil _ _⟩
  case round=>
   obtain⟨n1,a1,g1,N1,A1,G1,out,hk,oa,re,hX,hY,r,ho⟩:=hrel;have jN:=r.rows.n.len;have j2:=r.rows.a.len;obtain⟨l,fG⟩:=zx (N1.length+A1.length);have nH:IntKind.i64.wrap ((n1.n:Int)+(a1.n:Int))=(l:Int):=by rw[qi _ (by omega)];omega
   obtain⟨c0,c1,c2,c3,c4⟩:=r.box.c;have RR:=J r;have HO:=J ho;obtain⟨Av,cv,rfl⟩:=ho.len;cases gk with
   |zero=>
    have e0:decide (m < l)=false:=by simp;omega
    have U:=J (ry wr _ m t' n1 a1 g1 N1 A1 G1 r.rows r.cl HM.out);have EX:=J hX.symm;have EY:=J hY.symm;clear r ho hX hY hk oa re jN j2 fG jr uW;go_upto_region 9 with fail
    go_wp2_with fail
    refine U.out.mono ?_;rintro e w3 ⟨n2,a2,g2,rfl,RW,B⟩;have R3:=J (RR.out.below B);have F:=J (R3.out.pO (mo':=m) (t':=t') (P0:=P) (λk hk=>hk.1.1) RW);have O3:=J (zT (HO.out.below B) (Nat.lt_succ_self q) m t' n2 a2 g2);have Nq:=zs (w.heap.size<=q+1) (Nat.le_succ_of_le R3.out.low.2);obtain⟨⟨k0,k1,k2,k3,k4⟩,f0,f1,f2,f3,f4⟩:=R3.out.gp;clear RW B U RR HO R3 c0 c1 c2 c3 c4;go_wp2_with fail
    (try simp only[Exit.inBlock,Exit.then]);refine bodyPost_ret (bc rfl _ _ _ ⟨q,0,none⟩ _ rfl (bf F.out.1)) rfl ?_;refine⟨n2,a2,g2,_,rfl,?_,?_,F.out.2.2⟩
    . rw[EX.out];exact F.out.2.1
    . rw[EY.out];exact(xq out).symm▸O3.out.mono Nq.out
   |succ k=>
    have e0:decide (m < l)=true:=by simp;omega
    have al:N1++A1≠ []:=λh=>by have:=congrArg List.length h;rw[zh] at this;simp only[ql] at this;omega
    have yn:=Nn al;have iY:=J' m N1 A1 G1;have HK:=zs (k=(iJ N1).length+(jc N1 A1).length - m/\(iJ N1).length+(jc N1 A1).length+(sH m N1 A1 G1).length<=1700/\(out++ [(vK N1 A1).s]).length+(iJ N1).length+(jc N1 A1).length<=1700/\out.length<=1900) (⟨by omega,by omega,by rw[zh];simp only[zv,ql];omega,by omega⟩);have HX:=zs (oX m k (iJ N1) (jc N1 A1) (sH m N1 A1 G1)=X) hX;have HY:=zs ((out++ [(vK N1 A1).s])++uV k (iJ N1) (jc N1 A1)=Y) (by rw[xp];exact hY);have qJ:=J (zO r.rows.n r.rows.a al);have U:=J (oV wr _ m t' n1 a1 g1 N1 A1 G1 r.rows r.cl al HM.out (by omega));clear r ho hX hY hk oa re jN j2 fG jr uW al yn iY;go_wp2_with fail
    refine U.out.mono ?_;rintro e W3 ⟨n3,a3,g3,rfl,ly,B3⟩;have b1:=(zo W3.heap.size W3).alloc (zg _) (aM m t' n3 a3 g3);have b4:=B3.trans (b1.mono B3.size);have R4:=J (RR.out.below b4);have eF:=J (ly.below b1);have O4:=J (HO.out.below b4);have KY:=zs (RB (W3.alloc (aM m t' n3 a3 g3)) W3.heap.size m t' n3 a3 g3) (heap_alloc_new _ _);clear ly B3 b1 b4 U RR HO c0 c1 c2 c3 c4;go_upto_region 7 with fail
    generalize W3.alloc (aM m t' n3 a3 g3)=W4 at R4 eF O4 KY|-;generalize W3.heap.size=y at KY|-;obtain⟨y0,y1,y2,y3,y4⟩:=KY.out.c;obtain⟨d0,d1,d2,d3,d4⟩:=R4.out.box.c;obtain⟨f0,f1,f2,f3,f4⟩:=R4.out.box.f;have R5:=J (R4.out.dj (mo':=m) (t':=t') eF.out);have O5:=J (zT O4.out (q:=p) (Nat.lt_succ_of_lt HQ.out) m t' n3 a3 g3);clear R4 eF O4;go_upto_region 8 with fail
    clear y0 y1 y2 y3 y4 d0 d1 d2 d3 d4 f0 f1 f2 f3 f4 KY;dsimp only[cR] at R5 O5;generalize((((W4.setCell ⟨p,0,none⟩ (.int .i64 (m:Int))).setCell ⟨p,1,none⟩ (.int .i64 (t':Int))).setCell ⟨p,2,none⟩ (.slice n3.A n3.n n3.c)).setCell ⟨p,3,none⟩ (.slice a3.A a3.n a3.c)).setCell ⟨p,4,none⟩ (.slice g3.A g3.n g3.c)=W5 at R5 O5|-;have R5:=R5.out;obtain⟨A9,c9,W9,aB,zW,lX,bw⟩:=jm O5.out (vK N1 A1).s qJ.out (by have:=HK.out.2.2.2;omega) R5.res.lt;have hT:ao (λk=>(Value.slice Av out.length cv).ownBlock=some k) W5 W9:=⟨lX.os,lX.tape,lX.output,lX.size,λi hi hn=>lX.block i hi λe=>hn e.symm⟩;have IJ:=HQ.out;have R6:=J (R5.pQ (v':= .slice A9 (out.length+1) c9) ⟨λh=>h.2.1 rfl,λh=>h.2.2 rfl⟩ (λi hi=>R5.cl i (zr hT.size hi) |>.1) hT bw (λg hg=>by have:=(O5.out.lt hg).2;have:=R5.low.2;omega) (λg hg=>(zW.lt hg).1));have df:=J aB;have O9:=J zW;clear aB zW lX bw hT R5 O5 IJ;go_wp2_with(at_builtin;refine aq rfl _ _ _ rfl _ _ _ _ rfl rfl df.out ?_)
    go_roundg k
    case measure=>omega
    case rel=>exact⟨n3,a3,g3,_,_,_,out++ [(vK N1 A1).s],HK.out.1,HK.out.2.1,HK.out.2.2.1,HX.out,HY.out,R6.out,O9.out⟩
end
end SR
namespace SR
open Go.RowKit Sg
def tN(f:Told)(x:zy):KE:=⟨x,f x,f x⟩
def tA(x:zy):KE:=⟨x,true,false⟩
def tG(f:Told)(x:zy):KE:=⟨x,f x,false⟩
def St.rN(s:St):List KE:=s.N.map (tN s.f)
def St.rA(s:St):List KE:=s.A.map tA
def St.rG(s:St):List KE:=s.G.map (tG s.f)
section
variable{L N A G:zY}{k:zy}{gg:zy->KE}{f f':Told}
theorem jP(hg:∀x,(gg x).s=x):cV (L.map gg) k=aw L k:=by
 unfold cV aw;rw[List.any_map];congr 1
 funext x
 simp[hg]
theorem nI(hg:∀x,(gg x).s=x):wo (L.map gg) k=(rem L k).map gg:=by
 unfold wo rem;rw[List.filter_map];congr 1;refine List.filter_congr λx _=>?_;simp[hg]
theorem zX(hg:∀x,(gg x).s=x)(h:aw L k=true):fk (L.map gg) k=gg k:=by
 unfold fk;rw[List.find?_map];cases hf:L.find? ((λe:KE=>decide (e.s=k)) ∘ gg) with
 |none=>
  have:=List.find?_eq_none.1 hf k (aX.1 h);simp[hg] at this
 |some x=>
  have:=List.find?_some hf;simp[hg] at this;rw[this];rfl
theorem EM(hg:∀x,(gg x).s=x):nm (L.map gg)=L.reverse:=by
 unfold nm;rw[List.map_map,show KE.s ∘ gg=id from funext hg,List.map_id]
theorem PI(hg:∀x,(gg x).s=x):(L.map gg).map KE.s=L:=by
 rw[List.map_map,show KE.s ∘ gg=id from funext hg,List.map_id]
theorem wR(h:L≠ []):gj (L.map gg)=gg (ah L):=by
 unfold gj ah;rw[qw,qw,List.getLast?_map,qz h];rfl
theorem sN(f:Told):∀x,(tN f x).s=x:=λ_=>rfl
theorem sA:∀x,(tA x).s=x:=λ_=>rfl
theorem sG(f:Told):∀x,(tG f x).s=x:=λ_=>rfl
theorem oE:L.map gg= []<->L= []:=List.map_eq_nil_iff
theorem oZ(h:A++N≠ [])(hf:∀x∈A,f x=true):(vK (N.map (tN f)) (A.map tA)).s=ah (A++N)/\(vK (N.map (tN f)) (A.map tA)).o=f (ah (A++N)):=by
 unfold vK
 by_cases hN:N= []
 . subst hN;rw[xq] at h|-;rw[List.map_nil,if_pos rfl,wR h];refine⟨rfl,?_⟩
   have:ah A∈A:=by
    unfold ah;rw[qw,qz h];exact List.getLast_mem h
   rw[hf _ this];rfl
 . rw[if_neg (λe=>hN (oE.1 e)),wR hN,(jD (A:=A) hN).1];exact⟨rfl,rfl⟩
theorem vX:iJ (L.map gg)=L.dropLast.map gg:=by unfold iJ;rw[List.map_dropLast]
theorem vY{hh:zy->KE}:jc (N.map gg) (A.map hh)=(dA N A).map hh:=by
 unfold jc dA
 by_cases hN:N= []
 . rw[if_pos (oE.2 hN),if_pos hN,List.map_dropLast]
 . rw[if_neg (λe=>hN (oE.1 e)),if_neg hN]
theorem Ka(m:Nat)(h:A++N≠ [])(hf:∀x∈A,f x=true):sH m (N.map (tN f)) (A.map tA) (G.map (tG f))=((ah (A++N)::G).take m).map (tG f):=by
 unfold sH;rw[(oZ h hf).1,(oZ h hf).2,List.map_take];rfl
theorem vZ(h:A++N≠ []):(dA N A).length+N.dropLast.length+1=A.length+N.length:=by
 have:=congrArg List.length (tw N A);rw[zh,xu (xs:=A++N),zh] at this;have h0:=List.length_pos_iff.2 h;rw[zh] at h0;omega
theorem v7(h:A++N≠ []):A++N=dA N A++N.dropLast++ [ah (A++N)]:=by
 rw[tw];unfold ah;rw[qw,qz h];exact(List.dropLast_concat_getLast h).symm
theorem BM{n:Nat}(h:A++N≠ [])(hn:n+1<=A.length+N.length):gL n N.dropLast (dA N A)=gL n N A/\gm n N.dropLast (dA N A)=gm n N A:=by
 have hl:=vZ h;unfold gL gm gone
 by_cases hN:N= []
 . subst hN;unfold dA at hl|-;rw[if_pos rfl] at hl|-;simp only[List.dropLast_nil,ql,Nat.add_zero,List.take_nil,xu,true_and] at hl hn|-;rw[List.dropLast_eq_take,List.take_take];congr 1;omega
 . have h0:=List.length_pos_iff.2 hN;unfold dA at hl|-;rw[if_neg hN] at hl|-;rw[xu] at hl|-;refine⟨?_,?_⟩
   . rw[List.dropLast_eq_take,List.take_take];congr 1;omega
   . congr 1;omega
theorem mY{n:Nat}(h:A++N≠ [])(hn:n+1<=A.length+N.length):eo n N.dropLast (dA N A) (ah (A++N)::G)=eo n N A G:=by
 have hl:=vZ h;have ha:=v7 h;unfold eo gone;rw[show A.length+N.length - (A.length+N.length - n)=n by omega,show(dA N A).length+N.dropLast.length - ((dA N A).length+N.dropLast.length - n)=n by omega]
 conv=>rhs;rw[ha]
 rw[List.drop_append_of_le_length (l₁:=dA N A++N.dropLast) (by rw[zh];omega),xp (List.drop n (dA N A++N.dropLast))];rfl
end
theorem tJ(f:Told)(m n:Nat):∀(k:Nat) (N A G:zY),n+k=A.length+N.length->(∀x∈A,f x=true)->
 (oX m k (N.map (tN f)) (A.map tA) (G.map (tG f))).1=(gL n N A).map (tN f)/\(oX m k (N.map (tN f)) (A.map tA) (G.map (tG f))).2.1=(gm n N A).map tA/\
 ((oX m k (N.map (tN f)) (A.map tA) (G.map (tG f))).2.2.take m)=((eo n N A G).take m).map (tG f)/\uV k (N.map (tN f)) (A.map tA)=(A++N).reverse.take k
 |0,N,A,G,h,hf=>by
  have h0:gone n N A=0:=by unfold gone;omega
  have hQ:eo n N A G=G:=by
   unfold eo;rw[h0,Nat.sub_zero,List.drop_of_length_le (by rw[zh];omega)];rfl
  unfold gL gm;rw[hQ,h0,Nat.sub_zero,Nat.sub_zero,List.take_length,qk (by omega),List.map_take];exact⟨rfl,rfl,rfl,rfl⟩
 |k+1,N,A,G,h,hf=>by
  have al:A++N≠ []:=λe=>by have:=congrArg List.length e;rw[zh] at this;simp only[ql] at this;omega
  have hl:=vZ al;have ih:=tJ f m n k N.dropLast (dA N A) ((ah (A++N)::G).take m) (by omega) λx hx=>hf x ((rr N A).subset hx);obtain⟨i1,i2,i3,i4⟩:=ih
  have e1:oX m (k+1) (N.map (tN f)) (A.map tA) (G.map (tG f))=oX m k (N.dropLast.map (tN f)) ((dA N A).map tA) (((ah (A++N)::G).take m).map (tG f)):=by
   show oX m k _ _ _=_;rw[vX,vY,Ka m al hf]
  have e2:uV (k+1) (N.map (tN f)) (A.map tA)=ah (A++N)::uV k (N.dropLast.map (tN f)) ((dA N A).map tA):=by
   show(vK _ _).s::uV k _ _=_;rw[vX,vY,(oZ al hf).1]
  rw[e1,e2];refine⟨i1.trans (congrArg _ (BM al (by omega)).1),i2.trans (congrArg _ (BM al (by omega)).2),i3.trans (congrArg _ ?_),?_⟩
  . rw[← mY (G:=G) al (by omega)];unfold eo;rw[List.take_append,List.take_append];congr 1;rw[List.take_take];congr 1;omega
  . rw[i4]
    conv=>rhs;rw[v7 al]
    rw[show(dA N A++N.dropLast++ [ah (A++N)]).reverse=ah (A++N)::(dA N A++N.dropLast).reverse by simp];rfl
theorem rC{s:St}{n:Nat}(cG:s.all.Nodup){x:zy}(hx:x∈(s.cut n).all):(s.cut n).f x=s.f x:=by
 have hw:=rq n s.N s.A s.G;unfold St.all at cG;rw[← hw,<-xw s.mo (eo n s.N s.A s.G),<-xp] at cG
 have h1:aw ((eo n s.N s.A s.G).drop s.mo) x=false:=by
  rw[bz];intro h2;exact(List.nodup_append.1 cG).2.2 x hx x h2 rfl
 show(s.f x&&!aw ((eo n s.N s.A s.G).drop s.mo) x)=s.f x;rw[h1];simp
theorem tK{s:St}{n:Nat}(cG:s.all.Nodup):(s.cut n).rN=(gL n s.N s.A).map (tN s.f)/\(s.cut n).rA=(gm n s.N s.A).map tA/\(s.cut n).rG=((eo n s.N s.A s.G).take s.mo).map (tG s.f):=by
 refine⟨xh λx hx=>?_,rfl,xh λx hx=>?_⟩
 . have:=rC (n:=n) cG (x:=x) (qq _ (qx _ hx));unfold tN;rw[this]
 . have:=rC (n:=n) cG (x:=x) (qx _ hx);unfold tG;rw[this]
end SR
namespace SR
open Go.RowKit Sg
theorem wS{s:St}{k:zy}(hk:k∉s.all)(hf:∀x∈s.A,s.f x=true):(s.prom k).rN=wP s.t s.rN (⟨k,true,false⟩::s.rA)/\(s.prom k).rA=wQ s.t (⟨k,true,false⟩::s.rA)/\(s.prom k).rG=s.rG:=by
 unfold St.all at hk;have e1:(⟨k,true,false⟩::s.rA:List KE)=(k::s.A).map tA:=rfl;rw[e1];refine⟨?_,?_,?_⟩
 . unfold wP;show((k::s.A).drop (mx s.t)++s.N).map (tN (iG s.f k))=_;rw[xc,<-List.map_drop,List.map_map];congr 1
   . refine xh λx hx=>?_;have hx:=List.mem_of_mem_drop hx
     have:iG s.f k x=true:=by
      unfold iG;rcases List.mem_cons.1 hx with h|h
      . rw[if_pos h]
      . split
        . rfl
        . exact hf x h
     show tN (iG s.f k) x=EJ (tA x);unfold tN EJ tA;rw[this]
   . refine xh λx hx=>?_;have al:x≠k:=λe=>hk (qq _ (qx _ (e▸hx)));have:iG s.f k x=s.f x:=if_neg al;unfold tN;rw[this]
 . unfold wQ;rw[← List.map_take];rfl
 . refine xh λx hx=>?_;have al:x≠k:=λe=>hk (qx _ (e▸hx));have:iG s.f k x=s.f x:=if_neg al;unfold tG;show(⟨x,iG s.f k x,false⟩:KE)=_;rw[this]
theorem wT{s:St}{n:Nat}(cG:s.all.Nodup)(h:s.A.length+s.N.length<=n)(hg:s.G.length<=s.mo):(s.cut n).rN=s.rN/\(s.cut n).rA=s.rA/\(s.cut n).rG=s.rG:=by
 obtain⟨h1,h2,h3⟩:=tK (n:=n) cG;have h0:gone n s.N s.A=0:=by unfold gone;omega
 rw[h1,h2,h3];unfold gL gm eo;rw[h0,Nat.sub_zero,Nat.sub_zero,List.take_length,qk (by omega),List.drop_of_length_le (by rw[zh];omega),List.nil_append,qk hg];exact⟨rfl,rfl,rfl⟩
theorem wU{s:St}{n:Nat}(cG:s.all.Nodup)(hf:∀x∈s.A,s.f x=true)(h:n+1=s.A.length+s.N.length):(s.cut n).rN=iJ s.rN/\(s.cut n).rA=jc s.rN s.rA/\(s.cut n).rG=sH s.mo s.rN s.rA s.rG/\(vK s.rN s.rA).s=ah (s.A++s.N):=by
 obtain⟨h1,h2,h3⟩:=tK (n:=n) cG;obtain⟨i1,i2,i3,_⟩:=tJ s.f s.mo n 1 s.N s.A s.G h hf;have al:s.A++s.N≠ []:=λe=>by have:=congrArg List.length e;rw[zh] at this;simp only[ql] at this;omega
 rw[h1,h2,h3];refine⟨i1.symm,i2.symm,i3.symm.trans ?_,(oZ al hf).1⟩;show(sH s.mo s.rN s.rA s.rG).take s.mo=_;unfold sH;rw[List.take_take,Nat.min_self]
section
variable{s:St}{k:zy}
theorem gv:s.rN.length=s.N.length:=xe _
theorem gw:s.rA.length=s.A.length:=xe _
theorem rD:s.rG.length=s.G.length:=xe _
theorem kD:(cV s.rN k||cV s.rA k)=s.aF k:=by
 unfold St.rN St.rA St.aF;rw[jP (sN _),jP sA]
theorem zZ(h:aw s.N k=true):nT s.mo s.t (fk s.rN k).d=(s.fU k).t:=by
 unfold St.rN;rw[zX (sN _) h];unfold nT St.fU rp tN;show(if s.f k=true/\s.t < s.mo then s.t+1 else s.t)=if s.f k=true then(if s.t < s.mo then s.t+1 else s.t) else s.t
 cases s.f k <;> by_cases h:s.t < s.mo <;> simp[h]
theorem o6(h:aw s.G k=true):gT s.t true (fk s.rG k).o=(s.eA k).t:=by
 unfold St.rG;rw[zX (sG _) h];unfold gT St.eA oS tG;show(if true=true/\s.f k=false/\1 < s.t then s.t - 1 else s.t)=if s.f k=true then s.t else(if 1 < s.t then s.t - 1 else s.t)
 cases s.f k <;> by_cases h:1 < s.t <;> simp[h]
end
theorem CT.as{w w':zw}{P:Nat->Prop}{F F':Value->Value}{mo mo' t t':Nat}{N A G N' A' G':List KE}{e:Ending}(h:CT w P F mo t N A G e w')(hF:F=F')(hm:mo=mo')(ht:t=t')(hN:N=N')(hA:A=A')(hG:G=G'):CT w P F' mo' t' N' A' G' e w':=by
 subst hF hm ht hN hA hG;exact h
def CS(w:zw)(P:Nat->Prop)(F:Value->Value)(s:St)(e:Ending)(w':zw):Prop:=CT w P F s.mo s.t s.rN s.rA s.rG e w'
section
variable(w:zw)(P:Nat->Prop)(n a g:Sl)(s:St)(h:Rw w P n a g s.rN s.rA s.rG)(hP:Cl w P)(key:zy)(hs:key.size<=maxLen)(hp:Ok s)(C8:s.mo<=9223372036854775807)(bk:s.cz<=1000)
include h hP hs hp C8 bk
theorem oF:Calls prog 53 #[aU s.mo s.t n a g,.string key] w (CS w P (λv=> .tuple #[v,s.step key]) (s.aK key)):=by
 have cG:=hp.nd;have Nr:=cG;unfold St.all at cG;have hle:=hp.le;have iY:=hp.gl;have Ns:=hp.tl;unfold St.cz at bk;have l1:s.rN.length+s.rA.length<=1700:=by rw[gv,gw];omega
 have l2:s.rG.length<=1700:=by rw[rD];omega
 by_cases hm:s.mo=0
 . have hA:s.A= []:=qe (by omega);have hN:s.N= []:=qe (by omega);have e2:s.aK key=s:=by unfold St.aK;rw[if_pos hm]
   have e1:s.step key=gE false ⟨#[]⟩ false:=by
    unfold St.step St.dW St.out St.aF;rw[hA,hN];simp[hm,aw]
   have hh:(cV s.rN key||cV s.rA key)=false:=by rw[kD];unfold St.aF;rw[hA,hN];rfl
   rw[e1,e2];exact ku w P s.mo s.t n a g _ _ _ h hP key hm false hh
 cases hA:aw s.A key with
 |true=>
  have hN:aw s.N key=false:=by
   rw[bz];intro h2;exact(List.nodup_append.1 (List.nodup_append.1 cG).1).2.2 key (aX.1 hA) key h2 rfl
  have e2:s.aK key=s.lp key:=by unfold St.aK;rw[if_neg hm,if_pos hA]
  have nJ:s.aF key=true:=by unfold St.aF;rw[hA,hN];rfl
  have e1:s.step key=gE true ⟨#[]⟩ false:=by
   unfold St.step St.dW St.out;rw[nJ];simp
  rw[e1,e2];refine(TQ w P s.mo s.t n a g _ _ _ h hP key hm l1 true (by rw[kD,nJ]) (by unfold St.rA;rw[jP sA];exact hA)).mono λe w' q=>q.as rfl rfl rfl rfl ?_ rfl;show fk s.rA key::wo s.rA key=(key::rem s.A key).map tA;unfold St.rA;rw[zX sA hA,nI sA];rfl
 |false=>
 have kA:cV s.rA key=false:=by unfold St.rA;rw[jP sA];exact hA
 cases hN:aw s.N key with
 |true=>
  have e2:s.aK key=(s.fU key).prom key:=by unfold St.aK;rw[if_neg hm,if_neg (by rw[hA];simp),if_pos hN]
  have nJ:s.aF key=true:=by unfold St.aF;rw[hA,hN];rfl
  have e1:s.step key=gE true ⟨#[]⟩ false:=by
   unfold St.step St.dW St.out;rw[nJ];simp
  have hk:key∉(s.fU key).all:=by
   show key∉s.A++rem s.N key++s.G;intro hx;rcases List.mem_append.1 hx with hx|hx
   . rcases List.mem_append.1 hx with hx|hx
     . exact bz.1 hA hx
     . exact eP hx
   . exact(List.nodup_append.1 cG).2.2 key (qx _ (aX.1 hN)) key hx rfl
  obtain⟨p1,p2,p3⟩:=wS hk hp.fA;rw[e1,e2];have hw:(s.fU key).rN=wo s.rN key:=by unfold St.rN;rw[nI (sN _)];rfl
  refine(TR w P s.mo s.t n a g _ _ _ h hP key hs hm C8 l1 true (by rw[kD,nJ]) kA (by unfold St.rN;rw[jP (sN _)];exact hN)).mono λe w' q=>q.as rfl rfl (zZ hN) ?_ ?_ ?_
  . rw[p1,hw,zZ hN];rfl
  . rw[p2,zZ hN];rfl
  . rw[p3];rfl
 |false=>
 have kN:cV s.rN key=false:=by unfold St.rN;rw[jP (sN _)];exact hN
 have nJ:s.aF key=false:=by unfold St.aF;rw[hA,hN];rfl
 have hh:(cV s.rN key||cV s.rA key)=false:=by rw[kD,nJ]
 have RC:wo s.rG key=(rem s.G key).map (tG s.f):=by unfold St.rG;rw[nI (sG _)]
 cases hG:aw s.G key with
 |true=>
  have e2:s.aK key=((s.eA key).cut (s.mo - 1)).prom key:=by unfold St.aK;rw[if_neg hm,if_neg (by rw[hA];simp),if_neg (by rw[hN];simp),if_pos hG]
  have kG:cV s.rG key=true:=by unfold St.rG;rw[jP (sG _)];exact hG
  have RF:(s.eA key).all=s.A++s.N++rem s.G key:=rfl;have Nt:(s.eA key).all.Nodup:=by rw[RF];exact cG.sublist (List.Sublist.append_left xx _)
  have VA:key∉(s.eA key).all:=by
   rw[RF];intro hx;rcases List.mem_append.1 hx with hx|hx
   . rcases List.mem_append.1 hx with hx|hx
     . exact bz.1 hA hx
     . exact bz.1 hN hx
   . exact eP hx
  have EN:key∉((s.eA key).cut (s.mo - 1)).all:=λhx=>VA ((se (s.eA key) (s.mo - 1)).subset hx)
  have DF:∀x∈((s.eA key).cut (s.mo - 1)).A,((s.eA key).cut (s.mo - 1)).f x=true:=λx hx=>by
   rw[rC Nt (qq _ (qq _ hx))];exact hp.fA x (xn hx)
  obtain⟨p1,p2,p3⟩:=wS EN DF;have yn:(s.eA key).rG=wo s.rG key:=RC.symm;rw[e2]
  by_cases hf:s.mo<=s.A.length+s.N.length
  . obtain⟨c1,c2,c3,c4⟩:=wU (s:=s.eA key) (n:=s.mo - 1) Nt hp.fA (show s.mo - 1+1=s.A.length+s.N.length by omega)
    have e1:s.step key=gE false (vK s.rN s.rA).s true:=by
     have VB:(vK s.rN s.rA).s=ah (s.A++s.N):=c4;unfold St.step St.dW St.out;rw[nJ,VB];simp[hm,hf]
    rw[e1];refine(xI w P s.mo s.t n a g _ _ _ h hP key hs hm C8 (by omega) l1 l2 false hh kA kN kG (by rw[gv,gw];omega)).mono λe w' q=>q.as rfl rfl (o6 hG) ?_ ?_ ?_
    . rw[p1,c1,c2,o6 hG];rfl
    . rw[p2,c2,o6 hG];rfl
    . rw[p3,c3,yn];rfl
  . obtain⟨c1,c2,c3⟩:=wT (s:=s.eA key) (n:=s.mo - 1) Nt (show s.A.length+s.N.length<=s.mo - 1 by omega) (zr (aI s.G key) iY)
    have e1:s.step key=gE false ⟨#[]⟩ false:=by
     unfold St.step St.dW St.out;rw[nJ];simp[hf]
    rw[e1];refine(xH w P s.mo s.t n a g _ _ _ h hP key hs hm (by omega) l1 l2 false hh kA kN kG (by rw[gv,gw];omega)).mono λe w' q=>q.as rfl rfl (o6 hG) ?_ ?_ ?_
    . rw[p1,c1,c2,o6 hG];rfl
    . rw[p2,c2,o6 hG];rfl
    . rw[p3,c3,yn]
 |false=>
  have e2:s.aK key=(s.cut (s.mo - 1)).fr key:=by unfold St.aK;rw[if_neg hm,if_neg (by rw[hA];simp),if_neg (by rw[hN];simp),if_neg (by rw[hG];simp)]
  have kG:cV s.rG key=false:=by unfold St.rG;rw[jP (sG _)];exact hG
  have EO:wo s.rG key=s.rG:=by rw[RC,aZ (bz.1 hG)];rfl
  have VC:s.f key=false:=by
   cases hb:s.f key with
   |false=>rfl
   |true=>
    rcases hp.fin key hb with h0|h0
    . exact h0.elim
    . unfold St.all at h0;rcases List.mem_append.1 h0 with hx|hx
      . rcases List.mem_append.1 hx with hx|hx
        . exact absurd hx (bz.1 hA)
        . exact absurd hx (bz.1 hN)
      . exact absurd hx (bz.1 hG)
  have jG:((s.cut (s.mo - 1)).fr key).rN=⟨key,false,false⟩::(s.cut (s.mo - 1)).rN:=by
   show tN (fZ s.f _) key::_=_;have:fZ s.f ((eo (s.mo - 1) s.N s.A s.G).drop s.mo) key=false:=by unfold fZ;rw[VC];rfl
   unfold tN;rw[this];rfl
  rw[e2]
  by_cases hf:s.mo<=s.A.length+s.N.length
  . obtain⟨c1,c2,c3,c4⟩:=wU (s:=s) (n:=s.mo - 1) Nr hp.fA (show s.mo - 1+1=s.A.length+s.N.length by omega)
    have e1:s.step key=gE false (vK s.rN s.rA).s true:=by
     unfold St.step St.dW St.out;rw[nJ,c4];simp[hm,hf]
    rw[e1];refine(AU w P s.mo s.t n a g _ _ _ h hP key hs hm C8 l1 l2 false hh kA kN kG (by rw[gv,gw];omega)).mono λe w' q=>q.as rfl rfl rfl ?_ ?_ ?_
    . rw[jG,c1]
    . exact c2.symm
    . rw[EO];exact c3.symm
  . obtain⟨c1,c2,c3⟩:=wT (s:=s) (n:=s.mo - 1) Nr (show s.A.length+s.N.length<=s.mo - 1 by omega) iY
    have e1:s.step key=gE false ⟨#[]⟩ false:=by
     unfold St.step St.dW St.out;rw[nJ];simp[hf]
    rw[e1];refine(AQ w P s.mo s.t n a g _ _ _ h hP key hs hm l1 l2 false hh kA kN kG (by rw[gv,gw];omega)).mono λe w' q=>q.as rfl rfl rfl ?_ ?_ ?_
    . rw[jG,c1]
    . exact c2.symm
    . rw[EO];exact c3.symm
end
end SR
namespace SR
open Go.RowKit Sg
theorem BN{f:Told}{k x:zy}(h:x≠k):eC f k x=f x:=if_neg h
theorem tL{f:Told}{k:zy}{L:zY}(h:k∉L):L.map (tN (eC f k))=L.map (tN f):=xh λx hx=>by
 have al:x≠k:=λe=>h (e▸hx);unfold tN;rw[BN al]
theorem tM{f:Told}{k:zy}{L:zY}(h:k∉L):L.map (tG (eC f k))=L.map (tG f):=xh λx hx=>by
 have al:x≠k:=λe=>h (e▸hx);unfold tG;rw[BN al]
theorem z8{L:zY}:bb L=!L.isEmpty:=by cases L <;> rfl
theorem kO{s:St}:s.rN++s.rA= []<->s.A++s.N= []:=by
 unfold St.rN St.rA;rw[List.append_eq_nil_iff,List.append_eq_nil_iff,List.map_eq_nil_iff,List.map_eq_nil_iff];exact And.comm
section
variable(w:zw)(P:Nat->Prop)(n a g:Sl)(s:St)(h:Rw w P n a g s.rN s.rA s.rG)
include h
theorem pR(hp:Ok s):Calls prog 70 #[aU s.mo s.t n a g] w (dV (.tuple #[.string (ah (s.A++s.N)),.bool (bb (s.A++s.N))]) w):=by
 have e1:vW s.rN s.rA=ah (s.A++s.N):=by
  have e0:vW s.rN s.rA=(vK s.rN s.rA).s:=by unfold vW vK;split <;> rfl
  by_cases al:s.A++s.N= []
  . have:=List.append_eq_nil_iff.1 al;unfold vW St.rN St.rA;rw[this.1,this.2];rfl
  . rw[e0];exact(oZ al hp.fA).1
 have e2:CZ s.rN s.rA=bb (s.A++s.N):=by
  rw[z8];unfold CZ
  by_cases al:s.A++s.N= []
  . rw[al,kO.2 al];rfl
  . have h1:=List.isEmpty_eq_false_iff.2 al;have h2:=List.isEmpty_eq_false_iff.2 (λe=>al (kO.1 e):s.rN++s.rA≠ []);rw[h1,h2]
 rw[← e1,<-e2];exact pN w P s.mo s.t n a g _ _ _ h
theorem tP(bk:s.cz<=1000):Calls prog 73 #[aU s.mo s.t n a g] w (br (s.A++s.N).reverse w):=by
 unfold St.cz at bk;have:=zR w P s.mo s.t n a g _ _ _ h (by rw[gv,gw];omega);unfold St.rN St.rA at this;rw[EM (sN _),EM sA] at this;rw[List.reverse_append];exact this
theorem pS(hp:Ok s)(bk:s.cz<=1000):Calls prog 75 #[aU s.mo s.t n a g] w (br s.G w):=by
 unfold St.cz at bk;have cG:=hp.nd;unfold St.all at cG;have e:s.rG.map KE.s=s.G:=by unfold St.rG;exact PI (sG _)
 have:=tF w P s.mo s.t n a g _ _ _ h (by rw[rD];omega) (by rw[e];exact(List.nodup_append.1 cG).2.1);rw[e] at this;exact this
variable(hP:Cl w P)(key:zy)(hs:key.size<=maxLen)(hp:Ok s)(bk:s.cz<=1000)
include hP hp
theorem tQ:Calls prog 64 #[aU s.mo s.t n a g] w (CS w P (λv=> .tuple #[v,.string (ah (s.A++s.N)),.bool (bb (s.A++s.N))]) s.dr):=by
 have cG:=hp.nd;unfold St.all at cG
 by_cases al:s.A++s.N= []
 . have h0:=List.append_eq_nil_iff.1 al;have e1:bb (s.A++s.N)=false:=by rw[al];rfl
   have e2:ah (s.A++s.N)=⟨#[]⟩:=by rw[al];rfl
   have e3:s.dr.rN=s.rN:=by unfold St.rN;show(s.N.dropLast).map _=_;rw[h0.2];rfl
   have e4:s.dr.rA=s.rA:=by unfold St.rA;show(dA s.N s.A).map _=_;unfold dA;rw[h0.2,h0.1];rfl
   have e5:s.dr.rG=s.rG:=by unfold St.rG St.dr;rw[e1];rfl
   rw[e1,e2];exact(EH w P s.mo s.t n a g _ _ _ h hP (kO.2 al)).mono λe w' q=>q.as rfl rfl rfl e3.symm e4.symm e5.symm
 . have e1:bb (s.A++s.N)=true:=by rw[z8,List.isEmpty_eq_false_iff.2 al];rfl
   have hf:s.dr.f=eC s.f (ah (s.A++s.N)):=by unfold St.dr;rw[e1];rfl
   have ha:=v7 al;have VD:(dA s.N s.A++s.N.dropLast++ [ah (s.A++s.N)]++s.G).Nodup:=by rw[← ha];exact cG
   have n1:=List.nodup_append.1 VD;have n2:=List.nodup_append.1 n1.1
   have e3:s.dr.rN=iJ s.rN:=by
    unfold St.rN;rw[vX,hf];exact tL λhx=>n2.2.2 _ (qx _ hx) _ (List.mem_singleton.2 rfl) rfl
   have e4:s.dr.rA=jc s.rN s.rA:=by unfold St.rN St.rA;rw[vY];rfl
   have e5:s.dr.rG=s.rG:=by
    unfold St.rG;rw[hf];exact tM λhx=>n1.2.2 _ (qx _ (List.mem_singleton.2 rfl)) _ hx rfl
   rw[e1,<-(oZ al hp.fA).1];exact(jL w P s.mo s.t n a g _ _ _ h hP (λe=>al (kO.1 e))).mono λe w' q=>q.as rfl rfl rfl e3.symm e4.symm e5.symm
omit hp
include bk
include hs
theorem rE:Calls prog 61 #[aU s.mo s.t n a g,.string key] w (CS w P (λv=> .tuple #[v,.bool (s.bD key)]) (s.ad key)):=by
 unfold St.cz at bk;cases hb:s.bD key with
 |true=>
  have j9:=hb;unfold St.bD at j9;rw[Bool.and_eq_true,Bool.not_eq_true',decide_eq_true_eq] at j9;have hh:=j9.1;unfold St.aF at hh;rw[Bool.or_eq_false_iff] at hh;have e2:s.ad key=⟨s.mo,s.t,key::s.N,s.A,rem s.G key,eC s.f key⟩:=by unfold St.ad;rw[if_pos hb]
  rw[e2];refine(rB w P s.mo s.t n a g _ _ _ h hP key hs (by rw[gv,gw];omega) (by rw[rD];omega) (by rw[kD];exact j9.1) (by rw[gv,gw];exact j9.2)).mono λe w' q=>q.as rfl rfl rfl ?_ rfl ?_
  . show _=tN (eC s.f key) key::s.N.map (tN (eC s.f key));rw[tL (bz.1 hh.1)];unfold tN eC;rw[if_pos rfl];rfl
  . unfold St.rG;rw[nI (sG _)];exact(tM eP).symm
 |false=>
  have e2:s.ad key=s:=by unfold St.ad;rw[if_neg (by rw[hb];simp)]
  rw[e2];refine tH w P s.mo s.t n a g _ _ _ h hP key (by rw[gv,gw];omega) (s.aF key) kD ?_;unfold St.bD at hb;rw[gv,gw];cases hh:s.aF key with
  |true=>exact xz rfl
  |false=>rw[hh] at hb;simp at hb;exact ja hb
end
theorem pT(w:zw)(P:Nat->Prop)(n a g:Sl)(s:St)(h:Rw w P n a g s.rN s.rA s.rG)(hP:Cl w P)(hp:Ok s)(bk:s.cz<=1000)(z:Int)(hz: -9223372036854775808<=z/\z<=9223372036854775807):
 Calls prog 68 #[aU s.mo s.t n a g,.int .i64 z] w (λe w'=>∃(n' a' g':Sl) (v:Value),e= .returned (.tuple #[aU (s.rs z.toNat).mo (s.rs z.toNat).t n' a' g',v])/\Rw w' P n' a' g' (s.rs z.toNat).rN (s.rs z.toNat).rA (s.rs z.toNat).rG/\Own w' w.heap.size v ((s.A++s.N).reverse.take (s.A.length+s.N.length - z.toNat))/\Below w.heap.size w w'):=by
 unfold St.cz at bk;have hn:z.toNat=z.toNat:=rfl;generalize hm:z.toNat=m at*;refine(tI w P s.mo s.t n a g _ _ _ h hP z m (s.rs m).t hz hm.symm rfl (by rw[gv,gw,rD];omega)).mono ?_;rintro e w' ⟨n',a',g',v,he,hR,hO,hB⟩;rw[gv,gw,Nat.add_comm s.N.length] at hR hO;obtain⟨i1,i2,i3,i4⟩:=tJ s.f m (s.A.length+s.N.length - (s.A.length+s.N.length - m)) (s.A.length+s.N.length - m) s.N s.A s.G (by omega) hp.fA;have hg:gone (s.A.length+s.N.length - (s.A.length+s.N.length - m)) s.N s.A=gone m s.N s.A:=by unfold gone;omega
 have nd:(s.size m).all.Nodup:=hp.nd;obtain⟨c1,c2,c3⟩:=tK (n:=m) nd;unfold gL at i1;unfold gm at i2;unfold eo at i3;rw[hg] at i1 i2 i3;refine⟨n',a',g',v,he,?_,?_,hB⟩
 . have Nu:=hR;unfold St.rN St.rA St.rG at Nu;rw[i1,i2,i3] at Nu;show Rw w' P n' a' g' ((s.size m).cut m).rN ((s.size m).cut m).rA ((s.size m).cut m).rG;rw[c1,c2,c3];exact Nu
 . unfold St.rN St.rA at hO;rw[i4] at hO;exact hO
