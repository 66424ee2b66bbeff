/- Shapes9 Shapes10 Shapes12 Law11 Seen11 Few12, in one text. -/
import Derived.Test.YtdmmciggopmglaaGreatDoorRows
import Derived.Test.YtdmmciggopmglaaGreatDoorY2
import Derived.Test.YtdmmciggopmglaaGreatDoorGBas
import Derived.ProofKit
import Derived.OpenShut
import Derived.ShutString
import Derived.ChangeOld
import Derived.Deep.Slices
import Derived.Deep.Strs
import Derived.SliceStrings
import Derived.Test.YtdmmciggopmglaaGreatDoorY3
import Derived.Test.YtdmmciggopmglaaGreatDoorYc
import Derived.Test.YtdmmciggopmglaaGreatDoorHd
set_option maxRecDepth 20000
namespace Go.Proofs.YtdmmciggopmglaaGreatDoor
open Go.ChangeShapes Go.WideShapes Go.ChangeAt Go.RowKit Go.Deep
theorem laidOut:laidOutB Tryz.prog=true:=by kernel_rfl
theorem i64_rng{a:Int}(h:(Lit.int .i64 a).wf=true): -9223372036854775808<=a/\a<=9223372036854775807:=by
 have:=(Bool.and_eq_true _ _).mp h;exact⟨of_decide_eq_true this.1,of_decide_eq_true this.2⟩
theorem cellsI:Tryz.prog.cellsOf 3=1:=by kernel_rfl
theorem cellsStr:Tryz.prog.cellsOf 9=1:=by kernel_rfl
section
variable{H:Type}{enc:TypeId × Value->H}{W:World}
theorem addr_plain{a:Addr}{v:Value}(h:W.cell? a=some v):∃g o,a=⟨g,o,none⟩/\g < W.heap.size:=by
 obtain⟨g,o,spot⟩:=a;obtain rfl:spot=none:=World.cell?_spot h;exact⟨g,o,rfl,World.block_lt_of_cell? W _ h⟩
theorem add_at(g o i:Nat):Addr.add ⟨g,o,none⟩ i=⟨g,o+i,none⟩:=by
 unfold Addr.add;split
 . rename_i h;rw[h];rfl
 . rfl
instance:Inhabited (Int × ByteArray × Int):=⟨(0,⟨#[]⟩,0)⟩
def CameS(W:World)(v:Value):Prop:=∃A n c,v= .slice A n c/\n<=maxLen/\∃S:Nat->ByteArray,(∀i,i < n->(S i).size<=maxLen)/\
 (0 < n->∃g o,A=some ⟨g,o,none⟩/\g < W.heap.size/\n<=c/\c<=maxLen/\∀i,i < n->W.cell? ⟨g,o+i,none⟩=some (.string (S i)))
theorem open_z{base0:Nat}{v:Value}{d:DataW H}{p:List MemPlace}(hv:Value.okWide Tryz.prog W .any base0 23 v)(h:DataW.Trod enc Tryz.prog W 0 (λ_=>true) true 23 v d p):CameS W v:=by
 obtain⟨A,n,c,rfl⟩:=okWide_slice Tryz.underlying23 hv;obtain⟨fuel,hf⟩:=h;rcases open_strings Tryz.underlying23 Tryz.underlying9 cellsStr hf with⟨hcs,_⟩|⟨a,len,cap,ss,hcs,_,hl,hm,hz,_,hcell,hws⟩
 . simp[Value.cells] at hcs;obtain⟨rfl,rfl,rfl⟩:=hcs;exact⟨none,0,0,rfl,by unfold maxLen;omega,λ_=>⟨#[]⟩,λi hi=>by omega,λh=>by omega⟩
 . simp[Value.cells] at hcs;obtain⟨rfl,rfl,rfl⟩:=hcs;have hzl:n<=ss.length:=by rw[hz];split <;> omega
   refine⟨some a,n,c,rfl,by omega,λi=>ss.getD i ByteArray.empty,λi hi=>?_,λh0=>?_⟩
   . have hi':i < ss.length:=by omega
     show(ss.getD i ByteArray.empty).size<=maxLen;rw[List.getD_eq_getElem?_getD,List.getElem?_eq_getElem hi'];exact hws _ (List.getElem_mem hi')
   . have h1:=hcell 0 (by omega);rw[show a.add 0=a from rfl] at h1;obtain⟨g,o,rfl,hg⟩:=addr_plain h1;exact⟨g,o,rfl,hg,hl,hm,λi hi=>by rw[← add_at];exact hcell i (by omega)⟩
end
end Go.Proofs.YtdmmciggopmglaaGreatDoor
set_option maxRecDepth 20000
namespace Go.Proofs.YtdmmciggopmglaaGreatDoor
open Go.ChangeShapes Go.WideShapes Go.ChangeAt Go.RowKit Go.Deep
def CameR(W:World)(v:Value):Prop:=∃A n c,v= .slice A n c/\n<=maxLen/\(n<=1000->∃xs:List Nat,xs.length=n/\DR.Lane W 0 W.heap.size v xs)
theorem u64_nat{a:Int}(h:(Lit.int .u64 a).wf=true):∃n:Nat,a=(n:Int)/\n<=18446744073709551615:=by
 have h':(0:Int)<=a/\a<=18446744073709551615:=by
  have:=(Bool.and_eq_true _ _).mp h;exact⟨of_decide_eq_true this.1,of_decide_eq_true this.2⟩
 exact⟨a.toNat,by omega,by omega⟩
theorem cellsU:Tryz.prog.cellsOf 79=1:=by kernel_rfl
section
variable{H:Type}{enc:TypeId × Value->H}{W:World}
theorem came_r{base fuel:Nat}{spare:Nat->Bool}{held:Bool}{cs:List Value}{x:DataW H × List MemPlace}(h:DataW.trod enc Tryz.prog W base spare held fuel 57 cs=some x):∃v,cs= [v]/\CameR W v:=by
 rcases open_ints Tryz.underlying57 Tryz.underlying79 cellsU h with⟨hcs,_⟩|⟨a,len,cap,zs,hcs,_,hl,hm,hz,_,hcell,hwz⟩
 . exact⟨_,hcs,none,0,0,rfl,by unfold maxLen;omega,λ_=>⟨[],rfl,DR.Lane.nil _ _ _ _ _⟩⟩
 . refine⟨_,hcs,some a,len,cap,rfl,by omega,λhlen=>?_⟩;have hzl:len<=zs.length:=by rw[hz];split <;> omega
   rcases Nat.eq_zero_or_pos len with h0|h0
   . subst h0;exact⟨[],rfl,DR.Lane.nil _ _ _ _ _⟩
   . obtain⟨g,o,rfl,hc⟩:=ints_at hcell (by omega);have hlt:g < W.heap.size:=World.block_lt_of_cell? W ⟨g,o+0,none⟩ (hc 0 (by omega));have hxl:((zs.take len).map Int.toNat).length=len:=by simp;omega
     have key:∀n∈zs,((n.toNat:Nat):Int)=n/\n.toNat<=18446744073709551615:=λn hn=>by
      obtain⟨m,rfl,hm⟩:=u64_nat (hwz n hn);exact⟨by simp,by simpa using hm⟩
     refine⟨(zs.take len).map Int.toNat,hxl,by omega,?_,Or.inr ⟨g,o,cap,by rw[hxl],Nat.zero_le _,hlt,by omega,hm,λj hj=>?_⟩⟩
     . intro x hx;obtain⟨n,hn,rfl⟩:=List.mem_map.1 hx;exact(key n (List.mem_of_mem_take hn)).2
     . rw[hxl] at hj;have hjz:j < zs.length:=by omega
       rw[hc j hjz,List.getD_eq_getElem?_getD,List.getD_eq_getElem?_getD,List.getElem?_map,List.getElem?_take,if_pos hj,List.getElem?_eq_getElem hjz];simp only[Option.getD_some,Option.map_some];rw[(key _ (List.getElem_mem hjz)).1]
end
end Go.Proofs.YtdmmciggopmglaaGreatDoor
set_option maxRecDepth 20000
namespace Go.Proofs.YtdmmciggopmglaaGreatDoor
open Go.ChangeShapes Go.WideShapes Go.ChangeAt Go.RowKit Go.Deep
theorem cellsS:Tryz.prog.cellsOf 57=1:=by kernel_rfl
section
variable{H:Type}{enc:TypeId × Value->H}{W:World}
def CameRR(W:World)(v:Value):Prop:=∃A n c,v= .slice A n c/\n<=maxLen/\∃V:Nat->Value,(∀i,i < n->CameR W (V i))/\
 (0 < n->∃g o,A=some ⟨g,o,none⟩/\g < W.heap.size/\n<=c/\c<=maxLen/\∀i,i < n->W.cell? ⟨g,o+i,none⟩=some (V i))
theorem open_R{base0:Nat}{v:Value}{d:DataW H}{p:List MemPlace}(hv:Value.okWide Tryz.prog W .any base0 22 v)(h:DataW.Trod enc Tryz.prog W 0 (λ_=>true) true 22 v d p):CameRR W v:=by
 obtain⟨A,n,c,rfl⟩:=okWide_slice Tryz.underlying22 hv;obtain⟨fuel,hf⟩:=h;rcases open_slice1 Tryz.underlying22 cellsS hf with⟨hcs,_⟩|⟨a,len,cap,m,k,V,D,Pl,hcs,_,hl,hm,hmm,_,hx⟩
 . simp[Value.cells] at hcs;obtain⟨rfl,rfl,rfl⟩:=hcs;exact⟨none,0,0,rfl,by unfold maxLen;omega,λ_=>undef,λi hi=>by omega,λh=>by omega⟩
 . simp[Value.cells] at hcs;obtain⟨rfl,rfl,rfl⟩:=hcs;have hnm:n<=m:=by rw[hmm];split <;> omega
   refine⟨some a,n,c,rfl,by omega,V,λi hi=>?_,λh0=>?_⟩
   . obtain⟨u,hu,hr⟩:=came_r (hx i (by omega)).2;obtain rfl:V i=u:=by simpa using hu
     exact hr
   . have h1:=(hx 0 (by omega)).1;rw[show a.add 0=a from rfl] at h1;obtain⟨g,o,rfl,hg⟩:=addr_plain h1;exact⟨g,o,rfl,hg,hl,hm,λi hi=>by rw[← add_at];exact(hx i (by omega)).1⟩
def CameN(W:World)(v:Value):Prop:=∃A n c,v= .slice A n c/\n<=maxLen/\∃Z:Nat->Int,(∀i,i < n-> -9223372036854775808<=Z i/\Z i<=9223372036854775807)/\
 (0 < n->∃g o,A=some ⟨g,o,none⟩/\g < W.heap.size/\n<=c/\c<=maxLen/\∀i,i < n->W.cell? ⟨g,o+i,none⟩=some (.int .i64 (Z i)))
theorem open_n{base0:Nat}{v:Value}{d:DataW H}{p:List MemPlace}(hv:Value.okWide Tryz.prog W .any base0 51 v)(h:DataW.Trod enc Tryz.prog W 0 (λ_=>true) true 51 v d p):CameN W v:=by
 obtain⟨A,n,c,rfl⟩:=okWide_slice Tryz.underlying51 hv;obtain⟨fuel,hf⟩:=h;rcases open_ints Tryz.underlying51 Tryz.underlying3 cellsI hf with⟨hcs,_⟩|⟨a,len,cap,zs,hcs,_,hl,hm,hz,_,hcell,hwz⟩
 . simp[Value.cells] at hcs;obtain⟨rfl,rfl,rfl⟩:=hcs;exact⟨none,0,0,rfl,by unfold maxLen;omega,λ_=>0,λi hi=>by omega,λh=>by omega⟩
 . simp[Value.cells] at hcs;obtain⟨rfl,rfl,rfl⟩:=hcs;have hzl:n<=zs.length:=by rw[hz];split <;> omega
   refine⟨some a,n,c,rfl,by omega,λi=>zs.getD i 0,λi hi=>?_,λh0=>?_⟩
   . have hi':i < zs.length:=by omega
     have:zs.getD i 0=zs[i]:=by rw[List.getD_eq_getElem?_getD,List.getElem?_eq_getElem hi'];rfl
     show -9223372036854775808<=zs.getD i 0/\zs.getD i 0<=9223372036854775807;rw[this];exact i64_rng (hwz _ (List.getElem_mem hi'))
   . obtain⟨g,o,rfl,hc⟩:=ints_at hcell (by omega);exact⟨g,o,rfl,World.block_lt_of_cell? W ⟨g,o+0,none⟩ (hc 0 (by omega)),hl,hm,λi hi=>hc i (by omega)⟩
end
theorem pick_lanes2{W:World}{v:Value}(h:CameRR W v):∃(A:Option Addr) (n c:Nat) (V:Nat->Value),v= .slice A n c/\n<=maxLen/\(∀i,i < n->∃a m d,V i= .slice a m d/\m<=maxLen)/\(0 < n->∃g o,A=some ⟨g,o,none⟩/\g < W.heap.size/\n<=c/\c<=maxLen/\∀i,i < n->W.cell? ⟨g,o+i,none⟩=some (V i))/\
 (n<=20->(∀i,i < n->∃a m d,V i= .slice a m d/\m<=300)->∃L,DR.Lanes W W.heap.size v L/\L.length<=20):=by
 obtain⟨A,n,c,rfl,hn,V,hV,hc⟩:=h;refine⟨A,n,c,V,rfl,hn,λi hi=>?_,hc,λh20 hs=>?_⟩
 . obtain⟨a,m,d,e,hm,_⟩:=hV i hi;exact⟨a,m,d,e,hm⟩
 . have key:∀i,i < n->∃xs:List Nat,DR.Lane W 0 W.heap.size (V i) xs:=λi hi=>by
    obtain⟨a,m,d,e,hm,hr⟩:=hV i hi;obtain⟨a',m',d',e',hm'⟩:=hs i hi;rw[e] at e';injection e' with _ e2
    obtain⟨xs,_,hx⟩:=hr (by omega);exact⟨xs,hx⟩
   obtain⟨f,hf⟩:=choose_lt key;refine⟨(List.range n).map f,⟨by simp;omega,?_⟩,by simp;omega⟩;rcases Nat.eq_zero_or_pos n with h0|h0
   . subst h0;exact Or.inl ⟨rfl,A,c,rfl⟩
   . obtain⟨g,o,rfl,h1,h2,h3,h4⟩:=hc h0;refine Or.inr ⟨g,o,c,by simp,h1,by simpa using h2,h3,λi hi=>⟨V i,h4 i (by simpa using hi),?_⟩⟩;have hi':i < n:=by simpa using hi
     rw[List.getD_eq_getElem?_getD];simp only[List.getElem?_map,List.getElem?_range hi',Option.map_some,Option.getD_some];exact hf i hi'
end Go.Proofs.YtdmmciggopmglaaGreatDoor
set_option maxRecDepth 20000
namespace Go.Proofs.YtdmmciggopmglaaGreatDoor.IN
open Go.RowKit Sg
def KRow(w:World)(A:Option Addr)(n cc:Nat)(S:Nat->ByteArray):Prop:=
 (∀i,i < n->(S i).size<=maxLen)/\(0 < n->∃g o,A=some ⟨g,o,none⟩/\g < w.heap.size/\n<=cc/\cc<=maxLen/\∀i,i < n->w.cell? ⟨g,o+i,none⟩=some (.string (S i)))
theorem same_below{w w':World}{b:Bool}{e:Ending}(h:SamePost b w e w'):e= .returned (.bool b)/\Below w.heap.size w w':=by
 obtain⟨he,m,rfl⟩:=h;exact⟨he,SR.below_drewN w m⟩
section
variable{w0 W W':World}{x n h b n' h' b':Nat}{U:Nat->Prop}{st st':ISt}{va vb r:Value}{xs ys:List ByteArray}{e:Ending}
end
section
variable{w0 W W':World}{x n h b nb:Nat}{U:Nat->Prop}{st:ISt}{va:Value}{xs:List ByteArray}{hit out:Bool}{vk:ByteArray}
end
end Go.Proofs.YtdmmciggopmglaaGreatDoor.IN
set_option maxRecDepth 20000
namespace Go.Proofs.YtdmmciggopmglaaGreatDoor.IN
open Go.RowKit Go.Maps Go.WideMaps Sg
def add(S:List ByteArray)(s:ByteArray):List ByteArray:=if inn S s then S else S++ [s]
theorem inn_add(S:List ByteArray)(s t:ByteArray):inn (add S s) t=(inn S t||decide (s=t)):=by
 unfold add;split
 . rename_i h
   by_cases e:s=t
   . subst e;simp[h]
   . simp[e]
 . rw[inn_snoc]
theorem mem_add{S:List ByteArray}{s t:ByteArray}:t∈add S s<->t∈S\/t=s:=by
 rw[← inn_iff,inn_add,Bool.or_eq_true,inn_iff,decide_eq_true_eq];exact⟨λh=>h.imp id Eq.symm,λh=>h.imp id Eq.symm⟩
theorem add_in{S:List ByteArray}{s:ByteArray}(h:s∈S):add S s=S:=by unfold add;rw[if_pos (inn_iff.2 h)]
theorem add_len{S:List ByteArray}{s:ByteArray}(h:s∉S):(add S s).length=S.length+1:=by unfold add;rw[if_neg (by rw[inn_no.2 h];simp)];simp
theorem add_le(S:List ByteArray)(s:ByteArray):S.length<=(add S s).length/\(add S s).length<=S.length+1:=by
 unfold add;split <;> simp
section
variable{w:World}{b:Nat}{S:List ByteArray}
end
theorem gho_sr{s:SR.St}(h:SR.Ok s)(hm:s.mo≠0)(k:ByteArray)(hg:s.G= [])(ho:s.out k=false):(s.req k).G= []:=by
 have f:=req_sr h hm k;have hl:=f.len;have ht:=SR.req_tot h k;have e1:(s.req k).tot=(s.req k).A.length+(s.req k).N.length+(s.req k).G.length:=rfl;have e2:s.tot=s.A.length+s.N.length+s.G.length:=rfl;rw[List.length_reverse,List.length_append,List.length_reverse,List.length_append,ho] at hl;rw[hg] at e2;cases hh:s.hit k with
 |true=>
  have hi:inn (s.A++s.N).reverse k=true:=f.hitE.symm.trans hh
  have hi2:inn s.A k=true\/inn s.N k=true:=by
   rw[inn_iff,List.mem_reverse,List.mem_append] at hi;exact hi.imp inn_iff.2 inn_iff.2
  unfold SR.St.req;rw[if_neg hm]
  by_cases ha:inn s.A k=true
  . rw[if_pos ha];exact hg
  . rw[if_neg ha,if_pos (hi2.resolve_left ha)];exact hg
 |false=>
  rw[hh] at hl;simp at hl e2;exact List.eq_nil_of_length_eq_zero (by omega)
theorem gho_ar{s:AR.St}(h:AR.Ok s)(hm:s.mo≠0)(k:ByteArray)(hg:AR.ghL s.R= [])(ho:(!(s.vs k).isEmpty)=false):AR.ghL (s.req k).R= []:=by
 have f:=AR.req_f h hm k;have hl:=f.len;have ht:=AR.req_tot h k;have hg2:s.R 2= []/\s.R 3= []:=List.append_eq_nil_iff.1 hg;rw[AR.keysL_len,AR.keysL_len,ho] at hl;cases hh:AR.hit s.R k with
 |true=>
  unfold AR.St.req;rw[if_neg hm,if_pos hh];show AR.putR s.R k 1 2++AR.putR s.R k 1 3= [];rw[AR.put_ne (by decide),AR.put_ne (by decide),hg2.1,hg2.2];rfl
 |false=>
  rw[hh] at hl;simp at hl;unfold AR.totR at ht;unfold AR.lenR at hl;rw[hg2.1,hg2.2] at ht;simp at ht;have h2:(s.req k).R 2= []:=List.eq_nil_of_length_eq_zero (by omega);have h3:(s.req k).R 3= []:=List.eq_nil_of_length_eq_zero (by omega);show(s.req k).R 2++(s.req k).R 3= [];rw[h2,h3];rfl
theorem gho_l{s:LE.St}(k:ByteArray)(hm:s.mo≠0)(hg:s.ghosts= [])(ho:s.outB k=false):(s.req k).ghosts= []:=by
 have hg2:LE.gk s.HA= []/\LE.gk s.HB= []:=List.append_eq_nil_iff.1 hg;have hA:s.HA= []:=List.map_eq_nil_iff.1 hg2.1;have hB:s.HB= []:=List.map_eq_nil_iff.1 hg2.2
 have key:∀t:LE.St,t.HA= []->t.HB= []->t.window.ghosts= []:=λt h1 h2=>by
  have w:=LE.window_same t;show LE.gk t.window.HA++LE.gk t.window.HB= [];rw[w.2.2.2.2.2.1,w.2.2.2.2.2.2.1,h1,h2];rfl
 cases hh:s.has k with
 |true=>rw[LE.req_hit hm hh];exact key _ hA hB
 |false=>
  rw[LE.req_miss hm hh]
  have hf:s.tick.full=false:=by
   unfold LE.St.outB at ho;rw[hh,decide_eq_true hm] at ho;exact ho
  have e:s.tick.make k=s.tick.regret k:=by unfold LE.St.make;rw[if_neg (by rw[hf];simp)]
  rw[e];exact key _ (by show LE.wo s.HA k= [];rw[hA];rfl) (by show LE.wo s.HB k= [];rw[hB];rfl)
theorem ISt.gho_none{x:ISt}(h:x.Ok)(hm:x.mo≠0)(k:ByteArray)(hg:x.ghosts= [])(ho:x.outB k=false):(x.req k).ghosts= []:=by
 cases x with
 |p st=>
  cases st with
  |lr mo ks=>rfl
  |lf ch mo n L=>rfl
  |sr s=>exact gho_sr h hm k hg ho
  |ar s=>exact gho_ar h hm k hg ho
 |l s=>exact gho_l k hm hg ho
def dst(S:Nat->ByteArray):Nat->List ByteArray
 |0=>[]
 |k+1=>add (dst S k) (S k)
theorem dst_le(S:Nat->ByteArray):∀(k:Nat),(dst S k).length<=k
 |0=>Nat.le_refl _
 |k+1=>Nat.le_trans (add_le _ _).2 (Nat.succ_le_succ (dst_le S k))
theorem dst_mono(S:Nat->ByteArray)(k:Nat):∀d,(dst S k).length<=(dst S (k+d)).length
 |0=>Nat.le_refl _
 |d+1=>Nat.le_trans (dst_mono S k d) (add_le _ _).1
structure Eno(S:Nat->ByteArray)(mo:Nat)(s:ISt)(k h:Nat):Prop where
 mo:s.mo=mo
 mem:∀x,x∈s.keys<->x∈dst S k
 len:s.keys.length=(dst S k).length
 hits:h+(dst S k).length=k
 gho:s.ghosts= []
theorem Eno.next{S:Nat->ByteArray}{mo k h n:Nat}{s:ISt}(q:Eno S mo s k h)(ok:s.Ok)(hk:k < n)(hn:(dst S n).length<=mo):
 s.hitB (S k)=inn (dst S k) (S k)/\s.vicV (S k)=⟨#[]⟩/\s.outB (S k)=false/\Eno S mo (s.req (S k)) (k+1) (if s.hitB (S k)=true then h+1 else h):=by
 have hm1:=dst_mono S (k+1) (n - (k+1));rw[show k+1+(n - (k+1))=n by omega] at hm1;have hin:inn s.keys (S k)=inn (dst S k) (S k):=by rw[Bool.eq_iff_iff,inn_iff,inn_iff];exact q.mem _
 have hd:dst S (k+1)=add (dst S k) (S k):=rfl
 have h0:mo≠0:=by
  have h1:S k∈dst S (k+1):=by rw[hd];exact mem_add.2 (Or.inr rfl)
  have:=List.length_pos_of_mem h1;omega
 have f:=ISt.req_f ok (by rw[q.mo];exact h0) (S k);rw[q.mo] at f;have hE:s.hitB (S k)=inn (dst S k) (S k):=f.hitE.trans hin
 have ho:s.outB (S k)=false:=by
  rw[f.outE,hin];cases hi:inn (dst S k) (S k) with
  |true=>rfl
  |false=>
   have:=add_len (inn_no.1 hi);rw[← hd] at this;rw[decide_eq_false (by rw[q.len];omega)];rfl
 refine⟨hE,f.non ho,ho,(ISt.mo_req _ _).trans q.mo,λx=>?_,?_,?_,ISt.gho_none ok (by rw[q.mo];exact h0) _ q.gho ho⟩
 . rw[hd,mem_add];constructor
   . intro hx;exact(f.old x hx).imp (q.mem x).1 id
   . rintro(hx|rfl)
     . exact(f.stay x ((q.mem x).2 hx)).resolve_right λe=>by rw[ho] at e;cases e.1
     . exact f.has
 . have hl:=f.len;rw[hE,ho] at hl;rw[hl,hd,q.len];cases hi:inn (dst S k) (S k) with
   |true=>rw[add_in (inn_iff.1 hi)];rfl
   |false=>rw[add_len (inn_no.1 hi)];rfl
 . have hh:=q.hits;rw[hE,hd];cases hi:inn (dst S k) (S k) with
   |true=>rw[add_in (inn_iff.1 hi),if_pos rfl];omega
   |false=>rw[add_len (inn_no.1 hi),if_neg (by simp)];omega
theorem Eno.start{S:Nat->ByteArray}{kd mo:Nat}(hk:kd < 7)(vs:List Nat):Eno S mo (ISt.start kd mo vs) 0 0:=by
 obtain⟨_,h2,h3,h4⟩:=ISt.start_kind hk mo vs;exact⟨h2,λx=>by rw[h3];exact Iff.rfl,by rw[h3];rfl,rfl,h4⟩
end Go.Proofs.YtdmmciggopmglaaGreatDoor.IN
set_option maxRecDepth 20000
namespace Go.Proofs.YtdmmciggopmglaaGreatDoor.SW
open Go.RowKit Sg IN
def vlen:Value->Nat
 | .slice _ n _=>n
 |_=>0
def VRow(w:World)(A:Option Addr)(n c:Nat)(V:Nat->Value):Prop:=
 (∀i,i < n->∃a m d,V i= .slice a m d/\m<=maxLen)/\(0 < n->∃g o,A=some ⟨g,o,none⟩/\g < w.heap.size/\n<=c/\c<=maxLen/\∀i,i < n->w.cell? ⟨g,o+i,none⟩=some (V i))
theorem VRow.nil(w:World)(V:Nat->Value):VRow w none 0 0 V:=⟨λ_ h=>by omega,λh=>by omega⟩
def FewB(n nl:Nat)(S:Nat->ByteArray)(V:Nat->Value):Prop:=n<=150/\nl<=20/\(∀i,i < n->(S i).size<=100)/\∀i,i < nl->vlen (V i)<=300
def FewP(w:World)(n nl:Nat)(S:Nat->ByteArray)(V:Nat->Value)(e:Ending)(w':World):Prop:=
 ∃b,e= .returned (.bool b)/\Below w.heap.size w w'/\(b=true<->FewB n nl S V)
set_option maxHeartbeats 4000000 in
theorem few_any(w:World)(A:Option Addr)(n cc:Nat)(S:Nat->ByteArray)(Al:Option Addr)(nl cl:Nat)(V:Nat->Value)(hn:n<=maxLen)(hnl:nl<=maxLen)(hk:KRow w A n cc S)(hv:VRow w Al nl cl V):
 Calls Tryz.prog 10 #[.slice A n cc,.slice Al nl cl] w (FewP w n nl S V):=by
 have KR:=Lib.hid hk;have VR:=Lib.hid hv;unfold maxLen at hn hnl;clear hk hv;go_enter Tryz.func10,Tryz.ntmps10
 by_cases h1:n<=150
 . have g1:decide (150 < (n:Int))=false:=decide_eq_false (by omega);have g1':decide (150 < n)=false:=decide_eq_false (by omega)
   by_cases h2:nl<=20
   . have g2:decide (20 < (nl:Int))=false:=decide_eq_false (by omega);have g2':decide (20 < nl)=false:=decide_eq_false (by omega);have HN:=Lib.hid (And.intro h1 h2);clear hn hnl h1 h2;go_wp2_with fail
     clear g1 g1' g2 g2';go_loopw [5] (λv W=>∃k:Nat,v= .int .i64 (k:Int)/\k<=n/\Below w.heap.size w W/\∀i,i < k->(S i).size<=100) (λv _=>n - (intOf v).toNat)
     case atStart=>exact⟨0,rfl,Nat.zero_le _,Below.refl _ _,λi hi=>by omega⟩
     case round=>
      obtain⟨k,rfl,hk,hB,hS⟩:=hrel;have R1:=Lib.hid (And.intro hB hS);clear hB hS;have hn2:=HN.out.1
      by_cases hlt:k < n
      . have e0:decide (k < n)=true:=by simpa using hlt
        obtain⟨g,o,rfl,hg,hc1,hc2,hcell⟩:=KR.out.2 (by omega);have hc:=(R1.out.1.cell (p:=⟨g,o+k,none⟩) hg).trans (hcell k hlt);have hsz:=KR.out.1 k hlt;clear hcell;unfold maxLen at hc2 hsz;obtain⟨key,hkey⟩:∃y,y=S k:=⟨_,rfl⟩;have HK:=Lib.hid hkey;rw[← hkey] at hc hsz;clear hkey
        by_cases h3:key.size<=100
        . have e1:decide (100 < (key.size:Int))=false:=decide_eq_false (by omega);have e1':decide (100 < key.size)=false:=decide_eq_false (by omega);have H3:=Lib.hid h3;clear h3;go_wp2_with fail
          go_roundw
          case rel=>
           refine⟨k+1,by go_num,by omega,R1.out.1,λi hi=>?_⟩
           by_cases e:i=k
           . rw[e,<-HK.out];exact H3.out
           . exact R1.out.2 i (by omega)
          case measure=>simp[intOf] <;> omega
        . have e1:decide (100 < (key.size:Int))=true:=decide_eq_true (by omega);have e1':decide (100 < key.size)=true:=decide_eq_true (by omega);have NO:=Lib.hid (show ¬FewB n nl S V from λh=>h3 (by rw[HK.out];exact h.2.2.1 k hlt));clear h3;go_wp2_with fail
          go_ret;exact⟨false,rfl,R1.out.1,⟨λh=>Bool.noConfusion h,λh=>absurd h NO.out⟩⟩
      . have e0:decide (k < n)=false:=by simpa using hlt
        obtain rfl:k=n:=by omega
        clear hlt hk;go_wp2_with fail
        go_loopw [6] (λv W=>∃j:Nat,v= .int .i64 (j:Int)/\j<=nl/\Below w.heap.size w W/\∀i,i < j->vlen (V i)<=300) (λv _=>nl - (intOf v).toNat)
        case atStart=>exact⟨0,rfl,Nat.zero_le _,R1.out.1,λi hi=>by omega⟩
        case round=>
         obtain⟨j,rfl,hj,hB,hS⟩:=hrel;have R2:=Lib.hid (And.intro hB hS);clear hB hS;have hn3:=HN.out.2
         by_cases hlt:j < nl
         . have e0:decide (j < nl)=true:=by simpa using hlt
           obtain⟨g,o,rfl,hg,hc1,hc2,hcell⟩:=VR.out.2 (by omega);have hc:=(R2.out.1.cell (p:=⟨g,o+j,none⟩) hg).trans (hcell j hlt);obtain⟨a,m,d,hv,hm⟩:=VR.out.1 j hlt;rw[hv] at hc;have HV:=Lib.hid hv;clear hcell hv;unfold maxLen at hc2 hm
           by_cases h3:m<=300
           . have e1:decide (300 < (m:Int))=false:=decide_eq_false (by omega);have e1':decide (300 < m)=false:=decide_eq_false (by omega);have H3:=Lib.hid h3;clear h3;go_wp2_with fail
             go_roundw
             case rel=>
                 refine⟨j+1,by go_num,by omega,R2.out.1,λi hi=>?_⟩
                 by_cases e:i=j
                 . rw[e,HV.out];exact H3.out
                 . exact R2.out.2 i (by omega)
             case measure=>simp[intOf] <;> omega
           . have e1:decide (300 < (m:Int))=true:=decide_eq_true (by omega);have e1':decide (300 < m)=true:=decide_eq_true (by omega);have NO:=Lib.hid (show ¬FewB k nl S V from λh=>h3 (by have:=h.2.2.2 j hlt;rw[HV.out] at this;exact this));clear h3;go_wp2_with fail
             go_ret;exact⟨false,rfl,R2.out.1,⟨λh=>Bool.noConfusion h,λh=>absurd h NO.out⟩⟩
         . have e0:decide (j < nl)=false:=by simpa using hlt
           obtain rfl:j=nl:=by omega
           clear hlt hj;go_wp2_with fail
           go_ret;exact⟨true,rfl,R2.out.1,⟨λ_=>⟨HN.out.1,HN.out.2,R1.out.2,R2.out.2⟩,λ_=>rfl⟩⟩
   . have g2:decide (20 < (nl:Int))=true:=decide_eq_true (by omega);have g2':decide (20 < nl)=true:=decide_eq_true (by omega);have NO:=Lib.hid (show ¬FewB n nl S V from λh=>h2 h.2.1);clear h1 h2;go_wp2_with fail
     go_ret;exact⟨false,rfl,Below.refl _ _,⟨λh=>Bool.noConfusion h,λh=>absurd h NO.out⟩⟩
 . have g1:decide (150 < (n:Int))=true:=decide_eq_true (by omega);have g1':decide (150 < n)=true:=decide_eq_true (by omega);have NO:=Lib.hid (show ¬FewB n nl S V from λh=>h1 h.1);clear h1;go_wp2_with fail
   go_ret;exact⟨false,rfl,Below.refl _ _,⟨λh=>Bool.noConfusion h,λh=>absurd h NO.out⟩⟩
theorem KRow.below{w w':World}{A:Option Addr}{n cc:Nat}{S:Nat->ByteArray}(h:KRow w A n cc S)(hb:Below w.heap.size w w'):KRow w' A n cc S:=by
 refine⟨h.1,λh0=>?_⟩;obtain⟨g,o,e,h1,h2,h3,h4⟩:=h.2 h0;exact⟨g,o,e,Nat.lt_of_lt_of_le h1 hb.size,h2,h3,λi hi=>(hb.cell (p:=⟨g,o+i,none⟩) h1).trans (h4 i hi)⟩
theorem VRow.below{w w':World}{A:Option Addr}{n c:Nat}{V:Nat->Value}(h:VRow w A n c V)(hb:Below w.heap.size w w'):VRow w' A n c V:=by
 refine⟨h.1,λh0=>?_⟩;obtain⟨g,o,e,h1,h2,h3,h4⟩:=h.2 h0;exact⟨g,o,e,Nat.lt_of_lt_of_le h1 hb.size,h2,h3,λi hi=>(hb.cell (p:=⟨g,o+i,none⟩) h1).trans (h4 i hi)⟩
theorem few_told{w:World}{A:Option Addr}{n cc:Nat}{S:Nat->ByteArray}{Al:Option Addr}{nl cl:Nat}{V:Nat->Value}(hn:n<=maxLen)(hnl:nl<=maxLen)(hk:KRow w A n cc S)(hv:VRow w Al nl cl V){fb:Bool}(hf:fb=true<->FewB n nl S V)(w1:World)(hb:Below w.heap.size w w1):
 Calls Tryz.prog 10 #[.slice A n cc,.slice Al nl cl] w1 (Told (.bool fb) w1):=by
 refine(few_any w1 A n cc S Al nl cl V hn hnl (KRow.below hk hb) (hv.below hb)).mono ?_;rintro e w' ⟨b,rfl,h1,h2⟩;have:b=fb:=by rw[Bool.eq_iff_iff,h2,hf]
 rw[this];exact⟨rfl,h1⟩
theorem few_bool(n nl:Nat)(S:Nat->ByteArray)(V:Nat->Value):∃fb:Bool,fb=true<->FewB n nl S V:=by
 by_cases h:FewB n nl S V
 . exact⟨true,⟨λ_=>h,λ_=>rfl⟩⟩
 . exact⟨false,⟨λe=>Bool.noConfusion e,λe=>absurd e h⟩⟩
theorem lanes_below{w w':World}{v:Value}{L:List (List Nat)}(h:DR.Lanes w w.heap.size v L)(hb:Below w.heap.size w w'):DR.Lanes w' w'.heap.size v L:=
 (h.same λk hk=>hb.block k hk).wide hb.size
end Go.Proofs.YtdmmciggopmglaaGreatDoor.SW
