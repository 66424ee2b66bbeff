/- Hd Shapes9 Shapes10 Law11, in one text. -/
import Derived.Test.YtbbogjhapeogeaaGreatDoorGBas
import Derived.Deep.MidRow
import Derived.Deep.RegionHeld
import Derived.Deep.RegionHeld3
import Derived.Test.YtbbogjhapeogeaaGreatDoorRows
import Derived.Test.YtbbogjhapeogeaaGreatDoorY2
import Derived.ProofKit
import Derived.OpenShut
import Derived.ShutString
import Derived.ChangeOld
import Derived.Deep.Slices
import Derived.Deep.Strs
import Derived.SliceStrings
import Derived.Test.YtbbogjhapeogeaaGreatDoorY3
import Derived.Test.YtbbogjhapeogeaaGreatDoorYc
set_option maxRecDepth 20000
namespace Go.Proofs.YtbbogjhapeogeaaGreatDoor
open Go.RowKit
section
variable{P:Program}{md:Region.Mode}{ops:Array Oper}{Q:Exit->Act->World->Prop}{S:World->Prop}{oi:Oper}{v:Value}{fuel:Nat}{L L':Array Bool}{a a':Act}{w:World}
theorem tk(i:Nat)(h:wpAnyH P md ops Q S fuel L' a' w)
 (hi:ops[i]?=some oi:=by(simp only[List.getElem?_toArray,List.getElem?_cons_succ,List.getElem?_cons_zero];rfl))
 (hs:Region.noSelect ops=true:=by kernel_rfl) (hf:Region.free md ops L i=true:=by kernel_rfl) (hr:(Region.ready md ops L).contains i=true:=by kernel_rfl)
 (hw:Region.wanted oi (yielded ops a.tmps)=true:=by rfl)
 (hy:∀w,S w->(execOp a.eval oi).run P w= .ok (.value v) w:=by intro w hSw;(try dsimp only at hSw);(try go_split_ands);go_simp;(try with_reducible rfl))
 (hS:S w:=by assumption)
 (hL:L.setIfInBounds i true=L':=by((try simp only[List.setIfInBounds_toArray,List.set_cons_zero,List.set_cons_succ]);rfl))
 (ha:a.put oi.dst v=a':=by((try simp only[Act.put,List.setIfInBounds_toArray,List.set_cons_zero,List.set_cons_succ]);rfl))
 (hQ:∀c a w,Q (.panic c) (a.put oi.dst v) w->Q (.panic c) a w:=by exact λ_ _ _ h=>h):wpAnyH P md ops Q S (fuel+1) L a w:=by
 subst hL ha;exact wpAnyH_take hi hs hf hr hQ (Or.inl ⟨hw,hy⟩) hS h
theorem tn(i:Nat)(h:wpAnyH P md ops Q S fuel L' a' w)
 (hi:ops[i]?=some oi:=by(simp only[List.getElem?_toArray,List.getElem?_cons_succ,List.getElem?_cons_zero];rfl))
 (hs:Region.noSelect ops=true:=by kernel_rfl) (hf:Region.free md ops L i=true:=by kernel_rfl) (hr:(Region.ready md ops L).contains i=true:=by kernel_rfl)
 (hw:Region.wanted oi (yielded ops a.tmps)=false:=by rfl)
 (hS:S w:=by assumption)
 (hL:L.setIfInBounds i true=L':=by((try simp only[List.setIfInBounds_toArray,List.set_cons_zero,List.set_cons_succ]);rfl))
 (ha:a.put oi.dst undef=a':=by((try simp only[Act.put,List.setIfInBounds_toArray,List.set_cons_zero,List.set_cons_succ]);rfl))
 (hQ:∀c a w,Q (.panic c) (a.put oi.dst undef) w->Q (.panic c) a w:=by exact λ_ _ _ h=>h):wpAnyH P md ops Q S (fuel+1) L a w:=by
 subst hL ha;exact wpAnyH_take hi hs hf hr hQ (Or.inr ⟨hw,rfl⟩) hS h
theorem rdy(i:Nat)(h:∀K':Act->World->Prop,Shut (∀a w,S w->(S w->wpAnyH P md ops Q S fuel L' a w)->K' a w)->if Region.wanted oi (yielded ops a.tmps)=true then Oper.wp P oi a w K' Q else K' (a.put oi.dst undef) w)
 (hr:Region.ready md ops L= [i]:=by kernel_rfl)
 (hi:ops[i]?=some oi:=by(simp only[List.getElem?_toArray,List.getElem?_cons_succ,List.getElem?_cons_zero];rfl))
 (hL:L.setIfInBounds i true=L':=by((try simp only[List.setIfInBounds_toArray,List.set_cons_zero,List.set_cons_succ]);rfl)):wpAnyH P md ops Q S (fuel+1) L a w:=by
 subst hL;exact wpAnyH_ready hr (by simp) (AllReadyH.cons hi h AllReadyH.nil)
theorem rdy2{oj:Oper}{M':Array Bool}(i j:Nat)
 (h:∀K':Act->World->Prop,Shut (∀a w,S w->(S w->wpAnyH P md ops Q S fuel L' a w)->K' a w)->if Region.wanted oi (yielded ops a.tmps)=true then Oper.wp P oi a w K' Q else K' (a.put oi.dst undef) w)
 (h':∀K':Act->World->Prop,Shut (∀a w,S w->(S w->wpAnyH P md ops Q S fuel M' a w)->K' a w)->if Region.wanted oj (yielded ops a.tmps)=true then Oper.wp P oj a w K' Q else K' (a.put oj.dst undef) w)
 (hr:Region.ready md ops L= [i,j]:=by kernel_rfl)
 (hi:ops[i]?=some oi:=by(simp only[List.getElem?_toArray,List.getElem?_cons_succ,List.getElem?_cons_zero];rfl))
 (hj:ops[j]?=some oj:=by(simp only[List.getElem?_toArray,List.getElem?_cons_succ,List.getElem?_cons_zero];rfl))
 (hL:L.setIfInBounds i true=L':=by((try simp only[List.setIfInBounds_toArray,List.set_cons_zero,List.set_cons_succ]);rfl))
 (hM:L.setIfInBounds j true=M':=by((try simp only[List.setIfInBounds_toArray,List.set_cons_zero,List.set_cons_succ]);rfl)):wpAnyH P md ops Q S (fuel+1) L a w:=by
 subst hL hM;exact wpAnyH_ready hr (by simp) (AllReadyH.cons hi h (AllReadyH.cons hj h' AllReadyH.nil))
theorem dn(h:Q .normal a w)(hr:Region.ready md ops L= []:=by kernel_rfl):wpAnyH P md ops Q S fuel L a w:=wpAnyH_done hr h fuel
theorem rg{id:Nat}(S:World->Prop)(hS:S w.drew)(h:S w.drew->wpAnyH P .any ops (NoPanic Q) S ops.size (Array.replicate ops.size false) a w.drew)(hm:P.follows .mixedOrders=true:=by kernel_rfl):(Code.region id ops true).wp P Q a w:=
 wp_region_noPanic (wp_region_held_drew hm hS h)
end
end Go.Proofs.YtbbogjhapeogeaaGreatDoor
set_option maxRecDepth 20000
namespace Go.Proofs.YtbbogjhapeogeaaGreatDoor
open Go.ChangeShapes Go.WideShapes Go.ChangeAt Go.RowKit Go.Deep
theorem laidOut:laidOutB Tryz.prog=true:=by kernel_rfl
theorem i64_rng{a:Int}(h:(Lit.int .i64 a).wf=true): -9223372036854775808<=a/\a<=9223372036854775807:=by
 have:=(Bool.and_eq_true _ _).mp h;exact⟨of_decide_eq_true this.1,of_decide_eq_true this.2⟩
theorem cellsStr:Tryz.prog.cellsOf 9=1:=by kernel_rfl
section
variable{H:Type}{enc:TypeId × Value->H}{W:World}
theorem addr_plain{a:Addr}{v:Value}(h:W.cell? a=some v):∃g o,a=⟨g,o,none⟩/\g < W.heap.size:=by
 obtain⟨g,o,spot⟩:=a;obtain rfl:spot=none:=World.cell?_spot h;exact⟨g,o,rfl,World.block_lt_of_cell? W _ h⟩
theorem add_at(g o i:Nat):Addr.add ⟨g,o,none⟩ i=⟨g,o+i,none⟩:=by
 unfold Addr.add;split
 . rename_i h;rw[h];rfl
 . rfl
instance:Inhabited (Int × ByteArray × Int):=⟨(0,⟨#[]⟩,0)⟩
def CameS(W:World)(v:Value):Prop:=∃A n c,v= .slice A n c/\n<=maxLen/\∃S:Nat->ByteArray,(∀i,i < n->(S i).size<=maxLen)/\
 (0 < n->∃g o,A=some ⟨g,o,none⟩/\g < W.heap.size/\n<=c/\c<=maxLen/\∀i,i < n->W.cell? ⟨g,o+i,none⟩=some (.string (S i)))
theorem open_z{base0:Nat}{v:Value}{d:DataW H}{p:List MemPlace}(hv:Value.okWide Tryz.prog W .any base0 23 v)(h:DataW.Trod enc Tryz.prog W 0 (λ_=>true) true 23 v d p):CameS W v:=by
 obtain⟨A,n,c,rfl⟩:=okWide_slice Tryz.underlying23 hv;obtain⟨fuel,hf⟩:=h;rcases open_strings Tryz.underlying23 Tryz.underlying9 cellsStr hf with⟨hcs,_⟩|⟨a,len,cap,ss,hcs,_,hl,hm,hz,_,hcell,hws⟩
 . simp[Value.cells] at hcs;obtain⟨rfl,rfl,rfl⟩:=hcs;exact⟨none,0,0,rfl,by unfold maxLen;omega,λ_=>⟨#[]⟩,λi hi=>by omega,λh=>by omega⟩
 . simp[Value.cells] at hcs;obtain⟨rfl,rfl,rfl⟩:=hcs;have hzl:n<=ss.length:=by rw[hz];split <;> omega
   refine⟨some a,n,c,rfl,by omega,λi=>ss.getD i ByteArray.empty,λi hi=>?_,λh0=>?_⟩
   . have hi':i < ss.length:=by omega
     show(ss.getD i ByteArray.empty).size<=maxLen;rw[List.getD_eq_getElem?_getD,List.getElem?_eq_getElem hi'];exact hws _ (List.getElem_mem hi')
   . have h1:=hcell 0 (by omega);rw[show a.add 0=a from rfl] at h1;obtain⟨g,o,rfl,hg⟩:=addr_plain h1;exact⟨g,o,rfl,hg,hl,hm,λi hi=>by rw[← add_at];exact hcell i (by omega)⟩
end
end Go.Proofs.YtbbogjhapeogeaaGreatDoor
set_option maxRecDepth 20000
namespace Go.Proofs.YtbbogjhapeogeaaGreatDoor
open Go.ChangeShapes Go.WideShapes Go.ChangeAt Go.RowKit Go.Deep
def CameR(W:World)(v:Value):Prop:=∃A n c,v= .slice A n c/\n<=maxLen/\(n<=1000->∃xs:List Nat,xs.length=n/\DR.Lane W 0 W.heap.size v xs)
theorem u64_nat{a:Int}(h:(Lit.int .u64 a).wf=true):∃n:Nat,a=(n:Int)/\n<=18446744073709551615:=by
 have h':(0:Int)<=a/\a<=18446744073709551615:=by
  have:=(Bool.and_eq_true _ _).mp h;exact⟨of_decide_eq_true this.1,of_decide_eq_true this.2⟩
 exact⟨a.toNat,by omega,by omega⟩
theorem cellsU:Tryz.prog.cellsOf 52=1:=by kernel_rfl
section
variable{H:Type}{enc:TypeId × Value->H}{W:World}
theorem came_r{base fuel:Nat}{spare:Nat->Bool}{held:Bool}{cs:List Value}{x:DataW H × List MemPlace}(h:DataW.trod enc Tryz.prog W base spare held fuel 22 cs=some x):∃v,cs= [v]/\CameR W v:=by
 rcases open_ints Tryz.underlying22 Tryz.underlying52 cellsU h with⟨hcs,_⟩|⟨a,len,cap,zs,hcs,_,hl,hm,hz,_,hcell,hwz⟩
 . exact⟨_,hcs,none,0,0,rfl,by unfold maxLen;omega,λ_=>⟨[],rfl,DR.Lane.nil _ _ _ _ _⟩⟩
 . refine⟨_,hcs,some a,len,cap,rfl,by omega,λhlen=>?_⟩;have hzl:len<=zs.length:=by rw[hz];split <;> omega
   rcases Nat.eq_zero_or_pos len with h0|h0
   . subst h0;exact⟨[],rfl,DR.Lane.nil _ _ _ _ _⟩
   . obtain⟨g,o,rfl,hc⟩:=ints_at hcell (by omega);have hlt:g < W.heap.size:=World.block_lt_of_cell? W ⟨g,o+0,none⟩ (hc 0 (by omega));have hxl:((zs.take len).map Int.toNat).length=len:=by simp;omega
     have key:∀n∈zs,((n.toNat:Nat):Int)=n/\n.toNat<=18446744073709551615:=λn hn=>by
      obtain⟨m,rfl,hm⟩:=u64_nat (hwz n hn);exact⟨by simp,by simpa using hm⟩
     refine⟨(zs.take len).map Int.toNat,hxl,by omega,?_,Or.inr ⟨g,o,cap,by rw[hxl],Nat.zero_le _,hlt,by omega,hm,λj hj=>?_⟩⟩
     . intro x hx;obtain⟨n,hn,rfl⟩:=List.mem_map.1 hx;exact(key n (List.mem_of_mem_take hn)).2
     . rw[hxl] at hj;have hjz:j < zs.length:=by omega
       rw[hc j hjz,List.getD_eq_getElem?_getD,List.getD_eq_getElem?_getD,List.getElem?_map,List.getElem?_take,if_pos hj,List.getElem?_eq_getElem hjz];simp only[Option.getD_some,Option.map_some];rw[(key _ (List.getElem_mem hjz)).1]
theorem open_r{base0:Nat}{v:Value}{d:DataW H}{p:List MemPlace}(_hv:Value.okWide Tryz.prog W .any base0 22 v)(h:DataW.Trod enc Tryz.prog W 0 (λ_=>true) true 22 v d p):CameR W v:=by
 obtain⟨A,n,c,rfl⟩:=okWide_slice Tryz.underlying22 _hv;obtain⟨fuel,hf⟩:=h;obtain⟨u,hu,hc⟩:=came_r hf;simp[Value.cells] at hu;subst hu;exact hc
end
theorem pick_lane{W:World}{v:Value}(h:CameR W v):∃A n c,v= .slice A n c/\n<=maxLen/\∃xs:List Nat,n<=300->xs.length=n/\DR.Lane W 0 W.heap.size v xs:=by
 obtain⟨A,n,c,rfl,hn,hr⟩:=h
 by_cases h3:n<=300
 . obtain⟨xs,h1,h2⟩:=hr (by omega);exact⟨A,n,c,rfl,hn,xs,λ_=>⟨h1,h2⟩⟩
 . exact⟨A,n,c,rfl,hn,[],λh=>absurd h h3⟩
end Go.Proofs.YtbbogjhapeogeaaGreatDoor
set_option maxRecDepth 20000
namespace Go.Proofs.YtbbogjhapeogeaaGreatDoor.IN
open Go.RowKit Sg
def KRow(w:World)(A:Option Addr)(n cc:Nat)(S:Nat->ByteArray):Prop:=
 (∀i,i < n->(S i).size<=maxLen)/\(0 < n->∃g o,A=some ⟨g,o,none⟩/\g < w.heap.size/\n<=cc/\cc<=maxLen/\∀i,i < n->w.cell? ⟨g,o+i,none⟩=some (.string (S i)))
theorem same_below{w w':World}{b:Bool}{e:Ending}(h:SamePost b w e w'):e= .returned (.bool b)/\Below w.heap.size w w':=by
 obtain⟨he,m,rfl⟩:=h;exact⟨he,SR.below_drewN w m⟩
theorem tape_of{w:World}{v:Value}{vs:List Nat}(hv:DR.Lane w 0 w.heap.size v vs)(w1:World)(hb:Below w.heap.size w w1):
 Calls Tryz.prog 12 #[.slice (some ⟨w1.heap.size,0,none⟩) 1 1] (w1.alloc (.cells #[v] 22)) (DR.NewE [vs] (w1.alloc (.cells #[v] 22))):=
 DR.newE_any _ _ _ (DR.one_lanes w1 _ vs (DR.Lane.wide (hv.same λk _ hk=>hb.block k hk) (Nat.le_refl _) hb.size))
theorem made_i{w w1 w2 w3:World}{v:Value}{vs:List Nat}{B x k m:Nat}{U:Nat->Prop}(b1:Below w.heap.size w w1)(hB0:(w1.alloc (.cells #[v] 22)).heap.size<=B)(hB1:Below (w1.alloc (.cells #[v] 22)).heap.size (w1.alloc (.cells #[v] 22)) w2)
 (hC:In w3 x U (ISt.start k m (DR.lget [vs] 0)) 0 0 0) (hU:∀j,U j->B<=j) (hB2:Below w2.heap.size w2 w3):IL w w3 x U (ISt.start k m (DR.lget [vs] 0)) 0 0 0:=by
 have b2:=(b1.alloc b1.size (.cells #[v] 22));have b3:=b2.trans (hB1.mono b2.size);exact IL.made b3 hC hU (by have:=b2.size;omega) hB2
theorem one_key{st:ISt}(h:st.Ok)(hm:st.mo=1){xs:List ByteArray}(hk:st.keys=xs)(hx:xs.length<=1)(k:ByteArray):(st.req k).keys= [k]/\st.hitB k=inn xs k/\st.outB k=(!inn xs k&&decide (0 < xs.length))/\(st.outB k=false->st.vicV k=⟨#[]⟩)/\(st.outB k=true->st.vicV k∈xs):=by
 have f:=ISt.req_f h (by omega) k;rw[hm,hk] at f;refine⟨?_,f.hitE,?_,f.non,λe=>(f.vic e).1⟩
 . have hl:=f.len;have h1:=f.has
   have h2:(st.req k).keys.length<=1:=by
    rw[hl,f.hitE,f.outE];cases hi:inn xs k with
    |true=>simpa using hx
    |false=>
     by_cases h0:1<=xs.length
     . rw[decide_eq_true h0];simpa using hx
     . rw[decide_eq_false h0];show xs.length+1<=1;omega
   match hq:(st.req k).keys,h2 with
   | [],_=>rw[hq] at h1;cases h1
   | [y],_=>rw[hq] at h1;rw[List.mem_singleton.1 h1]
 . rw[f.outE];rfl
def IFill(w0:World)(x mo n:Nat)(i:Value)(W:World):Prop:=∃(k:Nat) (T:Nat->Prop) (s:ISt) (h:Nat),i= .int .i64 (k:Int)/\k<=n/\h<=k/\IL w0 W x T s k h (4*k)/\s.mo=mo
theorem IFill.next{w0 w w':World}{x mo n k h:Nat}{T:Nat->Prop}{s:ISt}{key:ByteArray}{r:Value}{e:Ending}(hk:k < n)(hh:h<=k)(hL:IL w0 w x T s k h (4*k))(hm:s.mo=mo)(hp:IPost r w x T (s.req key) (k+1) (if s.hitB key=true then h+1 else h) (4*k+4) e w'):
 e= .returned r/\IFill w0 x mo n (.int .i64 ((k:Int)+1)) w':=by
 obtain⟨rfl,T4,hL4,_⟩:=hL.op hp;exact⟨rfl,k+1,T4,s.req key,_,by go_num,by omega,by split <;> omega,hL4,(ISt.mo_req s key).trans hm⟩
structure IDrp(s t:ISt)(i:Nat):Prop where
 len:t.keys.length+i=s.keys.length
 sub:∀x∈t.keys,x∈s.keys
 gho:t.ghosts=s.ghosts
theorem IDrp.refl(s:ISt):IDrp s s 0:=⟨rfl,λ_ h=>h,rfl⟩
theorem IDrp.next{s t:ISt}{i:Nat}(d:IDrp s t i)(h:t.Ok)(hi:i < s.keys.length):IDrp s t.dr (i+1)/\t.any=true/\t.vic∈s.keys/\t.dr.has t.vic=false:=by
 have f:=ISt.dr_f h;have hl:=d.len
 have ha:t.any=true:=by
  rw[f.okE];cases hk:t.keys with
  |nil=>rw[hk] at hl;simp at hl;omega
  |cons x xs=>rfl
 have h2:=f.len;rw[ha] at h2;have h2:t.dr.keys.length+1=t.keys.length:=h2;exact⟨⟨by omega,λx hx=>d.sub x ((f.mem x).1 hx).1,f.gho.trans d.gho⟩,ha,d.sub _ (f.vic ha),inn_no.2 λe=>((f.mem _).1 e).2 ha rfl⟩
theorem IDrp.last{s t:ISt}(d:IDrp s t s.keys.length)(h:t.Ok):t.any=false/\t.dr.ghosts=s.ghosts:=by
 have f:=ISt.dr_f h;have hl:=d.len;have hk:t.keys= []:=List.eq_nil_of_length_eq_zero (by omega);exact⟨by rw[f.okE,hk];rfl,f.gho.trans d.gho⟩
structure IR2(w0 W:World)(x:Nat)(U:Nat->Prop)(st:ISt)(n h b:Nat)(va:Value)(xs:List ByteArray)(vb:Value)(ys:List ByteArray):Prop where
 lv:IL w0 W x U st n h b
 ra:PMine W U va xs
 rb:PMine W U vb ys
section
variable{w0 W W':World}{x n h b n' h' b':Nat}{U:Nat->Prop}{st st':ISt}{va vb r:Value}{xs ys:List ByteArray}{e:Ending}
theorem IR2.below(q:IR2 w0 W x U st n h b va xs vb ys)(hb:Below W.heap.size W W'):IR2 w0 W' x U st n h b va xs vb ys:=⟨q.lv.below hb,q.ra.below hb,q.rb.below hb⟩
theorem IR2.op(q:IR2 w0 W x U st n h b va xs vb ys)(hp:IPost r W x U st' n' h' b' e W'):e= .returned r/\∃U',IR2 w0 W' x U' st' n' h' b' va xs vb ys/\Went W W' U U':=by
 obtain⟨he,U',h1,h2⟩:=q.lv.op hp;exact⟨he,U',⟨h1,q.ra.went h2 h1.lt,q.rb.went h2 h1.lt⟩,h2⟩
end
theorem forget_facts{s:ISt}{mo:Nat}{k:ByteArray}(h:s.Ok)(h1:(s.rm k).Ok)(h2:((s.rm k).rm k).Ok)(hm:s.mo=mo)(h0:mo≠0):(s.rm k).has k=false/\inn (s.rm k).ghosts k=false/\((s.rm k).rm k).hitB k=false/\(((s.rm k).rm k).req k).has k=true/\
 ((s.has k=true/\((s.rm k).rm k).outB k=false)\/(s.has k=false/\s.keys.length=mo/\((s.rm k).rm k).outB k=true)\/(s.has k=false/\s.keys.length≠mo/\((s.rm k).rm k).outB k=false)):=by
 have r1:=ISt.rm_f h k;have r2:=ISt.rm_f h1 k;have e1:(s.rm k).has k=false:=inn_no.2 λe=>((r1.mem k).1 e).2 rfl;have m2:((s.rm k).rm k).mo=mo:=by rw[ISt.mo_rm,ISt.mo_rm];exact hm
 have f:=ISt.req_f h2 (by rw[m2];exact h0) k;have hk2:inn ((s.rm k).rm k).keys k=false:=inn_no.2 λe=>((r2.mem k).1 e).2 rfl;have l1:=r1.len;have l2:=r2.len;rw[e1] at l2;have l2:((s.rm k).rm k).keys.length=(s.rm k).keys.length:=l2;have ho:=f.outE;rw[hk2,m2,l2] at ho;have hle:=ISt.le h;rw[hm] at hle;refine⟨e1,inn_no.2 r1.gho,f.hitE.trans hk2,inn_iff.2 f.has,?_⟩;cases hw:s.has k with
 |true=>
  rw[hw] at l1;have l1:(s.rm k).keys.length+1=s.keys.length:=l1;exact Or.inl ⟨rfl,ho.trans (by rw[decide_eq_false (by omega)];rfl)⟩
 |false=>
  rw[hw] at l1;have l1:(s.rm k).keys.length=s.keys.length:=l1
  by_cases hq:s.keys.length=mo
  . exact Or.inr (Or.inl ⟨rfl,hq,ho.trans (by rw[decide_eq_true (by omega)];rfl)⟩)
  . exact Or.inr (Or.inr ⟨rfl,hq,ho.trans (by rw[decide_eq_false (by omega)];rfl)⟩)
structure IRB(w0 W:World)(x:Nat)(U:Nat->Prop)(st:ISt)(n h b:Nat)(va:Value)(xs:List ByteArray)(nb:Nat)(hit:Bool)(vk:ByteArray)(out:Bool):Prop where
 lv:IL w0 W x U st n h b
 ra:PMine W U va xs
 bx:AR.Boxes W U [(nb,hit,vk,out)]
section
variable{w0 W W':World}{x n h b nb:Nat}{U:Nat->Prop}{st:ISt}{va:Value}{xs:List ByteArray}{hit out:Bool}{vk:ByteArray}
theorem IRB.below(q:IRB w0 W x U st n h b va xs nb hit vk out)(hb:Below W.heap.size W W'):IRB w0 W' x U st n h b va xs nb hit vk out:=⟨q.lv.below hb,q.ra.below hb,q.bx.went (Went.below hb)⟩
theorem IRB.cells(q:IRB w0 W x U st n h b va xs nb hit vk out):W.cell? ⟨nb,0,none⟩=some (.bool hit)/\W.cell? ⟨nb,1,none⟩=some (.string vk)/\W.cell? ⟨nb,2,none⟩=some (.bool out):=by
 obtain⟨x1,x2,x3,_,_⟩:=(q.bx (nb,hit,vk,out) (by simp)).1.cells;exact⟨x1,x2,x3⟩
end
theorem keep_facts{s:ISt}{mo q:Nat}{key:ByteArray}(h:s.Ok)(hm:s.mo=mo)(h0:mo≠0)(hq:q=s.keys.length):(inn s.keys key=true/\s.hitB key=true/\s.vicV key=⟨#[]⟩/\s.outB key=false)\/(inn s.keys key=false/\q≠mo/\s.hitB key=false/\s.vicV key=⟨#[]⟩/\s.outB key=false)\/
 (inn s.keys key=false/\q=mo/\s.hitB key=false/\s.outB key=true/\s.vicV key∈s.keys/\s.vicV key∉(s.req key).keys):=by
 have f:=ISt.req_f h (by rw[hm];exact h0) key;have hle:=ISt.le h;rw[hm,<-hq] at hle;have ho:=f.outE;rw[hm,<-hq] at ho;cases hi:inn s.keys key with
 |true=>
  rw[hi] at ho;have ho:s.outB key=false:=ho;exact Or.inl ⟨rfl,f.hitE.trans hi,f.non ho,ho⟩
 |false=>
  rw[hi] at ho
  by_cases hr:q=mo
  . have ho:s.outB key=true:=ho.trans (by rw[decide_eq_true (by omega)];rfl);exact Or.inr (Or.inr ⟨rfl,hr,f.hitE.trans hi,ho,f.vic ho⟩)
  . have ho:s.outB key=false:=ho.trans (by rw[decide_eq_false (by omega)];rfl);exact Or.inr (Or.inl ⟨rfl,hr,f.hitE.trans hi,f.non ho,ho⟩)
end Go.Proofs.YtbbogjhapeogeaaGreatDoor.IN
