/- Part 9 of the proof. -/
import Derived.Test.YtgjdjgnfpendgaaGreatDoorZ02
import Derived.Test.YtgjdjgnfpendgaaGreatDoorZ03
import Derived.Test.YtgjdjgnfpendgaaGreatDoorZ04
import Derived.Test.YtgjdjgnfpendgaaGreatDoorZ06
import Derived.Test.YtgjdjgnfpendgaaGreatDoorZ08
import Derived.Deep.CutBlock
import Derived.Deep.DeepCutAuto
import Derived.Deep.MidRow
import Derived.Deep.RegionHeld3
import Derived.Deep.RegionLaw
set_option maxHeartbeats 16000000
set_option maxRecDepth 20000
namespace Go.Proofs.YtgjdjgnfpendgaaGreatDoor
open Go.Proofs.Tryz
section
open Go.RowKit Sg
inductive aN where
 |lr (mo:Nat) (ks:zY)
 |lf (ch:Bool) (mo n:Nat) (L:List (LF.Ht.aa zy))
 |sr (s:SR.St)
 |ar (s:AR.St)
def Told(v:Value)(w:zw)(e:Ending)(w':zw):Prop:=e= .returned v/\Below w.heap.size w w'
namespace aN
def kind:aN->Nat
 |lr _ _=>0
 |lf false _ _ _=>1
 |lf true _ _ _=>2
 |sr _=>3
 |ar _=>4
def mo:aN->Nat
 |lr mo _=>mo
 |lf _ mo _ _=>mo
 |sr s=>s.mo
 |ar s=>s.mo
def keys:aN->zY
 |lr _ ks=>ks
 |lf _ _ _ L=>LF.Lf.aC L
 |sr s=>(s.A++s.N).reverse
 |ar s=>AR.aC s.R
def nR:aN->zY
 |lr _ _=>[]
 |lf _ _ _ _=>[]
 |sr s=>s.G
 |ar s=>AR.ki s.R
def has(st:aN)(k:zy):Bool:=aw st.keys k
def tell:aN->zy->Bool × zy × Bool
 |lr mo ks,k=>(eK mo ks k,eL mo ks k,ef mo ks k)
 |lf _ mo _ L,k=>(LF.Lf.eK mo L k,LF.Lf.eL mo L k,LF.Lf.ef mo L k)
 |sr s,k=>(s.aF k,s.dW k,s.out k)
 |ar s,k=>(AR.aF s.R k,AR.bP (s.vs k),!(s.vs k).isEmpty)
def step(st:aN)(k:zy):Value:= .agg #[.bool (st.tell k).1,.string (st.tell k).2.1,.bool (st.tell k).2.2]
def aK:aN->zy->aN
 |lr mo ks,k=>lr mo (ia mo ks k)
 |lf ch mo n L,k=>lf ch mo (LF.Lf.lJ mo n) (LF.Lf.fN ch mo n L k)
 |sr s,k=>sr (s.aK k)
 |ar s,k=>ar (s.aK k)
def rm:aN->zy->aN
 |lr mo ks,k=>lr mo (rem ks k)
 |lf ch mo n L,k=>lf ch mo n (LF.Ht.rem L k)
 |sr s,k=>sr (s.rm k)
 |ar s,k=>ar (s.rm k)
def bD(st:aN)(k:zy):Bool:=!st.has k&&decide (st.keys.length < st.mo)
def ad:aN->zy->aN
 |lr mo ks,k=>lr mo (LR.ll mo ks k)
 |lf ch mo n L,k=>lf ch mo (LF.Lf.mR mo n L k) (LF.Lf.qE ch mo n L k)
 |sr s,k=>sr (s.ad k)
 |ar s,k=>ar (s.ad k)
def dW:aN->zy
 |lr _ ks=>ks.headD ⟨#[]⟩
 |lf _ _ _ L=>LF.Lf.jK L
 |sr s=>ah (s.A++s.N)
 |ar s=>ah (s.R (AR.lv s.R s.p false))
def any:aN->Bool
 |lr _ ks=>!ks.isEmpty
 |lf _ _ _ L=>!L.isEmpty
 |sr s=>bb (s.A++s.N)
 |ar s=>bb (s.R (AR.lv s.R s.p false))
def dr:aN->aN
 |lr mo ks=>lr mo ks.tail
 |lf ch mo n L=>lf ch mo n L.tail
 |sr s=>sr s.dr
 |ar s=>ar s.dr
def rs:aN->Nat->aN
 |lr _ ks,m=>lr m (gi m ks)
 |lf ch _ n L,m=>lf ch m n (L.drop (L.length - m))
 |sr s,m=>sr (s.rs m)
 |ar s,m=>ar (s.rs m)
def gone:aN->Nat->zY
 |lr _ ks,m=>ks.take (ks.length - m)
 |lf _ _ _ L,m=>(LF.Lf.aC L).take (L.length - m)
 |sr s,m=>(s.A++s.N).reverse.take (s.A.length+s.N.length - m)
 |ar s,m=>AR.outs (min s.p m) false s.R (AR.ai s.R - m)
def start(kind m:Nat):aN:=
 match kind with
 |0=>lr m []
 |1=>lf false m 0 []
 |2=>lf true m 0 []
 |3=>sr (SR.St.start m)
 |_=>ar (AR.St.start m)
def Ok:aN->Prop
 |lr mo ks=>ks.Nodup/\ks.length<=mo
 |lf ch mo n L=>LF.Ht.ed L n/\L.length<=mo/\LF.Lf.Fit ch L n/\LF.Ht.mJ L
 |sr s=>SR.Ok s
 |ar s=>AR.Ok s
theorem kI(st:aN)(k:zy):(st.aK k).kind=st.kind:=by
 cases st with
 |lf ch _ _ _=>cases ch <;> rfl
 |_=>rfl
theorem Cc(st:aN)(k:zy):(st.rm k).kind=st.kind:=by
 cases st with
 |lf ch _ _ _=>cases ch <;> rfl
 |_=>rfl
theorem Cd(st:aN)(k:zy):(st.ad k).kind=st.kind:=by
 cases st with
 |lf ch _ _ _=>cases ch <;> rfl
 |_=>rfl
theorem Ce(st:aN):st.dr.kind=st.kind:=by
 cases st with
 |lf ch _ _ _=>cases ch <;> rfl
 |_=>rfl
theorem Cf(st:aN)(m:Nat):(st.rs m).kind=st.kind:=by
 cases st with
 |lf ch _ _ _=>cases ch <;> rfl
 |_=>rfl
end aN
def iM(w:zw)(c:Nat)(T:Nat->Prop)(st:aN)(b:Nat):Prop:=
 match st with
 | .lr mo ks=>LR.Ca w c T mo ks b
 | .lf ch mo n L=>LF.Ca w c T mo ch L n/\n<=b
 | .sr s=>SR.Ca w c T s b
 | .ar s=>AR.Ca w c T s b
def gO(v:Value)(w:zw)(c:Nat)(T:Nat->Prop)(st:aN)(b:Nat)(e:Ending)(w':zw):Prop:=e= .returned v/\∃T',iM w' c T' st b/\aJ w w' T T'
def wy:Nat->Nat|0=>136|3=>215|4=>237|_=>162
def wz:Nat->Nat|0=>138|3=>217|4=>239|_=>164
def kJ:Nat->Nat|0=>140|3=>219|4=>241|_=>166
def my:Nat->Nat|0=>139|3=>218|4=>240|_=>165
def ph:Nat->Nat|0=>133|3=>212|4=>234|_=>159
def so:Nat->Nat|0=>134|3=>213|4=>235|_=>160
def mz:Nat->Nat|0=>141|3=>220|4=>242|_=>167
def sq:Nat->Nat|0=>137|3=>216|4=>238|_=>163
def mD:Nat->Nat|0=>135|3=>214|4=>236|_=>161
section
variable{w w':zw}{c b b':Nat}{T T':Nat->Prop}{st jR:aN}{v:Value}{e:Ending}
theorem iN(h:e= .returned v/\w=w'):Told v w e w':=⟨h.1,h.2▸zo _ _⟩
theorem Kr(h:SR.Qt v w e w'):Told v w e w':=by
 obtain⟨he,n,rfl⟩:=h;exact⟨he,SR.av w n⟩
theorem Cg(h:LF.ao T w w'):ao T w w':=⟨h.os,h.tape,h.output,h.size,h.block⟩
theorem ss{mo:Nat}{ks:zY}(h:LR.bs v w c T mo ks b e w'):gO v w c T (.lr mo ks) b e w':=by
 obtain⟨he,T',h1,h2,h3⟩:=h;exact⟨he,T',h1,h2,h3⟩
theorem su{mo n:Nat}{ch:Bool}{L:List (LF.Ht.aa zy)}(h:LF.bs v w c T mo ch L n e w')(hn:n<=b):gO v w c T (.lf ch mo n L) b e w':=by
 obtain⟨he,T',h1,h2,h3⟩:=h;exact⟨he,T',⟨h1,hn⟩,h2,Cg h3⟩
theorem iM.lt(h:iM w c T st b){k:Nat}(hk:T k):k < w.heap.size:=by
 cases st with
 |lr mo ks=>exact LR.Ca.lt h hk
 |lf ch mo n L=>exact LF.Ca.lt h.1 hk
 |sr s=>exact SR.Ca.lt h hk
 |ar s=>exact AR.Ca.lt h hk
theorem iM.below(h:iM w c T st b)(hb:Below w.heap.size w w'):iM w' c T st b:=by
 cases st with
 |lr mo ks=>exact LR.Ca.below h hb
 |lf ch mo n L=>exact⟨LF.Ca.below h.1 hb,h.2⟩
 |sr s=>exact SR.Ca.below h hb
 |ar s=>exact AR.Ca.below h hb
theorem iM.ok(h:iM w c T st b):st.Ok:=by
 cases st with
 |lr mo ks=>exact⟨LR.Ca.nodup h,(LR.Ca.le h).1⟩
 |lf ch mo n L=>exact⟨LF.Ca.once h.1,(LF.Ca.le h.1).1,LF.Ca.fit h.1,LF.Ca.nY h.1⟩
 |sr s=>exact SR.Ca.ok h
 |ar s=>exact AR.Ca.ok h
theorem iM.small(h:iM w c T st b):∀x∈st.keys,x.size<=maxLen:=by
 cases st with
 |lr mo ks=>exact LR.Ca.small h
 |lf ch mo n L=>
  intro x hx;obtain⟨e,he,rfl⟩:=List.mem_map.1 hx;exact LF.Ca.ok h.1 e he
 |sr s=>exact λx hx=>SR.Ca.small h x (qq _ (List.mem_reverse.1 hx))
 |ar s=>
  intro x hx;rcases List.mem_append.1 (List.mem_reverse.1 hx) with hx|hx
  . exact AR.Ca.small h 1 (by omega) x hx
  . exact AR.Ca.small h 0 (by omega) x hx
theorem nS{L:List (LF.Ht.aa zy)}{k:zy}:LF.Lf.da L k=aw (LF.Lf.aC L) k:=by
 rw[Bool.eq_iff_iff,LF.Lf.sT,aX];unfold LF.Lf.aC;rw[xi]
theorem pj{s:SR.St}{k:zy}:s.aF k=aw (s.A++s.N).reverse k:=by
 rw[Bool.eq_iff_iff,aX,xl,qd];unfold SR.St.aF;rw[Bool.or_eq_true,aX,aX];exact Or.comm
theorem vg{s:AR.St}{k:zy}:AR.aF s.R k=aw (AR.aC s.R) k:=by
 rw[Bool.eq_iff_iff,aX,AR.lD]
end
section
variable(w:zw)(c:Nat)(T:Nat->Prop)(st:aN)(b:Nat)(key:zy)(h:iM w c T st b)
include h
theorem Qn:Calls prog (wz st.kind) #[.pointer (some ⟨c,0,none⟩)] w (Told (.int .i64 (st.keys.length:Int)) w):=by
 cases st with
 |lr mo ks=>exact(LR.mS w c T mo ks b h).mono λe w' q=>iN q
 |lf ch mo n L=>
  have e1:(aN.lf ch mo n L).keys.length=L.length:=by show(LF.Lf.aC L).length=_;unfold LF.Lf.aC;rw[List.length_map]
  rw[e1];have:=(LF.mS w c T mo ch L n h.1).mono λe w' q=>iN q;cases ch <;> exact this
 |sr s=>
  have e1:(aN.sr s).keys.length=s.N.length+s.A.length:=by show(s.A++s.N).reverse.length=_;rw[qp,zh];omega
  rw[e1];exact(SR.mS w c T s b h).mono λe w' q=>Kr q
 |ar s=>
  have e1:(aN.ar s).keys.length=AR.ai s.R:=AR.cw _;rw[e1];exact AR.mS w c T s b h
theorem Qo(hs:key.size<=maxLen):Calls prog (wy st.kind) #[.pointer (some ⟨c,0,none⟩),.string key] w (Told (.bool (st.has key)) w):=by
 unfold aN.has;cases st with
 |lr mo ks=>exact(LR.mT w c T mo ks b key h hs).mono λe w' q=>iN q
 |lf ch mo n L=>
  show Calls _ _ _ _ (Told (.bool (aw (LF.Lf.aC L) key)) w);rw[← nS];have:=LF.mT w c T mo ch L n key h.1 hs;cases ch <;> exact this
 |sr s=>
  show Calls _ _ _ _ (Told (.bool (aw (s.A++s.N).reverse key)) w);rw[← pj];exact(SR.mT w c T s b key h hs).mono λe w' q=>iN q
 |ar s=>
  show Calls _ _ _ _ (Told (.bool (aw (AR.aC s.R) key)) w);rw[← vg];exact(AR.mT w c T s b key h hs).mono λe w' q=>iN q
theorem Oc:Calls prog (sq st.kind) #[.pointer (some ⟨c,0,none⟩)] w (br st.keys w):=by
 cases st with
 |lr mo ks=>exact LR.kt w c T mo ks b h
 |lf ch mo n L=>
  have:=LF.kt w c T mo ch L n h.1;cases ch <;> exact this
 |sr s=>exact SR.kt w c T s b h
 |ar s=>exact AR.kt w c T s b h
theorem Hd:Calls prog (mD st.kind) #[.pointer (some ⟨c,0,none⟩)] w (br st.nR w):=by
 have nil:∀e w',(e= .returned (.slice none 0 0)/\w=w')->br [] w e w':=λe w' ⟨he,hw⟩=>⟨_,he,Own.nil _ _,hw▸zo _ _⟩;cases st with
 |lr mo ks=>exact(LR.vF w c).mono nil
 |lf ch mo n L=>
  have:=(LF.vF w c).mono nil;cases ch <;> exact this
 |sr s=>exact SR.ru w c T s b h
 |ar s=>exact AR.ru w c T s b h
theorem Od:Calls prog (so st.kind) #[.pointer (some ⟨c,0,none⟩)] w (gO (.tuple #[.string st.dW,.bool st.any]) w c T st.dr b):=by
 cases st with
 |lr mo ks=>exact(LR.kq w c T mo ks b h).mono λe w' q=>ss q
 |lf ch mo n L=>
  have:=(LF.kq w c T mo ch L n h.1).mono λe w' q=>su q h.2;cases ch <;> exact this
 |sr s=>exact SR.kq w c T s b h
 |ar s=>exact AR.kq w c T s b h
theorem He(hs:key.size<=maxLen):Calls prog (my st.kind) #[.pointer (some ⟨c,0,none⟩),.string key] w (gO (.bool (st.has key)) w c T (st.rm key) b):=by
 unfold aN.has;cases st with
 |lr mo ks=>exact(LR.ix w c T mo ks b key h hs).mono λe w' q=>ss q
 |lf ch mo n L=>
  show Calls _ _ _ _ (gO (.bool (aw (LF.Lf.aC L) key)) w c T _ b);rw[← nS];have:=(LF.ix w c T mo ch L n key h.1 hs).mono λe w' q=>su q h.2;cases ch <;> exact this
 |sr s=>
  show Calls _ _ _ _ (gO (.bool (aw (s.A++s.N).reverse key)) w c T _ b);rw[← pj];exact SR.ix w c T s b key h hs
 |ar s=>
  show Calls _ _ _ _ (gO (.bool (aw (AR.aC s.R) key)) w c T _ b);rw[← vg];exact AR.ix w c T s b key h hs
theorem Ks(hs:key.size<=maxLen)(hb:b<=900):Calls prog (ph st.kind) #[.pointer (some ⟨c,0,none⟩),.string key] w (gO (.bool (st.bD key)) w c T (st.ad key) (b+1)):=by
 unfold aN.bD aN.has;cases st with
 |lr mo ks=>exact(LR.jC w c T mo ks b key h hs (by omega)).mono λe w' q=>ss q
 |lf ch mo n L=>
  have e1:(!aw (aN.lf ch mo n L).keys key&&decide ((aN.lf ch mo n L).keys.length < (aN.lf ch mo n L).mo))=LF.Lf.bD mo L key:=by
   show(!aw (LF.Lf.aC L) key&&decide ((LF.Lf.aC L).length < mo))=_;rw[← nS,LF.Lf.cw];rfl
  rw[e1];have:=(LF.jC w c T mo ch L n key h.1 hs (by have:=h.2;omega)).mono λe w' q=>su (b:=b+1) q (by have:=LF.Lf.LN mo n L key;have:=h.2;omega);cases ch <;> exact this
 |sr s=>
  have e1:(!aw (aN.sr s).keys key&&decide ((aN.sr s).keys.length < (aN.sr s).mo))=s.bD key:=by
   show(!aw (s.A++s.N).reverse key&&decide ((s.A++s.N).reverse.length < s.mo))=_;rw[← pj,qp,zh,Nat.add_comm];rfl
  rw[e1];exact SR.jC w c T s b key h hs (by omega)
 |ar s=>
  have e1:(!aw (aN.ar s).keys key&&decide ((aN.ar s).keys.length < (aN.ar s).mo))=s.bD key:=by
   show(!aw (AR.aC s.R) key&&decide ((AR.aC s.R).length < s.mo))=_;rw[← vg,AR.cw];rfl
  rw[e1];exact AR.jC w c T s b key h hs (by omega)
theorem Fk(hs:key.size<=maxLen)(hb:b<=900):Calls prog (kJ st.kind) #[.pointer (some ⟨c,0,none⟩),.string key] w (gO (st.step key) w c T (st.aK key) (b+1)):=by
 cases st with
 |lr mo ks=>exact(LR.gF w c T mo ks b key h hs (by omega)).mono λe w' q=>ss q
 |lf ch mo n L=>
  have:=(LF.gF w c T mo ch L n key h.1 hs (by have:=h.2;omega)).mono λe w' q=>su (b:=b+1) q (by have:=LF.Lf.JR mo n;have:=h.2;omega);cases ch <;> exact this
 |sr s=>exact SR.gF w c T s b key h hs (by omega)
 |ar s=>exact AR.gF w c T s b key h hs (by omega)
theorem Hf(z:Int)(hz: -9223372036854775808<=z/\z<=9223372036854775807)(hb:b<=900):Calls prog (mz st.kind) #[.pointer (some ⟨c,0,none⟩),.int .i64 z] w
 (λe w'=>∃v T',e= .returned v/\Own w' w.heap.size v (st.gone z.toNat)/\iM w' c T' (st.rs z.toNat) b/\aJ w w' T T'/\∀g,v.ownBlock=some g->¬T' g):=by
 cases st with
 |lr mo ks=>
  refine(LR.iA w c T mo ks b z hz h).mono ?_;rintro e w' ⟨v,T',he,hO,hC,hN,hT,hv⟩;exact⟨v,T',he,hO,hC,⟨hN,hT⟩,hv⟩
 |lf ch mo n L=>
  have:=(LF.iA w c T mo ch L n z hz h.1).mono (R':=λe w'=>∃v T',e= .returned v/\Own w' w.heap.size v ((aN.lf ch mo n L).gone z.toNat)/\iM w' c T' ((aN.lf ch mo n L).rs z.toNat) b/\aJ w w' T T'/\∀g,v.ownBlock=some g->¬T' g) (by
   rintro e w' ⟨v,T',he,hO,hC,hN,hT,hv⟩;exact⟨v,T',he,hO,⟨hC,h.2⟩,⟨hN,Cg hT⟩,hv⟩)
  cases ch <;> exact this
 |sr s=>exact SR.iA w c T s b h z hz (by omega)
 |ar s=>exact AR.iA w c T s b h z hz (by omega)
end
end
section
open Sg
section
variable{K K' G':zY}{mo:Nat}{k:zy}
theorem ow(hk:k∈K)(hm:∀x,x∈K'<->x∈K)(hl:K'.length=K.length):rI K K' mo k true ⟨#[]⟩ false:=by
 have hi:=aX.2 hk;exact⟨hi.symm,by rw[hi];rfl,λh=>by(cases h),λ_=>rfl,(hm k).2 hk,λx hx=>xz ((hm x).2 hx),λx hx=>xz ((hm x).1 hx),hl⟩
theorem drop_one{xs:zY}(h:xs≠ []):xs=xs.headD ⟨#[]⟩::xs.tail:=by
 cases xs with
 |nil=>exact absurd rfl h
 |cons x xs=>rfl
theorem p6(nd:K.Nodup)(hk:k∉K)(hm:mo≠0)(hle:K.length<=mo)(eU:∀x,x∈K'<->x=k\/x∈K.drop (K.length+1 - mo))(hl:K'.length=(K.drop (K.length+1 - mo)).length+1):
 rI K K' mo k false (if mo<=K.length then K.headD ⟨#[]⟩ else⟨#[]⟩) (decide (mo<=K.length)):=by
 have hi:=bz.2 hk
 by_cases hf:mo<=K.length
 . rw[if_pos hf,decide_eq_true hf];have hn:K≠ []:=λe=>by rw[e,ql] at hf;omega
   have hd:K.drop (K.length+1 - mo)=K.tail:=by rw[show K.length+1 - mo=1 by omega,List.drop_one]
   rw[hd] at eU hl;have hc:=drop_one hn;have h1:K.headD ⟨#[]⟩∈K:=by rw[hc];exact xa
   have h2:K.headD ⟨#[]⟩∉K.tail:=by rw[hc] at nd;exact(List.nodup_cons.1 nd).1
   refine⟨hi.symm,by rw[hi,decide_eq_true hf];rfl,λ_=>⟨h1,λh=>?_⟩,λh=>by(cases h),(eU k).2 (xz rfl),λx hx=>?_,λx hx=>?_,?_⟩
   . rcases(eU _).1 h with h|h
     . exact hk (h▸h1)
     . exact h2 h
   . rw[hc] at hx;rcases List.mem_cons.1 hx with h|h
     . exact ja ⟨rfl,h⟩
     . exact xz ((eU x).2 (ja h))
   . exact((eU x).1 hx).elim ja λh=>xz (List.mem_of_mem_tail h)
   . rw[hl,List.length_tail];have:=List.length_pos_iff.2 hn;simp;omega
 . rw[if_neg hf,decide_eq_false hf];have hd:K.drop (K.length+1 - mo)=K:=by rw[show K.length+1 - mo=0 by omega];rfl
   rw[hd] at eU hl;exact⟨hi.symm,by rw[hi,decide_eq_false hf];rfl,λh=>by(cases h),λ_=>rfl,(eU k).2 (xz rfl),λx hx=>xz ((eU x).2 (ja hx)),λx hx=>((eU x).1 hx).elim ja xz,by rw[hl];rfl⟩
theorem tX(nd:K.Nodup)(G:zY):E4 K K.tail G G (K.headD ⟨#[]⟩) (!K.isEmpty):=by
 cases K with
 |nil=>exact⟨rfl,λh=>by(cases h),λx=>⟨λh=>by(cases h),λh=>h.1⟩,rfl,rfl⟩
 |cons y K=>
  have h:=List.nodup_cons.1 nd;refine⟨rfl,λ_=>xa,λx=>⟨λhx=>⟨qm _ hx,λ_ e=>?_⟩,λhx=>?_⟩,rfl,rfl⟩
  . have e:x=y:=e;exact h.1 (e▸hx)
  . rcases List.mem_cons.1 hx.1 with e|e
    . exact absurd e (hx.2 rfl)
    . exact e
end
section
variable{ks:zY}{mo:Nat}
theorem Of(nd:ks.Nodup)(hl:ks.length<=mo)(hm:mo≠0)(k:zy):rI ks (ia mo ks k) mo k (eK mo ks k) (eL mo ks k) (ef mo ks k):=by
 cases hi:aw ks k with
 |true=>
  have hk:=aX.1 hi;have hr:=eY nd hk;have e1:eK mo ks k=true:=by simp[eK,hi,hm]
  have e2:ef mo ks k=false:=by simp[ef,hi]
  have e3:eL mo ks k=⟨#[]⟩:=by unfold eL;rw[e2];rfl
  have e4:ia mo ks k=rem ks k++ [k]:=oj (by rw[zh,List.length_singleton];omega);rw[e1,e2,e3,e4];refine ow hk (λx=>?_) (by rw[zh,List.length_singleton];exact hr);rw[qd,dQ,qo];constructor
  . rintro(h|h)
    . exact h.1
    . rw[h];exact hk
  . intro h
    by_cases e:x=k
    . exact ja e
    . exact xz ⟨h,e⟩
 |false=>
  have hk:=bz.1 hi;have e1:eK mo ks k=false:=by simp[eK,hi]
  have e2:ef mo ks k=decide (mo<=ks.length):=by simp[ef,hi,hm]
  have e3:eL mo ks k=if mo<=ks.length then ks.headD ⟨#[]⟩ else⟨#[]⟩:=by unfold eL;rw[e2];by_cases h:mo<=ks.length <;> simp[h]
  have e4:ia mo ks k=ks.drop (ks.length+1 - mo)++ [k]:=by
   unfold ia gi;rw[aZ hk,zh,List.length_singleton,List.drop_append,show ks.length+1 - mo - ks.length=0 by omega];rfl
  rw[e1,e2,e3,e4];exact p6 nd hk hm hl (λx=>by rw[qd,qo];exact Or.comm) (by rw[zh,List.length_singleton])
end
section
variable{ch:Bool}{mo n:Nat}{L:List (LF.Ht.aa zy)}
theorem lE{k x:zy}:x∈LF.Lf.aC (LF.Lf.put ch n L k)<->x=k\/(x∈LF.Lf.aC L/\x≠k):=by
 unfold LF.Lf.aC;rw[xi,xi];constructor
 . rintro⟨e,he,rfl⟩;rcases LF.Lf.oK.1 he with rfl|⟨h1,h2⟩
   . exact xz rfl
   . exact ja ⟨⟨e,h1,rfl⟩,h2⟩
 . rintro(rfl|⟨⟨e,h1,rfl⟩,h2⟩)
   . exact⟨_,LF.Lf.oK.2 (xz rfl),rfl⟩
   . exact⟨e,LF.Lf.oK.2 (ja ⟨h1,h2⟩),rfl⟩
theorem Dt(j:Nat):LF.Lf.aC (L.drop j)=(LF.Lf.aC L).drop j:=by unfold LF.Lf.aC;rw[List.map_drop]
theorem vh:LF.Lf.jK L=(LF.Lf.aC L).headD ⟨#[]⟩:=by cases L <;> rfl
theorem Oh(o:LF.Ht.ed L n)(hl:L.length<=mo)(hm:mo≠0)(k:zy):rI (LF.Lf.aC L) (LF.Lf.aC (LF.Lf.fN ch mo n L k)) mo k (LF.Lf.eK mo L k) (LF.Lf.eL mo L k) (LF.Lf.ef mo L k):=by
 have Oi:=LF.Lf.cw L;cases hi:LF.Lf.da L k with
 |true=>
  have hk:k∈LF.Lf.aC L:=by rw[nS] at hi;exact aX.1 hi
  have e1:LF.Lf.eK mo L k=true:=by simp[LF.Lf.eK,hi,hm]
  have e2:LF.Lf.ef mo L k=false:=by simp[LF.Lf.ef,hi]
  have e3:LF.Lf.eL mo L k=⟨#[]⟩:=by unfold LF.Lf.eL;rw[e2];rfl
  have e4:LF.Lf.fN ch mo n L k=LF.Lf.put ch n L k:=by unfold LF.Lf.fN;rw[if_neg hm,if_pos hi]
  rw[e1,e2,e3,e4];refine ow hk (λx=>?_) (by rw[LF.Lf.cw,LF.Lf.cw,LF.Lf.mh];exact LF.Lf.eY o hi);rw[lE];constructor
  . rintro(h|h)
    . rw[h];exact hk
    . exact h.1
  . intro h
    by_cases e:x=k
    . exact xz e
    . exact ja ⟨h,e⟩
 |false=>
  have hk:k∉LF.Lf.aC L:=by rw[nS] at hi;exact bz.1 hi
  have e1:LF.Lf.eK mo L k=false:=by simp[LF.Lf.eK,hi]
  have e2:LF.Lf.ef mo L k=decide (mo<=(LF.Lf.aC L).length):=by simp[LF.Lf.ef,hi,hm,Oi]
  have e3:LF.Lf.eL mo L k=if mo<=(LF.Lf.aC L).length then(LF.Lf.aC L).headD ⟨#[]⟩ else⟨#[]⟩:=by
   unfold LF.Lf.eL;rw[e2,vh];by_cases h:mo<=(LF.Lf.aC L).length <;> simp[h]
  have e4:LF.Lf.fN ch mo n L k=LF.Lf.put ch n (L.drop (L.length+1 - mo)) k:=by unfold LF.Lf.fN;rw[if_neg hm,if_neg (by rw[hi];simp)]
  have hd:LF.Lf.aC (L.drop (L.length+1 - mo))=(LF.Lf.aC L).drop ((LF.Lf.aC L).length+1 - mo):=by rw[Dt,Oi]
  have EN:k∉LF.Lf.aC (L.drop (L.length+1 - mo)):=λh=>hk (by rw[hd] at h;exact List.mem_of_mem_drop h);have lU:LF.Lf.da (L.drop (L.length+1 - mo)) k=false:=by rw[nS];exact bz.2 EN
  rw[e1,e2,e3,e4];refine p6 o.keys hk hm (by rw[Oi];exact hl) (λx=>?_) ?_
  . rw[lE,<-hd];exact⟨λh=>h.imp id λh=>h.1,λh=>h.imp id λh=>⟨h,λe=>EN (e▸h)⟩⟩
  . rw[← hd,LF.Lf.cw,LF.Lf.cw,LF.Lf.mh,LF.Lf.Cw lU]
end
section
variable{s:SR.St}
theorem Fl(p:SR.Ok s):(s.A++s.N).reverse.Nodup:=by
 have:=p.nd;unfold SR.St.all at this;exact(List.reverse_perm _).nodup_iff.2 (List.nodup_append.1 this).1
theorem Aw(L:zY):L.reverse.headD ⟨#[]⟩=ah L:=by
 unfold ah;rw[List.headD_eq_head?_getD,List.head?_reverse,qw]
theorem Oj(s:SR.St)(n:Nat):((s.cut n).A++(s.cut n).N).reverse=(s.A++s.N).reverse.drop ((s.A++s.N).reverse.length - n):=by
 show(SR.gm n s.N s.A++SR.gL n s.N s.A).reverse=_;rw[SR.vT,List.reverse_take,qp];congr 1;rw[zh];unfold SR.gone;omega
theorem Ch(s:SR.St)(k:zy):(s.prom k).A++(s.prom k).N=k::(s.A++s.N):=by
 unfold SR.St.prom;show(k::s.A).take _++((k::s.A).drop _++s.N)=_;rw[← xp,xw];rfl
theorem Ol(p:SR.Ok s)(hm:s.mo≠0)(k:zy):rI (s.A++s.N).reverse ((s.aK k).A++(s.aK k).N).reverse s.mo k (s.aF k) (s.dW k) (s.out k):=by
 have nd:=Fl p;have hle:(s.A++s.N).reverse.length<=s.mo:=by rw[qp,zh];exact p.le
 have SB:s.A.Nodup/\s.N.Nodup:=by have nd:=(List.reverse_perm _).nodup_iff.1 nd;exact⟨(List.nodup_append.1 nd).1,(List.nodup_append.1 nd).2.1⟩
 have QY:∀x,x∈s.A->x∉s.N:=λx h1 h2=>by have nd:=(List.reverse_perm _).nodup_iff.1 nd;exact(List.nodup_append.1 nd).2.2 x h1 x h2 rfl
 cases hh:s.aF k with
 |true=>
  have e2:s.out k=false:=by simp[SR.St.out,hh]
  have e3:s.dW k=⟨#[]⟩:=by unfold SR.St.dW;rw[e2];rfl
  rw[e2,e3];have hk:k∈(s.A++s.N).reverse:=by rw[pj] at hh;exact aX.1 hh
  cases hA:aw s.A k with
  |true=>
   have e4:s.aK k=s.lp k:=by unfold SR.St.aK;rw[if_neg hm,if_pos hA]
   have hr:=eY SB.1 (aX.1 hA);rw[e4];refine ow hk (λx=>?_) ?_
   . show x∈((k::rem s.A k)++s.N).reverse<->_;rw[xl,xl,qd,qd,qu,dQ];constructor
     . rintro((h|h)|h)
       . exact xz (h▸aX.1 hA)
       . exact xz h.1
       . exact ja h
     . rintro(h|h)
       . by_cases e:x=k
         . exact xz (xz e)
         . exact xz (ja ⟨h,e⟩)
       . exact ja h
   . show((k::rem s.A k)++s.N).reverse.length=_;rw[qp,qp,zh,zh,zv,hr]
  |false=>
   have hN:aw s.N k=true:=by unfold SR.St.aF at hh;rw[hA,Bool.or_false] at hh;exact hh
   have e4:s.aK k=(s.fU k).prom k:=by unfold SR.St.aK;rw[if_neg hm,if_neg (by rw[hA];simp),if_pos hN]
   have hr:=eY SB.2 (aX.1 hN);rw[e4,Ch];refine ow hk (λx=>?_) ?_
   . show x∈(k::(s.A++rem s.N k)).reverse<->_;rw[xl,xl,qu,qd,qd,dQ];constructor
     . rintro(h|h|h)
       . exact ja (h▸aX.1 hN)
       . exact xz h
       . exact ja h.1
     . rintro(h|h)
       . exact ja (xz h)
       . by_cases e:x=k
         . exact xz e
         . exact ja (ja ⟨h,e⟩)
   . show(k::(s.A++rem s.N k)).reverse.length=_;rw[qp,qp,zv,zh,zh];omega
 |false=>
  have hk:k∉(s.A++s.N).reverse:=by rw[pj] at hh;exact bz.1 hh
  have Ju:aw s.A k=false/\aw s.N k=false:=by
   unfold SR.St.aF at hh;rw[Bool.or_eq_false_iff] at hh;exact⟨hh.2,hh.1⟩
  have hlen:(s.A++s.N).reverse.length=s.A.length+s.N.length:=by rw[qp,zh]
  have e2:s.out k=decide (s.mo<=(s.A++s.N).reverse.length):=by rw[hlen];simp[SR.St.out,hh,hm]
  have e3:s.dW k=if s.mo<=(s.A++s.N).reverse.length then(s.A++s.N).reverse.headD ⟨#[]⟩ else⟨#[]⟩:=by
   unfold SR.St.dW;rw[e2,Aw]
   by_cases h:s.mo<=(s.A++s.N).reverse.length
   . rw[if_pos h,if_pos (decide_eq_true h)]
   . rw[if_neg h,if_neg (by rw[decide_eq_false h];simp)]
  have hd:(s.A++s.N).reverse.length - (s.mo - 1)=(s.A++s.N).reverse.length+1 - s.mo:=by omega
  have e4:((s.aK k).A++(s.aK k).N).reverse.Perm (k::(s.A++s.N).reverse.drop ((s.A++s.N).reverse.length+1 - s.mo)):=by
   rw[← hd,<-Oj];cases hG:aw s.G k with
   |true=>
    have e:s.aK k=((s.eA k).cut (s.mo - 1)).prom k:=by unfold SR.St.aK;rw[if_neg hm,if_neg (by rw[Ju.1];simp),if_neg (by rw[Ju.2];simp),if_pos hG]
    rw[e,Ch];refine(List.reverse_perm _).trans (List.Perm.cons _ ?_);exact(List.reverse_perm _).symm
   |false=>
    have e:s.aK k=(s.cut (s.mo - 1)).fr k:=by unfold SR.St.aK;rw[if_neg hm,if_neg (by rw[Ju.1];simp),if_neg (by rw[Ju.2];simp),if_neg (by rw[hG];simp)]
    rw[e];show((s.cut (s.mo - 1)).A++(k::(s.cut (s.mo - 1)).N)).reverse.Perm _;refine(List.reverse_perm _).trans (List.perm_middle.trans (List.Perm.cons _ ?_));exact(List.reverse_perm _).symm
  rw[e2,e3];exact p6 nd hk hm hle (λx=>by rw[e4.mem_iff,qu]) (by rw[e4.length_eq,zv])
theorem Qp(p:SR.Ok s):E4 (s.A++s.N).reverse (s.dr.A++s.dr.N).reverse s.G s.dr.G (ah (s.A++s.N)) (bb (s.A++s.N)):=by
 have e1:(s.dr.A++s.dr.N).reverse=(s.A++s.N).reverse.tail:=by
  rw[List.tail_reverse];congr 1;show SR.dA s.N s.A++s.N.dropLast=_;unfold SR.dA
  by_cases h:s.N= []
  . rw[if_pos h,h];simp
  . rw[if_neg h,List.dropLast_append_of_ne_nil h]
 have e2:bb (s.A++s.N)=!(s.A++s.N).reverse.isEmpty:=by unfold bb;rw[List.isEmpty_reverse]
 rw[e1,<-Aw,e2];exact tX (Fl p) s.G
end
namespace aN
variable{st:aN}
theorem kP(h:st.Ok)(hm:st.mo≠0)(k:zy):rI st.keys (st.aK k).keys st.mo k (st.tell k).1 (st.tell k).2.1 (st.tell k).2.2:=by
 cases st with
 |lr mo ks=>exact Of h.1 h.2 hm k
 |lf ch mo n L=>exact Oh h.1 h.2.1 hm k
 |sr s=>exact Ol h hm k
 |ar s=>exact AR.kP h hm k
theorem G5(h:st.Ok):E4 st.keys st.dr.keys st.nR st.dr.nR st.dW st.any:=by
 cases st with
 |lr mo ks=>exact tX h.1 []
 |lf ch mo n L=>
  have e1:LF.Lf.aC L.tail=(LF.Lf.aC L).tail:=by cases L <;> rfl
  have e2:L.isEmpty=(LF.Lf.aC L).isEmpty:=by cases L <;> rfl
  show E4 (LF.Lf.aC L) (LF.Lf.aC L.tail) [] [] (LF.Lf.jK L) (!L.isEmpty);rw[e1,e2,vh];exact tX h.1.keys []
 |sr s=>exact Qp h
 |ar s=>exact AR.G5 h
theorem j7(st:aN)(k:zy):(st.aK k).mo=st.mo:=by
 cases st with
 |sr s=>show(s.aK k).mo=s.mo;unfold SR.St.aK;(repeat' split) <;> rfl
 |ar s=>show(s.aK k).mo=s.mo;unfold AR.St.aK;(repeat' split) <;> rfl
 |_=>rfl
theorem xY(st:aN)(k:zy):(st.ad k).mo=st.mo:=by
 cases st with
 |sr s=>show(s.ad k).mo=s.mo;unfold SR.St.ad;split <;> rfl
 |ar s=>show(s.ad k).mo=s.mo;unfold AR.St.ad;split <;> rfl
 |_=>rfl
theorem Jv(st:aN)(k:zy):(st.rm k).mo=st.mo:=by cases st <;> rfl
theorem Jw(st:aN):st.dr.mo=st.mo:=by cases st <;> rfl
theorem Jx(st:aN)(n:Nat):(st.rs n).mo=n:=by cases st <;> rfl
theorem p7{k:Nat}(hk:k < 5)(m:Nat):(start k m).kind=k/\(start k m).mo=m/\(start k m).keys= []/\(start k m).nR= []:=by
 obtain rfl|rfl|rfl|rfl|rfl:k=0\/k=1\/k=2\/k=3\/k=4:=by omega
 all_goals exact⟨rfl,rfl,rfl,rfl⟩
end aN
end
section
open Sg
namespace aN
variable{st:aN}
theorem Ax(h:st.Ok)(hm:st.mo≠0){k:zy}(hk:k∈st.keys):st.tell k=(true,⟨#[]⟩,false):=by
 have f:=kP h hm k;have h1:(st.tell k).1=true:=f.GV.trans (aX.2 hk);have h3:(st.tell k).2.2=false:=f.Dg.trans (by rw[aX.2 hk];rfl);have h2:=f.RJ h3;exact Prod.ext h1 (Prod.ext h2 h3)
theorem xF(h:st.Ok)(hm:st.mo≠0){k:zy}(hk:k∉st.keys)(hr:st.keys.length < st.mo):st.tell k=(false,⟨#[]⟩,false):=by
 have f:=kP h hm k;have h1:(st.tell k).1=false:=f.GV.trans (bz.2 hk);have h3:(st.tell k).2.2=false:=f.Dg.trans (by rw[decide_eq_false (by omega),Bool.and_false]);have h2:=f.RJ h3;exact Prod.ext h1 (Prod.ext h2 h3)
theorem sv(h:st.Ok)(hm:st.mo≠0)(k:zy):(st.aK k).keys.length=if(aw st.keys k||decide (st.mo<=st.keys.length))=true then st.keys.length else st.keys.length+1:=by
 have f:=kP h hm k;have h0:=f.len;rw[f.GV,f.Dg] at h0;rw[h0];cases aw st.keys k with
 |true=>rfl
 |false=>
  by_cases hr:st.mo<=st.keys.length
  . rw[decide_eq_true hr];rfl
  . rw[decide_eq_false hr];rfl
theorem T9{s0 s1 s2 s3 s4:aN}{a b c:zy}(e1:s1=s0.aK a)(e2:s2=s1.aK a)(e3:s3=s2.aK b)(e4:s4=s3.aK c)
 (h0:s0.Ok) (h1:s1.Ok) (h2:s2.Ok) (h3:s3.Ok) (h4:s4.Ok) (m0:s0.mo=2) (k0:s0.keys= []) (iU:b≠a) (VY:c≠a) (Bk:c≠b):
 s0.tell a=(false,⟨#[]⟩,false)/\s1.tell a=(true,⟨#[]⟩,false)/\(s3.tell c).2.2=true/\s4.keys.length=2/\s4.has c=true/\s4.any=true/\s4.has s4.dW=true/\s4.mo=2:=by
 have m1:s1.mo=2:=by rw[e1,j7];exact m0
 have m2:s2.mo=2:=by rw[e2,j7];exact m1
 have m3:s3.mo=2:=by rw[e3,j7];exact m2
 have m4:s4.mo=2:=by rw[e4,j7];exact m3
 have f1:=kP h0 (by omega) a;have f2:=kP h1 (by omega) a;have f3:=kP h2 (by omega) b;have f4:=kP h3 (by omega) c;rw[← e1] at f1;rw[← e2] at f2;rw[← e3] at f3;rw[← e4] at f4;have l1:=sv h0 (by omega) a;have l2:=sv h1 (by omega) a;have l3:=sv h2 (by omega) b;have l4:=sv h3 (by omega) c;rw[← e1,k0,if_neg (by rw[m0];simp[aw])] at l1;rw[← e2,aX.2 f1.has,Bool.true_or,if_pos rfl] at l2
 have o1:∀x∈s1.keys,x=a:=λx hx=>by
  rcases f1.old x hx with h|h
  . rw[k0] at h;cases h
  . exact h
 have o2:∀x∈s2.keys,x=a:=λx hx=>(f2.old x hx).elim (o1 x) id;have o3:∀x∈s3.keys,x=a\/x=b:=λx hx=>(f3.old x hx).imp (o2 x) id;have Xv:s1.keys.length=1:=l1;have Xw:s2.keys.length=1:=by omega
 rw[← e3,bz.2 (λe=>iU (o2 b e)),decide_eq_false (by omega)] at l3;have Xx:s3.keys.length=2:=by rw[l3,if_neg (by decide)];omega
 have hc:c∉s3.keys:=λe=>(o3 c e).elim VY Bk;rw[← e4,decide_eq_true (by omega),Bool.or_true,if_pos rfl] at l4;have d4:=G5 h4
 have n4:s4.keys.isEmpty=false:=by
  rw[List.isEmpty_eq_false_iff];exact List.ne_nil_of_mem f4.has
 have a4:s4.any=true:=by rw[d4.VH,n4];rfl
 refine⟨xF h0 (by omega) (by rw[k0];simp) (by rw[k0,m0];simp),Ax h1 (by omega) f1.has,?_,by omega,aX.2 f4.has,a4,aX.2 (d4.dW a4),m4⟩;rw[f4.Dg,bz.2 hc,decide_eq_true (by omega)];rfl
end aN
end
namespace AR
open Go.RowKit Sg
theorem Kt(w:zw)(i:Ix)(S:Sx)(mo p:Nat)(R:aW)(b:Nat)(r:Raw w i S mo p R b):Calls prog 243 #[.pointer (some ⟨i.c,0,none⟩)] w (jb (.tuple #[.string (ah (R (lv R p false))),.bool (bb (R (lv R p false)))]) w):=by
 have C:=zs (∀w1,Below w.heap.size w w1->w1.cell? ⟨i.c,2,none⟩=some (.pointer (some ⟨i.r 0,0,none⟩))/\w1.cell? ⟨i.c,3,none⟩=some (.pointer (some ⟨i.r 1,0,none⟩))) (λw1 h=>⟨(r.below h).cells.2.2.1,(r.below h).cells.2.2.2.1⟩);obtain⟨_,_,c2,c3,_⟩:=r.cells;have U:=tR w.drew i S mo p R b (r.below (av w 1)) false;have V:=λ(w1:zw) (h:Below w.heap.size w w1) (k:Nat) (hk:k < 4)=>vO w1 (i.r k) (S k) (R k) b ((r.below h).ls k hk);have BD:=zs (∀w1,Below w.drew.heap.size w.drew w1->Below w.heap.size w w1) (λw1 h=>(av w 1).trans h);rcases fq R p false with hl|hl
 . rw[hl] at U|-;have U:=zs (Calls prog 247 #[.pointer (some ⟨i.c,0,none⟩),.bool false] w.drew (jb (.int .i64 0) w.drew)) U;have V:=J (λw1 h=>V w1 h 0 (by omega));generalize ah (R 0)=x at*;generalize bb (R 0)=q at*;clear r hl;go_enter func243,ntmps243;go_wp2_with fail
   go_region_held3(λw'=>w'.cell? ⟨i.c,2,none⟩=some (.pointer (some ⟨i.r 0,0,none⟩))/\w'.cell? ⟨i.c,3,none⟩=some (.pointer (some ⟨i.r 1,0,none⟩))) (first|(with_reducible exact⟨y2,y3⟩)|(with_reducible exact⟨c2,c3⟩)|go_keep)
    (first
      |(go_at_call 247;refine U.out.mono ?_;rintro e w1 ⟨rfl,dh⟩;obtain⟨y2,y3⟩:=C.out w1 (BD.out w1 dh);have B1:=J (BD.out w1 dh);clear dh U)
      |(go_at_call 153;refine(V.out w1 B1.out).mono ?_;rintro e w2 ⟨rfl,rfl⟩;clear V))
   go_wp2_with fail
   go_ret2
   exact⟨rfl,B1.out⟩
 . rw[hl] at U|-;have U:=zs (Calls prog 247 #[.pointer (some ⟨i.c,0,none⟩),.bool false] w.drew (jb (.int .i64 1) w.drew)) U;have V:=J (λw1 h=>V w1 h 1 (by omega));generalize ah (R 1)=x at*;generalize bb (R 1)=q at*;clear r hl;go_enter func243,ntmps243;go_wp2_with fail
   go_region_held3(λw'=>w'.cell? ⟨i.c,2,none⟩=some (.pointer (some ⟨i.r 0,0,none⟩))/\w'.cell? ⟨i.c,3,none⟩=some (.pointer (some ⟨i.r 1,0,none⟩))) (first|(with_reducible exact⟨y2,y3⟩)|(with_reducible exact⟨c2,c3⟩)|go_keep)
    (first
      |(go_at_call 247;refine U.out.mono ?_;rintro e w1 ⟨rfl,dh⟩;obtain⟨y2,y3⟩:=C.out w1 (BD.out w1 dh);have B1:=J (BD.out w1 dh);clear dh U)
      |(go_at_call 153;refine(V.out w1 B1.out).mono ?_;rintro e w2 ⟨rfl,rfl⟩;clear V))
   go_wp2_with fail
   go_ret2
   exact⟨rfl,B1.out⟩
theorem iy(w:zw)(c:Nat)(T:Nat->Prop)(s:St)(b:Nat)(h:Ca w c T s b):Calls prog 243 #[.pointer (some ⟨c,0,none⟩)] w (jb (.tuple #[.string (ah (s.R (lv s.R s.p false))),.bool (bb (s.R (lv s.R s.p false)))]) w):=by
 obtain⟨i,S,rfl,rfl,hR,hp⟩:=h;exact Kt w i S _ _ _ b hR
end AR
section
open Go.RowKit Sg
def mF:Nat->Nat|0=>142|3=>221|4=>243|_=>168
theorem Hg(w:zw)(c:Nat)(T:Nat->Prop)(st:aN)(b:Nat)(h:iM w c T st b):Calls prog (mF st.kind) #[.pointer (some ⟨c,0,none⟩)] w (Told (.tuple #[.string st.dW,.bool st.any]) w):=by
 cases st with
 |lr mo ks=>exact(LR.iy w c T mo ks b h).mono λe w' q=>iN q
 |lf ch mo n L=>
  have:=LF.iy w c T mo ch L n h.1;cases ch <;> exact this
 |sr s=>exact(SR.iy w c T s b h).mono λe w' q=>iN q
 |ar s=>exact AR.iy w c T s b h
end
section
open Go.RowKit Sg
def tC:Nat->Nat|0=>143|3=>147|4=>149|_=>145
def cI(kind c:Nat):Value:= .iface (tC kind) (.pointer (some ⟨c,0,none⟩))
def mV(kind c:Nat)(n:String):Value:= .func (.method n) #[cI kind c] #[]
theorem aE{P:Program}{f:FuncId}{fn:Func}{c:Code}(hf:P.funcs[f]?=some fn)(Qq:(fn.name== "runtime.NumGoroutine" )=false)(hb:fn.body=some c)(args:Array Value)(w:zw):
 (callFunc f args).run P w= .ok (.enter f args) w:=by
 have h1:fn.name≠ "runtime.NumGoroutine" :=by simpa using Qq
 simp[callFunc,hf,h1,hb]
theorem Qr{k:Nat}(hk:k < 5)(args:Array Value)(w:zw):(callFunc (wy k) args).run prog w= .ok (.enter (wy k) args) w:=by
 rcases k with _|_|_|_|_|k
 . exact aE func136 (by kernel_rfl) rfl args w
 . exact aE func162 (by kernel_rfl) rfl args w
 . exact aE func162 (by kernel_rfl) rfl args w
 . exact aE func215 (by kernel_rfl) rfl args w
 . exact aE func237 (by kernel_rfl) rfl args w
 . omega
theorem Qs{k:Nat}(hk:k < 5)(p:Addr)(w:zw):(Go.method 415 (tC k) (.pointer (some p)) "Has" ).run prog w= .ok (wy k,.pointer (some p)) w:=by
 rcases k with _|_|_|_|_|k
 . show(Go.method 415 143 (.pointer (some p)) "Has" ).run prog w= .ok (136,.pointer (some p)) w;kernel_rfl
 . show(Go.method 415 145 (.pointer (some p)) "Has" ).run prog w= .ok (162,.pointer (some p)) w;kernel_rfl
 . show(Go.method 415 145 (.pointer (some p)) "Has" ).run prog w= .ok (162,.pointer (some p)) w;kernel_rfl
 . show(Go.method 415 147 (.pointer (some p)) "Has" ).run prog w= .ok (215,.pointer (some p)) w;kernel_rfl
 . show(Go.method 415 149 (.pointer (some p)) "Has" ).run prog w= .ok (237,.pointer (some p)) w;kernel_rfl
 . omega
theorem Qu{k:Nat}(hk:k < 5)(p:Addr)(w:zw):(Go.nilAhead 415 (tC k) (.pointer (some p)) "Has" ).run prog w= .ok (some false) w:=by
 rcases k with _|_|_|_|_|k
 . show(Go.nilAhead 415 143 (.pointer (some p)) "Has" ).run prog w= .ok (some false) w;kernel_rfl
 . show(Go.nilAhead 415 145 (.pointer (some p)) "Has" ).run prog w= .ok (some false) w;kernel_rfl
 . show(Go.nilAhead 415 145 (.pointer (some p)) "Has" ).run prog w= .ok (some false) w;kernel_rfl
 . show(Go.nilAhead 415 147 (.pointer (some p)) "Has" ).run prog w= .ok (some false) w;kernel_rfl
 . show(Go.nilAhead 415 149 (.pointer (some p)) "Has" ).run prog w= .ok (some false) w;kernel_rfl
 . omega
theorem Qv{k:Nat}(hk:k < 5)(args:Array Value)(w:zw):(callFunc (wz k) args).run prog w= .ok (.enter (wz k) args) w:=by
 rcases k with _|_|_|_|_|k
 . exact aE func138 (by kernel_rfl) rfl args w
 . exact aE func164 (by kernel_rfl) rfl args w
 . exact aE func164 (by kernel_rfl) rfl args w
 . exact aE func217 (by kernel_rfl) rfl args w
 . exact aE func239 (by kernel_rfl) rfl args w
 . omega
theorem Qw{k:Nat}(hk:k < 5)(p:Addr)(w:zw):(Go.method 415 (tC k) (.pointer (some p)) "Len" ).run prog w= .ok (wz k,.pointer (some p)) w:=by
 rcases k with _|_|_|_|_|k
 . show(Go.method 415 143 (.pointer (some p)) "Len" ).run prog w= .ok (138,.pointer (some p)) w;kernel_rfl
 . show(Go.method 415 145 (.pointer (some p)) "Len" ).run prog w= .ok (164,.pointer (some p)) w;kernel_rfl
 . show(Go.method 415 145 (.pointer (some p)) "Len" ).run prog w= .ok (164,.pointer (some p)) w;kernel_rfl
 . show(Go.method 415 147 (.pointer (some p)) "Len" ).run prog w= .ok (217,.pointer (some p)) w;kernel_rfl
 . show(Go.method 415 149 (.pointer (some p)) "Len" ).run prog w= .ok (239,.pointer (some p)) w;kernel_rfl
 . omega
theorem Qx{k:Nat}(hk:k < 5)(p:Addr)(w:zw):(Go.nilAhead 415 (tC k) (.pointer (some p)) "Len" ).run prog w= .ok (some false) w:=by
 rcases k with _|_|_|_|_|k
 . show(Go.nilAhead 415 143 (.pointer (some p)) "Len" ).run prog w= .ok (some false) w;kernel_rfl
 . show(Go.nilAhead 415 145 (.pointer (some p)) "Len" ).run prog w= .ok (some false) w;kernel_rfl
 . show(Go.nilAhead 415 145 (.pointer (some p)) "Len" ).run prog w= .ok (some false) w;kernel_rfl
 . show(Go.nilAhead 415 147 (.pointer (some p)) "Len" ).run prog w= .ok (some false) w;kernel_rfl
 . show(Go.nilAhead 415 149 (.pointer (some p)) "Len" ).run prog w= .ok (some false) w;kernel_rfl
 . omega
theorem Fm{k:Nat}(hk:k < 5)(args:Array Value)(w:zw):(callFunc (kJ k) args).run prog w= .ok (.enter (kJ k) args) w:=by
 rcases k with _|_|_|_|_|k
 . exact aE func140 (by kernel_rfl) rfl args w
 . exact aE func166 (by kernel_rfl) rfl args w
 . exact aE func166 (by kernel_rfl) rfl args w
 . exact aE func219 (by kernel_rfl) rfl args w
 . exact aE func241 (by kernel_rfl) rfl args w
 . omega
theorem Fo{k:Nat}(hk:k < 5)(p:Addr)(w:zw):(Go.method 415 (tC k) (.pointer (some p)) "Request" ).run prog w= .ok (kJ k,.pointer (some p)) w:=by
 rcases k with _|_|_|_|_|k
 . show(Go.method 415 143 (.pointer (some p)) "Request" ).run prog w= .ok (140,.pointer (some p)) w;kernel_rfl
 . show(Go.method 415 145 (.pointer (some p)) "Request" ).run prog w= .ok (166,.pointer (some p)) w;kernel_rfl
 . show(Go.method 415 145 (.pointer (some p)) "Request" ).run prog w= .ok (166,.pointer (some p)) w;kernel_rfl
 . show(Go.method 415 147 (.pointer (some p)) "Request" ).run prog w= .ok (219,.pointer (some p)) w;kernel_rfl
 . show(Go.method 415 149 (.pointer (some p)) "Request" ).run prog w= .ok (241,.pointer (some p)) w;kernel_rfl
 . omega
theorem Fp{k:Nat}(hk:k < 5)(p:Addr)(w:zw):(Go.nilAhead 415 (tC k) (.pointer (some p)) "Request" ).run prog w= .ok (some false) w:=by
 rcases k with _|_|_|_|_|k
 . show(Go.nilAhead 415 143 (.pointer (some p)) "Request" ).run prog w= .ok (some false) w;kernel_rfl
 . show(Go.nilAhead 415 145 (.pointer (some p)) "Request" ).run prog w= .ok (some false) w;kernel_rfl
 . show(Go.nilAhead 415 145 (.pointer (some p)) "Request" ).run prog w= .ok (some false) w;kernel_rfl
 . show(Go.nilAhead 415 147 (.pointer (some p)) "Request" ).run prog w= .ok (some false) w;kernel_rfl
 . show(Go.nilAhead 415 149 (.pointer (some p)) "Request" ).run prog w= .ok (some false) w;kernel_rfl
 . omega
theorem Hh{k:Nat}(hk:k < 5)(args:Array Value)(w:zw):(callFunc (my k) args).run prog w= .ok (.enter (my k) args) w:=by
 rcases k with _|_|_|_|_|k
 . exact aE func139 (by kernel_rfl) rfl args w
 . exact aE func165 (by kernel_rfl) rfl args w
 . exact aE func165 (by kernel_rfl) rfl args w
 . exact aE func218 (by kernel_rfl) rfl args w
 . exact aE func240 (by kernel_rfl) rfl args w
 . omega
theorem Hj{k:Nat}(hk:k < 5)(p:Addr)(w:zw):(Go.method 415 (tC k) (.pointer (some p)) "Remove" ).run prog w= .ok (my k,.pointer (some p)) w:=by
 rcases k with _|_|_|_|_|k
 . show(Go.method 415 143 (.pointer (some p)) "Remove" ).run prog w= .ok (139,.pointer (some p)) w;kernel_rfl
 . show(Go.method 415 145 (.pointer (some p)) "Remove" ).run prog w= .ok (165,.pointer (some p)) w;kernel_rfl
 . show(Go.method 415 145 (.pointer (some p)) "Remove" ).run prog w= .ok (165,.pointer (some p)) w;kernel_rfl
 . show(Go.method 415 147 (.pointer (some p)) "Remove" ).run prog w= .ok (218,.pointer (some p)) w;kernel_rfl
 . show(Go.method 415 149 (.pointer (some p)) "Remove" ).run prog w= .ok (240,.pointer (some p)) w;kernel_rfl
 . omega
theorem Hk{k:Nat}(hk:k < 5)(p:Addr)(w:zw):(Go.nilAhead 415 (tC k) (.pointer (some p)) "Remove" ).run prog w= .ok (some false) w:=by
 rcases k with _|_|_|_|_|k
 . show(Go.nilAhead 415 143 (.pointer (some p)) "Remove" ).run prog w= .ok (some false) w;kernel_rfl
 . show(Go.nilAhead 415 145 (.pointer (some p)) "Remove" ).run prog w= .ok (some false) w;kernel_rfl
 . show(Go.nilAhead 415 145 (.pointer (some p)) "Remove" ).run prog w= .ok (some false) w;kernel_rfl
 . show(Go.nilAhead 415 147 (.pointer (some p)) "Remove" ).run prog w= .ok (some false) w;kernel_rfl
 . show(Go.nilAhead 415 149 (.pointer (some p)) "Remove" ).run prog w= .ok (some false) w;kernel_rfl
 . omega
theorem Ku{k:Nat}(hk:k < 5)(args:Array Value)(w:zw):(callFunc (ph k) args).run prog w= .ok (.enter (ph k) args) w:=by
 rcases k with _|_|_|_|_|k
 . exact aE func133 (by kernel_rfl) rfl args w
 . exact aE func159 (by kernel_rfl) rfl args w
 . exact aE func159 (by kernel_rfl) rfl args w
 . exact aE func212 (by kernel_rfl) rfl args w
 . exact aE func234 (by kernel_rfl) rfl args w
 . omega
theorem Kv{k:Nat}(hk:k < 5)(p:Addr)(w:zw):(Go.method 415 (tC k) (.pointer (some p)) "Adopt" ).run prog w= .ok (ph k,.pointer (some p)) w:=by
 rcases k with _|_|_|_|_|k
 . show(Go.method 415 143 (.pointer (some p)) "Adopt" ).run prog w= .ok (133,.pointer (some p)) w;kernel_rfl
 . show(Go.method 415 145 (.pointer (some p)) "Adopt" ).run prog w= .ok (159,.pointer (some p)) w;kernel_rfl
 . show(Go.method 415 145 (.pointer (some p)) "Adopt" ).run prog w= .ok (159,.pointer (some p)) w;kernel_rfl
 . show(Go.method 415 147 (.pointer (some p)) "Adopt" ).run prog w= .ok (212,.pointer (some p)) w;kernel_rfl
 . show(Go.method 415 149 (.pointer (some p)) "Adopt" ).run prog w= .ok (234,.pointer (some p)) w;kernel_rfl
 . omega
theorem Kw{k:Nat}(hk:k < 5)(p:Addr)(w:zw):(Go.nilAhead 415 (tC k) (.pointer (some p)) "Adopt" ).run prog w= .ok (some false) w:=by
 rcases k with _|_|_|_|_|k
 . show(Go.nilAhead 415 143 (.pointer (some p)) "Adopt" ).run prog w= .ok (some false) w;kernel_rfl
 . show(Go.nilAhead 415 145 (.pointer (some p)) "Adopt" ).run prog w= .ok (some false) w;kernel_rfl
 . show(Go.nilAhead 415 145 (.pointer (some p)) "Adopt" ).run prog w= .ok (some false) w;kernel_rfl
 . show(Go.nilAhead 415 147 (.pointer (some p)) "Adopt" ).run prog w= .ok (some false) w;kernel_rfl
 . show(Go.nilAhead 415 149 (.pointer (some p)) "Adopt" ).run prog w= .ok (some false) w;kernel_rfl
 . omega
theorem Hl{k:Nat}(hk:k < 5)(args:Array Value)(w:zw):(callFunc (mF k) args).run prog w= .ok (.enter (mF k) args) w:=by
 rcases k with _|_|_|_|_|k
 . exact aE func142 (by kernel_rfl) rfl args w
 . exact aE func168 (by kernel_rfl) rfl args w
 . exact aE func168 (by kernel_rfl) rfl args w
 . exact aE func221 (by kernel_rfl) rfl args w
 . exact aE func243 (by kernel_rfl) rfl args w
 . omega
theorem Hm{k:Nat}(hk:k < 5)(p:Addr)(w:zw):(Go.method 415 (tC k) (.pointer (some p)) "Victim" ).run prog w= .ok (mF k,.pointer (some p)) w:=by
 rcases k with _|_|_|_|_|k
 . show(Go.method 415 143 (.pointer (some p)) "Victim" ).run prog w= .ok (142,.pointer (some p)) w;kernel_rfl
 . show(Go.method 415 145 (.pointer (some p)) "Victim" ).run prog w= .ok (168,.pointer (some p)) w;kernel_rfl
 . show(Go.method 415 145 (.pointer (some p)) "Victim" ).run prog w= .ok (168,.pointer (some p)) w;kernel_rfl
 . show(Go.method 415 147 (.pointer (some p)) "Victim" ).run prog w= .ok (221,.pointer (some p)) w;kernel_rfl
 . show(Go.method 415 149 (.pointer (some p)) "Victim" ).run prog w= .ok (243,.pointer (some p)) w;kernel_rfl
 . omega
theorem Hn{k:Nat}(hk:k < 5)(p:Addr)(w:zw):(Go.nilAhead 415 (tC k) (.pointer (some p)) "Victim" ).run prog w= .ok (some false) w:=by
 rcases k with _|_|_|_|_|k
 . show(Go.nilAhead 415 143 (.pointer (some p)) "Victim" ).run prog w= .ok (some false) w;kernel_rfl
 . show(Go.nilAhead 415 145 (.pointer (some p)) "Victim" ).run prog w= .ok (some false) w;kernel_rfl
 . show(Go.nilAhead 415 145 (.pointer (some p)) "Victim" ).run prog w= .ok (some false) w;kernel_rfl
 . show(Go.nilAhead 415 147 (.pointer (some p)) "Victim" ).run prog w= .ok (some false) w;kernel_rfl
 . show(Go.nilAhead 415 149 (.pointer (some p)) "Victim" ).run prog w= .ok (some false) w;kernel_rfl
 . omega
theorem Oo{k:Nat}(hk:k < 5)(args:Array Value)(w:zw):(callFunc (so k) args).run prog w= .ok (.enter (so k) args) w:=by
 rcases k with _|_|_|_|_|k
 . exact aE func134 (by kernel_rfl) rfl args w
 . exact aE func160 (by kernel_rfl) rfl args w
 . exact aE func160 (by kernel_rfl) rfl args w
 . exact aE func213 (by kernel_rfl) rfl args w
 . exact aE func235 (by kernel_rfl) rfl args w
 . omega
theorem Oq{k:Nat}(hk:k < 5)(p:Addr)(w:zw):(Go.method 415 (tC k) (.pointer (some p)) "Drop" ).run prog w= .ok (so k,.pointer (some p)) w:=by
 rcases k with _|_|_|_|_|k
 . show(Go.method 415 143 (.pointer (some p)) "Drop" ).run prog w= .ok (134,.pointer (some p)) w;kernel_rfl
 . show(Go.method 415 145 (.pointer (some p)) "Drop" ).run prog w= .ok (160,.pointer (some p)) w;kernel_rfl
 . show(Go.method 415 145 (.pointer (some p)) "Drop" ).run prog w= .ok (160,.pointer (some p)) w;kernel_rfl
 . show(Go.method 415 147 (.pointer (some p)) "Drop" ).run prog w= .ok (213,.pointer (some p)) w;kernel_rfl
 . show(Go.method 415 149 (.pointer (some p)) "Drop" ).run prog w= .ok (235,.pointer (some p)) w;kernel_rfl
 . omega
theorem Ot{k:Nat}(hk:k < 5)(p:Addr)(w:zw):(Go.nilAhead 415 (tC k) (.pointer (some p)) "Drop" ).run prog w= .ok (some false) w:=by
 rcases k with _|_|_|_|_|k
 . show(Go.nilAhead 415 143 (.pointer (some p)) "Drop" ).run prog w= .ok (some false) w;kernel_rfl
 . show(Go.nilAhead 415 145 (.pointer (some p)) "Drop" ).run prog w= .ok (some false) w;kernel_rfl
 . show(Go.nilAhead 415 145 (.pointer (some p)) "Drop" ).run prog w= .ok (some false) w;kernel_rfl
 . show(Go.nilAhead 415 147 (.pointer (some p)) "Drop" ).run prog w= .ok (some false) w;kernel_rfl
 . show(Go.nilAhead 415 149 (.pointer (some p)) "Drop" ).run prog w= .ok (some false) w;kernel_rfl
 . omega
theorem Ho{k:Nat}(hk:k < 5)(args:Array Value)(w:zw):(callFunc (mz k) args).run prog w= .ok (.enter (mz k) args) w:=by
 rcases k with _|_|_|_|_|k
 . exact aE func141 (by kernel_rfl) rfl args w
 . exact aE func167 (by kernel_rfl) rfl args w
 . exact aE func167 (by kernel_rfl) rfl args w
 . exact aE func220 (by kernel_rfl) rfl args w
 . exact aE func242 (by kernel_rfl) rfl args w
 . omega
theorem Hq{k:Nat}(hk:k < 5)(p:Addr)(w:zw):(Go.method 415 (tC k) (.pointer (some p)) "Resize" ).run prog w= .ok (mz k,.pointer (some p)) w:=by
 rcases k with _|_|_|_|_|k
 . show(Go.method 415 143 (.pointer (some p)) "Resize" ).run prog w= .ok (141,.pointer (some p)) w;kernel_rfl
 . show(Go.method 415 145 (.pointer (some p)) "Resize" ).run prog w= .ok (167,.pointer (some p)) w;kernel_rfl
 . show(Go.method 415 145 (.pointer (some p)) "Resize" ).run prog w= .ok (167,.pointer (some p)) w;kernel_rfl
 . show(Go.method 415 147 (.pointer (some p)) "Resize" ).run prog w= .ok (220,.pointer (some p)) w;kernel_rfl
 . show(Go.method 415 149 (.pointer (some p)) "Resize" ).run prog w= .ok (242,.pointer (some p)) w;kernel_rfl
 . omega
theorem Hr{k:Nat}(hk:k < 5)(p:Addr)(w:zw):(Go.nilAhead 415 (tC k) (.pointer (some p)) "Resize" ).run prog w= .ok (some false) w:=by
 rcases k with _|_|_|_|_|k
 . show(Go.nilAhead 415 143 (.pointer (some p)) "Resize" ).run prog w= .ok (some false) w;kernel_rfl
 . show(Go.nilAhead 415 145 (.pointer (some p)) "Resize" ).run prog w= .ok (some false) w;kernel_rfl
 . show(Go.nilAhead 415 145 (.pointer (some p)) "Resize" ).run prog w= .ok (some false) w;kernel_rfl
 . show(Go.nilAhead 415 147 (.pointer (some p)) "Resize" ).run prog w= .ok (some false) w;kernel_rfl
 . show(Go.nilAhead 415 149 (.pointer (some p)) "Resize" ).run prog w= .ok (some false) w;kernel_rfl
 . omega
theorem Ou{k:Nat}(hk:k < 5)(args:Array Value)(w:zw):(callFunc (sq k) args).run prog w= .ok (.enter (sq k) args) w:=by
 rcases k with _|_|_|_|_|k
 . exact aE func137 (by kernel_rfl) rfl args w
 . exact aE func163 (by kernel_rfl) rfl args w
 . exact aE func163 (by kernel_rfl) rfl args w
 . exact aE func216 (by kernel_rfl) rfl args w
 . exact aE func238 (by kernel_rfl) rfl args w
 . omega
theorem Ov{k:Nat}(hk:k < 5)(p:Addr)(w:zw):(Go.method 415 (tC k) (.pointer (some p)) "Keys" ).run prog w= .ok (sq k,.pointer (some p)) w:=by
 rcases k with _|_|_|_|_|k
 . show(Go.method 415 143 (.pointer (some p)) "Keys" ).run prog w= .ok (137,.pointer (some p)) w;kernel_rfl
 . show(Go.method 415 145 (.pointer (some p)) "Keys" ).run prog w= .ok (163,.pointer (some p)) w;kernel_rfl
 . show(Go.method 415 145 (.pointer (some p)) "Keys" ).run prog w= .ok (163,.pointer (some p)) w;kernel_rfl
 . show(Go.method 415 147 (.pointer (some p)) "Keys" ).run prog w= .ok (216,.pointer (some p)) w;kernel_rfl
 . show(Go.method 415 149 (.pointer (some p)) "Keys" ).run prog w= .ok (238,.pointer (some p)) w;kernel_rfl
 . omega
theorem Ow{k:Nat}(hk:k < 5)(p:Addr)(w:zw):(Go.nilAhead 415 (tC k) (.pointer (some p)) "Keys" ).run prog w= .ok (some false) w:=by
 rcases k with _|_|_|_|_|k
 . show(Go.nilAhead 415 143 (.pointer (some p)) "Keys" ).run prog w= .ok (some false) w;kernel_rfl
 . show(Go.nilAhead 415 145 (.pointer (some p)) "Keys" ).run prog w= .ok (some false) w;kernel_rfl
 . show(Go.nilAhead 415 145 (.pointer (some p)) "Keys" ).run prog w= .ok (some false) w;kernel_rfl
 . show(Go.nilAhead 415 147 (.pointer (some p)) "Keys" ).run prog w= .ok (some false) w;kernel_rfl
 . show(Go.nilAhead 415 149 (.pointer (some p)) "Keys" ).run prog w= .ok (some false) w;kernel_rfl
 . omega
theorem Hs{k:Nat}(hk:k < 5)(args:Array Value)(w:zw):(callFunc (mD k) args).run prog w= .ok (.enter (mD k) args) w:=by
 rcases k with _|_|_|_|_|k
 . exact aE func135 (by kernel_rfl) rfl args w
 . exact aE func161 (by kernel_rfl) rfl args w
 . exact aE func161 (by kernel_rfl) rfl args w
 . exact aE func214 (by kernel_rfl) rfl args w
 . exact aE func236 (by kernel_rfl) rfl args w
 . omega
theorem Hu{k:Nat}(hk:k < 5)(p:Addr)(w:zw):(Go.method 415 (tC k) (.pointer (some p)) "Ghosts" ).run prog w= .ok (mD k,.pointer (some p)) w:=by
 rcases k with _|_|_|_|_|k
 . show(Go.method 415 143 (.pointer (some p)) "Ghosts" ).run prog w= .ok (135,.pointer (some p)) w;kernel_rfl
 . show(Go.method 415 145 (.pointer (some p)) "Ghosts" ).run prog w= .ok (161,.pointer (some p)) w;kernel_rfl
 . show(Go.method 415 145 (.pointer (some p)) "Ghosts" ).run prog w= .ok (161,.pointer (some p)) w;kernel_rfl
 . show(Go.method 415 147 (.pointer (some p)) "Ghosts" ).run prog w= .ok (214,.pointer (some p)) w;kernel_rfl
 . show(Go.method 415 149 (.pointer (some p)) "Ghosts" ).run prog w= .ok (236,.pointer (some p)) w;kernel_rfl
 . omega
theorem Hv{k:Nat}(hk:k < 5)(p:Addr)(w:zw):(Go.nilAhead 415 (tC k) (.pointer (some p)) "Ghosts" ).run prog w= .ok (some false) w:=by
 rcases k with _|_|_|_|_|k
 . show(Go.nilAhead 415 143 (.pointer (some p)) "Ghosts" ).run prog w= .ok (some false) w;kernel_rfl
 . show(Go.nilAhead 415 145 (.pointer (some p)) "Ghosts" ).run prog w= .ok (some false) w;kernel_rfl
 . show(Go.nilAhead 415 145 (.pointer (some p)) "Ghosts" ).run prog w= .ok (some false) w;kernel_rfl
 . show(Go.nilAhead 415 147 (.pointer (some p)) "Ghosts" ).run prog w= .ok (some false) w;kernel_rfl
 . show(Go.nilAhead 415 149 (.pointer (some p)) "Ghosts" ).run prog w= .ok (some false) w;kernel_rfl
 . omega
end
section
open Go.RowKit Sg
def pn(kind mo c:Nat):Array Value:=#[.int .i64 (kind:Int),.int .i64 (mo:Int),mV kind c "Has" ,mV kind c "Len" ,mV kind c "Request" ,mV kind c "Remove" ,mV kind c "Adopt" ,mV kind c "Victim" ,mV kind c "Drop" ,mV kind c "Resize" ,mV kind c "Keys" ,mV kind c "Ghosts" ]
def Pc(w:zw)(p:Nat)(U:Nat->Prop)(st:aN)(b:Nat):Prop:=
 ∃c T,U=(λk=>k=p\/T k)/\iM w c T st b/\¬T p/\w.heap[p]?=some (.cells (pn st.kind st.mo c) 95 (0,0))
def iT(v:Value)(w:zw)(p:Nat)(U:Nat->Prop)(st:aN)(b:Nat)(e:Ending)(w':zw):Prop:=e= .returned v/\∃U',Pc w' p U' st b/\aJ w w' U U'
section
variable{w w':zw}{p c b b':Nat}{T U U':Nat->Prop}{st jR:aN}{v:Value}{e:Ending}
theorem po{o:Obj}(h:w.heap[p]?=some o):p < w.heap.size:=(Array.getElem?_eq_some_iff.1 h).1
theorem Pc.lt(h:Pc w p U st b){k:Nat}(hk:U k):k < w.heap.size:=by
 obtain⟨c,T,rfl,hc,hn,hb⟩:=h;rcases hk with rfl|hk
 . exact po hb
 . exact hc.lt hk
theorem Pc.below(h:Pc w p U st b)(hb:Below w.heap.size w w'):Pc w' p U st b:=by
 obtain⟨c,T,rfl,hc,hn,hx⟩:=h;exact⟨c,T,rfl,hc.below hb,hn,(hb.block p (po hx)).trans hx⟩
theorem Pc.ok(h:Pc w p U st b):st.Ok:=by obtain⟨c,T,rfl,hc,_⟩:=h;exact hc.ok
theorem Pc.small(h:Pc w p U st b):∀x∈st.keys,x.size<=maxLen:=by obtain⟨c,T,rfl,hc,_⟩:=h;exact hc.small
theorem gO.Jy(h:gO v w c T jR b' e w')(hx:w.heap[p]?=some (.cells (pn st.kind st.mo c) 95 (0,0)))(hn:¬T p)(hk:jR.kind=st.kind)(hm:jR.mo=st.mo):
 iT v w p (λk=>k=p\/T k) jR b' e w':=by
 obtain⟨he,T',hc,hW⟩:=h;have hl:=po hx;refine⟨he,λk=>k=p\/T' k,⟨c,T',rfl,hc,λht=>?_,?_⟩,λk hk=>?_,?_⟩
 . rcases hW.new p ht with h|h
   . exact hn h
   . omega
 . rw[hk,hm];exact(hW.a8.block p hl hn).trans hx
 . rcases hk with rfl|hk
   . exact xz (xz rfl)
   . exact(hW.new k hk).imp ja id
 . have t:=hW.a8;exact⟨t.os,t.tape,t.output,t.size,λk hk hu=>t.block k hk λht=>hu (ja ht)⟩
theorem Pc.beside(h:Pc w p U st b){X:Nat->Prop}(ht:ao X w w')(hx:∀k,U k->¬X k):Pc w' p U st b:=by
 obtain⟨c,T,rfl,hc,hn,hb⟩:=h;refine⟨c,T,rfl,?_,hn,(ht.block p (po hb) (hx p (xz rfl))).trans hb⟩;have hd:∀k,T k->¬X k:=λk hk=>hx k (ja hk);cases st with
 |lr mo ks=>exact LR.Ca.kept hc ht hd
 |lf ch mo n L=>exact⟨LF.Ca.kept hc.1 ⟨ht.os,ht.tape,ht.output,ht.size,ht.block⟩ hd,hc.2⟩
 |sr s=>exact SR.Ca.beside hc ht hd
 |ar s=>exact AR.Ca.beside hc ht hd
end
structure fW(w0 w:zw)(p:Nat)(U:Nat->Prop)(st:aN)(b:Nat):Prop where
 ca:Pc w p U st b
 az:Below w0.heap.size w0 w
 low:∀k,U k->w0.heap.size<=k
section
variable{w0 w w':zw}{p b b':Nat}{U U':Nat->Prop}{st jR:aN}{xs:zY}{r v:Value}{e:Ending}
theorem fW.below(l:fW w0 w p U st b)(hb:Below w.heap.size w w'):fW w0 w' p U st b:=⟨l.ca.below hb,l.az.trans (hb.mono l.az.size),l.low⟩
theorem fW.made(jX:Below w0.heap.size w0 w)(hc:Pc w' p U st b)(hT:∀k,U k->w.heap.size<=k)(hb:Below w.heap.size w w'):fW w0 w' p U st b:=
 ⟨hc,jX.trans (hb.mono jX.size),λk hk=>zr jX.size (hT k hk)⟩
theorem fW.dS(l:fW w0 w p U st b)(hc:Pc w' p U' jR b')(hW:aJ w w' U U'):fW w0 w' p U' jR b':=by
 have bW:=l.az.size;exact⟨hc,l.az.trans (hW.a8.below l.low bW),λk hk=>by rcases hW.new k hk with h|h;exact l.low k h;omega⟩
theorem fW.op(l:fW w0 w p U st b)(hp:iT r w p U jR b' e w'):e= .returned r/\∃U',fW w0 w' p U' jR b'/\aJ w w' U U':=by
 obtain⟨he,U',h1,h2⟩:=hp;exact⟨he,U',l.dS h1 h2,h2⟩
theorem fW.lt(l:fW w0 w p U st b):∀k,U k->k < w.heap.size:=λ_ hk=>l.ca.lt hk
end
end
section
open Go.RowKit Sg
def vi(w:zw)(s:zy)(n:Int)(v:Value):Prop:=
 ∃g,v= .iface 85 (.pointer (some ⟨g,0,none⟩))/\g < w.heap.size/\w.heap[g]?=some (.cells #[.string s,.string ⟨#[]⟩,.iface 86 (.int .i64 n)] 88 (0,0))
theorem vi.below{w w':zw}{s:zy}{n:Int}{v:Value}(h:vi w s n v)(hb:Below w.heap.size w w'):vi w' s n v:=by
 obtain⟨g,rfl,hg,hx⟩:=h;exact⟨g,rfl,xd hg hb.size,(hb.block g hg).trans hx⟩
theorem vi.xZ{w:zw}{s:zy}{n:Int}{v:Value}(h:vi w s n v)(hn:n≠0)(hl:Laid w):
 Calls prog 15 #[v,.string s,.string ⟨#[]⟩,.int .i64 n] w (λe w'=>e= .returned (.bool true)/\Below w.heap.size w w'):=by
 obtain⟨g,rfl,hg,hx⟩:=h;exact Dr g s ⟨#[]⟩ n hn w hl hg (cell_of_row w _ 0 _ _ _ hx) (cell_of_row w _ 1 _ _ _ hx) (cell_of_row w _ 2 _ _ _ hx)
theorem l9(w:zw)(z:Int):Calls prog 42 #[.int .i64 z] w (λe w'=>e= .returned (.bool (decide (0<=z)&&decide (z<=16777216)))/\w=w'):=by
 go_enter func42,ntmps42
 by_cases h0:0<=z
 . by_cases h1:z<=16777216
   . rw[decide_eq_true h0,decide_eq_true h1];go_wp2_with fail
     go_ret;exact⟨rfl,rfl⟩
   . rw[decide_eq_true h0,decide_eq_false h1];go_wp2_with fail
     go_ret;exact⟨rfl,rfl⟩
 . rw[decide_eq_false h0];go_wp2_with fail
   go_ret;exact⟨rfl,rfl⟩
end
section
open Go.RowKit Sg
theorem aN.hJ(st:aN):st.kind < 5:=by
 cases st with
 |lf ch _ _ _=>
  cases ch with
  |false=>exact(by decide:(1:Nat) < 5)
  |true=>exact(by decide:(2:Nat) < 5)
 |lr _ _=>exact(by decide:(0:Nat) < 5)
 |sr _=>exact(by decide:(3:Nat) < 5)
 |ar _=>exact(by decide:(4:Nat) < 5)
theorem Qy{k:Nat}(hk:k < 5)(w:zw)(p c:Nat)(key:zy)(Q:Value->zw->Prop)(h2:w.cell? ⟨p,2,none⟩=some (mV k c "Has" ))(U:Calls prog (wy k) #[.pointer (some ⟨c,0,none⟩),.string key] w (λe w'=>∃v,e= .returned v/\Q v w')):
 Calls prog 33 #[.pointer (some ⟨p,0,none⟩),.string key] w (λe w'=>∃v,e= .returned v/\Q v w'):=by
 have me:=Qs hk ⟨c,0,none⟩;have na:=Qu hk ⟨c,0,none⟩;have cf:=Qr hk;have U:=J U;unfold mV cI at h2;generalize wy k=fn at*;generalize tC k=tn at*;clear hk;go_enter func33,ntmps33;go_wp2_with fail
 refine U.out.mono ?_;rintro e w1 ⟨v,rfl,hQ⟩;go_wp2_with fail
 go_ret;exact⟨v,rfl,hQ⟩
theorem Qz{k:Nat}(hk:k < 5)(w:zw)(p c:Nat)(Q:Value->zw->Prop)(h2:w.cell? ⟨p,3,none⟩=some (mV k c "Len" ))(U:Calls prog (wz k) #[.pointer (some ⟨c,0,none⟩)] w (λe w'=>∃v,e= .returned v/\Q v w')):
 Calls prog 32 #[.pointer (some ⟨p,0,none⟩)] w (λe w'=>∃v,e= .returned v/\Q v w'):=by
 have me:=Qw hk ⟨c,0,none⟩;have na:=Qx hk ⟨c,0,none⟩;have cf:=Qv hk;have U:=J U;unfold mV cI at h2;generalize wz k=fn at*;generalize tC k=tn at*;clear hk;go_enter func32,ntmps32;go_wp2_with fail
 refine U.out.mono ?_;rintro e w1 ⟨v,rfl,hQ⟩;go_wp2_with fail
 go_ret;exact⟨v,rfl,hQ⟩
theorem Hw{k:Nat}(hk:k < 5)(w:zw)(p c:Nat)(key:zy)(Q:Value->zw->Prop)(h2:w.cell? ⟨p,5,none⟩=some (mV k c "Remove" ))(U:Calls prog (my k) #[.pointer (some ⟨c,0,none⟩),.string key] w (λe w'=>∃v,e= .returned v/\Q v w')):
 Calls prog 18 #[.pointer (some ⟨p,0,none⟩),.string key] w (λe w'=>∃v,e= .returned v/\Q v w'):=by
 have me:=Hj hk ⟨c,0,none⟩;have na:=Hk hk ⟨c,0,none⟩;have cf:=Hh hk;have U:=J U;unfold mV cI at h2;generalize my k=fn at*;generalize tC k=tn at*;clear hk;go_enter func18,ntmps18;go_wp2_with fail
 refine U.out.mono ?_;rintro e w1 ⟨v,rfl,hQ⟩;go_wp2_with fail
 go_ret;exact⟨v,rfl,hQ⟩
theorem Kx{k:Nat}(hk:k < 5)(w:zw)(p c:Nat)(key:zy)(Q:Value->zw->Prop)(h2:w.cell? ⟨p,6,none⟩=some (mV k c "Adopt" ))(U:Calls prog (ph k) #[.pointer (some ⟨c,0,none⟩),.string key] w (λe w'=>∃v,e= .returned v/\Q v w')):
 Calls prog 22 #[.pointer (some ⟨p,0,none⟩),.string key] w (λe w'=>∃v,e= .returned v/\Q v w'):=by
 have me:=Kv hk ⟨c,0,none⟩;have na:=Kw hk ⟨c,0,none⟩;have cf:=Ku hk;have U:=J U;unfold mV cI at h2;generalize ph k=fn at*;generalize tC k=tn at*;clear hk;go_enter func22,ntmps22;go_wp2_with fail
 refine U.out.mono ?_;rintro e w1 ⟨v,rfl,hQ⟩;go_wp2_with fail
 go_ret;exact⟨v,rfl,hQ⟩
theorem Hx{k:Nat}(hk:k < 5)(w:zw)(p c:Nat)(s:zy)(o:Bool)(Q:zw->Prop)(h2:w.cell? ⟨p,7,none⟩=some (mV k c "Victim" ))(U:Calls prog (mF k) #[.pointer (some ⟨c,0,none⟩)] w (λe w'=>e= .returned (.tuple #[.string s,.bool o])/\Q w')):
 Calls prog 28 #[.pointer (some ⟨p,0,none⟩)] w (λe w'=>e= .returned (.tuple #[.string s,.bool o])/\Q w'):=by
 have me:=Hm hk ⟨c,0,none⟩;have na:=Hn hk ⟨c,0,none⟩;have cf:=Hl hk;have U:=J U;unfold mV cI at h2;generalize mF k=fn at*;generalize tC k=tn at*;clear hk;go_enter func28,ntmps28;go_wp2_with fail
 refine U.out.mono ?_;rintro e w1 ⟨rfl,hQ⟩;go_wp2_with fail
 go_ret2
 exact⟨rfl,hQ⟩
theorem Ox{k:Nat}(hk:k < 5)(w:zw)(p c:Nat)(s:zy)(o:Bool)(Q:zw->Prop)(h2:w.cell? ⟨p,8,none⟩=some (mV k c "Drop" ))(U:Calls prog (so k) #[.pointer (some ⟨c,0,none⟩)] w (λe w'=>e= .returned (.tuple #[.string s,.bool o])/\Q w')):
 Calls prog 23 #[.pointer (some ⟨p,0,none⟩)] w (λe w'=>e= .returned (.tuple #[.string s,.bool o])/\Q w'):=by
 have me:=Oq hk ⟨c,0,none⟩;have na:=Ot hk ⟨c,0,none⟩;have cf:=Oo hk;have U:=J U;unfold mV cI at h2;generalize so k=fn at*;generalize tC k=tn at*;clear hk;go_enter func23,ntmps23;go_wp2_with fail
 refine U.out.mono ?_;rintro e w1 ⟨rfl,hQ⟩;go_wp2_with fail
 go_ret2
 exact⟨rfl,hQ⟩
theorem Oy{k:Nat}(hk:k < 5)(w:zw)(p c:Nat)(Q:Value->zw->Prop)(h2:w.cell? ⟨p,10,none⟩=some (mV k c "Keys" ))(U:Calls prog (sq k) #[.pointer (some ⟨c,0,none⟩)] w (λe w'=>∃v,e= .returned v/\Q v w')):
 Calls prog 31 #[.pointer (some ⟨p,0,none⟩)] w (λe w'=>∃v,e= .returned v/\Q v w'):=by
 have me:=Ov hk ⟨c,0,none⟩;have na:=Ow hk ⟨c,0,none⟩;have cf:=Ou hk;have U:=J U;unfold mV cI at h2;generalize sq k=fn at*;generalize tC k=tn at*;clear hk;go_enter func31,ntmps31;go_wp2_with fail
 refine U.out.mono ?_;rintro e w1 ⟨v,rfl,hQ⟩;go_wp2_with fail
 go_ret;exact⟨v,rfl,hQ⟩
theorem Hy{k:Nat}(hk:k < 5)(w:zw)(p c:Nat)(Q:Value->zw->Prop)(h2:w.cell? ⟨p,11,none⟩=some (mV k c "Ghosts" ))(U:Calls prog (mD k) #[.pointer (some ⟨c,0,none⟩)] w (λe w'=>∃v,e= .returned v/\Q v w')):
 Calls prog 35 #[.pointer (some ⟨p,0,none⟩)] w (λe w'=>∃v,e= .returned v/\Q v w'):=by
 have me:=Hu hk ⟨c,0,none⟩;have na:=Hv hk ⟨c,0,none⟩;have cf:=Hs hk;have U:=J U;unfold mV cI at h2;generalize mD k=fn at*;generalize tC k=tn at*;clear hk;go_enter func35,ntmps35;go_wp2_with fail
 refine U.out.mono ?_;rintro e w1 ⟨v,rfl,hQ⟩;go_wp2_with fail
 go_ret;exact⟨v,rfl,hQ⟩
theorem Hz{k:Nat}(hk:k < 5)(w:zw)(p c:Nat)(n:Nat)(mo:Nat)(hn:n<=16777216)(Q:Value->zw->Prop)(h1:w.cell? ⟨p,1,none⟩=some (.int .i64 (mo:Int)))(f1:w.frozen? ⟨p,1,none⟩=false)
 (h2:(w.setCell ⟨p,1,none⟩ (.int .i64 (n:Int))).cell? ⟨p,9,none⟩=some (mV k c "Resize" ))
 (U:Calls prog (mz k) #[.pointer (some ⟨c,0,none⟩),.int .i64 (n:Int)] (w.setCell ⟨p,1,none⟩ (.int .i64 (n:Int))) (λe w'=>∃v,e= .returned v/\Q v w')):
 Calls prog 25 #[.pointer (some ⟨p,0,none⟩),.int .i64 (n:Int)] w (λe w'=>∃v,e= .returned (.tuple #[v,.nilIface])/\Q v w'):=by
 have V:=l9 w (n:Int);rw[decide_eq_true (by omega),decide_eq_true (by omega)] at V;have V:=J V;have me:=Hq hk ⟨c,0,none⟩;have na:=Hr hk ⟨c,0,none⟩;have cf:=Ho hk;have U:=J U;unfold mV cI at h2;generalize mz k=fn at*;generalize tC k=tn at*;clear hk;go_enter func25,ntmps25;go_wp2_with fail
 refine V.out.mono ?_;rintro e w1 ⟨rfl,rfl⟩;go_wp2_with fail
 refine U.out.mono ?_;rintro e w1 ⟨v,rfl,hQ⟩;go_wp2_with fail
 go_ret2
 exact⟨v,rfl,hQ⟩
theorem H'(w:zw)(p:Nat)(z:Int)(hz:z < 0\/16777216 < z):
 Calls prog 25 #[.pointer (some ⟨p,0,none⟩),.int .i64 z] w (λe w'=>∃v,e= .returned (.tuple #[.slice none 0 0,v])/\vi w' ⟨#[114,101,115,105,122,101]⟩ 1 v/\Below w.heap.size w w'):=by
 have V:=l9 w z
 rw[show(decide (0<=z)&&decide (z<=16777216))=false by
  rcases hz with h|h
  . rw[decide_eq_false (by omega)];rfl
  . rw[decide_eq_false (p:=z<=16777216) (by omega),Bool.and_false]] at V
 have V:=J V;clear hz;go_enter func25,ntmps25;go_wp2_with fail
 refine V.out.mono ?_;rintro e w1 ⟨rfl,rfl⟩;go_wp2_with fail
 go_ret2
 exact⟨_,rfl,⟨_,rfl,by simp,heap_alloc_new _ _⟩,(zo _ _).alloc (zg _) _⟩
end
section
open Go.RowKit Sg
section
variable(w:zw)(p:Nat)(U:Nat->Prop)(st:aN)(b:Nat)(key:zy)(h:Pc w p U st b)
include h
theorem Fq:Calls prog 38 #[.pointer (some ⟨p,0,none⟩)] w (Told (.int .i64 (st.kind:Int)) w):=by
 obtain⟨c,T,rfl,hc,hn,hb⟩:=h;have c0:=cell_of_row w _ 0 _ _ _ hb;unfold pn at c0;clear hb hc hn;go_enter func38,ntmps38;go_wp2_with fail
 go_ret;exact⟨rfl,zo _ _⟩
theorem Fs:Calls prog 37 #[.pointer (some ⟨p,0,none⟩)] w (Told (.int .i64 (st.mo:Int)) w):=by
 obtain⟨c,T,rfl,hc,hn,hb⟩:=h;have c0:=cell_of_row w _ 1 _ _ _ hb;unfold pn at c0;clear hb hc hn;go_enter func37,ntmps37;go_wp2_with fail
 go_ret;exact⟨rfl,zo _ _⟩
theorem Du(hs:key.size<=maxLen):Calls prog 33 #[.pointer (some ⟨p,0,none⟩),.string key] w (Told (.bool (st.has key)) w):=by
 obtain⟨c,T,rfl,hc,hn,hb⟩:=h;refine(Qy st.hJ w p c key (λv w'=>v= .bool (st.has key)/\Below w.heap.size w w') (cell_of_row w _ 2 _ _ _ hb) ((Qo w c T st b key hc hs).mono ?_)).mono ?_
 . rintro e w' ⟨he,hB⟩;exact⟨_,he,rfl,hB⟩
 . rintro e w' ⟨v,rfl,rfl,hB⟩;exact⟨rfl,hB⟩
theorem Jz:Calls prog 32 #[.pointer (some ⟨p,0,none⟩)] w (Told (.int .i64 (st.keys.length:Int)) w):=by
 obtain⟨c,T,rfl,hc,hn,hb⟩:=h;refine(Qz st.hJ w p c (λv w'=>v= .int .i64 (st.keys.length:Int)/\Below w.heap.size w w') (cell_of_row w _ 3 _ _ _ hb) ((Qn w c T st b hc).mono ?_)).mono ?_
 . rintro e w' ⟨he,hB⟩;exact⟨_,he,rfl,hB⟩
 . rintro e w' ⟨v,rfl,rfl,hB⟩;exact⟨rfl,hB⟩
theorem Ft:Calls prog 31 #[.pointer (some ⟨p,0,none⟩)] w (br st.keys w):=by
 obtain⟨c,T,rfl,hc,hn,hb⟩:=h;refine(Oy st.hJ w p c (λv w'=>Own w' w.heap.size v st.keys/\Below w.heap.size w w') (cell_of_row w _ 10 _ _ _ hb) ((Oc w c T st b hc).mono ?_)).mono ?_
 . rintro e w' ⟨v,he,h1,h2⟩;exact⟨v,he,h1,h2⟩
 . rintro e w' ⟨v,he,h1,h2⟩;exact⟨v,he,h1,h2⟩
theorem Ia:Calls prog 35 #[.pointer (some ⟨p,0,none⟩)] w (br st.nR w):=by
 obtain⟨c,T,rfl,hc,hn,hb⟩:=h;refine(Hy st.hJ w p c (λv w'=>Own w' w.heap.size v st.nR/\Below w.heap.size w w') (cell_of_row w _ 11 _ _ _ hb) ((Hd w c T st b hc).mono ?_)).mono ?_
 . rintro e w' ⟨v,he,h1,h2⟩;exact⟨v,he,h1,h2⟩
 . rintro e w' ⟨v,he,h1,h2⟩;exact⟨v,he,h1,h2⟩
theorem Ay:Calls prog 28 #[.pointer (some ⟨p,0,none⟩)] w (Told (.tuple #[.string st.dW,.bool st.any]) w):=by
 obtain⟨c,T,rfl,hc,hn,hb⟩:=h;exact Hx st.hJ w p c st.dW st.any (λw'=>Below w.heap.size w w') (cell_of_row w _ 7 _ _ _ hb) (Hg w c T st b hc)
theorem Oz:Calls prog 23 #[.pointer (some ⟨p,0,none⟩)] w (iT (.tuple #[.string st.dW,.bool st.any]) w p U st.dr b):=by
 obtain⟨c,T,rfl,hc,hn,hb⟩:=h;refine(Ox st.hJ w p c st.dW st.any (λw'=>∃T',iM w' c T' st.dr b/\aJ w w' T T') (cell_of_row w _ 8 _ _ _ hb) (Od w c T st b hc)).mono ?_;intro e w' q;exact gO.Jy q hb hn (aN.Ce st) (aN.Jw st)
theorem Ib(hs:key.size<=maxLen):Calls prog 18 #[.pointer (some ⟨p,0,none⟩),.string key] w (iT (.bool (st.has key)) w p U (st.rm key) b):=by
 obtain⟨c,T,rfl,hc,hn,hb⟩:=h;refine(Hw st.hJ w p c key (λv w'=>v= .bool (st.has key)/\∃T',iM w' c T' (st.rm key) b/\aJ w w' T T') (cell_of_row w _ 5 _ _ _ hb) ((He w c T st b key hc hs).mono ?_)).mono ?_
 . rintro e w' ⟨he,h1⟩;exact⟨_,he,rfl,h1⟩
 . rintro e w' ⟨v,he,rfl,h1⟩;exact gO.Jy ⟨he,h1⟩ hb hn (aN.Cc st key) (aN.Jv st key)
theorem Ky(hs:key.size<=maxLen)(hB:b<=900):Calls prog 22 #[.pointer (some ⟨p,0,none⟩),.string key] w (iT (.bool (st.bD key)) w p U (st.ad key) (b+1)):=by
 obtain⟨c,T,rfl,hc,hn,hb⟩:=h;refine(Kx st.hJ w p c key (λv w'=>v= .bool (st.bD key)/\∃T',iM w' c T' (st.ad key) (b+1)/\aJ w w' T T') (cell_of_row w _ 6 _ _ _ hb) ((Ks w c T st b key hc hs hB).mono ?_)).mono ?_
 . rintro e w' ⟨he,h1⟩;exact⟨_,he,rfl,h1⟩
 . rintro e w' ⟨v,he,rfl,h1⟩;exact gO.Jy ⟨he,h1⟩ hb hn (aN.Cd st key) (aN.xY st key)
end
end
section
open Go.RowKit Sg
abbrev ei:Obj:= .cells #[.bool false,.string ⟨#[]⟩,.bool false] 49
theorem Fu{k:Nat}(hk:k < 5)(w:zw)(p c:Nat)(key:zy)(x:Bool)(s:zy)(o:Bool)(Q:zw->Prop)(h2:(w.alloc ei).cell? ⟨p,4,none⟩=some (mV k c "Request" ))
 (U:Calls prog (kJ k) #[.pointer (some ⟨c,0,none⟩),.string key] (w.alloc ei) (λe w'=>e= .returned (.agg #[.bool x,.string s,.bool o])/\LR.aT w' w.heap.size false ⟨#[]⟩ false/\Q w')):
 Calls prog 17 #[.pointer (some ⟨p,0,none⟩),.string key] w (λe w'=>e= .returned (.agg #[.bool x,.string s,.bool o])/\
  ∃w1,Q w1/\w'=((w1.setCell ⟨w.heap.size,0,none⟩ (.bool x)).setCell ⟨w.heap.size,1,none⟩ (.string s)).setCell ⟨w.heap.size,2,none⟩ (.bool o)):=by
 have me:=Fo hk ⟨c,0,none⟩;have na:=Fp hk ⟨c,0,none⟩;have cf:=Fm hk;have U:=J U;unfold mV cI at h2;generalize kJ k=fn at*;generalize tC k=tn at*;clear hk;go_enter func17,ntmps17;go_wp2_with fail
 refine U.out.mono ?_;rintro e w1 ⟨rfl,hB,hQ⟩;have B:=J (hB.put x o s);have f0:=frozen_of_row w1 _ 0 _ _ hB;obtain⟨k0,k1,k2,f1,f2⟩:=hB.cells;clear hB;go_wp2_with fail
 refine bodyPost_ret (LR.aV rfl _ _ _ ⟨w.heap.size,0,none⟩ _ rfl (LR.bo B.out)) rfl ?_;exact⟨rfl,w1,hQ,rfl⟩
theorem Fv(W:zw)(z:Nat)(h o:Bool)(s:zy):ao (λk=>k=z) W (((W.setCell ⟨z,0,none⟩ (.bool h)).setCell ⟨z,1,none⟩ (.string s)).setCell ⟨z,2,none⟩ (.bool o)):=
 (((ao.refl (λk=>k=z) W).setCell (p:=⟨z,0,none⟩) (xz rfl) _).setCell (p:=⟨z,1,none⟩) (xz rfl) _).setCell (p:=⟨z,2,none⟩) (xz rfl) _
theorem lG(w:zw)(p:Nat)(U:Nat->Prop)(st:aN)(b:Nat)(key:zy)(h:Pc w p U st b)(hs:key.size<=maxLen)(hB:b<=900):
 Calls prog 17 #[.pointer (some ⟨p,0,none⟩),.string key] w (iT (st.step key) w p U (st.aK key) (b+1)):=by
 have jX:=(zo w.heap.size w).alloc (zg _) ei;have h':=h.below jX;have aQ:∀k,U k->k < w.heap.size:=λ_ hk=>h.lt hk;obtain⟨c,T,rfl,hc,hn,hx⟩:=h';have ib:LR.aT (w.alloc ei) w.heap.size false ⟨#[]⟩ false:=heap_alloc_new _ _;have VZ:¬T w.heap.size:=λe=>by have:=aQ _ (ja e);omega
 have bW:(w.alloc ei).heap.size=w.heap.size+1:=by simp
 refine(Fu st.hJ w p c key (st.tell key).1 (st.tell key).2.1 (st.tell key).2.2 (λw'=>∃T',iM w' c T' (st.aK key) (b+1)/\aJ (w.alloc ei) w' T T') (cell_of_row _ _ 4 _ _ _ hx) ((Fk _ c T st b key hc hs hB).mono ?_)).mono ?_
 . rintro e w' ⟨he,T',h1,h2⟩;exact⟨he,(h2.a8.block _ (by omega) VZ).trans ib,T',h1,h2⟩
 . rintro e w' ⟨he,w1,hq,rfl⟩;obtain⟨_,U',hP,hW⟩:=gO.Jy (e:= .returned (.bool true)) (v:= .bool true) ⟨rfl,hq⟩ hx hn (aN.kI st key) (aN.j7 st key);have ht:=Fv w1 w.heap.size (st.tell key).1 (st.tell key).2.2 (st.tell key).2.1;refine⟨he,U',hP.beside ht ?_,λk hk=>?_,?_⟩
   . intro k hk e;subst e;rcases hW.new _ hk with h1|h1
     . have:=aQ _ h1;omega
     . omega
   . rcases hW.new k hk with h1|h1
     . exact xz h1
     . exact ja (by omega)
   . refine((ao.cZ (S:=λk=>k=p\/T k) jX).trans hW.a8 (λ_ _ hk=>hk)).trans ht (λk hk e=>?_);omega
def OA(st:aN)(n:Nat)(w:zw)(p:Nat)(U:Nat->Prop)(b:Nat)(e:Ending)(w':zw):Prop:=
 ∃v U',e= .returned (.tuple #[v,.nilIface])/\Own w' w.heap.size v (st.gone n)/\Pc w' p U' (st.rs n) b/\aJ w w' U U'/\∀g,v.ownBlock=some g->¬U' g
theorem Ic(w:zw)(p:Nat)(U:Nat->Prop)(st:aN)(b:Nat)(n:Nat)(h:Pc w p U st b)(hB:b<=900)(Ub:n<=16777216):
 Calls prog 25 #[.pointer (some ⟨p,0,none⟩),.int .i64 (n:Int)] w (OA st n w p U b):=by
 have aQ:∀k,U k->k < w.heap.size:=λ_ hk=>h.lt hk;obtain⟨c,T,rfl,hc,hn,hx⟩:=h;have c1:=cell_of_row w _ 1 _ _ _ hx;have f1:=frozen_of_row w _ 1 _ _ hx
 have kc:(w.setCell ⟨p,1,none⟩ (.int .i64 (n:Int))).heap[p]?=some (.cells (pn st.kind n c) 95 (0,0)):=by
  rw[heap_setCell_same _ _ _ _ _ _ hx];rfl
 have ht:ao (λk=>k=p) w (w.setCell ⟨p,1,none⟩ (.int .i64 (n:Int))):=(ao.refl (λk=>k=p) w).setCell (p:=⟨p,1,none⟩) (xz rfl) _;have bW:(w.setCell ⟨p,1,none⟩ (.int .i64 (n:Int))).heap.size=w.heap.size:=by simp[World.setCell]
 have cF:iM (w.setCell ⟨p,1,none⟩ (.int .i64 (n:Int))) c T st b:=by
  have hd:∀k,T k->¬(k=p):=λk hk e=>hn (e▸hk);cases st with
  |lr mo ks=>exact LR.Ca.kept hc ht hd
  |lf ch mo n L=>exact⟨LF.Ca.kept hc.1 ⟨ht.os,ht.tape,ht.output,ht.size,ht.block⟩ hd,hc.2⟩
  |sr s=>exact SR.Ca.beside hc ht hd
  |ar s=>exact AR.Ca.beside hc ht hd
 refine(Hz st.hJ w p c n st.mo Ub (λv w'=>∃T',Own w' w.heap.size v (st.gone n)/\iM w' c T' (st.rs n) b/\aJ (w.setCell ⟨p,1,none⟩ (.int .i64 (n:Int))) w' T T'/\∀g,v.ownBlock=some g->¬T' g) c1 f1 (cell_of_row _ _ 9 _ _ _ kc) ((Hf _ c T st b cF (n:Int) (by omega) hB).mono ?_)).mono ?_
 . rintro e w' ⟨v,T',he,h1,h2,h3,h4⟩;rw[bW,Int.toNat_natCast] at h1;rw[Int.toNat_natCast] at h2;exact⟨v,he,T',h1,h2,h3,h4⟩
 . rintro e w' ⟨v,he,T',h1,h2,h3,h4⟩;have hl:=po hx
   have Lw:¬T' p:=λV8=>by
    rcases h3.new p V8 with e|e
    . exact hn e
    . rw[bW] at e;omega
   refine⟨v,λk=>k=p\/T' k,he,h1,⟨c,T',rfl,h2,Lw,?_⟩,⟨λk hk=>?_,?_⟩,λg hg hk=>?_⟩
   . rw[aN.Cf,aN.Jx];exact(h3.a8.block p (by rw[bW];exact hl) hn).trans kc
   . rcases hk with rfl|hk
     . exact xz (xz rfl)
     . rcases h3.new k hk with e|e
       . exact xz (ja e)
       . rw[bW] at e;exact ja e
   . exact(ht.wide (S':=λk=>k=p\/T k) (λ_ _ hk=>xz hk)).trans h3.a8 (λ_ _ hk=>ja hk)
   . rcases hk with rfl|hk
     . have:=(h1.lt hg).2;omega
     . exact h4 g hg hk
end
section
open Go.RowKit Sg
def OB(k c:Nat):Array Value:=#[mV k c "Has" ,mV k c "Len" ,mV k c "Request" ,mV k c "Remove" ,mV k c "Adopt" ,mV k c "Victim" ,mV k c "Drop" ,mV k c "Resize" ,mV k c "Keys" ,mV k c "Ghosts" ]
def fns(k c:Nat):Value:= .agg (OB k c)
theorem st1{P:Program}{W:zw}{b o n:Nat}{v:Value}(Fw:W.there b 0 n)(ho:o < n)(hv:v.oneCell'=true):(store ⟨b,o,none⟩ v).run P W= .ok () (W.setCell ⟨b,o,none⟩ v):=by
 rw[run_store P W _ v _ hv];have h:=Fw o ho;rw[Nat.zero_add] at h;obtain⟨h1,h2⟩:=h;cases hc:W.cell? ⟨b,o,none⟩ with
 |none=>rw[hc] at h1;cases h1
 |some x=>simp only[h2];rfl
theorem sO{W:zw}{b n:Nat}(h:W.there b 0 n)(g o:Nat)(v:Value):(W.setCell ⟨g,o,none⟩ v).there b 0 n:=World.there_setCells h g o [v]
theorem AY(w:zw)(k c:Nat):Calls prog 43 #[cI k c] w (λe w'=>e= .returned (fns k c)/\Below w.heap.size w w'):=by
 unfold fns OB mV cI;generalize tC k=t;have hx:=heap_alloc_new w (.cells #[.nilFunc,.nilFunc,.nilFunc,.nilFunc,.nilFunc,.nilFunc,.nilFunc,.nilFunc,.nilFunc,.nilFunc] 92)
 have Fw:(w.alloc (.cells #[.nilFunc,.nilFunc,.nilFunc,.nilFunc,.nilFunc,.nilFunc,.nilFunc,.nilFunc,.nilFunc,.nilFunc] 92)).drew.there w.heap.size 0 10:=λj hj=>by
  have yl:j=0\/j=1\/j=2\/j=3\/j=4\/j=5\/j=6\/j=7\/j=8\/j=9:=by omega
  refine⟨?_,?_⟩
  . show((w.alloc (.cells #[.nilFunc,.nilFunc,.nilFunc,.nilFunc,.nilFunc,.nilFunc,.nilFunc,.nilFunc,.nilFunc,.nilFunc] 92)).drew.cell? ⟨w.heap.size,0+j,none⟩).isSome=true
    rw[Nat.zero_add,show(w.alloc (.cells #[.nilFunc,.nilFunc,.nilFunc,.nilFunc,.nilFunc,.nilFunc,.nilFunc,.nilFunc,.nilFunc,.nilFunc] 92)).drew.cell? ⟨w.heap.size,j,none⟩=some .nilFunc by
     rcases yl with rfl|rfl|rfl|rfl|rfl|rfl|rfl|rfl|rfl|rfl <;> exact cell_of_row (w.alloc (.cells #[.nilFunc,.nilFunc,.nilFunc,.nilFunc,.nilFunc,.nilFunc,.nilFunc,.nilFunc,.nilFunc,.nilFunc] 92)) _ _ _ _ _ hx]
    rfl
  . have:=frozen_of_row (w.alloc (.cells #[.nilFunc,.nilFunc,.nilFunc,.nilFunc,.nilFunc,.nilFunc,.nilFunc,.nilFunc,.nilFunc,.nilFunc] 92)) w.heap.size j _ 92 hx;show(w.alloc (.cells #[.nilFunc,.nilFunc,.nilFunc,.nilFunc,.nilFunc,.nilFunc,.nilFunc,.nilFunc,.nilFunc,.nilFunc] 92)).frozen? ⟨w.heap.size,0+j,none⟩=false;rw[Nat.zero_add];exact this
 have hr:=World.rangeAt_setCells_same _ _ _ (Array.toList #[.func (.method "Has" ) #[.iface t (.pointer (some ⟨c,0,none⟩))] #[],.func (.method "Len" ) #[.iface t (.pointer (some ⟨c,0,none⟩))] #[],.func (.method "Request" ) #[.iface t (.pointer (some ⟨c,0,none⟩))] #[],.func (.method "Remove" ) #[.iface t (.pointer (some ⟨c,0,none⟩))] #[],.func (.method "Adopt" ) #[.iface t (.pointer (some ⟨c,0,none⟩))] #[],.func (.method "Victim" ) #[.iface t (.pointer (some ⟨c,0,none⟩))] #[],.func (.method "Drop" ) #[.iface t (.pointer (some ⟨c,0,none⟩))] #[],.func (.method "Resize" ) #[.iface t (.pointer (some ⟨c,0,none⟩))] #[],.func (.method "Keys" ) #[.iface t (.pointer (some ⟨c,0,none⟩))] #[],.func (.method "Ghosts" ) #[.iface t (.pointer (some ⟨c,0,none⟩))] #[]]) Fw;have hl:=run_loadVar_mid (P:=prog) _ w.heap.size 0 92 (Array.toList #[.func (.method "Has" ) #[.iface t (.pointer (some ⟨c,0,none⟩))] #[],.func (.method "Len" ) #[.iface t (.pointer (some ⟨c,0,none⟩))] #[],.func (.method "Request" ) #[.iface t (.pointer (some ⟨c,0,none⟩))] #[],.func (.method "Remove" ) #[.iface t (.pointer (some ⟨c,0,none⟩))] #[],.func (.method "Adopt" ) #[.iface t (.pointer (some ⟨c,0,none⟩))] #[],.func (.method "Victim" ) #[.iface t (.pointer (some ⟨c,0,none⟩))] #[],.func (.method "Drop" ) #[.iface t (.pointer (some ⟨c,0,none⟩))] #[],.func (.method "Resize" ) #[.iface t (.pointer (some ⟨c,0,none⟩))] #[],.func (.method "Keys" ) #[.iface t (.pointer (some ⟨c,0,none⟩))] #[],.func (.method "Ghosts" ) #[.iface t (.pointer (some ⟨c,0,none⟩))] #[]]) _ hr (show prog.underlying 92=some (.struct _) from underlying92) rfl (by kernel_rfl)
 have hb:Below w.heap.size w ((w.alloc (.cells #[.nilFunc,.nilFunc,.nilFunc,.nilFunc,.nilFunc,.nilFunc,.nilFunc,.nilFunc,.nilFunc,.nilFunc] 92)).drew.setCells w.heap.size 0 (Array.toList #[.func (.method "Has" ) #[.iface t (.pointer (some ⟨c,0,none⟩))] #[],.func (.method "Len" ) #[.iface t (.pointer (some ⟨c,0,none⟩))] #[],.func (.method "Request" ) #[.iface t (.pointer (some ⟨c,0,none⟩))] #[],.func (.method "Remove" ) #[.iface t (.pointer (some ⟨c,0,none⟩))] #[],.func (.method "Adopt" ) #[.iface t (.pointer (some ⟨c,0,none⟩))] #[],.func (.method "Victim" ) #[.iface t (.pointer (some ⟨c,0,none⟩))] #[],.func (.method "Drop" ) #[.iface t (.pointer (some ⟨c,0,none⟩))] #[],.func (.method "Resize" ) #[.iface t (.pointer (some ⟨c,0,none⟩))] #[],.func (.method "Keys" ) #[.iface t (.pointer (some ⟨c,0,none⟩))] #[],.func (.method "Ghosts" ) #[.iface t (.pointer (some ⟨c,0,none⟩))] #[]])):=by
  have key:∀(vs:List Value) (o:Nat) (w1:zw),Below w.heap.size w w1->Below w.heap.size w (w1.setCells w.heap.size o vs):=by
   intro vs
   induction vs with
   |nil=>exact λo w1 h=>h
   |cons v vs ih=>exact λo w1 h=>ih (o+1) _ (h.setCell (p:=⟨w.heap.size,o,none⟩) (zg _) v)
  exact key _ _ _ (((zo _ _).alloc (zg _) _).trans ⟨rfl,rfl,rfl,zg _,λ_ _=>rfl⟩)
 have HL:=J hl;have HB:=J hb;clear hx hr hl hb;go_enter func43,ntmps43;go_wp2_with fail
 refine wp_region_noPanic ?_;refine wp_region_held_drew (S:=λ_=>True) (by kernel_rfl) trivial (λhHeld=>?_)
 iterate 31 (refine zi 0 (v:=?_) rfl (by kernel_rfl) zq ‹_› (by intro w aO;go_simp;(try with_reducible rfl)) ?_;(try simp only[Act.put,za,zb,zc]))
 refine wpAnyH_ready (rs:=[31]) (by kernel_rfl) (by simp) ?_;refine zn rfl (λK hK=>?_);go_simp;have h0:=Fw;rw[st1 (P:=prog) h0 (show 0 < 10 by omega) rfl];simp only[Result.andThen_ok];have h1:=sO h0 w.heap.size 0 (.func (.method "Has" ) #[.iface t (.pointer (some ⟨c,0,none⟩))] #[]);rw[st1 (P:=prog) h1 (show 1 < 10 by omega) rfl];simp only[Result.andThen_ok];have h2:=sO h1 w.heap.size 1 (.func (.method "Len" ) #[.iface t (.pointer (some ⟨c,0,none⟩))] #[]);rw[st1 (P:=prog) h2 (show 2 < 10 by omega) rfl];simp only[Result.andThen_ok];have h3:=sO h2 w.heap.size 2 (.func (.method "Request" ) #[.iface t (.pointer (some ⟨c,0,none⟩))] #[]);rw[st1 (P:=prog) h3 (show 3 < 10 by omega) rfl];simp only[Result.andThen_ok];have h4:=sO h3 w.heap.size 3 (.func (.method "Remove" ) #[.iface t (.pointer (some ⟨c,0,none⟩))] #[]);rw[st1 (P:=prog) h4 (show 4 < 10 by omega) rfl];simp only[Result.andThen_ok];have h5:=sO h4 w.heap.size 4 (.func (.method "Adopt" ) #[.iface t (.pointer (some ⟨c,0,none⟩))] #[]);rw[st1 (P:=prog) h5 (show 5 < 10 by omega) rfl];simp only[Result.andThen_ok];have h6:=sO h5 w.heap.size 5 (.func (.method "Victim" ) #[.iface t (.pointer (some ⟨c,0,none⟩))] #[]);rw[st1 (P:=prog) h6 (show 6 < 10 by omega) rfl];simp only[Result.andThen_ok];have h7:=sO h6 w.heap.size 6 (.func (.method "Drop" ) #[.iface t (.pointer (some ⟨c,0,none⟩))] #[]);rw[st1 (P:=prog) h7 (show 7 < 10 by omega) rfl];simp only[Result.andThen_ok];have h8:=sO h7 w.heap.size 7 (.func (.method "Resize" ) #[.iface t (.pointer (some ⟨c,0,none⟩))] #[]);rw[st1 (P:=prog) h8 (show 8 < 10 by omega) rfl];simp only[Result.andThen_ok];have h9:=sO h8 w.heap.size 8 (.func (.method "Keys" ) #[.iface t (.pointer (some ⟨c,0,none⟩))] #[]);rw[st1 (P:=prog) h9 (show 9 < 10 by omega) rfl];simp only[Result.andThen_ok];have VR:=sO h9 w.heap.size 9 (.func (.method "Ghosts" ) #[.iface t (.pointer (some ⟨c,0,none⟩))] #[]);refine hK.out _ _ trivial (λhHeld=>?_);clear hK K;(try simp only[Act.put,za,zb,zc]);refine wpAnyH_done (by kernel_rfl) ?_ _;refine NoPanic.normal ?_;clear Fw;go_wp2_with fail
 refine bodyPost_ret (LR.aV rfl _ _ _ ⟨w.heap.size,0,none⟩ _ rfl HL.out) rfl ?_;exact⟨rfl,HB.out⟩
end
section
open Go.RowKit Sg
def Uc(k m:Nat)(w:zw)(e:Ending)(w':zw):Prop:=∃c T,e= .returned (.tuple #[cI k c,.bool true])/\iM w' c T (aN.start k m) 0/\(∀j,T j->w.heap.size<=j)/\Below w.heap.size w w'
theorem sP(w:zw)(k:Nat)(hk:k < 5)(z:Int)(hz: -9223372036854775808<=z/\z<=9223372036854775807):Calls prog 41 #[.int .i64 (k:Int),.int .i64 z] w (Uc k z.toNat w):=by
 rcases k with _|_|_|_|_|k
 . show Calls prog 41 #[.int .i64 0,.int .i64 z] w _;have U:=J (LR.kV w z hz);clear hk;go_enter func41,ntmps41;go_wp2_with(go_at_call 77;refine U.out.mono ?_;rintro e w1 ⟨c,T,rfl,h1,h2,h3⟩;have R:=J (xy h1 (xy h2 h3));clear h1 h2 h3)
   go_ret2
   exact⟨c,T,rfl,R.out.1,R.out.2.1,R.out.2.2⟩
 . show Calls prog 41 #[.int .i64 1,.int .i64 z] w _;have U:=J (LF.kV w z false hz);clear hk;go_enter func41,ntmps41;go_wp2_with(go_at_call 78;refine U.out.mono ?_;rintro e w1 ⟨c,T,rfl,h1,h2,h3⟩;have R:=J (xy h1 (xy h2 h3));clear h1 h2 h3)
   go_ret2
   exact⟨c,T,rfl,⟨R.out.1,zg _⟩,R.out.2.1,R.out.2.2⟩
 . show Calls prog 41 #[.int .i64 2,.int .i64 z] w _;have U:=J (LF.kV w z true hz);clear hk;go_enter func41,ntmps41;go_wp2_with(go_at_call 78;refine U.out.mono ?_;rintro e w1 ⟨c,T,rfl,h1,h2,h3⟩;have R:=J (xy h1 (xy h2 h3));clear h1 h2 h3)
   go_ret2
   exact⟨c,T,rfl,⟨R.out.1,zg _⟩,R.out.2.1,R.out.2.2⟩
 . show Calls prog 41 #[.int .i64 3,.int .i64 z] w _;have U:=J (SR.kV w z hz);clear hk;go_enter func41,ntmps41;go_wp2_with(go_at_call 79;refine U.out.mono ?_;rintro e w1 ⟨c,T,rfl,h1,h2,h3⟩;have R:=J (xy h1 (xy h2 h3));clear h1 h2 h3)
   go_ret2
   exact⟨c,T,rfl,R.out.1,R.out.2.1,R.out.2.2⟩
 . show Calls prog 41 #[.int .i64 4,.int .i64 z] w _;have U:=J (AR.kV w z hz);clear hk;go_enter func41,ntmps41;go_wp2_with(go_at_call 80;refine U.out.mono ?_;rintro e w1 ⟨c,T,rfl,h1,h2,h3⟩;have R:=J (xy h1 (xy h2 h3));clear h1 h2 h3)
   go_ret2
   exact⟨c,T,rfl,R.out.1,R.out.2.1,R.out.2.2⟩
 . omega
theorem Dv(w:zw)(k:Int)(hk:k < 0\/4 < k)(z:Int):Calls prog 41 #[.int .i64 k,.int .i64 z] w (λe w'=>e= .returned (.tuple #[.nilIface,.bool false])/\w=w'):=by
 have h0:¬k=0:=by omega
 have h1:¬k=1:=by omega
 have h2:¬k=2:=by omega
 have h3:¬k=3:=by omega
 have h4:¬k=4:=by omega
 clear hk;go_enter func41,ntmps41;go_wp2_with fail
 go_ret2
 exact⟨rfl,rfl⟩
theorem Ie(w:zw)(k:Nat)(hk:k < 7)(hn:jw w):Calls prog 39 #[.int .i64 (k:Int)] w (λe w'=>e= .returned (.tuple #[.string (nameOf k),.nilIface])/\w=w'):=by
 have h0:=hn k hk;generalize nameOf k=s at*;have h1:¬((k:Int) < 0):=by omega
 have h2:¬((7:Int)<=(k:Int)):=by omega
 clear hn;go_enter func39,ntmps39;go_wp2_with fail
 go_ret2
 exact⟨rfl,rfl⟩
def OC(k m:Nat)(w:zw)(e:Ending)(w':zw):Prop:=∃p U,e= .returned (.tuple #[.pointer (some ⟨p,0,none⟩),.nilIface])/\Pc w' p U (aN.start k m) 0/\(∀j,U j->w.heap.size<=j)/\Below w.heap.size w w'
def OD(n:Int)(w:zw)(e:Ending)(w':zw):Prop:=∃v,e= .returned (.tuple #[.pointer none,v])/\vi w' ⟨#[112,111,108,105,99,121]⟩ n v/\Below w.heap.size w w'
theorem JA(w:zw)(k:Nat)(hk:k < 5)(m:Nat)(hm:m<=16777216):Calls prog 13 #[.int .i64 (k:Int),.int .i64 (m:Int)] w (OC k m w):=by
 have V:=sP w k hk (m:Int) (by omega);rw[Int.toNat_natCast] at V;have V:=J V
 have I:=J (λw1=>show Calls prog 42 #[.int .i64 (m:Int)] w1 (λe w'=>e= .returned (.bool true)/\w1=w') by
  have:=l9 w1 (m:Int);rw[decide_eq_true (by omega),decide_eq_true (by omega)] at this;exact this)
 have C:=J (λw1 c=>AY w1 k c);have K:=J (aN.p7 hk m);go_enter func13,ntmps13;go_wp2_with fail
 refine V.out.mono ?_;rintro e w1 ⟨c,T,rfl,h1,h2,h3⟩;have R:=J (xy h1 (xy h2 h3));clear h1 h2 h3;go_wp2_with fail
 refine(I.out _).mono ?_;rintro e w1 ⟨rfl,rfl⟩;go_wp2_with fail
 refine(C.out _ _).mono ?_;rintro e w2 ⟨rfl,hB⟩;have HB:=J hB;clear hB;unfold fns OB;go_wp2_with fail
 go_ret2
 obtain⟨h1,h2,h3⟩:=R.out;obtain⟨q1,q2,_,_⟩:=K.out;have fI:=HB.out.size;have b3:=(zo w2.heap.size w2).alloc (zg _) (.cells (pn k m c) 95);have hb:=HB.out.trans (b3.mono fI);have yh:∀j,T j->j < w1.heap.size:=λj hj=>h1.lt hj;refine⟨w2.heap.size,λj=>j=w2.heap.size\/T j,rfl,⟨c,T,rfl,h1.below hb,λhj=>?_,?_⟩,λj hj=>?_,h3.trans (hb.mono h3.size)⟩
 . have:=yh _ hj;omega
 . rw[q1,q2];exact heap_alloc_new _ _
 . have:=h3.size;rcases hj with rfl|hj
   . omega
   . exact h2 j hj
theorem Az(w:zw)(z:Int)(hz:z < 0\/4 < z)(y:Int):Calls prog 13 #[.int .i64 z,.int .i64 y] w (OD 7 w):=by
 have V:=J (Dv w z hz y);clear hz;go_enter func13,ntmps13;go_wp2_with fail
 refine V.out.mono ?_;rintro e w1 ⟨rfl,rfl⟩;go_wp2_with fail
 go_ret2
 exact⟨_,rfl,⟨_,rfl,by simp,heap_alloc_new _ _⟩,(zo _ _).alloc (zg _) _⟩
theorem AA(w:zw)(k:Nat)(hk:k < 5)(y:Int)(hy:y < 0\/16777216 < y)(hr: -9223372036854775808<=y/\y<=9223372036854775807):Calls prog 13 #[.int .i64 (k:Int),.int .i64 y] w (OD 1 w):=by
 have V:=J (sP w k hk y hr)
 have I:=J (λw1=>show Calls prog 42 #[.int .i64 y] w1 (λe w'=>e= .returned (.bool false)/\w1=w') by
  have:=l9 w1 y
  rw[show(decide (0<=y)&&decide (y<=16777216))=false by
   rcases hy with h|h
   . rw[decide_eq_false (by omega)];rfl
   . rw[decide_eq_false (p:=y<=16777216) (by omega),Bool.and_false]] at this
  exact this)
 clear hk hy hr;go_enter func13,ntmps13;go_wp2_with fail
 refine V.out.mono ?_;rintro e w1 ⟨c,T,rfl,h1,h2,h3⟩;have HB:=J h3;clear h1 h2 h3;go_wp2_with fail
 refine(I.out _).mono ?_;rintro e w1 ⟨rfl,rfl⟩;go_wp2_with fail
 go_ret2
 exact⟨_,rfl,⟨_,rfl,by simp,heap_alloc_new _ _⟩,HB.out.alloc HB.out.size _⟩
end
section
open Go.RowKit Sg
end
section
open Go.RowKit Sg
def AB(b:Bool)(w:zw)(e:Ending)(w':zw):Prop:=e= .returned (.bool b)/\Below w.heap.size w w'
def V9(w:zw)(i:Value)(W:zw):Prop:=∃k:Nat,i= .int .i64 (k:Int)/\k<=5/\Below w.heap.size w W
def sa:zy:=⟨#[97]⟩
def sb:zy:=⟨#[98]⟩
def sc:zy:=⟨#[99]⟩
theorem tY{w:zw}{T:Nat->Prop}{L:List (Nat × Bool × zy × Bool)}(h:AR.uY w T L)(hl:∀k,T k->k < w.heap.size)(x y:Bool)(s:zy):AR.uY (w.alloc (.cells #[.bool x,.string s,.bool y] 49)) T ((w.heap.size,x,s,y)::L):=by
 intro q hq;rcases List.mem_cons.1 hq with rfl|hq
 . exact⟨heap_alloc_new _ _,λhk=>by have:=hl _ hk;omega⟩
 obtain⟨h1,h2⟩:=h q hq;exact⟨(qf _ _ _ h1.lt).trans h1,h2⟩
theorem rQ(w:zw)(hl:Laid w/\jw w):Calls prog 11 #[] w (AB true w):=by
 have N:=J (λ(w:zw) (k:Nat) (hk:k < 5)=>JA w k hk 2 (by omega));have HN:=J hl;have Wa:=λ(w:zw)=>AR.BQ (w:=w);have Wb:=λ(w:zw) (a:Bool) (s:zy) (b:Bool)=>AR.Jm (w:=w) (a:=a) (s:=s) (b:=b);clear hl;go_enter func11,ntmps11;go_wp2_with fail
 go_loopw [1] (λi W=>V9 w i W) (λi _=>5 - (intOf i).toNat)
 case atStart=>exact⟨0,rfl,by omega,zo _ _⟩
 case round=>
  obtain⟨k,rfl,Xy,hB⟩:=hrel;have HB:=J hB;clear hB
  by_cases hk:k < 5
  . have e0:decide ((k:Int) < 5)=true:=decide_eq_true (by omega);go_wp2_with fail
    refine Calls.mono (show Calls prog 13 #[.int .i64 (k:Int),.int .i64 2] wr (OC k 2 wr) from N.out wr k hk) ?_;rintro e w2 ⟨p,U,rfl,hC,hU,cQ⟩;have L2:=J (fW.made HB.out hC hU cQ);clear hC hU cQ;go_wp2_with fail
    have K0:=aN.p7 hk 2;have a1:=J (aN.xF (st:=aN.start k 2) L2.out.ca.ok (by rw[K0.2.1];omega) (k:=sa) (by rw[K0.2.2.1];simp) (by rw[K0.2.2.1,K0.2.1];simp));have U1:=lG w2 p U (aN.start k 2) 0 sa L2.out.ca (by decide) (by omega);generalize h0:aN.start k 2=s0 at*;unfold aN.step at U1;rw[a1.out] at U1;refine Calls.mono (show Calls prog 17 #[.pointer (some ⟨p,0,none⟩),.string ⟨#[97]⟩] w2 (iT (.agg #[.bool false,.string ⟨#[]⟩,.bool false]) w2 p U (s0.aK sa) 1) from U1) ?_;intro e w3 hp;obtain⟨rfl,T3,hL,hW⟩:=L2.out.op hp;have L3:=J hL;have O0:=J L2.out.ca.ok;clear hp hL hW L2 a1 U1;go_wp2_with fail
    have m1:(s0.aK sa).mo≠0:=by rw[aN.j7,K0.2.1];omega
    have a2:=J (aN.Ax (st:=s0.aK sa) L3.out.ca.ok m1 (k:=sa) (aN.kP O0.out (by rw[K0.2.1];omega) sa).has);have U2:=lG w3 p T3 (s0.aK sa) 1 sa L3.out.ca (by decide) (by omega);generalize h1:s0.aK sa=s1 at*;unfold aN.step at U2;rw[a2.out] at U2;refine Calls.mono (show Calls prog 17 #[.pointer (some ⟨p,0,none⟩),.string ⟨#[97]⟩] w3 (iT (.agg #[.bool true,.string ⟨#[]⟩,.bool false]) w3 p T3 (s1.aK sa) 2) from U2) ?_;intro e w4 hp;obtain⟨rfl,T4,hL,hW⟩:=L3.out.op hp;have O1:=J L3.out.ca.ok;have L4:=J hL;clear hp hL hW L3 a2 U2 m1;go_wp2_with fail
    have X5:=J (tY (tY (w:=w4) (T:=T4) (L:=[]) (by intro q hq;cases hq) L4.out.lt false false ⟨#[]⟩) (λk hk=>xd (L4.out.lt k hk) (by simp)) true false ⟨#[]⟩);have yG:Below w4.heap.size w4 ((w4.alloc (.cells #[.bool false,.string ⟨#[]⟩,.bool false] 49)).alloc (.cells #[.bool true,.string ⟨#[]⟩,.bool false] 49)):=((zo _ _).alloc (zg _) _).alloc (by simp) _;have L5:=J (L4.out.below yG);have e5:(w4.alloc (.cells #[.bool false,.string ⟨#[]⟩,.bool false] 49)).heap.size=w4.heap.size+1:=by simp
    rw[e5] at X5;clear L4 yG e5;generalize(w4.alloc (.cells #[.bool false,.string ⟨#[]⟩,.bool false] 49)).alloc (.cells #[.bool true,.string ⟨#[]⟩,.bool false] 49)=w5 at L5 X5|-;generalize w4.heap.size=n4 at*;have U3:=lG w5 p T4 (s1.aK sa) 2 sb L5.out.ca (by decide) (by omega);generalize h2:s1.aK sa=s2 at*;generalize Wc:s2.step sb=v3 at U3;refine Calls.mono (show Calls prog 17 #[.pointer (some ⟨p,0,none⟩),.string ⟨#[98]⟩] w5 (iT v3 w5 p T4 (s2.aK sb) 3) from U3) ?_;intro e w6 hp;obtain⟨rfl,T6,hL,hW⟩:=L5.out.op hp;have O2:=J L5.out.ca.ok;have X6:=J (X5.out.dS hW);have L6:=J hL;clear hp hL hW L5 U3 X5 Wc;go_wp2_with fail
    have U4:=lG w6 p T6 (s2.aK sb) 3 sc L6.out.ca (by decide) (by omega);generalize h3:s2.aK sb=s3 at*;unfold aN.step at U4;obtain⟨x,hx⟩:=zx ((s3.tell sc).1);obtain⟨y,hy⟩:=zx ((s3.tell sc).2.1);obtain⟨o,ho⟩:=zx ((s3.tell sc).2.2);rw[← hx,<-hy,<-ho] at U4;refine Calls.mono (show Calls prog 17 #[.pointer (some ⟨p,0,none⟩),.string ⟨#[99]⟩] w6 (iT (.agg #[.bool x,.string y,.bool o]) w6 p T6 (s3.aK sc) 4) from U4) ?_;intro e w7 hp;obtain⟨rfl,T7,hL,hW⟩:=L6.out.op hp;have O3:=J L6.out.ca.ok;have X7:=J (tY (X6.out.dS hW) hL.lt x o y);have L7:=J (hL.below ((zo _ _).alloc (zg _) (.cells #[.bool x,.string y,.bool o] 49)));obtain⟨q0,q1,q2,q3,q4,q5,q6,q7⟩:=aN.T9 h1.symm h2.symm h3.symm (s4:=s3.aK sc) rfl O0.out O1.out O2.out O3.out hL.ca.ok K0.2.1 K0.2.2.1 (by decide) (by decide) (by decide);obtain rfl:o=true:=ho.trans q2;have lq:(s3.aK sc).kind=k:=by rw[aN.kI,<-h3,aN.kI,<-h2,aN.kI,<-h1,aN.kI];exact K0.1
    have Q:=zs ((s3.aK sc).keys.length=2/\(s3.aK sc).has sc=true/\(s3.aK sc).any=true/\(s3.aK sc).has (s3.aK sc).dW=true/\(s3.aK sc).mo=2/\(s3.aK sc).kind=k) (⟨q3,q4,q5,q6,q7,lq⟩);clear hp hL hW L6 U4 X6 hx hy q0 q1 q2 q3 q4 q5 q6 q7 lq O0 O1 O2 O3 h1 h2 h3 h0 K0 ho;generalize s3.aK sc=s4 at*;clear s0 s1 s2 s3;go_upto_region 10 with fail
    generalize w7.alloc (.cells #[.bool x,.string y,.bool true] 49)=w8 at L7 X7|-;generalize w7.heap.size=n7 at*;have V:=Ay w8 p T7 s4 4 L7.out.ca;rw[Q.out.2.2.1] at V;have V:=J V;generalize s4.dW=vk at*;go_wp2_with fail
    refine V.out.mono ?_;rintro e w9 ⟨rfl,hB⟩;have X9:=J (X7.out.dS (aJ.below hB));have L9:=J (L7.out.below hB);clear hB X7 L7 V;have c4:=J (X9.out (n4,false,⟨#[]⟩,false) (by simp)).1;have c5:=J (X9.out (n4+1,true,⟨#[]⟩,false) (by simp)).1;have c7:=J (X9.out (n7,x,y,true) (by simp)).1;obtain⟨x1,x2,x3,_,_⟩:=c4.out.cells;obtain⟨x4,x5,x6,_,_⟩:=c5.out.cells;obtain⟨_,_,x9,_,_⟩:=c7.out.cells;simp only at x1 x2 x3 x4 x5 x6 x9;clear c4 c5 c7 X9;go_wp2_with fail
    refine Calls.mono (show Calls prog 32 #[.pointer (some ⟨p,0,none⟩)] w9 (Told (.int .i64 2) w9) from by
     have:=Jz w9 p T7 s4 4 L9.out.ca;rw[Q.out.1] at this;exact this) ?_
    rintro e wa ⟨rfl,hB⟩;have La:=J (L9.out.below hB);have x9:=(hB.cell (p:=⟨n7,2,none⟩) (World.block_lt_of_cell? _ _ x9)).trans x9;clear hB L9 x1 x2 x3 x4 x5 x6;go_wp2_with fail
    refine Calls.mono (show Calls prog 33 #[.pointer (some ⟨p,0,none⟩),.string ⟨#[99]⟩] wa (Told (.bool true) wa) from by
     have:=Du wa p T7 s4 4 sc La.out.ca (by decide);rw[Q.out.2.1] at this;exact this) ?_
    rintro e wb ⟨rfl,hB⟩;have Lb:=J (La.out.below hB);clear hB La x9;go_wp2_with fail
    refine Calls.mono (show Calls prog 38 #[.pointer (some ⟨p,0,none⟩)] wb (Told (.int .i64 (k:Int)) wb) from by
     have:=Fq wb p T7 s4 4 Lb.out.ca;rw[Q.out.2.2.2.2.2] at this;exact this) ?_
    rintro e wc ⟨rfl,hB⟩;have Lc:=J (Lb.out.below hB);clear hB Lb;go_wp2_with fail
    refine Calls.mono (show Calls prog 37 #[.pointer (some ⟨p,0,none⟩)] wc (Told (.int .i64 2) wc) from by
     have:=Fs wc p T7 s4 4 Lc.out.ca;rw[Q.out.2.2.2.2.1] at this;exact this) ?_
    rintro e wd ⟨rfl,hB⟩;have Ld:=J (Lc.out.below hB);clear hB Lc;go_wp2_with fail
    refine Calls.mono (show Calls prog 33 #[.pointer (some ⟨p,0,none⟩),.string vk] wd (Told (.bool true) wd) from by
     have:=Du wd p T7 s4 4 vk Ld.out.ca (Ld.out.ca.small _ (aX.1 Q.out.2.2.2.1));rw[Q.out.2.2.2.1] at this;exact this) ?_
    rintro e we ⟨rfl,hB⟩;have Le:=J (Ld.out.below hB);clear hB Ld;go_wp2_with fail
    refine Calls.mono (Ft we p T7 s4 4 Le.out.ca) ?_;rintro e wf ⟨v,rfl,hO,hB⟩;obtain⟨A,cc,rfl⟩:=hO.len;rw[Q.out.1];have Lf:=J (Le.out.below hB);clear hB Le hO;go_wp2_with fail
    go_roundw
    case rel=>exact⟨k+1,by go_num,by omega,Lf.out.az⟩
    case measure=>simp[intOf];omega
  . obtain rfl:k=5:=by omega
    have HL:=J (HN.out.1.below HB.out (zg _));have HM:=J (HN.out.2.below HB.out (zg _));go_wp2_with fail
    refine Calls.mono (Az wr 5 (by omega) 1) ?_;rintro e w2 ⟨v1,rfl,hF,cQ⟩;have F1:=J hF;have B2:=J cQ;clear hF cQ;go_wp2_with fail
    refine Calls.mono (AA w2 0 (by omega) (-1) (by omega) (by omega)) ?_;rintro e w3 ⟨v2,rfl,hF,eh⟩;have F2:=J hF;have F1:=J (F1.out.below eh);have B3:=J (B2.out.trans (eh.mono B2.out.size));clear hF eh B2;go_wp2_with fail
    refine Calls.mono (show Calls prog 39 #[.int .i64 6] w3 (λe w'=>e= .returned (.tuple #[.string ⟨#[67,65,67,72,69,85,83]⟩,.nilIface])/\w3=w') from Ie w3 6 (by omega) (HM.out.below B3.out (zg _))) ?_;rintro e w4 ⟨rfl,rfl⟩;have OE:=J (HL.out.below B3.out (zg _));go_wp2_with fail
    refine Calls.mono (F1.out.xZ (by omega) OE.out) ?_;rintro e w5 ⟨rfl,JB⟩;have F2:=J (F2.out.below JB);have Wd:=J (OE.out.below JB (zg _));have B5:=J (B3.out.trans (JB.mono B3.out.size));clear JB F1 OE B3;go_wp2_with fail
    refine Calls.mono (F2.out.xZ (by omega) Wd.out) ?_;rintro e w6 ⟨rfl,SC⟩;have B6:=J (HB.out.trans ((B5.out.trans (SC.mono B5.out.size)).mono HB.out.size));clear SC;go_wp2_with fail
    go_ret;exact⟨rfl,B6.out⟩
end
section
open Go.RowKit Sg
section
variable{w0 W W':zw}{p p2 b b2 b':Nat}{U U' U2:Nat->Prop}{s s' s2:aN}{r:Value}{e:Ending}
end
section
variable{w0 W W':zw}{p p2 b b2 b' ga:Nat}{U U' U2:Nat->Prop}{s s' s2:aN}{r:Value}{e:Ending}{kd nn:Int}{key:zy}
end
def Kz(n:Nat)(w:zw)(e:Ending)(w':zw):Prop:=∃t:Bool,e= .returned (.bool t)/\w=w'/\(t=true->n<=200)
theorem wA(A:Option Addr)(n cc:Nat)(w:zw)(S:Nat->zy)(hn:n<=maxLen)(hS:∀i,i < n->(S i).size<=maxLen)
 (hc:0 < n->∃g o,A=some ⟨g,o,none⟩/\g < w.heap.size/\n<=cc/\cc<=maxLen/\∀i,i < n->w.cell? ⟨g,o+i*3+1,none⟩=some (.string (S i))):
 Calls prog 12 #[.slice A n cc] w (Kz n w):=by
 have HC:=J hc;have HS:=J hS;unfold maxLen at hn;clear hc hS;go_enter func12,ntmps12;go_wp2_with fail
 go_loop [3] (λi=>∃k:Nat,i= .int .i64 (k:Int)/\k<=n/\k<=200) (λi=>n - (intOf i).toNat)
 case atStart=>exact⟨0,rfl,xg _,by omega⟩
 case round=>
  obtain⟨k,rfl,hk,EN⟩:=hrel
  by_cases aQ:k < n
  . have e0:decide (k < n)=true:=by simpa using aQ
    obtain⟨g,o,rfl,hg,cF,bL,bX⟩:=HC.out (by omega);have h1:=bX k aQ;have nu:=HS.out k aQ;clear bX;unfold maxLen at bL nu
    by_cases hb:k < 200
    . have e1:decide (200<=(k:Int))=false:=by simp;omega
      by_cases WG:(S k).size<=200
      . have e2:decide (200 < ((S k).size:Int))=false:=by simp;omega
        go_wp2_with fail
        go_round
        case rel=>exact⟨k+1,by go_num,by omega,by omega⟩
        case measure=>simp[intOf];omega
      . have e2:decide (200 < ((S k).size:Int))=true:=by simp;omega
        go_wp2_with fail
        go_ret;exact⟨false,rfl,rfl,λh=>by cases h⟩
    . have e1:decide (200<=(k:Int))=true:=by simp;omega
      go_wp2_with fail
      go_ret;exact⟨false,rfl,rfl,λh=>by cases h⟩
  . have e0:decide (k < n)=false:=by simpa using aQ
    go_wp2_with fail
    go_ret;exact⟨true,rfl,rfl,λ_=>by omega⟩
