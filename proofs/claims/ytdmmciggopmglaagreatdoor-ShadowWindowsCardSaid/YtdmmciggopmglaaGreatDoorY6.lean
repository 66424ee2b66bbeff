/- Lj Lk Lx, in one text. -/
import Derived.Test.YtdmmciggopmglaaGreatDoorLg
import Derived.Test.YtdmmciggopmglaaGreatDoorLi
import Derived.Test.YtdmmciggopmglaaGreatDoorY4
import Derived.Test.YtdmmciggopmglaaGreatDoorHd
set_option maxRecDepth 20000
namespace Go.Proofs.YtdmmciggopmglaaGreatDoor.LE
open Go.RowKit Go.Maps Go.WideMaps Sg
structure KB(w:World)(i:Ix)(S:Sx)(B E x:Nat)(v:Value):Prop where
 cell:w.cell? ⟨x,0,none⟩=some v
 out:¬tblk i S B E x
section
variable{w w':World}{i:Ix}{S S':Sx}{B E x:Nat}{v:Value}
theorem KB.went(n:KB w i S B E x v)(h:Went w w' (tblk i S B E) (tblk i S' B E)):KB w' i S' B E x v:=by
 have hl:=World.block_lt_of_cell? _ _ n.cell;refine⟨(World.cell?_of_block (a:=⟨x,0,none⟩) (h.turn.block x hl n.out)).trans n.cell,λe=>?_⟩;rcases h.new x e with g|g
 . exact n.out g
 . exact absurd hl (Nat.not_lt.2 g)
theorem KB.below(n:KB w i S B E x v)(h:Below w.heap.size w w'):KB w' i S B E x v:=n.went (Went.below h)
end
section
variable(w:World)(i:Ix)(S:Sx)(B E:Nat)(L:List (List Nat))(lane:Int)(s:St)(b:Nat)(h:LT w i S B E L lane s b)
include h
theorem regret_t(key:ByteArray)(hs:key.size<=maxLen)(hb:b<=97500):Calls Tryz.prog 138 #[.pointer (some ⟨i.l,0,none⟩),.string key] w (TPost (.tuple #[]) w i S B E L lane (s.regret key) b):=by
 by_cases hg:key∈s.ghosts
 . rcases List.mem_append.1 hg with hA|hB
   . cases hl:look s.HA key with
     |none=>exact absurd hA (look_none.1 hl)
     |some t=>exact regret_A w i S B E L lane s b h key t hs hl hb
   . cases hl:look s.HB key with
     |none=>exact absurd hB (look_none.1 hl)
     |some t=>exact regret_B w i S B E L lane s b h key t hs hl hb
 . exact regret_no w i S B E L lane s b h key hs hg
theorem evict_t(hne:s.A.keys≠ [])(hb:b<=97500):Calls Tryz.prog 139 #[.pointer (some ⟨i.l,0,none⟩)] w (TPost (.tuple #[.string s.evV,.bool true]) w i S B E L lane s.evict (b+1)):=by
 cases hp:s.pick with
 |true=>exact evict_A w i S B E L lane s b h hp hne hb
 |false=>exact evict_B w i S B E L lane s b h hp hne hb
def fV(s:St)(k:ByteArray):ByteArray:=if s.full=true then(s.regret k).evV else⟨#[]⟩
set_option maxHeartbeats 2000000 in
theorem fetch_t(key:ByteArray)(hs:key.size<=maxLen)(hk:key∉s.A.keys)(hmo:s.mo≠0)(hb:b<=97200):
 Calls Tryz.prog 128 #[.pointer (some ⟨i.l,0,none⟩),.string key] w (TPost (.tuple #[.string (fV s key),.bool s.full]) w i S B E L lane ((s.make key).both key) (b+2)):=by
 obtain⟨m1,m2,m3⟩:=(make_ok h.ok hmo key).resolve_right hk;obtain⟨k1,k2⟩:=make_keys h.ok hmo key
 have hnm:key∉(s.make key).A.keys:=λe=>by
  cases hf:s.full with
  |true=>exact hk (((k1 hf).2.1 key).1 e).1
  |false=>exact hk (by rw[k2 hf] at e;exact e)
 have BO:=Lib.hid (both_ok m1 hnm m3 (by rw[m2];exact make_lt h.ok hmo key)).1;have hb1:=(Below.refl w.heap.size w).alloc (Nat.le_refl _) (.cells #[.string key] 9);have h1:=h.below hb1;have R:=Lib.hid (regret_t _ i S B E L lane s b h1 key hs (by omega));have X1:=Lib.hid (show KB (w.alloc (.cells #[.string key] 9)) i S B E w.heap.size (.string key) from⟨sbox_new w _ _,λe=>Nat.lt_irrefl _ (h.lt e)⟩);have x1:=X1.out.cell;have W1:=Lib.hid (Went.below (S:=tblk i S B E) hb1);obtain⟨kl,hkl⟩:∃kl,kl=s.keys.length:=⟨_,rfl⟩;obtain⟨mm,hmm⟩:∃mm,mm=s.mo:=⟨_,rfl⟩;have HF:=Lib.hid (show s.full=decide (mm<=kl) by rw[hkl,hmm];rfl);have HKL:=Lib.hid (And.intro hkl hmm)
 have HN:=Lib.hid (show s.full=true->(s.regret key).A.keys≠ [] from λhf e=>by
  have hf2:s.mo<=s.A.keys.length:=of_decide_eq_true hf;have e:s.A.keys= []:=e;rw[e,List.length_nil] at hf2;omega)
 have HM:=Lib.hid (show s.make key=if s.full=true then(s.regret key).evict else s.regret key from rfl);have LIM:=Lib.hid h.lim;clear h h1 hb1 m1 m2 m3 k1 k2 hnm hk hkl hmm
 have BTH:=Lib.hid (λ(w4:World) (S4:Sx) (L4:List (List Nat)) (m:St) (c:Nat) (hc:c<=b+1) (h4:LT w4 i S4 B E L4 lane m c) (k4:KB w4 i S4 B E w.heap.size (.string key)) (om:Ok (m.both key))=>
  show Calls Tryz.prog 116 #[.pointer (some ⟨i.l,0,none⟩),.func (.func 140) #[] #[.pointer (some ⟨w.heap.size,0,none⟩)]] w4 (TPost (.tuple #[]) w4 i S4 B E L4 lane (m.both key) (b+2)) from
  (both_r w4 i S4 (flOf m B lane) m.A m.B (m.A.ad key) (m.B.ad key) (gk m.HA) (gk m.HB) (fOf m.HA m.HB) (λ_=>c) (λ_=>c+1) 140 w.heap.size (.string key) h4.raw k4.cell (λe=>k4.out (Or.inl e)) cAdFE (λ_ _=>Nat.le_succ _)
    (λw1 p U hP hx=>cAdF w1 p U m.A c w.heap.size key hP hx hs (by omega)) (λw1 p U hP hx=>cAdF w1 p U m.B c w.heap.size key hP hx hs (by omega))).mono λe w5 hp=>by
      obtain⟨he,S5,r5,g5,_,_⟩:=hp
      exact h4.post (s':=m.both key) (b':=b+2) ⟨he,S5,r5.mono (λ_ _=>by omega),g5⟩ om (by
       have l:=h4.lim.mono (show c<=b+2 by omega);exact⟨l.mo,l.clock,l.asked,l.hits,l.last,l.still⟩) rfl)
 rw[HM.out] at BO
 have QT:=Lib.hid (λ(hf:s.full=true) (e:Ending) (w':World) (hp:TPost (.tuple #[.string (s.regret key).evV,.bool true]) w i S B E L lane ((s.regret key).evict.both key) (b+2) e w')=>show TPost (.tuple #[.string (fV s key),.bool s.full]) w i S B E L lane ((s.make key).both key) (b+2) e w' from by
  unfold fV;rw[HM.out,hf,if_pos rfl,if_pos rfl];exact hp)
 have QF:=Lib.hid (λ(hf:s.full=false) (e:Ending) (w':World) (hp:TPost (.tuple #[.string ⟨#[]⟩,.bool false]) w i S B E L lane ((s.regret key).both key) (b+2) e w')=>show TPost (.tuple #[.string (fV s key),.bool s.full]) w i S B E L lane ((s.make key).both key) (b+2) e w' from by
  unfold fV;rw[HM.out,hf,if_neg (by simp),if_neg (by simp)];exact hp)
 generalize TPost (.tuple #[.string (fV s key),.bool s.full]) w i S B E L lane ((s.make key).both key) (b+2)=Q at*;cases hf:s.full with
 |true=>
  have e0:decide (mm<=kl)=true:=HF.out.symm.trans hf;rw[if_pos hf] at BO;have FF:=Lib.hid hf;clear hf;go_enter Tryz.func128,Tryz.ntmps128;go_wp2_with fail
  refine R.out.mono ?_;rintro e w2 ⟨rfl,S2,L2,h2,hL2,g2⟩;have X2:=Lib.hid (X1.out.went g2);have P2:=Lib.hid (And.intro h2 (And.intro hL2 (W1.out.trans g2)));have d1:=h2.cm;have hd2:=h2.below (FX.bdrew (Below.refl _ _) 1)
  have U:=Lib.hid (show Calls Tryz.prog 110 #[.pointer (some ⟨i.l,0,none⟩)] w2.drew (Told (.int .i64 (kl:Int)) w2.drew) from by
   have:=len_t w2.drew i S2 B E L2 lane (s.regret key) b hd2;rw[show(s.regret key).keys.length=kl from HKL.out.1.symm] at this;exact this)
  have hmo2:(s.regret key).mo=mm:=HKL.out.2.symm;rw[hmo2] at d1;clear h2 hL2 g2 hd2 hmo2 R X1 x1 W1;go_wp2_with fail
  go_region_held3(λw'=>w'.cell? ⟨i.l,1,none⟩=some (.int .i64 (mm:Int))) (first|(with_reducible exact y1)|(with_reducible exact d1)|go_keep)
   ((go_at_call 110;refine U.out.mono ?_;rintro e w3 ⟨rfl,hB⟩;have P3:=Lib.hid (And.intro (P2.out.1.below (((Below.refl w2.heap.size w2).drew).trans hB)) (And.intro P2.out.2.1 (And.intro (P2.out.2.2.trans (Went.below (((Below.refl w2.heap.size w2).drew).trans hB))) (X2.out.below (((Below.refl w2.heap.size w2).drew).trans hB)))));have y1:w3.cell? ⟨i.l,1,none⟩=some (.int .i64 (mm:Int)):=(by have:=P3.out.1.cm;rw[show(s.regret key).mo=mm from HKL.out.2.symm] at this;exact this);clear hB U))
  clear y1 d1 P2 X2;have EV:=Lib.hid (evict_t w3 i S2 B E L2 lane (s.regret key) b P3.out.1 (HN.out FF.out) (by omega));generalize(s.regret key).evV=vk at*;go_wp2_with fail
  refine EV.out.mono ?_;rintro e w4 ⟨rfl,S4,L4,h4,hL4,g4⟩;have BB:=Lib.hid (BTH.out w4 S4 L4 _ (b+1) (Nat.le_refl _) h4 (P3.out.2.2.2.went g4) BO.out);have P4:=Lib.hid (And.intro (λ(j:Int) (hj:j≠lane)=>(hL4 j hj).trans (P3.out.2.1 j hj)) (P3.out.2.2.1.trans g4));clear h4 hL4 g4 EV P3 BTH;go_wp2_with fail
  refine BB.out.mono ?_;intro e w5 hp;obtain⟨rfl,h5⟩:=TPost.trans P4.out.2 P4.out.1 hp;have H5:=Lib.hid h5;clear h5 hp BB P4;go_wp2_with fail
  exact QT.out FF.out _ _ ⟨rfl,H5.out⟩
 |false=>
  have e0:decide (mm<=kl)=false:=HF.out.symm.trans hf;rw[if_neg (by rw[hf];simp)] at BO;have FF:=Lib.hid hf;clear hf;go_enter Tryz.func128,Tryz.ntmps128;go_wp2_with fail
  refine R.out.mono ?_;rintro e w2 ⟨rfl,S2,L2,h2,hL2,g2⟩;have X2:=Lib.hid (X1.out.went g2);have P2:=Lib.hid (And.intro h2 (And.intro hL2 (W1.out.trans g2)));have d1:=h2.cm;have hd2:=h2.below (FX.bdrew (Below.refl _ _) 1)
  have U:=Lib.hid (show Calls Tryz.prog 110 #[.pointer (some ⟨i.l,0,none⟩)] w2.drew (Told (.int .i64 (kl:Int)) w2.drew) from by
   have:=len_t w2.drew i S2 B E L2 lane (s.regret key) b hd2;rw[show(s.regret key).keys.length=kl from HKL.out.1.symm] at this;exact this)
  have hmo2:(s.regret key).mo=mm:=HKL.out.2.symm;rw[hmo2] at d1;clear h2 hL2 g2 hd2 hmo2 R X1 x1 W1;go_wp2_with fail
  go_region_held3(λw'=>w'.cell? ⟨i.l,1,none⟩=some (.int .i64 (mm:Int))) (first|(with_reducible exact y1)|(with_reducible exact d1)|go_keep)
   ((go_at_call 110;refine U.out.mono ?_;rintro e w3 ⟨rfl,hB⟩;have P3:=Lib.hid (And.intro (P2.out.1.below (((Below.refl w2.heap.size w2).drew).trans hB)) (And.intro P2.out.2.1 (And.intro (P2.out.2.2.trans (Went.below (((Below.refl w2.heap.size w2).drew).trans hB))) (X2.out.below (((Below.refl w2.heap.size w2).drew).trans hB)))));have y1:w3.cell? ⟨i.l,1,none⟩=some (.int .i64 (mm:Int)):=(by have:=P3.out.1.cm;rw[show(s.regret key).mo=mm from HKL.out.2.symm] at this;exact this);clear hB U))
  clear y1 d1 P2 X2;have BB:=Lib.hid (BTH.out w3 S2 L2 _ b (by omega) P3.out.1 P3.out.2.2.2 BO.out);have P4:=Lib.hid (And.intro P3.out.2.1 P3.out.2.2.1);clear P3 BTH;go_wp2_with fail
  refine BB.out.mono ?_;intro e w5 hp;obtain⟨rfl,h5⟩:=TPost.trans P4.out.2 P4.out.1 hp;have H5:=Lib.hid h5;clear h5 hp BB P4;go_wp2_with fail
  exact QF.out FF.out _ _ ⟨rfl,H5.out⟩
end
end Go.Proofs.YtdmmciggopmglaaGreatDoor.LE
set_option maxRecDepth 20000
namespace Go.Proofs.YtdmmciggopmglaaGreatDoor.LE
open Go.RowKit Go.Maps Go.WideMaps Sg
abbrev zSt:Obj:= .cells #[.bool false,.string ⟨#[]⟩,.bool false] 41
structure RQ(W:World)(i:Ix)(S:Sx)(B E n:Nat)(key:ByteArray):Prop where
 kl:KB W i S B E n (.pointer (some ⟨i.l,0,none⟩))
 kk:KB W i S B E (n+1) (.string key)
 rb:LR.Box W (n+1+1) false ⟨#[]⟩ false
 rn:¬tblk i S B E (n+1+1)
structure SB(W:World)(i:Ix)(S:Sx)(B E x:Nat)(h:Bool)(v:ByteArray)(o:Bool):Prop where
 box:LR.Box W x h v o
 out:¬tblk i S B E x
section
variable{w w':World}{i:Ix}{S S':Sx}{B E n x:Nat}{key v:ByteArray}{h o:Bool}{L:List (List Nat)}{lane:Int}{s s':St}{b b':Nat}
theorem tout(hn:¬tblk i S B E x)(hl:x < w.heap.size)(g:Went w w' (tblk i S B E) (tblk i S' B E)):w'.heap[x]?=w.heap[x]?/\¬tblk i S' B E x:=SR.went_out g hl hn
theorem SB.went(q:SB w i S B E x h v o)(g:Went w w' (tblk i S B E) (tblk i S' B E)):SB w' i S' B E x h v o:=by
 obtain⟨a,c⟩:=tout q.out (heap_lt q.box) g;exact⟨a.trans q.box,c⟩
theorem RQ.went(q:RQ w i S B E n key)(g:Went w w' (tblk i S B E) (tblk i S' B E)):RQ w' i S' B E n key:=by
 obtain⟨a,c⟩:=tout q.rn (heap_lt q.rb) g;exact⟨q.kl.went g,q.kk.went g,a.trans q.rb,c⟩
theorem RQ.below(q:RQ w i S B E n key)(g:Below w.heap.size w w'):RQ w' i S B E n key:=q.went (Went.below g)
theorem LT.congr(q:LT w i S B E L lane s b)(hf:flOf s' B lane=flOf s B lane)(hp:pOf s'=pOf s)(ok:Ok s')(lim:Lim s' b)(hv:s'.vs=s.vs):LT w i S B E L lane s' b:=
 ⟨by rw[hf,hp];exact q.raw,ok,lim,q.tp,q.sep,q.vs.trans hv.symm⟩
theorem rq_start(q:LT w i S B E L lane s b)(key:ByteArray):
 LT (((w.alloc (.cells #[.pointer (some ⟨i.l,0,none⟩)] 86)).alloc (.cells #[.string key] 9)).alloc zSt) i S B E L lane s b/\RQ (((w.alloc (.cells #[.pointer (some ⟨i.l,0,none⟩)] 86)).alloc (.cells #[.string key] 9)).alloc zSt) i S B E w.heap.size key/\Went w (((w.alloc (.cells #[.pointer (some ⟨i.l,0,none⟩)] 86)).alloc (.cells #[.string key] 9)).alloc zSt) (tblk i S B E) (tblk i S B E):=by
 have hb1:=(Below.refl w.heap.size w).alloc (Nat.le_refl _) (.cells #[.pointer (some ⟨i.l,0,none⟩)] 86);have hb2:=(Below.refl (w.alloc (.cells #[.pointer (some ⟨i.l,0,none⟩)] 86)).heap.size (w.alloc (.cells #[.pointer (some ⟨i.l,0,none⟩)] 86))).alloc (Nat.le_refl _) (.cells #[.string key] 9);have hb3:=(Below.refl ((w.alloc (.cells #[.pointer (some ⟨i.l,0,none⟩)] 86)).alloc (.cells #[.string key] 9)).heap.size ((w.alloc (.cells #[.pointer (some ⟨i.l,0,none⟩)] 86)).alloc (.cells #[.string key] 9))).alloc (Nat.le_refl _) zSt;have q1:=q.below hb1;have q2:=q1.below hb2;have q3:=q2.below hb3;have k1:KB (w.alloc (.cells #[.pointer (some ⟨i.l,0,none⟩)] 86)) i S B E w.heap.size (.pointer (some ⟨i.l,0,none⟩)):=⟨sbox_new w _ _,λe=>Nat.lt_irrefl _ (q.lt e)⟩
 have k2:KB ((w.alloc (.cells #[.pointer (some ⟨i.l,0,none⟩)] 86)).alloc (.cells #[.string key] 9)) i S B E (w.heap.size+1) (.string key):=by
  have:=sbox_new (w.alloc (.cells #[.pointer (some ⟨i.l,0,none⟩)] 86)) (.string key) 9;rw[show(w.alloc (.cells #[.pointer (some ⟨i.l,0,none⟩)] 86)).heap.size=w.heap.size+1 by simp] at this;exact⟨this,λe=>by have:=q.lt e;omega⟩
 have k3:LR.Box (((w.alloc (.cells #[.pointer (some ⟨i.l,0,none⟩)] 86)).alloc (.cells #[.string key] 9)).alloc zSt) (w.heap.size+1+1) false ⟨#[]⟩ false:=by
  have:=heap_alloc_new ((w.alloc (.cells #[.pointer (some ⟨i.l,0,none⟩)] 86)).alloc (.cells #[.string key] 9)) zSt;rw[show((w.alloc (.cells #[.pointer (some ⟨i.l,0,none⟩)] 86)).alloc (.cells #[.string key] 9)).heap.size=w.heap.size+1+1 by simp] at this;exact this
 have rq:RQ (((w.alloc (.cells #[.pointer (some ⟨i.l,0,none⟩)] 86)).alloc (.cells #[.string key] 9)).alloc zSt) i S B E w.heap.size key:=⟨(k1.below hb2).below hb3,k2.below hb3,k3,λe=>by have:=q.lt e;omega⟩;exact⟨q3,rq,((Went.below hb1).trans (Went.below hb2)).trans (Went.below hb3)⟩
theorem rq_tick(q3:LT w i S B E L lane s b):
 LT (w.setCell ⟨i.l,7,none⟩ (.int .i64 ((s.clock:Int)+1))) i S B E L lane s.tick (b+1)/\Went w (w.setCell ⟨i.l,7,none⟩ (.int .i64 ((s.clock:Int)+1))) (tblk i S B E) (tblk i S B E):=by
 obtain⟨z1,z2⟩:=q3.set (s':=s.tick) (b':=b+1) 7 (.int .i64 ((s.clock:Int)+1)) rfl rfl (by omega) (tick_ok q3.ok) ⟨q3.lim.mo,by have:=q3.lim.clock;show s.clock+1<=b+1;omega,by have:=q3.lim.asked;show s.asked<=b+1;omega,by have:=q3.lim.hits;show s.hits<=b+1;omega,by have:=q3.lim.last;show s.last<=b+1;omega,q3.lim.still⟩ rfl;exact⟨z1,z2⟩
theorem rq_end(q:LT w i S B E L lane s b)(r:RQ w i S B E n key)(x:Bool)(v:ByteArray)(o:Bool):
 LT (((w.setCell ⟨n+1+1,0,none⟩ (.bool x)).setCell ⟨n+1+1,1,none⟩ (.string v)).setCell ⟨n+1+1,2,none⟩ (.bool o)) i S B E L lane s b/\
 LR.Box (((w.setCell ⟨n+1+1,0,none⟩ (.bool x)).setCell ⟨n+1+1,1,none⟩ (.string v)).setCell ⟨n+1+1,2,none⟩ (.bool o)) (n+1+1) x v o/\
 Turn (λk=>k=n+1+1) w (((w.setCell ⟨n+1+1,0,none⟩ (.bool x)).setCell ⟨n+1+1,1,none⟩ (.string v)).setCell ⟨n+1+1,2,none⟩ (.bool o)):=by
 have ht:=put_turn9 w (n+1+1) x o v;exact⟨q.beside ht (λk hk e=>r.rn (by rw[← (show k=n+1+1 from e)];exact hk)),r.rb.put x o v,ht⟩
end
theorem SB.put{w:World}{i:Ix}{S:Sx}{B E x:Nat}{L:List (List Nat)}{lane:Int}{s:St}{b:Nat}{y o:Bool}{v:ByteArray}(q:SB w i S B E x y v o)(h:LT w i S B E L lane s b)(v':ByteArray)(o':Bool):
 SB ((w.setCell ⟨x,1,none⟩ (.string v')).setCell ⟨x,2,none⟩ (.bool o')) i S B E x y v' o'/\LT ((w.setCell ⟨x,1,none⟩ (.string v')).setCell ⟨x,2,none⟩ (.bool o')) i S B E L lane s b/\Turn (λk=>k=x) w ((w.setCell ⟨x,1,none⟩ (.string v')).setCell ⟨x,2,none⟩ (.bool o')):=by
 have ht:Turn (λk=>k=x) w ((w.setCell ⟨x,1,none⟩ (.string v')).setCell ⟨x,2,none⟩ (.bool o')):=((Turn.refl (λk=>k=x) w).setCell (p:=⟨x,1,none⟩) (Or.inl rfl) _).setCell (p:=⟨x,2,none⟩) (Or.inl rfl) _;refine⟨⟨?_,q.out⟩,h.beside ht (λk hk e=>q.out (by rw[← (show k=x from e)];exact hk)),ht⟩;have k:=q.box;unfold LR.Box at k|-;have r1:(w.setCell ⟨x,1,none⟩ (.string v')).heap[x]?=some (.cells #[.bool y,.string v',.bool o] 41 (0,0)):=by rw[heap_setCell_same _ _ _ _ _ _ k];rfl
 rw[heap_setCell_same _ _ _ _ _ _ r1];rfl
theorem RQ.turn{w w':World}{i:Ix}{S:Sx}{B E n x:Nat}{key:ByteArray}(q:RQ w i S B E n key)(ht:Turn (λk=>k=x) w w')(h0:n≠x)(h1:n+1≠x)(h2:n+1+1≠x):RQ w' i S B E n key:=by
 refine⟨⟨?_,q.kl.out⟩,⟨?_,q.kk.out⟩,?_,q.rn⟩
 . exact(World.cell?_of_block (a:=⟨n,0,none⟩) (ht.block n (World.block_lt_of_cell? _ _ q.kl.cell) h0)).trans q.kl.cell
 . exact(World.cell?_of_block (a:=⟨n+1,0,none⟩) (ht.block (n+1) (World.block_lt_of_cell? _ _ q.kk.cell) h1)).trans q.kk.cell
 . exact(ht.block _ (heap_lt q.rb) h2).trans q.rb
theorem tpost_fin{i:Ix}{B E:Nat}{lane:Int}{w0 w1 w2:World}{S0 S1:Sx}{L0 L1:List (List Nat)}{s':St}{b' n:Nat}{v:Value}(h1:LT w2 i S1 B E L1 lane s' b')(hL:∀j,j≠lane->DR.lget L1 j=DR.lget L0 j)(g:Went w0 w1 (tblk i S0 B E) (tblk i S1 B E))(hn:w0.heap.size<=n)(ht:Turn (λk=>k=n) w1 w2):TPost v w0 i S0 B E L0 lane s' b' (.returned v) w2:=
 ⟨rfl,S1,L1,h1,hL,⟨g.new,g.turn.trans ht λk hk e=>by have e:k=n:=e;omega⟩⟩
section
variable(w:World)(i:Ix)(S:Sx)(B E:Nat)(L:List (List Nat))(lane:Int)(s:St)(b:Nat)(h:LT w i S B E L lane s b)
include h
set_option maxHeartbeats 2000000 in
theorem request_zero(key:ByteArray)(hm:s.mo=0)(hb:b<=96800):Calls Tryz.prog 113 #[.pointer (some ⟨i.l,0,none⟩),.string key] w (TPost (.agg #[.bool false,.string ⟨#[]⟩,.bool false]) w i S B E L lane s.tick (b+1)):=by
 obtain⟨q1,q2,q3⟩:=rq_start h key;have hcl:=h.lim.clock;have hw:=IntWalk.i64_in ((s.clock:Int)+1) (by omega);have Q1:=Lib.hid (And.intro q1 (And.intro q2 q3));clear h q1 q2 q3 hcl;go_enter Tryz.func113,Tryz.ntmps113;go_upto_region 1 with fail
 obtain⟨n,hn⟩:∃n,n=w.heap.size:=⟨_,rfl⟩;rw[← hn] at Q1|-;have HN:=Lib.hid (Nat.le_of_eq hn.symm);clear hn;generalize((w.alloc (.cells #[.pointer (some ⟨i.l,0,none⟩)] 86)).alloc (.cells #[.string key] 9)).alloc zSt=w1 at Q1|-;have c7:=Q1.out.1.cc;have f7:=Q1.out.1.fr 7;have k1:=Q1.out.2.1.kl.cell;obtain⟨z1,z2⟩:=rq_tick Q1.out.1;have Q2:=Lib.hid (And.intro z1 (And.intro (Q1.out.2.1.went z2) (Q1.out.2.2.trans z2)));clear Q1 z1 z2;go_upto_region 2 with fail
 generalize w1.setCell ⟨i.l,7,none⟩ (.int .i64 ((s.clock:Int)+1))=w2 at Q2|-;clear c7 f7 k1 hw w1;have k2:=Q2.out.2.1.kl.cell;have d1:=Q2.out.1.cm;rw[show s.tick.mo=0 from hm] at d1
 replace d1:w2.cell? ⟨i.l,1,none⟩=some (.int .i64 0):=d1
 obtain⟨r0,r1,r2,p1,p2⟩:=Q2.out.2.1.rb.cells;have p0:=frozen_of_row w2 _ 0 _ _ Q2.out.2.1.rb;obtain⟨e1,e2,e3⟩:=rq_end Q2.out.1 Q2.out.2.1 false ⟨#[]⟩ false;have FN:=Lib.hid (And.intro e1 (And.intro e2 e3));clear e1 e2 e3;go_wp2_with fail
 refine bodyPost_ret (LR.results_c rfl _ _ _ ⟨n+1+1,0,none⟩ _ rfl (LR.load_step FN.out.2.1)) rfl ?_;exact tpost_fin FN.out.1 (λ_ _=>rfl) Q2.out.2.2 (by have:=HN.out;omega) FN.out.2.2
set_option maxHeartbeats 4000000 in
theorem request_hit(key:ByteArray)(hs:key.size<=maxLen)(hk:s.has key=true)(hm:s.mo≠0)(hb:b<=96800):Calls Tryz.prog 113 #[.pointer (some ⟨i.l,0,none⟩),.string key] w (TPost (.agg #[.bool true,.string ⟨#[]⟩,.bool false]) w i S B E L lane (s.tick.onHit key).window (b+4)):=by
 have okh:=Lib.hid (onHit_ok (tick_ok h.ok) hm (inn_iff.1 hk)).1;obtain⟨q1,q2,q3⟩:=rq_start h key;have hcl:=h.lim.clock;have hw:=IntWalk.i64_in ((s.clock:Int)+1) (by omega);have Q1:=Lib.hid (And.intro q1 (And.intro q2 q3));clear h q1 q2 q3 hcl;go_enter Tryz.func113,Tryz.ntmps113;go_upto_region 1 with fail
 obtain⟨n,hn⟩:∃n,n=w.heap.size:=⟨_,rfl⟩;rw[← hn] at Q1|-;have HN:=Lib.hid (Nat.le_of_eq hn.symm);clear hn;generalize((w.alloc (.cells #[.pointer (some ⟨i.l,0,none⟩)] 86)).alloc (.cells #[.string key] 9)).alloc zSt=w1 at Q1|-;have c7:=Q1.out.1.cc;have f7:=Q1.out.1.fr 7;have k1:=Q1.out.2.1.kl.cell;obtain⟨z1,z2⟩:=rq_tick Q1.out.1;have Q2:=Lib.hid (And.intro z1 (And.intro (Q1.out.2.1.went z2) (Q1.out.2.2.trans z2)));clear Q1 z1 z2;go_upto_region 2 with fail
 generalize w1.setCell ⟨i.l,7,none⟩ (.int .i64 ((s.clock:Int)+1))=w2 at Q2|-;clear c7 f7 k1 hw w1;have k2:=Q2.out.2.1.kl.cell;have d1:=Q2.out.1.cm
 replace d1:w2.cell? ⟨i.l,1,none⟩=some (.int .i64 (s.mo:Int)):=d1
 have ne0:((s.mo:Int)==0)=false:=by simp;omega
 have ne1:(s.mo==0)=false:=by simpa using hm
 have kk:=Q2.out.2.1.kk.cell
 have U:=Lib.hid (show Calls Tryz.prog 107 #[.pointer (some ⟨i.l,0,none⟩),.string key] w2 (Told (.bool true) w2) from by
  have:=has_t w2 i S B E L lane s.tick (b+1) Q2.out.1 key hs;rw[show s.tick.has key=true from hk] at this;exact this)
 go_wp2_with fail
 refine U.out.mono ?_;rintro e w3 ⟨rfl,hB⟩;have Q3:=Lib.hid (And.intro (Q2.out.1.below hB) (And.intro (Q2.out.2.1.below hB) (Q2.out.2.2.trans (Went.below hB))));clear hB U Q2 d1 k2 kk;go_upto_region 5 with fail
 have hb3:=(Below.refl w3.heap.size w3).alloc (Nat.le_refl _) (.cells #[.bool true,.string ⟨#[]⟩,.bool false] 41);have Q4:=Lib.hid (And.intro (Q3.out.1.below hb3) (And.intro (Q3.out.2.1.below hb3) (Q3.out.2.2.trans (Went.below hb3))));have S4:=Lib.hid (show SB (w3.alloc (.cells #[.bool true,.string ⟨#[]⟩,.bool false] 41)) i S B E w3.heap.size true ⟨#[]⟩ false from⟨heap_alloc_new _ _,λe=>Nat.lt_irrefl _ (Q3.out.1.lt e)⟩);clear hb3 Q3;generalize w3.heap.size=x at S4|-;generalize w3.alloc (.cells #[.bool true,.string ⟨#[]⟩,.bool false] 41)=w4 at Q4 S4|-;obtain⟨s0,s1,s2,j1,j2⟩:=S4.out.box.cells;have k4:=Q4.out.2.1.kl.cell
 have BT:=Lib.hid (both_r w4 i S (flOf s.tick B lane) s.A s.B (s.A.req key) (s.B.req key) (gk s.HA) (gk s.HB) (fOf s.HA s.HB) (λ_=>b+1) (λ_=>b+1+1) 126 (n+1) (.string key) Q4.out.1.raw Q4.out.2.1.kk.cell (λe=>Q4.out.2.1.kk.out (Or.inl e)) cReqE (λ_ _=>Nat.le_succ _)
  (λw1 p U hP hx=>cReq w1 p U s.A (b+1) (n+1) key hP hx hs (by omega)) (λw1 p U hP hx=>cReq w1 p U s.B (b+1) (n+1) key hP hx hs (by omega)))
 go_wp2_with fail
 refine BT.out.mono ?_;rintro e w6 ⟨rfl,S5,r5,g5,_,_⟩;obtain⟨h6,g6⟩:=Q4.out.1.went (s':={s.tick with A:=s.A.req key,B:=s.B.req key}) (b':=b+2) r5 g5 {okh.out with} ⟨Q4.out.1.lim.mo,Nat.le_succ_of_le Q4.out.1.lim.clock,Nat.le_succ_of_le Q4.out.1.lim.asked,Nat.le_succ_of_le Q4.out.1.lim.hits,Nat.le_succ_of_le Q4.out.1.lim.last,Q4.out.1.lim.still⟩ rfl;have Q6:=Lib.hid (And.intro h6 (And.intro (Q4.out.2.1.went g6) (And.intro (Nat.le_refl 0) (Q4.out.2.2.trans g6))));have S6:=Lib.hid (S4.out.went g6);have Q4h:=Lib.hid (show s.hits<=b+1 from Q4.out.1.lim.hits);clear h6 g6 r5 g5 BT Q4 S4 s0 s1 s2 j1 j2 k4;obtain⟨t,ht⟩:∃t,t=({s.tick with A:=s.A.req key,B:=s.B.req key}:St):=⟨_,rfl⟩;have FF:=Lib.hid (show cnt t true=(s.tick.onHit key).window from by rw[ht];unfold cnt;rw[if_pos rfl];rfl);have CM:=Lib.hid (show(cnt t true).mo=t.mo from by unfold cnt;rw[if_pos rfl];exact(window_same _).2.1);rw[← ht] at Q6
 have F5:=Lib.hid (show t.six=false->LT w6 i S5 B E L lane ((s.tick.onHit key).window) (b+4) from λh6=>by
  rw[ht] at h6;rw[show(s.tick.onHit key).window=s.tick.onHit key from by unfold St.window;exact if_pos h6];have l:=(Q6.out.1.mono (show b+2<=b+4 by omega));rw[ht] at l;have hh:s.hits<=b+1:=Q4h.out;exact l.congr (s':=s.tick.onHit key) (by have e1:s.six=false:=h6;unfold flOf St.onHit St.tick;simp[e1]) rfl okh.out ⟨l.lim.mo,l.lim.clock,l.lim.asked,by show s.hits+1<=b+4;omega,l.lim.last,l.lim.still⟩ rfl)
 clear ht;generalize(s.tick.onHit key).window=fs at*;have k0:=Q6.out.1.kd;have kl6:=Q6.out.2.1.kl.cell;obtain⟨t0,t1,t2,_,_⟩:=S6.out.box.cells;cases h6:(t).six with
 |false=>
  rw[h6,if_neg (by simp)] at k0
  replace k0:w6.cell? ⟨i.l,0,none⟩=some (.int .i64 5):=k0
  have L7:=Lib.hid (F5.out h6);obtain⟨r0,r1,r2,p1,p2⟩:=Q6.out.2.1.rb.cells;have p0:=frozen_of_row w6 _ 0 _ _ Q6.out.2.1.rb;obtain⟨e1,e2,e3⟩:=rq_end L7.out Q6.out.2.1 true ⟨#[]⟩ false;have FN:=Lib.hid (And.intro e1 (And.intro e2 e3));have G6:=Lib.hid Q6.out.2.2;clear e1 e2 e3 L7 Q6 S6 h6;go_wp2_with fail
  refine bodyPost_ret (LR.results_c rfl _ _ _ ⟨n+1+1,0,none⟩ _ rfl (LR.load_step FN.out.2.1)) rfl ?_;exact tpost_fin FN.out.1 (λ_ _=>rfl) G6.out.2 (by have:=HN.out;omega) FN.out.2.2
 |true=>
  rw[h6,if_pos rfl] at k0
  replace k0:w6.cell? ⟨i.l,0,none⟩=some (.int .i64 6):=k0
  have m6:=Q6.out.1.cm;have hd:=Q6.out.1.below (FX.bdrew (Below.refl w6.heap.size w6) 1);have CT:=Lib.hid (show Calls Tryz.prog 129 #[.pointer (some ⟨i.l,9,none⟩),.bool true,.int .i64 ((t).mo:Int),nxF n] w6.drew (TPost (.tuple #[]) w6.drew i S5 B E L lane (cnt (t) true) (b+2+1)) from count_t w6.drew i S5 B E L lane (t) (b+2) hd n ⟨Q6.out.2.1.kl.cell,Q6.out.2.1.kl.out⟩ h6 true (by omega));clear hd h6;go_wp2_with fail
  go_region_held3(λw'=>w'.cell? ⟨n,0,none⟩=some (.pointer (some ⟨i.l,0,none⟩))/\w'.cell? ⟨x,0,none⟩=some (.bool true)/\w'.cell? ⟨i.l,1,none⟩=some (.int .i64 ((t).mo:Int))) (first|(with_reducible exact⟨y1,y2,y3⟩)|(with_reducible exact⟨kl6,t0,m6⟩)|go_keep)
   ((go_at_call 129;refine CT.out.mono ?_;rintro e w7 ⟨rfl,S7,L7,h7,hL7,g7⟩;have g67:=(Went.below (S:=tblk i S5 B E) ((Below.refl w6.heap.size w6).drew)).trans g7;have Q7:=Lib.hid (And.intro h7 (And.intro (Q6.out.2.1.went g67) (And.intro (λ(j:Int) (hj:j≠lane)=>hL7 j hj) (Q6.out.2.2.2.trans g67))));have S7':=Lib.hid (S6.out.went g67);have y1:=Q7.out.2.1.kl.cell;have y2:=S7'.out.box.cells.1;have y3:w7.cell? ⟨i.l,1,none⟩=some (.int .i64 ((t).mo:Int)):=(by have:=h7.cm;rw[CM.out] at this;exact this);clear h7 hL7 g7 g67 CT))
  clear y1 y2 y3 k0 kl6 t0 t1 t2 m6 CM;obtain⟨t0,t1,t2,_,_⟩:=S7'.out.box.cells;obtain⟨r0,r1,r2,p1,p2⟩:=Q7.out.2.1.rb.cells;have p0:=frozen_of_row w7 _ 0 _ _ Q7.out.2.1.rb;have LF:=Lib.hid (show LT w7 i S7 B E L7 lane fs (b+4) from by rw[← FF.out];exact Q7.out.1.mono (by omega));obtain⟨e1,e2,e3⟩:=rq_end LF.out Q7.out.2.1 true ⟨#[]⟩ false;have FN:=Lib.hid (And.intro e1 (And.intro e2 e3));have G6:=Lib.hid Q7.out.2.2;clear e1 e2 e3 Q7 S7' LF Q6 S6;go_wp2_with fail
  refine bodyPost_ret (LR.results_c rfl _ _ _ ⟨n+1+1,0,none⟩ _ rfl (LR.load_step FN.out.2.1)) rfl ?_;exact tpost_fin FN.out.1 G6.out.1 G6.out.2 (by have:=HN.out;omega) FN.out.2.2
set_option maxHeartbeats 4000000 in
theorem request_miss(key:ByteArray)(hs:key.size<=maxLen)(hk:s.has key=false)(hm:s.mo≠0)(hb:b<=96800):Calls Tryz.prog 113 #[.pointer (some ⟨i.l,0,none⟩),.string key] w (TPost (.agg #[.bool false,.string (fV s.tick key),.bool s.tick.full]) w i S B E L lane ((s.tick.make key).both key).window (b+4)):=by
 obtain⟨q1,q2,q3⟩:=rq_start h key;have hcl:=h.lim.clock;have hw:=IntWalk.i64_in ((s.clock:Int)+1) (by omega);have Q1:=Lib.hid (And.intro q1 (And.intro q2 q3));clear h q1 q2 q3 hcl;go_enter Tryz.func113,Tryz.ntmps113;go_upto_region 1 with fail
 obtain⟨n,hn⟩:∃n,n=w.heap.size:=⟨_,rfl⟩;rw[← hn] at Q1|-;have HN:=Lib.hid (Nat.le_of_eq hn.symm);clear hn;generalize((w.alloc (.cells #[.pointer (some ⟨i.l,0,none⟩)] 86)).alloc (.cells #[.string key] 9)).alloc zSt=w1 at Q1|-;have c7:=Q1.out.1.cc;have f7:=Q1.out.1.fr 7;have k1:=Q1.out.2.1.kl.cell;obtain⟨z1,z2⟩:=rq_tick Q1.out.1;have Q2:=Lib.hid (And.intro z1 (And.intro (Q1.out.2.1.went z2) (Q1.out.2.2.trans z2)));clear Q1 z1 z2;go_upto_region 2 with fail
 generalize w1.setCell ⟨i.l,7,none⟩ (.int .i64 ((s.clock:Int)+1))=w2 at Q2|-;clear c7 f7 k1 hw w1;have k2:=Q2.out.2.1.kl.cell;have d1:=Q2.out.1.cm
 replace d1:w2.cell? ⟨i.l,1,none⟩=some (.int .i64 (s.mo:Int)):=d1
 have ne0:((s.mo:Int)==0)=false:=by simp;omega
 have ne1:(s.mo==0)=false:=by simpa using hm
 have kk:=Q2.out.2.1.kk.cell
 have U:=Lib.hid (show Calls Tryz.prog 107 #[.pointer (some ⟨i.l,0,none⟩),.string key] w2 (Told (.bool false) w2) from by
  have:=has_t w2 i S B E L lane s.tick (b+1) Q2.out.1 key hs;rw[show s.tick.has key=false from hk] at this;exact this)
 go_wp2_with fail
 refine U.out.mono ?_;rintro e w3 ⟨rfl,hB⟩;have Q3:=Lib.hid (And.intro (Q2.out.1.below hB) (And.intro (Q2.out.2.1.below hB) (Q2.out.2.2.trans (Went.below hB))));clear hB U Q2 d1 k2 kk;go_upto_region 5 with fail
 have hb3:=(Below.refl w3.heap.size w3).alloc (Nat.le_refl _) (.cells #[.bool false,.string ⟨#[]⟩,.bool false] 41);have Q4:=Lib.hid (And.intro (Q3.out.1.below hb3) (And.intro (Q3.out.2.1.below hb3) (Q3.out.2.2.trans (Went.below hb3))));have S4:=Lib.hid (show SB (w3.alloc (.cells #[.bool false,.string ⟨#[]⟩,.bool false] 41)) i S B E w3.heap.size false ⟨#[]⟩ false from⟨heap_alloc_new _ _,λe=>Nat.lt_irrefl _ (Q3.out.1.lt e)⟩);have Q3':=Lib.hid Q3.out.2.1;clear hb3 Q3;obtain⟨x,hx⟩:∃x,x=w3.heap.size:=⟨_,rfl⟩;have HX:=Lib.hid (show n < x/\n+1 < x/\n+1+1 < x from by rw[hx];exact⟨World.block_lt_of_cell? _ _ Q3'.out.kl.cell,World.block_lt_of_cell? _ _ Q3'.out.kk.cell,heap_lt Q3'.out.rb⟩);rw[← hx] at S4|-;clear hx Q3';generalize w3.alloc (.cells #[.bool false,.string ⟨#[]⟩,.bool false] 41)=w4 at Q4 S4|-;obtain⟨s0,s1,s2,j1,j2⟩:=S4.out.box.cells;have k4:=Q4.out.2.1.kl.cell;have FE:=Lib.hid (fetch_t w4 i S B E L lane s.tick (b+1) Q4.out.1 key hs (inn_no.1 hk) hm (by omega));generalize fV s.tick key=vk at*;generalize s.tick.full=ob at*;have kk4:=Q4.out.2.1.kk.cell;go_wp2_with fail
 refine FE.out.mono ?_;rintro e w5 ⟨rfl,S5,L5,h5,hL5,g5⟩;have R5:=Q4.out.2.1.went g5;have B5:=S4.out.went g5;obtain⟨u0,u1,u2,v1,v2⟩:=B5.box.cells;obtain⟨b6,h6,ht6⟩:=B5.put h5 vk ob;have R6:=R5.turn ht6 (by have:=HX.out;omega) (by have:=HX.out;omega) (by have:=HX.out;omega);have hx0:w.heap.size<=x:=by have:=HX.out;have:=HN.out;omega
 have G6:Went w ((w5.setCell ⟨x,1,none⟩ (.string vk)).setCell ⟨x,2,none⟩ (.bool ob)) (tblk i S B E) (tblk i S5 B E):=⟨(Q4.out.2.2.trans g5).new,(Q4.out.2.2.trans g5).turn.trans ht6 λk hk e=>by have e:k=x:=e;omega⟩;have Q6:=Lib.hid (And.intro h6 (And.intro R6 (And.intro hL5 G6)));have S6:=Lib.hid b6;clear h5 hL5 g5 R5 B5 b6 h6 ht6 R6 G6 FE Q4 S4 s0 s1 s2 j1 j2 k4 kk4;go_upto_region 8 with fail
 generalize(w5.setCell ⟨x,1,none⟩ (.string vk)).setCell ⟨x,2,none⟩ (.bool ob)=w6 at Q6 S6|-;clear u0 u1 u2 v1 v2;obtain⟨t,ht⟩:∃t,t=(s.tick.make key).both key:=⟨_,rfl⟩;have FF:=Lib.hid (show cnt t false=((s.tick.make key).both key).window from by rw[ht];unfold cnt;rw[if_neg (by simp)]);have CM:=Lib.hid (show(cnt t false).mo=t.mo from by unfold cnt;rw[if_neg (by simp)];exact(window_same _).2.1);rw[← ht] at Q6
 have F5:=Lib.hid (show t.six=false->LT w6 i S5 B E L5 lane (((s.tick.make key).both key).window) (b+4) from λh6=>by
  rw[ht] at h6;rw[show((s.tick.make key).both key).window=(s.tick.make key).both key from by unfold St.window;exact if_pos h6];have l:=(Q6.out.1.mono (show b+1+2<=b+4 by omega));rw[ht] at l;exact l)
 clear ht;generalize((s.tick.make key).both key).window=fs at*;have k0:=Q6.out.1.kd;have kl6:=Q6.out.2.1.kl.cell;obtain⟨t0,t1,t2,_,_⟩:=S6.out.box.cells;cases h6:(t).six with
 |false=>
  rw[h6,if_neg (by simp)] at k0
  replace k0:w6.cell? ⟨i.l,0,none⟩=some (.int .i64 5):=k0
  have L7:=Lib.hid (F5.out h6);obtain⟨r0,r1,r2,p1,p2⟩:=Q6.out.2.1.rb.cells;have p0:=frozen_of_row w6 _ 0 _ _ Q6.out.2.1.rb;obtain⟨e1,e2,e3⟩:=rq_end L7.out Q6.out.2.1 false vk ob;have FN:=Lib.hid (And.intro e1 (And.intro e2 e3));have G6:=Lib.hid Q6.out.2.2;clear e1 e2 e3 L7 Q6 S6 h6;go_wp2_with fail
  refine bodyPost_ret (LR.results_c rfl _ _ _ ⟨n+1+1,0,none⟩ _ rfl (LR.load_step FN.out.2.1)) rfl ?_;exact tpost_fin FN.out.1 (G6.out.1) G6.out.2 (by have:=HN.out;omega) FN.out.2.2
 |true=>
  rw[h6,if_pos rfl] at k0
  replace k0:w6.cell? ⟨i.l,0,none⟩=some (.int .i64 6):=k0
  have m6:=Q6.out.1.cm;have hd:=Q6.out.1.below (FX.bdrew (Below.refl w6.heap.size w6) 1);have CT:=Lib.hid (show Calls Tryz.prog 129 #[.pointer (some ⟨i.l,9,none⟩),.bool false,.int .i64 ((t).mo:Int),nxF n] w6.drew (TPost (.tuple #[]) w6.drew i S5 B E L5 lane (cnt (t) false) (b+1+2+1)) from count_t w6.drew i S5 B E L5 lane (t) (b+1+2) hd n ⟨Q6.out.2.1.kl.cell,Q6.out.2.1.kl.out⟩ h6 false (by omega));clear hd h6;go_wp2_with fail
  go_region_held3(λw'=>w'.cell? ⟨n,0,none⟩=some (.pointer (some ⟨i.l,0,none⟩))/\w'.cell? ⟨x,0,none⟩=some (.bool false)/\w'.cell? ⟨i.l,1,none⟩=some (.int .i64 ((t).mo:Int))) (first|(with_reducible exact⟨y1,y2,y3⟩)|(with_reducible exact⟨kl6,t0,m6⟩)|go_keep)
   ((go_at_call 129;refine CT.out.mono ?_;rintro e w7 ⟨rfl,S7,L7,h7,hL7,g7⟩;have g67:=(Went.below (S:=tblk i S5 B E) ((Below.refl w6.heap.size w6).drew)).trans g7;have Q7:=Lib.hid (And.intro h7 (And.intro (Q6.out.2.1.went g67) (And.intro (λ(j:Int) (hj:j≠lane)=>(hL7 j hj).trans (Q6.out.2.2.1 j hj)) (Q6.out.2.2.2.trans g67))));have S7':=Lib.hid (S6.out.went g67);have y1:=Q7.out.2.1.kl.cell;have y2:=S7'.out.box.cells.1;have y3:w7.cell? ⟨i.l,1,none⟩=some (.int .i64 ((t).mo:Int)):=(by have:=h7.cm;rw[CM.out] at this;exact this);clear h7 hL7 g7 g67 CT))
  clear y1 y2 y3 k0 kl6 t0 t1 t2 m6 CM;obtain⟨t0,t1,t2,_,_⟩:=S7'.out.box.cells;obtain⟨r0,r1,r2,p1,p2⟩:=Q7.out.2.1.rb.cells;have p0:=frozen_of_row w7 _ 0 _ _ Q7.out.2.1.rb;have LF:=Lib.hid (show LT w7 i S7 B E L7 lane fs (b+4) from by rw[← FF.out];exact Q7.out.1.mono (by omega));obtain⟨e1,e2,e3⟩:=rq_end LF.out Q7.out.2.1 false vk ob;have FN:=Lib.hid (And.intro e1 (And.intro e2 e3));have G6:=Lib.hid Q7.out.2.2;clear e1 e2 e3 Q7 S7' LF Q6 S6;go_wp2_with fail
  refine bodyPost_ret (LR.results_c rfl _ _ _ ⟨n+1+1,0,none⟩ _ rfl (LR.load_step FN.out.2.1)) rfl ?_;exact tpost_fin FN.out.1 G6.out.1 G6.out.2 (by have:=HN.out;omega) FN.out.2.2
end
end Go.Proofs.YtdmmciggopmglaaGreatDoor.LE
set_option maxRecDepth 20000
namespace Go.Proofs.YtdmmciggopmglaaGreatDoor.LE
open Go.RowKit Go.Maps Go.WideMaps Sg
def fgt(s:St)(k:ByteArray):St:={s with HA:=wo s.HA k,HB:=wo s.HB k}
theorem fgt_ok{s:St}(h:Ok s)(k:ByteArray):Ok (fgt s k):=by
 have r:=regret_ok h k;exact{h with nd:=r.nd,dis:=λx hx=>r.dis x hx,lA:=r.lA,lB:=r.lB,old:=r.old}
theorem fgt_parts(s:St)(k:ByteArray):pOf (fgt s k)=pts s.A s.B (rem (gk s.HA) k) (rem (gk s.HB) k) (fdel (fOf s.HA s.HB) k):=by
 unfold pOf fgt;rw[gk_wo,gk_wo,fOf_wo]
theorem rm_fgt(s:St)(k:ByteArray):s.rm k=fgt (s.out k) k:=rfl
section
variable(w:World)(i:Ix)(S:Sx)(B E:Nat)(L:List (List Nat))(lane:Int)(s:St)(b:Nat)(h:LT w i S B E L lane s b)
include h
theorem forget_t(key:ByteArray)(hs:key.size<=maxLen):Calls Tryz.prog 119 #[.pointer (some ⟨i.l,0,none⟩),.string key] w (TPost (.tuple #[]) w i S B E L lane (fgt s key) b):=by
 refine(forget_r w i S (flOf s B lane) s.A s.B (gk s.HA) (gk s.HB) (fOf s.HA s.HB) (λ_=>b) h.raw key hs).mono λe w' hp=>?_;rw[← fgt_parts] at hp;have l:=h.lim;exact h.post (s':=fgt s key) (b':=b) hp (fgt_ok h.ok key) ⟨l.mo,l.clock,l.asked,l.hits,l.last,l.still⟩ rfl
set_option maxHeartbeats 2000000 in
theorem remove_t(key:ByteArray)(hs:key.size<=maxLen):Calls Tryz.prog 112 #[.pointer (some ⟨i.l,0,none⟩),.string key] w (TPost (.bool (s.has key)) w i S B E L lane (s.rm key) b):=by
 have hb1:=(Below.refl w.heap.size w).alloc (Nat.le_refl _) (.cells #[.string key] 9);have H1:=Lib.hid (h.below hb1);have X1:=Lib.hid (show KB (w.alloc (.cells #[.string key] 9)) i S B E w.heap.size (.string key) from⟨sbox_new w _ _,λe=>Nat.lt_irrefl _ (h.lt e)⟩);have x1:=X1.out.cell;have W1:=Lib.hid (Went.below (S:=tblk i S B E) hb1);have V:=Lib.hid (has_t _ i S B E L lane s b H1.out key hs);have HF:=Lib.hid (λ(w2:World) (S2:Sx) (h2:LT w2 i S2 B E L lane (s.out key) b)=>forget_t w2 i S2 B E L lane (s.out key) b h2 key hs)
 have BTH:=Lib.hid (λ(w4:World) (h4:LT w4 i S B E L lane s b) (k4:KB w4 i S B E w.heap.size (.string key))=>
  show Calls Tryz.prog 116 #[.pointer (some ⟨i.l,0,none⟩),.func (.func 124) #[] #[.pointer (some ⟨w.heap.size,0,none⟩)]] w4 (λe w5=>TPost (.tuple #[]) w4 i S B E L lane (s.out key) b e w5/\w5.cell? ⟨w.heap.size,0,none⟩=some (.string key)) from
  (both_r w4 i S (flOf s B lane) s.A s.B (s.A.rm key) (s.B.rm key) (gk s.HA) (gk s.HB) (fOf s.HA s.HB) (λ_=>b) (λ_=>b) 124 w.heap.size (.string key) h4.raw k4.cell (λe=>k4.out (Or.inl e)) cRmRE (λ_ _=>Nat.le_refl _)
    (λw1 p U hP hx=>cRmR w1 p U s.A b w.heap.size key hP hx hs) (λw1 p U hP hx=>cRmR w1 p U s.B b w.heap.size key hP hx hs)).mono λe w5 hp=>by
      obtain⟨he,S5,r5,g5,_,hc⟩:=hp;have l:=h4.lim;exact⟨h4.post (s':=s.out key) (b':=b) ⟨he,S5,r5,g5⟩ (out_ok h4.ok key) ⟨l.mo,l.clock,l.asked,l.hits,l.last,l.still⟩ rfl,hc⟩)
 rw[rm_fgt];generalize s.has key=hv at*;clear h hb1;go_enter Tryz.func112,Tryz.ntmps112;go_wp2_with fail
 refine V.out.mono ?_;rintro e w2 ⟨rfl,hB⟩;have H2:=Lib.hid (H1.out.below hB);have X2:=Lib.hid (X1.out.below hB);have W2:=Lib.hid (W1.out.trans (Went.below (S:=tblk i S B E) hB));have x2:=X2.out.cell;clear hB H1 X1 W1 V x1;go_wp2_with fail
 refine(BTH.out w2 H2.out X2.out).mono ?_;rintro e w3 ⟨⟨rfl,S3,L3,h3,hL3,g3⟩,x3⟩;have P3:=Lib.hid (And.intro h3 (And.intro hL3 (W2.out.trans g3)));clear h3 hL3 g3 BTH H2 X2 W2 x2;go_wp2_with fail
 refine(forget_t w3 i S3 B E L3 lane (s.out key) b P3.out.1 key hs).mono ?_;intro e w4 hp;obtain⟨rfl,h4⟩:=TPost.trans P3.out.2.2 P3.out.2.1 hp;have H4:=Lib.hid h4;clear h4 hp P3 HF x3;go_wp2_with fail
 go_ret;exact⟨rfl,H4.out⟩
end
end Go.Proofs.YtdmmciggopmglaaGreatDoor.LE
