/- Lq Ly Rs10, in one text. -/
import Derived.Test.YtdmmciggopmglaaGreatDoorY9
import Derived.Test.YtdmmciggopmglaaGreatDoorY4
import Derived.Test.YtdmmciggopmglaaGreatDoorY6
import Derived.Deep.RegionHeld3
set_option maxRecDepth 20000
namespace Go.Proofs.YtdmmciggopmglaaGreatDoor.LE
open Go.RowKit Go.Maps Go.WideMaps Sg
theorem TPost.mono{w w':World}{i:Ix}{S:Sx}{B E:Nat}{L:List (List Nat)}{lane:Int}{s:St}{b b':Nat}{v:Value}{e:Ending}(h:TPost v w i S B E L lane s b e w')(hb:b<=b'):TPost v w i S B E L lane s b' e w':=by
 obtain⟨he,S',L',h1,h2,h3⟩:=h;exact⟨he,S',L',h1.mono hb,h2,h3⟩
theorem zero_keys{s:St}(h:Ok s)(hm:s.mo=0):s.keys= []:=by
 have:=h.le;exact List.eq_nil_of_length_eq_zero (by show s.A.keys.length=0;omega)
theorem request_t(w:World)(i:Ix)(S:Sx)(B E:Nat)(L:List (List Nat))(lane:Int)(s:St)(b:Nat)(h:LT w i S B E L lane s b)(key:ByteArray)(hs:key.size<=maxLen)(hb:b<=96800):
 Calls Tryz.prog 113 #[.pointer (some ⟨i.l,0,none⟩),.string key] w (TPost (s.step key) w i S B E L lane (s.req key) (b+4)):=by
 by_cases hm:s.mo=0
 . have hk:s.has key=false:=inn_no.2 (by rw[show s.A.keys= [] from zero_keys h.ok hm];simp);have e1:s.outB key=false:=by unfold St.outB;rw[hm];simp
   have e2:s.step key= .agg #[.bool false,.string ⟨#[]⟩,.bool false]:=by unfold St.step St.vicV;rw[e1,hk,if_neg (by simp)]
   have e3:s.req key=s.tick:=by unfold St.req;rw[if_pos hm]
   rw[e2,e3];exact(request_zero w i S B E L lane s b h key hm hb).mono λe w' hp=>hp.mono (by omega)
 . cases hk:s.has key with
   |true=>
    have e1:s.outB key=false:=by unfold St.outB;rw[hk];rfl
    have e2:s.step key= .agg #[.bool true,.string ⟨#[]⟩,.bool false]:=by unfold St.step St.vicV;rw[e1,hk,if_neg (by simp)]
    rw[e2,req_hit hm hk];exact request_hit w i S B E L lane s b h key hs hk hm hb
   |false=>
    have e1:s.outB key=s.tick.full:=by unfold St.outB;rw[hk,decide_eq_true hm];rfl
    have e2:s.step key= .agg #[.bool false,.string (fV s.tick key),.bool s.tick.full]:=by unfold St.step St.vicV;rw[e1,hk];rfl
    rw[e2,req_miss hm hk];exact request_miss w i S B E L lane s b h key hs hk hm hb
def LC(w:World)(l:Nat)(T:Nat->Prop)(s:St)(b:Nat):Prop:=∃i S B E L,i.l=l/\T=tblk i S B E/\LT w i S B E L 0 s b
section
variable{w w':World}{l b b':Nat}{T T':Nat->Prop}{s s':St}{v:Value}{e:Ending}
end
section
variable(w:World)(l:Nat)(T:Nat->Prop)(s:St)(b:Nat)(h:LC w l T s b)
include h
end
section
variable{w0 w w':World}{l b b':Nat}{T T':Nat->Prop}{s s':St}{xs:List ByteArray}{r v:Value}{e:Ending}
end
end Go.Proofs.YtdmmciggopmglaaGreatDoor.LE
set_option maxRecDepth 20000
namespace Go.Proofs.YtdmmciggopmglaaGreatDoor.LE
open Go.RowKit Go.Maps Go.WideMaps Sg
theorem fgt_none{s:St}{k:ByteArray}(h:k∉s.ghosts):fgt s k=s:=by
 have h1:k∉gk s.HA:=λe=>h (List.mem_append_left _ e);have h2:k∉gk s.HB:=λe=>h (List.mem_append_right _ e)
 have e:∀{H:List (ByteArray × Nat)},k∉gk H->wo H k=H:=by
  intro H hk;unfold wo;refine List.filter_eq_self.2 λp hp=>?_;exact decide_eq_true λe=>hk (e▸List.mem_map_of_mem (f:=Prod.fst) hp)
 unfold fgt;rw[e h1,e h2]
theorem dr_rm{s:St}(h:Ok s)(ha:s.any=true):s.dr=s.rm s.vic:=by
 rw[rm_fgt];unfold St.dr;rw[if_pos ha,fgt_none];exact h.dis _ ((lead_ok h).2 ha)
theorem dr_none{s:St}(ha:s.any=false):s.dr=s:=by unfold St.dr;rw[if_neg (by rw[ha];simp)]
section
variable(w:World)(i:Ix)(S:Sx)(B E:Nat)(L:List (List Nat))(lane:Int)(s:St)(b:Nat)(h:LT w i S B E L lane s b)
include h
theorem drop_t:Calls Tryz.prog 105 #[.pointer (some ⟨i.l,0,none⟩)] w (TPost (.tuple #[.string s.vic,.bool s.any]) w i S B E L lane s.dr b):=by
 have V:=Lib.hid (victim_t w i S B E L lane s b h);have HH:=Lib.hid h;have W0:=Lib.hid (λ(w2:World) (hB:Below w.heap.size w w2)=>Went.below (S:=tblk i S B E) hB);cases ha:s.any with
 |true=>
  have e:=dr_rm h.ok ha;have hs:=h.raw.pa.small s.vic ((lead_ok h.ok).2 ha);rw[e];rw[ha] at V;have R:=Lib.hid (λ(w2:World) (hB:Below w.heap.size w w2)=>remove_t w2 i S B E L lane s b (HH.out.below hB) s.vic hs);generalize s.rm s.vic=s2 at*;generalize s.vic=vk at*;generalize s.has vk=hv at*;clear h e ha hs;go_enter Tryz.func105,Tryz.ntmps105;go_wp2_with fail
  refine V.out.mono ?_;rintro e w2 ⟨rfl,hB⟩;have R2:=Lib.hid (R.out w2 hB);have W2:=Lib.hid (W0.out w2 hB);clear hB V R W0;go_wp2_with fail
  refine R2.out.mono ?_;intro e w3 hp;obtain⟨rfl,h3⟩:=TPost.trans W2.out (λ_ _=>rfl) hp;have H3:=Lib.hid h3;clear hp h3 R2 W2;go_wp2_with fail
  go_ret2
  exact⟨rfl,H3.out⟩
 |false=>
  rw[dr_none ha];rw[ha] at V;generalize s.vic=vk at*;clear h ha;go_enter Tryz.func105,Tryz.ntmps105;go_wp2_with fail
  refine V.out.mono ?_;rintro e w2 ⟨rfl,hB⟩;have W2:=Lib.hid (And.intro (W0.out w2 hB) (HH.out.below hB));clear hB V;go_wp2_with fail
  go_ret2
  exact⟨rfl,S,L,W2.out.2,λ_ _=>rfl,W2.out.1⟩
end
section
variable(w:World)(l:Nat)(T:Nat->Prop)(s:St)(b:Nat)(h:LC w l T s b)
include h
end
end Go.Proofs.YtdmmciggopmglaaGreatDoor.LE
set_option maxRecDepth 20000
namespace Go.Proofs.YtdmmciggopmglaaGreatDoor.LE
open Go.RowKit Go.Maps Go.WideMaps Sg
theorem drn_snoc:∀(k:Nat) (s:St),St.drn (k+1) s=(St.drn k s).dr
 |0,_=>rfl
 |k+1,s=>drn_snoc k s.dr
theorem outs_snoc:∀(k:Nat) (s:St),St.outs (k+1) s=St.outs k s++ [(St.drn k s).vic]
 |0,_=>rfl
 |k+1,s=>by
  show s.vic::St.outs (k+1) s.dr=s.vic::(St.outs k s.dr++ [(St.drn k s.dr).vic]);rw[outs_snoc k s.dr]
structure RsA(w:World)(i:Ix)(S:Sx)(B E:Nat)(L:List (List Nat))(lane:Int)(s:St)(b n k:Nat)(W:World)(v:Value)(S1:Sx)(L1:List (List Nat)):Prop where
 lt:LT W i S1 B E L1 lane (St.drn k s) b
 lan:∀j,j≠lane->DR.lget L1 j=DR.lget L j
 wen:Went w W (tblk i S B E) (tblk i S1 B E)
 own:Own W (w.heap.size+1) v (St.outs k s)
 out:∀g,v.ownBlock=some g->¬tblk i S1 B E g
 box:KB W i S1 B E w.heap.size (.int .i64 (n:Int))
section
variable{w W W':World}{i:Ix}{S S1:Sx}{B E b n k:Nat}{L L1:List (List Nat)}{lane:Int}{s:St}{v:Value}{e:Ending}
theorem RsA.below(q:RsA w i S B E L lane s b n k W v S1 L1)(hb:Below W.heap.size W W'):RsA w i S B E L lane s b n k W' v S1 L1:=
 ⟨q.lt.below hb,q.lan,q.wen.trans (Went.below hb),q.own.below hb,q.out,q.box.below hb⟩
theorem RsA.dropped(q:RsA w i S B E L lane s b n k W v S1 L1){r:Value}(hp:TPost r W i S1 B E L1 lane (St.drn k s).dr b e W'):
 e= .returned r/\∃S2 L2,LT W' i S2 B E L2 lane (St.drn (k+1) s) b/\(∀j,j≠lane->DR.lget L2 j=DR.lget L j)/\Went w W' (tblk i S B E) (tblk i S2 B E)/\Own W' (w.heap.size+1) v (St.outs k s)/\(∀g,v.ownBlock=some g->¬tblk i S2 B E g)/\KB W' i S2 B E w.heap.size (.int .i64 (n:Int)):=by
 obtain⟨he,S2,L2,h1,h2,h3⟩:=hp;rw[← drn_snoc] at h1;refine⟨he,S2,L2,h1,λj hj=>(h2 j hj).trans (q.lan j hj),q.wen.trans h3,q.own.same λg hg=>h3.turn.block g (q.own.lt hg).1 (q.out g hg),λg hg hk=>?_,q.box.went h3⟩;rcases h3.new g hk with h|h
 . exact q.out g hg h
 . have:=(q.own.lt hg).1;omega
theorem RsA.noted{S2:Sx}{L2:List (List Nat)}(h1:LT W i S2 B E L2 lane (St.drn (k+1) s) b)(h2:∀j,j≠lane->DR.lget L2 j=DR.lget L j)(h3:Went w W (tblk i S B E) (tblk i S2 B E))(h4:Own W (w.heap.size+1) v (St.outs k s))(h5:∀g,v.ownBlock=some g->¬tblk i S2 B E g)(h6:KB W i S2 B E w.heap.size (.int .i64 (n:Int)))
 (hx:(St.drn k s).vic.size<=maxLen) (hl:(St.outs k s).length<=199999):
 ∃(A:Option Addr) (cap:Nat) (w2:World),(Builtin.append_ #[23,23] 23 #[v,.slice (some ⟨W.heap.size,0,none⟩) 1 1]).run Tryz.prog (W.alloc (.cells #[.string (St.drn k s).vic] 9))= .ok (.slice A ((St.outs k s).length+1) cap) w2/\
  RsA w i S B E L lane s b n (k+1) w2 (.slice A ((St.outs k s).length+1) cap) S2 L2:=by
 have hsz:w.heap.size+1<=W.heap.size:=World.block_lt_of_cell? _ _ h6.cell;obtain⟨A,cap,w2,hrun,hO,hG,hloc⟩:=LR.app_at h4 _ hx hl hsz;have tn:Turn (λk=>v.ownBlock=some k) W w2:=⟨hG.os,hG.tape,hG.output,hG.size,λk hk hn=>hG.block k hk (λe=>hn e.symm)⟩;have nb:∀g,tblk i S2 B E g->¬v.ownBlock=some g:=λg hg hv=>h5 g hv hg;have ln:=h1.beside tn nb;refine⟨A,cap,w2,hrun,⟨ln,h2,⟨λg hg=>h3.new g hg,?_⟩,by rw[outs_snoc];exact hO,λg hg hk=>?_,⟨?_,h6.out⟩⟩⟩
 . have t3:=h3.turn;refine⟨hG.os.trans t3.os,hG.tape.trans t3.tape,hG.output.trans t3.output,Nat.le_trans t3.size hG.size,λg hg hn=>(tn.block g (Nat.lt_of_lt_of_le hg t3.size) λe=>?_).trans (t3.block g hg hn)⟩;have:=(h4.lt e).2;omega
 . rcases hloc g hg with h|h
   . exact h5 g h hk
   . have:=h1.lt hk;omega
 . refine(World.cell?_of_block (a:=⟨w.heap.size,0,none⟩) (tn.block w.heap.size (World.block_lt_of_cell? _ _ h6.cell) λe=>?_)).trans h6.cell;have:=(h4.lt e).2;omega
end
theorem sized_parts{s:St}(h:Ok s)(n:Nat):pOf (s.sized n)=pts (s.A.rs n) (s.B.rs n) ((gk s.HA).take n) ((gk s.HB).take n) (fcut (fcut (fOf s.HA s.HB) ((gk s.HA).drop n)) ((gk s.HB).drop n)):=by
 have nd2:(gk (s.HA.take n)++gk s.HB).Nodup:=by
  rw[gk_take];exact List.Nodup.sublist (List.Sublist.append (List.take_sublist _ _) (List.Sublist.refl _)) h.nd
 show pts (s.A.rs n) (s.B.rs n) (gk (s.HA.take n)) (gk (s.HB.take n)) (fOf (s.HA.take n) (s.HB.take n))=_;rw[fOf_takeB nd2,fOf_takeA h.nd,gk_take,gk_take,gk_drop,gk_drop]
def RsP(w:World)(i:Ix)(S:Sx)(B E:Nat)(L:List (List Nat))(lane:Int)(s:St)(b n:Nat)(e:Ending)(w':World):Prop:=
 ∃v S1 L1,e= .returned (.tuple #[v,.nilIface])/\LT w' i S1 B E L1 lane (s.rs n) b/\(∀j,j≠lane->DR.lget L1 j=DR.lget L j)/\Went w w' (tblk i S B E) (tblk i S1 B E)/\Own w' w.heap.size v (s.gone n)/\∀g,v.ownBlock=some g->¬tblk i S1 B E g
section
variable{w W W':World}{i:Ix}{S S1:Sx}{B E b n:Nat}{L L1:List (List Nat)}{lane:Int}{s:St}{v:Value}{e:Ending}
theorem RsA.done(q:RsA w i S B E L lane s b n (s.A.keys.length - n) W v S1 L1){r:Value}(hp:TPost r W i S1 B E L1 lane (s.rs n) b e W'):RsP w i S B E L lane s b n (.returned (.tuple #[v,.nilIface])) W':=by
 obtain⟨_,S2,L2,h1,h2,h3⟩:=hp;refine⟨v,S2,L2,rfl,h1,λj hj=>(h2 j hj).trans (q.lan j hj),q.wen.trans h3,(q.own.same λg hg=>h3.turn.block g (q.own.lt hg).1 (q.out g hg)).mono (Nat.le_succ _),λg hg hk=>?_⟩;rcases h3.new g hk with h|h
 . exact q.out g hg h
 . have:=(q.own.lt hg).1;omega
theorem rs_fin{s1:St}{S5:Sx}(h1:LT W i S1 B E L1 lane s1 b)(hW:Went W W' (blk i S1) (blk i S5))(r5:Raw W' i S5 {flOf s1 B lane with mo:=n} (pts (s1.A.rs n) (s1.B.rs n) ((gk s1.HA).take n) ((gk s1.HB).take n) (fcut (fcut (fOf s1.HA s1.HB) ((gk s1.HA).drop n)) ((gk s1.HB).drop n))) (λ_=>b))(ok:Ok (s1.sized n))(hn:n<=16777216):
 TPost (.tuple #[]) W i S1 B E L1 lane (s1.sized n) b (.returned (.tuple #[])) W':=by
 rw[← sized_parts h1.ok] at r5;have l:=h1.lim;exact h1.post (s':=s1.sized n) (b':=b) ⟨rfl,S5,r5,hW⟩ ok ⟨hn,l.clock,l.asked,l.hits,l.last,l.still⟩ rfl
end
def lenV2:Value->Nat| .slice _ n _=>n|_=>0
set_option maxHeartbeats 4000000 in
set_option maxRecDepth 100000 in
theorem resize_t(w:World)(i:Ix)(S:Sx)(B E:Nat)(L:List (List Nat))(lane:Int)(s:St)(b n:Nat)(h:LT w i S B E L lane s b)(hn:n<=16777216)(hb:b<=96800)(hkl:s.A.keys.length<=199999):
 Calls Tryz.prog 114 #[.pointer (some ⟨i.l,0,none⟩),.int .i64 (n:Int)] w (RsP w i S B E L lane s b n):=by
 have hb1:=(Below.refl w.heap.size w).alloc (Nat.le_refl _) (.cells #[.int .i64 (n:Int)] 3)
 have Q0:=Lib.hid (show RsA w i S B E L lane s b n 0 (w.alloc (.cells #[.int .i64 (n:Int)] 3)) (.slice none 0 0) S L from
  ⟨h.below hb1,λ_ _=>rfl,Went.below hb1,Own.nil _ _,λg hg=>(by cases hg),cell_of_row _ _ 0 _ _ _ (heap_alloc_new w (.cells #[.int .i64 (n:Int)] 3)),λe=>Nat.lt_irrefl _ (h.lt e)⟩)
 have IR:=Lib.hid (λw1=>show Calls Tryz.prog 53 #[.int .i64 (n:Int)] w1 (λe w'=>e= .returned (.bool true)/\w1=w') from by
  have:=isRoom_l w1 (n:Int);rw[decide_eq_true (by omega),decide_eq_true (by omega)] at this;exact this)
 obtain⟨M,hM⟩:∃m,m=s.A.keys.length - n:=⟨_,rfl⟩;have HM:=Lib.hid hM;have DF:=Lib.hid (λ(k:Nat) (hk:k<=s.A.keys.length)=>drn_f k h.ok hk);have RF:=Lib.hid (rs_f h.ok n).1;have KL:=Lib.hid hkl;clear h hb1 hM hkl;go_enter Tryz.func114,Tryz.ntmps114;go_upto_region 1 with fail
 generalize w.alloc (.cells #[.int .i64 (n:Int)] 3)=w1 at Q0|-;have c0:=Q0.out.box.cell;go_wp2_with fail
 refine(IR.out _).mono ?_;rintro e w1' ⟨rfl,rfl⟩;clear c0;go_wp2_with fail
 go_loopw [6] (λv W=>∃k S1 L1,k<=M/\lenV2 v=k/\RsA w i S B E L lane s b n k W v S1 L1) (λv _=>M - lenV2 v)
 case atStart=>exact⟨0,S,L,Nat.zero_le _,rfl,Q0.out⟩
 case round=>
  obtain⟨k,S1,L1,hk,hlv,hQ⟩:=hrel;have Q:=Lib.hid hQ;obtain⟨d1,d2,d3,_,_,_⟩:=DF.out k (by have:=HM.out;omega);obtain⟨kl,hkl⟩:∃m,m=(St.drn k s).keys.length:=⟨_,rfl⟩;have D:=Lib.hid (And.intro d1 (And.intro d2 (And.intro d3 hkl)));have V:=len_t wr.drew i S1 B E L1 lane (St.drn k s) b (hQ.lt.below (FX.bdrew (Below.refl _ _) 1));rw[← hkl] at V;have V:=Lib.hid V;have c0:=hQ.box.cell;have ways:n < kl\/¬n < kl:=by omega
  have WAYS:=Lib.hid ways;clear hQ Q0 d1 d2 d3 hkl ways;rcases WAYS.out with hw|hw
  . have e0:decide ((n:Int) < (kl:Int))=true:=decide_eq_true (by omega);have e1:decide (n < kl)=true:=decide_eq_true hw;have HW:=Lib.hid hw;clear hw WAYS;go_wp2_with fail
    go_region_held3(λw'=>w'.cell? ⟨w.heap.size,0,none⟩=some (.int .i64 (n:Int))) (first|(with_reducible exact y1)|(with_reducible exact c0)|go_keep)
     ((go_at_call 110;refine V.out.mono ?_;rintro e w3 ⟨rfl,hB⟩;have Q3:=Lib.hid (Q.out.below (((Below.refl wr.heap.size wr).drew).trans hB));have y1:w3.cell? ⟨w.heap.size,0,none⟩=some (.int .i64 (n:Int)):=Q3.out.box.cell;clear hB V))
    clear y1 c0 Q e0 e1
    have hne:(St.drn k s).any=true/\(St.drn k s).vic.size<=maxLen:=by
     have l:=lead_ok Q3.out.lt.ok
     have ha:(St.drn k s).any=true:=by
      rw[l.1];cases hk2:(St.drn k s).A.keys with
      |nil=>
       have h1:=D.out.2.2.2;have h2:(St.drn k s).keys= []:=hk2;rw[h2] at h1;have:=HW.out;rw[h1] at this;exact absurd this (by simp)
      |cons x xs=>rfl
     exact⟨ha,Q3.out.lt.raw.pa.small _ (l.2 ha)⟩
    have VS:=Lib.hid hne;have DR1:=Lib.hid (drop_t w3 i S1 B E L1 lane (St.drn k s) b Q3.out.lt);clear hne;go_wp2_with fail
    refine DR1.out.mono ?_;intro e w4 hp;obtain⟨rfl,S2,L2,p1,p2,p3,p4,p5,p6⟩:=Q3.out.dropped hp;have hol:(St.outs k s).length<=199999:=by rw[D.out.2.1];have:=HM.out;have:=KL.out;omega
    obtain⟨A2,c2,w5,hrun,hN⟩:=RsA.noted p1 p2 p3 p4 p5 p6 VS.out.2 hol;rw[D.out.2.1] at hrun hN;have RUN:=Lib.hid hrun;have N5:=Lib.hid hN
    have KM:=Lib.hid (show k+1<=M/\k < M from by
     have h1:=D.out.2.2.1;have h2:=D.out.2.2.2;have h3:=HW.out;have h4:=HM.out;rw[← h2] at h1;have h5:s.keys.length=s.A.keys.length:=rfl;omega)
    clear hp p1 p2 p3 p4 p5 p6 hrun hN DR1 Q3 hol;generalize(St.drn k s).vic=vk at*;generalize(St.drn k s).any=va at*;go_wp2_with(at_builtin;refine wpList_append_run rfl _ _ _ rfl _ _ _ _ rfl rfl RUN.out ?_)
    go_roundw
    case rel=>exact⟨k+1,S2,L2,KM.out.1,rfl,N5.out⟩
    case measure=>
     have:=KM.out.2;show M - (k+1) < M - lenV2 _;rw[hlv];omega
  . have e0:decide ((n:Int) < (kl:Int))=false:=decide_eq_false (by omega);have e1:decide (n < kl)=false:=decide_eq_false hw
    have hkM:k=M:=by
     have h1:=D.out.2.2.1;have h2:=D.out.2.2.2;have h4:=HM.out;rw[← h2] at h1;have h5:s.keys.length=s.A.keys.length:=rfl;omega
    subst hkM;clear hw WAYS;go_wp2_with fail
    go_region_held3(λw'=>w'.cell? ⟨w.heap.size,0,none⟩=some (.int .i64 (n:Int))) (first|(with_reducible exact y1)|(with_reducible exact c0)|go_keep)
     ((go_at_call 110;refine V.out.mono ?_;rintro e w3 ⟨rfl,hB⟩;have Q3:=Lib.hid (Q.out.below (((Below.refl wr.heap.size wr).drew).trans hB));have y1:w3.cell? ⟨w.heap.size,0,none⟩=some (.int .i64 (n:Int)):=Q3.out.box.cell;clear hB V))
    clear c0 Q e0 e1;have h1:=Q3.out.lt;obtain⟨s1,hs1⟩:∃x,x=St.drn k s:=⟨_,rfl⟩;rw[← hs1] at h1;have H1:=Lib.hid h1;have SET:=Lib.hid (h1.raw.set (F':={flOf s1 B lane with mo:=n}) 1 (.int .i64 (n:Int)) rfl);have f1:=h1.raw.f 1;have cm:=h1.cm
    have ES:=Lib.hid (show s.rs n=s1.sized n from by
     show(St.drn (s.A.keys.length - n) s).sized n=_;rw[← HM.out,<-hs1])
    have QM:=Lib.hid (show RsA w i S B E L lane s b n (s.A.keys.length - n) w3 _ S1 L1 from HM.out▸Q3.out);have hxl:=World.block_lt_of_cell? _ _ y1;have CX:=Lib.hid (show(w3.setCell ⟨i.l,1,none⟩ (.int .i64 (n:Int))).cell? ⟨w.heap.size,0,none⟩=some (.int .i64 (n:Int)) from(World.cell?_of_block (a:=⟨w.heap.size,0,none⟩) (SET.out.2.turn.block w.heap.size hxl λe=>Q3.out.box.out (Or.inl e))).trans y1);have XO:=Lib.hid (show ¬blk i S1 w.heap.size from λe=>Q3.out.box.out (Or.inl e));clear h1 hs1 hxl D Q3;generalize St.drn k s=s0 at*;go_upto_region 8 with fail
    generalize w3.setCell ⟨i.l,1,none⟩ (.int .i64 (n:Int))=w4 at SET CX|-;clear cm f1 y1
    have BTH:=Lib.hid (both_r w4 i S1 {flOf s1 B lane with mo:=n} s1.A s1.B (s1.A.rs n) (s1.B.rs n) (gk s1.HA) (gk s1.HB) (fOf s1.HA s1.HB) (λ_=>b) (λ_=>b) 132 w.heap.size (.int .i64 (n:Int)) SET.out.1 CX.out XO.out cResE (λ_ _=>Nat.le_refl _)
     (λw1 p U hP hx=>cRes w1 p U s1.A b w.heap.size n hP hx (by omega) hn) (λw1 p U hP hx=>cRes w1 p U s1.B b w.heap.size n hP hx (by omega) hn))
    go_wp2_with fail
    refine BTH.out.mono ?_;rintro e w5 ⟨rfl,S5,r5,g5,_,_⟩;have R5:=Lib.hid (And.intro r5 (SET.out.2.trans g5));clear r5 g5 BTH SET CX;go_wp2_with fail
    refine(cut_r0 w5 i S5 _ _ _ _ _ _ _ R5.out.1).mono ?_;rintro e w6 ⟨rfl,S6,r6,g6⟩;have R6:=Lib.hid (And.intro r6 (R5.out.2.trans g6));clear r6 g6 R5;go_wp2_with fail
    refine(cut_r1 w6 i S6 _ _ _ _ _ _ _ R6.out.1).mono ?_;rintro e w7 ⟨rfl,S7,r7,g7⟩;have R7:=Lib.hid (And.intro r7 (R6.out.2.trans g7));clear r7 g7 R6
    have RES:=Lib.hid (QM.out.done (show TPost (.tuple #[]) w3 i S1 B E L1 lane (s.rs n) b (.returned (.tuple #[])) w7 from by
     rw[ES.out];exact rs_fin H1.out R7.out.2 R7.out.1 (by rw[← ES.out];exact RF.out) hn))
    clear R7;go_wp2_with fail
    go_ret2
    exact RES.out
end Go.Proofs.YtdmmciggopmglaaGreatDoor.LE
