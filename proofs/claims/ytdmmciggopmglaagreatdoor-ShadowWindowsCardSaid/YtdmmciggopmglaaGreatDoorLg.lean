/- A learner's regret. -/
import Derived.Test.YtdmmciggopmglaaGreatDoorLf
set_option maxRecDepth 20000
namespace Go.Proofs.YtdmmciggopmglaaGreatDoor.LE
open Go.RowKit Go.Maps Go.WideMaps Sg
section
variable(w:World)(i:Ix)(S:Sx)(B E:Nat)(L:List (List Nat))(lane:Int)(s:St)(b:Nat)(h:LT w i S B E L lane s b)
include h
theorem regret_no(key:ByteArray)(hs:key.size<=maxLen)(hg:key∉s.ghosts):Calls Tryz.prog 138 #[.pointer (some ⟨i.l,0,none⟩),.string key] w (TPost (.tuple #[]) w i S B E L lane (s.regret key) b):=by
 have lk:(Instr.lookup 111 (.map (some (i.r 4))) (.string key) true).run Tryz.prog w= .ok (.tuple #[.int .i64 0,.bool false]) w:=by
  have:=Raw.look h.raw hs;rw[show fOf s.HA s.HB key=none from fOf_none.2 hg] at this;exact this
 have c6:=h.p4;rw[regret_none hg];have HH:=Lib.hid h;clear h hg;go_enter Tryz.func138,Tryz.ntmps138;go_wp2_with fail
 (try simp only[Exit.inBlock,Exit.then]);refine bodyPost_ret (results_none rfl _ _ _) rfl ?_;exact⟨rfl,S,L,HH.out,λ_ _=>rfl,Went.refl _ _⟩
set_option maxHeartbeats 4000000 in
theorem regret_A(key:ByteArray)(t:Nat)(hs:key.size<=maxLen)(hl:look s.HA key=some t)(hb:b<=97500):Calls Tryz.prog 138 #[.pointer (some ⟨i.l,0,none⟩),.string key] w (TPost (.tuple #[]) w i S B E L lane (s.regret key) b):=by
 have hm:=look_some hl;have hk:key∈gk s.HA:=gk_mem.2 ⟨t,hm⟩;have hn:key∉gk s.HB:=λe=>(List.nodup_append.1 h.ok.nd).2.2 key hk key e rfl;have hno:look s.HB key=none:=look_none.2 hn;have hf:fOf s.HA s.HB key=some t:=by simp only[fOf,hl]
 have hwr:s.wR key=Fx.share (Fx.mul s.w (s.fallOf t)) (one - s.w) least:=by unfold St.wR;simp only[hl];rfl
 have lk:(Instr.lookup 111 (.map (some (i.r 4))) (.string key) true).run Tryz.prog w= .ok (.tuple #[.int .i64 (t:Int),.bool true]) w:=by
  have:=Raw.look h.raw hs;rw[show fOf s.HA s.HB key=some t from hf] at this;exact this
 have c6:=h.p4;have cw:=h.cw;have hold:t<=s.clock:=h.ok.old _ (List.mem_append_left _ hm);have hcl:=h.lim.clock;have hwl:=h.ok.wl;have hwh:=h.ok.wh;have hlv:=least_val;have hov:one=4611686018427387904:=rfl;obtain⟨age,hage⟩:∃age,age=s.clock - t:=⟨_,rfl⟩;have hwa:IntKind.i64.wrap ((s.clock:Int) - (t:Int))=(age:Int):=by rw[IntWalk.i64_in _ (by omega)];omega
 have hfl:s.fallOf t=Fx.fall (Fx.mul s.rate (Fx.pw (Fx.quo s.mo (s.mo+1)) age 4611686018427387904)):=by rw[hage];rfl
 have hfle:=fallOf_le s t;have F:=λW (hB:Below w.heap.size w W)=>fall_t W i S B E L lane s b (h.below hB) age (by omega);rw[← hfl] at F;rw[show s.fallOf t=s.fallOf t from rfl] at hwr;generalize s.fallOf t=fl at*;have F:=Lib.hid F;have hwo:IntKind.u64.wrap (4611686018427387904 - (s.w:Int))=((one - s.w:Nat):Int):=by rw[IntWalk.u64_in _ (by omega)];omega
 have M:=Lib.hid (λW=>FX.mul_any (s.w) fl W (by omega) (by omega));have hml:=Fx.mul_le_left (s.w) fl (by omega) hfle
 have H0:=Lib.hid (λW (hB:Below w.heap.size w W)=>show Calls Tryz.prog 145 #[.pointer (some ⟨i.r 2,0,none⟩),.string key] W (BoolPost true W) from by
  have:=ls_has W (i.r 2) (S 2) _ b (h.below hB).raw.ra key hs;rw[inn_iff.2 hk] at this;exact this)
 have H1:=Lib.hid (λW (hB:Below w.heap.size w W)=>show Calls Tryz.prog 145 #[.pointer (some ⟨i.r 3,0,none⟩),.string key] W (BoolPost false W) from by
  have:=ls_has W (i.r 3) (S 3) _ b (h.below hB).raw.rb key hs;rw[inn_no.2 hn] at this;exact this)
 have LS:=Lib.hid (least_l);have SH:=Lib.hid (λW=>FX.share_yes (Fx.mul s.w fl) (one - s.w) least W (by omega) (by omega) (by omega) (by omega));have hwin:=wR_in h.ok key
 have FIN:=Lib.hid (λW (hB:Below w.heap.size w W)=>show Calls Tryz.prog 119 #[.pointer (some ⟨i.l,0,none⟩),.string key] (W.setCell ⟨i.l,8,none⟩ (.int .u64 ((s.wR key:Nat):Int))) (TPost (.tuple #[]) w i S B E L lane (s.regret key) b) from by
  obtain⟨r1,hW1⟩:=(h.below hB).raw.set (F':=flOf (s.regret key) B lane) 8 (.int .u64 ((s.wR key:Nat):Int)) rfl;have U:=forget_r _ i S (flOf (s.regret key) B lane) s.A s.B (gk s.HA) (gk s.HB) (fOf s.HA s.HB) _ r1 key hs;rw[← gk_wo,<-gk_wo,<-fOf_wo] at U;refine U.mono λe w' hp=>h.post (RPost.trans ((Went.below hB).trans hW1) hp) (regret_ok h.ok key) ⟨h.lim.mo,h.lim.clock,h.lim.asked,h.lim.hits,h.lim.last,h.lim.still⟩ rfl)
 rw[hwr] at FIN;generalize Fx.share (Fx.mul s.w fl) (one - s.w) least=wn at*;have C:=Lib.hid (λW (hB:Below w.heap.size w W)=>And.intro (h.below hB).cc (And.intro (h.below hB).p2 (And.intro (h.below hB).p3 (And.intro ((h.below hB).fr 8) (h.below hB).cw))));have X0:=idx2l_0;have X1:=idx2l_1;have il:i.l < w.heap.size:=h.raw.clt;have hne1:w.heap.size≠i.l:=by omega
 have hne2:i.l≠w.heap.size:=by omega
 have hbw:=World.block_lt_of_cell? _ _ cw;generalize hmul:Fx.mul (s.w) fl=mm at*;generalize hcomp:one - s.w=oc at*;generalize s.regret key=s2 at*;generalize s.w=ww at*;generalize s.clock=ck at*;clear h hm hk hn hno hf hwr hl hold hcl hfl hfle hage hwin;go_enter Tryz.func138,Tryz.ntmps138;go_wp2_with fail
 go_region;have wb1:WBox (w.alloc (.cells #[.int .u64 (ww:Int),.int .u64 (oc:Int)] 215)).drew w.heap.size ww oc:=heap_alloc_new w (.cells #[.int .u64 (ww:Int),.int .u64 (oc:Int)] 215);have bb1:Below w.heap.size w (w.alloc (.cells #[.int .u64 (ww:Int),.int .u64 (oc:Int)] 215)).drew:=FX.bdrew ((Below.refl _ _).alloc (Nat.le_refl _) _) 1;have I1:=Lib.hid (And.intro wb1 bb1);obtain⟨_,d4,d5,_⟩:=C.out _ bb1;clear wb1 bb1 lk c6 cw;generalize(w.alloc (.cells #[.int .u64 (ww:Int),.int .u64 (oc:Int)] 215)).drew=w1 at I1 d4 d5|-;go_wp2_with fail
 go_loopw [34] (λz W=>(z= .int .i64 0/\WBox W w.heap.size ww oc/\Below w.heap.size w W)\/(z= .int .i64 1/\WBox W w.heap.size mm oc/\Below w.heap.size w W)\/(z= .int .i64 2/\WBox W w.heap.size mm oc/\Below w.heap.size w W)) (λz _=>2 - (intOf z).toNat)
 case atStart=>exact Or.inl ⟨rfl,I1.out.1,I1.out.2⟩
 case round=>
  clear d4 d5 I1;rcases hrel with⟨rfl,hw,hB⟩|⟨rfl,hw,hB⟩|⟨rfl,hw,hB⟩
  . have I2:=Lib.hid (And.intro hw hB);have BD:=Lib.hid (hB.trans ((Below.refl _ wr).drew.mono hB.size));obtain⟨c7,_⟩:=C.out wr hB;obtain⟨g0,g1,f0,f1⟩:=hw.cells;clear hw hB;go_wp2_with fail
    refine(H0.out wr I2.out.2).mono ?_;rintro e w2 ⟨rfl,rfl⟩;go_wp2_with fail
    go_region_with(first
     |(go_at_call 147;refine(F.out _ BD.out).mono ?_;rintro e w3 ⟨rfl,hB3⟩;have I3:=Lib.hid (show WBox w3 w.heap.size ww oc/\Below w.heap.size w w3 from⟨(show WBox wr.drew w.heap.size ww oc from I2.out.1).below hB3,BD.out.trans (hB3.mono BD.out.size)⟩);obtain⟨g2,g3,f2,f3⟩:=I3.out.1.cells;obtain⟨c8,_⟩:=C.out w3 I3.out.2;clear hB3)
     |(go_at_call 146;refine(M.out _).mono ?_;rintro e w4 ⟨rfl,rfl⟩))
    all_goals
     go_wp2_with fail
     go_roundw
     case rel=>exact Or.inr (Or.inl ⟨by go_num,I3.out.1.set0 mm,I3.out.2.setCell (Nat.le_refl _) _⟩)
     case measure=>simp[intOf]
  . have I2:=Lib.hid (And.intro hw hB);clear hw hB;go_wp2_with fail
    refine(H1.out wr I2.out.2).mono ?_;rintro e w2 ⟨rfl,rfl⟩;go_wp2_with fail
    go_roundw
    case rel=>exact Or.inr (Or.inr ⟨by go_num,I2.out.1,I2.out.2⟩)
    case measure=>simp[intOf]
  . have I2:=Lib.hid (And.intro hw hB);have BD:=Lib.hid (hB.trans ((Below.refl _ wr).drew.mono hB.size));obtain⟨g0,g1,f0,f1⟩:=hw.cells;clear hw hB H0 H1 M F X0 X1;go_wp2_with fail
    go_region_held3(λw'=>w'.cell? ⟨w.heap.size,0,none⟩=some (.int .u64 (mm:Int))/\w'.cell? ⟨w.heap.size,1,none⟩=some (.int .u64 (oc:Int))) (first|(with_reducible exact⟨g4,g5⟩)|(with_reducible exact⟨g2,g3⟩)|(with_reducible exact⟨g0,g1⟩)|go_keep)
     (first
     |(go_at_call 61;refine(LS.out _).mono ?_;rintro e w3 ⟨rfl,hB3⟩;have I3:=Lib.hid (show WBox w3 w.heap.size mm oc/\Below w.heap.size w w3 from⟨(show WBox wr.drew w.heap.size mm oc from I2.out.1).below hB3,BD.out.trans (hB3.mono BD.out.size)⟩);obtain⟨g2,g3,f2,f3⟩:=I3.out.1.cells;clear hB3)
     |(go_at_call 148;refine(SH.out _).mono ?_;rintro e w4 ⟨rfl,hB4⟩;have B4:=Lib.hid (I3.out.2.trans (hB4.mono I3.out.2.size));obtain⟨_,_,_,f8,c8⟩:=C.out w4 B4.out;obtain⟨g4,g5,_,_⟩:=(I3.out.1.below hB4).cells;clear hB4))
    all_goals
     go_wp2_with fail
     refine(FIN.out w4 B4.out).mono ?_;intro e w5 hp;obtain⟨rfl,h1⟩:=hp;have H1:=Lib.hid h1;clear h1;go_wp2_with fail
     go_end0;exact⟨rfl,H1.out⟩
set_option maxHeartbeats 4000000 in
theorem regret_B(key:ByteArray)(t:Nat)(hs:key.size<=maxLen)(hl:look s.HB key=some t)(hb:b<=97500):Calls Tryz.prog 138 #[.pointer (some ⟨i.l,0,none⟩),.string key] w (TPost (.tuple #[]) w i S B E L lane (s.regret key) b):=by
 have hm:=look_some hl;have hk:key∈gk s.HB:=gk_mem.2 ⟨t,hm⟩;have hn:key∉gk s.HA:=λe=>(List.nodup_append.1 h.ok.nd).2.2 key e key hk rfl;have hno:look s.HA key=none:=look_none.2 hn;have hf:fOf s.HA s.HB key=some t:=by simp only[fOf,hno,hl]
 have hwr:s.wR key=Fx.share (s.w) (Fx.mul (one - s.w) (s.fallOf t)) least:=by unfold St.wR;simp only[hno,hl];rfl
 have lk:(Instr.lookup 111 (.map (some (i.r 4))) (.string key) true).run Tryz.prog w= .ok (.tuple #[.int .i64 (t:Int),.bool true]) w:=by
  have:=Raw.look h.raw hs;rw[show fOf s.HA s.HB key=some t from hf] at this;exact this
 have c6:=h.p4;have cw:=h.cw;have hold:t<=s.clock:=h.ok.old _ (List.mem_append_right _ hm);have hcl:=h.lim.clock;have hwl:=h.ok.wl;have hwh:=h.ok.wh;have hlv:=least_val;have hov:one=4611686018427387904:=rfl;obtain⟨age,hage⟩:∃age,age=s.clock - t:=⟨_,rfl⟩;have hwa:IntKind.i64.wrap ((s.clock:Int) - (t:Int))=(age:Int):=by rw[IntWalk.i64_in _ (by omega)];omega
 have hfl:s.fallOf t=Fx.fall (Fx.mul s.rate (Fx.pw (Fx.quo s.mo (s.mo+1)) age 4611686018427387904)):=by rw[hage];rfl
 have hfle:=fallOf_le s t;have F:=λW (hB:Below w.heap.size w W)=>fall_t W i S B E L lane s b (h.below hB) age (by omega);rw[← hfl] at F;rw[show s.fallOf t=s.fallOf t from rfl] at hwr;generalize s.fallOf t=fl at*;have F:=Lib.hid F;have hwo:IntKind.u64.wrap (4611686018427387904 - (s.w:Int))=((one - s.w:Nat):Int):=by rw[IntWalk.u64_in _ (by omega)];omega
 have M:=Lib.hid (λW=>FX.mul_any (one - s.w) fl W (by omega) (by omega));have hml:=Fx.mul_le_left (one - s.w) fl (by omega) hfle
 have H0:=Lib.hid (λW (hB:Below w.heap.size w W)=>show Calls Tryz.prog 145 #[.pointer (some ⟨i.r 2,0,none⟩),.string key] W (BoolPost false W) from by
  have:=ls_has W (i.r 2) (S 2) _ b (h.below hB).raw.ra key hs;rw[inn_no.2 hn] at this;exact this)
 have H1:=Lib.hid (λW (hB:Below w.heap.size w W)=>show Calls Tryz.prog 145 #[.pointer (some ⟨i.r 3,0,none⟩),.string key] W (BoolPost true W) from by
  have:=ls_has W (i.r 3) (S 3) _ b (h.below hB).raw.rb key hs;rw[inn_iff.2 hk] at this;exact this)
 have LS:=Lib.hid (least_l);have SH:=Lib.hid (λW=>FX.share_yes (s.w) (Fx.mul (one - s.w) fl) least W (by omega) (by omega) (by omega) (by omega));have hwin:=wR_in h.ok key
 have FIN:=Lib.hid (λW (hB:Below w.heap.size w W)=>show Calls Tryz.prog 119 #[.pointer (some ⟨i.l,0,none⟩),.string key] (W.setCell ⟨i.l,8,none⟩ (.int .u64 ((s.wR key:Nat):Int))) (TPost (.tuple #[]) w i S B E L lane (s.regret key) b) from by
  obtain⟨r1,hW1⟩:=(h.below hB).raw.set (F':=flOf (s.regret key) B lane) 8 (.int .u64 ((s.wR key:Nat):Int)) rfl;have U:=forget_r _ i S (flOf (s.regret key) B lane) s.A s.B (gk s.HA) (gk s.HB) (fOf s.HA s.HB) _ r1 key hs;rw[← gk_wo,<-gk_wo,<-fOf_wo] at U;refine U.mono λe w' hp=>h.post (RPost.trans ((Went.below hB).trans hW1) hp) (regret_ok h.ok key) ⟨h.lim.mo,h.lim.clock,h.lim.asked,h.lim.hits,h.lim.last,h.lim.still⟩ rfl)
 rw[hwr] at FIN;generalize Fx.share (s.w) (Fx.mul (one - s.w) fl) least=wn at*;have C:=Lib.hid (λW (hB:Below w.heap.size w W)=>And.intro (h.below hB).cc (And.intro (h.below hB).p2 (And.intro (h.below hB).p3 (And.intro ((h.below hB).fr 8) (h.below hB).cw))));have X0:=idx2l_0;have X1:=idx2l_1;have il:i.l < w.heap.size:=h.raw.clt;have hne1:w.heap.size≠i.l:=by omega
 have hne2:i.l≠w.heap.size:=by omega
 have hbw:=World.block_lt_of_cell? _ _ cw;generalize hmul:Fx.mul (one - s.w) fl=mm at*;generalize hcomp:one - s.w=oc at*;generalize s.regret key=s2 at*;generalize s.w=ww at*;generalize s.clock=ck at*;clear h hm hk hn hno hf hwr hl hold hcl hfl hfle hage hwin;go_enter Tryz.func138,Tryz.ntmps138;go_wp2_with fail
 go_region;have wb1:WBox (w.alloc (.cells #[.int .u64 (ww:Int),.int .u64 (oc:Int)] 215)).drew w.heap.size ww oc:=heap_alloc_new w (.cells #[.int .u64 (ww:Int),.int .u64 (oc:Int)] 215);have bb1:Below w.heap.size w (w.alloc (.cells #[.int .u64 (ww:Int),.int .u64 (oc:Int)] 215)).drew:=FX.bdrew ((Below.refl _ _).alloc (Nat.le_refl _) _) 1;have I1:=Lib.hid (And.intro wb1 bb1);obtain⟨_,d4,d5,_⟩:=C.out _ bb1;clear wb1 bb1 lk c6 cw;generalize(w.alloc (.cells #[.int .u64 (ww:Int),.int .u64 (oc:Int)] 215)).drew=w1 at I1 d4 d5|-;go_wp2_with fail
 go_loopw [34] (λz W=>(z= .int .i64 0/\WBox W w.heap.size ww oc/\Below w.heap.size w W)\/(z= .int .i64 1/\WBox W w.heap.size ww oc/\Below w.heap.size w W)\/(z= .int .i64 2/\WBox W w.heap.size ww mm/\Below w.heap.size w W)) (λz _=>2 - (intOf z).toNat)
 case atStart=>exact Or.inl ⟨rfl,I1.out.1,I1.out.2⟩
 case round=>
  clear d4 d5 I1;rcases hrel with⟨rfl,hw,hB⟩|⟨rfl,hw,hB⟩|⟨rfl,hw,hB⟩
  . have I2:=Lib.hid (And.intro hw hB);clear hw hB;go_wp2_with fail
    refine(H0.out wr I2.out.2).mono ?_;rintro e w2 ⟨rfl,rfl⟩;go_wp2_with fail
    go_roundw
    case rel=>exact Or.inr (Or.inl ⟨by go_num,I2.out.1,I2.out.2⟩)
    case measure=>simp[intOf]
  . have I2:=Lib.hid (And.intro hw hB);have BD:=Lib.hid (hB.trans ((Below.refl _ wr).drew.mono hB.size));obtain⟨c7,_⟩:=C.out wr hB;obtain⟨g0,g1,f0,f1⟩:=hw.cells;clear hw hB;go_wp2_with fail
    refine(H1.out wr I2.out.2).mono ?_;rintro e w2 ⟨rfl,rfl⟩;go_wp2_with fail
    go_region_with(first
     |(go_at_call 147;refine(F.out _ BD.out).mono ?_;rintro e w3 ⟨rfl,hB3⟩;have I3:=Lib.hid (show WBox w3 w.heap.size ww oc/\Below w.heap.size w w3 from⟨(show WBox wr.drew w.heap.size ww oc from I2.out.1).below hB3,BD.out.trans (hB3.mono BD.out.size)⟩);obtain⟨g2,g3,f2,f3⟩:=I3.out.1.cells;obtain⟨c8,_⟩:=C.out w3 I3.out.2;clear hB3)
     |(go_at_call 146;refine(M.out _).mono ?_;rintro e w4 ⟨rfl,rfl⟩))
    all_goals
     go_wp2_with fail
     go_roundw
     case rel=>exact Or.inr (Or.inr ⟨by go_num,I3.out.1.set1 mm,I3.out.2.setCell (Nat.le_refl _) _⟩)
     case measure=>simp[intOf]
  . have I2:=Lib.hid (And.intro hw hB);have BD:=Lib.hid (hB.trans ((Below.refl _ wr).drew.mono hB.size));obtain⟨g0,g1,f0,f1⟩:=hw.cells;clear hw hB H0 H1 M F X0 X1;go_wp2_with fail
    go_region_held3(λw'=>w'.cell? ⟨w.heap.size,0,none⟩=some (.int .u64 (ww:Int))/\w'.cell? ⟨w.heap.size,1,none⟩=some (.int .u64 (mm:Int))) (first|(with_reducible exact⟨g4,g5⟩)|(with_reducible exact⟨g2,g3⟩)|(with_reducible exact⟨g0,g1⟩)|go_keep)
     (first
     |(go_at_call 61;refine(LS.out _).mono ?_;rintro e w3 ⟨rfl,hB3⟩;have I3:=Lib.hid (show WBox w3 w.heap.size ww mm/\Below w.heap.size w w3 from⟨(show WBox wr.drew w.heap.size ww mm from I2.out.1).below hB3,BD.out.trans (hB3.mono BD.out.size)⟩);obtain⟨g2,g3,f2,f3⟩:=I3.out.1.cells;clear hB3)
     |(go_at_call 148;refine(SH.out _).mono ?_;rintro e w4 ⟨rfl,hB4⟩;have B4:=Lib.hid (I3.out.2.trans (hB4.mono I3.out.2.size));obtain⟨_,_,_,f8,c8⟩:=C.out w4 B4.out;obtain⟨g4,g5,_,_⟩:=(I3.out.1.below hB4).cells;clear hB4))
    all_goals
     go_wp2_with fail
     refine(FIN.out w4 B4.out).mono ?_;intro e w5 hp;obtain⟨rfl,h1⟩:=hp;have H1:=Lib.hid h1;clear h1;go_wp2_with fail
     go_end0;exact⟨rfl,H1.out⟩
end
end Go.Proofs.YtdmmciggopmglaaGreatDoor.LE
