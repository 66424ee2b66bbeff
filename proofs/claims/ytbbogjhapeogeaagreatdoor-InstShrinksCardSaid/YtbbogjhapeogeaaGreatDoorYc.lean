/- Errd InE, in one text. -/
import Derived.Test.YtbbogjhapeogeaaGreatDoorErrc
import Derived.Test.YtbbogjhapeogeaaGreatDoorYb
import Derived.Deep.RegionHeld3
import Derived.Deep.RegionLaw
import Derived.Deep.CutBlock
import Derived.Deep.DeepCutAuto
namespace Go.Proofs.YtbbogjhapeogeaaGreatDoor.IN
open Go.RowKit Go.Extern.Stop Go.Stop Go.Extern
set_option maxHeartbeats 4000000 in
theorem is_code2(g f:Nat)(n:Int)(w:World)(h:w.cell? ⟨g,2,none⟩=some (.iface 63 (.pointer (some ⟨f,0,none⟩))))(h2:w.cell? ⟨f,2,none⟩=some (.iface 80 (.int .i64 n))):
 Calls Tryz.prog 38 #[.iface 63 (.pointer (some ⟨g,0,none⟩)),.iface 80 (.int .i64 n)] w λe w'=>e= .returned (.bool true)/\w=w':=by
 have h53:=@run_callFunc_extern Tryz.prog 50 _ ReflectliteType.typeOf Tryz.func50 (by kernel_rfl) (by kernel_rfl) (by kernel_rfl) (by kernel_rfl);obtain⟨F,hF,cT⟩:=Er.cmpE;have h116:=@run_callFunc_extern Tryz.prog 280 _ F Tryz.func280 (by kernel_rfl) (by kernel_rfl) (by kernel_rfl) hF;clear hF;have tT:=Er.typeOfN;have mC:=Er.methodComparable;have nP:=Er.noIsP;have uP:=Er.hasUnwrapP;have mU:=Er.methodUnwrapP;have q1:∀w:World,(binOp .eql 27 (.iface 80 (.int .i64 n)) (.iface 80 (.int .i64 n))).run Tryz.prog w= .ok (.bool true) w:=λw=>by rw[Er.eqlN n n w,beq_self_eq_true]
 have q2:=Er.eqlPN;go_enter Tryz.func38,Tryz.ntmps38;go_wp2
 refine wp_loop_rounds 3 ?_;rw[rounds_succ];go_wp2
 rw[rounds_succ];go_wp2
 rw[rounds_succ];go_wp2
 go_ret;exact⟨rfl,rfl⟩
theorem unwrap_any(g:Nat)(u:Value)(w:World)(h:w.cell? ⟨g,2,none⟩=some u):
 Calls Tryz.prog 34 #[.iface 63 (.pointer (some ⟨g,0,none⟩))] w λe w'=>e= .returned u/\w=w':=by
 have uP:=Er.hasUnwrapP;have mU:=Er.methodUnwrapP;go_enter Tryz.func34,Tryz.ntmps34;go_wp2
 go_ret;exact⟨rfl,rfl⟩
set_option maxHeartbeats 1000000 in
theorem wraps_two(g f:Nat)(s k:ByteArray)(n:Int)(hn:n≠0)(w:World)(hl:Laid w)(hg:g < w.heap.size)(hf:f < w.heap.size)(h0:w.cell? ⟨g,0,none⟩=some (.string s))(h1:w.cell? ⟨g,1,none⟩=some (.string k))(h2:w.cell? ⟨g,2,none⟩=some (.iface 63 (.pointer (some ⟨f,0,none⟩))))(h3:w.cell? ⟨f,2,none⟩=some (.iface 80 (.int .i64 n))):
 Calls Tryz.prog 33 #[.iface 63 (.pointer (some ⟨g,0,none⟩)),.string s,.string k,.int .i64 n] w (λe w'=>e= .returned (.bool true)/\Below w.heap.size w w'):=by
 have hb1:Below w.heap.size w (w.alloc (.cells #[.pointer none] 63)):=(Below.refl _ _).alloc (Nat.le_refl _) _;have hl1:Laid (w.alloc (.cells #[.pointer none] 63)):=hl.below hb1 (Nat.le_refl _);go_enter Tryz.func33,Tryz.ntmps33;go_wp2_with fail
 refine(as_hit ⟨g,0,none⟩ ⟨w.heap.size,0,none⟩ (.pointer none) _ hl1 (by simp) (by simp)).mono ?_;rintro e w' ⟨rfl,hw⟩
 have hb:Below w.heap.size w w':=by
  rw[hw];exact(((((hb1.alloc (by simp) _).alloc (by simp;omega) _).alloc (by simp;omega) _).alloc (by simp;omega) _)).setCell (by simp) _
 have hf:w'.cell? ⟨w.heap.size,0,none⟩=some (.pointer (some ⟨g,0,none⟩)):=by
  rw[hw];refine World.cell?_setCell_same' _ _ _ ?_;rw[World.cell?_alloc_lt _ _ ⟨w.heap.size,0,none⟩ (by simp;omega),World.cell?_alloc_lt _ _ ⟨w.heap.size,0,none⟩ (by simp;omega),World.cell?_alloc_lt _ _ ⟨w.heap.size,0,none⟩ (by simp;omega),World.cell?_alloc_lt _ _ ⟨w.heap.size,0,none⟩ (by simp),World.cell?_alloc_new];rfl
 have k0:w'.cell? ⟨g,0,none⟩=some (.string s):=by rw[hb.cell (p:=⟨g,0,none⟩) hg];exact h0
 have k1:w'.cell? ⟨g,1,none⟩=some (.string k):=by rw[hb.cell (p:=⟨g,1,none⟩) hg];exact h1
 have k2:w'.cell? ⟨g,2,none⟩=some (.iface 63 (.pointer (some ⟨f,0,none⟩))):=by rw[hb.cell (p:=⟨g,2,none⟩) hg];exact h2
 have k3:w'.cell? ⟨f,2,none⟩=some (.iface 80 (.int .i64 n)):=by rw[hb.cell (p:=⟨f,2,none⟩) (by assumption)];exact h3
 have K:=Lib.hid (is_code2 g f n w' k2 k3);clear hw h0 h1 h2 h3 hl1 hb1 k2 k3;have HB:=Lib.hid hb;clear hb;go_wp2_with(go_at_call 38;refine K.out.mono ?_;rintro e w'' ⟨rfl,rfl⟩)
 go_ret;exact⟨rfl,HB.out⟩
theorem faulty_any(w:World)(key s:ByteArray)(n:Int)(v:Value)(hn:n≠0)(hl:Laid w)(h:IFlt w key s n v):
 Calls Tryz.prog 29 #[v,.string key,.string s,.int .i64 n] w (λe w'=>e= .returned (.bool true)/\Below w.heap.size w w'):=by
 have H0:=Lib.hid h;obtain⟨g,u,rfl,hg,hx,f,rfl,hf,hy⟩:=h;have U1:=Lib.hid (wraps_two g f sIns key n hn w hl hg hf (cell_of_row w _ 0 _ _ _ hx) (cell_of_row w _ 1 _ _ _ hx) (cell_of_row w _ 2 _ _ _ hx) (cell_of_row w _ 2 _ _ _ hy));have U2:=Lib.hid (λ(w1:World) (hb:Below w.heap.size w w1)=>unwrap_any g (.iface 63 (.pointer (some ⟨f,0,none⟩))) w1 (cell_of_row w1 g 2 _ _ _ ((hb.block g hg).trans hx)));have U3:=Lib.hid (λ(w1:World) (hb:Below w.heap.size w w1)=>Flt.wraps (Flt.below ⟨f,rfl,hf,hy⟩ hb) hn (hl.below hb (Nat.le_refl _)));clear hg hx hf hy hl hn H0;unfold sIns at U1;go_enter Tryz.func29,Tryz.ntmps29;go_wp2_with fail
 refine U1.out.mono ?_;rintro e w1 ⟨rfl,hB⟩;have B1:=Lib.hid hB;clear hB U1;go_wp2_with fail
 refine(U2.out w1 B1.out).mono ?_;rintro e w2 ⟨rfl,rfl⟩;go_wp2_with fail
 refine(U3.out w1 B1.out).mono ?_;rintro e w3 ⟨rfl,hB⟩;have B3:=Lib.hid (B1.out.trans (hB.mono B1.out.size));clear hB U2 U3;go_wp2_with fail
 go_ret;exact⟨rfl,B3.out⟩
end Go.Proofs.YtbbogjhapeogeaaGreatDoor.IN
set_option maxRecDepth 20000
namespace Go.Proofs.YtbbogjhapeogeaaGreatDoor.IN
open Go.RowKit Sg
def RetB(b:Bool)(w:World)(e:Ending)(w':World):Prop:=e= .returned (.bool b)/\Below w.heap.size w w'
def AwR(w:World)(i:Value)(W:World):Prop:=∃k:Nat,i= .int .i64 (k:Int)/\k<=7/\Below w.heap.size w W
def sa:ByteArray:=⟨#[97]⟩
def sb:ByteArray:=⟨#[98]⟩
def sc:ByteArray:=⟨#[99]⟩
theorem no_lanes(w:World):DR.Lanes w w.heap.size (.slice none 0 0) []:=⟨by simp,Or.inl ⟨rfl,none,0,rfl⟩⟩
theorem box_newI{w:World}{T:Nat->Prop}{L:List (Nat × Bool × ByteArray × Bool)}(h:AR.Boxes w T L)(hl:∀k,T k->k < w.heap.size)(x y:Bool)(s:ByteArray):AR.Boxes (w.alloc (.cells #[.bool x,.string s,.bool y] 34)) T ((w.heap.size,x,s,y)::L):=by
 intro q hq;rcases List.mem_cons.1 hq with rfl|hq
 . exact⟨heap_alloc_new _ _,λhk=>by have:=hl _ hk;omega⟩
 obtain⟨h1,h2⟩:=h q hq;exact⟨(Below.heap_alloc _ _ _ h1.lt).trans h1,h2⟩
set_option maxHeartbeats 4000000 in
theorem awake_i(w:World)(hl:Laid w/\Named w):Calls Tryz.prog 10 #[] w (RetB true w):=by
 have HN:=Lib.hid hl;have g34:=λ(w:World)=>AR.guard34 (w:=w);have q34:=λ(w:World) (a:Bool) (s:ByteArray) (b:Bool)=>AR.neq34 (w:=w) (a:=a) (s:=s) (b:=b);clear hl;go_enter Tryz.func10,Tryz.ntmps10;go_wp2_with fail
 go_loopw [1] (λi W=>AwR w i W) (λi _=>7 - (intOf i).toNat)
 case atStart=>exact⟨0,rfl,by omega,Below.refl _ _⟩
 case round=>
  obtain⟨k,rfl,hk5,hB⟩:=hrel;have HB:=Lib.hid hB;clear hB
  by_cases hk:k < 7
  . have e0:decide ((k:Int) < 7)=true:=decide_eq_true (by omega);go_wp2_with fail
    refine(DR.newE_any _ _ wr (no_lanes wr)).mono ?_;rintro e w1 ⟨B,rfl,hT,hB0,hB1⟩;have T1:=Lib.hid (And.intro hT (And.intro hB0 hB1));clear hT hB0 hB1;go_wp2_with fail
    refine Calls.mono (show Calls Tryz.prog 11 #[.int .i64 (k:Int),.int .i64 2,.pointer (some ⟨B+1,0,none⟩),.int .i64 0] w1 (INew k 2 [] B w1) from new_i w1 k 2 B w1.heap.size [] hk (by omega) T1.out.1) ?_;rintro e w2 ⟨p,U,rfl,hC,hU,hB2⟩;have L2:=Lib.hid (IL.made (HB.out.trans (T1.out.2.2.mono HB.out.size)) hC hU (by have:=HB.out.size;have:=T1.out.2.1;omega) hB2);clear hC hU hB2 T1;go_wp2_with fail
    have K0:=ISt.start_kind hk 2 [];have a1:=Lib.hid (ISt.hit_no (x:=ISt.start k 2 []) L2.out.ca.ok (by rw[K0.2.1];omega) (k:=sa) (by rw[K0.2.2.1];simp) (by rw[K0.2.2.1,K0.2.1];simp));have U1:=request_i w2 p U (ISt.start k 2 []) 0 0 0 L2.out.ca sa (by decide) (by omega) (by omega) (by omega);generalize h0:ISt.start k 2 []=s0 at*;unfold ISt.step at U1;rw[a1.out.1,a1.out.2.1,a1.out.2.2] at U1;refine Calls.mono (show Calls Tryz.prog 14 #[.pointer (some ⟨p,0,none⟩),.string ⟨#[97]⟩] w2 (IPost (.agg #[.bool false,.string ⟨#[]⟩,.bool false]) w2 p U (s0.req sa) 1 0 4) from U1) ?_;intro e w3 hp;obtain⟨rfl,T3,hL,hW⟩:=L2.out.op hp;have L3:=Lib.hid hL;have O0:=Lib.hid L2.out.ca.ok;clear hp hL hW L2 a1 U1;go_wp2_with fail
    have m1:(s0.req sa).mo≠0:=by rw[ISt.mo_req,K0.2.1];omega
    have a2:=Lib.hid (ISt.hit_yes (x:=s0.req sa) L3.out.ca.ok m1 (k:=sa) (ISt.req_f O0.out (by rw[K0.2.1];omega) sa).has);have U2:=request_i w3 p T3 (s0.req sa) 1 0 4 L3.out.ca sa (by decide) (by omega) (by omega) (by omega);generalize h1:s0.req sa=s1 at*;unfold ISt.step at U2;rw[a2.out.1,a2.out.2.1,a2.out.2.2] at U2;refine Calls.mono (show Calls Tryz.prog 14 #[.pointer (some ⟨p,0,none⟩),.string ⟨#[97]⟩] w3 (IPost (.agg #[.bool true,.string ⟨#[]⟩,.bool false]) w3 p T3 (s1.req sa) 2 1 8) from U2) ?_;intro e w4 hp;obtain⟨rfl,T4,hL,hW⟩:=L3.out.op hp;have O1:=Lib.hid L3.out.ca.ok;have L4:=Lib.hid hL;clear hp hL hW L3 a2 U2 m1;go_upto_region 9 with fail
    have X5:=Lib.hid (box_newI (w:=w4) (T:=T4) (L:=[]) (by intro q hq;cases hq) L4.out.lt true false ⟨#[]⟩);have L5:=Lib.hid (L4.out.below ((Below.refl _ _).alloc (Nat.le_refl _) (.cells #[.bool true,.string ⟨#[]⟩,.bool false] 34)));clear L4;generalize w4.alloc (.cells #[.bool true,.string ⟨#[]⟩,.bool false] 34)=w5 at L5 X5|-;generalize w4.heap.size=n4 at*;have m2:(s1.req sa).mo≠0:=by rw[ISt.mo_req,<-h1,ISt.mo_req,K0.2.1];omega
    have f1:=ISt.req_f O0.out (by rw[K0.2.1];omega) sa;rw[h1] at f1;have f2:=ISt.req_f O1.out (by rw[← h1,ISt.mo_req,K0.2.1];omega) sa
    have o1:∀x∈s1.keys,x=sa:=λx hx=>by
     rcases f1.old x hx with h|h
     . rw[K0.2.2.1] at h;cases h
     . exact h
    have hb2:sb∉(s1.req sa).keys:=λe=>by
     rcases f2.old _ e with h|h
     . exact absurd (o1 _ h) (by decide)
     . exact absurd h (by decide)
    have hl2:(s1.req sa).keys.length < (s1.req sa).mo:=by
     have l1:=ISt.req_len O0.out (by rw[K0.2.1];omega) sa;have l2:=ISt.req_len O1.out (by rw[← h1,ISt.mo_req,K0.2.1];omega) sa;rw[h1,K0.2.2.1,if_neg (by rw[K0.2.1];simp[inn])] at l1;rw[inn_iff.2 f1.has,Bool.true_or,if_pos rfl,l1] at l2;rw[l2,ISt.mo_req,<-h1,ISt.mo_req,K0.2.1];simp
    have a3:=Lib.hid (ISt.hit_no (x:=s1.req sa) L5.out.ca.ok m2 (k:=sb) hb2 hl2);clear m2 f1 f2 o1 hb2 hl2;have U3:=request_i w5 p T4 (s1.req sa) 2 1 8 L5.out.ca sb (by decide) (by omega) (by omega) (by omega);generalize h2:s1.req sa=s2 at*;unfold ISt.step at U3;rw[a3.out.1,a3.out.2.1,a3.out.2.2] at U3;go_wp2_with fail
    refine Calls.mono (show Calls Tryz.prog 14 #[.pointer (some ⟨p,0,none⟩),.string ⟨#[98]⟩] w5 (IPost (.agg #[.bool false,.string ⟨#[]⟩,.bool false]) w5 p T4 (s2.req sb) 3 1 12) from U3) ?_;intro e w6 hp;obtain⟨rfl,T6,hL,hW⟩:=L5.out.op hp;have O2:=Lib.hid L5.out.ca.ok;have X6:=Lib.hid (X5.out.went hW);have L6:=Lib.hid hL;clear hp hL hW L5 U3 X5 a3;go_wp2_with fail
    have U4:=request_i w6 p T6 (s2.req sb) 3 1 12 L6.out.ca sc (by decide) (by omega) (by omega) (by omega);have WK:=Lib.hid (λ(h4:((s2.req sb).req sc).Ok)=>ISt.wake h1.symm h2.symm rfl (s4:=(s2.req sb).req sc) rfl O0.out O1.out O2.out L6.out.ca.ok h4 K0.2.1 K0.2.2.1 (by decide) (by decide) (by decide));generalize h3:s2.req sb=s3 at*;unfold ISt.step at U4;obtain⟨y,hy⟩:∃y,y=s3.vicV sc:=⟨_,rfl⟩;rw[← hy] at U4
    replace U4:=Lib.hid U4
    clear h1 h2 h3 O0 O1 O2;refine U4.out.mono ?_;intro e w7 hp;obtain⟨rfl,T7,hL,hW⟩:=L6.out.op hp;obtain⟨t0,t1,t2,q0,q1,q2,q3,q4,q5,q6⟩:=WK.out hL.ca.ok;rw[← hy] at q4;rw[q0,if_neg (by simp)] at hL;have hk4:(s3.req sc).kind=k:=q6.trans K0.1;have hl4:(s3.req sc).lrn=decide ((4:Int) < (k:Int)):=by rw[ISt.kind_lrn,hk4,Bool.eq_iff_iff];simp;omega
    have Q:=Lib.hid (show(s3.req sc).keys.length=2/\(s3.req sc).has sc=true/\(s3.req sc).has y=false/\(s3.req sc).mo=2/\(s3.req sc).kind=k/\(s3.req sc).lrn=decide ((4:Int) < (k:Int)) from⟨q2,q3,q4,q5,hk4,hl4⟩);have X7:=Lib.hid (box_newI (X6.out.went hW) hL.lt false true y);have L7:=Lib.hid (hL.below ((Below.refl _ _).alloc (Nat.le_refl _) (.cells #[.bool false,.string y,.bool true] 34)))
    have hys:y.size<=maxLen:=by
     rw[hy];exact L6.out.ca.small _ ((ISt.req_f L6.out.ca.ok (by rw[show s3.mo=2 from(ISt.mo_req s3 sc).symm.trans q5];omega) sc).vic q1).1
    have YS:=Lib.hid hys;rw[q0,q1];clear hp hL hW L6 U4 X6 hy t0 t1 t2 q0 q1 q2 q3 q4 q5 q6 hk4 hl4 h0 K0 WK hys;generalize s3.req sc=s4 at*;clear s0 s1 s2 s3;go_upto_region 11 with fail
    generalize w7.alloc (.cells #[.bool false,.string y,.bool true] 34)=w8 at L7 X7|-;generalize w7.heap.size=n7 at*;have V:=Lib.hid (count_i w8 p T7 s4 4 1 16 L7.out.ca);go_wp2_with fail
    refine V.out.mono ?_;rintro e w9 ⟨rfl,hB⟩;have X9:=Lib.hid (X7.out.went (Went.below hB));have L9:=Lib.hid (L7.out.below hB);clear hB X7 L7 V;go_wp2_with fail
    have V:=weight_i w9 p T7 s4 4 1 16 L9.out.ca;rw[Q.out.2.2.2.2.2] at V
    replace V:=Lib.hid V
    generalize s4.wt=wt at*;generalize hgl:decide ((4:Int) < (k:Int))=gl at*;refine V.out.mono ?_;rintro e wv ⟨rfl,hB⟩;have Xv:=Lib.hid (X9.out.went (Went.below hB));have Lv:=Lib.hid (L9.out.below hB);clear hB X9 L9 V;have c4:=Lib.hid (Xv.out (n4,true,⟨#[]⟩,false) (by simp)).1;have c7:=Lib.hid (Xv.out (n7,false,y,true) (by simp)).1;obtain⟨x1,x2,x3,_,_⟩:=c4.out.cells;obtain⟨_,x8,x9,_,_⟩:=c7.out.cells;simp only at x1 x2 x3 x8 x9;clear c4 c7;go_wp2_with fail
    refine Calls.mono (show Calls Tryz.prog 18 #[.pointer (some ⟨p,0,none⟩)] wv (Told (.int .i64 2) wv) from by
     have:=len_i wv p T7 s4 4 1 16 Lv.out.ca;rw[Q.out.1] at this;exact this) ?_
    rintro e wa ⟨rfl,hB⟩;have La:=Lib.hid (Lv.out.below hB);have Xa:=Lib.hid (Xv.out.went (Went.below hB));clear hB Lv x1 x2 x3 x8 x9 Xv;go_wp2_with fail
    refine Calls.mono (show Calls Tryz.prog 17 #[.pointer (some ⟨p,0,none⟩),.string ⟨#[99]⟩] wa (Told (.bool true) wa) from by
     have:=has_i wa p T7 s4 4 1 16 La.out.ca sc (by decide);rw[Q.out.2.1] at this;exact this) ?_
    rintro e wb ⟨rfl,hB⟩;have Lb:=Lib.hid (La.out.below hB);have Xb:=Lib.hid (Xa.out.went (Went.below hB));have c7:=Lib.hid (Xb.out (n7,false,y,true) (by simp)).1;obtain⟨_,x8,_,_,_⟩:=c7.out.cells;simp only at x8;clear hB La Xa c7;go_wp2_with fail
    refine Calls.mono (show Calls Tryz.prog 17 #[.pointer (some ⟨p,0,none⟩),.string y] wb (Told (.bool false) wb) from by
     have:=has_i wb p T7 s4 4 1 16 Lb.out.ca y YS.out;rw[Q.out.2.2.1] at this;exact this) ?_
    rintro e wc ⟨rfl,hB⟩;have Lc:=Lib.hid (Lb.out.below hB);clear hB Lb Xb x8;go_wp2_with fail
    refine Calls.mono (show Calls Tryz.prog 28 #[.pointer (some ⟨p,0,none⟩)] wc (Told (.int .i64 (k:Int)) wc) from by
     have:=kind_i wc p T7 s4 4 1 16 Lc.out.ca;rw[Q.out.2.2.2.2.1] at this;exact this) ?_
    rintro e wd ⟨rfl,hB⟩;have Ld:=Lib.hid (Lc.out.below hB);clear hB Lc;go_wp2_with fail
    refine Calls.mono (show Calls Tryz.prog 25 #[.pointer (some ⟨p,0,none⟩)] wd (Told (.int .i64 2) wd) from by
     have:=most_i wd p T7 s4 4 1 16 Ld.out.ca;rw[Q.out.2.2.2.1] at this;exact this) ?_
    rintro e we ⟨rfl,hB⟩;have Le:=Lib.hid (Ld.out.below hB);clear hB Ld;go_wp2_with fail
    refine Calls.mono (keys_i we p T7 s4 4 1 16 Le.out.ca) ?_;rintro e wf ⟨v,rfl,hO,hB⟩;obtain⟨A,cc,rfl⟩:=hO.len;rw[Q.out.1];have Lf:=Lib.hid (Le.out.below hB);clear hB Le hO;go_wp2_with fail
    go_roundw
    case rel=>exact⟨k+1,by go_num,by omega,Lf.out.bel⟩
    case measure=>simp[intOf];omega
  . obtain rfl:k=7:=by omega
    have HL:=Lib.hid (HN.out.1.below HB.out (Nat.le_refl _));have HM:=Lib.hid (HN.out.2.below HB.out (Nat.le_refl _));go_wp2_with fail
    refine(DR.newE_any _ _ wr (no_lanes wr)).mono ?_;rintro e w1 ⟨B,rfl,_,_,hB1⟩;have B1:=Lib.hid hB1;clear hB1;go_wp2_with fail
    refine Calls.mono (new_kindI w1 7 1 _ 0 (by omega)) ?_;rintro e w2 ⟨v1,rfl,hF,hB2⟩;have F1:=Lib.hid hF;have B2:=Lib.hid (B1.out.trans (hB2.mono B1.out.size));clear hF hB2 B1;go_wp2_with fail
    refine(DR.newE_any _ _ w2 (no_lanes w2)).mono ?_;rintro e w3 ⟨B',rfl,_,_,hB⟩;have F1:=Lib.hid (F1.out.below hB);have B3:=Lib.hid (B2.out.trans (hB.mono B2.out.size));clear hB B2;go_wp2_with fail
    refine Calls.mono (show Calls Tryz.prog 11 #[.int .i64 6,.int .i64 (-1),.pointer (some ⟨B'+1,0,none⟩),.int .i64 0] w3 (INo (nameOf 6) sLrn 1 w3) from new_sizeI w3 6 (Or.inr rfl) (-1) (by omega) _ 0 (HM.out.below B3.out (Nat.le_refl _))) ?_;rintro e w4 ⟨v2,rfl,hF,hB⟩;have F2:=Lib.hid hF;have F1:=Lib.hid (F1.out.below hB);have B4:=Lib.hid (B3.out.trans (hB.mono B3.out.size));clear hF hB B3;have HL4:=Lib.hid (HL.out.below B4.out (Nat.le_refl _));go_wp2_with fail
    refine Calls.mono (faulty_any w4 _ sPol 7 _ (by omega) HL4.out F1.out) ?_;rintro e w5 ⟨rfl,hB⟩;have F2:=Lib.hid (F2.out.below hB);have HL5:=Lib.hid (HL4.out.below hB (Nat.le_refl _));have B5:=Lib.hid (B4.out.trans (hB.mono B4.out.size));clear hB F1 HL4 B4;go_wp2_with fail
    refine Calls.mono (faulty_any w5 (nameOf 6) sLrn 1 _ (by omega) HL5.out F2.out) ?_;rintro e w6 ⟨rfl,hB⟩;have B6:=Lib.hid (HB.out.trans ((B5.out.trans (hB.mono B5.out.size)).mono HB.out.size));clear hB;go_wp2_with fail
    go_ret;exact⟨rfl,B6.out⟩
end Go.Proofs.YtbbogjhapeogeaaGreatDoor.IN
