/- SwL Aw12, in one text. -/
import Derived.Test.YtdmmciggopmglaaGreatDoorYg
import Derived.Test.YtdmmciggopmglaaGreatDoorYd
import Derived.Laws.StructEq
set_option maxRecDepth 20000
namespace Go.Proofs.YtdmmciggopmglaaGreatDoor.SW
open Go.RowKit Sg IN HS
structure ShL(w0 w:World)(p:Nat)(X:Nat->Nat)(U:Nat->Nat->Prop)(B E:Nat)(L:List (List Nat))(s:Sh)(b:Nat->Nat):Prop where
 ca:Shd w p X U B E L s b
 bel:Below w0.heap.size w0 w
 low:∀k,sblk p U B E k->w0.heap.size<=k
def A7(w:World)(T:Nat->Prop)(x:Nat)(M:Nat->Nat):Prop:=w.heap[x]?=some (.cells (agg7 M) 34 (0,0))/\¬T x
section
variable{w0 w w':World}{p B E x:Nat}{X:Nat->Nat}{U U':Nat->Nat->Prop}{L:List (List Nat)}{s s':Sh}{b c:Nat->Nat}{v:Value}{e:Ending}{M:Nat->Nat}{T T':Nat->Prop}
theorem ShL.below(l:ShL w0 w p X U B E L s b)(hb:Below w.heap.size w w'):ShL w0 w' p X U B E L s b:=⟨l.ca.below hb,l.bel.trans (hb.mono l.bel.size),l.low⟩
theorem ShL.op(l:ShL w0 w p X U B E L s b)(hp:SPost v w p X U B E s' c e w'):e= .returned v/\∃U' L',ShL w0 w' p X U' B E L' s' c/\Went w w' (sblk p U B E) (sblk p U' B E):=by
 obtain⟨he,U',L',h1,h2⟩:=hp;have hsz:=l.bel.size;exact⟨he,U',L',⟨h1,l.bel.trans (h2.turn.below l.low hsz),λk hk=>by rcases h2.new k hk with h|h;exact l.low k h;omega⟩,h2⟩
theorem ShL.mono(l:ShL w0 w p X U B E L s b)(h:∀k,k < 7->b k<=c k):ShL w0 w p X U B E L s c:=⟨l.ca.congr rfl rfl rfl (λ_ _=>rfl) (λ_ _=>rfl) (λ_ _=>rfl) h,l.bel,l.low⟩
theorem ShL.lt(l:ShL w0 w p X U B E L s b):∀k,sblk p U B E k->k < w.heap.size:=λ_ hk=>l.ca.lt hk
theorem ShL.ok(l:ShL w0 w p X U B E L s b){k:Nat}(hk:k < 7):(s.st k).Ok:=(l.ca.ins k hk).ok
theorem A7.went(h:A7 w T x M)(g:Went w w' T T'):A7 w' T' x M:=by
 have o:=SR.went_out g (heap_lt h.1) h.2;exact⟨o.1.trans h.1,o.2⟩
theorem A7.below(h:A7 w T x M)(g:Below w.heap.size w w'):A7 w' T x M:=h.went (Went.below g)
theorem A7.cells(h:A7 w T x M):w.cell? ⟨x,0,none⟩=some (.int .i64 (M 0:Int))/\w.cell? ⟨x,1,none⟩=some (.int .i64 (M 1:Int))/\w.cell? ⟨x,2,none⟩=some (.int .i64 (M 2:Int))/\w.cell? ⟨x,3,none⟩=some (.int .i64 (M 3:Int))/\w.cell? ⟨x,4,none⟩=some (.int .i64 (M 4:Int))/\w.cell? ⟨x,5,none⟩=some (.int .i64 (M 5:Int))/\w.cell? ⟨x,6,none⟩=some (.int .i64 (M 6:Int)):=
 ⟨cell_of_row w _ 0 _ _ _ h.1,cell_of_row w _ 1 _ _ _ h.1,cell_of_row w _ 2 _ _ _ h.1,cell_of_row w _ 3 _ _ _ h.1,cell_of_row w _ 4 _ _ _ h.1,cell_of_row w _ 5 _ _ _ h.1,cell_of_row w _ 6 _ _ _ h.1⟩
theorem A7.cell(h:A7 w T x M){k:Nat}(hk:k < 7):w.cell? ⟨x,k,none⟩=some (.int .i64 (M k:Int)):=by
 rcases seven hk with rfl|rfl|rfl|rfl|rfl|rfl|rfl <;> exact cell_of_row w _ _ _ _ _ h.1
end
theorem ShL.made{w w1 w2 w3:World}{B p:Nat}{X:Nat->Nat}{U:Nat->Nat->Prop}{L:List (List Nat)}{s:Sh}{b:Nat->Nat}(b1:Below w.heap.size w w1)(hB0:w1.heap.size<=B)(hB1:Below w1.heap.size w1 w2)(hC:Shd w3 p X U B w2.heap.size L s b)(hU:∀x,sblk p U B w2.heap.size x->B<=x)(hB2:Below w2.heap.size w2 w3):ShL w w3 p X U B w2.heap.size L s b:=by
 have b2:=b1.trans (hB1.mono b1.size);exact⟨hC,b2.trans (hB2.mono b2.size),λk hk=>Nat.le_trans (Nat.le_trans b1.size hB0) (hU k hk)⟩
def RqR(w0:World)(p:Nat)(X:Nat->Nat)(B E:Nat)(K:Nat->ByteArray)(s:Sh)(n:Nat)(i:Value)(W:World):Prop:=
 ∃(k:Nat) (U:Nat->Nat->Prop) (L:List (List Nat)),i= .int .i64 (k:Int)/\k<=n/\ShL w0 W p X U B E L (runS K k s) (λ_=>4*k)
def FB(w:World)(T:Nat->Prop)(g:Nat):Prop:=FCell w g/\¬T g
theorem FB.went{w w':World}{T T':Nat->Prop}{g:Nat}(h:FB w T g)(q:Went w w' T T'):FB w' T' g:=by
 have o:=SR.went_out q (heap_lt h.1) h.2;exact⟨o.1.trans h.1,o.2⟩
theorem FB.below{w w':World}{T:Nat->Prop}{g:Nat}(h:FB w T g)(q:Below w.heap.size w w'):FB w' T g:=h.went (Went.below q)
theorem FB.wraps{w:World}{T:Nat->Prop}{g:Nat}(h:FB w T g)(hl:Laid w):
 Calls Tryz.prog 25 #[.iface 59 (.pointer (some ⟨g,0,none⟩)),.string sSha,.string ⟨#[]⟩,.int .i64 1] w (λe w'=>e= .returned (.bool true)/\Below w.heap.size w w'):=
 Flt.wraps ⟨g,rfl,heap_lt h.1,h.1⟩ (by decide) hl
theorem ix0{k:Nat}(hk:k < 7)(x:Nat)(W:World):(Instr.indexAt 34 (.pointer (some ⟨x,0,none⟩)) (.int .i64 (k:Int))).run Tryz.prog W= .ok (.pointer (some ⟨x,k,none⟩)) W:=by
 rcases seven hk with rfl|rfl|rfl|rfl|rfl|rfl|rfl <;> kernel_rfl
def laid7(w:World)(M:Nat->Nat):World:=w.alloc (.cells #[.int .i64 (M 0:Int),.int .i64 (M 1:Int),.int .i64 (M 2:Int),.int .i64 (M 3:Int),.int .i64 (M 4:Int),.int .i64 (M 5:Int),.int .i64 (M 6:Int)] 34)
theorem laid7_box(w:World)(M:Nat->Nat){T:Nat->Prop}(hT:∀k,T k->k < w.heap.size):A7 (laid7 w M) T w.heap.size M/\Below w.heap.size w (laid7 w M):=
 ⟨⟨heap_alloc_new w _,λe=>Nat.lt_irrefl _ (hT _ e)⟩,(Below.refl w.heap.size w).alloc (Nat.le_refl _) _⟩
section
variable(w:World)(M N:Nat->Nat)
theorem eq7(a b c d e f g:Int):(binOp .eql 34 (.agg #[.int .i64 a,.int .i64 b,.int .i64 c,.int .i64 d,.int .i64 e,.int .i64 f,.int .i64 g]) (.agg #[.int .i64 a,.int .i64 b,.int .i64 c,.int .i64 d,.int .i64 e,.int .i64 f,.int .i64 g])).run Tryz.prog w= .ok (.bool true) w:=by
 have u1:=Tryz.underlying3;have z1:=Tryz.sizeOf3;have hS:Tryz.prog.underlying 34=some (.array 7 3):=by kernel_rfl
 rw[run_eql_struct,show(10000:Nat)=9998+1+1 from rfl];generalize 9998=d';rw[Op.equalIn.eq_def];simp only[Sem.run_bind,run_underlying hS,Result.andThen_ok];simp only[z1,Result.andThen_ok,Std.Legacy.Range.forIn_eq_forIn_range',Std.Legacy.Range.size,Nat.sub_zero,Nat.add_sub_cancel,Nat.div_one,List.range'_succ,List.range'_zero,List.forIn_cons,List.forIn_nil];go_simp
theorem neq7(a b c d e f g:Int):(binOp .neq 34 (.agg #[.int .i64 a,.int .i64 b,.int .i64 c,.int .i64 d,.int .i64 e,.int .i64 f,.int .i64 g]) (.agg #[.int .i64 a,.int .i64 b,.int .i64 c,.int .i64 d,.int .i64 e,.int .i64 f,.int .i64 g])).run Tryz.prog w= .ok (.bool false) w:=by
 have u1:=Tryz.underlying3;have z1:=Tryz.sizeOf3;have hS:Tryz.prog.underlying 34=some (.array 7 3):=by kernel_rfl
 rw[run_neq_struct,show(10000:Nat)=9998+1+1 from rfl];generalize 9998=d';rw[Op.equalIn.eq_def];simp only[Sem.run_bind,run_underlying hS,Result.andThen_ok];simp only[z1,Result.andThen_ok,Std.Legacy.Range.forIn_eq_forIn_range',Std.Legacy.Range.size,Nat.sub_zero,Nat.add_sub_cancel,Nat.div_one,List.range'_succ,List.range'_zero,List.forIn_cons,List.forIn_nil];go_simp
theorem guard7(op:BinOp)(x y:Operand)(xs ys:Array Value):(eqGuard op 34 x y (.agg xs) (.agg ys)).run Tryz.prog w= .ok () w:=
 run_eqGuard_agg w op 34 x y xs ys (by kernel_rfl)
theorem all7{M:Nat->Nat}{n:Nat}(h:∀k,k < 7->M k=n)(W:World):(binOp .eql 34 (.agg #[.int .i64 (M 0:Int),.int .i64 (M 1:Int),.int .i64 (M 2:Int),.int .i64 (M 3:Int),.int .i64 (M 4:Int),.int .i64 (M 5:Int),.int .i64 (M 6:Int)]) (.agg #[.int .i64 (n:Int),.int .i64 (n:Int),.int .i64 (n:Int),.int .i64 (n:Int),.int .i64 (n:Int),.int .i64 (n:Int),.int .i64 (n:Int)])).run Tryz.prog W= .ok (.bool true) W:=by
 rw[h 0 (by omega),h 1 (by omega),h 2 (by omega),h 3 (by omega),h 4 (by omega),h 5 (by omega),h 6 (by omega)];exact eq7 W n n n n n n n
end
end Go.Proofs.YtdmmciggopmglaaGreatDoor.SW
set_option maxRecDepth 20000
namespace Go.Proofs.YtdmmciggopmglaaGreatDoor.SW
open Go.RowKit Sg IN HS
theorem one_of{l:List ByteArray}{a:ByteArray}(nd:l.Nodup)(h:∀x∈l,x=a)(ha:a∈l):l= [a]:=by
 cases l with
 |nil=>cases ha
 |cons x t=>
  cases t with
  |nil=>rw[h x List.mem_cons_self]
  |cons y t=>
   have h1:=h x List.mem_cons_self;have h2:=h y (List.mem_cons_of_mem _ List.mem_cons_self);rw[h1,h2] at nd;exact absurd List.mem_cons_self (List.nodup_cons.1 nd).1
theorem wake7{x0 x1 x2 x3 x4:ISt}(e1:x1=x0.req sa)(e2:x2=x1.req sa)(e3:x3=x2.req sb)(e4:x4=x3.rm sa)(h0:x0.Ok)(h1:x1.Ok)(h2:x2.Ok)(h3:x3.Ok)(h4:x4.Ok)(m0:x0.mo=2)(k0:x0.keys= []):
 x0.hitB sa=false/\x1.hitB sa=true/\x2.hitB sb=false/\x4.keys= [sb]/\x4.mo=2:=by
 have m1:x1.mo=2:=by rw[e1,ISt.mo_req];exact m0
 have m2:x2.mo=2:=by rw[e2,ISt.mo_req];exact m1
 have m3:x3.mo=2:=by rw[e3,ISt.mo_req];exact m2
 have m4:x4.mo=2:=by rw[e4,ISt.mo_rm];exact m3
 have f1:=ISt.req_f h0 (by omega) sa;have f2:=ISt.req_f h1 (by omega) sa;have f3:=ISt.req_f h2 (by omega) sb;have f4:=ISt.rm_f h3 sa;rw[← e1] at f1;rw[← e2] at f2;rw[← e3] at f3;rw[← e4] at f4
 have o1:∀x∈x1.keys,x=sa:=λx hx=>by
  rcases f1.old x hx with h|h
  . rw[k0] at h;cases h
  . exact h
 have o2:∀x∈x2.keys,x=sa:=λx hx=>(f2.old x hx).elim (o1 x) id;have hne:sb≠sa:=by decide
 have hb2:sb∉x2.keys:=λe=>hne (o2 sb e);refine⟨f1.hitE.trans (inn_no.2 (by rw[k0];simp)),f2.hitE.trans (inn_iff.2 f1.has),f3.hitE.trans (inn_no.2 hb2),one_of (ISt.nd h4) (λx hx=>?_) ((f4.mem sb).2 ⟨f3.has,hne⟩),m4⟩;obtain⟨g1,g2⟩:=(f4.mem x).1 hx;rcases f3.old x g1 with h|h
 . exact absurd (o2 x h) g2
 . exact h
theorem one_row(w:World)(s:ByteArray)(hs:s.size<=maxLen):Row (w.alloc (.cells #[.string s] 9)) w.heap.size (.slice (some ⟨w.heap.size,0,none⟩) 1 1) [s]:=by
 refine⟨by simp,λx hx=>?_,Or.inr ?_⟩
 . rw[List.mem_singleton.1 hx];exact hs
 . refine⟨0,1,rfl,by simp,Nat.le_refl _,by unfold maxLen;omega,λj hj=>?_⟩;have:j=0:=by simpa using hj
   subst this;exact cell_of_row _ _ 0 _ _ _ (heap_alloc_new w _)
set_option maxHeartbeats 4000000 in
theorem awake_any(w:World)(hl:Laid w):Calls Tryz.prog 9 #[] w (RetB true w):=by
 have HL:=Lib.hid hl;have eg:=λ(W:World)=>guard7 W;clear hl;go_enter Tryz.func9,Tryz.ntmps9;go_wp2_with fail
 refine(DR.newE_any _ _ w (no_lanes w)).mono ?_;rintro e w1 ⟨B,rfl,hT,hB0,hB1⟩;have T1:=Lib.hid (And.intro hT (And.intro hB0 hB1));clear hT hB0 hB1;go_wp2_with fail
 refine Calls.mono (show Calls Tryz.prog 11 #[.int .i64 2,.int .i64 0,.int .i64 3,.pointer (some ⟨B+1,0,none⟩)] w1 (SNew 2 0 3 B w1.heap.size [] w1) from new_any w1 2 0 3 B w1.heap.size [] (by omega) (by omega) (by omega) (by omega) T1.out.1) ?_;rintro e w2 ⟨p,X,U,rfl,hC,hU,hB2⟩;have L2:=Lib.hid (show ShL w w2 p X U B w1.heap.size [] (Sh.start 0 3 2 []) (λ_=>0) from⟨hC,T1.out.2.2.trans (hB2.mono T1.out.2.2.size),λk hk=>Nat.le_trans T1.out.2.1 (hU k hk)⟩);clear hC hU hB2 T1;generalize w1.heap.size=E at*;generalize hs0:Sh.start 0 3 2 []=s0 at*
 have S0:=Lib.hid (show s0.shift=0/\s0.win=3/\s0.left=3/\(∀k,k < 7->(s0.st k).mo=2/\(s0.st k).keys= [])/\s0.mis=(λ_=>0)/\s0.sco=(λ_=>0) from by
  rw[← hs0];exact⟨rfl,rfl,rfl,λk hk=>⟨(ISt.start_kind hk 2 _).2.1,(ISt.start_kind hk 2 _).2.2.1⟩,rfl,rfl⟩)
 have O0:=Lib.hid (λk hk=>L2.out.ok (k:=k) hk);clear hs0;go_wp2_with fail
 refine(DR.newE_any _ _ w2 (no_lanes w2)).mono ?_;rintro e w3 ⟨B3,rfl,_,_,hB⟩;have L3:=Lib.hid (L2.out.below hB);clear hB L2;go_wp2_with fail
 refine Calls.mono (new_no1 w3 _) ?_;rintro e w4 ⟨g1,rfl,hg,hF,hB⟩;have F1:=Lib.hid (show FB w4 (sblk p U B E) g1 from⟨hF,λe=>by have:=L3.out.lt _ e;omega⟩);have L4:=Lib.hid (L3.out.below hB);clear hF hB L3 hg;go_wp2_with fail
 refine(DR.newE_any _ _ w4 (no_lanes w4)).mono ?_;rintro e w5 ⟨B5,rfl,_,_,hB⟩;have L5:=Lib.hid (L4.out.below hB);have F1:=Lib.hid (F1.out.below hB);clear hB L4;go_wp2_with fail
 refine Calls.mono (new_no2 w5 _) ?_;rintro e w6 ⟨g2,rfl,hg,hF,hB⟩;have F2:=Lib.hid (show FB w6 (sblk p U B E) g2 from⟨hF,λe=>by have:=L5.out.lt _ e;omega⟩);have F1:=Lib.hid (F1.out.below hB);have L6:=Lib.hid (L5.out.below hB);clear hF hB L5 hg;go_wp2_with fail
 refine(DR.newE_any _ _ w6 (no_lanes w6)).mono ?_;rintro e w7 ⟨B7,rfl,_,_,hB⟩;have L7:=Lib.hid (L6.out.below hB);have F1:=Lib.hid (F1.out.below hB);have F2:=Lib.hid (F2.out.below hB);clear hB L6;go_wp2_with fail
 refine Calls.mono (new_no3 w7 _) ?_;rintro e w8 ⟨g3,rfl,hg,hF,hB⟩;have F:=Lib.hid (show FB w8 (sblk p U B E) g1/\FB w8 (sblk p U B E) g2/\FB w8 (sblk p U B E) g3 from⟨F1.out.below hB,F2.out.below hB,hF,λe=>by have:=L7.out.lt _ e;omega⟩);have L8:=Lib.hid (L7.out.below hB);clear hF hB L7 F1 F2 hg;have V:=request_any w8 p X U B E [] s0 (λ_=>0) sa L8.out.ca (by decide) (by rw[S0.out.2.2.1];omega) (λ_ _=>by omega);rw[decide_eq_false (by rw[S0.out.2.2.1];omega)] at V
 replace V:=Lib.hid V
 have S1:=Lib.hid (Sh.req_go0 (s:=s0) sa S0.out.1 (by rw[S0.out.2.2.1];omega));generalize s0.req sa=s1 at*;go_wp2_with fail
 refine Calls.mono (show Calls Tryz.prog 13 #[.pointer (some ⟨p,0,none⟩),.string ⟨#[97]⟩] w8 _ from V.out) ?_;intro e w9 hp;obtain⟨rfl,U9,M9,hL,hW⟩:=L8.out.op hp;have L9:=Lib.hid hL;have F:=Lib.hid (show FB w9 (sblk p U9 B E) g1/\FB w9 (sblk p U9 B E) g2/\FB w9 (sblk p U9 B E) g3 from⟨F.out.1.went hW,F.out.2.1.went hW,F.out.2.2.went hW⟩);have O1:=Lib.hid (λk hk=>L9.out.ok (k:=k) hk);clear hp hL hW L8 V;have V:=request_any w9 p X U9 B E M9 s1 _ sa L9.out.ca (by decide) (by rw[S1.out.2.2.1,S0.out.2.2.1];omega) (λ_ _=>by omega);rw[decide_eq_false (by rw[S1.out.2.2.1,S0.out.2.2.1];omega)] at V
 replace V:=Lib.hid V
 have S2:=Lib.hid (Sh.req_go0 (s:=s1) sa S1.out.1 (by rw[S1.out.2.2.1,S0.out.2.2.1];omega));generalize s1.req sa=s2 at*;go_wp2_with fail
 refine Calls.mono (show Calls Tryz.prog 13 #[.pointer (some ⟨p,0,none⟩),.string ⟨#[97]⟩] w9 _ from V.out) ?_;intro e wa hp;obtain⟨rfl,Ua,Ma,hL,hW⟩:=L9.out.op hp;have La:=Lib.hid hL;have F:=Lib.hid (show FB wa (sblk p Ua B E) g1/\FB wa (sblk p Ua B E) g2/\FB wa (sblk p Ua B E) g3 from⟨F.out.1.went hW,F.out.2.1.went hW,F.out.2.2.went hW⟩);have O2:=Lib.hid (λk hk=>La.out.ok (k:=k) hk);clear hp hL hW L9 V;have left2:s2.left=1:=by rw[S2.out.2.2.1,S1.out.2.2.1,S0.out.2.2.1]
 have LF2:=Lib.hid left2;clear left2;have V:=Lib.hid (misses_any wa p _ _ _ _ _ _ La.out.ca.box);obtain⟨m2,hm2⟩:∃m,m=s2.mis:=⟨_,rfl⟩;rw[← hm2] at V;have HM2:=Lib.hid hm2;clear hm2;go_wp2_with fail
 refine V.out.mono ?_;rintro e wb ⟨rfl,hB⟩;have Lb:=Lib.hid (La.out.below hB);have F:=Lib.hid (show FB wb (sblk p Ua B E) g1/\FB wb (sblk p Ua B E) g2/\FB wb (sblk p Ua B E) g3 from⟨F.out.1.below hB,F.out.2.1.below hB,F.out.2.2.below hB⟩);clear hB La V;obtain⟨b1,b2⟩:=laid7_box wb m2 (T:=sblk p Ua B E) Lb.out.lt;obtain⟨wc,hwc⟩:∃q,q=laid7 wb m2:=⟨_,rfl⟩;rw[← hwc] at b1 b2;unfold laid7 at hwc;have LD:=Lib.hid (And.intro b1 (And.intro b2 hwc));clear b1 b2 hwc;unfold agg7;go_upto_region 9 with fail
 rw[← LD.out.2.2];have Lc:=Lib.hid (Lb.out.below LD.out.2.1);have AM:=Lib.hid LD.out.1;have F:=Lib.hid (show FB wc (sblk p Ua B E) g1/\FB wc (sblk p Ua B E) g2/\FB wc (sblk p Ua B E) g3 from⟨F.out.1.below LD.out.2.1,F.out.2.1.below LD.out.2.1,F.out.2.2.below LD.out.2.1⟩);clear LD Lb;generalize wb.heap.size=xm at*;have V:=request_any wc p X Ua B E Ma s2 _ sb Lc.out.ca (by decide) (by rw[LF2.out];omega) (λ_ _=>by omega);rw[decide_eq_true LF2.out] at V
 replace V:=Lib.hid V
 have S3:=Lib.hid (Sh.req_end0 (s:=s2) sb S2.out.1 LF2.out);generalize s2.req sb=s3 at*;go_wp2_with fail
 refine Calls.mono (show Calls Tryz.prog 13 #[.pointer (some ⟨p,0,none⟩),.string ⟨#[98]⟩] wc _ from V.out) ?_;intro e wd hp;obtain⟨rfl,Ud,Md,hL,hW⟩:=Lc.out.op hp;have Ld:=Lib.hid hL;have AM:=Lib.hid (AM.out.went hW);have F:=Lib.hid (show FB wd (sblk p Ud B E) g1/\FB wd (sblk p Ud B E) g2/\FB wd (sblk p Ud B E) g3 from⟨F.out.1.went hW,F.out.2.1.went hW,F.out.2.2.went hW⟩);have O3:=Lib.hid (λk hk=>Ld.out.ok (k:=k) hk);clear hp hL hW Lc V;have V:=Lib.hid (scores_any wd p _ _ _ _ _ _ Ld.out.ca.box);obtain⟨n3,hn3⟩:∃m,m=s3.sco:=⟨_,rfl⟩;rw[← hn3] at V;have HN3:=Lib.hid hn3;clear hn3;go_wp2_with fail
 refine V.out.mono ?_;rintro e we ⟨rfl,hB⟩;have Le:=Lib.hid (Ld.out.below hB);have AM:=Lib.hid (AM.out.below hB);have F:=Lib.hid (show FB we (sblk p Ud B E) g1/\FB we (sblk p Ud B E) g2/\FB we (sblk p Ud B E) g3 from⟨F.out.1.below hB,F.out.2.1.below hB,F.out.2.2.below hB⟩);clear hB Ld V;obtain⟨b1,b2⟩:=laid7_box we n3 (T:=sblk p Ud B E) Le.out.lt;obtain⟨wf,hwc⟩:∃q,q=laid7 we n3:=⟨_,rfl⟩;rw[← hwc] at b1 b2;unfold laid7 at hwc;have LD:=Lib.hid (And.intro b1 (And.intro b2 hwc));clear b1 b2 hwc;unfold agg7;go_upto_region 11 with fail
 rw[← LD.out.2.2];have Lf:=Lib.hid (Le.out.below LD.out.2.1);have AM:=Lib.hid (AM.out.below LD.out.2.1);have AN:=Lib.hid LD.out.1;have F:=Lib.hid (show FB wf (sblk p Ud B E) g1/\FB wf (sblk p Ud B E) g2/\FB wf (sblk p Ud B E) g3 from⟨F.out.1.below LD.out.2.1,F.out.2.1.below LD.out.2.1,F.out.2.2.below LD.out.2.1⟩);clear LD Le;generalize we.heap.size=xn at*;have V:=Lib.hid (remove_any wf p X Ud B E Md s3 _ sa Lf.out.ca (by decide));obtain⟨s4,hs4⟩:∃s,s=rmA s3 sa:=⟨_,rfl⟩;rw[← hs4] at V;have S4:=Lib.hid (show s4.shift=s3.shift/\s4.left=s3.left/\s4.mis=s3.mis/\(∀k,s4.st k=(s3.st k).rm sa) from by rw[hs4];exact⟨rfl,rfl,rfl,λ_=>rfl⟩);clear hs4;go_wp2_with fail
 refine Calls.mono (show Calls Tryz.prog 27 #[.pointer (some ⟨p,0,none⟩),.string ⟨#[97]⟩] wf _ from V.out) ?_;intro e wg hp;obtain⟨rfl,Ug,Mg,hL,hW⟩:=Lf.out.op hp;have Lg:=Lib.hid hL;have AM:=Lib.hid (AM.out.went hW);have AN:=Lib.hid (AN.out.went hW);have F:=Lib.hid (show FB wg (sblk p Ug B E) g1/\FB wg (sblk p Ug B E) g2/\FB wg (sblk p Ug B E) g3 from⟨F.out.1.went hW,F.out.2.1.went hW,F.out.2.2.went hW⟩);have O4:=Lib.hid (λk hk=>Lg.out.ok (k:=k) hk);clear hp hL hW Lf V;have WK:=Lib.hid (λk (hk:k < 7)=>wake7 (S1.out.2.2.2.2.1 k) (S2.out.2.2.2.2.1 k) (S3.out.2.2.2.2.1 k) (S4.out.2.2.2 k) (O0.out k hk) (O1.out k hk) (O2.out k hk) (O3.out k hk) (O4.out k hk) (S0.out.2.2.2.1 k hk).1 (S0.out.2.2.2.1 k hk).2)
 have H2:=Lib.hid (show ∀k,k < 7->m2 k=1 from λk hk=>by
  rw[HM2.out,S2.out.2.2.2.2.2 k,S1.out.2.2.2.2.2 k,S0.out.2.2.2.2.1,(WK.out k hk).1,(WK.out k hk).2.1];rfl)
 have H3:=Lib.hid (show ∀k,k < 7->n3 k=2 from λk hk=>by
  rw[HN3.out,S3.out.2.2.2.2.2 k,S2.out.2.2.2.1,S1.out.2.2.2.1,S0.out.2.2.2.2.2,<-HM2.out,H2.out k hk,(WK.out k hk).2.2.1];simp)
 have LF:=Lib.hid (show s4.left=3 from by rw[S4.out.2.1,S3.out.2.2.1,S2.out.2.1,S1.out.2.1,S0.out.2.1]);have M4:=Lib.hid (show s4.mis=λ_=>0 from by rw[S4.out.2.2.1,S3.out.2.2.2.1]);clear S0 S1 S2 S3 S4 O0 O1 O2 O3 O4 HM2 HN3 LF2;go_wp2_with fail
 refine Calls.mono (show Calls Tryz.prog 25 #[.iface 59 (.pointer (some ⟨g1,0,none⟩)),.string sSha,.string ⟨#[]⟩,.int .i64 1] wg _ from F.out.1.wraps (HL.out.below Lg.out.bel (Nat.le_refl _))) ?_;rintro e wh ⟨rfl,hB⟩;have Lh:=Lib.hid (Lg.out.below hB);have AM:=Lib.hid (AM.out.below hB);have AN:=Lib.hid (AN.out.below hB);have F:=Lib.hid (show FB wh (sblk p Ug B E) g2/\FB wh (sblk p Ug B E) g3 from⟨F.out.2.1.below hB,F.out.2.2.below hB⟩);clear hB Lg;go_wp2_with fail
 refine Calls.mono (show Calls Tryz.prog 25 #[.iface 59 (.pointer (some ⟨g2,0,none⟩)),.string sSha,.string ⟨#[]⟩,.int .i64 1] wh _ from F.out.1.wraps (HL.out.below Lh.out.bel (Nat.le_refl _))) ?_;rintro e wi ⟨rfl,hB⟩;have Li:=Lib.hid (Lh.out.below hB);have AM:=Lib.hid (AM.out.below hB);have AN:=Lib.hid (AN.out.below hB);have F:=Lib.hid (show FB wi (sblk p Ug B E) g3 from F.out.2.below hB);clear hB Lh;go_wp2_with fail
 refine Calls.mono (show Calls Tryz.prog 25 #[.iface 59 (.pointer (some ⟨g3,0,none⟩)),.string sSha,.string ⟨#[]⟩,.int .i64 1] wi _ from F.out.wraps (HL.out.below Li.out.bel (Nat.le_refl _))) ?_;rintro e wj ⟨rfl,hB⟩;have Lj:=Lib.hid (Li.out.below hB);have AM:=Lib.hid (AM.out.below hB);have AN:=Lib.hid (AN.out.below hB);clear hB Li F;obtain⟨a0,a1,a2,a3,a4,a5,a6⟩:=AM.out.cells;obtain⟨b0,b1,b2,b3,b4,b5,b6⟩:=AN.out.cells;have q1:∀W:World,(binOp .eql 34 (.agg #[.int .i64 (m2 0:Int),.int .i64 (m2 1:Int),.int .i64 (m2 2:Int),.int .i64 (m2 3:Int),.int .i64 (m2 4:Int),.int .i64 (m2 5:Int),.int .i64 (m2 6:Int)]) (.agg #[.int .i64 1,.int .i64 1,.int .i64 1,.int .i64 1,.int .i64 1,.int .i64 1,.int .i64 1])).run Tryz.prog W= .ok (.bool true) W:=λW=>all7 H2.out W;have q2:∀W:World,(binOp .eql 34 (.agg #[.int .i64 (n3 0:Int),.int .i64 (n3 1:Int),.int .i64 (n3 2:Int),.int .i64 (n3 3:Int),.int .i64 (n3 4:Int),.int .i64 (n3 5:Int),.int .i64 (n3 6:Int)]) (.agg #[.int .i64 2,.int .i64 2,.int .i64 2,.int .i64 2,.int .i64 2,.int .i64 2,.int .i64 2])).run Tryz.prog W= .ok (.bool true) W:=λW=>all7 H3.out W
 have V:=Lib.hid (show Calls Tryz.prog 14 #[.pointer (some ⟨p,0,none⟩)] wj (Told (.agg #[.int .i64 0,.int .i64 0,.int .i64 0,.int .i64 0,.int .i64 0,.int .i64 0,.int .i64 0]) wj) from by
  have:=misses_any wj p _ _ _ _ _ _ Lj.out.ca.box;rw[M4.out] at this;exact this)
 have q3:=λW=>eq7 W 0 0 0 0 0 0 0;go_wp2_with fail
 refine V.out.mono ?_;rintro e wk ⟨rfl,hB⟩;have Lk:=Lib.hid (Lj.out.below hB);clear hB Lj a0 a1 a2 a3 a4 a5 a6 b0 b1 b2 b3 b4 b5 b6 q1 q2 V AM AN;have V:=most_any wk p X Ug B E Mg s4 _ Lk.out.ca;rw[(WK.out 0 (by omega)).2.2.2.2] at V
 replace V:=Lib.hid V
 go_wp2_with fail
 refine Calls.mono (show Calls Tryz.prog 24 #[.pointer (some ⟨p,0,none⟩)] wk (Told (.int .i64 2) wk) from V.out) ?_;rintro e wl ⟨rfl,hB⟩;have Ll:=Lib.hid (Lk.out.below hB);clear hB Lk V q3;have V:=left_any wl p _ _ _ _ _ _ Ll.out.ca.box;rw[LF.out] at V
 replace V:=Lib.hid V
 go_wp2_with fail
 refine Calls.mono (show Calls Tryz.prog 21 #[.pointer (some ⟨p,0,none⟩)] wl (Told (.int .i64 3) wl) from V.out) ?_;rintro e wm ⟨rfl,hB⟩;have Lm:=Lib.hid (Ll.out.below hB);clear hB Ll V;have V:=keys_any wm p X Ug B E Mg s4 _ Lm.out.ca 4 (by omega);rw[(WK.out 4 (by omega)).2.2.2.1] at V
 replace V:=Lib.hid V
 go_wp2_with fail
 refine Calls.mono (show Calls Tryz.prog 19 #[.pointer (some ⟨p,0,none⟩),.int .i64 4] wm (RowPost [sb] wm) from V.out) ?_;rintro e wn ⟨v,rfl,hO,hB⟩;obtain⟨gv,_,hr⟩:=hO.row;have Ln:=Lib.hid (Lm.out.below hB);have RV:=Lib.hid (hr.below ((Below.refl wn.heap.size wn).alloc (Nat.le_refl _) (.cells #[.string sb] 9)));have RW:=Lib.hid (one_row wn sb (by decide));obtain⟨A,cc,hv⟩:=hr.shape;subst hv
 have SM:=Lib.hid (show Calls Tryz.prog 18 #[.slice A 1 cc,.slice (some ⟨wn.heap.size,0,none⟩) 1 1] (wn.alloc (.cells #[.string sb] 9)) (SamePost true (wn.alloc (.cells #[.string sb] 9))) from by
  have:=refSame_any _ _ _ _ _ _ _ RV.out RW.out;rw[decide_eq_true rfl] at this;exact this)
 have Lo:=Lib.hid (Ln.out.below ((Below.refl wn.heap.size wn).alloc (Nat.le_refl _) (.cells #[.string sb] 9)));clear hO hB hr RV RW V Lm Ln;go_wp2_with fail
 refine SM.out.mono ?_;intro e wo hp;obtain⟨rfl,hB⟩:=same_below hp;have Lp:=Lib.hid (Lo.out.below hB);have HS:=Lib.hid (Nat.le_trans (Nat.le_of_lt (show wn.heap.size < (wn.alloc (.cells #[.string sb] 9)).heap.size by simp)) hB.size);clear hp hB SM Lo;go_wp2_with fail
 refine(keys_seven wo p).mono ?_;rintro e wq ⟨rfl,hB⟩;have Lq:=Lib.hid (Lp.out.below hB);clear hB Lp;go_wp2_with fail
 go_ret;exact⟨rfl,Lq.out.bel⟩
end Go.Proofs.YtdmmciggopmglaaGreatDoor.SW
