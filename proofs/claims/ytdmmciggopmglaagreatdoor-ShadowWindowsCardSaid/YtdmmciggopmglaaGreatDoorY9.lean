/- Ll Lm, in one text. -/
import Derived.Test.YtdmmciggopmglaaGreatDoorY6
import Derived.Test.YtdmmciggopmglaaGreatDoorY8
set_option maxRecDepth 20000
namespace Go.Proofs.YtdmmciggopmglaaGreatDoor.LE
open Go.RowKit Go.Maps Go.WideMaps Sg
theorem idx2i_0(w:World)(x0 x1:Value):(Instr.index 108 (.agg #[x0,x1]) (.int .i64 0)).run Tryz.prog w= .ok x0 w:=by kernel_rfl
theorem idx2i_1(w:World)(x0 x1:Value):(Instr.index 108 (.agg #[x0,x1]) (.int .i64 1)).run Tryz.prog w= .ok x1 w:=by kernel_rfl
def PBox(w:World)(x:Nat)(r:Int):Prop:=w.heap[x]?=some (.cells #[.int .u64 r,.int .i64 0,.int .i64 0,.int .i64 0,.bool false,.bool false,.int .i64 0] 114 (0,0))
theorem load_pace{w:World}{x:Nat}{r:Int}(k:PBox w x r):(loadVar 114 ⟨x,0,none⟩).run Tryz.prog w= .ok (.agg #[.int .u64 r,.int .i64 0,.int .i64 0,.int .i64 0,.bool false,.bool false,.int .i64 0]) w:=by
 have k0:=cell_of_row w _ 0 _ _ _ k;have k1:=cell_of_row w _ 1 _ _ _ k;have k2:=cell_of_row w _ 2 _ _ _ k;have k3:=cell_of_row w _ 3 _ _ _ k;have k4:=cell_of_row w _ 4 _ _ _ k;have k5:=cell_of_row w _ 5 _ _ _ k;have k6:=cell_of_row w _ 6 _ _ _ k;unfold loadVar;go_simp
theorem PBox.put{w:World}{x:Nat}{r q:Int}(k:PBox w x r):PBox (((((((w.setCell ⟨x,0,none⟩ (.int .u64 q)).setCell ⟨x,1,none⟩ (.int .i64 0)).setCell ⟨x,2,none⟩ (.int .i64 0)).setCell ⟨x,3,none⟩ (.int .i64 0)).setCell ⟨x,4,none⟩ (.bool false)).setCell ⟨x,5,none⟩ (.bool false)).setCell ⟨x,6,none⟩ (.int .i64 0)) x q:=by
 unfold PBox at*;have r0:(w.setCell ⟨x,0,none⟩ (.int .u64 q)).heap[x]?=some (.cells #[.int .u64 q,.int .i64 0,.int .i64 0,.int .i64 0,.bool false,.bool false,.int .i64 0] 114 (0,0)):=by rw[heap_setCell_same _ _ _ _ _ _ k];rfl
 have r1:((w.setCell ⟨x,0,none⟩ (.int .u64 q)).setCell ⟨x,1,none⟩ (.int .i64 0)).heap[x]?=some (.cells #[.int .u64 q,.int .i64 0,.int .i64 0,.int .i64 0,.bool false,.bool false,.int .i64 0] 114 (0,0)):=by rw[heap_setCell_same _ _ _ _ _ _ r0];rfl
 have r2:(((w.setCell ⟨x,0,none⟩ (.int .u64 q)).setCell ⟨x,1,none⟩ (.int .i64 0)).setCell ⟨x,2,none⟩ (.int .i64 0)).heap[x]?=some (.cells #[.int .u64 q,.int .i64 0,.int .i64 0,.int .i64 0,.bool false,.bool false,.int .i64 0] 114 (0,0)):=by rw[heap_setCell_same _ _ _ _ _ _ r1];rfl
 have r3:((((w.setCell ⟨x,0,none⟩ (.int .u64 q)).setCell ⟨x,1,none⟩ (.int .i64 0)).setCell ⟨x,2,none⟩ (.int .i64 0)).setCell ⟨x,3,none⟩ (.int .i64 0)).heap[x]?=some (.cells #[.int .u64 q,.int .i64 0,.int .i64 0,.int .i64 0,.bool false,.bool false,.int .i64 0] 114 (0,0)):=by rw[heap_setCell_same _ _ _ _ _ _ r2];rfl
 have r4:(((((w.setCell ⟨x,0,none⟩ (.int .u64 q)).setCell ⟨x,1,none⟩ (.int .i64 0)).setCell ⟨x,2,none⟩ (.int .i64 0)).setCell ⟨x,3,none⟩ (.int .i64 0)).setCell ⟨x,4,none⟩ (.bool false)).heap[x]?=some (.cells #[.int .u64 q,.int .i64 0,.int .i64 0,.int .i64 0,.bool false,.bool false,.int .i64 0] 114 (0,0)):=by rw[heap_setCell_same _ _ _ _ _ _ r3];rfl
 have r5:((((((w.setCell ⟨x,0,none⟩ (.int .u64 q)).setCell ⟨x,1,none⟩ (.int .i64 0)).setCell ⟨x,2,none⟩ (.int .i64 0)).setCell ⟨x,3,none⟩ (.int .i64 0)).setCell ⟨x,4,none⟩ (.bool false)).setCell ⟨x,5,none⟩ (.bool false)).heap[x]?=some (.cells #[.int .u64 q,.int .i64 0,.int .i64 0,.int .i64 0,.bool false,.bool false,.int .i64 0] 114 (0,0)):=by rw[heap_setCell_same _ _ _ _ _ _ r4];rfl
 rw[heap_setCell_same _ _ _ _ _ _ r5];rfl
def rate0:Nat:=Fx.quo 45 100
theorem newPace_l(w:World):Calls Tryz.prog 54 #[] w (λe w'=>e= .returned (.agg #[.int .u64 (rate0:Int),.int .i64 0,.int .i64 0,.int .i64 0,.bool false,.bool false,.int .i64 0])/\Below w.heap.size w w'):=by
 have b0:=(Below.refl w.heap.size w).alloc (Nat.le_refl _) (.cells #[.int .u64 0,.int .i64 0,.int .i64 0,.int .i64 0,.bool false,.bool false,.int .i64 0] 114);have U:=Lib.hid (show Calls Tryz.prog 61 #[.int .i64 45,.int .i64 100] (w.alloc (.cells #[.int .u64 0,.int .i64 0,.int .i64 0,.int .i64 0,.bool false,.bool false,.int .i64 0] 114)) (Num rate0 _) from part_l 45 100 _ (by omega) (by omega) (by omega));have PB:=Lib.hid (show PBox (w.alloc (.cells #[.int .u64 0,.int .i64 0,.int .i64 0,.int .i64 0,.bool false,.bool false,.int .i64 0] 114)) w.heap.size 0 from heap_alloc_new _ _);have B0:=Lib.hid b0;clear b0;go_enter Tryz.func54,Tryz.ntmps54;go_wp2_with fail
 refine U.out.mono ?_;rintro e w1 ⟨rfl,hB⟩;have P1:PBox w1 w.heap.size 0:=(hB.block _ (heap_lt PB.out)).trans PB.out;have k0:=cell_of_row w1 _ 0 _ _ _ P1;have k1:=cell_of_row w1 _ 1 _ _ _ P1;have k2:=cell_of_row w1 _ 2 _ _ _ P1;have k3:=cell_of_row w1 _ 3 _ _ _ P1;have k4:=cell_of_row w1 _ 4 _ _ _ P1;have k5:=cell_of_row w1 _ 5 _ _ _ P1;have k6:=cell_of_row w1 _ 6 _ _ _ P1;have f0:=frozen_of_row w1 _ 0 _ _ P1;have f1:=frozen_of_row w1 _ 1 _ _ P1;have f2:=frozen_of_row w1 _ 2 _ _ P1;have f3:=frozen_of_row w1 _ 3 _ _ P1;have f4:=frozen_of_row w1 _ 4 _ _ P1;have f5:=frozen_of_row w1 _ 5 _ _ P1;have f6:=frozen_of_row w1 _ 6 _ _ P1;have B1:=Lib.hid (B0.out.trans (hB.mono B0.out.size));have Q1:=Lib.hid (P1.put (q:=(rate0:Int)));clear P1 hB U PB;go_wp2_with fail
 refine bodyPost_ret (LR.results_c rfl _ _ _ ⟨w.heap.size,0,none⟩ _ rfl (load_pace Q1.out)) rfl ?_;exact⟨rfl,((((((B1.out.setCell (Nat.le_refl _) _).setCell (Nat.le_refl _) _).setCell (Nat.le_refl _) _).setCell (Nat.le_refl _) _).setCell (Nat.le_refl _) _).setCell (Nat.le_refl _) _).setCell (Nat.le_refl _) _⟩
theorem load_two{w:World}{x:Nat}{a c:Int}(k:w.heap[x]?=some (.cells #[.int .i64 a,.int .i64 c] 108 (0,0))):(loadVar 108 ⟨x,0,none⟩).run Tryz.prog w= .ok (.agg #[.int .i64 a,.int .i64 c]) w:=by
 have k0:=cell_of_row w _ 0 _ _ _ k;have k1:=cell_of_row w _ 1 _ _ _ k;unfold loadVar;go_simp
theorem experts_five(w:World):Calls Tryz.prog 52 #[.int .i64 5] w (λe w'=>e= .returned (.tuple #[.agg #[.int .i64 0,.int .i64 1],.bool true])/\Below w.heap.size w w'):=by
 have Q:=Lib.hid (heap_alloc_new w (.cells #[.int .i64 0,.int .i64 1] 108));have B0:=Lib.hid ((Below.refl w.heap.size w).alloc (Nat.le_refl _) (.cells #[.int .i64 0,.int .i64 1] 108));go_enter Tryz.func52,Tryz.ntmps52;go_wp2_with fail
 refine bodyPost_ret (LR.results_ct rfl _ _ _ ⟨w.heap.size,0,none⟩ _ rfl (load_two Q.out)) rfl ?_;exact⟨rfl,B0.out⟩
theorem experts_six(w:World):Calls Tryz.prog 52 #[.int .i64 6] w (λe w'=>e= .returned (.tuple #[.agg #[.int .i64 3,.int .i64 2],.bool true])/\Below w.heap.size w w'):=by
 have Q:=Lib.hid (heap_alloc_new w (.cells #[.int .i64 3,.int .i64 2] 108));have B0:=Lib.hid ((Below.refl w.heap.size w).alloc (Nat.le_refl _) (.cells #[.int .i64 3,.int .i64 2] 108));go_enter Tryz.func52,Tryz.ntmps52;go_wp2_with fail
 refine bodyPost_ret (LR.results_ct rfl _ _ _ ⟨w.heap.size,0,none⟩ _ rfl (load_two Q.out)) rfl ?_;exact⟨rfl,B0.out⟩
def aOf(p q r t:Option Nat):Nat->Option Nat
 |0=>p
 |1=>q
 |2=>r
 |_=>t
def pad(x:Option Nat):Value:= .pointer (x.map λn=>⟨n,0,none⟩)
def nc(kd mo rate m B:Nat)(lane:Int)(a:Nat->Option Nat):Array Value:=#[.int .i64 (kd:Int),.int .i64 (mo:Int),pad (a 0),pad (a 1),pad (a 2),pad (a 3),.map (some m),.int .i64 0,.int .u64 2305843009213693952,.int .u64 (rate:Int),.int .i64 0,.int .i64 0,.int .i64 0,.bool false,.bool false,.int .i64 0,.pointer (some ⟨B+1,0,none⟩),.int .i64 lane]
structure Fill(w W:World)(l m kd mo rate B:Nat)(lane:Int)(a:Nat->Option Nat)(S:Sx)(R:Nat->Part):Prop where
 box:LBox W l (nc kd mo rate m B lane a)
 mp:Mp W m (λ_=>none) 0
 pt:∀k,k < 4->∀x,a k=some x->PartIn W x (S k) 0 (R k)
 low:∀k,k < 4->∀y,S k y->l < y/\y < W.heap.size
 sep:∀j k,j < 4->k < 4->j≠k->∀x,S j x->¬S k x
 lm:m < l
 lw:w.heap.size<=m
 bel:Below w.heap.size w W
section
variable{w W W':World}{l m kd mo rate B:Nat}{lane:Int}{a:Nat->Option Nat}{S:Sx}{R:Nat->Part}{e:Ending}
theorem Fill.below(f:Fill w W l m kd mo rate B lane a S R)(hb:Below W.heap.size W W'):Fill w W' l m kd mo rate B lane a S R:=
 ⟨(hb.block l (heap_lt f.box)).trans f.box,f.mp.same (hb.block m f.mp.lt),λk hk x hx=>(f.pt k hk x hx).below hb,λk hk y hy=>⟨(f.low k hk y hy).1,Nat.lt_of_lt_of_le (f.low k hk y hy).2 hb.size⟩,f.sep,f.lm,f.lw,f.bel.trans (hb.mono f.bel.size)⟩
theorem nc_set(x:Nat){k:Nat}(hk:k < 4):(nc kd mo rate m B lane a).setIfInBounds (2+k) (.pointer (some ⟨x,0,none⟩))=nc kd mo rate m B lane (λj=>if j=k then some x else a j):=by
 rcases k with _|_|_|_|k
 . rfl
 . rfl
 . rfl
 . rfl
 . omega
theorem Fill.add(f:Fill w W l m kd mo rate B lane a S R){k:Nat}(hk:k < 4){x:Nat}{T:Nat->Prop}{w2:World}(hp:PartIn w2 x T 0 (R k))(hT:∀y,T y->W.heap.size<=y)(hb:Below W.heap.size W w2):
 Fill w (w2.setCell ⟨l,2+k,none⟩ (.pointer (some ⟨x,0,none⟩))) l m kd mo rate B lane (λj=>if j=k then some x else a j) (λj=>if j=k then T else S j) R:=by
 have g:=f.below hb;have ht:Turn (λj=>j=l) w2 (w2.setCell ⟨l,2+k,none⟩ (.pointer (some ⟨x,0,none⟩))):=(Turn.refl (λj=>j=l) w2).setCell (p:=⟨l,2+k,none⟩) (Or.inl rfl) _;have hl:=heap_lt f.box;have hs:(w2.setCell ⟨l,2+k,none⟩ (.pointer (some ⟨x,0,none⟩))).heap.size=w2.heap.size:=by simp[World.setCell]
 have hlt:=λy (hy:T y)=>hp.lt hy;refine⟨?_,g.mp.same (ht.block m g.mp.lt (by have:=f.lm;omega)),λj hj y hy=>?_,λj hj y hy=>?_,λj i hj hi hne y hy hy2=>?_,f.lm,f.lw,?_⟩
 . have:=g.box;unfold LBox at this|-;rw[heap_setCell_same _ _ _ _ _ _ this,nc_set x hk]
 . by_cases ejk:j=k
   . subst ejk;rw[if_pos rfl] at hy;rw[if_pos rfl];obtain rfl:=Option.some.inj hy;exact hp.beside ht λy hy e=>by have:=hT y hy;have e:y=l:=e;omega
   . rw[if_neg ejk] at hy;rw[if_neg ejk];exact(g.pt j hj y hy).beside ht λy hy e=>by have:=(f.low j hj y hy).1;have e:y=l:=e;omega
 . rw[hs]
   by_cases ejk:j=k
   . rw[if_pos ejk] at hy;exact⟨by have:=hT y hy;omega,hlt y hy⟩
   . rw[if_neg ejk] at hy;exact g.low j hj y hy
 . by_cases ejk:j=k
   . rw[if_pos ejk] at hy;rw[if_neg (by omega)] at hy2;have:=hT y hy;have:=(f.low i hi y hy2).2;omega
   . rw[if_neg ejk] at hy
     by_cases eik:i=k
     . rw[if_pos eik] at hy2;have:=hT y hy2;have:=(f.low j hj y hy).2;omega
     . rw[if_neg eik] at hy2;exact f.sep j i hj hi hne y hy hy2
 . exact g.bel.trans (ht.below (B:=w.heap.size) (λy hy=>by have hy:y=l:=hy;have:=f.lm;have:=f.lw;omega) g.bel.size)
theorem Fill.congr{a':Nat->Option Nat}(f:Fill w W l m kd mo rate B lane a S R)(h:∀k,k < 4->a' k=a k):Fill w W l m kd mo rate B lane a' S R:=by
 refine⟨?_,f.mp,λk hk x hx=>f.pt k hk x (by rw[← h k hk];exact hx),f.low,f.sep,f.lm,f.lw,f.bel⟩;have e:nc kd mo rate m B lane a'=nc kd mo rate m B lane a:=by unfold nc;rw[h 0 (by omega),h 1 (by omega),h 2 (by omega),h 3 (by omega)]
 rw[e];exact f.box
end
def NewT(six:Bool)(mo B E:Nat)(L:List (List Nat))(lane:Int)(w:World)(e:Ending)(w':World):Prop:=
 ∃i S,e= .returned (.tuple #[.pointer (some ⟨i.l,0,none⟩),.nilIface])/\LT w' i S B E L lane (St.start six mo (DR.lget L lane)) 0/\(∀k,blk i S k->w.heap.size<=k)/\Below w.heap.size w w'
theorem start_fl(six:Bool)(mo B:Nat)(lane:Int)(vs:List Nat)(l m:Nat)(p q r t:Nat):nc (if six then 6 else 5) mo rate0 m B lane (aOf (some p) (some q) (some r) (some t))=lcells ⟨l,λ|0=>p|1=>q|2=>r|3=>t|_=>m⟩ (flOf (St.start six mo vs) B lane):=by
 cases six <;> rfl
theorem Fill.done{w W:World}{l m mo B E:Nat}{lane:Int}{L:List (List Nat)}{p q r t:Nat}{S:Sx}(six:Bool)(hm:mo<=16777216)(hT:DR.Tape w B E L)
 (f:Fill w W l m (if six then 6 else 5) mo rate0 B lane (aOf (some p) (some q) (some r) (some t)) S (pts (KSt.start (if six then 3 else 0) mo) (KSt.start (if six then 2 else 1) mo) [] [] (λ_=>none))):
 NewT six mo B E L lane w (.returned (.tuple #[.pointer (some ⟨l,0,none⟩),.nilIface])) W:=by
 have hE:=hT.lt;refine⟨⟨l,λ|0=>p|1=>q|2=>r|3=>t|_=>m⟩,λk=>if k < 4 then S k else λj=>j=m,rfl,⟨⟨?_,five ?_ ?_ ?_ ?_ ?_,λj k hj hk hne x hx hx2=>?_,λk hk hx=>?_⟩,start_ok six mo _,⟨hm,Nat.le_refl _,Nat.le_refl _,Nat.le_refl _,Nat.le_refl _,Nat.zero_le _⟩,hT.below f.bel,λk hk hk2=>?_,rfl⟩,λk hk=>?_,f.bel⟩
 . have:=f.box;unfold LBox at this|-;rw[this,start_fl six mo B lane (DR.lget L lane) l m p q r t]
 . exact f.pt 0 (by omega) p rfl
 . exact f.pt 1 (by omega) q rfl
 . exact f.pt 2 (by omega) r rfl
 . exact f.pt 3 (by omega) t rfl
 . exact⟨rfl,0,Nat.le_refl _,f.mp⟩
 . have hlm:=f.lm
   by_cases h1:j < 4
   . rw[if_pos h1] at hx
     by_cases h2:k < 4
     . rw[if_pos h2] at hx2;exact f.sep j k h1 h2 hne x hx hx2
     . rw[if_neg h2] at hx2;have:=(f.low j h1 x hx).1;have hx2:x=m:=hx2;omega
   . rw[if_neg h1] at hx;have hx:x=m:=hx
     by_cases h2:k < 4
     . rw[if_pos h2] at hx2;have:=(f.low k h2 x hx2).1;omega
     . omega
 . have hlm:=f.lm
   by_cases h1:k < 4
   . rw[if_pos h1] at hx;have:=(f.low k h1 _ hx).1;have:(⟨l,λ|0=>p|1=>q|2=>r|3=>t|_=>m⟩:Ix).l=l:=rfl;omega
   . rw[if_neg h1] at hx;have hx:l=m:=hx;omega
 . have h1:=f.lm;have h2:=f.lw;rcases hk with hk|⟨j,hj,hk⟩
   . have hk:k=l:=hk;omega
   . by_cases h3:j < 4
     . rw[if_pos h3] at hk;have:=(f.low j h3 k hk).1;omega
     . rw[if_neg h3] at hk;have hk:k=m:=hk;omega
 . have h1:=f.lm;have h2:=f.lw;rcases hk with hk|⟨j,hj,hk⟩
   . have hk:k=l:=hk;omega
   . by_cases h3:j < 4
     . rw[if_pos h3] at hk;have:=(f.low j h3 k hk).1;omega
     . rw[if_neg h3] at hk;have hk:k=m:=hk;omega
end Go.Proofs.YtdmmciggopmglaaGreatDoor.LE
set_option maxRecDepth 20000
namespace Go.Proofs.YtdmmciggopmglaaGreatDoor.LE
open Go.RowKit Go.Maps Go.WideMaps Sg
set_option maxHeartbeats 4000000 in
theorem new_five(w:World)(mo B E:Nat)(L:List (List Nat))(lane:Int)(hm:mo<=16777216)(hT:DR.Tape w B E L):Calls Tryz.prog 43 #[.int .i64 5,.int .i64 (mo:Int),.pointer (some ⟨B+1,0,none⟩),.int .i64 lane] w (NewT false mo B E L lane w):=by
 have X:=Lib.hid (experts_five w)
 have IR:=Lib.hid (λw1=>show Calls Tryz.prog 53 #[.int .i64 (mo:Int)] w1 (λe w'=>e= .returned (.bool true)/\w1=w') from by
  have:=isRoom_l w1 (mo:Int);rw[decide_eq_true (by omega),decide_eq_true (by omega)] at this;exact this)
 have NP:=Lib.hid newPace_l;have h2:=@run_makeMap Tryz.prog;have X0:=idx2i_0;have X1:=idx2i_1;have FIN:=Lib.hid (λ(W:World) (l m p q r t:Nat) (S:Sx) (f:Fill w W l m 5 mo rate0 B lane (aOf (some p) (some q) (some r) (some t)) S (pts (KSt.start 0 mo) (KSt.start 1 mo) [] [] (λ_=>none)))=>Fill.done (six:=false) hm hT f);clear hT;go_enter Tryz.func43,Tryz.ntmps43;go_wp2_with fail
 refine X.out.mono ?_;rintro e w1 ⟨rfl,hB1⟩;have B1:=Lib.hid hB1;clear hB1 X;go_upto_region 4 with fail
 have hx0:=heap_alloc_new w1 (.cells #[.int .i64 0,.int .i64 1] 108);have B2:=Lib.hid (B1.out.alloc B1.out.size (.cells #[.int .i64 0,.int .i64 1] 108));generalize w1.heap.size=x at hx0|-;generalize w1.alloc (.cells #[.int .i64 0,.int .i64 1] 108)=w2 at hx0 B2|-;go_wp2_with fail
 refine(IR.out _).mono ?_;rintro e w2' ⟨rfl,rfl⟩;go_wp2_with fail
 refine(NP.out _).mono ?_;rintro e w4 ⟨rfl,hB4⟩;have hm3:Mp (w2.alloc (.map #[] 0)) w2.heap.size (λ_=>none) 0:=Mp.made w2;have M4:=Lib.hid (hm3.same (hB4.block _ hm3.lt));have B4:=Lib.hid ((B2.out.alloc B2.out.size (.map #[] 0)).trans (hB4.mono (B2.out.alloc B2.out.size (.map #[] 0)).size));have LW:=Lib.hid (show w.heap.size<=w2.heap.size/\w2.heap.size < w4.heap.size from⟨B2.out.size,M4.out.lt⟩)
 have hx4:w4.heap[x]?=some (.cells #[.int .i64 0,.int .i64 1] 108 (0,0)):=by
  have h1:=heap_lt hx0;have h3:(w2.alloc (.map #[] 0)).heap[x]?=w2.heap[x]?:=Below.heap_alloc _ _ _ h1
  have h4:x < (w2.alloc (.map #[] 0)).heap.size:=by simp;omega
  exact(hB4.block x h4).trans (h3.trans hx0)
 clear hx0 hm3 hB4 B2 NP IR;generalize w2.heap.size=m at*;go_upto_region 7 with fail
 have F0:=Lib.hid (show Fill w (w4.alloc (.cells #[.int .i64 5,.int .i64 (mo:Int),.pointer none,.pointer none,.pointer none,.pointer none,.map (some m),.int .i64 0,.int .u64 2305843009213693952,.int .u64 (rate0:Int),.int .i64 0,.int .i64 0,.int .i64 0,.bool false,.bool false,.int .i64 0,.pointer (some ⟨B+1,0,none⟩),.int .i64 lane] 120)) w4.heap.size m 5 mo rate0 B lane (aOf none none none none) (λ_ _=>False) (pts (KSt.start 0 mo) (KSt.start 1 mo) [] [] (λ_=>none)) from
  ⟨heap_alloc_new w4 (.cells (nc 5 mo rate0 m B lane (aOf none none none none)) 120),M4.out.same (Below.heap_alloc _ _ _ M4.out.lt),λk hk y hy=>by rcases k with _|_|_|_|k <;> first|cases hy|omega,λ_ _ _ h=>h.elim,λ_ _ _ _ _ _ h=>h.elim,LW.out.2,LW.out.1,B4.out.alloc B4.out.size _⟩)
 have hx5:=(Below.heap_alloc w4 (.cells #[.int .i64 5,.int .i64 (mo:Int),.pointer none,.pointer none,.pointer none,.pointer none,.map (some m),.int .i64 0,.int .u64 2305843009213693952,.int .u64 (rate0:Int),.int .i64 0,.int .i64 0,.int .i64 0,.bool false,.bool false,.int .i64 0,.pointer (some ⟨B+1,0,none⟩),.int .i64 lane] 120) x (heap_lt hx4)).trans hx4;clear hx4 M4 B4 LW;generalize w4.heap.size=l at F0|-;generalize w4.alloc (.cells #[.int .i64 5,.int .i64 (mo:Int),.pointer none,.pointer none,.pointer none,.pointer none,.map (some m),.int .i64 0,.int .u64 2305843009213693952,.int .u64 (rate0:Int),.int .i64 0,.int .i64 0,.int .i64 0,.bool false,.bool false,.int .i64 0,.pointer (some ⟨B+1,0,none⟩),.int .i64 lane] 120)=w5 at F0 hx5|-;have k0:=cell_of_row w5 _ 0 _ _ _ hx5;have k1:=cell_of_row w5 _ 1 _ _ _ hx5;have PA:=Lib.hid (λw1=>new_p w1 0 (by omega) mo hm);have PB:=Lib.hid (λw1=>new_p w1 1 (by omega) mo hm);have LN:=Lib.hid ls_new;clear hx5;go_wp2_with fail
 go_loopw [42] (λz W=>(z= .int .i64 0/\W=w5)\/(z= .int .i64 1/\∃p r S,Fill w W l m 5 mo rate0 B lane (aOf (some p) none (some r) none) S (pts (KSt.start 0 mo) (KSt.start 1 mo) [] [] (λ_=>none)))\/(z= .int .i64 2/\∃p q r t S,Fill w W l m 5 mo rate0 B lane (aOf (some p) (some q) (some r) (some t)) S (pts (KSt.start 0 mo) (KSt.start 1 mo) [] [] (λ_=>none)))) (λz _=>2 - (intOf z).toNat)
 case atStart=>exact Or.inl ⟨rfl,rfl⟩
 case round=>
  clear k0 k1;rcases hrel with⟨rfl,rfl⟩|⟨rfl,p,r,S,hF⟩|⟨rfl,p,q,r,t,S,hF⟩
  . have D:=Lib.hid (F0.out.below ((Below.refl wr.heap.size wr).drew));go_wp2_with fail
    go_region_with((go_at_call 44;refine(PA.out _).mono ?_;rintro e w6 ⟨p0,U,rfl,hC,hU,hB⟩;have g:=D.out.below hB;have c2:w6.cell? ⟨l,2,none⟩=some (.pointer none):=cell_of_row w6 l 2 _ _ _ g.box;have f2:w6.frozen? ⟨l,2,none⟩=false:=frozen_of_row w6 l 2 _ _ g.box;have G:=Lib.hid ((D.out.add (k:=0) (by omega) (x:=p0) (T:=U) (w2:=w6) hC hU hB).congr (a':=aOf (some p0) none none none) (by intro k hk;rcases k with _|_|_|_|k <;> first|rfl|omega));clear g hC hU hB D))
    have D:=Lib.hid ((show Fill w (w6.setCell ⟨l,2,none⟩ (.pointer (some ⟨p0,0,none⟩))) l m 5 mo rate0 B lane _ _ _ from G.out).below ((Below.refl (w6.setCell ⟨l,2,none⟩ (.pointer (some ⟨p0,0,none⟩))).heap.size (w6.setCell ⟨l,2,none⟩ (.pointer (some ⟨p0,0,none⟩)))).drew));clear c2 f2 G;generalize w6.setCell ⟨l,2,none⟩ (.pointer (some ⟨p0,0,none⟩))=w7 at D|-;go_wp2_with fail
    go_region_with((go_at_call 55;refine(LN.out _).mono ?_;rintro e w8 ⟨r0,T,rfl,hT,hL,hB⟩;have g:=D.out.below hB;have c2:w8.cell? ⟨l,4,none⟩=some (.pointer none):=cell_of_row w8 l 4 _ _ _ g.box;have f2:w8.frozen? ⟨l,4,none⟩=false:=frozen_of_row w8 l 4 _ _ g.box;have G:=Lib.hid ((D.out.add (k:=2) (by omega) (x:=r0) (T:=T) (w2:=w8) hL hT hB).congr (a':=aOf (some p0) none (some r0) none) (by intro k hk;rcases k with _|_|_|_|k <;> first|rfl|omega));clear g hT hL hB D))
    have D:=Lib.hid (show Fill w (w8.setCell ⟨l,4,none⟩ (.pointer (some ⟨r0,0,none⟩))) l m 5 mo rate0 B lane _ _ _ from G.out);clear c2 f2 G;generalize w8.setCell ⟨l,4,none⟩ (.pointer (some ⟨r0,0,none⟩))=w9 at D|-;go_wp2_with fail
    go_roundw
    case rel=>exact Or.inr (Or.inl ⟨by go_num,p0,r0,_,D.out⟩)
    case measure=>simp[intOf]
  . have D:=Lib.hid (hF.below ((Below.refl wr.heap.size wr).drew));clear hF;go_wp2_with fail
    go_region_with((go_at_call 44;refine(PB.out _).mono ?_;rintro e w6 ⟨p1,U,rfl,hC,hU,hB⟩;have g:=D.out.below hB;have c2:w6.cell? ⟨l,3,none⟩=some (.pointer none):=cell_of_row w6 l 3 _ _ _ g.box;have f2:w6.frozen? ⟨l,3,none⟩=false:=frozen_of_row w6 l 3 _ _ g.box;have G:=Lib.hid ((D.out.add (k:=1) (by omega) (x:=p1) (T:=U) (w2:=w6) hC hU hB).congr (a':=aOf (some p) (some p1) (some r) none) (by intro k hk;rcases k with _|_|_|_|k <;> first|rfl|omega));clear g hC hU hB D))
    have D:=Lib.hid ((show Fill w (w6.setCell ⟨l,3,none⟩ (.pointer (some ⟨p1,0,none⟩))) l m 5 mo rate0 B lane _ _ _ from G.out).below ((Below.refl (w6.setCell ⟨l,3,none⟩ (.pointer (some ⟨p1,0,none⟩))).heap.size (w6.setCell ⟨l,3,none⟩ (.pointer (some ⟨p1,0,none⟩)))).drew));clear c2 f2 G;generalize w6.setCell ⟨l,3,none⟩ (.pointer (some ⟨p1,0,none⟩))=w7 at D|-;go_wp2_with fail
    go_region_with((go_at_call 55;refine(LN.out _).mono ?_;rintro e w8 ⟨r1,T,rfl,hT,hL,hB⟩;have g:=D.out.below hB;have c2:w8.cell? ⟨l,5,none⟩=some (.pointer none):=cell_of_row w8 l 5 _ _ _ g.box;have f2:w8.frozen? ⟨l,5,none⟩=false:=frozen_of_row w8 l 5 _ _ g.box;have G:=Lib.hid ((D.out.add (k:=3) (by omega) (x:=r1) (T:=T) (w2:=w8) hL hT hB).congr (a':=aOf (some p) (some p1) (some r) (some r1)) (by intro k hk;rcases k with _|_|_|_|k <;> first|rfl|omega));clear g hT hL hB D))
    have D:=Lib.hid (show Fill w (w8.setCell ⟨l,5,none⟩ (.pointer (some ⟨r1,0,none⟩))) l m 5 mo rate0 B lane _ _ _ from G.out);clear c2 f2 G;generalize w8.setCell ⟨l,5,none⟩ (.pointer (some ⟨r1,0,none⟩))=w9 at D|-;go_wp2_with fail
    go_roundw
    case rel=>exact Or.inr (Or.inr ⟨by go_num,p,p1,r,r1,_,D.out⟩)
    case measure=>simp[intOf]
  . have FF:=Lib.hid (FIN.out wr l m p q r t S hF);clear hF FIN;go_wp2_with fail
    go_ret2
    exact FF.out
set_option maxHeartbeats 4000000 in
theorem new_six(w:World)(mo B E:Nat)(L:List (List Nat))(lane:Int)(hm:mo<=16777216)(hT:DR.Tape w B E L):Calls Tryz.prog 43 #[.int .i64 6,.int .i64 (mo:Int),.pointer (some ⟨B+1,0,none⟩),.int .i64 lane] w (NewT true mo B E L lane w):=by
 have X:=Lib.hid (experts_six w)
 have IR:=Lib.hid (λw1=>show Calls Tryz.prog 53 #[.int .i64 (mo:Int)] w1 (λe w'=>e= .returned (.bool true)/\w1=w') from by
  have:=isRoom_l w1 (mo:Int);rw[decide_eq_true (by omega),decide_eq_true (by omega)] at this;exact this)
 have NP:=Lib.hid newPace_l;have h2:=@run_makeMap Tryz.prog;have X0:=idx2i_0;have X1:=idx2i_1;have FIN:=Lib.hid (λ(W:World) (l m p q r t:Nat) (S:Sx) (f:Fill w W l m 6 mo rate0 B lane (aOf (some p) (some q) (some r) (some t)) S (pts (KSt.start 3 mo) (KSt.start 2 mo) [] [] (λ_=>none)))=>Fill.done (six:=true) hm hT f);clear hT;go_enter Tryz.func43,Tryz.ntmps43;go_wp2_with fail
 refine X.out.mono ?_;rintro e w1 ⟨rfl,hB1⟩;have B1:=Lib.hid hB1;clear hB1 X;go_upto_region 4 with fail
 have hx0:=heap_alloc_new w1 (.cells #[.int .i64 3,.int .i64 2] 108);have B2:=Lib.hid (B1.out.alloc B1.out.size (.cells #[.int .i64 3,.int .i64 2] 108));generalize w1.heap.size=x at hx0|-;generalize w1.alloc (.cells #[.int .i64 3,.int .i64 2] 108)=w2 at hx0 B2|-;go_wp2_with fail
 refine(IR.out _).mono ?_;rintro e w2' ⟨rfl,rfl⟩;go_wp2_with fail
 refine(NP.out _).mono ?_;rintro e w4 ⟨rfl,hB4⟩;have hm3:Mp (w2.alloc (.map #[] 0)) w2.heap.size (λ_=>none) 0:=Mp.made w2;have M4:=Lib.hid (hm3.same (hB4.block _ hm3.lt));have B4:=Lib.hid ((B2.out.alloc B2.out.size (.map #[] 0)).trans (hB4.mono (B2.out.alloc B2.out.size (.map #[] 0)).size));have LW:=Lib.hid (show w.heap.size<=w2.heap.size/\w2.heap.size < w4.heap.size from⟨B2.out.size,M4.out.lt⟩)
 have hx4:w4.heap[x]?=some (.cells #[.int .i64 3,.int .i64 2] 108 (0,0)):=by
  have h1:=heap_lt hx0;have h3:(w2.alloc (.map #[] 0)).heap[x]?=w2.heap[x]?:=Below.heap_alloc _ _ _ h1
  have h4:x < (w2.alloc (.map #[] 0)).heap.size:=by simp;omega
  exact(hB4.block x h4).trans (h3.trans hx0)
 clear hx0 hm3 hB4 B2 NP IR;generalize w2.heap.size=m at*;go_upto_region 7 with fail
 have F0:=Lib.hid (show Fill w (w4.alloc (.cells #[.int .i64 6,.int .i64 (mo:Int),.pointer none,.pointer none,.pointer none,.pointer none,.map (some m),.int .i64 0,.int .u64 2305843009213693952,.int .u64 (rate0:Int),.int .i64 0,.int .i64 0,.int .i64 0,.bool false,.bool false,.int .i64 0,.pointer (some ⟨B+1,0,none⟩),.int .i64 lane] 120)) w4.heap.size m 6 mo rate0 B lane (aOf none none none none) (λ_ _=>False) (pts (KSt.start 3 mo) (KSt.start 2 mo) [] [] (λ_=>none)) from
  ⟨heap_alloc_new w4 (.cells (nc 6 mo rate0 m B lane (aOf none none none none)) 120),M4.out.same (Below.heap_alloc _ _ _ M4.out.lt),λk hk y hy=>by rcases k with _|_|_|_|k <;> first|cases hy|omega,λ_ _ _ h=>h.elim,λ_ _ _ _ _ _ h=>h.elim,LW.out.2,LW.out.1,B4.out.alloc B4.out.size _⟩)
 have hx5:=(Below.heap_alloc w4 (.cells #[.int .i64 6,.int .i64 (mo:Int),.pointer none,.pointer none,.pointer none,.pointer none,.map (some m),.int .i64 0,.int .u64 2305843009213693952,.int .u64 (rate0:Int),.int .i64 0,.int .i64 0,.int .i64 0,.bool false,.bool false,.int .i64 0,.pointer (some ⟨B+1,0,none⟩),.int .i64 lane] 120) x (heap_lt hx4)).trans hx4;clear hx4 M4 B4 LW;generalize w4.heap.size=l at F0|-;generalize w4.alloc (.cells #[.int .i64 6,.int .i64 (mo:Int),.pointer none,.pointer none,.pointer none,.pointer none,.map (some m),.int .i64 0,.int .u64 2305843009213693952,.int .u64 (rate0:Int),.int .i64 0,.int .i64 0,.int .i64 0,.bool false,.bool false,.int .i64 0,.pointer (some ⟨B+1,0,none⟩),.int .i64 lane] 120)=w5 at F0 hx5|-;have k0:=cell_of_row w5 _ 0 _ _ _ hx5;have k1:=cell_of_row w5 _ 1 _ _ _ hx5;have PA:=Lib.hid (λw1=>new_p w1 3 (by omega) mo hm);have PB:=Lib.hid (λw1=>new_p w1 2 (by omega) mo hm);have LN:=Lib.hid ls_new;clear hx5;go_wp2_with fail
 go_loopw [42] (λz W=>(z= .int .i64 0/\W=w5)\/(z= .int .i64 1/\∃p r S,Fill w W l m 6 mo rate0 B lane (aOf (some p) none (some r) none) S (pts (KSt.start 3 mo) (KSt.start 2 mo) [] [] (λ_=>none)))\/(z= .int .i64 2/\∃p q r t S,Fill w W l m 6 mo rate0 B lane (aOf (some p) (some q) (some r) (some t)) S (pts (KSt.start 3 mo) (KSt.start 2 mo) [] [] (λ_=>none)))) (λz _=>2 - (intOf z).toNat)
 case atStart=>exact Or.inl ⟨rfl,rfl⟩
 case round=>
  clear k0 k1;rcases hrel with⟨rfl,rfl⟩|⟨rfl,p,r,S,hF⟩|⟨rfl,p,q,r,t,S,hF⟩
  . have D:=Lib.hid (F0.out.below ((Below.refl wr.heap.size wr).drew));go_wp2_with fail
    go_region_with((go_at_call 44;refine(PA.out _).mono ?_;rintro e w6 ⟨p0,U,rfl,hC,hU,hB⟩;have g:=D.out.below hB;have c2:w6.cell? ⟨l,2,none⟩=some (.pointer none):=cell_of_row w6 l 2 _ _ _ g.box;have f2:w6.frozen? ⟨l,2,none⟩=false:=frozen_of_row w6 l 2 _ _ g.box;have G:=Lib.hid ((D.out.add (k:=0) (by omega) (x:=p0) (T:=U) (w2:=w6) hC hU hB).congr (a':=aOf (some p0) none none none) (by intro k hk;rcases k with _|_|_|_|k <;> first|rfl|omega));clear g hC hU hB D))
    have D:=Lib.hid ((show Fill w (w6.setCell ⟨l,2,none⟩ (.pointer (some ⟨p0,0,none⟩))) l m 6 mo rate0 B lane _ _ _ from G.out).below ((Below.refl (w6.setCell ⟨l,2,none⟩ (.pointer (some ⟨p0,0,none⟩))).heap.size (w6.setCell ⟨l,2,none⟩ (.pointer (some ⟨p0,0,none⟩)))).drew));clear c2 f2 G;generalize w6.setCell ⟨l,2,none⟩ (.pointer (some ⟨p0,0,none⟩))=w7 at D|-;go_wp2_with fail
    go_region_with((go_at_call 55;refine(LN.out _).mono ?_;rintro e w8 ⟨r0,T,rfl,hT,hL,hB⟩;have g:=D.out.below hB;have c2:w8.cell? ⟨l,4,none⟩=some (.pointer none):=cell_of_row w8 l 4 _ _ _ g.box;have f2:w8.frozen? ⟨l,4,none⟩=false:=frozen_of_row w8 l 4 _ _ g.box;have G:=Lib.hid ((D.out.add (k:=2) (by omega) (x:=r0) (T:=T) (w2:=w8) hL hT hB).congr (a':=aOf (some p0) none (some r0) none) (by intro k hk;rcases k with _|_|_|_|k <;> first|rfl|omega));clear g hT hL hB D))
    have D:=Lib.hid (show Fill w (w8.setCell ⟨l,4,none⟩ (.pointer (some ⟨r0,0,none⟩))) l m 6 mo rate0 B lane _ _ _ from G.out);clear c2 f2 G;generalize w8.setCell ⟨l,4,none⟩ (.pointer (some ⟨r0,0,none⟩))=w9 at D|-;go_wp2_with fail
    go_roundw
    case rel=>exact Or.inr (Or.inl ⟨by go_num,p0,r0,_,D.out⟩)
    case measure=>simp[intOf]
  . have D:=Lib.hid (hF.below ((Below.refl wr.heap.size wr).drew));clear hF;go_wp2_with fail
    go_region_with((go_at_call 44;refine(PB.out _).mono ?_;rintro e w6 ⟨p1,U,rfl,hC,hU,hB⟩;have g:=D.out.below hB;have c2:w6.cell? ⟨l,3,none⟩=some (.pointer none):=cell_of_row w6 l 3 _ _ _ g.box;have f2:w6.frozen? ⟨l,3,none⟩=false:=frozen_of_row w6 l 3 _ _ g.box;have G:=Lib.hid ((D.out.add (k:=1) (by omega) (x:=p1) (T:=U) (w2:=w6) hC hU hB).congr (a':=aOf (some p) (some p1) (some r) none) (by intro k hk;rcases k with _|_|_|_|k <;> first|rfl|omega));clear g hC hU hB D))
    have D:=Lib.hid ((show Fill w (w6.setCell ⟨l,3,none⟩ (.pointer (some ⟨p1,0,none⟩))) l m 6 mo rate0 B lane _ _ _ from G.out).below ((Below.refl (w6.setCell ⟨l,3,none⟩ (.pointer (some ⟨p1,0,none⟩))).heap.size (w6.setCell ⟨l,3,none⟩ (.pointer (some ⟨p1,0,none⟩)))).drew));clear c2 f2 G;generalize w6.setCell ⟨l,3,none⟩ (.pointer (some ⟨p1,0,none⟩))=w7 at D|-;go_wp2_with fail
    go_region_with((go_at_call 55;refine(LN.out _).mono ?_;rintro e w8 ⟨r1,T,rfl,hT,hL,hB⟩;have g:=D.out.below hB;have c2:w8.cell? ⟨l,5,none⟩=some (.pointer none):=cell_of_row w8 l 5 _ _ _ g.box;have f2:w8.frozen? ⟨l,5,none⟩=false:=frozen_of_row w8 l 5 _ _ g.box;have G:=Lib.hid ((D.out.add (k:=3) (by omega) (x:=r1) (T:=T) (w2:=w8) hL hT hB).congr (a':=aOf (some p) (some p1) (some r) (some r1)) (by intro k hk;rcases k with _|_|_|_|k <;> first|rfl|omega));clear g hT hL hB D))
    have D:=Lib.hid (show Fill w (w8.setCell ⟨l,5,none⟩ (.pointer (some ⟨r1,0,none⟩))) l m 6 mo rate0 B lane _ _ _ from G.out);clear c2 f2 G;generalize w8.setCell ⟨l,5,none⟩ (.pointer (some ⟨r1,0,none⟩))=w9 at D|-;go_wp2_with fail
    go_roundw
    case rel=>exact Or.inr (Or.inr ⟨by go_num,p,p1,r,r1,_,D.out⟩)
    case measure=>simp[intOf]
  . have FF:=Lib.hid (FIN.out wr l m p q r t S hF);clear hF FIN;go_wp2_with fail
    go_ret2
    exact FF.out
end Go.Proofs.YtdmmciggopmglaaGreatDoor.LE
