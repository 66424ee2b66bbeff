/- Pn0 Pn, in one text. -/
import Derived.Test.YtbbogjhapeogeaaGreatDoorY2
import Derived.Deep.MidRow
import Derived.Deep.RegionHeld3
import Derived.Deep.RegionLaw
set_option maxRecDepth 20000
namespace Go.Proofs.YtbbogjhapeogeaaGreatDoor
open Go.RowKit Sg
def fnA(k c:Nat):Array Value:=#[mV k c "Has" ,mV k c "Len" ,mV k c "Request" ,mV k c "Remove" ,mV k c "Adopt" ,mV k c "Victim" ,mV k c "Drop" ,mV k c "Resize" ,mV k c "Keys" ,mV k c "Ghosts" ]
def fns(k c:Nat):Value:= .agg (fnA k c)
theorem st1{P:Program}{W:World}{b o n:Nat}{v:Value}(hth:W.there b 0 n)(ho:o < n)(hv:v.oneCell'=true):(store ⟨b,o,none⟩ v).run P W= .ok () (W.setCell ⟨b,o,none⟩ v):=by
 rw[run_store P W _ v _ hv];have h:=hth o ho;rw[Nat.zero_add] at h;obtain⟨h1,h2⟩:=h;cases hc:W.cell? ⟨b,o,none⟩ with
 |none=>rw[hc] at h1;cases h1
 |some x=>simp only[h2];rfl
theorem thS{W:World}{b n:Nat}(h:W.there b 0 n)(g o:Nat)(v:Value):(W.setCell ⟨g,o,none⟩ v).there b 0 n:=World.there_setCells h g o [v]
set_option maxHeartbeats 4000000 in
theorem callsOf_any(w:World)(k c:Nat):Calls Tryz.prog 45 #[cI k c] w (λe w'=>e= .returned (fns k c)/\Below w.heap.size w w'):=by
 unfold fns fnA mV cI;generalize tC k=t;have hx:=heap_alloc_new w (.cells #[.nilFunc,.nilFunc,.nilFunc,.nilFunc,.nilFunc,.nilFunc,.nilFunc,.nilFunc,.nilFunc,.nilFunc] 108)
 have hth:(w.alloc (.cells #[.nilFunc,.nilFunc,.nilFunc,.nilFunc,.nilFunc,.nilFunc,.nilFunc,.nilFunc,.nilFunc,.nilFunc] 108)).drew.there w.heap.size 0 10:=λj hj=>by
  have hj':j=0\/j=1\/j=2\/j=3\/j=4\/j=5\/j=6\/j=7\/j=8\/j=9:=by omega
  refine⟨?_,?_⟩
  . show((w.alloc (.cells #[.nilFunc,.nilFunc,.nilFunc,.nilFunc,.nilFunc,.nilFunc,.nilFunc,.nilFunc,.nilFunc,.nilFunc] 108)).drew.cell? ⟨w.heap.size,0+j,none⟩).isSome=true
    rw[Nat.zero_add,show(w.alloc (.cells #[.nilFunc,.nilFunc,.nilFunc,.nilFunc,.nilFunc,.nilFunc,.nilFunc,.nilFunc,.nilFunc,.nilFunc] 108)).drew.cell? ⟨w.heap.size,j,none⟩=some .nilFunc by
     rcases hj' with rfl|rfl|rfl|rfl|rfl|rfl|rfl|rfl|rfl|rfl <;> exact cell_of_row (w.alloc (.cells #[.nilFunc,.nilFunc,.nilFunc,.nilFunc,.nilFunc,.nilFunc,.nilFunc,.nilFunc,.nilFunc,.nilFunc] 108)) _ _ _ _ _ hx]
    rfl
  . have:=frozen_of_row (w.alloc (.cells #[.nilFunc,.nilFunc,.nilFunc,.nilFunc,.nilFunc,.nilFunc,.nilFunc,.nilFunc,.nilFunc,.nilFunc] 108)) w.heap.size j _ 108 hx;show(w.alloc (.cells #[.nilFunc,.nilFunc,.nilFunc,.nilFunc,.nilFunc,.nilFunc,.nilFunc,.nilFunc,.nilFunc,.nilFunc] 108)).frozen? ⟨w.heap.size,0+j,none⟩=false;rw[Nat.zero_add];exact this
 have hr:=World.rangeAt_setCells_same _ _ _ (Array.toList #[.func (.method "Has" ) #[.iface t (.pointer (some ⟨c,0,none⟩))] #[],.func (.method "Len" ) #[.iface t (.pointer (some ⟨c,0,none⟩))] #[],.func (.method "Request" ) #[.iface t (.pointer (some ⟨c,0,none⟩))] #[],.func (.method "Remove" ) #[.iface t (.pointer (some ⟨c,0,none⟩))] #[],.func (.method "Adopt" ) #[.iface t (.pointer (some ⟨c,0,none⟩))] #[],.func (.method "Victim" ) #[.iface t (.pointer (some ⟨c,0,none⟩))] #[],.func (.method "Drop" ) #[.iface t (.pointer (some ⟨c,0,none⟩))] #[],.func (.method "Resize" ) #[.iface t (.pointer (some ⟨c,0,none⟩))] #[],.func (.method "Keys" ) #[.iface t (.pointer (some ⟨c,0,none⟩))] #[],.func (.method "Ghosts" ) #[.iface t (.pointer (some ⟨c,0,none⟩))] #[]]) hth;have hl:=run_loadVar_mid (P:=Tryz.prog) _ w.heap.size 0 108 (Array.toList #[.func (.method "Has" ) #[.iface t (.pointer (some ⟨c,0,none⟩))] #[],.func (.method "Len" ) #[.iface t (.pointer (some ⟨c,0,none⟩))] #[],.func (.method "Request" ) #[.iface t (.pointer (some ⟨c,0,none⟩))] #[],.func (.method "Remove" ) #[.iface t (.pointer (some ⟨c,0,none⟩))] #[],.func (.method "Adopt" ) #[.iface t (.pointer (some ⟨c,0,none⟩))] #[],.func (.method "Victim" ) #[.iface t (.pointer (some ⟨c,0,none⟩))] #[],.func (.method "Drop" ) #[.iface t (.pointer (some ⟨c,0,none⟩))] #[],.func (.method "Resize" ) #[.iface t (.pointer (some ⟨c,0,none⟩))] #[],.func (.method "Keys" ) #[.iface t (.pointer (some ⟨c,0,none⟩))] #[],.func (.method "Ghosts" ) #[.iface t (.pointer (some ⟨c,0,none⟩))] #[]]) _ hr (show Tryz.prog.underlying 108=some (.struct _) from Tryz.underlying108) rfl (by kernel_rfl)
 have hb:Below w.heap.size w ((w.alloc (.cells #[.nilFunc,.nilFunc,.nilFunc,.nilFunc,.nilFunc,.nilFunc,.nilFunc,.nilFunc,.nilFunc,.nilFunc] 108)).drew.setCells w.heap.size 0 (Array.toList #[.func (.method "Has" ) #[.iface t (.pointer (some ⟨c,0,none⟩))] #[],.func (.method "Len" ) #[.iface t (.pointer (some ⟨c,0,none⟩))] #[],.func (.method "Request" ) #[.iface t (.pointer (some ⟨c,0,none⟩))] #[],.func (.method "Remove" ) #[.iface t (.pointer (some ⟨c,0,none⟩))] #[],.func (.method "Adopt" ) #[.iface t (.pointer (some ⟨c,0,none⟩))] #[],.func (.method "Victim" ) #[.iface t (.pointer (some ⟨c,0,none⟩))] #[],.func (.method "Drop" ) #[.iface t (.pointer (some ⟨c,0,none⟩))] #[],.func (.method "Resize" ) #[.iface t (.pointer (some ⟨c,0,none⟩))] #[],.func (.method "Keys" ) #[.iface t (.pointer (some ⟨c,0,none⟩))] #[],.func (.method "Ghosts" ) #[.iface t (.pointer (some ⟨c,0,none⟩))] #[]])):=by
  have key:∀(vs:List Value) (o:Nat) (w1:World),Below w.heap.size w w1->Below w.heap.size w (w1.setCells w.heap.size o vs):=by
   intro vs
   induction vs with
   |nil=>exact λo w1 h=>h
   |cons v vs ih=>exact λo w1 h=>ih (o+1) _ (h.setCell (p:=⟨w.heap.size,o,none⟩) (Nat.le_refl _) v)
  exact key _ _ _ (((Below.refl _ _).alloc (Nat.le_refl _) _).trans ⟨rfl,rfl,rfl,Nat.le_refl _,λ_ _=>rfl⟩)
 have HL:=Lib.hid hl;have HB:=Lib.hid hb;clear hx hr hl hb;go_enter Tryz.func45,Tryz.ntmps45;go_wp2_with fail
 refine wp_region_noPanic ?_;refine wp_region_held_drew (S:=λ_=>True) (by kernel_rfl) trivial (λhHeld=>?_);refine wpAnyH_take (i:=0) (oi:={dst:=some 3,op:=Go.Op.move (Go.Operand.tmp 0),type:=103,pos:= "policy.go:133" ,after:=#[],guard:=none}) (v:=?_) rfl (by kernel_rfl) (by kernel_rfl) (by kernel_rfl) (λ_ _ _ h=>h) (Or.inl ⟨by rfl,?_⟩) (by assumption) ?_;rotate_left
 . (intro w hSw;go_simp;(try with_reducible rfl))
 (try simp only[Act.put,List.setIfInBounds_toArray,List.set_cons_zero,List.set_cons_succ]);refine wpAnyH_take (i:=1) (oi:={dst:=some 4,op:=Go.Op.nilCheck (Go.Operand.tmp 3),type:=103,pos:= "policy.go:133" ,after:=#[{on:=0,ground:=Go.Ground.data}],guard:=none}) (v:=?_) rfl (by kernel_rfl) (by kernel_rfl) (by kernel_rfl) (λ_ _ _ h=>h) (Or.inl ⟨by rfl,?_⟩) (by assumption) ?_;rotate_left
 . (intro w hSw;go_simp;(try with_reducible rfl))
 (try simp only[Act.put,List.setIfInBounds_toArray,List.set_cons_zero,List.set_cons_succ]);refine wpAnyH_take (i:=2) (oi:={dst:=some 5,op:=Go.Op.makeFunc (Go.Fn.method "Has" ) #[Go.Operand.tmp 4] #[],type:=39,pos:= "policy.go:133" ,after:=#[{on:=1,ground:=Go.Ground.data}],guard:=none}) (v:=?_) rfl (by kernel_rfl) (by kernel_rfl) (by kernel_rfl) (λ_ _ _ h=>h) (Or.inl ⟨by rfl,?_⟩) (by assumption) ?_;rotate_left
 . (intro w hSw;go_simp;(try with_reducible rfl))
 (try simp only[Act.put,List.setIfInBounds_toArray,List.set_cons_zero,List.set_cons_succ]);refine wpAnyH_take (i:=3) (oi:={dst:=some 6,op:=Go.Op.move (Go.Operand.tmp 0),type:=103,pos:= "policy.go:133" ,after:=#[],guard:=none}) (v:=?_) rfl (by kernel_rfl) (by kernel_rfl) (by kernel_rfl) (λ_ _ _ h=>h) (Or.inl ⟨by rfl,?_⟩) (by assumption) ?_;rotate_left
 . (intro w hSw;go_simp;(try with_reducible rfl))
 (try simp only[Act.put,List.setIfInBounds_toArray,List.set_cons_zero,List.set_cons_succ]);refine wpAnyH_take (i:=4) (oi:={dst:=some 7,op:=Go.Op.nilCheck (Go.Operand.tmp 6),type:=103,pos:= "policy.go:133" ,after:=#[{on:=3,ground:=Go.Ground.data}],guard:=none}) (v:=?_) rfl (by kernel_rfl) (by kernel_rfl) (by kernel_rfl) (λ_ _ _ h=>h) (Or.inl ⟨by rfl,?_⟩) (by assumption) ?_;rotate_left
 . (intro w hSw;go_simp;(try with_reducible rfl))
 (try simp only[Act.put,List.setIfInBounds_toArray,List.set_cons_zero,List.set_cons_succ]);refine wpAnyH_take (i:=5) (oi:={dst:=some 8,op:=Go.Op.makeFunc (Go.Fn.method "Len" ) #[Go.Operand.tmp 7] #[],type:=40,pos:= "policy.go:133" ,after:=#[{on:=4,ground:=Go.Ground.data}],guard:=none}) (v:=?_) rfl (by kernel_rfl) (by kernel_rfl) (by kernel_rfl) (λ_ _ _ h=>h) (Or.inl ⟨by rfl,?_⟩) (by assumption) ?_;rotate_left
 . (intro w hSw;go_simp;(try with_reducible rfl))
 (try simp only[Act.put,List.setIfInBounds_toArray,List.set_cons_zero,List.set_cons_succ]);refine wpAnyH_take (i:=6) (oi:={dst:=some 9,op:=Go.Op.move (Go.Operand.tmp 0),type:=103,pos:= "policy.go:133" ,after:=#[],guard:=none}) (v:=?_) rfl (by kernel_rfl) (by kernel_rfl) (by kernel_rfl) (λ_ _ _ h=>h) (Or.inl ⟨by rfl,?_⟩) (by assumption) ?_;rotate_left
 . (intro w hSw;go_simp;(try with_reducible rfl))
 (try simp only[Act.put,List.setIfInBounds_toArray,List.set_cons_zero,List.set_cons_succ]);refine wpAnyH_take (i:=7) (oi:={dst:=some 10,op:=Go.Op.nilCheck (Go.Operand.tmp 9),type:=103,pos:= "policy.go:133" ,after:=#[{on:=6,ground:=Go.Ground.data}],guard:=none}) (v:=?_) rfl (by kernel_rfl) (by kernel_rfl) (by kernel_rfl) (λ_ _ _ h=>h) (Or.inl ⟨by rfl,?_⟩) (by assumption) ?_;rotate_left
 . (intro w hSw;go_simp;(try with_reducible rfl))
 (try simp only[Act.put,List.setIfInBounds_toArray,List.set_cons_zero,List.set_cons_succ]);refine wpAnyH_take (i:=8) (oi:={dst:=some 11,op:=Go.Op.makeFunc (Go.Fn.method "Request" ) #[Go.Operand.tmp 10] #[],type:=35,pos:= "policy.go:133" ,after:=#[{on:=7,ground:=Go.Ground.data}],guard:=none}) (v:=?_) rfl (by kernel_rfl) (by kernel_rfl) (by kernel_rfl) (λ_ _ _ h=>h) (Or.inl ⟨by rfl,?_⟩) (by assumption) ?_;rotate_left
 . (intro w hSw;go_simp;(try with_reducible rfl))
 (try simp only[Act.put,List.setIfInBounds_toArray,List.set_cons_zero,List.set_cons_succ]);refine wpAnyH_take (i:=9) (oi:={dst:=some 12,op:=Go.Op.move (Go.Operand.tmp 0),type:=103,pos:= "policy.go:133" ,after:=#[],guard:=none}) (v:=?_) rfl (by kernel_rfl) (by kernel_rfl) (by kernel_rfl) (λ_ _ _ h=>h) (Or.inl ⟨by rfl,?_⟩) (by assumption) ?_;rotate_left
 . (intro w hSw;go_simp;(try with_reducible rfl))
 (try simp only[Act.put,List.setIfInBounds_toArray,List.set_cons_zero,List.set_cons_succ]);refine wpAnyH_take (i:=10) (oi:={dst:=some 13,op:=Go.Op.nilCheck (Go.Operand.tmp 12),type:=103,pos:= "policy.go:133" ,after:=#[{on:=9,ground:=Go.Ground.data}],guard:=none}) (v:=?_) rfl (by kernel_rfl) (by kernel_rfl) (by kernel_rfl) (λ_ _ _ h=>h) (Or.inl ⟨by rfl,?_⟩) (by assumption) ?_;rotate_left
 . (intro w hSw;go_simp;(try with_reducible rfl))
 (try simp only[Act.put,List.setIfInBounds_toArray,List.set_cons_zero,List.set_cons_succ]);refine wpAnyH_take (i:=11) (oi:={dst:=some 14,op:=Go.Op.makeFunc (Go.Fn.method "Remove" ) #[Go.Operand.tmp 13] #[],type:=39,pos:= "policy.go:133" ,after:=#[{on:=10,ground:=Go.Ground.data}],guard:=none}) (v:=?_) rfl (by kernel_rfl) (by kernel_rfl) (by kernel_rfl) (λ_ _ _ h=>h) (Or.inl ⟨by rfl,?_⟩) (by assumption) ?_;rotate_left
 . (intro w hSw;go_simp;(try with_reducible rfl))
 (try simp only[Act.put,List.setIfInBounds_toArray,List.set_cons_zero,List.set_cons_succ]);refine wpAnyH_take (i:=12) (oi:={dst:=some 15,op:=Go.Op.move (Go.Operand.tmp 0),type:=103,pos:= "policy.go:133" ,after:=#[],guard:=none}) (v:=?_) rfl (by kernel_rfl) (by kernel_rfl) (by kernel_rfl) (λ_ _ _ h=>h) (Or.inl ⟨by rfl,?_⟩) (by assumption) ?_;rotate_left
 . (intro w hSw;go_simp;(try with_reducible rfl))
 (try simp only[Act.put,List.setIfInBounds_toArray,List.set_cons_zero,List.set_cons_succ]);refine wpAnyH_take (i:=13) (oi:={dst:=some 16,op:=Go.Op.nilCheck (Go.Operand.tmp 15),type:=103,pos:= "policy.go:133" ,after:=#[{on:=12,ground:=Go.Ground.data}],guard:=none}) (v:=?_) rfl (by kernel_rfl) (by kernel_rfl) (by kernel_rfl) (λ_ _ _ h=>h) (Or.inl ⟨by rfl,?_⟩) (by assumption) ?_;rotate_left
 . (intro w hSw;go_simp;(try with_reducible rfl))
 (try simp only[Act.put,List.setIfInBounds_toArray,List.set_cons_zero,List.set_cons_succ]);refine wpAnyH_take (i:=14) (oi:={dst:=some 17,op:=Go.Op.makeFunc (Go.Fn.method "Adopt" ) #[Go.Operand.tmp 16] #[],type:=39,pos:= "policy.go:133" ,after:=#[{on:=13,ground:=Go.Ground.data}],guard:=none}) (v:=?_) rfl (by kernel_rfl) (by kernel_rfl) (by kernel_rfl) (λ_ _ _ h=>h) (Or.inl ⟨by rfl,?_⟩) (by assumption) ?_;rotate_left
 . (intro w hSw;go_simp;(try with_reducible rfl))
 (try simp only[Act.put,List.setIfInBounds_toArray,List.set_cons_zero,List.set_cons_succ]);refine wpAnyH_take (i:=15) (oi:={dst:=some 18,op:=Go.Op.move (Go.Operand.tmp 0),type:=103,pos:= "policy.go:133" ,after:=#[],guard:=none}) (v:=?_) rfl (by kernel_rfl) (by kernel_rfl) (by kernel_rfl) (λ_ _ _ h=>h) (Or.inl ⟨by rfl,?_⟩) (by assumption) ?_;rotate_left
 . (intro w hSw;go_simp;(try with_reducible rfl))
 (try simp only[Act.put,List.setIfInBounds_toArray,List.set_cons_zero,List.set_cons_succ]);refine wpAnyH_take (i:=16) (oi:={dst:=some 19,op:=Go.Op.nilCheck (Go.Operand.tmp 18),type:=103,pos:= "policy.go:133" ,after:=#[{on:=15,ground:=Go.Ground.data}],guard:=none}) (v:=?_) rfl (by kernel_rfl) (by kernel_rfl) (by kernel_rfl) (λ_ _ _ h=>h) (Or.inl ⟨by rfl,?_⟩) (by assumption) ?_;rotate_left
 . (intro w hSw;go_simp;(try with_reducible rfl))
 (try simp only[Act.put,List.setIfInBounds_toArray,List.set_cons_zero,List.set_cons_succ]);refine wpAnyH_take (i:=17) (oi:={dst:=some 20,op:=Go.Op.makeFunc (Go.Fn.method "Victim" ) #[Go.Operand.tmp 19] #[],type:=46,pos:= "policy.go:133" ,after:=#[{on:=16,ground:=Go.Ground.data}],guard:=none}) (v:=?_) rfl (by kernel_rfl) (by kernel_rfl) (by kernel_rfl) (λ_ _ _ h=>h) (Or.inl ⟨by rfl,?_⟩) (by assumption) ?_;rotate_left
 . (intro w hSw;go_simp;(try with_reducible rfl))
 (try simp only[Act.put,List.setIfInBounds_toArray,List.set_cons_zero,List.set_cons_succ]);refine wpAnyH_take (i:=18) (oi:={dst:=some 21,op:=Go.Op.move (Go.Operand.tmp 0),type:=103,pos:= "policy.go:133" ,after:=#[],guard:=none}) (v:=?_) rfl (by kernel_rfl) (by kernel_rfl) (by kernel_rfl) (λ_ _ _ h=>h) (Or.inl ⟨by rfl,?_⟩) (by assumption) ?_;rotate_left
 . (intro w hSw;go_simp;(try with_reducible rfl))
 (try simp only[Act.put,List.setIfInBounds_toArray,List.set_cons_zero,List.set_cons_succ]);refine wpAnyH_take (i:=19) (oi:={dst:=some 22,op:=Go.Op.nilCheck (Go.Operand.tmp 21),type:=103,pos:= "policy.go:133" ,after:=#[{on:=18,ground:=Go.Ground.data}],guard:=none}) (v:=?_) rfl (by kernel_rfl) (by kernel_rfl) (by kernel_rfl) (λ_ _ _ h=>h) (Or.inl ⟨by rfl,?_⟩) (by assumption) ?_;rotate_left
 . (intro w hSw;go_simp;(try with_reducible rfl))
 (try simp only[Act.put,List.setIfInBounds_toArray,List.set_cons_zero,List.set_cons_succ]);refine wpAnyH_take (i:=20) (oi:={dst:=some 23,op:=Go.Op.makeFunc (Go.Fn.method "Drop" ) #[Go.Operand.tmp 22] #[],type:=46,pos:= "policy.go:133" ,after:=#[{on:=19,ground:=Go.Ground.data}],guard:=none}) (v:=?_) rfl (by kernel_rfl) (by kernel_rfl) (by kernel_rfl) (λ_ _ _ h=>h) (Or.inl ⟨by rfl,?_⟩) (by assumption) ?_;rotate_left
 . (intro w hSw;go_simp;(try with_reducible rfl))
 (try simp only[Act.put,List.setIfInBounds_toArray,List.set_cons_zero,List.set_cons_succ]);refine wpAnyH_take (i:=21) (oi:={dst:=some 24,op:=Go.Op.move (Go.Operand.tmp 0),type:=103,pos:= "policy.go:133" ,after:=#[],guard:=none}) (v:=?_) rfl (by kernel_rfl) (by kernel_rfl) (by kernel_rfl) (λ_ _ _ h=>h) (Or.inl ⟨by rfl,?_⟩) (by assumption) ?_;rotate_left
 . (intro w hSw;go_simp;(try with_reducible rfl))
 (try simp only[Act.put,List.setIfInBounds_toArray,List.set_cons_zero,List.set_cons_succ]);refine wpAnyH_take (i:=22) (oi:={dst:=some 25,op:=Go.Op.nilCheck (Go.Operand.tmp 24),type:=103,pos:= "policy.go:133" ,after:=#[{on:=21,ground:=Go.Ground.data}],guard:=none}) (v:=?_) rfl (by kernel_rfl) (by kernel_rfl) (by kernel_rfl) (λ_ _ _ h=>h) (Or.inl ⟨by rfl,?_⟩) (by assumption) ?_;rotate_left
 . (intro w hSw;go_simp;(try with_reducible rfl))
 (try simp only[Act.put,List.setIfInBounds_toArray,List.set_cons_zero,List.set_cons_succ]);refine wpAnyH_take (i:=23) (oi:={dst:=some 26,op:=Go.Op.makeFunc (Go.Fn.method "Resize" ) #[Go.Operand.tmp 25] #[],type:=106,pos:= "policy.go:133" ,after:=#[{on:=22,ground:=Go.Ground.data}],guard:=none}) (v:=?_) rfl (by kernel_rfl) (by kernel_rfl) (by kernel_rfl) (λ_ _ _ h=>h) (Or.inl ⟨by rfl,?_⟩) (by assumption) ?_;rotate_left
 . (intro w hSw;go_simp;(try with_reducible rfl))
 (try simp only[Act.put,List.setIfInBounds_toArray,List.set_cons_zero,List.set_cons_succ]);refine wpAnyH_take (i:=24) (oi:={dst:=some 27,op:=Go.Op.move (Go.Operand.tmp 0),type:=103,pos:= "policy.go:133" ,after:=#[],guard:=none}) (v:=?_) rfl (by kernel_rfl) (by kernel_rfl) (by kernel_rfl) (λ_ _ _ h=>h) (Or.inl ⟨by rfl,?_⟩) (by assumption) ?_;rotate_left
 . (intro w hSw;go_simp;(try with_reducible rfl))
 (try simp only[Act.put,List.setIfInBounds_toArray,List.set_cons_zero,List.set_cons_succ]);refine wpAnyH_take (i:=25) (oi:={dst:=some 28,op:=Go.Op.nilCheck (Go.Operand.tmp 27),type:=103,pos:= "policy.go:133" ,after:=#[{on:=24,ground:=Go.Ground.data}],guard:=none}) (v:=?_) rfl (by kernel_rfl) (by kernel_rfl) (by kernel_rfl) (λ_ _ _ h=>h) (Or.inl ⟨by rfl,?_⟩) (by assumption) ?_;rotate_left
 . (intro w hSw;go_simp;(try with_reducible rfl))
 (try simp only[Act.put,List.setIfInBounds_toArray,List.set_cons_zero,List.set_cons_succ]);refine wpAnyH_take (i:=26) (oi:={dst:=some 29,op:=Go.Op.makeFunc (Go.Fn.method "Keys" ) #[Go.Operand.tmp 28] #[],type:=32,pos:= "policy.go:133" ,after:=#[{on:=25,ground:=Go.Ground.data}],guard:=none}) (v:=?_) rfl (by kernel_rfl) (by kernel_rfl) (by kernel_rfl) (λ_ _ _ h=>h) (Or.inl ⟨by rfl,?_⟩) (by assumption) ?_;rotate_left
 . (intro w hSw;go_simp;(try with_reducible rfl))
 (try simp only[Act.put,List.setIfInBounds_toArray,List.set_cons_zero,List.set_cons_succ]);refine wpAnyH_take (i:=27) (oi:={dst:=some 30,op:=Go.Op.move (Go.Operand.tmp 0),type:=103,pos:= "policy.go:133" ,after:=#[],guard:=none}) (v:=?_) rfl (by kernel_rfl) (by kernel_rfl) (by kernel_rfl) (λ_ _ _ h=>h) (Or.inl ⟨by rfl,?_⟩) (by assumption) ?_;rotate_left
 . (intro w hSw;go_simp;(try with_reducible rfl))
 (try simp only[Act.put,List.setIfInBounds_toArray,List.set_cons_zero,List.set_cons_succ]);refine wpAnyH_take (i:=28) (oi:={dst:=some 31,op:=Go.Op.nilCheck (Go.Operand.tmp 30),type:=103,pos:= "policy.go:133" ,after:=#[{on:=27,ground:=Go.Ground.data}],guard:=none}) (v:=?_) rfl (by kernel_rfl) (by kernel_rfl) (by kernel_rfl) (λ_ _ _ h=>h) (Or.inl ⟨by rfl,?_⟩) (by assumption) ?_;rotate_left
 . (intro w hSw;go_simp;(try with_reducible rfl))
 (try simp only[Act.put,List.setIfInBounds_toArray,List.set_cons_zero,List.set_cons_succ]);refine wpAnyH_take (i:=29) (oi:={dst:=some 32,op:=Go.Op.makeFunc (Go.Fn.method "Ghosts" ) #[Go.Operand.tmp 31] #[],type:=32,pos:= "policy.go:133" ,after:=#[{on:=28,ground:=Go.Ground.data}],guard:=none}) (v:=?_) rfl (by kernel_rfl) (by kernel_rfl) (by kernel_rfl) (λ_ _ _ h=>h) (Or.inl ⟨by rfl,?_⟩) (by assumption) ?_;rotate_left
 . (intro w hSw;go_simp;(try with_reducible rfl))
 (try simp only[Act.put,List.setIfInBounds_toArray,List.set_cons_zero,List.set_cons_succ]);refine wpAnyH_take (i:=30) (oi:={dst:=some 33,op:=Go.Op.build 108 #[(0,Go.Operand.tmp 5),(1,Go.Operand.tmp 8),(2,Go.Operand.tmp 11),(3,Go.Operand.tmp 14),(4,Go.Operand.tmp 17),(5,Go.Operand.tmp 20),(6,Go.Operand.tmp 23),(7,Go.Operand.tmp 26),(8,Go.Operand.tmp 29),(9,Go.Operand.tmp 32)],type:=108,pos:= "policy.go:133" ,after:=#[{on:=2,ground:=Go.Ground.data},{on:=5,ground:=Go.Ground.data},{on:=8,ground:=Go.Ground.data},{on:=11,ground:=Go.Ground.data},{on:=14,ground:=Go.Ground.data},{on:=17,ground:=Go.Ground.data},{on:=20,ground:=Go.Ground.data},{on:=23,ground:=Go.Ground.data},{on:=26,ground:=Go.Ground.data},{on:=29,ground:=Go.Ground.data}],guard:=none}) (v:=?_) rfl (by kernel_rfl) (by kernel_rfl) (by kernel_rfl) (λ_ _ _ h=>h) (Or.inl ⟨by rfl,?_⟩) (by assumption) ?_;rotate_left
 . (intro w hSw;go_simp;(try with_reducible rfl))
 (try simp only[Act.put,List.setIfInBounds_toArray,List.set_cons_zero,List.set_cons_succ]);refine wpAnyH_ready (rs:=[31]) (by kernel_rfl) (by simp) ?_;refine AllReadyH.cons (o:={dst:=none,op:=Go.Op.store 108 (Go.Operand.tmp 2) (Go.Operand.tmp 33),type:=0,pos:= "policy.go:133" ,after:=#[{on:=30,ground:=Go.Ground.data},{on:=0,ground:=Go.Ground.phase},{on:=1,ground:=Go.Ground.phase},{on:=2,ground:=Go.Ground.phase},{on:=3,ground:=Go.Ground.phase},{on:=4,ground:=Go.Ground.phase},{on:=5,ground:=Go.Ground.phase},{on:=6,ground:=Go.Ground.phase},{on:=7,ground:=Go.Ground.phase},{on:=8,ground:=Go.Ground.phase},{on:=9,ground:=Go.Ground.phase},{on:=10,ground:=Go.Ground.phase},{on:=11,ground:=Go.Ground.phase},{on:=12,ground:=Go.Ground.phase},{on:=13,ground:=Go.Ground.phase},{on:=14,ground:=Go.Ground.phase},{on:=15,ground:=Go.Ground.phase},{on:=16,ground:=Go.Ground.phase},{on:=17,ground:=Go.Ground.phase},{on:=18,ground:=Go.Ground.phase},{on:=19,ground:=Go.Ground.phase},{on:=20,ground:=Go.Ground.phase},{on:=21,ground:=Go.Ground.phase},{on:=22,ground:=Go.Ground.phase},{on:=23,ground:=Go.Ground.phase},{on:=24,ground:=Go.Ground.phase},{on:=25,ground:=Go.Ground.phase},{on:=26,ground:=Go.Ground.phase},{on:=27,ground:=Go.Ground.phase},{on:=28,ground:=Go.Ground.phase},{on:=29,ground:=Go.Ground.phase},{on:=30,ground:=Go.Ground.phase}],guard:=none}) rfl (λK hK=>?_) AllReadyH.nil;go_simp;have h0:=hth;rw[st1 (P:=Tryz.prog) h0 (show 0 < 10 by omega) rfl];simp only[Result.andThen_ok];have h1:=thS h0 w.heap.size 0 (.func (.method "Has" ) #[.iface t (.pointer (some ⟨c,0,none⟩))] #[]);rw[st1 (P:=Tryz.prog) h1 (show 1 < 10 by omega) rfl];simp only[Result.andThen_ok];have h2:=thS h1 w.heap.size 1 (.func (.method "Len" ) #[.iface t (.pointer (some ⟨c,0,none⟩))] #[]);rw[st1 (P:=Tryz.prog) h2 (show 2 < 10 by omega) rfl];simp only[Result.andThen_ok];have h3:=thS h2 w.heap.size 2 (.func (.method "Request" ) #[.iface t (.pointer (some ⟨c,0,none⟩))] #[]);rw[st1 (P:=Tryz.prog) h3 (show 3 < 10 by omega) rfl];simp only[Result.andThen_ok];have h4:=thS h3 w.heap.size 3 (.func (.method "Remove" ) #[.iface t (.pointer (some ⟨c,0,none⟩))] #[]);rw[st1 (P:=Tryz.prog) h4 (show 4 < 10 by omega) rfl];simp only[Result.andThen_ok];have h5:=thS h4 w.heap.size 4 (.func (.method "Adopt" ) #[.iface t (.pointer (some ⟨c,0,none⟩))] #[]);rw[st1 (P:=Tryz.prog) h5 (show 5 < 10 by omega) rfl];simp only[Result.andThen_ok];have h6:=thS h5 w.heap.size 5 (.func (.method "Victim" ) #[.iface t (.pointer (some ⟨c,0,none⟩))] #[]);rw[st1 (P:=Tryz.prog) h6 (show 6 < 10 by omega) rfl];simp only[Result.andThen_ok];have h7:=thS h6 w.heap.size 6 (.func (.method "Drop" ) #[.iface t (.pointer (some ⟨c,0,none⟩))] #[]);rw[st1 (P:=Tryz.prog) h7 (show 7 < 10 by omega) rfl];simp only[Result.andThen_ok];have h8:=thS h7 w.heap.size 7 (.func (.method "Resize" ) #[.iface t (.pointer (some ⟨c,0,none⟩))] #[]);rw[st1 (P:=Tryz.prog) h8 (show 8 < 10 by omega) rfl];simp only[Result.andThen_ok];have h9:=thS h8 w.heap.size 8 (.func (.method "Keys" ) #[.iface t (.pointer (some ⟨c,0,none⟩))] #[]);rw[st1 (P:=Tryz.prog) h9 (show 9 < 10 by omega) rfl];simp only[Result.andThen_ok];have h10:=thS h9 w.heap.size 9 (.func (.method "Ghosts" ) #[.iface t (.pointer (some ⟨c,0,none⟩))] #[]);refine hK.out _ _ trivial (λhHeld=>?_);clear hK K;(try simp only[Act.put,List.setIfInBounds_toArray,List.set_cons_zero,List.set_cons_succ]);refine wpAnyH_done (by kernel_rfl) ?_ _;refine NoPanic.normal ?_;clear hth;go_wp2_with fail
 refine bodyPost_ret (LR.results_c rfl _ _ _ ⟨w.heap.size,0,none⟩ _ rfl HL.out) rfl ?_;exact⟨rfl,HB.out⟩
end Go.Proofs.YtbbogjhapeogeaaGreatDoor
set_option maxRecDepth 20000
namespace Go.Proofs.YtbbogjhapeogeaaGreatDoor
open Go.RowKit Sg
def CNew(k m:Nat)(w:World)(e:Ending)(w':World):Prop:=∃c T,e= .returned (.tuple #[cI k c,.bool true])/\KCa w' c T (KSt.start k m) 0/\(∀j,T j->w.heap.size<=j)/\Below w.heap.size w w'
theorem cacheOf_any(w:World)(k:Nat)(hk:k < 5)(z:Int)(hz: -9223372036854775808<=z/\z<=9223372036854775807):Calls Tryz.prog 43 #[.int .i64 (k:Int),.int .i64 z] w (CNew k z.toNat w):=by
 rcases k with _|_|_|_|_|k
 . show Calls Tryz.prog 43 #[.int .i64 0,.int .i64 z] w _;have U:=Lib.hid (LR.new_ca w z hz);clear hk;go_enter Tryz.func43,Tryz.ntmps43;go_wp2_with(go_at_call 53;refine U.out.mono ?_;rintro e w1 ⟨c,T,rfl,h1,h2,h3⟩;have R:=Lib.hid (And.intro h1 (And.intro h2 h3));clear h1 h2 h3)
   go_ret2
   exact⟨c,T,rfl,R.out.1,R.out.2.1,R.out.2.2⟩
 . show Calls Tryz.prog 43 #[.int .i64 1,.int .i64 z] w _;have U:=Lib.hid (LF.new_ca w z false hz);clear hk;go_enter Tryz.func43,Tryz.ntmps43;go_wp2_with(go_at_call 54;refine U.out.mono ?_;rintro e w1 ⟨c,T,rfl,h1,h2,h3⟩;have R:=Lib.hid (And.intro h1 (And.intro h2 h3));clear h1 h2 h3)
   go_ret2
   exact⟨c,T,rfl,⟨R.out.1,Nat.le_refl _⟩,R.out.2.1,R.out.2.2⟩
 . show Calls Tryz.prog 43 #[.int .i64 2,.int .i64 z] w _;have U:=Lib.hid (LF.new_ca w z true hz);clear hk;go_enter Tryz.func43,Tryz.ntmps43;go_wp2_with(go_at_call 54;refine U.out.mono ?_;rintro e w1 ⟨c,T,rfl,h1,h2,h3⟩;have R:=Lib.hid (And.intro h1 (And.intro h2 h3));clear h1 h2 h3)
   go_ret2
   exact⟨c,T,rfl,⟨R.out.1,Nat.le_refl _⟩,R.out.2.1,R.out.2.2⟩
 . show Calls Tryz.prog 43 #[.int .i64 3,.int .i64 z] w _;have U:=Lib.hid (SR.new_ca w z hz);clear hk;go_enter Tryz.func43,Tryz.ntmps43;go_wp2_with(go_at_call 55;refine U.out.mono ?_;rintro e w1 ⟨c,T,rfl,h1,h2,h3⟩;have R:=Lib.hid (And.intro h1 (And.intro h2 h3));clear h1 h2 h3)
   go_ret2
   exact⟨c,T,rfl,R.out.1,R.out.2.1,R.out.2.2⟩
 . show Calls Tryz.prog 43 #[.int .i64 4,.int .i64 z] w _;have U:=Lib.hid (AR.new_ca w z hz);clear hk;go_enter Tryz.func43,Tryz.ntmps43;go_wp2_with(go_at_call 56;refine U.out.mono ?_;rintro e w1 ⟨c,T,rfl,h1,h2,h3⟩;have R:=Lib.hid (And.intro h1 (And.intro h2 h3));clear h1 h2 h3)
   go_ret2
   exact⟨c,T,rfl,R.out.1,R.out.2.1,R.out.2.2⟩
 . omega
theorem cacheOf_no(w:World)(k:Int)(hk:k < 0\/4 < k)(z:Int):Calls Tryz.prog 43 #[.int .i64 k,.int .i64 z] w (λe w'=>e= .returned (.tuple #[.nilIface,.bool false])/\w=w'):=by
 have h0:¬k=0:=by omega
 have h1:¬k=1:=by omega
 have h2:¬k=2:=by omega
 have h3:¬k=3:=by omega
 have h4:¬k=4:=by omega
 clear hk;go_enter Tryz.func43,Tryz.ntmps43;go_wp2_with fail
 go_ret2
 exact⟨rfl,rfl⟩
theorem name_any(w:World)(k:Nat)(hk:k < 7)(hn:Named w):Calls Tryz.prog 31 #[.int .i64 (k:Int)] w (λe w'=>e= .returned (.tuple #[.string (nameOf k),.nilIface])/\w=w'):=by
 have h0:=hn k hk;generalize nameOf k=s at*;have h1:¬((k:Int) < 0):=by omega
 have h2:¬((7:Int)<=(k:Int)):=by omega
 clear hn;go_enter Tryz.func31,Tryz.ntmps31;go_wp2_with fail
 go_ret2
 exact⟨rfl,rfl⟩
theorem name_no(w:World)(z:Int)(hz:z < 0\/7<=z):Calls Tryz.prog 31 #[.int .i64 z] w (λe w'=>∃v,e= .returned (.tuple #[.string ⟨#[]⟩,v])/\Flt w' ⟨#[110,97,109,101]⟩ 7 v/\Below w.heap.size w w'):=by
 go_enter Tryz.func31,Tryz.ntmps31
 by_cases h0:z < 0
 . clear hz;go_wp2_with fail
   go_ret2
   exact⟨_,rfl,⟨_,rfl,by simp,heap_alloc_new _ _⟩,(Below.refl _ _).alloc (Nat.le_refl _) _⟩
 . have h1:7<=z:=by omega
   clear hz;go_wp2_with fail
   go_ret2
   exact⟨_,rfl,⟨_,rfl,by simp,heap_alloc_new _ _⟩,(Below.refl _ _).alloc (Nat.le_refl _) _⟩
def PNew(k m:Nat)(w:World)(e:Ending)(w':World):Prop:=∃p U,e= .returned (.tuple #[.pointer (some ⟨p,0,none⟩),.nilIface])/\Pc w' p U (KSt.start k m) 0/\(∀j,U j->w.heap.size<=j)/\Below w.heap.size w w'
def PNo(n:Int)(w:World)(e:Ending)(w':World):Prop:=∃v,e= .returned (.tuple #[.pointer none,v])/\Flt w' ⟨#[112,111,108,105,99,121]⟩ n v/\Below w.heap.size w w'
theorem new_p(w:World)(k:Nat)(hk:k < 5)(m:Nat)(hm:m<=16777216):Calls Tryz.prog 36 #[.int .i64 (k:Int),.int .i64 (m:Int)] w (PNew k m w):=by
 have V:=cacheOf_any w k hk (m:Int) (by omega);rw[Int.toNat_natCast] at V;have V:=Lib.hid V
 have I:=Lib.hid (λw1=>show Calls Tryz.prog 44 #[.int .i64 (m:Int)] w1 (λe w'=>e= .returned (.bool true)/\w1=w') by
  have:=isRoom_any w1 (m:Int);rw[decide_eq_true (by omega),decide_eq_true (by omega)] at this;exact this)
 have C:=Lib.hid (λw1 c=>callsOf_any w1 k c);have K:=Lib.hid (KSt.start_kind hk m);go_enter Tryz.func36,Tryz.ntmps36;go_wp2_with fail
 refine V.out.mono ?_;rintro e w1 ⟨c,T,rfl,h1,h2,h3⟩;have R:=Lib.hid (And.intro h1 (And.intro h2 h3));clear h1 h2 h3;go_wp2_with fail
 refine(I.out _).mono ?_;rintro e w1 ⟨rfl,rfl⟩;go_wp2_with fail
 refine(C.out _ _).mono ?_;rintro e w2 ⟨rfl,hB⟩;have HB:=Lib.hid hB;clear hB;unfold fns fnA;go_wp2_with fail
 go_ret2
 obtain⟨h1,h2,h3⟩:=R.out;obtain⟨q1,q2,_,_⟩:=K.out;have hs2:=HB.out.size;have b3:=(Below.refl w2.heap.size w2).alloc (Nat.le_refl _) (.cells (pcells k m c) 111);have hb:=HB.out.trans (b3.mono hs2);have hTl:∀j,T j->j < w1.heap.size:=λj hj=>h1.lt hj;refine⟨w2.heap.size,λj=>j=w2.heap.size\/T j,rfl,⟨c,T,rfl,h1.below hb,λhj=>?_,?_⟩,λj hj=>?_,h3.trans (hb.mono h3.size)⟩
 . have:=hTl _ hj;omega
 . rw[q1,q2];exact heap_alloc_new _ _
 . have:=h3.size;rcases hj with rfl|hj
   . omega
   . exact h2 j hj
theorem new_kind(w:World)(z:Int)(hz:z < 0\/4 < z)(y:Int):Calls Tryz.prog 36 #[.int .i64 z,.int .i64 y] w (PNo 7 w):=by
 have V:=Lib.hid (cacheOf_no w z hz y);clear hz;go_enter Tryz.func36,Tryz.ntmps36;go_wp2_with fail
 refine V.out.mono ?_;rintro e w1 ⟨rfl,rfl⟩;go_wp2_with fail
 go_ret2
 exact⟨_,rfl,⟨_,rfl,by simp,heap_alloc_new _ _⟩,(Below.refl _ _).alloc (Nat.le_refl _) _⟩
end Go.Proofs.YtbbogjhapeogeaaGreatDoor
