/- errors.Is and the laws' Wraps for any number (rounds 9 on). -/
import Derived.Test.YtdmmciggopmglaaGreatDoorErrb
namespace Go.Proofs.YtdmmciggopmglaaGreatDoor
open Go.RowKit Go.Extern.Stop Go.Stop Go.Extern
set_option maxHeartbeats 4000000 in
theorem is_code(g:Nat)(n:Int)(w:World)(h:w.cell? ⟨g,2,none⟩=some (.iface 60 (.int .i64 n))):
 Calls Tryz.prog 38 #[.iface 59 (.pointer (some ⟨g,0,none⟩)),.iface 60 (.int .i64 n)] w λe w'=>e= .returned (.bool true)/\w=w':=by
 have h53:=@run_callFunc_extern Tryz.prog 50 _ ReflectliteType.typeOf Tryz.func50 (by kernel_rfl) (by kernel_rfl) (by kernel_rfl) (by kernel_rfl);obtain⟨F,hF,cT⟩:=Er.cmpE;have h116:=@run_callFunc_extern Tryz.prog 182 _ F Tryz.func182 (by kernel_rfl) (by kernel_rfl) (by kernel_rfl) hF;clear hF;have tT:=Er.typeOfN;have mC:=Er.methodComparable;have nP:=Er.noIsP;have uP:=Er.hasUnwrapP;have mU:=Er.methodUnwrapP;have q1:∀w:World,(binOp .eql 28 (.iface 60 (.int .i64 n)) (.iface 60 (.int .i64 n))).run Tryz.prog w= .ok (.bool true) w:=λw=>by rw[Er.eqlN n n w,beq_self_eq_true]
 have q2:=Er.eqlPN;go_enter Tryz.func38,Tryz.ntmps38;go_wp2
 refine wp_loop_rounds 2 ?_;rw[rounds_succ];go_wp2
 rw[rounds_succ];go_wp2
 go_ret;exact⟨rfl,rfl⟩
set_option maxHeartbeats 1000000 in
theorem wraps_code(g:Nat)(s k:ByteArray)(n:Int)(hn:n≠0)(w:World)(hl:Laid w)(hg:g < w.heap.size)(h0:w.cell? ⟨g,0,none⟩=some (.string s))(h1:w.cell? ⟨g,1,none⟩=some (.string k))(h2:w.cell? ⟨g,2,none⟩=some (.iface 60 (.int .i64 n))):
 Calls Tryz.prog 25 #[.iface 59 (.pointer (some ⟨g,0,none⟩)),.string s,.string k,.int .i64 n] w (λe w'=>e= .returned (.bool true)/\Below w.heap.size w w'):=by
 have hb1:Below w.heap.size w (w.alloc (.cells #[.pointer none] 59)):=(Below.refl _ _).alloc (Nat.le_refl _) _;have hl1:Laid (w.alloc (.cells #[.pointer none] 59)):=hl.below hb1 (Nat.le_refl _);go_enter Tryz.func25,Tryz.ntmps25;go_wp2_with fail
 refine(as_hit ⟨g,0,none⟩ ⟨w.heap.size,0,none⟩ (.pointer none) _ hl1 (by simp) (by simp)).mono ?_;rintro e w' ⟨rfl,hw⟩
 have hb:Below w.heap.size w w':=by
  rw[hw];exact(((((hb1.alloc (by simp) _).alloc (by simp;omega) _).alloc (by simp;omega) _).alloc (by simp;omega) _)).setCell (by simp) _
 have hf:w'.cell? ⟨w.heap.size,0,none⟩=some (.pointer (some ⟨g,0,none⟩)):=by
  rw[hw];refine World.cell?_setCell_same' _ _ _ ?_;rw[World.cell?_alloc_lt _ _ ⟨w.heap.size,0,none⟩ (by simp;omega),World.cell?_alloc_lt _ _ ⟨w.heap.size,0,none⟩ (by simp;omega),World.cell?_alloc_lt _ _ ⟨w.heap.size,0,none⟩ (by simp;omega),World.cell?_alloc_lt _ _ ⟨w.heap.size,0,none⟩ (by simp),World.cell?_alloc_new];rfl
 have k0:w'.cell? ⟨g,0,none⟩=some (.string s):=by rw[hb.cell (p:=⟨g,0,none⟩) hg];exact h0
 have k1:w'.cell? ⟨g,1,none⟩=some (.string k):=by rw[hb.cell (p:=⟨g,1,none⟩) hg];exact h1
 have k2:w'.cell? ⟨g,2,none⟩=some (.iface 60 (.int .i64 n)):=by rw[hb.cell (p:=⟨g,2,none⟩) hg];exact h2
 clear hw h0 h1 h2 hl1 hb1;have HB:=Lib.hid hb;clear hb;go_wp2_with(go_at_call 38;refine(is_code g n _ k2).mono ?_;rintro e w'' ⟨rfl,rfl⟩)
 go_ret;exact⟨rfl,HB.out⟩
end Go.Proofs.YtdmmciggopmglaaGreatDoor
