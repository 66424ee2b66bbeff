/- errors.As, errors.Is and the laws' own Wraps at this program, for a fault of package fix: their contracts. -/
import Derived.Test.YtdmmciggopmglaaGreatDoorErr
import Derived.Below
namespace Go.Proofs.YtdmmciggopmglaaGreatDoor
open Go.RowKit Go.Extern.Stop Go.Stop Go.Extern
def Laid(w:World):Prop:=w.cell? ⟨1,0,none⟩=some (.iface 134 (.agg #[.pointer (some ⟨4,28,none⟩)]))
theorem Laid.lt{w:World}(h:Laid w):1 < w.heap.size:=by
 rcases Nat.lt_or_ge 1 w.heap.size with h0|h0
 . exact h0
 . unfold Laid at h;simp[World.cell?,Array.getElem?_eq_none h0] at h
theorem Laid.below{w w':World}{B:Nat}(h:Laid w)(hb:Below B w w')(hB:w.heap.size<=B):Laid w':=by
 have:=h.lt;unfold Laid at*;rw[hb.cell (p:=⟨1,0,none⟩) (by show 1 < B;omega)];exact h
set_option maxHeartbeats 4000000 in
theorem as_hit(e t:Addr)(old:Value)(w:World)(hg:w.cell? ⟨1,0,none⟩=some (.iface 134 (.agg #[.pointer (some ⟨4,28,none⟩)])))(ht0:w.cell? t=some old)(hf0:w.frozen? t=false):
 Calls Tryz.prog 37 #[.iface 59 (.pointer (some e)),.iface 82 (.pointer (some t))] w λev w'=>ev= .returned (.bool true)/\w'=((((w.alloc (.cells #[.pointer (some t)] 82)).alloc (.cells #[.pointer (some ⟨4,82,none⟩),.pointer (some ⟨w.heap.size,0,none⟩),.int .u64 150] 97)).alloc (.cells #[.pointer (some ⟨4,82,none⟩),.pointer (some ⟨w.heap.size,0,none⟩),.int .u64 150] 97)).alloc (.cells #[.pointer (some e)] 59)).setCell t (.pointer (some e)):=by
 have h6:=@run_callFunc_extern Tryz.prog 46 _ (λargs=>ReflectliteValue.unpack (args.getD 0 (.tuple #[]))) Tryz.func46 (by kernel_rfl) (by kernel_rfl) (by kernel_rfl) (by kernel_rfl);have h7:=@run_callFunc_extern Tryz.prog 47 _ (ReflectliteValue.methodAny (ReflectliteValue.valueError "reflectlite.Value.Type" 0) (λt _ _ _=>ReflectliteType.toType t)) Tryz.func47 (by kernel_rfl) (by kernel_rfl) (by kernel_rfl) (by kernel_rfl);have h8:=@run_callFunc_extern Tryz.prog 48 _ (ReflectliteValue.method (ReflectliteValue.valueError "reflectlite.Value.IsNil" 0) ReflectliteValue.isNil) Tryz.func48 (by kernel_rfl) (by kernel_rfl) (by kernel_rfl) (by kernel_rfl);have h27:=@run_callFunc_extern Tryz.prog 89 _ (ReflectliteType.abiMethod λt=>do pure (.int .u8 (← Rtype.kind t))) Tryz.func89 (by kernel_rfl) (by kernel_rfl) (by kernel_rfl) (by kernel_rfl);have h37:=@run_callFunc_extern Tryz.prog 183 _ (ReflectliteType.method ReflectliteType.elem) Tryz.func183 (by kernel_rfl) (by kernel_rfl) (by kernel_rfl) (by kernel_rfl);have h38:=@run_callFunc_extern Tryz.prog 184 _ (ReflectliteType.relation "Implements" ReflectliteType.implements_) Tryz.func184 (by kernel_rfl) (by kernel_rfl) (by kernel_rfl) (by kernel_rfl);have h10:=@run_callFunc_extern Tryz.prog 50 _ ReflectliteType.typeOf Tryz.func50 (by kernel_rfl) (by kernel_rfl) (by kernel_rfl) (by kernel_rfl);have h35:=@run_callFunc_extern Tryz.prog 181 _ (ReflectliteType.relation "AssignableTo" ReflectliteType.assignableTo) Tryz.func181 (by kernel_rfl) (by kernel_rfl) (by kernel_rfl) (by kernel_rfl);have h11:=@run_callFunc_extern Tryz.prog 59 _ (ReflectliteValue.method (ReflectliteValue.valueError "reflectlite.Value.Elem" 0) ReflectliteValue.elem) Tryz.func59 (by kernel_rfl) (by kernel_rfl) (by kernel_rfl) (by kernel_rfl);have h12:=@run_callFunc_extern Tryz.prog 60 _ ReflectliteValue.set Tryz.func60 (by kernel_rfl) (by kernel_rfl) (by kernel_rfl) (by kernel_rfl);have tO:=Er.typeOfP;have mA:=Er.methodAssignableTo;have a25:=Er.assignableP;have v25:=Er.valueOfP;have f6:=Er.valueOfPP;have f7:=Er.typePP;have mK:=Er.methodKind;have mE:=Er.methodElem;have mI:=Er.methodImplements;have k27:=Er.kindPP;have k25:=Er.kindP;have e27:=Er.elemPP;have i25:=Er.implementsP;have n8:=Er.isNilPP ⟨w.heap.size,0,none⟩ t ((w.alloc (.cells #[.pointer (some t)] 82)).alloc (.cells #[.pointer (some ⟨4,82,none⟩),.pointer (some ⟨w.heap.size,0,none⟩),.int .u64 150] 97)) (by simp);have hlt:1 < w.heap.size:=Laid.lt hg
 have hg2:((w.alloc (.cells #[.pointer (some t)] 82)).alloc (.cells #[.pointer (some ⟨4,82,none⟩),.pointer (some ⟨w.heap.size,0,none⟩),.int .u64 150] 97)).cell? ⟨1,0,none⟩=some (.iface 134 (.agg #[.pointer (some ⟨4,28,none⟩)])):=by
  rw[World.cell?_alloc_lt _ _ ⟨1,0,none⟩ (by first|(simp;done)|(simp;omega)),World.cell?_alloc_lt _ _ ⟨1,0,none⟩ hlt];exact hg
 have htl:t.block < w.heap.size:=by
  rcases Nat.lt_or_ge t.block w.heap.size with h|h
  . exact h
  . simp[World.cell?,Array.getElem?_eq_none h] at ht0
 have el:=Er.elemVPP ⟨w.heap.size,0,none⟩ t (((w.alloc (.cells #[.pointer (some t)] 82)).alloc (.cells #[.pointer (some ⟨4,82,none⟩),.pointer (some ⟨w.heap.size,0,none⟩),.int .u64 150] 97)).alloc (.cells #[.pointer (some ⟨4,82,none⟩),.pointer (some ⟨w.heap.size,0,none⟩),.int .u64 150] 97)) (by rw[World.cell?_alloc_lt _ _ ⟨w.heap.size,0,none⟩ (by simp;omega)];simp)
 have st:=Er.setP t ⟨w.heap.size+1+1+1,0,none⟩ e old ((((w.alloc (.cells #[.pointer (some t)] 82)).alloc (.cells #[.pointer (some ⟨4,82,none⟩),.pointer (some ⟨w.heap.size,0,none⟩),.int .u64 150] 97)).alloc (.cells #[.pointer (some ⟨4,82,none⟩),.pointer (some ⟨w.heap.size,0,none⟩),.int .u64 150] 97)).alloc (.cells #[.pointer (some e)] 59))
  (by rw[World.cell?_alloc_at _ _ _ _ (by simp)];rfl)
  (by rw[World.cell?_alloc_lt _ _ t (by simp;omega),World.cell?_alloc_lt _ _ t (by simp;omega),World.cell?_alloc_lt _ _ t (by simp;omega),World.cell?_alloc_lt _ _ t htl];exact ht0)
  (by rw[World.frozen?_alloc_old _ _ t (by simp;omega),World.frozen?_alloc_old _ _ t (by simp;omega),World.frozen?_alloc_old _ _ t (by simp;omega),World.frozen?_alloc_old _ _ t (Nat.ne_of_lt htl)];exact hf0)
 go_enter Tryz.func37,Tryz.ntmps37;go_wp2
 refine wp_loop_rounds 1 ?_;rw[rounds_succ];go_wp2
 go_ret;exact⟨rfl,rfl⟩
namespace Er
theorem typeOfN(v:Value)(w:World):(ReflectliteType.typeOf #[.iface 60 v]).run Tryz.prog w= .ok (.iface 134 (.agg #[.pointer (some ⟨4,60,none⟩)])) w:=by kernel_rfl
theorem cmpE:∃F:Array Value->Sem Value,find Tryz.f182=some F/\∀w:World,(F #[.agg #[.pointer (some ⟨4,60,none⟩)]]).run Tryz.prog w= .ok (.bool true) w:=
 ⟨(find Tryz.f182).getD (λ_=>stuck "" ),by kernel_rfl,λ_=>by kernel_rfl⟩
theorem noIsP(v:Value)(xT:TypeId)(w:World):(Instr.typeAssert (.iface 59 v) xT 146 true).run Tryz.prog w= .ok (.tuple #[.nilIface,.bool false]) w:=run_typeAssert_lacksB Tryz.underlying146 (by kernel_rfl) (by kernel_rfl) v xT w
theorem hasUnwrapP(v:Value)(xT:TypeId)(w:World):(Instr.typeAssert (.iface 59 v) xT 141 true).run Tryz.prog w= .ok (.tuple #[.iface 59 v,.bool true]) w:=run_typeAssert_hasB Tryz.underlying141 (by kernel_rfl) v xT w
theorem methodUnwrapP(v:Value)(w:World):(Go.method 389 59 v "Unwrap" ).run Tryz.prog w= .ok (102,v) w:=by kernel_rfl
theorem eqlN(a b:Int)(w:World):(binOp .eql 28 (.iface 60 (.int .i64 a)) (.iface 60 (.int .i64 b))).run Tryz.prog w= .ok (.bool (a==b)) w:=
 Lib.run_eql_iface_int w a b Tryz.underlying28 (by kernel_rfl) Tryz.underlying60
theorem eqlPN(v u:Value)(w:World):(binOp .eql 28 (.iface 59 v) (.iface 60 u)).run Tryz.prog w= .ok (.bool false) w:=
 run_eql_iface_types 59 60 v u Tryz.underlying28 (by decide) w
end Er
end Go.Proofs.YtdmmciggopmglaaGreatDoor
