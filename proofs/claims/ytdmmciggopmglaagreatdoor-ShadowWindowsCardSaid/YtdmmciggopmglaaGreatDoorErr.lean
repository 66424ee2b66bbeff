/- errors.As and errors.Is at this program, for a fault of package api: Go's own text is walked; closed facts on the model's entries for internal/reflectlite at this translation's numbers. -/
import Derived.Test.YtdmmciggopmglaaGreatDoorChecked
import Derived.WalkKit
import Derived.LaidEql
import Derived.Stop.Asserts
import Derived.RowKitTokens
import Derived.Lib.IfaceEq
import Derived.Lib.Hide
namespace Go.Proofs.YtdmmciggopmglaaGreatDoor
open Go.RowKit Go.Extern.Stop Go.Stop Go.Extern
namespace Er
theorem valueOfPP(t:Addr)(w:World):(ReflectliteValue.unpack (.iface 82 (.pointer (some t)))).run Tryz.prog w
 = .ok (.agg #[.pointer (some ⟨4,82,none⟩),.pointer (some ⟨w.heap.size,0,none⟩),.int .u64 150]) (w.alloc (.cells #[.pointer (some t)] 82)):=by kernel_rfl
theorem typePP(a:Addr)(w:World):(ReflectliteValue.methodAny (ReflectliteValue.valueError "reflectlite.Value.Type" 0) (λt _ _ _=>ReflectliteType.toType t) #[.agg #[.pointer (some ⟨4,82,none⟩),.pointer (some a),.int .u64 150]]).run Tryz.prog w
 = .ok (.iface 134 (.agg #[.pointer (some ⟨4,82,none⟩)])) w:=by kernel_rfl
theorem methodKind(h:Value)(w:World):(Go.method 389 134 (.agg #[h]) "Kind" ).run Tryz.prog w= .ok (89,h) w:=by kernel_rfl
theorem kindPP(w:World):((ReflectliteType.abiMethod λt=>(λa:Nat=>Value.int IntKind.u8 (a:Int)) <$> Rtype.kind t) #[.pointer (some ⟨4,82,none⟩)]).run Tryz.prog w= .ok (.int .u8 22) w:=by kernel_rfl
theorem kindP(w:World):((ReflectliteType.abiMethod λt=>(λa:Nat=>Value.int IntKind.u8 (a:Int)) <$> Rtype.kind t) #[.pointer (some ⟨4,59,none⟩)]).run Tryz.prog w= .ok (.int .u8 22) w:=by kernel_rfl
theorem rlm(z:Sem Value)(f:TypeId->Addr->Nat->Nat->Sem Value)(v:Value):
 ReflectliteValue.method z f #[v]=(do match <-ReflectliteValue.parts v with|none=>z|some (t,a,fl)=>f t a fl (fl % 32)):=rfl
theorem partsPP(a:Addr)(w:World):(ReflectliteValue.parts (.agg #[.pointer (some ⟨4,82,none⟩),.pointer (some a),.int .u64 150])).run Tryz.prog w= .ok (some (82,a,150)) w:=by kernel_rfl
theorem isNilPP(a p:Addr)(W:World)(ha:W.cell? a=some (.pointer (some p))):
 (ReflectliteValue.method (ReflectliteValue.valueError "reflectlite.Value.IsNil" 0) ReflectliteValue.isNil #[.agg #[.pointer (some ⟨4,82,none⟩),.pointer (some a),.int .u64 150]]).run Tryz.prog W= .ok (.bool false) W:=by
 rw[rlm];simp only[Sem.run_bind,partsPP,Result.andThen];simp[ReflectliteValue.isNil,loadVar,isAgg,underlying,Tryz.underlying82,ha,Result.andThen]
theorem methodElem(h:Value)(w:World):(Go.method 389 134 (.agg #[h]) "Elem" ).run Tryz.prog w= .ok (183,.agg #[h]) w:=by kernel_rfl
theorem methodImplements(h:Value)(w:World):(Go.method 389 134 (.agg #[h]) "Implements" ).run Tryz.prog w= .ok (184,.agg #[h]) w:=by kernel_rfl
theorem methodAssignableTo(h:Value)(w:World):(Go.method 389 134 (.agg #[h]) "AssignableTo" ).run Tryz.prog w= .ok (181,.agg #[h]) w:=by kernel_rfl
theorem methodComparable(h:Value)(w:World):(Go.method 389 134 (.agg #[h]) "Comparable" ).run Tryz.prog w= .ok (182,.agg #[h]) w:=by kernel_rfl
theorem elemPP(w:World):(ReflectliteType.method ReflectliteType.elem #[.agg #[.pointer (some ⟨4,82,none⟩)]]).run Tryz.prog w= .ok (.iface 134 (.agg #[.pointer (some ⟨4,59,none⟩)])) w:=by kernel_rfl
theorem implementsP(w:World):(ReflectliteType.relation "Implements" ReflectliteType.implements_ #[.agg #[.pointer (some ⟨4,59,none⟩)],.iface 134 (.agg #[.pointer (some ⟨4,28,none⟩)])]).run Tryz.prog w= .ok (.bool true) w:=by kernel_rfl
theorem typeOfP(v:Value)(w:World):(ReflectliteType.typeOf #[.iface 59 v]).run Tryz.prog w= .ok (.iface 134 (.agg #[.pointer (some ⟨4,59,none⟩)])) w:=by kernel_rfl
theorem assignableP(w:World):(ReflectliteType.relation "AssignableTo" ReflectliteType.assignableTo #[.agg #[.pointer (some ⟨4,59,none⟩)],.iface 134 (.agg #[.pointer (some ⟨4,59,none⟩)])]).run Tryz.prog w= .ok (.bool true) w:=by kernel_rfl
theorem valueOfP(e:Addr)(w:World):(ReflectliteValue.unpack (.iface 59 (.pointer (some e)))).run Tryz.prog w
 = .ok (.agg #[.pointer (some ⟨4,59,none⟩),.pointer (some ⟨w.heap.size,0,none⟩),.int .u64 150]) (w.alloc (.cells #[.pointer (some e)] 59)):=by kernel_rfl
theorem elemOfPP(w:World):(Rtype.elem? 82).run Tryz.prog w= .ok (some 59) w:=by kernel_rfl
theorem mkP(p:Addr)(w:World):(ReflectliteValue.mk 59 p ReflectliteValue.flagAddr).run Tryz.prog w= .ok (.agg #[.pointer (some ⟨4,59,none⟩),.pointer (some p),.int .u64 406]) w:=by kernel_rfl
theorem elemVPP(a p:Addr)(W:World)(ha:W.cell? a=some (.pointer (some p))):
 (ReflectliteValue.method (ReflectliteValue.valueError "reflectlite.Value.Elem" 0) ReflectliteValue.elem #[.agg #[.pointer (some ⟨4,82,none⟩),.pointer (some a),.int .u64 150]]).run Tryz.prog W
   = .ok (.agg #[.pointer (some ⟨4,59,none⟩),.pointer (some p),.int .u64 406]) W:=by
 rw[rlm];simp only[Sem.run_bind,partsPP,Result.andThen];simp[ReflectliteValue.elem,loadVar,isAgg,underlying,Tryz.underlying82,ha,Result.andThen,elemOfPP,mkP]
theorem partsPa(a:Addr)(w:World):(ReflectliteValue.parts (.agg #[.pointer (some ⟨4,59,none⟩),.pointer (some a),.int .u64 406])).run Tryz.prog w= .ok (some (59,a,406)) w:=by kernel_rfl
theorem partsP(a:Addr)(w:World):(ReflectliteValue.parts (.agg #[.pointer (some ⟨4,59,none⟩),.pointer (some a),.int .u64 150])).run Tryz.prog w= .ok (some (59,a,150)) w:=by kernel_rfl
theorem directP(w:World):(Rtype.directlyAssignable 59 59).run Tryz.prog w= .ok true w:=by kernel_rfl
theorem setP(ta b e:Addr)(old:Value)(W:World)(hb:W.cell? b=some (.pointer (some e)))(ht:W.cell? ta=some old)(hf:W.frozen? ta=false):
 (ReflectliteValue.set #[.agg #[.pointer (some ⟨4,59,none⟩),.pointer (some ta),.int .u64 406],.agg #[.pointer (some ⟨4,59,none⟩),.pointer (some b),.int .u64 150]]).run Tryz.prog W
   = .ok (.tuple #[]) (W.setCell ta (.pointer (some e))):=by
 refine Eq.trans (congrArg (λm:Sem Value=>m.run Tryz.prog W) (show ReflectliteValue.set #[.agg #[.pointer (some ⟨4,59,none⟩),.pointer (some ta),.int .u64 406],.agg #[.pointer (some ⟨4,59,none⟩),.pointer (some b),.int .u64 150]]=Bind.bind (ReflectliteValue.parts (.agg #[.pointer (some ⟨4,59,none⟩),.pointer (some ta),.int .u64 406])) (λp=>Bind.bind (ReflectliteValue.parts (.agg #[.pointer (some ⟨4,59,none⟩),.pointer (some b),.int .u64 150])) (λq=>_)) from rfl)) ?_;simp only[Sem.run_bind,partsPa,partsP,Result.andThen];simp[ReflectliteValue.flagAddr,loadVar,isAgg,underlying,Tryz.underlying59,hb,Result.andThen,directP,storeVar,Value.cells,storeCells,Addr.add];rw[run_store Tryz.prog W ta _ _ (by rfl)];simp[ht,hf]
end Er
end Go.Proofs.YtdmmciggopmglaaGreatDoor
