/- Part 8 of the proof. -/
import Derived.Test.YtgjdjgnfpendgaaGreatDoorZ
import Derived.Below
import Derived.ChangeSame
import Derived.ChangeVars
import Derived.JoinedOf
import Derived.LaidEql
import Derived.LaidHandle
import Derived.LaidLaws
import Derived.LaidSub
import Derived.Lib.Hide
import Derived.Lib.IfaceEq
import Derived.OpenShut
import Derived.ProofKit
import Derived.RowKit
import Derived.RowKitTokens
import Derived.Stop.Asserts
import Derived.Stop.Joined
import Derived.Test.YtgjdjgnfpendgaaGreatDoorChecked
import Derived.Test.YtgjdjgnfpendgaaGreatDoorRows
import Derived.WalkKit
set_option maxHeartbeats 16000000
set_option maxRecDepth 20000
namespace Go.Proofs.YtgjdjgnfpendgaaGreatDoor
open Go.Proofs.Tryz
section
open Go.RowKit Go.Extern.Stop Go.Stop Go.Extern
namespace Er
theorem Fj(t:Addr)(w:zw):(ReflectliteValue.unpack (.iface 101 (.pointer (some t)))).run prog w
 = .ok (.agg #[.pointer (some ⟨2,101,none⟩),.pointer (some ⟨w.heap.size,0,none⟩),.int .u64 150]) (w.alloc (.cells #[.pointer (some t)] 101)):=by kernel_rfl
theorem N0(a:Addr)(w:zw):(ReflectliteValue.methodAny (ReflectliteValue.valueError "reflectlite.Value.Type" 0) (λt _ _ _=>ReflectliteType.toType t) #[.agg #[.pointer (some ⟨2,101,none⟩),.pointer (some a),.int .u64 150]]).run prog w
 = .ok (.iface 203 (.agg #[.pointer (some ⟨2,101,none⟩)])) w:=by kernel_rfl
theorem Dm(h:Value)(w:zw):(Go.method 415 203 (.agg #[h]) "Kind" ).run prog w= .ok (126,h) w:=by kernel_rfl
theorem N4(w:zw):((ReflectliteType.abiMethod λt=>(λa:Nat=>Value.int IntKind.u8 (a:Int)) <$> Rtype.kind t) #[.pointer (some ⟨2,101,none⟩)]).run prog w= .ok (.int .u8 22) w:=by kernel_rfl
theorem Qi(w:zw):((ReflectliteType.abiMethod λt=>(λa:Nat=>Value.int IntKind.u8 (a:Int)) <$> Rtype.kind t) #[.pointer (some ⟨2,85,none⟩)]).run prog w= .ok (.int .u8 22) w:=by kernel_rfl
theorem Sy(z:Sem Value)(f:TypeId->Addr->Nat->Nat->Sem Value)(v:Value):
 ReflectliteValue.method z f #[v]=(do match <-ReflectliteValue.parts v with|none=>z|some (t,a,fl)=>f t a fl (fl % 32)):=rfl
theorem Cb(a:Addr)(w:zw):(ReflectliteValue.parts (.agg #[.pointer (some ⟨2,101,none⟩),.pointer (some a),.int .u64 150])).run prog w= .ok (some (101,a,150)) w:=by kernel_rfl
theorem Kh(a p:Addr)(W:zw)(ha:W.cell? a=some (.pointer (some p))):
 (ReflectliteValue.method (ReflectliteValue.valueError "reflectlite.Value.IsNil" 0) ReflectliteValue.isNil #[.agg #[.pointer (some ⟨2,101,none⟩),.pointer (some a),.int .u64 150]]).run prog W= .ok (.bool false) W:=by
 rw[Sy];simp only[Sem.run_bind,Cb,Result.andThen];simp[ReflectliteValue.isNil,loadVar,isAgg,underlying,underlying101,ha,Result.andThen]
theorem Dp(h:Value)(w:zw):(Go.method 415 203 (.agg #[h]) "Elem" ).run prog w= .ok (266,.agg #[h]) w:=by kernel_rfl
theorem tV(h:Value)(w:zw):(Go.method 415 203 (.agg #[h]) "Implements" ).run prog w= .ok (267,.agg #[h]) w:=by kernel_rfl
theorem rP(h:Value)(w:zw):(Go.method 415 203 (.agg #[h]) "AssignableTo" ).run prog w= .ok (264,.agg #[h]) w:=by kernel_rfl
theorem tW(h:Value)(w:zw):(Go.method 415 203 (.agg #[h]) "Comparable" ).run prog w= .ok (265,.agg #[h]) w:=by kernel_rfl
theorem N6(w:zw):(ReflectliteType.method ReflectliteType.elem #[.agg #[.pointer (some ⟨2,101,none⟩)]]).run prog w= .ok (.iface 203 (.agg #[.pointer (some ⟨2,85,none⟩)])) w:=by kernel_rfl
theorem AV(w:zw):(ReflectliteType.relation "Implements" ReflectliteType.implements_ #[.agg #[.pointer (some ⟨2,85,none⟩)],.iface 203 (.agg #[.pointer (some ⟨2,27,none⟩)])]).run prog w= .ok (.bool true) w:=by kernel_rfl
theorem Ki(v:Value)(w:zw):(ReflectliteType.typeOf #[.iface 85 v]).run prog w= .ok (.iface 203 (.agg #[.pointer (some ⟨2,85,none⟩)])) w:=by kernel_rfl
theorem AX(w:zw):(ReflectliteType.relation "AssignableTo" ReflectliteType.assignableTo #[.agg #[.pointer (some ⟨2,85,none⟩)],.iface 203 (.agg #[.pointer (some ⟨2,85,none⟩)])]).run prog w= .ok (.bool true) w:=by kernel_rfl
theorem Hb(e:Addr)(w:zw):(ReflectliteValue.unpack (.iface 85 (.pointer (some e)))).run prog w
 = .ok (.agg #[.pointer (some ⟨2,85,none⟩),.pointer (some ⟨w.heap.size,0,none⟩),.int .u64 150]) (w.alloc (.cells #[.pointer (some e)] 85)):=by kernel_rfl
theorem Hc(w:zw):(Rtype.elem? 101).run prog w= .ok (some 85) w:=by kernel_rfl
theorem Mx(p:Addr)(w:zw):(ReflectliteValue.mk 85 p ReflectliteValue.flagAddr).run prog w= .ok (.agg #[.pointer (some ⟨2,85,none⟩),.pointer (some p),.int .u64 406]) w:=by kernel_rfl
theorem Kj(a p:Addr)(W:zw)(ha:W.cell? a=some (.pointer (some p))):
 (ReflectliteValue.method (ReflectliteValue.valueError "reflectlite.Value.Elem" 0) ReflectliteValue.elem #[.agg #[.pointer (some ⟨2,101,none⟩),.pointer (some a),.int .u64 150]]).run prog W
   = .ok (.agg #[.pointer (some ⟨2,85,none⟩),.pointer (some p),.int .u64 406]) W:=by
 rw[Sy];simp only[Sem.run_bind,Cb,Result.andThen];simp[ReflectliteValue.elem,loadVar,isAgg,underlying,underlying101,ha,Result.andThen,Hc,Mx]
theorem Kk(a:Addr)(w:zw):(ReflectliteValue.parts (.agg #[.pointer (some ⟨2,85,none⟩),.pointer (some a),.int .u64 406])).run prog w= .ok (some (85,a,406)) w:=by kernel_rfl
theorem N7(a:Addr)(w:zw):(ReflectliteValue.parts (.agg #[.pointer (some ⟨2,85,none⟩),.pointer (some a),.int .u64 150])).run prog w= .ok (some (85,a,150)) w:=by kernel_rfl
theorem Kl(w:zw):(Rtype.directlyAssignable 85 85).run prog w= .ok true w:=by kernel_rfl
theorem gd(ta b e:Addr)(old:Value)(W:zw)(hb:W.cell? b=some (.pointer (some e)))(ht:W.cell? ta=some old)(hf:W.frozen? ta=false):
 (ReflectliteValue.set #[.agg #[.pointer (some ⟨2,85,none⟩),.pointer (some ta),.int .u64 406],.agg #[.pointer (some ⟨2,85,none⟩),.pointer (some b),.int .u64 150]]).run prog W
   = .ok (.tuple #[]) (W.setCell ta (.pointer (some e))):=by
 refine Eq.trans (congrArg (λm:Sem Value=>m.run prog W) (show ReflectliteValue.set #[.agg #[.pointer (some ⟨2,85,none⟩),.pointer (some ta),.int .u64 406],.agg #[.pointer (some ⟨2,85,none⟩),.pointer (some b),.int .u64 150]]=Bind.bind (ReflectliteValue.parts (.agg #[.pointer (some ⟨2,85,none⟩),.pointer (some ta),.int .u64 406])) (λp=>Bind.bind (ReflectliteValue.parts (.agg #[.pointer (some ⟨2,85,none⟩),.pointer (some b),.int .u64 150])) (λq=>_)) from rfl)) ?_;simp only[Sem.run_bind,Kk,N7,Result.andThen];simp[ReflectliteValue.flagAddr,loadVar,isAgg,underlying,underlying85,hb,Result.andThen,Kl,storeVar,Value.cells,storeCells,Addr.add];rw[run_store prog W ta _ _ (by rfl)];simp[ht,hf]
end Er
end
section
open Go.RowKit Go.Extern.Stop Go.Stop Go.Extern
def Laid(w:zw):Prop:=w.cell? ⟨1,0,none⟩=some (.iface 203 (.agg #[.pointer (some ⟨2,27,none⟩)]))
theorem Laid.lt{w:zw}(h:Laid w):1 < w.heap.size:=by
 rcases Nat.lt_or_ge 1 w.heap.size with h0|h0
 . exact h0
 . unfold Laid at h;simp[World.cell?,Array.getElem?_eq_none h0] at h
theorem Laid.below{w w':zw}{B:Nat}(h:Laid w)(hb:Below B w w')(hB:w.heap.size<=B):Laid w':=by
 have:=h.lt;unfold Laid at*;rw[hb.cell (p:=⟨1,0,none⟩) (by show 1 < B;omega)];exact h
theorem N8(e t:Addr)(old:Value)(w:zw)(hg:w.cell? ⟨1,0,none⟩=some (.iface 203 (.agg #[.pointer (some ⟨2,27,none⟩)])))(Sz:w.cell? t=some old)(VQ:w.frozen? t=false):
 Calls prog 49 #[.iface 85 (.pointer (some e)),.iface 101 (.pointer (some t))] w λev w'=>ev= .returned (.bool true)/\w'=((((w.alloc (.cells #[.pointer (some t)] 101)).alloc (.cells #[.pointer (some ⟨2,101,none⟩),.pointer (some ⟨w.heap.size,0,none⟩),.int .u64 150] 154)).alloc (.cells #[.pointer (some ⟨2,101,none⟩),.pointer (some ⟨w.heap.size,0,none⟩),.int .u64 150] 154)).alloc (.cells #[.pointer (some e)] 85)).setCell t (.pointer (some e)):=by
 have h6:=@run_callFunc_extern prog 81 _ (λargs=>ReflectliteValue.unpack (args.getD 0 (.tuple #[]))) func81 (by kernel_rfl) (by kernel_rfl) (by kernel_rfl) (by kernel_rfl);have h7:=@run_callFunc_extern prog 82 _ (ReflectliteValue.methodAny (ReflectliteValue.valueError "reflectlite.Value.Type" 0) (λt _ _ _=>ReflectliteType.toType t)) func82 (by kernel_rfl) (by kernel_rfl) (by kernel_rfl) (by kernel_rfl);have h8:=@run_callFunc_extern prog 83 _ (ReflectliteValue.method (ReflectliteValue.valueError "reflectlite.Value.IsNil" 0) ReflectliteValue.isNil) func83 (by kernel_rfl) (by kernel_rfl) (by kernel_rfl) (by kernel_rfl);have Xl:=@run_callFunc_extern prog 126 _ (ReflectliteType.abiMethod λt=>do pure (.int .u8 (← Rtype.kind t))) func126 (by kernel_rfl) (by kernel_rfl) (by kernel_rfl) (by kernel_rfl);have Xm:=@run_callFunc_extern prog 266 _ (ReflectliteType.method ReflectliteType.elem) func266 (by kernel_rfl) (by kernel_rfl) (by kernel_rfl) (by kernel_rfl);have Xn:=@run_callFunc_extern prog 267 _ (ReflectliteType.relation "Implements" ReflectliteType.implements_) func267 (by kernel_rfl) (by kernel_rfl) (by kernel_rfl) (by kernel_rfl);have VR:=@run_callFunc_extern prog 85 _ ReflectliteType.typeOf func85 (by kernel_rfl) (by kernel_rfl) (by kernel_rfl) (by kernel_rfl);have Xo:=@run_callFunc_extern prog 264 _ (ReflectliteType.relation "AssignableTo" ReflectliteType.assignableTo) func264 (by kernel_rfl) (by kernel_rfl) (by kernel_rfl) (by kernel_rfl);have Xp:=@run_callFunc_extern prog 110 _ (ReflectliteValue.method (ReflectliteValue.valueError "reflectlite.Value.Elem" 0) ReflectliteValue.elem) func110 (by kernel_rfl) (by kernel_rfl) (by kernel_rfl) (by kernel_rfl);have Xq:=@run_callFunc_extern prog 111 _ ReflectliteValue.set func111 (by kernel_rfl) (by kernel_rfl) (by kernel_rfl) (by kernel_rfl);have tO:=Er.Ki;have mA:=Er.rP;have a25:=Er.AX;have v25:=Er.Hb;have f6:=Er.Fj;have f7:=Er.N0;have mK:=Er.Dm;have mE:=Er.Dp;have mI:=Er.tV;have Xr:=Er.N4;have Xs:=Er.Qi;have Xt:=Er.N6;have i25:=Er.AV;have n8:=Er.Kh ⟨w.heap.size,0,none⟩ t ((w.alloc (.cells #[.pointer (some t)] 101)).alloc (.cells #[.pointer (some ⟨2,101,none⟩),.pointer (some ⟨w.heap.size,0,none⟩),.int .u64 150] 154)) (by simp);have aQ:1 < w.heap.size:=Laid.lt hg
 have dn:((w.alloc (.cells #[.pointer (some t)] 101)).alloc (.cells #[.pointer (some ⟨2,101,none⟩),.pointer (some ⟨w.heap.size,0,none⟩),.int .u64 150] 154)).cell? ⟨1,0,none⟩=some (.iface 203 (.agg #[.pointer (some ⟨2,27,none⟩)])):=by
  rw[World.cell?_alloc_lt _ _ ⟨1,0,none⟩ (by first|(simp;done)|(simp;omega)),World.cell?_alloc_lt _ _ ⟨1,0,none⟩ aQ];exact hg
 have Ns:t.block < w.heap.size:=by
  rcases Nat.lt_or_ge t.block w.heap.size with h|h
  . exact h
  . simp[World.cell?,Array.getElem?_eq_none h] at Sz
 have el:=Er.Kj ⟨w.heap.size,0,none⟩ t (((w.alloc (.cells #[.pointer (some t)] 101)).alloc (.cells #[.pointer (some ⟨2,101,none⟩),.pointer (some ⟨w.heap.size,0,none⟩),.int .u64 150] 154)).alloc (.cells #[.pointer (some ⟨2,101,none⟩),.pointer (some ⟨w.heap.size,0,none⟩),.int .u64 150] 154)) (by rw[World.cell?_alloc_lt _ _ ⟨w.heap.size,0,none⟩ (by simp;omega)];simp)
 have st:=Er.gd t ⟨w.heap.size+1+1+1,0,none⟩ e old ((((w.alloc (.cells #[.pointer (some t)] 101)).alloc (.cells #[.pointer (some ⟨2,101,none⟩),.pointer (some ⟨w.heap.size,0,none⟩),.int .u64 150] 154)).alloc (.cells #[.pointer (some ⟨2,101,none⟩),.pointer (some ⟨w.heap.size,0,none⟩),.int .u64 150] 154)).alloc (.cells #[.pointer (some e)] 85))
  (by rw[World.cell?_alloc_at _ _ _ _ (by simp)];rfl)
  (by rw[World.cell?_alloc_lt _ _ t (by simp;omega),World.cell?_alloc_lt _ _ t (by simp;omega),World.cell?_alloc_lt _ _ t (by simp;omega),World.cell?_alloc_lt _ _ t Ns];exact Sz)
  (by rw[World.frozen?_alloc_old _ _ t (by simp;omega),World.frozen?_alloc_old _ _ t (by simp;omega),World.frozen?_alloc_old _ _ t (by simp;omega),World.frozen?_alloc_old _ _ t (Nat.ne_of_lt Ns)];exact VQ)
 go_enter func49,ntmps49;go_wp2
 refine wp_loop_rounds 1 ?_;rw[rounds_succ];go_wp2
 go_ret;exact⟨rfl,rfl⟩
namespace Er
theorem Km(v:Value)(w:zw):(ReflectliteType.typeOf #[.iface 86 v]).run prog w= .ok (.iface 203 (.agg #[.pointer (some ⟨2,86,none⟩)])) w:=by kernel_rfl
theorem oB:∃F:Array Value->Sem Value,find f265=some F/\∀w:zw,(F #[.agg #[.pointer (some ⟨2,86,none⟩)]]).run prog w= .ok (.bool true) w:=
 ⟨(find f265).getD (λ_=>stuck "" ),by kernel_rfl,λ_=>by kernel_rfl⟩
theorem Qj(v:Value)(xT:TypeId)(w:zw):(Instr.typeAssert (.iface 85 v) xT 215 true).run prog w= .ok (.tuple #[.nilIface,.bool false]) w:=run_typeAssert_lacksB underlying215 (by kernel_rfl) (by kernel_rfl) v xT w
theorem Dq(v:Value)(xT:TypeId)(w:zw):(Instr.typeAssert (.iface 85 v) xT 210 true).run prog w= .ok (.tuple #[.iface 85 v,.bool true]) w:=run_typeAssert_hasB underlying210 (by kernel_rfl) v xT w
theorem xK(v:Value)(w:zw):(Go.method 415 85 v "Unwrap" ).run prog w= .ok (131,v) w:=by kernel_rfl
theorem T8(a b:Int)(w:zw):(binOp .eql 27 (.iface 86 (.int .i64 a)) (.iface 86 (.int .i64 b))).run prog w= .ok (.bool (a==b)) w:=
 Lib.run_eql_iface_int w a b underlying27 (by kernel_rfl) underlying86
theorem Qk(v u:Value)(w:zw):(binOp .eql 27 (.iface 85 v) (.iface 86 u)).run prog w= .ok (.bool false) w:=
 run_eql_iface_types 85 86 v u underlying27 (by decide) w
end Er
end
section
open Go.RowKit Go.Extern.Stop Go.Stop Go.Extern
theorem Kn(g:Nat)(n:Int)(w:zw)(h:w.cell? ⟨g,2,none⟩=some (.iface 86 (.int .i64 n))):
 Calls prog 50 #[.iface 85 (.pointer (some ⟨g,0,none⟩)),.iface 86 (.int .i64 n)] w λe w'=>e= .returned (.bool true)/\w=w':=by
 have Xu:=@run_callFunc_extern prog 85 _ ReflectliteType.typeOf func85 (by kernel_rfl) (by kernel_rfl) (by kernel_rfl) (by kernel_rfl);obtain⟨F,hF,cT⟩:=Er.oB;have WE:=@run_callFunc_extern prog 265 _ F func265 (by kernel_rfl) (by kernel_rfl) (by kernel_rfl) hF;clear hF;have tT:=Er.Km;have mC:=Er.tW;have nP:=Er.Qj;have uP:=Er.Dq;have mU:=Er.xK;have q1:∀w:zw,(binOp .eql 27 (.iface 86 (.int .i64 n)) (.iface 86 (.int .i64 n))).run prog w= .ok (.bool true) w:=λw=>by rw[Er.T8 n n w,beq_self_eq_true]
 have q2:=Er.Qk;go_enter func50,ntmps50;go_wp2
 refine wp_loop_rounds 2 ?_;rw[rounds_succ];go_wp2
 rw[rounds_succ];go_wp2
 go_ret;exact⟨rfl,rfl⟩
theorem vf(s t:zy)(w:zw):
 Calls prog 15 #[.nilIface,.string s,.string t,.int .i64 0] w λe w'=>e= .returned (.bool true)/\w=w':=by
 go_enter func15,ntmps15;go_wp2
 go_ret;exact⟨rfl,rfl⟩
theorem Dr(g:Nat)(s k:zy)(n:Int)(hn:n≠0)(w:zw)(hl:Laid w)(hg:g < w.heap.size)(h0:w.cell? ⟨g,0,none⟩=some (.string s))(h1:w.cell? ⟨g,1,none⟩=some (.string k))(h2:w.cell? ⟨g,2,none⟩=some (.iface 86 (.int .i64 n))):
 Calls prog 15 #[.iface 85 (.pointer (some ⟨g,0,none⟩)),.string s,.string k,.int .i64 n] w (λe w'=>e= .returned (.bool true)/\Below w.heap.size w w'):=by
 have cU:Below w.heap.size w (w.alloc (.cells #[.pointer none] 85)):=(zo _ _).alloc (zg _) _;have oa:Laid (w.alloc (.cells #[.pointer none] 85)):=hl.below cU (zg _);go_enter func15,ntmps15;go_wp2_with fail
 refine(N8 ⟨g,0,none⟩ ⟨w.heap.size,0,none⟩ (.pointer none) _ oa (by simp) (by simp)).mono ?_;rintro e w' ⟨rfl,hw⟩
 have hb:Below w.heap.size w w':=by
  rw[hw];exact(((((cU.alloc (by simp) _).alloc (by simp;omega) _).alloc (by simp;omega) _).alloc (by simp;omega) _)).setCell (by simp) _
 have hf:w'.cell? ⟨w.heap.size,0,none⟩=some (.pointer (some ⟨g,0,none⟩)):=by
  rw[hw];refine World.cell?_setCell_same' _ _ _ ?_;rw[World.cell?_alloc_lt _ _ ⟨w.heap.size,0,none⟩ (by simp;omega),World.cell?_alloc_lt _ _ ⟨w.heap.size,0,none⟩ (by simp;omega),World.cell?_alloc_lt _ _ ⟨w.heap.size,0,none⟩ (by simp;omega),World.cell?_alloc_lt _ _ ⟨w.heap.size,0,none⟩ (by simp),World.cell?_alloc_new];rfl
 have k0:w'.cell? ⟨g,0,none⟩=some (.string s):=by rw[hb.cell (p:=⟨g,0,none⟩) hg];exact h0
 have k1:w'.cell? ⟨g,1,none⟩=some (.string k):=by rw[hb.cell (p:=⟨g,1,none⟩) hg];exact h1
 have k2:w'.cell? ⟨g,2,none⟩=some (.iface 86 (.int .i64 n)):=by rw[hb.cell (p:=⟨g,2,none⟩) hg];exact h2
 clear hw h0 h1 h2 oa cU;have HB:=J hb;clear hb;go_wp2_with(go_at_call 50;refine(Kn g n _ k2).mono ?_;rintro e Uj ⟨rfl,rfl⟩)
 go_ret;exact⟨rfl,HB.out⟩
end
section
open Go.ChangeShapes Go.WideShapes Go.ChangeAt Go.RowKit
theorem own:ownKnob prog.godebug=none:=by kernel_rfl
theorem VS:prog.globalNamed "errors.errorType" =some 1:=by kernel_rfl
theorem VT:(prog.cutTypes.find? (·.1== "internal/reflectlite.rtype" )).map (·.2)=some 203:=by kernel_rfl
theorem N9:((List.range 315).filter λt=>prog.rowNamed t [101,114,114,111,114])= [27]:=by kernel_rfl
theorem Ob:prog.types.size=315:=by kernel_rfl
theorem VU:prog.globalNamed "cachewise/policy.names" =some 0:=by kernel_rfl
theorem VW:(prog.globals[0]?).map (·.type)=some 142:=by kernel_rfl
theorem Ko:prog.cellsOf 9=1:=by kernel_rfl
def nameOf:Nat->zy
 |0=>⟨#[76,82,85]⟩
 |1=>⟨#[76,70,85]⟩
 |2=>⟨#[67,82,45,76,70,85]⟩
 |3=>⟨#[83,82,45,76,82,85]⟩
 |4=>⟨#[65,82,67]⟩
 |5=>⟨#[76,101,67,97,82]⟩
 |_=>⟨#[67,65,67,72,69,85,83]⟩
def jw(w:zw):Prop:=∀k,k < 7->w.cell? ⟨0,k,none⟩=some (.string (nameOf k))
theorem jw.lt{w:zw}(h:jw w):0 < w.heap.size:=World.block_lt_of_cell? w _ (h 0 (by omega))
theorem jw.below{w w':zw}{B:Nat}(h:jw w)(hb:Below B w w')(hB:w.heap.size<=B):jw w':=λk hk=>by
 rw[hb.cell (p:=⟨0,k,none⟩) (xd h.lt hB)];exact h k hk
def nQ:List (String × DataW Unit):=[( "errors.errorType" ,Rows.laid_errors_errorType),( "cachewise/policy.names" ,Rows.laid_cachewise_policy_names)]
def Au:List (DataW Unit):=[.lit (.string [76,82,85]),.lit (.string [76,70,85]),.lit (.string [67,82,45,76,70,85]),.lit (.string [83,82,45,76,82,85]),.lit (.string [65,82,67]),.lit (.string [76,101,67,97,82]),.lit (.string [67,65,67,72,69,85,83])]
theorem Ds:∀k,k < 7->Au[k]?=some (.lit (.string (nameOf k).data.toList)):=by
 intro k hk;rcases k with _|_|_|_|_|_|_|k
 . rfl
 . rfl
 . rfl
 . rfl
 . rfl
 . rfl
 . rfl
 . omega
theorem Kq{W:zw}(h:laidMetH prog nQ W):Laid W/\jw W:=by
 have h':laidMet prog [( "cachewise/policy.names" ,Rows.laid_cachewise_policy_names)] W/\handlesMet prog [( "errors.errorType" ,Rows.laid_errors_errorType)] W:=h;refine⟨?_,?_⟩
 . obtain⟨name,u,ty,e1,e2,e3,e4,e5⟩:=h'.2 _ (List.mem_singleton.2 rfl);have en:name= [101,114,114,111,114]:=(Option.some.inj e1).symm;subst en;obtain rfl:=Option.some.inj (VT.symm.trans e2);have hm:ty∈(List.range 315).filter λt=>prog.rowNamed t [101,114,114,111,114]:=List.mem_filter.2 ⟨List.mem_range.2 (by rw[← Ob];exact e3),e4⟩;rw[N9] at hm;obtain rfl:=List.mem_singleton.1 hm;have hh:typeHandle prog 27= .pointer (some ⟨2,27,none⟩):=by kernel_rfl
   rw[hh] at e5;show W.cell? _=_;simpa using World.var?_cell VS e5 0
 . obtain⟨ps,⟨g,t,cs,f,p,q,hg,ht,hv,hd,_,_⟩,_,_⟩:=h'.1;obtain rfl:=Option.some.inj (VU.symm.trans hg);obtain rfl:=Option.some.inj (VW.symm.trans ht);obtain⟨xs,m,rfl,hx,hlen,hn,VX⟩:=DataW.trod_array underlying142 hd
   have kc:xs.map (·.1)=Au:=by
    have:=(Prod.mk.inj hx).1;exact(DataW.agg.inj (show DataW.agg Au=DataW.agg (xs.map (·.1)) from this)).symm
   intro k hk;have he:=VX k hk;rw[Ko,Nat.mul_one] at he;have SA:k < xs.length:=by rw[hn];exact hk
   rw[zm SA] at he;obtain⟨s,e1,e2,_⟩:=DataW.trod_string underlying9 he
   have h1:(xs.map (·.1))[k]?=some (.lit (.string s.data.toList)):=by
    rw[xj,zm SA,e2];rfl
   rw[kc,Ds k hk] at h1;have h2:(nameOf k).data.toList=s.data.toList:=Lit.string.inj (DataW.lit.inj (Option.some.inj h1))
   have h3:s=nameOf k:=by
    generalize nameOf k=y at h2;obtain⟨⟨a⟩⟩:=s;obtain⟨⟨b⟩⟩:=y;have h4:b=a:=h2;rw[h4]
   have h5:cs[k]?=some (.string s):=by
    have:(cs.toList.drop k).take 1= [.string s]:=e1;have h6:((cs.toList.drop k).take 1)[0]?=some (.string s):=by rw[this];rfl
    rw[List.getElem?_take_of_lt (by omega),List.getElem?_drop] at h6;simpa using h6
   have h7:=World.var?_cell hg hv k;rw[h3] at h5;simpa[h5] using h7
def Ql:Obj->Obj
 | .cells _ t frozen=> .cells #[.iface 203 (.agg #[.pointer (some ⟨2,27,none⟩)])] t frozen
 |o=>o
def Qm:Obj->Obj
 | .cells _ t frozen=> .cells #[.string ⟨#[76,82,85]⟩,.string ⟨#[76,70,85]⟩,.string ⟨#[67,82,45,76,70,85]⟩,.string ⟨#[83,82,45,76,82,85]⟩,.string ⟨#[65,82,67]⟩,.string ⟨#[76,101,67,97,82]⟩,.string ⟨#[67,65,67,72,69,85,83]⟩] t frozen
 |o=>o
noncomputable def xE (os:Os):zw:=
 {World.holding prog os ⟨#[],#[],[]⟩ with heap:=((World.holding prog os ⟨#[],#[],[]⟩).heap.modify 1 Ql).modify 0 Qm}
theorem xL(os:Os)(args:Array Value):laidMetH prog nQ ((xE os).forCall (λ_ _=>0) ⟨#[],args,[]⟩).memory:=
 laidMetH_of_parts (laidMet_of_run' 8 (by kernel_rfl) (by kernel_rfl)) (by kernel_rfl)
