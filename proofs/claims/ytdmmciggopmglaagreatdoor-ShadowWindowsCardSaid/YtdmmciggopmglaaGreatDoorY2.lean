/- Liftc Pm Pc Pq Pp Pr Ps, in one text. -/
import Derived.Test.YtdmmciggopmglaaGreatDoorRows
import Derived.Test.YtdmmciggopmglaaGreatDoorErrc
import Derived.ChangeSame
import Derived.ChangeVars
import Derived.JoinedOf
import Derived.RowKit
import Derived.ProofKit
import Derived.OpenShut
import Derived.RowKitTokens
import Derived.LaidLaws
import Derived.LaidHandle
import Derived.LaidSub
import Derived.Stop.Joined
import Derived.Test.YtdmmciggopmglaaGreatDoorY1
namespace Go.Proofs.YtdmmciggopmglaaGreatDoor
open Go.ChangeShapes Go.WideShapes Go.ChangeAt Go.RowKit
theorem own:ownKnob Tryz.prog.godebug=none:=by kernel_rfl
theorem gEt:Tryz.prog.globalNamed "errors.errorType" =some 1:=by kernel_rfl
theorem gRt:(Tryz.prog.cutTypes.find? (·.1== "internal/reflectlite.rtype" )).map (·.2)=some 134:=by kernel_rfl
theorem oneRow:((List.range 289).filter λt=>Tryz.prog.rowNamed t [101,114,114,111,114])= [28]:=by kernel_rfl
theorem nTypes:Tryz.prog.types.size=289:=by kernel_rfl
theorem gNm:Tryz.prog.globalNamed "cachewise/policy.names" =some 0:=by kernel_rfl
theorem tNm:(Tryz.prog.globals[0]?).map (·.type)=some 92:=by kernel_rfl
theorem cellsNm:Tryz.prog.cellsOf 9=1:=by kernel_rfl
def nameOf:Nat->ByteArray
 |0=>⟨#[76,82,85]⟩
 |1=>⟨#[76,70,85]⟩
 |2=>⟨#[67,82,45,76,70,85]⟩
 |3=>⟨#[83,82,45,76,82,85]⟩
 |4=>⟨#[65,82,67]⟩
 |5=>⟨#[76,101,67,97,82]⟩
 |_=>⟨#[67,65,67,72,69,85,83]⟩
def Named(w:World):Prop:=∀k,k < 7->w.cell? ⟨0,k,none⟩=some (.string (nameOf k))
def seatLaid:List (String × DataW Unit):=[( "errors.errorType" ,Rows.laid_errors_errorType),( "cachewise/policy.names" ,Rows.laid_cachewise_policy_names)]
def namesD:List (DataW Unit):=[.lit (.string [76,82,85]),.lit (.string [76,70,85]),.lit (.string [67,82,45,76,70,85]),.lit (.string [83,82,45,76,82,85]),.lit (.string [65,82,67]),.lit (.string [76,101,67,97,82]),.lit (.string [67,65,67,72,69,85,83])]
theorem namesD_get:∀k,k < 7->namesD[k]?=some (.lit (.string (nameOf k).data.toList)):=by
 intro k hk;rcases k with _|_|_|_|_|_|_|k
 . rfl
 . rfl
 . rfl
 . rfl
 . rfl
 . rfl
 . rfl
 . omega
theorem laid_of{W:World}(h:laidMetH Tryz.prog seatLaid W):Laid W/\Named W:=by
 have h':laidMet Tryz.prog [( "cachewise/policy.names" ,Rows.laid_cachewise_policy_names)] W/\handlesMet Tryz.prog [( "errors.errorType" ,Rows.laid_errors_errorType)] W:=h;refine⟨?_,?_⟩
 . obtain⟨name,u,ty,e1,e2,e3,e4,e5⟩:=h'.2 _ (List.mem_singleton.2 rfl);have en:name= [101,114,114,111,114]:=(Option.some.inj e1).symm;subst en;obtain rfl:=Option.some.inj (gRt.symm.trans e2);have hm:ty∈(List.range 289).filter λt=>Tryz.prog.rowNamed t [101,114,114,111,114]:=List.mem_filter.2 ⟨List.mem_range.2 (by rw[← nTypes];exact e3),e4⟩;rw[oneRow] at hm;obtain rfl:=List.mem_singleton.1 hm;have hh:typeHandle Tryz.prog 28= .pointer (some ⟨4,28,none⟩):=by kernel_rfl
   rw[hh] at e5;show W.cell? _=_;simpa using World.var?_cell gEt e5 0
 . obtain⟨ps,⟨g,t,cs,f,p,q,hg,ht,hv,hd,_,_⟩,_,_⟩:=h'.1;obtain rfl:=Option.some.inj (gNm.symm.trans hg);obtain rfl:=Option.some.inj (tNm.symm.trans ht);obtain⟨xs,m,rfl,hx,hlen,hn,hel⟩:=DataW.trod_array Tryz.underlying92 hd
   have hx1:xs.map (·.1)=namesD:=by
    have:=(Prod.mk.inj hx).1;exact(DataW.agg.inj (show DataW.agg namesD=DataW.agg (xs.map (·.1)) from this)).symm
   intro k hk;have he:=hel k hk;rw[cellsNm,Nat.mul_one] at he;have hk':k < xs.length:=by rw[hn];exact hk
   rw[List.getElem?_eq_getElem hk'] at he;obtain⟨s,e1,e2,_⟩:=DataW.trod_string Tryz.underlying9 he
   have h1:(xs.map (·.1))[k]?=some (.lit (.string s.data.toList)):=by
    rw[List.getElem?_map,List.getElem?_eq_getElem hk',e2];rfl
   rw[hx1,namesD_get k hk] at h1;have h2:(nameOf k).data.toList=s.data.toList:=Lit.string.inj (DataW.lit.inj (Option.some.inj h1))
   have h3:s=nameOf k:=by
    generalize nameOf k=y at h2;obtain⟨⟨a⟩⟩:=s;obtain⟨⟨b⟩⟩:=y;have h4:b=a:=h2;rw[h4]
   have h5:cs[k]?=some (.string s):=by
    have:(cs.toList.drop k).take 1= [.string s]:=e1;have h6:((cs.toList.drop k).take 1)[0]?=some (.string s):=by rw[this];rfl
    rw[List.getElem?_take_of_lt (by omega),List.getElem?_drop] at h6;simpa using h6
   have h7:=World.var?_cell hg hv k;rw[h3] at h5;simpa[h5] using h7
def layEt:Obj->Obj
 | .cells _ t frozen=> .cells #[.iface 134 (.agg #[.pointer (some ⟨4,28,none⟩)])] t frozen
 |o=>o
def layNm:Obj->Obj
 | .cells _ t frozen=> .cells #[.string ⟨#[76,82,85]⟩,.string ⟨#[76,70,85]⟩,.string ⟨#[67,82,45,76,70,85]⟩,.string ⟨#[83,82,45,76,82,85]⟩,.string ⟨#[65,82,67]⟩,.string ⟨#[76,101,67,97,82]⟩,.string ⟨#[67,65,67,72,69,85,83]⟩] t frozen
 |o=>o
noncomputable def laidWorld (os:Os):World:=
 {World.holding Tryz.prog os ⟨#[],#[],[]⟩ with heap:=((World.holding Tryz.prog os ⟨#[],#[],[]⟩).heap.modify 1 layEt).modify 0 layNm}
theorem laidWorld_met(os:Os)(args:Array Value):laidMetH Tryz.prog seatLaid ((laidWorld os).forCall (λ_ _=>0) ⟨#[],args,[]⟩).memory:=
 laidMetH_of_parts (laidMet_of_run' 8 (by kernel_rfl) (by kernel_rfl)) (by kernel_rfl)
end Go.Proofs.YtdmmciggopmglaaGreatDoor
namespace Go.Proofs.YtdmmciggopmglaaGreatDoor
open Go.RowKit Sg
def tC:Nat->Nat|0=>153|3=>157|4=>159|_=>155
def cI(kind c:Nat):Value:= .iface (tC kind) (.pointer (some ⟨c,0,none⟩))
def mV(kind c:Nat)(n:String):Value:= .func (.method n) #[cI kind c] #[]
theorem run_enter9{P:Program}{f:FuncId}{fn:Func}{c:Code}(hf:P.funcs[f]?=some fn)(hname:(fn.name== "runtime.NumGoroutine" )=false)(hb:fn.body=some c)(args:Array Value)(w:World):
 (callFunc f args).run P w= .ok (.enter f args) w:=by
 have h1:fn.name≠ "runtime.NumGoroutine" :=by simpa using hname
 simp[callFunc,hf,h1,hb]
theorem cfHas{k:Nat}(hk:k < 5)(args:Array Value)(w:World):(callFunc (fHas k) args).run Tryz.prog w= .ok (.enter (fHas k) args) w:=by
 rcases k with _|_|_|_|_|k
 . exact run_enter9 Tryz.func195 (by kernel_rfl) rfl args w
 . exact run_enter9 Tryz.func209 (by kernel_rfl) rfl args w
 . exact run_enter9 Tryz.func209 (by kernel_rfl) rfl args w
 . exact run_enter9 Tryz.func261 (by kernel_rfl) rfl args w
 . exact run_enter9 Tryz.func283 (by kernel_rfl) rfl args w
 . omega
theorem meHas{k:Nat}(hk:k < 5)(p:Addr)(w:World):(Go.method 389 (tC k) (.pointer (some p)) "Has" ).run Tryz.prog w= .ok (fHas k,.pointer (some p)) w:=by
 rcases k with _|_|_|_|_|k
 . show(Go.method 389 153 (.pointer (some p)) "Has" ).run Tryz.prog w= .ok (195,.pointer (some p)) w;kernel_rfl
 . show(Go.method 389 155 (.pointer (some p)) "Has" ).run Tryz.prog w= .ok (209,.pointer (some p)) w;kernel_rfl
 . show(Go.method 389 155 (.pointer (some p)) "Has" ).run Tryz.prog w= .ok (209,.pointer (some p)) w;kernel_rfl
 . show(Go.method 389 157 (.pointer (some p)) "Has" ).run Tryz.prog w= .ok (261,.pointer (some p)) w;kernel_rfl
 . show(Go.method 389 159 (.pointer (some p)) "Has" ).run Tryz.prog w= .ok (283,.pointer (some p)) w;kernel_rfl
 . omega
theorem naHas{k:Nat}(hk:k < 5)(p:Addr)(w:World):(Go.nilAhead 389 (tC k) (.pointer (some p)) "Has" ).run Tryz.prog w= .ok (some false) w:=by
 rcases k with _|_|_|_|_|k
 . show(Go.nilAhead 389 153 (.pointer (some p)) "Has" ).run Tryz.prog w= .ok (some false) w;kernel_rfl
 . show(Go.nilAhead 389 155 (.pointer (some p)) "Has" ).run Tryz.prog w= .ok (some false) w;kernel_rfl
 . show(Go.nilAhead 389 155 (.pointer (some p)) "Has" ).run Tryz.prog w= .ok (some false) w;kernel_rfl
 . show(Go.nilAhead 389 157 (.pointer (some p)) "Has" ).run Tryz.prog w= .ok (some false) w;kernel_rfl
 . show(Go.nilAhead 389 159 (.pointer (some p)) "Has" ).run Tryz.prog w= .ok (some false) w;kernel_rfl
 . omega
theorem cfLen{k:Nat}(hk:k < 5)(args:Array Value)(w:World):(callFunc (fLen k) args).run Tryz.prog w= .ok (.enter (fLen k) args) w:=by
 rcases k with _|_|_|_|_|k
 . exact run_enter9 Tryz.func197 (by kernel_rfl) rfl args w
 . exact run_enter9 Tryz.func211 (by kernel_rfl) rfl args w
 . exact run_enter9 Tryz.func211 (by kernel_rfl) rfl args w
 . exact run_enter9 Tryz.func263 (by kernel_rfl) rfl args w
 . exact run_enter9 Tryz.func285 (by kernel_rfl) rfl args w
 . omega
theorem meLen{k:Nat}(hk:k < 5)(p:Addr)(w:World):(Go.method 389 (tC k) (.pointer (some p)) "Len" ).run Tryz.prog w= .ok (fLen k,.pointer (some p)) w:=by
 rcases k with _|_|_|_|_|k
 . show(Go.method 389 153 (.pointer (some p)) "Len" ).run Tryz.prog w= .ok (197,.pointer (some p)) w;kernel_rfl
 . show(Go.method 389 155 (.pointer (some p)) "Len" ).run Tryz.prog w= .ok (211,.pointer (some p)) w;kernel_rfl
 . show(Go.method 389 155 (.pointer (some p)) "Len" ).run Tryz.prog w= .ok (211,.pointer (some p)) w;kernel_rfl
 . show(Go.method 389 157 (.pointer (some p)) "Len" ).run Tryz.prog w= .ok (263,.pointer (some p)) w;kernel_rfl
 . show(Go.method 389 159 (.pointer (some p)) "Len" ).run Tryz.prog w= .ok (285,.pointer (some p)) w;kernel_rfl
 . omega
theorem naLen{k:Nat}(hk:k < 5)(p:Addr)(w:World):(Go.nilAhead 389 (tC k) (.pointer (some p)) "Len" ).run Tryz.prog w= .ok (some false) w:=by
 rcases k with _|_|_|_|_|k
 . show(Go.nilAhead 389 153 (.pointer (some p)) "Len" ).run Tryz.prog w= .ok (some false) w;kernel_rfl
 . show(Go.nilAhead 389 155 (.pointer (some p)) "Len" ).run Tryz.prog w= .ok (some false) w;kernel_rfl
 . show(Go.nilAhead 389 155 (.pointer (some p)) "Len" ).run Tryz.prog w= .ok (some false) w;kernel_rfl
 . show(Go.nilAhead 389 157 (.pointer (some p)) "Len" ).run Tryz.prog w= .ok (some false) w;kernel_rfl
 . show(Go.nilAhead 389 159 (.pointer (some p)) "Len" ).run Tryz.prog w= .ok (some false) w;kernel_rfl
 . omega
theorem cfRequest{k:Nat}(hk:k < 5)(args:Array Value)(w:World):(callFunc (fRequest k) args).run Tryz.prog w= .ok (.enter (fRequest k) args) w:=by
 rcases k with _|_|_|_|_|k
 . exact run_enter9 Tryz.func199 (by kernel_rfl) rfl args w
 . exact run_enter9 Tryz.func213 (by kernel_rfl) rfl args w
 . exact run_enter9 Tryz.func213 (by kernel_rfl) rfl args w
 . exact run_enter9 Tryz.func265 (by kernel_rfl) rfl args w
 . exact run_enter9 Tryz.func287 (by kernel_rfl) rfl args w
 . omega
theorem meRequest{k:Nat}(hk:k < 5)(p:Addr)(w:World):(Go.method 389 (tC k) (.pointer (some p)) "Request" ).run Tryz.prog w= .ok (fRequest k,.pointer (some p)) w:=by
 rcases k with _|_|_|_|_|k
 . show(Go.method 389 153 (.pointer (some p)) "Request" ).run Tryz.prog w= .ok (199,.pointer (some p)) w;kernel_rfl
 . show(Go.method 389 155 (.pointer (some p)) "Request" ).run Tryz.prog w= .ok (213,.pointer (some p)) w;kernel_rfl
 . show(Go.method 389 155 (.pointer (some p)) "Request" ).run Tryz.prog w= .ok (213,.pointer (some p)) w;kernel_rfl
 . show(Go.method 389 157 (.pointer (some p)) "Request" ).run Tryz.prog w= .ok (265,.pointer (some p)) w;kernel_rfl
 . show(Go.method 389 159 (.pointer (some p)) "Request" ).run Tryz.prog w= .ok (287,.pointer (some p)) w;kernel_rfl
 . omega
theorem naRequest{k:Nat}(hk:k < 5)(p:Addr)(w:World):(Go.nilAhead 389 (tC k) (.pointer (some p)) "Request" ).run Tryz.prog w= .ok (some false) w:=by
 rcases k with _|_|_|_|_|k
 . show(Go.nilAhead 389 153 (.pointer (some p)) "Request" ).run Tryz.prog w= .ok (some false) w;kernel_rfl
 . show(Go.nilAhead 389 155 (.pointer (some p)) "Request" ).run Tryz.prog w= .ok (some false) w;kernel_rfl
 . show(Go.nilAhead 389 155 (.pointer (some p)) "Request" ).run Tryz.prog w= .ok (some false) w;kernel_rfl
 . show(Go.nilAhead 389 157 (.pointer (some p)) "Request" ).run Tryz.prog w= .ok (some false) w;kernel_rfl
 . show(Go.nilAhead 389 159 (.pointer (some p)) "Request" ).run Tryz.prog w= .ok (some false) w;kernel_rfl
 . omega
theorem cfRemove{k:Nat}(hk:k < 5)(args:Array Value)(w:World):(callFunc (fRemove k) args).run Tryz.prog w= .ok (.enter (fRemove k) args) w:=by
 rcases k with _|_|_|_|_|k
 . exact run_enter9 Tryz.func198 (by kernel_rfl) rfl args w
 . exact run_enter9 Tryz.func212 (by kernel_rfl) rfl args w
 . exact run_enter9 Tryz.func212 (by kernel_rfl) rfl args w
 . exact run_enter9 Tryz.func264 (by kernel_rfl) rfl args w
 . exact run_enter9 Tryz.func286 (by kernel_rfl) rfl args w
 . omega
theorem meRemove{k:Nat}(hk:k < 5)(p:Addr)(w:World):(Go.method 389 (tC k) (.pointer (some p)) "Remove" ).run Tryz.prog w= .ok (fRemove k,.pointer (some p)) w:=by
 rcases k with _|_|_|_|_|k
 . show(Go.method 389 153 (.pointer (some p)) "Remove" ).run Tryz.prog w= .ok (198,.pointer (some p)) w;kernel_rfl
 . show(Go.method 389 155 (.pointer (some p)) "Remove" ).run Tryz.prog w= .ok (212,.pointer (some p)) w;kernel_rfl
 . show(Go.method 389 155 (.pointer (some p)) "Remove" ).run Tryz.prog w= .ok (212,.pointer (some p)) w;kernel_rfl
 . show(Go.method 389 157 (.pointer (some p)) "Remove" ).run Tryz.prog w= .ok (264,.pointer (some p)) w;kernel_rfl
 . show(Go.method 389 159 (.pointer (some p)) "Remove" ).run Tryz.prog w= .ok (286,.pointer (some p)) w;kernel_rfl
 . omega
theorem naRemove{k:Nat}(hk:k < 5)(p:Addr)(w:World):(Go.nilAhead 389 (tC k) (.pointer (some p)) "Remove" ).run Tryz.prog w= .ok (some false) w:=by
 rcases k with _|_|_|_|_|k
 . show(Go.nilAhead 389 153 (.pointer (some p)) "Remove" ).run Tryz.prog w= .ok (some false) w;kernel_rfl
 . show(Go.nilAhead 389 155 (.pointer (some p)) "Remove" ).run Tryz.prog w= .ok (some false) w;kernel_rfl
 . show(Go.nilAhead 389 155 (.pointer (some p)) "Remove" ).run Tryz.prog w= .ok (some false) w;kernel_rfl
 . show(Go.nilAhead 389 157 (.pointer (some p)) "Remove" ).run Tryz.prog w= .ok (some false) w;kernel_rfl
 . show(Go.nilAhead 389 159 (.pointer (some p)) "Remove" ).run Tryz.prog w= .ok (some false) w;kernel_rfl
 . omega
theorem cfAdopt{k:Nat}(hk:k < 5)(args:Array Value)(w:World):(callFunc (fAdopt k) args).run Tryz.prog w= .ok (.enter (fAdopt k) args) w:=by
 rcases k with _|_|_|_|_|k
 . exact run_enter9 Tryz.func192 (by kernel_rfl) rfl args w
 . exact run_enter9 Tryz.func206 (by kernel_rfl) rfl args w
 . exact run_enter9 Tryz.func206 (by kernel_rfl) rfl args w
 . exact run_enter9 Tryz.func258 (by kernel_rfl) rfl args w
 . exact run_enter9 Tryz.func280 (by kernel_rfl) rfl args w
 . omega
theorem meAdopt{k:Nat}(hk:k < 5)(p:Addr)(w:World):(Go.method 389 (tC k) (.pointer (some p)) "Adopt" ).run Tryz.prog w= .ok (fAdopt k,.pointer (some p)) w:=by
 rcases k with _|_|_|_|_|k
 . show(Go.method 389 153 (.pointer (some p)) "Adopt" ).run Tryz.prog w= .ok (192,.pointer (some p)) w;kernel_rfl
 . show(Go.method 389 155 (.pointer (some p)) "Adopt" ).run Tryz.prog w= .ok (206,.pointer (some p)) w;kernel_rfl
 . show(Go.method 389 155 (.pointer (some p)) "Adopt" ).run Tryz.prog w= .ok (206,.pointer (some p)) w;kernel_rfl
 . show(Go.method 389 157 (.pointer (some p)) "Adopt" ).run Tryz.prog w= .ok (258,.pointer (some p)) w;kernel_rfl
 . show(Go.method 389 159 (.pointer (some p)) "Adopt" ).run Tryz.prog w= .ok (280,.pointer (some p)) w;kernel_rfl
 . omega
theorem naAdopt{k:Nat}(hk:k < 5)(p:Addr)(w:World):(Go.nilAhead 389 (tC k) (.pointer (some p)) "Adopt" ).run Tryz.prog w= .ok (some false) w:=by
 rcases k with _|_|_|_|_|k
 . show(Go.nilAhead 389 153 (.pointer (some p)) "Adopt" ).run Tryz.prog w= .ok (some false) w;kernel_rfl
 . show(Go.nilAhead 389 155 (.pointer (some p)) "Adopt" ).run Tryz.prog w= .ok (some false) w;kernel_rfl
 . show(Go.nilAhead 389 155 (.pointer (some p)) "Adopt" ).run Tryz.prog w= .ok (some false) w;kernel_rfl
 . show(Go.nilAhead 389 157 (.pointer (some p)) "Adopt" ).run Tryz.prog w= .ok (some false) w;kernel_rfl
 . show(Go.nilAhead 389 159 (.pointer (some p)) "Adopt" ).run Tryz.prog w= .ok (some false) w;kernel_rfl
 . omega
theorem cfVictim{k:Nat}(hk:k < 5)(args:Array Value)(w:World):(callFunc (fVictim k) args).run Tryz.prog w= .ok (.enter (fVictim k) args) w:=by
 rcases k with _|_|_|_|_|k
 . exact run_enter9 Tryz.func201 (by kernel_rfl) rfl args w
 . exact run_enter9 Tryz.func215 (by kernel_rfl) rfl args w
 . exact run_enter9 Tryz.func215 (by kernel_rfl) rfl args w
 . exact run_enter9 Tryz.func267 (by kernel_rfl) rfl args w
 . exact run_enter9 Tryz.func289 (by kernel_rfl) rfl args w
 . omega
theorem meVictim{k:Nat}(hk:k < 5)(p:Addr)(w:World):(Go.method 389 (tC k) (.pointer (some p)) "Victim" ).run Tryz.prog w= .ok (fVictim k,.pointer (some p)) w:=by
 rcases k with _|_|_|_|_|k
 . show(Go.method 389 153 (.pointer (some p)) "Victim" ).run Tryz.prog w= .ok (201,.pointer (some p)) w;kernel_rfl
 . show(Go.method 389 155 (.pointer (some p)) "Victim" ).run Tryz.prog w= .ok (215,.pointer (some p)) w;kernel_rfl
 . show(Go.method 389 155 (.pointer (some p)) "Victim" ).run Tryz.prog w= .ok (215,.pointer (some p)) w;kernel_rfl
 . show(Go.method 389 157 (.pointer (some p)) "Victim" ).run Tryz.prog w= .ok (267,.pointer (some p)) w;kernel_rfl
 . show(Go.method 389 159 (.pointer (some p)) "Victim" ).run Tryz.prog w= .ok (289,.pointer (some p)) w;kernel_rfl
 . omega
theorem naVictim{k:Nat}(hk:k < 5)(p:Addr)(w:World):(Go.nilAhead 389 (tC k) (.pointer (some p)) "Victim" ).run Tryz.prog w= .ok (some false) w:=by
 rcases k with _|_|_|_|_|k
 . show(Go.nilAhead 389 153 (.pointer (some p)) "Victim" ).run Tryz.prog w= .ok (some false) w;kernel_rfl
 . show(Go.nilAhead 389 155 (.pointer (some p)) "Victim" ).run Tryz.prog w= .ok (some false) w;kernel_rfl
 . show(Go.nilAhead 389 155 (.pointer (some p)) "Victim" ).run Tryz.prog w= .ok (some false) w;kernel_rfl
 . show(Go.nilAhead 389 157 (.pointer (some p)) "Victim" ).run Tryz.prog w= .ok (some false) w;kernel_rfl
 . show(Go.nilAhead 389 159 (.pointer (some p)) "Victim" ).run Tryz.prog w= .ok (some false) w;kernel_rfl
 . omega
theorem cfResize{k:Nat}(hk:k < 5)(args:Array Value)(w:World):(callFunc (fResize k) args).run Tryz.prog w= .ok (.enter (fResize k) args) w:=by
 rcases k with _|_|_|_|_|k
 . exact run_enter9 Tryz.func200 (by kernel_rfl) rfl args w
 . exact run_enter9 Tryz.func214 (by kernel_rfl) rfl args w
 . exact run_enter9 Tryz.func214 (by kernel_rfl) rfl args w
 . exact run_enter9 Tryz.func266 (by kernel_rfl) rfl args w
 . exact run_enter9 Tryz.func288 (by kernel_rfl) rfl args w
 . omega
theorem meResize{k:Nat}(hk:k < 5)(p:Addr)(w:World):(Go.method 389 (tC k) (.pointer (some p)) "Resize" ).run Tryz.prog w= .ok (fResize k,.pointer (some p)) w:=by
 rcases k with _|_|_|_|_|k
 . show(Go.method 389 153 (.pointer (some p)) "Resize" ).run Tryz.prog w= .ok (200,.pointer (some p)) w;kernel_rfl
 . show(Go.method 389 155 (.pointer (some p)) "Resize" ).run Tryz.prog w= .ok (214,.pointer (some p)) w;kernel_rfl
 . show(Go.method 389 155 (.pointer (some p)) "Resize" ).run Tryz.prog w= .ok (214,.pointer (some p)) w;kernel_rfl
 . show(Go.method 389 157 (.pointer (some p)) "Resize" ).run Tryz.prog w= .ok (266,.pointer (some p)) w;kernel_rfl
 . show(Go.method 389 159 (.pointer (some p)) "Resize" ).run Tryz.prog w= .ok (288,.pointer (some p)) w;kernel_rfl
 . omega
theorem naResize{k:Nat}(hk:k < 5)(p:Addr)(w:World):(Go.nilAhead 389 (tC k) (.pointer (some p)) "Resize" ).run Tryz.prog w= .ok (some false) w:=by
 rcases k with _|_|_|_|_|k
 . show(Go.nilAhead 389 153 (.pointer (some p)) "Resize" ).run Tryz.prog w= .ok (some false) w;kernel_rfl
 . show(Go.nilAhead 389 155 (.pointer (some p)) "Resize" ).run Tryz.prog w= .ok (some false) w;kernel_rfl
 . show(Go.nilAhead 389 155 (.pointer (some p)) "Resize" ).run Tryz.prog w= .ok (some false) w;kernel_rfl
 . show(Go.nilAhead 389 157 (.pointer (some p)) "Resize" ).run Tryz.prog w= .ok (some false) w;kernel_rfl
 . show(Go.nilAhead 389 159 (.pointer (some p)) "Resize" ).run Tryz.prog w= .ok (some false) w;kernel_rfl
 . omega
theorem cfKeys{k:Nat}(hk:k < 5)(args:Array Value)(w:World):(callFunc (fKeys k) args).run Tryz.prog w= .ok (.enter (fKeys k) args) w:=by
 rcases k with _|_|_|_|_|k
 . exact run_enter9 Tryz.func196 (by kernel_rfl) rfl args w
 . exact run_enter9 Tryz.func210 (by kernel_rfl) rfl args w
 . exact run_enter9 Tryz.func210 (by kernel_rfl) rfl args w
 . exact run_enter9 Tryz.func262 (by kernel_rfl) rfl args w
 . exact run_enter9 Tryz.func284 (by kernel_rfl) rfl args w
 . omega
theorem meKeys{k:Nat}(hk:k < 5)(p:Addr)(w:World):(Go.method 389 (tC k) (.pointer (some p)) "Keys" ).run Tryz.prog w= .ok (fKeys k,.pointer (some p)) w:=by
 rcases k with _|_|_|_|_|k
 . show(Go.method 389 153 (.pointer (some p)) "Keys" ).run Tryz.prog w= .ok (196,.pointer (some p)) w;kernel_rfl
 . show(Go.method 389 155 (.pointer (some p)) "Keys" ).run Tryz.prog w= .ok (210,.pointer (some p)) w;kernel_rfl
 . show(Go.method 389 155 (.pointer (some p)) "Keys" ).run Tryz.prog w= .ok (210,.pointer (some p)) w;kernel_rfl
 . show(Go.method 389 157 (.pointer (some p)) "Keys" ).run Tryz.prog w= .ok (262,.pointer (some p)) w;kernel_rfl
 . show(Go.method 389 159 (.pointer (some p)) "Keys" ).run Tryz.prog w= .ok (284,.pointer (some p)) w;kernel_rfl
 . omega
theorem naKeys{k:Nat}(hk:k < 5)(p:Addr)(w:World):(Go.nilAhead 389 (tC k) (.pointer (some p)) "Keys" ).run Tryz.prog w= .ok (some false) w:=by
 rcases k with _|_|_|_|_|k
 . show(Go.nilAhead 389 153 (.pointer (some p)) "Keys" ).run Tryz.prog w= .ok (some false) w;kernel_rfl
 . show(Go.nilAhead 389 155 (.pointer (some p)) "Keys" ).run Tryz.prog w= .ok (some false) w;kernel_rfl
 . show(Go.nilAhead 389 155 (.pointer (some p)) "Keys" ).run Tryz.prog w= .ok (some false) w;kernel_rfl
 . show(Go.nilAhead 389 157 (.pointer (some p)) "Keys" ).run Tryz.prog w= .ok (some false) w;kernel_rfl
 . show(Go.nilAhead 389 159 (.pointer (some p)) "Keys" ).run Tryz.prog w= .ok (some false) w;kernel_rfl
 . omega
end Go.Proofs.YtdmmciggopmglaaGreatDoor
namespace Go.Proofs.YtdmmciggopmglaaGreatDoor
open Go.RowKit Sg
def pcells(kind mo c:Nat):Array Value:=#[.int .i64 (kind:Int),.int .i64 (mo:Int),mV kind c "Has" ,mV kind c "Len" ,mV kind c "Request" ,mV kind c "Remove" ,mV kind c "Adopt" ,mV kind c "Victim" ,mV kind c "Drop" ,mV kind c "Resize" ,mV kind c "Keys" ,mV kind c "Ghosts" ]
def Pc(w:World)(p:Nat)(U:Nat->Prop)(st:KSt)(b:Nat):Prop:=
 ∃c T,U=(λk=>k=p\/T k)/\KCa w c T st b/\¬T p/\w.heap[p]?=some (.cells (pcells st.kind st.mo c) 131 (0,0))
def PPost(v:Value)(w:World)(p:Nat)(U:Nat->Prop)(st:KSt)(b:Nat)(e:Ending)(w':World):Prop:=e= .returned v/\∃U',Pc w' p U' st b/\Went w w' U U'
section
variable{w w':World}{p c b b':Nat}{T U U':Nat->Prop}{st st':KSt}{v:Value}{e:Ending}
theorem heap_lt{o:Obj}(h:w.heap[p]?=some o):p < w.heap.size:=(Array.getElem?_eq_some_iff.1 h).1
theorem Pc.lt(h:Pc w p U st b){k:Nat}(hk:U k):k < w.heap.size:=by
 obtain⟨c,T,rfl,hc,hn,hb⟩:=h;rcases hk with rfl|hk
 . exact heap_lt hb
 . exact hc.lt hk
theorem Pc.below(h:Pc w p U st b)(hb:Below w.heap.size w w'):Pc w' p U st b:=by
 obtain⟨c,T,rfl,hc,hn,hx⟩:=h;exact⟨c,T,rfl,hc.below hb,hn,(hb.block p (heap_lt hx)).trans hx⟩
theorem Pc.mono(h:Pc w p U st b)(hb:b<=b'):Pc w p U st b':=by
 obtain⟨c,T,rfl,hc,hn,hx⟩:=h;exact⟨c,T,rfl,hc.mono hb,hn,hx⟩
theorem Pc.ok(h:Pc w p U st b):st.Ok:=by obtain⟨c,T,rfl,hc,_⟩:=h;exact hc.ok
theorem Pc.small(h:Pc w p U st b):∀x∈st.keys,x.size<=maxLen:=by obtain⟨c,T,rfl,hc,_⟩:=h;exact hc.small
theorem KPost.pol(h:KPost v w c T st' b' e w')(hx:w.heap[p]?=some (.cells (pcells st.kind st.mo c) 131 (0,0)))(hn:¬T p)(hk:st'.kind=st.kind)(hm:st'.mo=st.mo):
 PPost v w p (λk=>k=p\/T k) st' b' e w':=by
 obtain⟨he,T',hc,hW⟩:=h;have hl:=heap_lt hx;refine⟨he,λk=>k=p\/T' k,⟨c,T',rfl,hc,λht=>?_,?_⟩,λk hk=>?_,?_⟩
 . rcases hW.new p ht with h|h
   . exact hn h
   . omega
 . rw[hk,hm];exact(hW.turn.block p hl hn).trans hx
 . rcases hk with rfl|hk
   . exact Or.inl (Or.inl rfl)
   . exact(hW.new k hk).imp Or.inr id
 . have t:=hW.turn;exact⟨t.os,t.tape,t.output,t.size,λk hk hu=>t.block k hk λht=>hu (Or.inr ht)⟩
theorem Pc.beside(h:Pc w p U st b){X:Nat->Prop}(ht:Turn X w w')(hx:∀k,U k->¬X k):Pc w' p U st b:=by
 obtain⟨c,T,rfl,hc,hn,hb⟩:=h;refine⟨c,T,rfl,?_,hn,(ht.block p (heap_lt hb) (hx p (Or.inl rfl))).trans hb⟩;have hd:∀k,T k->¬X k:=λk hk=>hx k (Or.inr hk);cases st with
 |lr mo ks=>exact LR.Ca.kept hc ht hd
 |lf ch mo n L=>exact⟨LF.Ca.kept hc.1 ⟨ht.os,ht.tape,ht.output,ht.size,ht.block⟩ hd,hc.2⟩
 |sr s=>exact SR.Ca.beside hc ht hd
 |ar s=>exact AR.Ca.beside hc ht hd
end
section
variable{w0 w w':World}{p b b':Nat}{U U':Nat->Prop}{st st':KSt}{xs:List ByteArray}{r v:Value}{e:Ending}
end
end Go.Proofs.YtdmmciggopmglaaGreatDoor
set_option maxRecDepth 20000
namespace Go.Proofs.YtdmmciggopmglaaGreatDoor
open Go.RowKit Sg
def Flt(w:World)(s:ByteArray)(n:Int)(v:Value):Prop:=
 ∃g,v= .iface 59 (.pointer (some ⟨g,0,none⟩))/\g < w.heap.size/\w.heap[g]?=some (.cells #[.string s,.string ⟨#[]⟩,.iface 60 (.int .i64 n)] 62 (0,0))
theorem Flt.wraps{w:World}{s:ByteArray}{n:Int}{v:Value}(h:Flt w s n v)(hn:n≠0)(hl:Laid w):
 Calls Tryz.prog 25 #[v,.string s,.string ⟨#[]⟩,.int .i64 n] w (λe w'=>e= .returned (.bool true)/\Below w.heap.size w w'):=by
 obtain⟨g,rfl,hg,hx⟩:=h;exact wraps_code g s ⟨#[]⟩ n hn w hl hg (cell_of_row w _ 0 _ _ _ hx) (cell_of_row w _ 1 _ _ _ hx) (cell_of_row w _ 2 _ _ _ hx)
theorem isRoom_any(w:World)(z:Int):Calls Tryz.prog 57 #[.int .i64 z] w (λe w'=>e= .returned (.bool (decide (0<=z)&&decide (z<=16777216)))/\w=w'):=by
 go_enter Tryz.func57,Tryz.ntmps57
 by_cases h0:0<=z
 . by_cases h1:z<=16777216
   . rw[decide_eq_true h0,decide_eq_true h1];go_wp2_with fail
     go_ret;exact⟨rfl,rfl⟩
   . rw[decide_eq_true h0,decide_eq_false h1];go_wp2_with fail
     go_ret;exact⟨rfl,rfl⟩
 . rw[decide_eq_false h0];go_wp2_with fail
   go_ret;exact⟨rfl,rfl⟩
end Go.Proofs.YtdmmciggopmglaaGreatDoor
set_option maxRecDepth 20000
namespace Go.Proofs.YtdmmciggopmglaaGreatDoor
open Go.RowKit Sg
theorem KSt.kind_lt(st:KSt):st.kind < 5:=by
 cases st with
 |lf ch _ _ _=>
  cases ch with
  |false=>exact(by decide:(1:Nat) < 5)
  |true=>exact(by decide:(2:Nat) < 5)
 |lr _ _=>exact(by decide:(0:Nat) < 5)
 |sr _=>exact(by decide:(3:Nat) < 5)
 |ar _=>exact(by decide:(4:Nat) < 5)
theorem atHas{k:Nat}(hk:k < 5)(w:World)(p c:Nat)(key:ByteArray)(Q:Value->World->Prop)(h2:w.cell? ⟨p,2,none⟩=some (mV k c "Has" ))(U:Calls Tryz.prog (fHas k) #[.pointer (some ⟨c,0,none⟩),.string key] w (λe w'=>∃v,e= .returned v/\Q v w')):
 Calls Tryz.prog 121 #[.pointer (some ⟨p,0,none⟩),.string key] w (λe w'=>∃v,e= .returned v/\Q v w'):=by
 have me:=meHas hk ⟨c,0,none⟩;have na:=naHas hk ⟨c,0,none⟩;have cf:=cfHas hk;have U:=Lib.hid U;unfold mV cI at h2;generalize fHas k=fn at*;generalize tC k=tn at*;clear hk;go_enter Tryz.func121,Tryz.ntmps121;go_wp2_with fail
 refine U.out.mono ?_;rintro e w1 ⟨v,rfl,hQ⟩;go_wp2_with fail
 go_ret;exact⟨v,rfl,hQ⟩
theorem atLen{k:Nat}(hk:k < 5)(w:World)(p c:Nat)(Q:Value->World->Prop)(h2:w.cell? ⟨p,3,none⟩=some (mV k c "Len" ))(U:Calls Tryz.prog (fLen k) #[.pointer (some ⟨c,0,none⟩)] w (λe w'=>∃v,e= .returned v/\Q v w')):
 Calls Tryz.prog 123 #[.pointer (some ⟨p,0,none⟩)] w (λe w'=>∃v,e= .returned v/\Q v w'):=by
 have me:=meLen hk ⟨c,0,none⟩;have na:=naLen hk ⟨c,0,none⟩;have cf:=cfLen hk;have U:=Lib.hid U;unfold mV cI at h2;generalize fLen k=fn at*;generalize tC k=tn at*;clear hk;go_enter Tryz.func123,Tryz.ntmps123;go_wp2_with fail
 refine U.out.mono ?_;rintro e w1 ⟨v,rfl,hQ⟩;go_wp2_with fail
 go_ret;exact⟨v,rfl,hQ⟩
theorem atRemove{k:Nat}(hk:k < 5)(w:World)(p c:Nat)(key:ByteArray)(Q:Value->World->Prop)(h2:w.cell? ⟨p,5,none⟩=some (mV k c "Remove" ))(U:Calls Tryz.prog (fRemove k) #[.pointer (some ⟨c,0,none⟩),.string key] w (λe w'=>∃v,e= .returned v/\Q v w')):
 Calls Tryz.prog 125 #[.pointer (some ⟨p,0,none⟩),.string key] w (λe w'=>∃v,e= .returned v/\Q v w'):=by
 have me:=meRemove hk ⟨c,0,none⟩;have na:=naRemove hk ⟨c,0,none⟩;have cf:=cfRemove hk;have U:=Lib.hid U;unfold mV cI at h2;generalize fRemove k=fn at*;generalize tC k=tn at*;clear hk;go_enter Tryz.func125,Tryz.ntmps125;go_wp2_with fail
 refine U.out.mono ?_;rintro e w1 ⟨v,rfl,hQ⟩;go_wp2_with fail
 go_ret;exact⟨v,rfl,hQ⟩
theorem atAdopt{k:Nat}(hk:k < 5)(w:World)(p c:Nat)(key:ByteArray)(Q:Value->World->Prop)(h2:w.cell? ⟨p,6,none⟩=some (mV k c "Adopt" ))(U:Calls Tryz.prog (fAdopt k) #[.pointer (some ⟨c,0,none⟩),.string key] w (λe w'=>∃v,e= .returned v/\Q v w')):
 Calls Tryz.prog 118 #[.pointer (some ⟨p,0,none⟩),.string key] w (λe w'=>∃v,e= .returned v/\Q v w'):=by
 have me:=meAdopt hk ⟨c,0,none⟩;have na:=naAdopt hk ⟨c,0,none⟩;have cf:=cfAdopt hk;have U:=Lib.hid U;unfold mV cI at h2;generalize fAdopt k=fn at*;generalize tC k=tn at*;clear hk;go_enter Tryz.func118,Tryz.ntmps118;go_wp2_with fail
 refine U.out.mono ?_;rintro e w1 ⟨v,rfl,hQ⟩;go_wp2_with fail
 go_ret;exact⟨v,rfl,hQ⟩
theorem atVictim{k:Nat}(hk:k < 5)(w:World)(p c:Nat)(s:ByteArray)(o:Bool)(Q:World->Prop)(h2:w.cell? ⟨p,7,none⟩=some (mV k c "Victim" ))(U:Calls Tryz.prog (fVictim k) #[.pointer (some ⟨c,0,none⟩)] w (λe w'=>e= .returned (.tuple #[.string s,.bool o])/\Q w')):
 Calls Tryz.prog 135 #[.pointer (some ⟨p,0,none⟩)] w (λe w'=>e= .returned (.tuple #[.string s,.bool o])/\Q w'):=by
 have me:=meVictim hk ⟨c,0,none⟩;have na:=naVictim hk ⟨c,0,none⟩;have cf:=cfVictim hk;have U:=Lib.hid U;unfold mV cI at h2;generalize fVictim k=fn at*;generalize tC k=tn at*;clear hk;go_enter Tryz.func135,Tryz.ntmps135;go_wp2_with fail
 refine U.out.mono ?_;rintro e w1 ⟨rfl,hQ⟩;go_wp2_with fail
 go_ret2
 exact⟨rfl,hQ⟩
theorem atKeys{k:Nat}(hk:k < 5)(w:World)(p c:Nat)(Q:Value->World->Prop)(h2:w.cell? ⟨p,10,none⟩=some (mV k c "Keys" ))(U:Calls Tryz.prog (fKeys k) #[.pointer (some ⟨c,0,none⟩)] w (λe w'=>∃v,e= .returned v/\Q v w')):
 Calls Tryz.prog 122 #[.pointer (some ⟨p,0,none⟩)] w (λe w'=>∃v,e= .returned v/\Q v w'):=by
 have me:=meKeys hk ⟨c,0,none⟩;have na:=naKeys hk ⟨c,0,none⟩;have cf:=cfKeys hk;have U:=Lib.hid U;unfold mV cI at h2;generalize fKeys k=fn at*;generalize tC k=tn at*;clear hk;go_enter Tryz.func122,Tryz.ntmps122;go_wp2_with fail
 refine U.out.mono ?_;rintro e w1 ⟨v,rfl,hQ⟩;go_wp2_with fail
 go_ret;exact⟨v,rfl,hQ⟩
theorem atResize{k:Nat}(hk:k < 5)(w:World)(p c:Nat)(n:Nat)(mo:Nat)(hn:n<=16777216)(Q:Value->World->Prop)(h1:w.cell? ⟨p,1,none⟩=some (.int .i64 (mo:Int)))(f1:w.frozen? ⟨p,1,none⟩=false)
 (h2:(w.setCell ⟨p,1,none⟩ (.int .i64 (n:Int))).cell? ⟨p,9,none⟩=some (mV k c "Resize" ))
 (U:Calls Tryz.prog (fResize k) #[.pointer (some ⟨c,0,none⟩),.int .i64 (n:Int)] (w.setCell ⟨p,1,none⟩ (.int .i64 (n:Int))) (λe w'=>∃v,e= .returned v/\Q v w')):
 Calls Tryz.prog 133 #[.pointer (some ⟨p,0,none⟩),.int .i64 (n:Int)] w (λe w'=>∃v,e= .returned (.tuple #[v,.nilIface])/\Q v w'):=by
 have V:=isRoom_any w (n:Int);rw[decide_eq_true (by omega),decide_eq_true (by omega)] at V;have V:=Lib.hid V;have me:=meResize hk ⟨c,0,none⟩;have na:=naResize hk ⟨c,0,none⟩;have cf:=cfResize hk;have U:=Lib.hid U;unfold mV cI at h2;generalize fResize k=fn at*;generalize tC k=tn at*;clear hk;go_enter Tryz.func133,Tryz.ntmps133;go_wp2_with fail
 refine V.out.mono ?_;rintro e w1 ⟨rfl,rfl⟩;go_wp2_with fail
 refine U.out.mono ?_;rintro e w1 ⟨v,rfl,hQ⟩;go_wp2_with fail
 go_ret2
 exact⟨v,rfl,hQ⟩
end Go.Proofs.YtdmmciggopmglaaGreatDoor
set_option maxRecDepth 20000
namespace Go.Proofs.YtdmmciggopmglaaGreatDoor
open Go.RowKit Sg
section
variable(w:World)(p:Nat)(U:Nat->Prop)(st:KSt)(b:Nat)(key:ByteArray)(h:Pc w p U st b)
include h
theorem most_p:Calls Tryz.prog 174 #[.pointer (some ⟨p,0,none⟩)] w (Told (.int .i64 (st.mo:Int)) w):=by
 obtain⟨c,T,rfl,hc,hn,hb⟩:=h;have c0:=cell_of_row w _ 1 _ _ _ hb;unfold pcells at c0;clear hb hc hn;go_enter Tryz.func174,Tryz.ntmps174;go_wp2_with fail
 go_ret;exact⟨rfl,Below.refl _ _⟩
theorem has_p(hs:key.size<=maxLen):Calls Tryz.prog 121 #[.pointer (some ⟨p,0,none⟩),.string key] w (Told (.bool (st.has key)) w):=by
 obtain⟨c,T,rfl,hc,hn,hb⟩:=h;refine(atHas st.kind_lt w p c key (λv w'=>v= .bool (st.has key)/\Below w.heap.size w w') (cell_of_row w _ 2 _ _ _ hb) ((has_k w c T st b key hc hs).mono ?_)).mono ?_
 . rintro e w' ⟨he,hB⟩;exact⟨_,he,rfl,hB⟩
 . rintro e w' ⟨v,rfl,rfl,hB⟩;exact⟨rfl,hB⟩
theorem len_p:Calls Tryz.prog 123 #[.pointer (some ⟨p,0,none⟩)] w (Told (.int .i64 (st.keys.length:Int)) w):=by
 obtain⟨c,T,rfl,hc,hn,hb⟩:=h;refine(atLen st.kind_lt w p c (λv w'=>v= .int .i64 (st.keys.length:Int)/\Below w.heap.size w w') (cell_of_row w _ 3 _ _ _ hb) ((len_k w c T st b hc).mono ?_)).mono ?_
 . rintro e w' ⟨he,hB⟩;exact⟨_,he,rfl,hB⟩
 . rintro e w' ⟨v,rfl,rfl,hB⟩;exact⟨rfl,hB⟩
theorem keys_p:Calls Tryz.prog 122 #[.pointer (some ⟨p,0,none⟩)] w (RowPost st.keys w):=by
 obtain⟨c,T,rfl,hc,hn,hb⟩:=h;refine(atKeys st.kind_lt w p c (λv w'=>Own w' w.heap.size v st.keys/\Below w.heap.size w w') (cell_of_row w _ 10 _ _ _ hb) ((keys_k w c T st b hc).mono ?_)).mono ?_
 . rintro e w' ⟨v,he,h1,h2⟩;exact⟨v,he,h1,h2⟩
 . rintro e w' ⟨v,he,h1,h2⟩;exact⟨v,he,h1,h2⟩
theorem victim_p:Calls Tryz.prog 135 #[.pointer (some ⟨p,0,none⟩)] w (Told (.tuple #[.string st.vic,.bool st.any]) w):=by
 obtain⟨c,T,rfl,hc,hn,hb⟩:=h;exact atVictim st.kind_lt w p c st.vic st.any (λw'=>Below w.heap.size w w') (cell_of_row w _ 7 _ _ _ hb) (victim_k w c T st b hc)
theorem remove_p(hs:key.size<=maxLen):Calls Tryz.prog 125 #[.pointer (some ⟨p,0,none⟩),.string key] w (PPost (.bool (st.has key)) w p U (st.rm key) b):=by
 obtain⟨c,T,rfl,hc,hn,hb⟩:=h;refine(atRemove st.kind_lt w p c key (λv w'=>v= .bool (st.has key)/\∃T',KCa w' c T' (st.rm key) b/\Went w w' T T') (cell_of_row w _ 5 _ _ _ hb) ((remove_k w c T st b key hc hs).mono ?_)).mono ?_
 . rintro e w' ⟨he,h1⟩;exact⟨_,he,rfl,h1⟩
 . rintro e w' ⟨v,he,rfl,h1⟩;exact KPost.pol ⟨he,h1⟩ hb hn (KSt.kind_rm st key) (KSt.mo_rm st key)
theorem adopt_p(hs:key.size<=maxLen)(hB:b<=97500):Calls Tryz.prog 118 #[.pointer (some ⟨p,0,none⟩),.string key] w (PPost (.bool (st.adB key)) w p U (st.ad key) (b+1)):=by
 obtain⟨c,T,rfl,hc,hn,hb⟩:=h;refine(atAdopt st.kind_lt w p c key (λv w'=>v= .bool (st.adB key)/\∃T',KCa w' c T' (st.ad key) (b+1)/\Went w w' T T') (cell_of_row w _ 6 _ _ _ hb) ((adopt_k w c T st b key hc hs hB).mono ?_)).mono ?_
 . rintro e w' ⟨he,h1⟩;exact⟨_,he,rfl,h1⟩
 . rintro e w' ⟨v,he,rfl,h1⟩;exact KPost.pol ⟨he,h1⟩ hb hn (KSt.kind_ad st key) (KSt.mo_ad st key)
end
end Go.Proofs.YtdmmciggopmglaaGreatDoor
set_option maxRecDepth 20000
namespace Go.Proofs.YtdmmciggopmglaaGreatDoor
open Go.RowKit Sg
abbrev zStep:Obj:= .cells #[.bool false,.string ⟨#[]⟩,.bool false] 41
theorem atRequest{k:Nat}(hk:k < 5)(w:World)(p c:Nat)(key:ByteArray)(x:Bool)(s:ByteArray)(o:Bool)(Q:World->Prop)(h2:(w.alloc zStep).cell? ⟨p,4,none⟩=some (mV k c "Request" ))
 (U:Calls Tryz.prog (fRequest k) #[.pointer (some ⟨c,0,none⟩),.string key] (w.alloc zStep) (λe w'=>e= .returned (.agg #[.bool x,.string s,.bool o])/\LR.Box w' w.heap.size false ⟨#[]⟩ false/\Q w')):
 Calls Tryz.prog 127 #[.pointer (some ⟨p,0,none⟩),.string key] w (λe w'=>e= .returned (.agg #[.bool x,.string s,.bool o])/\
  ∃w1,Q w1/\w'=((w1.setCell ⟨w.heap.size,0,none⟩ (.bool x)).setCell ⟨w.heap.size,1,none⟩ (.string s)).setCell ⟨w.heap.size,2,none⟩ (.bool o)):=by
 have me:=meRequest hk ⟨c,0,none⟩;have na:=naRequest hk ⟨c,0,none⟩;have cf:=cfRequest hk;have U:=Lib.hid U;unfold mV cI at h2;generalize fRequest k=fn at*;generalize tC k=tn at*;clear hk;go_enter Tryz.func127,Tryz.ntmps127;go_wp2_with fail
 refine U.out.mono ?_;rintro e w1 ⟨rfl,hB,hQ⟩;have B:=Lib.hid (hB.put x o s);have f0:=frozen_of_row w1 _ 0 _ _ hB;obtain⟨k0,k1,k2,f1,f2⟩:=hB.cells;clear hB;go_wp2_with fail
 refine bodyPost_ret (LR.results_c rfl _ _ _ ⟨w.heap.size,0,none⟩ _ rfl (LR.load_step B.out)) rfl ?_;exact⟨rfl,w1,hQ,rfl⟩
theorem put_turn9(W:World)(z:Nat)(h o:Bool)(s:ByteArray):Turn (λk=>k=z) W (((W.setCell ⟨z,0,none⟩ (.bool h)).setCell ⟨z,1,none⟩ (.string s)).setCell ⟨z,2,none⟩ (.bool o)):=
 (((Turn.refl (λk=>k=z) W).setCell (p:=⟨z,0,none⟩) (Or.inl rfl) _).setCell (p:=⟨z,1,none⟩) (Or.inl rfl) _).setCell (p:=⟨z,2,none⟩) (Or.inl rfl) _
theorem request_p(w:World)(p:Nat)(U:Nat->Prop)(st:KSt)(b:Nat)(key:ByteArray)(h:Pc w p U st b)(hs:key.size<=maxLen)(hB:b<=97500):
 Calls Tryz.prog 127 #[.pointer (some ⟨p,0,none⟩),.string key] w (PPost (st.step key) w p U (st.req key) (b+1)):=by
 have hb0:=(Below.refl w.heap.size w).alloc (Nat.le_refl _) zStep;have h':=h.below hb0;have hlt:∀k,U k->k < w.heap.size:=λ_ hk=>h.lt hk;obtain⟨c,T,rfl,hc,hn,hx⟩:=h';have hbx:LR.Box (w.alloc zStep) w.heap.size false ⟨#[]⟩ false:=heap_alloc_new _ _;have hnT:¬T w.heap.size:=λe=>by have:=hlt _ (Or.inr e);omega
 have hsz:(w.alloc zStep).heap.size=w.heap.size+1:=by simp
 refine(atRequest st.kind_lt w p c key (st.tell key).1 (st.tell key).2.1 (st.tell key).2.2 (λw'=>∃T',KCa w' c T' (st.req key) (b+1)/\Went (w.alloc zStep) w' T T') (cell_of_row _ _ 4 _ _ _ hx) ((request_k _ c T st b key hc hs hB).mono ?_)).mono ?_
 . rintro e w' ⟨he,T',h1,h2⟩;exact⟨he,(h2.turn.block _ (by omega) hnT).trans hbx,T',h1,h2⟩
 . rintro e w' ⟨he,w1,hq,rfl⟩;obtain⟨_,U',hP,hW⟩:=KPost.pol (e:= .returned (.bool true)) (v:= .bool true) ⟨rfl,hq⟩ hx hn (KSt.kind_req st key) (KSt.mo_req st key);have ht:=put_turn9 w1 w.heap.size (st.tell key).1 (st.tell key).2.2 (st.tell key).2.1;refine⟨he,U',hP.beside ht ?_,λk hk=>?_,?_⟩
   . intro k hk e;subst e;rcases hW.new _ hk with h1|h1
     . have:=hlt _ h1;omega
     . omega
   . rcases hW.new k hk with h1|h1
     . exact Or.inl h1
     . exact Or.inr (by omega)
   . refine((Turn.of_below (S:=λk=>k=p\/T k) hb0).trans hW.turn (λ_ _ hk=>hk)).trans ht (λk hk e=>?_);omega
def RPostP(st:KSt)(n:Nat)(w:World)(p:Nat)(U:Nat->Prop)(b:Nat)(e:Ending)(w':World):Prop:=
 ∃v U',e= .returned (.tuple #[v,.nilIface])/\Own w' w.heap.size v (st.gone n)/\Pc w' p U' (st.rs n) b/\Went w w' U U'/\∀g,v.ownBlock=some g->¬U' g
theorem resize_p(w:World)(p:Nat)(U:Nat->Prop)(st:KSt)(b:Nat)(n:Nat)(h:Pc w p U st b)(hB:b<=97500)(hn16:n<=16777216):
 Calls Tryz.prog 133 #[.pointer (some ⟨p,0,none⟩),.int .i64 (n:Int)] w (RPostP st n w p U b):=by
 have hlt:∀k,U k->k < w.heap.size:=λ_ hk=>h.lt hk;obtain⟨c,T,rfl,hc,hn,hx⟩:=h;have c1:=cell_of_row w _ 1 _ _ _ hx;have f1:=frozen_of_row w _ 1 _ _ hx
 have hx1:(w.setCell ⟨p,1,none⟩ (.int .i64 (n:Int))).heap[p]?=some (.cells (pcells st.kind n c) 131 (0,0)):=by
  rw[heap_setCell_same _ _ _ _ _ _ hx];rfl
 have ht:Turn (λk=>k=p) w (w.setCell ⟨p,1,none⟩ (.int .i64 (n:Int))):=(Turn.refl (λk=>k=p) w).setCell (p:=⟨p,1,none⟩) (Or.inl rfl) _;have hsz:(w.setCell ⟨p,1,none⟩ (.int .i64 (n:Int))).heap.size=w.heap.size:=by simp[World.setCell]
 have hc1:KCa (w.setCell ⟨p,1,none⟩ (.int .i64 (n:Int))) c T st b:=by
  have hd:∀k,T k->¬(k=p):=λk hk e=>hn (e▸hk);cases st with
  |lr mo ks=>exact LR.Ca.kept hc ht hd
  |lf ch mo n L=>exact⟨LF.Ca.kept hc.1 ⟨ht.os,ht.tape,ht.output,ht.size,ht.block⟩ hd,hc.2⟩
  |sr s=>exact SR.Ca.beside hc ht hd
  |ar s=>exact AR.Ca.beside hc ht hd
 refine(atResize st.kind_lt w p c n st.mo hn16 (λv w'=>∃T',Own w' w.heap.size v (st.gone n)/\KCa w' c T' (st.rs n) b/\Went (w.setCell ⟨p,1,none⟩ (.int .i64 (n:Int))) w' T T'/\∀g,v.ownBlock=some g->¬T' g) c1 f1 (cell_of_row _ _ 9 _ _ _ hx1) ((resize_k _ c T st b hc1 (n:Int) (by omega) hB).mono ?_)).mono ?_
 . rintro e w' ⟨v,T',he,h1,h2,h3,h4⟩;rw[hsz,Int.toNat_natCast] at h1;rw[Int.toNat_natCast] at h2;exact⟨v,he,T',h1,h2,h3,h4⟩
 . rintro e w' ⟨v,he,T',h1,h2,h3,h4⟩;have hl:=heap_lt hx
   have hpT:¬T' p:=λht'=>by
    rcases h3.new p ht' with e|e
    . exact hn e
    . rw[hsz] at e;omega
   refine⟨v,λk=>k=p\/T' k,he,h1,⟨c,T',rfl,h2,hpT,?_⟩,⟨λk hk=>?_,?_⟩,λg hg hk=>?_⟩
   . rw[KSt.kind_rs,KSt.mo_rs];exact(h3.turn.block p (by rw[hsz];exact hl) hn).trans hx1
   . rcases hk with rfl|hk
     . exact Or.inl (Or.inl rfl)
     . rcases h3.new k hk with e|e
       . exact Or.inl (Or.inr e)
       . rw[hsz] at e;exact Or.inr e
   . exact(ht.wide (S':=λk=>k=p\/T k) (λ_ _ hk=>Or.inl hk)).trans h3.turn (λ_ _ hk=>Or.inr hk)
   . rcases hk with rfl|hk
     . have:=(h1.lt hg).2;omega
     . exact h4 g hg hk
end Go.Proofs.YtdmmciggopmglaaGreatDoor
