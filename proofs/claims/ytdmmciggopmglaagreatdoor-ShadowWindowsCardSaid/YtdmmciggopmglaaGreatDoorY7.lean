/- Is InA, in one text. -/
import Derived.Test.YtdmmciggopmglaaGreatDoorY1
import Derived.Test.YtdmmciggopmglaaGreatDoorY6
import Derived.Test.YtdmmciggopmglaaGreatDoorY4
import Derived.Test.YtdmmciggopmglaaGreatDoorY2
import Derived.Deep.MidRow
namespace Go.Proofs.YtdmmciggopmglaaGreatDoor.IN
open Go.RowKit Sg
theorem lreq_keep(s:LE.St)(k:ByteArray):(s.req k).six=s.six/\(s.req k).mo=s.mo:=by
 by_cases hm:s.mo=0
 . unfold LE.St.req;rw[if_pos hm];exact⟨rfl,rfl⟩
 . cases hk:s.has k with
   |true=>rw[LE.req_hit hm hk,(LE.window_same _).1,(LE.window_same _).2.1];exact⟨rfl,rfl⟩
   |false=>
    rw[LE.req_miss hm hk,(LE.window_same _).1,(LE.window_same _).2.1];exact⟨(LE.make_w s.tick k).2.1,(LE.make_w s.tick k).2.2.1⟩
inductive ISt where
 |p (st:KSt)
 |l (s:LE.St)
namespace ISt
def kind:ISt->Nat
 |p st=>st.kind
 |l s=>if s.six then 6 else 5
def lrn:ISt->Bool
 |p _=>false
 |l _=>true
def mo:ISt->Nat
 |p st=>st.mo
 |l s=>s.mo
def keys:ISt->List ByteArray
 |p st=>st.keys
 |l s=>s.keys
def ghosts:ISt->List ByteArray
 |p st=>st.ghosts
 |l s=>s.ghosts
def has(x:ISt)(k:ByteArray):Bool:=inn x.keys k
def vicV:ISt->ByteArray->ByteArray
 |p st,k=>(st.tell k).2.1
 |l s,k=>s.vicV k
def outB:ISt->ByteArray->Bool
 |p st,k=>(st.tell k).2.2
 |l s,k=>s.outB k
def hitB:ISt->ByteArray->Bool
 |p st,k=>(st.tell k).1
 |l s,k=>s.has k
def step(x:ISt)(k:ByteArray):Value:= .agg #[.bool (x.hitB k),.string (x.vicV k),.bool (x.outB k)]
def req:ISt->ByteArray->ISt
 |p st,k=>p (st.req k)
 |l s,k=>l (s.req k)
def rm:ISt->ByteArray->ISt
 |p st,k=>p (st.rm k)
 |l s,k=>l (s.rm k)
def rs:ISt->Nat->ISt
 |p st,m=>p (st.rs m)
 |l s,m=>l (s.rs m)
def gone:ISt->Nat->List ByteArray
 |p st,m=>st.gone m
 |l s,m=>s.gone m
def Ok:ISt->Prop
 |p st=>st.Ok
 |l s=>LE.Ok s
def start(k m:Nat)(vs:List Nat):ISt:=if k < 5 then p (KSt.start k m) else l (LE.St.start (k==6) m vs)
variable{x:ISt}
theorem nd(h:x.Ok):x.keys.Nodup:=by
 cases x with
 |p st=>exact KSt.nd h
 |l s=>exact KSt.nd (LE.Ok.okA h)
theorem le(h:x.Ok):x.keys.length<=x.mo:=by
 cases x with
 |p st=>exact KSt.le h
 |l s=>exact LE.Ok.le h
theorem kind_lrn(x:ISt):x.lrn=decide (4 < x.kind):=by
 cases x with
 |p st=>exact(decide_eq_false (by have:=st.kind_lt;show ¬4 < st.kind;omega)).symm
 |l s=>exact(decide_eq_true (by show 4 < (if s.six then 6 else 5);split <;> omega)).symm
theorem req_f(h:x.Ok)(hm:x.mo≠0)(k:ByteArray):ReqF x.keys (x.req k).keys x.mo k (x.hitB k) (x.vicV k) (x.outB k):=by
 cases x with
 |p st=>exact KSt.req_f h hm k
 |l s=>exact LE.req_f h hm k
theorem rm_f(h:x.Ok)(k:ByteArray):RmF x.keys (x.rm k).keys (x.rm k).ghosts k (x.has k):=by
 cases x with
 |p st=>exact KSt.rm_f h k
 |l s=>exact LE.rm_f h k
theorem rs_f(h:x.Ok)(n:Nat):RsF x.keys (x.rs n).keys n (x.gone n):=by
 cases x with
 |p st=>exact KSt.rs_f h n
 |l s=>exact(LE.rs_f h n).2
theorem mo_req(x:ISt)(k:ByteArray):(x.req k).mo=x.mo:=by
 cases x with
 |p st=>exact KSt.mo_req st k
 |l s=>exact(lreq_keep s k).2
theorem mo_rm(x:ISt)(k:ByteArray):(x.rm k).mo=x.mo:=by
 cases x with
 |p st=>exact KSt.mo_rm st k
 |l s=>rfl
theorem mo_rs(x:ISt)(n:Nat):(x.rs n).mo=n:=by
 cases x with
 |p st=>exact KSt.mo_rs st n
 |l s=>rfl
theorem start_kind{k:Nat}(hk:k < 7)(m:Nat)(vs:List Nat):(start k m vs).kind=k/\(start k m vs).mo=m/\(start k m vs).keys= []/\(start k m vs).ghosts= []:=by
 unfold start
 by_cases h:k < 5
 . rw[if_pos h];exact KSt.start_kind h m
 . rw[if_neg h];have h6:k=5\/k=6:=by omega
   rcases h6 with rfl|rfl
   . exact⟨rfl,rfl,(KSt.start_kind (k:=0) (by omega) m).2.2.1,rfl⟩
   . exact⟨rfl,rfl,(KSt.start_kind (k:=3) (by omega) m).2.2.1,rfl⟩
theorem req_len(h:x.Ok)(hm:x.mo≠0)(k:ByteArray):(x.req k).keys.length=if(inn x.keys k||decide (x.mo<=x.keys.length))=true then x.keys.length else x.keys.length+1:=by
 have f:=req_f h hm k;have h0:=f.len;rw[f.hitE,f.outE] at h0;rw[h0];cases inn x.keys k with
 |true=>rfl
 |false=>
  by_cases hr:x.mo<=x.keys.length
  . rw[decide_eq_true hr];rfl
  . rw[decide_eq_false hr];rfl
end ISt
end Go.Proofs.YtdmmciggopmglaaGreatDoor.IN
set_option maxRecDepth 20000
namespace Go.Proofs.YtdmmciggopmglaaGreatDoor.IN
open Go.RowKit Sg
def tI:Bool->Nat|true=>86|false=>89
def cV(b:Bool)(c:Nat):Value:= .iface (tI b) (.pointer (some ⟨c,0,none⟩))
def gMost:Bool->Nat|true=>111|false=>174
def gRemove:Bool->Nat|true=>112|false=>125
def gResize:Bool->Nat|true=>114|false=>133
def gKeys:Bool->Nat|true=>108|false=>122
def gRequest:Bool->Nat|true=>113|false=>127
theorem cfMost(b:Bool)(args:Array Value)(w:World):(callFunc (gMost b) args).run Tryz.prog w= .ok (.enter (gMost b) args) w:=by
 cases b
 . exact run_enter9 Tryz.func174 (by kernel_rfl) rfl args w
 . exact run_enter9 Tryz.func111 (by kernel_rfl) rfl args w
theorem meMost(b:Bool)(p:Addr)(w:World):(Go.method 389 (tI b) (.pointer (some p)) "Most" ).run Tryz.prog w= .ok (gMost b,.pointer (some p)) w:=by
 cases b
 . show(Go.method 389 89 (.pointer (some p)) "Most" ).run Tryz.prog w= .ok (174,.pointer (some p)) w;kernel_rfl
 . show(Go.method 389 86 (.pointer (some p)) "Most" ).run Tryz.prog w= .ok (111,.pointer (some p)) w;kernel_rfl
theorem cfRemove(b:Bool)(args:Array Value)(w:World):(callFunc (gRemove b) args).run Tryz.prog w= .ok (.enter (gRemove b) args) w:=by
 cases b
 . exact run_enter9 Tryz.func125 (by kernel_rfl) rfl args w
 . exact run_enter9 Tryz.func112 (by kernel_rfl) rfl args w
theorem meRemove(b:Bool)(p:Addr)(w:World):(Go.method 389 (tI b) (.pointer (some p)) "Remove" ).run Tryz.prog w= .ok (gRemove b,.pointer (some p)) w:=by
 cases b
 . show(Go.method 389 89 (.pointer (some p)) "Remove" ).run Tryz.prog w= .ok (125,.pointer (some p)) w;kernel_rfl
 . show(Go.method 389 86 (.pointer (some p)) "Remove" ).run Tryz.prog w= .ok (112,.pointer (some p)) w;kernel_rfl
theorem cfResize(b:Bool)(args:Array Value)(w:World):(callFunc (gResize b) args).run Tryz.prog w= .ok (.enter (gResize b) args) w:=by
 cases b
 . exact run_enter9 Tryz.func133 (by kernel_rfl) rfl args w
 . exact run_enter9 Tryz.func114 (by kernel_rfl) rfl args w
theorem meResize(b:Bool)(p:Addr)(w:World):(Go.method 389 (tI b) (.pointer (some p)) "Resize" ).run Tryz.prog w= .ok (gResize b,.pointer (some p)) w:=by
 cases b
 . show(Go.method 389 89 (.pointer (some p)) "Resize" ).run Tryz.prog w= .ok (133,.pointer (some p)) w;kernel_rfl
 . show(Go.method 389 86 (.pointer (some p)) "Resize" ).run Tryz.prog w= .ok (114,.pointer (some p)) w;kernel_rfl
theorem cfKeys(b:Bool)(args:Array Value)(w:World):(callFunc (gKeys b) args).run Tryz.prog w= .ok (.enter (gKeys b) args) w:=by
 cases b
 . exact run_enter9 Tryz.func122 (by kernel_rfl) rfl args w
 . exact run_enter9 Tryz.func108 (by kernel_rfl) rfl args w
theorem meKeys(b:Bool)(p:Addr)(w:World):(Go.method 389 (tI b) (.pointer (some p)) "Keys" ).run Tryz.prog w= .ok (gKeys b,.pointer (some p)) w:=by
 cases b
 . show(Go.method 389 89 (.pointer (some p)) "Keys" ).run Tryz.prog w= .ok (122,.pointer (some p)) w;kernel_rfl
 . show(Go.method 389 86 (.pointer (some p)) "Keys" ).run Tryz.prog w= .ok (108,.pointer (some p)) w;kernel_rfl
theorem cfRequest(b:Bool)(args:Array Value)(w:World):(callFunc (gRequest b) args).run Tryz.prog w= .ok (.enter (gRequest b) args) w:=by
 cases b
 . exact run_enter9 Tryz.func127 (by kernel_rfl) rfl args w
 . exact run_enter9 Tryz.func113 (by kernel_rfl) rfl args w
theorem meRequest(b:Bool)(p:Addr)(w:World):(Go.method 389 (tI b) (.pointer (some p)) "Request" ).run Tryz.prog w= .ok (gRequest b,.pointer (some p)) w:=by
 cases b
 . show(Go.method 389 89 (.pointer (some p)) "Request" ).run Tryz.prog w= .ok (127,.pointer (some p)) w;kernel_rfl
 . show(Go.method 389 86 (.pointer (some p)) "Request" ).run Tryz.prog w= .ok (113,.pointer (some p)) w;kernel_rfl
section
variable(b:Bool)(w:World)(x c:Nat)
theorem atMost(Q:Value->World->Prop)(h0:w.cell? ⟨x,0,none⟩=some (cV b c))(U:Calls Tryz.prog (gMost b) #[.pointer (some ⟨c,0,none⟩)] w (λe w'=>∃v,e= .returned v/\Q v w')):
 Calls Tryz.prog 36 #[.pointer (some ⟨x,0,none⟩)] w (λe w'=>∃v,e= .returned v/\Q v w'):=by
 have me:=meMost b ⟨c,0,none⟩;have cf:=cfMost b;have U:=Lib.hid U;unfold cV at h0;generalize gMost b=fn at*;generalize tI b=tn at*;go_enter Tryz.func36,Tryz.ntmps36;go_wp2_with fail
 refine U.out.mono ?_;rintro e w1 ⟨v,rfl,hQ⟩;go_wp2_with fail
 go_ret;exact⟨v,rfl,hQ⟩
theorem atRemove(key:ByteArray)(Q:Value->World->Prop)(h0:w.cell? ⟨x,0,none⟩=some (cV b c))(U:Calls Tryz.prog (gRemove b) #[.pointer (some ⟨c,0,none⟩),.string key] w (λe w'=>∃v,e= .returned v/\Q v w')):
 Calls Tryz.prog 42 #[.pointer (some ⟨x,0,none⟩),.string key] w (λe w'=>∃v,e= .returned v/\Q v w'):=by
 have me:=meRemove b ⟨c,0,none⟩;have cf:=cfRemove b;have U:=Lib.hid U;unfold cV at h0;generalize gRemove b=fn at*;generalize tI b=tn at*;go_enter Tryz.func42,Tryz.ntmps42;go_wp2_with fail
 refine U.out.mono ?_;rintro e w1 ⟨v,rfl,hQ⟩;go_wp2_with fail
 go_ret;exact⟨v,rfl,hQ⟩
theorem atResize(z:Int)(Q:Value->Value->World->Prop)(h0:w.cell? ⟨x,0,none⟩=some (cV b c))(U:Calls Tryz.prog (gResize b) #[.pointer (some ⟨c,0,none⟩),.int .i64 z] w (λe w'=>∃v f,e= .returned (.tuple #[v,f])/\Q v f w')):
 Calls Tryz.prog 40 #[.pointer (some ⟨x,0,none⟩),.int .i64 z] w (λe w'=>∃v f,e= .returned (.tuple #[v,f])/\Q v f w'):=by
 have me:=meResize b ⟨c,0,none⟩;have cf:=cfResize b;have U:=Lib.hid U;unfold cV at h0;generalize gResize b=fn at*;generalize tI b=tn at*;go_enter Tryz.func40,Tryz.ntmps40;go_wp2_with fail
 refine U.out.mono ?_;rintro e w1 ⟨v,f,rfl,hQ⟩;go_wp2_with fail
 go_ret2
 exact⟨v,f,rfl,hQ⟩
theorem atKeys(Q:Value->World->Prop)(h0:w.cell? ⟨x,0,none⟩=some (cV b c))(U:Calls Tryz.prog (gKeys b) #[.pointer (some ⟨c,0,none⟩)] w (λe w'=>∃v,e= .returned v/\Q v w')):
 Calls Tryz.prog 20 #[.pointer (some ⟨x,0,none⟩)] w (λe w'=>∃v,e= .returned v/\Q v w'):=by
 have me:=meKeys b ⟨c,0,none⟩;have cf:=cfKeys b;have U:=Lib.hid U;unfold cV at h0;generalize gKeys b=fn at*;generalize tI b=tn at*;go_enter Tryz.func20,Tryz.ntmps20;go_wp2_with fail
 refine U.out.mono ?_;rintro e w1 ⟨v,rfl,hQ⟩;go_wp2_with fail
 go_ret;exact⟨v,rfl,hQ⟩
end
end Go.Proofs.YtdmmciggopmglaaGreatDoor.IN
