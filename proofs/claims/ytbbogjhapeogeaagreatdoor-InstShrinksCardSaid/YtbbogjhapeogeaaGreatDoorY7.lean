/- Is InA, in one text. -/
import Derived.Test.YtbbogjhapeogeaaGreatDoorY1
import Derived.Test.YtbbogjhapeogeaaGreatDoorY6
import Derived.Test.YtbbogjhapeogeaaGreatDoorY4
import Derived.Test.YtbbogjhapeogeaaGreatDoorY2
import Derived.Deep.MidRow
namespace Go.Proofs.YtbbogjhapeogeaaGreatDoor.IN
open Go.RowKit Sg
theorem adP_f{s:LE.St}(h:LE.Ok s)(k:ByteArray):AdF s.keys (LE.adP s k).keys (LE.adP s k).ghosts s.mo k (s.adB k):=by
 have eb:s.adB k=(!inn s.keys k&&decide (s.keys.length < s.mo)):=rfl;obtain⟨_,q⟩:=LE.adP_ok h k;unfold LE.adP;cases hb:s.adB k with
 |false=>
  rw[if_neg (by simp)];have:=ad_noneF (K:=s.keys) (G':=s.ghosts) (mo:=s.mo) (k:=k) (eb▸hb);rw[← eb,hb] at this;exact this
 |true=>
  rw[if_pos rfl];obtain⟨q1,q2⟩:=q hb;have hg:k∉(LE.fgt s k).ghosts:=λe=>((LE.fgt_gho s k k).1 e).2 rfl;obtain⟨_,b2,b3⟩:=LE.both_ok (LE.fgt_ok h k) q1 hg q2;refine⟨eb▸hb.symm,λx=>(b2 x).trans ?_,λ_=>hg,b3⟩;exact⟨λe=>e.imp id λe=>⟨rfl,e⟩,λe=>e.imp id λe=>e.2⟩
theorem adP_keep(s:LE.St)(k:ByteArray):(LE.adP s k).six=s.six/\(LE.adP s k).mo=s.mo:=by
 unfold LE.adP;split <;> exact⟨rfl,rfl⟩
theorem lreq_keep(s:LE.St)(k:ByteArray):(s.req k).six=s.six/\(s.req k).mo=s.mo:=by
 by_cases hm:s.mo=0
 . unfold LE.St.req;rw[if_pos hm];exact⟨rfl,rfl⟩
 . cases hk:s.has k with
   |true=>rw[LE.req_hit hm hk,(LE.window_same _).1,(LE.window_same _).2.1];exact⟨rfl,rfl⟩
   |false=>
    rw[LE.req_miss hm hk,(LE.window_same _).1,(LE.window_same _).2.1];exact⟨(LE.make_w s.tick k).2.1,(LE.make_w s.tick k).2.2.1⟩
inductive ISt where
 |p (st:KSt)
 |l (s:LE.St)
namespace ISt
def kind:ISt->Nat
 |p st=>st.kind
 |l s=>if s.six then 6 else 5
def lrn:ISt->Bool
 |p _=>false
 |l _=>true
def wt:ISt->Nat
 |p _=>0
 |l s=>s.w
def mo:ISt->Nat
 |p st=>st.mo
 |l s=>s.mo
def keys:ISt->List ByteArray
 |p st=>st.keys
 |l s=>s.keys
def ghosts:ISt->List ByteArray
 |p st=>st.ghosts
 |l s=>s.ghosts
def has(x:ISt)(k:ByteArray):Bool:=inn x.keys k
def vicV:ISt->ByteArray->ByteArray
 |p st,k=>(st.tell k).2.1
 |l s,k=>s.vicV k
def outB:ISt->ByteArray->Bool
 |p st,k=>(st.tell k).2.2
 |l s,k=>s.outB k
def hitB:ISt->ByteArray->Bool
 |p st,k=>(st.tell k).1
 |l s,k=>s.has k
def step(x:ISt)(k:ByteArray):Value:= .agg #[.bool (x.hitB k),.string (x.vicV k),.bool (x.outB k)]
def req:ISt->ByteArray->ISt
 |p st,k=>p (st.req k)
 |l s,k=>l (s.req k)
def rm:ISt->ByteArray->ISt
 |p st,k=>p (st.rm k)
 |l s,k=>l (s.rm k)
def adB(x:ISt)(k:ByteArray):Bool:=!x.has k&&decide (x.keys.length < x.mo)
def ad:ISt->ByteArray->ISt
 |p st,k=>p (st.ad k)
 |l s,k=>l (LE.adP s k)
def vic:ISt->ByteArray
 |p st=>st.vic
 |l s=>s.vic
def any:ISt->Bool
 |p st=>st.any
 |l s=>s.any
def dr:ISt->ISt
 |p st=>p st.dr
 |l s=>l s.dr
def rs:ISt->Nat->ISt
 |p st,m=>p (st.rs m)
 |l s,m=>l (s.rs m)
def gone:ISt->Nat->List ByteArray
 |p st,m=>st.gone m
 |l s,m=>s.gone m
def Ok:ISt->Prop
 |p st=>st.Ok
 |l s=>LE.Ok s
def start(k m:Nat)(vs:List Nat):ISt:=if k < 5 then p (KSt.start k m) else l (LE.St.start (k==6) m vs)
variable{x:ISt}
theorem le(h:x.Ok):x.keys.length<=x.mo:=by
 cases x with
 |p st=>exact KSt.le h
 |l s=>exact LE.Ok.le h
theorem kind_lrn(x:ISt):x.lrn=decide (4 < x.kind):=by
 cases x with
 |p st=>exact(decide_eq_false (by have:=st.kind_lt;show ¬4 < st.kind;omega)).symm
 |l s=>exact(decide_eq_true (by show 4 < (if s.six then 6 else 5);split <;> omega)).symm
theorem req_f(h:x.Ok)(hm:x.mo≠0)(k:ByteArray):ReqF x.keys (x.req k).keys x.mo k (x.hitB k) (x.vicV k) (x.outB k):=by
 cases x with
 |p st=>exact KSt.req_f h hm k
 |l s=>exact LE.req_f h hm k
theorem rm_f(h:x.Ok)(k:ByteArray):RmF x.keys (x.rm k).keys (x.rm k).ghosts k (x.has k):=by
 cases x with
 |p st=>exact KSt.rm_f h k
 |l s=>exact LE.rm_f h k
theorem ad_f(h:x.Ok)(k:ByteArray):AdF x.keys (x.ad k).keys (x.ad k).ghosts x.mo k (x.adB k):=by
 cases x with
 |p st=>exact KSt.ad_f h k
 |l s=>exact adP_f h k
theorem dr_f(h:x.Ok):DrF x.keys x.dr.keys x.ghosts x.dr.ghosts x.vic x.any:=by
 cases x with
 |p st=>exact KSt.dr_f h
 |l s=>exact(LE.dr_f h).2
theorem rs_f(h:x.Ok)(n:Nat):RsF x.keys (x.rs n).keys n (x.gone n):=by
 cases x with
 |p st=>exact KSt.rs_f h n
 |l s=>exact(LE.rs_f h n).2
theorem mo_req(x:ISt)(k:ByteArray):(x.req k).mo=x.mo:=by
 cases x with
 |p st=>exact KSt.mo_req st k
 |l s=>exact(lreq_keep s k).2
theorem mo_rm(x:ISt)(k:ByteArray):(x.rm k).mo=x.mo:=by
 cases x with
 |p st=>exact KSt.mo_rm st k
 |l s=>rfl
theorem mo_ad(x:ISt)(k:ByteArray):(x.ad k).mo=x.mo:=by
 cases x with
 |p st=>exact KSt.mo_ad st k
 |l s=>exact(adP_keep s k).2
theorem mo_rs(x:ISt)(n:Nat):(x.rs n).mo=n:=by
 cases x with
 |p st=>exact KSt.mo_rs st n
 |l s=>rfl
theorem kind_req(x:ISt)(k:ByteArray):(x.req k).kind=x.kind:=by
 cases x with
 |p st=>exact KSt.kind_req st k
 |l s=>show(if(s.req k).six then 6 else 5)=_;rw[(lreq_keep s k).1];rfl
theorem start_kind{k:Nat}(hk:k < 7)(m:Nat)(vs:List Nat):(start k m vs).kind=k/\(start k m vs).mo=m/\(start k m vs).keys= []/\(start k m vs).ghosts= []:=by
 unfold start
 by_cases h:k < 5
 . rw[if_pos h];exact KSt.start_kind h m
 . rw[if_neg h];have h6:k=5\/k=6:=by omega
   rcases h6 with rfl|rfl
   . exact⟨rfl,rfl,(KSt.start_kind (k:=0) (by omega) m).2.2.1,rfl⟩
   . exact⟨rfl,rfl,(KSt.start_kind (k:=3) (by omega) m).2.2.1,rfl⟩
theorem hit_yes(h:x.Ok)(hm:x.mo≠0){k:ByteArray}(hk:k∈x.keys):x.hitB k=true/\x.vicV k=⟨#[]⟩/\x.outB k=false:=by
 have f:=req_f h hm k;have h3:x.outB k=false:=f.outE.trans (by rw[inn_iff.2 hk];rfl);exact⟨f.hitE.trans (inn_iff.2 hk),f.non h3,h3⟩
theorem hit_no(h:x.Ok)(hm:x.mo≠0){k:ByteArray}(hk:k∉x.keys)(hr:x.keys.length < x.mo):x.hitB k=false/\x.vicV k=⟨#[]⟩/\x.outB k=false:=by
 have f:=req_f h hm k;have h3:x.outB k=false:=f.outE.trans (by rw[decide_eq_false (by omega),Bool.and_false]);exact⟨f.hitE.trans (inn_no.2 hk),f.non h3,h3⟩
theorem req_len(h:x.Ok)(hm:x.mo≠0)(k:ByteArray):(x.req k).keys.length=if(inn x.keys k||decide (x.mo<=x.keys.length))=true then x.keys.length else x.keys.length+1:=by
 have f:=req_f h hm k;have h0:=f.len;rw[f.hitE,f.outE] at h0;rw[h0];cases inn x.keys k with
 |true=>rfl
 |false=>
  by_cases hr:x.mo<=x.keys.length
  . rw[decide_eq_true hr];rfl
  . rw[decide_eq_false hr];rfl
theorem wake{s0 s1 s2 s3 s4:ISt}{a b c:ByteArray}(e1:s1=s0.req a)(e2:s2=s1.req a)(e3:s3=s2.req b)(e4:s4=s3.req c)
 (h0:s0.Ok) (h1:s1.Ok) (h2:s2.Ok) (h3:s3.Ok) (h4:s4.Ok) (m0:s0.mo=2) (k0:s0.keys= []) (hab:b≠a) (hca:c≠a) (hcb:c≠b):
 s0.step a= .agg #[.bool false,.string ⟨#[]⟩,.bool false]/\s1.step a= .agg #[.bool true,.string ⟨#[]⟩,.bool false]/\s2.step b= .agg #[.bool false,.string ⟨#[]⟩,.bool false]/\s3.hitB c=false/\s3.outB c=true/\s4.keys.length=2/\s4.has c=true/\s4.has (s3.vicV c)=false/\s4.mo=2/\s4.kind=s0.kind:=by
 have m1:s1.mo=2:=by rw[e1,mo_req];exact m0
 have m2:s2.mo=2:=by rw[e2,mo_req];exact m1
 have m3:s3.mo=2:=by rw[e3,mo_req];exact m2
 have m4:s4.mo=2:=by rw[e4,mo_req];exact m3
 have f1:=req_f h0 (by omega) a;have f2:=req_f h1 (by omega) a;have f3:=req_f h2 (by omega) b;have f4:=req_f h3 (by omega) c;rw[← e1] at f1;rw[← e2] at f2;rw[← e3] at f3;rw[← e4] at f4;have l1:=req_len h0 (by omega) a;have l2:=req_len h1 (by omega) a;have l3:=req_len h2 (by omega) b;have l4:=req_len h3 (by omega) c;rw[← e1,k0,if_neg (by rw[m0];simp[inn])] at l1;rw[← e2,inn_iff.2 f1.has,Bool.true_or,if_pos rfl] at l2
 have o1:∀x∈s1.keys,x=a:=λx hx=>by
  rcases f1.old x hx with h|h
  . rw[k0] at h;cases h
  . exact h
 have o2:∀x∈s2.keys,x=a:=λx hx=>(f2.old x hx).elim (o1 x) id;have o3:∀x∈s3.keys,x=a\/x=b:=λx hx=>(f3.old x hx).imp (o2 x) id;have l1':s1.keys.length=1:=l1;have l2':s2.keys.length=1:=by omega
 have hb2:b∉s2.keys:=λe=>hab (o2 b e);rw[← e3,inn_no.2 hb2,decide_eq_false (by omega)] at l3;have l3':s3.keys.length=2:=by rw[l3,if_neg (by decide)];omega
 have hc:c∉s3.keys:=λe=>(o3 c e).elim hca hcb;rw[← e4,decide_eq_true (by omega),Bool.or_true,if_pos rfl] at l4;have ho:s3.outB c=true:=by rw[f4.outE,inn_no.2 hc,decide_eq_true (by omega)];rfl
 obtain⟨a1,a2,a3⟩:=hit_no h0 (by omega) (k:=a) (by rw[k0];simp) (by rw[k0,m0];simp);obtain⟨b1,b2,b3⟩:=hit_yes h1 (by omega) f1.has;obtain⟨c1,c2,c3⟩:=hit_no h2 (by omega) hb2 (by omega);refine⟨?_,?_,?_,f4.hitE.trans (inn_no.2 hc),ho,by omega,inn_iff.2 f4.has,inn_no.2 (f4.vic ho).2,m4,?_⟩
 . unfold step;rw[a1,a2,a3]
 . unfold step;rw[b1,b2,b3]
 . unfold step;rw[c1,c2,c3]
 . rw[e4,kind_req,e3,kind_req,e2,kind_req,e1,kind_req]
end ISt
end Go.Proofs.YtbbogjhapeogeaaGreatDoor.IN
set_option maxRecDepth 20000
namespace Go.Proofs.YtbbogjhapeogeaaGreatDoor.IN
open Go.RowKit Sg
def tI:Bool->Nat|true=>71|false=>77
def cV(b:Bool)(c:Nat):Value:= .iface (tI b) (.pointer (some ⟨c,0,none⟩))
def gKind:Bool->Nat|true=>94|false=>158
def gMost:Bool->Nat|true=>96|false=>159
def gHas:Bool->Nat|true=>92|false=>106
def gLen:Bool->Nat|true=>95|false=>108
def gRemove:Bool->Nat|true=>97|false=>110
def gAdopt:Bool->Nat|true=>89|false=>103
def gVictim:Bool->Nat|true=>100|false=>120
def gDrop:Bool->Nat|true=>90|false=>156
def gResize:Bool->Nat|true=>99|false=>118
def gKeys:Bool->Nat|true=>93|false=>107
def gGhosts:Bool->Nat|true=>91|false=>157
def gRequest:Bool->Nat|true=>98|false=>112
theorem cfKind(b:Bool)(args:Array Value)(w:World):(callFunc (gKind b) args).run Tryz.prog w= .ok (.enter (gKind b) args) w:=by
 cases b
 . exact run_enter9 Tryz.func158 (by kernel_rfl) rfl args w
 . exact run_enter9 Tryz.func94 (by kernel_rfl) rfl args w
theorem meKind(b:Bool)(p:Addr)(w:World):(Go.method 381 (tI b) (.pointer (some p)) "Kind" ).run Tryz.prog w= .ok (gKind b,.pointer (some p)) w:=by
 cases b
 . show(Go.method 381 77 (.pointer (some p)) "Kind" ).run Tryz.prog w= .ok (158,.pointer (some p)) w;kernel_rfl
 . show(Go.method 381 71 (.pointer (some p)) "Kind" ).run Tryz.prog w= .ok (94,.pointer (some p)) w;kernel_rfl
theorem cfMost(b:Bool)(args:Array Value)(w:World):(callFunc (gMost b) args).run Tryz.prog w= .ok (.enter (gMost b) args) w:=by
 cases b
 . exact run_enter9 Tryz.func159 (by kernel_rfl) rfl args w
 . exact run_enter9 Tryz.func96 (by kernel_rfl) rfl args w
theorem meMost(b:Bool)(p:Addr)(w:World):(Go.method 381 (tI b) (.pointer (some p)) "Most" ).run Tryz.prog w= .ok (gMost b,.pointer (some p)) w:=by
 cases b
 . show(Go.method 381 77 (.pointer (some p)) "Most" ).run Tryz.prog w= .ok (159,.pointer (some p)) w;kernel_rfl
 . show(Go.method 381 71 (.pointer (some p)) "Most" ).run Tryz.prog w= .ok (96,.pointer (some p)) w;kernel_rfl
theorem cfHas(b:Bool)(args:Array Value)(w:World):(callFunc (gHas b) args).run Tryz.prog w= .ok (.enter (gHas b) args) w:=by
 cases b
 . exact run_enter9 Tryz.func106 (by kernel_rfl) rfl args w
 . exact run_enter9 Tryz.func92 (by kernel_rfl) rfl args w
theorem meHas(b:Bool)(p:Addr)(w:World):(Go.method 381 (tI b) (.pointer (some p)) "Has" ).run Tryz.prog w= .ok (gHas b,.pointer (some p)) w:=by
 cases b
 . show(Go.method 381 77 (.pointer (some p)) "Has" ).run Tryz.prog w= .ok (106,.pointer (some p)) w;kernel_rfl
 . show(Go.method 381 71 (.pointer (some p)) "Has" ).run Tryz.prog w= .ok (92,.pointer (some p)) w;kernel_rfl
theorem cfLen(b:Bool)(args:Array Value)(w:World):(callFunc (gLen b) args).run Tryz.prog w= .ok (.enter (gLen b) args) w:=by
 cases b
 . exact run_enter9 Tryz.func108 (by kernel_rfl) rfl args w
 . exact run_enter9 Tryz.func95 (by kernel_rfl) rfl args w
theorem meLen(b:Bool)(p:Addr)(w:World):(Go.method 381 (tI b) (.pointer (some p)) "Len" ).run Tryz.prog w= .ok (gLen b,.pointer (some p)) w:=by
 cases b
 . show(Go.method 381 77 (.pointer (some p)) "Len" ).run Tryz.prog w= .ok (108,.pointer (some p)) w;kernel_rfl
 . show(Go.method 381 71 (.pointer (some p)) "Len" ).run Tryz.prog w= .ok (95,.pointer (some p)) w;kernel_rfl
theorem cfRemove(b:Bool)(args:Array Value)(w:World):(callFunc (gRemove b) args).run Tryz.prog w= .ok (.enter (gRemove b) args) w:=by
 cases b
 . exact run_enter9 Tryz.func110 (by kernel_rfl) rfl args w
 . exact run_enter9 Tryz.func97 (by kernel_rfl) rfl args w
theorem meRemove(b:Bool)(p:Addr)(w:World):(Go.method 381 (tI b) (.pointer (some p)) "Remove" ).run Tryz.prog w= .ok (gRemove b,.pointer (some p)) w:=by
 cases b
 . show(Go.method 381 77 (.pointer (some p)) "Remove" ).run Tryz.prog w= .ok (110,.pointer (some p)) w;kernel_rfl
 . show(Go.method 381 71 (.pointer (some p)) "Remove" ).run Tryz.prog w= .ok (97,.pointer (some p)) w;kernel_rfl
theorem cfAdopt(b:Bool)(args:Array Value)(w:World):(callFunc (gAdopt b) args).run Tryz.prog w= .ok (.enter (gAdopt b) args) w:=by
 cases b
 . exact run_enter9 Tryz.func103 (by kernel_rfl) rfl args w
 . exact run_enter9 Tryz.func89 (by kernel_rfl) rfl args w
theorem meAdopt(b:Bool)(p:Addr)(w:World):(Go.method 381 (tI b) (.pointer (some p)) "Adopt" ).run Tryz.prog w= .ok (gAdopt b,.pointer (some p)) w:=by
 cases b
 . show(Go.method 381 77 (.pointer (some p)) "Adopt" ).run Tryz.prog w= .ok (103,.pointer (some p)) w;kernel_rfl
 . show(Go.method 381 71 (.pointer (some p)) "Adopt" ).run Tryz.prog w= .ok (89,.pointer (some p)) w;kernel_rfl
theorem cfVictim(b:Bool)(args:Array Value)(w:World):(callFunc (gVictim b) args).run Tryz.prog w= .ok (.enter (gVictim b) args) w:=by
 cases b
 . exact run_enter9 Tryz.func120 (by kernel_rfl) rfl args w
 . exact run_enter9 Tryz.func100 (by kernel_rfl) rfl args w
theorem meVictim(b:Bool)(p:Addr)(w:World):(Go.method 381 (tI b) (.pointer (some p)) "Victim" ).run Tryz.prog w= .ok (gVictim b,.pointer (some p)) w:=by
 cases b
 . show(Go.method 381 77 (.pointer (some p)) "Victim" ).run Tryz.prog w= .ok (120,.pointer (some p)) w;kernel_rfl
 . show(Go.method 381 71 (.pointer (some p)) "Victim" ).run Tryz.prog w= .ok (100,.pointer (some p)) w;kernel_rfl
theorem cfDrop(b:Bool)(args:Array Value)(w:World):(callFunc (gDrop b) args).run Tryz.prog w= .ok (.enter (gDrop b) args) w:=by
 cases b
 . exact run_enter9 Tryz.func156 (by kernel_rfl) rfl args w
 . exact run_enter9 Tryz.func90 (by kernel_rfl) rfl args w
theorem meDrop(b:Bool)(p:Addr)(w:World):(Go.method 381 (tI b) (.pointer (some p)) "Drop" ).run Tryz.prog w= .ok (gDrop b,.pointer (some p)) w:=by
 cases b
 . show(Go.method 381 77 (.pointer (some p)) "Drop" ).run Tryz.prog w= .ok (156,.pointer (some p)) w;kernel_rfl
 . show(Go.method 381 71 (.pointer (some p)) "Drop" ).run Tryz.prog w= .ok (90,.pointer (some p)) w;kernel_rfl
theorem cfResize(b:Bool)(args:Array Value)(w:World):(callFunc (gResize b) args).run Tryz.prog w= .ok (.enter (gResize b) args) w:=by
 cases b
 . exact run_enter9 Tryz.func118 (by kernel_rfl) rfl args w
 . exact run_enter9 Tryz.func99 (by kernel_rfl) rfl args w
theorem meResize(b:Bool)(p:Addr)(w:World):(Go.method 381 (tI b) (.pointer (some p)) "Resize" ).run Tryz.prog w= .ok (gResize b,.pointer (some p)) w:=by
 cases b
 . show(Go.method 381 77 (.pointer (some p)) "Resize" ).run Tryz.prog w= .ok (118,.pointer (some p)) w;kernel_rfl
 . show(Go.method 381 71 (.pointer (some p)) "Resize" ).run Tryz.prog w= .ok (99,.pointer (some p)) w;kernel_rfl
theorem cfKeys(b:Bool)(args:Array Value)(w:World):(callFunc (gKeys b) args).run Tryz.prog w= .ok (.enter (gKeys b) args) w:=by
 cases b
 . exact run_enter9 Tryz.func107 (by kernel_rfl) rfl args w
 . exact run_enter9 Tryz.func93 (by kernel_rfl) rfl args w
theorem meKeys(b:Bool)(p:Addr)(w:World):(Go.method 381 (tI b) (.pointer (some p)) "Keys" ).run Tryz.prog w= .ok (gKeys b,.pointer (some p)) w:=by
 cases b
 . show(Go.method 381 77 (.pointer (some p)) "Keys" ).run Tryz.prog w= .ok (107,.pointer (some p)) w;kernel_rfl
 . show(Go.method 381 71 (.pointer (some p)) "Keys" ).run Tryz.prog w= .ok (93,.pointer (some p)) w;kernel_rfl
theorem cfGhosts(b:Bool)(args:Array Value)(w:World):(callFunc (gGhosts b) args).run Tryz.prog w= .ok (.enter (gGhosts b) args) w:=by
 cases b
 . exact run_enter9 Tryz.func157 (by kernel_rfl) rfl args w
 . exact run_enter9 Tryz.func91 (by kernel_rfl) rfl args w
theorem meGhosts(b:Bool)(p:Addr)(w:World):(Go.method 381 (tI b) (.pointer (some p)) "Ghosts" ).run Tryz.prog w= .ok (gGhosts b,.pointer (some p)) w:=by
 cases b
 . show(Go.method 381 77 (.pointer (some p)) "Ghosts" ).run Tryz.prog w= .ok (157,.pointer (some p)) w;kernel_rfl
 . show(Go.method 381 71 (.pointer (some p)) "Ghosts" ).run Tryz.prog w= .ok (91,.pointer (some p)) w;kernel_rfl
theorem cfRequest(b:Bool)(args:Array Value)(w:World):(callFunc (gRequest b) args).run Tryz.prog w= .ok (.enter (gRequest b) args) w:=by
 cases b
 . exact run_enter9 Tryz.func112 (by kernel_rfl) rfl args w
 . exact run_enter9 Tryz.func98 (by kernel_rfl) rfl args w
theorem meRequest(b:Bool)(p:Addr)(w:World):(Go.method 381 (tI b) (.pointer (some p)) "Request" ).run Tryz.prog w= .ok (gRequest b,.pointer (some p)) w:=by
 cases b
 . show(Go.method 381 77 (.pointer (some p)) "Request" ).run Tryz.prog w= .ok (112,.pointer (some p)) w;kernel_rfl
 . show(Go.method 381 71 (.pointer (some p)) "Request" ).run Tryz.prog w= .ok (98,.pointer (some p)) w;kernel_rfl
section
variable(b:Bool)(w:World)(x c:Nat)
theorem atKind(Q:Value->World->Prop)(h0:w.cell? ⟨x,0,none⟩=some (cV b c))(U:Calls Tryz.prog (gKind b) #[.pointer (some ⟨c,0,none⟩)] w (λe w'=>∃v,e= .returned v/\Q v w')):
 Calls Tryz.prog 28 #[.pointer (some ⟨x,0,none⟩)] w (λe w'=>∃v,e= .returned v/\Q v w'):=by
 have me:=meKind b ⟨c,0,none⟩;have cf:=cfKind b;have U:=Lib.hid U;unfold cV at h0;generalize gKind b=fn at*;generalize tI b=tn at*;go_enter Tryz.func28,Tryz.ntmps28;go_wp2_with fail
 refine U.out.mono ?_;rintro e w1 ⟨v,rfl,hQ⟩;go_wp2_with fail
 go_ret;exact⟨v,rfl,hQ⟩
theorem atMost(Q:Value->World->Prop)(h0:w.cell? ⟨x,0,none⟩=some (cV b c))(U:Calls Tryz.prog (gMost b) #[.pointer (some ⟨c,0,none⟩)] w (λe w'=>∃v,e= .returned v/\Q v w')):
 Calls Tryz.prog 25 #[.pointer (some ⟨x,0,none⟩)] w (λe w'=>∃v,e= .returned v/\Q v w'):=by
 have me:=meMost b ⟨c,0,none⟩;have cf:=cfMost b;have U:=Lib.hid U;unfold cV at h0;generalize gMost b=fn at*;generalize tI b=tn at*;go_enter Tryz.func25,Tryz.ntmps25;go_wp2_with fail
 refine U.out.mono ?_;rintro e w1 ⟨v,rfl,hQ⟩;go_wp2_with fail
 go_ret;exact⟨v,rfl,hQ⟩
theorem atHas(key:ByteArray)(Q:Value->World->Prop)(h0:w.cell? ⟨x,0,none⟩=some (cV b c))(U:Calls Tryz.prog (gHas b) #[.pointer (some ⟨c,0,none⟩),.string key] w (λe w'=>∃v,e= .returned v/\Q v w')):
 Calls Tryz.prog 17 #[.pointer (some ⟨x,0,none⟩),.string key] w (λe w'=>∃v,e= .returned v/\Q v w'):=by
 have me:=meHas b ⟨c,0,none⟩;have cf:=cfHas b;have U:=Lib.hid U;unfold cV at h0;generalize gHas b=fn at*;generalize tI b=tn at*;go_enter Tryz.func17,Tryz.ntmps17;go_wp2_with fail
 refine U.out.mono ?_;rintro e w1 ⟨v,rfl,hQ⟩;go_wp2_with fail
 go_ret;exact⟨v,rfl,hQ⟩
theorem atLen(Q:Value->World->Prop)(h0:w.cell? ⟨x,0,none⟩=some (cV b c))(U:Calls Tryz.prog (gLen b) #[.pointer (some ⟨c,0,none⟩)] w (λe w'=>∃v,e= .returned v/\Q v w')):
 Calls Tryz.prog 18 #[.pointer (some ⟨x,0,none⟩)] w (λe w'=>∃v,e= .returned v/\Q v w'):=by
 have me:=meLen b ⟨c,0,none⟩;have cf:=cfLen b;have U:=Lib.hid U;unfold cV at h0;generalize gLen b=fn at*;generalize tI b=tn at*;go_enter Tryz.func18,Tryz.ntmps18;go_wp2_with fail
 refine U.out.mono ?_;rintro e w1 ⟨v,rfl,hQ⟩;go_wp2_with fail
 go_ret;exact⟨v,rfl,hQ⟩
theorem atRemove(key:ByteArray)(Q:Value->World->Prop)(h0:w.cell? ⟨x,0,none⟩=some (cV b c))(U:Calls Tryz.prog (gRemove b) #[.pointer (some ⟨c,0,none⟩),.string key] w (λe w'=>∃v,e= .returned v/\Q v w')):
 Calls Tryz.prog 26 #[.pointer (some ⟨x,0,none⟩),.string key] w (λe w'=>∃v,e= .returned v/\Q v w'):=by
 have me:=meRemove b ⟨c,0,none⟩;have cf:=cfRemove b;have U:=Lib.hid U;unfold cV at h0;generalize gRemove b=fn at*;generalize tI b=tn at*;go_enter Tryz.func26,Tryz.ntmps26;go_wp2_with fail
 refine U.out.mono ?_;rintro e w1 ⟨v,rfl,hQ⟩;go_wp2_with fail
 go_ret;exact⟨v,rfl,hQ⟩
theorem atAdopt(key:ByteArray)(Q:Value->World->Prop)(h0:w.cell? ⟨x,0,none⟩=some (cV b c))(U:Calls Tryz.prog (gAdopt b) #[.pointer (some ⟨c,0,none⟩),.string key] w (λe w'=>∃v,e= .returned v/\Q v w')):
 Calls Tryz.prog 23 #[.pointer (some ⟨x,0,none⟩),.string key] w (λe w'=>∃v,e= .returned v/\Q v w'):=by
 have me:=meAdopt b ⟨c,0,none⟩;have cf:=cfAdopt b;have U:=Lib.hid U;unfold cV at h0;generalize gAdopt b=fn at*;generalize tI b=tn at*;go_enter Tryz.func23,Tryz.ntmps23;go_wp2_with fail
 refine U.out.mono ?_;rintro e w1 ⟨v,rfl,hQ⟩;go_wp2_with fail
 go_ret;exact⟨v,rfl,hQ⟩
theorem atVictim(s:ByteArray)(o:Bool)(Q:World->Prop)(h0:w.cell? ⟨x,0,none⟩=some (cV b c))(U:Calls Tryz.prog (gVictim b) #[.pointer (some ⟨c,0,none⟩)] w (λe w'=>e= .returned (.tuple #[.string s,.bool o])/\Q w')):
 Calls Tryz.prog 21 #[.pointer (some ⟨x,0,none⟩)] w (λe w'=>e= .returned (.tuple #[.string s,.bool o])/\Q w'):=by
 have me:=meVictim b ⟨c,0,none⟩;have cf:=cfVictim b;have U:=Lib.hid U;unfold cV at h0;generalize gVictim b=fn at*;generalize tI b=tn at*;go_enter Tryz.func21,Tryz.ntmps21;go_wp2_with fail
 refine U.out.mono ?_;rintro e w1 ⟨rfl,hQ⟩;go_wp2_with fail
 go_ret2
 exact⟨rfl,hQ⟩
theorem atDrop(s:ByteArray)(o:Bool)(Q:World->Prop)(h0:w.cell? ⟨x,0,none⟩=some (cV b c))(U:Calls Tryz.prog (gDrop b) #[.pointer (some ⟨c,0,none⟩)] w (λe w'=>e= .returned (.tuple #[.string s,.bool o])/\Q w')):
 Calls Tryz.prog 22 #[.pointer (some ⟨x,0,none⟩)] w (λe w'=>e= .returned (.tuple #[.string s,.bool o])/\Q w'):=by
 have me:=meDrop b ⟨c,0,none⟩;have cf:=cfDrop b;have U:=Lib.hid U;unfold cV at h0;generalize gDrop b=fn at*;generalize tI b=tn at*;go_enter Tryz.func22,Tryz.ntmps22;go_wp2_with fail
 refine U.out.mono ?_;rintro e w1 ⟨rfl,hQ⟩;go_wp2_with fail
 go_ret2
 exact⟨rfl,hQ⟩
theorem atResize(z:Int)(Q:Value->Value->World->Prop)(h0:w.cell? ⟨x,0,none⟩=some (cV b c))(U:Calls Tryz.prog (gResize b) #[.pointer (some ⟨c,0,none⟩),.int .i64 z] w (λe w'=>∃v f,e= .returned (.tuple #[v,f])/\Q v f w')):
 Calls Tryz.prog 24 #[.pointer (some ⟨x,0,none⟩),.int .i64 z] w (λe w'=>∃v f,e= .returned (.tuple #[v,f])/\Q v f w'):=by
 have me:=meResize b ⟨c,0,none⟩;have cf:=cfResize b;have U:=Lib.hid U;unfold cV at h0;generalize gResize b=fn at*;generalize tI b=tn at*;go_enter Tryz.func24,Tryz.ntmps24;go_wp2_with fail
 refine U.out.mono ?_;rintro e w1 ⟨v,f,rfl,hQ⟩;go_wp2_with fail
 go_ret2
 exact⟨v,f,rfl,hQ⟩
theorem atKeys(Q:Value->World->Prop)(h0:w.cell? ⟨x,0,none⟩=some (cV b c))(U:Calls Tryz.prog (gKeys b) #[.pointer (some ⟨c,0,none⟩)] w (λe w'=>∃v,e= .returned v/\Q v w')):
 Calls Tryz.prog 13 #[.pointer (some ⟨x,0,none⟩)] w (λe w'=>∃v,e= .returned v/\Q v w'):=by
 have me:=meKeys b ⟨c,0,none⟩;have cf:=cfKeys b;have U:=Lib.hid U;unfold cV at h0;generalize gKeys b=fn at*;generalize tI b=tn at*;go_enter Tryz.func13,Tryz.ntmps13;go_wp2_with fail
 refine U.out.mono ?_;rintro e w1 ⟨v,rfl,hQ⟩;go_wp2_with fail
 go_ret;exact⟨v,rfl,hQ⟩
theorem atGhosts(Q:Value->World->Prop)(h0:w.cell? ⟨x,0,none⟩=some (cV b c))(U:Calls Tryz.prog (gGhosts b) #[.pointer (some ⟨c,0,none⟩)] w (λe w'=>∃v,e= .returned v/\Q v w')):
 Calls Tryz.prog 19 #[.pointer (some ⟨x,0,none⟩)] w (λe w'=>∃v,e= .returned v/\Q v w'):=by
 have me:=meGhosts b ⟨c,0,none⟩;have cf:=cfGhosts b;have U:=Lib.hid U;unfold cV at h0;generalize gGhosts b=fn at*;generalize tI b=tn at*;go_enter Tryz.func19,Tryz.ntmps19;go_wp2_with fail
 refine U.out.mono ?_;rintro e w1 ⟨v,rfl,hQ⟩;go_wp2_with fail
 go_ret;exact⟨v,rfl,hQ⟩
end
end Go.Proofs.YtbbogjhapeogeaaGreatDoor.IN
