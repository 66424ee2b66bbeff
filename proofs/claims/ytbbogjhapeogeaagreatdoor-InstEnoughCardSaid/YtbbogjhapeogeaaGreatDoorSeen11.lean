/- A map from strings to bools of a law's own, told by the list of its keys; where nobody goes no ghost comes. -/
import Derived.Test.YtbbogjhapeogeaaGreatDoorYd
set_option maxRecDepth 20000
namespace Go.Proofs.YtbbogjhapeogeaaGreatDoor.IN
open Go.RowKit Go.Maps Go.WideMaps Sg
theorem zeroB(w:World):(zeroValue 4).run Tryz.prog w= .ok (.bool false) w:=by kernel_rfl
theorem plainElem_bool_inv{H:Type}{P:Program}{e:TypeId}(he:P.underlying e=some .bool){v:Value}{z:DataW H × List MemPlace}(h:plainElem P e v=some z):∃a,v= .bool a/\z=(.lit (.bool a),[]):=by
 unfold plainElem at h;rw[he] at h;cases v <;> simp at h;subst h;exact⟨_,rfl,rfl⟩
def Seen(w:World)(b:Nat)(S:List ByteArray):Prop:=∃D:DataW Unit,w.ownsMap Tryz.prog 9 (plainElem Tryz.prog 4) b S.length D/\Maps.size D=S.length/\
 ∀s:ByteArray,Maps.has D (.string s.data.toList)=inn S s/\D.atKey (.string s.data.toList) (.lit (.bool false))= .lit (.bool (inn S s))
def add(S:List ByteArray)(s:ByteArray):List ByteArray:=if inn S s then S else S++ [s]
theorem inn_add(S:List ByteArray)(s t:ByteArray):inn (add S s) t=(inn S t||decide (s=t)):=by
 unfold add;split
 . rename_i h
   by_cases e:s=t
   . subst e;simp[h]
   . simp[e]
 . rw[inn_snoc]
theorem mem_add{S:List ByteArray}{s t:ByteArray}:t∈add S s<->t∈S\/t=s:=by
 rw[← inn_iff,inn_add,Bool.or_eq_true,inn_iff,decide_eq_true_eq];exact⟨λh=>h.imp id Eq.symm,λh=>h.imp id Eq.symm⟩
theorem add_in{S:List ByteArray}{s:ByteArray}(h:s∈S):add S s=S:=by unfold add;rw[if_pos (inn_iff.2 h)]
theorem add_len{S:List ByteArray}{s:ByteArray}(h:s∉S):(add S s).length=S.length+1:=by unfold add;rw[if_neg (by rw[inn_no.2 h];simp)];simp
theorem add_le(S:List ByteArray)(s:ByteArray):S.length<=(add S s).length/\(add S s).length<=S.length+1:=by
 unfold add;split <;> simp
section
variable{w:World}{b:Nat}{S:List ByteArray}
theorem Seen.made(w:World):Seen (w.alloc (.map #[] 0)) w.heap.size []:=⟨.map [],World.ownsMap_made w _ _ _,rfl,λ_=>⟨rfl,rfl⟩⟩
theorem Seen.lt(h:Seen w b S):b < w.heap.size:=by
 obtain⟨D,h1,_⟩:=h;exact h1.lt
theorem Seen.same{w':World}(h:Seen w b S)(hs:w'.heap[b]?=w.heap[b]?):Seen w' b S:=by
 obtain⟨D,h1,h2⟩:=h;exact⟨D,owns_same h1 hs,h2⟩
theorem Seen.look(h:Seen w b S){s:ByteArray}(hs:s.size<=maxLen):(Instr.lookup 42 (.map (some b)) (.string s) false).run Tryz.prog w= .ok (.bool (inn S s)) w:=by
 obtain⟨D,h1,_,h3⟩:=h;obtain⟨v,ps,hrun,hv⟩:=h1.lookup lawS Tryz.underlying42 (zeroB w) (plainElem_bool Tryz.underlying4 false) (keyOf_string_mk Tryz.underlying9 hs);obtain⟨c,rfl,hc⟩:=plainElem_bool_inv Tryz.underlying4 hv;have hc:=congrArg Prod.fst hc;simp only[(h3 s).2] at hc;injection hc with hc
 injection hc with hc
 rw[hrun,hc]
theorem Seen.len(h:Seen w b S)(ty:TypeId):(Builtin.len_ #[42] ty #[.map (some b)]).run Tryz.prog w= .ok (.int .i64 (S.length:Int)) w:=by
 obtain⟨D,h1,h2,_⟩:=h;rw[h1.len Tryz.underlying42 ty,h2]
theorem Seen.store(h:Seen w b S){s:ByteArray}(hs:s.size<=maxLen)(hn:S.length<=1000000):
 ∃w',(Instr.mapUpdate 42 (.map (some b)) (.string s) (.bool true)).run Tryz.prog w= .ok () w'/\Seen w' b (add S s)/\w.grownBy w' (some b):=by
 obtain⟨D,h1,h2,h3⟩:=h;obtain⟨w',hrun,hown,hg⟩:=h1.update lawS Tryz.underlying42 (by unfold maxLen;omega) (keyOf_string_mk Tryz.underlying9 hs) (plainElem_bool Tryz.underlying4 true);have hk:WideAt.IsKeyLit (.string s.data.toList):=trivial
 have hsz:Maps.size (D.put (.string s.data.toList) (.lit (.bool true)))=(add S s).length:=by
  rw[size_put (h1.tidy lawS),(h3 s).1,h2];unfold add;split <;> simp
 refine⟨w',hrun,⟨_,hsz▸owns_size hown,hsz,λt=>?_⟩,hg⟩;rw[inn_add]
 by_cases e:t=s
 . subst e;rw[has_put_same h1.isMap hk,atKey_put_same h1.isMap hk];simp
 . rw[has_put_other (str_ne e),atKey_put_other (str_ne e),decide_eq_false (λh=>e h.symm),Bool.or_false];exact h3 t
end
theorem gho_sr{s:SR.St}(h:SR.Ok s)(hm:s.mo≠0)(k:ByteArray)(hg:s.G= [])(ho:s.out k=false):(s.req k).G= []:=by
 have f:=req_sr h hm k;have hl:=f.len;have ht:=SR.req_tot h k;have e1:(s.req k).tot=(s.req k).A.length+(s.req k).N.length+(s.req k).G.length:=rfl;have e2:s.tot=s.A.length+s.N.length+s.G.length:=rfl;rw[List.length_reverse,List.length_append,List.length_reverse,List.length_append,ho] at hl;rw[hg] at e2;cases hh:s.hit k with
 |true=>
  have hi:inn (s.A++s.N).reverse k=true:=f.hitE.symm.trans hh
  have hi2:inn s.A k=true\/inn s.N k=true:=by
   rw[inn_iff,List.mem_reverse,List.mem_append] at hi;exact hi.imp inn_iff.2 inn_iff.2
  unfold SR.St.req;rw[if_neg hm]
  by_cases ha:inn s.A k=true
  . rw[if_pos ha];exact hg
  . rw[if_neg ha,if_pos (hi2.resolve_left ha)];exact hg
 |false=>
  rw[hh] at hl;simp at hl e2;exact List.eq_nil_of_length_eq_zero (by omega)
theorem gho_ar{s:AR.St}(h:AR.Ok s)(hm:s.mo≠0)(k:ByteArray)(hg:AR.ghL s.R= [])(ho:(!(s.vs k).isEmpty)=false):AR.ghL (s.req k).R= []:=by
 have f:=AR.req_f h hm k;have hl:=f.len;have ht:=AR.req_tot h k;have hg2:s.R 2= []/\s.R 3= []:=List.append_eq_nil_iff.1 hg;rw[AR.keysL_len,AR.keysL_len,ho] at hl;cases hh:AR.hit s.R k with
 |true=>
  unfold AR.St.req;rw[if_neg hm,if_pos hh];show AR.putR s.R k 1 2++AR.putR s.R k 1 3= [];rw[AR.put_ne (by decide),AR.put_ne (by decide),hg2.1,hg2.2];rfl
 |false=>
  rw[hh] at hl;simp at hl;unfold AR.totR at ht;unfold AR.lenR at hl;rw[hg2.1,hg2.2] at ht;simp at ht;have h2:(s.req k).R 2= []:=List.eq_nil_of_length_eq_zero (by omega);have h3:(s.req k).R 3= []:=List.eq_nil_of_length_eq_zero (by omega);show(s.req k).R 2++(s.req k).R 3= [];rw[h2,h3];rfl
theorem gho_l{s:LE.St}(k:ByteArray)(hm:s.mo≠0)(hg:s.ghosts= [])(ho:s.outB k=false):(s.req k).ghosts= []:=by
 have hg2:LE.gk s.HA= []/\LE.gk s.HB= []:=List.append_eq_nil_iff.1 hg;have hA:s.HA= []:=List.map_eq_nil_iff.1 hg2.1;have hB:s.HB= []:=List.map_eq_nil_iff.1 hg2.2
 have key:∀t:LE.St,t.HA= []->t.HB= []->t.window.ghosts= []:=λt h1 h2=>by
  have w:=LE.window_same t;show LE.gk t.window.HA++LE.gk t.window.HB= [];rw[w.2.2.2.2.2.1,w.2.2.2.2.2.2.1,h1,h2];rfl
 cases hh:s.has k with
 |true=>rw[LE.req_hit hm hh];exact key _ hA hB
 |false=>
  rw[LE.req_miss hm hh]
  have hf:s.tick.full=false:=by
   unfold LE.St.outB at ho;rw[hh,decide_eq_true hm] at ho;exact ho
  have e:s.tick.make k=s.tick.regret k:=by unfold LE.St.make;rw[if_neg (by rw[hf];simp)]
  rw[e];exact key _ (by show LE.wo s.HA k= [];rw[hA];rfl) (by show LE.wo s.HB k= [];rw[hB];rfl)
theorem ISt.gho_none{x:ISt}(h:x.Ok)(hm:x.mo≠0)(k:ByteArray)(hg:x.ghosts= [])(ho:x.outB k=false):(x.req k).ghosts= []:=by
 cases x with
 |p st=>
  cases st with
  |lr mo ks=>rfl
  |lf ch mo n L=>rfl
  |sr s=>exact gho_sr h hm k hg ho
  |ar s=>exact gho_ar h hm k hg ho
 |l s=>exact gho_l k hm hg ho
def dst(S:Nat->ByteArray):Nat->List ByteArray
 |0=>[]
 |k+1=>add (dst S k) (S k)
theorem dst_le(S:Nat->ByteArray):∀(k:Nat),(dst S k).length<=k
 |0=>Nat.le_refl _
 |k+1=>Nat.le_trans (add_le _ _).2 (Nat.succ_le_succ (dst_le S k))
theorem dst_mono(S:Nat->ByteArray)(k:Nat):∀d,(dst S k).length<=(dst S (k+d)).length
 |0=>Nat.le_refl _
 |d+1=>Nat.le_trans (dst_mono S k d) (add_le _ _).1
structure Eno(S:Nat->ByteArray)(mo:Nat)(s:ISt)(k h:Nat):Prop where
 mo:s.mo=mo
 mem:∀x,x∈s.keys<->x∈dst S k
 len:s.keys.length=(dst S k).length
 hits:h+(dst S k).length=k
 gho:s.ghosts= []
theorem Eno.next{S:Nat->ByteArray}{mo k h n:Nat}{s:ISt}(q:Eno S mo s k h)(ok:s.Ok)(hk:k < n)(hn:(dst S n).length<=mo):
 s.hitB (S k)=inn (dst S k) (S k)/\s.vicV (S k)=⟨#[]⟩/\s.outB (S k)=false/\Eno S mo (s.req (S k)) (k+1) (if s.hitB (S k)=true then h+1 else h):=by
 have hm1:=dst_mono S (k+1) (n - (k+1));rw[show k+1+(n - (k+1))=n by omega] at hm1;have hin:inn s.keys (S k)=inn (dst S k) (S k):=by rw[Bool.eq_iff_iff,inn_iff,inn_iff];exact q.mem _
 have hd:dst S (k+1)=add (dst S k) (S k):=rfl
 have h0:mo≠0:=by
  have h1:S k∈dst S (k+1):=by rw[hd];exact mem_add.2 (Or.inr rfl)
  have:=List.length_pos_of_mem h1;omega
 have f:=ISt.req_f ok (by rw[q.mo];exact h0) (S k);rw[q.mo] at f;have hE:s.hitB (S k)=inn (dst S k) (S k):=f.hitE.trans hin
 have ho:s.outB (S k)=false:=by
  rw[f.outE,hin];cases hi:inn (dst S k) (S k) with
  |true=>rfl
  |false=>
   have:=add_len (inn_no.1 hi);rw[← hd] at this;rw[decide_eq_false (by rw[q.len];omega)];rfl
 refine⟨hE,f.non ho,ho,(ISt.mo_req _ _).trans q.mo,λx=>?_,?_,?_,ISt.gho_none ok (by rw[q.mo];exact h0) _ q.gho ho⟩
 . rw[hd,mem_add];constructor
   . intro hx;exact(f.old x hx).imp (q.mem x).1 id
   . rintro(hx|rfl)
     . exact(f.stay x ((q.mem x).2 hx)).resolve_right λe=>by rw[ho] at e;cases e.1
     . exact f.has
 . have hl:=f.len;rw[hE,ho] at hl;rw[hl,hd,q.len];cases hi:inn (dst S k) (S k) with
   |true=>rw[add_in (inn_iff.1 hi)];rfl
   |false=>rw[add_len (inn_no.1 hi)];rfl
 . have hh:=q.hits;rw[hE,hd];cases hi:inn (dst S k) (S k) with
   |true=>rw[add_in (inn_iff.1 hi),if_pos rfl];omega
   |false=>rw[add_len (inn_no.1 hi),if_neg (by simp)];omega
theorem Eno.start{S:Nat->ByteArray}{kd mo:Nat}(hk:kd < 7)(vs:List Nat):Eno S mo (ISt.start kd mo vs) 0 0:=by
 obtain⟨_,h2,h3,h4⟩:=ISt.start_kind hk mo vs;exact⟨h2,λx=>by rw[h3];exact Iff.rfl,by rw[h3];rfl,rfl,h4⟩
end Go.Proofs.YtbbogjhapeogeaaGreatDoor.IN
