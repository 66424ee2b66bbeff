/- Pf GAf Kn Kf Kw Ko GFn Ln Kv, in one text. -/
import Derived.Test.YtdmmciggopmglaaGreatDoorGBas
import Derived.Test.YtdmmciggopmglaaGreatDoorGAr
import Derived.Test.YtdmmciggopmglaaGreatDoorGLr
import Derived.Test.YtdmmciggopmglaaGreatDoorGLf
import Derived.Test.YtdmmciggopmglaaGreatDoorGSr
namespace Go.Proofs.YtdmmciggopmglaaGreatDoor
open Sg
structure ReqF(K K':List ByteArray)(mo:Nat)(k:ByteArray)(h:Bool)(v:ByteArray)(o:Bool):Prop where
 hitE:h=inn K k
 outE:o=(!inn K k&&decide (mo<=K.length))
 vic:o=true->v∈K/\v∉K'
 non:o=false->v=⟨#[]⟩
 has:k∈K'
 stay:∀x∈K,x∈K'\/(o=true/\x=v)
 old:∀x∈K',x∈K\/x=k
 len:K'.length=K.length+(if h||o then 0 else 1)
structure RmF(K K' G':List ByteArray)(k:ByteArray)(was:Bool):Prop where
 wasE:was=inn K k
 mem:∀x,x∈K'<->x∈K/\x≠k
 gho:k∉G'
 len:K'.length+(if was then 1 else 0)=K.length
structure AdF(K K' G':List ByteArray)(mo:Nat)(k:ByteArray)(ad:Bool):Prop where
 adE:ad=(!inn K k&&decide (K.length < mo))
 mem:∀x,x∈K'<->x∈K\/(ad=true/\x=k)
 gho:ad=true->k∉G'
 len:K'.length=K.length+(if ad then 1 else 0)
structure DrF(K K' G G':List ByteArray)(v:ByteArray)(ok:Bool):Prop where
 okE:ok=!K.isEmpty
 vic:ok=true->v∈K
 mem:∀x,x∈K'<->x∈K/\(ok=true->x≠v)
 gho:G'=G
 len:K'.length+(if ok then 1 else 0)=K.length
structure RsF(K K':List ByteArray)(n:Nat)(out:List ByteArray):Prop where
 num:out.length=K.length - n
 len:K'.length+out.length=K.length
 gone:∀x∈out,x∈K/\x∉K'
 stay:∀x∈K,x∈K'\/x∈out
 old:∀x∈K',x∈K
end Go.Proofs.YtdmmciggopmglaaGreatDoor
namespace Go.Proofs.YtdmmciggopmglaaGreatDoor.AR
open Go.RowKit Sg
def keysL(R:Rw4):List ByteArray:=(R 1++R 0).reverse
def ghL(R:Rw4):List ByteArray:=R 2++R 3
theorem keysL_len(R:Rw4):(keysL R).length=lenR R:=by unfold keysL lenR;rw[List.length_reverse,List.length_append];omega
theorem keysL_mem{R:Rw4}{x:ByteArray}:x∈keysL R<->hit R x=true:=by
 unfold keysL;rw[List.mem_reverse,List.mem_append,hit_iff];exact Or.comm
theorem keysL_put(R:Rw4)(k:ByteArray):keysL (putR R k 1)=(rem (R 1) k++rem (R 0) k).reverse++ [k]:=by
 unfold keysL;rw[put_at,put_ne (by omega),List.cons_append,List.reverse_cons]
theorem last_put(R:Rw4)(k:ByteArray):(keysL (putR R k 1)).getD ((keysL (putR R k 1)).length - 1) ⟨#[]⟩=k:=by
 rw[keysL_put,List.length_append,List.length_cons,List.length_nil,List.getD_eq_getElem?_getD,Nat.zero_add,Nat.add_sub_cancel,List.getElem?_concat_length];rfl
theorem keysL_pos(R:Rw4)(k:ByteArray):0 < (keysL (putR R k 1)).length:=by rw[keysL_put,List.length_append];simp
section
variable{s:St}{k:ByteArray}
theorem hit_req(hm:s.mo≠0)(hh:hit s.R k=true):s.req k=⟨s.mo,s.p,putR s.R k 1⟩/\s.step k= .agg #[.bool true,.string ⟨#[]⟩,.bool false]:=by
 unfold St.req St.step St.vs;rw[if_neg hm,if_pos hh,if_neg hm,if_pos hh,hh];exact⟨rfl,rfl⟩
theorem hit_ghosts(h:Ok s)(hh:hit s.R k=true):ghL (putR s.R k 1)=ghL s.R:=by
 have no:∀j,2<=j->j < 4->k∉s.R j:=λj h2 h4 hx=>by
  rcases hit_iff.1 hh with hi|hi
  . have:=h.pre.dis 0 j (by omega) h4 k hi hx;omega
  . have:=h.pre.dis 1 j (by omega) h4 k hi hx;omega
 unfold ghL;rw[put_ne (by omega),put_ne (by omega),rem_none (no 2 (by omega) (by omega)),rem_none (no 3 (by omega) (by omega))]
theorem hit_counts(h:Ok s)(hh:hit s.R k=true):(putR s.R k 1 0).length+(putR s.R k 1 1).length=(s.R 0).length+(s.R 1).length/\(putR s.R k 1 0).length<=(s.R 0).length:=by
 rw[put_at,put_ne (by omega),List.length_cons];rcases hit_iff.1 hh with hi|hi
 . have h1:=rem_len (h.pre.nd 0 (by omega)) hi;have h2:k∉s.R 1:=λhx=>by have:=h.pre.dis 0 1 (by omega) (by omega) k hi hx;omega
   rw[rem_none h2];omega
 . have h1:=rem_len (h.pre.nd 1 (by omega)) hi;have h2:k∉s.R 0:=λhx=>by have:=h.pre.dis 0 1 (by omega) (by omega) k hx hi;omega
   rw[rem_none h2];omega
theorem put_hit(R:Rw4)(k:ByteArray)(j:Nat)(hj:j < 2):hit (putR R k j) k=true:=by
 rw[hit_iff];obtain rfl|rfl:j=0\/j=1:=by omega
 . exact Or.inl (by rw[put_at];exact List.mem_cons_self)
 . exact Or.inr (by rw[put_at];exact List.mem_cons_self)
theorem req_in(hm:s.mo≠0)(k:ByteArray):hit (s.req k).R k=true:=by
 unfold St.req;rw[if_neg hm];split
 . exact put_hit _ _ 1 (by omega)
 split
 . exact put_hit _ _ 1 (by omega)
 split
 . exact put_hit _ _ 1 (by omega)
 . exact put_hit _ _ 0 (by omega)
end
theorem outs_in{R:Rw4}{p:Nat}{q:Bool}(h:Pre R):∀{n:Nat},n<=lenR R->∀x∈outs p q R n,(x∈cutn p q R n 2\/x∈cutn p q R n 3)/\(x∈R 0\/x∈R 1)
 |0,_,x,hx=>by cases hx
 |n+1,hn,x,hx=>by
  have c:=cutn_ok (p:=p) (q:=q) h (n:=n) (by omega);have hl:=c.len;have hpos:0 < lenR (cutn p q R n):=by omega
  have d:=cut1_ok (p:=p) (q:=q) c.pre hpos;have hx:x∈outs p q R n++ [lastKey (cutn p q R n (lv (cutn p q R n) p q))]:=hx;show(x∈cut1 p q (cutn p q R n) 2\/x∈cut1 p q (cutn p q R n) 3)/\_;rcases List.mem_append.1 hx with h1|h1
  . obtain⟨h2,h3⟩:=outs_in h (n:=n) (by omega) x h1;exact⟨h2.imp (d.gh 2 (by omega) (by omega) x) (d.gh 3 (by omega) (by omega) x),h3⟩
  . rw[List.mem_singleton] at h1;have h0:=lv_pos (p:=p) (q:=q) hpos;have hxl:x∈cutn p q R n (lv (cutn p q R n) p q):=h1▸last_mem h0;refine⟨?_,?_⟩
    . rw[cut1_eq c.pre hpos];rcases lv_two (cutn p q R n) p q with e|e
      . rw[e] at h1|-;exact Or.inl (by rw[upd_same,<-h1];exact List.mem_cons_self)
      . rw[e] at h1|-;exact Or.inr (by rw[upd_same,<-h1];exact List.mem_cons_self)
    . have hr:∀m,m<=n->∀j,j < 2->(cutn p q R m j).Sublist (R j):=λm=>by
       induction m with
       |zero=>exact λ_ _ _=>List.Sublist.refl _
       |succ m ih=>
        intro hm j hj;have cm:=cutn_ok (p:=p) (q:=q) h (n:=m) (by omega);have cl:=cm.len;show(cut1 p q (cutn p q R m) j).Sublist (R j);rw[cut1_eq cm.pre (by omega),upd_ne (by omega)]
        by_cases e:j=lv (cutn p q R m) p q
        . rw[e,upd_same,<-e];exact(List.dropLast_sublist _).trans (ih (by omega) j hj)
        . rw[upd_ne e];exact ih (by omega) j hj
      rcases lv_two (cutn p q R n) p q with e|e
      . rw[e] at hxl;exact Or.inl ((hr n (Nat.le_refl _) 0 (by omega)).subset hxl)
      . rw[e] at hxl;exact Or.inr ((hr n (Nat.le_refl _) 1 (by omega)).subset hxl)
theorem vic_in{vs:List ByteArray}(h:(!vs.isEmpty)=true):vicOf vs∈vs:=by
 have hn:vs≠ []:=λe=>by rw[e] at h;cases h
 unfold vicOf;rw[if_neg hn];exact last_mem (List.length_pos_iff.2 hn)
section
variable{s:St}{k:ByteArray}
theorem ghost_hit(h:Ok s)(hk:k∈s.R 2\/k∈s.R 3):hit s.R k=false:=by
 rw[hit_no];rcases hk with hk|hk
 . exact⟨λhx=>by have:=h.pre.dis 0 2 (by omega) (by omega) k hx hk;omega,λhx=>by have:=h.pre.dis 1 2 (by omega) (by omega) k hx hk;omega⟩
 . exact⟨λhx=>by have:=h.pre.dis 0 3 (by omega) (by omega) k hx hk;omega,λhx=>by have:=h.pre.dis 1 3 (by omega) (by omega) k hx hk;omega⟩
theorem back_one(h:Ok s)(hk:k∈s.R 2\/k∈s.R 3)(p:Nat)(q:Bool):∀x∈outs p q s.R (lenR s.R - (s.mo - 1)),inn (ghL (putR (cutn p q s.R (lenR s.R - (s.mo - 1))) k 1)) x=true:=by
 intro x hx;obtain⟨h1,h2⟩:=outs_in h.pre (by omega) x hx
 have hne:x≠k:=λe=>by
  have:=hit_no.1 (ghost_hit h hk);subst e;exact h2.elim this.1 this.2
 rw[inn_iff];unfold ghL;rw[put_ne (by omega),put_ne (by omega),List.mem_append];exact h1.imp (λh=>rem_mem.2 ⟨h,hne⟩) λh=>rem_mem.2 ⟨h,hne⟩
theorem back_all(h:Ok s)(hm:s.mo≠0)(hk:k∈s.R 2\/k∈s.R 3):∃v o,s.step k= .agg #[.bool false,.string v,.bool o]/\(o=true->inn (ghL (s.req k).R) v=true)/\hit (s.req k).R k=true/\inn (ghL (s.req k).R) k=false/\
 (keysL (s.req k).R).getD ((keysL (s.req k).R).length - 1) ⟨#[]⟩=k/\0 < (keysL (s.req k).R).length:=by
 have hh:=ghost_hit h hk;have nh:¬hit s.R k=true:=by rw[hh];simp
 have fin:∀p q,s.req k=⟨s.mo,p,putR (cutn p q s.R (lenR s.R - (s.mo - 1))) k 1⟩->s.vs k=outs p q s.R (lenR s.R - (s.mo - 1))->∃v o,s.step k= .agg #[.bool false,.string v,.bool o]/\(o=true->inn (ghL (s.req k).R) v=true)/\hit (s.req k).R k=true/\inn (ghL (s.req k).R) k=false/\
  (keysL (s.req k).R).getD ((keysL (s.req k).R).length - 1) ⟨#[]⟩=k/\0 < (keysL (s.req k).R).length:=λp q e1 e2=>by
  refine⟨vicOf (s.vs k),!(s.vs k).isEmpty,by unfold St.step;rw[hh],λho=>?_,?_⟩
  . rw[e1];have:=vic_in ho;rw[e2] at this|-;exact back_one h hk p q _ this
  . rw[e1];refine⟨put_hit _ _ 1 (by omega),?_,last_put _ _,keysL_pos _ _⟩;rw[inn_no];show k∉putR _ k 1 2++putR _ k 1 3;rw[put_ne (by omega),put_ne (by omega),List.mem_append];exact λhx=>hx.elim rem_not rem_not
 cases h2:inn (s.R 2) k with
 |true=>
  exact fin (rpU s.mo s.p s.R) false (by unfold St.req;rw[if_neg hm,if_neg nh,if_pos h2]) (by unfold St.vs;rw[if_neg hm,if_neg nh,if_pos h2])
 |false=>
  have n2:¬inn (s.R 2) k=true:=by rw[h2];simp
  have h3:inn (s.R 3) k=true:=by
   rw[inn_iff];exact hk.resolve_left (inn_no.1 h2)
  exact fin (lpU s.p s.R) true (by unfold St.req;rw[if_neg hm,if_neg nh,if_neg n2,if_pos h3]) (by unfold St.vs;rw[if_neg hm,if_neg nh,if_neg n2,if_pos h3])
end
section
variable{s:St}{k:ByteArray}
theorem new_gone(h:Ok s)(hm:s.mo≠0)(hh:hit s.R k=false)(h2:inn (s.R 2) k=false)(h3:inn (s.R 3) k=false):
 ∀x∈s.vs k,hit (s.req k).R x=false:=by
 intro x hx;have n1:¬hit s.R k=true:=by rw[hh];simp
 have n2:¬inn (s.R 2) k=true:=by rw[h2];simp
 have n3:¬inn (s.R 3) k=true:=by rw[h3];simp
 have e:s.req k=⟨s.mo,s.p,putR (cutn s.p false (plR s.mo s.R) (lenR (plR s.mo s.R) - (s.mo - 1))) k 0⟩:=by unfold St.req;rw[if_neg hm,if_neg n1,if_neg n2,if_neg n3]
 have ev:s.vs k=plV s.mo s.R++outs s.p false (plR s.mo s.R) (lenR (plR s.mo s.R) - (s.mo - 1)):=by unfold St.vs;rw[if_neg hm,if_neg n1,if_neg n2,if_neg n3]
 rw[ev] at hx;obtain⟨p1,p2,p3,p4,p5⟩:=pl_ok h hm;have hk0:=hit_no.1 hh;rcases List.mem_append.1 hx with hx|hx
 .
  unfold plV at hx
  by_cases c1:(s.R 0).length+(s.R 2).length < s.mo
  . rw[if_pos c1] at hx;cases hx
  rw[if_neg c1] at hx
  by_cases c2:(s.R 0).length < s.mo
  . rw[if_pos c2] at hx;cases hx
  rw[if_neg c2,List.mem_singleton] at hx;have g1:=h.le;have hpl:plR s.mo s.R=upd s.R 0 (s.R 0).dropLast:=by unfold plR;rw[if_neg c1,if_neg c2]
  have hz:lenR (upd s.R 0 (s.R 0).dropLast) - (s.mo - 1)=0:=by unfold lenR at *;simp[upd];omega
  have hpos:0 < (s.R 0).length:=by omega
  have hxm:x∈s.R 0:=hx▸last_mem hpos;have hne:x≠k:=λe=>hk0.1 (e▸hxm);rw[e,hpl,hz];show hit (putR (upd s.R 0 (s.R 0).dropLast) k 0) x=false;rw[hit_no,put_at,put_ne (by omega),upd_same,upd_ne (by omega)];refine⟨λhc=>?_,λhc=>?_⟩
  . rcases List.mem_cons.1 hc with hc|hc
    . exact hne hc
    . have:=(rem_mem.1 hc).1;rw[hx] at this;exact last_out (h.pre.nd 0 (by omega)) hpos this
  . have:=h.pre.dis 0 1 (by omega) (by omega) x hxm (rem_mem.1 hc).1;omega
 . obtain⟨g1,g2⟩:=outs_in p1 (by omega) x hx
   have hne:x≠k:=λe=>by
    subst e;exact g2.elim (λhc=>hk0.1 ((p2 0 (by omega)).subset hc)) λhc=>hk0.2 ((p2 1 (by omega)).subset hc)
   have hok:=h.req k;refine ghost_hit hok ?_;rw[e];show x∈putR _ k 0 2\/x∈putR _ k 0 3;rw[put_ne (by omega),put_ne (by omega)];exact g1.imp (λh=>rem_mem.2 ⟨h,hne⟩) λh=>rem_mem.2 ⟨h,hne⟩
theorem vic_gone(h:Ok s)(hm:s.mo≠0)(ho:(!(s.vs k).isEmpty)=true):hit s.R k=false/\hit (s.req k).R (vicOf (s.vs k))=false:=by
 have hv:=vic_in ho;cases hh:hit s.R k with
 |true=>
  have:s.vs k= []:=by unfold St.vs;rw[if_neg hm,if_pos hh]
  rw[this] at ho;cases ho
 |false=>
 refine⟨rfl,?_⟩
 have ghost:(k∈s.R 2\/k∈s.R 3)->hit (s.req k).R (vicOf (s.vs k))=false:=λhk=>by
  obtain⟨v,o,hst,hin,_⟩:=back_all h hm hk;unfold St.step at hst;injection hst with hst
  have e1:=congrArg (λa:Array Value=>a[1]?) hst;have e2:=congrArg (λa:Array Value=>a[2]?) hst;simp only[List.getElem?_toArray,List.getElem?_cons_succ,List.getElem?_cons_zero,Option.some.injEq,Value.string.injEq,Value.bool.injEq] at e1 e2;rw[e1];rw[e2] at ho;have:=hin ho;rw[inn_iff] at this;exact ghost_hit (h.req k) (List.mem_append.1 this)
 cases h2:inn (s.R 2) k with
 |true=>exact ghost (Or.inl (inn_iff.1 h2))
 |false=>
 cases h3:inn (s.R 3) k with
 |true=>exact ghost (Or.inr (inn_iff.1 h3))
 |false=>exact new_gone h hm hh h2 h3 _ hv
theorem vs_old(h:Ok s)(hm:s.mo≠0):∀x∈s.vs k,x∈s.R 0\/x∈s.R 1:=by
 intro x hx;unfold St.vs at hx;rw[if_neg hm] at hx;split at hx
 . cases hx
 split at hx
 . exact(outs_in h.pre (by omega) x hx).2
 split at hx
 . exact(outs_in h.pre (by omega) x hx).2
 obtain⟨p1,p2,_⟩:=pl_ok h hm;rcases List.mem_append.1 hx with hx|hx
 . unfold plV at hx;split at hx
   . cases hx
   split at hx
   . cases hx
   . rename_i c2
     rw[List.mem_singleton] at hx;exact Or.inl (hx▸last_mem (by omega))
 . exact(outs_in p1 (by omega) x hx).2.imp (λhc=>(p2 0 (by omega)).subset hc) λhc=>(p2 1 (by omega)).subset hc
end
theorem outs_len(p:Nat)(q:Bool)(R:Rw4):∀n,(outs p q R n).length=n
 |0=>rfl
 |n+1=>by show(outs p q R n++ [_]).length=_;rw[List.length_append,outs_len p q R n];rfl
theorem cut1_stay{R:Rw4}{p:Nat}{q:Bool}(h:Pre R)(hl:0 < lenR R){x:ByteArray}(hx:x∈R 0\/x∈R 1):(x∈cut1 p q R 0\/x∈cut1 p q R 1)\/x=lastKey (R (lv R p q)):=by
 have h0:=lv_pos (p:=p) (q:=q) hl
 have split:∀xs:List ByteArray,0 < xs.length->x∈xs->x∈xs.dropLast\/x=lastKey xs:=λxs hp hm=>by
  have hn:xs≠ []:=λe=>by rw[e] at hp;exact Nat.lt_irrefl _ hp
  have e:xs.dropLast++ [lastKey xs]=xs:=by
   unfold lastKey;rw[List.getLastD_eq_getLast?,List.getLast?_eq_some_getLast hn];exact List.dropLast_concat_getLast hn
  rw[← e] at hm;rcases List.mem_append.1 hm with h|h
  . exact Or.inl h
  . exact Or.inr (List.mem_singleton.1 h)
 rw[cut1_eq h hl];rcases lv_two R p q with e|e <;> rw[e] at h0|-
 . rcases hx with hx|hx
   . rcases split _ h0 hx with hs|hs
     . exact Or.inl (Or.inl (by rw[upd_ne (by omega),upd_same];exact hs))
     . exact Or.inr hs
   . exact Or.inl (Or.inr (by rw[upd_ne (by omega),upd_ne (by omega)];exact hx))
 . rcases hx with hx|hx
   . exact Or.inl (Or.inl (by rw[upd_ne (by omega),upd_ne (by omega)];exact hx))
   . rcases split _ h0 hx with hs|hs
     . exact Or.inl (Or.inr (by rw[upd_ne (by omega),upd_same];exact hs))
     . exact Or.inr hs
theorem cutn_stay{R:Rw4}{p:Nat}{q:Bool}(h:Pre R):∀{n:Nat},n<=lenR R->∀x,x∈R 0\/x∈R 1->(x∈cutn p q R n 0\/x∈cutn p q R n 1)\/x∈outs p q R n
 |0,_,_,hx=>Or.inl hx
 |n+1,hn,x,hx=>by
  have c:=cutn_ok (p:=p) (q:=q) h (n:=n) (by omega);have hl:=c.len;show(x∈cut1 p q (cutn p q R n) 0\/x∈cut1 p q (cutn p q R n) 1)\/x∈outs p q R n++ [_];rcases cutn_stay h (n:=n) (by omega) x hx with h1|h1
  . rcases cut1_stay (p:=p) (q:=q) c.pre (by omega) h1 with h2|h2
    . exact Or.inl h2
    . exact Or.inr (List.mem_append_right _ (by rw[h2];exact List.mem_cons_self))
  . exact Or.inr (List.mem_append_left _ h1)
theorem cutn_sub{R:Rw4}{p:Nat}{q:Bool}(h:Pre R):∀{n:Nat},n<=lenR R->∀j,j < 2->(cutn p q R n j).Sublist (R j)
 |0,_,_,_=>List.Sublist.refl _
 |n+1,hn,j,hj=>by
  have c:=cutn_ok (p:=p) (q:=q) h (n:=n) (by omega);have hl:=c.len;show(cut1 p q (cutn p q R n) j).Sublist (R j);rw[cut1_eq c.pre (by omega),upd_ne (by omega)]
  by_cases e:j=lv (cutn p q R n) p q
  . rw[e,upd_same,<-e];exact(List.dropLast_sublist _).trans (cutn_sub h (n:=n) (by omega) j hj)
  . rw[upd_ne e];exact cutn_sub h (n:=n) (by omega) j hj
theorem keysL_in{R:Rw4}{x:ByteArray}:x∈keysL R<->x∈R 0\/x∈R 1:=by rw[keysL_mem,hit_iff]
theorem inn_keys(R:Rw4)(k:ByteArray):inn (keysL R) k=hit R k:=by rw[Bool.eq_iff_iff,inn_iff,keysL_mem]
theorem put_keys{Q:Rw4}{k x:ByteArray}{j:Nat}(hj:j < 2):x∈keysL (putR Q k j)<->x=k\/(x≠k/\(x∈Q 0\/x∈Q 1)):=by
 rw[keysL_in];obtain rfl|rfl:j=0\/j=1:=by omega
 . rw[put_at,put_ne (by omega),List.mem_cons,rem_mem,rem_mem];constructor
   . rintro((h|h)|h)
     . exact Or.inl h
     . exact Or.inr ⟨h.2,Or.inl h.1⟩
     . exact Or.inr ⟨h.2,Or.inr h.1⟩
   . rintro(h|⟨h,h1|h1⟩)
     . exact Or.inl (Or.inl h)
     . exact Or.inl (Or.inr ⟨h1,h⟩)
     . exact Or.inr ⟨h1,h⟩
 . rw[put_at,put_ne (by omega),List.mem_cons,rem_mem,rem_mem];constructor
   . rintro(h|h|h)
     . exact Or.inr ⟨h.2,Or.inl h.1⟩
     . exact Or.inl h
     . exact Or.inr ⟨h.2,Or.inr h.1⟩
   . rintro(h|⟨h,h1|h1⟩)
     . exact Or.inr (Or.inl h)
     . exact Or.inl ⟨h1,h⟩
     . exact Or.inr (Or.inr ⟨h1,h⟩)
theorem put_count{Q:Rw4}{k:ByteArray}{j:Nat}(hj:j < 2)(h0:k∉Q 0)(h1:k∉Q 1):lenR (putR Q k j)=lenR Q+1:=by
 unfold lenR;obtain rfl|rfl:j=0\/j=1:=by omega
 . rw[put_at,put_ne (by omega),rem_none h0,rem_none h1,List.length_cons];omega
 . rw[put_at,put_ne (by omega),rem_none h0,rem_none h1,List.length_cons];omega
section
variable{s:St}{k:ByteArray}
theorem miss_f(h:Ok s)(hm:s.mo≠0)(hh:hit s.R k=false)(P:Rw4)(D:List ByteArray)(p:Nat)(q:Bool)(j:Nat)(hj:j < 2)(hp:Pre P)(hsub:∀i,i < 2->(P i).Sublist (s.R i))(hD:∀x,x∈s.R 0\/x∈s.R 1->(x∈P 0\/x∈P 1)\/x∈D)(hDl:lenR P+D.length=lenR s.R)(hD1:D.length<=1)(hD2:D.length=1->s.mo<=lenR s.R)
 (er:s.req k=⟨s.mo,(s.req k).p,putR (cutn p q P (lenR P - (s.mo - 1))) k j⟩) (ev:s.vs k=D++outs p q P (lenR P - (s.mo - 1))):
 ReqF (keysL s.R) (keysL (s.req k).R) s.mo k (hit s.R k) (vicOf (s.vs k)) (!(s.vs k).isEmpty):=by
 have hle:=h.le;have hk:=hit_no.1 hh;have hvl:(s.vs k).length=D.length+(lenR P - (s.mo - 1)):=by rw[ev,List.length_append,outs_len]
 have c:=cutn_ok (p:=p) (q:=q) hp (n:=lenR P - (s.mo - 1)) (by omega);have hcl:=c.len;have hq0:k∉cutn p q P (lenR P - (s.mo - 1)) 0:=λhx=>hk.1 ((hsub 0 (by omega)).subset ((cutn_sub hp (by omega) 0 (by omega)).subset hx));have hq1:k∉cutn p q P (lenR P - (s.mo - 1)) 1:=λhx=>hk.2 ((hsub 1 (by omega)).subset ((cutn_sub hp (by omega) 1 (by omega)).subset hx))
 have hout:(!(s.vs k).isEmpty)=decide (s.mo<=lenR s.R):=by
  rw[Bool.eq_iff_iff,Bool.not_eq_true',List.isEmpty_eq_false_iff,<-List.length_pos_iff,decide_eq_true_eq,hvl];constructor
  . intro h1
    by_cases h2:D.length=1
    . exact hD2 h2
    . omega
  . intro h1;omega
 have hone:(s.vs k).length<=1:=by rw[hvl];omega
 refine⟨(inn_keys _ _).symm,by rw[inn_keys,hh,keysL_len,hout];rfl,λho=>⟨?_,?_⟩,λho=>?_,keysL_mem.2 (req_in hm k),λx hx=>?_,λx hx=>?_,?_⟩
 . exact keysL_in.2 (vs_old h hm _ (vic_in ho))
 . rw[keysL_mem,(vic_gone h hm ho).2];simp
 . have:s.vs k= []:=by rwa[Bool.not_eq_false',List.isEmpty_iff] at ho
   rw[this];rfl
 . have hxs:=keysL_in.1 hx;have hxk:x≠k:=λe=>by subst e;exact hxs.elim hk.1 hk.2
   have key:x∈s.vs k->(!(s.vs k).isEmpty)=true/\x=vicOf (s.vs k):=λhv=>by
    have hp0:0 < (s.vs k).length:=List.length_pos_of_mem hv;have hv2:=hv;obtain⟨y,hy⟩:=List.length_eq_one_iff.1 (show(s.vs k).length=1 by omega);rw[hy] at hv|-;exact⟨rfl,List.mem_singleton.1 hv⟩
   rcases hD x hxs with h1|h1
   . rcases cutn_stay (p:=p) (q:=q) hp (n:=lenR P - (s.mo - 1)) (by omega) x h1 with h2|h2
     . rw[er];exact Or.inl ((put_keys hj).2 (Or.inr ⟨hxk,h2⟩))
     . exact Or.inr (key (by rw[ev];exact List.mem_append_right _ h2))
   . exact Or.inr (key (by rw[ev];exact List.mem_append_left _ h1))
 . rw[er] at hx;rcases(put_keys hj).1 hx with h1|⟨_,h1⟩
   . exact Or.inr h1
   . refine Or.inl (keysL_in.2 (h1.imp (λh2=>(hsub 0 (by omega)).subset ((cutn_sub hp (by omega) 0 (by omega)).subset h2)) λh2=>(hsub 1 (by omega)).subset ((cutn_sub hp (by omega) 1 (by omega)).subset h2)))
 . rw[keysL_len,keysL_len,er,hh,hout];show lenR (putR (cutn p q P (lenR P - (s.mo - 1))) k j)=_;rw[put_count hj hq0 hq1]
   by_cases h1:s.mo<=lenR s.R
   . rw[decide_eq_true h1];simp;omega
   . rw[decide_eq_false h1];simp;omega
theorem req_f(h:Ok s)(hm:s.mo≠0)(k:ByteArray):ReqF (keysL s.R) (keysL (s.req k).R) s.mo k (hit s.R k) (vicOf (s.vs k)) (!(s.vs k).isEmpty):=by
 cases hh:hit s.R k with
 |true=>
  have ev:s.vs k= []:=by unfold St.vs;rw[if_neg hm,if_pos hh]
  obtain⟨er,_⟩:=hit_req hm hh;have hc:=hit_counts h hh;rw[ev,er];refine⟨by rw[inn_keys,hh],by rw[inn_keys,hh];rfl,λho=>(by cases ho),λ_=>rfl,(put_keys (by omega)).2 (Or.inl rfl),λx hx=>Or.inl ?_,λx hx=>?_,?_⟩
  . by_cases e:x=k
    . exact(put_keys (by omega)).2 (Or.inl e)
    . exact(put_keys (by omega)).2 (Or.inr ⟨e,keysL_in.1 hx⟩)
  . exact((put_keys (by omega)).1 hx).elim Or.inr λh1=>Or.inl (keysL_in.2 h1.2)
  . rw[keysL_len,keysL_len];unfold lenR;simp only[Bool.true_or,if_true];omega
 |false=>
 have nh:¬hit s.R k=true:=by rw[hh];simp
 have base:=miss_f h hm hh s.R [] (hp:=h.pre) (hsub:=λi _=>List.Sublist.refl _) (hD:=λx hx=>Or.inl hx) (hDl:=rfl) (hD1:=by simp) (hD2:=by simp);rw[hh] at base;cases h2:inn (s.R 2) k with
 |true=>exact base (rpU s.mo s.p s.R) false 1 (by omega) (by unfold St.req;rw[if_neg hm,if_neg nh,if_pos h2]) (by unfold St.vs;rw[if_neg hm,if_neg nh,if_pos h2];rfl)
 |false=>
 have n2:¬inn (s.R 2) k=true:=by rw[h2];simp
 cases h3:inn (s.R 3) k with
 |true=>exact base (lpU s.p s.R) true 1 (by omega) (by unfold St.req;rw[if_neg hm,if_neg nh,if_neg n2,if_pos h3]) (by unfold St.vs;rw[if_neg hm,if_neg nh,if_neg n2,if_pos h3];rfl)
 |false=>
 have n3:¬inn (s.R 3) k=true:=by rw[h3];simp
 obtain⟨p1,p2,p3,p4,p5⟩:=pl_ok h hm;have hle:=h.le;have er:s.req k=⟨s.mo,(s.req k).p,putR (cutn s.p false (plR s.mo s.R) (lenR (plR s.mo s.R) - (s.mo - 1))) k 0⟩:=by unfold St.req;rw[if_neg hm,if_neg nh,if_neg n2,if_neg n3]
 have ev:s.vs k=plV s.mo s.R++outs s.p false (plR s.mo s.R) (lenR (plR s.mo s.R) - (s.mo - 1)):=by unfold St.vs;rw[if_neg hm,if_neg nh,if_neg n2,if_neg n3]
 have hb:=miss_f h hm hh (plR s.mo s.R) (plV s.mo s.R) s.p false 0 (by omega) p1 (λi hi=>p2 i (by omega));rw[hh] at hb;refine hb ?_ ?_ ?_ ?_ er ev
 . intro x hx;unfold plR plV
   by_cases c1:(s.R 0).length+(s.R 2).length < s.mo
   . rw[if_pos c1,if_pos c1]
     by_cases c2:2*s.mo<=totR s.R
     . rw[if_pos c2,upd_ne (by omega),upd_ne (by omega)];exact Or.inl hx
     . rw[if_neg c2];exact Or.inl hx
   . rw[if_neg c1,if_neg c1]
     by_cases c2:(s.R 0).length < s.mo
     . rw[if_pos c2,if_pos c2,upd_ne (by omega),upd_ne (by omega)];exact Or.inl hx
     . rw[if_neg c2,if_neg c2,upd_same,upd_ne (by omega)];have hn:s.R 0≠ []:=λe=>by rw[e] at c2;simp at c2;omega
       rcases hx with hx|hx
       . have e:(s.R 0).dropLast++ [lastKey (s.R 0)]=s.R 0:=by
          unfold lastKey;rw[List.getLastD_eq_getLast?,List.getLast?_eq_some_getLast hn];exact List.dropLast_concat_getLast hn
         rw[← e] at hx;rcases List.mem_append.1 hx with hx|hx
         . exact Or.inl (Or.inl hx)
         . exact Or.inr hx
       . exact Or.inl (Or.inr hx)
 . unfold plR plV lenR at*
   by_cases c1:(s.R 0).length+(s.R 2).length < s.mo
   . rw[if_pos c1,if_pos c1]
     by_cases c2:2*s.mo<=totR s.R
     . rw[if_pos c2];simp[upd]
     . rw[if_neg c2];rfl
   . rw[if_neg c1,if_neg c1]
     by_cases c2:(s.R 0).length < s.mo
     . rw[if_pos c2,if_pos c2];simp[upd]
     . rw[if_neg c2,if_neg c2];simp[upd];omega
 . unfold plV;split
   . simp
   . split <;> simp
 . unfold plV lenR;split
   . simp
   . split
     . simp
     . intro _;omega
theorem rm_f(h:Ok s)(k:ByteArray):RmF (keysL s.R) (keysL (s.rm k).R) (ghL (s.rm k).R) k (hit s.R k):=by
 refine⟨(inn_keys _ _).symm,λx=>?_,λhx=>?_,?_⟩
 . rw[keysL_in,keysL_in];show x∈rem (s.R 0) k\/x∈rem (s.R 1) k<->_;rw[rem_mem,rem_mem];exact⟨λhx=>hx.elim (λh=>⟨Or.inl h.1,h.2⟩) λh=>⟨Or.inr h.1,h.2⟩,λ⟨h1,h2⟩=>h1.imp (λh=>⟨h,h2⟩) λh=>⟨h,h2⟩⟩
 . have hx:k∈rem (s.R 2) k++rem (s.R 3) k:=hx;exact(List.mem_append.1 hx).elim rem_not rem_not
 . rw[keysL_len,keysL_len];show(rem (s.R 0) k).length+(rem (s.R 1) k).length+_=(s.R 0).length+(s.R 1).length;cases hh:hit s.R k with
   |true=>
    rcases hit_iff.1 hh with hi|hi
    . have h1:=rem_len (h.pre.nd 0 (by omega)) hi;have h2:k∉s.R 1:=λhx=>by have:=h.pre.dis 0 1 (by omega) (by omega) k hi hx;omega
      rw[rem_none h2];simp;omega
    . have h1:=rem_len (h.pre.nd 1 (by omega)) hi;have h2:k∉s.R 0:=λhx=>by have:=h.pre.dis 0 1 (by omega) (by omega) k hx hi;omega
      rw[rem_none h2];simp;omega
   |false=>
    rw[rem_none (hit_no.1 hh).1,rem_none (hit_no.1 hh).2];simp
theorem ad_f(_h:Ok s)(k:ByteArray):AdF (keysL s.R) (keysL (s.ad k).R) (ghL (s.ad k).R) s.mo k (s.adB k):=by
 cases hb:s.adB k with
 |true=>
  have hb2:=hb;unfold St.adB at hb2;rw[Bool.and_eq_true,Bool.not_eq_true',decide_eq_true_eq] at hb2;have e:s.ad k=⟨s.mo,s.p,trimR s.mo (putR s.R k 0)⟩:=by unfold St.ad;rw[if_pos hb]
  have hp:=ad_len s k hb2.2;have h0:trimR s.mo (putR s.R k 0) 0=putR s.R k 0 0:=by unfold trimR trim3 trim2;rw[upd_ne (by omega),upd_ne (by omega)]
  have h1:trimR s.mo (putR s.R k 0) 1=putR s.R k 0 1:=by unfold trimR trim3 trim2;rw[upd_ne (by omega),upd_ne (by omega)]
  have hk:=hit_no.1 hb2.1;have hkl:keysL (trimR s.mo (putR s.R k 0))=keysL (putR s.R k 0):=by unfold keysL;rw[h0,h1]
  rw[e];refine⟨by rw[inn_keys,hb2.1,keysL_len,decide_eq_true hb2.2];rfl,λx=>?_,λ_ hx=>?_,?_⟩
  . show x∈keysL (trimR s.mo (putR s.R k 0))<->_;rw[hkl,put_keys (by omega),keysL_in];constructor
    . rintro(g1|⟨_,g1⟩)
      . exact Or.inr ⟨rfl,g1⟩
      . exact Or.inl g1
    . rintro(g1|⟨_,g1⟩)
      . refine Or.inr ⟨λe=>?_,g1⟩;rw[e] at g1;exact g1.elim hk.1 hk.2
      . exact Or.inl g1
  . have hx:k∈trimR s.mo (putR s.R k 0) 2++trimR s.mo (putR s.R k 0) 3:=hx;rcases List.mem_append.1 hx with hx|hx
    . have:=(trim_sub _ _ _).subset hx;rw[put_ne (by omega)] at this;exact rem_not this
    . have:=(trim_sub _ _ _).subset hx;rw[put_ne (by omega)] at this;exact rem_not this
  . show(keysL (trimR s.mo (putR s.R k 0))).length=_;rw[hkl,keysL_len,keysL_len,put_count (by omega) hk.1 hk.2];rfl
 |false=>
  have e:s.ad k=s:=by unfold St.ad;rw[hb];rfl
  have hb2:=hb;unfold St.adB at hb2;rw[e];refine⟨?_,λx=>⟨λg=>Or.inl g,λg=>?_⟩,λg=>?_,rfl⟩
  . rw[inn_keys,keysL_len];exact hb2.symm
  . rcases g with g|⟨g,_⟩
    . exact g
    . cases g
  . cases g
theorem dr_f(h:Ok s):DrF (keysL s.R) (keysL s.dr.R) (ghL s.R) (ghL s.dr.R) (lastKey (s.R (lv s.R s.p false))) (anyKey (s.R (lv s.R s.p false))):=by
 have hg:ghL s.dr.R=ghL s.R:=by
  have h4:=lv_two s.R s.p false;unfold ghL;show upd s.R (lv s.R s.p false) (s.R (lv s.R s.p false)).dropLast 2++upd s.R (lv s.R s.p false) (s.R (lv s.R s.p false)).dropLast 3=_;rw[upd_ne (by omega),upd_ne (by omega)]
 by_cases hl:lenR s.R=0
 . have z0:s.R 0= []:=List.eq_nil_of_length_eq_zero (by unfold lenR at hl;omega);have z1:s.R 1= []:=List.eq_nil_of_length_eq_zero (by unfold lenR at hl;omega);have hk:keysL s.R= []:=by unfold keysL;rw[z0,z1];rfl
   have hz:s.R (lv s.R s.p false)= []:=by rcases lv_two s.R s.p false with e|e <;> rw[e] <;> assumption
   have e:keysL s.dr.R= []:=by
    unfold keysL;have:=(dr_sub s 0).length_le;have:=(dr_sub s 1).length_le;rw[z0] at*;rw[z1] at*;rw[List.eq_nil_of_length_eq_zero (l:=s.dr.R 0) (by simp_all),List.eq_nil_of_length_eq_zero (l:=s.dr.R 1) (by simp_all)];rfl
   rw[hz,hk,e];refine⟨rfl,λg=>?_,λx=>⟨λg=>?_,λg=>g.1⟩,hg,rfl⟩
   . cases g
   . cases g
 . have h0:=lv_pos (p:=s.p) (q:=false) (R:=s.R) (by omega);have h4:=lv_lt s.R s.p false;have h2:=lv_two s.R s.p false;obtain⟨_,ho⟩:=pop_out h.pre h4.1 h0;have hxm:=last_mem h0;have hd:∀j,s.dr.R j=upd s.R (lv s.R s.p false) (s.R (lv s.R s.p false)).dropLast j:=λ_=>rfl;have hn:s.R (lv s.R s.p false)≠ []:=λe=>by rw[e] at h0;exact Nat.lt_irrefl _ h0
   have hsp:(s.R (lv s.R s.p false)).dropLast++ [lastKey (s.R (lv s.R s.p false))]=s.R (lv s.R s.p false):=by
    unfold lastKey;rw[List.getLastD_eq_getLast?,List.getLast?_eq_some_getLast hn];exact List.dropLast_concat_getLast hn
   have hin:lastKey (s.R (lv s.R s.p false))∈keysL s.R:=by
    rw[keysL_in];rcases h2 with e|e <;> rw[e] at hxm|-
    . exact Or.inl hxm
    . exact Or.inr hxm
   rw[any_pos h0];refine⟨?_,λ_=>hin,λx=>?_,hg,?_⟩
   . have:(keysL s.R).isEmpty=false:=by rw[List.isEmpty_eq_false_iff];exact List.ne_nil_of_mem hin
     rw[this];rfl
   . rw[keysL_in,keysL_in,hd,hd];constructor
     . intro hx;refine⟨hx.imp (λh=>(dr_sub s 0).subset h) λh=>(dr_sub s 1).subset h,λ_ e=>?_⟩;subst e;exact hx.elim (ho 0 (by omega)) (ho 1 (by omega))
     . rintro⟨hx,hne⟩;have hne:=hne rfl
       have key:∀j,x∈s.R j->x∈upd s.R (lv s.R s.p false) (s.R (lv s.R s.p false)).dropLast j:=λj hj=>by
        by_cases e:j=lv s.R s.p false
        . rw[e] at hj|-;rw[upd_same];rw[← hsp] at hj;exact(List.mem_append.1 hj).elim id λh=>absurd (List.mem_singleton.1 h) hne
        . rw[upd_ne e];exact hj
       exact hx.imp (key 0) (key 1)
   . rw[keysL_len,keysL_len];unfold lenR;rw[hd,hd];rcases h2 with e|e <;> rw[e] at h0|-
     . rw[upd_same,upd_ne (by omega),List.length_dropLast];simp;omega
     . rw[upd_same,upd_ne (by omega),List.length_dropLast];simp;omega
theorem rs_f(h:Ok s)(n:Nat):RsF (keysL s.R) (keysL (s.rs n).R) n (outs (min s.p n) false s.R (lenR s.R - n)):=by
 have c:=cutn_ok (p:=min s.p n) (q:=false) h.pre (n:=lenR s.R - n) (by omega);have hl:=c.len;have h0:(s.rs n).R 0=cutn (min s.p n) false s.R (lenR s.R - n) 0:=by show resR s.p n s.R 0=_;unfold resR trimR trim3 trim2;rw[upd_ne (by omega),upd_ne (by omega)]
 have h1:(s.rs n).R 1=cutn (min s.p n) false s.R (lenR s.R - n) 1:=by show resR s.p n s.R 1=_;unfold resR trimR trim3 trim2;rw[upd_ne (by omega),upd_ne (by omega)]
 have hk:∀x,x∈keysL (s.rs n).R<->x∈cutn (min s.p n) false s.R (lenR s.R - n) 0\/x∈cutn (min s.p n) false s.R (lenR s.R - n) 1:=λx=>by rw[keysL_in,h0,h1]
 refine⟨by rw[outs_len,keysL_len],?_,λx hx=>?_,λx hx=>?_,λx hx=>?_⟩
 . rw[outs_len,keysL_len,keysL_len];unfold lenR at hl|-;rw[h0,h1];exact hl
 . obtain⟨g1,g2⟩:=outs_in h.pre (by omega) x hx;refine⟨keysL_in.2 g2,λhc=>?_⟩;have d:=c.pre.dis;rcases(hk x).1 hc with h3|h3 <;> rcases g1 with g1|g1
   . have:=d 0 2 (by omega) (by omega) x h3 g1;omega
   . have:=d 0 3 (by omega) (by omega) x h3 g1;omega
   . have:=d 1 2 (by omega) (by omega) x h3 g1;omega
   . have:=d 1 3 (by omega) (by omega) x h3 g1;omega
 . exact(cutn_stay (p:=min s.p n) (q:=false) h.pre (by omega) x (keysL_in.1 hx)).imp (λh2=>(hk x).2 h2) id
 . exact keysL_in.2 (((hk x).1 hx).imp (λh2=>(cutn_sub h.pre (by omega) 0 (by omega)).subset h2) λh2=>(cutn_sub h.pre (by omega) 1 (by omega)).subset h2)
end
end Go.Proofs.YtdmmciggopmglaaGreatDoor.AR
namespace Go.Proofs.YtdmmciggopmglaaGreatDoor
open Go.RowKit Sg
inductive KSt where
 |lr (mo:Nat) (ks:List ByteArray)
 |lf (ch:Bool) (mo n:Nat) (L:List (LF.Ht.Ent ByteArray))
 |sr (s:SR.St)
 |ar (s:AR.St)
def Told(v:Value)(w:World)(e:Ending)(w':World):Prop:=e= .returned v/\Below w.heap.size w w'
namespace KSt
def kind:KSt->Nat
 |lr _ _=>0
 |lf false _ _ _=>1
 |lf true _ _ _=>2
 |sr _=>3
 |ar _=>4
def mo:KSt->Nat
 |lr mo _=>mo
 |lf _ mo _ _=>mo
 |sr s=>s.mo
 |ar s=>s.mo
def keys:KSt->List ByteArray
 |lr _ ks=>ks
 |lf _ _ _ L=>LF.Lf.keysL L
 |sr s=>(s.A++s.N).reverse
 |ar s=>AR.keysL s.R
def ghosts:KSt->List ByteArray
 |lr _ _=>[]
 |lf _ _ _ _=>[]
 |sr s=>s.G
 |ar s=>AR.ghL s.R
def has(st:KSt)(k:ByteArray):Bool:=inn st.keys k
def tell:KSt->ByteArray->Bool × ByteArray × Bool
 |lr mo ks,k=>(hitB mo ks k,vicK mo ks k,outB mo ks k)
 |lf _ mo _ L,k=>(LF.Lf.hitB mo L k,LF.Lf.vicK mo L k,LF.Lf.outB mo L k)
 |sr s,k=>(s.hit k,s.vic k,s.out k)
 |ar s,k=>(AR.hit s.R k,AR.vicOf (s.vs k),!(s.vs k).isEmpty)
def step(st:KSt)(k:ByteArray):Value:= .agg #[.bool (st.tell k).1,.string (st.tell k).2.1,.bool (st.tell k).2.2]
def req:KSt->ByteArray->KSt
 |lr mo ks,k=>lr mo (reqK mo ks k)
 |lf ch mo n L,k=>lf ch mo (LF.Lf.reqN mo n) (LF.Lf.reqL ch mo n L k)
 |sr s,k=>sr (s.req k)
 |ar s,k=>ar (s.req k)
def rm:KSt->ByteArray->KSt
 |lr mo ks,k=>lr mo (rem ks k)
 |lf ch mo n L,k=>lf ch mo n (LF.Ht.rem L k)
 |sr s,k=>sr (s.rm k)
 |ar s,k=>ar (s.rm k)
def adB(st:KSt)(k:ByteArray):Bool:=!st.has k&&decide (st.keys.length < st.mo)
def ad:KSt->ByteArray->KSt
 |lr mo ks,k=>lr mo (LR.adK mo ks k)
 |lf ch mo n L,k=>lf ch mo (LF.Lf.adN mo n L k) (LF.Lf.adL ch mo n L k)
 |sr s,k=>sr (s.ad k)
 |ar s,k=>ar (s.ad k)
def vic:KSt->ByteArray
 |lr _ ks=>ks.headD ⟨#[]⟩
 |lf _ _ _ L=>LF.Lf.hdK L
 |sr s=>lastKey (s.A++s.N)
 |ar s=>lastKey (s.R (AR.lv s.R s.p false))
def any:KSt->Bool
 |lr _ ks=>!ks.isEmpty
 |lf _ _ _ L=>!L.isEmpty
 |sr s=>anyKey (s.A++s.N)
 |ar s=>anyKey (s.R (AR.lv s.R s.p false))
def dr:KSt->KSt
 |lr mo ks=>lr mo ks.tail
 |lf ch mo n L=>lf ch mo n L.tail
 |sr s=>sr s.dr
 |ar s=>ar s.dr
def rs:KSt->Nat->KSt
 |lr _ ks,m=>lr m (lastN m ks)
 |lf ch _ n L,m=>lf ch m n (L.drop (L.length - m))
 |sr s,m=>sr (s.rs m)
 |ar s,m=>ar (s.rs m)
def gone:KSt->Nat->List ByteArray
 |lr _ ks,m=>ks.take (ks.length - m)
 |lf _ _ _ L,m=>(LF.Lf.keysL L).take (L.length - m)
 |sr s,m=>(s.A++s.N).reverse.take (s.A.length+s.N.length - m)
 |ar s,m=>AR.outs (min s.p m) false s.R (AR.lenR s.R - m)
def start(kind m:Nat):KSt:=
 match kind with
 |0=>lr m []
 |1=>lf false m 0 []
 |2=>lf true m 0 []
 |3=>sr (SR.St.start m)
 |_=>ar (AR.St.start m)
def Ok:KSt->Prop
 |lr mo ks=>ks.Nodup/\ks.length<=mo
 |lf ch mo n L=>LF.Ht.Once L n/\L.length<=mo/\LF.Lf.Fit ch L n/\LF.Ht.Srt L
 |sr s=>SR.Ok s
 |ar s=>AR.Ok s
theorem kind_req(st:KSt)(k:ByteArray):(st.req k).kind=st.kind:=by
 cases st with
 |lf ch _ _ _=>cases ch <;> rfl
 |_=>rfl
theorem kind_rm(st:KSt)(k:ByteArray):(st.rm k).kind=st.kind:=by
 cases st with
 |lf ch _ _ _=>cases ch <;> rfl
 |_=>rfl
theorem kind_ad(st:KSt)(k:ByteArray):(st.ad k).kind=st.kind:=by
 cases st with
 |lf ch _ _ _=>cases ch <;> rfl
 |_=>rfl
theorem kind_rs(st:KSt)(m:Nat):(st.rs m).kind=st.kind:=by
 cases st with
 |lf ch _ _ _=>cases ch <;> rfl
 |_=>rfl
end KSt
def KCa(w:World)(c:Nat)(T:Nat->Prop)(st:KSt)(b:Nat):Prop:=
 match st with
 | .lr mo ks=>LR.Ca w c T mo ks b
 | .lf ch mo n L=>LF.Ca w c T mo ch L n/\n<=b
 | .sr s=>SR.Ca w c T s b
 | .ar s=>AR.Ca w c T s b
def KPost(v:Value)(w:World)(c:Nat)(T:Nat->Prop)(st:KSt)(b:Nat)(e:Ending)(w':World):Prop:=e= .returned v/\∃T',KCa w' c T' st b/\Went w w' T T'
def fHas:Nat->Nat|0=>195|3=>261|4=>283|_=>209
def fLen:Nat->Nat|0=>197|3=>263|4=>285|_=>211
def fRequest:Nat->Nat|0=>199|3=>265|4=>287|_=>213
def fRemove:Nat->Nat|0=>198|3=>264|4=>286|_=>212
def fAdopt:Nat->Nat|0=>192|3=>258|4=>280|_=>206
def fResize:Nat->Nat|0=>200|3=>266|4=>288|_=>214
def fKeys:Nat->Nat|0=>196|3=>262|4=>284|_=>210
section
variable{w w':World}{c b b':Nat}{T T':Nat->Prop}{st st':KSt}{v:Value}{e:Ending}
theorem told_same(h:e= .returned v/\w=w'):Told v w e w':=⟨h.1,h.2▸Below.refl _ _⟩
theorem told_qt(h:SR.Qt v w e w'):Told v w e w':=by
 obtain⟨he,n,rfl⟩:=h;exact⟨he,SR.below_drewN w n⟩
theorem turn_lf(h:LF.Turn T w w'):Turn T w w':=⟨h.os,h.tape,h.output,h.size,h.block⟩
theorem post_lr{mo:Nat}{ks:List ByteArray}(h:LR.CaPost v w c T mo ks b e w'):KPost v w c T (.lr mo ks) b e w':=by
 obtain⟨he,T',h1,h2,h3⟩:=h;exact⟨he,T',h1,h2,h3⟩
theorem post_lf{mo n:Nat}{ch:Bool}{L:List (LF.Ht.Ent ByteArray)}(h:LF.CaPost v w c T mo ch L n e w')(hn:n<=b):KPost v w c T (.lf ch mo n L) b e w':=by
 obtain⟨he,T',h1,h2,h3⟩:=h;exact⟨he,T',⟨h1,hn⟩,h2,turn_lf h3⟩
theorem KCa.lt(h:KCa w c T st b){k:Nat}(hk:T k):k < w.heap.size:=by
 cases st with
 |lr mo ks=>exact LR.Ca.lt h hk
 |lf ch mo n L=>exact LF.Ca.lt h.1 hk
 |sr s=>exact SR.Ca.lt h hk
 |ar s=>exact AR.Ca.lt h hk
theorem KCa.below(h:KCa w c T st b)(hb:Below w.heap.size w w'):KCa w' c T st b:=by
 cases st with
 |lr mo ks=>exact LR.Ca.below h hb
 |lf ch mo n L=>exact⟨LF.Ca.below h.1 hb,h.2⟩
 |sr s=>exact SR.Ca.below h hb
 |ar s=>exact AR.Ca.below h hb
theorem KCa.mono(h:KCa w c T st b)(hb:b<=b'):KCa w c T st b':=by
 cases st with
 |lr mo ks=>exact LR.Ca.mono h hb
 |lf ch mo n L=>exact⟨h.1,Nat.le_trans h.2 hb⟩
 |sr s=>exact SR.Ca.mono h hb
 |ar s=>exact AR.Ca.mono h hb
theorem KCa.ok(h:KCa w c T st b):st.Ok:=by
 cases st with
 |lr mo ks=>exact⟨LR.Ca.nodup h,(LR.Ca.le h).1⟩
 |lf ch mo n L=>exact⟨LF.Ca.once h.1,(LF.Ca.le h.1).1,LF.Ca.fit h.1,LF.Ca.srt h.1⟩
 |sr s=>exact SR.Ca.ok h
 |ar s=>exact AR.Ca.ok h
theorem KCa.small(h:KCa w c T st b):∀x∈st.keys,x.size<=maxLen:=by
 cases st with
 |lr mo ks=>exact LR.Ca.small h
 |lf ch mo n L=>
  intro x hx;obtain⟨e,he,rfl⟩:=List.mem_map.1 hx;exact LF.Ca.ok h.1 e he
 |sr s=>exact λx hx=>SR.Ca.small h x (List.mem_append_left _ (List.mem_reverse.1 hx))
 |ar s=>
  intro x hx;rcases List.mem_append.1 (List.mem_reverse.1 hx) with hx|hx
  . exact AR.Ca.small h 1 (by omega) x hx
  . exact AR.Ca.small h 0 (by omega) x hx
theorem has_lf{L:List (LF.Ht.Ent ByteArray)}{k:ByteArray}:LF.Lf.isIn L k=inn (LF.Lf.keysL L) k:=by
 rw[Bool.eq_iff_iff,LF.Lf.isIn_iff,inn_iff];unfold LF.Lf.keysL;rw[List.mem_map]
theorem has_sr{s:SR.St}{k:ByteArray}:s.hit k=inn (s.A++s.N).reverse k:=by
 rw[Bool.eq_iff_iff,inn_iff,List.mem_reverse,List.mem_append];unfold SR.St.hit;rw[Bool.or_eq_true,inn_iff,inn_iff];exact Or.comm
theorem has_ar{s:AR.St}{k:ByteArray}:AR.hit s.R k=inn (AR.keysL s.R) k:=by
 rw[Bool.eq_iff_iff,inn_iff,AR.keysL_mem]
end
section
variable(w:World)(c:Nat)(T:Nat->Prop)(st:KSt)(b:Nat)(key:ByteArray)(h:KCa w c T st b)
include h
theorem len_k:Calls Tryz.prog (fLen st.kind) #[.pointer (some ⟨c,0,none⟩)] w (Told (.int .i64 (st.keys.length:Int)) w):=by
 cases st with
 |lr mo ks=>exact(LR.len_ca w c T mo ks b h).mono λe w' q=>told_same q
 |lf ch mo n L=>
  have e1:(KSt.lf ch mo n L).keys.length=L.length:=by show(LF.Lf.keysL L).length=_;unfold LF.Lf.keysL;rw[List.length_map]
  rw[e1];have:=(LF.len_ca w c T mo ch L n h.1).mono λe w' q=>told_same q;cases ch <;> exact this
 |sr s=>
  have e1:(KSt.sr s).keys.length=s.N.length+s.A.length:=by show(s.A++s.N).reverse.length=_;rw[List.length_reverse,List.length_append];omega
  rw[e1];exact(SR.len_ca w c T s b h).mono λe w' q=>told_qt q
 |ar s=>
  have e1:(KSt.ar s).keys.length=AR.lenR s.R:=AR.keysL_len _;rw[e1];exact AR.len_ca w c T s b h
theorem has_k(hs:key.size<=maxLen):Calls Tryz.prog (fHas st.kind) #[.pointer (some ⟨c,0,none⟩),.string key] w (Told (.bool (st.has key)) w):=by
 unfold KSt.has;cases st with
 |lr mo ks=>exact(LR.has_ca w c T mo ks b key h hs).mono λe w' q=>told_same q
 |lf ch mo n L=>
  show Calls _ _ _ _ (Told (.bool (inn (LF.Lf.keysL L) key)) w);rw[← has_lf];have:=LF.has_ca w c T mo ch L n key h.1 hs;cases ch <;> exact this
 |sr s=>
  show Calls _ _ _ _ (Told (.bool (inn (s.A++s.N).reverse key)) w);rw[← has_sr];exact(SR.has_ca w c T s b key h hs).mono λe w' q=>told_same q
 |ar s=>
  show Calls _ _ _ _ (Told (.bool (inn (AR.keysL s.R) key)) w);rw[← has_ar];exact(AR.has_ca w c T s b key h hs).mono λe w' q=>told_same q
theorem keys_k:Calls Tryz.prog (fKeys st.kind) #[.pointer (some ⟨c,0,none⟩)] w (RowPost st.keys w):=by
 cases st with
 |lr mo ks=>exact LR.keys_ca w c T mo ks b h
 |lf ch mo n L=>
  have:=LF.keys_ca w c T mo ch L n h.1;cases ch <;> exact this
 |sr s=>exact SR.keys_ca w c T s b h
 |ar s=>exact AR.keys_ca w c T s b h
theorem remove_k(hs:key.size<=maxLen):Calls Tryz.prog (fRemove st.kind) #[.pointer (some ⟨c,0,none⟩),.string key] w (KPost (.bool (st.has key)) w c T (st.rm key) b):=by
 unfold KSt.has;cases st with
 |lr mo ks=>exact(LR.remove_ca w c T mo ks b key h hs).mono λe w' q=>post_lr q
 |lf ch mo n L=>
  show Calls _ _ _ _ (KPost (.bool (inn (LF.Lf.keysL L) key)) w c T _ b);rw[← has_lf];have:=(LF.remove_ca w c T mo ch L n key h.1 hs).mono λe w' q=>post_lf q h.2;cases ch <;> exact this
 |sr s=>
  show Calls _ _ _ _ (KPost (.bool (inn (s.A++s.N).reverse key)) w c T _ b);rw[← has_sr];exact SR.remove_ca w c T s b key h hs
 |ar s=>
  show Calls _ _ _ _ (KPost (.bool (inn (AR.keysL s.R) key)) w c T _ b);rw[← has_ar];exact AR.remove_ca w c T s b key h hs
theorem adopt_k(hs:key.size<=maxLen)(hb:b<=97500):Calls Tryz.prog (fAdopt st.kind) #[.pointer (some ⟨c,0,none⟩),.string key] w (KPost (.bool (st.adB key)) w c T (st.ad key) (b+1)):=by
 unfold KSt.adB KSt.has;cases st with
 |lr mo ks=>exact(LR.adopt_ca w c T mo ks b key h hs (by omega)).mono λe w' q=>post_lr q
 |lf ch mo n L=>
  have e1:(!inn (KSt.lf ch mo n L).keys key&&decide ((KSt.lf ch mo n L).keys.length < (KSt.lf ch mo n L).mo))=LF.Lf.adB mo L key:=by
   show(!inn (LF.Lf.keysL L) key&&decide ((LF.Lf.keysL L).length < mo))=_;rw[← has_lf,LF.Lf.keysL_len];rfl
  rw[e1];have:=(LF.adopt_ca w c T mo ch L n key h.1 hs (by have:=h.2;omega)).mono λe w' q=>post_lf (b:=b+1) q (by have:=LF.Lf.adN_le mo n L key;have:=h.2;omega);cases ch <;> exact this
 |sr s=>
  have e1:(!inn (KSt.sr s).keys key&&decide ((KSt.sr s).keys.length < (KSt.sr s).mo))=s.adB key:=by
   show(!inn (s.A++s.N).reverse key&&decide ((s.A++s.N).reverse.length < s.mo))=_;rw[← has_sr,List.length_reverse,List.length_append,Nat.add_comm];rfl
  rw[e1];exact SR.adopt_ca w c T s b key h hs (by omega)
 |ar s=>
  have e1:(!inn (KSt.ar s).keys key&&decide ((KSt.ar s).keys.length < (KSt.ar s).mo))=s.adB key:=by
   show(!inn (AR.keysL s.R) key&&decide ((AR.keysL s.R).length < s.mo))=_;rw[← has_ar,AR.keysL_len];rfl
  rw[e1];exact AR.adopt_ca w c T s b key h hs (by omega)
theorem request_k(hs:key.size<=maxLen)(hb:b<=97500):Calls Tryz.prog (fRequest st.kind) #[.pointer (some ⟨c,0,none⟩),.string key] w (KPost (st.step key) w c T (st.req key) (b+1)):=by
 cases st with
 |lr mo ks=>exact(LR.request_ca w c T mo ks b key h hs (by omega)).mono λe w' q=>post_lr q
 |lf ch mo n L=>
  have:=(LF.request_ca w c T mo ch L n key h.1 hs (by have:=h.2;omega)).mono λe w' q=>post_lf (b:=b+1) q (by have:=LF.Lf.reqN_le mo n;have:=h.2;omega);cases ch <;> exact this
 |sr s=>exact SR.request_ca w c T s b key h hs (by omega)
 |ar s=>exact AR.request_ca w c T s b key h hs (by omega)
theorem resize_k(z:Int)(hz: -9223372036854775808<=z/\z<=9223372036854775807)(hb:b<=97500):Calls Tryz.prog (fResize st.kind) #[.pointer (some ⟨c,0,none⟩),.int .i64 z] w
 (λe w'=>∃v T',e= .returned v/\Own w' w.heap.size v (st.gone z.toNat)/\KCa w' c T' (st.rs z.toNat) b/\Went w w' T T'/\∀g,v.ownBlock=some g->¬T' g):=by
 cases st with
 |lr mo ks=>
  refine(LR.resize_ca w c T mo ks b z hz h).mono ?_;rintro e w' ⟨v,T',he,hO,hC,hN,hT,hv⟩;exact⟨v,T',he,hO,hC,⟨hN,hT⟩,hv⟩
 |lf ch mo n L=>
  have:=(LF.resize_ca w c T mo ch L n z hz h.1).mono (R':=λe w'=>∃v T',e= .returned v/\Own w' w.heap.size v ((KSt.lf ch mo n L).gone z.toNat)/\KCa w' c T' ((KSt.lf ch mo n L).rs z.toNat) b/\Went w w' T T'/\∀g,v.ownBlock=some g->¬T' g) (by
   rintro e w' ⟨v,T',he,hO,hC,hN,hT,hv⟩;exact⟨v,T',he,hO,⟨hC,h.2⟩,⟨hN,turn_lf hT⟩,hv⟩)
  cases ch <;> exact this
 |sr s=>exact SR.resize_ca w c T s b h z hz (by omega)
 |ar s=>exact AR.resize_ca w c T s b h z hz (by omega)
end
end Go.Proofs.YtdmmciggopmglaaGreatDoor
namespace Go.Proofs.YtdmmciggopmglaaGreatDoor
open Sg
section
variable{K K' G':List ByteArray}{mo:Nat}{k:ByteArray}
theorem hit_permF(hk:k∈K)(hm:∀x,x∈K'<->x∈K)(hl:K'.length=K.length):ReqF K K' mo k true ⟨#[]⟩ false:=by
 have hi:=inn_iff.2 hk;exact⟨hi.symm,by rw[hi];rfl,λh=>by(cases h),λ_=>rfl,(hm k).2 hk,λx hx=>Or.inl ((hm x).2 hx),λx hx=>Or.inl ((hm x).1 hx),hl⟩
theorem drop_one{xs:List ByteArray}(h:xs≠ []):xs=xs.headD ⟨#[]⟩::xs.tail:=by
 cases xs with
 |nil=>exact absurd rfl h
 |cons x xs=>rfl
theorem miss_tailF(nd:K.Nodup)(hk:k∉K)(hm:mo≠0)(hle:K.length<=mo)(hmem:∀x,x∈K'<->x=k\/x∈K.drop (K.length+1 - mo))(hl:K'.length=(K.drop (K.length+1 - mo)).length+1):
 ReqF K K' mo k false (if mo<=K.length then K.headD ⟨#[]⟩ else⟨#[]⟩) (decide (mo<=K.length)):=by
 have hi:=inn_no.2 hk
 by_cases hf:mo<=K.length
 . rw[if_pos hf,decide_eq_true hf];have hn:K≠ []:=λe=>by rw[e,List.length_nil] at hf;omega
   have hd:K.drop (K.length+1 - mo)=K.tail:=by rw[show K.length+1 - mo=1 by omega,List.drop_one]
   rw[hd] at hmem hl;have hc:=drop_one hn;have h1:K.headD ⟨#[]⟩∈K:=by rw[hc];exact List.mem_cons_self
   have h2:K.headD ⟨#[]⟩∉K.tail:=by rw[hc] at nd;exact(List.nodup_cons.1 nd).1
   refine⟨hi.symm,by rw[hi,decide_eq_true hf];rfl,λ_=>⟨h1,λh=>?_⟩,λh=>by(cases h),(hmem k).2 (Or.inl rfl),λx hx=>?_,λx hx=>?_,?_⟩
   . rcases(hmem _).1 h with h|h
     . exact hk (h▸h1)
     . exact h2 h
   . rw[hc] at hx;rcases List.mem_cons.1 hx with h|h
     . exact Or.inr ⟨rfl,h⟩
     . exact Or.inl ((hmem x).2 (Or.inr h))
   . exact((hmem x).1 hx).elim Or.inr λh=>Or.inl (List.mem_of_mem_tail h)
   . rw[hl,List.length_tail];have:=List.length_pos_iff.2 hn;simp;omega
 . rw[if_neg hf,decide_eq_false hf];have hd:K.drop (K.length+1 - mo)=K:=by rw[show K.length+1 - mo=0 by omega];rfl
   rw[hd] at hmem hl;exact⟨hi.symm,by rw[hi,decide_eq_false hf];rfl,λh=>by(cases h),λ_=>rfl,(hmem k).2 (Or.inl rfl),λx hx=>Or.inl ((hmem x).2 (Or.inr hx)),λx hx=>((hmem x).1 hx).elim Or.inr Or.inl,by rw[hl];rfl⟩
theorem rm_rowF(nd:K.Nodup)(hm:∀x,x∈K'<->x∈K/\x≠k)(hl:K'.length=(rem K k).length)(hg:k∉G'):RmF K K' G' k (inn K k):=by
 refine⟨rfl,hm,hg,?_⟩;rw[hl];cases h:inn K k with
 |true=>exact rem_len nd (inn_iff.1 h)
 |false=>rw[rem_none (inn_no.1 h)];rfl
theorem ad_rowF(hk:k∉K)(hr:K.length < mo)(hm:∀x,x∈K'<->x=k\/x∈K)(hl:K'.length=K.length+1)(hg:k∉G'):AdF K K' G' mo k (!inn K k&&decide (K.length < mo)):=by
 have e:(!inn K k&&decide (K.length < mo))=true:=by rw[inn_no.2 hk,decide_eq_true hr];rfl
 rw[e];exact⟨e.symm,λx=>(hm x).trans ⟨λh=>h.elim (λh=>Or.inr ⟨rfl,h⟩) Or.inl,λh=>h.elim Or.inr λh=>Or.inl h.2⟩,λ_=>hg,hl⟩
theorem ad_noneF(h:(!inn K k&&decide (K.length < mo))=false):AdF K K G' mo k (!inn K k&&decide (K.length < mo)):=by
 rw[h];refine⟨h.symm,λx=>⟨Or.inl,λg=>?_⟩,λg=>?_,rfl⟩
 . rcases g with g|⟨g,_⟩
   . exact g
   . cases g
 . cases g
theorem dr_tailF(nd:K.Nodup)(G:List ByteArray):DrF K K.tail G G (K.headD ⟨#[]⟩) (!K.isEmpty):=by
 cases K with
 |nil=>exact⟨rfl,λh=>by(cases h),λx=>⟨λh=>by(cases h),λh=>h.1⟩,rfl,rfl⟩
 |cons y K=>
  have h:=List.nodup_cons.1 nd;refine⟨rfl,λ_=>List.mem_cons_self,λx=>⟨λhx=>⟨List.mem_cons_of_mem _ hx,λ_ e=>?_⟩,λhx=>?_⟩,rfl,rfl⟩
  . have e:x=y:=e;exact h.1 (e▸hx)
  . rcases List.mem_cons.1 hx.1 with e|e
    . exact absurd e (hx.2 rfl)
    . exact e
theorem rs_dropF(nd:K.Nodup)(n:Nat):RsF K (K.drop (K.length - n)) n (K.take (K.length - n)):=by
 have hs:=List.take_append_drop (K.length - n) K;have hn:=nd;rw[← hs] at hn;refine⟨by rw[List.length_take];omega,by rw[List.length_take,List.length_drop];omega,λx hx=>⟨List.mem_of_mem_take hx,λh=>(List.nodup_append.1 hn).2.2 x hx x h rfl⟩,λx hx=>?_,λx hx=>List.mem_of_mem_drop hx⟩;rw[← hs] at hx;exact(List.mem_append.1 hx).symm
end
section
variable{ks:List ByteArray}{mo:Nat}
theorem req_lr(nd:ks.Nodup)(hl:ks.length<=mo)(hm:mo≠0)(k:ByteArray):ReqF ks (reqK mo ks k) mo k (hitB mo ks k) (vicK mo ks k) (outB mo ks k):=by
 cases hi:inn ks k with
 |true=>
  have hk:=inn_iff.1 hi;have hr:=rem_len nd hk;have e1:hitB mo ks k=true:=by simp[hitB,hi,hm]
  have e2:outB mo ks k=false:=by simp[outB,hi]
  have e3:vicK mo ks k=⟨#[]⟩:=by unfold vicK;rw[e2];rfl
  have e4:reqK mo ks k=rem ks k++ [k]:=lastN_all (by rw[List.length_append,List.length_singleton];omega);rw[e1,e2,e3,e4];refine hit_permF hk (λx=>?_) (by rw[List.length_append,List.length_singleton];exact hr);rw[List.mem_append,rem_mem,List.mem_singleton];constructor
  . rintro(h|h)
    . exact h.1
    . rw[h];exact hk
  . intro h
    by_cases e:x=k
    . exact Or.inr e
    . exact Or.inl ⟨h,e⟩
 |false=>
  have hk:=inn_no.1 hi;have e1:hitB mo ks k=false:=by simp[hitB,hi]
  have e2:outB mo ks k=decide (mo<=ks.length):=by simp[outB,hi,hm]
  have e3:vicK mo ks k=if mo<=ks.length then ks.headD ⟨#[]⟩ else⟨#[]⟩:=by unfold vicK;rw[e2];by_cases h:mo<=ks.length <;> simp[h]
  have e4:reqK mo ks k=ks.drop (ks.length+1 - mo)++ [k]:=by
   unfold reqK lastN;rw[rem_none hk,List.length_append,List.length_singleton,List.drop_append,show ks.length+1 - mo - ks.length=0 by omega];rfl
  rw[e1,e2,e3,e4];exact miss_tailF nd hk hm hl (λx=>by rw[List.mem_append,List.mem_singleton];exact Or.comm) (by rw[List.length_append,List.length_singleton])
theorem ad_lr(_nd:ks.Nodup)(k:ByteArray):AdF ks (LR.adK mo ks k) [] mo k (!inn ks k&&decide (ks.length < mo)):=by
 cases h:LR.adB mo ks k with
 |true=>
  have h2:=h;unfold LR.adB at h2;rw[Bool.and_eq_true,Bool.not_eq_true',decide_eq_true_eq,inn_no] at h2;unfold LR.adK;rw[if_pos h,rem_none h2.1];exact ad_rowF h2.1 h2.2 (λx=>by rw[List.mem_append,List.mem_singleton];exact Or.comm) (by rw[List.length_append,List.length_singleton]) (by simp)
 |false=>
  unfold LR.adK;rw[h];exact ad_noneF h
end
section
variable{ch:Bool}{mo n:Nat}{L:List (LF.Ht.Ent ByteArray)}
theorem keysL_put{k x:ByteArray}:x∈LF.Lf.keysL (LF.Lf.put ch n L k)<->x=k\/(x∈LF.Lf.keysL L/\x≠k):=by
 unfold LF.Lf.keysL;rw[List.mem_map,List.mem_map];constructor
 . rintro⟨e,he,rfl⟩;rcases LF.Lf.mem_put.1 he with rfl|⟨h1,h2⟩
   . exact Or.inl rfl
   . exact Or.inr ⟨⟨e,h1,rfl⟩,h2⟩
 . rintro(rfl|⟨⟨e,h1,rfl⟩,h2⟩)
   . exact⟨_,LF.Lf.mem_put.2 (Or.inl rfl),rfl⟩
   . exact⟨e,LF.Lf.mem_put.2 (Or.inr ⟨h1,h2⟩),rfl⟩
theorem keysL_drop(j:Nat):LF.Lf.keysL (L.drop j)=(LF.Lf.keysL L).drop j:=by unfold LF.Lf.keysL;rw[List.map_drop]
theorem keysL_head:LF.Lf.hdK L=(LF.Lf.keysL L).headD ⟨#[]⟩:=by cases L <;> rfl
theorem req_lf(o:LF.Ht.Once L n)(hl:L.length<=mo)(hm:mo≠0)(k:ByteArray):ReqF (LF.Lf.keysL L) (LF.Lf.keysL (LF.Lf.reqL ch mo n L k)) mo k (LF.Lf.hitB mo L k) (LF.Lf.vicK mo L k) (LF.Lf.outB mo L k):=by
 have hkl:=LF.Lf.keysL_len L;cases hi:LF.Lf.isIn L k with
 |true=>
  have hk:k∈LF.Lf.keysL L:=by rw[has_lf] at hi;exact inn_iff.1 hi
  have e1:LF.Lf.hitB mo L k=true:=by simp[LF.Lf.hitB,hi,hm]
  have e2:LF.Lf.outB mo L k=false:=by simp[LF.Lf.outB,hi]
  have e3:LF.Lf.vicK mo L k=⟨#[]⟩:=by unfold LF.Lf.vicK;rw[e2];rfl
  have e4:LF.Lf.reqL ch mo n L k=LF.Lf.put ch n L k:=by unfold LF.Lf.reqL;rw[if_neg hm,if_pos hi]
  rw[e1,e2,e3,e4];refine hit_permF hk (λx=>?_) (by rw[LF.Lf.keysL_len,LF.Lf.keysL_len,LF.Lf.put_len];exact LF.Lf.rem_len o hi);rw[keysL_put];constructor
  . rintro(h|h)
    . rw[h];exact hk
    . exact h.1
  . intro h
    by_cases e:x=k
    . exact Or.inl e
    . exact Or.inr ⟨h,e⟩
 |false=>
  have hk:k∉LF.Lf.keysL L:=by rw[has_lf] at hi;exact inn_no.1 hi
  have e1:LF.Lf.hitB mo L k=false:=by simp[LF.Lf.hitB,hi]
  have e2:LF.Lf.outB mo L k=decide (mo<=(LF.Lf.keysL L).length):=by simp[LF.Lf.outB,hi,hm,hkl]
  have e3:LF.Lf.vicK mo L k=if mo<=(LF.Lf.keysL L).length then(LF.Lf.keysL L).headD ⟨#[]⟩ else⟨#[]⟩:=by
   unfold LF.Lf.vicK;rw[e2,keysL_head];by_cases h:mo<=(LF.Lf.keysL L).length <;> simp[h]
  have e4:LF.Lf.reqL ch mo n L k=LF.Lf.put ch n (L.drop (L.length+1 - mo)) k:=by unfold LF.Lf.reqL;rw[if_neg hm,if_neg (by rw[hi];simp)]
  have hd:LF.Lf.keysL (L.drop (L.length+1 - mo))=(LF.Lf.keysL L).drop ((LF.Lf.keysL L).length+1 - mo):=by rw[keysL_drop,hkl]
  have hk2:k∉LF.Lf.keysL (L.drop (L.length+1 - mo)):=λh=>hk (by rw[hd] at h;exact List.mem_of_mem_drop h);have hi2:LF.Lf.isIn (L.drop (L.length+1 - mo)) k=false:=by rw[has_lf];exact inn_no.2 hk2
  rw[e1,e2,e3,e4];refine miss_tailF o.keys hk hm (by rw[hkl];exact hl) (λx=>?_) ?_
  . rw[keysL_put,<-hd];exact⟨λh=>h.imp id λh=>h.1,λh=>h.imp id λh=>⟨h,λe=>hk2 (e▸h)⟩⟩
  . rw[← hd,LF.Lf.keysL_len,LF.Lf.keysL_len,LF.Lf.put_len,LF.Lf.rem_len_no hi2]
theorem ad_lf(k:ByteArray):AdF (LF.Lf.keysL L) (LF.Lf.keysL (LF.Lf.adL ch mo n L k)) [] mo k (!inn (LF.Lf.keysL L) k&&decide ((LF.Lf.keysL L).length < mo)):=by
 have hb:LF.Lf.adB mo L k=(!inn (LF.Lf.keysL L) k&&decide ((LF.Lf.keysL L).length < mo)):=by unfold LF.Lf.adB;rw[has_lf,LF.Lf.keysL_len]
 cases h:LF.Lf.adB mo L k with
 |true=>
  have h2:=h;rw[hb,Bool.and_eq_true,Bool.not_eq_true',decide_eq_true_eq,inn_no] at h2;unfold LF.Lf.adL;rw[if_pos h];have hi:LF.Lf.isIn L k=false:=by rw[has_lf];exact inn_no.2 h2.1
  exact ad_rowF h2.1 h2.2 (λx=>keysL_put.trans ⟨λg=>g.imp id λg=>g.1,λg=>g.imp id λg=>⟨g,λe=>h2.1 (e▸g)⟩⟩) (by rw[LF.Lf.keysL_len,LF.Lf.keysL_len,LF.Lf.put_len,LF.Lf.rem_len_no hi]) (by simp)
 |false=>
  unfold LF.Lf.adL;rw[h];exact ad_noneF (hb▸h)
end
section
variable{s:SR.St}
theorem sr_row(p:SR.Ok s):(s.A++s.N).reverse.Nodup:=by
 have:=p.nd;unfold SR.St.all at this;exact(List.reverse_perm _).nodup_iff.2 (List.nodup_append.1 this).1
theorem sr_headD(L:List ByteArray):L.reverse.headD ⟨#[]⟩=lastKey L:=by
 unfold lastKey;rw[List.headD_eq_head?_getD,List.head?_reverse,List.getLastD_eq_getLast?]
theorem sr_cut(s:SR.St)(n:Nat):((s.cut n).A++(s.cut n).N).reverse=(s.A++s.N).reverse.drop ((s.A++s.N).reverse.length - n):=by
 show(SR.cutA n s.N s.A++SR.cutN n s.N s.A).reverse=_;rw[SR.cut_app,List.reverse_take,List.length_reverse];congr 1;rw[List.length_append];unfold SR.gone;omega
theorem sr_prom(s:SR.St)(k:ByteArray):(s.prom k).A++(s.prom k).N=k::(s.A++s.N):=by
 unfold SR.St.prom;show(k::s.A).take _++((k::s.A).drop _++s.N)=_;rw[← List.append_assoc,List.take_append_drop];rfl
theorem req_sr(p:SR.Ok s)(hm:s.mo≠0)(k:ByteArray):ReqF (s.A++s.N).reverse ((s.req k).A++(s.req k).N).reverse s.mo k (s.hit k) (s.vic k) (s.out k):=by
 have nd:=sr_row p;have hle:(s.A++s.N).reverse.length<=s.mo:=by rw[List.length_reverse,List.length_append];exact p.le
 have hnA:s.A.Nodup/\s.N.Nodup:=by have nd:=(List.reverse_perm _).nodup_iff.1 nd;exact⟨(List.nodup_append.1 nd).1,(List.nodup_append.1 nd).2.1⟩
 have hdj:∀x,x∈s.A->x∉s.N:=λx h1 h2=>by have nd:=(List.reverse_perm _).nodup_iff.1 nd;exact(List.nodup_append.1 nd).2.2 x h1 x h2 rfl
 cases hh:s.hit k with
 |true=>
  have e2:s.out k=false:=by simp[SR.St.out,hh]
  have e3:s.vic k=⟨#[]⟩:=by unfold SR.St.vic;rw[e2];rfl
  rw[e2,e3];have hk:k∈(s.A++s.N).reverse:=by rw[has_sr] at hh;exact inn_iff.1 hh
  cases hA:inn s.A k with
  |true=>
   have e4:s.req k=s.onA k:=by unfold SR.St.req;rw[if_neg hm,if_pos hA]
   have hr:=rem_len hnA.1 (inn_iff.1 hA);rw[e4];refine hit_permF hk (λx=>?_) ?_
   . show x∈((k::rem s.A k)++s.N).reverse<->_;rw[List.mem_reverse,List.mem_reverse,List.mem_append,List.mem_append,List.mem_cons,rem_mem];constructor
     . rintro((h|h)|h)
       . exact Or.inl (h▸inn_iff.1 hA)
       . exact Or.inl h.1
       . exact Or.inr h
     . rintro(h|h)
       . by_cases e:x=k
         . exact Or.inl (Or.inl e)
         . exact Or.inl (Or.inr ⟨h,e⟩)
       . exact Or.inr h
   . show((k::rem s.A k)++s.N).reverse.length=_;rw[List.length_reverse,List.length_reverse,List.length_append,List.length_append,List.length_cons,hr]
  |false=>
   have hN:inn s.N k=true:=by unfold SR.St.hit at hh;rw[hA,Bool.or_false] at hh;exact hh
   have e4:s.req k=(s.onN k).prom k:=by unfold SR.St.req;rw[if_neg hm,if_neg (by rw[hA];simp),if_pos hN]
   have hr:=rem_len hnA.2 (inn_iff.1 hN);rw[e4,sr_prom];refine hit_permF hk (λx=>?_) ?_
   . show x∈(k::(s.A++rem s.N k)).reverse<->_;rw[List.mem_reverse,List.mem_reverse,List.mem_cons,List.mem_append,List.mem_append,rem_mem];constructor
     . rintro(h|h|h)
       . exact Or.inr (h▸inn_iff.1 hN)
       . exact Or.inl h
       . exact Or.inr h.1
     . rintro(h|h)
       . exact Or.inr (Or.inl h)
       . by_cases e:x=k
         . exact Or.inl e
         . exact Or.inr (Or.inr ⟨h,e⟩)
   . show(k::(s.A++rem s.N k)).reverse.length=_;rw[List.length_reverse,List.length_reverse,List.length_cons,List.length_append,List.length_append];omega
 |false=>
  have hk:k∉(s.A++s.N).reverse:=by rw[has_sr] at hh;exact inn_no.1 hh
  have hAN:inn s.A k=false/\inn s.N k=false:=by
   unfold SR.St.hit at hh;rw[Bool.or_eq_false_iff] at hh;exact⟨hh.2,hh.1⟩
  have hlen:(s.A++s.N).reverse.length=s.A.length+s.N.length:=by rw[List.length_reverse,List.length_append]
  have e2:s.out k=decide (s.mo<=(s.A++s.N).reverse.length):=by rw[hlen];simp[SR.St.out,hh,hm]
  have e3:s.vic k=if s.mo<=(s.A++s.N).reverse.length then(s.A++s.N).reverse.headD ⟨#[]⟩ else⟨#[]⟩:=by
   unfold SR.St.vic;rw[e2,sr_headD]
   by_cases h:s.mo<=(s.A++s.N).reverse.length
   . rw[if_pos h,if_pos (decide_eq_true h)]
   . rw[if_neg h,if_neg (by rw[decide_eq_false h];simp)]
  have hd:(s.A++s.N).reverse.length - (s.mo - 1)=(s.A++s.N).reverse.length+1 - s.mo:=by omega
  have e4:((s.req k).A++(s.req k).N).reverse.Perm (k::(s.A++s.N).reverse.drop ((s.A++s.N).reverse.length+1 - s.mo)):=by
   rw[← hd,<-sr_cut];cases hG:inn s.G k with
   |true=>
    have e:s.req k=((s.onG k).cut (s.mo - 1)).prom k:=by unfold SR.St.req;rw[if_neg hm,if_neg (by rw[hAN.1];simp),if_neg (by rw[hAN.2];simp),if_pos hG]
    rw[e,sr_prom];refine(List.reverse_perm _).trans (List.Perm.cons _ ?_);exact(List.reverse_perm _).symm
   |false=>
    have e:s.req k=(s.cut (s.mo - 1)).fr k:=by unfold SR.St.req;rw[if_neg hm,if_neg (by rw[hAN.1];simp),if_neg (by rw[hAN.2];simp),if_neg (by rw[hG];simp)]
    rw[e];show((s.cut (s.mo - 1)).A++(k::(s.cut (s.mo - 1)).N)).reverse.Perm _;refine(List.reverse_perm _).trans (List.perm_middle.trans (List.Perm.cons _ ?_));exact(List.reverse_perm _).symm
  rw[e2,e3];exact miss_tailF nd hk hm hle (λx=>by rw[e4.mem_iff,List.mem_cons]) (by rw[e4.length_eq,List.length_cons])
theorem rm_sr(p:SR.Ok s)(k:ByteArray):RmF (s.A++s.N).reverse ((s.rm k).A++(s.rm k).N).reverse (s.rm k).G k (inn (s.A++s.N).reverse k):=by
 have e:((s.rm k).A++(s.rm k).N).reverse=rem (s.A++s.N).reverse k:=by rw[rem_rev,rem_app];rfl
 rw[e];exact rm_rowF (sr_row p) (λx=>rem_mem) rfl rem_not
theorem ad_sr(k:ByteArray):AdF (s.A++s.N).reverse ((s.ad k).A++(s.ad k).N).reverse (s.ad k).G s.mo k (!inn (s.A++s.N).reverse k&&decide ((s.A++s.N).reverse.length < s.mo)):=by
 have hb:s.adB k=(!inn (s.A++s.N).reverse k&&decide ((s.A++s.N).reverse.length < s.mo)):=by
  unfold SR.St.adB;rw[has_sr,List.length_reverse,List.length_append,Nat.add_comm]
 cases h:s.adB k with
 |true=>
  have h2:=h;rw[hb,Bool.and_eq_true,Bool.not_eq_true',decide_eq_true_eq,inn_no] at h2;have e:s.ad k=⟨s.mo,s.t,k::s.N,s.A,rem s.G k,SR.tdel s.f k⟩:=by unfold SR.St.ad;rw[if_pos h]
  rw[e];refine ad_rowF h2.1 h2.2 (λx=>?_) ?_ rem_not
  . show x∈(s.A++k::s.N).reverse<->_;rw[List.mem_reverse,List.mem_reverse,List.mem_append,List.mem_append,List.mem_cons];constructor
    . rintro(h|h|h)
      . exact Or.inr (Or.inl h)
      . exact Or.inl h
      . exact Or.inr (Or.inr h)
    . rintro(h|h|h)
      . exact Or.inr (Or.inl h)
      . exact Or.inl h
      . exact Or.inr (Or.inr h)
  . show(s.A++k::s.N).reverse.length=_;rw[List.length_reverse,List.length_reverse,List.length_append,List.length_append,List.length_cons];rfl
 |false=>
  have e:s.ad k=s:=by unfold SR.St.ad;rw[h];rfl
  rw[e];exact ad_noneF (hb▸h)
theorem dr_sr(p:SR.Ok s):DrF (s.A++s.N).reverse (s.dr.A++s.dr.N).reverse s.G s.dr.G (lastKey (s.A++s.N)) (anyKey (s.A++s.N)):=by
 have e1:(s.dr.A++s.dr.N).reverse=(s.A++s.N).reverse.tail:=by
  rw[List.tail_reverse];congr 1;show SR.dA s.N s.A++s.N.dropLast=_;unfold SR.dA
  by_cases h:s.N= []
  . rw[if_pos h,h];simp
  . rw[if_neg h,List.dropLast_append_of_ne_nil h]
 have e2:anyKey (s.A++s.N)=!(s.A++s.N).reverse.isEmpty:=by unfold anyKey;rw[List.isEmpty_reverse]
 rw[e1,<-sr_headD,e2];exact dr_tailF (sr_row p) s.G
end
namespace KSt
variable{st:KSt}
theorem nd(h:st.Ok):st.keys.Nodup:=by
 cases st with
 |lr mo ks=>exact h.1
 |lf ch mo n L=>exact h.1.keys
 |sr s=>exact sr_row h
 |ar s=>
  have h:AR.Ok s:=h;refine(List.reverse_perm _).nodup_iff.2 (List.nodup_append.2 ⟨h.pre.nd 1 (by omega),h.pre.nd 0 (by omega),λa ha b hb e=>?_⟩);have:=h.pre.dis 1 0 (by omega) (by omega) a ha (e▸hb);omega
theorem le(h:st.Ok):st.keys.length<=st.mo:=by
 cases st with
 |lr mo ks=>exact h.2
 |lf ch mo n L=>show(LF.Lf.keysL L).length<=mo;rw[LF.Lf.keysL_len];exact h.2.1
 |sr s=>show(s.A++s.N).reverse.length<=s.mo;rw[List.length_reverse,List.length_append];exact h.le
 |ar s=>show(AR.keysL s.R).length<=s.mo;rw[AR.keysL_len];exact h.le
theorem req_f(h:st.Ok)(hm:st.mo≠0)(k:ByteArray):ReqF st.keys (st.req k).keys st.mo k (st.tell k).1 (st.tell k).2.1 (st.tell k).2.2:=by
 cases st with
 |lr mo ks=>exact req_lr h.1 h.2 hm k
 |lf ch mo n L=>exact req_lf h.1 h.2.1 hm k
 |sr s=>exact req_sr h hm k
 |ar s=>exact AR.req_f h hm k
theorem rm_f(h:st.Ok)(k:ByteArray):RmF st.keys (st.rm k).keys (st.rm k).ghosts k (st.has k):=by
 unfold has;cases st with
 |lr mo ks=>exact rm_rowF h.1 (λx=>rem_mem) rfl (by simp[KSt.rm,KSt.ghosts])
 |lf ch mo n L=>
  have hx:∀x,x∈LF.Lf.keysL (LF.Ht.rem L k)<->x∈LF.Lf.keysL L/\x≠k:=λx=>by
   unfold LF.Lf.keysL;rw[List.mem_map,List.mem_map];constructor
   . rintro⟨e,he,rfl⟩;exact⟨⟨e,(LF.Ht.mem_rem.1 he).1,rfl⟩,(LF.Ht.mem_rem.1 he).2⟩
   . rintro⟨⟨e,he,rfl⟩,h2⟩;exact⟨e,LF.Ht.mem_rem.2 ⟨he,h2⟩,rfl⟩
  refine rm_rowF (K':=LF.Lf.keysL (LF.Ht.rem L k)) h.1.keys hx ?_ (by simp[KSt.rm,KSt.ghosts]);show(LF.Lf.keysL (LF.Ht.rem L k)).length=(rem (LF.Lf.keysL L) k).length;unfold LF.Lf.keysL LF.Ht.rem rem;rw[List.length_map,List.filter_map,List.length_map];rfl
 |sr s=>exact rm_sr h k
 |ar s=>
  show RmF (AR.keysL s.R) (AR.keysL (s.rm k).R) (AR.ghL (s.rm k).R) k (inn (AR.keysL s.R) k);rw[← has_ar];exact AR.rm_f h k
theorem ad_f(h:st.Ok)(k:ByteArray):AdF st.keys (st.ad k).keys (st.ad k).ghosts st.mo k (st.adB k):=by
 unfold adB has;cases st with
 |lr mo ks=>exact ad_lr h.1 k
 |lf ch mo n L=>exact ad_lf k
 |sr s=>exact ad_sr k
 |ar s=>
  have hb:s.adB k=(!inn (AR.keysL s.R) k&&decide ((AR.keysL s.R).length < s.mo)):=by unfold AR.St.adB;rw[has_ar,AR.keysL_len]
  show AdF (AR.keysL s.R) (AR.keysL (s.ad k).R) (AR.ghL (s.ad k).R) s.mo k (!inn (AR.keysL s.R) k&&decide ((AR.keysL s.R).length < s.mo));rw[← hb];exact AR.ad_f h k
theorem dr_f(h:st.Ok):DrF st.keys st.dr.keys st.ghosts st.dr.ghosts st.vic st.any:=by
 cases st with
 |lr mo ks=>exact dr_tailF h.1 []
 |lf ch mo n L=>
  have e1:LF.Lf.keysL L.tail=(LF.Lf.keysL L).tail:=by cases L <;> rfl
  have e2:L.isEmpty=(LF.Lf.keysL L).isEmpty:=by cases L <;> rfl
  show DrF (LF.Lf.keysL L) (LF.Lf.keysL L.tail) [] [] (LF.Lf.hdK L) (!L.isEmpty);rw[e1,e2,keysL_head];exact dr_tailF h.1.keys []
 |sr s=>exact dr_sr h
 |ar s=>exact AR.dr_f h
theorem rs_f(h:st.Ok)(n:Nat):RsF st.keys (st.rs n).keys n (st.gone n):=by
 cases st with
 |lr mo ks=>exact rs_dropF h.1 n
 |lf ch mo m L=>
  show RsF (LF.Lf.keysL L) (LF.Lf.keysL (L.drop (L.length - n))) n ((LF.Lf.keysL L).take (L.length - n));rw[keysL_drop,<-LF.Lf.keysL_len L];exact rs_dropF h.1.keys n
 |sr s=>
  have hlen:(s.A++s.N).reverse.length=s.A.length+s.N.length:=by rw[List.length_reverse,List.length_append]
  show RsF (s.A++s.N).reverse (((s.size n).cut n).A++((s.size n).cut n).N).reverse n ((s.A++s.N).reverse.take (s.A.length+s.N.length - n));rw[sr_cut,<-hlen];exact rs_dropF (sr_row h) n
 |ar s=>exact AR.rs_f h n
theorem mo_req(st:KSt)(k:ByteArray):(st.req k).mo=st.mo:=by
 cases st with
 |sr s=>show(s.req k).mo=s.mo;unfold SR.St.req;(repeat' split) <;> rfl
 |ar s=>show(s.req k).mo=s.mo;unfold AR.St.req;(repeat' split) <;> rfl
 |_=>rfl
theorem mo_ad(st:KSt)(k:ByteArray):(st.ad k).mo=st.mo:=by
 cases st with
 |sr s=>show(s.ad k).mo=s.mo;unfold SR.St.ad;split <;> rfl
 |ar s=>show(s.ad k).mo=s.mo;unfold AR.St.ad;split <;> rfl
 |_=>rfl
theorem mo_rm(st:KSt)(k:ByteArray):(st.rm k).mo=st.mo:=by cases st <;> rfl
theorem mo_rs(st:KSt)(n:Nat):(st.rs n).mo=n:=by cases st <;> rfl
theorem start_kind{k:Nat}(hk:k < 5)(m:Nat):(start k m).kind=k/\(start k m).mo=m/\(start k m).keys= []/\(start k m).ghosts= []:=by
 obtain rfl|rfl|rfl|rfl|rfl:k=0\/k=1\/k=2\/k=3\/k=4:=by omega
 all_goals exact⟨rfl,rfl,rfl,rfl⟩
end KSt
end Go.Proofs.YtdmmciggopmglaaGreatDoor
namespace Go.Proofs.YtdmmciggopmglaaGreatDoor
open Sg
namespace KSt
variable{st:KSt}
end KSt
end Go.Proofs.YtdmmciggopmglaaGreatDoor
namespace Go.Proofs.YtdmmciggopmglaaGreatDoor
open Sg
section
variable{ch:Bool}{mo n:Nat}{L:List (LF.Ht.Ent ByteArray)}
theorem lf_put_ok(o:LF.Ht.Once L n)(f:LF.Lf.Fit ch L n)(s:LF.Ht.Srt L)(k:ByteArray):
 LF.Ht.Once (LF.Lf.put ch n L k) (n+1)/\LF.Lf.Fit ch (LF.Lf.put ch n L k) (n+1)/\LF.Ht.Srt (LF.Lf.put ch n L k):=by
 refine⟨LF.Lf.put_once o k,LF.Lf.put_fit f k,?_⟩;unfold LF.Lf.put;refine LF.Ht.ins_srt _ _ (LF.Ht.rem_srt s k) λx hx=>?_;have:=o.le x (LF.Ht.mem_rem.1 hx).1;show x.set≠n+1;omega
theorem lf_sub_ok{L':List (LF.Ht.Ent ByteArray)}(o:LF.Ht.Once L n)(f:LF.Lf.Fit ch L n)(s:LF.Ht.Srt L)(h:L'.Sublist L):LF.Ht.Once L' n/\LF.Lf.Fit ch L' n/\LF.Ht.Srt L':=
 ⟨LF.Lf.once_sub o h,LF.Lf.fit_sub f λ_ he=>h.subset he,List.Pairwise.sublist h s⟩
end
namespace KSt
variable{st:KSt}
theorem ok_req(h:st.Ok)(k:ByteArray):(st.req k).Ok:=by
 cases st with
 |lr mo ks=>exact⟨reqK_nodup k h.1,reqK_le mo ks k⟩
 |lf ch mo n L=>
  obtain⟨o,hl,f,s⟩:=h;show LF.Ht.Once (LF.Lf.reqL ch mo n L k) (LF.Lf.reqN mo n)/\(LF.Lf.reqL ch mo n L k).length<=mo/\LF.Lf.Fit ch (LF.Lf.reqL ch mo n L k) (LF.Lf.reqN mo n)/\LF.Ht.Srt (LF.Lf.reqL ch mo n L k);unfold LF.Lf.reqL LF.Lf.reqN
  by_cases hm:mo=0
  . rw[if_pos hm,if_pos hm];exact⟨o,hl,f,s⟩
  . rw[if_neg hm,if_neg hm]
    by_cases hi:LF.Lf.isIn L k=true
    . rw[if_pos hi];obtain⟨a,b,c⟩:=lf_put_ok (ch:=ch) o f s k;refine⟨a,?_,b,c⟩;rw[LF.Lf.put_len,LF.Lf.rem_len o hi];exact hl
    . rw[if_neg hi];obtain⟨o',f',s'⟩:=lf_sub_ok (ch:=ch) o f s (List.drop_sublist (L.length+1 - mo) L);obtain⟨a,b,c⟩:=lf_put_ok (ch:=ch) o' f' s' k;refine⟨a,?_,b,c⟩;rw[LF.Lf.put_len];have:=LF.Lf.rem_le (L.drop (L.length+1 - mo)) k;rw[List.length_drop] at this;omega
 |sr s=>exact SR.Ok.req h k
 |ar s=>exact AR.Ok.req h k
theorem ok_rm(h:st.Ok)(k:ByteArray):(st.rm k).Ok:=by
 cases st with
 |lr mo ks=>exact⟨rem_nodup h.1,Nat.le_trans (rem_le ks k) h.2⟩
 |lf ch mo n L=>
  obtain⟨o,hl,f,s⟩:=h;obtain⟨o',f',s'⟩:=lf_sub_ok (ch:=ch) (L':=LF.Ht.rem L k) o f s List.filter_sublist;exact⟨o',Nat.le_trans (LF.Lf.rem_le L k) hl,f',s'⟩
 |sr s=>exact SR.Ok.rm h k
 |ar s=>exact AR.Ok.rm h k
theorem ok_ad(h:st.Ok)(k:ByteArray):(st.ad k).Ok:=by
 cases st with
 |lr mo ks=>
  show(LR.adK mo ks k).Nodup/\(LR.adK mo ks k).length<=mo;unfold LR.adK
  by_cases hb:LR.adB mo ks k=true
  . rw[if_pos hb];unfold LR.adB at hb;rw[Bool.and_eq_true,decide_eq_true_eq] at hb;refine⟨snoc_nodup k h.1,?_⟩;have:=rem_le ks k;rw[List.length_append,List.length_singleton];omega
  . rw[if_neg hb];exact h
 |lf ch mo n L=>
  obtain⟨o,hl,f,s⟩:=h;show LF.Ht.Once (LF.Lf.adL ch mo n L k) (LF.Lf.adN mo n L k)/\(LF.Lf.adL ch mo n L k).length<=mo/\LF.Lf.Fit ch (LF.Lf.adL ch mo n L k) (LF.Lf.adN mo n L k)/\LF.Ht.Srt (LF.Lf.adL ch mo n L k);unfold LF.Lf.adL LF.Lf.adN
  by_cases hb:LF.Lf.adB mo L k=true
  . rw[if_pos hb,if_pos hb];obtain⟨a,b,c⟩:=lf_put_ok (ch:=ch) o f s k;unfold LF.Lf.adB at hb;rw[Bool.and_eq_true,decide_eq_true_eq] at hb;refine⟨a,?_,b,c⟩;have:=LF.Lf.rem_le L k;rw[LF.Lf.put_len];omega
  . rw[if_neg hb,if_neg hb];exact⟨o,hl,f,s⟩
 |sr s=>exact SR.Ok.ad h k
 |ar s=>exact AR.Ok.ad h k
theorem ok_rs(h:st.Ok)(m:Nat):(st.rs m).Ok:=by
 cases st with
 |lr mo ks=>exact⟨h.1.sublist (lastN_sub m ks),by show(lastN m ks).length<=m;rw[lastN_len];omega⟩
 |lf ch mo n L=>
  obtain⟨o,hl,f,s⟩:=h;obtain⟨o',f',s'⟩:=lf_sub_ok (ch:=ch) o f s (List.drop_sublist (L.length - m) L);exact⟨o',by rw[List.length_drop];omega,f',s'⟩
 |sr s=>exact SR.Ok.rs h m
 |ar s=>exact AR.Ok.rs h m
theorem ok_start(kind m:Nat):(start kind m).Ok:=by
 have lf:∀ch,(KSt.lf ch m 0 []).Ok:=λch=>⟨⟨List.nodup_nil,List.nodup_nil,(λe he=>by cases he)⟩,Nat.zero_le _,⟨(λe he=>by cases he),(λe he=>by cases he)⟩,List.Pairwise.nil⟩;rcases kind with _|_|_|_|kind
 . exact⟨List.nodup_nil,Nat.zero_le _⟩
 . exact lf false
 . exact lf true
 . exact SR.ok_start m
 . exact AR.ok_start m
end KSt
end Go.Proofs.YtdmmciggopmglaaGreatDoor
/- plain numbers: Fx Fxb Fxc. -/

set_option maxRecDepth 20000
namespace Go.Proofs.YtdmmciggopmglaaGreatDoor.Fx
def add(a b:Nat):Nat:=if 18446744073709551615 < a+b then 18446744073709551615 else a+b
def mul(a b:Nat):Nat:=if 18446744073709551615 < a*b / 4611686018427387904 then 18446744073709551615 else a*b / 4611686018427387904
def quo(a b:Nat):Nat:=if b<=a / 4 then 18446744073709551615 else a*4611686018427387904 / b
def pw(x n p:Nat):Nat:=if h:n=0 then p else pw (mul x x) (n / 2) (if n % 2=1 then mul p x else p)
termination_by n
decreasing_by omega
def ex(x:Nat):Nat->Nat->Nat->Nat->Nat
 |0,_,_,s=>s
 |n+1,k,t,s=>ex x n (k+1) (mul t x / k) (add s (mul t x / k))
def exp(x:Nat):Nat:=ex x 63 1 4611686018427387904 4611686018427387904
def fall(x:Nat):Nat:=quo 4611686018427387904 (exp x)
def part(a b:Nat):Nat:=if 18446744073709551615 < a+b then quo (a / 2) (a / 2+b / 2) else quo a (a+b)
def share(a b l:Nat):Nat:=min (max (part a b) l) (4611686018427387904 - l)
theorem add_le(a b:Nat):add a b<=18446744073709551615:=by unfold add;split <;> omega
theorem mul_le(a b:Nat):mul a b<=18446744073709551615:=by unfold mul;split <;> omega
theorem quo_le(a b:Nat)(ha:a<=18446744073709551615):quo a b<=18446744073709551615:=by
 unfold quo;split
 . omega
 . rename_i h
   have hb:0 < b:=by omega
   have:a*4611686018427387904 / b < 18446744073709551616:=by
    rw[Nat.div_lt_iff_lt_mul hb];omega
   omega
theorem pw_zero(x p:Nat):pw x 0 p=p:=by unfold pw;simp
theorem pw_step(x n p:Nat)(h:n≠0):pw x n p=pw (mul x x) (n / 2) (if n % 2=1 then mul p x else p):=by rw[pw];simp[h]
theorem zero_mul(a:Nat):mul 0 a=0:=by simp[mul]
theorem add_zero(a:Nat)(h:a<=18446744073709551615):add a 0=a:=by unfold add;split <;> omega
theorem ex_zero(x:Nat):∀n k s,s<=18446744073709551615->ex x n k 0 s=s
 |0,_,_,_=>rfl
 |n+1,k,s,h=>by rw[ex,zero_mul,Nat.zero_div,add_zero s h,ex_zero x n (k+1) s h]
theorem ex_le(x:Nat):∀n k t s,s<=18446744073709551615->ex x n k t s<=18446744073709551615
 |0,_,_,_,h=>h
 |n+1,k,_,_,_=>ex_le x n (k+1) _ _ (add_le _ _)
theorem exp_le(x:Nat):exp x<=18446744073709551615:=ex_le x _ _ _ _ (by omega)
end Go.Proofs.YtdmmciggopmglaaGreatDoor.Fx
namespace Go.Proofs.YtdmmciggopmglaaGreatDoor.Fx
theorem div_mono{a b:Nat}(c:Nat)(h:a<=b):a / c<=b / c:=Nat.div_le_div_right h
theorem mul_one(a:Nat)(h:a<=18446744073709551615):mul a 4611686018427387904=a:=by
 unfold mul;rw[Nat.mul_div_cancel _ (by omega),if_neg (by omega)]
theorem cap_mono{x y:Nat}(h:x<=y):(if 18446744073709551615 < x then 18446744073709551615 else x)<=(if 18446744073709551615 < y then 18446744073709551615 else y):=by
 split <;> split <;> omega
theorem mul_mono{a b c d:Nat}(h:a<=c)(k:b<=d):mul a b<=mul c d:=cap_mono (div_mono _ (Nat.mul_le_mul h k))
theorem mul_le_left(a b:Nat)(h:a<=18446744073709551615)(hb:b<=4611686018427387904):mul a b<=a:=by
 have:=mul_mono (Nat.le_refl a) hb
 rwa[mul_one a h] at this
theorem le_add_left(a b:Nat)(h:a<=18446744073709551615):a<=add a b:=by unfold add;split <;> omega
theorem ex_ge(x:Nat):∀n k t s,s<=18446744073709551615->s<=ex x n k t s
 |0,_,_,_,_=>Nat.le_refl _
 |n+1,k,t,s,h=>Nat.le_trans (le_add_left s (mul t x / k) h) (ex_ge x n (k+1) _ _ (add_le _ _))
theorem exp_ge(x:Nat):4611686018427387904<=exp x:=ex_ge x _ _ _ _ (by omega)
theorem fall_le(x:Nat):fall x<=4611686018427387904:=by
 have h:=exp_ge x;have e1:fall x=4611686018427387904*4611686018427387904 / exp x:=by unfold fall quo;rw[if_neg (by omega)]
 rw[e1];have:=Nat.div_le_div_left (a:=4611686018427387904*4611686018427387904) h (by omega);rw[Nat.mul_div_cancel _ (by omega)] at this;exact this
end Go.Proofs.YtdmmciggopmglaaGreatDoor.Fx
namespace Go.Proofs.YtdmmciggopmglaaGreatDoor.Fx
theorem pw_le(n:Nat):∀x p,p<=18446744073709551615->pw x n p<=18446744073709551615:=by
 induction n using Nat.strongRecOn with
 |ind n ih=>
  intro x p hp;rcases Nat.eq_zero_or_pos n with rfl|hn
  . rw[pw_zero];exact hp
  . rw[pw_step x n p (by omega)];refine ih (n / 2) (by omega) _ _ ?_;split
    . exact mul_le _ _
    . exact hp
theorem share_ge(a b l:Nat)(hl:l<=2305843009213693952):l<=share a b l:=by unfold share;omega
theorem share_le(a b l:Nat):share a b l<=4611686018427387904 - l:=by unfold share;omega
end Go.Proofs.YtdmmciggopmglaaGreatDoor.Fx
namespace Go.Proofs.YtdmmciggopmglaaGreatDoor.LE
open Sg
structure St where
 six:Bool
 mo:Nat
 clock:Nat
 A:KSt
 B:KSt
 HA:List (ByteArray × Nat)
 HB:List (ByteArray × Nat)
 w:Nat
 rate:Nat
 asked:Nat
 hits:Nat
 last:Nat
 still:Nat
 ends:Nat
 down:Bool
 vs:List Nat
def gk(H:List (ByteArray × Nat)):List ByteArray:=H.map Prod.fst
def wo(H:List (ByteArray × Nat))(k:ByteArray):List (ByteArray × Nat):=H.filter λp=>decide (p.1≠k)
def look(H:List (ByteArray × Nat))(k:ByteArray):Option Nat:=(H.find? λp=>decide (p.1=k)).map Prod.snd
def least:Nat:=Fx.quo 1 100
def slow:Nat:=Fx.quo 1 1000
def one:Nat:=4611686018427387904
def half:Nat:=2305843009213693952
theorem least_val:least=46116860184273879:=by decide
theorem slow_val:slow=4611686018427387:=by decide
theorem start_val:Fx.quo 45 100=2075258708292324556:=by decide
namespace St
def fallOf(s:St)(t:Nat):Nat:=Fx.fall (Fx.mul s.rate (Fx.pw (Fx.quo s.mo (s.mo+1)) (s.clock - t) 4611686018427387904))
def wA(s:St)(t:Nat):Nat:=Fx.share (Fx.mul s.w (s.fallOf t)) (one - s.w) least
def wB(s:St)(t:Nat):Nat:=Fx.share s.w (Fx.mul (one - s.w) (s.fallOf t)) least
def wR(s:St)(k:ByteArray):Nat:=
 match look s.HA k with
 |some t=>s.wA t
 |none=>match look s.HB k with
  |some t=>s.wB t
  |none=>s.w
def regret(s:St)(k:ByteArray):St:={s with w:=s.wR k,HA:=wo s.HA k,HB:=wo s.HB k}
def pick(s:St):Bool:=decide (s.vs.headD 0 / 4 < s.w)
def evV(s:St):ByteArray:=if s.pick=true then s.A.vic else s.B.vic
def evict(s:St):St:=
 if s.pick=true then{s with vs:=s.vs.tail,HA:=((s.A.vic,s.clock)::s.HA).take s.mo,A:=s.A.rm s.A.vic,B:=s.B.rm s.A.vic}
 else{s with vs:=s.vs.tail,HB:=((s.B.vic,s.clock)::s.HB).take s.mo,A:=s.A.rm s.B.vic,B:=s.B.rm s.B.vic}
def both(s:St)(k:ByteArray):St:={s with A:=s.A.ad k,B:=s.B.ad k}
def tick(s:St):St:={s with clock:=s.clock+1}
def full(s:St):Bool:=decide (s.mo<=s.A.keys.length)
def make(s:St)(k:ByteArray):St:=if s.full=true then(s.regret k).evict else s.regret k
def drawn(n:Nat):Nat:=max (n / 4) slow
def moved(d:Bool)(r:Nat):Nat:=max (min (if d=true then r - r / 4 else r+r / 4) one) slow
def turnD(s:St):Bool:=if s.hits < s.last then !s.down else s.down
def endW(s:St):St:={s with ends:=s.ends+1,last:=s.hits,hits:=0,asked:=0}
def window(s:St):St:=
 if s.six=false then s
 else if s.asked+1 < s.mo then{s with asked:=s.asked+1}
 else if s.ends=0 then s.endW
 else if s.hits=s.last then
  if s.still=9 then{s.endW with still:=0,rate:=drawn (s.vs.headD 0),vs:=s.vs.tail} else{s.endW with still:=s.still+1}
 else{s.endW with still:=0,down:=s.turnD,rate:=moved s.turnD s.rate}
def onHit(s:St)(k:ByteArray):St:={s with hits:=s.hits+1,A:=s.A.req k,B:=s.B.req k}
def req(s:St)(k:ByteArray):St:=
 if s.mo=0 then s.tick
 else if s.A.has k=true then(s.tick.onHit k).window
 else((s.tick.make k).both k).window
def keys(s:St):List ByteArray:=s.A.keys
def ghosts(s:St):List ByteArray:=gk s.HA++gk s.HB
def has(s:St)(k:ByteArray):Bool:=s.A.has k
def outB(s:St)(k:ByteArray):Bool:=!s.has k&&(decide (s.mo≠0)&&s.full)
def vicV(s:St)(k:ByteArray):ByteArray:=if s.outB k=true then(s.tick.regret k).evV else⟨#[]⟩
def step(s:St)(k:ByteArray):Value:= .agg #[.bool (s.has k),.string (s.vicV k),.bool (s.outB k)]
def out(s:St)(k:ByteArray):St:={s with A:=s.A.rm k,B:=s.B.rm k}
def rm(s:St)(k:ByteArray):St:={s with A:=s.A.rm k,B:=s.B.rm k,HA:=wo s.HA k,HB:=wo s.HB k}
def lead(s:St):KSt:=if s.w < half then s.B else s.A
def vic(s:St):ByteArray:=s.lead.vic
def any(s:St):Bool:=s.lead.any
def dr(s:St):St:=if s.any=true then s.out s.vic else s
def drn:Nat->St->St
 |0,s=>s
 |n+1,s=>drn n s.dr
def outs:Nat->St->List ByteArray
 |0,_=>[]
 |n+1,s=>s.vic::outs n s.dr
def sized(s:St)(m:Nat):St:={s with mo:=m,A:=s.A.rs m,B:=s.B.rs m,HA:=s.HA.take m,HB:=s.HB.take m}
def rs(s:St)(m:Nat):St:=(drn (s.A.keys.length - m) s).sized m
def gone(s:St)(m:Nat):List ByteArray:=outs (s.A.keys.length - m) s
def start(six:Bool)(m:Nat)(vs:List Nat):St:=⟨six,m,0,KSt.start (if six then 3 else 0) m,KSt.start (if six then 2 else 1) m,[],[],half,Fx.quo 45 100,0,0,0,0,0,false,vs⟩
end St
theorem wo_mem{H:List (ByteArray × Nat)}{k:ByteArray}{p:ByteArray × Nat}:p∈wo H k<->p∈H/\p.1≠k:=by simp[wo]
theorem gk_mem{H:List (ByteArray × Nat)}{x:ByteArray}:x∈gk H<->∃t,(x,t)∈H:=by
 unfold gk;rw[List.mem_map];exact⟨λ⟨p,h,e⟩=>⟨p.2,e▸h⟩,λ⟨t,h⟩=>⟨_,h,rfl⟩⟩
theorem gk_wo(H:List (ByteArray × Nat))(k:ByteArray):gk (wo H k)=rem (gk H) k:=by unfold gk wo rem;rw[List.filter_map];rfl
theorem gk_take(H:List (ByteArray × Nat))(m:Nat):gk (H.take m)=(gk H).take m:=by unfold gk;rw[List.map_take]
theorem wo_len(H:List (ByteArray × Nat))(k:ByteArray):(wo H k).length<=H.length:=List.length_filter_le _ _
theorem wo_none{H:List (ByteArray × Nat)}{k:ByteArray}(h:k∉gk H):wo H k=H:=by
 unfold wo;rw[List.filter_eq_self];intro p hp;exact decide_eq_true λe=>h (gk_mem.2 ⟨p.2,e▸hp⟩)
theorem look_some{H:List (ByteArray × Nat)}{k:ByteArray}{t:Nat}(h:look H k=some t):(k,t)∈H:=by
 unfold look at h;cases hf:H.find? λp=>decide (p.1=k) with
 |none=>rw[hf] at h;cases h
 |some p=>
  rw[hf] at h;have h1:=List.mem_of_find?_eq_some hf;have h2:=List.find?_some hf;obtain rfl:p.2=t:=Option.some.inj h;obtain rfl:p.1=k:=of_decide_eq_true h2;exact h1
theorem look_none{H:List (ByteArray × Nat)}{k:ByteArray}:look H k=none<->k∉gk H:=by
 unfold look;rw[Option.map_eq_none_iff,List.find?_eq_none];constructor
 . intro h hk;obtain⟨t,ht⟩:=gk_mem.1 hk;exact h _ ht (decide_eq_true rfl)
 . intro h p hp e;obtain rfl:p.1=k:=of_decide_eq_true e;exact h (gk_mem.2 ⟨p.2,hp⟩)
structure Ok(s:St):Prop where
 okA:s.A.Ok
 okB:s.B.Ok
 moA:s.A.mo=s.mo
 moB:s.B.mo=s.mo
 kdA:s.A.kind=if s.six then 3 else 0
 kdB:s.B.kind=if s.six then 2 else 1
 mem:∀x,x∈s.A.keys<->x∈s.B.keys
 nd:(gk s.HA++gk s.HB).Nodup
 dis:∀x,x∈s.A.keys->x∉gk s.HA++gk s.HB
 lA:s.HA.length<=s.mo
 lB:s.HB.length<=s.mo
 old:∀p∈s.HA++s.HB,p.2<=s.clock
 wl:least<=s.w
 wh:s.w<=one - least
 rl:slow<=s.rate
 rh:s.rate<=one
 r5:s.six=false->s.rate=Fx.quo 45 100
theorem Ok.len{s:St}(h:Ok s):s.A.keys.length=s.B.keys.length:=((List.perm_ext_iff_of_nodup (KSt.nd h.okA) (KSt.nd h.okB)).2 h.mem).length_eq
theorem Ok.le{s:St}(h:Ok s):s.A.keys.length<=s.mo:=h.moA▸KSt.le h.okA
theorem tick_ok{s:St}(h:Ok s):Ok s.tick:={h with old:=λp hp=>Nat.le_succ_of_le (h.old p hp)}
theorem drawn_in(n:Nat)(h:n<=18446744073709551615):slow<=St.drawn n/\St.drawn n<=one:=by
 unfold St.drawn one;have:=slow_val;omega
theorem moved_in(d:Bool)(r:Nat):slow<=St.moved d r/\St.moved d r<=one:=by
 unfold St.moved;have:=slow_val;have:one=4611686018427387904:=rfl;omega
theorem window_same(s:St):s.window.six=s.six/\s.window.mo=s.mo/\s.window.clock=s.clock/\s.window.A=s.A/\s.window.B=s.B/\s.window.HA=s.HA/\s.window.HB=s.HB/\s.window.w=s.w:=by
 unfold St.window
 (repeat' split) <;> exact⟨rfl,rfl,rfl,rfl,rfl,rfl,rfl,rfl⟩
theorem share_in(a b:Nat):least<=Fx.share a b least/\Fx.share a b least<=one - least:=by
 have hl:=least_val;refine⟨Fx.share_ge a b least (by omega),?_⟩;exact Fx.share_le a b least
theorem wR_in{s:St}(h:Ok s)(k:ByteArray):least<=s.wR k/\s.wR k<=one - least:=by
 unfold St.wR;cases look s.HA k with
 |some t=>exact share_in _ _
 |none=>
  cases look s.HB k with
  |some t=>exact share_in _ _
  |none=>exact⟨h.wl,h.wh⟩
theorem fallOf_le(s:St)(t:Nat):s.fallOf t<=4611686018427387904:=Fx.fall_le _
section
variable{s:St}
theorem regret_ok(h:Ok s)(k:ByteArray):Ok (s.regret k):=by
 have hw:=wR_in h k
 have hm:∀x,x∈gk (wo s.HA k)++gk (wo s.HB k)->x∈gk s.HA++gk s.HB:=λx hx=>by
  rw[gk_wo,gk_wo,<-rem_app] at hx;exact(rem_mem.1 hx).1
 refine{h with nd:=?_,dis:=λx hx hg=>h.dis x hx (hm x hg),lA:=Nat.le_trans (wo_len _ _) h.lA,lB:=Nat.le_trans (wo_len _ _) h.lB,old:=λp hp=>?_,wl:=hw.1,wh:=hw.2}
 . show(gk (wo s.HA k)++gk (wo s.HB k)).Nodup;rw[gk_wo,gk_wo,<-rem_app];exact rem_nodup h.nd
 . refine h.old p ?_;rcases List.mem_append.1 hp with hp|hp
   . exact List.mem_append_left _ (wo_mem.1 hp).1
   . exact List.mem_append_right _ (wo_mem.1 hp).1
theorem regret_gho(s:St)(k x:ByteArray):x∈(s.regret k).ghosts<->x∈s.ghosts/\x≠k:=by
 show x∈gk (wo s.HA k)++gk (wo s.HB k)<->_;rw[gk_wo,gk_wo,<-rem_app];exact rem_mem
theorem regret_none{k:ByteArray}(h:k∉s.ghosts):s.regret k=s:=by
 have h1:k∉gk s.HA:=λe=>h (List.mem_append_left _ e);have h2:k∉gk s.HB:=λe=>h (List.mem_append_right _ e);unfold St.regret St.wR;rw[wo_none h1,wo_none h2,look_none.2 h1,look_none.2 h2]
theorem vicA(h:Ok s)(hn:s.A.keys≠ []):s.A.vic∈s.A.keys:=by
 have d:=KSt.dr_f h.okA;refine d.vic ?_;rw[d.okE];cases hk:s.A.keys with
 |nil=>exact absurd hk hn
 |cons x xs=>rfl
theorem vicB(h:Ok s)(hn:s.A.keys≠ []):s.B.vic∈s.A.keys:=by
 have d:=KSt.dr_f h.okB;rw[h.mem];refine d.vic ?_;rw[d.okE];have hl:=h.len;cases hk:s.B.keys with
 |nil=>rw[hk] at hl;exact absurd (List.eq_nil_of_length_eq_zero hl) hn
 |cons x xs=>rfl
theorem evV_mem(h:Ok s)(hn:s.A.keys≠ []):s.evV∈s.A.keys:=by
 unfold St.evV;split
 . exact vicA h hn
 . exact vicB h hn
theorem take_nodup{x:ByteArray}{H G:List ByteArray}{m:Nat}(nd:(H++G).Nodup)(hx:x∉H++G):((x::H).take m++G).Nodup:=by
 have h1:(x::(H++G)).Nodup:=List.nodup_cons.2 ⟨hx,nd⟩;exact List.Nodup.sublist (List.Sublist.append (List.take_sublist m (x::H)) (List.Sublist.refl G)) h1
theorem take_nodup2{x:ByteArray}{H G:List ByteArray}{m:Nat}(nd:(G++H).Nodup)(hx:x∉G++H):(G++(x::H).take m).Nodup:=by
 have h1:(G++x::H).Nodup:=by
  refine(List.perm_middle.nodup_iff).2 (List.nodup_cons.2 ⟨hx,nd⟩)
 exact List.Nodup.sublist (List.Sublist.append (List.Sublist.refl G) (List.take_sublist m (x::H))) h1
theorem out_mem(h:Ok s)(v x:ByteArray):(x∈(s.A.rm v).keys<->x∈s.A.keys/\x≠v)/\(x∈(s.A.rm v).keys<->x∈(s.B.rm v).keys):=by
 have a:=KSt.rm_f h.okA v;have b:=KSt.rm_f h.okB v;exact⟨a.mem x,by rw[a.mem,b.mem,h.mem]⟩
theorem out_len(h:Ok s){v:ByteArray}(hv:v∈s.A.keys):(s.A.rm v).keys.length+1=s.A.keys.length:=by
 have a:=KSt.rm_f h.okA v;have e:s.A.has v=true:=inn_iff.2 hv;have:=a.len;rw[e] at this;exact this
theorem out_ok(h:Ok s)(v:ByteArray):Ok (s.out v):=
 {h with okA:=KSt.ok_rm h.okA v,okB:=KSt.ok_rm h.okB v,moA:=(KSt.mo_rm _ _).trans h.moA,moB:=(KSt.mo_rm _ _).trans h.moB,kdA:=(KSt.kind_rm _ _).trans h.kdA,kdB:=(KSt.kind_rm _ _).trans h.kdB,mem:=λx=>(out_mem h v x).2,dis:=λx hx=>h.dis x ((out_mem h v x).1.1 hx).1}
theorem evict_ok(h:Ok s)(hn:s.A.keys≠ []):Ok s.evict/\(∀x,x∈s.evict.A.keys<->x∈s.A.keys/\x≠s.evV)/\s.evict.A.keys.length+1=s.A.keys.length/\(∀x,x∈s.evict.ghosts->x∈s.ghosts\/x=s.evV)/\s.evict.mo=s.mo/\s.evict.vs=s.vs.tail:=by
 unfold St.evict St.evV
 by_cases hp:s.pick=true
 . rw[if_pos hp,if_pos hp];have hv:=vicA h hn;have hg:=h.dis _ hv;have o:=out_ok h s.A.vic
   have gh:∀x,x∈gk (((s.A.vic,s.clock)::s.HA).take s.mo)++gk s.HB->x∈s.ghosts\/x=s.A.vic:=λx hx=>by
    rw[gk_take] at hx;rcases List.mem_append.1 hx with hx|hx
    . rcases List.mem_cons.1 (List.mem_of_mem_take hx) with e|hx
      . exact Or.inr e
      . exact Or.inl (List.mem_append_left _ hx)
    . exact Or.inl (List.mem_append_right _ hx)
   refine⟨{o with nd:=?_,dis:=λx hx hx2=>?_,lA:=?_,old:=λp hp=>?_},λx=>(out_mem h s.A.vic x).1,out_len h hv,gh,rfl,rfl⟩
   . show(gk (((s.A.vic,s.clock)::s.HA).take s.mo)++gk s.HB).Nodup;rw[gk_take];exact take_nodup h.nd hg
   . rcases gh x hx2 with g|g
     . exact o.dis x hx g
     . exact((out_mem h s.A.vic x).1.1 hx).2 g
   . show(((s.A.vic,s.clock)::s.HA).take s.mo).length<=s.mo;rw[List.length_take];omega
   . rcases List.mem_append.1 hp with hp|hp
     . rcases List.mem_cons.1 (List.mem_of_mem_take hp) with e|hp
       . rw[e];exact Nat.le_refl _
       . exact h.old p (List.mem_append_left _ hp)
     . exact h.old p (List.mem_append_right _ hp)
 . rw[if_neg hp,if_neg hp];have hv:=vicB h hn;have hg:=h.dis _ hv;have o:=out_ok h s.B.vic
   have gh:∀x,x∈gk s.HA++gk (((s.B.vic,s.clock)::s.HB).take s.mo)->x∈s.ghosts\/x=s.B.vic:=λx hx=>by
    rw[gk_take] at hx;rcases List.mem_append.1 hx with hx|hx
    . exact Or.inl (List.mem_append_left _ hx)
    . rcases List.mem_cons.1 (List.mem_of_mem_take hx) with e|hx
      . exact Or.inr e
      . exact Or.inl (List.mem_append_right _ hx)
   refine⟨{o with nd:=?_,dis:=λx hx hx2=>?_,lB:=?_,old:=λp hp=>?_},λx=>(out_mem h s.B.vic x).1,out_len h hv,gh,rfl,rfl⟩
   . show(gk s.HA++gk (((s.B.vic,s.clock)::s.HB).take s.mo)).Nodup;rw[gk_take];exact take_nodup2 h.nd hg
   . rcases gh x hx2 with g|g
     . exact o.dis x hx g
     . exact((out_mem h s.B.vic x).1.1 hx).2 g
   . show(((s.B.vic,s.clock)::s.HB).take s.mo).length<=s.mo;rw[List.length_take];omega
   . rcases List.mem_append.1 hp with hp|hp
     . exact h.old p (List.mem_append_left _ hp)
     . rcases List.mem_cons.1 (List.mem_of_mem_take hp) with e|hp
       . rw[e];exact Nat.le_refl _
       . exact h.old p (List.mem_append_right _ hp)
theorem both_ok(h:Ok s){k:ByteArray}(hk:k∉s.A.keys)(hg:k∉s.ghosts)(hl:s.A.keys.length < s.mo):
 Ok (s.both k)/\(∀x,x∈(s.both k).A.keys<->x∈s.A.keys\/x=k)/\(s.both k).A.keys.length=s.A.keys.length+1:=by
 have a:=KSt.ad_f h.okA k;have b:=KSt.ad_f h.okB k;have ea:s.A.adB k=true:=by rw[a.adE,inn_no.2 hk,h.moA,decide_eq_true hl];rfl
 have eb:s.B.adB k=true:=by rw[b.adE,inn_no.2 (λe=>hk ((h.mem k).2 e)),h.moB,<-h.len,decide_eq_true hl];rfl
 have ma:∀x,x∈(s.A.ad k).keys<->x∈s.A.keys\/x=k:=λx=>by rw[a.mem,ea];simp
 have mb:∀x,x∈(s.B.ad k).keys<->x∈s.B.keys\/x=k:=λx=>by rw[b.mem,eb];simp
 refine⟨{h with okA:=KSt.ok_ad h.okA k,okB:=KSt.ok_ad h.okB k,moA:=(KSt.mo_ad _ _).trans h.moA,moB:=(KSt.mo_ad _ _).trans h.moB,kdA:=(KSt.kind_ad _ _).trans h.kdA,kdB:=(KSt.kind_ad _ _).trans h.kdB,mem:=λx=>?_,dis:=λx hx=>?_},ma,?_⟩
 . show x∈(s.A.ad k).keys<->x∈(s.B.ad k).keys;rw[ma,mb,h.mem]
 . rcases(ma x).1 hx with hx|rfl
   . exact h.dis x hx
   . exact hg
 . have:=a.len;rw[ea] at this;exact this
theorem make_ok(h:Ok s)(hm:s.mo≠0)(k:ByteArray):Ok (s.make k)/\(s.make k).mo=s.mo/\k∉(s.make k).ghosts\/k∈s.A.keys:=by
 by_cases hk:k∈s.A.keys
 . exact Or.inr hk
 . have r:=regret_ok h k;refine Or.inl ?_;unfold St.make
   by_cases hf:s.full=true
   . rw[if_pos hf];have hf2:s.mo<=s.A.keys.length:=of_decide_eq_true hf
     have hn:(s.regret k).A.keys≠ []:=λe=>by
      have e:s.A.keys= []:=e;rw[e,List.length_nil] at hf2;omega
     obtain⟨h1,h2,h3,h4,h5,h6⟩:=evict_ok r hn;refine⟨h1,h5,λe=>?_⟩;rcases h4 k e with g|g
     . exact((regret_gho s k k).1 g).2 rfl
     . exact hk (g▸evV_mem r hn)
   . rw[if_neg hf];exact⟨r,rfl,λe=>((regret_gho s k k).1 e).2 rfl⟩
theorem make_keys(h:Ok s)(hm:s.mo≠0)(k:ByteArray):
 (s.full=true->(s.regret k).evV∈s.A.keys/\(∀x,x∈(s.make k).A.keys<->x∈s.A.keys/\x≠(s.regret k).evV)/\(s.make k).A.keys.length+1=s.A.keys.length)/\(s.full=false->(s.make k).A.keys=s.A.keys):=by
 have r:=regret_ok h k;refine⟨λhf=>?_,λhf=>?_⟩
 . have hf2:s.mo<=s.A.keys.length:=of_decide_eq_true hf
   have hn:(s.regret k).A.keys≠ []:=λe=>by
    have e:s.A.keys= []:=e;rw[e,List.length_nil] at hf2;omega
   obtain⟨h1,h2,h3,h4,h5,h6⟩:=evict_ok r hn;unfold St.make;rw[if_pos hf];exact⟨evV_mem r hn,h2,h3⟩
 . unfold St.make;rw[if_neg (by rw[hf];simp)];rfl
theorem make_lt(h:Ok s)(hm:s.mo≠0)(k:ByteArray):(s.make k).A.keys.length < s.mo:=by
 have hl:=h.le;obtain⟨h1,h2⟩:=make_keys h hm k;cases hf:s.full with
 |true=>have:=(h1 hf).2.2;omega
 |false=>
  rw[h2 hf];have:¬s.mo<=s.A.keys.length:=of_decide_eq_false hf;omega
theorem onHit_ok(h:Ok s)(hm:s.mo≠0){k:ByteArray}(hk:k∈s.A.keys):Ok (s.onHit k)/\∀x,x∈(s.onHit k).A.keys<->x∈s.A.keys:=by
 have a:=KSt.req_f h.okA (by rw[h.moA];exact hm) k;have b:=KSt.req_f h.okB (by rw[h.moB];exact hm) k
 have hp:∀{K K':List ByteArray} {mo:Nat} {t:Bool} {v:ByteArray} {o:Bool},k∈K->ReqF K K' mo k t v o->∀x,x∈K'<->x∈K:=by
  intro K K' mo t v o hk f x;have e:o=false:=by rw[f.outE,inn_iff.2 hk];rfl
  refine⟨λhx=>(f.old x hx).elim id λe=>e▸hk,λhx=>(f.stay x hx).elim id λg=>?_⟩;rw[e] at g;exact absurd g.1 (by simp)
 have ma:=hp hk a;have mb:=hp ((h.mem k).1 hk) b;refine⟨{h with okA:=KSt.ok_req h.okA k,okB:=KSt.ok_req h.okB k,moA:=(KSt.mo_req _ _).trans h.moA,moB:=(KSt.mo_req _ _).trans h.moB,kdA:=(KSt.kind_req _ _).trans h.kdA,kdB:=(KSt.kind_req _ _).trans h.kdB,mem:=λx=>?_,dis:=λx hx=>h.dis x ((ma x).1 hx)},ma⟩;show x∈(s.A.req k).keys<->x∈(s.B.req k).keys;rw[ma,mb,h.mem]
theorem req_f(h:Ok s)(hm:s.mo≠0)(k:ByteArray):ReqF s.keys (s.req k).keys s.mo k (s.has k) (s.vicV k) (s.outB k):=by
 have t:=tick_ok h;unfold St.keys St.req;rw[if_neg hm];cases hk:s.A.has k with
 |true=>
  have hk2:k∈s.A.keys:=inn_iff.1 hk;have e1:s.outB k=false:=by unfold St.outB St.has;rw[hk];rfl
  have e2:s.vicV k=⟨#[]⟩:=by unfold St.vicV;rw[e1];rfl
  have e3:s.has k=true:=hk;rw[if_pos rfl,e1,e2,e3,(window_same _).2.2.2.1];have a:=KSt.req_f h.okA (by rw[h.moA];exact hm) k
  have hl:(s.A.req k).keys.length=s.A.keys.length:=by
   have:=a.len;have e0:inn s.A.keys k=true:=inn_iff.2 hk2;have e:(s.A.tell k).1=true:=a.hitE.trans e0;have e':(s.A.tell k).2.2=false:=by rw[a.outE,e0];rfl
   rw[e,e'] at this;exact this
  exact hit_permF hk2 (onHit_ok t hm hk2).2 hl
 |false=>
  rw[if_neg (by simp),(window_same _).2.2.2.1];have hk2:k∉s.A.keys:=inn_no.1 hk;obtain⟨h1,h2,h3⟩:=(make_ok t hm k).resolve_right hk2;obtain⟨k1,k2⟩:=make_keys t hm k
  have hn:k∉(s.tick.make k).A.keys:=λe=>by
   cases hf:s.tick.full with
   |true=>exact hk2 (((k1 hf).2.1 k).1 e).1
   |false=>exact hk2 (by rw[k2 hf] at e;exact e)
  obtain⟨b1,b2,b3⟩:=both_ok h1 hn h3 (by rw[h2];exact make_lt t hm k);have e3:s.has k=false:=hk;have e1:s.outB k=s.tick.full:=by unfold St.outB;rw[e3,decide_eq_true hm];rfl
  have e0:inn s.A.keys k=false:=hk;have ef:s.tick.full=decide (s.mo<=s.A.keys.length):=rfl;unfold St.vicV;rw[e1,e3];cases hf:s.tick.full with
  |true=>
   obtain⟨g1,g2,g3⟩:=k1 hf;rw[if_pos rfl];refine⟨e0.symm,by rw[e0,<-ef,hf];rfl,λ_=>⟨g1,λe=>?_⟩,λe=>(by cases e),(b2 k).2 (Or.inr rfl),λx hx=>?_,λx hx=>?_,?_⟩
   . rcases(b2 _).1 e with e|e
     . exact((g2 _).1 e).2 rfl
     . exact hk2 (by rw[← e];exact g1)
   . by_cases e:x=(s.tick.regret k).evV
     . exact Or.inr ⟨rfl,e⟩
     . exact Or.inl ((b2 x).2 (Or.inl ((g2 x).2 ⟨hx,e⟩)))
   . exact((b2 x).1 hx).imp (λe=>((g2 x).1 e).1) id
   . rw[b3];have:s.tick.A.keys.length=s.A.keys.length:=rfl;show _=s.A.keys.length+0;omega
  |false=>
   rw[if_neg (by simp)];have g2:=k2 hf;refine⟨e0.symm,by rw[e0,<-ef,hf];rfl,λe=>(by cases e),λ_=>rfl,(b2 k).2 (Or.inr rfl),λx hx=>Or.inl ((b2 x).2 (Or.inl (by rw[g2];exact hx))),λx hx=>((b2 x).1 hx).imp (λe=>by rw[g2] at e;exact e) id,?_⟩;rw[b3,g2];rfl
theorem rm_gho(s:St)(k x:ByteArray):x∈(s.rm k).ghosts<->x∈s.ghosts/\x≠k:=regret_gho s k x
theorem rm_f(h:Ok s)(k:ByteArray):RmF s.keys (s.rm k).keys (s.rm k).ghosts k (s.has k):=by
 have a:=KSt.rm_f h.okA k;exact⟨a.wasE,a.mem,λe=>((rm_gho s k k).1 e).2 rfl,a.len⟩
theorem lead_ok(h:Ok s):s.any=(!s.A.keys.isEmpty)/\(s.any=true->s.vic∈s.A.keys):=by
 unfold St.any St.vic St.lead;split
 . have d:=KSt.dr_f h.okB
   have e:s.B.keys.isEmpty=s.A.keys.isEmpty:=by
    have:=h.len;cases h1:s.B.keys <;> cases h2:s.A.keys <;> rw[h1,h2] at this <;> first|rfl|(simp at this)
   exact⟨by rw[d.okE,e],λg=>(h.mem _).2 (d.vic g)⟩
 . have d:=KSt.dr_f h.okA;exact⟨d.okE,d.vic⟩
theorem dr_f(h:Ok s):Ok s.dr/\DrF s.keys s.dr.keys s.ghosts s.dr.ghosts s.vic s.any:=by
 obtain⟨l1,l2⟩:=lead_ok h;unfold St.dr;cases ha:s.any with
 |true=>
  rw[if_pos rfl];have hv:=l2 ha;refine⟨out_ok h _,⟨ha▸l1,λ_=>hv,λx=>?_,rfl,out_len h hv⟩⟩;refine((out_mem h s.vic x).1).trans ⟨λg=>⟨g.1,λ_=>g.2⟩,λg=>⟨g.1,g.2 rfl⟩⟩
 |false=>
  rw[if_neg (by simp)];exact⟨h,⟨ha▸l1,λe=>(by cases e),λx=>⟨λg=>⟨g,λe=>(by cases e)⟩,λg=>g.1⟩,rfl,rfl⟩⟩
theorem drn_f:∀(n:Nat) {s:St},Ok s->n<=s.keys.length->Ok (St.drn n s)/\(St.outs n s).length=n/\(St.drn n s).keys.length+n=s.keys.length/\(∀x∈St.outs n s,x∈s.keys/\x∉(St.drn n s).keys)/\(∀x∈s.keys,x∈(St.drn n s).keys\/x∈St.outs n s)/\(∀x∈(St.drn n s).keys,x∈s.keys)
 |0,s,h,_=>⟨h,rfl,rfl,λx hx=>(by cases hx),λx hx=>Or.inl hx,λx hx=>hx⟩
 |n+1,s,h,hn=>by
  obtain⟨o,f⟩:=dr_f h
  have ha:s.any=true:=by
   rw[f.okE];cases hk:s.keys with
   |nil=>rw[hk] at hn;exact absurd hn (by simp)
   |cons x xs=>rfl
  have hl:=f.len;rw[ha] at hl;have hl:s.dr.keys.length+1=s.keys.length:=hl;obtain⟨h1,h2,h3,h4,h5,h6⟩:=drn_f n o (by omega);have hm:∀x,x∈s.dr.keys<->x∈s.keys/\x≠s.vic:=λx=>(f.mem x).trans ⟨λg=>⟨g.1,g.2 ha⟩,λg=>⟨g.1,λ_=>g.2⟩⟩;refine⟨h1,by show(St.outs n s.dr).length+1=n+1;rw[h2],by show(St.drn n s.dr).keys.length+(n+1)=_;omega,λx hx=>?_,λx hx=>?_,λx hx=>((hm x).1 (h6 x hx)).1⟩
  . rcases List.mem_cons.1 hx with rfl|hx
    . exact⟨f.vic ha,λe=>((hm _).1 (h6 _ e)).2 rfl⟩
    . exact⟨((hm x).1 (h4 x hx).1).1,(h4 x hx).2⟩
  . by_cases e:x=s.vic
    . exact Or.inr (e▸List.mem_cons_self)
    . exact(h5 x ((hm x).2 ⟨hx,e⟩)).imp id (List.mem_cons_of_mem _)
theorem sized_ok(h:Ok s){m:Nat}(hl:s.keys.length<=m):Ok (s.sized m)/\∀x,x∈(s.sized m).keys<->x∈s.keys:=by
 have a:=KSt.rs_f h.okA m;have b:=KSt.rs_f h.okB m
 have e:∀{K K' out:List ByteArray},K.length<=m->RsF K K' m out->∀x,x∈K'<->x∈K:=by
  intro K K' out hl f x;have:out= []:=List.eq_nil_of_length_eq_zero (by rw[f.num];omega);refine⟨f.old x,λhx=>(f.stay x hx).elim id λg=>?_⟩;rw[this] at g;cases g
 have ma:=e hl a;have mb:=e (by rw[← h.len];exact hl) b
 have sub:∀{H G:List (ByteArray × Nat)},(gk (H.take m)++gk (G.take m)).Sublist (gk H++gk G):=by
  intro H G;rw[gk_take,gk_take];exact List.Sublist.append (List.take_sublist _ _) (List.take_sublist _ _)
 refine⟨{h with okA:=KSt.ok_rs h.okA m,okB:=KSt.ok_rs h.okB m,moA:=KSt.mo_rs _ _,moB:=KSt.mo_rs _ _,kdA:=(KSt.kind_rs _ _).trans h.kdA,kdB:=(KSt.kind_rs _ _).trans h.kdB,mem:=λx=>?_,nd:=List.Nodup.sublist sub h.nd,dis:=λx hx hg=>h.dis x ((ma x).1 hx) (sub.subset hg),lA:=?_,lB:=?_,old:=λp hp=>?_},ma⟩
 . exact(ma x).trans ((h.mem x).trans (mb x).symm)
 . show(s.HA.take m).length<=m;rw[List.length_take];omega
 . show(s.HB.take m).length<=m;rw[List.length_take];omega
 . rcases List.mem_append.1 hp with hp|hp
   . exact h.old p (List.mem_append_left _ (List.mem_of_mem_take hp))
   . exact h.old p (List.mem_append_right _ (List.mem_of_mem_take hp))
theorem rs_f(h:Ok s)(m:Nat):Ok (s.rs m)/\RsF s.keys (s.rs m).keys m (s.gone m):=by
 obtain⟨h1,h2,h3,h4,h5,h6⟩:=drn_f (s.keys.length - m) h (by omega);obtain⟨g1,g2⟩:=sized_ok h1 (m:=m) (by omega);have hl:(s.rs m).keys.length=(St.drn (s.keys.length - m) s).keys.length:=((List.perm_ext_iff_of_nodup (KSt.nd g1.okA) (KSt.nd h1.okA)).2 g2).length_eq;refine⟨g1,⟨h2,?_,λx hx=>⟨(h4 x hx).1,λe=>(h4 x hx).2 ((g2 x).1 e)⟩,λx hx=>(h5 x hx).imp (g2 x).2 id,λx hx=>h6 x ((g2 x).1 hx)⟩⟩;show(s.rs m).keys.length+(St.outs (s.keys.length - m) s).length=s.keys.length;rw[hl,h2];exact h3
end
theorem start_ok(six:Bool)(m:Nat)(vs:List Nat):Ok (St.start six m vs):=by
 have hk:∀k:Nat,k < 5->(KSt.start k m).kind=k/\(KSt.start k m).mo=m/\(KSt.start k m).keys= []/\(KSt.start k m).ghosts= []:=λk h=>KSt.start_kind h m;have a:=hk (if six then 3 else 0) (by split <;> omega);have b:=hk (if six then 2 else 1) (by split <;> omega);have hl:=least_val;have hs:=slow_val;have hq:=start_val;refine⟨KSt.ok_start _ _,KSt.ok_start _ _,a.2.1,b.2.1,a.1,b.1,λx=>?_,List.nodup_nil,λx hx=>?_,Nat.zero_le _,Nat.zero_le _,λp hp=>(by cases hp),?_,?_,?_,?_,λ_=>rfl⟩
 . show x∈(KSt.start _ m).keys<->x∈(KSt.start _ m).keys;rw[a.2.2.1,b.2.2.1]
 . have hx:x∈(KSt.start (if six then 3 else 0) m).keys:=hx;rw[a.2.2.1] at hx;cases hx
 . show least<=half;unfold half;omega
 . show half<=one - least;unfold half one;omega
 . show slow<=Fx.quo 45 100;omega
 . show Fx.quo 45 100<=one;unfold one;omega
end Go.Proofs.YtdmmciggopmglaaGreatDoor.LE
namespace Go.Proofs.YtdmmciggopmglaaGreatDoor.AR
open Go.RowKit Sg
set_option maxHeartbeats 1000000 in
theorem victimW(w:World)(i:Ix)(S:Sx)(mo p:Nat)(R:Rw4)(b:Nat)(r:Raw w i S mo p R b):Calls Tryz.prog 289 #[.pointer (some ⟨i.c,0,none⟩)] w (Stl (.tuple #[.string (lastKey (R (lv R p false))),.bool (anyKey (R (lv R p false)))]) w):=by
 have C:=Lib.hid (show ∀w1,Below w.heap.size w w1->w1.cell? ⟨i.c,2,none⟩=some (.pointer (some ⟨i.r 0,0,none⟩))/\w1.cell? ⟨i.c,3,none⟩=some (.pointer (some ⟨i.r 1,0,none⟩)) from λw1 h=>⟨(r.below h).cells.2.2.1,(r.below h).cells.2.2.2.1⟩);obtain⟨_,_,c2,c3,_⟩:=r.cells;have U:=leavingW w.drew i S mo p R b (r.below (below_drewN w 1)) false;have V:=λ(w1:World) (h:Below w.heap.size w w1) (k:Nat) (hk:k < 4)=>ls_last w1 (i.r k) (S k) (R k) b ((r.below h).ls k hk);have BD:=Lib.hid (show ∀w1,Below w.drew.heap.size w.drew w1->Below w.heap.size w w1 from λw1 h=>(below_drewN w 1).trans h);rcases lv_two R p false with hl|hl
 . rw[hl] at U|-;have U:=Lib.hid (show Calls Tryz.prog 293 #[.pointer (some ⟨i.c,0,none⟩),.bool false] w.drew (Stl (.int .i64 0) w.drew) from U);have V:=Lib.hid (λw1 h=>V w1 h 0 (by omega));generalize lastKey (R 0)=x at*;generalize anyKey (R 0)=q at*;clear r hl;go_enter Tryz.func289,Tryz.ntmps289;go_wp2_with fail
   go_region_held3(λw'=>w'.cell? ⟨i.c,2,none⟩=some (.pointer (some ⟨i.r 0,0,none⟩))/\w'.cell? ⟨i.c,3,none⟩=some (.pointer (some ⟨i.r 1,0,none⟩))) (first|(with_reducible exact⟨y2,y3⟩)|(with_reducible exact⟨c2,c3⟩)|go_keep)
    (first
      |(go_at_call 293;refine U.out.mono ?_;rintro e w1 ⟨rfl,hB1⟩;obtain⟨y2,y3⟩:=C.out w1 (BD.out w1 hB1);have B1:=Lib.hid (BD.out w1 hB1);clear hB1 U)
      |(go_at_call 154;refine(V.out w1 B1.out).mono ?_;rintro e w2 ⟨rfl,rfl⟩;clear V))
   go_wp2_with fail
   go_ret2
   exact⟨rfl,B1.out⟩
 . rw[hl] at U|-;have U:=Lib.hid (show Calls Tryz.prog 293 #[.pointer (some ⟨i.c,0,none⟩),.bool false] w.drew (Stl (.int .i64 1) w.drew) from U);have V:=Lib.hid (λw1 h=>V w1 h 1 (by omega));generalize lastKey (R 1)=x at*;generalize anyKey (R 1)=q at*;clear r hl;go_enter Tryz.func289,Tryz.ntmps289;go_wp2_with fail
   go_region_held3(λw'=>w'.cell? ⟨i.c,2,none⟩=some (.pointer (some ⟨i.r 0,0,none⟩))/\w'.cell? ⟨i.c,3,none⟩=some (.pointer (some ⟨i.r 1,0,none⟩))) (first|(with_reducible exact⟨y2,y3⟩)|(with_reducible exact⟨c2,c3⟩)|go_keep)
    (first
      |(go_at_call 293;refine U.out.mono ?_;rintro e w1 ⟨rfl,hB1⟩;obtain⟨y2,y3⟩:=C.out w1 (BD.out w1 hB1);have B1:=Lib.hid (BD.out w1 hB1);clear hB1 U)
      |(go_at_call 154;refine(V.out w1 B1.out).mono ?_;rintro e w2 ⟨rfl,rfl⟩;clear V))
   go_wp2_with fail
   go_ret2
   exact⟨rfl,B1.out⟩
theorem victim_ca(w:World)(c:Nat)(T:Nat->Prop)(s:St)(b:Nat)(h:Ca w c T s b):Calls Tryz.prog 289 #[.pointer (some ⟨c,0,none⟩)] w (Stl (.tuple #[.string (lastKey (s.R (lv s.R s.p false))),.bool (anyKey (s.R (lv s.R s.p false)))]) w):=by
 obtain⟨i,S,rfl,rfl,hR,hp⟩:=h;exact victimW w i S _ _ _ b hR
end Go.Proofs.YtdmmciggopmglaaGreatDoor.AR
namespace Go.Proofs.YtdmmciggopmglaaGreatDoor
open Go.RowKit Sg
def fVictim:Nat->Nat|0=>201|3=>267|4=>289|_=>215
theorem victim_k(w:World)(c:Nat)(T:Nat->Prop)(st:KSt)(b:Nat)(h:KCa w c T st b):Calls Tryz.prog (fVictim st.kind) #[.pointer (some ⟨c,0,none⟩)] w (Told (.tuple #[.string st.vic,.bool st.any]) w):=by
 cases st with
 |lr mo ks=>exact(LR.victim_ca w c T mo ks b h).mono λe w' q=>told_same q
 |lf ch mo n L=>
  have:=LF.victim_ca w c T mo ch L n h.1;cases ch <;> exact this
 |sr s=>exact(SR.victim_ca w c T s b h).mono λe w' q=>told_same q
 |ar s=>exact AR.victim_ca w c T s b h
end Go.Proofs.YtdmmciggopmglaaGreatDoor
