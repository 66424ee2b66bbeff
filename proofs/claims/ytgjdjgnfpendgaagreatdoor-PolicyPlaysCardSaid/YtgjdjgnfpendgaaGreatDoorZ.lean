/- Short names. -/
import Derived.Deep.RegionHeld
import Derived.Lib.Hide
import Derived.IntWalk
import Derived.Below
namespace Go.Proofs.YtgjdjgnfpendgaaGreatDoor
open Go.RowKit
theorem J {p:Prop} (h:p):Go.RowKit.Hid p:=h
theorem zs (p:Prop) (h:p):Go.RowKit.Hid p:=h
theorem zx {α:Type _} (a:α):∃b,b=a:=⟨a,rfl⟩
theorem zq {α β γ:Type _} {p:α->β->γ->Prop} (a:α) (b:β) (c:γ) (h:p a b c):p a b c:=h
abbrev za:=@List.setIfInBounds_toArray
abbrev zb:=@List.set_cons_zero
abbrev zc:=@List.set_cons_succ
def zd:Nat->List Bool->Nat
 |_,[]=>0
 |k,true::l=>zd k l+1
 |0,false::_=>0
 |k+1,false::l=>zd k l+1
def ze:Nat->List Bool->List Bool
 |_,[]=>[]
 |k,true::l=>true::ze k l
 |0,false::l=>true::l
 |k+1,false::l=>false::ze k l
theorem zf (k:Nat) (l:List Bool):l.set (zd k l) true=ze k l:=by
 induction l generalizing k with
 |nil=>rfl
 |cons b l ih=>
  cases b with
  |true=>show true::l.set (zd k l) true=_;rw [ih];rfl
  |false=>
   cases k with
   |zero=>rfl
   |succ k=>show false::l.set (zd k l) true=_;rw [ih];rfl
section
variable {P:Program} {ops:Array Oper} {Q:Exit->Act->World->Prop} {md:Region.Mode} {S:World->Prop} {d:Option Nat} {o:Op} {t:Nat} {p:String} {f:Array Edge} {g:Option (Nat×Bool)} {n:Nat} {l:Array Bool} {m:List Bool} {a:Act} {w:World} {v:Value}
theorem zk (i:Nat) (hi:ops[i]? =some ⟨d,o,t,p,f,g⟩) (hb:(Region.noSelect ops&&Region.free md ops l i&&(Region.ready md ops l).contains i)=true) (hQ:∀c a w,Q (.panic c) (a.put d v) w->Q (.panic c) a w) (hy:YieldsIf P ops S ⟨d,o,t,p,f,g⟩ v a) (hS:S w) (h:wpAnyH P md ops Q S n (l.setIfInBounds i true) (a.put d v) w):wpAnyH P md ops Q S (n+1) l a w:=by
 simp only [Bool.and_eq_true] at hb;exact wpAnyH_take hi hb.1.1 hb.1.2 hb.2 hQ hy hS h
theorem zl (i:Nat) (hi:ops[i]? =some ⟨d,o,t,p,f,g⟩) (hb:(Region.noSelect ops&&Region.free md ops l i&&(Region.ready md ops l).contains i&&Region.wanted ⟨d,o,t,p,f,g⟩ (yielded ops a.tmps))=true) (hQ:∀c a w,Q (.panic c) (a.put d v) w->Q (.panic c) a w) (hS:S w) (hy:∀w,S w->(execOp a.eval ⟨d,o,t,p,f,g⟩).run P w=.ok (.value v) w) (h:wpAnyH P md ops Q S n (l.setIfInBounds i true) (a.put d v) w):wpAnyH P md ops Q S (n+1) l a w:=by
 simp only [Bool.and_eq_true] at hb;exact wpAnyH_take hi hb.1.1.1 hb.1.1.2 hb.1.2 hQ (Or.inl ⟨hb.2,hy⟩) hS h
theorem zu (i:Nat) (hi:ops[i]? =some ⟨d,o,t,p,f,g⟩) (hb:(Region.noSelect ops&&Region.free md ops l i&&(Region.ready md ops l).contains i&& !Region.wanted ⟨d,o,t,p,f,g⟩ (yielded ops a.tmps))=true) (hQ:∀c a w,Q (.panic c) (a.put d undef) w->Q (.panic c) a w) (hS:S w) (h:wpAnyH P md ops Q S n (l.setIfInBounds i true) (a.put d undef) w):wpAnyH P md ops Q S (n+1) l a w:=by
 simp only [Bool.and_eq_true,Bool.not_eq_true'] at hb;exact wpAnyH_take hi hb.1.1.1 hb.1.1.2 hb.1.2 hQ (Or.inr ⟨hb.2,rfl⟩) hS h
theorem zn {i:Nat} (hi:ops[i]? =some ⟨d,o,t,p,f,g⟩) (h:∀K:Act->World->Prop,Shut (∀a w,S w->(S w->wpAnyH P md ops Q S n (l.setIfInBounds i true) a w)->K a w)->if Region.wanted ⟨d,o,t,p,f,g⟩ (yielded ops a.tmps)=true then Oper.wp P ⟨d,o,t,p,f,g⟩ a w K Q else K (a.put d undef) w):AllReadyH P md ops Q S n l a w [i]:=AllReadyH.cons hi h AllReadyH.nil
theorem zi (k:Nat) (hi:ops[zd k m]? =some ⟨d,o,t,p,f,g⟩) (hb:(Region.noSelect ops&&Region.free md ops m.toArray (zd k m)&&(Region.ready md ops m.toArray).contains (zd k m)&&Region.wanted ⟨d,o,t,p,f,g⟩ (yielded ops a.tmps))=true) (hQ:∀c a w,Q (.panic c) (a.put d v) w->Q (.panic c) a w) (hS:S w) (hy:∀w,S w->(execOp a.eval ⟨d,o,t,p,f,g⟩).run P w=.ok (.value v) w) (h:wpAnyH P md ops Q S n (ze k m).toArray (a.put d v) w):wpAnyH P md ops Q S (n+1) m.toArray a w:=by
 refine zl _ hi hb hQ hS hy ?_;rw [List.setIfInBounds_toArray,zf];exact h
theorem zj (k:Nat) (hi:ops[zd k m]? =some ⟨d,o,t,p,f,g⟩) (hb:(Region.noSelect ops&&Region.free md ops m.toArray (zd k m)&&(Region.ready md ops m.toArray).contains (zd k m)&& !Region.wanted ⟨d,o,t,p,f,g⟩ (yielded ops a.tmps))=true) (hQ:∀c a w,Q (.panic c) (a.put d undef) w->Q (.panic c) a w) (hS:S w) (h:wpAnyH P md ops Q S n (ze k m).toArray (a.put d undef) w):wpAnyH P md ops Q S (n+1) m.toArray a w:=by
 refine zu _ hi hb hQ hS ?_;rw [List.setIfInBounds_toArray,zf];exact h
end
abbrev zg:=@Nat.le_refl
abbrev zh:=@List.length_append
abbrev zm:=@List.getElem?_eq_getElem
abbrev zo:=@Below.refl
abbrev zr:=@Nat.le_trans
abbrev zt:=@List.getD_eq_getElem?_getD
abbrev zv:=@List.length_cons
abbrev qa:=@Ne.symm
abbrev qc:=@Below.heap_setCell
abbrev qd:=@List.mem_append
abbrev qe:=@List.eq_nil_of_length_eq_zero
abbrev qf:=@Below.heap_alloc
abbrev qh:=@List.length_take
abbrev qi:=@IntWalk.i64_in
abbrev qj:=@List.nodup_cons
abbrev qk:=@List.take_of_length_le
abbrev ql:=@List.length_nil
abbrev qm:=@List.mem_cons_of_mem
abbrev qo:=@List.mem_singleton
abbrev qp:=@List.length_reverse
abbrev qq:=@List.mem_append_left
abbrev qt:=@Array.getD_eq_getD_getElem?
abbrev qu:=@List.mem_cons
abbrev qv:=@Array.getElem?_setIfInBounds_ne
abbrev qw:=@List.getLastD_eq_getLast?
abbrev qx:=@List.mem_append_right
abbrev qy:=@List.getElem_mem
abbrev qz:=@List.getLast?_eq_some_getLast
abbrev xa:=@List.mem_cons_self
abbrev xb:=@List.map_cons
abbrev xc:=@List.map_append
abbrev xd:=@Nat.lt_of_lt_of_le
abbrev xe:=@List.length_map
abbrev xf:=@Nat.le_of_eq
abbrev xg:=@Nat.zero_le
abbrev xh:=@List.map_congr_left
abbrev xi:=@List.mem_map
abbrev xj:=@List.getElem?_map
abbrev xk:=@List.Sublist.refl
abbrev xl:=@List.mem_reverse
abbrev xm:=@List.length_drop
abbrev xn:=@List.mem_of_mem_take
abbrev xp:=@List.append_assoc
abbrev xq:=@List.append_nil
abbrev xr:=@Array.getElem?_setIfInBounds_self_of_lt
abbrev xt:=@List.mem_map_of_mem
abbrev xu:=@List.length_dropLast
abbrev xv:=@List.getElem?_take
abbrev xw:=@List.take_append_drop
abbrev xx:=@List.filter_sublist
abbrev xy:=@And.intro
abbrev xz:=@Or.inl
abbrev ja:=@Or.inr
abbrev zw:=World
abbrev zy:=ByteArray
abbrev zY:=List zy
