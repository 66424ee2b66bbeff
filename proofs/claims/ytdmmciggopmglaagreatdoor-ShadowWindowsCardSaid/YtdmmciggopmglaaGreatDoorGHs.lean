/- the hash and the sample: Hs Hash Samp. -/
import Derived.Laws.Bits64
import Derived.Test.YtdmmciggopmglaaGreatDoorChecked
import Derived.WalkKit
import Derived.IntWalk
import Derived.LoopTactic
import Derived.Lib.Hide
set_option maxRecDepth 20000
namespace Go.Proofs.YtdmmciggopmglaaGreatDoor.HS.Hs
open Go
def start:Nat:=14695981039346656037
def mulm(a b:Nat):Nat:=a*b % 18446744073709551616
def step(h c:Nat):Nat:=mulm (h ^^^ c) 1099511628211
def fold(h:Nat):Nat:=h ^^^ (h / 8589934592)
def body(l:List UInt8):Nat:=l.foldl (λh c=>step h c.toNat) start
def last(h:Nat):Nat:=mulm (fold h) 18397679294719823053
def hash(l:List UInt8):Nat:=fold (last (body l))
theorem xor_le{a b:Nat}(ha:a<=18446744073709551615)(hb:b<=18446744073709551615):a ^^^ b<=18446744073709551615:=by
 have:a ^^^ b < 2 ^ 64:=Nat.xor_lt_two_pow (by omega) (by omega);omega
theorem mulm_le(a b:Nat):mulm a b<=18446744073709551615:=by unfold mulm;omega
theorem step_le(h c:Nat):step h c<=18446744073709551615:=mulm_le _ _
theorem fold_le{h:Nat}(hh:h<=18446744073709551615):fold h<=18446744073709551615:=xor_le hh (by omega)
theorem last_le(h:Nat):last h<=18446744073709551615:=mulm_le _ _
theorem body_snoc(l:List UInt8)(c:UInt8):body (l++ [c])=step (body l) c.toNat:=by
 unfold body;rw[List.foldl_append,List.foldl_cons,List.foldl_nil]
theorem body_le(l:List UInt8):body l<=18446744073709551615:=by
 rcases List.eq_nil_or_concat l with rfl|⟨l',c,rfl⟩
 . simp[body,start]
 . rw[List.concat_eq_append,body_snoc];exact step_le _ _
theorem hash_le(l:List UInt8):hash l<=18446744073709551615:=fold_le (last_le _)
theorem xorC{a b:Nat}(ha:a<=18446744073709551615)(hb:b<=18446744073709551615):bits .xor .u64 (a:Int) (b:Int)=((a ^^^ b:Nat):Int):=bits_xor_u64_nat a b (by omega) (by omega)
theorem foldC{h:Nat}(hh:h<=18446744073709551615):bits .xor .u64 (h:Int) ((h:Int) / 8589934592)=((fold h:Nat):Int):=xorShift_u64 h 8589934592 (by omega)
theorem mulC(a b:Nat):IntKind.u64.wrap ((a:Int)*(b:Int))=((mulm a b:Nat):Int):=by rw[IntKind.wrap_u64,mulm];simp
def samp(h:Nat)(s:Int):Bool:=decide (h / 2 ^ (64 - (min (max s 0) 64).toNat)=0)
theorem samp_zero{h:Nat}(hh:h<=18446744073709551615){s:Int}(hs:s<=0):samp h s=true:=by
 unfold samp;have e:(min (max s 0) 64).toNat=0:=by omega
 rw[e];exact decide_eq_true (Nat.div_eq_of_lt (by omega))
theorem samp_iff(h:Nat)(s:Int):samp h s=true<->h < 2 ^ (64 - (min (max s 0) 64).toNat):=by
 unfold samp;rw[decide_eq_true_iff,Nat.div_eq_zero_iff];constructor
 . rintro(h0|h0)
   . have:=Nat.two_pow_pos (64 - (min (max s 0) 64).toNat);omega
   . exact h0
 . exact Or.inr
theorem samp_less{h:Nat}{s t:Int}(ht:t<=s)(hs:samp h s=true):samp h t=true:=by
 rw[samp_iff] at*;exact Nat.lt_of_lt_of_le hs (Nat.pow_le_pow_right (by omega) (by omega))
end Go.Proofs.YtdmmciggopmglaaGreatDoor.HS.Hs
namespace Go.Proofs.YtdmmciggopmglaaGreatDoor.HS
open Go.RowKit
theorem ret_int{k:IntKind}{a b:Int}(h:a=b):Ending.returned (.int k a)= .returned (.int k b):=by rw[h]
theorem ret_bool{a b:Bool}(h:a=b):Ending.returned (.bool a)= .returned (.bool b):=by rw[h]
theorem fold_any(h:Nat)(w:World)(hh:h<=18446744073709551615):
 Calls Tryz.prog 45 #[.int .u64 h] w λe w'=>e= .returned (.int .u64 (Hs.fold h:Nat))/\w=w':=by
 have e1:=Hs.foldC hh;go_enter Tryz.func45,Tryz.ntmps45;go_wp2
 go_ret;exact⟨rfl,rfl⟩
theorem take_snoc(s:ByteArray)(k:Nat)(h:k < s.size):s.data.toList.take (k+1)=s.data.toList.take k++ [s[k]]:=by
 rw[List.take_succ_eq_append_getElem (by simpa using h)];rfl
theorem u8_le(c:UInt8):c.toNat<=255:=by have:=c.toNat_lt;omega
def HashPost(s:ByteArray)(w:World)(e:Ending)(w':World):Prop:=e= .returned (.int .u64 (Hs.hash s.data.toList:Nat))/\w=w'
set_option maxHeartbeats 1000000 in
theorem hash_any(s:ByteArray)(w:World)(hs:s.size<=500):
 Calls Tryz.prog 35 #[.string s] w (HashPost s w):=by
 go_enter Tryz.func35,Tryz.ntmps35;go_wp2_with fail
 go_loop [3,7] (λh i=>∃k:Nat,k<=s.size/\i= .int .i64 k/\h= .int .u64 (Hs.body (s.data.toList.take k):Nat)) (λ_ i=>s.size - (intOf i).toNat)
 case atStart=>exact⟨0,Nat.zero_le _,rfl,rfl⟩
 case round=>
  obtain⟨k,hk,rfl,rfl⟩:=hrel;have hb:=Hs.body_le (s.data.toList.take k)
  by_cases hlt:k < s.size
  . have E:=Lib.hid (show Hs.body (s.data.toList.take (k+1))=Hs.step (Hs.body (s.data.toList.take k)) s[k].toNat by rw[take_snoc s k hlt,Hs.body_snoc]);have hc:=u8_le s[k];obtain⟨x,hx⟩:∃x,x=Hs.body (s.data.toList.take k) ^^^ s[k].toNat:=⟨_,rfl⟩;have e1:bits .xor .u64 ((Hs.body (s.data.toList.take k):Nat):Int) ((s[k].toNat:Nat):Int)=(x:Int):=by rw[hx];exact Hs.xorC hb (by omega)
    have hx1:x<=18446744073709551615:=by rw[hx];exact Hs.xor_le hb (by omega)
    have e2:IntKind.u64.wrap ((x:Int)*1099511628211)=((Hs.mulm x 1099511628211:Nat):Int):=Hs.mulC x 1099511628211;have E3:=Lib.hid (show Hs.body (s.data.toList.take (k+1))=Hs.mulm x 1099511628211 by rw[E.out,hx];rfl);clear E hx;go_wp2_with fail
    go_round
    case rel=>exact⟨k+1,by omega,by go_num,by rw[E3.out]⟩
    case measure=>simp[intOf];omega
  . have E:=Lib.hid (show Hs.body (s.data.toList.take k)=Hs.body s.data.toList by rw[List.take_of_length_le (by simp;omega)]);obtain⟨h,hh⟩:∃h,h=Hs.body (s.data.toList.take k):=⟨_,rfl⟩;rw[← hh] at hb E|-;clear hh;have e2:IntKind.u64.wrap (((Hs.fold h:Nat):Int)*18397679294719823053)=((Hs.last h:Nat):Int):=Hs.mulC (Hs.fold h) 18397679294719823053;have hl:=Hs.last_le h;go_wp2_with fail
    refine(fold_any h _ hb).mono ?_;rintro e w' ⟨rfl,rfl⟩;go_wp2_with fail
    refine(fold_any (Hs.last h) _ hl).mono ?_;rintro e w' ⟨rfl,rfl⟩;go_wp2_with fail
    go_ret;exact⟨ret_int (by rw[Hs.hash,<-E.out]),rfl⟩
end Go.Proofs.YtdmmciggopmglaaGreatDoor.HS
namespace Go.Proofs.YtdmmciggopmglaaGreatDoor.HS
open Go.RowKit
def SampPost(s:ByteArray)(t:Int)(w:World)(e:Ending)(w':World):Prop:=e= .returned (.bool (Hs.samp (Hs.hash s.data.toList) t))/\w=w'
namespace Hs
theorem samp_at{h n:Nat}{t:Int}{x:Int}(hn:(min (max t 0) 64).toNat=n)(hx:x=((h / 2 ^ (64 - n):Nat):Int)):(x==0)=samp h t:=by
 unfold samp;rw[hn,hx,Bool.eq_iff_iff];simp only[beq_iff_eq,decide_eq_true_iff];omega
theorem samp_hi(h:Nat)(t:Int)(ht:64 < t):((h:Int)==0)=samp h t:=samp_at (n:=64) (by omega) (by simp)
theorem samp_lo(h:Nat)(t:Int)(ht:t < 0):((h:Int) / 18446744073709551616==0)=samp h t:=samp_at (n:=0) (by omega) (by omega)
theorem samp_mid(h:Nat)(t:Int)(h0:0<=t)(ht:t<=64):((h:Int) / 2 ^ (64 - t).toNat==0)=samp h t:=
 samp_at (n:=t.toNat) (by omega) (by rw[show(64 - t).toNat=64 - t.toNat by omega,Int.natCast_ediv];simp)
end Hs
set_option maxHeartbeats 1000000 in
theorem samp_any(s:ByteArray)(t:Int)(w:World)(hs:s.size<=500)(h1: -9223372036854775808<=t)(h2:t<=9223372036854775807):
 Calls Tryz.prog 16 #[.string s,.int .i64 t] w (SampPost s t w):=by
 have hl:=Hs.hash_le s.data.toList;go_enter Tryz.func16,Tryz.ntmps16;go_wp2_with(go_at_call 35;refine(hash_any s _ hs).mono ?_;rintro e w' ⟨rfl,rfl⟩)
 all_goals
  go_ret;refine⟨ret_bool ?_,rfl⟩
 . exact Hs.samp_hi _ t (by split at* <;> omega)
 . exact Hs.samp_lo _ t (by omega)
 . exact Hs.samp_mid _ t (by omega) (by split at* <;> omega)
end Go.Proofs.YtdmmciggopmglaaGreatDoor.HS
