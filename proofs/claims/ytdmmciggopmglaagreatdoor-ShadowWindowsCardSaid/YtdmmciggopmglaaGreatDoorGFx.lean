/- fix: Num Bits Div FixA FixB FixC. -/
import Derived.Laws.Bits64b
import Derived.Lib.BitFns
import Derived.IntWalk
import Derived.Test.YtdmmciggopmglaaGreatDoorChecked
import Derived.Shelf.Bits.Mul64
import Derived.Shelf.Small.Bits
import Derived.WalkKit
import Derived.LoopTactic
import Derived.BigQuiet
import Derived.Deep.QuietTactic
import Derived.Lib.Hide
import Derived.Deep.DeepCutAuto
import Derived.Deep.CutBlock
import Derived.Test.YtdmmciggopmglaaGreatDoorY1
import Derived.Below
import Derived.Deep.RegionWith
import Derived.Lib.MinMax
set_option maxRecDepth 20000
namespace Go.Proofs.YtdmmciggopmglaaGreatDoor.Num
open Go
theorem or_disj(a b s:Nat)(h:b < 2 ^ s):a*2 ^ s ||| b=a*2 ^ s+b:=by
 rw[← Nat.shiftLeft_eq,Nat.shiftLeft_add_eq_or_of_lt h]
theorem maskN(a:Nat)(ha:a < 18446744073709551616):bits .and .u64 (a:Int) 4294967295=((a % 4294967296:Nat):Int):=by
 have h:=bits_and_u64_nat a 4294967295 ha (by omega);have e:a &&& 4294967295=a % 4294967296:=Nat.and_two_pow_sub_one_eq_mod a 32;rw[e] at h;exact h
theorem wrapN(a:Nat)(ha:a < 18446744073709551616):IntKind.u64.wrap (a:Int)=(a:Int):=by rw[IntKind.wrap_u64];omega
theorem wrapM(a:Nat):IntKind.u64.wrap (a:Int)=((a % 18446744073709551616:Nat):Int):=by rw[IntKind.wrap_u64];omega
theorem mulC(a b:Nat):(a:Int)*(b:Int)=((a*b:Nat):Int):=(Int.natCast_mul a b).symm
theorem powC(s:Nat):(2:Int) ^ s=((2 ^ s:Nat):Int):=by simp
theorem pow_split(s:Nat)(h:s<=64):2 ^ (64 - s)*2 ^ s=18446744073709551616:=by
 rw[← Nat.pow_add,Nat.sub_add_cancel h]
theorem prep(hi lo y s:Nat)(hy:hi < y)(hl:lo<=18446744073709551615)(hs:s<=63)(hz:y*2 ^ s<=18446744073709551615):
 ∃u v:Nat,bits .or .u64 (IntKind.u64.wrap ((hi:Int)*2 ^ s)) ((lo:Int) / 2 ^ (64 - s))=(u:Int)/\IntKind.u64.wrap ((lo:Int)*2 ^ s)=(v:Int)/\
  u < y*2 ^ s/\v<=18446744073709551615/\u*18446744073709551616+v=(hi*18446744073709551616+lo)*2 ^ s:=by
 have hp:=pow_split s (by omega);have hpos:0 < 2 ^ s:=Nat.two_pow_pos s;have hpos':0 < 2 ^ (64 - s):=Nat.two_pow_pos (64 - s);have h1:(hi+1)*2 ^ s<=y*2 ^ s:=Nat.mul_le_mul_right _ hy;rw[Nat.add_mul,Nat.one_mul] at h1
 have h2:lo / 2 ^ (64 - s) < 2 ^ s:=by
  rw[Nat.div_lt_iff_lt_mul hpos',Nat.mul_comm,hp];omega
 have hd:lo=lo / 2 ^ (64 - s)*2 ^ (64 - s)+lo % 2 ^ (64 - s):=by
  rw[Nat.mul_comm];exact(Nat.div_add_mod _ _).symm
 have hm:lo % 2 ^ (64 - s) < 2 ^ (64 - s):=Nat.mod_lt _ hpos'
 have hv:lo*2 ^ s=lo / 2 ^ (64 - s)*18446744073709551616+lo % 2 ^ (64 - s)*2 ^ s:=by
  have:=congrArg (· *2 ^ s) hd;simp only[Nat.add_mul,Nat.mul_assoc,hp] at this;exact this
 have hm2:lo % 2 ^ (64 - s)*2 ^ s < 18446744073709551616:=by
  rw[← hp];exact Nat.mul_lt_mul_of_pos_right hm hpos
 refine⟨hi*2 ^ s+lo / 2 ^ (64 - s),lo*2 ^ s % 18446744073709551616,?_,?_,by omega,by omega,?_⟩
 . rw[powC,powC,mulC,wrapN _ (by omega),<-Int.natCast_ediv,bits_or_u64_nat _ _ (by omega) (by omega),or_disj _ _ _ h2]
 . rw[powC,mulC,wrapM]
 . rw[Nat.add_mul,Nat.add_mul,Nat.mul_right_comm];omega
theorem guess(u c:Nat)(hu:u<=18446744073709551615)(hc:1<=c):∃q r:Nat,(u:Int) / (c:Int)=(q:Int)/\IntKind.u64.wrap ((u:Int) - IntKind.u64.wrap ((q:Int)*(c:Int)))=(r:Int)/\u=q*c+r/\r < c:=by
 have hd:u=u / c*c+u % c:=by rw[Nat.mul_comm];exact(Nat.div_add_mod _ _).symm
 have hm:=Nat.mod_lt u hc;have hle:u / c*c<=u:=by omega
 refine⟨u / c,u % c,(Int.natCast_ediv _ _).symm,?_,hd,hm⟩;rw[mulC,wrapN _ (by omega),<-Int.ofNat_sub hle,wrapN _ (by omega)];omega
structure Digit(u c f d q r:Nat):Prop where
 parts:u=q*c+r
 above:(u*4294967296+d) / (c*4294967296+f)<=q
 most:q<=4294967297
theorem Digit.start(u c f d q r:Nat)(hu:u < c*4294967296+f)(hf:f < 4294967296)(hc:2147483648<=c)(hd:d < 4294967296)(h:u=q*c+r)(hr:r < c):Digit u c f d q r:=by
 refine⟨h,?_,?_⟩
 . rw[← Nat.lt_succ_iff,Nat.div_lt_iff_lt_mul (by omega)]
   have e:(q+1)*(c*4294967296+f)=(q*c+c)*4294967296+(q+1)*f:=by
    rw[Nat.mul_add,<-Nat.mul_assoc,Nat.add_mul q 1 c,Nat.one_mul]
   show _ < (q+1)*_;rw[e,h];have:=Nat.zero_le ((q+1)*f);generalize(q+1)*f=k at*;generalize q*c=m at*;omega
 . rcases Nat.lt_or_ge 4294967297 q with hq|hq
   . have:=Nat.mul_le_mul_right c (show 4294967298<=q from hq);generalize q*c=m at*;omega
   . exact hq
theorem Digit.down{u c f d q r:Nat}(D:Digit u c f d q r)(hu:u < c*4294967296+f)(hd:d < 4294967296)(h:4294967296<=q\/4294967296*r+d < q*f):1<=q/\Digit u c f d (q - 1) (r+c):=by
 obtain⟨h1,h2,h3⟩:=D
 have hq:1<=q:=by
  rcases h with h|h
  . omega
  . rcases Nat.eq_zero_or_pos q with rfl|hp
    . simp at h
    . exact hp
 refine⟨hq,⟨?_,?_,by omega⟩⟩
 . have:q*c=(q - 1)*c+c:=by
    rw[Nat.sub_mul,Nat.one_mul];have:=Nat.mul_le_mul_right c hq;omega
   omega
 . rcases h with h|h
   . have:(u*4294967296+d) / (c*4294967296+f) < 4294967296:=by
      rw[Nat.div_lt_iff_lt_mul (by omega)];have:=Nat.mul_le_mul_left 4294967296 (show u+1<=c*4294967296+f from hu);omega
     omega
   . have:(u*4294967296+d) / (c*4294967296+f) < q:=by
      rw[Nat.div_lt_iff_lt_mul (by omega),Nat.mul_add,<-Nat.mul_assoc,h1];generalize q*c=m at*;generalize q*f=k at*;omega
     omega
theorem Digit.done{u c f d q r:Nat}(D:Digit u c f d q r)(hc:1<=c)(h:q*f<=4294967296*r+d):q=(u*4294967296+d) / (c*4294967296+f):=by
 obtain⟨h1,h2,h3⟩:=D;refine Nat.le_antisymm ?_ h2;rw[Nat.le_div_iff_mul_le (by omega),Nat.mul_add,<-Nat.mul_assoc,h1];generalize q*c=m at*;generalize q*f=k at*;omega
theorem Digit.broke{u c f d q r:Nat}(D:Digit u c f d q r)(hc:1<=c)(hf:f < 4294967296)(hq:q<=4294967296)(hr:4294967296<=r):q=(u*4294967296+d) / (c*4294967296+f):=by
 refine D.done hc ?_;have:=Nat.mul_le_mul hq (Nat.le_of_lt hf);generalize q*f=k at*;omega
theorem rest(u d z q:Nat)(hz:1<=z)(hz2:z<=18446744073709551615)(hq:q=(u*4294967296+d) / z):
 ∃t:Nat,IntKind.u64.wrap (IntKind.u64.wrap (IntKind.u64.wrap ((u:Int)*4294967296)+(d:Int)) - IntKind.u64.wrap ((q:Int)*(z:Int)))=(t:Int)/\t < z/\u*4294967296+d=q*z+t:=by
 have hd:u*4294967296+d=q*z+(u*4294967296+d) % z:=by rw[hq];exact(Nat.div_add_mod' _ _).symm
 have hm:=Nat.mod_lt (u*4294967296+d) hz;refine⟨(u*4294967296+d) % z,?_,hm,hd⟩;rw[mulC];simp only[IntKind.wrap_u64];generalize(u*4294967296+d) % z=t at*;generalize q*z=m at*;omega
theorem five(a b c d e:Nat)(h:a+b=c+d):a+(b+e)=d+e+c:=by omega
theorem two_words(u un1 un0 t m:Nat)(ht:u*4294967296+un1=m+t):u*18446744073709551616+(un1*4294967296+un0)=t*4294967296+un0+m*4294967296:=by
 have h:=congrArg (· *4294967296) ht;simp only[Nat.add_mul,Nat.mul_assoc,Nat.reduceMul] at h;exact five _ _ _ _ un0 h
theorem whole(hi lo y s u v z un1 un0 t q1 q0:Nat)(hz:y*2 ^ s=z)(hzp:1<=z)(hu:u*18446744073709551616+v=(hi*18446744073709551616+lo)*2 ^ s)(hv:v=un1*4294967296+un0)(ht:u*4294967296+un1=q1*z+t)(h0:q0=(t*4294967296+un0) / z):
 q1*4294967296+q0=(hi*18446744073709551616+lo) / y:=by
 have hpos:0 < 2 ^ s:=Nat.two_pow_pos s
 have e1:(hi*18446744073709551616+lo) / y=(u*18446744073709551616+v) / z:=by
  rw[hu,<-hz,Nat.mul_div_mul_right _ _ hpos]
 have e2:u*18446744073709551616+v=(t*4294967296+un0)+q1*4294967296*z:=by
  rw[Nat.mul_right_comm q1 4294967296 z,hv];exact two_words u un1 un0 t _ ht
 rw[e1,h0,e2,Nat.add_mul_div_right _ _ hzp,Nat.add_comm]
theorem quo_lt(hi lo y:Nat)(hy:hi < y)(hl:lo<=18446744073709551615):(hi*18446744073709551616+lo) / y<=18446744073709551615:=by
 have h:(hi*18446744073709551616+lo) / y < 18446744073709551616:=by
  rw[Nat.div_lt_iff_lt_mul (by omega)];have:=Nat.mul_le_mul_left 18446744073709551616 (show hi+1<=y from hy);omega
 omega
theorem join(q1 q0 Q:Nat)(h:q1*4294967296+q0=Q)(hQ:Q<=18446744073709551615):IntKind.u64.wrap (IntKind.u64.wrap ((q1:Int)*4294967296)+(q0:Int))=(Q:Int):=by
 simp only[IntKind.wrap_u64];omega
theorem bitLen_bounds:∀(f x:Nat),1<=x->x < 2 ^ f->∃k,Lib.bitLenAux f x=k+1/\2 ^ k<=x/\x < 2 ^ (k+1)/\k+1<=f
 |0,x,h,h'=>by simp at h';omega
 |f+1,x,h,h'=>by
  simp only[Lib.bitLenAux];rw[if_neg (by omega)];rcases Nat.lt_or_ge x 2 with h2|h2
  . obtain rfl:x=1:=by omega
    refine⟨0,?_,by simp,by simp,by omega⟩;have:Lib.bitLenAux f (1 / 2)=0:=by cases f <;> simp[Lib.bitLenAux]
    rw[this]
  . obtain⟨k,e,a,b,c⟩:=bitLen_bounds f (x / 2) (by omega) (by rw[Nat.pow_succ] at h';omega);refine⟨k+1,by rw[e];omega,by rw[Nat.pow_succ];omega,?_,by omega⟩;rw[Nat.pow_succ];omega
theorem lead(y:Nat)(h:1<=y)(h1:y<=18446744073709551615):∃s:Nat,s<=63/\9223372036854775808<=y*2 ^ s/\y*2 ^ s<=18446744073709551615/\64 - (Lib.bitLen y:Int)=(s:Int):=by
 obtain⟨k,e,a,b,c⟩:=bitLen_bounds 64 y h (by omega);have e':Lib.bitLen y=k+1:=e;refine⟨63 - k,by omega,?_,?_,by rw[e'];omega⟩
 . have:=Nat.mul_le_mul_right (2 ^ (63 - k)) a;rw[← Nat.pow_add,show k+(63 - k)=63 by omega] at this;omega
 . have:=Nat.mul_le_mul_right (2 ^ (63 - k)) (show y+1<=2 ^ (k+1) from b);rw[← Nat.pow_add,show k+1+(63 - k)=64 by omega,Nat.add_mul] at this;have:=Nat.two_pow_pos (63 - k);omega
end Go.Proofs.YtdmmciggopmglaaGreatDoor.Num
namespace Go.Proofs.YtdmmciggopmglaaGreatDoor.FX
open Go.RowKit Go.Shelf
def bitsRen:Ren:=⟨λ|264=>155|129=>74|134=>73|n=>n,λ|3=>3|4=>4|5=>5|9=>9|46=>132|53=>79|n=>n,λn=>n⟩
theorem lays264:Lays.n264 Tryz.prog bitsRen:={mixed:=by kernel_rfl,f264:=by kernel_rfl,t46:=by kernel_rfl,a46:=λ_=>by kernel_rfl,z46:=λ_=>by kernel_rfl,v46:=λ_=>by kernel_rfl,t53:=by kernel_rfl,a53:=λ_=>by kernel_rfl,z53:=λ_=>by kernel_rfl,v53:=λ_=>by kernel_rfl}
theorem lays134:Lays.n134 Tryz.prog bitsRen:={mixed:=by kernel_rfl,f129:=by kernel_rfl,f134:=by kernel_rfl,t3:=by kernel_rfl,a3:=λ_=>by kernel_rfl,z3:=λ_=>by kernel_rfl,v3:=λ_=>by kernel_rfl,t4:=by kernel_rfl,a4:=λ_=>by kernel_rfl,z4:=λ_=>by kernel_rfl,v4:=λ_=>by kernel_rfl,t5:=by kernel_rfl,a5:=λ_=>by kernel_rfl,z5:=λ_=>by kernel_rfl,v5:=λ_=>by kernel_rfl,t9:=by kernel_rfl,a9:=λ_=>by kernel_rfl,z9:=λ_=>by kernel_rfl,v9:=λ_=>by kernel_rfl,t46:=by kernel_rfl,a46:=λ_=>by kernel_rfl,z46:=λ_=>by kernel_rfl,v46:=λ_=>by kernel_rfl,t53:=by kernel_rfl,a53:=λ_=>by kernel_rfl,z53:=λ_=>by kernel_rfl,v53:=λ_=>by kernel_rfl}
theorem mul64_any(x y:Nat)(w:World)(hx:x < 18446744073709551616)(hy:y < 18446744073709551616):
 Calls Tryz.prog 155 #[.int .u64 x,.int .u64 y] w λe w'=>e= .returned (.tuple #[.int .u64 ((x*y / 18446744073709551616:Nat):Int),.int .u64 ((x*y % 18446744073709551616:Nat):Int)])/\w=w':=
 (Any.bits_Mul64 lays264 x y hx hy w).mono λ_ _ h=>⟨h.1,h.2.symm⟩
theorem lz64_any(x:Int)(w:World)(h0:0<=x)(h1:x<=18446744073709551615):
 Calls Tryz.prog 73 #[.int .u64 x] w λe w'=>e= .returned (.int .i64 (64 - Lib.bitLen x.toNat))/\w=w':=
 (Any.bits_LeadingZeros64 lays134 x w h0 h1).mono λ_ _ h=>⟨h.1,h.2.symm⟩
end Go.Proofs.YtdmmciggopmglaaGreatDoor.FX
namespace Go.Proofs.YtdmmciggopmglaaGreatDoor.FX
open Go.RowKit
def lzPost(y:Nat)(w:World)(e:Ending)(w':World):Prop:=∃s:Nat,s<=63/\9223372036854775808<=y*2 ^ s/\y*2 ^ s<=18446744073709551615/\e= .returned (.int .i64 s)/\w=w'
theorem lz_any(y:Nat)(w:World)(h:1<=y)(h1:y<=18446744073709551615):
 Calls Tryz.prog 73 #[.int .u64 y] w (lzPost y w):=by
 obtain⟨s,a,b,c,d⟩:=Num.lead y h h1;refine(lz64_any _ _ (by omega) (by omega)).mono λe w' hh=>⟨s,a,b,c,?_,hh.2⟩;rw[hh.1,Int.toNat_natCast,d]
def DivPost(q:Nat)(w:World)(e:Ending)(w':World):Prop:=∃(r:Int) (n:Nat),e= .returned (.tuple #[.int .u64 q,.int .u64 r])/\w'=w.drewN n
def Loop1(u c f d:Nat)(a b:Value):Prop:=∃q r:Nat,a= .int .u64 q/\b= .int .u64 r/\r < 4294967296/\Num.Digit u c f d q r
def Dig1(u c f d:Nat)(w:World)(a _b:Value)(W:World):Prop:=∃q:Nat,a= .int .u64 q/\q<=4294967297/\Hid (q=(u*4294967296+d) / (c*4294967296+f))/\w=W
set_option maxHeartbeats 1000000 in
set_option maxRecDepth 100000 in
theorem div64_two(hi lo y:Nat)(w:World)(hh:1<=hi)(hy:hi < y)(hl:lo<=18446744073709551615)(hy2:y<=18446744073709551615):
 Calls Tryz.prog 72 #[.int .u64 hi,.int .u64 lo,.int .u64 y] w (DivPost ((hi*18446744073709551616+lo) / y) w):=by
 have e0:((y:Int)==0)=false:=beq_eq_false_iff_ne.2 (by omega);have e2:((hi:Int)==0)=false:=beq_eq_false_iff_ne.2 (by omega);have e1:decide (y<=hi)=false:=by simp;omega
 go_enter Tryz.func72,Tryz.ntmps72;go_wp2_with fail
 refine(lz_any _ _ (by omega) (by omega)).mono ?_;rintro e w' ⟨s,hs,hz1,hz2,rfl,rfl⟩;obtain⟨u,v,eu,ev,hu,hv,huv⟩:=Num.prep hi lo y s hy hl hs hz2;have HZ:=Lib.hid (p:=∃z,z=y*2 ^ s) ⟨_,rfl⟩;obtain⟨z,hz⟩:=HZ.out;clear HZ;have ez:IntKind.u64.wrap ((y:Int)*2 ^ s)=(z:Int):=by rw[Num.powC,Num.mulC,<-hz,Num.wrapN _ (by omega)]
 rw[← hz] at hz1 hz2 hu;have HUV:=Lib.hid huv;clear huv;have HZ:=Lib.hid hz;clear hz;obtain⟨c,hc⟩:∃c,c=z / 4294967296:=⟨_,rfl⟩;obtain⟨f,hf⟩:∃f,f=z % 4294967296:=⟨_,rfl⟩;obtain⟨d,hd⟩:∃d,d=v / 4294967296:=⟨_,rfl⟩;obtain⟨g,hg⟩:∃g,g=v % 4294967296:=⟨_,rfl⟩;have e3:(z:Int) / 4294967296=(c:Int):=by omega
 have e4:bits .and .u64 (z:Int) 4294967295=(f:Int):=by rw[Num.maskN z (by omega),hf]
 have e5:(v:Int) / 4294967296=(d:Int):=by omega
 have e6:bits .and .u64 (v:Int) 4294967295=(g:Int):=by rw[Num.maskN v (by omega),hg]
 have hc1:2147483648<=c:=by omega
 have hc2:c < 4294967296:=by omega
 have hf1:f < 4294967296:=by omega
 have hd1:d < 4294967296:=by omega
 have hg1:g < 4294967296:=by omega
 have HZ2:=Lib.hid (show z=c*4294967296+f by omega);have HV:=Lib.hid (show v=d*4294967296+g by omega);have hcn:¬((c:Int)=0):=by omega
 have hul:u<=18446744073709551615:=by omega
 clear hc hf hd hg;obtain⟨q,r,e7,e8,hqr,hr⟩:=Num.guess u c hul (by omega);have D0:=Num.Digit.start u c f d q r (by rw[← HZ2.out];exact hu) hf1 hc1 hd1 hqr hr;have hqm:=D0.most;clear hqr;go_upto_block 0 with fail
 go_cut [15,16] from 67 to 85 (λa b W=>Dig1 u c f d w a b W)
 case first=>
  go_wp2_with fail
  go_loop [15,16] (λa b=>Loop1 u c f d a b) (λa _=>(intOf a).toNat)
  case atStart=>exact⟨q,r,rfl,rfl,by omega,D0⟩
  case round=>
   obtain⟨q',r',rfl,rfl,hr',D⟩:=hrel;clear e8 D0 hqm e7 hr e0 e1 e2 e3 e4 e5 e6 eu ev ez;have hqm:=D.most
   by_cases hA:4294967296<=q'\/4294967296*r'+d < q'*f
   . obtain⟨hq1,D'⟩:=D.down (by rw[← HZ2.out];exact hu) hd1 hA;have HD:=Lib.hid D';clear D D';have hsub:((q':Int) - 1)=((q' - 1:Nat):Int):=by omega
     have HS:=Lib.hid hsub;clear hsub
     by_cases hA1:4294967296<=q'
     . have hA2:decide (4294967296<=(q':Int))=true:=by simp;omega
       clear hA
       by_cases hB:4294967296<=r'+c
       . have hB2:decide (4294967296<=(r':Int)+(c:Int))=true:=by simp;omega
         go_wp2_with fail
         go_meet
         exact⟨q' - 1,by rw[HS.out],by omega,HD.out.broke (by omega) hf1 (by omega) hB,rfl⟩
       . have hB2:decide (4294967296<=(r':Int)+(c:Int))=false:=by simp;omega
         go_wp2_with fail
         go_round
         case rel=>exact⟨q' - 1,r'+c,by rw[HS.out],by go_num,by omega,HD.out⟩
         case measure=>simp[intOf];omega
     . have hA2:decide (4294967296<=(q':Int))=false:=by simp;omega
       have hp:4294967296*r'+d < q'*f:=by omega
       have hpm:q'*f<=18446744073709551615:=by
        have:=Nat.mul_le_mul (show q'<=4294967295 by omega) (show f<=4294967295 by omega);omega
       obtain⟨p,ep⟩:∃p,p=q'*f:=⟨_,rfl⟩;rw[← ep] at hp hpm;have ep2:IntKind.u64.wrap ((q':Int)*(f:Int))=(p:Int):=by rw[Num.mulC,<-ep,Num.wrapN _ (by omega)]
       clear hA ep;have hp2:decide (4294967296*(r':Int)+(d:Int) < (p:Int))=true:=by simp;omega
       by_cases hB:4294967296<=r'+c
       . have hB2:decide (4294967296<=(r':Int)+(c:Int))=true:=by simp;omega
         go_wp2_with fail
         go_meet
         exact⟨q' - 1,by rw[HS.out],by omega,HD.out.broke (by omega) hf1 (by omega) hB,rfl⟩
       . have hB2:decide (4294967296<=(r':Int)+(c:Int))=false:=by simp;omega
         go_wp2_with fail
         go_round
         case rel=>exact⟨q' - 1,r'+c,by rw[HS.out],by go_num,by omega,HD.out⟩
         case measure=>simp[intOf];omega
   . have hA2:decide (4294967296<=(q':Int))=false:=by simp;omega
     have hp:q'*f<=4294967296*r'+d:=by omega
     have HD:=Lib.hid (D.done (by omega) hp)
     have hpm:q'*f<=18446744073709551615:=by
      have:=Nat.mul_le_mul (show q'<=4294967295 by omega) (show f<=4294967295 by omega);omega
     obtain⟨p,ep⟩:∃p,p=q'*f:=⟨_,rfl⟩;rw[← ep] at hp hpm;have ep2:IntKind.u64.wrap ((q':Int)*(f:Int))=(p:Int):=by rw[Num.mulC,<-ep,Num.wrapN _ (by omega)]
     clear hA ep D;have hp2:decide (4294967296*(r':Int)+(d:Int) < (p:Int))=false:=by simp;omega
     go_wp2_with fail
     go_meet
     exact⟨q',rfl,by omega,HD.out,rfl⟩
 case rest=>
  obtain⟨q1,rfl,hq1,HQ,rfl⟩:=hcut;clear D0 hqm e7 e8 hr
  obtain⟨t,et,ht,HT⟩:∃t:Nat,IntKind.u64.wrap (IntKind.u64.wrap (IntKind.u64.wrap ((u:Int)*4294967296)+(d:Int)) - IntKind.u64.wrap ((q1:Int)*(z:Int)))=(t:Int)/\t < z/\Hid (u*4294967296+d=q1*z+t):=by
   obtain⟨t,a,b,c⟩:=Num.rest u d z q1 (by omega) hz2 (by rw[HQ.out,HZ2.out]);exact⟨t,a,b,c⟩
  have htl:t<=18446744073709551615:=by omega
  obtain⟨q,r,e7,e8,hqr,hr⟩:=Num.guess t c htl (by omega);have D0:=Num.Digit.start t c f g q r (by rw[← HZ2.out];exact ht) hf1 hc1 hg1 hqr hr;have hqm:=D0.most;clear hqr;go_upto_block 2 with fail
  go_cut [18,16] from 102 to 120 (λa b W=>Dig1 t c f g w a b W)
  case first=>
   go_wp2_with fail
   go_loop [18,16] (λa b=>Loop1 t c f g a b) (λa _=>(intOf a).toNat)
   case atStart=>exact⟨q,r,rfl,rfl,by omega,D0⟩
   case round=>
    obtain⟨q',r',rfl,rfl,hr',D⟩:=hrel;clear e8 D0 hqm e7 hr e0 e1 e2 e3 e4 e5 e6 eu ev ez;have hqm:=D.most
    by_cases hA:4294967296<=q'\/4294967296*r'+g < q'*f
    . obtain⟨hq1,D'⟩:=D.down (by rw[← HZ2.out];exact ht) hg1 hA;have HD:=Lib.hid D';clear D D';have hsub:((q':Int) - 1)=((q' - 1:Nat):Int):=by omega
      have HS:=Lib.hid hsub;clear hsub
      by_cases hA1:4294967296<=q'
      . have hA2:decide (4294967296<=(q':Int))=true:=by simp;omega
        clear hA
        by_cases hB:4294967296<=r'+c
        . have hB2:decide (4294967296<=(r':Int)+(c:Int))=true:=by simp;omega
          go_wp2_with fail
          go_meet
          exact⟨q' - 1,by rw[HS.out],by omega,HD.out.broke (by omega) hf1 (by omega) hB,rfl⟩
        . have hB2:decide (4294967296<=(r':Int)+(c:Int))=false:=by simp;omega
          go_wp2_with fail
          go_round
          case rel=>exact⟨q' - 1,r'+c,by rw[HS.out],by go_num,by omega,HD.out⟩
          case measure=>simp[intOf];omega
      . have hA2:decide (4294967296<=(q':Int))=false:=by simp;omega
        have hp:4294967296*r'+g < q'*f:=by omega
        have hpm:q'*f<=18446744073709551615:=by
         have:=Nat.mul_le_mul (show q'<=4294967295 by omega) (show f<=4294967295 by omega);omega
        obtain⟨p,ep⟩:∃p,p=q'*f:=⟨_,rfl⟩;rw[← ep] at hp hpm;have ep2:IntKind.u64.wrap ((q':Int)*(f:Int))=(p:Int):=by rw[Num.mulC,<-ep,Num.wrapN _ (by omega)]
        clear hA ep;have hp2:decide (4294967296*(r':Int)+(g:Int) < (p:Int))=true:=by simp;omega
        by_cases hB:4294967296<=r'+c
        . have hB2:decide (4294967296<=(r':Int)+(c:Int))=true:=by simp;omega
          go_wp2_with fail
          go_meet
          exact⟨q' - 1,by rw[HS.out],by omega,HD.out.broke (by omega) hf1 (by omega) hB,rfl⟩
        . have hB2:decide (4294967296<=(r':Int)+(c:Int))=false:=by simp;omega
          go_wp2_with fail
          go_round
          case rel=>exact⟨q' - 1,r'+c,by rw[HS.out],by go_num,by omega,HD.out⟩
          case measure=>simp[intOf];omega
    . have hA2:decide (4294967296<=(q':Int))=false:=by simp;omega
      have hp:q'*f<=4294967296*r'+g:=by omega
      have HD:=Lib.hid (D.done (by omega) hp)
      have hpm:q'*f<=18446744073709551615:=by
       have:=Nat.mul_le_mul (show q'<=4294967295 by omega) (show f<=4294967295 by omega);omega
      obtain⟨p,ep⟩:∃p,p=q'*f:=⟨_,rfl⟩;rw[← ep] at hp hpm;have ep2:IntKind.u64.wrap ((q':Int)*(f:Int))=(p:Int):=by rw[Num.mulC,<-ep,Num.wrapN _ (by omega)]
      clear hA ep D;have hp2:decide (4294967296*(r':Int)+(g:Int) < (p:Int))=false:=by simp;omega
      go_wp2_with fail
      go_meet
      exact⟨q',rfl,by omega,HD.out,rfl⟩
  case rest=>
   obtain⟨q0,rfl,hq0,HQ0,rfl⟩:=hcut;clear D0 hqm e7 e8 hr;have HW:=Lib.hid (Num.whole hi lo y s u v z d g t q1 q0 HZ.out.symm (by omega) HUV.out HV.out HT.out (by rw[HQ0.out,HZ2.out]));have ej:=Num.join q1 q0 _ HW.out (Num.quo_lt hi lo y hy hl);go_wp2_with fail
   go_ret2
   exact⟨_,0,rfl,rfl⟩
set_option maxHeartbeats 1000000 in
theorem div64_one(lo y:Nat)(w:World)(hy:0 < y)(hl:lo<=18446744073709551615)(hy2:y<=18446744073709551615):
 Calls Tryz.prog 72 #[.int .u64 0,.int .u64 lo,.int .u64 y] w (DivPost (lo / y) w):=by
 have e0:((y:Int)==0)=false:=beq_eq_false_iff_ne.2 (by omega);have e1:decide ((y:Int)<=0)=false:=by simp;omega
 have e3:¬((y:Int)=0):=by omega
 have e4:IntKind.u64.wrap ((lo:Int) / (y:Int))=((lo / y:Nat):Int):=by
  have:=Nat.div_le_self lo y;rw[← Int.natCast_ediv,Num.wrapN _ (by omega)]
 go_enter Tryz.func72,Tryz.ntmps72;go_wp2_with fail
 go_quiet(fail)
 go_wp2_with fail
 go_ret2
 exact⟨_,_,rfl,rfl⟩
theorem div64_any(hi lo y:Nat)(w:World)(hy:hi < y)(hl:lo<=18446744073709551615)(hy2:y<=18446744073709551615):
 Calls Tryz.prog 72 #[.int .u64 hi,.int .u64 lo,.int .u64 y] w (DivPost ((hi*18446744073709551616+lo) / y) w):=by
 rcases Nat.eq_zero_or_pos hi with rfl|h
 . have:=div64_one lo y w (by omega) hl hy2;simpa using this
 . exact div64_two hi lo y w h hy hl hy2
end Go.Proofs.YtdmmciggopmglaaGreatDoor.FX
namespace Go.Proofs.YtdmmciggopmglaaGreatDoor.FX
open Go.RowKit
theorem ret_int{k:IntKind}{a b:Int}(h:a=b):Ending.returned (.int k a)= .returned (.int k b):=by rw[h]
theorem add_any(a b:Nat)(w:World)(ha:a<=18446744073709551615)(hb:b<=18446744073709551615):
 Calls Tryz.prog 170 #[.int .u64 a,.int .u64 b] w λe w'=>e= .returned (.int .u64 (Fx.add a b:Nat))/\w=w':=by
 go_enter Tryz.func170,Tryz.ntmps170;go_wp2
 all_goals
  go_ret;refine⟨ret_int ?_,rfl⟩;unfold Fx.add;split <;> omega
def MulPost(a b:Nat)(w:World)(e:Ending)(w':World):Prop:=∃h l:Nat,h<=18446744073709551615/\l<=18446744073709551615/\Hid (a*b=h*18446744073709551616+l)/\e= .returned (.tuple #[.int .u64 h,.int .u64 l])/\w=w'
theorem mul64_hid(a b:Nat)(w:World)(ha:a<=18446744073709551615)(hb:b<=18446744073709551615):
 Calls Tryz.prog 155 #[.int .u64 a,.int .u64 b] w (MulPost a b w):=
 (mul64_any a b w (by omega) (by omega)).mono λe w' h=>by
   refine⟨a*b / 18446744073709551616,a*b % 18446744073709551616,?_,by omega,?_,h.1,h.2⟩
   . have:a*b<=18446744073709551615*18446744073709551615:=Nat.mul_le_mul ha hb;omega
   . exact(Nat.div_add_mod' _ _).symm
theorem mul_high(a b h l:Nat)(hh:a*b=h*18446744073709551616+l)(hl:l<=18446744073709551615)(hb:4611686018427387904<=h):Fx.mul a b=18446744073709551615:=by
 unfold Fx.mul;rw[hh];split <;> omega
theorem mul_low(a b h l:Nat)(hh:a*b=h*18446744073709551616+l)(hl:l<=18446744073709551615)(hb:h < 4611686018427387904):bits .or .u64 ((h:Int)*4) ((l:Int) / 4611686018427387904)=((Fx.mul a b:Nat):Int):=by
 have e:(h:Int)*4=((h*2 ^ 2:Nat):Int):=by omega
 have e2:(l:Int) / 4611686018427387904=((l / 4611686018427387904:Nat):Int):=by omega
 rw[e,e2,bits_or_u64_nat _ _ (by omega) (by omega),Num.or_disj _ _ 2 (by omega)];unfold Fx.mul;rw[hh];split <;> omega
set_option maxRecDepth 100000 in
theorem mul_any(a b:Nat)(w:World)(ha:a<=18446744073709551615)(hb:b<=18446744073709551615):
 Calls Tryz.prog 146 #[.int .u64 a,.int .u64 b] w λe w'=>e= .returned (.int .u64 (Fx.mul a b:Nat))/\w=w':=by
 go_enter Tryz.func146,Tryz.ntmps146;go_wp2_with fail
 refine(mul64_hid a b _ (by omega) (by omega)).mono ?_;rintro e w' ⟨h,l,hh,hl,HM,rfl,rfl⟩
 by_cases hb:h < 4611686018427387904
 . have e1:((h:Int) / 4611686018427387904 != 0)=false:=by simp;omega
   have e2:=mul_low a b h l HM.out hl hb;go_wp2_with fail
   go_ret;exact⟨rfl,rfl⟩
 . have e1:((h:Int) / 4611686018427387904 != 0)=true:=by rw[bne_iff_ne];omega
   have E2:=Lib.hid (mul_high a b h l HM.out hl (by omega));go_wp2_with fail
   go_ret;exact⟨ret_int (by rw[E2.out];rfl),rfl⟩
def Ret(v:Nat)(w:World)(e:Ending)(w':World):Prop:=e= .returned (.int .u64 v)/\∃n,w'=w.drewN n
theorem quo_low(a b h l:Nat)(hh:h=a / 4)(hl:l=a*4611686018427387904 % 18446744073709551616)(hb:h < b):(h*18446744073709551616+l) / b=Fx.quo a b:=by
 unfold Fx.quo;rw[if_neg (by omega),show h*18446744073709551616+l=a*4611686018427387904 by omega]
set_option maxRecDepth 100000 in
theorem quo_any(a b:Nat)(w:World)(ha:a<=18446744073709551615)(hb:b<=18446744073709551615):
 Calls Tryz.prog 71 #[.int .u64 a,.int .u64 b] w (Ret (Fx.quo a b) w):=by
 obtain⟨h,hh⟩:∃h,h=a / 4:=⟨_,rfl⟩;obtain⟨l,hl⟩:∃l,l=a*4611686018427387904 % 18446744073709551616:=⟨_,rfl⟩;have e1:(a:Int) / 4=(h:Int):=by omega
 have e2:IntKind.u64.wrap ((a:Int)*4611686018427387904)=(l:Int):=by rw[IntKind.wrap_u64];omega
 have hl2:l<=18446744073709551615:=by omega
 have hh2:h<=18446744073709551615:=by omega
 by_cases hb2:b<=h
 . have e3:decide (b<=h)=true:=by simp;omega
   have E:=Lib.hid (show Fx.quo a b=18446744073709551615 by unfold Fx.quo;rw[if_pos (by omega)]);clear hh hl;go_enter Tryz.func71,Tryz.ntmps71;go_wp2_with fail
   go_ret;exact⟨ret_int (by rw[E.out];rfl),0,rfl⟩
 . have e3:decide (b<=h)=false:=by simp;omega
   have E:=Lib.hid (quo_low a b h l hh hl (by omega));clear hh hl;go_enter Tryz.func71,Tryz.ntmps71;go_wp2_with fail
   refine(div64_any h l b _ (by omega) (by omega) (by omega)).mono ?_;rw[E.out];rintro e w' ⟨r,n,rfl,rfl⟩;go_wp2_with fail
   go_ret;exact⟨rfl,n,rfl⟩
theorem pow_half(n:Nat)(hn:n<=9223372036854775807):bits .and .i64 (n:Int) 1=((n % 2:Nat):Int):=by
 have hx:n &&& 1 < 2 ^ 63:=Nat.and_lt_two_pow _ (by omega);show IntKind.i64.wrap ((BitVec.ofInt 64 (n:Int) &&& BitVec.ofInt 64 (1:Int)).toNat:Int)=_;have e1:(BitVec.ofInt 64 (n:Int)).toNat=n:=by rw[BitVec.ofInt_natCast,BitVec.toNat_ofNat];exact Nat.mod_eq_of_lt (by omega)
 have e2:(BitVec.ofInt 64 (1:Int)).toNat=1:=by decide
 rw[BitVec.toNat_and,e1,e2,IntKind.wrap_i64,Nat.and_one_is_mod];omega
def Pw(x n p:Nat)(a b c:Value):Prop:=∃x' n' p':Nat,a= .int .u64 x'/\b= .int .i64 n'/\c= .int .u64 p'/\x'<=18446744073709551615/\n'<=9223372036854775807/\p'<=18446744073709551615/\Hid (Fx.pw x' n' p'=Fx.pw x n p)
set_option maxRecDepth 100000 in
theorem pow_any(x n:Nat)(w:World)(hx:x<=18446744073709551615)(hn:n<=9223372036854775807):
 Calls Tryz.prog 167 #[.int .u64 x,.int .i64 n] w λe w'=>e= .returned (.int .u64 (Fx.pw x n 4611686018427387904:Nat))/\w=w':=by
 go_enter Tryz.func167,Tryz.ntmps167;go_wp2_with fail
 go_loop [0,1,5] (λa b c=>Pw x n 4611686018427387904 a b c) (λ_ b _=>(intOf b).toNat)
 case atStart=>exact⟨x,n,4611686018427387904,rfl,rfl,rfl,hx,hn,by omega,rfl⟩
 case round=>
  obtain⟨x',n',p',rfl,rfl,rfl,hx',hn',hp',HP⟩:=hrel
  by_cases h0:0 < n'
  . have e0:decide (0 < (n':Int))=true:=by simp;omega
    have hm1:=Fx.mul_le x' x';have hm2:=Fx.mul_le p' x';have hs:=Fx.pw_step x' n' p' (by omega);have e1:=pow_half n' hn';obtain⟨m,hm⟩:∃m,m=n' / 2:=⟨_,rfl⟩;rw[← hm] at hs;have e2:((n':Int) / 2)=(m:Int):=by omega
    have hmn:m < n':=by omega
    by_cases h1:n' % 2=1
    . rw[if_pos h1] at hs;have HS:=Lib.hid hs;clear hs;rw[h1] at e1;have e1:bits .and .i64 (n':Int) 1=1:=e1;clear h1 hm;go_wp2_with(go_at_call 146;refine(mul_any _ _ _ (by omega) (by omega)).mono ?_;rintro e w' ⟨rfl,rfl⟩)
      go_round
      case rel=>exact⟨Fx.mul x' x',m,Fx.mul p' x',rfl,rfl,rfl,hm1,by omega,hm2,HS.out.symm.trans HP.out⟩
      case measure=>simp[intOf];omega
    . rw[if_neg h1] at hs;have HS:=Lib.hid hs;clear hs;rw[show n' % 2=0 by omega] at e1;have e1:bits .and .i64 (n':Int) 1=0:=e1;clear h1 hm;go_wp2_with(go_at_call 146;refine(mul_any _ _ _ (by omega) (by omega)).mono ?_;rintro e w' ⟨rfl,rfl⟩)
      go_round
      case rel=>exact⟨Fx.mul x' x',m,p',rfl,rfl,rfl,hm1,by omega,hp',HS.out.symm.trans HP.out⟩
      case measure=>simp[intOf];omega
  . obtain rfl:n'=0:=by omega
    have HQ:=Lib.hid ((Fx.pw_zero x' p').symm.trans HP.out);clear HP;go_wp2_with fail
    go_ret;exact⟨ret_int (by rw[HQ.out]),rfl⟩
def Ex(x:Nat)(a b c:Value):Prop:=∃s t k n:Nat,a= .int .u64 s/\b= .int .u64 t/\c= .int .u64 k/\s<=18446744073709551615/\t<=18446744073709551615/\1<=k/\k+n<=64/\64<=k+n/\Hid (Fx.ex x n k t s=Fx.exp x)
set_option maxRecDepth 100000 in
theorem exp_any(x:Nat)(w:World)(hx:x<=18446744073709551615):
 Calls Tryz.prog 168 #[.int .u64 x] w λe w'=>e= .returned (.int .u64 (Fx.exp x:Nat))/\w=w':=by
 go_enter Tryz.func168,Tryz.ntmps168;go_wp2_with fail
 go_loop [3,4,5] (λa b c=>Ex x a b c) (λ_ _ c=>64 - (intOf c).toNat)
 case atStart=>exact⟨4611686018427387904,4611686018427387904,1,63,rfl,rfl,rfl,by omega,by omega,by omega,by omega,by omega,rfl⟩
 case round=>
  obtain⟨s,t,k,n,rfl,rfl,rfl,hs,ht,hk,hn,hn2,HE⟩:=hrel
  by_cases h0:k < 64/\t≠0
  . have e0:decide ((k:Int) < 64)=true:=by simp;omega
    have e1:((t:Int) != 0)=true:=by rw[bne_iff_ne];omega
    have e2:¬((k:Int)=0):=by omega
    obtain⟨n',rfl⟩:∃n',n=n'+1:=⟨n - 1,by omega⟩;have hm:=Fx.mul_le t x;obtain⟨u,hu⟩:∃u,u=Fx.mul t x / k:=⟨_,rfl⟩
    have hu2:u<=18446744073709551615:=by
     have:=Nat.div_le_self (Fx.mul t x) k;omega
    have e3:((Fx.mul t x:Nat):Int) / (k:Int)=(u:Int):=by rw[hu];exact(Int.natCast_ediv _ _).symm
    have hadd:=Fx.add_le s u;have HS:=Lib.hid (show Fx.ex x n' (k+1) u (Fx.add s u)=Fx.ex x (n'+1) k t s by rw[hu];rfl);clear hu h0
    go_wp2_with(first
     |(go_at_call 146;refine(mul_any _ _ _ (by omega) (by omega)).mono ?_;rintro e w' ⟨rfl,rfl⟩)
     |(go_at_call 170;refine(add_any _ _ _ (by omega) (by omega)).mono ?_;rintro e w' ⟨rfl,rfl⟩))
    go_round
    case rel=>exact⟨Fx.add s u,u,k+1,n',rfl,rfl,by go_num,by omega,by omega,by omega,by omega,by omega,HS.out.trans HE.out⟩
    case measure=>simp[intOf];omega
  . have HF:Hid (Fx.exp x=s):=by
     rcases Nat.lt_or_ge k 64 with h|h
     . have ht0:t=0:=by omega
       subst ht0;exact HE.out.symm.trans (Fx.ex_zero x n k s hs)
     . obtain rfl:n=0:=by omega
       exact HE.out.symm
    by_cases h1:k < 64
    . have e0:decide ((k:Int) < 64)=true:=by simp;omega
      have e1:((t:Int) != 0)=false:=by rw[bne_eq_false_iff_eq];omega
      clear h0;go_wp2_with fail
      go_ret;exact⟨ret_int (by rw[HF.out]),rfl⟩
    . have e0:decide ((k:Int) < 64)=false:=by simp;omega
      clear h0;go_wp2_with fail
      go_ret;exact⟨ret_int (by rw[HF.out]),rfl⟩
theorem fall_any(x:Nat)(w:World)(hx:x<=18446744073709551615):
 Calls Tryz.prog 157 #[.int .u64 x] w (Ret (Fx.fall x) w):=by
 have he:=Fx.exp_le x;go_enter Tryz.func157,Tryz.ntmps157;go_wp2_with fail
 refine(exp_any x _ hx).mono ?_;rintro e w' ⟨rfl,rfl⟩;go_wp2_with fail
 refine(quo_any 4611686018427387904 (Fx.exp x) _ (by omega) he).mono ?_;rintro e w' ⟨rfl,n,rfl⟩;go_wp2_with fail
 go_ret;exact⟨rfl,n,rfl⟩
set_option maxRecDepth 100000 in
theorem part_any(a b:Nat)(w:World)(ha:a<=18446744073709551615)(hb:b<=18446744073709551615):
 Calls Tryz.prog 160 #[.int .u64 a,.int .u64 b] w (Ret (Fx.part a b) w):=by
 by_cases h:18446744073709551615 < a+b
 . have e1:decide (18446744073709551615 - (b:Int) < (a:Int))=true:=by simp;omega
   obtain⟨c,hc⟩:∃c,c=a / 2:=⟨_,rfl⟩;obtain⟨d,hd⟩:∃d,d=b / 2:=⟨_,rfl⟩;have e2:(a:Int) / 2=(c:Int):=by omega
   have e3:(b:Int) / 2=(d:Int):=by omega
   have hcd:c+d<=18446744073709551615:=by omega
   have E:=Lib.hid (show Fx.part a b=Fx.quo c (c+d) by unfold Fx.part;rw[if_pos h,hc,hd]);clear hc hd h;go_enter Tryz.func160,Tryz.ntmps160;go_wp2_with fail
   refine(quo_any c (c+d) _ (by omega) (by omega)).mono ?_;rintro e w' ⟨rfl,n,rfl⟩;go_wp2_with fail
   go_ret;exact⟨ret_int (by rw[E.out]),n,rfl⟩
 . have e1:decide (18446744073709551615 - (b:Int) < (a:Int))=false:=by simp;omega
   have E:=Lib.hid (show Fx.part a b=Fx.quo a (a+b) by unfold Fx.part;rw[if_neg h]);have hcd:a+b<=18446744073709551615:=by omega
   clear h;go_enter Tryz.func160,Tryz.ntmps160;go_wp2_with fail
   refine(quo_any a (a+b) _ (by omega) (by omega)).mono ?_;rintro e w' ⟨rfl,n,rfl⟩;go_wp2_with fail
   go_ret;exact⟨ret_int (by rw[E.out]),n,rfl⟩
end Go.Proofs.YtdmmciggopmglaaGreatDoor.FX
namespace Go.Proofs.YtdmmciggopmglaaGreatDoor.FX
open Go.RowKit
theorem bdrew{B:Nat}{a w:World}(h:Below B a w)(n:Nat):Below B a (w.drewN n):=⟨h.os,h.tape,h.output,h.size,h.block⟩
def Good(v:Nat)(w:World)(e:Ending)(w':World):Prop:=e= .returned (.tuple #[.int .u64 v,.nilIface])/\Below w.heap.size w w'
def Faulty(op:List UInt8)(w:World)(e:Ending)(w':World):Prop:=∃g:Nat,e= .returned (.tuple #[.int .u64 0,.iface 59 (.pointer (some ⟨g,0,none⟩))])/\w.heap.size<=g/\w'.cell? ⟨g,0,none⟩=some (.string ⟨op.toArray⟩)/\w'.cell? ⟨g,1,none⟩=some (.string ⟨#[]⟩)/\w'.cell? ⟨g,2,none⟩=some (.iface 60 (.int .i64 1))/\Below w.heap.size w w'
set_option maxRecDepth 100000 in
theorem whole_yes(a b:Nat)(w:World)(ha:a<=9223372036854775807)(hb:b<=9223372036854775807)(h0:0 < b):
 Calls Tryz.prog 66 #[.int .i64 a,.int .i64 b] w (Good (Fx.quo a b) w):=by
 have e0:decide (0<=(a:Int))=true:=by simp
 have e1:decide (0 < (b:Int))=true:=by simp;omega
 go_enter Tryz.func66,Tryz.ntmps66;go_wp2_with(first|(go_at_call 71;refine(quo_any a b _ (by omega) (by omega)).mono ?_;rintro e w' ⟨rfl,n,rfl⟩)|go_in)
 go_ret2
 exact⟨rfl,bdrew (((Below.refl _ _).alloc (Nat.le_refl _) _).alloc (by simp) _) _⟩
set_option maxRecDepth 100000 in
theorem powr_yes(x n:Nat)(w:World)(hx:x<=18446744073709551615)(hn:n<=9223372036854775807):
 Calls Tryz.prog 156 #[.int .u64 x,.int .i64 n] w (Good (Fx.pw x n 4611686018427387904) w):=by
 have e0:decide (0<=(n:Int))=true:=by simp
 go_enter Tryz.func156,Tryz.ntmps156;go_wp2_with(first|(go_at_call 167;refine(pow_any x n _ (by omega) (by omega)).mono ?_;rintro e w' ⟨rfl,rfl⟩)|go_in)
 go_ret2
 exact⟨rfl,((Below.refl _ _).alloc (Nat.le_refl _) _).alloc (by simp) _⟩
end Go.Proofs.YtdmmciggopmglaaGreatDoor.FX
namespace Go.Proofs.YtdmmciggopmglaaGreatDoor.FX
open Go.RowKit
set_option maxRecDepth 100000 in
theorem share_no(a b l:Nat)(w:World)(ha:a<=18446744073709551615)(hb:b<=18446744073709551615)(hl:l<=18446744073709551615)(h:a=0/\b=0\/2305843009213693952 < l):
 Calls Tryz.prog 148 #[.int .u64 a,.int .u64 b,.int .u64 l] w (Faulty [115,104,97,114,101] w):=by
 by_cases h1:a=0
 . subst h1
   by_cases h2:b=0
   . subst h2;clear h;go_enter Tryz.func148,Tryz.ntmps148;go_wp2
     go_ret2
     refine⟨w.heap.size+3,rfl,by omega,?_,?_,?_,((((Below.refl _ _).alloc (Nat.le_refl _) _).alloc (by simp) _).alloc (by simp;omega) _).alloc (by simp;omega) _⟩
     all_goals exact(World.cell?_alloc_at _ _ _ _ (by simp)).trans rfl
   . have e1:((b:Int) != 0)=true:=by rw[bne_iff_ne];omega
     have e2:decide ((l:Int)<=2305843009213693952)=false:=by simp;omega
     clear h;go_enter Tryz.func148,Tryz.ntmps148;go_wp2
     go_ret2
     refine⟨w.heap.size+3,rfl,by omega,?_,?_,?_,((((Below.refl _ _).alloc (Nat.le_refl _) _).alloc (by simp) _).alloc (by simp;omega) _).alloc (by simp;omega) _⟩
     all_goals exact(World.cell?_alloc_at _ _ _ _ (by simp)).trans rfl
 . have e1:((a:Int) != 0)=true:=by rw[bne_iff_ne];omega
   have e2:decide ((l:Int)<=2305843009213693952)=false:=by simp;omega
   clear h;go_enter Tryz.func148,Tryz.ntmps148;go_wp2
   go_ret2
   refine⟨w.heap.size+3,rfl,by omega,?_,?_,?_,((((Below.refl _ _).alloc (Nat.le_refl _) _).alloc (by simp) _).alloc (by simp;omega) _).alloc (by simp;omega) _⟩
   all_goals exact(World.cell?_alloc_at _ _ _ _ (by simp)).trans rfl
theorem box3a(w:World)(x y z:Value)(t:TypeId):(((w.alloc (.cells #[x] t)).alloc (.cells #[y] t)).alloc (.cells #[z] t)).cell? ⟨w.heap.size,0,none⟩=some x:=by
 rw[World.cell?_alloc_lt _ _ ⟨w.heap.size,0,none⟩ (by simp;omega),World.cell?_alloc_lt _ _ ⟨w.heap.size,0,none⟩ (by simp),World.cell?_alloc_new];rfl
theorem box3b(w:World)(x y z:Value)(t:TypeId):(((w.alloc (.cells #[x] t)).alloc (.cells #[y] t)).alloc (.cells #[z] t)).cell? ⟨w.heap.size+1,0,none⟩=some y:=by
 rw[World.cell?_alloc_lt _ _ ⟨w.heap.size+1,0,none⟩ (by simp),World.cell?_alloc_at _ _ _ _ (by simp)];rfl
theorem box3c(w:World)(x y z:Value)(t:TypeId):(((w.alloc (.cells #[x] t)).alloc (.cells #[y] t)).alloc (.cells #[z] t)).cell? ⟨w.heap.size+1+1,0,none⟩=some z:=by
 rw[World.cell?_alloc_at _ _ _ _ (by simp)];rfl
set_option maxRecDepth 100000 in
theorem share2_any(p q r:Addr)(a b l:Nat)(w:World)(ha:a<=18446744073709551615)(hb:b<=18446744073709551615)(hl:l<=2305843009213693952)
 (hp:w.cell? p=some (.int .u64 a)) (hq:w.cell? q=some (.int .u64 b)) (hr:w.cell? r=some (.int .u64 l)):
 Calls Tryz.prog 159 #[.pointer (some p),.pointer (some q),.pointer (some r)] w (Ret (Fx.share a b l) w):=by
 have E:=Lib.hid (show min (max (Fx.part a b:Int) (l:Int)) (4611686018427387904 - (l:Int))=((Fx.share a b l:Nat):Int) by unfold Fx.share;omega);go_enter Tryz.func159,Tryz.ntmps159;go_wp2_with fail
 go_quiet((go_at_call 160;exact Calls.quiet_of ((part_any a b _ ha hb).mono λ_ _ h=>⟨h.1,h.2⟩)))
 go_wp2_with fail
 go_ret;exact⟨ret_int (by rw[← E.out]),_,rfl⟩
set_option maxRecDepth 100000 in
theorem share_yes(a b l:Nat)(w:World)(ha:a<=18446744073709551615)(hb:b<=18446744073709551615)(hl:l<=2305843009213693952)(h:0 < a\/0 < b):
 Calls Tryz.prog 148 #[.int .u64 a,.int .u64 b,.int .u64 l] w (Good (Fx.share a b l) w):=by
 have e2:decide ((l:Int)<=2305843009213693952)=true:=by simp;omega
 by_cases h1:a=0
 . subst h1;have e1:((b:Int) != 0)=true:=by rw[bne_iff_ne];omega
   clear h;go_enter Tryz.func148,Tryz.ntmps148;go_wp2_with(first|(go_at_call 159;refine(share2_any _ _ _ _ b l _ (by omega) hb hl (box3a _ _ _ _ _) (box3b _ _ _ _ _) (box3c _ _ _ _ _)).mono ?_;rintro e w' ⟨rfl,n,rfl⟩)|go_in)
   go_ret2
   exact⟨rfl,bdrew ((((Below.refl _ _).alloc (Nat.le_refl _) _).alloc (by simp) _).alloc (by simp;omega) _) _⟩
 . have e1:((a:Int) != 0)=true:=by rw[bne_iff_ne];omega
   clear h;go_enter Tryz.func148,Tryz.ntmps148;go_wp2_with(first|(go_at_call 159;refine(share2_any _ _ _ _ b l _ (by omega) hb hl (box3a _ _ _ _ _) (box3b _ _ _ _ _) (box3c _ _ _ _ _)).mono ?_;rintro e w' ⟨rfl,n,rfl⟩)|go_in)
   go_ret2
   exact⟨rfl,bdrew ((((Below.refl _ _).alloc (Nat.le_refl _) _).alloc (by simp) _).alloc (by simp;omega) _) _⟩
end Go.Proofs.YtdmmciggopmglaaGreatDoor.FX
