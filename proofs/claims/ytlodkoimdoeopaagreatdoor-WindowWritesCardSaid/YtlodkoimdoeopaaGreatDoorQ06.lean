/- Parts, joined. -/
import Derived.Test.YtlodkoimdoeopaaGreatDoorQ05
import Derived.Test.YtlodkoimdoeopaaGreatDoorQ04
import Derived.Lib.BitFns
import Derived.Shelf.Small.Bits
import Derived.Deep.DeepCutAuto
import Derived.Deep.CutBlock
import Derived.Deep.RegionHeld3
namespace Go.Proofs.YtlodkoimdoeopaaGreatDoor
theorem zrL:∀ (n x:Nat),x<=n->x≠0->x<2 ^ 64->∃ k:Nat,Lib.bitLen x=k+1/\2 ^ k<=x/\x<2 ^ (k+1):=by
 intro n
 induction n with
 |zero=>intro x h h0 _;omega
 |succ n ih =>
  intro x h h0 h1;have e:=Lib.bitLen_half x h0 h1
  by_cases hx:x=1
  ·subst hx;exact⟨0,by rw[e];decide,by decide,by decide⟩
  ·obtain⟨k,ek,k0,k1⟩:=ih (x / 2) (by omega) (by omega) (by omega);exact⟨k+1,by omega,by rw[Nat.pow_succ];omega,by rw[Nat.pow_succ];omega⟩
theorem zun (d:Int) (d0:0<d) (d1:d<=18446744073709551615):∃ s:Nat,64-(Lib.bitLen d.toNat:Int)=s/\s<=63/\9223372036854775808<=d*2 ^ s/\d*2 ^ s<18446744073709551616:=by
 obtain⟨x,rfl⟩:=Int.eq_ofNat_of_zero_le (Int.le_of_lt d0);obtain⟨k,ek,k0,k1⟩:=zrL x x (Nat.le_refl _) (by omega) (by omega);have hk:k<64:=by
  by_cases h:k<64
  ·exact h
  ·have:2 ^ 64<=2 ^ k:=Nat.pow_le_pow_right (by decide) (by omega);omega
 have ex:((x:Int)).toNat=x:=by omega
 refine⟨63-k,by rw[ex,ek];omega,by omega,?_,?_⟩
 ·have h:2 ^ k*2 ^ (63-k)<=x*2 ^ (63-k):=Nat.mul_le_mul_right _ k0;rw[←Nat.pow_add,show k+(63-k)=63 by omega]at h;have:((2 ^ 63:Nat):Int)<=((x*2 ^ (63-k):Nat):Int):=by exact_mod_cast h
  simpa using this
 ·have h:x*2 ^ (63-k)<2 ^ (k+1)*2 ^ (63-k):=Nat.mul_lt_mul_of_pos_right k1 (Nat.pow_pos (by decide));rw[←Nat.pow_add,show k+1+(63-k)=64 by omega]at h;have:((x*2 ^ (63-k):Nat):Int)<((2 ^ 64:Nat):Int):=by exact_mod_cast h
  simpa using this
theorem zsz {x:Int} (h0:0<=x) (h1:x<18446744073709551616):bits .and .u64 x 4294967295=x % 4294967296:=by
 obtain⟨a,rfl⟩:=Int.eq_ofNat_of_zero_le h0;have h:=bits_and_u64_nat a 4294967295 (by omega) (by omega);have e:a &&& 4294967295=a % 4294967296:=Nat.and_two_pow_sub_one_eq_mod a 32;rw[e]at h;exact h.trans (by omega)
structure Parts (h l d:Int) (s:Nat) (Y a c U t v v0:Int):Prop where
 eY:IntKind.u64.wrap (d*2 ^ s)=Y
 ea:Y / 4294967296=a
 ec:bits .and .u64 Y 4294967295=c
 eU:bits .or .u64 (IntKind.u64.wrap (h*2 ^ s)) (l / 2 ^ (64-s))=U
 et:IntKind.u64.wrap (l*2 ^ s)=t
 ev:t / 4294967296=v
 ev0:bits .and .u64 t 4294967295=v0
 C:DigC a c U v
 ys:Y=a*4294967296+c
 y1:Y<18446744073709551616
 u1:U<18446744073709551616
 t0:0<=t
 w0:0<=v0
 w1:v0<4294967296
 fin:∀ q1 q0 R1 R0:Int,Y*q1+R1=U*4294967296+v->Y*q0+R0=R1*4294967296+v0->0<=R0->R0<Y ->
  q1*4294967296+q0=(h*18446744073709551616+l) / d/\R0 / 2 ^ s=(h*18446744073709551616+l) % d
theorem zty {h l d:Int} {s:Nat} (h0:0<=h) (hd:h<d) (l0:0<=l) (l1:l<18446744073709551616) (s1:s<=63) (n0:9223372036854775808<=d*2 ^ s) (n1:d*2 ^ s<18446744073709551616) :
  ∃ Y a c U t v v0:Int,Parts h l d s Y a c U t v v0:=by
 have p:=zK s;have pq:=zK (64-s);have e64:=zlt (n:=s) (by omega);have hm:(h+1)*2 ^ s<=d*2 ^ s:=Int.mul_le_mul_of_nonneg_right (by omega) (Int.le_of_lt p);rw[Int.add_mul,Int.one_mul]at hm;have h2:=Int.mul_nonneg h0 (Int.le_of_lt p);have b0:0<=l / 2 ^ (64-s):=Int.ediv_nonneg l0 (Int.le_of_lt pq);have b1:l / 2 ^ (64-s)<2 ^ s:=Int.ediv_lt_of_lt_mul pq (by rw[←e64];exact l1);have b2:l / 2 ^ (64-s)<18446744073709551616:=Int.lt_of_le_of_lt (Int.ediv_le_self _ l0) l1;have eU:=zmJ h (l / 2 ^ (64-s)) s h0 (by omega) b0 b1 b2;have wh:IntKind.u64.wrap (h*2 ^ s)=h*2 ^ s:=by rw[IntKind.wrap_u64];omega
 have wd:IntKind.u64.wrap (d*2 ^ s)=d*2 ^ s:=by rw[IntKind.wrap_u64];omega
 -- what is left of l
 have el:l*2 ^ s=18446744073709551616*(l / 2 ^ (64-s))+(l % 2 ^ (64-s))*2 ^ s:=by
  have e:=Int.mul_ediv_add_emod l (2 ^ (64-s))
  conv=>lhs;rw[←e]
  rw[Int.add_mul,e64,Int.mul_right_comm,Int.mul_comm (2 ^ (64-s)) (2 ^ s)]
 have m:=za1 (x:=l) pq;have m1:(l % 2 ^ (64-s)+1)*2 ^ s<=18446744073709551616:=by
  rw[e64,Int.mul_comm (2 ^ s)];exact Int.mul_le_mul_of_nonneg_right (by omega) (Int.le_of_lt p)
 rw[Int.add_mul,Int.one_mul]at m1;have m0:=Int.mul_nonneg m.1 (Int.le_of_lt p);have wt:IntKind.u64.wrap (l*2 ^ s)=(l % 2 ^ (64-s))*2 ^ s:=by
  rw[IntKind.wrap_u64];exact zc8 el m0 (by omega)
 refine⟨_,_,_,h*2 ^ s+l / 2 ^ (64-s),_,_,_,⟨wd,rfl,zsz (by omega) n1,by rw[wh];exact eU,wt,rfl,zsz m0 (by omega),⟨by omega,by omega,by omega,by omega,by omega,by omega,by omega,by omega⟩,by omega,n1,by omega,m0,by omega,by omega,?_⟩⟩;intro q1 q0 R1 R0 e1 e2 r0 r1;have total:(h*18446744073709551616+l)*2 ^ s=(d*2 ^ s)*(q1*4294967296+q0)+R0:=by
  have x1:(h*18446744073709551616+l)*2 ^ s=h*2 ^ s*18446744073709551616+l*2 ^ s:=by
   rw[Int.add_mul,Int.mul_right_comm]
  have x2:(d*2 ^ s)*(q1*4294967296+q0)=(d*2 ^ s)*q1*4294967296+(d*2 ^ s)*q0:=by
   rw[Int.mul_add,Int.mul_assoc (d*2 ^ s) q1]
  rw[x1,x2,el];generalize l % 2 ^ (64-s)*2 ^ s=t at *;generalize (d*2 ^ s)*q1=Yq1 at *;generalize (d*2 ^ s)*q0=Yq0 at *;omega
 have tq:(h*18446744073709551616+l)=d*(q1*4294967296+q0)+R0 / 2 ^ s:=by
  have k1:R0=2 ^ s*((h*18446744073709551616+l)-d*(q1*4294967296+q0)):=by
   rw[Int.mul_sub,Int.mul_comm (2 ^ s),total,←Int.mul_assoc,Int.mul_comm (2 ^ s) d];omega
  have k2:R0 / 2 ^ s=(h*18446744073709551616+l)-d*(q1*4294967296+q0):=by
   conv=>lhs;rw[k1]
   exact Int.mul_ediv_cancel_left _ (Int.ne_of_gt p)
  omega
 have z0:0<=R0 / 2 ^ s:=Int.ediv_nonneg r0 (Int.le_of_lt p);have z1:R0 / 2 ^ s<d:=Int.ediv_lt_of_lt_mul p r1;exact⟨(zdS tq z0 z1).symm,(zc8 tq z0 z1).symm⟩
end Go.Proofs.YtlodkoimdoeopaaGreatDoor
namespace Go.Proofs.YtlodkoimdoeopaaGreatDoor
open Go.RowKit
def zu3:Go.Shelf.Ren:=⟨fun|129=>243|134=>244|n=>n,fun|3=>3|4=>4|5=>5|9=>9|46=>199|53=>153|n=>n,fun|n=>n⟩
theorem zw0:Go.Proofs.Lays.n134 Tryz.prog zu3:={
 mixed:=by kernel_rfl
 f129:=Tryz.func243.trans (congrArg some (by kernel_rfl))
 f134:=Tryz.func244.trans (congrArg some (by kernel_rfl))
 t3:=Tryz.underlying3
 a3:=Tryz.isAgg3
 z3:=Tryz.sizeOf3
 v3:=Tryz.zeroValue3
 t4:=Tryz.underlying4
 a4:=Tryz.isAgg4
 z4:=Tryz.sizeOf4
 v4:=Tryz.zeroValue4
 t5:=Tryz.underlying5
 a5:=Tryz.isAgg5
 z5:=Tryz.sizeOf5
 v5:=Tryz.zeroValue5
 t9:=Tryz.underlying9
 a9:=Tryz.isAgg9
 z9:=Tryz.sizeOf9
 v9:=Tryz.zeroValue9
 t46:=Tryz.underlying199
 a46:=Tryz.isAgg199
 z46:=Tryz.sizeOf199
 v46:=Tryz.zeroValue199
 t53:=Tryz.underlying153
 a53:=Tryz.isAgg153
 z53:=Tryz.sizeOf153
 v53:=Tryz.zeroValue153 }
theorem ztD (x:Int) (s:Nat) (hs:64-(Lib.bitLen x.toNat:Int)=s) (h0:0<=x) (h1:x<=18446744073709551615) (w:World) :
  Calls Tryz.prog 244 #[.int .u64 x] w λe w'=>e=.returned (.int .i64 s)/\w=w':=by
 rw[←hs];exact(Any.bits_LeadingZeros64 zw0 x w h0 h1).mono λ_ _ ⟨he,hw⟩=>⟨he,hw.symm⟩
set_option maxRecDepth 100000 in
set_option maxHeartbeats 4000000 in
theorem zqB (h l d:Int) (h0:0<h) (hd:h<d) (l0:0<=l) (l1:l<18446744073709551616) (d1:d<=18446744073709551615):zil h l d:=by
 intro w;have e1:(d == 0)=false:=beq_eq_false_iff_ne.2 (by omega);have e2:decide (d<=h)=false:=decide_eq_false (by omega);have e3:(h == 0)=false:=beq_eq_false_iff_ne.2 (by omega);obtain⟨s,hs,s1,n0,n1⟩:=zun d (by omega) d1;have CZ:=ztD d s hs (by omega) (by omega);obtain⟨Y,a,c,U,t,v,v0,eY,ea,ec,eU,et,ev,ev0,C,ys,y1,u1,t0,w0,w1,fin⟩:=zty (s:=s) (Int.le_of_lt h0) hd l0 l1 s1 n0 n1;have FIN:=za fin;have CC:=za C;have YS:=za ys;obtain⟨D0,DR⟩:=Dig.first C
 obtain⟨a0,a1,c0,c1,u0,u2,x0,x1⟩:=C;have ane:a≠0:=by omega
 clear hs fin ys n0 n1 u2
 go_enter Tryz.func228,Tryz.ntmps228
 go_upto_region 16 with(go_at_call 244;(with_reducible refine(CZ _).mono ?_);rintro e w' ⟨rfl,rfl⟩)
 have er:U-U / a*a=U % a:=by have:=D0.e;omega
 have pa0:0<=U / a*a:=Int.mul_nonneg (Int.ediv_nonneg u0 (by omega)) (by omega);have pa1:U / a*a<=U:=by have:=D0.r0;omega
 generalize U % a=r at *;generalize U / a=q at *;have D0:=za D0
 go_upto_block 0 with fail
 clear eY ea ec eU et ev ev0 er pa0 pa1
 go_cut [15] (λsq wx=>sq=.int .u64 (zdn a c U v)/\w=wx)
 case first =>
  go_wp2_with fail
  go_loop [15,16] (λq r=>∃ q' r':Int,q=.int .u64 q'/\r=.int .u64 r'/\Dig a c U v q' r'/\r'<4294967296) (λq _=>(intOf q).toNat)
  case atStart=>exact⟨q,r,rfl,rfl,D0.out,DR⟩
  case round =>
   obtain⟨q',r',rfl,rfl,hD,hr⟩:=hrel;have HD:=za hD;have q0:0<=q':=by have:=(zbV CC.out).1;have:=hD.lo;omega
   have q1:=hD.hi;have r0:=hD.r0;have pr:=hD.prod CC.out;have gt1:4294967296<=q'->zdn a c U v<q':=λh=>by have:=(zbV CC.out).2.1;omega
   have gt2:=hD.above CC.out;have st:=hD.stop CC.out;have be:=hD.below CC.out;clear hD
   by_cases hA:4294967296<=q'
   ·have GT:=za (gt1 hA);have p1:1<=q':=by have:=(zbV CC.out).1;have:=GT.out;omega
    by_cases hB:4294967296<=r'+a
    ·have E:=za (st GT.out hB);clear gt1 gt2 st be pr
     go_wp2_with fail
     go_meet;exact⟨by rw[E.out],rfl⟩
    ·clear gt1 gt2 st be pr
     go_wp2_with fail
     go_round
     case rel=>exact⟨q'-1,r'+a,rfl,rfl,HD.out.next CC.out GT.out,by omega⟩
     case measure=>simp[intOf];have:=(zbV CC.out).1;have:=GT.out;omega
   ·obtain⟨m0,m1⟩:=pr (by omega)
    by_cases hC:4294967296*r'+v<q'*c
    ·have dC:decide (4294967296*r'+v<q'*c)=true:=decide_eq_true hC;have GT:=za (gt2 hC);have p1:1<=q':=by have:=(zbV CC.out).1;have:=GT.out;omega
     by_cases hB:4294967296<=r'+a
     ·have E:=za (st GT.out hB);clear gt1 gt2 st be pr
      go_wp2_with fail
      go_meet;exact⟨by rw[E.out],rfl⟩
     ·clear gt1 gt2 st be pr
      go_wp2_with fail
      go_round
      case rel=>exact⟨q'-1,r'+a,rfl,rfl,HD.out.next CC.out GT.out,by omega⟩
      case measure=>simp[intOf];have:=(zbV CC.out).1;have:=GT.out;omega
    ·have dC:decide (4294967296*r'+v<q'*c)=false:=decide_eq_false hC;have E:=za (be (by omega));clear gt1 gt2 st be hC
     go_wp2_with fail
     go_meet;exact⟨by rw[E.out],rfl⟩
 case rest =>
  obtain⟨rfl,rfl⟩:=hcut;clear D0 DR;have DI:=zbV CC.out;have DE:=ztr a c U v;rw[←YS.out]at DI DE;generalize zdn a c U v=q1 at *;generalize znO a c U v=R1 at *;obtain⟨q1a,q1b,R1a,R1b⟩:=DI;have e21:IntKind.u64.wrap (IntKind.u64.wrap (IntKind.u64.wrap (U*4294967296)+v)-IntKind.u64.wrap (q1*Y))=R1:=by
   rw[Int.mul_comm q1 Y];simp only[IntKind.wrap_u64];omega
  have DE1:=za DE;have C2:=za (show DigC a c R1 v0 from⟨a0,a1,c0,c1,R1a,by have:=YS.out;omega,w0,w1⟩);obtain⟨D2,DS⟩:=Dig.first C2.out
  have er:R1-R1 / a*a=R1 % a:=by have:=D2.e;omega
  have pa0:0<=R1 / a*a:=Int.mul_nonneg (Int.ediv_nonneg R1a (by omega)) (by omega);have pa1:R1 / a*a<=R1:=by have:=D2.r0;omega
  have D2:=za D2;clear DE CC
  go_upto_block 2 with fail
  clear er pa0 pa1 e21;generalize R1 % a=rr at *;generalize R1 / a=qq at *
  go_cut [18] (λsq wx=>sq=.int .u64 (zdn a c R1 v0)/\w=wx)
  case first =>
   go_wp2_with fail
   go_loop [18,16] (λq r=>∃ q' r':Int,q=.int .u64 q'/\r=.int .u64 r'/\Dig a c R1 v0 q' r'/\r'<4294967296) (λq _=>(intOf q).toNat)
   case atStart=>exact⟨qq,rr,rfl,rfl,D2.out,DS⟩
   case round =>
    obtain⟨q',r',rfl,rfl,hD,hr⟩:=hrel;have HD:=za hD;have q0:0<=q':=by have:=(zbV C2.out).1;have:=hD.lo;omega
    have q1:=hD.hi;have r0:=hD.r0;have pr:=hD.prod C2.out;have gt1:4294967296<=q'->zdn a c R1 v0<q':=λh=>by have:=(zbV C2.out).2.1;omega
    have gt2:=hD.above C2.out;have st:=hD.stop C2.out;have be:=hD.below C2.out;clear hD
    by_cases hA:4294967296<=q'
    ·have GT:=za (gt1 hA);have p1:1<=q':=by have:=(zbV C2.out).1;have:=GT.out;omega
     by_cases hB:4294967296<=r'+a
     ·have E:=za (st GT.out hB);clear gt1 gt2 st be pr
      go_wp2_with fail
      go_meet;exact⟨by rw[E.out],rfl⟩
     ·clear gt1 gt2 st be pr
      go_wp2_with fail
      go_round
      case rel=>exact⟨q'-1,r'+a,rfl,rfl,HD.out.next C2.out GT.out,by omega⟩
      case measure=>simp[intOf];have:=(zbV C2.out).1;have:=GT.out;omega
    ·obtain⟨m0,m1⟩:=pr (by omega)
     by_cases hC:4294967296*r'+v0<q'*c
     ·have dC:decide (4294967296*r'+v0<q'*c)=true:=decide_eq_true hC;have GT:=za (gt2 hC);have p1:1<=q':=by have:=(zbV C2.out).1;have:=GT.out;omega
      by_cases hB:4294967296<=r'+a
      ·have E:=za (st GT.out hB);clear gt1 gt2 st be pr
       go_wp2_with fail
       go_meet;exact⟨by rw[E.out],rfl⟩
      ·clear gt1 gt2 st be pr
       go_wp2_with fail
       go_round
       case rel=>exact⟨q'-1,r'+a,rfl,rfl,HD.out.next C2.out GT.out,by omega⟩
       case measure=>simp[intOf];have:=(zbV C2.out).1;have:=GT.out;omega
     ·have dC:decide (4294967296*r'+v0<q'*c)=false:=decide_eq_false hC;have E:=za (be (by omega));clear gt1 gt2 st be hC
      go_wp2_with fail
      go_meet;exact⟨by rw[E.out],rfl⟩
  case rest =>
   obtain⟨rfl,rfl⟩:=hcut;clear D2 DS;have DJ:=zbV C2.out;have DF:=ztr a c R1 v0;rw[←YS.out]at DJ DF;generalize zdn a c R1 v0=q2 at *;generalize znO a c R1 v0=R0 at *;obtain⟨q2a,q2b,R0a,R0b⟩:=DJ;have e28:IntKind.u64.wrap (IntKind.u64.wrap (IntKind.u64.wrap (R1*4294967296)+v0)-IntKind.u64.wrap (q2*Y))=R0:=by
    rw[Int.mul_comm q2 Y];simp only[IntKind.wrap_u64];omega
   obtain⟨f1,f2⟩:=FIN.out q1 q2 R1 R0 DE1.out DF R0a R0b;have F1:=za f1;have F2:=za f2;clear f1 f2 DF;go_wp2
   go_ret2
   rw[F1.out,F2.out];exact⟨rfl,Below.refl _ _⟩
theorem ziB (a b d:Int) (h0 : -9223372036854775808<=a) (h1:a<=9223372036854775807) (k0 : -9223372036854775808<=b) (k1:b<=9223372036854775807) (d0 : -9223372036854775808<=d) (d1:d<=9223372036854775807) (w:World) :
  Calls Tryz.prog 173 #[.int .i64 a,.int .i64 b,.int .i64 d] w λe w'=>e=.returned (.int .i64 (zN (a*b) d))/\Below w.heap.size w w':=by
 refine zrl a b d h0 h1 k0 k1 d0 d1 (λhz=>?_) w;have hp:0<zi d:=by unfold zi;split<;>omega
 have hq:zi d<=9223372036854775808:=zcu d0 (by omega);have r:=za1 (x:=hi (zi (a*b))) hp
 by_cases h:hi (zi (a*b)) % zi d=0
 ·rw[h];exact zpz _ _ (lo0 _) (lo1 _) hp (by omega)
 ·exact zqB _ _ _ (by omega) r.2 (lo0 _) (lo1 _) (by omega)
theorem zd9 (a b d v:Int) (hv:zN (a*b) d=v) (h0 : -9223372036854775808<=a) (h1:a<=9223372036854775807) (k0 : -9223372036854775808<=b) (k1:b<=9223372036854775807) (d0 : -9223372036854775808<=d) (d1:d<=9223372036854775807) (w:World) :
  Calls Tryz.prog 173 #[.int .i64 a,.int .i64 b,.int .i64 d] w λe w'=>e=.returned (.int .i64 v)/\Below w.heap.size w w':=by
 subst hv;exact ziB a b d h0 h1 k0 k1 d0 d1 w
structure PQAt (W w:World) (p q:Nat) (X Z:Int):Prop where
 x:BigAt w p X
 z:BigAt w q Z
 hb:Below W.heap.size W w
theorem PQAt.below {W w w1:World} {p q:Nat} {X Z:Int} (h:PQAt W w p q X Z) (hb:Below w.heap.size w w1):PQAt W w1 p q X Z:=⟨h.x.below hb,h.z.below hb,bt h.hb hb⟩
theorem PQAt.drew {W w:World} {p q:Nat} {X Z:Int} (h:PQAt W w p q X Z):PQAt W w.drew p q X Z:=⟨h.x.drew,h.z.drew,h.hb.drew⟩
theorem PQAt.setZ {W w:World} {p q:Nat} {X Z:Int} (Z':Int) (h:PQAt W w p q X Z) (hq:W.heap.size<=q) (hne:p≠q) :
  PQAt W ((w.setCell ⟨q,0,none⟩ (.int .u64 (hi Z'))).setCell ⟨q,1,none⟩ (.int .u64 (lo Z'))) p q X Z':=⟨h.x.far (Ne.symm hne),h.z.set Z',bs (bs h.hb hq _) hq _⟩
theorem PQAt.start {W w:World} {X:Int} {t:TypeId} (hb:Below W.heap.size W w) (X0:0<=X) (X1:X<340282366920938463463374607431768211456) :
  PQAt W ((w.alloc (.cells #[.int .u64 (hi X),.int .u64 (lo X)] t)).alloc (.cells #[.int .u64 0,.int .u64 0] t)) w.heap.size (w.heap.size+1) X (X / 2 ^ 128):=by
 refine⟨(BigAt.new w rfl rfl _).alloc _,?_,ba (ba hb _) _⟩;rw[zeV X0 X1];have h:=BigAt.new (w.alloc (.cells #[.int .u64 (hi X),.int .u64 (lo X)] t)) (h:=0) (l:=0) (X:=0) rfl rfl t
 simpa using h
def zdj (P:Int) (j:Nat):Bool:=decide (P % 2 ^ j≠0)
theorem zs6 (P:Int):zdj P 0=false:=by unfold zdj;simp
theorem zrJ (P:Int) (j:Nat):zdj P (j+1)=(zdj P j || (zaR P j == 1)):=by
 have e:P % 2 ^ (j+1)=P % 2 ^ j+2 ^ j*zaR P j:=by
  have h1:=Int.mul_ediv_add_emod P (2 ^ (j+1));have h2:=Int.mul_ediv_add_emod P (2 ^ j);have h3:=zd1 P j;have h4:(2:Int) ^ (j+1)*(P / 2 ^ (j+1))=2 ^ j*(2*(P / 2 ^ (j+1))):=by rw[Int.pow_succ,Int.mul_assoc]
  rw[h3,Int.mul_add]at h2;omega
 have p:=zK j;have r:=za1 (x:=P) p;have b0:=zfi P j;have b1:=zfs P j;unfold zdj;rw[e]
 by_cases hb:zaR P j=1
 ·rw[hb,Int.mul_one]
  simp
  omega
 ·have hb0:zaR P j=0:=by omega
  rw[hb0,Int.mul_zero,Int.add_zero]
  simp
def upB (P:Int) (N:Nat) (s:Bool):Bool:=(zaR P N == 1) && (zdj P N || !s)
theorem zuX (P:Int) (N:Nat) (s:Bool):zaC (zb0 P s) (2 ^ (N+1))=zb0 (P / 2 ^ (N+1)+if upB P N s=true then 1 else 0) s:=by
 rw[zgY];have p:=zK N;have h:=zd1 P N;have b0:=zfi P N;have b1:=zfs P N
 cases s
 ·show(P / 2 ^ N+1) / 2=P / 2 ^ (N+1)+_
  unfold upB
  by_cases hb:zaR P N=1
  ·rw[if_pos (by simp[hb])];omega
  ·rw[if_neg (by simp[hb])];omega
 ·show(-P / 2 ^ N+1) / 2 = -(P / 2 ^ (N+1)+_)
  have f:=zdb (a:=P) p;have r:=za1 (x:=P) p;unfold upB zdj
  by_cases hb:zaR P N=1
  ·by_cases hm:P % 2 ^ N=0
   ·rw[if_neg (by omega)]at f;rw[if_neg (by simp[hm])];omega
   ·rw[if_pos (by omega)]at f;rw[if_pos (by simp[hb,hm])];omega
  ·rw[if_neg (by simp[hb])]
   split at f<;>omega
theorem zit (a b n:Int) (h:127<n) (w:World) :
  Calls Tryz.prog 246 #[.int .i64 a,.int .i64 b,.int .i64 n] w λe w'=>e=.returned (.int .i64 0)/\Below w.heap.size w w':=by
 go_enter Tryz.func246,Tryz.ntmps246
 go_wp2;go_ret;exact⟨rfl,Below.refl _ _⟩
theorem ziv (a b n P:Int) (s:Bool) (hP:zi a*zi b=P) (hs:(decide (a<0) != decide (b<0))=s) (h0 : -9223372036854775808<=a) (h1:a<=9223372036854775807) (k0 : -9223372036854775808<=b) (k1:b<=9223372036854775807) (h:n<=0) (w:World) :
  Calls Tryz.prog 246 #[.int .i64 a,.int .i64 b,.int .i64 n] w λe w'=>e=.returned (.int .i64 (zE (zb0 P s)))/\Below w.heap.size w w':=by
 have CA:=zb1 a h0 h1;have CB:=zb1 b k0 k1;have a1:zi a<=9223372036854775808:=zcu h0 (by omega);have b1:zi b<=9223372036854775808:=zcu k0 (by omega);have CT:=zje (zi a) (zi b) P hP (za6 a) (by omega) (za6 b) (by omega);have pp:=zdM h0 h1 k0 k1;rw[hP]at pp;have CH:=zat P s pp.1 (by omega);have HS:=za hs;clear hs hP pp a1 b1
 by_cases hn:n<0
 ·have t1:decide (n<0)=true:=decide_eq_true hn;clear h hn
  cases hta:decide (a<0)<;>cases htb:decide (b<0)
  all_goals
   have hst:=HS.out;rw[hta,htb]at hst
   first|(change false=s at hst)|(change true=s at hst)
   subst hst;clear HS
   go_enter Tryz.func246,Tryz.ntmps246
   go_wp2_with (first
    |(go_at_call 132;(with_reducible refine(CA _).mono ?_);rintro e w' ⟨rfl,rfl⟩)
    |(go_at_call 132;(with_reducible refine(CB _).mono ?_);rintro e w' ⟨rfl,rfl⟩)
    |(go_at_call 214;(with_reducible refine(CT _).mono ?_);rintro e w1 ⟨rfl,b1⟩)
    |(go_at_call 137;(with_reducible refine(CH _).mono ?_);rintro e w2 ⟨rfl,b2⟩))
   go_ret;refine⟨rfl,?_⟩
   repeat (first|exact Below.refl _ _|with_reducible refine ba ?_ _|with_reducible refine bs ?_ (by omega) _|with_reducible refine bd ?_|(with_reducible refine bt ?_ (by assumption)))
 ·obtain rfl:n=0:=by omega
  clear h hn
  cases hta:decide (a<0)<;>cases htb:decide (b<0)
  all_goals
   have hst:=HS.out;rw[hta,htb]at hst
   first|(change false=s at hst)|(change true=s at hst)
   subst hst;clear HS
   go_enter Tryz.func246,Tryz.ntmps246
   go_wp2_with (first
    |(go_at_call 132;(with_reducible refine(CA _).mono ?_);rintro e w' ⟨rfl,rfl⟩)
    |(go_at_call 132;(with_reducible refine(CB _).mono ?_);rintro e w' ⟨rfl,rfl⟩)
    |(go_at_call 214;(with_reducible refine(CT _).mono ?_);rintro e w1 ⟨rfl,b1⟩)
    |(go_at_call 137;(with_reducible refine(CH _).mono ?_);rintro e w2 ⟨rfl,b2⟩))
   go_ret;refine⟨rfl,?_⟩
   repeat (first|exact Below.refl _ _|with_reducible refine ba ?_ _|with_reducible refine bs ?_ (by omega) _|with_reducible refine bd ?_|(with_reducible refine bt ?_ (by assumption)))
set_option maxRecDepth 100000 in
set_option maxHeartbeats 4000000 in
theorem zjF (a b P v:Int) (N:Nat) (s:Bool) (hv:zE (zb0 (P / 2 ^ (N+1)+if upB P N s=true then 1 else 0) s)=v) (hP:zi a*zi b=P) (hs:(decide (a<0) != decide (b<0))=s) (h0 : -9223372036854775808<=a) (h1:a<=9223372036854775807) (k0 : -9223372036854775808<=b) (k1:b<=9223372036854775807) (hN:N<=126) (w:World) :
  Calls Tryz.prog 246 #[.int .i64 a,.int .i64 b,.int .i64 ((N:Int)+1)] w λe w'=>e=.returned (.int .i64 v)/\Below w.heap.size w w':=by
 have CA:=zb1 a h0 h1;have CB:=zb1 b k0 k1;have a1:zi a<=9223372036854775808:=zcu h0 (by omega);have b1:zi b<=9223372036854775808:=zcu k0 (by omega);have CT:=zje (zi a) (zi b) P hP (za6 a) (by omega) (za6 b) (by omega);have pp:=zdM h0 h1 k0 k1;rw[hP]at pp;obtain⟨P0,P1⟩:=pp;have HS:=za hs;have HV:=za hv;clear hv;clear hs hP a1 b1;have t1:decide ((N:Int)+1<0)=false:=decide_eq_false (by omega);have t2:decide ((127:Int)<(N:Int)+1)=false:=decide_eq_false (by omega);have t3:((N:Int)+1 == 0)=false:=beq_eq_false_iff_ne.2 (by omega)
 go_enter Tryz.func246,Tryz.ntmps246
 go_upto_region 5 with(fail)
 go_cut [7] (λs7 wx=>s7=.bool s/\w=wx)
 case first =>
  cases hta:decide (a<0)<;>cases htb:decide (b<0)
  all_goals
   have hst:=HS.out;rw[hta,htb]at hst
   first|(change false=s at hst)|(change true=s at hst)
   subst hst;clear HS
   go_wp2_with fail
   go_meet;exact⟨rfl,rfl⟩
 case rest =>
  obtain⟨rfl,rfl⟩:=hcut;clear HS
  go_wp2_with (first
   |(go_at_call 132;(with_reducible refine(CA _).mono ?_);rintro e w' ⟨rfl,rfl⟩)
   |(go_at_call 132;(with_reducible refine(CB _).mono ?_);rintro e w' ⟨rfl,rfl⟩)
   |(go_at_call 214;(with_reducible refine(CT _).mono ?_);rintro e w1 ⟨rfl,b1⟩))
  have zs:=b1.size;have B1:=za b1;clear b1 CA CB CT
  go_loopw [10] (λi wq=>∃ j:Nat,N+1<=j/\j<=128/\i=.int .i64 ((j:Int)-1)/\PQAt w wq w1.heap.size (w1.heap.size+1) P (P / 2 ^ j)) (λi _=>(intOf i+1).toNat)
  case atStart=>exact⟨128,by omega,by omega,rfl,PQAt.start B1.out P0 (by omega)⟩
  case round =>
   obtain⟨j,hj0,hj1,rfl,hst⟩:=hrel;have ST:=za hst
   by_cases hlt:N+1<j
   ·obtain⟨k,rfl⟩:∃ k,j=k+1:=⟨j-1,by omega⟩;have ek:((k+1:Nat):Int)-1=(k:Int):=by omega
    rw[ek];clear ek;have Q0:0<=P / 2 ^ (k+1):=Int.ediv_nonneg P0 (Int.le_of_lt (zK _));have Q1:=zfP k P0 (show P<340282366920938463463374607431768211456 by omega);have CB:=zfA P k P0 (by omega) (by omega);have CT:=zej (P / 2 ^ (k+1)) (zaR P k) Q0 Q1 (zfi P k) (zfs P k);rw[←zd1]at CT;obtain⟨⟨m0,m1,-,-,ml⟩,⟨q0,q1,qf0,qf1,ql⟩,-⟩:=hst;clear Q0 Q1;go_wp2
    go_region_with
     (first
      |(go_at_call 133;refine(CB _).mono ?_;rintro e w2 ⟨rfl,hb1⟩;have s0:=cb hb1 ql q0;have s1:=cb hb1 ql q1)
      |(go_at_call 131;refine(CT _).mono ?_;rintro e w3 ⟨rfl,hb2⟩;have z1:=Nat.lt_of_lt_of_le ql hb1.size;have s2:=cb hb2 z1 s0;have s3:=cb hb2 z1 s1;have t2:=fb hb2 z1 (fb hb1 ql qf0);have t3:=fb hb2 z1 (fb hb1 ql qf1)))
    all_goals
     go_wp2
     go_roundw
     case rel=>exact⟨k,by omega,by omega,rfl,((ST.out.drew.below hb1).below hb2).setZ _ (by omega) (by omega)⟩
     case measure=>simp[intOf]
   ·obtain rfl:j=N+1:=by omega
    have ek:((N+1:Nat):Int)-1=(N:Int):=by omega
    rw[ek];clear ek hj0 hj1 hlt hst;go_wp2;have S2:=za ST.out;clear ST
    go_loopw [11,45] (λm i wq=>∃ j:Nat,j<=N/\i=.int .i64 j/\m=.bool (zdj P j)/\PQAt w wq w1.heap.size (w1.heap.size+1) P (P / 2 ^ (N+1))) (λ_ i _=>N-(intOf i).toNat)
    case atStart=>exact⟨0,by omega,rfl,by rw[zs6],S2.out⟩
    case round =>
     obtain⟨j,hj,rfl,rfl,hst⟩:=hrel;have ST:=za hst;obtain⟨⟨m0,m1,-,-,ml⟩,⟨q0,q1,qf0,qf1,ql⟩,HBx⟩:=hst;clear S2
     by_cases hlt:j<N
     ·clear HBx;have ss:=zrJ P j
      by_cases hm:zdj P j=true
      ·rw[hm]at ss ⊢;have SS:=za ss;clear ss hm;go_wp2
       go_roundw
       case rel=>exact⟨j+1,by omega,by go_num,by rw[SS.out];rfl,ST.out⟩
       case measure=>simp[intOf];omega
      ·have hm':zdj P j=false:=by simpa using hm
       rw[hm']at ss ⊢;have CB:=zfA P j P0 (by omega) (by omega)
       by_cases hb:zaR P j=1
       ·rw[hb]at CB ss;have SS:=za ss;clear ss hm hm' hb
        go_wp2_with (go_at_call 133;(with_reducible refine(CB _).mono ?_);rintro e w4 ⟨rfl,b4⟩)
        go_roundw
        case rel=>exact⟨j+1,by omega,by go_num,by rw[SS.out];rfl,ST.out.below b4⟩
        case measure=>simp[intOf];omega
       ·have hb0:zaR P j=0:=by have:=zfi P j;have:=zfs P j;omega
        rw[hb0]at CB ss;have SS:=za ss;clear ss hm hm' hb hb0
        go_wp2_with (go_at_call 133;(with_reducible refine(CB _).mono ?_);rintro e w4 ⟨rfl,b4⟩)
        go_roundw
        case rel=>exact⟨j+1,by omega,by go_num,by rw[SS.out];rfl,ST.out.below b4⟩
        case measure=>simp[intOf];omega
     ·obtain rfl:N=j:=by omega
      clear hlt ST;have CN:=zfA P N P0 (by omega) (by omega);have QQ:=zct P0 (zK (N+1));have hv0:=HV.out;clear HV;generalize P / 2 ^ (N+1)=Q at *;have HV:=za hv0;clear hv0;obtain⟨QQ0,QQ1⟩:=QQ;have CP:=zd6 Q QQ0 (by omega)
      by_cases hb:zaR P N=1
      ·rw[hb]at CN;have eu:upB P N s=(true && (zdj P N || !s)):=by unfold upB;rw[hb];rfl
       have hv:=HV.out;rw[eu]at hv;clear HV eu hb;generalize zdj P N=m at *
       cases m<;>cases s
       ·have CH:=zat (Q+1) false (by omega) (by omega);rw[if_pos (by decide)]at hv;have HV:=za hv;clear hv
        go_wp2_with (first
         |(go_at_call 133;(with_reducible refine(CN _).mono ?_);rintro e w4 ⟨rfl,b4⟩;have l4:=Nat.lt_of_lt_of_le ql b4.size;have q0_4:=cb b4 ql q0;have q1_4:=cb b4 ql q1;have qf0_4:=fb b4 ql qf0;have qf1_4:=fb b4 ql qf1)
         |(go_at_call 136;(with_reducible refine(CP _).mono ?_);rintro e w5 ⟨rfl,b5⟩;have l5:=Nat.lt_of_lt_of_le l4 b5.size;have q0_5:=cb b5 l4 q0_4;have q1_5:=cb b5 l4 q1_4;have qf0_5:=fb b5 l4 qf0_4;have qf1_5:=fb b5 l4 qf1_4)
         |(go_at_call 137;(with_reducible refine(CH _).mono ?_);rintro e w6 ⟨rfl,b6⟩))
        go_ret;refine⟨zl HV.out,?_⟩
        repeat (first|exact HBx|with_reducible refine ba ?_ _|with_reducible refine bs ?_ (by omega) _|with_reducible refine bd ?_|(with_reducible refine bt ?_ (by assumption)))
       ·have CH:=zat Q true (by omega) (by omega);rw[if_neg (by first|decide|simp),Int.add_zero]at hv;have HV:=za hv;clear hv
        go_wp2_with (first
         |(go_at_call 133;(with_reducible refine(CN _).mono ?_);rintro e w4 ⟨rfl,b4⟩;have l4:=Nat.lt_of_lt_of_le ql b4.size;have q0_4:=cb b4 ql q0;have q1_4:=cb b4 ql q1;have qf0_4:=fb b4 ql qf0;have qf1_4:=fb b4 ql qf1)
         |(go_at_call 137;(with_reducible refine(CH _).mono ?_);rintro e w6 ⟨rfl,b6⟩))
        go_ret;refine⟨zl HV.out,?_⟩
        repeat (first|exact HBx|with_reducible refine ba ?_ _|with_reducible refine bs ?_ (by omega) _|with_reducible refine bd ?_|(with_reducible refine bt ?_ (by assumption)))
       ·have CH:=zat (Q+1) false (by omega) (by omega);rw[if_pos (by decide)]at hv;have HV:=za hv;clear hv
        go_wp2_with (first
         |(go_at_call 133;(with_reducible refine(CN _).mono ?_);rintro e w4 ⟨rfl,b4⟩;have l4:=Nat.lt_of_lt_of_le ql b4.size;have q0_4:=cb b4 ql q0;have q1_4:=cb b4 ql q1;have qf0_4:=fb b4 ql qf0;have qf1_4:=fb b4 ql qf1)
         |(go_at_call 136;(with_reducible refine(CP _).mono ?_);rintro e w5 ⟨rfl,b5⟩;have l5:=Nat.lt_of_lt_of_le l4 b5.size;have q0_5:=cb b5 l4 q0_4;have q1_5:=cb b5 l4 q1_4;have qf0_5:=fb b5 l4 qf0_4;have qf1_5:=fb b5 l4 qf1_4)
         |(go_at_call 137;(with_reducible refine(CH _).mono ?_);rintro e w6 ⟨rfl,b6⟩))
        go_ret;refine⟨zl HV.out,?_⟩
        repeat (first|exact HBx|with_reducible refine ba ?_ _|with_reducible refine bs ?_ (by omega) _|with_reducible refine bd ?_|(with_reducible refine bt ?_ (by assumption)))
       ·have CH:=zat (Q+1) true (by omega) (by omega);rw[if_pos (by decide)]at hv;have HV:=za hv;clear hv
        go_wp2_with (first
         |(go_at_call 133;(with_reducible refine(CN _).mono ?_);rintro e w4 ⟨rfl,b4⟩;have l4:=Nat.lt_of_lt_of_le ql b4.size;have q0_4:=cb b4 ql q0;have q1_4:=cb b4 ql q1;have qf0_4:=fb b4 ql qf0;have qf1_4:=fb b4 ql qf1)
         |(go_at_call 136;(with_reducible refine(CP _).mono ?_);rintro e w5 ⟨rfl,b5⟩;have l5:=Nat.lt_of_lt_of_le l4 b5.size;have q0_5:=cb b5 l4 q0_4;have q1_5:=cb b5 l4 q1_4;have qf0_5:=fb b5 l4 qf0_4;have qf1_5:=fb b5 l4 qf1_4)
         |(go_at_call 137;(with_reducible refine(CH _).mono ?_);rintro e w6 ⟨rfl,b6⟩))
        go_ret;refine⟨zl HV.out,?_⟩
        repeat (first|exact HBx|with_reducible refine ba ?_ _|with_reducible refine bs ?_ (by omega) _|with_reducible refine bd ?_|(with_reducible refine bt ?_ (by assumption)))
      ·have hb0:zaR P N=0:=by have:=zfi P N;have:=zfs P N;omega
       rw[hb0]at CN;have eu:upB P N s=(false && (zdj P N || !s)):=by unfold upB;rw[hb0];rfl
       have hv:=HV.out;rw[eu]at hv;clear HV eu hb hb0;generalize zdj P N=m at *
       cases s
       ·have CH:=zat Q false (by omega) (by omega);rw[if_neg (by first|decide|simp),Int.add_zero]at hv;have HV:=za hv;clear hv
        go_wp2_with (first
         |(go_at_call 133;(with_reducible refine(CN _).mono ?_);rintro e w4 ⟨rfl,b4⟩;have l4:=Nat.lt_of_lt_of_le ql b4.size;have q0_4:=cb b4 ql q0;have q1_4:=cb b4 ql q1;have qf0_4:=fb b4 ql qf0;have qf1_4:=fb b4 ql qf1)
         |(go_at_call 137;(with_reducible refine(CH _).mono ?_);rintro e w6 ⟨rfl,b6⟩))
        go_ret;refine⟨zl HV.out,?_⟩
        repeat (first|exact HBx|with_reducible refine ba ?_ _|with_reducible refine bs ?_ (by omega) _|with_reducible refine bd ?_|(with_reducible refine bt ?_ (by assumption)))
       ·have CH:=zat Q true (by omega) (by omega);rw[if_neg (by first|decide|simp),Int.add_zero]at hv;have HV:=za hv;clear hv
        go_wp2_with (first
         |(go_at_call 133;(with_reducible refine(CN _).mono ?_);rintro e w4 ⟨rfl,b4⟩;have l4:=Nat.lt_of_lt_of_le ql b4.size;have q0_4:=cb b4 ql q0;have q1_4:=cb b4 ql q1;have qf0_4:=fb b4 ql qf0;have qf1_4:=fb b4 ql qf1)
         |(go_at_call 137;(with_reducible refine(CH _).mono ?_);rintro e w6 ⟨rfl,b6⟩))
        go_ret;refine⟨zl HV.out,?_⟩
        repeat (first|exact HBx|with_reducible refine ba ?_ _|with_reducible refine bs ?_ (by omega) _|with_reducible refine bd ?_|(with_reducible refine bt ?_ (by assumption)))
theorem zi3 (a b:Int):a*b=zb0 (zi a*zi b) (decide (a<0) != decide (b<0)):=by
 obtain⟨m1,m2,m3,m4⟩:=zgh a b;unfold zb0
 by_cases ha:a<0<;>by_cases hb:b<0
 ·rw[m1 ha hb,if_neg (by simp[ha,hb])]
 ·rw[m2 ha (by omega),if_pos (by simp[ha,hb])]
 ·rw[m3 (by omega) hb,if_pos (by simp[ha,hb])]
 ·rw[m4 (by omega) (by omega),if_neg (by simp[ha,hb])]
theorem zjt (a b n:Int) (h0 : -9223372036854775808<=a) (h1:a<=9223372036854775807) (k0 : -9223372036854775808<=b) (k1:b<=9223372036854775807) (w:World) :
  Calls Tryz.prog 246 #[.int .i64 a,.int .i64 b,.int .i64 n] w λe w'=>e=.returned (.int .i64 (zai a b n))/\Below w.heap.size w w':=by
 by_cases hg:127<n
 ·rw[show zai a b n=0 from if_pos hg];exact zit a b n hg w
 by_cases hs:n<=0
 ·rw[show zai a b n=zE (a*b) from(if_neg hg).trans (if_pos hs),zi3 a b];exact ziv a b n _ _ rfl rfl h0 h1 k0 k1 hs w
 obtain⟨N,rfl⟩:∃ N:Nat,n=(N:Int)+1:=⟨n.toNat-1,by omega⟩;refine zjF a b _ _ N _ ?_ rfl rfl h0 h1 k0 k1 (by omega) w;rw[←zuX,←zi3];unfold zai;rw[if_neg hg,if_neg hs,show((N:Int)+1).toNat=N+1 by omega]
theorem zsI {a b d:Int} (hd:d≠0) (s:Bool) (hs:((decide (a<0) != decide (b<0)) != decide (d<0))=s) :
  zaC (a*b) d=if s=true then -(zi a*zi b / zi d+if zi d<2*(zi a*zi b % zi d) then 1 else 0) else zi a*zi b / zi d+if zi d<=2*(zi a*zi b % zi d) then 1 else 0:=by
 subst hs;rw[zi3 a b];generalize zi a*zi b=P;generalize (decide (a<0) != decide (b<0))=t;have hp:0<zi d:=by unfold zi;split<;>omega
 unfold zaC
 by_cases h:d<0
 ·have e:zi d = -d:=zaS h;rw[if_pos h,←e]
  cases t
  ·rw[if_pos (by simp[h])];exact zeD hp
  ·rw[if_neg (by simp[h])]
   show(2*(- -P)+zi d) / (2*zi d)=_
   rw[Int.neg_neg];exact zeS hp
 ·have e:zi d=d:=zaJ (by omega);rw[if_neg h,e];rw[e]at hp
  cases t
  ·rw[if_neg (by simp[h])];exact zeS hp
  ·rw[if_pos (by simp[h])];exact zeD hp
theorem zjK (x d v:Int) (s:Bool) (hv:zE (if s=true then -(x / d+if d<2*(x % d) then 1 else 0) else x / d+if d<=2*(x % d) then 1 else 0)=v) (h0:0<=x) (h1:x<170141183460469231731687303715884105728) (d0:0<d) (d1:d<18446744073709551616) (w:World) :
  Calls Tryz.prog 215 #[.agg #[.int .u64 (hi x),.int .u64 (lo x)],.int .u64 d,.bool s] w λe w'=>e=.returned (.int .i64 v)/\Below w.heap.size w w':=by
 subst hv
 cases s
 ·rw[if_neg (by decide)];exact zqu x d h0 h1 d0 d1 w
 ·rw[if_pos rfl];exact zsv x d h0 h1 d0 d1 w
set_option maxHeartbeats 1000000 in
theorem zhs (a b d:Int) (h0 : -9223372036854775808<=a) (h1:a<=9223372036854775807) (k0 : -9223372036854775808<=b) (k1:b<=9223372036854775807) (d0 : -9223372036854775808<=d) (d1:d<=9223372036854775807) (w:World) :
  Calls Tryz.prog 180 #[.int .i64 a,.int .i64 b,.int .i64 d] w λe w'=>e=.returned (.int .i64 (zN (a*b) d))/\Below w.heap.size w w':=by
 by_cases hz:d=0
 ·subst hz;rw[zk1]
  go_enter Tryz.func180,Tryz.ntmps180
  go_wp2;go_ret;exact⟨rfl,Below.refl _ _⟩
 have dz:(d == 0)=false:=beq_eq_false_iff_ne.2 hz;rw[zck hz];have NB:=zsI (a:=a) (b:=b) hz _ rfl;have CA:=zb1 a h0 h1;have CB:=zb1 b k0 k1;have CS:=zb1 d d0 d1;have a1:zi a<=9223372036854775808:=zcu h0 (by omega);have b1:zi b<=9223372036854775808:=zcu k0 (by omega);have hp:0<zi d:=by unfold zi;split<;>omega
 have hq:zi d<=9223372036854775808:=zcu d0 (by omega);have CT:=zje (zi a) (zi b) _ rfl (za6 a) (by omega) (za6 b) (by omega);have pp:=zdM h0 h1 k0 k1;generalize zaC (a*b) d=V at *;generalize zi a*zi b=P at *;generalize zi d=D at *;have NB2:=za NB;clear NB;obtain⟨P0,P1⟩:=pp
 cases hta:decide (a<0)<;>cases htb:decide (b<0)<;>cases htd:decide (d<0)
 all_goals
  have nb:=NB2.out;rw[hta,htb,htd]at nb;clear NB2
  first|(change V=if false=true then _ else _ at nb;have CN:=zjK P D (zE V) false (by rw[nb]) P0 (by omega) hp (by omega))|(change V=if true=true then _ else _ at nb;have CN:=zjK P D (zE V) true (by rw[nb]) P0 (by omega) hp (by omega))
  clear nb hz hp hq P0 P1 a1 b1
  go_enter Tryz.func180,Tryz.ntmps180
  go_wp2_with (first
   |(go_at_call 132;(with_reducible refine(CA _).mono ?_);rintro e w' ⟨rfl,rfl⟩)
   |(go_at_call 132;(with_reducible refine(CB _).mono ?_);rintro e w' ⟨rfl,rfl⟩)
   |(go_at_call 214;(with_reducible refine(CT _).mono ?_);rintro e w1 ⟨rfl,b1⟩))
  have n0:=zdh w1 (.int .u64 (hi P)) (.int .u64 (lo P)) 202;have n1:=zcN w1 (.int .u64 (hi P)) (.int .u64 (lo P)) 202;have n2:=zbC w1 (.cells #[.int .u64 (hi P),.int .u64 (lo P)] 202)
  go_region_held3 (λw'=>w'.cell? ⟨w1.heap.size,0,none⟩=some (.int .u64 (hi P))/\w'.cell? ⟨w1.heap.size,1,none⟩=some (.int .u64 (lo P)))
   (first|exact⟨n0,n1⟩|exact⟨y0,y1⟩)
   (first
    |(go_at_call 132;(with_reducible refine(CS _).mono ?_);rintro e w' ⟨rfl,rfl⟩)
    |(go_at_call 215;(with_reducible refine(CN _).mono ?_);rintro e w2 ⟨rfl,b2⟩;have y0:=cb b2 n2 n0;have y1:=cb b2 n2 n1))
  all_goals go_wp2
  all_goals go_ret
  all_goals refine⟨rfl,?_⟩
  all_goals (repeat (first|exact Below.refl _ _|with_reducible refine ba ?_ _|with_reducible refine bs ?_ (by omega) _|with_reducible refine bd ?_|(with_reducible refine bt ?_ (by assumption))))
end Go.Proofs.YtlodkoimdoeopaaGreatDoor
