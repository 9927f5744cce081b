/- Parts, joined. -/
import Derived.Test.YtlodkoimdoeopaaGreatDoorP05
import Derived.Test.YtlodkoimdoeopaaGreatDoorP06
import Derived.Test.YtlodkoimdoeopaaGreatDoorP04
import Derived.Test.YtlodkoimdoeopaaGreatDoorP03
import Derived.Shelf.Small.Bits
import Derived.Deep.DeepCutAuto
import Derived.Deep.CutBlock
import Derived.Deep.RegionHeld3
namespace Go.Proofs.YtlodkoimdoeopaaGreatDoor
open Go.RowKit
def zup:Go.Shelf.Ren:=⟨fun|129=>243|134=>244|n=>n,fun|3=>3|4=>4|5=>5|9=>9|46=>199|53=>153|n=>n,fun|n=>n⟩
theorem zxj:Go.Proofs.Lays.n134 Tryz.prog zup:={
 mixed:=by kernel_rfl
 f129:=Tryz.func243.trans (congrArg some (by kernel_rfl))
 f134:=Tryz.func244.trans (congrArg some (by kernel_rfl))
 t3:=Tryz.underlying3
 a3:=Tryz.isAgg3
 z3:=Tryz.sizeOf3
 v3:=Tryz.zeroValue3
 t4:=Tryz.underlying4
 a4:=Tryz.isAgg4
 z4:=Tryz.sizeOf4
 v4:=Tryz.zeroValue4
 t5:=Tryz.underlying5
 a5:=Tryz.isAgg5
 z5:=Tryz.sizeOf5
 v5:=Tryz.zeroValue5
 t9:=Tryz.underlying9
 a9:=Tryz.isAgg9
 z9:=Tryz.sizeOf9
 v9:=Tryz.zeroValue9
 t46:=Tryz.underlying199
 a46:=Tryz.isAgg199
 z46:=Tryz.sizeOf199
 v46:=Tryz.zeroValue199
 t53:=Tryz.underlying153
 a53:=Tryz.isAgg153
 z53:=Tryz.sizeOf153
 v53:=Tryz.zeroValue153 }
theorem ztP (x:Int) (s:Nat) (hs:64-(Lib.bitLen x.toNat:Int)=s) (h0:0<=x) (h1:x<=18446744073709551615) (w:World) :
  Calls Tryz.prog 244 #[.int .u64 x] w λe w'=>e=.returned (.int .i64 s)/\w=w':=by
 rw[←hs];exact(Any.bits_LeadingZeros64 zxj x w h0 h1).mono λ_ _ ⟨he,hw⟩=>⟨he,hw.symm⟩
set_option maxRecDepth 100000 in
set_option maxHeartbeats 4000000 in
theorem zpY (h l d:Int) (h0:0<h) (hd:h<d) (l0:0<=l) (l1:l<18446744073709551616) (d1:d<=18446744073709551615):ziD h l d:=by
 intro w;have e1:(d == 0)=false:=beq_eq_false_iff_ne.2 (by omega);have e2:decide (d<=h)=false:=decide_eq_false (by omega);have e3:(h == 0)=false:=beq_eq_false_iff_ne.2 (by omega);obtain⟨s,hs,s1,n0,n1⟩:=zvi d (by omega) d1;have CZ:=ztP d s hs (by omega) (by omega);obtain⟨Y,a,c,U,t,v,v0,eY,ea,ec,eU,et,ev,ev0,C,ys,y1,u1,t0,w0,w1,fin⟩:=zsP (s:=s) (Int.le_of_lt h0) hd l0 l1 s1 n0 n1;have FIN:=za fin;have CC:=za C;have YS:=za ys;obtain⟨D0,DR⟩:=Dig.first C
 obtain⟨a0,a1,c0,c1,u0,u2,x0,x1⟩:=C;have ane:a≠0:=by omega
 clear hs fin ys n0 n1 u2
 go_enter Tryz.func228,Tryz.ntmps228
 go_upto_region 16 with(go_at_call 244;(with_reducible refine(CZ _).mono ?_);rintro e w' ⟨rfl,rfl⟩)
 have er:U-U / a*a=U % a:=by have:=D0.e;omega
 have pa0:0<=U / a*a:=Int.mul_nonneg (Int.ediv_nonneg u0 (by omega)) (by omega);have pa1:U / a*a<=U:=by have:=D0.r0;omega
 generalize U % a=r at *;generalize U / a=q at *;have D0:=za D0
 go_upto_block 0 with fail
 clear eY ea ec eU et ev ev0 er pa0 pa1
 go_cut [15] (λsq wx=>sq=.int .u64 (zde a c U v)/\w=wx)
 case first =>
  go_wp2_with fail
  go_loop [15,16] (λq r=>∃ q' r':Int,q=.int .u64 q'/\r=.int .u64 r'/\Dig a c U v q' r'/\r'<4294967296) (λq _=>(intOf q).toNat)
  case atStart=>exact⟨q,r,rfl,rfl,D0.out,DR⟩
  case round =>
   obtain⟨q',r',rfl,rfl,hD,hr⟩:=hrel;have HD:=za hD;have q0:0<=q':=by have:=(zbT CC.out).1;have:=hD.lo;omega
   have q1:=hD.hi;have r0:=hD.r0;have pr:=hD.prod CC.out;have gt1:4294967296<=q'->zde a c U v<q':=λh=>by have:=(zbT CC.out).2.1;omega
   have gt2:=hD.above CC.out;have st:=hD.stop CC.out;have be:=hD.below CC.out;clear hD
   by_cases hA:4294967296<=q'
   ·have GT:=za (gt1 hA);have p1:1<=q':=by have:=(zbT CC.out).1;have:=GT.out;omega
    by_cases hB:4294967296<=r'+a
    ·have E:=za (st GT.out hB);clear gt1 gt2 st be pr
     go_wp2_with fail
     go_meet;exact⟨by rw[E.out],rfl⟩
    ·clear gt1 gt2 st be pr
     go_wp2_with fail
     go_round
     case rel=>exact⟨q'-1,r'+a,rfl,rfl,HD.out.next CC.out GT.out,by omega⟩
     case measure=>simp[intOf];have:=(zbT CC.out).1;have:=GT.out;omega
   ·obtain⟨m0,m1⟩:=pr (by omega)
    by_cases hC:4294967296*r'+v<q'*c
    ·have dC:decide (4294967296*r'+v<q'*c)=true:=decide_eq_true hC;have GT:=za (gt2 hC);have p1:1<=q':=by have:=(zbT CC.out).1;have:=GT.out;omega
     by_cases hB:4294967296<=r'+a
     ·have E:=za (st GT.out hB);clear gt1 gt2 st be pr
      go_wp2_with fail
      go_meet;exact⟨by rw[E.out],rfl⟩
     ·clear gt1 gt2 st be pr
      go_wp2_with fail
      go_round
      case rel=>exact⟨q'-1,r'+a,rfl,rfl,HD.out.next CC.out GT.out,by omega⟩
      case measure=>simp[intOf];have:=(zbT CC.out).1;have:=GT.out;omega
    ·have dC:decide (4294967296*r'+v<q'*c)=false:=decide_eq_false hC;have E:=za (be (by omega));clear gt1 gt2 st be hC
     go_wp2_with fail
     go_meet;exact⟨by rw[E.out],rfl⟩
 case rest =>
  obtain⟨rfl,rfl⟩:=hcut;clear D0 DR;have DI:=zbT CC.out;have DE:=ztS a c U v;rw[←YS.out]at DI DE;generalize zde a c U v=q1 at *;generalize zmD a c U v=R1 at *;obtain⟨q1a,q1b,R1a,R1b⟩:=DI;have e21:IntKind.u64.wrap (IntKind.u64.wrap (IntKind.u64.wrap (U*4294967296)+v)-IntKind.u64.wrap (q1*Y))=R1:=by
   rw[Int.mul_comm q1 Y];simp only[IntKind.wrap_u64];omega
  have DE1:=za DE;have C2:=za (show DigC a c R1 v0 from⟨a0,a1,c0,c1,R1a,by have:=YS.out;omega,w0,w1⟩);obtain⟨D2,DS⟩:=Dig.first C2.out
  have er:R1-R1 / a*a=R1 % a:=by have:=D2.e;omega
  have pa0:0<=R1 / a*a:=Int.mul_nonneg (Int.ediv_nonneg R1a (by omega)) (by omega);have pa1:R1 / a*a<=R1:=by have:=D2.r0;omega
  have D2:=za D2;clear DE CC
  go_upto_block 2 with fail
  clear er pa0 pa1 e21;generalize R1 % a=rr at *;generalize R1 / a=qq at *
  go_cut [18] (λsq wx=>sq=.int .u64 (zde a c R1 v0)/\w=wx)
  case first =>
   go_wp2_with fail
   go_loop [18,16] (λq r=>∃ q' r':Int,q=.int .u64 q'/\r=.int .u64 r'/\Dig a c R1 v0 q' r'/\r'<4294967296) (λq _=>(intOf q).toNat)
   case atStart=>exact⟨qq,rr,rfl,rfl,D2.out,DS⟩
   case round =>
    obtain⟨q',r',rfl,rfl,hD,hr⟩:=hrel;have HD:=za hD;have q0:0<=q':=by have:=(zbT C2.out).1;have:=hD.lo;omega
    have q1:=hD.hi;have r0:=hD.r0;have pr:=hD.prod C2.out;have gt1:4294967296<=q'->zde a c R1 v0<q':=λh=>by have:=(zbT C2.out).2.1;omega
    have gt2:=hD.above C2.out;have st:=hD.stop C2.out;have be:=hD.below C2.out;clear hD
    by_cases hA:4294967296<=q'
    ·have GT:=za (gt1 hA);have p1:1<=q':=by have:=(zbT C2.out).1;have:=GT.out;omega
     by_cases hB:4294967296<=r'+a
     ·have E:=za (st GT.out hB);clear gt1 gt2 st be pr
      go_wp2_with fail
      go_meet;exact⟨by rw[E.out],rfl⟩
     ·clear gt1 gt2 st be pr
      go_wp2_with fail
      go_round
      case rel=>exact⟨q'-1,r'+a,rfl,rfl,HD.out.next C2.out GT.out,by omega⟩
      case measure=>simp[intOf];have:=(zbT C2.out).1;have:=GT.out;omega
    ·obtain⟨m0,m1⟩:=pr (by omega)
     by_cases hC:4294967296*r'+v0<q'*c
     ·have dC:decide (4294967296*r'+v0<q'*c)=true:=decide_eq_true hC;have GT:=za (gt2 hC);have p1:1<=q':=by have:=(zbT C2.out).1;have:=GT.out;omega
      by_cases hB:4294967296<=r'+a
      ·have E:=za (st GT.out hB);clear gt1 gt2 st be pr
       go_wp2_with fail
       go_meet;exact⟨by rw[E.out],rfl⟩
      ·clear gt1 gt2 st be pr
       go_wp2_with fail
       go_round
       case rel=>exact⟨q'-1,r'+a,rfl,rfl,HD.out.next C2.out GT.out,by omega⟩
       case measure=>simp[intOf];have:=(zbT C2.out).1;have:=GT.out;omega
     ·have dC:decide (4294967296*r'+v0<q'*c)=false:=decide_eq_false hC;have E:=za (be (by omega));clear gt1 gt2 st be hC
      go_wp2_with fail
      go_meet;exact⟨by rw[E.out],rfl⟩
  case rest =>
   obtain⟨rfl,rfl⟩:=hcut;clear D2 DS;have DJ:=zbT C2.out;have DF:=ztS a c R1 v0;rw[←YS.out]at DJ DF;generalize zde a c R1 v0=q2 at *;generalize zmD a c R1 v0=R0 at *;obtain⟨q2a,q2b,R0a,R0b⟩:=DJ;have e28:IntKind.u64.wrap (IntKind.u64.wrap (IntKind.u64.wrap (R1*4294967296)+v0)-IntKind.u64.wrap (q2*Y))=R0:=by
    rw[Int.mul_comm q2 Y];simp only[IntKind.wrap_u64];omega
   obtain⟨f1,f2⟩:=FIN.out q1 q2 R1 R0 DE1.out DF R0a R0b;have F1:=za f1;have F2:=za f2;clear f1 f2 DF;go_wp2
   go_ret2
   rw[F1.out,F2.out];exact⟨rfl,Below.refl _ _⟩
theorem ziM (a b d:Int) (h0 : -9223372036854775808<=a) (h1:a<=9223372036854775807) (k0 : -9223372036854775808<=b) (k1:b<=9223372036854775807) (d0 : -9223372036854775808<=d) (d1:d<=9223372036854775807) (w:World) :
  Calls Tryz.prog 173 #[.int .i64 a,.int .i64 b,.int .i64 d] w λe w'=>e=.returned (.int .i64 (zM (a*b) d))/\Below w.heap.size w w':=by
 refine zqx a b d h0 h1 k0 k1 d0 d1 (λhz=>?_) w;have hp:0<zi d:=by unfold zi;split<;>omega
 have hq:zi d<=9223372036854775808:=zcs d0 (by omega);have r:=za1 (x:=hi (zi (a*b))) hp
 by_cases h:hi (zi (a*b)) % zi d=0
 ·rw[h];exact zrp _ _ (lo0 _) (lo1 _) hp (by omega)
 ·exact zpY _ _ _ (by omega) r.2 (lo0 _) (lo1 _) (by omega)
theorem zej (a b d v:Int) (hv:zM (a*b) d=v) (h0 : -9223372036854775808<=a) (h1:a<=9223372036854775807) (k0 : -9223372036854775808<=b) (k1:b<=9223372036854775807) (d0 : -9223372036854775808<=d) (d1:d<=9223372036854775807) (w:World) :
  Calls Tryz.prog 173 #[.int .i64 a,.int .i64 b,.int .i64 d] w λe w'=>e=.returned (.int .i64 v)/\Below w.heap.size w w':=by
 subst hv;exact ziM a b d h0 h1 k0 k1 d0 d1 w
structure PQAt (W w:World) (p q:Nat) (X Z:Int):Prop where
 x:BigAt w p X
 z:BigAt w q Z
 hb:Below W.heap.size W w
theorem PQAt.below {W w w1:World} {p q:Nat} {X Z:Int} (h:PQAt W w p q X Z) (hb:Below w.heap.size w w1):PQAt W w1 p q X Z:=⟨h.x.below hb,h.z.below hb,bt h.hb hb⟩
theorem PQAt.drew {W w:World} {p q:Nat} {X Z:Int} (h:PQAt W w p q X Z):PQAt W w.drew p q X Z:=⟨h.x.drew,h.z.drew,h.hb.drew⟩
theorem PQAt.setZ {W w:World} {p q:Nat} {X Z:Int} (Z':Int) (h:PQAt W w p q X Z) (hq:W.heap.size<=q) (hne:p≠q) :
  PQAt W ((w.setCell ⟨q,0,none⟩ (.int .u64 (hi Z'))).setCell ⟨q,1,none⟩ (.int .u64 (lo Z'))) p q X Z':=⟨h.x.far (Ne.symm hne),h.z.set Z',bs (bs h.hb hq _) hq _⟩
theorem PQAt.start {W w:World} {X:Int} {t:TypeId} (hb:Below W.heap.size W w) (X0:0<=X) (X1:X<340282366920938463463374607431768211456) :
  PQAt W ((w.alloc (.cells #[.int .u64 (hi X),.int .u64 (lo X)] t)).alloc (.cells #[.int .u64 0,.int .u64 0] t)) w.heap.size (w.heap.size+1) X (X / 2 ^ 128):=by
 refine⟨(BigAt.new w rfl rfl _).alloc _,?_,ba (ba hb _) _⟩;rw[ze0 X0 X1];have h:=BigAt.new (w.alloc (.cells #[.int .u64 (hi X),.int .u64 (lo X)] t)) (h:=0) (l:=0) (X:=0) rfl rfl t
 simpa using h
def zdb (P:Int) (j:Nat):Bool:=decide (P % 2 ^ j≠0)
theorem zsY (P:Int):zdb P 0=false:=by unfold zdb;simp
theorem zst (P:Int) (j:Nat):zdb P (j+1)=(zdb P j || (zaS P j == 1)):=by
 have e:P % 2 ^ (j+1)=P % 2 ^ j+2 ^ j*zaS P j:=by
  have h1:=Int.mul_ediv_add_emod P (2 ^ (j+1));have h2:=Int.mul_ediv_add_emod P (2 ^ j);have h3:=zd3 P j;have h4:(2:Int) ^ (j+1)*(P / 2 ^ (j+1))=2 ^ j*(2*(P / 2 ^ (j+1))):=by rw[Int.pow_succ,Int.mul_assoc]
  rw[h3,Int.mul_add]at h2;omega
 have p:=zK j;have r:=za1 (x:=P) p;have b0:=zfs P j;have b1:=zfp P j;unfold zdb;rw[e]
 by_cases hb:zaS P j=1
 ·rw[hb,Int.mul_one]
  simp
  omega
 ·have hb0:zaS P j=0:=by omega
  rw[hb0,Int.mul_zero,Int.add_zero]
  simp
def upB (P:Int) (N:Nat) (s:Bool):Bool:=(zaS P N == 1) && (zdb P N || !s)
theorem zuW (P:Int) (N:Nat) (s:Bool):zaz (zbU P s) (2 ^ (N+1))=zbU (P / 2 ^ (N+1)+if upB P N s=true then 1 else 0) s:=by
 rw[zg9];have p:=zK N;have h:=zd3 P N;have b0:=zfs P N;have b1:=zfp P N
 cases s
 ·show(P / 2 ^ N+1) / 2=P / 2 ^ (N+1)+_
  unfold upB
  by_cases hb:zaS P N=1
  ·rw[if_pos (by simp[hb])];omega
  ·rw[if_neg (by simp[hb])];omega
 ·show(-P / 2 ^ N+1) / 2 = -(P / 2 ^ (N+1)+_)
  have f:=zc6 (a:=P) p;have r:=za1 (x:=P) p;unfold upB zdb
  by_cases hb:zaS P N=1
  ·by_cases hm:P % 2 ^ N=0
   ·rw[if_neg (by omega)]at f;rw[if_neg (by simp[hm])];omega
   ·rw[if_pos (by omega)]at f;rw[if_pos (by simp[hb,hm])];omega
  ·rw[if_neg (by simp[hb])]
   split at f<;>omega
theorem ziJ (a b n:Int) (h:127<n) (w:World) :
  Calls Tryz.prog 246 #[.int .i64 a,.int .i64 b,.int .i64 n] w λe w'=>e=.returned (.int .i64 0)/\Below w.heap.size w w':=by
 go_enter Tryz.func246,Tryz.ntmps246
 go_wp2;go_ret;exact⟨rfl,Below.refl _ _⟩
theorem ziK (a b n P:Int) (s:Bool) (hP:zi a*zi b=P) (hs:(decide (a<0) != decide (b<0))=s) (h0 : -9223372036854775808<=a) (h1:a<=9223372036854775807) (k0 : -9223372036854775808<=b) (k1:b<=9223372036854775807) (h:n<=0) (w:World) :
  Calls Tryz.prog 246 #[.int .i64 a,.int .i64 b,.int .i64 n] w λe w'=>e=.returned (.int .i64 (zE (zbU P s)))/\Below w.heap.size w w':=by
 have CA:=zb3 a h0 h1;have CB:=zb3 b k0 k1;have a1:zi a<=9223372036854775808:=zcs h0 (by omega);have b1:zi b<=9223372036854775808:=zcs k0 (by omega);have CT:=zjb (zi a) (zi b) P hP (zbc a) (by omega) (zbc b) (by omega);have pp:=zdE h0 h1 k0 k1;rw[hP]at pp;have CH:=zav P s pp.1 (by omega);have HS:=za hs;clear hs hP pp a1 b1
 by_cases hn:n<0
 ·have t1:decide (n<0)=true:=decide_eq_true hn;clear h hn
  cases hta:decide (a<0)<;>cases htb:decide (b<0)
  all_goals
   have hst:=HS.out;rw[hta,htb]at hst
   first|(change false=s at hst)|(change true=s at hst)
   subst hst;clear HS
   go_enter Tryz.func246,Tryz.ntmps246
   go_wp2_with (first
    |(go_at_call 132;(with_reducible refine(CA _).mono ?_);rintro e w' ⟨rfl,rfl⟩)
    |(go_at_call 132;(with_reducible refine(CB _).mono ?_);rintro e w' ⟨rfl,rfl⟩)
    |(go_at_call 214;(with_reducible refine(CT _).mono ?_);rintro e w1 ⟨rfl,b1⟩)
    |(go_at_call 137;(with_reducible refine(CH _).mono ?_);rintro e w2 ⟨rfl,b2⟩))
   go_ret;refine⟨rfl,?_⟩
   repeat (first|exact Below.refl _ _|with_reducible refine ba ?_ _|with_reducible refine bs ?_ (by omega) _|with_reducible refine bd ?_|(with_reducible refine bt ?_ (by assumption)))
 ·obtain rfl:n=0:=by omega
  clear h hn
  cases hta:decide (a<0)<;>cases htb:decide (b<0)
  all_goals
   have hst:=HS.out;rw[hta,htb]at hst
   first|(change false=s at hst)|(change true=s at hst)
   subst hst;clear HS
   go_enter Tryz.func246,Tryz.ntmps246
   go_wp2_with (first
    |(go_at_call 132;(with_reducible refine(CA _).mono ?_);rintro e w' ⟨rfl,rfl⟩)
    |(go_at_call 132;(with_reducible refine(CB _).mono ?_);rintro e w' ⟨rfl,rfl⟩)
    |(go_at_call 214;(with_reducible refine(CT _).mono ?_);rintro e w1 ⟨rfl,b1⟩)
    |(go_at_call 137;(with_reducible refine(CH _).mono ?_);rintro e w2 ⟨rfl,b2⟩))
   go_ret;refine⟨rfl,?_⟩
   repeat (first|exact Below.refl _ _|with_reducible refine ba ?_ _|with_reducible refine bs ?_ (by omega) _|with_reducible refine bd ?_|(with_reducible refine bt ?_ (by assumption)))
set_option maxRecDepth 100000 in
set_option maxHeartbeats 4000000 in
theorem zj6 (a b P v:Int) (N:Nat) (s:Bool) (hv:zE (zbU (P / 2 ^ (N+1)+if upB P N s=true then 1 else 0) s)=v) (hP:zi a*zi b=P) (hs:(decide (a<0) != decide (b<0))=s) (h0 : -9223372036854775808<=a) (h1:a<=9223372036854775807) (k0 : -9223372036854775808<=b) (k1:b<=9223372036854775807) (hN:N<=126) (w:World) :
  Calls Tryz.prog 246 #[.int .i64 a,.int .i64 b,.int .i64 ((N:Int)+1)] w λe w'=>e=.returned (.int .i64 v)/\Below w.heap.size w w':=by
 have CA:=zb3 a h0 h1;have CB:=zb3 b k0 k1;have a1:zi a<=9223372036854775808:=zcs h0 (by omega);have b1:zi b<=9223372036854775808:=zcs k0 (by omega);have CT:=zjb (zi a) (zi b) P hP (zbc a) (by omega) (zbc b) (by omega);have pp:=zdE h0 h1 k0 k1;rw[hP]at pp;obtain⟨P0,P1⟩:=pp;have HS:=za hs;have HV:=za hv;clear hv;clear hs hP a1 b1;have t1:decide ((N:Int)+1<0)=false:=decide_eq_false (by omega);have t2:decide ((127:Int)<(N:Int)+1)=false:=decide_eq_false (by omega);have t3:((N:Int)+1 == 0)=false:=beq_eq_false_iff_ne.2 (by omega)
 go_enter Tryz.func246,Tryz.ntmps246
 go_upto_region 5 with(fail)
 go_cut [7] (λs7 wx=>s7=.bool s/\w=wx)
 case first =>
  cases hta:decide (a<0)<;>cases htb:decide (b<0)
  all_goals
   have hst:=HS.out;rw[hta,htb]at hst
   first|(change false=s at hst)|(change true=s at hst)
   subst hst;clear HS
   go_wp2_with fail
   go_meet;exact⟨rfl,rfl⟩
 case rest =>
  obtain⟨rfl,rfl⟩:=hcut;clear HS
  go_wp2_with (first
   |(go_at_call 132;(with_reducible refine(CA _).mono ?_);rintro e w' ⟨rfl,rfl⟩)
   |(go_at_call 132;(with_reducible refine(CB _).mono ?_);rintro e w' ⟨rfl,rfl⟩)
   |(go_at_call 214;(with_reducible refine(CT _).mono ?_);rintro e w1 ⟨rfl,b1⟩))
  have zs:=b1.size;have B1:=za b1;clear b1 CA CB CT
  go_loopw [10] (λi wq=>∃ j:Nat,N+1<=j/\j<=128/\i=.int .i64 ((j:Int)-1)/\PQAt w wq w1.heap.size (w1.heap.size+1) P (P / 2 ^ j)) (λi _=>(intOf i+1).toNat)
  case atStart=>exact⟨128,by omega,by omega,rfl,PQAt.start B1.out P0 (by omega)⟩
  case round =>
   obtain⟨j,hj0,hj1,rfl,hst⟩:=hrel;have ST:=za hst
   by_cases hlt:N+1<j
   ·obtain⟨k,rfl⟩:∃ k,j=k+1:=⟨j-1,by omega⟩;have ek:((k+1:Nat):Int)-1=(k:Int):=by omega
    rw[ek];clear ek;have Q0:0<=P / 2 ^ (k+1):=Int.ediv_nonneg P0 (Int.le_of_lt (zK _));have Q1:=zf4 k P0 (show P<340282366920938463463374607431768211456 by omega);have CB:=zfI P k P0 (by omega) (by omega);have CT:=zei (P / 2 ^ (k+1)) (zaS P k) Q0 Q1 (zfs P k) (zfp P k);rw[←zd3]at CT;obtain⟨⟨m0,m1,-,-,ml⟩,⟨q0,q1,qf0,qf1,ql⟩,-⟩:=hst;clear Q0 Q1;go_wp2
    go_region_with
     (first
      |(go_at_call 133;refine(CB _).mono ?_;rintro e w2 ⟨rfl,hb1⟩;have s0:=cb hb1 ql q0;have s1:=cb hb1 ql q1)
      |(go_at_call 131;refine(CT _).mono ?_;rintro e w3 ⟨rfl,hb2⟩;have z1:=Nat.lt_of_lt_of_le ql hb1.size;have s2:=cb hb2 z1 s0;have s3:=cb hb2 z1 s1;have t2:=fb hb2 z1 (fb hb1 ql qf0);have t3:=fb hb2 z1 (fb hb1 ql qf1)))
    all_goals
     go_wp2
     go_roundw
     case rel=>exact⟨k,by omega,by omega,rfl,((ST.out.drew.below hb1).below hb2).setZ _ (by omega) (by omega)⟩
     case measure=>simp[intOf]
   ·obtain rfl:j=N+1:=by omega
    have ek:((N+1:Nat):Int)-1=(N:Int):=by omega
    rw[ek];clear ek hj0 hj1 hlt hst;go_wp2;have S2:=za ST.out;clear ST
    go_loopw [11,45] (λm i wq=>∃ j:Nat,j<=N/\i=.int .i64 j/\m=.bool (zdb P j)/\PQAt w wq w1.heap.size (w1.heap.size+1) P (P / 2 ^ (N+1))) (λ_ i _=>N-(intOf i).toNat)
    case atStart=>exact⟨0,by omega,rfl,by rw[zsY],S2.out⟩
    case round =>
     obtain⟨j,hj,rfl,rfl,hst⟩:=hrel;have ST:=za hst;obtain⟨⟨m0,m1,-,-,ml⟩,⟨q0,q1,qf0,qf1,ql⟩,HBx⟩:=hst;clear S2
     by_cases hlt:j<N
     ·clear HBx;have ss:=zst P j
      by_cases hm:zdb P j=true
      ·rw[hm]at ss ⊢;have SS:=za ss;clear ss hm;go_wp2
       go_roundw
       case rel=>exact⟨j+1,by omega,by go_num,by rw[SS.out];rfl,ST.out⟩
       case measure=>simp[intOf];omega
      ·have hm':zdb P j=false:=by simpa using hm
       rw[hm']at ss ⊢;have CB:=zfI P j P0 (by omega) (by omega)
       by_cases hb:zaS P j=1
       ·rw[hb]at CB ss;have SS:=za ss;clear ss hm hm' hb
        go_wp2_with (go_at_call 133;(with_reducible refine(CB _).mono ?_);rintro e w4 ⟨rfl,b4⟩)
        go_roundw
        case rel=>exact⟨j+1,by omega,by go_num,by rw[SS.out];rfl,ST.out.below b4⟩
        case measure=>simp[intOf];omega
       ·have hb0:zaS P j=0:=by have:=zfs P j;have:=zfp P j;omega
        rw[hb0]at CB ss;have SS:=za ss;clear ss hm hm' hb hb0
        go_wp2_with (go_at_call 133;(with_reducible refine(CB _).mono ?_);rintro e w4 ⟨rfl,b4⟩)
        go_roundw
        case rel=>exact⟨j+1,by omega,by go_num,by rw[SS.out];rfl,ST.out.below b4⟩
        case measure=>simp[intOf];omega
     ·obtain rfl:N=j:=by omega
      clear hlt ST;have CN:=zfI P N P0 (by omega) (by omega);have QQ:=zcn P0 (zK (N+1));have hv0:=HV.out;clear HV;generalize P / 2 ^ (N+1)=Q at *;have HV:=za hv0;clear hv0;obtain⟨QQ0,QQ1⟩:=QQ;have CP:=zd6 Q QQ0 (by omega)
      by_cases hb:zaS P N=1
      ·rw[hb]at CN;have eu:upB P N s=(true && (zdb P N || !s)):=by unfold upB;rw[hb];rfl
       have hv:=HV.out;rw[eu]at hv;clear HV eu hb;generalize zdb P N=m at *
       cases m<;>cases s
       ·have CH:=zav (Q+1) false (by omega) (by omega);rw[if_pos (by decide)]at hv;have HV:=za hv;clear hv
        go_wp2_with (first
         |(go_at_call 133;(with_reducible refine(CN _).mono ?_);rintro e w4 ⟨rfl,b4⟩;have l4:=Nat.lt_of_lt_of_le ql b4.size;have q0_4:=cb b4 ql q0;have q1_4:=cb b4 ql q1;have qf0_4:=fb b4 ql qf0;have qf1_4:=fb b4 ql qf1)
         |(go_at_call 136;(with_reducible refine(CP _).mono ?_);rintro e w5 ⟨rfl,b5⟩;have l5:=Nat.lt_of_lt_of_le l4 b5.size;have q0_5:=cb b5 l4 q0_4;have q1_5:=cb b5 l4 q1_4;have qf0_5:=fb b5 l4 qf0_4;have qf1_5:=fb b5 l4 qf1_4)
         |(go_at_call 137;(with_reducible refine(CH _).mono ?_);rintro e w6 ⟨rfl,b6⟩))
        go_ret;refine⟨zm HV.out,?_⟩
        repeat (first|exact HBx|with_reducible refine ba ?_ _|with_reducible refine bs ?_ (by omega) _|with_reducible refine bd ?_|(with_reducible refine bt ?_ (by assumption)))
       ·have CH:=zav Q true (by omega) (by omega);rw[if_neg (by first|decide|simp),Int.add_zero]at hv;have HV:=za hv;clear hv
        go_wp2_with (first
         |(go_at_call 133;(with_reducible refine(CN _).mono ?_);rintro e w4 ⟨rfl,b4⟩;have l4:=Nat.lt_of_lt_of_le ql b4.size;have q0_4:=cb b4 ql q0;have q1_4:=cb b4 ql q1;have qf0_4:=fb b4 ql qf0;have qf1_4:=fb b4 ql qf1)
         |(go_at_call 137;(with_reducible refine(CH _).mono ?_);rintro e w6 ⟨rfl,b6⟩))
        go_ret;refine⟨zm HV.out,?_⟩
        repeat (first|exact HBx|with_reducible refine ba ?_ _|with_reducible refine bs ?_ (by omega) _|with_reducible refine bd ?_|(with_reducible refine bt ?_ (by assumption)))
       ·have CH:=zav (Q+1) false (by omega) (by omega);rw[if_pos (by decide)]at hv;have HV:=za hv;clear hv
        go_wp2_with (first
         |(go_at_call 133;(with_reducible refine(CN _).mono ?_);rintro e w4 ⟨rfl,b4⟩;have l4:=Nat.lt_of_lt_of_le ql b4.size;have q0_4:=cb b4 ql q0;have q1_4:=cb b4 ql q1;have qf0_4:=fb b4 ql qf0;have qf1_4:=fb b4 ql qf1)
         |(go_at_call 136;(with_reducible refine(CP _).mono ?_);rintro e w5 ⟨rfl,b5⟩;have l5:=Nat.lt_of_lt_of_le l4 b5.size;have q0_5:=cb b5 l4 q0_4;have q1_5:=cb b5 l4 q1_4;have qf0_5:=fb b5 l4 qf0_4;have qf1_5:=fb b5 l4 qf1_4)
         |(go_at_call 137;(with_reducible refine(CH _).mono ?_);rintro e w6 ⟨rfl,b6⟩))
        go_ret;refine⟨zm HV.out,?_⟩
        repeat (first|exact HBx|with_reducible refine ba ?_ _|with_reducible refine bs ?_ (by omega) _|with_reducible refine bd ?_|(with_reducible refine bt ?_ (by assumption)))
       ·have CH:=zav (Q+1) true (by omega) (by omega);rw[if_pos (by decide)]at hv;have HV:=za hv;clear hv
        go_wp2_with (first
         |(go_at_call 133;(with_reducible refine(CN _).mono ?_);rintro e w4 ⟨rfl,b4⟩;have l4:=Nat.lt_of_lt_of_le ql b4.size;have q0_4:=cb b4 ql q0;have q1_4:=cb b4 ql q1;have qf0_4:=fb b4 ql qf0;have qf1_4:=fb b4 ql qf1)
         |(go_at_call 136;(with_reducible refine(CP _).mono ?_);rintro e w5 ⟨rfl,b5⟩;have l5:=Nat.lt_of_lt_of_le l4 b5.size;have q0_5:=cb b5 l4 q0_4;have q1_5:=cb b5 l4 q1_4;have qf0_5:=fb b5 l4 qf0_4;have qf1_5:=fb b5 l4 qf1_4)
         |(go_at_call 137;(with_reducible refine(CH _).mono ?_);rintro e w6 ⟨rfl,b6⟩))
        go_ret;refine⟨zm HV.out,?_⟩
        repeat (first|exact HBx|with_reducible refine ba ?_ _|with_reducible refine bs ?_ (by omega) _|with_reducible refine bd ?_|(with_reducible refine bt ?_ (by assumption)))
      ·have hb0:zaS P N=0:=by have:=zfs P N;have:=zfp P N;omega
       rw[hb0]at CN;have eu:upB P N s=(false && (zdb P N || !s)):=by unfold upB;rw[hb0];rfl
       have hv:=HV.out;rw[eu]at hv;clear HV eu hb hb0;generalize zdb P N=m at *
       cases s
       ·have CH:=zav Q false (by omega) (by omega);rw[if_neg (by first|decide|simp),Int.add_zero]at hv;have HV:=za hv;clear hv
        go_wp2_with (first
         |(go_at_call 133;(with_reducible refine(CN _).mono ?_);rintro e w4 ⟨rfl,b4⟩;have l4:=Nat.lt_of_lt_of_le ql b4.size;have q0_4:=cb b4 ql q0;have q1_4:=cb b4 ql q1;have qf0_4:=fb b4 ql qf0;have qf1_4:=fb b4 ql qf1)
         |(go_at_call 137;(with_reducible refine(CH _).mono ?_);rintro e w6 ⟨rfl,b6⟩))
        go_ret;refine⟨zm HV.out,?_⟩
        repeat (first|exact HBx|with_reducible refine ba ?_ _|with_reducible refine bs ?_ (by omega) _|with_reducible refine bd ?_|(with_reducible refine bt ?_ (by assumption)))
       ·have CH:=zav Q true (by omega) (by omega);rw[if_neg (by first|decide|simp),Int.add_zero]at hv;have HV:=za hv;clear hv
        go_wp2_with (first
         |(go_at_call 133;(with_reducible refine(CN _).mono ?_);rintro e w4 ⟨rfl,b4⟩;have l4:=Nat.lt_of_lt_of_le ql b4.size;have q0_4:=cb b4 ql q0;have q1_4:=cb b4 ql q1;have qf0_4:=fb b4 ql qf0;have qf1_4:=fb b4 ql qf1)
         |(go_at_call 137;(with_reducible refine(CH _).mono ?_);rintro e w6 ⟨rfl,b6⟩))
        go_ret;refine⟨zm HV.out,?_⟩
        repeat (first|exact HBx|with_reducible refine ba ?_ _|with_reducible refine bs ?_ (by omega) _|with_reducible refine bd ?_|(with_reducible refine bt ?_ (by assumption)))
theorem zjo (a b:Int):a*b=zbU (zi a*zi b) (decide (a<0) != decide (b<0)):=by
 obtain⟨m1,m2,m3,m4⟩:=zgo a b;unfold zbU
 by_cases ha:a<0<;>by_cases hb:b<0
 ·rw[m1 ha hb,if_neg (by simp[ha,hb])]
 ·rw[m2 ha (by omega),if_pos (by simp[ha,hb])]
 ·rw[m3 (by omega) hb,if_pos (by simp[ha,hb])]
 ·rw[m4 (by omega) (by omega),if_neg (by simp[ha,hb])]
theorem zkf (a b n:Int) (h0 : -9223372036854775808<=a) (h1:a<=9223372036854775807) (k0 : -9223372036854775808<=b) (k1:b<=9223372036854775807) (w:World) :
  Calls Tryz.prog 246 #[.int .i64 a,.int .i64 b,.int .i64 n] w λe w'=>e=.returned (.int .i64 (zal a b n))/\Below w.heap.size w w':=by
 by_cases hg:127<n
 ·rw[show zal a b n=0 from if_pos hg];exact ziJ a b n hg w
 by_cases hs:n<=0
 ·rw[show zal a b n=zE (a*b) from(if_neg hg).trans (if_pos hs),zjo a b];exact ziK a b n _ _ rfl rfl h0 h1 k0 k1 hs w
 obtain⟨N,rfl⟩:∃ N:Nat,n=(N:Int)+1:=⟨n.toNat-1,by omega⟩;refine zj6 a b _ _ N _ ?_ rfl rfl h0 h1 k0 k1 (by omega) w;rw[←zuW,←zjo];unfold zal;rw[if_neg hg,if_neg hs,show((N:Int)+1).toNat=N+1 by omega]
theorem zsD {a b d:Int} (hd:d≠0) (s:Bool) (hs:((decide (a<0) != decide (b<0)) != decide (d<0))=s) :
  zaz (a*b) d=if s=true then -(zi a*zi b / zi d+if zi d<2*(zi a*zi b % zi d) then 1 else 0) else zi a*zi b / zi d+if zi d<=2*(zi a*zi b % zi d) then 1 else 0:=by
 subst hs;rw[zjo a b];generalize zi a*zi b=P;generalize (decide (a<0) != decide (b<0))=t;have hp:0<zi d:=by unfold zi;split<;>omega
 unfold zaz
 by_cases h:d<0
 ·have e:zi d = -d:=zaU h;rw[if_pos h,←e]
  cases t
  ·rw[if_pos (by simp[h])];exact zen hp
  ·rw[if_neg (by simp[h])]
   show(2*(- -P)+zi d) / (2*zi d)=_
   rw[Int.neg_neg];exact zeQ hp
 ·have e:zi d=d:=zaG (by omega);rw[if_neg h,e];rw[e]at hp
  cases t
  ·rw[if_neg (by simp[h])];exact zeQ hp
  ·rw[if_pos (by simp[h])];exact zen hp
theorem zjI (x d v:Int) (s:Bool) (hv:zE (if s=true then -(x / d+if d<2*(x % d) then 1 else 0) else x / d+if d<=2*(x % d) then 1 else 0)=v) (h0:0<=x) (h1:x<170141183460469231731687303715884105728) (d0:0<d) (d1:d<18446744073709551616) (w:World) :
  Calls Tryz.prog 215 #[.agg #[.int .u64 (hi x),.int .u64 (lo x)],.int .u64 d,.bool s] w λe w'=>e=.returned (.int .i64 v)/\Below w.heap.size w w':=by
 subst hv
 cases s
 ·rw[if_neg (by decide)];exact zrk x d h0 h1 d0 d1 w
 ·rw[if_pos rfl];exact ztv x d h0 h1 d0 d1 w
set_option maxHeartbeats 1000000 in
theorem zhE (a b d:Int) (h0 : -9223372036854775808<=a) (h1:a<=9223372036854775807) (k0 : -9223372036854775808<=b) (k1:b<=9223372036854775807) (d0 : -9223372036854775808<=d) (d1:d<=9223372036854775807) (w:World) :
  Calls Tryz.prog 180 #[.int .i64 a,.int .i64 b,.int .i64 d] w λe w'=>e=.returned (.int .i64 (zM (a*b) d))/\Below w.heap.size w w':=by
 by_cases hz:d=0
 ·subst hz;rw[zk5]
  go_enter Tryz.func180,Tryz.ntmps180
  go_wp2;go_ret;exact⟨rfl,Below.refl _ _⟩
 have dz:(d == 0)=false:=beq_eq_false_iff_ne.2 hz;rw[zcg hz];have NB:=zsD (a:=a) (b:=b) hz _ rfl;have CA:=zb3 a h0 h1;have CB:=zb3 b k0 k1;have CS:=zb3 d d0 d1;have a1:zi a<=9223372036854775808:=zcs h0 (by omega);have b1:zi b<=9223372036854775808:=zcs k0 (by omega);have hp:0<zi d:=by unfold zi;split<;>omega
 have hq:zi d<=9223372036854775808:=zcs d0 (by omega);have CT:=zjb (zi a) (zi b) _ rfl (zbc a) (by omega) (zbc b) (by omega);have pp:=zdE h0 h1 k0 k1;generalize zaz (a*b) d=V at *;generalize zi a*zi b=P at *;generalize zi d=D at *;have NB2:=za NB;clear NB;obtain⟨P0,P1⟩:=pp
 cases hta:decide (a<0)<;>cases htb:decide (b<0)<;>cases htd:decide (d<0)
 all_goals
  have nb:=NB2.out;rw[hta,htb,htd]at nb;clear NB2
  first|(change V=if false=true then _ else _ at nb;have CN:=zjI P D (zE V) false (by rw[nb]) P0 (by omega) hp (by omega))|(change V=if true=true then _ else _ at nb;have CN:=zjI P D (zE V) true (by rw[nb]) P0 (by omega) hp (by omega))
  clear nb hz hp hq P0 P1 a1 b1
  go_enter Tryz.func180,Tryz.ntmps180
  go_wp2_with (first
   |(go_at_call 132;(with_reducible refine(CA _).mono ?_);rintro e w' ⟨rfl,rfl⟩)
   |(go_at_call 132;(with_reducible refine(CB _).mono ?_);rintro e w' ⟨rfl,rfl⟩)
   |(go_at_call 214;(with_reducible refine(CT _).mono ?_);rintro e w1 ⟨rfl,b1⟩))
  have n0:=zdc w1 (.int .u64 (hi P)) (.int .u64 (lo P)) 202;have n1:=zcX w1 (.int .u64 (hi P)) (.int .u64 (lo P)) 202;have n2:=zbB w1 (.cells #[.int .u64 (hi P),.int .u64 (lo P)] 202)
  go_region_held3 (λw'=>w'.cell? ⟨w1.heap.size,0,none⟩=some (.int .u64 (hi P))/\w'.cell? ⟨w1.heap.size,1,none⟩=some (.int .u64 (lo P)))
   (first|exact⟨n0,n1⟩|exact⟨y0,y1⟩)
   (first
    |(go_at_call 132;(with_reducible refine(CS _).mono ?_);rintro e w' ⟨rfl,rfl⟩)
    |(go_at_call 215;(with_reducible refine(CN _).mono ?_);rintro e w2 ⟨rfl,b2⟩;have y0:=cb b2 n2 n0;have y1:=cb b2 n2 n1))
  all_goals go_wp2
  all_goals go_ret
  all_goals refine⟨rfl,?_⟩
  all_goals (repeat (first|exact Below.refl _ _|with_reducible refine ba ?_ _|with_reducible refine bs ?_ (by omega) _|with_reducible refine bd ?_|(with_reducible refine bt ?_ (by assumption))))
theorem zbx (a b d v:Int) (hv:zM (a*b) d=v) (h0 : -9223372036854775808<=a) (h1:a<=9223372036854775807) (k0 : -9223372036854775808<=b) (k1:b<=9223372036854775807) (d0 : -9223372036854775808<=d) (d1:d<=9223372036854775807) (w:World) :
  Calls Tryz.prog 180 #[.int .i64 a,.int .i64 b,.int .i64 d] w λe w'=>e=.returned (.int .i64 v)/\Below w.heap.size w w':=by
 subst hv;exact zhE a b d h0 h1 k0 k1 d0 d1 w
theorem ziN (x n v:Int) (hv:zW x n=v) (h0 : -9223372036854775808<=x) (h1:x<=9223372036854775807) (w:World) :
  Calls Tryz.prog 96 #[.int .i64 x,.int .i64 n] w λe w'=>e=.returned (.int .i64 v)/\Below w.heap.size w w':=by
 subst hv;exact zfP x n h0 h1 w
set_option maxHeartbeats 1000000 in
theorem zqF (r:Int) (h0:0<=r) (h1:r<=1099511627776) (w:World) :
  Calls Tryz.prog 225 #[.int .i64 r] w λe w'=>e=.returned (.int .i64 (zaY r 16))/\Below w.heap.size w w':=by
 go_enter Tryz.func225,Tryz.ntmps225
 go_wp2
 go_loopw [3,4,5] (λs t i wr=>∃ k:Nat,k<=16/\s=.int .i64 (zaY r k)/\t=.int .i64 (zar r k)/\i=.int .i64 ((k:Int)+1)/\Below w.heap.size w wr) (λ_ _ i _=>17-(intOf i).toNat)
 case atStart=>exact⟨0,by omega,rfl,rfl,rfl,Below.refl _ _⟩
 case round =>
  obtain⟨k,hk,rfl,rfl,rfl,hb⟩:=hrel;have HB:=za hb;clear hb;have t:=zcV h0 h1 k;have s:=zpk h0 h1 k;obtain⟨t0,t1⟩:=t;obtain⟨s0,s1⟩:=s
  by_cases hlt:k<16
  ·have u:=zcV h0 h1 (k+1);obtain⟨u0,u1⟩:=u;have CM:=zej (zar r k) r (((k:Int)+1)*1099511627776) (zar r (k+1)) rfl (by omega) (by omega) (by omega) (by omega) (by omega) (by omega);have hs:zaY r (k+1)=if k % 2=0 then zaY r k-zar r (k+1) else zaY r k+zar r (k+1):=rfl;have HS:=za hs;clear hs
   by_cases hp:k % 2=0
   ·have tst:(((k:Int)+1) % 2 == 1)=true:=beq_iff_eq.2 (by omega);have HP:=za hp;clear hp
    go_wp2_with (go_at_call 173;(with_reducible refine(CM _).mono ?_);rintro e w1 ⟨rfl,b1⟩)
    go_roundw
    case rel=>exact⟨k+1,by omega,by rw[HS.out,if_pos HP.out],rfl,by go_num,bt HB.out b1⟩
    case measure=>simp[intOf];omega
   ·have tst:(((k:Int)+1) % 2 == 1)=false:=beq_eq_false_iff_ne.2 (by omega);have HP:=za hp;clear hp
    go_wp2_with (go_at_call 173;(with_reducible refine(CM _).mono ?_);rintro e w1 ⟨rfl,b1⟩)
    go_roundw
    case rel=>exact⟨k+1,by omega,by rw[HS.out,if_neg HP.out],rfl,by go_num,bt HB.out b1⟩
    case measure=>simp[intOf];omega
  ·obtain rfl:k=16:=by omega
   go_wp2;go_ret;exact⟨rfl,HB.out⟩
set_option maxHeartbeats 1000000 in
theorem zwR (t:Int) (_h0 : -9223372036854775808<=t) (h1:t<=9223372036854775807) (w:World) :
  Calls Tryz.prog 194 #[.int .i64 t] w λe w'=>e=.returned (.int .i64 (zcr t))/\Below w.heap.size w w':=by
 have p:=zlD (zrq t) (zqA h1);obtain⟨p0,p1,p2,p3⟩:=p;have s:=znC p0 p1;obtain⟨s0,s1⟩:=s;have CS:=zqF (zdd t % 762123384786) p0 (by omega);have CH:=zeD (zaY (zdd t % 762123384786) 16) (zdd t / 762123384786) (by omega) (by omega) (by omega) (by omega);unfold zcr;generalize hS:zaY (zdd t % 762123384786) 16=S at *;clear hS;have x0:0<=max t 0:=zrq t;have x1:max t 0<=9223372036854775807:=zqA h1;unfold zdd at *
 go_enter Tryz.func194,Tryz.ntmps194
 go_wp2_with (first
  |(go_at_call 225;(with_reducible refine(CS _).mono ?_);rintro e w1 ⟨rfl,b1⟩)
  |(go_at_call 130;(with_reducible refine(CH _).mono ?_);rintro e w2 ⟨rfl,b2⟩))
 go_ret;exact⟨rfl,bt b1 b2⟩
set_option maxHeartbeats 1000000 in
theorem zp2 (t:Int) (hn:t<0) (_h0 : -9223372036854775808<=t) (w:World) :
  Calls Tryz.prog 211 #[.int .i64 t] w λe w'=>e=.returned (.int .i64 (zW (zaY 0 16) 0))/\Below w.heap.size w w':=by
 have CF:=zfV 0 762123384786 (by omega) (by omega) (by omega) (by omega);rw[show zcZ 0 762123384786=0 from rfl]at CF;have p0:(0:Int)<=0:=by omega
 have r1:(0:Int)<=1099511627776:=by omega
 go_enter Tryz.func211,Tryz.ntmps211
 go_wp2_with (go_at_call 210;(with_reducible refine(CF _).mono ?_);rintro e w1 ⟨rfl,b1⟩)
 go_loopw [5,6,7,8] (λa m t i wr=>∃ (k:Nat) (A M:Int),k<=16/\A-M=zaY 0 k/\0<=A/\0<=M/\A<=((k:Int)+1)*1099511627776/\M<=((k:Int)+1)*1099511627776/\a=.int .i64 A/\m=.int .i64 M/\t=.int .i64 (zar 0 k)/\i=.int .i64 ((k:Int)+1)/\Below w.heap.size w wr) (λ_ _ _ i _=>17-(intOf i).toNat)
 case atStart=>exact⟨0,_,_,by omega,rfl,by omega,by omega,by omega,by omega,rfl,rfl,rfl,rfl,b1⟩
 case round =>
  obtain⟨k,A,M,hk,hs0,A0,M0,A1,M1,rfl,rfl,rfl,rfl,hb⟩:=hrel;have HB:=za hb;clear hb;obtain⟨t0,t1⟩:=zcV p0 r1 k;have HS0:=za hs0;clear hs0
  by_cases hlt:k<16
  ·obtain⟨u0,u1⟩:=zcV p0 r1 (k+1);have CM:=zbx (zar 0 k) 0 (((k:Int)+1)*1099511627776) (zar 0 (k+1)) rfl (by omega) (by omega) (by omega) (by omega) (by omega) (by omega);have hs:zaY 0 (k+1)=if k % 2=0 then zaY 0 k-zar 0 (k+1) else zaY 0 k+zar 0 (k+1):=rfl;have HS:=za hs;clear hs
   by_cases hp:k % 2=0
   ·have tst:(((k:Int)+1) % 2 == 1)=true:=beq_iff_eq.2 (by omega);have HP:=za hp;clear hp
    go_wp2_with (go_at_call 180;(with_reducible refine(CM _).mono ?_);rintro e w2 ⟨rfl,b2⟩)
    go_roundw
    case rel=>exact⟨k+1,A,M+zar 0 (k+1),by omega,by rw[HS.out,if_pos HP.out,←HS0.out];omega,by omega,by omega,by omega,by omega,rfl,rfl,rfl,by go_num,bt HB.out b2⟩
    case measure=>simp[intOf];omega
   ·have tst:(((k:Int)+1) % 2 == 1)=false:=beq_eq_false_iff_ne.2 (by omega);have HP:=za hp;clear hp
    go_wp2_with (go_at_call 180;(with_reducible refine(CM _).mono ?_);rintro e w2 ⟨rfl,b2⟩)
    go_roundw
    case rel=>exact⟨k+1,A+zar 0 (k+1),M,by omega,by rw[HS.out,if_neg HP.out,←HS0.out];omega,by omega,by omega,by omega,by omega,rfl,rfl,rfl,by go_num,bt HB.out b2⟩
    case measure=>simp[intOf];omega
  ·obtain rfl:k=16:=by omega
   have CH:=ziN (A-M) 0 (zW (zaY 0 16) 0) (by rw[HS0.out]) (by omega) (by omega)
   go_wp2_with (go_at_call 96;(with_reducible refine(CH _).mono ?_);rintro e w2 ⟨rfl,b2⟩)
   go_ret;exact⟨rfl,bt HB.out b2⟩
set_option maxHeartbeats 1000000 in
theorem zrf (t q r:Int) (hn:0<=t) (h1:t<=9223372036854775807) (hq:t / 762123384786=q) (hr:t % 762123384786=r) (w:World) :
  Calls Tryz.prog 211 #[.int .i64 t] w λe w'=>e=.returned (.int .i64 (zW (zaY r 16) q))/\Below w.heap.size w w':=by
 have CF:=zfV t 762123384786 (by omega) (by omega) (by omega) (by omega);rw[zdl (by omega),show zan t 762123384786=t / 762123384786 from if_neg (by omega),zH (by omega) (by omega),hq]at CF;have p0:0<=r:=by omega
 have r1:r<=1099511627776:=by omega
 have q0:0<=q:=by omega
 have q1:q<=12102203:=by omega
 have er:t-q*762123384786=r:=by omega
 have e0:0<=q*762123384786:=by omega
 have e1:q*762123384786<=t:=by omega
 clear hq hr
 go_enter Tryz.func211,Tryz.ntmps211
 go_wp2_with (go_at_call 210;(with_reducible refine(CF _).mono ?_);rintro e w1 ⟨rfl,b1⟩)
 go_loopw [5,6,7,8] (λa m t i wr=>∃ (k:Nat) (A M:Int),k<=16/\A-M=zaY r k/\0<=A/\0<=M/\A<=((k:Int)+1)*1099511627776/\M<=((k:Int)+1)*1099511627776/\a=.int .i64 A/\m=.int .i64 M/\t=.int .i64 (zar r k)/\i=.int .i64 ((k:Int)+1)/\Below w.heap.size w wr) (λ_ _ _ i _=>17-(intOf i).toNat)
 case atStart=>exact⟨0,_,_,by omega,rfl,by omega,by omega,by omega,by omega,rfl,rfl,rfl,rfl,b1⟩
 case round =>
  obtain⟨k,A,M,hk,hs0,A0,M0,A1,M1,rfl,rfl,rfl,rfl,hb⟩:=hrel;have HB:=za hb;clear hb;obtain⟨t0,t1⟩:=zcV p0 r1 k;have HS0:=za hs0;clear hs0
  by_cases hlt:k<16
  ·obtain⟨u0,u1⟩:=zcV p0 r1 (k+1);have CM:=zbx (zar r k) r (((k:Int)+1)*1099511627776) (zar r (k+1)) rfl (by omega) (by omega) (by omega) (by omega) (by omega) (by omega);have hs:zaY r (k+1)=if k % 2=0 then zaY r k-zar r (k+1) else zaY r k+zar r (k+1):=rfl;have HS:=za hs;clear hs
   by_cases hp:k % 2=0
   ·have tst:(((k:Int)+1) % 2 == 1)=true:=beq_iff_eq.2 (by omega);have HP:=za hp;clear hp
    go_wp2_with (go_at_call 180;(with_reducible refine(CM _).mono ?_);rintro e w2 ⟨rfl,b2⟩)
    go_roundw
    case rel=>exact⟨k+1,A,M+zar r (k+1),by omega,by rw[HS.out,if_pos HP.out,←HS0.out];omega,by omega,by omega,by omega,by omega,rfl,rfl,rfl,by go_num,bt HB.out b2⟩
    case measure=>simp[intOf];omega
   ·have tst:(((k:Int)+1) % 2 == 1)=false:=beq_eq_false_iff_ne.2 (by omega);have HP:=za hp;clear hp
    go_wp2_with (go_at_call 180;(with_reducible refine(CM _).mono ?_);rintro e w2 ⟨rfl,b2⟩)
    go_roundw
    case rel=>exact⟨k+1,A+zar r (k+1),M,by omega,by rw[HS.out,if_neg HP.out,←HS0.out];omega,by omega,by omega,by omega,by omega,rfl,rfl,rfl,by go_num,bt HB.out b2⟩
    case measure=>simp[intOf];omega
  ·obtain rfl:k=16:=by omega
   have CH:=ziN (A-M) q (zW (zaY r 16) q) (by rw[HS0.out]) (by omega) (by omega)
   go_wp2_with (go_at_call 96;(with_reducible refine(CH _).mono ?_);rintro e w2 ⟨rfl,b2⟩)
   go_ret;exact⟨rfl,bt HB.out b2⟩
theorem zqV (t:Int) (h0 : -9223372036854775808<=t) (h1:t<=9223372036854775807) (w:World) :
  Calls Tryz.prog 211 #[.int .i64 t] w λe w'=>e=.returned (.int .i64 (zcr t))/\Below w.heap.size w w':=by
 by_cases hn:t<0
 ·have e:zdd t=0:=by unfold zdd;omega
  unfold zcr;rw[e];exact zp2 t hn h0 w
 ·have e:zdd t=t:=by unfold zdd;omega
  unfold zcr;rw[e];exact zrf t _ _ (by omega) h1 rfl rfl w
set_option maxHeartbeats 1000000 in
theorem zth (d s:Int) (h0 : -9223372036854775808<=d) (h1:d<=9223372036854775807) (k0 : -9223372036854775808<=s) (k1:s<=9223372036854775807) (w:World) :
  Calls Tryz.prog 195 #[.int .i64 d,.int .i64 s] w λe w'=>e=.returned (.int .i64 (za6 d s))/\Below w.heap.size w w':=by
 by_cases hg:s<1\/4194304<s\/d < -16384\/16384<d
 ·rw[show za6 d s=9223372036854775807 from if_pos hg]
  by_cases g1:s<1
  ·clear hg
   go_enter Tryz.func195,Tryz.ntmps195
   go_wp2;go_ret;exact⟨rfl,Below.refl _ _⟩
  by_cases g2:4194304<s
  ·clear hg
   go_enter Tryz.func195,Tryz.ntmps195
   go_wp2;go_ret;exact⟨rfl,Below.refl _ _⟩
  by_cases g3:d < -16384
  ·clear hg
   go_enter Tryz.func195,Tryz.ntmps195
   go_wp2;go_ret;exact⟨rfl,Below.refl _ _⟩
  have g4:16384<d:=by omega
  clear hg
  go_enter Tryz.func195,Tryz.ntmps195
  go_wp2;go_ret;exact⟨rfl,Below.refl _ _⟩
 rw[show za6 d s=zM (d*d*2147483648*1099511627776) (s*s) from if_neg hg];have a:=zit (s:=d) (by omega) (by omega);have b:=zit (s:=s) (by omega) (by omega);have a4:d*d<=268435456:=by
  have q:=zmN d;have b0:0<=zi d:=zbc d;have b1:zi d<=16384:=by unfold zi;split<;>omega
  rw[q];exact Int.mul_le_mul b1 b1 b0 (by omega)
 obtain⟨a0,a1⟩:=a;obtain⟨b0,b1⟩:=b;have CM:=ziM (d*d*2147483648) 1099511627776 (s*s) (by omega) (by omega) (by omega) (by omega) (by omega) (by omega);have g1:decide (s<1)=false:=decide_eq_false (by omega);have g2:decide (4194304<s)=false:=decide_eq_false (by omega);have g3:decide (d < -16384)=false:=decide_eq_false (by omega);have g4:decide (16384<d)=false:=decide_eq_false (by omega);clear hg
 go_enter Tryz.func195,Tryz.ntmps195
 go_wp2_with (go_at_call 173;(with_reducible refine(CM _).mono ?_);rintro e w1 ⟨rfl,b1⟩)
 go_ret;exact⟨rfl,b1⟩
set_option maxHeartbeats 1000000 in
theorem znW (d s:Int) (h0 : -9223372036854775808<=d) (h1:d<=9223372036854775807) (k0 : -9223372036854775808<=s) (k1:s<=9223372036854775807) (w:World) :
  Calls Tryz.prog 212 #[.int .i64 d,.int .i64 s] w λe w'=>e=.returned (.int .i64 (za6 d s))/\Below w.heap.size w w':=by
 by_cases hg:s<1\/4194304<s\/d < -16384\/16384<d
 ·rw[show za6 d s=9223372036854775807 from if_pos hg]
  by_cases g1:s<1
  ·clear hg
   go_enter Tryz.func212,Tryz.ntmps212
   go_wp2;go_ret;exact⟨rfl,Below.refl _ _⟩
  by_cases g2:4194304<s
  ·clear hg
   go_enter Tryz.func212,Tryz.ntmps212
   go_wp2;go_ret;exact⟨rfl,Below.refl _ _⟩
  by_cases g3:d < -16384
  ·clear hg
   go_enter Tryz.func212,Tryz.ntmps212
   go_wp2;go_ret;exact⟨rfl,Below.refl _ _⟩
  have g4:16384<d:=by omega
  clear hg
  go_enter Tryz.func212,Tryz.ntmps212
  go_wp2;go_ret;exact⟨rfl,Below.refl _ _⟩
 rw[show za6 d s=zM (d*d*2147483648*1099511627776) (s*s) from if_neg hg];have a:=zit (s:=d) (by omega) (by omega);have b:=zit (s:=s) (by omega) (by omega);have a4:d*d<=268435456:=by
  have q:=zmN d;have b0:0<=zi d:=zbc d;have b1:zi d<=16384:=by unfold zi;split<;>omega
  rw[q];exact Int.mul_le_mul b1 b1 b0 (by omega)
 obtain⟨a0,a1⟩:=a;obtain⟨b0,b1⟩:=b;have CM:=zhE (d*d*2147483648) 1099511627776 (s*s) (by omega) (by omega) (by omega) (by omega) (by omega) (by omega);have g1:decide (s<1)=false:=decide_eq_false (by omega);have g2:decide (4194304<s)=false:=decide_eq_false (by omega);have g3:decide (d < -16384)=false:=decide_eq_false (by omega);have g4:decide (16384<d)=false:=decide_eq_false (by omega);clear hg
 go_enter Tryz.func212,Tryz.ntmps212
 go_wp2_with (go_at_call 180;(with_reducible refine(CM _).mono ?_);rintro e w1 ⟨rfl,b1⟩)
 go_ret;exact⟨rfl,b1⟩
theorem ztG (d s:Int) (h0 : -9223372036854775808<=d) (h1:d<=9223372036854775807) (k0 : -9223372036854775808<=s) (k1:s<=9223372036854775807) (w:World) :
  Calls Tryz.prog 171 #[.int .i64 d,.int .i64 s] w λe w'=>e=.returned (.int .i64 (zc1 d s))/\Below w.heap.size w w':=by
 have C1:=zth d s h0 h1 k0 k1;obtain⟨r0,r1⟩:=zk9 d s;have C2:=zwR (za6 d s) r0 r1;obtain⟨x0,x1⟩:=zmP r1;have C3:=zeD (zcr (za6 d s)) 10 x0 x1 (by omega) (by omega);unfold zc1;generalize zW (zcr (za6 d s)) 10=z at *;generalize zcr (za6 d s)=y at *;generalize za6 d s=x at *
 go_enter Tryz.func171,Tryz.ntmps171
 go_wp2_with (first
  |(go_at_call 195;(with_reducible refine(C1 _).mono ?_);rintro e w1 ⟨rfl,b1⟩)
  |(go_at_call 194;(with_reducible refine(C2 _).mono ?_);rintro e w2 ⟨rfl,b2⟩)
  |(go_at_call 130;(with_reducible refine(C3 _).mono ?_);rintro e w3 ⟨rfl,b3⟩))
 go_ret;exact⟨rfl,bt (bt b1 b2) b3⟩
theorem zn1 (d s:Int) (h0 : -9223372036854775808<=d) (h1:d<=9223372036854775807) (k0 : -9223372036854775808<=s) (k1:s<=9223372036854775807) (w:World) :
  Calls Tryz.prog 178 #[.int .i64 d,.int .i64 s] w λe w'=>e=.returned (.int .i64 (zc1 d s))/\Below w.heap.size w w':=by
 have C1:=znW d s h0 h1 k0 k1;obtain⟨r0,r1⟩:=zk9 d s;have C2:=zqV (za6 d s) r0 r1;obtain⟨x0,x1⟩:=zmP r1;have C3:=zfP (zcr (za6 d s)) 10 x0 x1;unfold zc1;generalize zW (zcr (za6 d s)) 10=z at *;generalize zcr (za6 d s)=y at *;generalize za6 d s=x at *
 go_enter Tryz.func178,Tryz.ntmps178
 go_wp2_with (first
  |(go_at_call 212;(with_reducible refine(C1 _).mono ?_);rintro e w1 ⟨rfl,b1⟩)
  |(go_at_call 211;(with_reducible refine(C2 _).mono ?_);rintro e w2 ⟨rfl,b2⟩)
  |(go_at_call 96;(with_reducible refine(C3 _).mono ?_);rintro e w3 ⟨rfl,b3⟩))
 go_ret;exact⟨rfl,bt (bt b1 b2) b3⟩
end Go.Proofs.YtlodkoimdoeopaaGreatDoor
