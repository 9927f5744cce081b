/- Parts, joined. -/
import Derived.Test.YtlodkoimdoeopaaGreatDoorQ03
import Derived.Test.YtlodkoimdoeopaaGreatDoorQ04
import Derived.Test.YtlodkoimdoeopaaGreatDoorQ06
import Derived.Test.YtlodkoimdoeopaaGreatDoorQ02
namespace Go.Proofs.YtlodkoimdoeopaaGreatDoor
open Go.RowKit
theorem zbv (a b d v:Int) (hv:zN (a*b) d=v) (h0 : -9223372036854775808<=a) (h1:a<=9223372036854775807) (k0 : -9223372036854775808<=b) (k1:b<=9223372036854775807) (d0 : -9223372036854775808<=d) (d1:d<=9223372036854775807) (w:World) :
  Calls Tryz.prog 180 #[.int .i64 a,.int .i64 b,.int .i64 d] w λe w'=>e=.returned (.int .i64 v)/\Below w.heap.size w w':=by
 subst hv;exact zhs a b d h0 h1 k0 k1 d0 d1 w
theorem ziD (x n v:Int) (hv:zV x n=v) (h0 : -9223372036854775808<=x) (h1:x<=9223372036854775807) (w:World) :
  Calls Tryz.prog 96 #[.int .i64 x,.int .i64 n] w λe w'=>e=.returned (.int .i64 v)/\Below w.heap.size w w':=by
 subst hv;exact zeG x n h0 h1 w
set_option maxHeartbeats 1000000 in
theorem zqa (r:Int) (h0:0<=r) (h1:r<=1099511627776) (w:World) :
  Calls Tryz.prog 225 #[.int .i64 r] w λe w'=>e=.returned (.int .i64 (za0 r 16))/\Below w.heap.size w w':=by
 go_enter Tryz.func225,Tryz.ntmps225
 go_wp2
 go_loopw [3,4,5] (λs t i wr=>∃ k:Nat,k<=16/\s=.int .i64 (za0 r k)/\t=.int .i64 (zan r k)/\i=.int .i64 ((k:Int)+1)/\Below w.heap.size w wr) (λ_ _ i _=>17-(intOf i).toNat)
 case atStart=>exact⟨0,by omega,rfl,rfl,rfl,Below.refl _ _⟩
 case round =>
  obtain⟨k,hk,rfl,rfl,rfl,hb⟩:=hrel;have HB:=za hb;clear hb;have t:=zc0 h0 h1 k;have s:=zpu h0 h1 k;obtain⟨t0,t1⟩:=t;obtain⟨s0,s1⟩:=s
  by_cases hlt:k<16
  ·have u:=zc0 h0 h1 (k+1);obtain⟨u0,u1⟩:=u;have CM:=zd9 (zan r k) r (((k:Int)+1)*1099511627776) (zan r (k+1)) rfl (by omega) (by omega) (by omega) (by omega) (by omega) (by omega);have hs:za0 r (k+1)=if k % 2=0 then za0 r k-zan r (k+1) else za0 r k+zan r (k+1):=rfl;have HS:=za hs;clear hs
   by_cases hp:k % 2=0
   ·have tst:(((k:Int)+1) % 2 == 1)=true:=beq_iff_eq.2 (by omega);have HP:=za hp;clear hp
    go_wp2_with (go_at_call 173;(with_reducible refine(CM _).mono ?_);rintro e w1 ⟨rfl,b1⟩)
    go_roundw
    case rel=>exact⟨k+1,by omega,by rw[HS.out,if_pos HP.out],rfl,by go_num,bt HB.out b1⟩
    case measure=>simp[intOf];omega
   ·have tst:(((k:Int)+1) % 2 == 1)=false:=beq_eq_false_iff_ne.2 (by omega);have HP:=za hp;clear hp
    go_wp2_with (go_at_call 173;(with_reducible refine(CM _).mono ?_);rintro e w1 ⟨rfl,b1⟩)
    go_roundw
    case rel=>exact⟨k+1,by omega,by rw[HS.out,if_neg HP.out],rfl,by go_num,bt HB.out b1⟩
    case measure=>simp[intOf];omega
  ·obtain rfl:k=16:=by omega
   go_wp2;go_ret;exact⟨rfl,HB.out⟩
set_option maxHeartbeats 1000000 in
theorem zwF (t:Int) (_h0 : -9223372036854775808<=t) (h1:t<=9223372036854775807) (w:World) :
  Calls Tryz.prog 194 #[.int .i64 t] w λe w'=>e=.returned (.int .i64 (zcw t))/\Below w.heap.size w w':=by
 have p:=zkO (zqA t) (zpA h1);obtain⟨p0,p1,p2,p3⟩:=p;have s:=zma p0 p1;obtain⟨s0,s1⟩:=s;have CS:=zqa (zdt t % 762123384786) p0 (by omega);have CH:=zew (za0 (zdt t % 762123384786) 16) (zdt t / 762123384786) (by omega) (by omega) (by omega) (by omega);unfold zcw;generalize hS:za0 (zdt t % 762123384786) 16=S at *;clear hS;have x0:0<=max t 0:=zqA t;have x1:max t 0<=9223372036854775807:=zpA h1;unfold zdt at *
 go_enter Tryz.func194,Tryz.ntmps194
 go_wp2_with (first
  |(go_at_call 225;(with_reducible refine(CS _).mono ?_);rintro e w1 ⟨rfl,b1⟩)
  |(go_at_call 130;(with_reducible refine(CH _).mono ?_);rintro e w2 ⟨rfl,b2⟩))
 go_ret;exact⟨rfl,bt b1 b2⟩
set_option maxHeartbeats 1000000 in
theorem zqh (t:Int) (hn:t<0) (_h0 : -9223372036854775808<=t) (w:World) :
  Calls Tryz.prog 211 #[.int .i64 t] w λe w'=>e=.returned (.int .i64 (zV (za0 0 16) 0))/\Below w.heap.size w w':=by
 have CF:=zfW 0 762123384786 (by omega) (by omega) (by omega) (by omega);rw[show zc1 0 762123384786=0 from rfl]at CF;have p0:(0:Int)<=0:=by omega
 have r1:(0:Int)<=1099511627776:=by omega
 go_enter Tryz.func211,Tryz.ntmps211
 go_wp2_with (go_at_call 210;(with_reducible refine(CF _).mono ?_);rintro e w1 ⟨rfl,b1⟩)
 go_loopw [5,6,7,8] (λa m t i wr=>∃ (k:Nat) (A M:Int),k<=16/\A-M=za0 0 k/\0<=A/\0<=M/\A<=((k:Int)+1)*1099511627776/\M<=((k:Int)+1)*1099511627776/\a=.int .i64 A/\m=.int .i64 M/\t=.int .i64 (zan 0 k)/\i=.int .i64 ((k:Int)+1)/\Below w.heap.size w wr) (λ_ _ _ i _=>17-(intOf i).toNat)
 case atStart=>exact⟨0,_,_,by omega,rfl,by omega,by omega,by omega,by omega,rfl,rfl,rfl,rfl,b1⟩
 case round =>
  obtain⟨k,A,M,hk,hs0,A0,M0,A1,M1,rfl,rfl,rfl,rfl,hb⟩:=hrel;have HB:=za hb;clear hb;obtain⟨t0,t1⟩:=zc0 p0 r1 k;have HS0:=za hs0;clear hs0
  by_cases hlt:k<16
  ·obtain⟨u0,u1⟩:=zc0 p0 r1 (k+1);have CM:=zbv (zan 0 k) 0 (((k:Int)+1)*1099511627776) (zan 0 (k+1)) rfl (by omega) (by omega) (by omega) (by omega) (by omega) (by omega);have hs:za0 0 (k+1)=if k % 2=0 then za0 0 k-zan 0 (k+1) else za0 0 k+zan 0 (k+1):=rfl;have HS:=za hs;clear hs
   by_cases hp:k % 2=0
   ·have tst:(((k:Int)+1) % 2 == 1)=true:=beq_iff_eq.2 (by omega);have HP:=za hp;clear hp
    go_wp2_with (go_at_call 180;(with_reducible refine(CM _).mono ?_);rintro e w2 ⟨rfl,b2⟩)
    go_roundw
    case rel=>exact⟨k+1,A,M+zan 0 (k+1),by omega,by rw[HS.out,if_pos HP.out,←HS0.out];omega,by omega,by omega,by omega,by omega,rfl,rfl,rfl,by go_num,bt HB.out b2⟩
    case measure=>simp[intOf];omega
   ·have tst:(((k:Int)+1) % 2 == 1)=false:=beq_eq_false_iff_ne.2 (by omega);have HP:=za hp;clear hp
    go_wp2_with (go_at_call 180;(with_reducible refine(CM _).mono ?_);rintro e w2 ⟨rfl,b2⟩)
    go_roundw
    case rel=>exact⟨k+1,A+zan 0 (k+1),M,by omega,by rw[HS.out,if_neg HP.out,←HS0.out];omega,by omega,by omega,by omega,by omega,rfl,rfl,rfl,by go_num,bt HB.out b2⟩
    case measure=>simp[intOf];omega
  ·obtain rfl:k=16:=by omega
   have CH:=ziD (A-M) 0 (zV (za0 0 16) 0) (by rw[HS0.out]) (by omega) (by omega)
   go_wp2_with (go_at_call 96;(with_reducible refine(CH _).mono ?_);rintro e w2 ⟨rfl,b2⟩)
   go_ret;exact⟨rfl,bt HB.out b2⟩
set_option maxHeartbeats 1000000 in
theorem zp9 (t q r:Int) (hn:0<=t) (h1:t<=9223372036854775807) (hq:t / 762123384786=q) (hr:t % 762123384786=r) (w:World) :
  Calls Tryz.prog 211 #[.int .i64 t] w λe w'=>e=.returned (.int .i64 (zV (za0 r 16) q))/\Below w.heap.size w w':=by
 have CF:=zfW t 762123384786 (by omega) (by omega) (by omega) (by omega);rw[zdo (by omega),show zak t 762123384786=t / 762123384786 from if_neg (by omega),zH (by omega) (by omega),hq]at CF;have p0:0<=r:=by omega
 have r1:r<=1099511627776:=by omega
 have q0:0<=q:=by omega
 have q1:q<=12102203:=by omega
 have er:t-q*762123384786=r:=by omega
 have e0:0<=q*762123384786:=by omega
 have e1:q*762123384786<=t:=by omega
 clear hq hr
 go_enter Tryz.func211,Tryz.ntmps211
 go_wp2_with (go_at_call 210;(with_reducible refine(CF _).mono ?_);rintro e w1 ⟨rfl,b1⟩)
 go_loopw [5,6,7,8] (λa m t i wr=>∃ (k:Nat) (A M:Int),k<=16/\A-M=za0 r k/\0<=A/\0<=M/\A<=((k:Int)+1)*1099511627776/\M<=((k:Int)+1)*1099511627776/\a=.int .i64 A/\m=.int .i64 M/\t=.int .i64 (zan r k)/\i=.int .i64 ((k:Int)+1)/\Below w.heap.size w wr) (λ_ _ _ i _=>17-(intOf i).toNat)
 case atStart=>exact⟨0,_,_,by omega,rfl,by omega,by omega,by omega,by omega,rfl,rfl,rfl,rfl,b1⟩
 case round =>
  obtain⟨k,A,M,hk,hs0,A0,M0,A1,M1,rfl,rfl,rfl,rfl,hb⟩:=hrel;have HB:=za hb;clear hb;obtain⟨t0,t1⟩:=zc0 p0 r1 k;have HS0:=za hs0;clear hs0
  by_cases hlt:k<16
  ·obtain⟨u0,u1⟩:=zc0 p0 r1 (k+1);have CM:=zbv (zan r k) r (((k:Int)+1)*1099511627776) (zan r (k+1)) rfl (by omega) (by omega) (by omega) (by omega) (by omega) (by omega);have hs:za0 r (k+1)=if k % 2=0 then za0 r k-zan r (k+1) else za0 r k+zan r (k+1):=rfl;have HS:=za hs;clear hs
   by_cases hp:k % 2=0
   ·have tst:(((k:Int)+1) % 2 == 1)=true:=beq_iff_eq.2 (by omega);have HP:=za hp;clear hp
    go_wp2_with (go_at_call 180;(with_reducible refine(CM _).mono ?_);rintro e w2 ⟨rfl,b2⟩)
    go_roundw
    case rel=>exact⟨k+1,A,M+zan r (k+1),by omega,by rw[HS.out,if_pos HP.out,←HS0.out];omega,by omega,by omega,by omega,by omega,rfl,rfl,rfl,by go_num,bt HB.out b2⟩
    case measure=>simp[intOf];omega
   ·have tst:(((k:Int)+1) % 2 == 1)=false:=beq_eq_false_iff_ne.2 (by omega);have HP:=za hp;clear hp
    go_wp2_with (go_at_call 180;(with_reducible refine(CM _).mono ?_);rintro e w2 ⟨rfl,b2⟩)
    go_roundw
    case rel=>exact⟨k+1,A+zan r (k+1),M,by omega,by rw[HS.out,if_neg HP.out,←HS0.out];omega,by omega,by omega,by omega,by omega,rfl,rfl,rfl,by go_num,bt HB.out b2⟩
    case measure=>simp[intOf];omega
  ·obtain rfl:k=16:=by omega
   have CH:=ziD (A-M) q (zV (za0 r 16) q) (by rw[HS0.out]) (by omega) (by omega)
   go_wp2_with (go_at_call 96;(with_reducible refine(CH _).mono ?_);rintro e w2 ⟨rfl,b2⟩)
   go_ret;exact⟨rfl,bt HB.out b2⟩
theorem zqT (t:Int) (h0 : -9223372036854775808<=t) (h1:t<=9223372036854775807) (w:World) :
  Calls Tryz.prog 211 #[.int .i64 t] w λe w'=>e=.returned (.int .i64 (zcw t))/\Below w.heap.size w w':=by
 by_cases hn:t<0
 ·have e:zdt t=0:=by unfold zdt;omega
  unfold zcw;rw[e];exact zqh t hn h0 w
 ·have e:zdt t=t:=by unfold zdt;omega
  unfold zcw;rw[e];exact zp9 t _ _ (by omega) h1 rfl rfl w
set_option maxHeartbeats 1000000 in
theorem zsC (d s:Int) (h0 : -9223372036854775808<=d) (h1:d<=9223372036854775807) (k0 : -9223372036854775808<=s) (k1:s<=9223372036854775807) (w:World) :
  Calls Tryz.prog 195 #[.int .i64 d,.int .i64 s] w λe w'=>e=.returned (.int .i64 (za3 d s))/\Below w.heap.size w w':=by
 by_cases hg:s<1\/4194304<s\/d < -16384\/16384<d
 ·rw[show za3 d s=9223372036854775807 from if_pos hg]
  by_cases g1:s<1
  ·clear hg
   go_enter Tryz.func195,Tryz.ntmps195
   go_wp2;go_ret;exact⟨rfl,Below.refl _ _⟩
  by_cases g2:4194304<s
  ·clear hg
   go_enter Tryz.func195,Tryz.ntmps195
   go_wp2;go_ret;exact⟨rfl,Below.refl _ _⟩
  by_cases g3:d < -16384
  ·clear hg
   go_enter Tryz.func195,Tryz.ntmps195
   go_wp2;go_ret;exact⟨rfl,Below.refl _ _⟩
  have g4:16384<d:=by omega
  clear hg
  go_enter Tryz.func195,Tryz.ntmps195
  go_wp2;go_ret;exact⟨rfl,Below.refl _ _⟩
 rw[show za3 d s=zN (d*d*2147483648*1099511627776) (s*s) from if_neg hg];have a:=zip (s:=d) (by omega) (by omega);have b:=zip (s:=s) (by omega) (by omega);have a4:d*d<=268435456:=by
  have q:=zmB d;have b0:0<=zi d:=za6 d;have b1:zi d<=16384:=by unfold zi;split<;>omega
  rw[q];exact Int.mul_le_mul b1 b1 b0 (by omega)
 obtain⟨a0,a1⟩:=a;obtain⟨b0,b1⟩:=b;have CM:=ziB (d*d*2147483648) 1099511627776 (s*s) (by omega) (by omega) (by omega) (by omega) (by omega) (by omega);have g1:decide (s<1)=false:=decide_eq_false (by omega);have g2:decide (4194304<s)=false:=decide_eq_false (by omega);have g3:decide (d < -16384)=false:=decide_eq_false (by omega);have g4:decide (16384<d)=false:=decide_eq_false (by omega);clear hg
 go_enter Tryz.func195,Tryz.ntmps195
 go_wp2_with (go_at_call 173;(with_reducible refine(CM _).mono ?_);rintro e w1 ⟨rfl,b1⟩)
 go_ret;exact⟨rfl,b1⟩
set_option maxHeartbeats 1000000 in
theorem zl8 (d s:Int) (h0 : -9223372036854775808<=d) (h1:d<=9223372036854775807) (k0 : -9223372036854775808<=s) (k1:s<=9223372036854775807) (w:World) :
  Calls Tryz.prog 212 #[.int .i64 d,.int .i64 s] w λe w'=>e=.returned (.int .i64 (za3 d s))/\Below w.heap.size w w':=by
 by_cases hg:s<1\/4194304<s\/d < -16384\/16384<d
 ·rw[show za3 d s=9223372036854775807 from if_pos hg]
  by_cases g1:s<1
  ·clear hg
   go_enter Tryz.func212,Tryz.ntmps212
   go_wp2;go_ret;exact⟨rfl,Below.refl _ _⟩
  by_cases g2:4194304<s
  ·clear hg
   go_enter Tryz.func212,Tryz.ntmps212
   go_wp2;go_ret;exact⟨rfl,Below.refl _ _⟩
  by_cases g3:d < -16384
  ·clear hg
   go_enter Tryz.func212,Tryz.ntmps212
   go_wp2;go_ret;exact⟨rfl,Below.refl _ _⟩
  have g4:16384<d:=by omega
  clear hg
  go_enter Tryz.func212,Tryz.ntmps212
  go_wp2;go_ret;exact⟨rfl,Below.refl _ _⟩
 rw[show za3 d s=zN (d*d*2147483648*1099511627776) (s*s) from if_neg hg];have a:=zip (s:=d) (by omega) (by omega);have b:=zip (s:=s) (by omega) (by omega);have a4:d*d<=268435456:=by
  have q:=zmB d;have b0:0<=zi d:=za6 d;have b1:zi d<=16384:=by unfold zi;split<;>omega
  rw[q];exact Int.mul_le_mul b1 b1 b0 (by omega)
 obtain⟨a0,a1⟩:=a;obtain⟨b0,b1⟩:=b;have CM:=zhs (d*d*2147483648) 1099511627776 (s*s) (by omega) (by omega) (by omega) (by omega) (by omega) (by omega);have g1:decide (s<1)=false:=decide_eq_false (by omega);have g2:decide (4194304<s)=false:=decide_eq_false (by omega);have g3:decide (d < -16384)=false:=decide_eq_false (by omega);have g4:decide (16384<d)=false:=decide_eq_false (by omega);clear hg
 go_enter Tryz.func212,Tryz.ntmps212
 go_wp2_with (go_at_call 180;(with_reducible refine(CM _).mono ?_);rintro e w1 ⟨rfl,b1⟩)
 go_ret;exact⟨rfl,b1⟩
theorem zsR (d s:Int) (h0 : -9223372036854775808<=d) (h1:d<=9223372036854775807) (k0 : -9223372036854775808<=s) (k1:s<=9223372036854775807) (w:World) :
  Calls Tryz.prog 171 #[.int .i64 d,.int .i64 s] w λe w'=>e=.returned (.int .i64 (zc2 d s))/\Below w.heap.size w w':=by
 have C1:=zsC d s h0 h1 k0 k1;obtain⟨r0,r1⟩:=zlA d s;have C2:=zwF (za3 d s) r0 r1;obtain⟨x0,x1⟩:=zmE r1;have C3:=zew (zcw (za3 d s)) 10 x0 x1 (by omega) (by omega);unfold zc2;generalize zV (zcw (za3 d s)) 10=z at *;generalize zcw (za3 d s)=y at *;generalize za3 d s=x at *
 go_enter Tryz.func171,Tryz.ntmps171
 go_wp2_with (first
  |(go_at_call 195;(with_reducible refine(C1 _).mono ?_);rintro e w1 ⟨rfl,b1⟩)
  |(go_at_call 194;(with_reducible refine(C2 _).mono ?_);rintro e w2 ⟨rfl,b2⟩)
  |(go_at_call 130;(with_reducible refine(C3 _).mono ?_);rintro e w3 ⟨rfl,b3⟩))
 go_ret;exact⟨rfl,bt (bt b1 b2) b3⟩
theorem zmF (d s:Int) (h0 : -9223372036854775808<=d) (h1:d<=9223372036854775807) (k0 : -9223372036854775808<=s) (k1:s<=9223372036854775807) (w:World) :
  Calls Tryz.prog 178 #[.int .i64 d,.int .i64 s] w λe w'=>e=.returned (.int .i64 (zc2 d s))/\Below w.heap.size w w':=by
 have C1:=zl8 d s h0 h1 k0 k1;obtain⟨r0,r1⟩:=zlA d s;have C2:=zqT (za3 d s) r0 r1;obtain⟨x0,x1⟩:=zmE r1;have C3:=zeG (zcw (za3 d s)) 10 x0 x1;unfold zc2;generalize zV (zcw (za3 d s)) 10=z at *;generalize zcw (za3 d s)=y at *;generalize za3 d s=x at *
 go_enter Tryz.func178,Tryz.ntmps178
 go_wp2_with (first
  |(go_at_call 212;(with_reducible refine(C1 _).mono ?_);rintro e w1 ⟨rfl,b1⟩)
  |(go_at_call 211;(with_reducible refine(C2 _).mono ?_);rintro e w2 ⟨rfl,b2⟩)
  |(go_at_call 96;(with_reducible refine(C3 _).mono ?_);rintro e w3 ⟨rfl,b3⟩))
 go_ret;exact⟨rfl,bt (bt b1 b2) b3⟩
theorem ziX (a b:Int) (h0 : -9223372036854775808<=a) (h1:a<=9223372036854775807) (k0 : -9223372036854775808<=b) (k1:b<=9223372036854775807) (w:World) :
  Calls Tryz.prog 213 #[.int .i64 a,.int .i64 b] w λe w'=>e=.returned (.int .i64 (zcD a b))/\w=w':=by
 unfold zcD
 by_cases g:0<b
 ·by_cases g2:9223372036854775807-b<a
  ·rw[zbU (by omega)]
   go_enter Tryz.func213,Tryz.ntmps213
   go_wp2;go_ret;exact⟨rfl,rfl⟩
  ·rw[zH (by omega) (by omega)];have g3:¬b<0:=by omega
   go_enter Tryz.func213,Tryz.ntmps213
   go_wp2;go_ret;exact⟨rfl,rfl⟩
 ·by_cases g3:b<0
  ·by_cases g2:a < -9223372036854775808-b
   ·rw[zcY (by omega)]
    go_enter Tryz.func213,Tryz.ntmps213
    go_wp2;go_ret;exact⟨rfl,rfl⟩
   ·rw[zH (by omega) (by omega)]
    go_enter Tryz.func213,Tryz.ntmps213
    go_wp2;go_ret;exact⟨rfl,rfl⟩
  ·rw[zH (by omega) (by omega)]
   go_enter Tryz.func213,Tryz.ntmps213
   go_wp2;go_ret;exact⟨rfl,rfl⟩
theorem zey (x:Int) (h0 : -9223372036854775808<=x) (h1:x<=9223372036854775807) (w:World) :
  Calls Tryz.prog 208 #[.int .i64 x] w λe w'=>e=.returned (.int .i64 (zaK x))/\w=w':=by
 unfold zaK zi
 by_cases g:x<0
 ·rw[if_pos g]
  by_cases g2:x < -9223372036854775807
  ·rw[zbU (by omega)]
   go_enter Tryz.func208,Tryz.ntmps208
   go_wp2;go_ret;exact⟨rfl,rfl⟩
  ·rw[zH (by omega) (by omega)]
   go_enter Tryz.func208,Tryz.ntmps208
   go_wp2;go_ret;exact⟨rfl,rfl⟩
 ·rw[if_neg g,zH (by omega) (by omega)]
  go_enter Tryz.func208,Tryz.ntmps208
  go_wp2;go_ret;exact⟨rfl,rfl⟩
def zad (xs:List Int):Prop:=∀ j,j<xs.length->-9223372036854775808<=xs.getD j 0/\xs.getD j 0<=9223372036854775807
theorem zjN (xs:List Int) (ad:Option Addr) (cap:Nat) (w:World) (hr:RowAt .i64 w ad xs) (hx:zad xs) (hl:xs.length<=9223372036854775807) :
  Calls Tryz.prog 209 #[.slice ad xs.length cap] w λe w'=>e=.returned (.int .i64 (zr xs))/\w=w':=by
 have HR:=za hr;have HX:=za hx;clear hr hx;obtain⟨n,hn⟩:∃ n,xs.length=n:=⟨_,rfl⟩;have HN:=za hn;rw[hn]at hl ⊢;clear hn
 go_enter Tryz.func209,Tryz.ntmps209
 go_wp2
 go_loop [3,8] (λs i=>∃ k:Nat,k<=n/\i=.int .i64 (k:Int)/\s=.int .i64 (zr (xs.take k))) (λ_ i=>n-(intOf i).toNat)
 case atStart=>exact⟨0,by omega,rfl,rfl⟩
 case round =>
  obtain⟨k,hk,rfl,rfl⟩:=hrel
  by_cases hlt:k<n
  ·obtain⟨b,off,rfl,hc⟩:=HR.out.get (show k<xs.length by rw[HN.out];exact hlt);obtain⟨x0,x1⟩:=HX.out k (by rw[HN.out];exact hlt);obtain⟨s0,s1⟩:=zgE (xs.take k);have hs:zr (xs.take (k+1))=zcD (zr (xs.take k)) (xs.getD k 0):=by rw[zb5 xs (by rw[HN.out];exact hlt),zgf]
   have HS:=za hs;clear hs;have CP:=λw=>ziX (zr (xs.take k)) (xs.getD k 0) s0 s1 x0 x1 w
   generalize xs.getD k 0=x at *
   go_wp2_with (go_at_call 213;(with_reducible refine(CP _).mono ?_);rintro e w1 ⟨rfl,rfl⟩)
   go_round
   case rel=>exact⟨k+1,by omega,by go_num,by rw[HS.out]⟩
   case measure=>simp[intOf];omega
  ·obtain rfl:k=n:=by omega
   have e:xs.take k=xs:=List.take_of_length_le (by rw[HN.out];exact Nat.le_refl _);have HE:=za e;clear e;go_wp2;go_ret;exact⟨zl (by rw[HE.out]),rfl⟩
theorem zhu (xs:List Int) (ad:Option Addr) (cap:Nat) (w:World) (hr:RowAt .i64 w ad xs) (hx:zad xs) (hl:xs.length<=9223372036854775807) :
  Calls Tryz.prog 179 #[.slice ad xs.length cap] w λe w'=>e=.returned (.int .i64 (zP xs))/\w=w':=by
 have HR:=za hr;have HX:=za hx;clear hr hx;obtain⟨n,hn⟩:∃ n,xs.length=n:=⟨_,rfl⟩;have HN:=za hn;rw[hn]at hl ⊢;clear hn
 go_enter Tryz.func179,Tryz.ntmps179
 go_wp2
 go_loop [3,8] (λs i=>∃ k:Nat,k<=n/\i=.int .i64 (k:Int)/\s=.int .i64 (zP (xs.take k))) (λ_ i=>n-(intOf i).toNat)
 case atStart=>exact⟨0,by omega,rfl,rfl⟩
 case round =>
  obtain⟨k,hk,rfl,rfl⟩:=hrel
  by_cases hlt:k<n
  ·obtain⟨b,off,rfl,hc⟩:=HR.out.get (show k<xs.length by rw[HN.out];exact hlt);obtain⟨x0,x1⟩:=HX.out k (by rw[HN.out];exact hlt);obtain⟨s0,s1⟩:=zdB (xs.take k);have hs:zP (xs.take (k+1))=zcD (zP (xs.take k)) (zaK (xs.getD k 0)):=by rw[zb5 xs (by rw[HN.out];exact hlt),zen]
   have HS:=za hs;clear hs;have CP:=λw=>ziX (zP (xs.take k)) (zaK (xs.getD k 0)) (by omega) s1 (zfF _) (ze3 _) w
   have CA:=λw=>zey (xs.getD k 0) x0 x1 w
   generalize xs.getD k 0=x at *
   go_wp2_with (first
    |(go_at_call 213;(with_reducible refine(CP _).mono ?_);rintro e w1 ⟨rfl,rfl⟩)
    |(go_at_call 208;(with_reducible refine(CA _).mono ?_);rintro e w1 ⟨rfl,rfl⟩))
   go_round
   case rel=>exact⟨k+1,by omega,by go_num,by rw[HS.out]⟩
   case measure=>simp[intOf];omega
  ·obtain rfl:k=n:=by omega
   have e:xs.take k=xs:=List.take_of_length_le (by rw[HN.out];exact Nat.le_refl _);have HE:=za e;clear e;go_wp2;go_ret;exact⟨zl (by rw[HE.out]),rfl⟩
end Go.Proofs.YtlodkoimdoeopaaGreatDoor
namespace Go.Proofs.YtlodkoimdoeopaaGreatDoor
def zf (L:List (Int×List Int)) (j:Nat):Int×List Int:=L.getD j (0,[])
def zj7 (x:Int×List Int):Prop := -1099511627776<=x.1/\x.1<=1099511627776/\1<=x.2.length/\x.2.length<=1048576/\zad x.2
def zby (L:List (Int×List Int)):Prop:=∀ j,j<L.length->zj7 (zf L j)
theorem zmj {L:List (Int×List Int)} {j:Nat} (h:j<L.length):zf L j=L[j]:=by
 unfold zf;rw[List.getD_eq_getElem?_getD,List.getElem?_eq_getElem h];rfl
theorem zhc {L:List (Int×List Int)} (x:Int×List Int) {j:Nat} (h:j<L.length):zf (L++[x]) j=zf L j:=by
 unfold zf;rw[List.getD_eq_getElem?_getD,List.getD_eq_getElem?_getD,List.getElem?_append_left h]
theorem zgU (L:List (Int×List Int)) (x:Int×List Int):zf (L++[x]) L.length=x:=by
 unfold zf;rw[List.getD_eq_getElem?_getD,List.getElem?_append_right (Nat.le_refl _),Nat.sub_self];rfl
theorem zmW {L:List (Int×List Int)} {j:Nat} (h:L.length<=j):zf L j=(0,[]):=by
 unfold zf;rw[List.getD_eq_getElem?_getD,List.getElem?_eq_none h];rfl
theorem zcS (f:Nat->Int×List Int) {m j:Nat} (h:j<m):zf ((List.range m).map f) j=f j:=by
 rw[zmj (by rw[List.length_map,List.length_range];exact h)];rw[List.getElem_map,List.getElem_range]
def zdy (s:Int×Int×Bool) (f:Int) (c:Nat):Int×Int×Bool:=if s.2.2=true then(min s.1 f,max s.2.1 (f+(c:Int)),true) else(f,f+(c:Int),true)
def zaf (L:List (Int×List Int)) (i k:Int):Nat->Int×Int×Bool
 |0=>(0,0,false)
 |o+1=>if(o:Int)<i\/k<=(o:Int) then zaf L i k o else zdy (zaf L i k o) (zf L o).1 (zf L o).2.length
def zav (L:List (Int×List Int)) (i k:Int):Int×Int×Bool:=zaf L i k L.length
def zgD (s:Int×Int×Bool):Prop := -1099511627776<=s.1/\s.1<=1099511627776/\-1099511627776<=s.2.1/\s.2.1<=1099512676352/\(s.2.2=true->s.1<s.2.1)/\(s.2.2=false->s.1=0/\s.2.1=0)
theorem zp7 {a b:Int} (h0:a=0) (h1:b=0):zgD (a,b,false):=by
 subst h0;subst h1;exact⟨by simp,by simp,by simp,by simp,(λe=>by cases e),λ_=>⟨rfl,rfl⟩⟩
theorem ziQ {a b:Int} (h0 : -1099511627776<=a) (h1:a<=1099511627776) (h2:a<b) (h3:b<=1099512676352):zgD (a,b,true) :=
 ⟨h0,h1,(by show _<=b;omega),h3,(λ_=>h2),λe=>by cases e⟩
theorem zmD {s:Int×Int×Bool} (h:zgD s) {f:Int} {c:Nat} (f0 : -1099511627776<=f) (f1:f<=1099511627776) (c0:1<=c) (c1:c<=1048576):zgD (zdy s f c):=by
 obtain⟨a,b,g⟩:=s
 cases g
 ·exact ziQ f0 f1 (by omega) (by omega)
 ·obtain⟨h0,h1,h2,h3,h4,_⟩:=h;have h5:a<b:=h4 rfl;have h0 : -1099511627776<=a:=h0;have h1:a<=1099511627776:=h1;have h3:b<=1099512676352:=h3;exact ziQ (by omega) (by omega) (by omega) (by omega)
theorem zjR {L:List (Int×List Int)} (h:zby L) (i k:Int) (o:Nat) (ho:o<=L.length):zgD (zaf L i k o):=by
 induction o with
 |zero=>exact zp7 rfl rfl
 |succ o ih =>
  unfold zaf
  split
  ·exact ih (by omega)
  ·obtain⟨f0,f1,c0,c1,_⟩:=h o (by omega);exact zmD (ih (by omega)) f0 f1 c0 c1
def zbh (L:List (Int×List Int)):Nat->Int
 |0=>0
 |o+1=>max (zbh L o) ((zf L o).2.length:Int)
def zaL (L:List (Int×List Int)):Int:=zbh L L.length
def zdV (L:List (Int×List Int)):Nat->Int
 |0=>0
 |o+1=>max (zdV L o) (zP (zf L o).2)
def zdW (L:List (Int×List Int)):Int:=zdV L L.length
theorem zrD {L:List (Int×List Int)} (h:zby L) (o:Nat) (ho:o<=L.length):0<=zbh L o/\zbh L o<=1048576:=by
 induction o with
 |zero=>exact⟨Int.le_refl 0,by show(0:Int)<=_;omega⟩
 |succ o ih =>
  have:=ih (by omega);obtain⟨_,_,_,c1,_⟩:=h o (by omega);unfold zbh;omega
theorem zll {L:List (Int×List Int)} {j:Nat} (o:Nat) (h:j<o):((zf L j).2.length:Int)<=zbh L o:=by
 induction o with
 |zero=>omega
 |succ o ih =>
  unfold zbh
  by_cases e:j=o
  ·subst e;omega
  ·have:=ih (by omega);omega
def ze7 (l:List Int):Int:=(l.map λx=>max x 0).sum
theorem zoM (l:List Int) (h:∀ j,j<l.length->l.getD j 0<=0):ze7 l=0:=by
 induction l with
 |nil=>rfl
 |cons a l ih =>
  have a0:a<=0:=by have:=h 0 (by simp);simpa using this
  have:=ih (λj hj=>by have:=h (j+1) (by simpa using hj);simpa using this);unfold ze7 at *;simp only[List.map_cons,List.sum_cons];omega
theorem zq3 (l:List Int) (h:∀ j,j<l.length->0<=l.getD j 0):ze7 l=l.sum:=by
 induction l with
 |nil=>rfl
 |cons a l ih =>
  have a0:0<=a:=by have:=h 0 (by simp);simpa using this
  have:=ih (λj hj=>by have:=h (j+1) (by simpa using hj);simpa using this);unfold ze7 at *;simp only[List.map_cons,List.sum_cons];omega
theorem zql (l:List Int) (i:Nat) (x:Int) (hi:i<l.length):ze7 (l.set i x)=ze7 l-max (l.getD i 0) 0+max x 0:=by
 unfold ze7;rw[List.map_set,zpo _ _ _ (by simpa using hi)];rw[List.getD_eq_getElem?_getD,List.getElem?_map,List.getD_eq_getElem?_getD,List.getElem?_eq_getElem hi];rfl
structure Setting (s:Int) (q r:List Int) (n lf:Nat):Prop where
 n0:1<=n
 s0:0<s
 ql:q.length=n
 rl:r.length=n
 rin:∀ j,j<n->0<=r.getD j 0/\r.getD j 0<s
 rsum:r.sum=(lf:Int)*s
structure Given (s:Int) (q r:List Int) (n lf m:Nat):Prop where
 each:∀ j,j<n->((zk q r m).2.getD j 0=r.getD j 0/\(zk q r m).1.getD j 0=q.getD j 0)\/((zk q r m).2.getD j 0 = -1/\(zk q r m).1.getD j 0=q.getD j 0+1/\0<r.getD j 0)
 rests:((lf:Int)-m)*s<=ze7 (zk q r m).2
 sum:(zk q r m).1.sum=q.sum+m
 order:∀ i k,i<n->k<n->(zk q r m).2.getD k 0 = -1->(zk q r m).2.getD i 0≠-1->r.getD i 0<=r.getD k 0
theorem zi2 {s:Int} {q r:List Int} {n lf:Nat} (h:Setting s q r n lf) (m:Nat) (hm:m<=lf):Given s q r n lf m:=by
 induction m with
 |zero =>
  refine⟨λj _=>Or.inl ⟨rfl,rfl⟩,?_,by simp[zk],?_⟩
  ·rw[show(zk q r 0).2=r from rfl,zq3 r (λj hj=>(h.rin j (by rw[←h.rl];exact hj)).1),h.rsum]
   simp
  ·intro i k hi hk hc _;have:=(h.rin k hk).1;rw[show(zk q r 0).2=r from rfl]at hc;omega
 |succ m ih =>
  have I:=ih (by omega);obtain⟨l1,l2⟩:=ze2 q r m;have e1:(zk q r (m+1)).1=(zk q r m).1.set (zF (zk q r m).2 (zk q r m).2.length) ((zk q r m).1.getD (zF (zk q r m).2 (zk q r m).2.length) 0+1):=rfl;have e2:(zk q r (m+1)).2=(zk q r m).2.set (zF (zk q r m).2 (zk q r m).2.length) (-1):=rfl;obtain⟨each,rests,sum,order⟩:=I;rw[h.ql]at l1;rw[h.rl]at l2;have bl:=zhA (zk q r m).2 (zk q r m).2.length;have bm:=zhg (zk q r m).2 (zk q r m).2.length;rw[l2]at bl bm e1 e2;generalize (zk q r m).1=O at *;generalize (zk q r m).2=R at *;obtain⟨b,hb⟩:∃ b,zF R n=b:=⟨_,rfl⟩;rw[hb]at bl bm e1 e2;have n0:=h.n0;have b1:b<n:=by omega
  -- the greatest rest is above nought
  have pos:0<R.getD b 0:=by
   by_cases g:0<R.getD b 0
   ·exact g
   ·exfalso
    have z:=zoM R (λj hj=>by have:=bm j (by omega);omega);have s0:=h.s0;have:s<=((lf:Int)-m)*s:=by
     have:=Int.mul_le_mul_of_nonneg_right (show(1:Int)<=(lf:Int)-m by omega) (show 0<=s by omega);omega
    omega
  have eb:=each b b1;have ub:R.getD b 0=r.getD b 0/\O.getD b 0=q.getD b 0:=by
   rcases eb with g|g
   ·exact g
   ·omega
  have g2:∀ j,(zk q r (m+1)).2.getD j 0=if b=j then -1 else R.getD j 0:=λj=>by rw[e2];exact zdH R b j (-1) (by omega)
  have g1:∀ j,(zk q r (m+1)).1.getD j 0=if b=j then O.getD b 0+1 else O.getD j 0:=λj=>by rw[e1];exact zdH O b j _ (by omega)
  refine⟨?_,?_,?_,?_⟩
  ·intro j hj;rw[g1,g2]
   by_cases e:b=j
   ·subst e;rw[if_pos rfl,if_pos rfl];exact Or.inr ⟨rfl,by omega,by omega⟩
   ·rw[if_neg e,if_neg e];exact each j hj
  ·rw[e2,zql R b (-1) (by omega)];have:=(h.rin b b1).2;have e:((lf:Int)-(m+1:Nat))*s=((lf:Int)-m)*s-s:=by
    rw[show(lf:Int)-(m+1:Nat)=((lf:Int)-m)-1 by omega,Int.sub_mul ((lf:Int)-m) 1,Int.one_mul]
   rw[e];omega
  ·rw[e1,zpo O b _ (by omega),sum];omega
  ·intro i k hi hk hc hu;rw[g2]at hc hu
   by_cases ei:b=i
   ·rw[if_pos ei]at hu;omega
   ·rw[if_neg ei]at hu;have vi:R.getD i 0=r.getD i 0:=by
     rcases each i hi with g|g
     ·exact g.1
     ·omega
    by_cases ek:b=k
    ·subst ek;have:=bm i (by omega);omega
    ·rw[if_neg ek]at hc;exact order i k hi hk hc hu
theorem zfJ (f:Int->Int) (l:List Int) {j:Nat} (h:j<l.length):(l.map f).getD j 0=f (l.getD j 0):=by
 rw[List.getD_eq_getElem?_getD,List.getElem?_map,List.getD_eq_getElem?_getD,List.getElem?_eq_getElem h];rfl
theorem zbk {l:List Int} {P:Int->Prop} (h:∀ x ∈ l,P x) {j:Nat} (hj:j<l.length):P (l.getD j 0):=by
 rw[List.getD_eq_getElem?_getD,List.getElem?_eq_getElem hj];exact h _ (List.getElem_mem hj)
theorem zi1 {l:List Int} {P:Int->Prop} (h:∀ j,j<l.length->P (l.getD j 0)):∀ x ∈ l,P x:=by
 intro x hx;obtain⟨j,hj,rfl⟩:=List.getElem_of_mem hx;have:=h j hj;rw[List.getD_eq_getElem?_getD,List.getElem?_eq_getElem hj]at this;exact this
theorem ztF (s:Int) (l:List Int):(zaA s l).sum=l.sum*16384-(zW s l).sum*s:=by
 induction l with
 |nil=>simp[zaA,zW]
 |cons a l ih =>
  unfold zaA zW at *;simp only[List.map_cons,List.sum_cons];rw[ih];unfold za9;rw[Int.add_mul,Int.add_mul];omega
structure Fits (l:List Int):Prop where
 n0:1<=l.length
 n1:l.length<=1048576
 small:∀ x ∈ l,zaa x
 s0:268435456<=zr l
theorem zfH {l:List Int} (h:Fits l):Setting (zr l) (zW (zr l) l) (zaA (zr l) l) l.length (za7 (zr l) l).toNat/\0<=za7 (zr l) l/\za7 (zr l) l<l.length:=by
 obtain⟨n0,n1,sm,s0⟩:=h;obtain⟨es,e0,e1⟩:=zg2 l sm n1;have rin:∀ j,j<l.length->0<=(zaA (zr l) l).getD j 0/\(zaA (zr l) l).getD j 0<zr l:=by
  intro j hj;unfold zaA;rw[zfJ _ _ hj];obtain⟨_,_,a,b,_⟩:=zf2 (s:=zr l) (by omega) (zbk sm hj);exact⟨a,b⟩
 have rs:(zaA (zr l) l).sum=za7 (zr l) l*zr l:=by
  rw[ztF];unfold za7;rw[Int.sub_mul,es];omega
 have rl:(zaA (zr l) l).length=l.length:=by unfold zaA;simp
 have up:∀ (r:List Int),(∀ j,j<r.length->0<=r.getD j 0/\r.getD j 0<zr l)->0<=r.sum/\(1<=r.length->r.sum<(r.length:Int)*zr l):=by
  intro r
  induction r with
  |nil=>intro _;simp
  |cons a r ih =>
   intro hr;have a0:=hr 0 (by simp);simp only[List.getD_cons_zero]at a0;obtain⟨c0,c1⟩:=ih (λj hj=>by have:=hr (j+1) (by simpa using hj);simpa using this);simp only[List.sum_cons,List.length_cons];refine⟨by omega,λ_=>?_⟩;rw[show((r.length+1:Nat):Int)=(r.length:Int)+1 by omega,Int.add_mul,Int.one_mul];rcases Nat.eq_zero_or_pos r.length with z|z
   ·have:r=[]:=List.eq_nil_of_length_eq_zero z;subst this;simp;omega
   ·have:=c1 z;omega
 obtain⟨u0,u1⟩:=up (zaA (zr l) l) (by rw[rl];exact rin);rw[rs]at u0 u1;rw[rl]at u1;have l0:0<=za7 (zr l) l:=by
  by_cases g:0<=za7 (zr l) l
  ·exact g
  ·exfalso
   have:=Int.mul_le_mul_of_nonneg_right (show za7 (zr l) l<=-1 by omega) (show 0<=zr l by omega);omega
 refine⟨⟨n0,by omega,by unfold zW;simp,rl,rin,?_⟩,l0,?_⟩
 ·rw[rs,show(((za7 (zr l) l).toNat:Nat):Int)=za7 (zr l) l by omega]
 ·by_cases g:za7 (zr l) l<l.length
  ·exact g
  ·exfalso
   have:=Int.mul_le_mul_of_nonneg_right (show(l.length:Int)<=za7 (zr l) l by omega) (show 0<=zr l by omega);have:=u1 n0;omega
theorem zdF {l:List Int} (h:Fits l) :
  (zG l).length=l.length/\(zG l).sum=16384 /\
  (∀ j,j<l.length->(zG l).getD j 0=zae (zr l) (l.getD j 0)\/((zG l).getD j 0=zae (zr l) (l.getD j 0)+1/\0<za9 (zr l) (l.getD j 0))) /\
  (∀ i k,i<l.length->k<l.length->l.getD k 0<l.getD i 0->(zG l).getD k 0<=(zG l).getD i 0):=by
 obtain⟨S,l0,l1⟩:=zfH h;have G:=zi2 S _ (Nat.le_refl _);obtain⟨n0,n1,sm,s0⟩:=h;obtain⟨each,_,sum,order⟩:=G;obtain⟨la,lb⟩:=ze2 (zW (zr l) l) (zaA (zr l) l) (za7 (zr l) l).toNat;have eq:∀ j,j<l.length->(zW (zr l) l).getD j 0=zae (zr l) (l.getD j 0):=λj hj=>zfJ _ _ hj
 have er:∀ j,j<l.length->(zaA (zr l) l).getD j 0=za9 (zr l) (l.getD j 0):=λj hj=>zfJ _ _ hj
 have len:(zG l).length=l.length:=by unfold zG;rw[la];unfold zW;simp
 refine⟨len,?_,?_,?_⟩
 ·have:za7 (zr l) l=16384-(zW (zr l) l).sum:=rfl;unfold zG;rw[sum];omega
 ·intro j hj;have:=each j hj;rw[eq j hj,er j hj]at this;rcases this with g|g
  ·exact Or.inl g.2
  ·exact Or.inr ⟨g.2.1,g.2.2⟩
 ·intro i k hi hk hlt;obtain⟨qi,ri,ri0,ri1,_⟩:=zf2 (s:=zr l) (by omega) (zbk sm hi);obtain⟨qk,rk,rk0,rk1,_⟩:=zf2 (s:=zr l) (by omega) (zbk sm hk);have E1:=each i hi;have E2:=each k hk;have O:=order i k hi hk;rw[eq i hi,er i hi]at E1;rw[eq k hk,er k hk]at E2;rw[er i hi,er k hk]at O;have mono:zae (zr l) (l.getD k 0)<=zae (zr l) (l.getD i 0):=by
   rw[qi,qk];exact Int.ediv_le_ediv (by omega) (by omega)
  unfold zG;generalize (zk (zW (zr l) l) (zaA (zr l) l) (za7 (zr l) l).toNat).1.getD i 0=Ti at *;generalize (zk (zW (zr l) l) (zaA (zr l) l) (za7 (zr l) l).toNat).1.getD k 0=Tk at *
  by_cases e:zae (zr l) (l.getD k 0)=zae (zr l) (l.getD i 0)
  ·have d:za9 (zr l) (l.getD k 0)<za9 (zr l) (l.getD i 0):=by
    unfold za9;rw[e];omega
   rcases E1 with⟨a1,a2⟩|⟨a1,a2,a3⟩
   ·rcases E2 with⟨b1,b2⟩|⟨b1,b2,b3⟩
    ·omega
    ·have:=O b1 (by omega);omega
   ·rcases E2 with⟨b1,b2⟩|⟨b1,b2,b3⟩<;>omega
  ·rcases E1 with⟨a1,a2⟩|⟨a1,a2,a3⟩<;>rcases E2 with⟨b1,b2⟩|⟨b1,b2,b3⟩<;>omega
end Go.Proofs.YtlodkoimdoeopaaGreatDoor
