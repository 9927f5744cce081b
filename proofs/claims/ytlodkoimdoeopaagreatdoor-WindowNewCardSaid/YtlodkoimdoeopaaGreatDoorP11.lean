/- Parts, joined. -/
import Derived.Test.YtlodkoimdoeopaaGreatDoorP10
import Derived.Test.YtlodkoimdoeopaaGreatDoorP07
import Derived.Laws.FloatArith
import Derived.RowKit
import Derived.WalkLawsBesides
import Derived.WalkKit
import Derived.OwnWalk
namespace Go.Proofs.YtlodkoimdoeopaaGreatDoor
open Go.RowKit
theorem zop (a b n v:Int) (hv:zal a b n=v) (h0 : -9223372036854775808<=a) (h1:a<=9223372036854775807) (k0 : -9223372036854775808<=b) (k1:b<=9223372036854775807) (w:World) :
  Calls Tryz.prog 218 #[.int .i64 a,.int .i64 b,.int .i64 n] w λe w'=>e=.returned (.int .i64 v)/\Below w.heap.size w w':=by
 subst hv;exact zmA a b n h0 h1 k0 k1 w
theorem zk2 (a b n v:Int) (hv:zal a b n=v) (h0 : -9223372036854775808<=a) (h1:a<=9223372036854775807) (k0 : -9223372036854775808<=b) (k1:b<=9223372036854775807) (w:World) :
  Calls Tryz.prog 246 #[.int .i64 a,.int .i64 b,.int .i64 n] w λe w'=>e=.returned (.int .i64 v)/\Below w.heap.size w w':=by
 subst hv;exact zkf a b n h0 h1 k0 k1 w
theorem zeu (a b n:Int) : -9223372036854775808<=zal a b n/\zal a b n<=9223372036854775807:=by
 unfold zal
 split
 ·omega
 ·split<;>exact⟨zfK _,ze8 _⟩
set_option maxRecDepth 100000 in
set_option maxHeartbeats 1000000 in
theorem zrw (p q P v u:Int) (hP:zi p=P) (hv:zM (10851744800547*P) q=v) (hu:zM (v*P) q=u) (q0:0<q) (q1:q<=3145728) (P0:0<=P) (P1:P<=4*q) (v0:0<=v) (v1:v<=43406979202188) (u0:0<=u) (u1:u<=173627916808752) (w:World) :
  Calls Tryz.prog 219 #[.int .i64 p,.int .i64 q] w λe w'=>e=.returned (.int .i64 (zdC u 30))/\Below w.heap.size w w':=by
 have C1:=zej 10851744800547 P q v hv (by omega) (by omega) (by omega) (by omega) (by omega) (by omega);have C2:=zej v P q u hu (by omega) (by omega) (by omega) (by omega) (by omega) (by omega);have hp:(decide (p<0)=true/\-p=P)\/(decide (p<0)=false/\p=P):=by
  unfold zi at hP
  by_cases h:p<0
  ·rw[if_pos h]at hP;exact Or.inl ⟨decide_eq_true h,hP⟩
  ·rw[if_neg h]at hP;exact Or.inr ⟨decide_eq_false h,hP⟩
 clear hv hu hP;rcases hp with⟨g,rfl⟩|⟨g,rfl⟩
 all_goals
  go_enter Tryz.func219,Tryz.ntmps219
  go_wp2_with (first
   |(go_at_call 173;(with_reducible refine(C1 _).mono ?_);rintro e w1 ⟨rfl,b1⟩)
   |(go_at_call 173;(with_reducible refine(C2 _).mono ?_);rintro e w2 ⟨rfl,b2⟩))
  go_loopw [6,7,8] (λs t i wr=>∃ k:Nat,k<=30/\s=.int .i64 (zdC u k)/\t=.int .i64 (zbu u k)/\i=.int .i64 ((k:Int)+1)/\Below w.heap.size w wr) (λ_ _ i _=>31-(intOf i).toNat)
  case atStart=>exact⟨0,by omega,rfl,rfl,rfl,bt b1 b2⟩
  case round =>
   obtain⟨k,hk,rfl,rfl,rfl,hb⟩:=hrel;have HB:=za hb;clear hb b1 b2;obtain⟨t0,t1⟩:=zfd u0 u1 k (by omega);obtain⟨s0,s1⟩:=zpF u0 u1 k (by omega)
   by_cases hlt:k<30
   ·obtain⟨x0,x1⟩:=zfd u0 u1 (k+1) (by omega);obtain⟨m0,m1⟩:=zo7 k hlt;have CM:=zej (zbu u k) u (2*((k:Int)+1)*(2*((k:Int)+1)+1)*1099511627776) (zbu u (k+1)) rfl (by omega) (by omega) (by omega) (by omega) (by omega) (by omega);have hs:zdC u (k+1)=if k % 2=0 then zdC u k-zbu u (k+1) else zdC u k+zbu u (k+1):=rfl;have HS:=za hs;clear hs
    by_cases hp:k % 2=0
    ·have tst:(((k:Int)+1) % 2 == 1)=true:=beq_iff_eq.2 (by omega);have HP:=za hp;clear hp
     go_wp2_with (go_at_call 173;(with_reducible refine(CM _).mono ?_);rintro e w3 ⟨rfl,b3⟩)
     go_roundw
     case rel=>exact⟨k+1,by omega,by rw[HS.out,if_pos HP.out],rfl,by go_num,bt HB.out b3⟩
     case measure=>simp[intOf];omega
    ·have tst:(((k:Int)+1) % 2 == 1)=false:=beq_eq_false_iff_ne.2 (by omega);have HP:=za hp;clear hp
     go_wp2_with (go_at_call 173;(with_reducible refine(CM _).mono ?_);rintro e w3 ⟨rfl,b3⟩)
     go_roundw
     case rel=>exact⟨k+1,by omega,by rw[HS.out,if_neg HP.out],rfl,by go_num,bt HB.out b3⟩
     case measure=>simp[intOf];omega
   ·obtain rfl:k=30:=by omega
    go_wp2;go_ret;exact⟨rfl,HB.out⟩
theorem ziU (p q:Int) (q0:0<q) (q1:q<=3145728) (h0 : -(4*q)<=p) (h1:p<=4*q) (w:World) :
  Calls Tryz.prog 219 #[.int .i64 p,.int .i64 q] w λe w'=>e=.returned (.int .i64 (zT p q))/\Below w.heap.size w w':=by
 obtain⟨a0,a1⟩:=zhS h0 h1;obtain⟨v0,v1,u0,u1⟩:=zpV q0 a0 a1;exact zrw p q _ _ _ rfl rfl rfl q0 q1 a0 a1 v0 v1 u0 u1 w
set_option maxRecDepth 100000 in
set_option maxHeartbeats 1000000 in
theorem zmH (p q P v u:Int) (hP:zi p=P) (hv:zM (10851744800547*P) q=v) (hu:zM (v*P) q=u) (q0:0<q) (q1:q<=3145728) (P0:0<=P) (P1:P<=4*q) (v0:0<=v) (v1:v<=43406979202188) (u0:0<=u) (u1:u<=173627916808752) (w:World) :
  Calls Tryz.prog 247 #[.int .i64 p,.int .i64 q] w λe w'=>e=.returned (.int .i64 (zdC u 30))/\Below w.heap.size w w':=by
 have C1:=zbx 10851744800547 P q v hv (by omega) (by omega) (by omega) (by omega) (by omega) (by omega);have C2:=zbx v P q u hu (by omega) (by omega) (by omega) (by omega) (by omega) (by omega);have hp:(decide (p<0)=true/\-p=P)\/(decide (p<0)=false/\p=P):=by
  unfold zi at hP
  by_cases h:p<0
  ·rw[if_pos h]at hP;exact Or.inl ⟨decide_eq_true h,hP⟩
  ·rw[if_neg h]at hP;exact Or.inr ⟨decide_eq_false h,hP⟩
 clear hv hu hP;rcases hp with⟨g,rfl⟩|⟨g,rfl⟩
 all_goals
  go_enter Tryz.func247,Tryz.ntmps247
  go_wp2_with (first
   |(go_at_call 180;(with_reducible refine(C1 _).mono ?_);rintro e w1 ⟨rfl,b1⟩)
   |(go_at_call 180;(with_reducible refine(C2 _).mono ?_);rintro e w2 ⟨rfl,b2⟩))
  go_loopw [7,8,9,10] (λa m t i wr=>∃ (k:Nat) (A M:Int),k<=30/\A-M=zdC u k/\0<=A/\0<=M/\A<=((k:Int)+1)*4503599627370496/\M<=((k:Int)+1)*4503599627370496/\a=.int .i64 A/\m=.int .i64 M/\t=.int .i64 (zbu u k)/\i=.int .i64 ((k:Int)+1)/\Below w.heap.size w wr) (λ_ _ _ i _=>31-(intOf i).toNat)
  case atStart=>exact⟨0,1099511627776,0,by omega,rfl,by omega,by omega,by omega,by omega,rfl,rfl,rfl,rfl,bt b1 b2⟩
  case round =>
   obtain⟨k,A,M,hk,hs0,A0,M0,A1,M1,rfl,rfl,rfl,rfl,hb⟩:=hrel;have HB:=za hb;clear hb b1 b2;obtain⟨t0,t1⟩:=zfd u0 u1 k (by omega);have HS0:=za hs0;clear hs0
   by_cases hlt:k<30
   ·obtain⟨x0,x1⟩:=zfd u0 u1 (k+1) (by omega);obtain⟨m0,m1⟩:=zo7 k hlt;have CM:=zbx (zbu u k) u (2*((k:Int)+1)*(2*((k:Int)+1)+1)*1099511627776) (zbu u (k+1)) rfl (by omega) (by omega) (by omega) (by omega) (by omega) (by omega);have hs:zdC u (k+1)=if k % 2=0 then zdC u k-zbu u (k+1) else zdC u k+zbu u (k+1):=rfl;have HS:=za hs;clear hs
    by_cases hp:k % 2=0
    ·have tst:(((k:Int)+1) % 2 == 1)=true:=beq_iff_eq.2 (by omega);have HP:=za hp;clear hp
     go_wp2_with (go_at_call 180;(with_reducible refine(CM _).mono ?_);rintro e w3 ⟨rfl,b3⟩)
     go_roundw
     case rel=>exact⟨k+1,A,M+zbu u (k+1),by omega,by rw[HS.out,if_pos HP.out,←HS0.out];omega,by omega,by omega,by omega,by omega,rfl,rfl,rfl,by go_num,bt HB.out b3⟩
     case measure=>simp[intOf];omega
    ·have tst:(((k:Int)+1) % 2 == 1)=false:=beq_eq_false_iff_ne.2 (by omega);have HP:=za hp;clear hp
     go_wp2_with (go_at_call 180;(with_reducible refine(CM _).mono ?_);rintro e w3 ⟨rfl,b3⟩)
     go_roundw
     case rel=>exact⟨k+1,A+zbu u (k+1),M,by omega,by rw[HS.out,if_neg HP.out,←HS0.out];omega,by omega,by omega,by omega,by omega,rfl,rfl,rfl,by go_num,bt HB.out b3⟩
     case measure=>simp[intOf];omega
   ·obtain rfl:k=30:=by omega
    go_wp2;go_ret;exact⟨by rw[←HS0.out];rfl,HB.out⟩
theorem zhH (p q:Int) (q0:0<q) (q1:q<=3145728) (h0 : -(4*q)<=p) (h1:p<=4*q) (w:World) :
  Calls Tryz.prog 247 #[.int .i64 p,.int .i64 q] w λe w'=>e=.returned (.int .i64 (zT p q))/\Below w.heap.size w w':=by
 obtain⟨a0,a1⟩:=zhS h0 h1;obtain⟨v0,v1,u0,u1⟩:=zpV q0 a0 a1;exact zmH p q _ _ _ rfl rfl rfl q0 q1 a0 a1 v0 v1 u0 u1 w
theorem zwy (p q:Int) (w:World) (_h0 : -9223372036854775808<=p) (_h1:p<=9223372036854775807) :
  Calls Tryz.prog 217 #[.int .i64 p,.int .i64 q] w λe w'=>e=.returned (.bool (zgz p q))/\Below w.heap.size w w':=by
 unfold zgz
 by_cases g1:1<=q
 ·by_cases g2:q<=1048576
  ·by_cases g3 : -4*q<=p
   ·have e1:decide (1<=q)=true:=decide_eq_true g1;have e2:decide (q<=1048576)=true:=decide_eq_true g2;have e3:decide (-4*q<=p)=true:=decide_eq_true g3;rw[e1,e2,e3]
    go_enter Tryz.func217,Tryz.ntmps217
    go_wp2;go_ret;exact⟨rfl,Below.refl _ _⟩
   ·have e1:decide (1<=q)=true:=decide_eq_true g1;have e2:decide (q<=1048576)=true:=decide_eq_true g2;have e3:decide (-4*q<=p)=false:=decide_eq_false g3;rw[e1,e2,e3]
    go_enter Tryz.func217,Tryz.ntmps217
    go_wp2;go_ret;exact⟨rfl,Below.refl _ _⟩
  ·have e1:decide (1<=q)=true:=decide_eq_true g1;have e2:decide (q<=1048576)=false:=decide_eq_false g2;rw[e1,e2]
   go_enter Tryz.func217,Tryz.ntmps217
   go_wp2;go_ret;exact⟨rfl,Below.refl _ _⟩
 ·have e1:decide (1<=q)=false:=decide_eq_false g1;rw[e1]
  go_enter Tryz.func217,Tryz.ntmps217
  go_wp2;go_ret;exact⟨rfl,Below.refl _ _⟩
theorem zqe (p q:Int) (w:World) (_h0 : -9223372036854775808<=p) (_h1:p<=9223372036854775807) :
  Calls Tryz.prog 245 #[.int .i64 p,.int .i64 q] w λe w'=>e=.returned (.bool (zgz p q))/\Below w.heap.size w w':=by
 unfold zgz
 by_cases g1:q<1
 ·rw[show decide (1<=q)=false from decide_eq_false (by omega)]
  go_enter Tryz.func245,Tryz.ntmps245
  go_wp2;go_ret;exact⟨rfl,Below.refl _ _⟩
 by_cases g2:1048576<q
 ·rw[show decide (q<=1048576)=false from decide_eq_false (by omega),Bool.and_false]
  go_enter Tryz.func245,Tryz.ntmps245
  go_wp2;go_ret;exact⟨rfl,Below.refl _ _⟩
 rw[show decide (1<=q)=true from decide_eq_true (by omega),show decide (q<=1048576)=true from decide_eq_true (by omega)]
 by_cases g3:p<=4*q
 ·have e1:decide (p<=4*q)=true:=decide_eq_true g3;rw[e1]
  go_enter Tryz.func245,Tryz.ntmps245
  go_wp2;go_ret;exact⟨rfl,Below.refl _ _⟩
 ·have e1:decide (p<=4*q)=false:=decide_eq_false g3;rw[e1]
  go_enter Tryz.func245,Tryz.ntmps245
  go_wp2;go_ret;exact⟨rfl,Below.refl _ _⟩
set_option maxHeartbeats 1000000 in
theorem zoQ (p q:Int) (h0 : -9223372036854775808<=p) (h1:p<=9223372036854775807) (w:World) :
  Calls Tryz.prog 187 #[.int .i64 p,.int .i64 q] w λe w'=>e=.returned (.int .i64 (zah p q))/\Below w.heap.size w w':=by
 have CM:=λw=>zwy p q w h0 h1
 rcases ziw p q with⟨g,a1,a2,a3,a4⟩|⟨g,_⟩
 ·rw[g]at CM
  by_cases g1:p<=-3*q
  ·rw[show zah p q=0 from if_neg (by omega)];clear g
   go_enter Tryz.func187,Tryz.ntmps187
   go_wp2_with (go_at_call 217;(with_reducible refine(CM _).mono ?_);rintro e w1 ⟨rfl,b1⟩)
   go_ret;exact⟨rfl,b1⟩
  by_cases g2:3*q<=p
  ·rw[show zah p q=0 from if_neg (by omega)];clear g
   go_enter Tryz.func187,Tryz.ntmps187
   go_wp2_with (go_at_call 217;(with_reducible refine(CM _).mono ?_);rintro e w1 ⟨rfl,b1⟩)
   go_ret;exact⟨rfl,b1⟩
  rw[show zah p q=zW (zal (zT p q) (zT p (3*q)) 40) 10 from if_pos ⟨g,by omega,by omega⟩];clear g;have CS:=ziU p q (by omega) (by omega) (by omega) (by omega);have CT:=ziU p (3*q) (by omega) (by omega) (by omega) (by omega);obtain⟨s0,s1⟩:=zfB (p:=p) (q:=q) (by omega) (by omega) (by omega);obtain⟨t0,t1⟩:=zfB (p:=p) (q:=3*q) (by omega) (by omega) (by omega);have CX:=zop (zT p q) (zT p (3*q)) 40 _ rfl (by omega) (by omega) (by omega) (by omega);obtain⟨x0,x1⟩:=zeu (zT p q) (zT p (3*q)) 40;have CH:=zeD (zal (zT p q) (zT p (3*q)) 40) 10 x0 x1 (by omega) (by omega);generalize zW (zal (zT p q) (zT p (3*q)) 40) 10=z at *;generalize zal (zT p q) (zT p (3*q)) 40=y at *;generalize zT p (3*q)=t at *;generalize zT p q=s at *
  go_enter Tryz.func187,Tryz.ntmps187
  go_wp2_with (first
   |(go_at_call 217;(with_reducible refine(CM _).mono ?_);rintro e w1 ⟨rfl,b1⟩)
   |(go_at_call 219;(with_reducible refine(CS _).mono ?_);rintro e w2 ⟨rfl,b2⟩)
   |(go_at_call 219;(with_reducible refine(CT _).mono ?_);rintro e w3 ⟨rfl,b3⟩)
   |(go_at_call 218;(with_reducible refine(CX _).mono ?_);rintro e w4 ⟨rfl,b4⟩)
   |(go_at_call 130;(with_reducible refine(CH _).mono ?_);rintro e w5 ⟨rfl,b5⟩))
  go_ret;exact⟨rfl,bt (bt (bt (bt b1 b2) b3) b4) b5⟩
 ·rw[show zah p q=0 from if_neg (by rw[g];simp)];rw[g]at CM;clear g
  go_enter Tryz.func187,Tryz.ntmps187
  go_wp2_with (go_at_call 217;(with_reducible refine(CM _).mono ?_);rintro e w1 ⟨rfl,b1⟩)
  go_ret;exact⟨rfl,b1⟩
set_option maxHeartbeats 1000000 in
theorem zkJ (p q:Int) (h0 : -9223372036854775808<=p) (h1:p<=9223372036854775807) (w:World) :
  Calls Tryz.prog 231 #[.int .i64 p,.int .i64 q] w λe w'=>e=.returned (.int .i64 (zah p q))/\Below w.heap.size w w':=by
 have CM:=λw=>zqe p q w h0 h1
 rcases ziw p q with⟨g,a1,a2,a3,a4⟩|⟨g,_⟩
 ·rw[g]at CM
  by_cases g1:p<=-3*q
  ·rw[show zah p q=0 from if_neg (by omega)];clear g
   go_enter Tryz.func231,Tryz.ntmps231
   go_wp2_with (go_at_call 245;(with_reducible refine(CM _).mono ?_);rintro e w1 ⟨rfl,b1⟩)
   go_ret;exact⟨rfl,b1⟩
  by_cases g2:3*q<=p
  ·rw[show zah p q=0 from if_neg (by omega)];clear g
   go_enter Tryz.func231,Tryz.ntmps231
   go_wp2_with (go_at_call 245;(with_reducible refine(CM _).mono ?_);rintro e w1 ⟨rfl,b1⟩)
   go_ret;exact⟨rfl,b1⟩
  rw[show zah p q=zW (zal (zT p q) (zT p (3*q)) 40) 10 from if_pos ⟨g,by omega,by omega⟩];clear g;have CS:=zhH p q (by omega) (by omega) (by omega) (by omega);have CT:=zhH p (3*q) (by omega) (by omega) (by omega) (by omega);obtain⟨s0,s1⟩:=zfB (p:=p) (q:=q) (by omega) (by omega) (by omega);obtain⟨t0,t1⟩:=zfB (p:=p) (q:=3*q) (by omega) (by omega) (by omega);have CX:=zk2 (zT p q) (zT p (3*q)) 40 _ rfl (by omega) (by omega) (by omega) (by omega);obtain⟨x0,x1⟩:=zeu (zT p q) (zT p (3*q)) 40;have CH:=zfP (zal (zT p q) (zT p (3*q)) 40) 10 x0 x1;generalize zW (zal (zT p q) (zT p (3*q)) 40) 10=z at *;generalize zal (zT p q) (zT p (3*q)) 40=y at *;generalize zT p (3*q)=t at *;generalize zT p q=s at *
  go_enter Tryz.func231,Tryz.ntmps231
  go_wp2_with (first
   |(go_at_call 245;(with_reducible refine(CM _).mono ?_);rintro e w1 ⟨rfl,b1⟩)
   |(go_at_call 247;(with_reducible refine(CS _).mono ?_);rintro e w2 ⟨rfl,b2⟩)
   |(go_at_call 247;(with_reducible refine(CT _).mono ?_);rintro e w3 ⟨rfl,b3⟩)
   |(go_at_call 246;(with_reducible refine(CX _).mono ?_);rintro e w4 ⟨rfl,b4⟩)
   |(go_at_call 96;(with_reducible refine(CH _).mono ?_);rintro e w5 ⟨rfl,b5⟩))
  go_ret;exact⟨rfl,bt (bt (bt (bt b1 b2) b3) b4) b5⟩
 ·rw[show zah p q=0 from if_neg (by rw[g];simp)];rw[g]at CM;clear g
  go_enter Tryz.func231,Tryz.ntmps231
  go_wp2_with (go_at_call 245;(with_reducible refine(CM _).mono ?_);rintro e w1 ⟨rfl,b1⟩)
  go_ret;exact⟨rfl,b1⟩
end Go.Proofs.YtlodkoimdoeopaaGreatDoor
namespace Go.Proofs.YtlodkoimdoeopaaGreatDoor
open Go.RowKit Ieee
def zd4 (p q:Int):Int:=3*(p*p*p)-5*(p*p)*q+2*(q*q*q)
def zcS (p q:Int):Int:=5*(p*p)*q-p*p*p-8*p*(q*q)+4*(q*q*q)
def zbd (p q:Int):Int:=if 1<=q/\q<=262144/\p<2*q/\-2*q<p then(if zi p<q then zM (zd4 (zi p) q*1073741824) (2*(q*q*q)) else zM (zcS (zi p) q*1073741824) (2*(q*q*q))) else 0
theorem zrJ (p q:Int):zbd (-p) q=zbd p q:=by
 have e:(1<=q/\q<=262144/\-p<2*q/\-2*q < -p)↔(1<=q/\q<=262144/\p<2*q/\-2*q<p):=by omega
 unfold zbd;rw[zlH];simp only[e]
theorem zro {q:Int} (q0:1<=q) (q1:q<=262144):1<=q*q/\q*q<=68719476736/\1<=q*q*q/\q*q*q<=18014398509481984:=by
 have a:1*1<=q*q:=Int.mul_le_mul q0 q0 (by omega) (by omega);have b:q*q<=262144*262144:=Int.mul_le_mul q1 q1 (by omega) (by omega);have c:1*1<=q*q*q:=Int.mul_le_mul a q0 (by omega) (by omega);have d:q*q*q<=262144*262144*262144:=Int.mul_le_mul b q1 (by omega) (by omega);omega
theorem zi7 {P q:Int} (q0:1<=q) (q1:q<=262144) (P0:0<=P) (P1:P<=2*q) :
  0<=P*P/\P*P<=274877906944/\0<=P*P*P/\P*P*P<=144115188075855872/\0<=5*(P*P)*q/\5*(P*P)*q<=360287970189639680/\0<=8*P*(q*q)/\8*P*(q*q)<=288230376151711744:=by
 obtain⟨s0,s1,c0,c1⟩:=zro q0 q1;have P2:P<=524288:=by omega
 have a0:0<=P*P:=Int.mul_nonneg P0 P0;have a1:P*P<=524288*524288:=Int.mul_le_mul P2 P2 P0 (by omega);have b0:0<=P*P*P:=Int.mul_nonneg a0 P0;have b1:P*P*P<=524288*524288*524288:=Int.mul_le_mul a1 P2 P0 (by omega);have d0:0<=5*(P*P)*q:=Int.mul_nonneg (by omega) (by omega);have d1:5*(P*P)*q<=5*(524288*524288)*262144:=Int.mul_le_mul (by omega) q1 (by omega) (by omega);have g0:0<=8*P*(q*q):=Int.mul_nonneg (by omega) (by omega);have g1:8*P*(q*q)<=8*524288*68719476736:=Int.mul_le_mul (by omega) s1 (by omega) (by omega);omega
set_option maxRecDepth 100000 in
set_option maxHeartbeats 1000000 in
theorem zrd (p q P:Int) (hP:zi p=P) (h0 : -9223372036854775808<p) (h1:p<=9223372036854775807) (q0:1<=q) (q1:q<=262144) (g0:p<2*q) (g1 : -2*q<p) (w:World) :
  Calls Tryz.prog 230 #[.int .i64 p,.int .i64 q] w λe w'=>e=.returned (.int .i64 (if P<q then zM (zd4 P q*1073741824) (2*(q*q*q)) else zM (zcS P q*1073741824) (2*(q*q*q))))/\Below w.heap.size w w':=by
 have P0:0<=P:=by rw[←hP];exact zbc p
 have P1:P<=2*q:=by rw[←hP];unfold zi;split<;>omega
 obtain⟨a0,a1,b0,b1,d0,d1,e0,e1⟩:=zi7 q0 q1 P0 P1;obtain⟨s0,s1,c0,c1⟩:=zro q0 q1;have hp:(decide (p<0)=true/\-p=P)\/(decide (p<0)=false/\p=P):=by
  unfold zi at hP
  by_cases h:p<0
  ·rw[if_pos h]at hP;exact Or.inl ⟨decide_eq_true h,hP⟩
  ·rw[if_neg h]at hP;exact Or.inr ⟨decide_eq_false h,hP⟩
 clear hP
 by_cases g:P<q
 ·rw[if_pos g];have C:=zbx (zd4 P q) 1073741824 (2*(q*q*q)) _ rfl (by unfold zd4;omega) (by unfold zd4;omega) (by omega) (by omega) (by omega) (by omega);generalize zM (zd4 P q*1073741824) (2*(q*q*q))=z at *;unfold zd4 at C;have gd:decide (P<q)=true:=decide_eq_true g;rcases hp with⟨hp,hP⟩|⟨hp,hP⟩
  ·go_enter Tryz.func230,Tryz.ntmps230
   go_wp2_with (go_at_call 180;(with_reducible refine(C _).mono ?_);rintro e w1 ⟨rfl,b1⟩)
   go_ret;exact⟨rfl,b1⟩
  ·subst hP
   go_enter Tryz.func230,Tryz.ntmps230
   go_wp2_with (go_at_call 180;(with_reducible refine(C _).mono ?_);rintro e w1 ⟨rfl,b1⟩)
   go_ret;exact⟨rfl,b1⟩
 ·rw[if_neg g];have C:=zbx (zcS P q) 1073741824 (2*(q*q*q)) _ rfl (by unfold zcS;omega) (by unfold zcS;omega) (by omega) (by omega) (by omega) (by omega);generalize zM (zcS P q*1073741824) (2*(q*q*q))=z at *;unfold zcS at C;have gd:decide (P<q)=false:=decide_eq_false g;rcases hp with⟨hp,hP⟩|⟨hp,hP⟩
  ·go_enter Tryz.func230,Tryz.ntmps230
   go_wp2_with (go_at_call 180;(with_reducible refine(C _).mono ?_);rintro e w1 ⟨rfl,b1⟩)
   go_ret;exact⟨rfl,b1⟩
  ·subst hP
   go_enter Tryz.func230,Tryz.ntmps230
   go_wp2_with (go_at_call 180;(with_reducible refine(C _).mono ?_);rintro e w1 ⟨rfl,b1⟩)
   go_ret;exact⟨rfl,b1⟩
theorem zoV (p q:Int) (h0 : -9223372036854775808<=p) (h1:p<=9223372036854775807) (w:World) :
  Calls Tryz.prog 230 #[.int .i64 p,.int .i64 q] w λe w'=>e=.returned (.int .i64 (zbd p q))/\Below w.heap.size w w':=by
 by_cases g:1<=q/\q<=262144/\p<2*q/\-2*q<p
 ·rw[show zbd p q=if zi p<q then zM (zd4 (zi p) q*1073741824) (2*(q*q*q)) else zM (zcS (zi p) q*1073741824) (2*(q*q*q)) from if_pos g];obtain⟨q0,q1,g0,g1⟩:=g;exact zrd p q _ rfl (by omega) h1 q0 q1 g0 g1 w
 ·rw[show zbd p q=0 from if_neg g]
  by_cases g1:q<1
  ·clear g
   go_enter Tryz.func230,Tryz.ntmps230
   go_wp2;go_ret;exact⟨rfl,Below.refl _ _⟩
  by_cases g2:262144<q
  ·clear g
   go_enter Tryz.func230,Tryz.ntmps230
   go_wp2;go_ret;exact⟨rfl,Below.refl _ _⟩
  by_cases g3:2*q<=p
  ·clear g
   go_enter Tryz.func230,Tryz.ntmps230
   go_wp2;go_ret;exact⟨rfl,Below.refl _ _⟩
  have g4:p<=-2*q:=by omega
  clear g
  go_enter Tryz.func230,Tryz.ntmps230
  go_wp2;go_ret;exact⟨rfl,Below.refl _ _⟩
end Go.Proofs.YtlodkoimdoeopaaGreatDoor
namespace Go.Proofs.YtlodkoimdoeopaaGreatDoor
open Go.RowKit
theorem zcb {a b A B:Int} (a0:0<=a) (a1:a<=A) (b0:0<=b) (b1:b<=B):0<=a*b/\a*b<=A*B:=⟨Int.mul_nonneg a0 b0,Int.mul_le_mul a1 b1 b0 (by omega)⟩
set_option maxRecDepth 100000 in
theorem zoq (p q v:Int) (hv:zd4 p q=v) (q0:1<=q) (q1:q<=262144) (p0:0<=p) (g:p<q) (w:World) :
  Calls Tryz.prog 204 #[.int .i64 p,.int .i64 q] w λe w'=>e=.returned (.int .i64 v)/\w=w':=by
 obtain⟨a0,a1⟩:=zcb (a:=3*p) (A:=786432) (b:=p) (B:=262144) (by omega) (by omega) p0 (by omega);obtain⟨b0,b1⟩:=zcb a0 a1 p0 (show p<=262144 by omega);obtain⟨c0,c1⟩:=zcb (a:=5*p) (A:=1310720) (b:=p) (B:=262144) (by omega) (by omega) p0 (by omega);obtain⟨d0,d1⟩:=zcb c0 c1 (show 0<=q by omega) q1;obtain⟨e0,e1⟩:=zcb (a:=2*q) (A:=524288) (b:=q) (B:=262144) (by omega) (by omega) (by omega) q1;obtain⟨f0,f1⟩:=zcb e0 e1 (show 0<=q by omega) q1;have HV:=za hv;clear hv
 go_enter Tryz.func204,Tryz.ntmps204
 go_wp2;go_ret;exact⟨zm (by rw[←HV.out];unfold zd4;simp only[Int.mul_assoc]),rfl⟩
set_option maxRecDepth 100000 in
theorem znf (p q v:Int) (hv:zcS p q=v) (q0:1<=q) (q1:q<=262144) (g:q<=p) (p1:p<2*q) (w:World) :
  Calls Tryz.prog 204 #[.int .i64 p,.int .i64 q] w λe w'=>e=.returned (.int .i64 v)/\w=w':=by
 have p0:0<=p:=by omega
 have p2:p<=524288:=by omega
 obtain⟨a0,a1⟩:=zcb (a:=p) (A:=524288) (b:=p) (B:=524288) p0 p2 p0 p2;obtain⟨b0,b1⟩:=zcb a0 a1 p0 p2;obtain⟨c0,c1⟩:=zcb (a:=5*p) (A:=2621440) (b:=p) (B:=524288) (by omega) (by omega) p0 p2;obtain⟨d0,d1⟩:=zcb c0 c1 (show 0<=q by omega) q1;obtain⟨e0,e1⟩:=zcb (a:=4*q) (A:=1048576) (b:=q) (B:=262144) (by omega) (by omega) (by omega) q1;obtain⟨f0,f1⟩:=zcb e0 e1 (show 0<=q by omega) q1;obtain⟨g0,g1⟩:=zcb (a:=8*p) (A:=4194304) (b:=q) (B:=262144) (by omega) (by omega) (by omega) q1;obtain⟨h0,h1⟩:=zcb g0 g1 (show 0<=q by omega) q1;have HV:=za hv;clear hv
 go_enter Tryz.func204,Tryz.ntmps204
 go_wp2;go_ret;exact⟨zm (by rw[←HV.out];unfold zcS;simp only[Int.mul_assoc]),rfl⟩
set_option maxRecDepth 100000 in
set_option maxHeartbeats 1000000 in
theorem zxB (p q P:Int) (hP:zi p=P) (h0 : -9223372036854775808<p) (h1:p<=9223372036854775807) (q0:1<=q) (q1:q<=262144) (g0:p<2*q) (g1 : -2*q<p) (w:World) :
  Calls Tryz.prog 174 #[.int .i64 p,.int .i64 q] w λe w'=>e=.returned (.int .i64 (if P<q then zM (zd4 P q*1073741824) (2*(q*q*q)) else zM (zcS P q*1073741824) (2*(q*q*q))))/\Below w.heap.size w w':=by
 have P0:0<=P:=by rw[←hP];exact zbc p
 have P1:P<2*q:=by rw[←hP];unfold zi;split<;>omega
 obtain⟨a0,a1,b0,b1,d0,d1,e0,e1⟩:=zi7 q0 q1 P0 (by omega);obtain⟨s0,s1,c0,c1⟩:=zro q0 q1;obtain⟨v,hv,v0,v1⟩:∃ v,(if P<q then zd4 P q else zcS P q)=v/\-9223372036854775808<=v/\v<=9223372036854775807:=by
  refine⟨_,rfl,?_⟩;unfold zd4 zcS
  split<;>omega
 have hp:(decide (p<0)=true/\-p=P)\/(decide (p<0)=false/\p=P):=by
  unfold zi at hP
  by_cases h:p<0
  ·rw[if_pos h]at hP;exact Or.inl ⟨decide_eq_true h,hP⟩
  ·rw[if_neg h]at hP;exact Or.inr ⟨decide_eq_false h,hP⟩
 clear hP;have CD:∀ w:World,Calls Tryz.prog 204 #[.int .i64 P,.int .i64 q] w λe w'=>e=.returned (.int .i64 v)/\w=w':=by
  intro w
  by_cases g:P<q
  ·rw[if_pos g]at hv;exact zoq P q v hv q0 q1 P0 g w
  ·rw[if_neg g]at hv;exact znf P q v hv q0 q1 (by omega) P1 w
 have ez:(if P<q then zM (zd4 P q*1073741824) (2*(q*q*q)) else zM (zcS P q*1073741824) (2*(q*q*q)))=zM (v*1073741824) (2*q*q*q):=by
  rw[←hv,show 2*q*q*q=2*(q*q*q) by simp only[Int.mul_assoc]]
  split<;>rfl
 rw[ez];have eq3:2*q*q*q=2*(q*q*q):=by simp only[Int.mul_assoc]
 obtain⟨f0,f1⟩:=zcb (a:=2*q) (A:=524288) (b:=q) (B:=262144) (by omega) (by omega) (by omega) q1;have CM:=zej v 1073741824 (2*q*q*q) _ rfl (by omega) (by omega) (by omega) (by omega) (by omega) (by omega);obtain⟨t0,t1⟩:1<=2*q*q*q/\2*q*q*q<=36028797018963968:=by omega
 generalize zM (v*1073741824) (2*q*q*q)=z at *;clear ez eq3 hv a0 a1 b0 b1 d0 d1 e0 e1 s0 s1 c0 c1 v0 v1;rcases hp with⟨hp,hP⟩|⟨hp,hP⟩
 ·go_enter Tryz.func174,Tryz.ntmps174
  go_wp2_with (first
   |(go_at_call 204;(with_reducible refine(CD _).mono ?_);rintro e w1 ⟨rfl,rfl⟩)
   |(go_at_call 173;(with_reducible refine(CM _).mono ?_);rintro e w1 ⟨rfl,b1⟩))
  go_ret;exact⟨rfl,b1⟩
 ·subst hP
  go_enter Tryz.func174,Tryz.ntmps174
  go_wp2_with (first
   |(go_at_call 204;(with_reducible refine(CD _).mono ?_);rintro e w1 ⟨rfl,rfl⟩)
   |(go_at_call 173;(with_reducible refine(CM _).mono ?_);rintro e w1 ⟨rfl,b1⟩))
  go_ret;exact⟨rfl,b1⟩
theorem zmt (p q:Int) (h0 : -9223372036854775808<=p) (h1:p<=9223372036854775807) (w:World) :
  Calls Tryz.prog 174 #[.int .i64 p,.int .i64 q] w λe w'=>e=.returned (.int .i64 (zbd p q))/\Below w.heap.size w w':=by
 by_cases g:1<=q/\q<=262144/\p<2*q/\-2*q<p
 ·rw[show zbd p q=if zi p<q then zM (zd4 (zi p) q*1073741824) (2*(q*q*q)) else zM (zcS (zi p) q*1073741824) (2*(q*q*q)) from if_pos g];obtain⟨q0,q1,g0,g1⟩:=g;exact zxB p q _ rfl (by omega) h1 q0 q1 g0 g1 w
 ·rw[show zbd p q=0 from if_neg g]
  by_cases g1:q<1
  ·clear g
   go_enter Tryz.func174,Tryz.ntmps174
   go_wp2;go_ret;exact⟨rfl,Below.refl _ _⟩
  by_cases g2:262144<q
  ·clear g
   go_enter Tryz.func174,Tryz.ntmps174
   go_wp2;go_ret;exact⟨rfl,Below.refl _ _⟩
  by_cases g3:p<=-2*q
  ·clear g
   go_enter Tryz.func174,Tryz.ntmps174
   go_wp2;go_ret;exact⟨rfl,Below.refl _ _⟩
  have g4:2*q<=p:=by omega
  clear g
  go_enter Tryz.func174,Tryz.ntmps174
  go_wp2;go_ret;exact⟨rfl,Below.refl _ _⟩
def zaW (n m i j:Int):Int:=2*m*j-(2*i+1)*n+m
def zaq (n m:Int):Int:=if n<m then 2*m else 2*n
def inW (f n m i j:Int):Bool:=if f=0 then decide (i*n<(j+1)*m) && decide (j*m<(i+1)*n) else decide (zaW n m i j<(if f=2 then 3*zaq n m else 2*zaq n m)) && decide (-(if f=2 then 3*zaq n m else 2*zaq n m)<zaW n m i j)
def zab (f n m i j:Int):Int:=if f=0 then zM ((min ((i+1)*n) ((j+1)*m)-max (i*n) (j*m))*1073741824) n else if f=1 then zbd (zaW n m i j) (zaq n m) else zah (zaW n m i j) (zaq n m)
theorem zcU {x y A B:Int} (h0 : -A<=x) (h1:x<=A) (k0:0<=y) (k1:y<=B) (hA:0<=A) : -(A*B)<=x*y/\x*y<=A*B:=by
 have a:x*y<=A*y:=Int.mul_le_mul_of_nonneg_right h1 k0;have b:(-A)*y<=x*y:=Int.mul_le_mul_of_nonneg_right h0 k0;have c:A*y<=A*B:=Int.mul_le_mul_of_nonneg_left k1 hA;rw[Int.neg_mul]at b;omega
theorem zcz {n m i j:Int} (n0:1<=n) (n1:n<=65536) (m0:1<=m) (m1:m<=65536) (i0:0<=i) (i1:i<m) (j0 : -1048576<=j) (j1:j<=1048576) :
  (0<=i*n/\i*n<=4294967296)/\(0<=(i+1)*n/\(i+1)*n<=4294967296)/\(-68719476736<=j*m/\j*m<=68719476736)/\(-68719542272<=(j+1)*m/\(j+1)*m<=68719542272)/\(-137438953472<=2*m*j/\2*m*j<=137438953472)/\(0<=(2*i+1)*n/\(2*i+1)*n<=8589934592):=by
 have a:=zcU (x:=i) (y:=n) (A:=65536) (B:=65536) (by omega) (by omega) (by omega) n1 (by omega);have a0:0<=i*n:=Int.mul_nonneg i0 (by omega);have b:=zcU (x:=i+1) (y:=n) (A:=65536) (B:=65536) (by omega) (by omega) (by omega) n1 (by omega);have b0:0<=(i+1)*n:=Int.mul_nonneg (by omega) (by omega);have c:=zcU (x:=j) (y:=m) (A:=1048576) (B:=65536) j0 j1 (by omega) m1 (by omega);have d:=zcU (x:=j+1) (y:=m) (A:=1048577) (B:=65536) (by omega) (by omega) (by omega) m1 (by omega);have e:=zcU (x:=j) (y:=2*m) (A:=1048576) (B:=131072) j0 j1 (by omega) (by omega) (by omega);rw[Int.mul_comm j (2*m)]at e;have g:=zcU (x:=2*i+1) (y:=n) (A:=131072) (B:=65536) (by omega) (by omega) (by omega) n1 (by omega);have g0:0<=(2*i+1)*n:=Int.mul_nonneg (by omega) (by omega);omega
theorem zvV {n m:Int} (n0:1<=n) (n1:n<=65536) (m0:1<=m) (m1:m<=65536):2<=zaq n m/\zaq n m<=131072:=by unfold zaq;split<;>omega
theorem znF {n m i j:Int} (n0:1<=n) (n1:n<=65536) (m0:1<=m) (m1:m<=65536) (i0:0<=i) (i1:i<m) (j0 : -1048576<=j) (j1:j<=1048576) : -200000000000<=zaW n m i j/\zaW n m i j<=200000000000:=by
 obtain⟨_,_,_,_,e,g⟩:=zcz n0 n1 m0 m1 i0 i1 j0 j1;unfold zaW;omega
theorem ziR (n m i j:Int) (n0:1<=n) (n1:n<=65536) (m0:1<=m) (m1:m<=65536) (i0:0<=i) (i1:i<m) (j0 : -1048576<=j) (j1:j<=1048576) (w:World) :
  Calls Tryz.prog 229 #[.int .i64 n,.int .i64 m,.int .i64 i,.int .i64 j] w λe w'=>e=.returned (.tuple #[.int .i64 (zaW n m i j),.int .i64 (zaq n m)])/\Below w.heap.size w w':=by
 obtain⟨_,_,_,_,⟨e0,e1⟩,⟨g0,g1⟩⟩:=zcz n0 n1 m0 m1 i0 i1 j0 j1;unfold zaW zaq
 by_cases g:n<m
 ·rw[if_pos g]
  go_enter Tryz.func229,Tryz.ntmps229
  go_wp2;exact bodyPost_ret (v:=.tuple #[.int .i64 (2*m*j-(2*i+1)*n+m),.int .i64 (2*m)]) (by simp[results,Tryz.results229,go_sem]) rfl ⟨rfl,Below.refl _ _⟩
 ·rw[if_neg g]
  go_enter Tryz.func229,Tryz.ntmps229
  go_wp2;exact bodyPost_ret (v:=.tuple #[.int .i64 (2*m*j-(2*i+1)*n+m),.int .i64 (2*n)]) (by simp[results,Tryz.results229,go_sem]) rfl ⟨rfl,Below.refl _ _⟩
theorem zta (n m i j:Int) (n0:1<=n) (n1:n<=65536) (m0:1<=m) (m1:m<=65536) (i0:0<=i) (i1:i<m) (j0 : -1048576<=j) (j1:j<=1048576) (w:World) :
  Calls Tryz.prog 206 #[.int .i64 0,.int .i64 n,.int .i64 m,.int .i64 i,.int .i64 j] w λe w'=>e=.returned (.bool (inW 0 n m i j))/\Below w.heap.size w w':=by
 obtain⟨⟨a0,a1⟩,⟨b0,b1⟩,⟨c0,c1⟩,⟨d0,d1⟩,_,_⟩:=zcz n0 n1 m0 m1 i0 i1 j0 j1;rw[show inW 0 n m i j=(decide (i*n<(j+1)*m) && decide (j*m<(i+1)*n)) from if_pos rfl]
 by_cases g:i*n<(j+1)*m
 ·rw[decide_eq_true g,Bool.true_and]
  go_enter Tryz.func206,Tryz.ntmps206
  go_wp2;go_ret;exact⟨rfl,Below.refl _ _⟩
 ·rw[decide_eq_false g,Bool.false_and]
  go_enter Tryz.func206,Tryz.ntmps206
  go_wp2;go_ret;exact⟨rfl,Below.refl _ _⟩
theorem ztx (f n m i j:Int) (hf:f=1\/f=2) (n0:1<=n) (n1:n<=65536) (m0:1<=m) (m1:m<=65536) (i0:0<=i) (i1:i<m) (j0 : -1048576<=j) (j1:j<=1048576) (w:World) :
  Calls Tryz.prog 206 #[.int .i64 f,.int .i64 n,.int .i64 m,.int .i64 i,.int .i64 j] w λe w'=>e=.returned (.bool (inW f n m i j))/\Below w.heap.size w w':=by
 have CF:=ziR n m i j n0 n1 m0 m1 i0 i1 j0 j1;obtain⟨p0,p1⟩:=znF n0 n1 m0 m1 i0 i1 j0 j1;obtain⟨q0,q1⟩:=zvV n0 n1 m0 m1;have e:inW f n m i j=(decide (zaW n m i j<(if f=2 then 3*zaq n m else 2*zaq n m)) && decide (-(if f=2 then 3*zaq n m else 2*zaq n m)<zaW n m i j)):=if_neg (by omega);rw[e];clear e;generalize zaW n m i j=p at *;generalize zaq n m=q at *;rcases hf with rfl|rfl
 ·rw[if_neg (by omega)]
  by_cases g:p<2*q
  ·rw[decide_eq_true g,Bool.true_and]
   go_enter Tryz.func206,Tryz.ntmps206
   go_wp2_with (go_at_call 229;(with_reducible refine(CF _).mono ?_);rintro e w1 ⟨rfl,b1⟩)
   go_ret;exact⟨rfl,b1⟩
  ·rw[decide_eq_false g,Bool.false_and]
   go_enter Tryz.func206,Tryz.ntmps206
   go_wp2_with (go_at_call 229;(with_reducible refine(CF _).mono ?_);rintro e w1 ⟨rfl,b1⟩)
   go_ret;exact⟨rfl,b1⟩
 ·rw[if_pos rfl]
  by_cases g:p<3*q
  ·rw[decide_eq_true g,Bool.true_and]
   go_enter Tryz.func206,Tryz.ntmps206
   go_wp2_with (go_at_call 229;(with_reducible refine(CF _).mono ?_);rintro e w1 ⟨rfl,b1⟩)
   go_ret;exact⟨rfl,b1⟩
  ·rw[decide_eq_false g,Bool.false_and]
   go_enter Tryz.func206,Tryz.ntmps206
   go_wp2_with (go_at_call 229;(with_reducible refine(CF _).mono ?_);rintro e w1 ⟨rfl,b1⟩)
   go_ret;exact⟨rfl,b1⟩
theorem zsx (f n m i j:Int) (f0:0<=f) (f1:f<=2) (n0:1<=n) (n1:n<=65536) (m0:1<=m) (m1:m<=65536) (i0:0<=i) (i1:i<m) (j0 : -1048576<=j) (j1:j<=1048576) (w:World) :
  Calls Tryz.prog 206 #[.int .i64 f,.int .i64 n,.int .i64 m,.int .i64 i,.int .i64 j] w λe w'=>e=.returned (.bool (inW f n m i j))/\Below w.heap.size w w':=by
 by_cases h:f=0
 ·subst h;exact zta n m i j n0 n1 m0 m1 i0 i1 j0 j1 w
 ·exact ztx f n m i j (by omega) n0 n1 m0 m1 i0 i1 j0 j1 w
theorem zlY (f n m i j:Int) (f0:0<=f) (f1:f<=2) (n0:1<=n) (n1:n<=65536) (m0:1<=m) (m1:m<=65536) (i0:0<=i) (i1:i<m) (j0 : -1048576<=j) (j1:j<=1048576) (w:World) :
  Calls Tryz.prog 207 #[.int .i64 f,.int .i64 n,.int .i64 m,.int .i64 i,.int .i64 j] w λe w'=>e=.returned (.int .i64 (zab f n m i j))/\Below w.heap.size w w':=by
 obtain⟨⟨a0,a1⟩,⟨b0,b1⟩,⟨c0,c1⟩,⟨d0,d1⟩,_,_⟩:=zcz n0 n1 m0 m1 i0 i1 j0 j1
 by_cases h:f=0
 ·subst h;obtain⟨lo,hlo⟩:∃ lo,max (i*n) (j*m)=lo:=⟨_,rfl⟩;obtain⟨hi',hhi⟩:∃ hi',min ((i+1)*n) ((j+1)*m)=hi':=⟨_,rfl⟩;have CM:=zbx (hi'-lo) 1073741824 n _ rfl (by omega) (by omega) (by omega) (by omega) (by omega) (by omega);rw[show zab 0 n m i j=zM ((hi'-lo)*1073741824) n by rw[←hlo,←hhi];exact if_pos rfl];generalize zM ((hi'-lo)*1073741824) n=z at *;have l:(decide (i*n<j*m)=true/\lo=j*m)\/(decide (i*n<j*m)=false/\lo=i*n):=by
   by_cases g:i*n<j*m
   ·exact Or.inl ⟨decide_eq_true g,by omega⟩
   ·exact Or.inr ⟨decide_eq_false g,by omega⟩
  have r:(decide ((j+1)*m<(i+1)*n)=true/\hi'=(j+1)*m)\/(decide ((j+1)*m<(i+1)*n)=false/\hi'=(i+1)*n):=by
   by_cases g:(j+1)*m<(i+1)*n
   ·exact Or.inl ⟨decide_eq_true g,by omega⟩
   ·exact Or.inr ⟨decide_eq_false g,by omega⟩
  clear hlo hhi;rcases l with⟨l,rfl⟩|⟨l,rfl⟩<;>rcases r with⟨r,rfl⟩|⟨r,rfl⟩
  all_goals
   go_enter Tryz.func207,Tryz.ntmps207
   go_wp2_with (go_at_call 180;(with_reducible refine(CM _).mono ?_);rintro e w1 ⟨rfl,b1⟩)
   go_ret;exact⟨rfl,b1⟩
 ·have CF:=ziR n m i j n0 n1 m0 m1 i0 i1 j0 j1;obtain⟨p0,p1⟩:=znF n0 n1 m0 m1 i0 i1 j0 j1
  by_cases h1:f=1
  ·subst h1;rw[show zab 1 n m i j=zbd (zaW n m i j) (zaq n m) by unfold zab;rw[if_neg (by omega),if_pos rfl]];have CK:=zoV (zaW n m i j) (zaq n m) (by omega) (by omega);generalize zbd (zaW n m i j) (zaq n m)=z at *;generalize zaW n m i j=p at *;generalize zaq n m=q at *
   go_enter Tryz.func207,Tryz.ntmps207
   go_wp2_with (first
    |(go_at_call 229;(with_reducible refine(CF _).mono ?_);rintro e w1 ⟨rfl,b1⟩)
    |(go_at_call 230;(with_reducible refine(CK _).mono ?_);rintro e w2 ⟨rfl,b2⟩))
   go_ret;exact⟨rfl,bt b1 b2⟩
  ·obtain rfl:f=2:=by omega
   rw[show zab 2 n m i j=zah (zaW n m i j) (zaq n m) by unfold zab;rw[if_neg (by omega),if_neg (by omega)]];have CK:=zkJ (zaW n m i j) (zaq n m) (by omega) (by omega);generalize zah (zaW n m i j) (zaq n m)=z at *;generalize zaW n m i j=p at *;generalize zaq n m=q at *
   go_enter Tryz.func207,Tryz.ntmps207
   go_wp2_with (first
    |(go_at_call 229;(with_reducible refine(CF _).mono ?_);rintro e w1 ⟨rfl,b1⟩)
    |(go_at_call 231;(with_reducible refine(CK _).mono ?_);rintro e w2 ⟨rfl,b2⟩))
   go_ret;exact⟨rfl,bt b1 b2⟩
theorem zgS {n m i j:Int}:inW 0 n m i j=true↔i*n<(j+1)*m/\j*m<(i+1)*n:=by
 rw[show inW 0 n m i j=(decide (i*n<(j+1)*m) && decide (j*m<(i+1)*n)) from if_pos rfl]
 simp
theorem zix {f n m i j:Int} (hf:f≠0):inW f n m i j=true↔zaW n m i j<(if f=2 then 3*zaq n m else 2*zaq n m)/\-(if f=2 then 3*zaq n m else 2*zaq n m)<zaW n m i j:=by
 rw[show inW f n m i j=(decide (zaW n m i j<(if f=2 then 3*zaq n m else 2*zaq n m)) && decide (-(if f=2 then 3*zaq n m else 2*zaq n m)<zaW n m i j)) from if_neg hf]
 simp
theorem zng {f n m:Int} (n0:1<=n) (n1:n<=65536) (m0:1<=m) (m1:m<=65536):2*n+2*m<=(if f=2 then 3*zaq n m else 2*zaq n m)/\(if f=2 then 3*zaq n m else 2*zaq n m)<=393216:=by
 unfold zaq;split<;>split<;>omega
theorem ziz (n m i j:Int):zaW n m i j=2*(j*m)-2*(i*n)-n+m:=by
 unfold zaW;have e1:2*m*j=2*(j*m):=by rw[Int.mul_assoc,Int.mul_comm m j]
 have e2:(2*i+1)*n=2*(i*n)+n:=by rw[Int.add_mul,Int.mul_assoc,Int.one_mul]
 rw[e1,e2];omega
theorem zk7 {f n m i:Int} (n0:1<=n) (n1:n<=65536) (m0:1<=m) (m1:m<=65536):inW f n m i (i*n / m)=true:=by
 have e:=Int.mul_ediv_add_emod (i*n) m;have r0:=Int.emod_nonneg (i*n) (show m≠0 by omega);have r1:=Int.emod_lt_of_pos (i*n) (show 0<m by omega);rw[Int.mul_comm]at e;have a1:(i*n / m+1)*m=i*n / m*m+m:=by rw[Int.add_mul,Int.one_mul]
 have a2:(i+1)*n=i*n+n:=by rw[Int.add_mul,Int.one_mul]
 by_cases hf:f=0
 ·subst hf;rw[zgS,a1,a2];omega
 ·rw[zix hf,ziz];have:=zng (f:=f) n0 n1 m0 m1;omega
theorem zgj {f n m i j:Int} (n0:1<=n) (n1:n<=65536) (m0:1<=m) (m1:m<=65536) (i0:0<=i) (i1:i<m) (h:inW f n m i j=true) : -262144<j/\j<262144:=by
 have a0:0<=i*n:=Int.mul_nonneg i0 (by omega);have a1:i*n<=i*65536:=Int.mul_le_mul_of_nonneg_left n1 i0;have up:262144<=j->262144*m<=j*m:=λg=>Int.mul_le_mul_of_nonneg_right g (by omega)
 have dn:j<=-262144->j*m<=-262144*m:=λg=>Int.mul_le_mul_of_nonneg_right g (by omega)
 by_cases hf:f=0
 ·subst hf;rw[zgS,Int.add_mul,Int.add_mul,Int.one_mul,Int.one_mul]at h
  constructor
  ·by_cases g : -262144<j
   ·exact g
   ·have:=dn (by omega);omega
  ·by_cases g:j<262144
   ·exact g
   ·have:=up (by omega);omega
 ·rw[zix hf,ziz]at h;have:=zng (f:=f) n0 n1 m0 m1
  constructor
  ·by_cases g : -262144<j
   ·exact g
   ·have:=dn (by omega);omega
  ·by_cases g:j<262144
   ·exact g
   ·have:=up (by omega);omega
theorem ziu {f n m i a b c:Int} (m0:1<=m) (h1:a<=b) (h2:b<=c) (ha:inW f n m i a=true) (hc:inW f n m i c=true):inW f n m i b=true:=by
 have l:a*m<=b*m:=Int.mul_le_mul_of_nonneg_right h1 (by omega);have r:b*m<=c*m:=Int.mul_le_mul_of_nonneg_right h2 (by omega)
 by_cases hf:f=0
 ·subst hf;rw[zgS,Int.add_mul,Int.add_mul,Int.one_mul,Int.one_mul]at *;omega
 ·rw[zix hf,ziz]at *;omega
def zfx (f n m i j0:Int) (c:Nat):Prop:=0<c/\inW f n m i (j0-1)=false/\(∀ k:Nat,k<c->inW f n m i (j0+k)=true)/\inW f n m i (j0+c)=false
theorem ziE {f n m i a b:Int} {c d:Nat} (m0:1<=m) (h:zfx f n m i a c) (g:zfx f n m i b d):a=b/\c=d:=by
 obtain⟨h0,h1,h2,h3⟩:=h;obtain⟨g0,g1,g2,g3⟩:=g;have ha:inW f n m i a=true:=by have:=h2 0 h0;simpa using this
 have hb:inW f n m i b=true:=by have:=g2 0 g0;simpa using this
 have hal:inW f n m i (a+(c-1:Nat))=true:=h2 (c-1) (by omega);have hbl:inW f n m i (b+(d-1:Nat))=true:=g2 (d-1) (by omega);have no:∀ {x y:Int},inW f n m i x=false->inW f n m i y=true->x≠y:=by
  rintro x y hx hy rfl;rw[hx]at hy;cases hy
 have ab:a=b:=by
  by_cases q:a<b
  ·exact absurd (ziu m0 (show a<=b-1 by omega) (show b-1<=b by omega) ha hb) (by rw[g1];decide)
  ·by_cases q2:b<a
   ·exact absurd (ziu m0 (show b<=a-1 by omega) (show a-1<=a by omega) hb ha) (by rw[h1];decide)
   ·omega
 subst ab;refine⟨rfl,?_⟩
 by_cases q:c<d
 ·have:=g2 c q;rw[h3]at this;cases this
 ·by_cases q2:d<c
  ·have:=h2 d q2;rw[g3]at this;cases this
  ·omega
def zcG (f n m i j0:Int) (c:Nat):List Value:=(List.range c).map λk=>Value.int .i64 (zab f n m i (j0+(k:Nat)))
theorem zlx (f n m i j0:Int) (c:Nat):zcG f n m i j0 (c+1)=zcG f n m i j0 c++[Value.int .i64 (zab f n m i (j0+(c:Nat)))]:=by
 unfold zcG;rw[List.range_succ,List.map_append];rfl
theorem zmV (f n m i j0:Int) (c:Nat):(zcG f n m i j0 c).length=c:=by unfold zcG;rw[List.length_map,List.length_range]
theorem zoD (f n m i:Int) (h:0<=f/\f<=2/\1<=n/\n<=65536/\1<=m/\m<=65536/\0<=i/\i<m) (w:World) :
  Calls Tryz.prog 205 #[.int .i64 f,.int .i64 n,.int .i64 m,.int .i64 i] w λe w'=>e=.returned (.bool true)/\Below w.heap.size w w':=by
 obtain⟨h1,h2,h3,h4,h5,h6,h7,h8⟩:=h
 go_enter Tryz.func205,Tryz.ntmps205
 go_wp2;go_ret;exact⟨rfl,Below.refl _ _⟩
theorem zxd:(Tryz.prog.info? 2).map (λi=>(i.zero,i.size,i.bytes))=some (some (.int .i64 0),1,8):=by kernel_rfl
theorem zcm {B:Nat} {e:TypeId} {k:Nat} {v:Value} {n:Nat} {xs:List Value} {w w':World} (h:w.ownsRow B e k v n xs) (hb:Below w.heap.size w w'):w'.ownsRow B e k v n xs:=by
 refine⟨h.1,?_⟩;rcases h.2 with h2|⟨g,cap,cur,hv,hB,hg,r⟩
 ·exact .inl h2
 ·refine .inr ⟨g,cap,cur,hv,hB,?_,r⟩;have hlt:g<w.heap.size:=by
   rcases Nat.lt_or_ge g w.heap.size with hlt|hge
   ·exact hlt
   ·rw[Array.getElem?_eq_none hge]at hg;cases hg
  rw[hb.block g hlt];exact hg
theorem zvY {w0 wc w2:World} {f n m i j0:Int} {c:Nat} {v v':Value} {o:Obj} (hb:Below w0.heap.size w0 wc) (hown:wc.ownsRow w0.heap.size 2 1 v c (zcG f n m i j0 c))
  (hown':w2.ownsRow w0.heap.size 2 1 v' (c+1) (zcG f n m i j0 c++[Value.int .i64 (zab f n m i (j0+(c:Nat)))]))
  (hgrow:(wc.alloc o).grownBy w2 v.ownBlock) :
  w2.ownsRow w0.heap.size 2 1 v' (c+1) (zcG f n m i j0 (c+1))/\Below w0.heap.size w0 w2:=by
 have hs:=hb.size;exact⟨by rw[zlx];exact hown',(hb.alloc (by omega) o).grown hgrow (by simp;omega) (λj hj=>(hown.lt j hj).1)⟩
set_option maxHeartbeats 4000000 in
set_option maxRecDepth 1000000 in
theorem zoG (f n m i:Int) (h:0<=f/\f<=2/\1<=n/\n<=65536/\1<=m/\m<=65536/\0<=i/\i<m) (w:World) :
  Calls Tryz.prog 176 #[.int .i64 f,.int .i64 n,.int .i64 m,.int .i64 i] w λe w'=>∃ (j0:Int) (c:Nat) (v:Value),zfx f n m i j0 c/\-262144<j0/\j0<262144/\c<=524288/\e=.returned (.tuple #[.int .i64 j0,v])/\w'.ownsRow w.heap.size 2 1 v c (zcG f n m i j0 c)/\Below w.heap.size w w':=by
 have CM:=zoD f n m i h;obtain⟨h1,h2,h3,h4,h5,h6,h7,h8⟩:=h;have ST:=zk7 (f:=f) (i:=i) h3 h4 h5 h6;have CI:=λj (g0 : -1048576<=j) (g1:j<=1048576)=>zsx f n m i j h1 h2 h3 h4 h5 h6 h7 h8 g0 g1
 have CW:=λj (g0 : -1048576<=j) (g1:j<=1048576)=>zlY f n m i j h1 h2 h3 h4 h5 h6 h7 h8 g0 g1
 have BD:=λj (g:inW f n m i j=true)=>zgj (f:=f) (j:=j) h3 h4 h5 h6 h7 h8 g
 obtain⟨a0,a1⟩:0<=i*n/\i*n<=4294967296:=by
  have a:=zcU (x:=i) (y:=n) (A:=65536) (B:=65536) (by omega) (by omega) (by omega) h4 (by omega);have a0:0<=i*n:=Int.mul_nonneg h7 (by omega);omega
 have hm0:(m == 0)=false:=beq_eq_false_iff_ne.2 (by omega);obtain⟨i0,hi,hz0,hz1,hz2⟩:=info_parts zxd;have BDH:=za BD;have CIH:=za CI;have CWH:=za CW;have STH:=za ST;clear BD CI CW ST
 go_enter Tryz.func176,Tryz.ntmps176
 go_wp2_with (go_at_call 205;(with_reducible refine(CM _).mono ?_);rintro e w1 ⟨rfl,b1⟩)
 go_loopw [10] (λu wr=>∃ j:Int,u=.int .i64 j/\inW f n m i j=true/\Below w.heap.size w wr) (λu _=>(intOf u+262144).toNat)
 case atStart=>exact⟨_,rfl,STH.out,b1⟩
 case round =>
  obtain⟨j,rfl,hin,hb⟩:=hrel;obtain⟨j0,j1⟩:=BDH.out _ hin;have HB:=za hb;have HI:=za hin;clear hb hin b1;have C1:=CIH.out (j-1) (by omega) (by omega)
  by_cases hp:inW f n m i (j-1)=true
  ·rw[hp]at C1;have HP:=za hp;clear hp
   go_wp2_with (go_at_call 206;(with_reducible refine(C1 _).mono ?_);rintro e w2 ⟨rfl,b2⟩)
   go_roundw
   case rel=>exact⟨j-1,by go_num,HP.out,bt HB.out b2⟩
   case measure=>simp[intOf];omega
  ·have hp':inW f n m i (j-1)=false:=by simpa using hp
   rw[hp']at C1;have hp1:=za hp';clear hp hp'
   go_wp2_with (go_at_call 206;(with_reducible refine(C1 _).mono ?_);rintro e w2 ⟨rfl,b2⟩)
   go_loopw [10] (λu wq=>u=.int .i64 j/\Below w.heap.size w wq) (λ_ _=>0)
   case atStart=>exact⟨rfl,bt HB.out b2⟩
   case round =>
    obtain⟨rfl,hb⟩:=hrel;have HB2:=za hb;clear hb b2;have C2:=CIH.out j (by omega) (by omega);rw[HI.out]at C2
    go_wp2_with (go_at_call 206;(with_reducible refine(C2 _).mono ?_);rintro e w3 ⟨rfl,b3⟩)
    go_loopw [10,12] (λu v wq=>∃ c:Nat,u=.int .i64 (j+(c:Int))/\(∀ k:Nat,k<c->inW f n m i (j+(k:Int))=true)/\(c:Int)<=262144-j/\wq.ownsRow w.heap.size 2 1 v c (zcG f n m i j c)/\Below w.heap.size w wq) (λu _ _=>(262144-intOf u).toNat)
    case atStart=>exact⟨0,by simp,λk hk=>absurd hk (by omega),by omega,World.ownsRow_nil _ _ _ _,bt HB2.out b3⟩
    case round =>
     obtain⟨c,rfl,hall,hcb,hown,hb⟩:=hrel;have HA:=za hall;have HB3:=za hb;have HO:=za hown;clear hall hb hown b3 C1 C2;have C3:=CIH.out (j+(c:Int)) (by omega) (by omega)
     by_cases hp:inW f n m i (j+(c:Int))=true
     ·obtain⟨q0,q1⟩:=BDH.out _ hp;rw[hp]at C3;have HP:=za hp;clear hp;have C4:=CWH.out (j+(c:Int)) (by omega) (by omega)
      go_wp2_with (first
       |(go_at_call 206;(with_reducible refine(C3 _).mono ?_);rintro e w4 ⟨rfl,b4⟩)
       |(go_at_call 207;(with_reducible refine(C4 _).mono ?_);rintro e w5 ⟨rfl,b5⟩)
       |(at_builtin;refine wpList_append_own _ rfl _ _ 28 rfl w.heap.size 2 i0 (.int .i64 0) 1 8 Tryz.underlying28 hi hz0 hz1 hz2 rfl (by decide) _ _ _ rfl ((zcm (zcm HO.out b4) b5).alloc _) ⟨w5.heap.size,0,none⟩ 1 1 [.int .i64 (zab f n m i (j+(c:Int)))] rfl rfl ?c1 ?c2 ?c3 ?c4 ?c5 ?_))
      case c1 =>
       intro p u hp
       match p,hp with
       |0,hp=>simp at hp;subst hp;simp[Addr.add]
      case c2=>intro u hu;simp at hu;subst hu;rfl
      case c3=>unfold maxLen;omega
      case c4=>omega
      case c5=>have:=HB3.out.size;have:=b4.size;have:=b5.size;simp;omega
      intro v' w6 hown' hgrow _;have R:=zvY (bt (bt HB3.out b4) b5) (zcm (zcm HO.out b4) b5) hown' hgrow;clear hown' hgrow;go_wp2
      go_roundw
      case rel=>exact⟨c+1,by go_num,λk hk=>by
       by_cases e:k=c
       ·subst e;exact HP.out
       ·exact HA.out k (by omega),by omega,R.1,R.2⟩
      case measure=>simp[intOf];omega
     ·have hp':inW f n m i (j+(c:Int))=false:=by simpa using hp
      rw[hp']at C3;have HP:=za hp';clear hp hp'
      go_wp2_with (go_at_call 206;(with_reducible refine(C3 _).mono ?_);rintro e w4 ⟨rfl,b4⟩)
      have c0:0<c:=by
       rcases Nat.eq_zero_or_pos c with h|h
       ·subst h;have:=HP.out;rw[show j+((0:Nat):Int)=j by omega,HI.out]at this
        cases this
       ·exact h
      exact bodyPost_ret (v:=.tuple #[.int .i64 j,_]) (by simp[results,Tryz.results176,go_sem]) rfl ⟨j,c,_,⟨c0,hp1.out,HA.out,HP.out⟩,by omega,by omega,by omega,rfl,zcm HO.out b4,bt HB3.out b4⟩
end Go.Proofs.YtlodkoimdoeopaaGreatDoor
