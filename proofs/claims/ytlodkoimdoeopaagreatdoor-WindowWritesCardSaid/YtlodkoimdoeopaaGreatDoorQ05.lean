/- Parts, joined. -/
import Derived.Test.YtlodkoimdoeopaaGreatDoorQ04
import Derived.Test.YtlodkoimdoeopaaGreatDoorQ03
import Derived.Deep.RegionHeld3
import Derived.Deep.DeepCutAuto
namespace Go.Proofs.YtlodkoimdoeopaaGreatDoor
open Go.RowKit
theorem zdh (w:World) (u v:Value) (t:TypeId):(w.alloc (.cells #[u,v] t)).cell? ⟨w.heap.size,0,none⟩=some u:=by simp
theorem zcN (w:World) (u v:Value) (t:TypeId):(w.alloc (.cells #[u,v] t)).cell? ⟨w.heap.size,1,none⟩=some v:=by simp
theorem zbC (w:World) (o:Obj):w.heap.size<(w.alloc o).heap.size:=by simp
theorem zvT (x:Int):lo (wrap64 (lo x))=lo x:=by unfold wrap64 lo;omega
theorem zxV {x:Int} (h0 : -9223372036854775808<=x) (h1:x<=9223372036854775807):wrap64 (lo x)=x:=by unfold wrap64 lo;omega
theorem zwA {x:Int} (h:x < -9223372036854775808\/9223372036854775807<x):hi x≠hi (wrap64 (lo x)):=by unfold wrap64 hi lo;omega
theorem zyj (x:Int) : -9223372036854775808<=wrap64 x:=by unfold wrap64;omega
theorem zym (x:Int):wrap64 x<=9223372036854775807:=by unfold wrap64;omega
set_option maxHeartbeats 1000000 in
theorem zbb (x:Int) (w:World) :
  Calls Tryz.prog 203 #[.agg #[.int .i64 (hi x),.int .u64 (lo x)]] w λe w'=>e=.returned (.int .i64 (zE x))/\Below w.heap.size w w':=by
 have n0:=zdh w (.int .i64 (hi x)) (.int .u64 (lo x)) 259;have n1:=zcN w (.int .i64 (hi x)) (.int .u64 (lo x)) 259;have n2:=zbC w (.cells #[.int .i64 (hi x),.int .u64 (lo x)] 259);have CO:=zkd (wrap64 (lo x)) (zyj _) (zym _);rw[zvT]at CO
 by_cases h : -9223372036854775808<=x/\x<=9223372036854775807
 ·rw[zH h.1 h.2];have e:=zxV h.1 h.2;rw[show hi (wrap64 (lo x))=hi x by rw[e]]at CO;have E:=za e;clear e h
  go_enter Tryz.func203,Tryz.ntmps203
  go_wp2
  go_region_held3 (λw'=>w'.cell? ⟨w.heap.size,0,none⟩=some (.int .i64 (hi x))/\w'.cell? ⟨w.heap.size,1,none⟩=some (.int .u64 (lo x)))
   (first|exact⟨n0,n1⟩|exact⟨y0,y1⟩)
   (first
    |(go_at_call 202;(with_reducible refine(CO _).mono ?_);rintro e w1 ⟨rfl,b1⟩;have y0:=cb b1 n2 n0;have y1:=cb b1 n2 n1))
  clear n0 n1 n2;go_wp2;go_ret;refine⟨zl E.out,?_⟩
  repeat (first|exact Below.refl _ _|with_reducible refine ba ?_ _|with_reducible refine bs ?_ (by omega) _|with_reducible refine bd ?_|(with_reducible refine bt ?_ (by assumption)))
 ·have hne:=zwA (x:=x) (by omega);generalize hi (wrap64 (lo x))=h' at *;have hb:(hi x == h')=false:=beq_eq_false_iff_ne.2 hne;have E:=za (hl x);have l0:=lo0 x;have l1:=lo1 x;have NE:=za h;clear hne h
  by_cases hn:hi x<0
  ·have dn:decide (hi x<0)=true:=decide_eq_true hn;rw[zcY (by have:=E.out;have:=NE.out;omega)]
   go_enter Tryz.func203,Tryz.ntmps203
   go_wp2
   go_region_held3 (λw'=>w'.cell? ⟨w.heap.size,0,none⟩=some (.int .i64 (hi x))/\w'.cell? ⟨w.heap.size,1,none⟩=some (.int .u64 (lo x)))
    (first|exact⟨n0,n1⟩|exact⟨y0,y1⟩)
    (first
     |(go_at_call 202;(with_reducible refine(CO _).mono ?_);rintro e w1 ⟨rfl,b1⟩;have y0:=cb b1 n2 n0;have y1:=cb b1 n2 n1))
   clear n0 n1 n2;go_wp2;go_ret;refine⟨rfl,?_⟩
   repeat (first|exact Below.refl _ _|with_reducible refine ba ?_ _|with_reducible refine bs ?_ (by omega) _|with_reducible refine bd ?_|(with_reducible refine bt ?_ (by assumption)))
  ·have dn:decide (hi x<0)=false:=decide_eq_false hn;rw[zbU (by have:=E.out;have:=NE.out;omega)]
   go_enter Tryz.func203,Tryz.ntmps203
   go_wp2
   go_region_held3 (λw'=>w'.cell? ⟨w.heap.size,0,none⟩=some (.int .i64 (hi x))/\w'.cell? ⟨w.heap.size,1,none⟩=some (.int .u64 (lo x)))
    (first|exact⟨n0,n1⟩|exact⟨y0,y1⟩)
    (first
     |(go_at_call 202;(with_reducible refine(CO _).mono ?_);rintro e w1 ⟨rfl,b1⟩;have y0:=cb b1 n2 n0;have y1:=cb b1 n2 n1))
   clear n0 n1 n2;go_wp2;go_ret;refine⟨rfl,?_⟩
   repeat (first|exact Below.refl _ _|with_reducible refine ba ?_ _|with_reducible refine bs ?_ (by omega) _|with_reducible refine bd ?_|(with_reducible refine bt ?_ (by assumption)))
def zil (h l d:Int):Prop:=∀ w:World,Calls Tryz.prog 228 #[.int .u64 h,.int .u64 l,.int .u64 d] w λe w'=>e=.returned (.tuple #[.int .u64 ((h*18446744073709551616+l) / d),.int .u64 ((h*18446744073709551616+l) % d)])/\Below w.heap.size w w'
theorem zpz (l d:Int) (l0:0<=l) (l1:l<18446744073709551616) (d0:0<d) (d1:d<18446744073709551616):zil 0 l d:=by
 intro w;rw[Int.zero_mul,Int.zero_add];have hd:(d == 0)=false:=beq_eq_false_iff_ne.2 (by omega);have hd2:decide (d<=0)=false:=decide_eq_false (by omega);have hd3:d≠0:=by omega
 go_enter Tryz.func228,Tryz.ntmps228
 go_wp2
 go_region
 go_wp2
 go_ret2
 exact⟨rfl,bd (Below.refl _ _)⟩
theorem zqo (x d:Int) (h0:0<=x) (h1:x<170141183460469231731687303715884105728) (d0:0<d) (d1:d<18446744073709551616) (CD:zil (hi x % d) (lo x) d) (w:World) :
  Calls Tryz.prog 200 #[.agg #[.int .i64 (hi x),.int .u64 (lo x)],.int .u64 d] w λe w'=>e=.returned (.tuple #[.agg #[.int .i64 (hi (x / d)),.int .u64 (lo (x / d))],.int .u64 (x % d)])/\Below w.heap.size w w':=by
 have g0:=hi0 h0;have g1:=zmh h1;have hd:(d == 0)=false:=beq_eq_false_iff_ne.2 (by omega);have hd2:d≠0:=by omega
 obtain⟨D1,D2,D3⟩:=zqp (x:=x) d0;have em:(hi x).tmod d=hi x % d:=zgL g0;have CD:∀ w:World,Calls Tryz.prog 228 #[.int .u64 ((hi x).tmod d),.int .u64 (lo x),.int .u64 d] w λe w'=>e=.returned (.tuple #[.int .u64 (lo (x / d)),.int .u64 (x % d)])/\Below w.heap.size w w':=by
  rw[em,←D2,←D3];exact CD
 have E1:=za D1;clear D1 D2 D3 em
 go_enter Tryz.func200,Tryz.ntmps200
 go_wp2;have n0:=ca (ob:=.cells #[.int .i64 0,.int .u64 0] 259) (zbC w (.cells #[.int .i64 (hi x),.int .u64 (lo x)] 259)) (zcN w (.int .i64 (hi x)) (.int .u64 (lo x)) 259);have n2:w.heap.size<((w.alloc (.cells #[.int .i64 (hi x),.int .u64 (lo x)] 259)).alloc (.cells #[.int .i64 0,.int .u64 0] 259)).heap.size:=by simp;omega
 go_region_held3 (λw'=>w'.cell? ⟨w.heap.size,1,none⟩=some (.int .u64 (lo x)))
  (first|exact n0|exact y0)
  (first
   |(go_at_call 228;(with_reducible refine(CD _).mono ?_);rintro e w1 ⟨rfl,b1⟩;have y0:=cb b1 n2 n0;have q0:w1.cell? ⟨w.heap.size+1,0,none⟩=some (.int .i64 0):=cb b1 (by simp) (by simp);have q1:w1.cell? ⟨w.heap.size+1,1,none⟩=some (.int .u64 0):=cb b1 (by simp) (by simp);have q2:w1.frozen? ⟨w.heap.size+1,0,none⟩=false:=fb b1 (by simp) (by simp);have q3:w1.frozen? ⟨w.heap.size+1,1,none⟩=false:=fb b1 (by simp) (by simp)))
 clear n0 n2;have s0:0<=hi x / d:=Int.ediv_nonneg g0 (by omega);have s1:hi x / d<=9223372036854775807:=Int.le_trans (Int.ediv_le_self _ g0) g1;go_wp2;refine bodyPost_ret (v:=.tuple #[.agg #[.int .i64 (hi x / d),.int .u64 (lo (x / d))],.int .u64 (x % d)]) (by simp[results,Tryz.results200,go_sem,q0,q1]) rfl ⟨by rw[E1.out],?_⟩
 repeat (first|exact Below.refl _ _|with_reducible refine ba ?_ _|with_reducible refine bs ?_ (by omega) _|with_reducible refine bd ?_|(with_reducible refine bt ?_ (by assumption)))
theorem zlU (x:Int) (n:Nat) (h0 : -170141183460469231731687303715884105728<=x) (h1:x<170141183460469231731687303715884105728) (hn:n<=127) (w:World) :
  Calls Tryz.prog 233 #[.agg #[.int .i64 (hi x),.int .u64 (lo x)],.int .i64 n] w λe w'=>e=.returned (.agg #[.int .i64 (hi (x / 2 ^ n)),.int .u64 (lo (x / 2 ^ n))])/\Below w.heap.size w w':=by
 have g0:=zqk h0;have g1:=zmh h1
 by_cases h:64<=n
 ·have e:=zvY (x:=x) h;have p:=zK (n-64);have s0 : -9223372036854775808<=hi x / 2 ^ (n-64):=Int.le_trans (by omega) (Int.le_ediv_of_mul_le p (show -9223372036854775808*2 ^ (n-64)<=hi x from Int.le_trans (by omega) g0));have s1:hi x / 2 ^ (n-64)<=9223372036854775807:=by
   have:hi x / 2 ^ (n-64)<9223372036854775808:=Int.ediv_lt_of_lt_mul p (by omega);omega
  have CO:=zkd (hi x / 2 ^ (n-64)) s0 s1;have E:=za e;clear e s0 s1 p
  go_enter Tryz.func233,Tryz.ntmps233
  go_wp2_with (first
    |(go_at_call 202;(with_reducible refine(CO _).mono ?_);rintro e w2 ⟨rfl,b2⟩;have q0:w2.cell? ⟨w.heap.size+1,0,none⟩=some (.int .i64 0):=cb b2 (by simp) (by simp);have q1:w2.cell? ⟨w.heap.size+1,1,none⟩=some (.int .u64 0):=cb b2 (by simp) (by simp);have q2:w2.frozen? ⟨w.heap.size+1,0,none⟩=false:=fb b2 (by simp) (by simp);have q3:w2.frozen? ⟨w.heap.size+1,1,none⟩=false:=fb b2 (by simp) (by simp)))
  refine bodyPost_ret (v:=.agg #[.int .i64 (hi (hi x / 2 ^ (n-64))),.int .u64 (lo (hi x / 2 ^ (n-64)))]) (by simp[results,Tryz.results233,go_sem,q0,q1]) rfl ⟨by rw[E.out],?_⟩
  repeat (first|exact Below.refl _ _|with_reducible refine ba ?_ _|with_reducible refine bs ?_ (by omega) _|with_reducible refine bd ?_|(with_reducible refine bt ?_ (by assumption)))
 ·go_enter Tryz.func233,Tryz.ntmps233
  go_wp2
  go_region
  go_wp2;refine bodyPost_ret (v:=.agg #[.int .i64 (hi (x / 2 ^ n)),.int .u64 (lo (x / 2 ^ n))]) (by simp[results,Tryz.results233,go_sem];exact⟨zwl,zwz (by omega)⟩) rfl ⟨rfl,?_⟩
  repeat (first|exact Below.refl _ _|with_reducible refine ba ?_ _|with_reducible refine bs ?_ (by omega) _|with_reducible refine bd ?_|(with_reducible refine bt ?_ (by assumption)))
def zai (a b n:Int):Int:=if 127<n then 0 else if n<=0 then zE (a*b) else zE (zaC (a*b) (2 ^ n.toNat))
theorem zlG (a b:Int) (m:Nat) (h:m<=126):zai a b ((m:Int)+1)=zE ((a*b / 2 ^ m+1) / 2):=by
 unfold zai;rw[if_neg (by omega),if_neg (by omega),show((m:Int)+1).toNat=m+1 by omega,zgY]
theorem zpx {a b:Int} (h0 : -9223372036854775808<=a) (h1:a<=9223372036854775807) (k0 : -9223372036854775808<=b) (k1:b<=9223372036854775807) : -85070591730234615865843651857942052864<=a*b/\a*b<=85070591730234615865843651857942052864:=by
 obtain⟨m1,m2,m3,m4⟩:=zgh a b;have p:=zdM h0 h1 k0 k1
 by_cases ha:a<0<;>by_cases hb:b<0
 ·rw[m1 ha hb];omega
 ·rw[m2 ha (by omega)];omega
 ·rw[m3 (by omega) hb];omega
 ·rw[m4 (by omega) (by omega)];omega
theorem zqr {x:Int} (m:Nat) (h0 : -85070591730234615865843651857942052864<=x) (h1:x<=85070591730234615865843651857942052864) : -85070591730234615865843651857942052864<=x / 2 ^ m/\x / 2 ^ m<=85070591730234615865843651857942052864:=by
 have p:=zK m;refine⟨Int.le_ediv_of_mul_le p (Int.le_trans ?_ h0),?_⟩
 ·have:(85070591730234615865843651857942052864:Int)*1<=85070591730234615865843651857942052864*2 ^ m:=Int.mul_le_mul_of_nonneg_left (by omega) (by decide);omega
 ·have:x / 2 ^ m<85070591730234615865843651857942052865:=Int.ediv_lt_of_lt_mul p (by
   have:(85070591730234615865843651857942052865:Int)*1<=85070591730234615865843651857942052865*2 ^ m:=Int.mul_le_mul_of_nonneg_left (by omega) (by decide);omega)
  omega
set_option maxRecDepth 100000 in
set_option maxHeartbeats 1000000 in
theorem zm4 (a b n:Int) (h0 : -9223372036854775808<=a) (h1:a<=9223372036854775807) (k0 : -9223372036854775808<=b) (k1:b<=9223372036854775807) (w:World) :
  Calls Tryz.prog 218 #[.int .i64 a,.int .i64 b,.int .i64 n] w λe w'=>e=.returned (.int .i64 (zai a b n))/\Below w.heap.size w w':=by
 by_cases hg:127<n
 ·rw[show zai a b n=0 from if_pos hg]
  go_enter Tryz.func218,Tryz.ntmps218
  go_wp2;go_ret;exact⟨rfl,Below.refl _ _⟩
 have CP:=ziw a b h0 h1 k0 k1;obtain⟨p0,p1⟩:=zpx h0 h1 k0 k1
 by_cases hs:n<=0
 ·rw[show zai a b n=zE (a*b) from(if_neg hg).trans (if_pos hs)];generalize a*b=X at *;have CH:=zbb X;clear p0 p1
  go_enter Tryz.func218,Tryz.ntmps218
  go_wp2_with (first
   |(go_at_call 197;(with_reducible refine(CP _).mono ?_);rintro e w1 ⟨rfl,b1⟩)
   |(go_at_call 203;(with_reducible refine(CH _).mono ?_);rintro e w2 ⟨rfl,b2⟩))
  go_ret;refine⟨rfl,?_⟩
  repeat (first|exact Below.refl _ _|with_reducible refine ba ?_ _|with_reducible refine bs ?_ (by omega) _|with_reducible refine bd ?_|(with_reducible refine bt ?_ (by assumption)))
 obtain⟨m,rfl⟩:∃ m:Nat,n=(m:Int)+1:=⟨n.toNat-1,by omega⟩;rw[zlG a b m (by omega)];generalize a*b=X at *;obtain⟨q0,q1⟩:=zqr m p0 p1;have C1:=zlU X m (by omega) (by omega) (by omega);have C2:=zkd 1 (by omega) (by omega);have C3:=zpg (X / 2 ^ m) 1 (by omega) (by omega) (by omega) (by omega);rw[zeQ (by omega) (by omega)]at C3;have C4:∀ w:World,Calls Tryz.prog 233 #[.agg #[.int .i64 (hi (X / 2 ^ m+1)),.int .u64 (lo (X / 2 ^ m+1))],.int .i64 1] w λe w'=>e=.returned (.agg #[.int .i64 (hi ((X / 2 ^ m+1) / 2)),.int .u64 (lo ((X / 2 ^ m+1) / 2))])/\Below w.heap.size w w' :=
  zlU (X / 2 ^ m+1) 1 (by omega) (by omega) (by omega)
 have C5:=zbb ((X / 2 ^ m+1) / 2);clear p0 p1 q0 q1;generalize (X / 2 ^ m+1) / 2=V at *;generalize X / 2 ^ m+1=U at *;generalize X / 2 ^ m=T at *
 go_enter Tryz.func218,Tryz.ntmps218
 go_wp2_with (first
  |(go_at_call 197;(with_reducible refine(CP _).mono ?_);rintro e w1 ⟨rfl,b1⟩)
  |(go_at_call 233;(with_reducible refine(C1 _).mono ?_);rintro e w2 ⟨rfl,b2⟩)
  |(go_at_call 202;(with_reducible refine(C2 _).mono ?_);rintro e w3 ⟨rfl,b3⟩)
  |(go_at_call 201;(with_reducible refine(C3 _).mono ?_);rintro e w4 ⟨rfl,b4⟩)
  |(go_at_call 233;(with_reducible refine(C4 _).mono ?_);rintro e w5 ⟨rfl,b5⟩)
  |(go_at_call 203;(with_reducible refine(C5 _).mono ?_);rintro e w6 ⟨rfl,b6⟩))
 go_ret;refine⟨rfl,?_⟩
 repeat (first|exact Below.refl _ _|with_reducible refine ba ?_ _|with_reducible refine bs ?_ (by omega) _|with_reducible refine bd ?_|(with_reducible refine bt ?_ (by assumption)))
theorem zq1 {X d:Int} (hd:d≠0):zaC X d=if(X<0↔d<0) then zi X / zi d+(if zi d<=2*(zi X % zi d) then 1 else 0) else -(zi X / zi d+(if zi d<2*(zi X % zi d) then 1 else 0)):=by
 unfold zaC
 by_cases hx:X<0<;>by_cases hn:d<0
 ·rw[if_pos hn,if_pos (by omega),zeS (by omega),zaS hx,zaS hn]
 ·rw[if_neg hn,if_neg (by omega),zaS hx,zaJ (by omega)];have h:=zeD (a := -X) (b:=d) (by omega);rw[Int.neg_neg]at h;exact h
 ·rw[if_pos hn,if_neg (by omega),zaJ (by omega),zaS hn];exact zeD (by omega)
 ·rw[if_neg hn,if_pos (by omega),zeS (by omega),zaJ (by omega),zaJ (by omega)]
theorem zk1 (a:Int):zN a 0=0:=if_pos rfl
set_option maxRecDepth 100000 in
set_option maxHeartbeats 4000000 in
theorem zrl (a b d:Int) (h0 : -9223372036854775808<=a) (h1:a<=9223372036854775807) (k0 : -9223372036854775808<=b) (k1:b<=9223372036854775807) (d0 : -9223372036854775808<=d) (d1:d<=9223372036854775807)
  (CD:d≠0->zil (hi (zi (a*b)) % zi d) (lo (zi (a*b))) (zi d)) (w:World) :
  Calls Tryz.prog 173 #[.int .i64 a,.int .i64 b,.int .i64 d] w λe w'=>e=.returned (.int .i64 (zN (a*b) d))/\Below w.heap.size w w':=by
 by_cases hz:d=0
 ·subst hz;rw[zk1]
  go_enter Tryz.func173,Tryz.ntmps173
  go_wp2;go_ret;exact⟨rfl,Below.refl _ _⟩
 have CD:=CD hz;rw[zck hz];have NC:=zq1 (X:=a*b) hz;have CP:=ziw a b h0 h1 k0 k1;obtain⟨p0,p1⟩:=zpx h0 h1 k0 k1;have CS:=zfL d d0 d1;have dz:(d == 0)=false:=beq_eq_false_iff_ne.2 hz;generalize a*b=X at *;have DA:0<zi d:=by unfold zi;split<;>omega
 have DB:zi d<=9223372036854775808:=zcu d0 (by omega);have PA:=za6 X;have PB:zi X<=85070591730234615865843651857942052864:=by unfold zi;split<;>omega
 have CN:=zeu X (by omega) (by omega);rw[zeQ (by omega) (by omega)]at CN;have XN:X<0->-X=zi X:=λh=>(zaS h).symm
 have XP:0<=X->X=zi X:=λh=>(zaJ h).symm
 have CQ:=zqo (zi X) (zi d) PA (by omega) DA (by omega) CD;have CO:=zkd 1 (by omega) (by omega);have QA:=zct PA DA;have RA:=za1 (x:=zi X) DA;clear CD;generalize zi X / zi d=Q at *;generalize zi X % zi d=R at *;have CU:=zpg Q 1 (by omega) (by omega) (by omega) (by omega);rw[zeQ (by omega) (by omega)]at CU;have CM:=zeu Q (by omega) (by omega);rw[zeQ (by omega) (by omega)]at CM;have CV:=zeu (Q+1) (by omega) (by omega);rw[zeQ (by omega) (by omega)]at CV;generalize zi d=D at *;obtain⟨QA0,-⟩:=QA;obtain⟨RA0,RA1⟩:=RA
 by_cases hx:X<0
 ·have hx2:hi X<0:=by unfold hi;omega
  by_cases hd:d<0
  ·by_cases hu:D<2*R
   ·have hX:hi X<0:=by omega
    have dX:decide (hi X<0)=true:=decide_eq_true (by omega);have dd:decide (d<0)=true:=decide_eq_true (by omega);rw[if_pos (by omega),if_pos (by omega)]at NC;have CH:=zbb (Q+1);rw[NC];have EX:=XN (by omega);rw[←EX]at CQ;clear NC XN XP EX PA PB p0 p1 hX hz hx hd;have hG:decide (D<2*R)=true:=decide_eq_true (by omega)
    go_enter Tryz.func173,Tryz.ntmps173
    go_upto_region 9 with(first
     |(go_at_call 197;(with_reducible refine(CP _).mono ?_);rintro e w1 ⟨rfl,b1⟩;have z1:w.heap.size<=w1.heap.size:=b1.size)
     |(go_at_call 198;(with_reducible refine(CN _).mono ?_);rintro e w2 ⟨rfl,b2⟩;have n0:w2.cell? ⟨w1.heap.size,0,none⟩=some (.int .i64 (hi X)):=cb b2 (by simp) (by simp);have n1:w2.cell? ⟨w1.heap.size,1,none⟩=some (.int .u64 (lo X)):=cb b2 (by simp) (by simp);have n2:w2.frozen? ⟨w1.heap.size,0,none⟩=false:=fb b2 (by simp) (by simp);have n3:w2.frozen? ⟨w1.heap.size,1,none⟩=false:=fb b2 (by simp) (by simp);have n4:w1.heap.size<w2.heap.size:=(by have:=b2.size;simp at this;omega))
     |(go_at_call 199;(with_reducible refine(CS _).mono ?_);rintro e w' ⟨rfl,rfl⟩)
     |(go_at_call 200;(with_reducible refine(CQ _).mono ?_);rintro e w3 ⟨rfl,b3⟩;have z3:w.heap.size<=w3.heap.size:=(by have:=b3.size;simp[World.setCell]at this;omega)))
    have n5:=zdh w3 (.int .i64 (hi Q)) (.int .u64 (lo Q)) 259;have n6:=zcN w3 (.int .i64 (hi Q)) (.int .u64 (lo Q)) 259;have n7:=zbC w3 (.cells #[.int .i64 (hi Q),.int .u64 (lo Q)] 259);have f5:(w3.alloc (.cells #[.int .i64 (hi Q),.int .u64 (lo Q)] 259)).frozen? ⟨w3.heap.size,0,none⟩=false:=by simp
    have f6:(w3.alloc (.cells #[.int .i64 (hi Q),.int .u64 (lo Q)] 259)).frozen? ⟨w3.heap.size,1,none⟩=false:=by simp
    go_upto_region 10 with(fail)
    go_region_with (first
     |(go_at_call 202;(with_reducible refine(CO _).mono ?_);rintro e w4 ⟨rfl,b4⟩;have m0:=cb b4 n7 n5;have m1:=cb b4 n7 n6;have m2:=fb b4 n7 f5;have m3:=fb b4 n7 f6;have m4:=Nat.lt_of_lt_of_le n7 b4.size)
     |(go_at_call 201;(with_reducible refine(CU _).mono ?_);rintro e w5 ⟨rfl,b5⟩;have o0:=cb b5 m4 m0;have o1:=cb b5 m4 m1;have o2:=fb b5 m4 m2;have o3:=fb b5 m4 m3;have o4:=Nat.lt_of_lt_of_le m4 b5.size))
    all_goals
     go_wp2_with (first
      |(go_at_call 203;(with_reducible refine(CH _).mono ?_);rintro e w7 ⟨rfl,b7⟩))
     go_ret;refine⟨rfl,?_⟩
     repeat (first|exact Below.refl _ _|with_reducible refine ba ?_ _|with_reducible refine bs ?_ (by omega) _|with_reducible refine bd ?_|(with_reducible refine bt ?_ (by assumption)))
   ·by_cases hv:D=2*R
    ·have hv2:D<=2*R:=by omega
     have hv3:2*R<=D:=by omega
     clear hv;have hX:hi X<0:=by omega
     have dX:decide (hi X<0)=true:=decide_eq_true (by omega);have dd:decide (d<0)=true:=decide_eq_true (by omega);rw[if_pos (by omega),if_pos (by omega)]at NC;have CH:=zbb (Q+1);rw[NC];have EX:=XN (by omega);rw[←EX]at CQ;clear NC XN XP EX PA PB p0 p1 hX hz hx hd;have hE:(2*R == D)=true:=beq_iff_eq.2 (by omega);have hG:decide (D<2*R)=false:=decide_eq_false (by omega);clear hu
     go_enter Tryz.func173,Tryz.ntmps173
     go_upto_region 9 with(first
      |(go_at_call 197;(with_reducible refine(CP _).mono ?_);rintro e w1 ⟨rfl,b1⟩;have z1:w.heap.size<=w1.heap.size:=b1.size)
      |(go_at_call 198;(with_reducible refine(CN _).mono ?_);rintro e w2 ⟨rfl,b2⟩;have n0:w2.cell? ⟨w1.heap.size,0,none⟩=some (.int .i64 (hi X)):=cb b2 (by simp) (by simp);have n1:w2.cell? ⟨w1.heap.size,1,none⟩=some (.int .u64 (lo X)):=cb b2 (by simp) (by simp);have n2:w2.frozen? ⟨w1.heap.size,0,none⟩=false:=fb b2 (by simp) (by simp);have n3:w2.frozen? ⟨w1.heap.size,1,none⟩=false:=fb b2 (by simp) (by simp);have n4:w1.heap.size<w2.heap.size:=(by have:=b2.size;simp at this;omega))
      |(go_at_call 199;(with_reducible refine(CS _).mono ?_);rintro e w' ⟨rfl,rfl⟩)
      |(go_at_call 200;(with_reducible refine(CQ _).mono ?_);rintro e w3 ⟨rfl,b3⟩;have z3:w.heap.size<=w3.heap.size:=(by have:=b3.size;simp[World.setCell]at this;omega)))
     have n5:=zdh w3 (.int .i64 (hi Q)) (.int .u64 (lo Q)) 259;have n6:=zcN w3 (.int .i64 (hi Q)) (.int .u64 (lo Q)) 259;have n7:=zbC w3 (.cells #[.int .i64 (hi Q),.int .u64 (lo Q)] 259);have f5:(w3.alloc (.cells #[.int .i64 (hi Q),.int .u64 (lo Q)] 259)).frozen? ⟨w3.heap.size,0,none⟩=false:=by simp
     have f6:(w3.alloc (.cells #[.int .i64 (hi Q),.int .u64 (lo Q)] 259)).frozen? ⟨w3.heap.size,1,none⟩=false:=by simp
     go_upto_region 10 with(fail)
     go_region_with (first
      |(go_at_call 202;(with_reducible refine(CO _).mono ?_);rintro e w4 ⟨rfl,b4⟩;have m0:=cb b4 n7 n5;have m1:=cb b4 n7 n6;have m2:=fb b4 n7 f5;have m3:=fb b4 n7 f6;have m4:=Nat.lt_of_lt_of_le n7 b4.size)
      |(go_at_call 201;(with_reducible refine(CU _).mono ?_);rintro e w5 ⟨rfl,b5⟩;have o0:=cb b5 m4 m0;have o1:=cb b5 m4 m1;have o2:=fb b5 m4 m2;have o3:=fb b5 m4 m3;have o4:=Nat.lt_of_lt_of_le m4 b5.size))
     all_goals
      go_wp2_with (first
       |(go_at_call 203;(with_reducible refine(CH _).mono ?_);rintro e w7 ⟨rfl,b7⟩))
      go_ret;refine⟨rfl,?_⟩
      repeat (first|exact Below.refl _ _|with_reducible refine ba ?_ _|with_reducible refine bs ?_ (by omega) _|with_reducible refine bd ?_|(with_reducible refine bt ?_ (by assumption)))
    ·have hX:hi X<0:=by omega
     have dX:decide (hi X<0)=true:=decide_eq_true (by omega);have dd:decide (d<0)=true:=decide_eq_true (by omega);rw[if_pos (by omega),if_neg (by omega)]at NC;rw[Int.add_zero]at NC;have CH:=zbb (Q);rw[NC];have EX:=XN (by omega);rw[←EX]at CQ;clear NC XN XP EX PA PB p0 p1 hX hz hx hd;have hE:(2*R == D)=false:=beq_eq_false_iff_ne.2 (by omega);have hG:decide (D<2*R)=false:=decide_eq_false (by omega)
     go_enter Tryz.func173,Tryz.ntmps173
     go_upto_region 9 with(first
      |(go_at_call 197;(with_reducible refine(CP _).mono ?_);rintro e w1 ⟨rfl,b1⟩;have z1:w.heap.size<=w1.heap.size:=b1.size)
      |(go_at_call 198;(with_reducible refine(CN _).mono ?_);rintro e w2 ⟨rfl,b2⟩;have n0:w2.cell? ⟨w1.heap.size,0,none⟩=some (.int .i64 (hi X)):=cb b2 (by simp) (by simp);have n1:w2.cell? ⟨w1.heap.size,1,none⟩=some (.int .u64 (lo X)):=cb b2 (by simp) (by simp);have n2:w2.frozen? ⟨w1.heap.size,0,none⟩=false:=fb b2 (by simp) (by simp);have n3:w2.frozen? ⟨w1.heap.size,1,none⟩=false:=fb b2 (by simp) (by simp);have n4:w1.heap.size<w2.heap.size:=(by have:=b2.size;simp at this;omega))
      |(go_at_call 199;(with_reducible refine(CS _).mono ?_);rintro e w' ⟨rfl,rfl⟩)
      |(go_at_call 200;(with_reducible refine(CQ _).mono ?_);rintro e w3 ⟨rfl,b3⟩;have z3:w.heap.size<=w3.heap.size:=(by have:=b3.size;simp[World.setCell]at this;omega)))
     have n5:=zdh w3 (.int .i64 (hi Q)) (.int .u64 (lo Q)) 259;have n6:=zcN w3 (.int .i64 (hi Q)) (.int .u64 (lo Q)) 259;have n7:=zbC w3 (.cells #[.int .i64 (hi Q),.int .u64 (lo Q)] 259);have f5:(w3.alloc (.cells #[.int .i64 (hi Q),.int .u64 (lo Q)] 259)).frozen? ⟨w3.heap.size,0,none⟩=false:=by simp
     have f6:(w3.alloc (.cells #[.int .i64 (hi Q),.int .u64 (lo Q)] 259)).frozen? ⟨w3.heap.size,1,none⟩=false:=by simp
     go_wp2_with (first
      |(go_at_call 203;(with_reducible refine(CH _).mono ?_);rintro e w7 ⟨rfl,b7⟩))
     go_ret;refine⟨rfl,?_⟩
     repeat (first|exact Below.refl _ _|with_reducible refine ba ?_ _|with_reducible refine bs ?_ (by omega) _|with_reducible refine bd ?_|(with_reducible refine bt ?_ (by assumption)))
  ·by_cases hu:D<2*R
   ·have hX:hi X<0:=by omega
    have dX:decide (hi X<0)=true:=decide_eq_true (by omega);have dd:decide (d<0)=false:=decide_eq_false (by omega);rw[if_neg (by omega),if_pos (by omega)]at NC;have CH:=zbb (-(Q+1));rw[NC];have EX:=XN (by omega);rw[←EX]at CQ;clear NC XN XP EX PA PB p0 p1 hX hz hx hd;have hG:decide (D<2*R)=true:=decide_eq_true (by omega)
    go_enter Tryz.func173,Tryz.ntmps173
    go_upto_region 9 with(first
     |(go_at_call 197;(with_reducible refine(CP _).mono ?_);rintro e w1 ⟨rfl,b1⟩;have z1:w.heap.size<=w1.heap.size:=b1.size)
     |(go_at_call 198;(with_reducible refine(CN _).mono ?_);rintro e w2 ⟨rfl,b2⟩;have n0:w2.cell? ⟨w1.heap.size,0,none⟩=some (.int .i64 (hi X)):=cb b2 (by simp) (by simp);have n1:w2.cell? ⟨w1.heap.size,1,none⟩=some (.int .u64 (lo X)):=cb b2 (by simp) (by simp);have n2:w2.frozen? ⟨w1.heap.size,0,none⟩=false:=fb b2 (by simp) (by simp);have n3:w2.frozen? ⟨w1.heap.size,1,none⟩=false:=fb b2 (by simp) (by simp);have n4:w1.heap.size<w2.heap.size:=(by have:=b2.size;simp at this;omega))
     |(go_at_call 199;(with_reducible refine(CS _).mono ?_);rintro e w' ⟨rfl,rfl⟩)
     |(go_at_call 200;(with_reducible refine(CQ _).mono ?_);rintro e w3 ⟨rfl,b3⟩;have z3:w.heap.size<=w3.heap.size:=(by have:=b3.size;simp[World.setCell]at this;omega)))
    have n5:=zdh w3 (.int .i64 (hi Q)) (.int .u64 (lo Q)) 259;have n6:=zcN w3 (.int .i64 (hi Q)) (.int .u64 (lo Q)) 259;have n7:=zbC w3 (.cells #[.int .i64 (hi Q),.int .u64 (lo Q)] 259);have f5:(w3.alloc (.cells #[.int .i64 (hi Q),.int .u64 (lo Q)] 259)).frozen? ⟨w3.heap.size,0,none⟩=false:=by simp
    have f6:(w3.alloc (.cells #[.int .i64 (hi Q),.int .u64 (lo Q)] 259)).frozen? ⟨w3.heap.size,1,none⟩=false:=by simp
    go_upto_region 10 with(fail)
    go_region_with (first
     |(go_at_call 202;(with_reducible refine(CO _).mono ?_);rintro e w4 ⟨rfl,b4⟩;have m0:=cb b4 n7 n5;have m1:=cb b4 n7 n6;have m2:=fb b4 n7 f5;have m3:=fb b4 n7 f6;have m4:=Nat.lt_of_lt_of_le n7 b4.size)
     |(go_at_call 201;(with_reducible refine(CU _).mono ?_);rintro e w5 ⟨rfl,b5⟩;have o0:=cb b5 m4 m0;have o1:=cb b5 m4 m1;have o2:=fb b5 m4 m2;have o3:=fb b5 m4 m3;have o4:=Nat.lt_of_lt_of_le m4 b5.size))
    all_goals
     go_wp2_with (first
      |(go_at_call 198;(with_reducible refine(CV _).mono ?_);rintro e w6 ⟨rfl,b6⟩;have o5:=cb b6 (by simpa [World.setCell] using o4) (cs (by omega) (cw o0));have o6:=cb b6 (by simpa [World.setCell] using o4) (cw (cs (by omega) o1));have o7:=fb b6 (o:=0) (by simpa [World.setCell] using o4) (by simp[o2]);have o8:=fb b6 (o:=1) (by simpa [World.setCell] using o4) (by simp[o3]))
      |(go_at_call 203;(with_reducible refine(CH _).mono ?_);rintro e w7 ⟨rfl,b7⟩))
     go_ret;refine⟨rfl,?_⟩
     repeat (first|exact Below.refl _ _|with_reducible refine ba ?_ _|with_reducible refine bs ?_ (by omega) _|with_reducible refine bd ?_|(with_reducible refine bt ?_ (by assumption)))
   ·by_cases hv:D=2*R
    ·have hv2:D<=2*R:=by omega
     have hv3:2*R<=D:=by omega
     clear hv;have hX:hi X<0:=by omega
     have dX:decide (hi X<0)=true:=decide_eq_true (by omega);have dd:decide (d<0)=false:=decide_eq_false (by omega);rw[if_neg (by omega),if_neg (by omega)]at NC;rw[Int.add_zero]at NC;have CH:=zbb (-Q);rw[NC];have EX:=XN (by omega);rw[←EX]at CQ;clear NC XN XP EX PA PB p0 p1 hX hz hx hd;have hE:(2*R == D)=true:=beq_iff_eq.2 (by omega);have hG:decide (D<2*R)=false:=decide_eq_false (by omega);clear hu
     go_enter Tryz.func173,Tryz.ntmps173
     go_upto_region 9 with(first
      |(go_at_call 197;(with_reducible refine(CP _).mono ?_);rintro e w1 ⟨rfl,b1⟩;have z1:w.heap.size<=w1.heap.size:=b1.size)
      |(go_at_call 198;(with_reducible refine(CN _).mono ?_);rintro e w2 ⟨rfl,b2⟩;have n0:w2.cell? ⟨w1.heap.size,0,none⟩=some (.int .i64 (hi X)):=cb b2 (by simp) (by simp);have n1:w2.cell? ⟨w1.heap.size,1,none⟩=some (.int .u64 (lo X)):=cb b2 (by simp) (by simp);have n2:w2.frozen? ⟨w1.heap.size,0,none⟩=false:=fb b2 (by simp) (by simp);have n3:w2.frozen? ⟨w1.heap.size,1,none⟩=false:=fb b2 (by simp) (by simp);have n4:w1.heap.size<w2.heap.size:=(by have:=b2.size;simp at this;omega))
      |(go_at_call 199;(with_reducible refine(CS _).mono ?_);rintro e w' ⟨rfl,rfl⟩)
      |(go_at_call 200;(with_reducible refine(CQ _).mono ?_);rintro e w3 ⟨rfl,b3⟩;have z3:w.heap.size<=w3.heap.size:=(by have:=b3.size;simp[World.setCell]at this;omega)))
     have n5:=zdh w3 (.int .i64 (hi Q)) (.int .u64 (lo Q)) 259;have n6:=zcN w3 (.int .i64 (hi Q)) (.int .u64 (lo Q)) 259;have n7:=zbC w3 (.cells #[.int .i64 (hi Q),.int .u64 (lo Q)] 259);have f5:(w3.alloc (.cells #[.int .i64 (hi Q),.int .u64 (lo Q)] 259)).frozen? ⟨w3.heap.size,0,none⟩=false:=by simp
     have f6:(w3.alloc (.cells #[.int .i64 (hi Q),.int .u64 (lo Q)] 259)).frozen? ⟨w3.heap.size,1,none⟩=false:=by simp
     go_wp2_with (first
      |(go_at_call 198;(with_reducible refine(CM _).mono ?_);rintro e w6 ⟨rfl,b6⟩;have m0:=cb b6 n7 n5;have m1:=cb b6 n7 n6;have m2:=fb b6 n7 f5;have m3:=fb b6 n7 f6)
      |(go_at_call 203;(with_reducible refine(CH _).mono ?_);rintro e w7 ⟨rfl,b7⟩))
     go_ret;refine⟨rfl,?_⟩
     repeat (first|exact Below.refl _ _|with_reducible refine ba ?_ _|with_reducible refine bs ?_ (by omega) _|with_reducible refine bd ?_|(with_reducible refine bt ?_ (by assumption)))
    ·have hX:hi X<0:=by omega
     have dX:decide (hi X<0)=true:=decide_eq_true (by omega);have dd:decide (d<0)=false:=decide_eq_false (by omega);rw[if_neg (by omega),if_neg (by omega)]at NC;rw[Int.add_zero]at NC;have CH:=zbb (-Q);rw[NC];have EX:=XN (by omega);rw[←EX]at CQ;clear NC XN XP EX PA PB p0 p1 hX hz hx hd;have hE:(2*R == D)=false:=beq_eq_false_iff_ne.2 (by omega);have hG:decide (D<2*R)=false:=decide_eq_false (by omega)
     go_enter Tryz.func173,Tryz.ntmps173
     go_upto_region 9 with(first
      |(go_at_call 197;(with_reducible refine(CP _).mono ?_);rintro e w1 ⟨rfl,b1⟩;have z1:w.heap.size<=w1.heap.size:=b1.size)
      |(go_at_call 198;(with_reducible refine(CN _).mono ?_);rintro e w2 ⟨rfl,b2⟩;have n0:w2.cell? ⟨w1.heap.size,0,none⟩=some (.int .i64 (hi X)):=cb b2 (by simp) (by simp);have n1:w2.cell? ⟨w1.heap.size,1,none⟩=some (.int .u64 (lo X)):=cb b2 (by simp) (by simp);have n2:w2.frozen? ⟨w1.heap.size,0,none⟩=false:=fb b2 (by simp) (by simp);have n3:w2.frozen? ⟨w1.heap.size,1,none⟩=false:=fb b2 (by simp) (by simp);have n4:w1.heap.size<w2.heap.size:=(by have:=b2.size;simp at this;omega))
      |(go_at_call 199;(with_reducible refine(CS _).mono ?_);rintro e w' ⟨rfl,rfl⟩)
      |(go_at_call 200;(with_reducible refine(CQ _).mono ?_);rintro e w3 ⟨rfl,b3⟩;have z3:w.heap.size<=w3.heap.size:=(by have:=b3.size;simp[World.setCell]at this;omega)))
     have n5:=zdh w3 (.int .i64 (hi Q)) (.int .u64 (lo Q)) 259;have n6:=zcN w3 (.int .i64 (hi Q)) (.int .u64 (lo Q)) 259;have n7:=zbC w3 (.cells #[.int .i64 (hi Q),.int .u64 (lo Q)] 259);have f5:(w3.alloc (.cells #[.int .i64 (hi Q),.int .u64 (lo Q)] 259)).frozen? ⟨w3.heap.size,0,none⟩=false:=by simp
     have f6:(w3.alloc (.cells #[.int .i64 (hi Q),.int .u64 (lo Q)] 259)).frozen? ⟨w3.heap.size,1,none⟩=false:=by simp
     go_wp2_with (first
      |(go_at_call 198;(with_reducible refine(CM _).mono ?_);rintro e w6 ⟨rfl,b6⟩;have m0:=cb b6 n7 n5;have m1:=cb b6 n7 n6;have m2:=fb b6 n7 f5;have m3:=fb b6 n7 f6)
      |(go_at_call 203;(with_reducible refine(CH _).mono ?_);rintro e w7 ⟨rfl,b7⟩))
     go_ret;refine⟨rfl,?_⟩
     repeat (first|exact Below.refl _ _|with_reducible refine ba ?_ _|with_reducible refine bs ?_ (by omega) _|with_reducible refine bd ?_|(with_reducible refine bt ?_ (by assumption)))
 ·have hx2:0<=hi X:=by unfold hi;omega
  by_cases hd:d<0
  ·by_cases hu:D<2*R
   ·have hX:0<=hi X:=by omega
    have dX:decide (hi X<0)=false:=decide_eq_false (by omega);have dd:decide (d<0)=true:=decide_eq_true (by omega);rw[if_neg (by omega),if_pos (by omega)]at NC;have CH:=zbb (-(Q+1));rw[NC];have EX:=XP (by omega);rw[←EX]at CQ;clear NC XN XP EX PA PB p0 p1 hX hz hx hd;have hG:decide (D<2*R)=true:=decide_eq_true (by omega)
    go_enter Tryz.func173,Tryz.ntmps173
    go_upto_region 9 with(first
     |(go_at_call 197;(with_reducible refine(CP _).mono ?_);rintro e w1 ⟨rfl,b1⟩;have z1:w.heap.size<=w1.heap.size:=b1.size)
     |(go_at_call 199;(with_reducible refine(CS _).mono ?_);rintro e w' ⟨rfl,rfl⟩)
     |(go_at_call 200;(with_reducible refine(CQ _).mono ?_);rintro e w3 ⟨rfl,b3⟩;have z3:w.heap.size<=w3.heap.size:=(by have:=b3.size;simp at this;omega)))
    have n5:=zdh w3 (.int .i64 (hi Q)) (.int .u64 (lo Q)) 259;have n6:=zcN w3 (.int .i64 (hi Q)) (.int .u64 (lo Q)) 259;have n7:=zbC w3 (.cells #[.int .i64 (hi Q),.int .u64 (lo Q)] 259);have f5:(w3.alloc (.cells #[.int .i64 (hi Q),.int .u64 (lo Q)] 259)).frozen? ⟨w3.heap.size,0,none⟩=false:=by simp
    have f6:(w3.alloc (.cells #[.int .i64 (hi Q),.int .u64 (lo Q)] 259)).frozen? ⟨w3.heap.size,1,none⟩=false:=by simp
    go_upto_region 10 with(fail)
    go_region_with (first
     |(go_at_call 202;(with_reducible refine(CO _).mono ?_);rintro e w4 ⟨rfl,b4⟩;have m0:=cb b4 n7 n5;have m1:=cb b4 n7 n6;have m2:=fb b4 n7 f5;have m3:=fb b4 n7 f6;have m4:=Nat.lt_of_lt_of_le n7 b4.size)
     |(go_at_call 201;(with_reducible refine(CU _).mono ?_);rintro e w5 ⟨rfl,b5⟩;have o0:=cb b5 m4 m0;have o1:=cb b5 m4 m1;have o2:=fb b5 m4 m2;have o3:=fb b5 m4 m3;have o4:=Nat.lt_of_lt_of_le m4 b5.size))
    all_goals
     go_wp2_with (first
      |(go_at_call 198;(with_reducible refine(CV _).mono ?_);rintro e w6 ⟨rfl,b6⟩;have o5:=cb b6 (by simpa [World.setCell] using o4) (cs (by omega) (cw o0));have o6:=cb b6 (by simpa [World.setCell] using o4) (cw (cs (by omega) o1));have o7:=fb b6 (o:=0) (by simpa [World.setCell] using o4) (by simp[o2]);have o8:=fb b6 (o:=1) (by simpa [World.setCell] using o4) (by simp[o3]))
      |(go_at_call 203;(with_reducible refine(CH _).mono ?_);rintro e w7 ⟨rfl,b7⟩))
     go_ret;refine⟨rfl,?_⟩
     repeat (first|exact Below.refl _ _|with_reducible refine ba ?_ _|with_reducible refine bs ?_ (by omega) _|with_reducible refine bd ?_|(with_reducible refine bt ?_ (by assumption)))
   ·by_cases hv:D=2*R
    ·have hv2:D<=2*R:=by omega
     have hv3:2*R<=D:=by omega
     clear hv;have hX:0<=hi X:=by omega
     have dX:decide (hi X<0)=false:=decide_eq_false (by omega);have dd:decide (d<0)=true:=decide_eq_true (by omega);rw[if_neg (by omega),if_neg (by omega)]at NC;rw[Int.add_zero]at NC;have CH:=zbb (-Q);rw[NC];have EX:=XP (by omega);rw[←EX]at CQ;clear NC XN XP EX PA PB p0 p1 hX hz hx hd;have hE:(2*R == D)=true:=beq_iff_eq.2 (by omega);have hG:decide (D<2*R)=false:=decide_eq_false (by omega);clear hu
     go_enter Tryz.func173,Tryz.ntmps173
     go_upto_region 9 with(first
      |(go_at_call 197;(with_reducible refine(CP _).mono ?_);rintro e w1 ⟨rfl,b1⟩;have z1:w.heap.size<=w1.heap.size:=b1.size)
      |(go_at_call 199;(with_reducible refine(CS _).mono ?_);rintro e w' ⟨rfl,rfl⟩)
      |(go_at_call 200;(with_reducible refine(CQ _).mono ?_);rintro e w3 ⟨rfl,b3⟩;have z3:w.heap.size<=w3.heap.size:=(by have:=b3.size;simp at this;omega)))
     have n5:=zdh w3 (.int .i64 (hi Q)) (.int .u64 (lo Q)) 259;have n6:=zcN w3 (.int .i64 (hi Q)) (.int .u64 (lo Q)) 259;have n7:=zbC w3 (.cells #[.int .i64 (hi Q),.int .u64 (lo Q)] 259);have f5:(w3.alloc (.cells #[.int .i64 (hi Q),.int .u64 (lo Q)] 259)).frozen? ⟨w3.heap.size,0,none⟩=false:=by simp
     have f6:(w3.alloc (.cells #[.int .i64 (hi Q),.int .u64 (lo Q)] 259)).frozen? ⟨w3.heap.size,1,none⟩=false:=by simp
     go_wp2_with (first
      |(go_at_call 198;(with_reducible refine(CM _).mono ?_);rintro e w6 ⟨rfl,b6⟩;have m0:=cb b6 n7 n5;have m1:=cb b6 n7 n6;have m2:=fb b6 n7 f5;have m3:=fb b6 n7 f6)
      |(go_at_call 203;(with_reducible refine(CH _).mono ?_);rintro e w7 ⟨rfl,b7⟩))
     go_ret;refine⟨rfl,?_⟩
     repeat (first|exact Below.refl _ _|with_reducible refine ba ?_ _|with_reducible refine bs ?_ (by omega) _|with_reducible refine bd ?_|(with_reducible refine bt ?_ (by assumption)))
    ·have hX:0<=hi X:=by omega
     have dX:decide (hi X<0)=false:=decide_eq_false (by omega);have dd:decide (d<0)=true:=decide_eq_true (by omega);rw[if_neg (by omega),if_neg (by omega)]at NC;rw[Int.add_zero]at NC;have CH:=zbb (-Q);rw[NC];have EX:=XP (by omega);rw[←EX]at CQ;clear NC XN XP EX PA PB p0 p1 hX hz hx hd;have hE:(2*R == D)=false:=beq_eq_false_iff_ne.2 (by omega);have hG:decide (D<2*R)=false:=decide_eq_false (by omega)
     go_enter Tryz.func173,Tryz.ntmps173
     go_upto_region 9 with(first
      |(go_at_call 197;(with_reducible refine(CP _).mono ?_);rintro e w1 ⟨rfl,b1⟩;have z1:w.heap.size<=w1.heap.size:=b1.size)
      |(go_at_call 199;(with_reducible refine(CS _).mono ?_);rintro e w' ⟨rfl,rfl⟩)
      |(go_at_call 200;(with_reducible refine(CQ _).mono ?_);rintro e w3 ⟨rfl,b3⟩;have z3:w.heap.size<=w3.heap.size:=(by have:=b3.size;simp at this;omega)))
     have n5:=zdh w3 (.int .i64 (hi Q)) (.int .u64 (lo Q)) 259;have n6:=zcN w3 (.int .i64 (hi Q)) (.int .u64 (lo Q)) 259;have n7:=zbC w3 (.cells #[.int .i64 (hi Q),.int .u64 (lo Q)] 259);have f5:(w3.alloc (.cells #[.int .i64 (hi Q),.int .u64 (lo Q)] 259)).frozen? ⟨w3.heap.size,0,none⟩=false:=by simp
     have f6:(w3.alloc (.cells #[.int .i64 (hi Q),.int .u64 (lo Q)] 259)).frozen? ⟨w3.heap.size,1,none⟩=false:=by simp
     go_wp2_with (first
      |(go_at_call 198;(with_reducible refine(CM _).mono ?_);rintro e w6 ⟨rfl,b6⟩;have m0:=cb b6 n7 n5;have m1:=cb b6 n7 n6;have m2:=fb b6 n7 f5;have m3:=fb b6 n7 f6)
      |(go_at_call 203;(with_reducible refine(CH _).mono ?_);rintro e w7 ⟨rfl,b7⟩))
     go_ret;refine⟨rfl,?_⟩
     repeat (first|exact Below.refl _ _|with_reducible refine ba ?_ _|with_reducible refine bs ?_ (by omega) _|with_reducible refine bd ?_|(with_reducible refine bt ?_ (by assumption)))
  ·by_cases hu:D<2*R
   ·have hX:0<=hi X:=by omega
    have dX:decide (hi X<0)=false:=decide_eq_false (by omega);have dd:decide (d<0)=false:=decide_eq_false (by omega);rw[if_pos (by omega),if_pos (by omega)]at NC;have CH:=zbb (Q+1);rw[NC];have EX:=XP (by omega);rw[←EX]at CQ;clear NC XN XP EX PA PB p0 p1 hX hz hx hd;have hG:decide (D<2*R)=true:=decide_eq_true (by omega)
    go_enter Tryz.func173,Tryz.ntmps173
    go_upto_region 9 with(first
     |(go_at_call 197;(with_reducible refine(CP _).mono ?_);rintro e w1 ⟨rfl,b1⟩;have z1:w.heap.size<=w1.heap.size:=b1.size)
     |(go_at_call 199;(with_reducible refine(CS _).mono ?_);rintro e w' ⟨rfl,rfl⟩)
     |(go_at_call 200;(with_reducible refine(CQ _).mono ?_);rintro e w3 ⟨rfl,b3⟩;have z3:w.heap.size<=w3.heap.size:=(by have:=b3.size;simp at this;omega)))
    have n5:=zdh w3 (.int .i64 (hi Q)) (.int .u64 (lo Q)) 259;have n6:=zcN w3 (.int .i64 (hi Q)) (.int .u64 (lo Q)) 259;have n7:=zbC w3 (.cells #[.int .i64 (hi Q),.int .u64 (lo Q)] 259);have f5:(w3.alloc (.cells #[.int .i64 (hi Q),.int .u64 (lo Q)] 259)).frozen? ⟨w3.heap.size,0,none⟩=false:=by simp
    have f6:(w3.alloc (.cells #[.int .i64 (hi Q),.int .u64 (lo Q)] 259)).frozen? ⟨w3.heap.size,1,none⟩=false:=by simp
    go_upto_region 10 with(fail)
    go_region_with (first
     |(go_at_call 202;(with_reducible refine(CO _).mono ?_);rintro e w4 ⟨rfl,b4⟩;have m0:=cb b4 n7 n5;have m1:=cb b4 n7 n6;have m2:=fb b4 n7 f5;have m3:=fb b4 n7 f6;have m4:=Nat.lt_of_lt_of_le n7 b4.size)
     |(go_at_call 201;(with_reducible refine(CU _).mono ?_);rintro e w5 ⟨rfl,b5⟩;have o0:=cb b5 m4 m0;have o1:=cb b5 m4 m1;have o2:=fb b5 m4 m2;have o3:=fb b5 m4 m3;have o4:=Nat.lt_of_lt_of_le m4 b5.size))
    all_goals
     go_wp2_with (first
      |(go_at_call 203;(with_reducible refine(CH _).mono ?_);rintro e w7 ⟨rfl,b7⟩))
     go_ret;refine⟨rfl,?_⟩
     repeat (first|exact Below.refl _ _|with_reducible refine ba ?_ _|with_reducible refine bs ?_ (by omega) _|with_reducible refine bd ?_|(with_reducible refine bt ?_ (by assumption)))
   ·by_cases hv:D=2*R
    ·have hv2:D<=2*R:=by omega
     have hv3:2*R<=D:=by omega
     clear hv;have hX:0<=hi X:=by omega
     have dX:decide (hi X<0)=false:=decide_eq_false (by omega);have dd:decide (d<0)=false:=decide_eq_false (by omega);rw[if_pos (by omega),if_pos (by omega)]at NC;have CH:=zbb (Q+1);rw[NC];have EX:=XP (by omega);rw[←EX]at CQ;clear NC XN XP EX PA PB p0 p1 hX hz hx hd;have hE:(2*R == D)=true:=beq_iff_eq.2 (by omega);have hG:decide (D<2*R)=false:=decide_eq_false (by omega);clear hu
     go_enter Tryz.func173,Tryz.ntmps173
     go_upto_region 9 with(first
      |(go_at_call 197;(with_reducible refine(CP _).mono ?_);rintro e w1 ⟨rfl,b1⟩;have z1:w.heap.size<=w1.heap.size:=b1.size)
      |(go_at_call 199;(with_reducible refine(CS _).mono ?_);rintro e w' ⟨rfl,rfl⟩)
      |(go_at_call 200;(with_reducible refine(CQ _).mono ?_);rintro e w3 ⟨rfl,b3⟩;have z3:w.heap.size<=w3.heap.size:=(by have:=b3.size;simp at this;omega)))
     have n5:=zdh w3 (.int .i64 (hi Q)) (.int .u64 (lo Q)) 259;have n6:=zcN w3 (.int .i64 (hi Q)) (.int .u64 (lo Q)) 259;have n7:=zbC w3 (.cells #[.int .i64 (hi Q),.int .u64 (lo Q)] 259);have f5:(w3.alloc (.cells #[.int .i64 (hi Q),.int .u64 (lo Q)] 259)).frozen? ⟨w3.heap.size,0,none⟩=false:=by simp
     have f6:(w3.alloc (.cells #[.int .i64 (hi Q),.int .u64 (lo Q)] 259)).frozen? ⟨w3.heap.size,1,none⟩=false:=by simp
     go_upto_region 10 with(fail)
     go_region_with (first
      |(go_at_call 202;(with_reducible refine(CO _).mono ?_);rintro e w4 ⟨rfl,b4⟩;have m0:=cb b4 n7 n5;have m1:=cb b4 n7 n6;have m2:=fb b4 n7 f5;have m3:=fb b4 n7 f6;have m4:=Nat.lt_of_lt_of_le n7 b4.size)
      |(go_at_call 201;(with_reducible refine(CU _).mono ?_);rintro e w5 ⟨rfl,b5⟩;have o0:=cb b5 m4 m0;have o1:=cb b5 m4 m1;have o2:=fb b5 m4 m2;have o3:=fb b5 m4 m3;have o4:=Nat.lt_of_lt_of_le m4 b5.size))
     all_goals
      go_wp2_with (first
       |(go_at_call 203;(with_reducible refine(CH _).mono ?_);rintro e w7 ⟨rfl,b7⟩))
      go_ret;refine⟨rfl,?_⟩
      repeat (first|exact Below.refl _ _|with_reducible refine ba ?_ _|with_reducible refine bs ?_ (by omega) _|with_reducible refine bd ?_|(with_reducible refine bt ?_ (by assumption)))
    ·have hX:0<=hi X:=by omega
     have dX:decide (hi X<0)=false:=decide_eq_false (by omega);have dd:decide (d<0)=false:=decide_eq_false (by omega);rw[if_pos (by omega),if_neg (by omega)]at NC;rw[Int.add_zero]at NC;have CH:=zbb (Q);rw[NC];have EX:=XP (by omega);rw[←EX]at CQ;clear NC XN XP EX PA PB p0 p1 hX hz hx hd;have hE:(2*R == D)=false:=beq_eq_false_iff_ne.2 (by omega);have hG:decide (D<2*R)=false:=decide_eq_false (by omega)
     go_enter Tryz.func173,Tryz.ntmps173
     go_upto_region 9 with(first
      |(go_at_call 197;(with_reducible refine(CP _).mono ?_);rintro e w1 ⟨rfl,b1⟩;have z1:w.heap.size<=w1.heap.size:=b1.size)
      |(go_at_call 199;(with_reducible refine(CS _).mono ?_);rintro e w' ⟨rfl,rfl⟩)
      |(go_at_call 200;(with_reducible refine(CQ _).mono ?_);rintro e w3 ⟨rfl,b3⟩;have z3:w.heap.size<=w3.heap.size:=(by have:=b3.size;simp at this;omega)))
     have n5:=zdh w3 (.int .i64 (hi Q)) (.int .u64 (lo Q)) 259;have n6:=zcN w3 (.int .i64 (hi Q)) (.int .u64 (lo Q)) 259;have n7:=zbC w3 (.cells #[.int .i64 (hi Q),.int .u64 (lo Q)] 259);have f5:(w3.alloc (.cells #[.int .i64 (hi Q),.int .u64 (lo Q)] 259)).frozen? ⟨w3.heap.size,0,none⟩=false:=by simp
     have f6:(w3.alloc (.cells #[.int .i64 (hi Q),.int .u64 (lo Q)] 259)).frozen? ⟨w3.heap.size,1,none⟩=false:=by simp
     go_wp2_with (first
      |(go_at_call 203;(with_reducible refine(CH _).mono ?_);rintro e w7 ⟨rfl,b7⟩))
     go_ret;refine⟨rfl,?_⟩
     repeat (first|exact Below.refl _ _|with_reducible refine ba ?_ _|with_reducible refine bs ?_ (by omega) _|with_reducible refine bd ?_|(with_reducible refine bt ?_ (by assumption)))
theorem zje (a b P:Int) (hP:a*b=P) (a0:0<=a) (a1:a<18446744073709551616) (b0:0<=b) (b1:b<18446744073709551616) (w:World) :
  Calls Tryz.prog 214 #[.int .u64 a,.int .u64 b] w λe w'=>e=.returned (.agg #[.int .u64 (hi P),.int .u64 (lo P)])/\Below w.heap.size w w':=by
 subst hP;exact zrQ a b a0 a1 b0 b1 w
end Go.Proofs.YtlodkoimdoeopaaGreatDoor
namespace Go.Proofs.YtlodkoimdoeopaaGreatDoor
structure DigC (a c U v:Int):Prop where
 a0:2147483648<=a
 a1:a<4294967296
 c0:0<=c
 c1:c<4294967296
 u0:0<=U
 u1:U<a*4294967296+c
 v0:0<=v
 v1:v<4294967296
def zdn (a c U v:Int):Int:=(U*4294967296+v) / (a*4294967296+c)
def znO (a c U v:Int):Int:=(U*4294967296+v) % (a*4294967296+c)
theorem ztr (a c U v:Int):(a*4294967296+c)*zdn a c U v+znO a c U v=U*4294967296+v:=Int.mul_ediv_add_emod _ _
theorem zbV {a c U v:Int} (C:DigC a c U v):0<=zdn a c U v/\zdn a c U v<4294967296/\0<=znO a c U v/\znO a c U v<a*4294967296+c:=by
 obtain⟨a0,a1,c0,c1,u0,u1,v0,v1⟩:=C;refine⟨Int.ediv_nonneg (by omega) (by omega),Int.ediv_lt_of_lt_mul (by omega) (by omega),Int.emod_nonneg _ (by omega),Int.emod_lt_of_pos _ (by omega)⟩
structure Dig (a c U v q r:Int):Prop where
 e:q*a+r=U
 r0:0<=r
 lo:zdn a c U v<=q
 hi:q<=4294967297
theorem Dig.first {a c U v:Int} (C:DigC a c U v):Dig a c U v (U / a) (U % a)/\U % a<4294967296:=by
 obtain⟨a0,a1,c0,c1,u0,u1,v0,v1⟩:=C;have ap:0<a:=by omega
 have e:=Int.mul_ediv_add_emod U a;have r:=za1 (x:=U) ap;refine⟨⟨by rw[Int.mul_comm];exact e,r.1,?_,?_⟩,by omega⟩
 ·have q0:0<=U / a:=Int.ediv_nonneg u0 (by omega);have p0:=Int.mul_nonneg q0 c0;have h1:zdn a c U v<U / a+1:=Int.ediv_lt_of_lt_mul (by omega) (by
   have h2:(U / a+1)*(a*4294967296+c)=(a*(U / a))*4294967296+(U / a)*c+(a*4294967296+c):=by
    rw[Int.add_mul,Int.one_mul,Int.mul_add,←Int.mul_assoc,Int.mul_comm (U / a) a]
   rw[h2];omega)
  omega
 ·have:U / a<4294967298:=Int.ediv_lt_of_lt_mul ap (by omega);omega
theorem Dig.times {a c U v q r:Int} (h:Dig a c U v q r):(a*4294967296+c)*q=(U-r)*4294967296+q*c:=by
 have e:=h.e;have e2:(a*4294967296+c)*q=q*a*4294967296+q*c:=by
  rw[Int.add_mul,Int.mul_comm c q,Int.mul_right_comm,Int.mul_comm a q]
 rw[e2];have:q*a=U-r:=by omega
 rw[this]
theorem Dig.above {a c U v q r:Int} (C:DigC a c U v) (h:Dig a c U v q r) (hc:4294967296*r+v<q*c):zdn a c U v<q:=by
 have t:=h.times;have:=C.a0;have:=C.c0;exact Int.ediv_lt_of_lt_mul (by omega) (by rw[Int.mul_comm q,t];omega)
theorem Dig.below {a c U v q r:Int} (C:DigC a c U v) (h:Dig a c U v q r) (hc:q*c<=4294967296*r+v):zdn a c U v=q:=by
 have t:=h.times;have:=C.a0;have:=C.c0;have h2:q<=zdn a c U v:=Int.le_ediv_of_mul_le (by omega) (by rw[Int.mul_comm,t];omega);have:=h.lo;omega
theorem Dig.next {a c U v q r:Int} (C:DigC a c U v) (h:Dig a c U v q r) (hq:zdn a c U v<q):Dig a c U v (q-1) (r+a):=by
 have:=C.a0;have e:=h.e;have r0:=h.r0;have hi:=h.hi;refine⟨?_,by omega,by omega,by omega⟩;rw[Int.sub_mul,Int.one_mul];omega
theorem Dig.stop {a c U v q r:Int} (C:DigC a c U v) (h:Dig a c U v q r) (hq:zdn a c U v<q) (hr:4294967296<=r+a):zdn a c U v=q-1:=by
 refine(h.next C hq).below C ?_;have hi:=h.hi;have:=C.c0;have:=C.c1;have:=C.v0;have d:=(zbV C).1;have m:=Int.mul_le_mul (show q-1<=4294967296 by omega) (show c<=4294967295 by omega) (by omega) (by omega);omega
theorem Dig.prod {a c U v q r:Int} (C:DigC a c U v) (h:Dig a c U v q r) (hq:q<4294967296):0<=q*c/\q*c<=18446744065119617025:=by
 have lo:=h.lo;have:=C.c0;have:=C.c1;have d:=(zbV C).1;refine⟨Int.mul_nonneg (by omega) (by omega),?_⟩;have m:=Int.mul_le_mul (show q<=4294967295 by omega) (show c<=4294967295 by omega) (by omega) (by omega);omega
end Go.Proofs.YtlodkoimdoeopaaGreatDoor
