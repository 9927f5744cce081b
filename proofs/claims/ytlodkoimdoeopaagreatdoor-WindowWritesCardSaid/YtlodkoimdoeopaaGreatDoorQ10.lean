/- Parts, joined. -/
import Derived.Test.YtlodkoimdoeopaaGreatDoorQ09
import Derived.Test.YtlodkoimdoeopaaGreatDoorQ04
import Derived.WalkKit
import Derived.OwnWalk
import Derived.Deep.RegionHeld3
import Derived.Laws.OwnMore
namespace Go.Proofs.YtlodkoimdoeopaaGreatDoor
open Go.RowKit
def zaX (n m i j:Int):Int:=2*m*j-(2*i+1)*n+m
def zam (n m:Int):Int:=if n<m then 2*m else 2*n
def inW (f n m i j:Int):Bool:=if f=0 then decide (i*n<(j+1)*m) && decide (j*m<(i+1)*n) else decide (zaX n m i j<(if f=2 then 3*zam n m else 2*zam n m)) && decide (-(if f=2 then 3*zam n m else 2*zam n m)<zaX n m i j)
def zab (f n m i j:Int):Int:=if f=0 then zN ((min ((i+1)*n) ((j+1)*m)-max (i*n) (j*m))*1073741824) n else if f=1 then za8 (zaX n m i j) (zam n m) else zag (zaX n m i j) (zam n m)
theorem zcZ {x y A B:Int} (h0 : -A<=x) (h1:x<=A) (k0:0<=y) (k1:y<=B) (hA:0<=A) : -(A*B)<=x*y/\x*y<=A*B:=by
 have a:x*y<=A*y:=Int.mul_le_mul_of_nonneg_right h1 k0;have b:(-A)*y<=x*y:=Int.mul_le_mul_of_nonneg_right h0 k0;have c:A*y<=A*B:=Int.mul_le_mul_of_nonneg_left k1 hA;rw[Int.neg_mul]at b;omega
theorem zcz {n m i j:Int} (n0:1<=n) (n1:n<=65536) (m0:1<=m) (m1:m<=65536) (i0:0<=i) (i1:i<m) (j0 : -1048576<=j) (j1:j<=1048576) :
  (0<=i*n/\i*n<=4294967296)/\(0<=(i+1)*n/\(i+1)*n<=4294967296)/\(-68719476736<=j*m/\j*m<=68719476736)/\(-68719542272<=(j+1)*m/\(j+1)*m<=68719542272)/\(-137438953472<=2*m*j/\2*m*j<=137438953472)/\(0<=(2*i+1)*n/\(2*i+1)*n<=8589934592):=by
 have a:=zcZ (x:=i) (y:=n) (A:=65536) (B:=65536) (by omega) (by omega) (by omega) n1 (by omega);have a0:0<=i*n:=Int.mul_nonneg i0 (by omega);have b:=zcZ (x:=i+1) (y:=n) (A:=65536) (B:=65536) (by omega) (by omega) (by omega) n1 (by omega);have b0:0<=(i+1)*n:=Int.mul_nonneg (by omega) (by omega);have c:=zcZ (x:=j) (y:=m) (A:=1048576) (B:=65536) j0 j1 (by omega) m1 (by omega);have d:=zcZ (x:=j+1) (y:=m) (A:=1048577) (B:=65536) (by omega) (by omega) (by omega) m1 (by omega);have e:=zcZ (x:=j) (y:=2*m) (A:=1048576) (B:=131072) j0 j1 (by omega) (by omega) (by omega);rw[Int.mul_comm j (2*m)]at e;have g:=zcZ (x:=2*i+1) (y:=n) (A:=131072) (B:=65536) (by omega) (by omega) (by omega) n1 (by omega);have g0:0<=(2*i+1)*n:=Int.mul_nonneg (by omega) (by omega);omega
theorem zt6 {n m:Int} (n0:1<=n) (n1:n<=65536) (m0:1<=m) (m1:m<=65536):2<=zam n m/\zam n m<=131072:=by unfold zam;split<;>omega
theorem zmV {n m i j:Int} (n0:1<=n) (n1:n<=65536) (m0:1<=m) (m1:m<=65536) (i0:0<=i) (i1:i<m) (j0 : -1048576<=j) (j1:j<=1048576) : -200000000000<=zaX n m i j/\zaX n m i j<=200000000000:=by
 obtain⟨_,_,_,_,e,g⟩:=zcz n0 n1 m0 m1 i0 i1 j0 j1;unfold zaX;omega
theorem ziN (n m i j:Int) (n0:1<=n) (n1:n<=65536) (m0:1<=m) (m1:m<=65536) (i0:0<=i) (i1:i<m) (j0 : -1048576<=j) (j1:j<=1048576) (w:World) :
  Calls Tryz.prog 229 #[.int .i64 n,.int .i64 m,.int .i64 i,.int .i64 j] w λe w'=>e=.returned (.tuple #[.int .i64 (zaX n m i j),.int .i64 (zam n m)])/\Below w.heap.size w w':=by
 obtain⟨_,_,_,_,⟨e0,e1⟩,⟨g0,g1⟩⟩:=zcz n0 n1 m0 m1 i0 i1 j0 j1;unfold zaX zam
 by_cases g:n<m
 ·rw[if_pos g]
  go_enter Tryz.func229,Tryz.ntmps229
  go_wp2;exact bodyPost_ret (v:=.tuple #[.int .i64 (2*m*j-(2*i+1)*n+m),.int .i64 (2*m)]) (by simp[results,Tryz.results229,go_sem]) rfl ⟨rfl,Below.refl _ _⟩
 ·rw[if_neg g]
  go_enter Tryz.func229,Tryz.ntmps229
  go_wp2;exact bodyPost_ret (v:=.tuple #[.int .i64 (2*m*j-(2*i+1)*n+m),.int .i64 (2*n)]) (by simp[results,Tryz.results229,go_sem]) rfl ⟨rfl,Below.refl _ _⟩
theorem zrx (n m i j:Int) (n0:1<=n) (n1:n<=65536) (m0:1<=m) (m1:m<=65536) (i0:0<=i) (i1:i<m) (j0 : -1048576<=j) (j1:j<=1048576) (w:World) :
  Calls Tryz.prog 206 #[.int .i64 0,.int .i64 n,.int .i64 m,.int .i64 i,.int .i64 j] w λe w'=>e=.returned (.bool (inW 0 n m i j))/\Below w.heap.size w w':=by
 obtain⟨⟨a0,a1⟩,⟨b0,b1⟩,⟨c0,c1⟩,⟨d0,d1⟩,_,_⟩:=zcz n0 n1 m0 m1 i0 i1 j0 j1;rw[show inW 0 n m i j=(decide (i*n<(j+1)*m) && decide (j*m<(i+1)*n)) from if_pos rfl]
 by_cases g:i*n<(j+1)*m
 ·rw[decide_eq_true g,Bool.true_and]
  go_enter Tryz.func206,Tryz.ntmps206
  go_wp2;go_ret;exact⟨rfl,Below.refl _ _⟩
 ·rw[decide_eq_false g,Bool.false_and]
  go_enter Tryz.func206,Tryz.ntmps206
  go_wp2;go_ret;exact⟨rfl,Below.refl _ _⟩
theorem ztL (f n m i j:Int) (hf:f=1\/f=2) (n0:1<=n) (n1:n<=65536) (m0:1<=m) (m1:m<=65536) (i0:0<=i) (i1:i<m) (j0 : -1048576<=j) (j1:j<=1048576) (w:World) :
  Calls Tryz.prog 206 #[.int .i64 f,.int .i64 n,.int .i64 m,.int .i64 i,.int .i64 j] w λe w'=>e=.returned (.bool (inW f n m i j))/\Below w.heap.size w w':=by
 have CF:=ziN n m i j n0 n1 m0 m1 i0 i1 j0 j1;obtain⟨p0,p1⟩:=zmV n0 n1 m0 m1 i0 i1 j0 j1;obtain⟨q0,q1⟩:=zt6 n0 n1 m0 m1;have e:inW f n m i j=(decide (zaX n m i j<(if f=2 then 3*zam n m else 2*zam n m)) && decide (-(if f=2 then 3*zam n m else 2*zam n m)<zaX n m i j)):=if_neg (by omega);rw[e];clear e;generalize zaX n m i j=p at *;generalize zam n m=q at *;rcases hf with rfl|rfl
 ·rw[if_neg (by omega)]
  by_cases g:p<2*q
  ·rw[decide_eq_true g,Bool.true_and]
   go_enter Tryz.func206,Tryz.ntmps206
   go_wp2_with (go_at_call 229;(with_reducible refine(CF _).mono ?_);rintro e w1 ⟨rfl,b1⟩)
   go_ret;exact⟨rfl,b1⟩
  ·rw[decide_eq_false g,Bool.false_and]
   go_enter Tryz.func206,Tryz.ntmps206
   go_wp2_with (go_at_call 229;(with_reducible refine(CF _).mono ?_);rintro e w1 ⟨rfl,b1⟩)
   go_ret;exact⟨rfl,b1⟩
 ·rw[if_pos rfl]
  by_cases g:p<3*q
  ·rw[decide_eq_true g,Bool.true_and]
   go_enter Tryz.func206,Tryz.ntmps206
   go_wp2_with (go_at_call 229;(with_reducible refine(CF _).mono ?_);rintro e w1 ⟨rfl,b1⟩)
   go_ret;exact⟨rfl,b1⟩
  ·rw[decide_eq_false g,Bool.false_and]
   go_enter Tryz.func206,Tryz.ntmps206
   go_wp2_with (go_at_call 229;(with_reducible refine(CF _).mono ?_);rintro e w1 ⟨rfl,b1⟩)
   go_ret;exact⟨rfl,b1⟩
theorem zr9 (f n m i j:Int) (f0:0<=f) (f1:f<=2) (n0:1<=n) (n1:n<=65536) (m0:1<=m) (m1:m<=65536) (i0:0<=i) (i1:i<m) (j0 : -1048576<=j) (j1:j<=1048576) (w:World) :
  Calls Tryz.prog 206 #[.int .i64 f,.int .i64 n,.int .i64 m,.int .i64 i,.int .i64 j] w λe w'=>e=.returned (.bool (inW f n m i j))/\Below w.heap.size w w':=by
 by_cases h:f=0
 ·subst h;exact zrx n m i j n0 n1 m0 m1 i0 i1 j0 j1 w
 ·exact ztL f n m i j (by omega) n0 n1 m0 m1 i0 i1 j0 j1 w
theorem zlI (f n m i j:Int) (f0:0<=f) (f1:f<=2) (n0:1<=n) (n1:n<=65536) (m0:1<=m) (m1:m<=65536) (i0:0<=i) (i1:i<m) (j0 : -1048576<=j) (j1:j<=1048576) (w:World) :
  Calls Tryz.prog 207 #[.int .i64 f,.int .i64 n,.int .i64 m,.int .i64 i,.int .i64 j] w λe w'=>e=.returned (.int .i64 (zab f n m i j))/\Below w.heap.size w w':=by
 obtain⟨⟨a0,a1⟩,⟨b0,b1⟩,⟨c0,c1⟩,⟨d0,d1⟩,_,_⟩:=zcz n0 n1 m0 m1 i0 i1 j0 j1
 by_cases h:f=0
 ·subst h;obtain⟨lo,hlo⟩:∃ lo,max (i*n) (j*m)=lo:=⟨_,rfl⟩;obtain⟨hi',hhi⟩:∃ hi',min ((i+1)*n) ((j+1)*m)=hi':=⟨_,rfl⟩;have CM:=zbv (hi'-lo) 1073741824 n _ rfl (by omega) (by omega) (by omega) (by omega) (by omega) (by omega);rw[show zab 0 n m i j=zN ((hi'-lo)*1073741824) n by rw[←hlo,←hhi];exact if_pos rfl];generalize zN ((hi'-lo)*1073741824) n=z at *;have l:(decide (i*n<j*m)=true/\lo=j*m)\/(decide (i*n<j*m)=false/\lo=i*n):=by
   by_cases g:i*n<j*m
   ·exact Or.inl ⟨decide_eq_true g,by omega⟩
   ·exact Or.inr ⟨decide_eq_false g,by omega⟩
  have r:(decide ((j+1)*m<(i+1)*n)=true/\hi'=(j+1)*m)\/(decide ((j+1)*m<(i+1)*n)=false/\hi'=(i+1)*n):=by
   by_cases g:(j+1)*m<(i+1)*n
   ·exact Or.inl ⟨decide_eq_true g,by omega⟩
   ·exact Or.inr ⟨decide_eq_false g,by omega⟩
  clear hlo hhi;rcases l with⟨l,rfl⟩|⟨l,rfl⟩<;>rcases r with⟨r,rfl⟩|⟨r,rfl⟩
  all_goals
   go_enter Tryz.func207,Tryz.ntmps207
   go_wp2_with (go_at_call 180;(with_reducible refine(CM _).mono ?_);rintro e w1 ⟨rfl,b1⟩)
   go_ret;exact⟨rfl,b1⟩
 ·have CF:=ziN n m i j n0 n1 m0 m1 i0 i1 j0 j1;obtain⟨p0,p1⟩:=zmV n0 n1 m0 m1 i0 i1 j0 j1
  by_cases h1:f=1
  ·subst h1;rw[show zab 1 n m i j=za8 (zaX n m i j) (zam n m) by unfold zab;rw[if_neg (by omega),if_pos rfl]];have CK:=znU (zaX n m i j) (zam n m) (by omega) (by omega);generalize za8 (zaX n m i j) (zam n m)=z at *;generalize zaX n m i j=p at *;generalize zam n m=q at *
   go_enter Tryz.func207,Tryz.ntmps207
   go_wp2_with (first
    |(go_at_call 229;(with_reducible refine(CF _).mono ?_);rintro e w1 ⟨rfl,b1⟩)
    |(go_at_call 230;(with_reducible refine(CK _).mono ?_);rintro e w2 ⟨rfl,b2⟩))
   go_ret;exact⟨rfl,bt b1 b2⟩
  ·obtain rfl:f=2:=by omega
   rw[show zab 2 n m i j=zag (zaX n m i j) (zam n m) by unfold zab;rw[if_neg (by omega),if_neg (by omega)]];have CK:=zky (zaX n m i j) (zam n m) (by omega) (by omega);generalize zag (zaX n m i j) (zam n m)=z at *;generalize zaX n m i j=p at *;generalize zam n m=q at *
   go_enter Tryz.func207,Tryz.ntmps207
   go_wp2_with (first
    |(go_at_call 229;(with_reducible refine(CF _).mono ?_);rintro e w1 ⟨rfl,b1⟩)
    |(go_at_call 231;(with_reducible refine(CK _).mono ?_);rintro e w2 ⟨rfl,b2⟩))
   go_ret;exact⟨rfl,bt b1 b2⟩
theorem zgy {n m i j:Int}:inW 0 n m i j=true↔i*n<(j+1)*m/\j*m<(i+1)*n:=by
 rw[show inW 0 n m i j=(decide (i*n<(j+1)*m) && decide (j*m<(i+1)*n)) from if_pos rfl]
 simp
theorem zih {f n m i j:Int} (hf:f≠0):inW f n m i j=true↔zaX n m i j<(if f=2 then 3*zam n m else 2*zam n m)/\-(if f=2 then 3*zam n m else 2*zam n m)<zaX n m i j:=by
 rw[show inW f n m i j=(decide (zaX n m i j<(if f=2 then 3*zam n m else 2*zam n m)) && decide (-(if f=2 then 3*zam n m else 2*zam n m)<zaX n m i j)) from if_neg hf]
 simp
theorem zm1 {f n m:Int} (n0:1<=n) (n1:n<=65536) (m0:1<=m) (m1:m<=65536):2*n+2*m<=(if f=2 then 3*zam n m else 2*zam n m)/\(if f=2 then 3*zam n m else 2*zam n m)<=393216:=by
 unfold zam;split<;>split<;>omega
theorem zid (n m i j:Int):zaX n m i j=2*(j*m)-2*(i*n)-n+m:=by
 unfold zaX;have e1:2*m*j=2*(j*m):=by rw[Int.mul_assoc,Int.mul_comm m j]
 have e2:(2*i+1)*n=2*(i*n)+n:=by rw[Int.add_mul,Int.mul_assoc,Int.one_mul]
 rw[e1,e2];omega
theorem zk3 {f n m i:Int} (n0:1<=n) (n1:n<=65536) (m0:1<=m) (m1:m<=65536):inW f n m i (i*n / m)=true:=by
 have e:=Int.mul_ediv_add_emod (i*n) m;have r0:=Int.emod_nonneg (i*n) (show m≠0 by omega);have r1:=Int.emod_lt_of_pos (i*n) (show 0<m by omega);rw[Int.mul_comm]at e;have a1:(i*n / m+1)*m=i*n / m*m+m:=by rw[Int.add_mul,Int.one_mul]
 have a2:(i+1)*n=i*n+n:=by rw[Int.add_mul,Int.one_mul]
 by_cases hf:f=0
 ·subst hf;rw[zgy,a1,a2];omega
 ·rw[zih hf,zid];have:=zm1 (f:=f) n0 n1 m0 m1;omega
theorem zgj {f n m i j:Int} (n0:1<=n) (n1:n<=65536) (m0:1<=m) (m1:m<=65536) (i0:0<=i) (i1:i<m) (h:inW f n m i j=true) : -262144<j/\j<262144:=by
 have a0:0<=i*n:=Int.mul_nonneg i0 (by omega);have a1:i*n<=i*65536:=Int.mul_le_mul_of_nonneg_left n1 i0;have up:262144<=j->262144*m<=j*m:=λg=>Int.mul_le_mul_of_nonneg_right g (by omega)
 have dn:j<=-262144->j*m<=-262144*m:=λg=>Int.mul_le_mul_of_nonneg_right g (by omega)
 by_cases hf:f=0
 ·subst hf;rw[zgy,Int.add_mul,Int.add_mul,Int.one_mul,Int.one_mul]at h
  constructor
  ·by_cases g : -262144<j
   ·exact g
   ·have:=dn (by omega);omega
  ·by_cases g:j<262144
   ·exact g
   ·have:=up (by omega);omega
 ·rw[zih hf,zid]at h;have:=zm1 (f:=f) n0 n1 m0 m1
  constructor
  ·by_cases g : -262144<j
   ·exact g
   ·have:=dn (by omega);omega
  ·by_cases g:j<262144
   ·exact g
   ·have:=up (by omega);omega
theorem zic {f n m i a b c:Int} (m0:1<=m) (h1:a<=b) (h2:b<=c) (ha:inW f n m i a=true) (hc:inW f n m i c=true):inW f n m i b=true:=by
 have l:a*m<=b*m:=Int.mul_le_mul_of_nonneg_right h1 (by omega);have r:b*m<=c*m:=Int.mul_le_mul_of_nonneg_right h2 (by omega)
 by_cases hf:f=0
 ·subst hf;rw[zgy,Int.add_mul,Int.add_mul,Int.one_mul,Int.one_mul]at *;omega
 ·rw[zih hf,zid]at *;omega
def zfk (f n m i j0:Int) (c:Nat):Prop:=0<c/\inW f n m i (j0-1)=false/\(∀ k:Nat,k<c->inW f n m i (j0+k)=true)/\inW f n m i (j0+c)=false
theorem zig {f n m i a b:Int} {c d:Nat} (m0:1<=m) (h:zfk f n m i a c) (g:zfk f n m i b d):a=b/\c=d:=by
 obtain⟨h0,h1,h2,h3⟩:=h;obtain⟨g0,g1,g2,g3⟩:=g;have ha:inW f n m i a=true:=by have:=h2 0 h0;simpa using this
 have hb:inW f n m i b=true:=by have:=g2 0 g0;simpa using this
 have hal:inW f n m i (a+(c-1:Nat))=true:=h2 (c-1) (by omega);have hbl:inW f n m i (b+(d-1:Nat))=true:=g2 (d-1) (by omega);have no:∀ {x y:Int},inW f n m i x=false->inW f n m i y=true->x≠y:=by
  rintro x y hx hy rfl;rw[hx]at hy;cases hy
 have ab:a=b:=by
  by_cases q:a<b
  ·exact absurd (zic m0 (show a<=b-1 by omega) (show b-1<=b by omega) ha hb) (by rw[g1];decide)
  ·by_cases q2:b<a
   ·exact absurd (zic m0 (show b<=a-1 by omega) (show a-1<=a by omega) hb ha) (by rw[h1];decide)
   ·omega
 subst ab;refine⟨rfl,?_⟩
 by_cases q:c<d
 ·have:=g2 c q;rw[h3]at this;cases this
 ·by_cases q2:d<c
  ·have:=h2 d q2;rw[g3]at this;cases this
  ·omega
def zcI (f n m i j0:Int) (c:Nat):List Value:=(List.range c).map λk=>Value.int .i64 (zab f n m i (j0+(k:Nat)))
theorem zkU (f n m i j0:Int) (c:Nat):zcI f n m i j0 (c+1)=zcI f n m i j0 c++[Value.int .i64 (zab f n m i (j0+(c:Nat)))]:=by
 unfold zcI;rw[List.range_succ,List.map_append];rfl
theorem znj (f n m i j0:Int) (c:Nat):(zcI f n m i j0 c).length=c:=by unfold zcI;rw[List.length_map,List.length_range]
theorem zoP (f n m i:Int) (h:0<=f/\f<=2/\1<=n/\n<=65536/\1<=m/\m<=65536/\0<=i/\i<m) (w:World) :
  Calls Tryz.prog 205 #[.int .i64 f,.int .i64 n,.int .i64 m,.int .i64 i] w λe w'=>e=.returned (.bool true)/\Below w.heap.size w w':=by
 obtain⟨h1,h2,h3,h4,h5,h6,h7,h8⟩:=h
 go_enter Tryz.func205,Tryz.ntmps205
 go_wp2;go_ret;exact⟨rfl,Below.refl _ _⟩
theorem zwV:(Tryz.prog.info? 2).map (λi=>(i.zero,i.size,i.bytes))=some (some (.int .i64 0),1,8):=by kernel_rfl
theorem zcv {B:Nat} {e:TypeId} {k:Nat} {v:Value} {n:Nat} {xs:List Value} {w w':World} (h:w.ownsRow B e k v n xs) (hb:Below w.heap.size w w'):w'.ownsRow B e k v n xs:=by
 refine⟨h.1,?_⟩;rcases h.2 with h2|⟨g,cap,cur,hv,hB,hg,r⟩
 ·exact .inl h2
 ·refine .inr ⟨g,cap,cur,hv,hB,?_,r⟩;have hlt:g<w.heap.size:=by
   rcases Nat.lt_or_ge g w.heap.size with hlt|hge
   ·exact hlt
   ·rw[Array.getElem?_eq_none hge]at hg;cases hg
  rw[hb.block g hlt];exact hg
theorem zuV {w0 wc w2:World} {f n m i j0:Int} {c:Nat} {v v':Value} {o:Obj} (hb:Below w0.heap.size w0 wc) (hown:wc.ownsRow w0.heap.size 2 1 v c (zcI f n m i j0 c))
  (hown':w2.ownsRow w0.heap.size 2 1 v' (c+1) (zcI f n m i j0 c++[Value.int .i64 (zab f n m i (j0+(c:Nat)))]))
  (hgrow:(wc.alloc o).grownBy w2 v.ownBlock) :
  w2.ownsRow w0.heap.size 2 1 v' (c+1) (zcI f n m i j0 (c+1))/\Below w0.heap.size w0 w2:=by
 have hs:=hb.size;exact⟨by rw[zkU];exact hown',(hb.alloc (by omega) o).grown hgrow (by simp;omega) (λj hj=>(hown.lt j hj).1)⟩
set_option maxHeartbeats 4000000 in
set_option maxRecDepth 1000000 in
theorem zok (f n m i:Int) (h:0<=f/\f<=2/\1<=n/\n<=65536/\1<=m/\m<=65536/\0<=i/\i<m) (w:World) :
  Calls Tryz.prog 176 #[.int .i64 f,.int .i64 n,.int .i64 m,.int .i64 i] w λe w'=>∃ (j0:Int) (c:Nat) (v:Value),zfk f n m i j0 c/\-262144<j0/\j0<262144/\c<=524288/\e=.returned (.tuple #[.int .i64 j0,v])/\w'.ownsRow w.heap.size 2 1 v c (zcI f n m i j0 c)/\Below w.heap.size w w':=by
 have CM:=zoP f n m i h;obtain⟨h1,h2,h3,h4,h5,h6,h7,h8⟩:=h;have ST:=zk3 (f:=f) (i:=i) h3 h4 h5 h6;have CI:=λj (g0 : -1048576<=j) (g1:j<=1048576)=>zr9 f n m i j h1 h2 h3 h4 h5 h6 h7 h8 g0 g1
 have CW:=λj (g0 : -1048576<=j) (g1:j<=1048576)=>zlI f n m i j h1 h2 h3 h4 h5 h6 h7 h8 g0 g1
 have BD:=λj (g:inW f n m i j=true)=>zgj (f:=f) (j:=j) h3 h4 h5 h6 h7 h8 g
 obtain⟨a0,a1⟩:0<=i*n/\i*n<=4294967296:=by
  have a:=zcZ (x:=i) (y:=n) (A:=65536) (B:=65536) (by omega) (by omega) (by omega) h4 (by omega);have a0:0<=i*n:=Int.mul_nonneg h7 (by omega);omega
 have hm0:(m == 0)=false:=beq_eq_false_iff_ne.2 (by omega);obtain⟨i0,hi,hz0,hz1,hz2⟩:=info_parts zwV;have BDH:=za BD;have CIH:=za CI;have CWH:=za CW;have STH:=za ST;clear BD CI CW ST
 go_enter Tryz.func176,Tryz.ntmps176
 go_wp2_with (go_at_call 205;(with_reducible refine(CM _).mono ?_);rintro e w1 ⟨rfl,b1⟩)
 go_loopw [10] (λu wr=>∃ j:Int,u=.int .i64 j/\inW f n m i j=true/\Below w.heap.size w wr) (λu _=>(intOf u+262144).toNat)
 case atStart=>exact⟨_,rfl,STH.out,b1⟩
 case round =>
  obtain⟨j,rfl,hin,hb⟩:=hrel;obtain⟨j0,j1⟩:=BDH.out _ hin;have HB:=za hb;have HI:=za hin;clear hb hin b1;have C1:=CIH.out (j-1) (by omega) (by omega)
  by_cases hp:inW f n m i (j-1)=true
  ·rw[hp]at C1;have HP:=za hp;clear hp
   go_wp2_with (go_at_call 206;(with_reducible refine(C1 _).mono ?_);rintro e w2 ⟨rfl,b2⟩)
   go_roundw
   case rel=>exact⟨j-1,by go_num,HP.out,bt HB.out b2⟩
   case measure=>simp[intOf];omega
  ·have hp':inW f n m i (j-1)=false:=by simpa using hp
   rw[hp']at C1;have hp1:=za hp';clear hp hp'
   go_wp2_with (go_at_call 206;(with_reducible refine(C1 _).mono ?_);rintro e w2 ⟨rfl,b2⟩)
   go_loopw [10] (λu wq=>u=.int .i64 j/\Below w.heap.size w wq) (λ_ _=>0)
   case atStart=>exact⟨rfl,bt HB.out b2⟩
   case round =>
    obtain⟨rfl,hb⟩:=hrel;have HB2:=za hb;clear hb b2;have C2:=CIH.out j (by omega) (by omega);rw[HI.out]at C2
    go_wp2_with (go_at_call 206;(with_reducible refine(C2 _).mono ?_);rintro e w3 ⟨rfl,b3⟩)
    go_loopw [10,12] (λu v wq=>∃ c:Nat,u=.int .i64 (j+(c:Int))/\(∀ k:Nat,k<c->inW f n m i (j+(k:Int))=true)/\(c:Int)<=262144-j/\wq.ownsRow w.heap.size 2 1 v c (zcI f n m i j c)/\Below w.heap.size w wq) (λu _ _=>(262144-intOf u).toNat)
    case atStart=>exact⟨0,by simp,λk hk=>absurd hk (by omega),by omega,World.ownsRow_nil _ _ _ _,bt HB2.out b3⟩
    case round =>
     obtain⟨c,rfl,hall,hcb,hown,hb⟩:=hrel;have HA:=za hall;have HB3:=za hb;have HO:=za hown;clear hall hb hown b3 C1 C2;have C3:=CIH.out (j+(c:Int)) (by omega) (by omega)
     by_cases hp:inW f n m i (j+(c:Int))=true
     ·obtain⟨q0,q1⟩:=BDH.out _ hp;rw[hp]at C3;have HP:=za hp;clear hp;have C4:=CWH.out (j+(c:Int)) (by omega) (by omega)
      go_wp2_with (first
       |(go_at_call 206;(with_reducible refine(C3 _).mono ?_);rintro e w4 ⟨rfl,b4⟩)
       |(go_at_call 207;(with_reducible refine(C4 _).mono ?_);rintro e w5 ⟨rfl,b5⟩)
       |(at_builtin;refine wpList_append_own _ rfl _ _ 28 rfl w.heap.size 2 i0 (.int .i64 0) 1 8 Tryz.underlying28 hi hz0 hz1 hz2 rfl (by decide) _ _ _ rfl ((zcv (zcv HO.out b4) b5).alloc _) ⟨w5.heap.size,0,none⟩ 1 1 [.int .i64 (zab f n m i (j+(c:Int)))] rfl rfl ?c1 ?c2 ?c3 ?c4 ?c5 ?_))
      case c1 =>
       intro p u hp
       match p,hp with
       |0,hp=>simp at hp;subst hp;simp[Addr.add]
      case c2=>intro u hu;simp at hu;subst hu;rfl
      case c3=>unfold maxLen;omega
      case c4=>omega
      case c5=>have:=HB3.out.size;have:=b4.size;have:=b5.size;simp;omega
      intro v' w6 hown' hgrow _;have R:=zuV (bt (bt HB3.out b4) b5) (zcv (zcv HO.out b4) b5) hown' hgrow;clear hown' hgrow;go_wp2
      go_roundw
      case rel=>exact⟨c+1,by go_num,λk hk=>by
       by_cases e:k=c
       ·subst e;exact HP.out
       ·exact HA.out k (by omega),by omega,R.1,R.2⟩
      case measure=>simp[intOf];omega
     ·have hp':inW f n m i (j+(c:Int))=false:=by simpa using hp
      rw[hp']at C3;have HP:=za hp';clear hp hp'
      go_wp2_with (go_at_call 206;(with_reducible refine(C3 _).mono ?_);rintro e w4 ⟨rfl,b4⟩)
      have c0:0<c:=by
       rcases Nat.eq_zero_or_pos c with h|h
       ·subst h;have:=HP.out;rw[show j+((0:Nat):Int)=j by omega,HI.out]at this
        cases this
       ·exact h
      exact bodyPost_ret (v:=.tuple #[.int .i64 j,_]) (by simp[results,Tryz.results176,go_sem]) rfl ⟨j,c,_,⟨c0,hp1.out,HA.out,HP.out⟩,by omega,by omega,by omega,rfl,zcv HO.out b4,bt HB3.out b4⟩
def zdf (f n m i:Int):Prop:=0<=f/\f<=2/\1<=n/\n<=65536/\1<=m/\m<=65536/\0<=i/\i<m
def zaT (w:World):Prop :=
 w.cell? ⟨1,0,none⟩=some (.string ⟨#[98,111,120]⟩)/\w.cell? ⟨1,1,none⟩=some (.int .i64 0)/\w.cell? ⟨1,2,none⟩=some (.string ⟨#[99,117,98,105,99]⟩)/\w.cell? ⟨1,3,none⟩=some (.int .i64 2)/\w.cell? ⟨1,4,none⟩=some (.string ⟨#[108,97,110,99,122,111,115]⟩)/\w.cell? ⟨1,5,none⟩=some (.int .i64 3)
theorem zvt {w:World} {b o:Nat} {v:Value} (h:w.cell? ⟨b,o,none⟩=some v):b<w.heap.size:=by
 by_cases g:b<w.heap.size
 ·exact g
 ·have e:w.heap[b]?=none:=Array.getElem?_eq_none (by omega)
  simp[World.cell?,e]at h
theorem zbq {w w1:World} (h:zaT w) (b:Below w.heap.size w w1):zaT w1:=by
 obtain⟨c0,c1,c2,c3,c4,c5⟩:=h;have lc:=zvt c0;exact⟨cb b lc c0,cb b lc c1,cb b lc c2,cb b lc c3,cb b lc c4,cb b lc c5⟩
def zxQ:Prop:=∀ (f n m i:Int),zdf f n m i->∀ w:World,zaT w->Calls Tryz.prog 141 #[.int .i64 f,.int .i64 n,.int .i64 m,.int .i64 i] w λe w'=>∃ (j0:Int) (c:Nat) (v:Value),zfk f n m i j0 c/\e=.returned (.tuple #[.int .i64 j0,v])/\w'.ownsRow w.heap.size 2 1 v c (zcI f n m i j0 c)/\Below w.heap.size w w'
def zwc:Prop:=∀ a b:Int,-9223372036854775808<=a->a<=9223372036854775807->∀ w:World,Calls Tryz.prog 174 #[.int .i64 a,.int .i64 b] w λe w'=>e=.returned (.int .i64 (za8 a b))/\Below w.heap.size w w'
theorem zvP (f n m i j0:Int) {c k:Nat} (h:k<c):(zcI f n m i j0 c)[k]?=some (.int .i64 (zab f n m i (j0+(k:Nat)))):=by
 unfold zcI;rw[List.getElem?_map,List.getElem?_range h];rfl
theorem zs5 {w:World} {base:Nat} {e:TypeId} {size:Nat} {v:Value} {n:Nat} {xs:List Value} (h:w.ownsRow base e size v n xs) (hn:0<n):∃ g cap,v=.slice (some ⟨g,0,none⟩) n cap/\g<w.heap.size:=by
 rcases h.2 with⟨_,h0⟩|⟨g,cap,cur,hv,hb,hg,_⟩
 ·omega
 ·refine⟨g,cap,hv,?_⟩;rcases Nat.lt_or_ge g w.heap.size with hlt|hge
  ·exact hlt
  ·rw[Array.getElem?_eq_none hge]at hg;cases hg
theorem zkH {w:World} {base:Nat} {e:TypeId} {f n m i j0:Int} {g c cap k:Nat} (h:w.ownsRow base e 1 (.slice (some ⟨g,0,none⟩) c cap) c (zcI f n m i j0 c)) (hk:k<c):w.cell? ⟨g,k,none⟩=some (.int .i64 (zab f n m i (j0+(k:Nat)))):=by
 have:=h.cells (g:=g) rfl k _ (zvP f n m i j0 hk);have e:((⟨g,0,none⟩:Addr).add k)=⟨g,k,none⟩:=by
  unfold Addr.add
  by_cases hk0:k=0
  ·subst hk0;rfl
  ·simp[hk0]
 rw[e]at this;exact this
theorem zxW (CR:zxQ) (CK:zwc) (w:World) (hk:zaT w):Calls Tryz.prog 148 #[] w λe w'=>e=.returned (.bool true)/\Below w.heap.size w w':=by
 have C1:=CR 0 4 2 1 (by unfold zdf;omega);have k1:za8 0 1=1073741824:=by decide +kernel
 have k2:za8 1 2=603979776:=by decide +kernel
 have C2:=CK 0 1 (by omega) (by omega);have C3:=CK 1 2 (by omega) (by omega);rw[k1]at C2;rw[k2]at C3;have W:zfk 0 4 2 1 2 2:=by
  refine⟨by omega,by decide,?_,by decide⟩;intro k hk
  match k,hk with
  |0,_=>decide
  |1,_=>decide
 have u0:zab 0 4 2 1 (2+((0:Nat):Int))=536870912:=by decide +kernel
 have u1:zab 0 4 2 1 (2+((1:Nat):Int))=536870912:=by decide +kernel
 have WH:=za W;clear W k1 k2
 go_enter Tryz.func148,Tryz.ntmps148
 go_upto_region 2 with(go_at_call 141;(with_reducible refine(C1 _ hk).mono ?_);rintro e w1 ⟨j0,c,v,hwin,rfl,hown,b1⟩)
 obtain⟨rfl,rfl⟩:=zig (by omega) hwin WH.out;obtain⟨g,cap,rfl,hlt⟩:=zs5 hown (by omega);have q0:w1.cell? ⟨g,0,none⟩=some (.int .i64 536870912):=by rw[←u0];exact zkH hown (by omega)
 have q1:w1.cell? ⟨g,1,none⟩=some (.int .i64 536870912):=by rw[←u1];exact zkH hown (by omega)
 clear hown hwin u0 u1
 go_wp2_with (first
  |(go_at_call 174;(with_reducible refine(C2 _).mono ?_);rintro e w2 ⟨rfl,b2⟩)
  |(go_at_call 174;(with_reducible refine(C3 _).mono ?_);rintro e w3 ⟨rfl,b3⟩))
 go_ret;exact⟨rfl,bt (bt b1 b2) b3⟩
def I64 (x:Int):Prop := -9223372036854775808<=x/\x<=9223372036854775807
def zyl:Prop:=∀ (f n m i j0:Int) (c:Nat),zdf f n m i->zfk f n m i j0 c->∀ w:World,zaT w->Calls Tryz.prog 164 #[.int .i64 f,.int .i64 n,.int .i64 m,.int .i64 i] w λe w'=>e=.returned (.tuple #[.int .i64 j0,.int .i64 (c:Int)])/\Below w.heap.size w w'
theorem zwU {f n m i j0:Int} {c:Nat} (m0:1<=m) (h:zfk f n m i j0 c) (j:Int):inW f n m i j=true↔j0<=j/\j<j0+c:=by
 obtain⟨h0,h1,h2,h3⟩:=h;have ha:inW f n m i j0=true:=by have:=h2 0 h0;simpa using this
 have hl:inW f n m i (j0+(c-1:Nat))=true:=h2 (c-1) (by omega)
 constructor
 ·intro hj
  constructor
  ·by_cases q:j0<=j
   ·exact q
   ·have:=zic m0 (show j<=j0-1 by omega) (show j0-1<=j0 by omega) hj ha;rw[h1]at this;cases this
  ·by_cases q:j<j0+c
   ·exact q
   ·have:=zic m0 (show j0+(c-1:Nat)<=j0+(c:Int) by omega) (show j0+(c:Int)<=j by omega) hl hj;rw[h3]at this;cases this
 ·rintro ⟨q0,q1⟩;have:=h2 (j-j0).toNat (by omega);rw[show j0+((j-j0).toNat:Int)=j by omega]at this;exact this
def zfg (f:Int):Value:=if f=0 then .string ⟨#[98,111,120]⟩ else if f=1 then .string ⟨#[99,117,98,105,99]⟩ else if f=2 then .string ⟨#[108,97,110,99,122,111,115]⟩ else .string ⟨#[]⟩
def zye:Prop:=∀ f:Int,I64 f->∀ w:World,zaT w->Calls Tryz.prog 101 #[.int .i64 f] w λe w'=>e=.returned (zfg f)/\Below w.heap.size w w'
def zeF (n m i j:Int):Int:=min ((i+1)*n) ((j+1)*m)-max (i*n) (j*m)
theorem znE {n m i j:Int} (n0:1<=n) (n1:n<=65536) (m0:1<=m) (h:inW 0 n m i j=true):1<=zeF n m i j/\zeF n m i j<=n/\0<=zab 0 n m i j/\zab 0 n m i j<=1073741824/\-n<=2*(n*zab 0 n m i j)-2147483648*zeF n m i j/\2*(n*zab 0 n m i j)-2147483648*zeF n m i j<=n:=by
 rw[zgy]at h;have s5:(i+1)*n=i*n+n:=by rw[Int.add_mul,Int.one_mul]
 have s2:(j+1)*m=j*m+m:=by rw[Int.add_mul,Int.one_mul]
 have p:1<=zeF n m i j/\zeF n m i j<=n:=by unfold zeF;omega
 have e:zab 0 n m i j=zN (zeF n m i j*1073741824) n:=if_pos rfl;have q:=zed (X:=zeF n m i j*1073741824) (d:=n) (m:=1073741824) (by omega) (by omega) (by omega);have r:=znI (X:=zeF n m i j*1073741824) (d:=n) (by omega);rw[zck (by omega),zH (by omega) (by omega)]at e;rw[e];omega
def zbt (n m i:Int):Int:=(2*i+1)*n-m
def zbf (f n m:Int):Int:=if f=0 then n+m else if f=2 then 6*max n m else 4*max n m
theorem zls (n m:Int):zam n m=2*max n m:=by unfold zam;split<;>omega
theorem zsP (n m i j:Int):zaX n m i j=2*m*j-zbt n m i:=by unfold zaX zbt;omega
theorem ztm {f n m i:Int} (h:zdf f n m i) : -65536<=zbt n m i/\zbt n m i<=8589934592:=by
 obtain⟨_,_,n0,n1,m0,m1,i0,i1⟩:=h;obtain⟨_,_,_,_,_,g⟩:=zcz n0 n1 m0 m1 i0 i1 (show(-1048576:Int)<=0 by omega) (by omega);unfold zbt;omega
theorem zxF {f n m:Int} (n0:1<=n) (n1:n<=65536) (m0:1<=m) (m1:m<=65536):2<=zbf f n m/\zbf f n m<=393216:=by
 unfold zbf;split
 ·omega
 ·split<;>omega
theorem zwX (f n m i j:Int):inW f n m i j=true↔zbt n m i-zbf f n m<2*(j*m)/\2*(j*m)<zbt n m i+zbf f n m:=by
 have s1:(j+1)*m=j*m+m:=by rw[Int.add_mul,Int.one_mul]
 have s2:(i+1)*n=i*n+n:=by rw[Int.add_mul,Int.one_mul]
 have s3:(2*i+1)*n=2*(i*n)+n:=by rw[Int.add_mul,Int.mul_assoc,Int.one_mul]
 by_cases hf:f=0
 ·subst hf;rw[zgy,s1,s2];unfold zbt zbf;rw[s3,if_pos rfl];omega
 ·rw[zih hf,zid];unfold zbt zbf zam;rw[s3,if_neg hf]
  by_cases h2:f=2
  ·rw[if_pos h2,if_pos h2];split<;>omega
  ·rw[if_neg h2,if_neg h2];split<;>omega
def zbL (f n m i:Int):Int:=(zbt n m i-zbf f n m) / (2*m)
def zci (f n m i:Int):Int:=(zbt n m i+zbf f n m-1) / (2*m)
theorem zvz {f n m i:Int} (m0:1<=m) (j:Int):inW f n m i j=true↔zbL f n m i<j/\j<=zci f n m i:=by
 rw[zwX];unfold zbL zci;have a:=Int.mul_ediv_add_emod (zbt n m i-zbf f n m) (2*m);have a0:=Int.emod_nonneg (zbt n m i-zbf f n m) (show 2*m≠0 by omega);have a1:=Int.emod_lt_of_pos (zbt n m i-zbf f n m) (show 0<2*m by omega);have b:=Int.mul_ediv_add_emod (zbt n m i+zbf f n m-1) (2*m);have b0:=Int.emod_nonneg (zbt n m i+zbf f n m-1) (show 2*m≠0 by omega);have b1:=Int.emod_lt_of_pos (zbt n m i+zbf f n m-1) (show 0<2*m by omega);generalize (zbt n m i-zbf f n m) / (2*m)=x at *;generalize (zbt n m i+zbf f n m-1) / (2*m)=y at *;generalize (zbt n m i-zbf f n m) % (2*m)=r at *;generalize (zbt n m i+zbf f n m-1) % (2*m)=s at *;have ex:2*m*x=2*(x*m):=by rw[Int.mul_assoc,Int.mul_comm m x]
 have ey:2*m*y=2*(y*m):=by rw[Int.mul_assoc,Int.mul_comm m y]
 rw[ex]at a;rw[ey]at b;have l1:j<=x->j*m<=x*m:=λh=>Int.mul_le_mul_of_nonneg_right h (by omega)
 have l2:x+1<=j->(x+1)*m<=j*m:=λh=>Int.mul_le_mul_of_nonneg_right h (by omega)
 have l3:j<=y->j*m<=y*m:=λh=>Int.mul_le_mul_of_nonneg_right h (by omega)
 have l4:y+1<=j->(y+1)*m<=j*m:=λh=>Int.mul_le_mul_of_nonneg_right h (by omega)
 rw[Int.add_mul,Int.one_mul]at l2 l4
 constructor
 ·rintro ⟨h1,h2⟩
  constructor
  ·by_cases g:x<j
   ·exact g
   ·have:=l1 (by omega);omega
  ·by_cases g:j<=y
   ·exact g
   ·have:=l4 (by omega);omega
 ·rintro ⟨h1,h2⟩;have:=l2 (by omega);have:=l3 h2;omega
theorem zcX {f n m i:Int} (h:zdf f n m i):zfk f n m i (zbL f n m i+1) (zci f n m i-zbL f n m i).toNat/\-262144<zbL f n m i+1/\zbL f n m i+1<=zci f n m i/\zci f n m i<262144:=by
 obtain⟨_,_,n0,n1,m0,m1,i0,i1⟩:=h;have Q:=λj=>zvz (f:=f) (n:=n) (i:=i) m0 j
 have S:=(Q _).1 (zk3 (f:=f) (n:=n) (m:=m) (i:=i) n0 n1 m0 m1);have no:∀ j,¬(zbL f n m i<j/\j<=zci f n m i)->inW f n m i j=false:=by
  intro j hj
  by_cases g:inW f n m i j=true
  ·exact absurd ((Q j).1 g) hj
  ·simpa using g
 have b0:=zgj (f:=f) n0 n1 m0 m1 i0 i1 ((Q (zbL f n m i+1)).2 (by omega));have b1:=zgj (f:=f) n0 n1 m0 m1 i0 i1 ((Q (zci f n m i)).2 (by omega));refine⟨⟨by omega,no _ (by omega),λk hk=>(Q _).2 (by omega),no _ (by omega)⟩,b0.1,by omega,b1.2⟩
theorem zf4 (f:Int) (f0:0<=f) (f1:f<=2) (w:World) :
  Calls Tryz.prog 139 #[.int .i64 f] w λe w'=>e=.returned (.bool true)/\w=w':=by
 go_enter Tryz.func139,Tryz.ntmps139
 go_wp2;go_ret
 first|exact⟨rfl,rfl⟩|exact⟨zU (decide_eq_true (by omega)),rfl⟩
theorem zt8 (f:Int) (h:f<0\/2<f) (w:World) :
  Calls Tryz.prog 139 #[.int .i64 f] w λe w'=>e=.returned (.bool false)/\w=w':=by
 rcases h with h|h
 all_goals
  go_enter Tryz.func139,Tryz.ntmps139
  go_wp2;go_ret
  first|exact⟨rfl,rfl⟩|exact⟨zU (decide_eq_false (by omega)),rfl⟩
theorem zmg (n:Int) (n0:1<=n) (n1:n<=65536) (w:World) :
  Calls Tryz.prog 183 #[.int .i64 n] w λe w'=>e=.returned (.bool true)/\w=w':=by
 go_enter Tryz.func183,Tryz.ntmps183
 go_wp2;go_ret
 first|exact⟨rfl,rfl⟩|exact⟨zU (decide_eq_true (by omega)),rfl⟩
theorem zjV {f:Int} (n m i v:Int) (hv:zbt n m i=v) (h:zdf f n m i) (w:World) :
  Calls Tryz.prog 184 #[.int .i64 n,.int .i64 m,.int .i64 i] w λe w'=>e=.returned (.int .i64 v)/\w=w':=by
 obtain⟨_,_,n0,n1,m0,m1,i0,i1⟩:=h;obtain⟨_,_,_,_,_,g0,g1⟩:=zcz n0 n1 m0 m1 i0 i1 (show(-1048576:Int)<=0 by omega) (by omega);have HV:=za hv;clear hv
 go_enter Tryz.func184,Tryz.ntmps184
 go_wp2;go_ret;exact⟨zl (by rw[←HV.out];rfl),rfl⟩
theorem zqF (f n m v:Int) (hv:zbf f n m=v) (f0:0<=f) (f1:f<=2) (n0:1<=n) (n1:n<=65536) (m0:1<=m) (m1:m<=65536) (w:World) (hk:zaT w) :
  Calls Tryz.prog 185 #[.int .i64 f,.int .i64 n,.int .i64 m] w λe w'=>e=.returned (.int .i64 v)/\w=w':=by
 have x0:1<=max n m:=by omega
 have x1:max n m<=65536:=by omega
 obtain⟨_,_,_,k1,_,k2⟩:=hk;have HV:=za hv;clear hv
 by_cases h0:f=0
 ·subst h0
  go_enter Tryz.func185,Tryz.ntmps185
  go_wp2;go_ret;exact⟨zl (by rw[←HV.out];rfl),rfl⟩
 by_cases h1:f=1
 ·subst h1
  go_enter Tryz.func185,Tryz.ntmps185
  go_wp2;go_ret;exact⟨zl (by rw[←HV.out];unfold zbf;rw[if_neg (by omega),if_neg (by omega)]),rfl⟩
 ·obtain rfl:f=2:=by omega
  go_enter Tryz.func185,Tryz.ntmps185
  go_wp2;go_ret;exact⟨zl (by rw[←HV.out];unfold zbf;rw[if_neg (by omega),if_pos rfl]),rfl⟩
theorem zhn:zye:=by
 intro f hf w hk;obtain⟨f0,f1⟩:=hf;obtain⟨k0,_,k1,_,k2,_⟩:=hk
 by_cases h0:f=0
 ·subst h0;have C:=λw=>zf4 0 (by omega) (by omega) w
  go_enter Tryz.func101,Tryz.ntmps101
  go_wp2_with (go_at_call 139;(with_reducible refine(C _).mono ?_);rintro e w1 ⟨rfl,rfl⟩)
  go_ret;exact⟨rfl,Below.refl _ _⟩
 by_cases h1:f=1
 ·subst h1;have C:=λw=>zf4 1 (by omega) (by omega) w
  go_enter Tryz.func101,Tryz.ntmps101
  go_wp2_with (go_at_call 139;(with_reducible refine(C _).mono ?_);rintro e w1 ⟨rfl,rfl⟩)
  go_ret;exact⟨rfl,Below.refl _ _⟩
 by_cases h2:f=2
 ·subst h2;have C:=λw=>zf4 2 (by omega) (by omega) w
  go_enter Tryz.func101,Tryz.ntmps101
  go_wp2_with (go_at_call 139;(with_reducible refine(C _).mono ?_);rintro e w1 ⟨rfl,rfl⟩)
  go_ret;exact⟨rfl,Below.refl _ _⟩
 ·have C:=λw=>zt8 f (by omega) w
  rw[show zfg f=.string ⟨#[]⟩ by unfold zfg;rw[if_neg h0,if_neg h1,if_neg h2]];clear h0 h1 h2 k0 k1 k2
  go_enter Tryz.func101,Tryz.ntmps101
  go_wp2_with (go_at_call 139;(with_reducible refine(C _).mono ?_);rintro e w1 ⟨rfl,rfl⟩)
  go_ret;exact⟨rfl,Below.refl _ _⟩
theorem zl0 {a b v:Int} (hv:a / b=v) (hb:0<b) (v0 : -9223372036854775808<=v) (v1:v<=9223372036854775807):zc1 a b=v:=by
 rw[zdo (by omega),show zak a b=v by unfold zak;rw[if_neg (by omega)];exact hv,zH v0 v1]
theorem ztK (f n m i c s u v:Int) (hc:zbt n m i=c) (hs:zbf f n m=s) (hu:zbL f n m i=u) (hv:zci f n m i=v) (h:zdf f n m i) (w:World) (hk:zaT w) :
  Calls Tryz.prog 164 #[.int .i64 f,.int .i64 n,.int .i64 m,.int .i64 i] w λe w'=>e=.returned (.tuple #[.int .i64 (u+1),.int .i64 (v-(u+1)+1)])/\w=w':=by
 have CC:=zjV n m i c hc h;obtain⟨_,b0,b1,b2⟩:=zcX h;obtain⟨c0,c1⟩:=ztm h;obtain⟨f0,f1,n0,n1,m0,m1,i0,i1⟩:=h;obtain⟨s0,s1⟩:=zxF (f:=f) n0 n1 m0 m1;have CS:=λw hk=>zqF f n m s hs f0 f1 n0 n1 m0 m1 w hk
 rw[hc]at c0 c1;rw[hs]at s0 s1;rw[hu]at b0 b1;rw[hv]at b1 b2;unfold zbL at hu;unfold zci at hv;rw[hc,hs]at hu hv;have e1:=zl0 hu (show 0<2*m by omega) (by omega) (by omega);have e2:=zl0 hv (show 0<2*m by omega) (by omega) (by omega);have C1:=λw=>zdp (c-s) (2*m) (by omega) (by omega) (by omega) (by omega) w
 have C2:=λw=>zdp (c+s-1) (2*m) (by omega) (by omega) (by omega) (by omega) w
 rw[e1]at C1;rw[e2]at C2;have K0:=λw=>zf4 f f0 f1 w
 have K1:=λw=>zmg n n0 n1 w
 have K2:=λw=>zmg m m0 m1 w
 clear e1 e2 hu hv hc hs
 go_enter Tryz.func164,Tryz.ntmps164
 go_wp2_with (first
  |(go_at_call 139;(with_reducible refine(K0 _).mono ?_);rintro e w1 ⟨rfl,rfl⟩)
  |(go_at_call 183;(with_reducible refine(K1 _).mono ?_);rintro e w1 ⟨rfl,rfl⟩)
  |(go_at_call 183;(with_reducible refine(K2 _).mono ?_);rintro e w1 ⟨rfl,rfl⟩)
  |(go_at_call 184;(with_reducible refine(CC _).mono ?_);rintro e w1 ⟨rfl,rfl⟩)
  |(go_at_call 185;(with_reducible refine(CS _ hk).mono ?_);rintro e w1 ⟨rfl,rfl⟩)
  |(go_at_call 168;(with_reducible refine(C1 _).mono ?_);rintro e w1 ⟨rfl,rfl⟩)
  |(go_at_call 168;(with_reducible refine(C2 _).mono ?_);rintro e w1 ⟨rfl,rfl⟩))
 exact bodyPost_ret (v:=.tuple #[.int .i64 (u+1),.int .i64 (v-(u+1)+1)]) (by simp[results,Tryz.results164,go_sem]) rfl ⟨rfl,rfl⟩
theorem zwN:zyl:=by
 intro f n m i j0 c h hw w hk;obtain⟨W,b0,b1,b2⟩:=zcX h;obtain⟨rfl,rfl⟩:=zig h.2.2.2.2.1 hw W;refine(ztK f n m i _ _ _ _ rfl rfl rfl rfl h w hk).mono ?_;rintro e w1 ⟨rfl,rfl⟩;refine⟨?_,Below.refl _ _⟩;rw[show((zci f n m i-zbL f n m i).toNat:Int)=zci f n m i-(zbL f n m i+1)+1 by omega]
theorem zr6 (f n m i j:Int) (h:zdf f n m i) (hin:inW f n m i j=true) (w:World) :
  Calls Tryz.prog 165 #[.int .i64 f,.int .i64 n,.int .i64 m,.int .i64 i,.int .i64 j] w λe w'=>e=.returned (.int .i64 (zab f n m i j))/\Below w.heap.size w w':=by
 obtain⟨cv,hc⟩:∃ c,zbt n m i=c:=⟨_,rfl⟩;have CC:=zjV n m i cv hc h;obtain⟨c0,c1⟩:=ztm h;rw[hc]at c0 c1;obtain⟨f0,f1,n0,n1,m0,m1,i0,i1⟩:=h;obtain⟨j0,j1⟩:=zgj (f:=f) n0 n1 m0 m1 i0 i1 hin;obtain⟨⟨a0,a1⟩,⟨b0,b1⟩,⟨d0,d1⟩,⟨e0,e1⟩,⟨g0,g1⟩,_⟩:=zcz n0 n1 m0 m1 i0 i1 (show -1048576<=j by omega) (show j<=1048576 by omega)
 by_cases hf:f=0
 ·subst hf;rw[show zab 0 n m i j=zN ((min ((i+1)*n) ((j+1)*m)-max (i*n) (j*m))*1073741824) n from if_pos rfl];have x0 : -68719542272<=min ((i+1)*n) ((j+1)*m):=by omega
  have x1:min ((i+1)*n) ((j+1)*m)<=4294967296:=by omega
  have y0:0<=max (i*n) (j*m):=by omega
  have y1:max (i*n) (j*m)<=68719476736:=by omega
  obtain⟨z0,z1,_⟩:=znE n0 n1 m0 hin;unfold zeF at z0 z1;clear hin;have CD:=λw=>zrk ((min ((i+1)*n) ((j+1)*m)-max (i*n) (j*m))*1073741824) n (by omega) (by omega) (by omega) (by omega) w
  generalize zN ((min ((i+1)*n) ((j+1)*m)-max (i*n) (j*m))*1073741824) n=z at *;clear CC hc
  go_enter Tryz.func165,Tryz.ntmps165
  go_wp2_with (go_at_call 186;(with_reducible refine(CD _).mono ?_);rintro e w1 ⟨rfl,rfl⟩)
  go_ret;exact⟨rfl,Below.refl _ _⟩
 ·clear hin;have x0:1<=max n m:=by omega
  have x1:max n m<=65536:=by omega
  have ep:zaX n m i j=2*m*j-cv:=by rw[zsP,hc]
  have eq:=zls n m
  by_cases h1:f=1
  ·subst h1;rw[show zab 1 n m i j=za8 (2*m*j-cv) (2*max n m) by rw[←ep,←eq];unfold zab;rw[if_neg (by omega),if_pos rfl]];have CK:=λw=>zmf (2*m*j-cv) (2*max n m) (by omega) (by omega) w
   generalize za8 (2*m*j-cv) (2*max n m)=z at *;clear ep eq hc
   go_enter Tryz.func165,Tryz.ntmps165
   go_wp2_with (first
    |(go_at_call 184;(with_reducible refine(CC _).mono ?_);rintro e w1 ⟨rfl,rfl⟩)
    |(go_at_call 174;(with_reducible refine(CK _).mono ?_);rintro e w2 ⟨rfl,b2⟩))
   go_ret;exact⟨rfl,b2⟩
  ·obtain rfl:f=2:=by omega
   rw[show zab 2 n m i j=zag (2*m*j-cv) (2*max n m) by rw[←ep,←eq];unfold zab;rw[if_neg (by omega),if_neg (by omega)]];have CK:=λw=>zn1 (2*m*j-cv) (2*max n m) (by omega) (by omega) w
   generalize zag (2*m*j-cv) (2*max n m)=z at *;clear ep eq hc
   go_enter Tryz.func165,Tryz.ntmps165
   go_wp2_with (first
    |(go_at_call 184;(with_reducible refine(CC _).mono ?_);rintro e w1 ⟨rfl,rfl⟩)
    |(go_at_call 187;(with_reducible refine(CK _).mono ?_);rintro e w2 ⟨rfl,b2⟩))
   go_ret;exact⟨rfl,b2⟩
theorem zt7:(Tryz.prog.info? 2).map (λi=>(i.zero,i.size,i.bytes))=some (some (.int .i64 0),1,8):=by kernel_rfl
def zhm (f n m i j0:Int) (k c:Nat):List Value:=zcI f n m i j0 k++List.replicate (c-k) (.int .i64 0)
theorem zsl (f n m i j0:Int) (c:Nat):zhm f n m i j0 0 c=List.replicate c (.int .i64 0):=by unfold zhm zcI;rfl
theorem zu1 (f n m i j0:Int) (c:Nat):zhm f n m i j0 c c=zcI f n m i j0 c:=by unfold zhm;simp
theorem zvu (f n m i j0:Int) {k c:Nat} (h:k<c):(zhm f n m i j0 k c).set k (.int .i64 (zab f n m i (j0+(k:Nat))))=zhm f n m i j0 (k+1) c:=by
 unfold zhm;rw[zkU,List.set_append_right _ _ (by rw[znj];exact Nat.le_refl _),znj,Nat.sub_self];obtain⟨d,hd⟩:∃ d,c-k=d+1:=⟨c-k-1,by omega⟩;rw[hd,show c-(k+1)=d by omega,List.replicate_succ,List.set_cons_zero,List.append_assoc];rfl
theorem zmM {w:World} {base:Nat} {e:TypeId} {g c cap k:Nat} {xs:List Value} (h:w.ownsRow base e 1 (.slice (some ⟨g,0,none⟩) c cap) c xs) (hk:k<c):∃ v,w.cell? ⟨g,k,none⟩=some v:=by
 have hl:=h.1;rw[Nat.mul_one]at hl;rw[h.cellAt k (by omega)];exact⟨_,List.getElem?_eq_getElem (by omega)⟩
set_option maxHeartbeats 4000000 in
set_option maxRecDepth 1000000 in
theorem zpe:zxQ:=by
 intro f n m i h w hk;obtain⟨W,b0,b1,b2⟩:=zcX h;obtain⟨u,hu⟩:∃ u,zbL f n m i+1=u:=⟨_,rfl⟩;obtain⟨c,hc⟩:∃ c,(zci f n m i-zbL f n m i).toNat=c:=⟨_,rfl⟩;have cb:1<=c/\c<=524288:=by omega
 rw[hu,hc]at W;rw[hu]at b0;have CW:=λw hk=>zwN f n m i u c h W w hk
 have I:=zwU h.2.2.2.2.1 W;have CG:=λj hj w=>zr6 f n m i j h hj w
 have ub:u<=524288:=by omega
 obtain⟨c0,c1⟩:=cb;obtain⟨i0,hi,hz0,hz1,hz2⟩:=info_parts zt7;have HW:=za W;have HI:=za I;have HG:=za CG;have hcz:((c:Int) == 0)=false:=beq_eq_false_iff_ne.2 (by omega);clear hu hc b1 b2 W I CG h
 go_enter Tryz.func141,Tryz.ntmps141
 go_wp2_with (first
  |(go_at_call 164;(with_reducible refine(CW _ hk).mono ?_);rintro e w1 ⟨rfl,b1⟩)
  |(at_make;refine wpList_make_full _ rfl _ _ 28 rfl w.heap.size 2 i0 (.int .i64 0) 1 Tryz.underlying28 hi hz0 hz1 .i64 .i64 (c:Int) (c:Int) c rfl rfl rfl rfl (by rw[hz2];omega) (by unfold maxLen;omega) (by have:=b1.size;omega) ?_;intro w2 hown hgrow))
 have own0:w2.ownsRow w.heap.size 2 1 (.slice (some ⟨w1.heap.size,0,none⟩) c c) c (zhm f n m i u 0 c):=by
  rw[zsl,←toList_madeCells_one];rw[Nat.mul_one]at hown;exact hown
 have B2:Below w.heap.size w w2:=b1.grown hgrow b1.size (λj hj=>by cases hj);have hg0:=b1.size;clear hown hgrow b1 CW;generalize w1.heap.size=g at *
 go_loopw [26] (λt wr=>∃ k:Nat,t=.int .i64 (k:Int)/\k<=c/\Below w.heap.size w wr/\wr.ownsRow w.heap.size 2 1 (.slice (some ⟨g,0,none⟩) c c) c (zhm f n m i u k c)) (λt _=>c-(intOf t).toNat)
 case atStart=>exact⟨0,rfl,by omega,B2,own0⟩
 case round =>
  obtain⟨k,rfl,hkc,hb,ho⟩:=hrel;have HB:=za hb;have HO:=za ho;clear hb ho B2 own0
  by_cases hlt:k<c
  ·have C1:=HG.out (u+(k:Int)) ((HI.out _).2 (by omega));have HZ:=za (zvu f n m i u hlt);generalize zab f n m i (u+(k:Int))=W at *
   go_wp2_with (go_at_call 165;(with_reducible refine(C1 _).mono ?_);rintro e w3 ⟨rfl,b3⟩;have fz:=(zcv HO.out b3).frozenAt k;obtain⟨v,cl⟩:=zmM (zcv HO.out b3) hlt)
   go_roundw
   case rel =>
    refine⟨k+1,by go_num,by omega,bs (bt HB.out b3) hg0 _,?_⟩;rw[←HZ.out];exact((zcv HO.out b3).stored k _).1
   case measure=>simp[intOf];omega
  ·obtain rfl:k=c:=by omega
   have o2:=HO.out;rw[zu1]at o2;have HO2:=za o2;clear o2 HO;go_wp2;exact bodyPost_ret (v:=.tuple #[.int .i64 u,.slice (some ⟨g,0,none⟩) k k]) (by simp[results,Tryz.results141,go_sem]) rfl ⟨u,k,_,HW.out,rfl,HO2.out,HB.out⟩
end Go.Proofs.YtlodkoimdoeopaaGreatDoor
