/- Parts, joined. -/
import Derived.Test.YtlodkoimdoeopaaGreatDoorP11
import Derived.Test.YtlodkoimdoeopaaGreatDoorP04
import Derived.Test.YtlodkoimdoeopaaGreatDoorP10
import Derived.Test.YtlodkoimdoeopaaGreatDoorP09
import Derived.Deep.RegionHeld3
import Derived.Laws.OwnMore
namespace Go.Proofs.YtlodkoimdoeopaaGreatDoor
open Go.RowKit
def zc9 (f n m i:Int):Prop:=0<=f/\f<=2/\1<=n/\n<=65536/\1<=m/\m<=65536/\0<=i/\i<m
def zaT (w:World):Prop :=
 w.cell? ⟨1,0,none⟩=some (.string ⟨#[98,111,120]⟩)/\w.cell? ⟨1,1,none⟩=some (.int .i64 0)/\w.cell? ⟨1,2,none⟩=some (.string ⟨#[99,117,98,105,99]⟩)/\w.cell? ⟨1,3,none⟩=some (.int .i64 2)/\w.cell? ⟨1,4,none⟩=some (.string ⟨#[108,97,110,99,122,111,115]⟩)/\w.cell? ⟨1,5,none⟩=some (.int .i64 3)
theorem zvg {w:World} {b o:Nat} {v:Value} (h:w.cell? ⟨b,o,none⟩=some v):b<w.heap.size:=by
 by_cases g:b<w.heap.size
 ·exact g
 ·have e:w.heap[b]?=none:=Array.getElem?_eq_none (by omega)
  simp[World.cell?,e]at h
theorem zbs {w w1:World} (h:zaT w) (b:Below w.heap.size w w1):zaT w1:=by
 obtain⟨c0,c1,c2,c3,c4,c5⟩:=h;have lc:=zvg c0;exact⟨cb b lc c0,cb b lc c1,cb b lc c2,cb b lc c3,cb b lc c4,cb b lc c5⟩
def zx0:Prop:=∀ (f n m i:Int),zc9 f n m i->∀ w:World,zaT w->Calls Tryz.prog 141 #[.int .i64 f,.int .i64 n,.int .i64 m,.int .i64 i] w λe w'=>∃ (j0:Int) (c:Nat) (v:Value),zfx f n m i j0 c/\e=.returned (.tuple #[.int .i64 j0,v])/\w'.ownsRow w.heap.size 2 1 v c (zcG f n m i j0 c)/\Below w.heap.size w w'
def zwp:Prop:=∀ a b:Int,-9223372036854775808<=a->a<=9223372036854775807->∀ w:World,Calls Tryz.prog 174 #[.int .i64 a,.int .i64 b] w λe w'=>e=.returned (.int .i64 (zbd a b))/\Below w.heap.size w w'
theorem zui (f n m i j0:Int) {c k:Nat} (h:k<c):(zcG f n m i j0 c)[k]?=some (.int .i64 (zab f n m i (j0+(k:Nat)))):=by
 unfold zcG;rw[List.getElem?_map,List.getElem?_range h];rfl
theorem zti {w:World} {base:Nat} {e:TypeId} {size:Nat} {v:Value} {n:Nat} {xs:List Value} (h:w.ownsRow base e size v n xs) (hn:0<n):∃ g cap,v=.slice (some ⟨g,0,none⟩) n cap/\g<w.heap.size:=by
 rcases h.2 with⟨_,h0⟩|⟨g,cap,cur,hv,hb,hg,_⟩
 ·omega
 ·refine⟨g,cap,hv,?_⟩;rcases Nat.lt_or_ge g w.heap.size with hlt|hge
  ·exact hlt
  ·rw[Array.getElem?_eq_none hge]at hg;cases hg
theorem zlU {w:World} {base:Nat} {e:TypeId} {f n m i j0:Int} {g c cap k:Nat} (h:w.ownsRow base e 1 (.slice (some ⟨g,0,none⟩) c cap) c (zcG f n m i j0 c)) (hk:k<c):w.cell? ⟨g,k,none⟩=some (.int .i64 (zab f n m i (j0+(k:Nat)))):=by
 have:=h.cells (g:=g) rfl k _ (zui f n m i j0 hk);have e:((⟨g,0,none⟩:Addr).add k)=⟨g,k,none⟩:=by
  unfold Addr.add
  by_cases hk0:k=0
  ·subst hk0;rfl
  ·simp[hk0]
 rw[e]at this;exact this
theorem zx7 (CR:zx0) (CK:zwp) (w:World) (hk:zaT w):Calls Tryz.prog 148 #[] w λe w'=>e=.returned (.bool true)/\Below w.heap.size w w':=by
 have C1:=CR 0 4 2 1 (by unfold zc9;omega);have k1:zbd 0 1=1073741824:=by decide +kernel
 have k2:zbd 1 2=603979776:=by decide +kernel
 have C2:=CK 0 1 (by omega) (by omega);have C3:=CK 1 2 (by omega) (by omega);rw[k1]at C2;rw[k2]at C3;have W:zfx 0 4 2 1 2 2:=by
  refine⟨by omega,by decide,?_,by decide⟩;intro k hk
  match k,hk with
  |0,_=>decide
  |1,_=>decide
 have u0:zab 0 4 2 1 (2+((0:Nat):Int))=536870912:=by decide +kernel
 have u1:zab 0 4 2 1 (2+((1:Nat):Int))=536870912:=by decide +kernel
 have WH:=za W;clear W k1 k2
 go_enter Tryz.func148,Tryz.ntmps148
 go_upto_region 2 with(go_at_call 141;(with_reducible refine(C1 _ hk).mono ?_);rintro e w1 ⟨j0,c,v,hwin,rfl,hown,b1⟩)
 obtain⟨rfl,rfl⟩:=ziE (by omega) hwin WH.out;obtain⟨g,cap,rfl,hlt⟩:=zti hown (by omega);have q0:w1.cell? ⟨g,0,none⟩=some (.int .i64 536870912):=by rw[←u0];exact zlU hown (by omega)
 have q1:w1.cell? ⟨g,1,none⟩=some (.int .i64 536870912):=by rw[←u1];exact zlU hown (by omega)
 clear hown hwin u0 u1
 go_wp2_with (first
  |(go_at_call 174;(with_reducible refine(C2 _).mono ?_);rintro e w2 ⟨rfl,b2⟩)
  |(go_at_call 174;(with_reducible refine(C3 _).mono ?_);rintro e w3 ⟨rfl,b3⟩))
 go_ret;exact⟨rfl,bt (bt b1 b2) b3⟩
def I64 (x:Int):Prop := -9223372036854775808<=x/\x<=9223372036854775807
def zyJ:Prop:=∀ (f n m i j0:Int) (c:Nat),zc9 f n m i->zfx f n m i j0 c->∀ w:World,zaT w->Calls Tryz.prog 164 #[.int .i64 f,.int .i64 n,.int .i64 m,.int .i64 i] w λe w'=>e=.returned (.tuple #[.int .i64 j0,.int .i64 (c:Int)])/\Below w.heap.size w w'
theorem zxw {f n m i j0:Int} {c:Nat} (m0:1<=m) (h:zfx f n m i j0 c) (j:Int):inW f n m i j=true↔j0<=j/\j<j0+c:=by
 obtain⟨h0,h1,h2,h3⟩:=h;have ha:inW f n m i j0=true:=by have:=h2 0 h0;simpa using this
 have hl:inW f n m i (j0+(c-1:Nat))=true:=h2 (c-1) (by omega)
 constructor
 ·intro hj
  constructor
  ·by_cases q:j0<=j
   ·exact q
   ·have:=ziu m0 (show j<=j0-1 by omega) (show j0-1<=j0 by omega) hj ha;rw[h1]at this;cases this
  ·by_cases q:j<j0+c
   ·exact q
   ·have:=ziu m0 (show j0+(c-1:Nat)<=j0+(c:Int) by omega) (show j0+(c:Int)<=j by omega) hl hj;rw[h3]at this;cases this
 ·rintro ⟨q0,q1⟩;have:=h2 (j-j0).toNat (by omega);rw[show j0+((j-j0).toNat:Int)=j by omega]at this;exact this
def zfD (f:Int):Value:=if f=0 then .string ⟨#[98,111,120]⟩ else if f=1 then .string ⟨#[99,117,98,105,99]⟩ else if f=2 then .string ⟨#[108,97,110,99,122,111,115]⟩ else .string ⟨#[]⟩
def zyC:Prop:=∀ f:Int,I64 f->∀ w:World,zaT w->Calls Tryz.prog 101 #[.int .i64 f] w λe w'=>e=.returned (zfD f)/\Below w.heap.size w w'
def zet (n m i j:Int):Int:=min ((i+1)*n) ((j+1)*m)-max (i*n) (j*m)
theorem znZ {n m i j:Int} (n0:1<=n) (n1:n<=65536) (m0:1<=m) (h:inW 0 n m i j=true):1<=zet n m i j/\zet n m i j<=n/\0<=zab 0 n m i j/\zab 0 n m i j<=1073741824/\-n<=2*(n*zab 0 n m i j)-2147483648*zet n m i j/\2*(n*zab 0 n m i j)-2147483648*zet n m i j<=n:=by
 rw[zgS]at h;have s5:(i+1)*n=i*n+n:=by rw[Int.add_mul,Int.one_mul]
 have s2:(j+1)*m=j*m+m:=by rw[Int.add_mul,Int.one_mul]
 have p:1<=zet n m i j/\zet n m i j<=n:=by unfold zet;omega
 have e:zab 0 n m i j=zM (zet n m i j*1073741824) n:=if_pos rfl;have q:=zek (X:=zet n m i j*1073741824) (d:=n) (m:=1073741824) (by omega) (by omega) (by omega);have r:=zm3 (X:=zet n m i j*1073741824) (d:=n) (by omega);rw[zcg (by omega),zH (by omega) (by omega)]at e;rw[e];omega
def zbt (n m i:Int):Int:=(2*i+1)*n-m
def zbj (f n m:Int):Int:=if f=0 then n+m else if f=2 then 6*max n m else 4*max n m
theorem zlN (n m:Int):zaq n m=2*max n m:=by unfold zaq;split<;>omega
theorem zr6 (n m i j:Int):zaW n m i j=2*m*j-zbt n m i:=by unfold zaW zbt;omega
theorem zr7 {f n m i:Int} (h:zc9 f n m i) : -65536<=zbt n m i/\zbt n m i<=8589934592:=by
 obtain⟨_,_,n0,n1,m0,m1,i0,i1⟩:=h;obtain⟨_,_,_,_,_,g⟩:=zcz n0 n1 m0 m1 i0 i1 (show(-1048576:Int)<=0 by omega) (by omega);unfold zbt;omega
theorem zx2 {f n m:Int} (n0:1<=n) (n1:n<=65536) (m0:1<=m) (m1:m<=65536):2<=zbj f n m/\zbj f n m<=393216:=by
 unfold zbj;split
 ·omega
 ·split<;>omega
theorem zwP (f n m i j:Int):inW f n m i j=true↔zbt n m i-zbj f n m<2*(j*m)/\2*(j*m)<zbt n m i+zbj f n m:=by
 have s1:(j+1)*m=j*m+m:=by rw[Int.add_mul,Int.one_mul]
 have s2:(i+1)*n=i*n+n:=by rw[Int.add_mul,Int.one_mul]
 have s3:(2*i+1)*n=2*(i*n)+n:=by rw[Int.add_mul,Int.mul_assoc,Int.one_mul]
 by_cases hf:f=0
 ·subst hf;rw[zgS,s1,s2];unfold zbt zbj;rw[s3,if_pos rfl];omega
 ·rw[zix hf,ziz];unfold zbt zbj zaq;rw[s3,if_neg hf]
  by_cases h2:f=2
  ·rw[if_pos h2,if_pos h2];split<;>omega
  ·rw[if_neg h2,if_neg h2];split<;>omega
def zbI (f n m i:Int):Int:=(zbt n m i-zbj f n m) / (2*m)
def zce (f n m i:Int):Int:=(zbt n m i+zbj f n m-1) / (2*m)
theorem zvw {f n m i:Int} (m0:1<=m) (j:Int):inW f n m i j=true↔zbI f n m i<j/\j<=zce f n m i:=by
 rw[zwP];unfold zbI zce;have a:=Int.mul_ediv_add_emod (zbt n m i-zbj f n m) (2*m);have a0:=Int.emod_nonneg (zbt n m i-zbj f n m) (show 2*m≠0 by omega);have a1:=Int.emod_lt_of_pos (zbt n m i-zbj f n m) (show 0<2*m by omega);have b:=Int.mul_ediv_add_emod (zbt n m i+zbj f n m-1) (2*m);have b0:=Int.emod_nonneg (zbt n m i+zbj f n m-1) (show 2*m≠0 by omega);have b1:=Int.emod_lt_of_pos (zbt n m i+zbj f n m-1) (show 0<2*m by omega);generalize (zbt n m i-zbj f n m) / (2*m)=x at *;generalize (zbt n m i+zbj f n m-1) / (2*m)=y at *;generalize (zbt n m i-zbj f n m) % (2*m)=r at *;generalize (zbt n m i+zbj f n m-1) % (2*m)=s at *;have ex:2*m*x=2*(x*m):=by rw[Int.mul_assoc,Int.mul_comm m x]
 have ey:2*m*y=2*(y*m):=by rw[Int.mul_assoc,Int.mul_comm m y]
 rw[ex]at a;rw[ey]at b;have l1:j<=x->j*m<=x*m:=λh=>Int.mul_le_mul_of_nonneg_right h (by omega)
 have l2:x+1<=j->(x+1)*m<=j*m:=λh=>Int.mul_le_mul_of_nonneg_right h (by omega)
 have l3:j<=y->j*m<=y*m:=λh=>Int.mul_le_mul_of_nonneg_right h (by omega)
 have l4:y+1<=j->(y+1)*m<=j*m:=λh=>Int.mul_le_mul_of_nonneg_right h (by omega)
 rw[Int.add_mul,Int.one_mul]at l2 l4
 constructor
 ·rintro ⟨h1,h2⟩
  constructor
  ·by_cases g:x<j
   ·exact g
   ·have:=l1 (by omega);omega
  ·by_cases g:j<=y
   ·exact g
   ·have:=l4 (by omega);omega
 ·rintro ⟨h1,h2⟩;have:=l2 (by omega);have:=l3 h2;omega
theorem zcO {f n m i:Int} (h:zc9 f n m i):zfx f n m i (zbI f n m i+1) (zce f n m i-zbI f n m i).toNat/\-262144<zbI f n m i+1/\zbI f n m i+1<=zce f n m i/\zce f n m i<262144:=by
 obtain⟨_,_,n0,n1,m0,m1,i0,i1⟩:=h;have Q:=λj=>zvw (f:=f) (n:=n) (i:=i) m0 j
 have S:=(Q _).1 (zk7 (f:=f) (n:=n) (m:=m) (i:=i) n0 n1 m0 m1);have no:∀ j,¬(zbI f n m i<j/\j<=zce f n m i)->inW f n m i j=false:=by
  intro j hj
  by_cases g:inW f n m i j=true
  ·exact absurd ((Q j).1 g) hj
  ·simpa using g
 have b0:=zgj (f:=f) n0 n1 m0 m1 i0 i1 ((Q (zbI f n m i+1)).2 (by omega));have b1:=zgj (f:=f) n0 n1 m0 m1 i0 i1 ((Q (zce f n m i)).2 (by omega));refine⟨⟨by omega,no _ (by omega),λk hk=>(Q _).2 (by omega),no _ (by omega)⟩,b0.1,by omega,b1.2⟩
theorem zge (f:Int) (f0:0<=f) (f1:f<=2) (w:World) :
  Calls Tryz.prog 139 #[.int .i64 f] w λe w'=>e=.returned (.bool true)/\w=w':=by
 go_enter Tryz.func139,Tryz.ntmps139
 go_wp2;go_ret
 first|exact⟨rfl,rfl⟩|exact⟨zag (decide_eq_true (by omega)),rfl⟩
theorem zuJ (f:Int) (h:f<0\/2<f) (w:World) :
  Calls Tryz.prog 139 #[.int .i64 f] w λe w'=>e=.returned (.bool false)/\w=w':=by
 rcases h with h|h
 all_goals
  go_enter Tryz.func139,Tryz.ntmps139
  go_wp2;go_ret
  first|exact⟨rfl,rfl⟩|exact⟨zag (decide_eq_false (by omega)),rfl⟩
theorem zm4 (n:Int) (n0:1<=n) (n1:n<=65536) (w:World) :
  Calls Tryz.prog 183 #[.int .i64 n] w λe w'=>e=.returned (.bool true)/\w=w':=by
 go_enter Tryz.func183,Tryz.ntmps183
 go_wp2;go_ret
 first|exact⟨rfl,rfl⟩|exact⟨zag (decide_eq_true (by omega)),rfl⟩
theorem zj7 {f:Int} (n m i v:Int) (hv:zbt n m i=v) (h:zc9 f n m i) (w:World) :
  Calls Tryz.prog 184 #[.int .i64 n,.int .i64 m,.int .i64 i] w λe w'=>e=.returned (.int .i64 v)/\w=w':=by
 obtain⟨_,_,n0,n1,m0,m1,i0,i1⟩:=h;obtain⟨_,_,_,_,_,g0,g1⟩:=zcz n0 n1 m0 m1 i0 i1 (show(-1048576:Int)<=0 by omega) (by omega);have HV:=za hv;clear hv
 go_enter Tryz.func184,Tryz.ntmps184
 go_wp2;go_ret;exact⟨zm (by rw[←HV.out];rfl),rfl⟩
theorem zrD (f n m v:Int) (hv:zbj f n m=v) (f0:0<=f) (f1:f<=2) (n0:1<=n) (n1:n<=65536) (m0:1<=m) (m1:m<=65536) (w:World) (hk:zaT w) :
  Calls Tryz.prog 185 #[.int .i64 f,.int .i64 n,.int .i64 m] w λe w'=>e=.returned (.int .i64 v)/\w=w':=by
 have x0:1<=max n m:=by omega
 have x1:max n m<=65536:=by omega
 obtain⟨_,_,_,k1,_,k2⟩:=hk;have HV:=za hv;clear hv
 by_cases h0:f=0
 ·subst h0
  go_enter Tryz.func185,Tryz.ntmps185
  go_wp2;go_ret;exact⟨zm (by rw[←HV.out];rfl),rfl⟩
 by_cases h1:f=1
 ·subst h1
  go_enter Tryz.func185,Tryz.ntmps185
  go_wp2;go_ret;exact⟨zm (by rw[←HV.out];unfold zbj;rw[if_neg (by omega),if_neg (by omega)]),rfl⟩
 ·obtain rfl:f=2:=by omega
  go_enter Tryz.func185,Tryz.ntmps185
  go_wp2;go_ret;exact⟨zm (by rw[←HV.out];unfold zbj;rw[if_neg (by omega),if_pos rfl]),rfl⟩
theorem zha:zyC:=by
 intro f hf w hk;obtain⟨f0,f1⟩:=hf;obtain⟨k0,_,k1,_,k2,_⟩:=hk
 by_cases h0:f=0
 ·subst h0;have C:=λw=>zge 0 (by omega) (by omega) w
  go_enter Tryz.func101,Tryz.ntmps101
  go_wp2_with (go_at_call 139;(with_reducible refine(C _).mono ?_);rintro e w1 ⟨rfl,rfl⟩)
  go_ret;exact⟨rfl,Below.refl _ _⟩
 by_cases h1:f=1
 ·subst h1;have C:=λw=>zge 1 (by omega) (by omega) w
  go_enter Tryz.func101,Tryz.ntmps101
  go_wp2_with (go_at_call 139;(with_reducible refine(C _).mono ?_);rintro e w1 ⟨rfl,rfl⟩)
  go_ret;exact⟨rfl,Below.refl _ _⟩
 by_cases h2:f=2
 ·subst h2;have C:=λw=>zge 2 (by omega) (by omega) w
  go_enter Tryz.func101,Tryz.ntmps101
  go_wp2_with (go_at_call 139;(with_reducible refine(C _).mono ?_);rintro e w1 ⟨rfl,rfl⟩)
  go_ret;exact⟨rfl,Below.refl _ _⟩
 ·have C:=λw=>zuJ f (by omega) w
  rw[show zfD f=.string ⟨#[]⟩ by unfold zfD;rw[if_neg h0,if_neg h1,if_neg h2]];clear h0 h1 h2 k0 k1 k2
  go_enter Tryz.func101,Tryz.ntmps101
  go_wp2_with (go_at_call 139;(with_reducible refine(C _).mono ?_);rintro e w1 ⟨rfl,rfl⟩)
  go_ret;exact⟨rfl,Below.refl _ _⟩
theorem znm {a b v:Int} (hv:a / b=v) (hb:0<b) (v0 : -9223372036854775808<=v) (v1:v<=9223372036854775807):zcZ a b=v:=by
 rw[zdl (by omega),show zan a b=v by unfold zan;rw[if_neg (by omega)];exact hv,zH v0 v1]
theorem ztb (f n m i c s u v:Int) (hc:zbt n m i=c) (hs:zbj f n m=s) (hu:zbI f n m i=u) (hv:zce f n m i=v) (h:zc9 f n m i) (w:World) (hk:zaT w) :
  Calls Tryz.prog 164 #[.int .i64 f,.int .i64 n,.int .i64 m,.int .i64 i] w λe w'=>e=.returned (.tuple #[.int .i64 (u+1),.int .i64 (v-(u+1)+1)])/\w=w':=by
 have CC:=zj7 n m i c hc h;obtain⟨_,b0,b1,b2⟩:=zcO h;obtain⟨c0,c1⟩:=zr7 h;obtain⟨f0,f1,n0,n1,m0,m1,i0,i1⟩:=h;obtain⟨s0,s1⟩:=zx2 (f:=f) n0 n1 m0 m1;have CS:=λw hk=>zrD f n m s hs f0 f1 n0 n1 m0 m1 w hk
 rw[hc]at c0 c1;rw[hs]at s0 s1;rw[hu]at b0 b1;rw[hv]at b1 b2;unfold zbI at hu;unfold zce at hv;rw[hc,hs]at hu hv;have e1:=znm hu (show 0<2*m by omega) (by omega) (by omega);have e2:=znm hv (show 0<2*m by omega) (by omega) (by omega);have C1:=λw=>zdh (c-s) (2*m) (by omega) (by omega) (by omega) (by omega) w
 have C2:=λw=>zdh (c+s-1) (2*m) (by omega) (by omega) (by omega) (by omega) w
 rw[e1]at C1;rw[e2]at C2;have K0:=λw=>zge f f0 f1 w
 have K1:=λw=>zm4 n n0 n1 w
 have K2:=λw=>zm4 m m0 m1 w
 clear e1 e2 hu hv hc hs
 go_enter Tryz.func164,Tryz.ntmps164
 go_wp2_with (first
  |(go_at_call 139;(with_reducible refine(K0 _).mono ?_);rintro e w1 ⟨rfl,rfl⟩)
  |(go_at_call 183;(with_reducible refine(K1 _).mono ?_);rintro e w1 ⟨rfl,rfl⟩)
  |(go_at_call 183;(with_reducible refine(K2 _).mono ?_);rintro e w1 ⟨rfl,rfl⟩)
  |(go_at_call 184;(with_reducible refine(CC _).mono ?_);rintro e w1 ⟨rfl,rfl⟩)
  |(go_at_call 185;(with_reducible refine(CS _ hk).mono ?_);rintro e w1 ⟨rfl,rfl⟩)
  |(go_at_call 168;(with_reducible refine(C1 _).mono ?_);rintro e w1 ⟨rfl,rfl⟩)
  |(go_at_call 168;(with_reducible refine(C2 _).mono ?_);rintro e w1 ⟨rfl,rfl⟩))
 exact bodyPost_ret (v:=.tuple #[.int .i64 (u+1),.int .i64 (v-(u+1)+1)]) (by simp[results,Tryz.results164,go_sem]) rfl ⟨rfl,rfl⟩
theorem zwS:zyJ:=by
 intro f n m i j0 c h hw w hk;obtain⟨W,b0,b1,b2⟩:=zcO h;obtain⟨rfl,rfl⟩:=ziE h.2.2.2.2.1 hw W;refine(ztb f n m i _ _ _ _ rfl rfl rfl rfl h w hk).mono ?_;rintro e w1 ⟨rfl,rfl⟩;refine⟨?_,Below.refl _ _⟩;rw[show((zce f n m i-zbI f n m i).toNat:Int)=zce f n m i-(zbI f n m i+1)+1 by omega]
theorem zsf (f n m i j:Int) (h:zc9 f n m i) (hin:inW f n m i j=true) (w:World) :
  Calls Tryz.prog 165 #[.int .i64 f,.int .i64 n,.int .i64 m,.int .i64 i,.int .i64 j] w λe w'=>e=.returned (.int .i64 (zab f n m i j))/\Below w.heap.size w w':=by
 obtain⟨cv,hc⟩:∃ c,zbt n m i=c:=⟨_,rfl⟩;have CC:=zj7 n m i cv hc h;obtain⟨c0,c1⟩:=zr7 h;rw[hc]at c0 c1;obtain⟨f0,f1,n0,n1,m0,m1,i0,i1⟩:=h;obtain⟨j0,j1⟩:=zgj (f:=f) n0 n1 m0 m1 i0 i1 hin;obtain⟨⟨a0,a1⟩,⟨b0,b1⟩,⟨d0,d1⟩,⟨e0,e1⟩,⟨g0,g1⟩,_⟩:=zcz n0 n1 m0 m1 i0 i1 (show -1048576<=j by omega) (show j<=1048576 by omega)
 by_cases hf:f=0
 ·subst hf;rw[show zab 0 n m i j=zM ((min ((i+1)*n) ((j+1)*m)-max (i*n) (j*m))*1073741824) n from if_pos rfl];have x0 : -68719542272<=min ((i+1)*n) ((j+1)*m):=by omega
  have x1:min ((i+1)*n) ((j+1)*m)<=4294967296:=by omega
  have y0:0<=max (i*n) (j*m):=by omega
  have y1:max (i*n) (j*m)<=68719476736:=by omega
  obtain⟨z0,z1,_⟩:=znZ n0 n1 m0 hin;unfold zet at z0 z1;clear hin;have CD:=λw=>zrA ((min ((i+1)*n) ((j+1)*m)-max (i*n) (j*m))*1073741824) n (by omega) (by omega) (by omega) (by omega) w
  generalize zM ((min ((i+1)*n) ((j+1)*m)-max (i*n) (j*m))*1073741824) n=z at *;clear CC hc
  go_enter Tryz.func165,Tryz.ntmps165
  go_wp2_with (go_at_call 186;(with_reducible refine(CD _).mono ?_);rintro e w1 ⟨rfl,rfl⟩)
  go_ret;exact⟨rfl,Below.refl _ _⟩
 ·clear hin;have x0:1<=max n m:=by omega
  have x1:max n m<=65536:=by omega
  have ep:zaW n m i j=2*m*j-cv:=by rw[zr6,hc]
  have eq:=zlN n m
  by_cases h1:f=1
  ·subst h1;rw[show zab 1 n m i j=zbd (2*m*j-cv) (2*max n m) by rw[←ep,←eq];unfold zab;rw[if_neg (by omega),if_pos rfl]];have CK:=λw=>zmt (2*m*j-cv) (2*max n m) (by omega) (by omega) w
   generalize zbd (2*m*j-cv) (2*max n m)=z at *;clear ep eq hc
   go_enter Tryz.func165,Tryz.ntmps165
   go_wp2_with (first
    |(go_at_call 184;(with_reducible refine(CC _).mono ?_);rintro e w1 ⟨rfl,rfl⟩)
    |(go_at_call 174;(with_reducible refine(CK _).mono ?_);rintro e w2 ⟨rfl,b2⟩))
   go_ret;exact⟨rfl,b2⟩
  ·obtain rfl:f=2:=by omega
   rw[show zab 2 n m i j=zah (2*m*j-cv) (2*max n m) by rw[←ep,←eq];unfold zab;rw[if_neg (by omega),if_neg (by omega)]];have CK:=λw=>zoQ (2*m*j-cv) (2*max n m) (by omega) (by omega) w
   generalize zah (2*m*j-cv) (2*max n m)=z at *;clear ep eq hc
   go_enter Tryz.func165,Tryz.ntmps165
   go_wp2_with (first
    |(go_at_call 184;(with_reducible refine(CC _).mono ?_);rintro e w1 ⟨rfl,rfl⟩)
    |(go_at_call 187;(with_reducible refine(CK _).mono ?_);rintro e w2 ⟨rfl,b2⟩))
   go_ret;exact⟨rfl,b2⟩
theorem zuE:(Tryz.prog.info? 2).map (λi=>(i.zero,i.size,i.bytes))=some (some (.int .i64 0),1,8):=by kernel_rfl
def zgW (f n m i j0:Int) (k c:Nat):List Value:=zcG f n m i j0 k++List.replicate (c-k) (.int .i64 0)
theorem zsU (f n m i j0:Int) (c:Nat):zgW f n m i j0 0 c=List.replicate c (.int .i64 0):=by unfold zgW zcG;rfl
theorem zt5 (f n m i j0:Int) (c:Nat):zgW f n m i j0 c c=zcG f n m i j0 c:=by unfold zgW;simp
theorem zuH (f n m i j0:Int) {k c:Nat} (h:k<c):(zgW f n m i j0 k c).set k (.int .i64 (zab f n m i (j0+(k:Nat))))=zgW f n m i j0 (k+1) c:=by
 unfold zgW;rw[zlx,List.set_append_right _ _ (by rw[zmV];exact Nat.le_refl _),zmV,Nat.sub_self];obtain⟨d,hd⟩:∃ d,c-k=d+1:=⟨c-k-1,by omega⟩;rw[hd,show c-(k+1)=d by omega,List.replicate_succ,List.set_cons_zero,List.append_assoc];rfl
theorem znb {w:World} {base:Nat} {e:TypeId} {g c cap k:Nat} {xs:List Value} (h:w.ownsRow base e 1 (.slice (some ⟨g,0,none⟩) c cap) c xs) (hk:k<c):∃ v,w.cell? ⟨g,k,none⟩=some v:=by
 have hl:=h.1;rw[Nat.mul_one]at hl;rw[h.cellAt k (by omega)];exact⟨_,List.getElem?_eq_getElem (by omega)⟩
set_option maxHeartbeats 4000000 in
set_option maxRecDepth 1000000 in
theorem zpC:zx0:=by
 intro f n m i h w hk;obtain⟨W,b0,b1,b2⟩:=zcO h;obtain⟨u,hu⟩:∃ u,zbI f n m i+1=u:=⟨_,rfl⟩;obtain⟨c,hc⟩:∃ c,(zce f n m i-zbI f n m i).toNat=c:=⟨_,rfl⟩;have cb:1<=c/\c<=524288:=by omega
 rw[hu,hc]at W;rw[hu]at b0;have CW:=λw hk=>zwS f n m i u c h W w hk
 have I:=zxw h.2.2.2.2.1 W;have CG:=λj hj w=>zsf f n m i j h hj w
 have ub:u<=524288:=by omega
 obtain⟨c0,c1⟩:=cb;obtain⟨i0,hi,hz0,hz1,hz2⟩:=info_parts zuE;have HW:=za W;have HI:=za I;have HG:=za CG;have hcz:((c:Int) == 0)=false:=beq_eq_false_iff_ne.2 (by omega);clear hu hc b1 b2 W I CG h
 go_enter Tryz.func141,Tryz.ntmps141
 go_wp2_with (first
  |(go_at_call 164;(with_reducible refine(CW _ hk).mono ?_);rintro e w1 ⟨rfl,b1⟩)
  |(at_make;refine wpList_make_full _ rfl _ _ 28 rfl w.heap.size 2 i0 (.int .i64 0) 1 Tryz.underlying28 hi hz0 hz1 .i64 .i64 (c:Int) (c:Int) c rfl rfl rfl rfl (by rw[hz2];omega) (by unfold maxLen;omega) (by have:=b1.size;omega) ?_;intro w2 hown hgrow))
 have own0:w2.ownsRow w.heap.size 2 1 (.slice (some ⟨w1.heap.size,0,none⟩) c c) c (zgW f n m i u 0 c):=by
  rw[zsU,←toList_madeCells_one];rw[Nat.mul_one]at hown;exact hown
 have B2:Below w.heap.size w w2:=b1.grown hgrow b1.size (λj hj=>by cases hj);have hg0:=b1.size;clear hown hgrow b1 CW;generalize w1.heap.size=g at *
 go_loopw [26] (λt wr=>∃ k:Nat,t=.int .i64 (k:Int)/\k<=c/\Below w.heap.size w wr/\wr.ownsRow w.heap.size 2 1 (.slice (some ⟨g,0,none⟩) c c) c (zgW f n m i u k c)) (λt _=>c-(intOf t).toNat)
 case atStart=>exact⟨0,rfl,by omega,B2,own0⟩
 case round =>
  obtain⟨k,rfl,hkc,hb,ho⟩:=hrel;have HB:=za hb;have HO:=za ho;clear hb ho B2 own0
  by_cases hlt:k<c
  ·have C1:=HG.out (u+(k:Int)) ((HI.out _).2 (by omega));have HZ:=za (zuH f n m i u hlt);generalize zab f n m i (u+(k:Int))=W at *
   go_wp2_with (go_at_call 165;(with_reducible refine(C1 _).mono ?_);rintro e w3 ⟨rfl,b3⟩;have fz:=(zcm HO.out b3).frozenAt k;obtain⟨v,cl⟩:=znb (zcm HO.out b3) hlt)
   go_roundw
   case rel =>
    refine⟨k+1,by go_num,by omega,bs (bt HB.out b3) hg0 _,?_⟩;rw[←HZ.out];exact((zcm HO.out b3).stored k _).1
   case measure=>simp[intOf];omega
  ·obtain rfl:k=c:=by omega
   have o2:=HO.out;rw[zt5]at o2;have HO2:=za o2;clear o2 HO;go_wp2;exact bodyPost_ret (v:=.tuple #[.int .i64 u,.slice (some ⟨g,0,none⟩) k k]) (by simp[results,Tryz.results141,go_sem]) rfl ⟨u,k,_,HW.out,rfl,HO2.out,HB.out⟩
def za8 (f n m i:Int):Int:=zbI f n m i+1
def zb8 (f n m i:Int):Nat:=(zce f n m i-zbI f n m i).toNat
def zbl (f n m i:Int):List Int:=(List.range (zb8 f n m i)).map λk:Nat=>zab f n m i (za8 f n m i+(k:Int))
theorem zbD (f n m i:Int):(zbl f n m i).length=zb8 f n m i:=by unfold zbl;rw[List.length_map,List.length_range]
theorem zuf (f n m i:Int):zcG f n m i (za8 f n m i) (zb8 f n m i)=(zbl f n m i).map (Value.int .i64):=by
 unfold zcG zbl;rw[List.map_map];rfl
theorem zkV {f n m i:Int} (h:zc9 f n m i):zfx f n m i (za8 f n m i) (zb8 f n m i):=(zcO h).1
theorem zhl {f n m i:Int} (h:zc9 f n m i) : -262144<za8 f n m i/\za8 f n m i<262144/\1<=zb8 f n m i/\zb8 f n m i<=524288:=by
 obtain⟨_,a,b,c⟩:=zcO h;unfold za8 zb8;omega
theorem zq5 (f n m i j:Int) : -9223372036854775808<=zab f n m i j/\zab f n m i j<=9223372036854775807:=by
 unfold zab
 split
 ·exact zkB _ _
 ·split
  ·unfold zbd
   split
   ·split<;>exact zkB _ _
   ·omega
  ·unfold zah
   split
   ·unfold zW;rw[if_neg (by decide),if_neg (by decide)];exact zgX 9 (zeu _ _ _).1 (zeu _ _ _).2
   ·omega
theorem zpI (f n m i:Int):zad (zbl f n m i):=by
 intro j hj;rw[zbD]at hj;unfold zbl;rw[List.getD_eq_getElem?_getD,List.getElem?_map,List.getElem?_range hj];exact zq5 _ _ _ _ _
theorem znP {w:World} {base:Nat} {v:Value} {f n m i:Int} (h:w.ownsRow base 2 1 v (zb8 f n m i) (zcG f n m i (za8 f n m i) (zb8 f n m i))):OwnI .i64 2 w base v (zbl f n m i):=by
 unfold OwnI;rw[zbD,←zuf];exact h
def zbN (f n m:Int) (i:Nat):Int×List Int:=(za8 f n m i,zG (zbl f n m i))
def zp3 (f n m:Int) (i:Nat):Int:=zV (zbl f n m i)
def zR (f n m:Int):Nat->Int
 |0=>0
 |i+1=>if zR f n m i=0 then zp3 f n m i else zR f n m i
def zdM (f n m:Int):Bool:=decide (0<=f) && decide (f<=2) && zcQ n && zcQ m
theorem zdm (f n m:Int):zdM f n m=true↔0<=f/\f<=2/\(1<=n/\n<=65536)/\(1<=m/\m<=65536):=by
 unfold zdM;rw[Bool.and_eq_true,Bool.and_eq_true,Bool.and_eq_true,zcu,zcu,decide_eq_true_eq,decide_eq_true_eq,and_assoc,and_assoc]
def zN (f n m:Int):Int:=if zdM f n m=true then zR f n m m.toNat else 6
def zt (f n m:Int) (k:Nat):List (Int×List Int):=(List.range k).map (zbN f n m)
theorem zhT (f n m:Int) (k:Nat):zt f n m (k+1)=zt f n m k++[zbN f n m k]:=by unfold zt;rw[List.range_succ,List.map_append];rfl
theorem zac (f n m:Int) (k:Nat):(zt f n m k).length=k:=by unfold zt;rw[List.length_map,List.length_range]
theorem zez {f n m:Int} {a:Nat} (h:zR f n m a≠0) {b:Nat} (hb:a<=b):zR f n m b=zR f n m a:=by
 obtain⟨d,rfl⟩:∃ d,b=a+d:=⟨b-a,by omega⟩
 induction d with
 |zero=>rfl
 |succ d ih =>
  have e:=ih (by omega);have s:zR f n m (a+(d+1))=if zR f n m (a+d)=0 then zp3 f n m (a+d) else zR f n m (a+d):=rfl;rw[s,if_neg (by rw[e];exact h),e]
theorem zkU {f n m:Int} {a:Nat} (h:zR f n m a=0) {j:Nat} (hj:j<a):zp3 f n m j=0/\zR f n m j=0:=by
 have h0:∀ b,b<=a->zR f n m b=0:=by
  intro b hb
  by_cases g:zR f n m b=0
  ·exact g
  ·rw[zez g hb]at h;exact absurd h g
 have e:=h0 (j+1) (by omega);have e1:=h0 j (by omega);unfold zR at e;rw[if_pos e1]at e;exact⟨e,e1⟩
theorem zoN (f n m i:Int) (h:zc9 f n m i) (w:World) :
  Calls Tryz.prog 176 #[.int .i64 f,.int .i64 n,.int .i64 m,.int .i64 i] w λe w'=>∃ v,e=.returned (.tuple #[.int .i64 (za8 f n m i),v])/\OwnI .i64 2 w' w.heap.size v (zbl f n m i)/\Below w.heap.size w w':=by
 refine(zoG f n m i h w).mono ?_;rintro e w1 ⟨a,c,v,hwin,_,_,_,rfl,ho,b⟩;obtain⟨rfl,rfl⟩:=ziE h.2.2.2.2.1 hwin (zkV h);exact⟨v,rfl,znP ho,b⟩
theorem zh3 (n:Nat) (xs:List Int) (hn:xs.length=n) (ad:Option Addr) (cap:Nat) (w:World) (hr:RowAt .i64 w ad xs) (hx:zad xs) (hl:n<=9223372036854775807) :
  Calls Tryz.prog 177 #[.slice ad n cap] w λe w'=>∃ v,e=.returned (.tuple #[v,.int .i64 (zV xs)])/\(zV xs=0->OwnI .i64 2 w' w.heap.size v (zG xs))/\Below w.heap.size w w':=by
 subst hn;exact zw4 xs ad cap w hr hx hl
theorem zlG (f n m:Int) (k:Nat):∃ (st:Int) (cn:Nat) (xs:List Int) (cd:Int),za8 f n m k=st/\zb8 f n m k=cn/\zbl f n m k=xs/\zV xs=cd:=⟨_,_,_,_,rfl,rfl,rfl,rfl⟩
theorem znG (w:World) (x:Int) (v:Value) (t:TypeId):∀ j u,[Value.int .i64 x,v][j]?=some u->(w.alloc (.cells #[.int .i64 x,v] t)).cell? ((⟨w.heap.size,0,none⟩:Addr).add j)=some u:=by
 intro j u h
 match j,h with
 |0,h=>simp at h;subst h;simp[Addr.add]
 |1,h=>simp at h;subst h;simp[Addr.add]
theorem OwnI.oneCell {k:IntKind} {T:TypeId} {w:World} {base:Nat} {v:Value} {xs:List Int} (h:OwnI k T w base v xs):v.oneCell'=true:=by
 obtain⟨ad,cap,rfl,_⟩:=h.form;rfl
set_option maxHeartbeats 2000000 in
set_option maxRecDepth 100000 in
theorem znT (f n:Int) (m:Nat) (f0:0<=f) (f1:f<=2) (n0:1<=n) (n1:n<=65536) (m0:1<=m) (m1:m<=65536) (w:World) :
  Calls Tryz.prog 157 #[.int .i64 f,.int .i64 n,.int .i64 (m:Int)] w λe w'=>∃ v,e=.returned (.tuple #[v,.int .i64 (zR f n m m)])/\(zR f n m m=0->OwnLs 111 w' w.heap.size v (zt f n m m))/\(zR f n m m≠0->v=.slice none 0 0)/\Below w.heap.size w w':=by
 have S1:=zc5 n n0 n1;have S2:=zc5 (m:Int) (by omega) (by omega);obtain⟨i0,hi,hz0,hz1,hz2⟩:=info_parts zpN;obtain⟨cm,hcd⟩:∃ cm,zR f n m m=cm:=⟨_,rfl⟩;rw[hcd];have HCD:=za hcd;clear hcd
 go_enter Tryz.func157,Tryz.ntmps157
 go_wp2_with (first
  |(go_at_call 175;(with_reducible refine(S1 _).mono ?_);rintro e w1 ⟨rfl,rfl⟩)
  |(go_at_call 175;(with_reducible refine(S2 _).mono ?_);rintro e w1 ⟨rfl,rfl⟩))
 clear S1 S2
 go_loopw [8,31] (λu i wr=>∃ k:Nat,k<=m/\i=.int .i64 (k:Int)/\Hid (zR f n m k=0)/\OwnLs 111 wr w.heap.size u (zt f n m k)/\Below w.heap.size w wr) (λ_ i _=>m-(intOf i).toNat)
 case atStart=>exact⟨0,by omega,rfl,rfl,OwnLs.nil _ _ _,Below.refl _ _⟩
 case round =>
  obtain⟨k,hk,rfl,hf,ho,hb⟩:=hrel;have HO:=za ho;have HB:=za hb;clear ho hb
  by_cases hlt:k<m
  ·have hM:zc9 f n m k:=⟨f0,f1,n0,n1,by omega,by omega,by omega,by omega⟩;have CR:=zoN f n m k hM;obtain⟨s0,s1,c0,c1⟩:=zhl hM;clear hM;have hx:=zpI f n m k;have hln:=zbD f n m k;have hc1:zR f n m (k+1)=zV (zbl f n m k):=if_pos hf.out;have hlr:zbN f n m k=(za8 f n m k,zG (zbl f n m k)):=rfl;have HLS:=za (zhT f n m k);have hll:=zac f n m k;obtain⟨st,cn,xs,cd,e1,e2,e3,e4⟩:=zlG f n m k;rw[e1,e3]at CR hlr;rw[e1]at s0 s1;rw[e2]at c0 c1 hln;rw[e3]at hx hln hc1;rw[e4]at hc1;have HX:=za hx;have HLN:=za hln;have HC1:=za hc1;have HLR:=za hlr;have HLL:=za hll;have CA:∀ (ad:Option Addr) (cap:Nat) (w:World),RowAt .i64 w ad xs->Calls Tryz.prog 177 #[.slice ad cn cap] w λe w'=>∃ v,e=.returned (.tuple #[v,.int .i64 cd])/\(cd=0->OwnI .i64 2 w' w.heap.size v (zG xs))/\Below w.heap.size w w':=by
    intro ad cap w hr;have:=zh3 cn xs hln ad cap w hr hx (by omega);rw[e4]at this;exact this
   clear e1 e2 e3 e4 hx hln hc1 hlr hll
   by_cases hz:cd=0
   ·subst hz;obtain⟨us,hu,how,hin⟩:=HO.out;obtain⟨an,han⟩:∃ an,(zG xs).length=an:=⟨_,rfl⟩;have HAN:=za han;have HU:=za hu;have HOW:=za how;have HIN:=za hin;clear hu how hin HO han
    go_wp2_with (first
     |(go_at_call 176;(with_reducible refine(CR _).mono ?_);rintro e w2 ⟨v,rfl,ho1,b2⟩;obtain⟨ad,cap,rfl,hrow,_⟩:=ho1.formn HLN.out)
     |(go_at_call 177;(with_reducible refine(CA _ _ _ hrow).mono ?_);rintro e w3 ⟨v2,rfl,ho2,b3⟩;have ho3:=za (ho2 (by trivial));clear ho2;obtain⟨ad2,cap2,rfl,_,_⟩:=ho3.out.formn HAN.out)
     |(at_builtin;refine wpList_append_own _ rfl _ _ 37 rfl w.heap.size 111 i0 (.agg #[.int .i64 0,.slice none 0 0]) 2 32 Tryz.underlying37 hi hz0 hz1 hz2 rfl (by decide) _ _ _ rfl (World.ownsRow.alloc (zhp HOW.out (bt b2 b3)) _) ⟨w3.heap.size,0,none⟩ 1 1 [.int .i64 st,.slice ad2 an cap2] rfl rfl (znG _ _ _ _) (by intro u hu;simp at hu;rcases hu with rfl|rfl<;>rfl) (by rw[HLL.out];unfold maxLen;omega) (by rw[HLL.out];omega) (by have:=HB.out.size;have:=b2.size;have:=b3.size;simp;omega) ?_;intro u' w4 own4 grow4 _))
    have R:=za (OwnLs.more (x:=(st,zG xs)) (by decide) (bt (bt HB.out b2) b3) HU.out (zhp HOW.out (bt b2 b3)) (λj hj=>(HIN.out j hj).below (bt b2 b3)) (ho3.out.mono (by have:=HB.out.size;have:=b2.size;omega)) own4 grow4);clear own4 grow4 ho3 ho1 hrow;go_wp2
    go_roundw
    case rel=>exact⟨k+1,by omega,by go_num,HC1.out,by rw[HLS.out,HLR.out];exact R.out.1,R.out.2⟩
    case measure=>simp[intOf];omega
   ·have hzb:(cd != 0)=true:=by simpa using hz
    have hend:zR f n m m=cd:=(zez (by rw[HC1.out];exact hz) (show k+1<=m by omega)).trans HC1.out;have hcc:cm=cd:=HCD.out.symm.trans hend;subst hcc;have HZ:=za hz;clear hend hz HC1
    go_wp2_with (first
     |(go_at_call 176;(with_reducible refine(CR _).mono ?_);rintro e w2 ⟨v,rfl,ho1,b2⟩;obtain⟨ad,cap,rfl,hrow,_⟩:=ho1.formn HLN.out)
     |(go_at_call 177;(with_reducible refine(CA _ _ _ hrow).mono ?_);rintro e w3 ⟨v2,rfl,ho2,b3⟩))
    exact bodyPost_ret (v:=.tuple #[.slice none 0 0,.int .i64 cm]) (by simp[results,Tryz.results157,go_sem]) rfl ⟨.slice none 0 0,rfl,(by intro g;exact absurd g HZ.out),(by first|trivial|(intro _;rfl)),bt (bt HB.out b2) b3⟩
  ·obtain rfl:k=m:=by omega
   have hcc:cm=0:=HCD.out.symm.trans hf.out;subst hcc;clear HCD hf hlt hk;go_wp2;exact bodyPost_ret (v:=.tuple #[u8,.int .i64 0]) (by simp[results,Tryz.results157,go_sem]) rfl (by first|exact⟨u8,rfl,HO.out,HB.out⟩|exact⟨u8,rfl,(λ_=>HO.out),(λg=>absurd rfl g),HB.out⟩)
theorem zlX (f n m:Int) (h:zdM f n m=false) (w:World) :
  Calls Tryz.prog 157 #[.int .i64 f,.int .i64 n,.int .i64 m] w λe w'=>e=.returned (.tuple #[.slice none 0 0,.int .i64 6])/\w=w':=by
 have hb:=λg=>Bool.false_ne_true (h.symm.trans ((zdm f n m).2 g))
 clear h
 by_cases a1:f<0
 ·clear hb
  go_enter Tryz.func157,Tryz.ntmps157
  go_wp2;exact bodyPost_ret (v:=.tuple #[.slice none 0 0,.int .i64 6]) (by simp[results,Tryz.results157,go_sem]) rfl ⟨rfl,rfl⟩
 by_cases a2:2<f
 ·clear hb
  go_enter Tryz.func157,Tryz.ntmps157
  go_wp2;exact bodyPost_ret (v:=.tuple #[.slice none 0 0,.int .i64 6]) (by simp[results,Tryz.results157,go_sem]) rfl ⟨rfl,rfl⟩
 have f0:0<=f:=by omega
 have f1:f<=2:=by omega
 clear a1 a2
 by_cases a3:1<=n/\n<=65536
 ·have S1:=zc5 n a3.1 a3.2;have a4:m<1\/65536<m:=by
   by_cases g:m<1
   ·exact Or.inl g
   ·by_cases g2:65536<m
    ·exact Or.inr g2
    ·exact absurd ⟨f0,f1,a3,by omega,by omega⟩ hb
  have S2:=zhd m a4;clear hb a3 a4
  go_enter Tryz.func157,Tryz.ntmps157
  go_wp2_with (first
   |(go_at_call 175;(with_reducible refine(S1 _).mono ?_);rintro e w1 ⟨rfl,rfl⟩)
   |(go_at_call 175;(with_reducible refine(S2 _).mono ?_);rintro e w1 ⟨rfl,rfl⟩))
  exact bodyPost_ret (v:=.tuple #[.slice none 0 0,.int .i64 6]) (by simp[results,Tryz.results157,go_sem]) rfl ⟨rfl,rfl⟩
 ·have S1:=zhd n (by omega);clear hb a3
  go_enter Tryz.func157,Tryz.ntmps157
  go_wp2_with (go_at_call 175;(with_reducible refine(S1 _).mono ?_);rintro e w1 ⟨rfl,rfl⟩)
  exact bodyPost_ret (v:=.tuple #[.slice none 0 0,.int .i64 6]) (by simp[results,Tryz.results157,go_sem]) rfl ⟨rfl,rfl⟩
theorem zhF (f n m:Int) (w:World) :
  Calls Tryz.prog 157 #[.int .i64 f,.int .i64 n,.int .i64 m] w λe w'=>∃ v,e=.returned (.tuple #[v,.int .i64 (zN f n m)])/\(zN f n m=0->OwnLs 111 w' w.heap.size v (zt f n m m.toNat))/\(zN f n m≠0->v=.slice none 0 0)/\Below w.heap.size w w':=by
 cases h:zdM f n m with
 |false =>
  have e:zN f n m=6:=by unfold zN;rw[h];rfl
  rw[e];refine(zlX f n m h w).mono ?_;rintro e w1 ⟨rfl,rfl⟩;exact⟨_,rfl,(λg=>absurd g (by decide)),(λ_=>rfl),Below.refl _ _⟩
 |true =>
  have e:zN f n m=zR f n m m.toNat:=by unfold zN;rw[h];rfl
  rw[e];obtain⟨f0,f1,⟨n0,n1⟩,m0,m1⟩:=(zdm f n m).1 h;obtain⟨k,rfl⟩:∃ k:Nat,m=(k:Int):=⟨m.toNat,by omega⟩;rw[Int.toNat_natCast];refine(znT f n k f0 f1 n0 n1 (by omega) (by omega) w).mono ?_;rintro e w1 ⟨v,rfl,o,z,b⟩;exact⟨v,rfl,o,z,b⟩
def zu (xs:List Int) (n:Int):Int:=if zcQ n=true then(if xs.length % 2=0 then 7 else zV xs) else 6
def ziF (xs:List Int) (i:Nat):Int×List Int:=((i:Int)-((xs.length / 2:Nat):Int),zG xs)
def zQ (xs:List Int) (k:Nat):List (Int×List Int):=(List.range k).map (ziF xs)
theorem zpS (xs:List Int) (k:Nat):zQ xs (k+1)=zQ xs k++[ziF xs k]:=by unfold zQ;rw[List.range_succ,List.map_append];rfl
theorem zae (xs:List Int) (k:Nat):(zQ xs k).length=k:=by unfold zQ;rw[List.length_map,List.length_range]
theorem zsa {T:TypeId} (hT:2≠T) {wc w2:World} {base base' n:Nat} {v y:Value} {us:List Value} {xs:List Int} {o:Obj} (hown:wc.ownsRow base' T 2 v n us) (hy:OwnI .i64 2 wc base y xs) (hgrow:(wc.alloc o).grownBy w2 v.ownBlock):OwnI .i64 2 w2 base y xs :=
 OwnI.kept (hy.alloc o) hgrow (zgd hT (hy.alloc o) (World.ownsRow.alloc hown o))
theorem zl4 (xs:List Int) (ad:Option Addr) (cap:Nat) (n:Int) (h:zcQ n=false) (w:World) :
  Calls Tryz.prog 161 #[.slice ad xs.length cap,.int .i64 n] w λe w'=>e=.returned (.tuple #[.slice none 0 0,.int .i64 6])/\w=w':=by
 have S1:=zhd n (by
  have:=λg=>Bool.false_ne_true (h.symm.trans ((zcu n).2 g))
  by_cases a:n<1
  ·exact Or.inl a
  ·by_cases b:65536<n
   ·exact Or.inr b
   ·exact absurd ⟨by omega,by omega⟩ this)
 clear h;generalize xs.length=k at *
 go_enter Tryz.func161,Tryz.ntmps161
 go_wp2_with (go_at_call 175;(with_reducible refine(S1 _).mono ?_);rintro e w1 ⟨rfl,rfl⟩)
 exact bodyPost_ret (v:=.tuple #[.slice none 0 0,.int .i64 6]) (by simp[results,Tryz.results161,go_sem]) rfl ⟨rfl,rfl⟩
theorem zku (xs:List Int) (ad:Option Addr) (cap:Nat) (n:Int) (h:zcQ n=true) (h2:xs.length % 2=0) (hl:xs.length<=9223372036854775807) (w:World) :
  Calls Tryz.prog 161 #[.slice ad xs.length cap,.int .i64 n] w λe w'=>e=.returned (.tuple #[.slice none 0 0,.int .i64 7])/\w=w':=by
 obtain⟨n0,n1⟩:=(zcu n).1 h;have S1:=zc5 n n0 n1;clear h;generalize xs.length=k at *;have b1:((k:Int) % 2 == 0)=true:=beq_iff_eq.2 (by omega);clear h2
 go_enter Tryz.func161,Tryz.ntmps161
 go_wp2_with (go_at_call 175;(with_reducible refine(S1 _).mono ?_);rintro e w1 ⟨rfl,rfl⟩)
 exact bodyPost_ret (v:=.tuple #[.slice none 0 0,.int .i64 7]) (by simp[results,Tryz.results161,go_sem]) rfl ⟨rfl,rfl⟩
theorem zkR (xs:List Int) (ad:Option Addr) (cap:Nat) (n:Int) (h:zcQ n=true) (h2:xs.length % 2=1) (cd:Int) (hc:zV xs=cd) (hz:cd≠0) (hl:xs.length<=9223372036854775807) (w:World) (hr:RowAt .i64 w ad xs) (hx:zad xs) :
  Calls Tryz.prog 161 #[.slice ad xs.length cap,.int .i64 n] w λe w'=>e=.returned (.tuple #[.slice none 0 0,.int .i64 cd])/\Below w.heap.size w w':=by
 obtain⟨n0,n1⟩:=(zcu n).1 h;have S1:=zc5 n n0 n1;have CA:=zh3 xs.length xs rfl ad cap w hr hx hl;rw[hc]at CA;clear h hc hr;generalize xs.length=k at *;have b1:((k:Int) % 2 == 0)=false:=beq_eq_false_iff_ne.2 (by omega);have hzb:(cd != 0)=true:=by simpa using hz
 clear h2 hz
 go_enter Tryz.func161,Tryz.ntmps161
 go_wp2_with (first
  |(go_at_call 175;(with_reducible refine(S1 _).mono ?_);rintro e w1 ⟨rfl,rfl⟩)
  |(go_at_call 177;(with_reducible refine CA.mono ?_);rintro e w3 ⟨v2,rfl,_,b3⟩))
 exact bodyPost_ret (v:=.tuple #[.slice none 0 0,.int .i64 cd]) (by simp[results,Tryz.results161,go_sem]) rfl ⟨rfl,b3⟩
set_option maxHeartbeats 2000000 in
set_option maxRecDepth 100000 in
theorem zmr (xs:List Int) (ad:Option Addr) (cap:Nat) (n:Nat) (n0:1<=n) (n1:n<=65536) (h2:xs.length % 2=1) (hc:zV xs=0) (hl:xs.length<=1048576) (w:World) (hr:RowAt .i64 w ad xs) (hx:zad xs) :
  Calls Tryz.prog 161 #[.slice ad xs.length cap,.int .i64 (n:Int)] w λe w'=>∃ v,e=.returned (.tuple #[v,.int .i64 0])/\OwnLs 111 w' w.heap.size v (zQ xs n)/\Below w.heap.size w w':=by
 have S1:=zc5 (n:Int) (by omega) (by omega);have CA:=zh3 xs.length xs rfl ad cap w hr hx (by omega);rw[hc]at CA;obtain⟨i0,hi,hz0,hz1,hz2⟩:=info_parts zpN;obtain⟨k,hk⟩:∃ k,xs.length=k:=⟨_,rfl⟩;obtain⟨an,han⟩:∃ an,(zG xs).length=an:=⟨_,rfl⟩;have HAN:=za han;have HK:=za hk;rw[hk]at CA h2 hl ⊢;clear hk hc hr han;have b1:((k:Int) % 2 == 0)=false:=beq_eq_false_iff_ne.2 (by omega);clear h2
 go_enter Tryz.func161,Tryz.ntmps161
 go_wp2_with (first
  |(go_at_call 175;(with_reducible refine(S1 _).mono ?_);rintro e w1 ⟨rfl,rfl⟩)
  |(go_at_call 177;(with_reducible refine CA.mono ?_);rintro e w3 ⟨v2,rfl,ho2,b3⟩;have ho3:=za (ho2 (by trivial));clear ho2;obtain⟨ad2,cap2,rfl,_,_⟩:=ho3.out.formn HAN.out))
 have HB3:=za b3;clear S1 CA b3 b1
 go_loopw [8,26] (λu i wr=>∃ j:Nat,j<=n/\i=.int .i64 (j:Int)/\OwnLs 111 wr w.heap.size u (zQ xs j)/\OwnI .i64 2 wr w.heap.size (.slice ad2 an cap2) (zG xs)/\Below w.heap.size w wr) (λ_ i _=>n-(intOf i).toNat)
 case atStart=>exact⟨0,by omega,rfl,OwnLs.nil _ _ _,ho3.out,HB3.out⟩
 case round =>
  clear ho3 HB3;obtain⟨j,hj,rfl,ho,hq,hb⟩:=hrel;have HO:=za ho;have HQ:=za hq;have HB:=za hb;clear ho hq hb
  by_cases hlt:j<n
  ·obtain⟨us,hu,how,hin⟩:=HO.out;have HU:=za hu;have HOW:=za how;have HIN:=za hin;have HLS:=za (zpS xs j);have hlr:ziF xs j=((j:Int)-((xs.length / 2:Nat):Int),zG xs):=rfl;rw[HK.out,show((k / 2:Nat):Int)=(k:Int) / 2 by omega]at hlr;have HLR:=za hlr;have HLL:=za (zae xs j);clear hu how hin HO hlr
   go_wp2_with (at_builtin;refine wpList_append_own _ rfl _ _ 37 rfl w.heap.size 111 i0 (.agg #[.int .i64 0,.slice none 0 0]) 2 32 Tryz.underlying37 hi hz0 hz1 hz2 rfl (by decide) _ _ _ rfl (World.ownsRow.alloc HOW.out _) ⟨wr.heap.size,0,none⟩ 1 1 [.int .i64 ((j:Int)-(k:Int) / 2),.slice ad2 an cap2] rfl rfl (znG _ _ _ _) (by intro u hu;simp at hu;rcases hu with rfl|rfl<;>rfl) (by rw[HLL.out];unfold maxLen;omega) (by rw[HLL.out];omega) (by have:=HB.out.size;simp;omega) ?_;intro u' w4 own4 grow4 _)
   have R:=za (And.intro (OwnLs.more (x:=((j:Int)-(k:Int) / 2,zG xs)) (by decide) HB.out HU.out HOW.out HIN.out HQ.out own4 grow4) (zsa (by decide) HOW.out HQ.out grow4));clear own4 grow4;go_wp2
   go_roundw
   case rel=>exact⟨j+1,by omega,by go_num,by rw[HLS.out,HLR.out];exact R.out.1.1,R.out.2,R.out.1.2⟩
   case measure=>simp[intOf];omega
  ·obtain rfl:j=n:=by omega
   go_wp2;exact bodyPost_ret (v:=.tuple #[u8,.int .i64 0]) (by simp[results,Tryz.results161,go_sem]) rfl ⟨u8,rfl,HO.out,HB.out⟩
theorem zci (xs:List Int) (ad:Option Addr) (cap:Nat) (n:Int) (w:World) (hr:RowAt .i64 w ad xs) (hx:zad xs) (hl:xs.length<=9223372036854775807) :
  Calls Tryz.prog 161 #[.slice ad xs.length cap,.int .i64 n] w λe w'=>∃ v,e=.returned (.tuple #[v,.int .i64 (zu xs n)])/\(zu xs n=0->OwnLs 111 w' w.heap.size v (zQ xs n.toNat))/\(zu xs n≠0->v=.slice none 0 0)/\Below w.heap.size w w':=by
 unfold zu
 cases h:zcQ n with
 |false =>
  rw[if_neg (by decide)];refine(zl4 xs ad cap n h w).mono ?_;rintro e w1 ⟨rfl,rfl⟩;exact⟨_,rfl,(λg=>absurd g (by decide)),(λ_=>rfl),Below.refl _ _⟩
 |true =>
  rw[if_pos rfl]
  by_cases h2:xs.length % 2=0
  ·rw[if_pos h2];refine(zku xs ad cap n h h2 hl w).mono ?_;rintro e w1 ⟨rfl,rfl⟩;exact⟨_,rfl,(λg=>absurd g (by decide)),(λ_=>rfl),Below.refl _ _⟩
  ·rw[if_neg h2]
   by_cases hz:zV xs=0
   ·rw[hz];obtain⟨n0,n1⟩:=(zcu n).1 h;obtain⟨k,rfl⟩:∃ k:Nat,n=(k:Int):=⟨n.toNat,by omega⟩;rw[Int.toNat_natCast];refine(zmr xs ad cap k (by omega) (by omega) (by omega) hz (zas.1 hz).n1 w hr hx).mono ?_;rintro e w1 ⟨v,rfl,o,b⟩;exact⟨v,rfl,(λ_=>o),(λg=>absurd rfl g),b⟩
   ·refine(zkR xs ad cap n h (by omega) _ rfl hz hl w hr hx).mono ?_;rintro e w1 ⟨rfl,b⟩;exact⟨_,rfl,(λg=>absurd g hz),(λ_=>rfl),b⟩
theorem zq1 {r:Int} (h0:0<=r) (h1:r<=1099511627776) (n:Nat):0<=zar r (n+1)/\zar r (n+1)<=zar r n:=by
 obtain⟨a0,a1⟩:=zcV h0 h1 n;have p0:0<=zar r n*r:=Int.mul_nonneg a0 h0;have p1:zar r n*r<=zar r n*(((n:Int)+1)*1099511627776):=Int.mul_le_mul_of_nonneg_left (by omega) a0;have q:=zek (X:=zar r n*r) (d:=((n:Int)+1)*1099511627776) (m:=zar r n) (by omega) p0 p1
 show 0<=zM _ _/\zM _ _<=_
 rw[zcg (by omega),zH (by omega) (by omega)];exact q
theorem zue {r:Int} (h0:0<=r) (h1:r<=1099511627776) (n:Nat) :
  (n % 2=0->zar r n<=zaY r n/\zaY r n<=1099511627776)/\(n % 2=1->0<=zaY r n/\zaY r n<=1099511627776-zar r n):=by
 induction n with
 |zero=>exact⟨λ_=>⟨Int.le_refl _,Int.le_refl _⟩,λh=>by omega⟩
 |succ n ih =>
  obtain⟨d0,d1⟩:=zq1 h0 h1 n;have e:zaY r (n+1)=if n % 2=0 then zaY r n-zar r (n+1) else zaY r n+zar r (n+1):=rfl;rw[e]
  by_cases g:n % 2=0
  ·have:=ih.1 g;rw[if_pos g];exact⟨λh=>by omega,λ_=>by omega⟩
  ·have:=ih.2 (by omega);rw[if_neg g];exact⟨λ_=>by omega,λh=>by omega⟩
theorem zqu {x:Int} (n:Int) (h0:0<=x):0<=zW x n/\zW x n<=x:=by
 unfold zW
 split
 ·omega
 ·split
  ·omega
  ·have a0:0<=x / 2 ^ (n.toNat-1):=Int.ediv_nonneg h0 (Int.le_of_lt (Int.pow_pos (by decide)));have a1:x / 2 ^ (n.toNat-1)<=x:=Int.ediv_le_self _ h0;omega
theorem zqt {t:Int} (h0:0<=t):0<=zcr t/\zcr t<=1099511627776:=by
 have e:zdd t=t:=by unfold zdd;omega
 have s:=(zue (r:=t % 762123384786) (by omega) (by omega) 16).1 rfl;have p:=(zcV (r:=t % 762123384786) (by omega) (by omega) 16).1;unfold zcr;rw[e];have:=zqu (x:=zaY (t % 762123384786) 16) (t / 762123384786) (by omega);omega
theorem zi4 (d s:Int):0<=zc1 d s/\zc1 d s<=1073741824:=by
 have e:=zqt (zrx d s);unfold zc1 zW;rw[if_neg (by omega),if_neg (by omega),show(10:Int).toNat-1=9 from rfl,show(2:Int) ^ 9=512 from rfl];omega
end Go.Proofs.YtlodkoimdoeopaaGreatDoor
