/- Parts, joined. -/
import Derived.Test.YtlodkoimdoeopaaGreatDoorQ02
import Derived.Test.YtlodkoimdoeopaaGreatDoorQ01
import Derived.IntWalk
import Derived.Deep.QuietTactic
import Derived.BigQuiet
import Derived.Shelf.Bits.Mul64
import Derived.Deep.DeepCutAuto
namespace Go.Proofs.YtlodkoimdoeopaaGreatDoor
def zcD (a b:Int):Int:=zE (a+b)
def zaK (x:Int):Int:=zE (zi x)
def zr (l:List Int):Int:=l.foldl zcD 0
def zP (l:List Int):Int:=l.foldl (λs x=>zcD s (zaK x)) 0
theorem zlV (a b:Int) : -9223372036854775808<=zcD a b/\zcD a b<=9223372036854775807:=⟨zfF _,ze3 _⟩
theorem zgf (l:List Int) (x:Int):zr (l++[x])=zcD (zr l) x:=by unfold zr;rw[List.foldl_append];rfl
theorem zen (l:List Int) (x:Int):zP (l++[x])=zcD (zP l) (zaK x):=by unfold zP;rw[List.foldl_append];rfl
theorem zgV {P:List Int->Prop} (h0:P []) (hs:∀ l x,P l->P (l++[x])) (l:List Int):P l:=by
 have:∀ n (l:List Int),l.length=n->P l:=by
  intro n
  induction n with
  |zero=>intro l hl;rw[List.eq_nil_of_length_eq_zero hl];exact h0
  |succ n ih =>
   intro l hl;have hne:l≠[]:=by intro e;subst e;simp at hl
   rw[←List.dropLast_concat_getLast hne];exact hs _ _ (ih _ (by rw[List.length_dropLast,hl];rfl))
 exact this l.length l rfl
theorem zgE (l:List Int) : -9223372036854775808<=zr l/\zr l<=9223372036854775807:=by
 refine zgV (P:=λl => -9223372036854775808<=zr l/\zr l<=9223372036854775807) (by decide) ?_ l;intro l x _;rw[zgf];exact zlV _ _
theorem zdB (l:List Int):0<=zP l/\zP l<=9223372036854775807:=by
 refine zgV (P:=λl=>0<=zP l/\zP l<=9223372036854775807) (by decide) ?_ l;intro l x ih;rw[zen];have:0<=zaK x:=by unfold zaK zE;have:=za6 x;split<;>(try split)<;>omega
 refine⟨?_,(zlV _ _).2⟩;unfold zcD zE;split<;>(try split)<;>omega
def zaa (x:Int):Prop := -1099511627776<=x/\x<=1099511627776
theorem zg2 (l:List Int) (h:∀ x ∈ l,zaa x) (hl:l.length<=1048576):zr l=l.sum/\-((l.length:Int)*1099511627776)<=l.sum/\l.sum<=(l.length:Int)*1099511627776:=by
 revert h hl
 refine zgV (P:=λl=>(∀ x ∈ l,zaa x)->l.length<=1048576->zr l=l.sum/\-((l.length:Int)*1099511627776)<=l.sum/\l.sum<=(l.length:Int)*1099511627776) ?_ ?_ l
 ·intro _ _;exact⟨rfl,by simp,by simp⟩
 ·intro l x ih h hl;rw[List.length_append]at hl;simp at hl;obtain⟨e,a,b⟩:=ih (λy hy=>h y (by simp[hy])) (by omega);have hx:=h x (by simp);unfold zaa at hx;have e1:((l++[x]).length:Int)=(l.length:Int)+1:=by simp
  have e2:(l++[x]).sum=l.sum+x:=by simp
  rw[zgf,e,e1,e2];unfold zcD;rw[zH (by omega) (by omega)];omega
def zae (s x:Int):Int:=zc1 (x*16384) s
def za9 (s x:Int):Int:=x*16384-zae s x*s
theorem zf2 {s x:Int} (s0:0<s) (h:zaa x):zae s x=x*16384 / s/\za9 s x=x*16384 % s/\0<=za9 s x/\za9 s x<s/\-18014398509481984<=zae s x/\zae s x<=18014398509481984:=by
 unfold zaa at h;have e:=Int.mul_ediv_add_emod (x*16384) s;have r0:=Int.emod_nonneg (x*16384) (show s≠0 by omega);have r1:=Int.emod_lt_of_pos (x*16384) s0;have up:x*16384 / s<=18014398509481984:=by
  have:x*16384 / s<18014398509481985:=Int.ediv_lt_of_lt_mul s0 (by omega);omega
 have dn : -18014398509481984<=x*16384 / s:=by
  apply Int.le_ediv_of_mul_le s0
  omega
 have q:zae s x=x*16384 / s:=by
  unfold zae;rw[zdo (by omega)];unfold zak;rw[if_neg (by omega),zH (by omega) (by omega)]
 have r:za9 s x=x*16384 % s:=by
  unfold za9;rw[q,Int.mul_comm (x*16384 / s) s];omega
 exact⟨q,r,by omega,by omega,by omega,by omega⟩
def zW (s:Int) (l:List Int):List Int:=l.map (zae s)
def zaA (s:Int) (l:List Int):List Int:=l.map (za9 s)
def zF (r:List Int):Nat->Nat
 |0=>0
 |k+1=>if r.getD (zF r k) 0<r.getD k 0 then k else zF r k
theorem zhA (r:List Int) (k:Nat):zF r k<max k 1:=by
 induction k with
 |zero=>simp[zF]
 |succ k ih=>unfold zF;split<;>omega
theorem zhg (r:List Int) (k:Nat) (j:Nat) (h:j<k):r.getD j 0<=r.getD (zF r k) 0:=by
 induction k with
 |zero=>omega
 |succ k ih =>
  unfold zF
  by_cases g:r.getD (zF r k) 0<r.getD k 0
  ·rw[if_pos g]
   by_cases e:j=k
   ·subst e;exact Int.le_refl _
   ·have:=ih (by omega);omega
  ·rw[if_neg g]
   by_cases e:j=k
   ·subst e;omega
   ·exact ih (by omega)
theorem zl6 (r:List Int) (k:Nat) (j:Nat) (h:j<zF r k):r.getD j 0<r.getD (zF r k) 0:=by
 induction k with
 |zero=>simp[zF]at h
 |succ k ih =>
  unfold zF at h ⊢
  by_cases g:r.getD (zF r k) 0<r.getD k 0
  ·rw[if_pos g]at h ⊢;have:=zhg r k j h;omega
  ·rw[if_neg g]at h ⊢;exact ih h
def zk (o r:List Int):Nat->List Int×List Int
 |0=>(o,r)
 |m+1=>((zk o r m).1.set (zF (zk o r m).2 (zk o r m).2.length) ((zk o r m).1.getD (zF (zk o r m).2 (zk o r m).2.length) 0+1),(zk o r m).2.set (zF (zk o r m).2 (zk o r m).2.length) (-1))
theorem ze2 (o r:List Int) (m:Nat):(zk o r m).1.length=o.length/\(zk o r m).2.length=r.length:=by
 induction m with
 |zero=>exact⟨rfl,rfl⟩
 |succ m ih=>unfold zk;simp only[List.length_set];exact ih
def za7 (s:Int) (l:List Int):Int:=16384-(zW s l).sum
def zG (l:List Int):List Int:=(zk (zW (zr l) l) (zaA (zr l) l) (za7 (zr l) l).toNat).1
theorem zdH (l:List Int) (i j:Nat) (x:Int) (hi:i<l.length):(l.set i x).getD j 0=if i=j then x else l.getD j 0:=by
 rw[List.getD_eq_getElem?_getD,List.getElem?_set]
 by_cases h:i=j
 ·subst h;simp[hi]
 ·simp[h,List.getD_eq_getElem?_getD]
theorem zpo (l:List Int) (i:Nat) (x:Int) (hi:i<l.length):(l.set i x).sum=l.sum-l.getD i 0+x:=by
 induction l generalizing i with
 |nil=>simp at hi
 |cons a l ih =>
  cases i with
  |zero=>simp;omega
  |succ i =>
   have:=ih i (by simpa using hi);simp only[List.set_cons_succ,List.sum_cons,List.getD_cons_succ];omega
end Go.Proofs.YtlodkoimdoeopaaGreatDoor
namespace Go.Proofs.YtlodkoimdoeopaaGreatDoor
open Go.RowKit
theorem zvD (xs:List Int) (ad bd:Option Addr) (cap cap':Nat) (w:World) (hr:RowAt .i64 w ad xs) (hq:RowAt .i64 w bd xs) (hl:xs.length<=9223372036854775807) :
  Calls Tryz.prog 150 #[.slice ad xs.length cap,.slice bd xs.length cap'] w λe w'=>e=.returned (.bool true)/\Below w.heap.size w w':=by
 have HR:=za hr;have HQ:=za hq;clear hr hq;obtain⟨n,hn⟩:∃ n,xs.length=n:=⟨_,rfl⟩;have HN:=za hn;rw[hn]at hl ⊢;clear hn
 go_enter Tryz.func150,Tryz.ntmps150
 go_wp2
 go_loopw [13] (λi wr=>∃ k:Nat,k<=n/\i=.int .i64 (k:Int)/\Below w.heap.size w wr) (λi _=>n-(intOf i).toNat)
 case atStart=>exact⟨0,by omega,rfl,Below.refl _ _⟩
 case round =>
  obtain⟨k,hk,rfl,hb⟩:=hrel;have HB:=za hb;clear hb
  by_cases hlt:k<n
  ·obtain⟨b,off,rfl,hc⟩:=(HR.out.below HB.out).get (show k<xs.length by rw[HN.out];exact hlt);obtain⟨b',off',rfl,hc'⟩:=(HQ.out.below HB.out).get (show k<xs.length by rw[HN.out];exact hlt);generalize xs.getD k 0=x at *
   go_wp2_with fail
   go_quiet (fail)
   go_wp2
   go_roundw
   case rel=>exact⟨k+1,by omega,by go_num,bdN HB.out _⟩
   case measure=>simp[intOf];omega
  ·obtain rfl:k=n:=by omega
   go_wp2;go_ret;exact⟨rfl,HB.out⟩
theorem zs9 (n:Nat) (xs:List Int) (hn:xs.length=n) (ad bd:Option Addr) (cap cap':Nat) (w:World) (hr:RowAt .i64 w ad xs) (hq:RowAt .i64 w bd xs) (hl:n<=9223372036854775807) :
  Calls Tryz.prog 150 #[.slice ad n cap,.slice bd n cap'] w λe w'=>e=.returned (.bool true)/\Below w.heap.size w w':=by
 subst hn;exact zvD xs ad bd cap cap' w hr hq hl
theorem zbm {n:Int} (h0 : -9223372036854775808<=n) (h1:n<=9223372036854775807):wrap64 n=n:=IntWalk.wrap64_in n ⟨h0,h1⟩
theorem zgl {t:Int} (h0 : -9223372036854775808<=t-1) (h1:t-1<=9223372036854775807):wrap64 (wrap64 t-1)=t-1:=by unfold wrap64;omega
theorem zdp (a b:Int) (h0 : -9223372036854775808<=a) (h1:a<=9223372036854775807) (k0 : -9223372036854775808<=b) (k1:b<=9223372036854775807) (w:World) :
  Calls Tryz.prog 168 #[.int .i64 a,.int .i64 b] w λe w'=>e=.returned (.int .i64 (zc1 a b))/\w=w':=by
 by_cases hb:b=0
 ·subst hb
  go_enter Tryz.func168,Tryz.ntmps168
  go_wp2;go_ret;exact⟨zl (by simp[zc1]),rfl⟩
 have C:=zpv h0 h1 k0 k1 hb;rw[zdo hb]
 by_cases hs:a = -9223372036854775808/\b = -1
 ·obtain⟨rfl,rfl⟩:=hs;clear C
  go_enter Tryz.func168,Tryz.ntmps168
  go_wp2;go_ret;exact⟨zl (by decide),rfl⟩
 have q1:=C.q1 (Or.inr hs);have q0:=C.q0;rw[zH q0 q1];have hb0:(b == 0)=false:=beq_eq_false_iff_ne.2 hb;have HS:=za hs;clear hs
 by_cases c1:a.tmod b=0
 ·have E:=C.f0 c1;rw[E]at q0 q1 ⊢;clear C E
  by_cases ha:a = -9223372036854775808
  ·have hA:(a == -9223372036854775808)=true:=beq_iff_eq.2 ha;have hB:(b == -1)=false:=beq_eq_false_iff_ne.2 λe=>HS.out ⟨ha,e⟩
   clear ha h0 h1
   go_enter Tryz.func168,Tryz.ntmps168
   go_wp2;go_ret;exact⟨zl (by first|rfl|exact zbm (by omega) (by omega)),rfl⟩
  ·have hA:(a == -9223372036854775808)=false:=beq_eq_false_iff_ne.2 ha;clear ha
   go_enter Tryz.func168,Tryz.ntmps168
   go_wp2;go_ret;exact⟨zl (by first|rfl|exact zbm (by omega) (by omega)),rfl⟩
 have c1':(a.tmod b != 0)=true:=by simp[c1]
 by_cases ga:a<0
 ·by_cases gb:b<0
  ·have E:=C.f1 (by omega);rw[E]at q0 q1 ⊢;clear C E;have da:decide (a<0)=true:=decide_eq_true (by omega);have db:decide (b<0)=true:=decide_eq_true (by omega);clear c1 ga gb
   by_cases ha:a = -9223372036854775808
   ·have hA:(a == -9223372036854775808)=true:=beq_iff_eq.2 ha;have hB:(b == -1)=false:=beq_eq_false_iff_ne.2 λe=>HS.out ⟨ha,e⟩
    clear ha h0 h1
    go_enter Tryz.func168,Tryz.ntmps168
    go_wp2;go_ret;exact⟨zl (by first|rfl|exact zbm (by omega) (by omega)),rfl⟩
   ·have hA:(a == -9223372036854775808)=false:=beq_eq_false_iff_ne.2 ha;clear ha
    go_enter Tryz.func168,Tryz.ntmps168
    go_wp2;go_ret;exact⟨zl (by first|rfl|exact zbm (by omega) (by omega)),rfl⟩
  ·have E:=C.f2 c1 (by omega);rw[E]at q0 q1 ⊢;clear C E;have da:decide (a<0)=true:=decide_eq_true (by omega);have db:decide (b<0)=false:=decide_eq_false (by omega);clear c1 ga gb
   by_cases ha:a = -9223372036854775808
   ·have hA:(a == -9223372036854775808)=true:=beq_iff_eq.2 ha;have hB:(b == -1)=false:=beq_eq_false_iff_ne.2 λe=>HS.out ⟨ha,e⟩
    clear ha h0 h1
    go_enter Tryz.func168,Tryz.ntmps168
    go_wp2;go_ret;exact⟨zl (by first|exact zgl q0 q1|exact zbm q0 q1),rfl⟩
   ·have hA:(a == -9223372036854775808)=false:=beq_eq_false_iff_ne.2 ha;clear ha
    go_enter Tryz.func168,Tryz.ntmps168
    go_wp2;go_ret;exact⟨zl (by first|exact zgl q0 q1|exact zbm q0 q1),rfl⟩
 ·by_cases gb:b<0
  ·have E:=C.f2 c1 (by omega);rw[E]at q0 q1 ⊢;clear C E;have da:decide (a<0)=false:=decide_eq_false (by omega);have db:decide (b<0)=true:=decide_eq_true (by omega);clear c1 ga gb
   by_cases ha:a = -9223372036854775808
   ·have hA:(a == -9223372036854775808)=true:=beq_iff_eq.2 ha;have hB:(b == -1)=false:=beq_eq_false_iff_ne.2 λe=>HS.out ⟨ha,e⟩
    clear ha h0 h1
    go_enter Tryz.func168,Tryz.ntmps168
    go_wp2;go_ret;exact⟨zl (by first|exact zgl q0 q1|exact zbm q0 q1),rfl⟩
   ·have hA:(a == -9223372036854775808)=false:=beq_eq_false_iff_ne.2 ha;clear ha
    go_enter Tryz.func168,Tryz.ntmps168
    go_wp2;go_ret;exact⟨zl (by first|exact zgl q0 q1|exact zbm q0 q1),rfl⟩
  ·have E:=C.f1 (by omega);rw[E]at q0 q1 ⊢;clear C E;have da:decide (a<0)=false:=decide_eq_false (by omega);have db:decide (b<0)=false:=decide_eq_false (by omega);clear c1 ga gb
   by_cases ha:a = -9223372036854775808
   ·have hA:(a == -9223372036854775808)=true:=beq_iff_eq.2 ha;have hB:(b == -1)=false:=beq_eq_false_iff_ne.2 λe=>HS.out ⟨ha,e⟩
    clear ha h0 h1
    go_enter Tryz.func168,Tryz.ntmps168
    go_wp2;go_ret;exact⟨zl (by first|rfl|exact zbm (by omega) (by omega)),rfl⟩
   ·have hA:(a == -9223372036854775808)=false:=beq_eq_false_iff_ne.2 ha;clear ha
    go_enter Tryz.func168,Tryz.ntmps168
    go_wp2;go_ret;exact⟨zl (by first|rfl|exact zbm (by omega) (by omega)),rfl⟩
theorem zfq (a b:Int) (h0 : -9223372036854775808<=a) (h1:a<=9223372036854775807) (k0 : -9223372036854775808<=b) (k1:b<=9223372036854775807) (w:World) :
  Calls Tryz.prog 122 #[.int .i64 a,.int .i64 b] w λe w'=>e=.returned (.int .i64 (zkB a b))/\w=w':=by
 by_cases hb:b=0
 ·subst hb
  go_enter Tryz.func122,Tryz.ntmps122
  go_wp2;go_ret;exact⟨zl (by simp[zkB]),rfl⟩
 have C:=zpv h0 h1 k0 k1 hb;have I:=zlq a b;rw[zij hb];have hb0:(b == 0)=false:=beq_eq_false_iff_ne.2 hb;have m0:=C.m0;have m1:=C.m1
 by_cases c1:a.tmod b=0
 ·rw[C.r0 c1];clear C I
  go_enter Tryz.func122,Tryz.ntmps122
  go_wp2;go_ret;exact⟨zl (by rfl),rfl⟩
 have c1':(a.tmod b != 0)=true:=by simp[c1]
 by_cases ga:a.tmod b<0
 ·by_cases gb:b<0
  ·rw[C.r1 c1 (by omega)];have da:decide (a.tmod b<0)=true:=decide_eq_true (by omega);have db:decide (b<0)=true:=decide_eq_true (by omega);clear C I c1 ga gb
   go_enter Tryz.func122,Tryz.ntmps122
   go_wp2;go_ret;exact⟨zl (by rfl),rfl⟩
  ·rw[C.r2 c1 (by omega)];have e2:=C.r2 c1 (by omega);have i2:=I.1 (by omega);rw[e2]at i2;clear e2;have da:decide (a.tmod b<0)=true:=decide_eq_true (by omega);have db:decide (b<0)=false:=decide_eq_false (by omega);clear C I c1 ga gb
   go_enter Tryz.func122,Tryz.ntmps122
   go_wp2;go_ret;exact⟨zl (by first|rfl|exact zbm (by omega) (by omega)),rfl⟩
 ·by_cases gb:b<0
  ·rw[C.r2 c1 (by omega)];have e2:=C.r2 c1 (by omega);have i2:=I.2 gb;rw[e2]at i2;clear e2;have da:decide (a.tmod b<0)=false:=decide_eq_false (by omega);have db:decide (b<0)=true:=decide_eq_true (by omega);clear C I c1 ga gb
   go_enter Tryz.func122,Tryz.ntmps122
   go_wp2;go_ret;exact⟨zl (by first|rfl|exact zbm (by omega) (by omega)),rfl⟩
  ·rw[C.r1 c1 (by omega)];have da:decide (a.tmod b<0)=false:=decide_eq_false (by omega);have db:decide (b<0)=false:=decide_eq_false (by omega);clear C I c1 ga gb
   go_enter Tryz.func122,Tryz.ntmps122
   go_wp2;go_ret;exact⟨zl (by rfl),rfl⟩
def zV (x n:Int):Int:=if n<=0 then x else if 63<n then 0 else(x / 2 ^ (n.toNat-1)+1) / 2
theorem zot (a:Int):bits .and .i64 a 1=a % 2:=by
 show IntKind.i64.wrap (((BitVec.ofInt 64 a &&& BitVec.ofInt 64 1).toNat:Nat):Int)=_
 rw[BitVec.toNat_and,BitVec.toNat_ofInt,BitVec.toNat_ofInt];have e:((1:Int) % ((2 ^ 64:Nat):Int)).toNat=1:=by decide
 rw[e,Nat.and_one_is_mod,IntKind.wrap_i64];have e2:((2 ^ 64:Nat):Int)=18446744073709551616:=by decide
 rw[e2];omega
theorem zu9 (x:Int) (m:Nat):x / 2 ^ (m+1)+x / 2 ^ m % 2=(x / 2 ^ m+1) / 2:=by
 have e:x / 2 ^ (m+1)=x / 2 ^ m / 2:=by rw[Int.pow_succ,Int.ediv_ediv_of_nonneg (Int.le_of_lt (zK m))]
 rw[e];omega
theorem zhf {x:Int} (m:Nat) (h0 : -9223372036854775808<=x) (h1:x<=9223372036854775807) : -9223372036854775808<=(x / 2 ^ m+1) / 2/\(x / 2 ^ m+1) / 2<=9223372036854775807:=by
 have p:=zK m;have p1:(1:Int)<=2 ^ m:=p;have a0 : -9223372036854775808<=x / 2 ^ m:=by
  rw[Int.le_ediv_iff_mul_le p];generalize (2:Int) ^ m=P at *;omega
 have a1:x / 2 ^ m<=9223372036854775807:=by
  by_cases hx:0<=x
  ·have:=Int.ediv_le_self (2 ^ m) hx;omega
  ·have:=Int.ediv_neg_of_neg_of_pos (by omega:x<0) p;omega
 omega
theorem zew (x n:Int) (h0 : -9223372036854775808<=x) (h1:x<=9223372036854775807) (k0 : -9223372036854775808<=n) (k1:n<=9223372036854775807) (w:World) :
  Calls Tryz.prog 130 #[.int .i64 x,.int .i64 n] w λe w'=>e=.returned (.int .i64 (zV x n))/\Below w.heap.size w w':=by
 by_cases hn:n<=0
 ·rw[show zV x n=x from if_pos hn]
  go_enter Tryz.func130,Tryz.ntmps130
  go_wp2;go_ret;exact⟨rfl,Below.refl _ _⟩
 by_cases hm:63<n
 ·rw[show zV x n=0 from(if_neg hn).trans (if_pos hm)]
  go_enter Tryz.func130,Tryz.ntmps130
  go_wp2;go_ret;exact⟨rfl,Below.refl _ _⟩
 obtain⟨m,rfl⟩:∃ m:Nat,n=((m+1:Nat):Int):=⟨n.toNat-1,by omega⟩;have e:zV x ((m+1:Nat):Int)=(x / 2 ^ m+1) / 2:=(if_neg hn).trans (if_neg hm);rw[e];have S:=za (zhf m h0 h1);have T:=za (zu9 x m);clear e;obtain⟨j,hj⟩:∃ j,j=m+1:=⟨_,rfl⟩;have J:=za hj;rw[←hj]at hn hm k0 k1 ⊢;have n1:((j:Int)-1)=((j-1:Nat):Int):=by omega
 clear hj
 go_enter Tryz.func130,Tryz.ntmps130
 go_wp2
 go_quiet (fail)
 go_wp2;go_ret;refine⟨zl ?_,below_drewN (Below.refl _ _) _⟩;have hj:=J.out;subst hj;rw[zot,Nat.add_sub_cancel,T.out];exact zbm S.out.1 S.out.2
def zan (r:Int):Nat->Int
 |0=>1099511627776
 |n+1=>zN (zan r n*r) (((n:Int)+1)*1099511627776)
def za0 (r:Int):Nat->Int
 |0=>1099511627776
 |n+1=>if n % 2=0 then za0 r n-zan r (n+1) else za0 r n+zan r (n+1)
def zdt (t:Int):Int:=max t 0
def zcw (t:Int):Int:=zV (za0 (zdt t % 762123384786) 16) (zdt t / 762123384786)
def za3 (d s:Int):Int:=if s<1\/4194304<s\/d < -16384\/16384<d then 9223372036854775807 else zN (d*d*2147483648*1099511627776) (s*s)
def zc2 (d s:Int):Int:=zV (zcw (za3 d s)) 10
theorem zed {X d m:Int} (hd:0<d) (h0:0<=X) (h1:X<=m*d):0<=zaC X d/\zaC X d<=m:=by
 unfold zaC;rw[if_neg (by omega)];refine⟨Int.ediv_nonneg (by omega) (by omega),?_⟩;have h:(2*X+d) / (2*d)<m+1:=by
  apply Int.ediv_lt_of_lt_mul (by omega)
  have e:(m+1)*(2*d)=2*(m*d)+2*d:=by rw[Int.add_mul,Int.mul_left_comm];omega
  rw[e];omega
 omega
theorem zc0 {r:Int} (h0:0<=r) (h1:r<=1099511627776) (n:Nat):0<=zan r n/\zan r n<=1099511627776:=by
 induction n with
 |zero=>simp[zan]
 |succ n ih =>
  obtain⟨a0,a1⟩:=ih;have p0:0<=zan r n*r:=Int.mul_nonneg a0 h0;have p1:zan r n*r<=1099511627776*1099511627776:=Int.mul_le_mul a1 h1 h0 (by omega);have p2:(1099511627776:Int)*1099511627776<=1099511627776*(((n:Int)+1)*1099511627776):=by omega
  have q:=zed (X:=zan r n*r) (d:=((n:Int)+1)*1099511627776) (m:=1099511627776) (by omega) p0 (by omega)
  show 0<=zN _ _/\zN _ _<=_
  rw[zck (by omega),zH (by omega) (by omega)];exact q
theorem zpu {r:Int} (h0:0<=r) (h1:r<=1099511627776) (n:Nat) : -(((n:Int)+1)*1099511627776)<=za0 r n/\za0 r n<=((n:Int)+1)*1099511627776:=by
 induction n with
 |zero=>simp[za0]
 |succ n ih =>
  have t:=zc0 h0 h1 (n+1);unfold za0
  split<;>omega
theorem zqA (t:Int):0<=zdt t:=by unfold zdt;omega
theorem zpA {t:Int} (h:t<=9223372036854775807):zdt t<=9223372036854775807:=by unfold zdt;omega
theorem ztn {x n:Int} (h0 : -9223372036854775808<=x) (h1:x<=9223372036854775807) : -9223372036854775808<=zV x n/\zV x n<=9223372036854775807:=by
 unfold zV
 split
 ·exact⟨h0,h1⟩
 ·split
  ·omega
  ·exact zhf _ h0 h1
theorem zma {r:Int} (h0:0<=r) (h1:r<762123384786) : -18691697672192<=za0 r 16/\za0 r 16<=18691697672192:=by
 have:=zpu h0 (by omega:r<=1099511627776) 16;omega
theorem zkO {t:Int} (h0:0<=t) (h1:t<=9223372036854775807):0<=t % 762123384786/\t % 762123384786<762123384786/\0<=t / 762123384786/\t / 762123384786<=12102203:=by omega
theorem zmE {t:Int} (h1:t<=9223372036854775807) : -9223372036854775808<=zcw t/\zcw t<=9223372036854775807:=by
 have p:=zkO (zqA t) (zpA h1);have s:=zma p.1 p.2.1;exact ztn (by omega) (by omega)
theorem zkh (a b:Int) : -9223372036854775808<=zN a b/\zN a b<=9223372036854775807:=by
 unfold zN
 split
 ·omega
 ·exact⟨zfF _,ze3 _⟩
theorem zlA (d s:Int) : -9223372036854775808<=za3 d s/\za3 d s<=9223372036854775807:=by
 unfold za3
 split
 ·omega
 ·exact zkh _ _
theorem zmB (s:Int):s*s=zi s*zi s:=by
 unfold zi
 split
 ·rw[Int.neg_mul_neg]
 ·rfl
theorem zip {s:Int} (h0 : -16777216<=s) (h1:s<=16777216):0<=s*s/\s*s<=281474976710656:=by
 have a:=zmB s;have b0:0<=zi s:=za6 s;have b1:zi s<=16777216:=by unfold zi;split<;>omega
 rw[a];exact⟨Int.mul_nonneg b0 b0,Int.mul_le_mul b1 b1 b0 (by omega)⟩
theorem zpK (d s:Int):0<=za3 d s:=by
 unfold za3
 split
 ·omega
 ·rename_i h
  have a:=zip (s:=d) (by omega) (by omega);have b:=zip (s:=s) (by omega) (by omega);generalize d*d=D at *;generalize s*s=S at *;unfold zN
  split
  ·omega
  ·have q:=zed (X:=D*2147483648*1099511627776) (d:=S) (m:=D*2147483648*1099511627776) (by omega) (by omega) (by
    have:1*(D*2147483648*1099511627776)<=S*(D*2147483648*1099511627776):=Int.mul_le_mul_of_nonneg_right (by omega) (by omega);rw[Int.mul_comm S]at this;omega)
   unfold zE
   split<;>(try split)<;>omega
theorem zbW (a x:Int) (hx:zi a=x) (h0 : -9223372036854775808<=a) (h1:a<=9223372036854775807) (w:World) :
  Calls Tryz.prog 132 #[.int .i64 a] w λe w'=>e=.returned (.int .u64 x)/\w=w':=by
 subst hx;exact zb1 a h0 h1 w
theorem zho (x d:Int) (h0:0<=x) (h1:x<18446744073709551616) (d0:0<d) (d1:d<18446744073709551616) (w:World) :
  Calls Tryz.prog 232 #[.agg #[.int .u64 0,.int .u64 x],.int .u64 d] w λe w' =>
   e=.returned (.tuple #[.agg #[.int .u64 (hi (x / d)),.int .u64 (lo (x / d))],.int .u64 (x % d)])/\Below w.heap.size w w':=by
 have h:=zjb x d h0 (by omega) d0 d1 w;rw[zd2 h0 h1,zdG h0 h1]at h;exact h
theorem zfW (a b:Int) (h0 : -9223372036854775808<=a) (h1:a<=9223372036854775807) (k0 : -9223372036854775808<=b) (k1:b<=9223372036854775807) (w:World) :
  Calls Tryz.prog 210 #[.int .i64 a,.int .i64 b] w λe w'=>e=.returned (.int .i64 (zc1 a b))/\Below w.heap.size w w':=by
 by_cases hb:b=0
 ·subst hb
  go_enter Tryz.func210,Tryz.ntmps210
  go_wp2;go_ret;exact⟨zl (by simp[zc1]),Below.refl _ _⟩
 rw[zdo hb]
 by_cases ha:a<0
 ·by_cases hn:b<0
  ·have ga:a<0:=by omega
   have gb:b<0:=by omega
   obtain⟨x,hx⟩:∃ x,x = -a:=⟨_,rfl⟩;have Cx:=zbW a x ((zaS ga).trans hx.symm) (by omega) (by omega);obtain⟨d,hd⟩:∃ d,d = -b:=⟨_,rfl⟩;have Cd:=zbW b d ((zaS gb).trans hd.symm) (by omega) (by omega);have bx:0<=x/\x<=9223372036854775808:=by omega
   have bd:0<d/\d<=9223372036854775808:=by omega
   have CO:=zho x d (by omega) (by omega) (by omega) (by omega);have Q0:=zct (x:=x) (d:=d) (by omega) (by omega);have R0:=za1 (x:=x) (d:=d) (by omega);have e:zak a b=x / d:=by unfold zak;rw[if_pos gb];subst hx;subst hd;rfl
   rw[e];clear e hx hd hb;obtain⟨Q0,Q1⟩:=Q0;obtain⟨R0,R1⟩:=R0;have Q2:x / d<=9223372036854775808:=by omega
   generalize x / d=Q at *;generalize x % d=r at *;have CH:=zat Q false (by omega) (by omega);clear bx bd Q1;have da:decide (a<0)=true:=decide_eq_true ga;have db:decide (b<0)=true:=decide_eq_true gb
   go_enter Tryz.func210,Tryz.ntmps210
   go_wp2_with (first
    |(go_at_call 132;(with_reducible refine(Cx _).mono ?_);rintro e w' ⟨rfl,rfl⟩)
    |(go_at_call 132;(with_reducible refine(Cd _).mono ?_);rintro e w' ⟨rfl,rfl⟩)
    |(go_at_call 232;(with_reducible refine(CO _).mono ?_);rintro e w1 ⟨rfl,b1⟩;have z1:=b1.size)
    |(go_at_call 137;(with_reducible refine(CH _).mono ?_);rintro e w5 ⟨rfl,b5⟩))
   go_ret;refine⟨zl (by simp[zb0]),?_⟩
   repeat (first|exact Below.refl _ _|with_reducible refine ba ?_ _|with_reducible refine bs ?_ (by omega) _|with_reducible refine bd ?_|(with_reducible refine bt ?_ (by assumption)))
  ·have ga:a<0:=by omega
   have gb:0<b:=by omega
   obtain⟨x,hx⟩:∃ x,x = -a:=⟨_,rfl⟩;have Cx:=zbW a x ((zaS ga).trans hx.symm) (by omega) (by omega);obtain⟨d,hd⟩:∃ d,d=b:=⟨_,rfl⟩;have Cd:=zbW b d ((zaJ (Int.le_of_lt gb)).trans hd.symm) (by omega) (by omega);have bx:0<=x/\x<=9223372036854775808:=by omega
   have bd:0<d/\d<=9223372036854775808:=by omega
   have CO:=zho x d (by omega) (by omega) (by omega) (by omega);have Q0:=zct (x:=x) (d:=d) (by omega) (by omega);have R0:=za1 (x:=x) (d:=d) (by omega);have e:zak a b = -(x / d+if 0<x % d then 1 else 0):=by unfold zak;rw[if_neg (by omega)];rw[←zdb (by omega)];subst hx;subst hd;rw[Int.neg_neg]
   rw[e];clear e hx hd hb;obtain⟨Q0,Q1⟩:=Q0;obtain⟨R0,R1⟩:=R0;have Q2:x / d<=9223372036854775808:=by omega
   generalize x / d=Q at *;generalize x % d=r at *
   by_cases hr:0<r
   ·rw[if_pos hr];have CH:=zat (Q+1) true (by omega) (by omega);have CP:=zd6 Q Q0 (by omega);clear bx bd Q1;have da:decide (a<0)=true:=decide_eq_true ga;have db:decide (b<0)=false:=decide_eq_false (by omega)
    go_enter Tryz.func210,Tryz.ntmps210
    go_wp2_with (first
     |(go_at_call 132;(with_reducible refine(Cx _).mono ?_);rintro e w' ⟨rfl,rfl⟩)
     |(go_at_call 132;(with_reducible refine(Cd _).mono ?_);rintro e w' ⟨rfl,rfl⟩)
     |(go_at_call 232;(with_reducible refine(CO _).mono ?_);rintro e w1 ⟨rfl,b1⟩;have z1:=b1.size)
     |(go_at_call 136;(with_reducible refine(CP _).mono ?_);rintro e w2 ⟨rfl,b2⟩;have z2:w1.heap.size+1<=w2.heap.size:=(by simpa using b2.size);have q20:w2.cell? ⟨w1.heap.size,0,none⟩=some (.int .u64 (hi Q)):=cb b2 (by simp) (by simp);have q21:w2.cell? ⟨w1.heap.size,1,none⟩=some (.int .u64 (lo Q)):=cb b2 (by simp) (by simp);have g20:w2.frozen? ⟨w1.heap.size,0,none⟩=false:=fb b2 (by simp) (by simp);have g21:w2.frozen? ⟨w1.heap.size,1,none⟩=false:=fb b2 (by simp) (by simp))
     |(go_at_call 137;(with_reducible refine(CH _).mono ?_);rintro e w5 ⟨rfl,b5⟩))
    go_ret;refine⟨zl rfl,?_⟩
    repeat (first|exact Below.refl _ _|with_reducible refine ba ?_ _|with_reducible refine bs ?_ (by omega) _|with_reducible refine bd ?_|(with_reducible refine bt ?_ (by assumption)))
   ·rw[if_neg hr];have CH:=zat Q true (by omega) (by omega);clear bx bd Q1;have da:decide (a<0)=true:=decide_eq_true ga;have db:decide (b<0)=false:=decide_eq_false (by omega)
    go_enter Tryz.func210,Tryz.ntmps210
    go_wp2_with (first
     |(go_at_call 132;(with_reducible refine(Cx _).mono ?_);rintro e w' ⟨rfl,rfl⟩)
     |(go_at_call 132;(with_reducible refine(Cd _).mono ?_);rintro e w' ⟨rfl,rfl⟩)
     |(go_at_call 232;(with_reducible refine(CO _).mono ?_);rintro e w1 ⟨rfl,b1⟩;have z1:=b1.size)
     |(go_at_call 137;(with_reducible refine(CH _).mono ?_);rintro e w5 ⟨rfl,b5⟩))
    go_ret;refine⟨zl (by simp[zb0]),?_⟩
    repeat (first|exact Below.refl _ _|with_reducible refine ba ?_ _|with_reducible refine bs ?_ (by omega) _|with_reducible refine bd ?_|(with_reducible refine bt ?_ (by assumption)))
 ·by_cases hn:b<0
  ·have ga:0<=a:=by omega
   have gb:b<0:=by omega
   obtain⟨x,hx⟩:∃ x,x=a:=⟨_,rfl⟩;have Cx:=zbW a x ((zaJ ga).trans hx.symm) (by omega) (by omega);obtain⟨d,hd⟩:∃ d,d = -b:=⟨_,rfl⟩;have Cd:=zbW b d ((zaS gb).trans hd.symm) (by omega) (by omega);have bx:0<=x/\x<=9223372036854775808:=by omega
   have bd:0<d/\d<=9223372036854775808:=by omega
   have CO:=zho x d (by omega) (by omega) (by omega) (by omega);have Q0:=zct (x:=x) (d:=d) (by omega) (by omega);have R0:=za1 (x:=x) (d:=d) (by omega);have e:zak a b = -(x / d+if 0<x % d then 1 else 0):=by unfold zak;rw[if_pos gb];rw[←zdb (by omega)];subst hx;subst hd;rfl
   rw[e];clear e hx hd hb;obtain⟨Q0,Q1⟩:=Q0;obtain⟨R0,R1⟩:=R0;have Q2:x / d<=9223372036854775808:=by omega
   generalize x / d=Q at *;generalize x % d=r at *
   by_cases hr:0<r
   ·rw[if_pos hr];have CH:=zat (Q+1) true (by omega) (by omega);have CP:=zd6 Q Q0 (by omega);clear bx bd Q1;have da:decide (a<0)=false:=decide_eq_false (by omega);have db:decide (b<0)=true:=decide_eq_true gb
    go_enter Tryz.func210,Tryz.ntmps210
    go_wp2_with (first
     |(go_at_call 132;(with_reducible refine(Cx _).mono ?_);rintro e w' ⟨rfl,rfl⟩)
     |(go_at_call 132;(with_reducible refine(Cd _).mono ?_);rintro e w' ⟨rfl,rfl⟩)
     |(go_at_call 232;(with_reducible refine(CO _).mono ?_);rintro e w1 ⟨rfl,b1⟩;have z1:=b1.size)
     |(go_at_call 136;(with_reducible refine(CP _).mono ?_);rintro e w2 ⟨rfl,b2⟩;have z2:w1.heap.size+1<=w2.heap.size:=(by simpa using b2.size);have q20:w2.cell? ⟨w1.heap.size,0,none⟩=some (.int .u64 (hi Q)):=cb b2 (by simp) (by simp);have q21:w2.cell? ⟨w1.heap.size,1,none⟩=some (.int .u64 (lo Q)):=cb b2 (by simp) (by simp);have g20:w2.frozen? ⟨w1.heap.size,0,none⟩=false:=fb b2 (by simp) (by simp);have g21:w2.frozen? ⟨w1.heap.size,1,none⟩=false:=fb b2 (by simp) (by simp))
     |(go_at_call 137;(with_reducible refine(CH _).mono ?_);rintro e w5 ⟨rfl,b5⟩))
    go_ret;refine⟨zl rfl,?_⟩
    repeat (first|exact Below.refl _ _|with_reducible refine ba ?_ _|with_reducible refine bs ?_ (by omega) _|with_reducible refine bd ?_|(with_reducible refine bt ?_ (by assumption)))
   ·rw[if_neg hr];have CH:=zat Q true (by omega) (by omega);clear bx bd Q1;have da:decide (a<0)=false:=decide_eq_false (by omega);have db:decide (b<0)=true:=decide_eq_true gb
    go_enter Tryz.func210,Tryz.ntmps210
    go_wp2_with (first
     |(go_at_call 132;(with_reducible refine(Cx _).mono ?_);rintro e w' ⟨rfl,rfl⟩)
     |(go_at_call 132;(with_reducible refine(Cd _).mono ?_);rintro e w' ⟨rfl,rfl⟩)
     |(go_at_call 232;(with_reducible refine(CO _).mono ?_);rintro e w1 ⟨rfl,b1⟩;have z1:=b1.size)
     |(go_at_call 137;(with_reducible refine(CH _).mono ?_);rintro e w5 ⟨rfl,b5⟩))
    go_ret;refine⟨zl (by simp[zb0]),?_⟩
    repeat (first|exact Below.refl _ _|with_reducible refine ba ?_ _|with_reducible refine bs ?_ (by omega) _|with_reducible refine bd ?_|(with_reducible refine bt ?_ (by assumption)))
  ·have ga:0<=a:=by omega
   have gb:0<b:=by omega
   obtain⟨x,hx⟩:∃ x,x=a:=⟨_,rfl⟩;have Cx:=zbW a x ((zaJ ga).trans hx.symm) (by omega) (by omega);obtain⟨d,hd⟩:∃ d,d=b:=⟨_,rfl⟩;have Cd:=zbW b d ((zaJ (Int.le_of_lt gb)).trans hd.symm) (by omega) (by omega);have bx:0<=x/\x<=9223372036854775808:=by omega
   have bd:0<d/\d<=9223372036854775808:=by omega
   have CO:=zho x d (by omega) (by omega) (by omega) (by omega);have Q0:=zct (x:=x) (d:=d) (by omega) (by omega);have R0:=za1 (x:=x) (d:=d) (by omega);have e:zak a b=x / d:=by unfold zak;rw[if_neg (by omega)];subst hx;subst hd;rfl
   rw[e];clear e hx hd hb;obtain⟨Q0,Q1⟩:=Q0;obtain⟨R0,R1⟩:=R0;have Q2:x / d<=9223372036854775808:=by omega
   generalize x / d=Q at *;generalize x % d=r at *;have CH:=zat Q false (by omega) (by omega);clear bx bd Q1;have da:decide (a<0)=false:=decide_eq_false (by omega);have db:decide (b<0)=false:=decide_eq_false (by omega)
   go_enter Tryz.func210,Tryz.ntmps210
   go_wp2_with (first
    |(go_at_call 132;(with_reducible refine(Cx _).mono ?_);rintro e w' ⟨rfl,rfl⟩)
    |(go_at_call 132;(with_reducible refine(Cd _).mono ?_);rintro e w' ⟨rfl,rfl⟩)
    |(go_at_call 232;(with_reducible refine(CO _).mono ?_);rintro e w1 ⟨rfl,b1⟩;have z1:=b1.size)
    |(go_at_call 137;(with_reducible refine(CH _).mono ?_);rintro e w5 ⟨rfl,b5⟩))
   go_ret;refine⟨zl (by simp[zb0]),?_⟩
   repeat (first|exact Below.refl _ _|with_reducible refine ba ?_ _|with_reducible refine bs ?_ (by omega) _|with_reducible refine bd ?_|(with_reducible refine bt ?_ (by assumption)))
def zuH:Go.Shelf.Ren:=⟨fun|264=>128|n=>n,fun|53=>153|46=>199|n=>n,fun|n=>n⟩
theorem zxl:Go.Proofs.Lays.n264 Tryz.prog zuH:={
 mixed:=by kernel_rfl
 f264:=Tryz.func128.trans (congrArg some (by kernel_rfl))
 t46:=Tryz.underlying199
 a46:=Tryz.isAgg199
 z46:=Tryz.sizeOf199
 v46:=Tryz.zeroValue199
 t53:=Tryz.underlying153
 a53:=Tryz.isAgg153
 z53:=Tryz.sizeOf153
 v53:=Tryz.zeroValue153 }
theorem zkL (x y:Nat) (hx:x<18446744073709551616) (hy:y<18446744073709551616) (w:World) :
  Calls Tryz.prog 128 #[.int .u64 x,.int .u64 y] w λe w'=>e=.returned (.tuple #[.int .u64 ((x*y / 18446744073709551616:Nat):Int),.int .u64 ((x*y % 18446744073709551616:Nat):Int)])/\w=w' :=
 (Any.bits_Mul64 zxl x y hx hy w).mono λ_ _ ⟨he,hw⟩=>⟨he,hw.symm⟩
structure TimesSt (w wr:World) (X:Int):Prop where
 x0:wr.cell? ⟨w.heap.size+1,0,none⟩=some (.int .u64 (hi X))
 x1:wr.cell? ⟨w.heap.size+1,1,none⟩=some (.int .u64 (lo X))
 o0:∃ v,wr.cell? ⟨w.heap.size,0,none⟩=some v
 o1:∃ v,wr.cell? ⟨w.heap.size,1,none⟩=some v
 f0:wr.frozen? ⟨w.heap.size,0,none⟩=false
 f1:wr.frozen? ⟨w.heap.size,1,none⟩=false
 f10:wr.frozen? ⟨w.heap.size+1,0,none⟩=false
 f11:wr.frozen? ⟨w.heap.size+1,1,none⟩=false
 hz:w.heap.size+1<wr.heap.size
 hb:Below w.heap.size w wr
theorem TimesSt.below {w wr w1:World} {X:Int} (h:TimesSt w wr X) (hb:Below wr.heap.size wr w1):TimesSt w w1 X:=by
 have hz:=h.hz;have hs:=hb.size;obtain⟨v0,o0⟩:=h.o0;obtain⟨v1,o1⟩:=h.o1;exact⟨cb hb (by omega) h.x0,cb hb (by omega) h.x1,⟨v0,cb hb (by omega) o0⟩,⟨v1,cb hb (by omega) o1⟩,fb hb (by omega) h.f0,fb hb (by omega) h.f1,fb hb (by omega) h.f10,fb hb (by omega) h.f11,by omega,h.hb.trans (hb.mono (by omega))⟩
theorem TimesSt.set {w wr:World} {X X':Int} (h:TimesSt w wr X) :
  TimesSt w ((wr.setCell ⟨w.heap.size+1,0,none⟩ (.int .u64 (hi X'))).setCell ⟨w.heap.size+1,1,none⟩ (.int .u64 (lo X'))) X':=by
 obtain⟨v0,o0⟩:=h.o0;obtain⟨v1,o1⟩:=h.o1;exact⟨cs (by omega) (cw h.x0),cw (cs (by omega) h.x1),⟨v0,cs (by omega) (cs (by omega) o0)⟩,⟨v1,cs (by omega) (cs (by omega) o1)⟩,by simp[h.f0],by simp[h.f1],by simp[h.f10],by simp[h.f11],
  by simpa [World.setCell] using h.hz,(h.hb.setCell (by show _<=w.heap.size+1;omega) _).setCell (by show _<=w.heap.size+1;omega) _⟩
theorem zof (w:World):TimesSt w ((w.alloc (.cells #[.int .u64 0,.int .u64 0] 202)).alloc (.cells #[.int .u64 0,.int .u64 0] 202)) 0:=by
 have e0:hi 0=0:=rfl;have e1:lo 0=0:=rfl;refine⟨?_,?_,⟨.int .u64 0,?_⟩,⟨.int .u64 0,?_⟩,?_,?_,?_,?_,?_,zfY _ _ _⟩
 all_goals simp[go_sem,e0,e1]
theorem zhk (x:Int) (h0:0<=x) (h1:x<170141183460469231731687303715884105728) (w:World) :
  Calls Tryz.prog 131 #[.agg #[.int .u64 (hi x),.int .u64 (lo x)],.int .u64 0] w λe w'=>e=.returned (.agg #[.int .u64 (hi (2*x)),.int .u64 (lo (2*x))])/\Below w.heap.size w w':=by
 have h:=zej x 0 h0 h1 (by omega) (by omega) w;rw[Int.add_zero]at h;exact h
theorem zuv (x a:Int) (h0:0<=x) (a0:0<=a) (a1:a<18446744073709551616) (h1:x+a<340282366920938463463374607431768211456) (w:World) :
  Calls Tryz.prog 136 #[.agg #[.int .u64 (hi x),.int .u64 (lo x)],.agg #[.int .u64 0,.int .u64 a]] w λe w'=>e=.returned (.agg #[.int .u64 (hi (x+a)),.int .u64 (lo (x+a))])/\Below w.heap.size w w':=by
 have h:=znk x a h0 a0 h1 w;rw[zd2 a0 a1,zdG a0 a1]at h;exact h
theorem zpJ (a b:Int) (k:Nat):a*(b / 2 ^ k)=2*(a*(b / 2 ^ (k+1)))+a*zaR b k:=by
 rw[zd1 b k,Int.mul_add,Int.mul_left_comm]
theorem zuk {a b:Int} (k:Nat) (a0:0<=a) (a1:a<18446744073709551616) (b0:0<=b) (b1:b<18446744073709551616):0<=a*(b / 2 ^ (k+1))/\a*(b / 2 ^ (k+1))<=170141183460469231704017187605319778305:=by
 have q0:0<=b / 2 ^ (k+1):=Int.ediv_nonneg b0 (Int.le_of_lt (zK _));have q1:b / 2 ^ (k+1)<=9223372036854775807:=by
  have e:b / 2 ^ (k+1)=b / 2 / 2 ^ k:=by
   have e2:(2:Int) ^ (k+1)=2*2 ^ k:=by rw[Int.pow_succ,Int.mul_comm]
   rw[e2,Int.ediv_ediv_of_nonneg (by decide)]
  have:=Int.ediv_le_self (a:=b / 2) (2 ^ k) (by omega);omega
 refine⟨Int.mul_nonneg a0 q0,?_⟩;have:=Int.mul_le_mul (show a<=18446744073709551615 by omega) q1 q0 (by omega);omega
set_option maxHeartbeats 1000000 in
theorem zrQ (a b:Int) (a0:0<=a) (a1:a<18446744073709551616) (b0:0<=b) (b1:b<18446744073709551616) (w:World) :
  Calls Tryz.prog 214 #[.int .u64 a,.int .u64 b] w λe w'=>e=.returned (.agg #[.int .u64 (hi (a*b)),.int .u64 (lo (a*b))])/\Below w.heap.size w w':=by
 go_enter Tryz.func214,Tryz.ntmps214
 go_wp2
 go_loopw [6] (λi wr=>∃ j:Nat,j<=64/\i=.int .i64 ((j:Int)-1)/\TimesSt w wr (a*(b / 2 ^ j))) (λi _=>(intOf i+1).toNat)
 case atStart =>
  refine⟨64,by omega,rfl,?_⟩;rw[show b / 2 ^ 64=0 from Int.ediv_eq_zero_of_lt b0 (by simpa using b1),Int.mul_zero];exact zof w
 case round =>
  obtain⟨j,hj,rfl,hst⟩:=hrel
  by_cases hj0:j=0
  ·subst hj0;have ST:=za hst;obtain⟨x0,x1,⟨v0,o0⟩,⟨v1,o1⟩,f0,f1,f10,f11,hz,hb⟩:=hst;clear hb;go_wp2;refine bodyPost_ret (v:=.agg #[.int .u64 (hi (a*b)),.int .u64 (lo (a*b))]) (by simp[results,Tryz.results214,go_sem,o0,o1]) rfl ⟨rfl,?_⟩;exact(ST.out.hb.setCell (by show _<=w.heap.size;omega) _).setCell (by show _<=w.heap.size;omega) _
  ·obtain⟨k,rfl⟩:∃ k,j=k+1:=⟨j-1,by omega⟩;have es:=zpJ a b k;have lt:=zuk k a0 a1 b0 b1;have bb0:=zfi b k;have bb1:=zfs b k;have ek:((k+1:Nat):Int)-1=(k:Int):=by omega
   rw[ek];clear ek;generalize a*(b / 2 ^ (k+1))=X at *;have ES:=za es;clear es;have ST:=za hst;obtain⟨x0,x1,⟨v0,o0⟩,⟨v1,o1⟩,f0,f1,f10,f11,hz,hb⟩:=hst;clear hb o0 o1 f0 f1;have CT:=zhk X lt.1 (by omega);have CP:=zuv (2*X) a (by omega) a0 a1 (by omega);obtain⟨lt0,lt1⟩:=lt;have eb:bits .and .u64 (b / 2 ^ k) 1=zaR b k:=zkn _ (Int.ediv_nonneg b0 (Int.le_of_lt (zK _))) (zfe _ b0 b1)
   by_cases hbit:zaR b k=1
   ·have ht:(bits .and .u64 (b / 2 ^ k) 1 == 1)=true:=by rw[eb,hbit];rfl
    have EB:=za hbit;clear eb hbit
    go_wp2_with (first
     |(go_at_call 131;(with_reducible refine(CT _).mono ?_);rintro e w3 ⟨rfl,hb3⟩;have q3:=cb hb3 (by omega) x0;have q4:=cb hb3 (by omega) x1;have t3:=fb hb3 (by omega) f10;have t4:=fb hb3 (by omega) f11;have T3:=za (TimesSt.set (X':=2*X) (ST.out.below hb3)))
     |(go_at_call 136;(with_reducible refine(CP _).mono ?_);rintro e w4 ⟨rfl,hb4⟩;have T4:=za (T3.out.below hb4);have y0:=T4.out.x0;have y1:=T4.out.x1;have y2:=T4.out.f10;have y3:=T4.out.f11))
    go_roundw
    case rel=>exact⟨k,by omega,rfl,by rw[ES.out,EB.out,Int.mul_one];exact T4.out.set⟩
    case measure=>simp[intOf]
   ·have hb0:zaR b k=0:=by omega
    have ht:(bits .and .u64 (b / 2 ^ k) 1 == 1)=false:=by rw[eb,hb0];rfl
    have EB:=za hb0;clear eb hbit hb0
    go_wp2_with (first
     |(go_at_call 131;(with_reducible refine(CT _).mono ?_);rintro e w3 ⟨rfl,hb3⟩;have q3:=cb hb3 (by omega) x0;have q4:=cb hb3 (by omega) x1;have t3:=fb hb3 (by omega) f10;have t4:=fb hb3 (by omega) f11))
    go_roundw
    case rel=>exact⟨k,by omega,rfl,by rw[ES.out,EB.out,Int.mul_zero,Int.add_zero];exact(ST.out.below hb3).set⟩
    case measure=>simp[intOf]
structure BigAt (w:World) (b:Nat) (X:Int):Prop where
 c0:w.cell? ⟨b,0,none⟩=some (.int .u64 (hi X))
 c1:w.cell? ⟨b,1,none⟩=some (.int .u64 (lo X))
 f0:w.frozen? ⟨b,0,none⟩=false
 f1:w.frozen? ⟨b,1,none⟩=false
 lt:b<w.heap.size
theorem BigAt.below {w w1:World} {b:Nat} {X:Int} (h:BigAt w b X) (hb:Below w.heap.size w w1):BigAt w1 b X :=
 ⟨cb hb h.lt h.c0,cb hb h.lt h.c1,fb hb h.lt h.f0,fb hb h.lt h.f1,Nat.lt_of_lt_of_le h.lt hb.size⟩
theorem BigAt.drew {w:World} {b:Nat} {X:Int} (h:BigAt w b X):BigAt w.drew b X:=⟨h.c0,h.c1,h.f0,h.f1,h.lt⟩
theorem BigAt.alloc {w:World} {b:Nat} {X:Int} (h:BigAt w b X) (o:Obj):BigAt (w.alloc o) b X :=
 ⟨ca h.lt h.c0,ca h.lt h.c1,fa h.lt h.f0,fa h.lt h.f1,by have:=h.lt;simp;omega⟩
theorem BigAt.new (w:World) {h l X:Int} (eh:h=hi X) (el:l=lo X) (t:TypeId):BigAt (w.alloc (.cells #[.int .u64 h,.int .u64 l] t)) w.heap.size X:=by
 subst eh;subst el;exact⟨by simp,by simp,by simp,by simp,by simp⟩
theorem BigAt.set {w:World} {b:Nat} {X:Int} (X':Int) (h:BigAt w b X):BigAt ((w.setCell ⟨b,0,none⟩ (.int .u64 (hi X'))).setCell ⟨b,1,none⟩ (.int .u64 (lo X'))) b X' :=
 ⟨cs (by omega) (cw h.c0),cw (cs (by omega) h.c1),by simp[h.f0],by simp[h.f1],by simpa [World.setCell] using h.lt⟩
theorem BigAt.far {w:World} {b b' o o':Nat} {X:Int} {u v:Value} (h:BigAt w b X) (hne:b'≠b):BigAt ((w.setCell ⟨b',o,none⟩ u).setCell ⟨b',o',none⟩ v) b X :=
 ⟨cs (by omega) (cs (by omega) h.c0),cs (by omega) (cs (by omega) h.c1),by simp[h.f0],by simp[h.f1],by simpa [World.setCell] using h.lt⟩
theorem zgY (x:Int) (m:Nat):zaC x (2 ^ (m+1))=(x / 2 ^ m+1) / 2:=by
 have p:=zK m;have e:(2:Int) ^ (m+1)=2*2 ^ m:=by rw[Int.pow_succ,Int.mul_comm]
 unfold zaC;rw[if_neg (by omega),e,←Int.mul_add,Int.mul_ediv_mul_of_pos _ _ (by decide),Int.mul_comm 2 (2 ^ m),←Int.ediv_ediv_of_nonneg (Int.le_of_lt p),Int.add_ediv_of_dvd_right (Int.dvd_refl _),Int.ediv_self (Int.ne_of_gt p)]
def zcx (M:Int) (n i:Nat):Int:=M % 2 ^ n+2 ^ i*(M / 2 ^ i)
theorem zqQ (M:Int) (n:Nat):zcx M n n=M:=by unfold zcx;rw[Int.add_comm];exact Int.mul_ediv_add_emod M (2 ^ n)
theorem zt4 {M:Int} (n:Nat) (h0:0<=M) (h1:M<340282366920938463463374607431768211456):zcx M n 128=M % 2 ^ n:=by
 unfold zcx;rw[zeV h0 h1,Int.mul_zero,Int.add_zero]
theorem zlz (M:Int) (n i:Nat):zcx M n i=zcx M n (i+1)+2 ^ i*zaR M i:=by
 unfold zcx;have e:(2:Int) ^ (i+1)=2 ^ i*2:=Int.pow_succ _ _;rw[zd1 M i,Int.mul_add,e];rw[show(2:Int) ^ i*(2*(M / (2 ^ i*2)))=2 ^ i*2*(M / (2 ^ i*2)) by rw[Int.mul_assoc]];omega
theorem zuM {M:Int} (n i:Nat) (h0:0<=M):0<=zcx M n i:=by
 unfold zcx;have:=Int.emod_nonneg M (Int.ne_of_gt (zK n));have:=Int.mul_nonneg (Int.le_of_lt (zK i)) (Int.ediv_nonneg h0 (Int.le_of_lt (zK i)));omega
theorem zwJ {M:Int} (n i:Nat) (h0:0<=M):zcx M n i<=2*M:=by
 unfold zcx;have e:=Int.mul_ediv_add_emod M (2 ^ i);have r:=Int.emod_nonneg M (Int.ne_of_gt (zK i));have a:M % 2 ^ n<=M:=by
  have e2:=Int.mul_ediv_add_emod M (2 ^ n);have:=Int.mul_nonneg (Int.le_of_lt (zK n)) (Int.ediv_nonneg h0 (Int.le_of_lt (zK n)));omega
 omega
theorem znt {M:Int} (n i:Nat) (h0:0<=M) (h:zaR M i=1):2 ^ i<=zcx M n i/\zcx M n i-2 ^ i=zcx M n (i+1):=by
 have e:=zlz M n i;rw[h,Int.mul_one]at e;have:=zuM n (i+1) h0;omega
theorem ztp {x M:Int} {N:Nat} (hM:zi x=M) (h0 : -9223372036854775808<=x) (h1:x<=9223372036854775807) (hN:N<=63) :
  (0<=x->zV x ((N:Int)+1)=zE (M / 2 ^ (N+1)+if 2 ^ N<=M % 2 ^ (N+1) then 1 else 0)) /\
  (x<0->zV x ((N:Int)+1)=zE (-(M / 2 ^ (N+1)+if 2 ^ N<M % 2 ^ (N+1) then 1 else 0))):=by
 have hb:=zK (N+1);have ee:(2:Int) ^ (N+1)=2*2 ^ N:=by rw[Int.pow_succ,Int.mul_comm]
 by_cases hs:N<=62
 ·have e0:zV x ((N:Int)+1)=zaC x (2 ^ (N+1)):=by
   rw[zgY];unfold zV;rw[if_neg (by omega),if_neg (by omega)];have:((N:Int)+1).toNat-1=N:=by omega
   rw[this]
  have hin:=zhf N h0 h1;rw[←zgY]at hin;refine⟨λh=>?_,λh=>?_⟩
  ·have e1:zaC x (2 ^ (N+1))=M / 2 ^ (N+1)+if 2 ^ N<=M % 2 ^ (N+1) then 1 else 0:=by
    rw[zaJ h]at hM;subst hM;unfold zaC;rw[if_neg (by omega),zeS hb]
    congr 1
    by_cases c:(2:Int) ^ N<=x % 2 ^ (N+1)
    ·rw[if_pos c,if_pos (by omega)]
    ·rw[if_neg c,if_neg (by omega)]
   rw[e0,←e1,zH hin.1 hin.2]
  ·have e1:zaC x (2 ^ (N+1)) = -(M / 2 ^ (N+1)+if 2 ^ N<M % 2 ^ (N+1) then 1 else 0):=by
    rw[zaS h]at hM;obtain rfl:x = -M:=by omega
    unfold zaC;rw[if_neg (by omega),zeD hb]
    congr 2
    by_cases c:(2:Int) ^ N<M % 2 ^ (N+1)
    ·rw[if_pos c,if_pos (by omega)]
    ·rw[if_neg c,if_neg (by omega)]
   rw[e0,←e1,zH hin.1 hin.2]
 ·obtain rfl:N=63:=by omega
  have M0:0<=M:=hM ▸ za6 x;have M1:M<=9223372036854775808:=hM ▸ zcu h0 (by omega);have p64:(2:Int) ^ (63+1)=18446744073709551616:=by decide
  have p63:(2:Int) ^ 63=9223372036854775808:=by decide
  have e0:zV x (((63:Nat):Int)+1)=0:=by unfold zV;rw[if_neg (by omega),if_pos (by omega)]
  rw[e0,p64,p63,Int.ediv_eq_zero_of_lt M0 (by omega),Int.emod_eq_of_lt M0 (by omega)];refine⟨λh=>?_,λh=>?_⟩
  ·rw[zaJ h]at hM;rw[if_neg (by omega)];decide
  ·rw[if_neg (by omega)];decide
theorem zxf {i:Nat} (h:i<=127):(2:Int) ^ i<=170141183460469231731687303715884105728:=by
 have:(2:Int) ^ i<=2 ^ 127:=by exact_mod_cast Nat.pow_le_pow_right (by decide) h
 simpa using this
theorem zmb {i:Nat} (h:i<=126):(2:Int) ^ i<170141183460469231731687303715884105728:=by
 have:(2:Int) ^ i<=2 ^ 126:=by exact_mod_cast Nat.pow_le_pow_right (by decide) h
 have e:(2:Int) ^ 126=85070591730234615865843651857942052864:=by decide
 omega
theorem zlx (i:Nat):(2:Int) ^ (i+1)=2*2 ^ i:=by rw[Int.pow_succ,Int.mul_comm]
end Go.Proofs.YtlodkoimdoeopaaGreatDoor
