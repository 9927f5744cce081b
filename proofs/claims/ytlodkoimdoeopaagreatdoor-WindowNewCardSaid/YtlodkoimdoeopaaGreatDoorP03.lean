/- Parts, joined. -/
import Derived.Test.YtlodkoimdoeopaaGreatDoorP01
import Derived.Test.YtlodkoimdoeopaaGreatDoorP02
import Derived.IntWalk
import Derived.Deep.QuietTactic
import Derived.BigQuiet
import Derived.Shelf.Bits.Mul64
namespace Go.Proofs.YtlodkoimdoeopaaGreatDoor
def zcZ (a b:Int):Int:=if b=0 then 0 else zE (zan a b)
def zkW (a b:Int):Int:=if b=0 then 0 else zaC a b
def zM (a b:Int):Int:=if b=0 then 0 else zE (zaz a b)
theorem zdl {a b:Int} (h:b≠0):zcZ a b=zE (zan a b):=if_neg h
theorem ziG {a b:Int} (h:b≠0):zkW a b=zaC a b:=if_neg h
theorem zcg {a b:Int} (h:b≠0):zM a b=zE (zaz a b):=if_neg h
theorem ziy {x d:Int} (h0:0<=x):x.tdiv d=x / d:=Int.tdiv_eq_ediv_of_nonneg h0
theorem zgP {x d:Int} (h0:0<=x):x.tmod d=x % d:=Int.tmod_eq_emod_of_nonneg h0
theorem zlc {x d:Int} (hd:0<d):(-x) % d=if 0<x % d then d-x % d else 0:=by
 have e:=Int.mul_ediv_add_emod x d;have r0:=Int.emod_nonneg x (Int.ne_of_gt hd);have r1:=Int.emod_lt_of_pos x hd
 split
 ·exact ze6 (q := -(x / d+1)) (by rw[Int.mul_neg,Int.mul_add];omega) (by omega) (by omega)
 ·exact ze6 (q := -(x / d)) (by rw[Int.mul_neg];omega) (by omega) (by omega)
structure Ways (a b x d T M F R:Int):Prop where
 t:a.tdiv b=T
 m:a.tmod b=M
 f:zan a b=F
 r:zaC a b=R
theorem zwr {a b:Int} (h0:0<=a) (hb:0<b):Ways a b a b (a / b) (a % b) (a / b) (a % b) :=
 ⟨ziy h0,zgP h0,if_neg (by omega),if_neg (by omega)⟩
theorem zw1 {x d:Int} (h0:0<=x) (hd:0<d):Ways (-x) (-d) x d (x / d) (-(x % d)) (x / d) (-(x % d)):=by
 refine⟨?_,?_,?_,?_⟩
 ·rw[Int.tdiv_neg,Int.neg_tdiv,Int.neg_neg,ziy h0]
 ·rw[Int.tmod_neg,Int.neg_tmod,zgP h0]
 ·unfold zan;rw[if_pos (by omega),Int.neg_neg,Int.neg_neg]
 ·unfold zaC;rw[if_pos (by omega),Int.neg_neg,Int.neg_neg]
theorem zw9 {x d:Int} (h0:0<=x) (hd:0<d):Ways (-x) d x d (-(x / d)) (-(x % d)) (-(x / d+(if 0<x % d then 1 else 0))) (if 0<x % d then d-x % d else 0):=by
 refine⟨?_,?_,?_,?_⟩
 ·rw[Int.neg_tdiv,ziy h0]
 ·rw[Int.neg_tmod,zgP h0]
 ·unfold zan;rw[if_neg (by omega),zc6 hd]
 ·unfold zaC;rw[if_neg (by omega),zlc hd]
theorem zw2 {x d:Int} (h0:0<=x) (hd:0<d):Ways x (-d) x d (-(x / d)) (x % d) (-(x / d+(if 0<x % d then 1 else 0))) (-(if 0<x % d then d-x % d else 0)):=by
 refine⟨?_,?_,?_,?_⟩
 ·rw[Int.tdiv_neg,ziy h0]
 ·rw[Int.tmod_neg,zgP h0]
 ·unfold zan;rw[if_pos (by omega),Int.neg_neg,zc6 hd]
 ·unfold zaC;rw[if_pos (by omega),Int.neg_neg,zlc hd]
theorem zcn {x d:Int} (h0:0<=x) (hd:0<d):0<=x / d/\x / d<=x:=⟨Int.ediv_nonneg h0 (by omega),Int.ediv_le_self _ h0⟩
theorem zgH {x d:Int} (h0:0<=x) (hd:2<=d):2*(x / d)<=x:=by
 have e:=Int.mul_ediv_add_emod x d;have r0:=Int.emod_nonneg x (b:=d) (by omega);have q0:=(zcn h0 (d:=d) (by omega)).1;have:2*(x / d)<=d*(x / d):=Int.mul_le_mul_of_nonneg_right hd q0;omega
theorem zi9 {x d:Int} (hd:0<d) (h:x % d≠0):2<=d:=by
 by_cases h1:d=1
 ·subst h1;exact absurd (Int.emod_one x) h
 ·omega
theorem za1 {x d:Int} (hd:0<d):0<=x % d/\x % d<d:=⟨Int.emod_nonneg x (Int.ne_of_gt hd),Int.emod_lt_of_pos x hd⟩
theorem znA {a b:Int} (hb:0<b):zaz a b=zan a b+(if b<=2*zaC a b then 1 else 0):=by
 unfold zaz zan zaC;have h:¬b<0:=by omega
 rw[if_neg h,if_neg h,if_neg h];exact zeQ hb
theorem znQ {a b:Int} (hb:b<0):zaz a b=zan a b+(if 2*zaC a b<=b then 1 else 0):=by
 unfold zaz zan zaC;rw[if_pos hb,if_pos hb,if_pos hb,zeQ (by omega)]
 congr 1
 by_cases h : -b<=2*(-a % -b)
 ·rw[if_pos h,if_pos (by omega)]
 ·rw[if_neg h,if_neg (by omega)]
theorem zlf (a b:Int):(0<b->0<=zaC a b/\zaC a b<b)/\(b<0->b<zaC a b/\zaC a b<=0):=by
 refine⟨λh=>?_,λh=>?_⟩
 ·unfold zaC;rw[if_neg (by omega)];exact za1 h
 ·unfold zaC;rw[if_pos h];have:=za1 (x := -a) (d := -b) (by omega);omega
theorem zqQ {a b:Int} (h0 : -9223372036854775808<=a) (h1:a<=9223372036854775807) (hb:b≠0) (hr:zaC a b≠0) : -4611686018427387905<=zan a b/\zan a b<=4611686018427387904:=by
 have key:∀ y d:Int,0<d->y % d≠0->-9223372036854775808<=y->y<=9223372036854775808->-4611686018427387905<=y / d/\y / d<=4611686018427387904:=by
  intro y d hd hy ya yb;have h2:=zi9 hd hy
  by_cases hy0:0<=y
  ·have:=zgH hy0 h2;have:=(zcn hy0 hd).1;omega
  ·have e:=zc6 (a := -y) hd;rw[Int.neg_neg]at e;have:=zgH (x := -y) (by omega) h2;have:=(zcn (x := -y) (by omega) hd).1
   split at e<;>omega
 unfold zan;unfold zaC at hr
 by_cases h:b<0
 ·rw[if_pos h]at hr ⊢;exact key _ _ (by omega) (by omega) (by omega) (by omega)
 ·rw[if_neg h]at hr ⊢;exact key _ _ (by omega) hr (by omega) (by omega)
structure Cut (a b:Int):Prop where
 f0:a.tmod b=0->zan a b=a.tdiv b
 f1:(a<0↔b<0)->zan a b=a.tdiv b
 f2:a.tmod b≠0->¬(a<0↔b<0)->zan a b=a.tdiv b-1
 r0:a.tmod b=0->zaC a b=0
 r1:a.tmod b≠0->(a.tmod b<0↔b<0)->zaC a b=a.tmod b
 r2:a.tmod b≠0->¬(a.tmod b<0↔b<0)->zaC a b=a.tmod b+b
 q0 : -9223372036854775808<=zan a b
 q1:a.tmod b≠0\/¬(a = -9223372036854775808/\b = -1)->zan a b<=9223372036854775807
 m0 : -9223372036854775808<=a.tmod b
 m1:a.tmod b<=9223372036854775807
theorem zpt {a b:Int} (h0 : -9223372036854775808<=a) (h1:a<=9223372036854775807) (k0 : -9223372036854775808<=b) (k1:b<=9223372036854775807) (hb:b≠0):Cut a b:=by
 by_cases ha:a<0
 ·obtain⟨x,rfl⟩:∃ x,a = -x:=⟨-a,by omega⟩
  by_cases hn:b<0
  ·obtain⟨d,rfl⟩:∃ d,b = -d:=⟨-b,by omega⟩;have W:=zw1 (x:=x) (d:=d) (by omega) (by omega);have q:=zcn (x:=x) (d:=d) (by omega) (by omega);have r:=za1 (x:=x) (d:=d) (by omega);have q2:2<=d->2*(x / d)<=x:=zgH (by omega);have t:=W.t;have m:=W.m;have f:=W.f;have g:=W.r;rw[←t]at f;rw[←m]at g;generalize x / d=Q at *;generalize x % d=R at *;exact⟨by omega,by omega,by omega,by omega,by omega,by omega,by omega,by omega,by omega,by omega⟩
  ·have W:=zw9 (x:=x) (d:=b) (by omega) (by omega);have q:=zcn (x:=x) (d:=b) (by omega) (by omega);have q2:2<=b->2*(x / b)<=x:=zgH (by omega);have r:=za1 (x:=x) (d:=b) (by omega);have r2:x % b≠0->2<=b:=zi9 (by omega);have t:=W.t;have m:=W.m;have f:=W.f;have g:=W.r;generalize x / b=Q at *;generalize x % b=R at *
   split at f<;>split at g<;>exact⟨by omega,by omega,by omega,by omega,by omega,by omega,by omega,by omega,by omega,by omega⟩
 ·by_cases hn:b<0
  ·obtain⟨d,rfl⟩:∃ d,b = -d:=⟨-b,by omega⟩;have W:=zw2 (x:=a) (d:=d) (by omega) (by omega);have q:=zcn (x:=a) (d:=d) (by omega) (by omega);have q2:2<=d->2*(a / d)<=a:=zgH (by omega);have r:=za1 (x:=a) (d:=d) (by omega);have r2:a % d≠0->2<=d:=zi9 (by omega);have t:=W.t;have m:=W.m;have f:=W.f;have g:=W.r;generalize a / d=Q at *;generalize a % d=R at *
   split at f<;>split at g<;>exact⟨by omega,by omega,by omega,by omega,by omega,by omega,by omega,by omega,by omega,by omega⟩
  ·have W:=zwr (a:=a) (b:=b) (by omega) (by omega);have q:=zcn (x:=a) (d:=b) (by omega) (by omega);have r:=za1 (x:=a) (d:=b) (by omega);have t:=W.t;have m:=W.m;have f:=W.f;have g:=W.r;generalize a / b=Q at *;generalize a % b=R at *;exact⟨by omega,by omega,by omega,by omega,by omega,by omega,by omega,by omega,by omega,by omega⟩
def zcE (a b:Int):Int:=zE (a+b)
def zaI (x:Int):Int:=zE (zi x)
def zq (l:List Int):Int:=l.foldl zcE 0
def zP (l:List Int):Int:=l.foldl (λs x=>zcE s (zaI x)) 0
theorem znn (a b:Int) : -9223372036854775808<=zcE a b/\zcE a b<=9223372036854775807:=⟨zfK _,ze8 _⟩
theorem zgp (l:List Int) (x:Int):zq (l++[x])=zcE (zq l) x:=by unfold zq;rw[List.foldl_append];rfl
theorem zeL (l:List Int) (x:Int):zP (l++[x])=zcE (zP l) (zaI x):=by unfold zP;rw[List.foldl_append];rfl
theorem zhv {P:List Int->Prop} (h0:P []) (hs:∀ l x,P l->P (l++[x])) (l:List Int):P l:=by
 have:∀ n (l:List Int),l.length=n->P l:=by
  intro n
  induction n with
  |zero=>intro l hl;rw[List.eq_nil_of_length_eq_zero hl];exact h0
  |succ n ih =>
   intro l hl;have hne:l≠[]:=by intro e;subst e;simp at hl
   rw[←List.dropLast_concat_getLast hne];exact hs _ _ (ih _ (by rw[List.length_dropLast,hl];rfl))
 exact this l.length l rfl
theorem zgL (l:List Int) : -9223372036854775808<=zq l/\zq l<=9223372036854775807:=by
 refine zhv (P:=λl => -9223372036854775808<=zq l/\zq l<=9223372036854775807) (by decide) ?_ l;intro l x _;rw[zgp];exact znn _ _
theorem zdf (l:List Int):0<=zP l/\zP l<=9223372036854775807:=by
 refine zhv (P:=λl=>0<=zP l/\zP l<=9223372036854775807) (by decide) ?_ l;intro l x ih;rw[zeL];have:0<=zaI x:=by unfold zaI zE;have:=zbc x;split<;>(try split)<;>omega
 refine⟨?_,(znn _ _).2⟩;unfold zcE zE;split<;>(try split)<;>omega
def zaa (x:Int):Prop := -1099511627776<=x/\x<=1099511627776
theorem zg2 (l:List Int) (h:∀ x ∈ l,zaa x) (hl:l.length<=1048576):zq l=l.sum/\-((l.length:Int)*1099511627776)<=l.sum/\l.sum<=(l.length:Int)*1099511627776:=by
 revert h hl
 refine zhv (P:=λl=>(∀ x ∈ l,zaa x)->l.length<=1048576->zq l=l.sum/\-((l.length:Int)*1099511627776)<=l.sum/\l.sum<=(l.length:Int)*1099511627776) ?_ ?_ l
 ·intro _ _;exact⟨rfl,by simp,by simp⟩
 ·intro l x ih h hl;rw[List.length_append]at hl;simp at hl;obtain⟨e,a,b⟩:=ih (λy hy=>h y (by simp[hy])) (by omega);have hx:=h x (by simp);unfold zaa at hx;have e1:((l++[x]).length:Int)=(l.length:Int)+1:=by simp
  have e2:(l++[x]).sum=l.sum+x:=by simp
  rw[zgp,e,e1,e2];unfold zcE;rw[zH (by omega) (by omega)];omega
def zaf (s x:Int):Int:=zcZ (x*16384) s
def zbb (s x:Int):Int:=x*16384-zaf s x*s
theorem zfL {s x:Int} (s0:0<s) (h:zaa x):zaf s x=x*16384 / s/\zbb s x=x*16384 % s/\0<=zbb s x/\zbb s x<s/\-18014398509481984<=zaf s x/\zaf s x<=18014398509481984:=by
 unfold zaa at h;have e:=Int.mul_ediv_add_emod (x*16384) s;have r0:=Int.emod_nonneg (x*16384) (show s≠0 by omega);have r1:=Int.emod_lt_of_pos (x*16384) s0;have up:x*16384 / s<=18014398509481984:=by
  have:x*16384 / s<18014398509481985:=Int.ediv_lt_of_lt_mul s0 (by omega);omega
 have dn : -18014398509481984<=x*16384 / s:=by
  apply Int.le_ediv_of_mul_le s0
  omega
 have q:zaf s x=x*16384 / s:=by
  unfold zaf;rw[zdl (by omega)];unfold zan;rw[if_neg (by omega),zH (by omega) (by omega)]
 have r:zbb s x=x*16384 % s:=by
  unfold zbb;rw[q,Int.mul_comm (x*16384 / s) s];omega
 exact⟨q,r,by omega,by omega,by omega,by omega⟩
def zU (s:Int) (l:List Int):List Int:=l.map (zaf s)
def zay (s:Int) (l:List Int):List Int:=l.map (zbb s)
def zF (r:List Int):Nat->Nat
 |0=>0
 |k+1=>if r.getD (zF r k) 0<r.getD k 0 then k else zF r k
theorem zid (r:List Int) (k:Nat):zF r k<max k 1:=by
 induction k with
 |zero=>simp[zF]
 |succ k ih=>unfold zF;split<;>omega
theorem zhr (r:List Int) (k:Nat) (j:Nat) (h:j<k):r.getD j 0<=r.getD (zF r k) 0:=by
 induction k with
 |zero=>omega
 |succ k ih =>
  unfold zF
  by_cases g:r.getD (zF r k) 0<r.getD k 0
  ·rw[if_pos g]
   by_cases e:j=k
   ·subst e;exact Int.le_refl _
   ·have:=ih (by omega);omega
  ·rw[if_neg g]
   by_cases e:j=k
   ·subst e;omega
   ·exact ih (by omega)
theorem zny (r:List Int) (k:Nat) (j:Nat) (h:j<zF r k):r.getD j 0<r.getD (zF r k) 0:=by
 induction k with
 |zero=>simp[zF]at h
 |succ k ih =>
  unfold zF at h ⊢
  by_cases g:r.getD (zF r k) 0<r.getD k 0
  ·rw[if_pos g]at h ⊢;have:=zhr r k j h;omega
  ·rw[if_neg g]at h ⊢;exact ih h
def zk (o r:List Int):Nat->List Int×List Int
 |0=>(o,r)
 |m+1=>((zk o r m).1.set (zF (zk o r m).2 (zk o r m).2.length) ((zk o r m).1.getD (zF (zk o r m).2 (zk o r m).2.length) 0+1),(zk o r m).2.set (zF (zk o r m).2 (zk o r m).2.length) (-1))
theorem ze4 (o r:List Int) (m:Nat):(zk o r m).1.length=o.length/\(zk o r m).2.length=r.length:=by
 induction m with
 |zero=>exact⟨rfl,rfl⟩
 |succ m ih=>unfold zk;simp only[List.length_set];exact ih
def zbg (s:Int) (l:List Int):Int:=16384-(zU s l).sum
def zG (l:List Int):List Int:=(zk (zU (zq l) l) (zay (zq l) l) (zbg (zq l) l).toNat).1
theorem zdw (l:List Int) (i j:Nat) (x:Int) (hi:i<l.length):(l.set i x).getD j 0=if i=j then x else l.getD j 0:=by
 rw[List.getD_eq_getElem?_getD,List.getElem?_set]
 by_cases h:i=j
 ·subst h;simp[hi]
 ·simp[h,List.getD_eq_getElem?_getD]
theorem zpf (l:List Int) (i:Nat) (x:Int) (hi:i<l.length):(l.set i x).sum=l.sum-l.getD i 0+x:=by
 induction l generalizing i with
 |nil=>simp at hi
 |cons a l ih =>
  cases i with
  |zero=>simp;omega
  |succ i =>
   have:=ih i (by simpa using hi);simp only[List.set_cons_succ,List.sum_cons,List.getD_cons_succ];omega
end Go.Proofs.YtlodkoimdoeopaaGreatDoor
namespace Go.Proofs.YtlodkoimdoeopaaGreatDoor
open Go.RowKit
theorem zvm (xs:List Int) (ad bd:Option Addr) (cap cap':Nat) (w:World) (hr:RowAt .i64 w ad xs) (hq:RowAt .i64 w bd xs) (hl:xs.length<=9223372036854775807) :
  Calls Tryz.prog 150 #[.slice ad xs.length cap,.slice bd xs.length cap'] w λe w'=>e=.returned (.bool true)/\Below w.heap.size w w':=by
 have HR:=za hr;have HQ:=za hq;clear hr hq;obtain⟨n,hn⟩:∃ n,xs.length=n:=⟨_,rfl⟩;have HN:=za hn;rw[hn]at hl ⊢;clear hn
 go_enter Tryz.func150,Tryz.ntmps150
 go_wp2
 go_loopw [13] (λi wr=>∃ k:Nat,k<=n/\i=.int .i64 (k:Int)/\Below w.heap.size w wr) (λi _=>n-(intOf i).toNat)
 case atStart=>exact⟨0,by omega,rfl,Below.refl _ _⟩
 case round =>
  obtain⟨k,hk,rfl,hb⟩:=hrel;have HB:=za hb;clear hb
  by_cases hlt:k<n
  ·obtain⟨b,off,rfl,hc⟩:=(HR.out.below HB.out).get (show k<xs.length by rw[HN.out];exact hlt);obtain⟨b',off',rfl,hc'⟩:=(HQ.out.below HB.out).get (show k<xs.length by rw[HN.out];exact hlt);generalize xs.getD k 0=x at *
   go_wp2_with fail
   go_quiet (fail)
   go_wp2
   go_roundw
   case rel=>exact⟨k+1,by omega,by go_num,bdN HB.out _⟩
   case measure=>simp[intOf];omega
  ·obtain rfl:k=n:=by omega
   go_wp2;go_ret;exact⟨rfl,HB.out⟩
theorem zs5 (n:Nat) (xs:List Int) (hn:xs.length=n) (ad bd:Option Addr) (cap cap':Nat) (w:World) (hr:RowAt .i64 w ad xs) (hq:RowAt .i64 w bd xs) (hl:n<=9223372036854775807) :
  Calls Tryz.prog 150 #[.slice ad n cap,.slice bd n cap'] w λe w'=>e=.returned (.bool true)/\Below w.heap.size w w':=by
 subst hn;exact zvm xs ad bd cap cap' w hr hq hl
theorem zbo {n:Int} (h0 : -9223372036854775808<=n) (h1:n<=9223372036854775807):wrap64 n=n:=IntWalk.wrap64_in n ⟨h0,h1⟩
theorem zf7 {t:Int} (h0 : -9223372036854775808<=t-1) (h1:t-1<=9223372036854775807):wrap64 (wrap64 t-1)=t-1:=by unfold wrap64;omega
theorem zdh (a b:Int) (h0 : -9223372036854775808<=a) (h1:a<=9223372036854775807) (k0 : -9223372036854775808<=b) (k1:b<=9223372036854775807) (w:World) :
  Calls Tryz.prog 168 #[.int .i64 a,.int .i64 b] w λe w'=>e=.returned (.int .i64 (zcZ a b))/\w=w':=by
 by_cases hb:b=0
 ·subst hb
  go_enter Tryz.func168,Tryz.ntmps168
  go_wp2;go_ret;exact⟨zm (by simp[zcZ]),rfl⟩
 have C:=zpt h0 h1 k0 k1 hb;rw[zdl hb]
 by_cases hs:a = -9223372036854775808/\b = -1
 ·obtain⟨rfl,rfl⟩:=hs;clear C
  go_enter Tryz.func168,Tryz.ntmps168
  go_wp2;go_ret;exact⟨zm (by decide),rfl⟩
 have q1:=C.q1 (Or.inr hs);have q0:=C.q0;rw[zH q0 q1];have hb0:(b == 0)=false:=beq_eq_false_iff_ne.2 hb;have HS:=za hs;clear hs
 by_cases c1:a.tmod b=0
 ·have E:=C.f0 c1;rw[E]at q0 q1 ⊢;clear C E
  by_cases ha:a = -9223372036854775808
  ·have hA:(a == -9223372036854775808)=true:=beq_iff_eq.2 ha;have hB:(b == -1)=false:=beq_eq_false_iff_ne.2 λe=>HS.out ⟨ha,e⟩
   clear ha h0 h1
   go_enter Tryz.func168,Tryz.ntmps168
   go_wp2;go_ret;exact⟨zm (by first|rfl|exact zbo (by omega) (by omega)),rfl⟩
  ·have hA:(a == -9223372036854775808)=false:=beq_eq_false_iff_ne.2 ha;clear ha
   go_enter Tryz.func168,Tryz.ntmps168
   go_wp2;go_ret;exact⟨zm (by first|rfl|exact zbo (by omega) (by omega)),rfl⟩
 have c1':(a.tmod b != 0)=true:=by simp[c1]
 by_cases ga:a<0
 ·by_cases gb:b<0
  ·have E:=C.f1 (by omega);rw[E]at q0 q1 ⊢;clear C E;have da:decide (a<0)=true:=decide_eq_true (by omega);have db:decide (b<0)=true:=decide_eq_true (by omega);clear c1 ga gb
   by_cases ha:a = -9223372036854775808
   ·have hA:(a == -9223372036854775808)=true:=beq_iff_eq.2 ha;have hB:(b == -1)=false:=beq_eq_false_iff_ne.2 λe=>HS.out ⟨ha,e⟩
    clear ha h0 h1
    go_enter Tryz.func168,Tryz.ntmps168
    go_wp2;go_ret;exact⟨zm (by first|rfl|exact zbo (by omega) (by omega)),rfl⟩
   ·have hA:(a == -9223372036854775808)=false:=beq_eq_false_iff_ne.2 ha;clear ha
    go_enter Tryz.func168,Tryz.ntmps168
    go_wp2;go_ret;exact⟨zm (by first|rfl|exact zbo (by omega) (by omega)),rfl⟩
  ·have E:=C.f2 c1 (by omega);rw[E]at q0 q1 ⊢;clear C E;have da:decide (a<0)=true:=decide_eq_true (by omega);have db:decide (b<0)=false:=decide_eq_false (by omega);clear c1 ga gb
   by_cases ha:a = -9223372036854775808
   ·have hA:(a == -9223372036854775808)=true:=beq_iff_eq.2 ha;have hB:(b == -1)=false:=beq_eq_false_iff_ne.2 λe=>HS.out ⟨ha,e⟩
    clear ha h0 h1
    go_enter Tryz.func168,Tryz.ntmps168
    go_wp2;go_ret;exact⟨zm (by first|exact zf7 q0 q1|exact zbo q0 q1),rfl⟩
   ·have hA:(a == -9223372036854775808)=false:=beq_eq_false_iff_ne.2 ha;clear ha
    go_enter Tryz.func168,Tryz.ntmps168
    go_wp2;go_ret;exact⟨zm (by first|exact zf7 q0 q1|exact zbo q0 q1),rfl⟩
 ·by_cases gb:b<0
  ·have E:=C.f2 c1 (by omega);rw[E]at q0 q1 ⊢;clear C E;have da:decide (a<0)=false:=decide_eq_false (by omega);have db:decide (b<0)=true:=decide_eq_true (by omega);clear c1 ga gb
   by_cases ha:a = -9223372036854775808
   ·have hA:(a == -9223372036854775808)=true:=beq_iff_eq.2 ha;have hB:(b == -1)=false:=beq_eq_false_iff_ne.2 λe=>HS.out ⟨ha,e⟩
    clear ha h0 h1
    go_enter Tryz.func168,Tryz.ntmps168
    go_wp2;go_ret;exact⟨zm (by first|exact zf7 q0 q1|exact zbo q0 q1),rfl⟩
   ·have hA:(a == -9223372036854775808)=false:=beq_eq_false_iff_ne.2 ha;clear ha
    go_enter Tryz.func168,Tryz.ntmps168
    go_wp2;go_ret;exact⟨zm (by first|exact zf7 q0 q1|exact zbo q0 q1),rfl⟩
  ·have E:=C.f1 (by omega);rw[E]at q0 q1 ⊢;clear C E;have da:decide (a<0)=false:=decide_eq_false (by omega);have db:decide (b<0)=false:=decide_eq_false (by omega);clear c1 ga gb
   by_cases ha:a = -9223372036854775808
   ·have hA:(a == -9223372036854775808)=true:=beq_iff_eq.2 ha;have hB:(b == -1)=false:=beq_eq_false_iff_ne.2 λe=>HS.out ⟨ha,e⟩
    clear ha h0 h1
    go_enter Tryz.func168,Tryz.ntmps168
    go_wp2;go_ret;exact⟨zm (by first|rfl|exact zbo (by omega) (by omega)),rfl⟩
   ·have hA:(a == -9223372036854775808)=false:=beq_eq_false_iff_ne.2 ha;clear ha
    go_enter Tryz.func168,Tryz.ntmps168
    go_wp2;go_ret;exact⟨zm (by first|rfl|exact zbo (by omega) (by omega)),rfl⟩
theorem zft (a b:Int) (h0 : -9223372036854775808<=a) (h1:a<=9223372036854775807) (k0 : -9223372036854775808<=b) (k1:b<=9223372036854775807) (w:World) :
  Calls Tryz.prog 122 #[.int .i64 a,.int .i64 b] w λe w'=>e=.returned (.int .i64 (zkW a b))/\w=w':=by
 by_cases hb:b=0
 ·subst hb
  go_enter Tryz.func122,Tryz.ntmps122
  go_wp2;go_ret;exact⟨zm (by simp[zkW]),rfl⟩
 have C:=zpt h0 h1 k0 k1 hb;have I:=zlf a b;rw[ziG hb];have hb0:(b == 0)=false:=beq_eq_false_iff_ne.2 hb;have m0:=C.m0;have m1:=C.m1
 by_cases c1:a.tmod b=0
 ·rw[C.r0 c1];clear C I
  go_enter Tryz.func122,Tryz.ntmps122
  go_wp2;go_ret;exact⟨zm (by rfl),rfl⟩
 have c1':(a.tmod b != 0)=true:=by simp[c1]
 by_cases ga:a.tmod b<0
 ·by_cases gb:b<0
  ·rw[C.r1 c1 (by omega)];have da:decide (a.tmod b<0)=true:=decide_eq_true (by omega);have db:decide (b<0)=true:=decide_eq_true (by omega);clear C I c1 ga gb
   go_enter Tryz.func122,Tryz.ntmps122
   go_wp2;go_ret;exact⟨zm (by rfl),rfl⟩
  ·rw[C.r2 c1 (by omega)];have e2:=C.r2 c1 (by omega);have i2:=I.1 (by omega);rw[e2]at i2;clear e2;have da:decide (a.tmod b<0)=true:=decide_eq_true (by omega);have db:decide (b<0)=false:=decide_eq_false (by omega);clear C I c1 ga gb
   go_enter Tryz.func122,Tryz.ntmps122
   go_wp2;go_ret;exact⟨zm (by first|rfl|exact zbo (by omega) (by omega)),rfl⟩
 ·by_cases gb:b<0
  ·rw[C.r2 c1 (by omega)];have e2:=C.r2 c1 (by omega);have i2:=I.2 gb;rw[e2]at i2;clear e2;have da:decide (a.tmod b<0)=false:=decide_eq_false (by omega);have db:decide (b<0)=true:=decide_eq_true (by omega);clear C I c1 ga gb
   go_enter Tryz.func122,Tryz.ntmps122
   go_wp2;go_ret;exact⟨zm (by first|rfl|exact zbo (by omega) (by omega)),rfl⟩
  ·rw[C.r1 c1 (by omega)];have da:decide (a.tmod b<0)=false:=decide_eq_false (by omega);have db:decide (b<0)=false:=decide_eq_false (by omega);clear C I c1 ga gb
   go_enter Tryz.func122,Tryz.ntmps122
   go_wp2;go_ret;exact⟨zm (by rfl),rfl⟩
def zW (x n:Int):Int:=if n<=0 then x else if 63<n then 0 else(x / 2 ^ (n.toNat-1)+1) / 2
theorem zoi (a:Int):bits .and .i64 a 1=a % 2:=by
 show IntKind.i64.wrap (((BitVec.ofInt 64 a &&& BitVec.ofInt 64 1).toNat:Nat):Int)=_
 rw[BitVec.toNat_and,BitVec.toNat_ofInt,BitVec.toNat_ofInt];have e:((1:Int) % ((2 ^ 64:Nat):Int)).toNat=1:=by decide
 rw[e,Nat.and_one_is_mod,IntKind.wrap_i64];have e2:((2 ^ 64:Nat):Int)=18446744073709551616:=by decide
 rw[e2];omega
theorem zu0 (x:Int) (m:Nat):x / 2 ^ (m+1)+x / 2 ^ m % 2=(x / 2 ^ m+1) / 2:=by
 have e:x / 2 ^ (m+1)=x / 2 ^ m / 2:=by rw[Int.pow_succ,Int.ediv_ediv_of_nonneg (Int.le_of_lt (zK m))]
 rw[e];omega
theorem zgX {x:Int} (m:Nat) (h0 : -9223372036854775808<=x) (h1:x<=9223372036854775807) : -9223372036854775808<=(x / 2 ^ m+1) / 2/\(x / 2 ^ m+1) / 2<=9223372036854775807:=by
 have p:=zK m;have p1:(1:Int)<=2 ^ m:=p;have a0 : -9223372036854775808<=x / 2 ^ m:=by
  rw[Int.le_ediv_iff_mul_le p];generalize (2:Int) ^ m=P at *;omega
 have a1:x / 2 ^ m<=9223372036854775807:=by
  by_cases hx:0<=x
  ·have:=Int.ediv_le_self (2 ^ m) hx;omega
  ·have:=Int.ediv_neg_of_neg_of_pos (by omega:x<0) p;omega
 omega
theorem zeD (x n:Int) (h0 : -9223372036854775808<=x) (h1:x<=9223372036854775807) (k0 : -9223372036854775808<=n) (k1:n<=9223372036854775807) (w:World) :
  Calls Tryz.prog 130 #[.int .i64 x,.int .i64 n] w λe w'=>e=.returned (.int .i64 (zW x n))/\Below w.heap.size w w':=by
 by_cases hn:n<=0
 ·rw[show zW x n=x from if_pos hn]
  go_enter Tryz.func130,Tryz.ntmps130
  go_wp2;go_ret;exact⟨rfl,Below.refl _ _⟩
 by_cases hm:63<n
 ·rw[show zW x n=0 from(if_neg hn).trans (if_pos hm)]
  go_enter Tryz.func130,Tryz.ntmps130
  go_wp2;go_ret;exact⟨rfl,Below.refl _ _⟩
 obtain⟨m,rfl⟩:∃ m:Nat,n=((m+1:Nat):Int):=⟨n.toNat-1,by omega⟩;have e:zW x ((m+1:Nat):Int)=(x / 2 ^ m+1) / 2:=(if_neg hn).trans (if_neg hm);rw[e];have S:=za (zgX m h0 h1);have T:=za (zu0 x m);clear e;obtain⟨j,hj⟩:∃ j,j=m+1:=⟨_,rfl⟩;have J:=za hj;rw[←hj]at hn hm k0 k1 ⊢;have n1:((j:Int)-1)=((j-1:Nat):Int):=by omega
 clear hj
 go_enter Tryz.func130,Tryz.ntmps130
 go_wp2
 go_quiet (fail)
 go_wp2;go_ret;refine⟨zm ?_,below_drewN (Below.refl _ _) _⟩;have hj:=J.out;subst hj;rw[zoi,Nat.add_sub_cancel,T.out];exact zbo S.out.1 S.out.2
def zar (r:Int):Nat->Int
 |0=>1099511627776
 |n+1=>zM (zar r n*r) (((n:Int)+1)*1099511627776)
def zaY (r:Int):Nat->Int
 |0=>1099511627776
 |n+1=>if n % 2=0 then zaY r n-zar r (n+1) else zaY r n+zar r (n+1)
def zdd (t:Int):Int:=max t 0
def zcr (t:Int):Int:=zW (zaY (zdd t % 762123384786) 16) (zdd t / 762123384786)
def za6 (d s:Int):Int:=if s<1\/4194304<s\/d < -16384\/16384<d then 9223372036854775807 else zM (d*d*2147483648*1099511627776) (s*s)
def zc1 (d s:Int):Int:=zW (zcr (za6 d s)) 10
theorem zek {X d m:Int} (hd:0<d) (h0:0<=X) (h1:X<=m*d):0<=zaz X d/\zaz X d<=m:=by
 unfold zaz;rw[if_neg (by omega)];refine⟨Int.ediv_nonneg (by omega) (by omega),?_⟩;have h:(2*X+d) / (2*d)<m+1:=by
  apply Int.ediv_lt_of_lt_mul (by omega)
  have e:(m+1)*(2*d)=2*(m*d)+2*d:=by rw[Int.add_mul,Int.mul_left_comm];omega
  rw[e];omega
 omega
theorem zcV {r:Int} (h0:0<=r) (h1:r<=1099511627776) (n:Nat):0<=zar r n/\zar r n<=1099511627776:=by
 induction n with
 |zero=>simp[zar]
 |succ n ih =>
  obtain⟨a0,a1⟩:=ih;have p0:0<=zar r n*r:=Int.mul_nonneg a0 h0;have p1:zar r n*r<=1099511627776*1099511627776:=Int.mul_le_mul a1 h1 h0 (by omega);have p2:(1099511627776:Int)*1099511627776<=1099511627776*(((n:Int)+1)*1099511627776):=by omega
  have q:=zek (X:=zar r n*r) (d:=((n:Int)+1)*1099511627776) (m:=1099511627776) (by omega) p0 (by omega)
  show 0<=zM _ _/\zM _ _<=_
  rw[zcg (by omega),zH (by omega) (by omega)];exact q
theorem zpk {r:Int} (h0:0<=r) (h1:r<=1099511627776) (n:Nat) : -(((n:Int)+1)*1099511627776)<=zaY r n/\zaY r n<=((n:Int)+1)*1099511627776:=by
 induction n with
 |zero=>simp[zaY]
 |succ n ih =>
  have t:=zcV h0 h1 (n+1);unfold zaY
  split<;>omega
theorem zrq (t:Int):0<=zdd t:=by unfold zdd;omega
theorem zqA {t:Int} (h:t<=9223372036854775807):zdd t<=9223372036854775807:=by unfold zdd;omega
theorem zs7 {x n:Int} (h0 : -9223372036854775808<=x) (h1:x<=9223372036854775807) : -9223372036854775808<=zW x n/\zW x n<=9223372036854775807:=by
 unfold zW
 split
 ·exact⟨h0,h1⟩
 ·split
  ·omega
  ·exact zgX _ h0 h1
theorem znC {r:Int} (h0:0<=r) (h1:r<762123384786) : -18691697672192<=zaY r 16/\zaY r 16<=18691697672192:=by
 have:=zpk h0 (by omega:r<=1099511627776) 16;omega
theorem zlD {t:Int} (h0:0<=t) (h1:t<=9223372036854775807):0<=t % 762123384786/\t % 762123384786<762123384786/\0<=t / 762123384786/\t / 762123384786<=12102203:=by omega
theorem zmP {t:Int} (h1:t<=9223372036854775807) : -9223372036854775808<=zcr t/\zcr t<=9223372036854775807:=by
 have p:=zlD (zrq t) (zqA h1);have s:=znC p.1 p.2.1;exact zs7 (by omega) (by omega)
theorem zkB (a b:Int) : -9223372036854775808<=zM a b/\zM a b<=9223372036854775807:=by
 unfold zM
 split
 ·omega
 ·exact⟨zfK _,ze8 _⟩
theorem zk9 (d s:Int) : -9223372036854775808<=za6 d s/\za6 d s<=9223372036854775807:=by
 unfold za6
 split
 ·omega
 ·exact zkB _ _
theorem zmN (s:Int):s*s=zi s*zi s:=by
 unfold zi
 split
 ·rw[Int.neg_mul_neg]
 ·rfl
theorem zit {s:Int} (h0 : -16777216<=s) (h1:s<=16777216):0<=s*s/\s*s<=281474976710656:=by
 have a:=zmN s;have b0:0<=zi s:=zbc s;have b1:zi s<=16777216:=by unfold zi;split<;>omega
 rw[a];exact⟨Int.mul_nonneg b0 b0,Int.mul_le_mul b1 b1 b0 (by omega)⟩
theorem zrx (d s:Int):0<=za6 d s:=by
 unfold za6
 split
 ·omega
 ·rename_i h
  have a:=zit (s:=d) (by omega) (by omega);have b:=zit (s:=s) (by omega) (by omega);generalize d*d=D at *;generalize s*s=S at *;unfold zM
  split
  ·omega
  ·have q:=zek (X:=D*2147483648*1099511627776) (d:=S) (m:=D*2147483648*1099511627776) (by omega) (by omega) (by
    have:1*(D*2147483648*1099511627776)<=S*(D*2147483648*1099511627776):=Int.mul_le_mul_of_nonneg_right (by omega) (by omega);rw[Int.mul_comm S]at this;omega)
   unfold zE
   split<;>(try split)<;>omega
theorem zbY (a x:Int) (hx:zi a=x) (h0 : -9223372036854775808<=a) (h1:a<=9223372036854775807) (w:World) :
  Calls Tryz.prog 132 #[.int .i64 a] w λe w'=>e=.returned (.int .u64 x)/\w=w':=by
 subst hx;exact zb3 a h0 h1 w
theorem zg6 (x d:Int) (h0:0<=x) (h1:x<18446744073709551616) (d0:0<d) (d1:d<18446744073709551616) (w:World) :
  Calls Tryz.prog 232 #[.agg #[.int .u64 0,.int .u64 x],.int .u64 d] w λe w' =>
   e=.returned (.tuple #[.agg #[.int .u64 (hi (x / d)),.int .u64 (lo (x / d))],.int .u64 (x % d)])/\Below w.heap.size w w':=by
 have h:=zjm x d h0 (by omega) d0 d1 w;rw[zd7 h0 h1,zdv h0 h1]at h;exact h
theorem zfV (a b:Int) (h0 : -9223372036854775808<=a) (h1:a<=9223372036854775807) (k0 : -9223372036854775808<=b) (k1:b<=9223372036854775807) (w:World) :
  Calls Tryz.prog 210 #[.int .i64 a,.int .i64 b] w λe w'=>e=.returned (.int .i64 (zcZ a b))/\Below w.heap.size w w':=by
 by_cases hb:b=0
 ·subst hb
  go_enter Tryz.func210,Tryz.ntmps210
  go_wp2;go_ret;exact⟨zm (by simp[zcZ]),Below.refl _ _⟩
 rw[zdl hb]
 by_cases ha:a<0
 ·by_cases hn:b<0
  ·have ga:a<0:=by omega
   have gb:b<0:=by omega
   obtain⟨x,hx⟩:∃ x,x = -a:=⟨_,rfl⟩;have Cx:=zbY a x ((zaU ga).trans hx.symm) (by omega) (by omega);obtain⟨d,hd⟩:∃ d,d = -b:=⟨_,rfl⟩;have Cd:=zbY b d ((zaU gb).trans hd.symm) (by omega) (by omega);have bx:0<=x/\x<=9223372036854775808:=by omega
   have bd:0<d/\d<=9223372036854775808:=by omega
   have CO:=zg6 x d (by omega) (by omega) (by omega) (by omega);have Q0:=zcn (x:=x) (d:=d) (by omega) (by omega);have R0:=za1 (x:=x) (d:=d) (by omega);have e:zan a b=x / d:=by unfold zan;rw[if_pos gb];subst hx;subst hd;rfl
   rw[e];clear e hx hd hb;obtain⟨Q0,Q1⟩:=Q0;obtain⟨R0,R1⟩:=R0;have Q2:x / d<=9223372036854775808:=by omega
   generalize x / d=Q at *;generalize x % d=r at *;have CH:=zav Q false (by omega) (by omega);clear bx bd Q1;have da:decide (a<0)=true:=decide_eq_true ga;have db:decide (b<0)=true:=decide_eq_true gb
   go_enter Tryz.func210,Tryz.ntmps210
   go_wp2_with (first
    |(go_at_call 132;(with_reducible refine(Cx _).mono ?_);rintro e w' ⟨rfl,rfl⟩)
    |(go_at_call 132;(with_reducible refine(Cd _).mono ?_);rintro e w' ⟨rfl,rfl⟩)
    |(go_at_call 232;(with_reducible refine(CO _).mono ?_);rintro e w1 ⟨rfl,b1⟩;have z1:=b1.size)
    |(go_at_call 137;(with_reducible refine(CH _).mono ?_);rintro e w5 ⟨rfl,b5⟩))
   go_ret;refine⟨zm (by simp[zbU]),?_⟩
   repeat (first|exact Below.refl _ _|with_reducible refine ba ?_ _|with_reducible refine bs ?_ (by omega) _|with_reducible refine bd ?_|(with_reducible refine bt ?_ (by assumption)))
  ·have ga:a<0:=by omega
   have gb:0<b:=by omega
   obtain⟨x,hx⟩:∃ x,x = -a:=⟨_,rfl⟩;have Cx:=zbY a x ((zaU ga).trans hx.symm) (by omega) (by omega);obtain⟨d,hd⟩:∃ d,d=b:=⟨_,rfl⟩;have Cd:=zbY b d ((zaG (Int.le_of_lt gb)).trans hd.symm) (by omega) (by omega);have bx:0<=x/\x<=9223372036854775808:=by omega
   have bd:0<d/\d<=9223372036854775808:=by omega
   have CO:=zg6 x d (by omega) (by omega) (by omega) (by omega);have Q0:=zcn (x:=x) (d:=d) (by omega) (by omega);have R0:=za1 (x:=x) (d:=d) (by omega);have e:zan a b = -(x / d+if 0<x % d then 1 else 0):=by unfold zan;rw[if_neg (by omega)];rw[←zc6 (by omega)];subst hx;subst hd;rw[Int.neg_neg]
   rw[e];clear e hx hd hb;obtain⟨Q0,Q1⟩:=Q0;obtain⟨R0,R1⟩:=R0;have Q2:x / d<=9223372036854775808:=by omega
   generalize x / d=Q at *;generalize x % d=r at *
   by_cases hr:0<r
   ·rw[if_pos hr];have CH:=zav (Q+1) true (by omega) (by omega);have CP:=zd6 Q Q0 (by omega);clear bx bd Q1;have da:decide (a<0)=true:=decide_eq_true ga;have db:decide (b<0)=false:=decide_eq_false (by omega)
    go_enter Tryz.func210,Tryz.ntmps210
    go_wp2_with (first
     |(go_at_call 132;(with_reducible refine(Cx _).mono ?_);rintro e w' ⟨rfl,rfl⟩)
     |(go_at_call 132;(with_reducible refine(Cd _).mono ?_);rintro e w' ⟨rfl,rfl⟩)
     |(go_at_call 232;(with_reducible refine(CO _).mono ?_);rintro e w1 ⟨rfl,b1⟩;have z1:=b1.size)
     |(go_at_call 136;(with_reducible refine(CP _).mono ?_);rintro e w2 ⟨rfl,b2⟩;have z2:w1.heap.size+1<=w2.heap.size:=(by simpa using b2.size);have q20:w2.cell? ⟨w1.heap.size,0,none⟩=some (.int .u64 (hi Q)):=cb b2 (by simp) (by simp);have q21:w2.cell? ⟨w1.heap.size,1,none⟩=some (.int .u64 (lo Q)):=cb b2 (by simp) (by simp);have g20:w2.frozen? ⟨w1.heap.size,0,none⟩=false:=fb b2 (by simp) (by simp);have g21:w2.frozen? ⟨w1.heap.size,1,none⟩=false:=fb b2 (by simp) (by simp))
     |(go_at_call 137;(with_reducible refine(CH _).mono ?_);rintro e w5 ⟨rfl,b5⟩))
    go_ret;refine⟨zm rfl,?_⟩
    repeat (first|exact Below.refl _ _|with_reducible refine ba ?_ _|with_reducible refine bs ?_ (by omega) _|with_reducible refine bd ?_|(with_reducible refine bt ?_ (by assumption)))
   ·rw[if_neg hr];have CH:=zav Q true (by omega) (by omega);clear bx bd Q1;have da:decide (a<0)=true:=decide_eq_true ga;have db:decide (b<0)=false:=decide_eq_false (by omega)
    go_enter Tryz.func210,Tryz.ntmps210
    go_wp2_with (first
     |(go_at_call 132;(with_reducible refine(Cx _).mono ?_);rintro e w' ⟨rfl,rfl⟩)
     |(go_at_call 132;(with_reducible refine(Cd _).mono ?_);rintro e w' ⟨rfl,rfl⟩)
     |(go_at_call 232;(with_reducible refine(CO _).mono ?_);rintro e w1 ⟨rfl,b1⟩;have z1:=b1.size)
     |(go_at_call 137;(with_reducible refine(CH _).mono ?_);rintro e w5 ⟨rfl,b5⟩))
    go_ret;refine⟨zm (by simp[zbU]),?_⟩
    repeat (first|exact Below.refl _ _|with_reducible refine ba ?_ _|with_reducible refine bs ?_ (by omega) _|with_reducible refine bd ?_|(with_reducible refine bt ?_ (by assumption)))
 ·by_cases hn:b<0
  ·have ga:0<=a:=by omega
   have gb:b<0:=by omega
   obtain⟨x,hx⟩:∃ x,x=a:=⟨_,rfl⟩;have Cx:=zbY a x ((zaG ga).trans hx.symm) (by omega) (by omega);obtain⟨d,hd⟩:∃ d,d = -b:=⟨_,rfl⟩;have Cd:=zbY b d ((zaU gb).trans hd.symm) (by omega) (by omega);have bx:0<=x/\x<=9223372036854775808:=by omega
   have bd:0<d/\d<=9223372036854775808:=by omega
   have CO:=zg6 x d (by omega) (by omega) (by omega) (by omega);have Q0:=zcn (x:=x) (d:=d) (by omega) (by omega);have R0:=za1 (x:=x) (d:=d) (by omega);have e:zan a b = -(x / d+if 0<x % d then 1 else 0):=by unfold zan;rw[if_pos gb];rw[←zc6 (by omega)];subst hx;subst hd;rfl
   rw[e];clear e hx hd hb;obtain⟨Q0,Q1⟩:=Q0;obtain⟨R0,R1⟩:=R0;have Q2:x / d<=9223372036854775808:=by omega
   generalize x / d=Q at *;generalize x % d=r at *
   by_cases hr:0<r
   ·rw[if_pos hr];have CH:=zav (Q+1) true (by omega) (by omega);have CP:=zd6 Q Q0 (by omega);clear bx bd Q1;have da:decide (a<0)=false:=decide_eq_false (by omega);have db:decide (b<0)=true:=decide_eq_true gb
    go_enter Tryz.func210,Tryz.ntmps210
    go_wp2_with (first
     |(go_at_call 132;(with_reducible refine(Cx _).mono ?_);rintro e w' ⟨rfl,rfl⟩)
     |(go_at_call 132;(with_reducible refine(Cd _).mono ?_);rintro e w' ⟨rfl,rfl⟩)
     |(go_at_call 232;(with_reducible refine(CO _).mono ?_);rintro e w1 ⟨rfl,b1⟩;have z1:=b1.size)
     |(go_at_call 136;(with_reducible refine(CP _).mono ?_);rintro e w2 ⟨rfl,b2⟩;have z2:w1.heap.size+1<=w2.heap.size:=(by simpa using b2.size);have q20:w2.cell? ⟨w1.heap.size,0,none⟩=some (.int .u64 (hi Q)):=cb b2 (by simp) (by simp);have q21:w2.cell? ⟨w1.heap.size,1,none⟩=some (.int .u64 (lo Q)):=cb b2 (by simp) (by simp);have g20:w2.frozen? ⟨w1.heap.size,0,none⟩=false:=fb b2 (by simp) (by simp);have g21:w2.frozen? ⟨w1.heap.size,1,none⟩=false:=fb b2 (by simp) (by simp))
     |(go_at_call 137;(with_reducible refine(CH _).mono ?_);rintro e w5 ⟨rfl,b5⟩))
    go_ret;refine⟨zm rfl,?_⟩
    repeat (first|exact Below.refl _ _|with_reducible refine ba ?_ _|with_reducible refine bs ?_ (by omega) _|with_reducible refine bd ?_|(with_reducible refine bt ?_ (by assumption)))
   ·rw[if_neg hr];have CH:=zav Q true (by omega) (by omega);clear bx bd Q1;have da:decide (a<0)=false:=decide_eq_false (by omega);have db:decide (b<0)=true:=decide_eq_true gb
    go_enter Tryz.func210,Tryz.ntmps210
    go_wp2_with (first
     |(go_at_call 132;(with_reducible refine(Cx _).mono ?_);rintro e w' ⟨rfl,rfl⟩)
     |(go_at_call 132;(with_reducible refine(Cd _).mono ?_);rintro e w' ⟨rfl,rfl⟩)
     |(go_at_call 232;(with_reducible refine(CO _).mono ?_);rintro e w1 ⟨rfl,b1⟩;have z1:=b1.size)
     |(go_at_call 137;(with_reducible refine(CH _).mono ?_);rintro e w5 ⟨rfl,b5⟩))
    go_ret;refine⟨zm (by simp[zbU]),?_⟩
    repeat (first|exact Below.refl _ _|with_reducible refine ba ?_ _|with_reducible refine bs ?_ (by omega) _|with_reducible refine bd ?_|(with_reducible refine bt ?_ (by assumption)))
  ·have ga:0<=a:=by omega
   have gb:0<b:=by omega
   obtain⟨x,hx⟩:∃ x,x=a:=⟨_,rfl⟩;have Cx:=zbY a x ((zaG ga).trans hx.symm) (by omega) (by omega);obtain⟨d,hd⟩:∃ d,d=b:=⟨_,rfl⟩;have Cd:=zbY b d ((zaG (Int.le_of_lt gb)).trans hd.symm) (by omega) (by omega);have bx:0<=x/\x<=9223372036854775808:=by omega
   have bd:0<d/\d<=9223372036854775808:=by omega
   have CO:=zg6 x d (by omega) (by omega) (by omega) (by omega);have Q0:=zcn (x:=x) (d:=d) (by omega) (by omega);have R0:=za1 (x:=x) (d:=d) (by omega);have e:zan a b=x / d:=by unfold zan;rw[if_neg (by omega)];subst hx;subst hd;rfl
   rw[e];clear e hx hd hb;obtain⟨Q0,Q1⟩:=Q0;obtain⟨R0,R1⟩:=R0;have Q2:x / d<=9223372036854775808:=by omega
   generalize x / d=Q at *;generalize x % d=r at *;have CH:=zav Q false (by omega) (by omega);clear bx bd Q1;have da:decide (a<0)=false:=decide_eq_false (by omega);have db:decide (b<0)=false:=decide_eq_false (by omega)
   go_enter Tryz.func210,Tryz.ntmps210
   go_wp2_with (first
    |(go_at_call 132;(with_reducible refine(Cx _).mono ?_);rintro e w' ⟨rfl,rfl⟩)
    |(go_at_call 132;(with_reducible refine(Cd _).mono ?_);rintro e w' ⟨rfl,rfl⟩)
    |(go_at_call 232;(with_reducible refine(CO _).mono ?_);rintro e w1 ⟨rfl,b1⟩;have z1:=b1.size)
    |(go_at_call 137;(with_reducible refine(CH _).mono ?_);rintro e w5 ⟨rfl,b5⟩))
   go_ret;refine⟨zm (by simp[zbU]),?_⟩
   repeat (first|exact Below.refl _ _|with_reducible refine ba ?_ _|with_reducible refine bs ?_ (by omega) _|with_reducible refine bd ?_|(with_reducible refine bt ?_ (by assumption)))
def zuK:Go.Shelf.Ren:=⟨fun|264=>128|n=>n,fun|53=>153|46=>199|n=>n,fun|n=>n⟩
theorem zxs:Go.Proofs.Lays.n264 Tryz.prog zuK:={
 mixed:=by kernel_rfl
 f264:=Tryz.func128.trans (congrArg some (by kernel_rfl))
 t46:=Tryz.underlying199
 a46:=Tryz.isAgg199
 z46:=Tryz.sizeOf199
 v46:=Tryz.zeroValue199
 t53:=Tryz.underlying153
 a53:=Tryz.isAgg153
 z53:=Tryz.sizeOf153
 v53:=Tryz.zeroValue153 }
theorem zld (x y:Nat) (hx:x<18446744073709551616) (hy:y<18446744073709551616) (w:World) :
  Calls Tryz.prog 128 #[.int .u64 x,.int .u64 y] w λe w'=>e=.returned (.tuple #[.int .u64 ((x*y / 18446744073709551616:Nat):Int),.int .u64 ((x*y % 18446744073709551616:Nat):Int)])/\w=w' :=
 (Any.bits_Mul64 zxs x y hx hy w).mono λ_ _ ⟨he,hw⟩=>⟨he,hw.symm⟩
structure TimesSt (w wr:World) (X:Int):Prop where
 x0:wr.cell? ⟨w.heap.size+1,0,none⟩=some (.int .u64 (hi X))
 x1:wr.cell? ⟨w.heap.size+1,1,none⟩=some (.int .u64 (lo X))
 o0:∃ v,wr.cell? ⟨w.heap.size,0,none⟩=some v
 o1:∃ v,wr.cell? ⟨w.heap.size,1,none⟩=some v
 f0:wr.frozen? ⟨w.heap.size,0,none⟩=false
 f1:wr.frozen? ⟨w.heap.size,1,none⟩=false
 f10:wr.frozen? ⟨w.heap.size+1,0,none⟩=false
 f11:wr.frozen? ⟨w.heap.size+1,1,none⟩=false
 hz:w.heap.size+1<wr.heap.size
 hb:Below w.heap.size w wr
theorem TimesSt.below {w wr w1:World} {X:Int} (h:TimesSt w wr X) (hb:Below wr.heap.size wr w1):TimesSt w w1 X:=by
 have hz:=h.hz;have hs:=hb.size;obtain⟨v0,o0⟩:=h.o0;obtain⟨v1,o1⟩:=h.o1;exact⟨cb hb (by omega) h.x0,cb hb (by omega) h.x1,⟨v0,cb hb (by omega) o0⟩,⟨v1,cb hb (by omega) o1⟩,fb hb (by omega) h.f0,fb hb (by omega) h.f1,fb hb (by omega) h.f10,fb hb (by omega) h.f11,by omega,h.hb.trans (hb.mono (by omega))⟩
theorem TimesSt.set {w wr:World} {X X':Int} (h:TimesSt w wr X) :
  TimesSt w ((wr.setCell ⟨w.heap.size+1,0,none⟩ (.int .u64 (hi X'))).setCell ⟨w.heap.size+1,1,none⟩ (.int .u64 (lo X'))) X':=by
 obtain⟨v0,o0⟩:=h.o0;obtain⟨v1,o1⟩:=h.o1;exact⟨cs (by omega) (cw h.x0),cw (cs (by omega) h.x1),⟨v0,cs (by omega) (cs (by omega) o0)⟩,⟨v1,cs (by omega) (cs (by omega) o1)⟩,by simp[h.f0],by simp[h.f1],by simp[h.f10],by simp[h.f11],
  by simpa [World.setCell] using h.hz,(h.hb.setCell (by show _<=w.heap.size+1;omega) _).setCell (by show _<=w.heap.size+1;omega) _⟩
theorem zow (w:World):TimesSt w ((w.alloc (.cells #[.int .u64 0,.int .u64 0] 202)).alloc (.cells #[.int .u64 0,.int .u64 0] 202)) 0:=by
 have e0:hi 0=0:=rfl;have e1:lo 0=0:=rfl;refine⟨?_,?_,⟨.int .u64 0,?_⟩,⟨.int .u64 0,?_⟩,?_,?_,?_,?_,?_,zfN _ _ _⟩
 all_goals simp[go_sem,e0,e1]
theorem zhb (x:Int) (h0:0<=x) (h1:x<170141183460469231731687303715884105728) (w:World) :
  Calls Tryz.prog 131 #[.agg #[.int .u64 (hi x),.int .u64 (lo x)],.int .u64 0] w λe w'=>e=.returned (.agg #[.int .u64 (hi (2*x)),.int .u64 (lo (2*x))])/\Below w.heap.size w w':=by
 have h:=zei x 0 h0 h1 (by omega) (by omega) w;rw[Int.add_zero]at h;exact h
theorem zvs (x a:Int) (h0:0<=x) (a0:0<=a) (a1:a<18446744073709551616) (h1:x+a<340282366920938463463374607431768211456) (w:World) :
  Calls Tryz.prog 136 #[.agg #[.int .u64 (hi x),.int .u64 (lo x)],.agg #[.int .u64 0,.int .u64 a]] w λe w'=>e=.returned (.agg #[.int .u64 (hi (x+a)),.int .u64 (lo (x+a))])/\Below w.heap.size w w':=by
 have h:=znE x a h0 a0 h1 w;rw[zd7 a0 a1,zdv a0 a1]at h;exact h
theorem zp1 (a b:Int) (k:Nat):a*(b / 2 ^ k)=2*(a*(b / 2 ^ (k+1)))+a*zaS b k:=by
 rw[zd3 b k,Int.mul_add,Int.mul_left_comm]
theorem zt3 {a b:Int} (k:Nat) (a0:0<=a) (a1:a<18446744073709551616) (b0:0<=b) (b1:b<18446744073709551616):0<=a*(b / 2 ^ (k+1))/\a*(b / 2 ^ (k+1))<=170141183460469231704017187605319778305:=by
 have q0:0<=b / 2 ^ (k+1):=Int.ediv_nonneg b0 (Int.le_of_lt (zK _));have q1:b / 2 ^ (k+1)<=9223372036854775807:=by
  have e:b / 2 ^ (k+1)=b / 2 / 2 ^ k:=by
   have e2:(2:Int) ^ (k+1)=2*2 ^ k:=by rw[Int.pow_succ,Int.mul_comm]
   rw[e2,Int.ediv_ediv_of_nonneg (by decide)]
  have:=Int.ediv_le_self (a:=b / 2) (2 ^ k) (by omega);omega
 refine⟨Int.mul_nonneg a0 q0,?_⟩;have:=Int.mul_le_mul (show a<=18446744073709551615 by omega) q1 q0 (by omega);omega
set_option maxHeartbeats 1000000 in
theorem ztD (a b:Int) (a0:0<=a) (a1:a<18446744073709551616) (b0:0<=b) (b1:b<18446744073709551616) (w:World) :
  Calls Tryz.prog 214 #[.int .u64 a,.int .u64 b] w λe w'=>e=.returned (.agg #[.int .u64 (hi (a*b)),.int .u64 (lo (a*b))])/\Below w.heap.size w w':=by
 go_enter Tryz.func214,Tryz.ntmps214
 go_wp2
 go_loopw [6] (λi wr=>∃ j:Nat,j<=64/\i=.int .i64 ((j:Int)-1)/\TimesSt w wr (a*(b / 2 ^ j))) (λi _=>(intOf i+1).toNat)
 case atStart =>
  refine⟨64,by omega,rfl,?_⟩;rw[show b / 2 ^ 64=0 from Int.ediv_eq_zero_of_lt b0 (by simpa using b1),Int.mul_zero];exact zow w
 case round =>
  obtain⟨j,hj,rfl,hst⟩:=hrel
  by_cases hj0:j=0
  ·subst hj0;have ST:=za hst;obtain⟨x0,x1,⟨v0,o0⟩,⟨v1,o1⟩,f0,f1,f10,f11,hz,hb⟩:=hst;clear hb;go_wp2;refine bodyPost_ret (v:=.agg #[.int .u64 (hi (a*b)),.int .u64 (lo (a*b))]) (by simp[results,Tryz.results214,go_sem,o0,o1]) rfl ⟨rfl,?_⟩;exact(ST.out.hb.setCell (by show _<=w.heap.size;omega) _).setCell (by show _<=w.heap.size;omega) _
  ·obtain⟨k,rfl⟩:∃ k,j=k+1:=⟨j-1,by omega⟩;have es:=zp1 a b k;have lt:=zt3 k a0 a1 b0 b1;have bb0:=zfs b k;have bb1:=zfp b k;have ek:((k+1:Nat):Int)-1=(k:Int):=by omega
   rw[ek];clear ek;generalize a*(b / 2 ^ (k+1))=X at *;have ES:=za es;clear es;have ST:=za hst;obtain⟨x0,x1,⟨v0,o0⟩,⟨v1,o1⟩,f0,f1,f10,f11,hz,hb⟩:=hst;clear hb o0 o1 f0 f1;have CT:=zhb X lt.1 (by omega);have CP:=zvs (2*X) a (by omega) a0 a1 (by omega);obtain⟨lt0,lt1⟩:=lt;have eb:bits .and .u64 (b / 2 ^ k) 1=zaS b k:=zkZ _ (Int.ediv_nonneg b0 (Int.le_of_lt (zK _))) (zfn _ b0 b1)
   by_cases hbit:zaS b k=1
   ·have ht:(bits .and .u64 (b / 2 ^ k) 1 == 1)=true:=by rw[eb,hbit];rfl
    have EB:=za hbit;clear eb hbit
    go_wp2_with (first
     |(go_at_call 131;(with_reducible refine(CT _).mono ?_);rintro e w3 ⟨rfl,hb3⟩;have q3:=cb hb3 (by omega) x0;have q4:=cb hb3 (by omega) x1;have t3:=fb hb3 (by omega) f10;have t4:=fb hb3 (by omega) f11;have T3:=za (TimesSt.set (X':=2*X) (ST.out.below hb3)))
     |(go_at_call 136;(with_reducible refine(CP _).mono ?_);rintro e w4 ⟨rfl,hb4⟩;have T4:=za (T3.out.below hb4);have y0:=T4.out.x0;have y1:=T4.out.x1;have y2:=T4.out.f10;have y3:=T4.out.f11))
    go_roundw
    case rel=>exact⟨k,by omega,rfl,by rw[ES.out,EB.out,Int.mul_one];exact T4.out.set⟩
    case measure=>simp[intOf]
   ·have hb0:zaS b k=0:=by omega
    have ht:(bits .and .u64 (b / 2 ^ k) 1 == 1)=false:=by rw[eb,hb0];rfl
    have EB:=za hb0;clear eb hbit hb0
    go_wp2_with (first
     |(go_at_call 131;(with_reducible refine(CT _).mono ?_);rintro e w3 ⟨rfl,hb3⟩;have q3:=cb hb3 (by omega) x0;have q4:=cb hb3 (by omega) x1;have t3:=fb hb3 (by omega) f10;have t4:=fb hb3 (by omega) f11))
    go_roundw
    case rel=>exact⟨k,by omega,rfl,by rw[ES.out,EB.out,Int.mul_zero,Int.add_zero];exact(ST.out.below hb3).set⟩
    case measure=>simp[intOf]
end Go.Proofs.YtlodkoimdoeopaaGreatDoor
