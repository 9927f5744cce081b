/- Parts, joined. -/
import Derived.Test.YtlodkoimdoeopaaGreatDoorProg
import Derived.WalkKit
import Derived.WalkSpells
import Derived.WalkLawsBesides
import Derived.Deep.RegionHeld3
import Derived.Deep.DeepCutAuto
namespace Go.Proofs.YtlodkoimdoeopaaGreatDoor
def hi (x:Int):Int:=x / 18446744073709551616
def lo (x:Int):Int:=x % 18446744073709551616
theorem hl (x:Int):hi x*18446744073709551616+lo x=x:=by unfold hi lo;omega
theorem lo0 (x:Int):0<=lo x:=by unfold lo;omega
theorem lo1 (x:Int):lo x<18446744073709551616:=by unfold lo;omega
theorem hi0 {x:Int} (h:0<=x):0<=hi x:=by unfold hi;omega
theorem hi1 {x:Int} (h:x<340282366920938463463374607431768211456):hi x<18446744073709551616:=by unfold hi;omega
theorem zd2 {x:Int} (h0:0<=x) (h1:x<18446744073709551616):hi x=0:=by unfold hi;omega
theorem zdG {x:Int} (h0:0<=x) (h1:x<18446744073709551616):lo x=x:=by unfold lo;omega
theorem zpG {x h l:Int} (e:h*18446744073709551616+l=x) (l0:0<=l) (l1:l<18446744073709551616):h=hi x:=by unfold hi;omega
theorem zqO {x h l:Int} (e:h*18446744073709551616+l=x) (l0:0<=l) (l1:l<18446744073709551616):l=lo x:=by unfold lo;omega
theorem zdS {a b q r:Int} (e:a=b*q+r) (h0:0<=r) (h1:r<b):a / b=q :=
 ((Int.ediv_emod_unique (Int.lt_of_le_of_lt h0 h1)).2 ⟨by rw[e,Int.add_comm],h0,h1⟩).1
theorem zc8 {a b q r:Int} (e:a=b*q+r) (h0:0<=r) (h1:r<b):a % b=r :=
 ((Int.ediv_emod_unique (Int.lt_of_le_of_lt h0 h1)).2 ⟨by rw[e,Int.add_comm],h0,h1⟩).2
def zi (x:Int):Int:=if x<0 then -x else x
theorem zaS {x:Int} (h:x<0):zi x = -x:=if_pos h
theorem zaJ {x:Int} (h:0<=x):zi x=x:=if_neg (by omega)
theorem za6 (x:Int):0<=zi x:=by unfold zi;split<;>omega
theorem zcu {x:Int} (h0 : -9223372036854775808<=x) (h1:x<9223372036854775808):zi x<=9223372036854775808:=by unfold zi;split<;>omega
def zaR (x:Int) (i:Nat):Int:=x / 2 ^ i % 2
theorem zfi (x:Int) (i:Nat):0<=zaR x i:=by unfold zaR;omega
theorem zfs (x:Int) (i:Nat):zaR x i<=1:=by unfold zaR;omega
theorem zK (i:Nat):(0:Int)<2 ^ i:=Int.pow_pos (by decide)
theorem zxb (x:Int) (i:Nat) (h:64<=i):hi x / 2 ^ (i-64) % 2=zaR x i:=by
 unfold hi zaR;have e:(2:Int) ^ i=18446744073709551616*2 ^ (i-64):=by
  have h2:(2:Int) ^ i=2 ^ (64+(i-64)):=by congr 1;omega
  rw[h2,Int.pow_add];rfl
 rw[e,Int.ediv_ediv_of_nonneg (by decide)]
theorem zwj (x:Int) (i:Nat) (h:i<64):lo x / 2 ^ i % 2=zaR x i:=by
 have e:(18446744073709551616:Int)=2 ^ i*(2*2 ^ (63-i)):=by
  have h2:(18446744073709551616:Int)=2 ^ (i+(1+(63-i))):=by
   have:i+(1+(63-i))=64:=by omega
   rw[this];rfl
  rw[h2,Int.pow_add,Int.pow_add];rfl
 have hx:=hl x;have e2:x=lo x+hi x*(2*2 ^ (63-i))*2 ^ i:=by
  have e3:hi x*(2*2 ^ (63-i))*2 ^ i=hi x*18446744073709551616:=by
   rw[e,Int.mul_assoc];congr 1;rw[Int.mul_comm]
  omega
 unfold zaR
 conv=>rhs;rw[e2]
 rw[Int.add_mul_ediv_right _ _ (Int.ne_of_gt (zK i))];have e4:hi x*(2*2 ^ (63-i))=2*(hi x*2 ^ (63-i)):=by rw[Int.mul_left_comm]
 rw[e4];omega
theorem zd1 (x:Int) (j:Nat):x / 2 ^ j=2*(x / 2 ^ (j+1))+zaR x j:=by
 unfold zaR;have e:x / 2 ^ (j+1)=x / 2 ^ j / 2:=by rw[Int.pow_succ,Int.ediv_ediv_of_nonneg (Int.le_of_lt (zK j))]
 rw[e];omega
theorem zwY {p d b:Int} (hd:0<d) (hb:0<=b) (h:2*(p % d)+b<d):(2*p+b) / d=2*(p / d)/\(2*p+b) % d=2*(p % d)+b:=by
 have e:=Int.mul_ediv_add_emod p d;have r0:=Int.emod_nonneg p (Int.ne_of_gt hd);have e2:2*p+b=d*(2*(p / d))+(2*(p % d)+b):=by
  rw[Int.mul_left_comm];omega
 exact⟨zdS e2 (by omega) h,zc8 e2 (by omega) h⟩
theorem zwC {p d b:Int} (hd:0<d) (hb:b<=1) (h:d<=2*(p % d)+b):(2*p+b) / d=2*(p / d)+1/\(2*p+b) % d=2*(p % d)+b-d:=by
 have e:=Int.mul_ediv_add_emod p d;have r1:=Int.emod_lt_of_pos p hd;have e2:2*p+b=d*(2*(p / d)+1)+(2*(p % d)+b-d):=by
  rw[Int.mul_add,Int.mul_left_comm];omega
 exact⟨zdS e2 (by omega) (by omega),zc8 e2 (by omega) (by omega)⟩
def zE (x:Int):Int:=if x < -9223372036854775808 then -9223372036854775808 else if 9223372036854775807<x then 9223372036854775807 else x
theorem zH {x:Int} (h0 : -9223372036854775808<=x) (h1:x<=9223372036854775807):zE x=x:=by unfold zE;rw[if_neg (by omega),if_neg (by omega)]
theorem zcY {x:Int} (h:x<=-9223372036854775808):zE x = -9223372036854775808:=by unfold zE;split<;>(try split)<;>omega
theorem zbU {x:Int} (h:9223372036854775807<=x):zE x=9223372036854775807:=by unfold zE;split<;>(try split)<;>omega
theorem zfF (x:Int) : -9223372036854775808<=zE x:=by unfold zE;split<;>(try split)<;>omega
theorem ze3 (x:Int):zE x<=9223372036854775807:=by unfold zE;split<;>(try split)<;>omega
def zak (a b:Int):Int:=if b<0 then(-a) / (-b) else a / b
def zaH (a b:Int):Int:=if b<0 then -((-a) % (-b)) else a % b
def zaC (a b:Int):Int:=if b<0 then(2*(-a)+(-b)) / (2*(-b)) else(2*a+b) / (2*b)
theorem zeS {a b:Int} (hb:0<b):(2*a+b) / (2*b)=a / b+(if b<=2*(a % b) then 1 else 0):=by
 have e:=Int.mul_ediv_add_emod a b;have r0:=Int.emod_nonneg a (Int.ne_of_gt hb);have r1:=Int.emod_lt_of_pos a hb
 split
 ·exact zdS (r:=2*(a % b)-b) (by rw[Int.mul_add,Int.mul_assoc];omega) (by omega) (by omega)
 ·exact zdS (r:=2*(a % b)+b) (by rw[Int.mul_add,Int.mul_assoc];omega) (by omega) (by omega)
theorem ziz (b Q k:Int):2*b * -(Q+k) = -(2*(b*Q))-2*(b*k):=by
 rw[Int.mul_neg,Int.mul_assoc,Int.mul_add];omega
theorem zeD {a b:Int} (hb:0<b):(2*(-a)+b) / (2*b) = -(a / b+(if b<2*(a % b) then 1 else 0)):=by
 have e:=Int.mul_ediv_add_emod a b;have r0:=Int.emod_nonneg a (Int.ne_of_gt hb);have r1:=Int.emod_lt_of_pos a hb
 split
 ·exact zdS (r:=b-2*(a % b)+2*b) (by rw[ziz];omega) (by omega) (by omega)
 ·exact zdS (r:=b-2*(a % b)) (by rw[ziz];omega) (by omega) (by omega)
theorem zdb {a b:Int} (hb:0<b):(-a) / b = -(a / b+(if 0<a % b then 1 else 0)):=by
 have e:=Int.mul_ediv_add_emod a b;have r0:=Int.emod_nonneg a (Int.ne_of_gt hb);have r1:=Int.emod_lt_of_pos a hb
 split
 ·exact zdS (r:=b-a % b) (by rw[Int.mul_neg,Int.mul_add];omega) (by omega) (by omega)
 ·exact zdS (r:=0) (by rw[Int.mul_neg,Int.mul_add];omega) (by omega) (by omega)
def zdd (x:Int×List Int):List (Int×List Int)->List (Int×List Int)
 |[]=>[x]
 |y :: r=>if x.1<y.1 then x :: y :: r else y :: zdd x r
def zfC (L:List (Int×List Int)):Prop:=L.Pairwise (λa b=>a.1<b.1)
def zbu (L:List (Int×List Int)) (j:Int):Bool:=L.any (λy=>decide (y.1=j))
def zdR (L:List (Int×List Int)) (j:Int):List Int:=match L.find? (λy=>decide (y.1=j))with|some y=>y.2|none=>[]
def zjG (L:List (Int×List Int)):Int:=match L with | []=>0|y :: _=>y.1
def zi8 (room width:Nat) (L:List (Int×List Int)) (j:Int) (n:Nat):Bool:=decide (n=width) && !zbu L j && !(decide (L.length=room) && decide (j<zjG L))
def zfS (room:Nat) (L:List (Int×List Int)) (x:Int×List Int):List (Int×List Int):=zdd x (if L.length=room then L.tail else L)
def zgP (n:Int):Int:=if n<1 then 1 else if 65536<n then 65536 else n
def zfU (n:Int):Int:=if n<0 then 0 else if 262144<n then 262144 else n
theorem ziE (x:Int×List Int) (L:List (Int×List Int)):(zdd x L).length=L.length+1:=by
 induction L with
 |nil=>rfl
 |cons y r ih =>
  unfold zdd
  split
  ·rfl
  ·simp[ih]
theorem zcd (x:Int×List Int) (L:List (Int×List Int)) (z:Int×List Int):z ∈ zdd x L↔z=x\/z ∈ L:=by
 induction L with
 |nil=>simp[zdd]
 |cons y r ih =>
  unfold zdd
  split
  ·simp
  ·rw[List.mem_cons,ih,List.mem_cons]
   constructor
   ·rintro (h|h|h)
    ·exact .inr (.inl h)
    ·exact .inl h
    ·exact .inr (.inr h)
   ·rintro (h|h|h)
    ·exact .inr (.inl h)
    ·exact .inl h
    ·exact .inr (.inr h)
theorem zbT (L:List (Int×List Int)) (j:Int):zbu L j=true↔∃ y ∈ L,y.1=j:=by
 unfold zbu;rw[List.any_eq_true];simp only[decide_eq_true_eq]
theorem zoQ {x:Int×List Int} {L:List (Int×List Int)} (h:zfC L) (hx:zbu L x.1=false):zfC (zdd x L):=by
 induction L with
 |nil=>exact List.pairwise_singleton _ _
 |cons y r ih =>
  obtain⟨h1,h2⟩:=List.pairwise_cons.1 h;have hy:y.1≠x.1:=λe=>by
   have:zbu (y :: r) x.1=true:=(zbT _ _).2 ⟨y,List.mem_cons_self ..,e⟩;rw[hx]at this
   cases this
  have hr:zbu r x.1=false:=by
   cases hb:zbu r x.1
   ·rfl
   ·obtain⟨z,hz,e⟩:=(zbT _ _).1 hb;have:zbu (y :: r) x.1=true:=(zbT _ _).2 ⟨z,List.mem_cons_of_mem _ hz,e⟩;rw[hx]at this
    cases this
  unfold zdd
  split
  ·rename_i hlt
   refine List.pairwise_cons.2 ⟨λz hz=>?_,h⟩;rcases List.mem_cons.1 hz with rfl|hz
   ·exact hlt
   ·have:=h1 z hz;omega
  ·rename_i hlt
   refine List.pairwise_cons.2 ⟨λz hz=>?_,ih h2 hr⟩;rcases(zcd x r z).1 hz with rfl|hz
   ·omega
   ·exact h1 z hz
theorem zmI {x:Int×List Int} {L:List (Int×List Int)} (h:∀ y ∈ L,y.1<x.1):zdd x L=L++[x]:=by
 induction L with
 |nil=>rfl
 |cons y r ih =>
  unfold zdd;rw[if_neg (by have:=h y (List.mem_cons_self ..);omega),ih (λz hz=>h z (List.mem_cons_of_mem _ hz))];rfl
def zch {α:Type} (n:Nat) (G:List α):List α:=G.drop (G.length-n)
theorem znG {α:Type} (n:Nat) (G:List α):(zch n G).length=min n G.length:=by
 unfold zch;rw[List.length_drop];omega
theorem zrd {α:Type} {n:Nat} {G:List α} (x:α) (h:1<=n):zch n (G++[x])=(if n<=G.length then(zch n G).tail else zch n G)++[x]:=by
 unfold zch;rw[List.length_append,List.length_singleton]
 by_cases e:n<=G.length
 ·rw[if_pos e,List.tail_drop,show G.length+1-n=G.length-n+1 by omega,List.drop_append_of_le_length (by omega)]
 ·rw[if_neg e,show G.length+1-n=0 by omega,show G.length-n=0 by omega,List.drop_zero,List.drop_zero]
theorem ze1 {α:Type} {n:Nat} {G:List α} {x:α} (h:x ∈ zch n G):x ∈ G:=List.mem_of_mem_drop h
def zgQ (G:List Int):Prop:=G.Pairwise (· < ·)
theorem zsU {G:List Int} {j:Int} (h:zgQ G) (hj:∀ x ∈ G,x<j):zgQ (G++[j]):=by
 refine List.pairwise_append.2 ⟨h,List.pairwise_singleton _ _,λa ha b hb=>?_⟩;rw[List.mem_singleton]at hb;subst hb;exact hj a ha
theorem zv4 {G:List Int} (h:zgQ G) {p q:Nat} (hq:q<G.length) (hpq:p<=q):(G[p]'(by omega))+((q-p:Nat):Int)<=G[q]:=by
 induction q with
 |zero =>
  obtain rfl:p=0:=by omega
  simp
 |succ q ih =>
  by_cases e:p=q+1
  ·subst e
   simp
  ·have a:=ih (by omega) (by omega);have b:=List.pairwise_iff_getElem.1 h q (q+1) (by omega) hq (by omega);have c:((q+1-p:Nat):Int)=((q-p:Nat):Int)+1:=by omega
   omega
theorem zuF {G:List Int} {E:Int} {n:Nat} (h:zgQ G) (hE:∀ x ∈ G,x<E) {j:Int} (hj:j ∈ G) (hn:E-j<=(n:Int)):j ∈ zch n G:=by
 obtain⟨p,hp,rfl⟩:=List.mem_iff_getElem.1 hj;have hl:G.length-1<G.length:=by omega
 have a:=zv4 h (p:=p) hl (by omega);have b:=hE _ (List.getElem_mem hl);unfold zch;refine List.mem_iff_getElem.2 ⟨p-(G.length-n),by rw[List.length_drop];omega,?_⟩;rw[List.getElem_drop]
 congr 1
 omega
abbrev Wnd:=Int×Nat
def zau (l:Wnd):Int:=l.1+(l.2:Int)
def zfE (n:Nat):List Wnd->Prop
 |[]=>True
 |l :: r=>1<=l.2/\l.2<=n/\(∀ m ∈ r,l.1<=m.1/\zau l<=zau m)/\zfE n r
def zeL (E:Int) (l:Wnd):Int:=max E (zau l)
def zbo (E:Int) (l:Wnd):List Int:=(List.range (zau l-max E l.1).toNat).map (λi:Nat=>max E l.1+(i:Int))
abbrev Mv:=Int×Int
def zaB:Int->Int->List Wnd->List Mv
 |_,_,[]=>[]
 |E,y,l :: r=>(zbo E l).map (λj=>((1:Int),j))++((2:Int),y) :: zaB (zeL E l) (y+1) r
theorem zgJ (E:Int) (l:Wnd):(zbo E l).length=(zau l-max E l.1).toNat:=by unfold zbo;rw[List.length_map,List.length_range]
structure HeldI (G:List Int) (E:Int) (l:Wnd):Prop where
 rise:zgQ G
 below:∀ x ∈ G,x<E
 here:∀ j,l.1<=j->j<E->j ∈ G
theorem zqL (l:Wnd):HeldI [] l.1 l:=⟨List.Pairwise.nil,λx hx=>(by cases hx),λj h1 h2=>by omega⟩
def zfD:Int->List Wnd->List Int
 |_,[]=>[]
 |E,l :: r=>zbo E l++zfD (zeL E l) r
theorem zhC (E y:Int) (ls:List Wnd):(zaB E y ls).length=(zfD E ls).length+ls.length:=by
 induction ls generalizing E y with
 |nil=>rfl
 |cons l r ih =>
  unfold zaB zfD;rw[List.length_append,List.length_map,List.length_cons,ih,List.length_append,List.length_cons];omega
theorem zp0 (E:Int) (l:Wnd):(zbo E l).length<=l.2:=by
 rw[zgJ];unfold zau;omega
theorem zrh {n:Nat} (E:Int) (ls:List Wnd) (h:∀ l ∈ ls,l.2<=n):(zfD E ls).length<=n*ls.length:=by
 induction ls generalizing E with
 |nil=>simp[zfD]
 |cons l r ih =>
  unfold zfD;rw[List.length_append,List.length_cons,Nat.mul_succ];have a:=zp0 E l;have b:=h l (List.mem_cons_self ..);have c:=ih (zeL E l) (λm hm=>h m (List.mem_cons_of_mem _ hm));omega
theorem ztY {n:Nat} {G:List Int} {f:Int->List Int} {j:Int} (h1:1<=n) (hj:∀ x ∈ G,x<j):zfS n ((zch n G).map (λi=>(i,f i))) (j,f j)=(zch n (G++[j])).map (λi=>(i,f i)):=by
 rw[zrd j h1,List.map_append];unfold zfS;rw[List.length_map,znG];have below:∀ L:List Int,(∀ y ∈ L,y ∈ G)->∀ y ∈ L.map (λi=>(i,f i)),y.1<(j,f j).1:=λL hL y hy=>by
  obtain⟨i,hi,rfl⟩:=List.mem_map.1 hy;exact hj i (hL i hi)
 by_cases e:n<=G.length
 ·rw[if_pos (by omega),if_pos e,←List.map_tail,zmI (below _ (λy hy=>ze1 (List.mem_of_mem_tail hy)))];rfl
 ·rw[if_neg (by omega),if_neg e,zmI (below _ (λy hy=>ze1 hy))];rfl
theorem zkN {n:Nat} {G:List Int} {f:Int->List Int} {j:Int}:zbu ((zch n G).map (λi=>(i,f i))) j=true↔j ∈ zch n G:=by
 rw[zbT]
 constructor
 ·rintro ⟨y,hy,rfl⟩;obtain⟨i,hi,rfl⟩:=List.mem_map.1 hy;exact hi
 ·intro h;exact⟨(j,f j),List.mem_map.2 ⟨j,h,rfl⟩,rfl⟩
theorem zoN {E j:Int} {l:Wnd} (h1:l.1<=j) (h2:j<zau l) (hj:E<=j):zbo (max E j) l=j :: zbo (max E (j+1)) l:=by
 unfold zbo;rw[show max (max E j) l.1=j by omega,show max (max E (j+1)) l.1=j+1 by omega,show(zau l-j).toNat=(zau l-(j+1)).toNat+1 by omega,List.range_succ_eq_map,List.map_cons,List.map_map]
 congr 1
 ·omega
 ·refine List.map_congr_left (λi _=>?_)
  show j+((i+1:Nat):Int)=j+1+(i:Int)
  omega
def zdi (ls:List Wnd):Nat:=ls.foldl (λm l=>max m l.2) 0
theorem zp2 (ls:List Wnd) (l:Wnd):zdi (ls++[l])=max (zdi ls) l.2:=by unfold zdi;rw[List.foldl_append];rfl
theorem zro (ls:List Wnd) (a:Nat):ls.foldl (λm l=>max m l.2) a=max a (zdi ls):=by
 unfold zdi
 induction ls generalizing a with
 |nil=>simp
 |cons l r ih =>
  rw[List.foldl_cons,List.foldl_cons,ih,ih (max 0 l.2)];omega
theorem zup {ls:List Wnd} {l:Wnd} (h:l ∈ ls):l.2<=zdi ls:=by
 induction ls with
 |nil=>cases h
 |cons m r ih =>
  have e:zdi (m :: r)=max m.2 (zdi r):=by
   show(m :: r).foldl (λa l=>max a l.2) 0=_
   rw[List.foldl_cons,zro];omega
  rw[e];rcases List.mem_cons.1 h with rfl|h
  ·omega
  ·have:=ih h;omega
end Go.Proofs.YtlodkoimdoeopaaGreatDoor
namespace Go.Proofs.YtlodkoimdoeopaaGreatDoor
open Go.RowKit
theorem za {p:Prop} (h:p):Hid p:=h
theorem zg (w:World) (o:Obj):Below w.heap.size w (w.alloc o):=(Below.refl _ _).alloc (Nat.le_refl _) _
theorem zeb {a b:Int} (h:a=b):Ending.returned (.int .u64 a)=.returned (.int .u64 b):=by rw[h]
theorem zl {a b:Int} (h:a=b):Ending.returned (.int .i64 a)=.returned (.int .i64 b):=by rw[h]
theorem zU {a b:Bool} (h:a=b):Ending.returned (.bool a)=.returned (.bool b):=by rw[h]
theorem zjQ {h l x:Int} (e:h*18446744073709551616+l=x) (l0:0<=l) (l1:l<18446744073709551616):h=hi x/\l=lo x:=⟨zpG e l0 l1,zqO e l0 l1⟩
theorem zb1 (x:Int) (h0 : -9223372036854775808<=x) (h1:x<=9223372036854775807) (w:World) :
  Calls Tryz.prog 132 #[.int .i64 x] w λe w'=>e=.returned (.int .u64 (zi x))/\w=w':=by
 go_enter Tryz.func132,Tryz.ntmps132
 go_wp2
 ·rename_i h
  go_ret;exact⟨zeb (by rw[zaS h];omega),rfl⟩
 ·rename_i h
  go_ret;exact⟨zeb (by rw[zaJ h]),rfl⟩
theorem ziK (x:Int) (h0 : -9223372036854775808<=x) (h1:x<=9223372036854775807) (w:World) :
  Calls Tryz.prog 224 #[.int .i64 x] w λe w'=>e=.returned (.int .u64 (zi x))/\w=w':=by
 go_enter Tryz.func224,Tryz.ntmps224
 go_wp2
 ·rename_i h
  go_ret;exact⟨zeb (by rw[zaS h,IntKind.wrap_u64,IntKind.wrap_u64];omega),rfl⟩
 ·rename_i h
  go_ret;exact⟨zeb (by rw[zaJ h]),rfl⟩
theorem zkn (a:Int) (h0:0<=a) (h1:a<18446744073709551616):bits .and .u64 a 1=a % 2:=and_one_u64 a h0 (by omega)
theorem zfe {a n:Int} (k:Nat) (h0:0<=a) (h1:a<n):a / 2 ^ k<n :=
 Int.lt_of_le_of_lt (Int.ediv_le_self _ h0) h1
theorem zfA (x:Int) (i:Nat) (h0:0<=x) (h1:x<340282366920938463463374607431768211456) (i1:i<128) (w:World) :
  Calls Tryz.prog 133 #[.agg #[.int .u64 (hi x),.int .u64 (lo x)],.int .i64 i] w λe w'=>e=.returned (.int .u64 (zaR x i))/\Below w.heap.size w w':=by
 have l0:=lo0 x;have l1:=lo1 x;have g0:=hi0 h0;have g1:=hi1 h1;have E1:=za (zxb x i);have E2:=za (zwj x i);clear h0 h1
 by_cases h:64<=i
 ·go_enter Tryz.func133,Tryz.ntmps133
  go_wp2;go_ret;exact⟨zeb (by rw[zkn _ (Int.ediv_nonneg g0 (Int.le_of_lt (zK _))) (zfe _ g0 g1)];exact E1.out h),zg _ _⟩
 ·go_enter Tryz.func133,Tryz.ntmps133
  go_wp2;go_ret;exact⟨zeb (by rw[zkn _ (Int.ediv_nonneg l0 (Int.le_of_lt (zK _))) (zfe _ l0 l1)];exact E2.out (by omega)),zg _ _⟩
theorem zfY (w:World) (o p:Obj):Below w.heap.size w ((w.alloc o).alloc p):=(zg w o).alloc (by simp) _
theorem zsy (w:World) (o p q:Obj):Below w.heap.size w (((w.alloc o).alloc p).alloc q):=(zfY w o p).alloc (by simp;omega) _
theorem zhK (w:World) (o p q r:Obj):Below w.heap.size w ((((w.alloc o).alloc p).alloc q).alloc r):=(zsy w o p q).alloc (by simp;omega) _
theorem zej (x b:Int) (h0:0<=x) (h1:x<170141183460469231731687303715884105728) (b0:0<=b) (b1:b<=1) (w:World) :
  Calls Tryz.prog 131 #[.agg #[.int .u64 (hi x),.int .u64 (lo x)],.int .u64 b] w λe w'=>e=.returned (.agg #[.int .u64 (hi (2*x+b)),.int .u64 (lo (2*x+b))])/\Below w.heap.size w w':=by
 have l0:=lo0 x;have l1:=lo1 x;have g0:=hi0 h0;have g1:hi x<9223372036854775808:=by unfold hi;omega
 have E:=za (hl x);clear h0 h1
 go_enter Tryz.func131,Tryz.ntmps131
 go_wp2
 simp[bodyPost,results,Tryz.results131,go_sem]
 have e:=E.out;have m:IntKind.u64.wrap (IntKind.u64.wrap (lo x*2)+b)=lo x*2 % 18446744073709551616+b:=by rw[IntKind.wrap_u64,IntKind.wrap_u64];omega
 rw[m];exact⟨⟨zpG (l:=lo x*2 % 18446744073709551616+b) (by omega) (by omega) (by omega),zqO (h:=hi x*2+lo x / 9223372036854775808) (by omega) (by omega) (by omega)⟩,zfY _ _ _⟩
theorem znk (x y:Int) (h0:0<=x) (k0:0<=y) (h1:x+y<340282366920938463463374607431768211456) (w:World) :
  Calls Tryz.prog 136 #[.agg #[.int .u64 (hi x),.int .u64 (lo x)],.agg #[.int .u64 (hi y),.int .u64 (lo y)]] w λe w'=>e=.returned (.agg #[.int .u64 (hi (x+y)),.int .u64 (lo (x+y))])/\Below w.heap.size w w':=by
 have l0:=lo0 x;have l1:=lo1 x;have m0:=lo0 y;have m1:=lo1 y;have g0:=hi0 h0;have g1:=hi0 k0;have g2:hi x+hi y<18446744073709551616:=by unfold hi;omega
 have E:=za (hl x);have F:=za (hl y);have G:=za h1;clear h0 k0 h1
 by_cases h:lo x+lo y<18446744073709551616
 ·go_enter Tryz.func136,Tryz.ntmps136
  go_wp2
  simp[bodyPost,results,Tryz.results136,go_sem]
  have e:=E.out;have f:=F.out;exact⟨zjQ (by omega) (by omega) (by omega),zhK _ _ _ _ _⟩
 ·go_enter Tryz.func136,Tryz.ntmps136
  go_wp2
  all_goals simp[bodyPost,results,Tryz.results136,go_sem]
  all_goals
   rename_i hc
   have e:=E.out;have f:=F.out;have g:=G.out;simp only[IntKind.wrap_u64]at hc;have g4:hi x+hi y+1<18446744073709551616:=by omega
   have w1:IntKind.u64.wrap (lo x+lo y)=lo x+lo y-18446744073709551616:=by rw[IntKind.wrap_u64];omega
   have w2:IntKind.u64.wrap (hi x+hi y+1)=hi x+hi y+1:=by rw[IntKind.wrap_u64];omega
   first
    |omega
    |(rw[w1,w2];exact⟨zjQ (by omega) (by omega) (by omega),zhK _ _ _ _ _⟩)
theorem zli (x y:Int) (h0:0<=y) (k0:y<=x) (h1:x<340282366920938463463374607431768211456) (w:World) :
  Calls Tryz.prog 134 #[.agg #[.int .u64 (hi x),.int .u64 (lo x)],.agg #[.int .u64 (hi y),.int .u64 (lo y)]] w λe w'=>e=.returned (.agg #[.int .u64 (hi (x-y)),.int .u64 (lo (x-y))])/\Below w.heap.size w w':=by
 have l0:=lo0 x;have l1:=lo1 x;have m0:=lo0 y;have m1:=lo1 y;have g0:0<=hi x:=hi0 (by omega);have g1:=hi0 h0;have g2:hi x<18446744073709551616:=hi1 h1;have g3:hi y<=hi x:=by unfold hi;omega
 have E:=za (hl x);have F:=za (hl y);have G:=za k0;clear h0 k0 h1
 by_cases h:lo y<=lo x
 ·go_enter Tryz.func134,Tryz.ntmps134
  go_wp2
  simp[bodyPost,results,Tryz.results134,go_sem]
  have e:=E.out;have f:=F.out;exact⟨zjQ (by omega) (by omega) (by omega),zhK _ _ _ _ _⟩
 ·go_enter Tryz.func134,Tryz.ntmps134
  go_wp2
  simp[bodyPost,results,Tryz.results134,go_sem]
  have e:=E.out;have f:=F.out;have g:=G.out;have w1:IntKind.u64.wrap (lo x-lo y)=lo x-lo y+18446744073709551616:=by rw[IntKind.wrap_u64];omega
  have w2:IntKind.u64.wrap (hi x-hi y-1)=hi x-hi y-1:=by rw[IntKind.wrap_u64];omega
  rw[w1,w2];exact⟨zjQ (by omega) (by omega) (by omega),zhK _ _ _ _ _⟩
theorem zbS (x y:Int) (h0:0<=x) (k0:0<=y) (h1:x<340282366920938463463374607431768211456) (k1:y<340282366920938463463374607431768211456) (w:World) :
  Calls Tryz.prog 135 #[.agg #[.int .u64 (hi x),.int .u64 (lo x)],.agg #[.int .u64 (hi y),.int .u64 (lo y)]] w λe w'=>e=.returned (.bool (decide (x<y)))/\Below w.heap.size w w':=by
 have l0:=lo0 x;have l1:=lo1 x;have m0:=lo0 y;have m1:=lo1 y;have g0:=hi0 h0;have g1:=hi0 k0;have g2:=hi1 h1;have g3:=hi1 k1;have E:=za (hl x);have F:=za (hl y);clear h0 k0 h1 k1
 go_enter Tryz.func135,Tryz.ntmps135
 go_wp2
 ·rename_i hc
  go_ret;have e:=E.out;have f:=F.out;have hc':hi x≠hi y:=by simpa using hc
  exact⟨zU (decide_eq_decide.2 (by omega)),zfY _ _ _⟩
 ·rename_i hc
  go_ret;have e:=E.out;have f:=F.out;have hc':hi x=hi y:=by simpa using hc
  exact⟨zU (decide_eq_decide.2 (by omega)),zfY _ _ _⟩
def zb0 (x:Int) (below:Bool):Int:=if below=true then -x else x
theorem ztP (x:Int) (h0:0<=x) (h1:x<340282366920938463463374607431768211456) (w:World) :
  Calls Tryz.prog 137 #[.agg #[.int .u64 (hi x),.int .u64 (lo x)],.bool true] w λe w'=>e=.returned (.int .i64 (zE (-x)))/\Below w.heap.size w w':=by
 have l0:=lo0 x;have l1:=lo1 x;have g0:=hi0 h0;have g1:=hi1 h1;have E:=za (hl x);clear h0 h1
 by_cases c1:0<hi x
 ·go_enter Tryz.func137,Tryz.ntmps137
  go_wp2;go_ret;have e:=E.out;exact⟨zl (by rw[zcY (by omega)]),zg _ _⟩
 ·by_cases c2:9223372036854775807<lo x
  ·go_enter Tryz.func137,Tryz.ntmps137
   go_wp2;go_ret;have e:=E.out;exact⟨zl (by rw[zcY (by omega)]),zg _ _⟩
  ·go_enter Tryz.func137,Tryz.ntmps137
   go_wp2;go_ret;have e:=E.out;exact⟨zl (by rw[zH (by omega) (by omega)];omega),zg _ _⟩
theorem zqG (x:Int) (h0:0<=x) (h1:x<340282366920938463463374607431768211456) (w:World) :
  Calls Tryz.prog 137 #[.agg #[.int .u64 (hi x),.int .u64 (lo x)],.bool false] w λe w'=>e=.returned (.int .i64 (zE x))/\Below w.heap.size w w':=by
 have l0:=lo0 x;have l1:=lo1 x;have g0:=hi0 h0;have g1:=hi1 h1;have E:=za (hl x);clear h0 h1
 by_cases c1:0<hi x
 ·go_enter Tryz.func137,Tryz.ntmps137
  go_wp2;go_ret;have e:=E.out;exact⟨zl (by rw[zbU (by omega)]),zg _ _⟩
 ·by_cases c2:9223372036854775807<lo x
  ·go_enter Tryz.func137,Tryz.ntmps137
   go_wp2;go_ret;have e:=E.out;exact⟨zl (by rw[zbU (by omega)]),zg _ _⟩
  ·go_enter Tryz.func137,Tryz.ntmps137
   go_wp2;go_ret;have e:=E.out;exact⟨zl (by rw[zH (by omega) (by omega)];omega),zg _ _⟩
theorem zat (x:Int) (b:Bool) (h0:0<=x) (h1:x<340282366920938463463374607431768211456) (w:World) :
  Calls Tryz.prog 137 #[.agg #[.int .u64 (hi x),.int .u64 (lo x)],.bool b] w λe w'=>e=.returned (.int .i64 (zE (zb0 x b)))/\Below w.heap.size w w':=by
 cases b
 ·exact zqG x h0 h1 w
 ·exact ztP x h0 h1 w
def At (w:World) (b:Nat) (x:Int):Prop :=
 w.cell? ⟨b,0,none⟩=some (.int .u64 (hi x))/\w.cell? ⟨b,1,none⟩=some (.int .u64 (lo x))
theorem cb {W w1:World} {b o:Nat} {v:Value} (hb:Below W.heap.size W w1) (h:b<W.heap.size) (hc:W.cell? ⟨b,o,none⟩=some v):w1.cell? ⟨b,o,none⟩=some v:=(hb.cell (p:=⟨b,o,none⟩) h).trans hc
theorem fb {W w1:World} {b o:Nat} (hb:Below W.heap.size W w1) (h:b<W.heap.size) (hc:W.frozen? ⟨b,o,none⟩=false):w1.frozen? ⟨b,o,none⟩=false:=(hb.frozen (p:=⟨b,o,none⟩) h).trans hc
theorem zfP {x:Int} (k:Nat) (h0:0<=x) (h1:x<340282366920938463463374607431768211456):x / 2 ^ (k+1)<170141183460469231731687303715884105728:=by
 have e:x / 2 ^ (k+1)=x / 2 / 2 ^ k:=by
  have e2:(2:Int) ^ (k+1)=2*2 ^ k:=by rw[Int.pow_succ,Int.mul_comm]
  rw[e2,Int.ediv_ediv_of_nonneg (by decide)]
 rw[e];exact zfe k (by omega) (by omega)
theorem zeV {x:Int} (h0:0<=x) (h1:x<340282366920938463463374607431768211456):x / 2 ^ 128=0 :=
 Int.ediv_eq_zero_of_lt h0 (by simpa using h1)
theorem zvw (x y h l:Int) (eh:h=hi y) (el:l=lo y) (hlt:x<y) (h0:0<=x) (h1:y<340282366920938463463374607431768211456) (w:World) :
  Calls Tryz.prog 135 #[.agg #[.int .u64 (hi x),.int .u64 (lo x)],.agg #[.int .u64 h,.int .u64 l]] w λe w'=>e=.returned (.bool true)/\Below w.heap.size w w':=by
 subst eh;subst el;refine(zbS x y h0 (by omega) (by omega) h1 w).mono λe w' ⟨he,hb⟩=>⟨?_,hb⟩
 rw[he,decide_eq_true hlt]
theorem zxc (x y h l:Int) (eh:h=hi y) (el:l=lo y) (hlt:y<=x) (h0:0<=y) (h1:x<340282366920938463463374607431768211456) (w:World) :
  Calls Tryz.prog 135 #[.agg #[.int .u64 (hi x),.int .u64 (lo x)],.agg #[.int .u64 h,.int .u64 l]] w λe w'=>e=.returned (.bool false)/\Below w.heap.size w w':=by
 subst eh;subst el;refine(zbS x y (by omega) h0 h1 (by omega) w).mono λe w' ⟨he,hb⟩=>⟨?_,hb⟩
 rw[he,decide_eq_false (by omega)]
theorem zss (x d:Int) (h0:0<=d) (k0:d<=x) (d1:d<18446744073709551616) (h1:x<340282366920938463463374607431768211456) (w:World) :
  Calls Tryz.prog 134 #[.agg #[.int .u64 (hi x),.int .u64 (lo x)],.agg #[.int .u64 0,.int .u64 d]] w λe w'=>e=.returned (.agg #[.int .u64 (hi (x-d)),.int .u64 (lo (x-d))])/\Below w.heap.size w w':=by
 have h:=zli x d h0 k0 h1 w;rw[zd2 h0 d1,zdG h0 d1]at h;exact h
structure OverSt (w wr:World) (x Q R:Int):Prop where
 x0:wr.cell? ⟨w.heap.size,0,none⟩=some (.int .u64 (hi x))
 x1:wr.cell? ⟨w.heap.size,1,none⟩=some (.int .u64 (lo x))
 q0:wr.cell? ⟨w.heap.size+1+1,0,none⟩=some (.int .u64 (hi Q))
 q1:wr.cell? ⟨w.heap.size+1+1,1,none⟩=some (.int .u64 (lo Q))
 r0:wr.cell? ⟨w.heap.size+1+1+1,0,none⟩=some (.int .u64 (hi R))
 r1:wr.cell? ⟨w.heap.size+1+1+1,1,none⟩=some (.int .u64 (lo R))
 o0:∃ v,wr.cell? ⟨w.heap.size+1,0,none⟩=some v
 o1:∃ v,wr.cell? ⟨w.heap.size+1,1,none⟩=some v
 f10:wr.frozen? ⟨w.heap.size+1,0,none⟩=false
 f11:wr.frozen? ⟨w.heap.size+1,1,none⟩=false
 f20:wr.frozen? ⟨w.heap.size+1+1,0,none⟩=false
 f21:wr.frozen? ⟨w.heap.size+1+1,1,none⟩=false
 f30:wr.frozen? ⟨w.heap.size+1+1+1,0,none⟩=false
 f31:wr.frozen? ⟨w.heap.size+1+1+1,1,none⟩=false
 hz:w.heap.size+1+1+1<wr.heap.size
 hb:Below w.heap.size w wr
theorem OverSt.below {w wr w1:World} {x Q R:Int} (h:OverSt w wr x Q R) (hb:Below wr.heap.size wr w1):OverSt w w1 x Q R:=by
 have hz:=h.hz;have hs:=hb.size;obtain⟨v0,o0⟩:=h.o0;obtain⟨v1,o1⟩:=h.o1;exact⟨cb hb (by omega) h.x0,cb hb (by omega) h.x1,cb hb (by omega) h.q0,cb hb (by omega) h.q1,cb hb (by omega) h.r0,cb hb (by omega) h.r1,⟨v0,cb hb (by omega) o0⟩,⟨v1,cb hb (by omega) o1⟩,
  fb hb (by omega) h.f10,fb hb (by omega) h.f11,fb hb (by omega) h.f20,fb hb (by omega) h.f21,fb hb (by omega) h.f30,fb hb (by omega) h.f31,by omega,h.hb.trans (hb.mono (by omega))⟩
theorem OverSt.drew {w wr:World} {x Q R:Int} (h:OverSt w wr x Q R):OverSt w wr.drew x Q R :=
 ⟨h.x0,h.x1,h.q0,h.q1,h.r0,h.r1,h.o0,h.o1,h.f10,h.f11,h.f20,h.f21,h.f30,h.f31,h.hz,h.hb.drew⟩
theorem cs {w:World} {b o b' o':Nat} {v u:Value} (h:b'≠b\/o'≠o) (hc:w.cell? ⟨b,o,none⟩=some v):(w.setCell ⟨b',o',none⟩ u).cell? ⟨b,o,none⟩=some v:=by
 have hne:(⟨b',o',none⟩:Addr)≠⟨b,o,none⟩:=by
  intro e
  injection e with e1 e2
  omega
 exact(World.cell?_setCell_other _ _ _ _ hne).trans hc
theorem cw {w:World} {b o:Nat} {v u:Value} (hc:w.cell? ⟨b,o,none⟩=some v):(w.setCell ⟨b,o,none⟩ u).cell? ⟨b,o,none⟩=some u:=by
 exact World.cell?_setCell_same' _ _ _ (by rw[hc];rfl)
theorem OverSt.setR {w wr:World} {x Q R R':Int} (h:OverSt w wr x Q R) :
  OverSt w ((wr.setCell ⟨w.heap.size+1+1+1,0,none⟩ (.int .u64 (hi R'))).setCell ⟨w.heap.size+1+1+1,1,none⟩ (.int .u64 (lo R'))) x Q R':=by
 obtain⟨v0,o0⟩:=h.o0;obtain⟨v1,o1⟩:=h.o1;exact⟨cs (by omega) (cs (by omega) h.x0),cs (by omega) (cs (by omega) h.x1),cs (by omega) (cs (by omega) h.q0),cs (by omega) (cs (by omega) h.q1),cs (by omega) (cw h.r0),cw (cs (by omega) h.r1),
  ⟨v0,cs (by omega) (cs (by omega) o0)⟩,⟨v1,cs (by omega) (cs (by omega) o1)⟩,by simp[h.f10],by simp[h.f11],by simp[h.f20],by simp[h.f21],by simp[h.f30],by simp[h.f31],
  by simpa [World.setCell] using h.hz,(h.hb.setCell (by show _<=w.heap.size+1+1+1;omega) _).setCell (by show _<=w.heap.size+1+1+1;omega) _⟩
theorem OverSt.setQ {w wr:World} {x Q R Q':Int} (h:OverSt w wr x Q R) :
  OverSt w ((wr.setCell ⟨w.heap.size+1+1,0,none⟩ (.int .u64 (hi Q'))).setCell ⟨w.heap.size+1+1,1,none⟩ (.int .u64 (lo Q'))) x Q' R:=by
 obtain⟨v0,o0⟩:=h.o0;obtain⟨v1,o1⟩:=h.o1;exact⟨cs (by omega) (cs (by omega) h.x0),cs (by omega) (cs (by omega) h.x1),cs (by omega) (cw h.q0),cw (cs (by omega) h.q1),cs (by omega) (cs (by omega) h.r0),cs (by omega) (cs (by omega) h.r1),
  ⟨v0,cs (by omega) (cs (by omega) o0)⟩,⟨v1,cs (by omega) (cs (by omega) o1)⟩,by simp[h.f10],by simp[h.f11],by simp[h.f20],by simp[h.f21],by simp[h.f30],by simp[h.f31],
  by simpa [World.setCell] using h.hz,(h.hb.setCell (by show _<=w.heap.size+1+1;omega) _).setCell (by show _<=w.heap.size+1+1;omega) _⟩
theorem OverSt.setL {w wr:World} {x Q R Q':Int} (h:OverSt w wr x Q R) (e:hi Q=hi Q') :
  OverSt w (wr.setCell ⟨w.heap.size+1+1,1,none⟩ (.int .u64 (lo Q'))) x Q' R:=by
 obtain⟨v0,o0⟩:=h.o0;obtain⟨v1,o1⟩:=h.o1;exact⟨cs (by omega) h.x0,cs (by omega) h.x1,cs (by omega) (e ▸ h.q0),cw h.q1,cs (by omega) h.r0,cs (by omega) h.r1,
  ⟨v0,cs (by omega) o0⟩,⟨v1,cs (by omega) o1⟩,by simp[h.f10],by simp[h.f11],by simp[h.f20],by simp[h.f21],by simp[h.f30],by simp[h.f31],
  by simpa [World.setCell] using h.hz,h.hb.setCell (by show _<=w.heap.size+1+1;omega) _⟩
theorem zxG (Q:Int):IntKind.u64.wrap (lo (2*Q)+1)=lo (2*Q+1):=by
 rw[IntKind.wrap_u64];unfold lo;omega
theorem zx6 (Q:Int):hi (2*Q)=hi (2*Q+1):=by unfold hi;omega
theorem zuz {w wr w4 w5:World} {x Q R R':Int} (h:OverSt w wr x (2*Q) R) (hb4:Below wr.heap.size wr w4) (hb5:Below w4.heap.size w4 w5) :
  OverSt w (((w5.setCell ⟨w.heap.size+1+1+1,0,none⟩ (.int .u64 (hi R'))).setCell ⟨w.heap.size+1+1+1,1,none⟩ (.int .u64 (lo R'))).setCell ⟨w.heap.size+1+1,1,none⟩ (.int .u64 (IntKind.u64.wrap (lo (2*Q)+1)))) x (2*Q+1) R':=by
 rw[zxG];exact(((h.below hb4).below hb5).setR).setL (zx6 Q)
theorem zqn (w:World) (x d:Int):OverSt w
  ((((w.alloc (.cells #[.int .u64 (hi x),.int .u64 (lo x)] 202)).alloc (.cells #[.int .u64 0,.int .u64 0] 202)).alloc (.cells #[.int .u64 0,.int .u64 0] 202)).alloc (.cells #[.int .u64 0,.int .u64 0] 202)) x (0 / d) (0 % d):=by
 rw[Int.zero_ediv,Int.zero_emod];have e0:hi 0=0:=rfl;have e1:lo 0=0:=rfl;refine⟨?_,?_,?_,?_,?_,?_,⟨.int .u64 0,?_⟩,⟨.int .u64 0,?_⟩,?_,?_,?_,?_,?_,?_,?_,zhK _ _ _ _ _⟩
 all_goals simp[go_sem,e0,e1]
set_option maxHeartbeats 1000000 in
theorem zjb (x d:Int) (h0:0<=x) (h1:x<340282366920938463463374607431768211456) (d0:0<d) (d1:d<18446744073709551616) (w:World) :
  Calls Tryz.prog 232 #[.agg #[.int .u64 (hi x),.int .u64 (lo x)],.int .u64 d] w λe w' =>
   e=.returned (.tuple #[.agg #[.int .u64 (hi (x / d)),.int .u64 (lo (x / d))],.int .u64 (x % d)])/\Below w.heap.size w w':=by
 have H0:=za h0;have H1:=za h1;clear h0 h1;have hd0:(d == 0)=false:=by simp;omega
 go_enter Tryz.func232,Tryz.ntmps232
 go_wp2
 go_loopw [8] (λi wr=>∃ j:Nat,j<=128/\i=.int .i64 ((j:Int)-1)/\OverSt w wr x (x / 2 ^ j / d) (x / 2 ^ j % d))
  (λi _=>(intOf i+1).toNat)
 case atStart =>
  refine⟨128,by omega,rfl,?_⟩;rw[zeV H0.out H1.out];exact zqn w x d
 case round =>
  obtain⟨j,hj,rfl,hst⟩:=hrel
  by_cases hj0:j=0
  ·subst hj0;have ST:=za hst;obtain⟨x0,x1,q0,q1,r0,r1,⟨v0,o0⟩,⟨v1,o1⟩,f10,f11,f20,f21,f30,f31,hz,hb⟩:=hst;clear hb;go_wp2
   go_region
   go_wp2;have elo:lo (x % d)=x % d:=zdG (Int.emod_nonneg _ (by omega)) (Int.lt_trans (Int.emod_lt_of_pos _ d0) d1);refine bodyPost_ret (v:=.tuple #[.agg #[.int .u64 (hi (x / d)),.int .u64 (lo (x / d))],.int .u64 (x % d)]) (by simp[results,Tryz.results232,go_sem,o0,o1,elo]) rfl ⟨rfl,?_⟩;exact((ST.out.hb.setCell (by show _<=w.heap.size+1;omega) _).setCell (by show _<=w.heap.size+1;omega) _).drew
  ·obtain⟨k,rfl⟩:∃ k,j=k+1:=⟨j-1,by omega⟩;have eh:=zd1 x k;have b0:=zfi x k;have b1:=zfs x k;have P0:0<=x / 2 ^ (k+1):=Int.ediv_nonneg H0.out (Int.le_of_lt (zK _));have P1:x / 2 ^ (k+1)<170141183460469231731687303715884105728:=zfP k H0.out H1.out;have Q0:0<=x / 2 ^ (k+1) / d:=Int.ediv_nonneg P0 (by omega);have Q1:x / 2 ^ (k+1) / d<170141183460469231731687303715884105728:=Int.lt_of_le_of_lt (Int.ediv_le_self _ P0) P1;have R0:0<=x / 2 ^ (k+1) % d:=Int.emod_nonneg _ (by omega);have R1:x / 2 ^ (k+1) % d<d:=Int.emod_lt_of_pos _ d0;have S1:=zwY (p:=x / 2 ^ (k+1)) d0 b0;have S2:=zwC (p:=x / 2 ^ (k+1)) d0 b1;rw[←eh]at S1 S2;generalize x / 2 ^ (k+1) / d=Q at *;generalize x / 2 ^ (k+1) % d=R at *;have T1:=za S1;have T2:=za S2;clear S1 S2 eh P0 P1;have ST:=za hst;obtain⟨x0,x1,q0,q1,r0,r1,o0,o1,f10,f11,f20,f21,f30,f31,hz,hb⟩:=hst;clear hb o0 o1;have ek:((k+1:Nat):Int)-1=(k:Int):=by omega
   rw[ek];clear ek
   go_upto_region 8 with(fail)
   go_cut [] (λwx=>OverSt w wx x Q (2*R+zaR x k))
   case first =>
    go_region_with
     (first
      |(go_at_call 133;refine(zfA x k H0.out H1.out (by omega) _).mono ?_;rintro e w1 ⟨rfl,hb1⟩;have s0:=cb hb1 (by show _<wr.heap.size;omega) r0;have s1:=cb hb1 (by show _<wr.heap.size;omega) r1)
      |(go_at_call 131;refine(zej R (zaR x k) R0 (by omega) b0 b1 _).mono ?_;rintro e w2 ⟨rfl,hb2⟩;have hz1:wr.heap.size<=w1.heap.size:=hb1.size;have s2:=cb hb2 (by omega) s0;have s3:=cb hb2 (by omega) s1;have t2:=fb hb2 (by omega) (fb hb1 (by show _<wr.heap.size;omega) f30);have t3:=fb hb2 (by omega) (fb hb1 (by show _<wr.heap.size;omega) f31)))
    all_goals (go_wp2_with fail;go_meet;exact((ST.out.drew.below hb1).below hb2).setR)
   case rest =>
    clear x0 x1 q0 q1 r0 r1 f10 f11 f20 f21 f30 f31 hz ST;have ST:=za hcut;obtain⟨x0,x1,q0,q1,r0,r1,o0,o1,f10,f11,f20,f21,f30,f31,hz,hb⟩:=hcut;clear o0 o1 hb x0 x1 r0 r1 f10 f11 f30 f31
    go_upto_region 9 with(fail)
    go_cut [] (λwx=>OverSt w wx x (2*Q) (2*R+zaR x k))
    case first =>
     go_wp2_with (first
      |(go_at_call 131;refine(zej Q 0 Q0 Q1 (by omega) (by omega) _).mono ?_;rintro e w3 ⟨rfl,hb3⟩;have q3:=cb hb3 (by omega) q0;have q4:=cb hb3 (by omega) q1;have t3:=fb hb3 (by omega) f20;have t4:=fb hb3 (by omega) f21))
     go_meet;exact(ST.out.below hb3).setQ
    case rest =>
     clear q0 q1 f20 f21 hz ST;have ST:=za hcut;obtain⟨x0,x1,q0,q1,r0,r1,o0,o1,f10,f11,f20,f21,f30,f31,hz,hb⟩:=hcut;clear o0 o1 hb x0 x1 f10 f11
     by_cases hlt:2*R+zaR x k<d
     ·have hd:=zvw (2*R+zaR x k) d 0 d (zd2 (by omega) d1).symm (zdG (by omega) d1).symm hlt (by omega) (by omega)
      go_wp2_with (go_at_call 135;refine(hd _).mono ?_;rintro e w4 ⟨rfl,hb4⟩)
      obtain⟨t1,t2⟩:=T1.out hlt
      go_roundw
      case rel=>exact⟨k,by omega,rfl,by rw[t1,t2];exact ST.out.below hb4⟩
      case measure=>simp[intOf]
     ·have hd:=zxc (2*R+zaR x k) d 0 d (zd2 (by omega) d1).symm (zdG (by omega) d1).symm (by omega) (by omega) (by omega)
      go_wp2_with (first
       |(go_at_call 135;refine(hd _).mono ?_;rintro e w4 ⟨rfl,hb4⟩;have r3:=cb hb4 (by omega) r0;have r4:=cb hb4 (by omega) r1)
       |(go_at_call 134;refine(zss (2*R+zaR x k) d (by omega) (by omega) d1 (by omega) _).mono ?_;rintro e w5 ⟨rfl,hb5⟩;have hz4:=hb4.size;have r5:=cb hb5 (by omega) r3;have r6:=cb hb5 (by omega) r4;have f5:=fb hb5 (by omega) (fb hb4 (by omega) f30);have f6:=fb hb5 (by omega) (fb hb4 (by omega) f31);have q6:=cb hb5 (by omega) (cb hb4 (by omega) q1);have g6:=fb hb5 (by omega) (fb hb4 (by omega) f21)))
      obtain⟨t1,t2⟩:=T2.out (by omega)
      go_roundw
      case rel=>exact⟨k,by omega,rfl,by rw[t1,t2];exact zuz ST.out hb4 hb5⟩
      case measure=>simp[intOf]
end Go.Proofs.YtlodkoimdoeopaaGreatDoor
