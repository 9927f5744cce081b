/- Parts, joined. -/
import Derived.Test.YtlodkoimdoeopaaGreatDoorP03
import Derived.Test.YtlodkoimdoeopaaGreatDoorP02
import Derived.Test.YtlodkoimdoeopaaGreatDoorP07
import Derived.Deep.LoopGhost
namespace Go.Proofs.YtlodkoimdoeopaaGreatDoor
open Go.RowKit
theorem ziZ (a b:Int) (h0 : -9223372036854775808<=a) (h1:a<=9223372036854775807) (k0 : -9223372036854775808<=b) (k1:b<=9223372036854775807) (w:World) :
  Calls Tryz.prog 213 #[.int .i64 a,.int .i64 b] w λe w'=>e=.returned (.int .i64 (zcE a b))/\w=w':=by
 unfold zcE
 by_cases g:0<b
 ·by_cases g2:9223372036854775807-b<a
  ·rw[zbR (by omega)]
   go_enter Tryz.func213,Tryz.ntmps213
   go_wp2;go_ret;exact⟨rfl,rfl⟩
  ·rw[zH (by omega) (by omega)];have g3:¬b<0:=by omega
   go_enter Tryz.func213,Tryz.ntmps213
   go_wp2;go_ret;exact⟨rfl,rfl⟩
 ·by_cases g3:b<0
  ·by_cases g2:a < -9223372036854775808-b
   ·rw[zcW (by omega)]
    go_enter Tryz.func213,Tryz.ntmps213
    go_wp2;go_ret;exact⟨rfl,rfl⟩
   ·rw[zH (by omega) (by omega)]
    go_enter Tryz.func213,Tryz.ntmps213
    go_wp2;go_ret;exact⟨rfl,rfl⟩
  ·rw[zH (by omega) (by omega)]
   go_enter Tryz.func213,Tryz.ntmps213
   go_wp2;go_ret;exact⟨rfl,rfl⟩
theorem zex (x:Int) (h0 : -9223372036854775808<=x) (h1:x<=9223372036854775807) (w:World) :
  Calls Tryz.prog 208 #[.int .i64 x] w λe w'=>e=.returned (.int .i64 (zaI x))/\w=w':=by
 unfold zaI zi
 by_cases g:x<0
 ·rw[if_pos g]
  by_cases g2:x < -9223372036854775807
  ·rw[zbR (by omega)]
   go_enter Tryz.func208,Tryz.ntmps208
   go_wp2;go_ret;exact⟨rfl,rfl⟩
  ·rw[zH (by omega) (by omega)]
   go_enter Tryz.func208,Tryz.ntmps208
   go_wp2;go_ret;exact⟨rfl,rfl⟩
 ·rw[if_neg g,zH (by omega) (by omega)]
  go_enter Tryz.func208,Tryz.ntmps208
  go_wp2;go_ret;exact⟨rfl,rfl⟩
def zad (xs:List Int):Prop:=∀ j,j<xs.length->-9223372036854775808<=xs.getD j 0/\xs.getD j 0<=9223372036854775807
theorem zjS (xs:List Int) (ad:Option Addr) (cap:Nat) (w:World) (hr:RowAt .i64 w ad xs) (hx:zad xs) (hl:xs.length<=9223372036854775807) :
  Calls Tryz.prog 209 #[.slice ad xs.length cap] w λe w'=>e=.returned (.int .i64 (zq xs))/\w=w':=by
 have HR:=za hr;have HX:=za hx;clear hr hx;obtain⟨n,hn⟩:∃ n,xs.length=n:=⟨_,rfl⟩;have HN:=za hn;rw[hn]at hl ⊢;clear hn
 go_enter Tryz.func209,Tryz.ntmps209
 go_wp2
 go_loop [3,8] (λs i=>∃ k:Nat,k<=n/\i=.int .i64 (k:Int)/\s=.int .i64 (zq (xs.take k))) (λ_ i=>n-(intOf i).toNat)
 case atStart=>exact⟨0,by omega,rfl,rfl⟩
 case round =>
  obtain⟨k,hk,rfl,rfl⟩:=hrel
  by_cases hlt:k<n
  ·obtain⟨b,off,rfl,hc⟩:=HR.out.get (show k<xs.length by rw[HN.out];exact hlt);obtain⟨x0,x1⟩:=HX.out k (by rw[HN.out];exact hlt);obtain⟨s0,s1⟩:=zgL (xs.take k);have hs:zq (xs.take (k+1))=zcE (zq (xs.take k)) (xs.getD k 0):=by rw[zb1 xs (by rw[HN.out];exact hlt),zgp]
   have HS:=za hs;clear hs;have CP:=λw=>ziZ (zq (xs.take k)) (xs.getD k 0) s0 s1 x0 x1 w
   generalize xs.getD k 0=x at *
   go_wp2_with (go_at_call 213;(with_reducible refine(CP _).mono ?_);rintro e w1 ⟨rfl,rfl⟩)
   go_round
   case rel=>exact⟨k+1,by omega,by go_num,by rw[HS.out]⟩
   case measure=>simp[intOf];omega
  ·obtain rfl:k=n:=by omega
   have e:xs.take k=xs:=List.take_of_length_le (by rw[HN.out];exact Nat.le_refl _);have HE:=za e;clear e;go_wp2;go_ret;exact⟨zm (by rw[HE.out]),rfl⟩
theorem zib (xs:List Int) (ad:Option Addr) (cap:Nat) (w:World) (hr:RowAt .i64 w ad xs) (hx:zad xs) (hl:xs.length<=9223372036854775807) :
  Calls Tryz.prog 179 #[.slice ad xs.length cap] w λe w'=>e=.returned (.int .i64 (zP xs))/\w=w':=by
 have HR:=za hr;have HX:=za hx;clear hr hx;obtain⟨n,hn⟩:∃ n,xs.length=n:=⟨_,rfl⟩;have HN:=za hn;rw[hn]at hl ⊢;clear hn
 go_enter Tryz.func179,Tryz.ntmps179
 go_wp2
 go_loop [3,8] (λs i=>∃ k:Nat,k<=n/\i=.int .i64 (k:Int)/\s=.int .i64 (zP (xs.take k))) (λ_ i=>n-(intOf i).toNat)
 case atStart=>exact⟨0,by omega,rfl,rfl⟩
 case round =>
  obtain⟨k,hk,rfl,rfl⟩:=hrel
  by_cases hlt:k<n
  ·obtain⟨b,off,rfl,hc⟩:=HR.out.get (show k<xs.length by rw[HN.out];exact hlt);obtain⟨x0,x1⟩:=HX.out k (by rw[HN.out];exact hlt);obtain⟨s0,s1⟩:=zdf (xs.take k);have hs:zP (xs.take (k+1))=zcE (zP (xs.take k)) (zaI (xs.getD k 0)):=by rw[zb1 xs (by rw[HN.out];exact hlt),zeL]
   have HS:=za hs;clear hs;have CP:=λw=>ziZ (zP (xs.take k)) (zaI (xs.getD k 0)) (by omega) s1 (zfK _) (ze8 _) w
   have CA:=λw=>zex (xs.getD k 0) x0 x1 w
   generalize xs.getD k 0=x at *
   go_wp2_with (first
    |(go_at_call 213;(with_reducible refine(CP _).mono ?_);rintro e w1 ⟨rfl,rfl⟩)
    |(go_at_call 208;(with_reducible refine(CA _).mono ?_);rintro e w1 ⟨rfl,rfl⟩))
   go_round
   case rel=>exact⟨k+1,by omega,by go_num,by rw[HS.out]⟩
   case measure=>simp[intOf];omega
  ·obtain rfl:k=n:=by omega
   have e:xs.take k=xs:=List.take_of_length_le (by rw[HN.out];exact Nat.le_refl _);have HE:=za e;clear e;go_wp2;go_ret;exact⟨zm (by rw[HE.out]),rfl⟩
end Go.Proofs.YtlodkoimdoeopaaGreatDoor
namespace Go.Proofs.YtlodkoimdoeopaaGreatDoor
def ze (L:List (Int×List Int)) (j:Nat):Int×List Int:=L.getD j (0,[])
def zfY (x:Int×List Int):Prop := -1099511627776<=x.1/\x.1<=1099511627776/\1<=x.2.length/\x.2.length<=1048576/\zad x.2
def zcj (L:List (Int×List Int)):Prop:=∀ j,j<L.length->zfY (ze L j)
theorem zn2 {L:List (Int×List Int)} {j:Nat} (h:j<L.length):ze L j=L[j]:=by
 unfold ze;rw[List.getD_eq_getElem?_getD,List.getElem?_eq_getElem h];rfl
theorem zg0 {L:List (Int×List Int)} (x:Int×List Int) {j:Nat} (h:j<L.length):ze (L++[x]) j=ze L j:=by
 unfold ze;rw[List.getD_eq_getElem?_getD,List.getD_eq_getElem?_getD,List.getElem?_append_left h]
theorem zgZ (L:List (Int×List Int)) (x:Int×List Int):ze (L++[x]) L.length=x:=by
 unfold ze;rw[List.getD_eq_getElem?_getD,List.getElem?_append_right (Nat.le_refl _),Nat.sub_self];rfl
theorem zmx {L:List (Int×List Int)} {j:Nat} (h:L.length<=j):ze L j=(0,[]):=by
 unfold ze;rw[List.getD_eq_getElem?_getD,List.getElem?_eq_none h];rfl
theorem zcT (f:Nat->Int×List Int) {m j:Nat} (h:j<m):ze ((List.range m).map f) j=f j:=by
 rw[zn2 (by rw[List.length_map,List.length_range];exact h)];rw[List.getElem_map,List.getElem_range]
def zdn (s:Int×Int×Bool) (f:Int) (c:Nat):Int×Int×Bool:=if s.2.2=true then(min s.1 f,max s.2.1 (f+(c:Int)),true) else(f,f+(c:Int),true)
def zai (L:List (Int×List Int)) (i k:Int):Nat->Int×Int×Bool
 |0=>(0,0,false)
 |o+1=>if(o:Int)<i\/k<=(o:Int) then zai L i k o else zdn (zai L i k o) (ze L o).1 (ze L o).2.length
def zau (L:List (Int×List Int)) (i k:Int):Int×Int×Bool:=zai L i k L.length
def zgN (s:Int×Int×Bool):Prop := -1099511627776<=s.1/\s.1<=1099511627776/\-1099511627776<=s.2.1/\s.2.1<=1099512676352/\(s.2.2=true->s.1<s.2.1)/\(s.2.2=false->s.1=0/\s.2.1=0)
theorem zrr {a b:Int} (h0:a=0) (h1:b=0):zgN (a,b,false):=by
 subst h0;subst h1;exact⟨by simp,by simp,by simp,by simp,(λe=>by cases e),λ_=>⟨rfl,rfl⟩⟩
theorem ziS {a b:Int} (h0 : -1099511627776<=a) (h1:a<=1099511627776) (h2:a<b) (h3:b<=1099512676352):zgN (a,b,true) :=
 ⟨h0,h1,(by show _<=b;omega),h3,(λ_=>h2),λe=>by cases e⟩
theorem zm6 {s:Int×Int×Bool} (h:zgN s) {f:Int} {c:Nat} (f0 : -1099511627776<=f) (f1:f<=1099511627776) (c0:1<=c) (c1:c<=1048576):zgN (zdn s f c):=by
 obtain⟨a,b,g⟩:=s
 cases g
 ·exact ziS f0 f1 (by omega) (by omega)
 ·obtain⟨h0,h1,h2,h3,h4,_⟩:=h;have h5:a<b:=h4 rfl;have h0 : -1099511627776<=a:=h0;have h1:a<=1099511627776:=h1;have h3:b<=1099512676352:=h3;exact ziS (by omega) (by omega) (by omega) (by omega)
theorem zkc {L:List (Int×List Int)} (h:zcj L) (i k:Int) (o:Nat) (ho:o<=L.length):zgN (zai L i k o):=by
 induction o with
 |zero=>exact zrr rfl rfl
 |succ o ih =>
  unfold zai
  split
  ·exact ih (by omega)
  ·obtain⟨f0,f1,c0,c1,_⟩:=h o (by omega);exact zm6 (ih (by omega)) f0 f1 c0 c1
def za7 (L:List (Int×List Int)):Nat->Int
 |0=>0
 |o+1=>max (za7 L o) ((ze L o).2.length:Int)
def zaB (L:List (Int×List Int)):Int:=za7 L L.length
def zdS (L:List (Int×List Int)):Nat->Int
 |0=>0
 |o+1=>max (zdS L o) (zP (ze L o).2)
def zdT (L:List (Int×List Int)):Int:=zdS L L.length
theorem zsn {L:List (Int×List Int)} (h:zcj L) (o:Nat) (ho:o<=L.length):0<=za7 L o/\za7 L o<=1048576:=by
 induction o with
 |zero=>exact⟨Int.le_refl 0,by show(0:Int)<=_;omega⟩
 |succ o ih =>
  have:=ih (by omega);obtain⟨_,_,_,c1,_⟩:=h o (by omega);unfold za7;omega
theorem zin {L:List (Int×List Int)} {j:Nat} (o:Nat) (h:j<o):((ze L j).2.length:Int)<=za7 L o:=by
 induction o with
 |zero=>omega
 |succ o ih =>
  unfold za7
  by_cases e:j=o
  ·subst e;omega
  ·have:=ih (by omega);omega
def zfe (l:List Int):Int:=(l.map λx=>max x 0).sum
theorem zoF (l:List Int) (h:∀ j,j<l.length->l.getD j 0<=0):zfe l=0:=by
 induction l with
 |nil=>rfl
 |cons a l ih =>
  have a0:a<=0:=by have:=h 0 (by simp);simpa using this
  have:=ih (λj hj=>by have:=h (j+1) (by simpa using hj);simpa using this);unfold zfe at *;simp only[List.map_cons,List.sum_cons];omega
theorem zqa (l:List Int) (h:∀ j,j<l.length->0<=l.getD j 0):zfe l=l.sum:=by
 induction l with
 |nil=>rfl
 |cons a l ih =>
  have a0:0<=a:=by have:=h 0 (by simp);simpa using this
  have:=ih (λj hj=>by have:=h (j+1) (by simpa using hj);simpa using this);unfold zfe at *;simp only[List.map_cons,List.sum_cons];omega
theorem zqn (l:List Int) (i:Nat) (x:Int) (hi:i<l.length):zfe (l.set i x)=zfe l-max (l.getD i 0) 0+max x 0:=by
 unfold zfe;rw[List.map_set,zpf _ _ _ (by simpa using hi)];rw[List.getD_eq_getElem?_getD,List.getElem?_map,List.getD_eq_getElem?_getD,List.getElem?_eq_getElem hi];rfl
structure Setting (s:Int) (q r:List Int) (n lf:Nat):Prop where
 n0:1<=n
 s0:0<s
 ql:q.length=n
 rl:r.length=n
 rin:∀ j,j<n->0<=r.getD j 0/\r.getD j 0<s
 rsum:r.sum=(lf:Int)*s
structure Given (s:Int) (q r:List Int) (n lf m:Nat):Prop where
 each:∀ j,j<n->((zk q r m).2.getD j 0=r.getD j 0/\(zk q r m).1.getD j 0=q.getD j 0)\/((zk q r m).2.getD j 0 = -1/\(zk q r m).1.getD j 0=q.getD j 0+1/\0<r.getD j 0)
 rests:((lf:Int)-m)*s<=zfe (zk q r m).2
 sum:(zk q r m).1.sum=q.sum+m
 order:∀ i k,i<n->k<n->(zk q r m).2.getD k 0 = -1->(zk q r m).2.getD i 0≠-1->r.getD i 0<=r.getD k 0
theorem zjv {s:Int} {q r:List Int} {n lf:Nat} (h:Setting s q r n lf) (m:Nat) (hm:m<=lf):Given s q r n lf m:=by
 induction m with
 |zero =>
  refine⟨λj _=>Or.inl ⟨rfl,rfl⟩,?_,by simp[zk],?_⟩
  ·rw[show(zk q r 0).2=r from rfl,zqa r (λj hj=>(h.rin j (by rw[←h.rl];exact hj)).1),h.rsum]
   simp
  ·intro i k hi hk hc _;have:=(h.rin k hk).1;rw[show(zk q r 0).2=r from rfl]at hc;omega
 |succ m ih =>
  have I:=ih (by omega);obtain⟨l1,l2⟩:=ze4 q r m;have e1:(zk q r (m+1)).1=(zk q r m).1.set (zF (zk q r m).2 (zk q r m).2.length) ((zk q r m).1.getD (zF (zk q r m).2 (zk q r m).2.length) 0+1):=rfl;have e2:(zk q r (m+1)).2=(zk q r m).2.set (zF (zk q r m).2 (zk q r m).2.length) (-1):=rfl;obtain⟨each,rests,sum,order⟩:=I;rw[h.ql]at l1;rw[h.rl]at l2;have bl:=zid (zk q r m).2 (zk q r m).2.length;have bm:=zhr (zk q r m).2 (zk q r m).2.length;rw[l2]at bl bm e1 e2;generalize (zk q r m).1=O at *;generalize (zk q r m).2=R at *;obtain⟨b,hb⟩:∃ b,zF R n=b:=⟨_,rfl⟩;rw[hb]at bl bm e1 e2;have n0:=h.n0;have b1:b<n:=by omega
  -- the greatest rest is above nought
  have pos:0<R.getD b 0:=by
   by_cases g:0<R.getD b 0
   ·exact g
   ·exfalso
    have z:=zoF R (λj hj=>by have:=bm j (by omega);omega);have s0:=h.s0;have:s<=((lf:Int)-m)*s:=by
     have:=Int.mul_le_mul_of_nonneg_right (show(1:Int)<=(lf:Int)-m by omega) (show 0<=s by omega);omega
    omega
  have eb:=each b b1;have ub:R.getD b 0=r.getD b 0/\O.getD b 0=q.getD b 0:=by
   rcases eb with g|g
   ·exact g
   ·omega
  have g2:∀ j,(zk q r (m+1)).2.getD j 0=if b=j then -1 else R.getD j 0:=λj=>by rw[e2];exact zdw R b j (-1) (by omega)
  have g1:∀ j,(zk q r (m+1)).1.getD j 0=if b=j then O.getD b 0+1 else O.getD j 0:=λj=>by rw[e1];exact zdw O b j _ (by omega)
  refine⟨?_,?_,?_,?_⟩
  ·intro j hj;rw[g1,g2]
   by_cases e:b=j
   ·subst e;rw[if_pos rfl,if_pos rfl];exact Or.inr ⟨rfl,by omega,by omega⟩
   ·rw[if_neg e,if_neg e];exact each j hj
  ·rw[e2,zqn R b (-1) (by omega)];have:=(h.rin b b1).2;have e:((lf:Int)-(m+1:Nat))*s=((lf:Int)-m)*s-s:=by
    rw[show(lf:Int)-(m+1:Nat)=((lf:Int)-m)-1 by omega,Int.sub_mul ((lf:Int)-m) 1,Int.one_mul]
   rw[e];omega
  ·rw[e1,zpf O b _ (by omega),sum];omega
  ·intro i k hi hk hc hu;rw[g2]at hc hu
   by_cases ei:b=i
   ·rw[if_pos ei]at hu;omega
   ·rw[if_neg ei]at hu;have vi:R.getD i 0=r.getD i 0:=by
     rcases each i hi with g|g
     ·exact g.1
     ·omega
    by_cases ek:b=k
    ·subst ek;have:=bm i (by omega);omega
    ·rw[if_neg ek]at hc;exact order i k hi hk hc hu
theorem zfQ (f:Int->Int) (l:List Int) {j:Nat} (h:j<l.length):(l.map f).getD j 0=f (l.getD j 0):=by
 rw[List.getD_eq_getElem?_getD,List.getElem?_map,List.getD_eq_getElem?_getD,List.getElem?_eq_getElem h];rfl
theorem zbn {l:List Int} {P:Int->Prop} (h:∀ x ∈ l,P x) {j:Nat} (hj:j<l.length):P (l.getD j 0):=by
 rw[List.getD_eq_getElem?_getD,List.getElem?_eq_getElem hj];exact h _ (List.getElem_mem hj)
theorem zji {l:List Int} {P:Int->Prop} (h:∀ j,j<l.length->P (l.getD j 0)):∀ x ∈ l,P x:=by
 intro x hx;obtain⟨j,hj,rfl⟩:=List.getElem_of_mem hx;have:=h j hj;rw[List.getD_eq_getElem?_getD,List.getElem?_eq_getElem hj]at this;exact this
theorem ztN (s:Int) (l:List Int):(zay s l).sum=l.sum*16384-(zU s l).sum*s:=by
 induction l with
 |nil=>simp[zay,zU]
 |cons a l ih =>
  unfold zay zU at *;simp only[List.map_cons,List.sum_cons];rw[ih];unfold zbb;rw[Int.add_mul,Int.add_mul];omega
structure Fits (l:List Int):Prop where
 n0:1<=l.length
 n1:l.length<=1048576
 small:∀ x ∈ l,zaa x
 s0:268435456<=zq l
theorem zf6 {l:List Int} (h:Fits l):Setting (zq l) (zU (zq l) l) (zay (zq l) l) l.length (zbg (zq l) l).toNat/\0<=zbg (zq l) l/\zbg (zq l) l<l.length:=by
 obtain⟨n0,n1,sm,s0⟩:=h;obtain⟨es,e0,e1⟩:=zg2 l sm n1;have rin:∀ j,j<l.length->0<=(zay (zq l) l).getD j 0/\(zay (zq l) l).getD j 0<zq l:=by
  intro j hj;unfold zay;rw[zfQ _ _ hj];obtain⟨_,_,a,b,_⟩:=zfL (s:=zq l) (by omega) (zbn sm hj);exact⟨a,b⟩
 have rs:(zay (zq l) l).sum=zbg (zq l) l*zq l:=by
  rw[ztN];unfold zbg;rw[Int.sub_mul,es];omega
 have rl:(zay (zq l) l).length=l.length:=by unfold zay;simp
 have up:∀ (r:List Int),(∀ j,j<r.length->0<=r.getD j 0/\r.getD j 0<zq l)->0<=r.sum/\(1<=r.length->r.sum<(r.length:Int)*zq l):=by
  intro r
  induction r with
  |nil=>intro _;simp
  |cons a r ih =>
   intro hr;have a0:=hr 0 (by simp);simp only[List.getD_cons_zero]at a0;obtain⟨c0,c1⟩:=ih (λj hj=>by have:=hr (j+1) (by simpa using hj);simpa using this);simp only[List.sum_cons,List.length_cons];refine⟨by omega,λ_=>?_⟩;rw[show((r.length+1:Nat):Int)=(r.length:Int)+1 by omega,Int.add_mul,Int.one_mul];rcases Nat.eq_zero_or_pos r.length with z|z
   ·have:r=[]:=List.eq_nil_of_length_eq_zero z;subst this;simp;omega
   ·have:=c1 z;omega
 obtain⟨u0,u1⟩:=up (zay (zq l) l) (by rw[rl];exact rin);rw[rs]at u0 u1;rw[rl]at u1;have l0:0<=zbg (zq l) l:=by
  by_cases g:0<=zbg (zq l) l
  ·exact g
  ·exfalso
   have:=Int.mul_le_mul_of_nonneg_right (show zbg (zq l) l<=-1 by omega) (show 0<=zq l by omega);omega
 refine⟨⟨n0,by omega,by unfold zU;simp,rl,rin,?_⟩,l0,?_⟩
 ·rw[rs,show(((zbg (zq l) l).toNat:Nat):Int)=zbg (zq l) l by omega]
 ·by_cases g:zbg (zq l) l<l.length
  ·exact g
  ·exfalso
   have:=Int.mul_le_mul_of_nonneg_right (show(l.length:Int)<=zbg (zq l) l by omega) (show 0<=zq l by omega);have:=u1 n0;omega
theorem zdD {l:List Int} (h:Fits l) :
  (zG l).length=l.length/\(zG l).sum=16384 /\
  (∀ j,j<l.length->(zG l).getD j 0=zaf (zq l) (l.getD j 0)\/((zG l).getD j 0=zaf (zq l) (l.getD j 0)+1/\0<zbb (zq l) (l.getD j 0))) /\
  (∀ i k,i<l.length->k<l.length->l.getD k 0<l.getD i 0->(zG l).getD k 0<=(zG l).getD i 0):=by
 obtain⟨S,l0,l1⟩:=zf6 h;have G:=zjv S _ (Nat.le_refl _);obtain⟨n0,n1,sm,s0⟩:=h;obtain⟨each,_,sum,order⟩:=G;obtain⟨la,lb⟩:=ze4 (zU (zq l) l) (zay (zq l) l) (zbg (zq l) l).toNat;have eq:∀ j,j<l.length->(zU (zq l) l).getD j 0=zaf (zq l) (l.getD j 0):=λj hj=>zfQ _ _ hj
 have er:∀ j,j<l.length->(zay (zq l) l).getD j 0=zbb (zq l) (l.getD j 0):=λj hj=>zfQ _ _ hj
 have len:(zG l).length=l.length:=by unfold zG;rw[la];unfold zU;simp
 refine⟨len,?_,?_,?_⟩
 ·have:zbg (zq l) l=16384-(zU (zq l) l).sum:=rfl;unfold zG;rw[sum];omega
 ·intro j hj;have:=each j hj;rw[eq j hj,er j hj]at this;rcases this with g|g
  ·exact Or.inl g.2
  ·exact Or.inr ⟨g.2.1,g.2.2⟩
 ·intro i k hi hk hlt;obtain⟨qi,ri,ri0,ri1,_⟩:=zfL (s:=zq l) (by omega) (zbn sm hi);obtain⟨qk,rk,rk0,rk1,_⟩:=zfL (s:=zq l) (by omega) (zbn sm hk);have E1:=each i hi;have E2:=each k hk;have O:=order i k hi hk;rw[eq i hi,er i hi]at E1;rw[eq k hk,er k hk]at E2;rw[er i hi,er k hk]at O;have mono:zaf (zq l) (l.getD k 0)<=zaf (zq l) (l.getD i 0):=by
   rw[qi,qk];exact Int.ediv_le_ediv (by omega) (by omega)
  unfold zG;generalize (zk (zU (zq l) l) (zay (zq l) l) (zbg (zq l) l).toNat).1.getD i 0=Ti at *;generalize (zk (zU (zq l) l) (zay (zq l) l) (zbg (zq l) l).toNat).1.getD k 0=Tk at *
  by_cases e:zaf (zq l) (l.getD k 0)=zaf (zq l) (l.getD i 0)
  ·have d:zbb (zq l) (l.getD k 0)<zbb (zq l) (l.getD i 0):=by
    unfold zbb;rw[e];omega
   rcases E1 with⟨a1,a2⟩|⟨a1,a2,a3⟩
   ·rcases E2 with⟨b1,b2⟩|⟨b1,b2,b3⟩
    ·omega
    ·have:=O b1 (by omega);omega
   ·rcases E2 with⟨b1,b2⟩|⟨b1,b2,b3⟩<;>omega
  ·rcases E1 with⟨a1,a2⟩|⟨a1,a2,a3⟩<;>rcases E2 with⟨b1,b2⟩|⟨b1,b2,b3⟩<;>omega
end Go.Proofs.YtlodkoimdoeopaaGreatDoor
namespace Go.Proofs.YtlodkoimdoeopaaGreatDoor
open Go.RowKit
theorem zg8:(Tryz.prog.info? 2).map (λi=>(i.zero,i.size,i.bytes))=some (some (.int .i64 0),1,8):=by kernel_rfl
theorem zg1 {x:Int} (h0 : -9223372036854775808<=x) (h1:x<=9223372036854775807):zaI x<=1099511627776↔zaa x:=by
 unfold zaI zaa zi zE
 split<;>(try split)<;>(try split)<;>omega
theorem zqj (xs:List Int) (ad:Option Addr) (cap:Nat) (w:World) (hl:xs.length<=9223372036854775807) (h:xs.length<1\/1048576<xs.length) :
  Calls Tryz.prog 177 #[.slice ad xs.length cap] w λe w'=>e=.returned (.tuple #[.slice none 0 0,.int .i64 7])/\Below w.heap.size w w':=by
 generalize xs.length=n at *;rcases h with h|h
 ·obtain rfl:n=0:=by omega
  go_enter Tryz.func177,Tryz.ntmps177
  go_wp2;exact bodyPost_ret (v:=.tuple #[.slice none 0 0,.int .i64 7]) (by simp[results,Tryz.results177,go_sem]) rfl ⟨rfl,Below.refl _ _⟩
 ·have h0:¬((n:Int)<1):=by omega
  have h2:(1048576:Int)<(n:Int):=by omega
  go_enter Tryz.func177,Tryz.ntmps177
  go_wp2;exact bodyPost_ret (v:=.tuple #[.slice none 0 0,.int .i64 7]) (by simp[results,Tryz.results177,go_sem]) rfl ⟨rfl,Below.refl _ _⟩
theorem zp5 (xs:List Int) (ad:Option Addr) (cap:Nat) (w:World) (hr:RowAt .i64 w ad xs) (hx:zad xs) (h0:1<=xs.length) (h1:xs.length<=1048576) (h:¬∀ x ∈ xs,zaa x) :
  Calls Tryz.prog 177 #[.slice ad xs.length cap] w λe w'=>e=.returned (.tuple #[.slice none 0 0,.int .i64 7])/\Below w.heap.size w w':=by
 have HR:=za hr;have HX:=za hx;have HH:=za h;clear hr hx h;obtain⟨n,hn⟩:∃ n,xs.length=n:=⟨_,rfl⟩;have HN:=za hn;rw[hn]at h0 h1 ⊢;clear hn
 go_enter Tryz.func177,Tryz.ntmps177
 go_wp2
 go_loop [25] (λi=>∃ k:Nat,k<=n/\i=.int .i64 (k:Int)/\∀ j,j<k->zaa (xs.getD j 0)) (λi=>n-(intOf i).toNat)
 case atStart=>exact⟨0,by omega,rfl,λj hj=>absurd hj (Nat.not_lt_zero _)⟩
 case round =>
  obtain⟨k,hk,rfl,hs⟩:=hrel;have HS:=za hs;clear hs
  by_cases hlt:k<n
  ·obtain⟨b,off,rfl,hc⟩:=HR.out.get (show k<xs.length by rw[HN.out];exact hlt);obtain⟨x0,x1⟩:=HX.out k (by rw[HN.out];exact hlt);have CA:=λw=>zex (xs.getD k 0) x0 x1 w
   have I:=zg1 x0 x1
   by_cases g:zaa (xs.getD k 0)
   ·have g2:=I.2 g;have HG:=za g;clear g I;generalize hx:xs.getD k 0=x at hc x0 x1 CA g2;have HXX:=za hx;clear hx;generalize zaI x=y at *
    go_wp2_with (go_at_call 208;(with_reducible refine(CA _).mono ?_);rintro e w1 ⟨rfl,rfl⟩)
    go_round
    case rel=>exact⟨k+1,by omega,by go_num,λj hj=>by
     by_cases e:j=k
     ·subst e;exact HG.out
     ·exact HS.out j (by omega)⟩
    case measure=>simp[intOf];omega
   ·have g2:1099511627776<zaI (xs.getD k 0):=by
     by_cases q:zaI (xs.getD k 0)<=1099511627776
     ·exact absurd (I.1 q) g
     ·omega
    clear g I;generalize xs.getD k 0=x at hc x0 x1 CA g2;generalize zaI x=y at *
    go_wp2_with (go_at_call 208;(with_reducible refine(CA _).mono ?_);rintro e w1 ⟨rfl,rfl⟩)
    exact bodyPost_ret (v:=.tuple #[.slice none 0 0,.int .i64 7]) (by simp[results,Tryz.results177,go_sem]) rfl ⟨rfl,Below.refl _ _⟩
  ·exfalso
   exact HH.out (zji λj hj=>HS.out j (by rw[HN.out]at hj;omega))
theorem zgD (s:Int) (l:List Int) (x:Int):zU s (l++[x])=zU s l++[zaf s x]:=by unfold zU;rw[List.map_append];rfl
theorem zn7 (s:Int) (l:List Int) (x:Int):zay s (l++[x])=zay s l++[zbb s x]:=by unfold zay;rw[List.map_append];rfl
theorem zfz (s:Int) (l:List Int):(zU s l).length=l.length:=by unfold zU;simp
theorem zg3 (s:Int) (l:List Int):(zay s l).length=l.length:=by unfold zay;simp
theorem zbE {s x:Int} (s0:268435456<=s) (h:zaa x) : -67108864<=zaf s x/\zaf s x<=67108864/\0<=x*16384-zaf s x*s/\x*16384-zaf s x*s<s:=by
 obtain⟨q,_,r0,r1,_⟩:=zfL (s:=s) (by omega) h;unfold zaa at h;have up:x*16384 / s<=67108864:=by
  have:x*16384 / s<67108865:=Int.ediv_lt_of_lt_mul (by omega) (by
   have:=Int.mul_le_mul_of_nonneg_left s0 (show(0:Int)<=67108865 by omega);omega)
  omega
 have dn : -67108864<=x*16384 / s:=by
  apply Int.le_ediv_of_mul_le (by omega)
  have:=Int.mul_le_mul_of_nonneg_left s0 (show(0:Int)<=67108864 by omega);rw[Int.neg_mul];omega
 refine⟨by omega,by omega,?_,?_⟩
 ·have:zbb s x=x*16384-zaf s x*s:=rfl;omega
 ·have:zbb s x=x*16384-zaf s x*s:=rfl;omega
theorem zjz {s:Int} (s0:268435456<=s) (l:List Int) (h:∀ x ∈ l,zaa x) : -((l.length:Int)*67108864)<=(zU s l).sum/\(zU s l).sum<=(l.length:Int)*67108864:=by
 induction l with
 |nil=>simp[zU]
 |cons a l ih =>
  obtain⟨c0,c1⟩:=ih (λx hx=>h x (by simp[hx]));obtain⟨d0,d1,_⟩:=zbE s0 (h a (by simp));have e:(zU s (a :: l)).sum=zaf s a+(zU s l).sum:=by unfold zU;simp
  rw[e,show((a :: l).length:Int)=(l.length:Int)+1 by simp];omega
theorem zqE (xs:List Int) (ad:Option Addr) (cap:Nat) (w:World) (hr:RowAt .i64 w ad xs) (hx:zad xs) (h0:1<=xs.length) (h1:xs.length<=1048576) (h:∀ x ∈ xs,zaa x) (hs:zq xs<268435456) :
  Calls Tryz.prog 177 #[.slice ad xs.length cap] w λe w'=>e=.returned (.tuple #[.slice none 0 0,.int .i64 8])/\Below w.heap.size w w':=by
 have CS:=λw hr=>zjS xs ad cap w hr hx (by omega)
 have HR:=za hr;have HX:=za hx;have HH:=za h;clear hr hx h;obtain⟨n,hn⟩:∃ n,xs.length=n:=⟨_,rfl⟩;have HN:=za hn;rw[hn]at h0 h1 CS ⊢;generalize zq xs=s at *;clear hn
 go_enter Tryz.func177,Tryz.ntmps177
 go_wp2
 go_loop [25] (λi=>∃ k:Nat,k<=n/\i=.int .i64 (k:Int)) (λi=>n-(intOf i).toNat)
 case atStart=>exact⟨0,by omega,rfl⟩
 case round =>
  obtain⟨k,hk,rfl⟩:=hrel
  by_cases hlt:k<n
  ·obtain⟨b,off,rfl,hc⟩:=HR.out.get (show k<xs.length by rw[HN.out];exact hlt);obtain⟨x0,x1⟩:=HX.out k (by rw[HN.out];exact hlt);have CA:=λw=>zex (xs.getD k 0) x0 x1 w
   have g2:=(zg1 x0 x1).2 (zbn HH.out (by rw[HN.out];exact hlt));generalize xs.getD k 0=x at hc x0 x1 CA g2;generalize zaI x=y at *
   go_wp2_with (go_at_call 208;(with_reducible refine(CA _).mono ?_);rintro e w1 ⟨rfl,rfl⟩)
   go_round
   case rel=>exact⟨k+1,by omega,by go_num⟩
   case measure=>simp[intOf];omega
  ·obtain rfl:k=n:=by omega
   go_wp2_with (go_at_call 209;(with_reducible refine(CS _ HR.out).mono ?_);rintro e w1 ⟨rfl,rfl⟩)
   exact bodyPost_ret (v:=.tuple #[.slice none 0 0,.int .i64 8]) (by simp[results,Tryz.results177,go_sem]) rfl ⟨rfl,Below.refl _ _⟩
set_option maxHeartbeats 4000000 in
set_option maxRecDepth 1000000 in
theorem zi5 (xs:List Int) (ad:Option Addr) (cap:Nat) (w:World) (hr:RowAt .i64 w ad xs) (hx:zad xs) (hf:Fits xs) :
  Calls Tryz.prog 177 #[.slice ad xs.length cap] w λe w'=>∃ v,e=.returned (.tuple #[v,.int .i64 0])/\OwnI .i64 2 w' w.heap.size v (zG xs)/\Below w.heap.size w w':=by
 have HF:=za hf;obtain⟨h0,h1,h,s0⟩:=hf;obtain⟨i0,hi,hz0,hz1,hz2⟩:=info_parts zg8;have CS:=λw hr=>zjS xs ad cap w hr hx (by omega)
 have s1:=(zgL xs).2;have HR:=za hr;have HX:=za hx;have HH:=za h;clear hr hx h;obtain⟨n,hn⟩:∃ n,xs.length=n:=⟨_,rfl⟩;have HN:=za hn;rw[hn]at h0 h1 CS ⊢;obtain⟨s,hs⟩:∃ s,zq xs=s:=⟨_,rfl⟩;have HS:=za hs;rw[hs]at s0 s1 CS;have ub:s<=1152921504606846976:=by
  obtain⟨a,_,b⟩:=zg2 xs HH.out (by omega);rw[←hs,a];rw[hn]at b;omega
 clear hn hs
 go_enter Tryz.func177,Tryz.ntmps177
 go_wp2
 go_loop [25] (λi=>∃ k:Nat,k<=n/\i=.int .i64 (k:Int)) (λi=>n-(intOf i).toNat)
 case atStart=>exact⟨0,by omega,rfl⟩
 case round =>
  obtain⟨k,hk,rfl⟩:=hrel
  by_cases hlt:k<n
  ·obtain⟨b,off,rfl,hc⟩:=HR.out.get (show k<xs.length by rw[HN.out];exact hlt);obtain⟨x0,x1⟩:=HX.out k (by rw[HN.out];exact hlt);have CA:=λw=>zex (xs.getD k 0) x0 x1 w
   have g2:=(zg1 x0 x1).2 (zbn HH.out (by rw[HN.out];exact hlt));generalize xs.getD k 0=x at hc x0 x1 CA g2;generalize zaI x=y at *
   go_wp2_with (go_at_call 208;(with_reducible refine(CA _).mono ?_);rintro e w1 ⟨rfl,rfl⟩)
   go_round
   case rel=>exact⟨k+1,by omega,by go_num⟩
   case measure=>simp[intOf];omega
  ·obtain rfl:k=n:=by omega
   clear hlt hk
   go_wp2_with (go_at_call 209;(with_reducible refine(CS _ HR.out).mono ?_);rintro e w1 ⟨rfl,rfl⟩)
   clear CS
   go_loopw [7,8,9,39] (λu v t i wr=>∃ j:Nat,j<=k/\i=.int .i64 (j:Int)/\OwnI .i64 2 wr w.heap.size u (zU s (xs.take j))/\OwnI .i64 2 wr w.heap.size v (zay s (xs.take j))/\Apart u v/\t=.int .i64 (16384-(zU s (xs.take j)).sum)/\Below w.heap.size w wr) (λ_ _ _ i _=>k-(intOf i).toNat)
   case atStart=>exact⟨0,by omega,rfl,OwnI.nil _ _ _ _,OwnI.nil _ _ _ _,Apart.nil _,rfl,Below.refl _ _⟩
   case round =>
    obtain⟨j,hj,rfl,ho,hq,hap,rfl,hb⟩:=hrel;have HO:=za ho;have HQ:=za hq;have HA:=za hap;have HB:=za hb;clear ho hq hap hb
    by_cases hlt:j<k
    ·obtain⟨b,off,rfl,hc⟩:=(HR.out.below HB.out).get (show j<xs.length by rw[HN.out];exact hlt);have hsm:=zbn HH.out (show j<xs.length by rw[HN.out];exact hlt);obtain⟨q0,q1,r0,r1⟩:=zbE s0 hsm;have CF:=λw=>zfV (xs.getD j 0*16384) s (by unfold zaa at hsm;omega) (by unfold zaa at hsm;omega) (by omega) (by omega) w
     rw[show zcZ (xs.getD j 0*16384) s=zaf s (xs.getD j 0) from rfl]at CF;have HT:=za (zb1 xs (show j<xs.length by rw[HN.out];exact hlt));have HRW:=za (show zbb s (xs.getD j 0)=xs.getD j 0*16384-zaf s (xs.getD j 0)*s from rfl);have sq:=zjz s0 (xs.take j) (λx hx=>HH.out x (List.mem_of_mem_take hx));have tl:(xs.take j).length=j:=by rw[List.length_take];have:=HN.out;omega
     rw[tl]at sq;have HL1:=za ((zfz s (xs.take j)).trans tl);have HL2:=za ((zg3 s (xs.take j)).trans tl);obtain⟨sq0,sq1⟩:=sq;clear tl;unfold zaa at hsm;obtain⟨x0,x1⟩:=hsm;generalize xs.getD j 0=x at *;generalize hqe:zaf s x=q at *;generalize hse:(zU s (xs.take j)).sum=S at *;have HQE:=za hqe;have HSE:=za hse;clear hqe hse
     go_wp2_with (first
      |(go_at_call 210;(with_reducible refine(CF _).mono ?_);rintro e w2 ⟨rfl,b2⟩)
      |(at_builtin;refine zcd _ rfl (.tmp 47) (.tmp 49) 28 rfl w.heap.size 2 i0 (.int .i64 0) 1 8 Tryz.underlying28 hi hz0 hz1 hz2 rfl (by decide) _ _ _ rfl ((HO.out.below b2).alloc _) ⟨w2.heap.size,0,none⟩ 1 1 [.int .i64 q] rfl rfl (zeg _ _ _) (zeS _ _) (by rw[HL1.out];unfold maxLen;omega) (by rw[HL1.out];omega) (by have:=HB.out.size;have:=b2.size;simp;omega) ?_;intro u' w3 own3 grow3 ap3)
      |(at_builtin;refine zcd _ rfl (.tmp 51) (.tmp 58) 28 rfl w.heap.size 2 i0 (.int .i64 0) 1 8 Tryz.underlying28 hi hz0 hz1 hz2 rfl (by decide) _ _ _ rfl ((OwnI.kept ((HQ.out.below b2).alloc _) grow3 HA.out.symm).alloc _) ⟨w3.heap.size,0,none⟩ 1 1 [.int .i64 (x*16384-q*s)] rfl rfl (zeg _ _ _) (zeS _ _) (by rw[HL2.out];unfold maxLen;omega) (by rw[HL2.out];omega) (by have:=HB.out.size;have:=b2.size;have g3:=grow3.size;simp at g3 ⊢;omega) ?_;intro v' w4 own4 grow4 ap4))
     have O3:OwnI .i64 2 w3 w.heap.size u' (zU s (xs.take j)++[q]):=OwnI.append own3;have Q4:OwnI .i64 2 w4 w.heap.size v' (zay s (xs.take j)++[x*16384-q*s]):=OwnI.append own4;have A3:=Apart.grown HA.out ((HQ.out.below b2).alloc _).lt ap3;have O4:=OwnI.kept (O3.alloc _) grow4 A3;have A4:=Apart.grown A3.symm (O3.alloc _).lt ap4;have B2:=bt HB.out b2;have B3:=(B2.alloc B2.size _).grown grow3 (by have:=B2.size;simp;omega) (λg hg=>(World.ownsRow.lt (HO.out.below b2) g hg).1);have B4:=(B3.alloc B3.size _).grown grow4 (by have:=B3.size;simp;omega) (λg hg=>(World.ownsRow.lt (OwnI.kept ((HQ.out.below b2).alloc _) grow3 HA.out.symm) g hg).1);have H4:=za (And.intro O4 (And.intro Q4 (And.intro A4 B4)));clear own3 own4 grow3 grow4 ap3 ap4 O3 Q4 A3 O4 A4 B2 B3 B4 b2 CF;go_wp2
     go_roundw
     case rel =>
      obtain⟨O4,Q4,A4,B4⟩:=H4.out;refine⟨j+1,by omega,by go_num,?_,?_,A4.symm,?_,B4⟩
      ·rw[HT.out,zgD,HQE.out];exact O4
      ·rw[HT.out,zn7,HRW.out];exact Q4
      ·rw[HT.out,zgD,HQE.out,List.sum_append,HSE.out,List.sum_singleton,show 16384-(S+q)=16384-S-q by omega]
     case measure=>simp[intOf];omega
    ·obtain rfl:j=k:=by omega
     have et:xs.take j=xs:=List.take_of_length_le (by rw[HN.out];exact Nat.le_refl _);obtain⟨ad1,cap1,rfl,_,f1,f2,_⟩:=HO.out.form;obtain⟨ad2,cap2,rfl,_,f3,f4,_⟩:=HQ.out.form;have HQ0:=HQ.out;have HO0:=HO.out;have HA0:=HA.out;clear HO HQ HA;rw[et]at f1 f3 HO0 HQ0 HA0 ⊢;rw[zfz,HN.out]at HO0 HA0 ⊢;rw[zg3,HN.out]at HQ0 HA0 ⊢;clear et;obtain⟨a1,rfl⟩:∃ a,ad1=some a:=by
      cases ad1 with
      |none=>have e:=(f1 rfl).1;have l:=zfz s xs;rw[e,HN.out]at l;simp at l;omega
      |some a=>exact⟨a,rfl⟩
     obtain⟨a2,rfl⟩:∃ a,ad2=some a:=by
      cases ad2 with
      |none=>have e:=(f3 rfl).1;have l:=zg3 s xs;rw[e,HN.out]at l;simp at l;omega
      |some a=>exact⟨a,rfl⟩
     obtain⟨g1,rfl,gb1,_⟩:=f2 _ rfl;obtain⟨g2,rfl,gb2,_⟩:=f4 _ rfl;have hne:g2≠g1:=λe=>HA0 g1 rfl (by rw[e];rfl)
     obtain⟨ST,L0,_⟩:=zf6 HF.out;rw[HS.out]at ST L0;rw[HN.out]at ST;have EX:zG xs=(zk (zU s xs) (zay s xs) (zbg s xs).toNat).1:=by unfold zG;rw[HS.out]
     obtain⟨lf,hlf⟩:∃ lf:Nat,zbg s xs=(lf:Int):=⟨(zbg s xs).toNat,by omega⟩;rw[show(zbg s xs).toNat=lf by omega]at ST EX;rw[show(16384-(zU s xs).sum:Int)=(lf:Int) from hlf];have lb:(lf:Int)<=70368744194048:=by
      have:=(zjz s0 xs HH.out).1;rw[HN.out]at this;have e:zbg s xs=16384-(zU s xs).sum:=rfl;omega
     have QI:∀ b,b<j->-67108864<=(zU s xs).getD b 0/\(zU s xs).getD b 0<=67108864:=by
      intro b hb;unfold zU;rw[zfQ _ _ (by rw[HN.out];exact hb)];have:=zbE s0 (zbn HH.out (show b<xs.length by rw[HN.out];exact hb));exact⟨this.1,this.2.1⟩
     have HST:=za ST;have HEX:=za EX;have HQI:=za QI;have HO:=za HO0;have HQ:=za HQ0;generalize zU s xs=Q0 at *;generalize zay s xs=R0 at *;clear f1 f2 f3 f4 HA0 HO0 HQ0 ST EX QI L0 hlf hlt hj;go_wp2
     go_loopg [9] lf (λr t wq=>∃ m:Nat,m+r=lf/\t=.int .i64 ((lf:Int)-(m:Int))/\OwnI .i64 2 wq w.heap.size (.slice (some ⟨g1,0,none⟩) j cap1) (zk Q0 R0 m).1/\OwnI .i64 2 wq w.heap.size (.slice (some ⟨g2,0,none⟩) j cap2) (zk Q0 R0 m).2/\Below w.heap.size w wq)
     case atStart=>exact⟨0,by omega,by simp,HO.out,HQ.out,HB.out⟩
     case round =>
      clear HO HQ HB;obtain⟨m,hm,rfl,ho,hq,hb⟩:=hrel;obtain⟨G,hG⟩:∃ G,G=gk:=⟨_,rfl⟩;subst hG;obtain⟨W,hW⟩:∃ W,W=wr:=⟨_,rfl⟩;subst hW;have HM:=za hm;have HO:=za ho;have HQ:=za hq;have HB:=za hb;obtain⟨l1,l2⟩:=ze4 Q0 R0 m;rw[HST.out.ql]at l1;rw[HST.out.rl]at l2;have HL1:=za l1;have HL2:=za l2;clear hm ho hq hb l1 l2
      by_cases hlt:m<lf
      ·go_wp2
       go_loopg [13,68] j (λr b i wi=>∃ t:Nat,t+r=j/\i=.int .i64 (t:Int)/\b=.int .i64 ((zF (zk Q0 R0 m).2 t:Nat):Int)/\Below W.heap.size W wi)
       case atStart=>exact⟨0,by omega,rfl,rfl,Below.refl _ _⟩
       case round =>
        obtain⟨t,ht,rfl,rfl,hb⟩:=hrel;have HT:=za ht;have HB2:=za hb;have BL:=zid (zk Q0 R0 m).2 t;have HBS:=za (show zF (zk Q0 R0 m).2 (t+1)=if(zk Q0 R0 m).2.getD (zF (zk Q0 R0 m).2 t) 0<(zk Q0 R0 m).2.getD t 0 then t else zF (zk Q0 R0 m).2 t from rfl);have tj:t<=j:=by omega
        clear ht hb
        by_cases hlt2:t<j
        ·have c1:=(HQ.out.below HB2.out).cellAt HL2.out hlt2;have c2:=(HQ.out.below HB2.out).cellAt HL2.out (show zF (zk Q0 R0 m).2 t<j by omega);have bj:zF (zk Q0 R0 m).2 t<j:=by omega
         clear BL
         by_cases g:(zk Q0 R0 m).2.getD (zF (zk Q0 R0 m).2 t) 0<(zk Q0 R0 m).2.getD t 0
         ·have e:=HBS.out;rw[if_pos g]at e;have HE:=za e;clear e HBS;generalize zF (zk Q0 R0 m).2 t=B at *;generalize (zk Q0 R0 m).2.getD B 0=y at *;generalize (zk Q0 R0 m).2.getD t 0=x at *
          go_wp2_with fail
          go_quiet (fail)
          go_wp2
          go_roundg (gk-1)
          case measure=>have:=HT.out;omega
          case rel=>exact⟨t+1,by have:=HT.out;omega,by go_num,by rw[HE.out],bdN HB2.out _⟩
         ·have e:=HBS.out;rw[if_neg g]at e;have HE:=za e;clear e HBS;generalize zF (zk Q0 R0 m).2 t=B at *;generalize (zk Q0 R0 m).2.getD B 0=y at *;generalize (zk Q0 R0 m).2.getD t 0=x at *
          go_wp2_with fail
          go_quiet (fail)
          go_wp2
          go_roundg (gk-1)
          case measure=>have:=HT.out;omega
          case rel=>exact⟨t+1,by have:=HT.out;omega,by go_num,by rw[HE.out],bdN HB2.out _⟩
        ·obtain rfl:t=j:=by omega
         have bj:zF (zk Q0 R0 m).2 t<t:=by omega
         have E1:=za (show(zk Q0 R0 (m+1)).1=(zk Q0 R0 m).1.set (zF (zk Q0 R0 m).2 t) ((zk Q0 R0 m).1.getD (zF (zk Q0 R0 m).2 t) 0+1) by
          have:=HL2.out
          show(zk Q0 R0 m).1.set (zF (zk Q0 R0 m).2 (zk Q0 R0 m).2.length) ((zk Q0 R0 m).1.getD (zF (zk Q0 R0 m).2 (zk Q0 R0 m).2.length) 0+1)=_
          rw[this])
         have E2:=za (show(zk Q0 R0 (m+1)).2=(zk Q0 R0 m).2.set (zF (zk Q0 R0 m).2 t) (-1) by
          have:=HL2.out
          show(zk Q0 R0 m).2.set (zF (zk Q0 R0 m).2 (zk Q0 R0 m).2.length) (-1)=_
          rw[this])
         have ob : -67108864<=(zk Q0 R0 m).1.getD (zF (zk Q0 R0 m).2 t) 0/\(zk Q0 R0 m).1.getD (zF (zk Q0 R0 m).2 t) 0<=67108865:=by
          have q:=HQI.out _ bj;rcases(zjv HST.out m (by have:=HM.out;omega)).each _ bj with e|e
          ·have:=e.2;omega
          ·have:=e.2.1;omega
         obtain⟨ob0,ob1⟩:=ob;have OO:=HO.out.below HB2.out;have QQ:=HQ.out.below HB2.out;have c1:=OO.cellAt HL1.out bj;have z1:=OO.frozenAt HL1.out (zF (zk Q0 R0 m).2 t);have QS:=OwnI.other (u:=.int .i64 ((zk Q0 R0 m).1.getD (zF (zk Q0 R0 m).2 t) 0+1)) QQ g1 (zF (zk Q0 R0 m).2 t) hne.symm;have c2:=QS.cellAt HL2.out bj;have z2:=QS.frozenAt HL2.out (zF (zk Q0 R0 m).2 t);have HF3:=za (OwnI.other (u:=.int .i64 (-1)) (OO.stored HL1.out (zF (zk Q0 R0 m).2 t) ((zk Q0 R0 m).1.getD (zF (zk Q0 R0 m).2 t) 0+1)) g2 (zF (zk Q0 R0 m).2 t) hne);have HF4:=za (QS.stored HL2.out (zF (zk Q0 R0 m).2 t) (-1));have HF5:=za (bs (bs (bt HB.out HB2.out) gb1 (b:=g1) (o:=zF (zk Q0 R0 m).2 t) (.int .i64 ((zk Q0 R0 m).1.getD (zF (zk Q0 R0 m).2 t) 0+1))) gb2 (b:=g2) (o:=zF (zk Q0 R0 m).2 t) (.int .i64 (-1)));clear OO QQ QS BL HBS;generalize zF (zk Q0 R0 m).2 t=B at *;generalize (zk Q0 R0 m).1.getD B 0=a at *;go_wp2
         go_roundg (G-1)
         case measure=>have:=HM.out;omega
         case rel=>exact⟨m+1,by have:=HM.out;omega,by go_num,by rw[E1.out];exact HF3.out,by rw[E2.out];exact HF4.out,HF5.out⟩
      ·obtain rfl:m=lf:=by have:=HM.out;omega
       have O5:=za (show OwnI .i64 2 W w.heap.size (.slice (some ⟨g1,0,none⟩) j cap1) (zG xs) by rw[HEX.out];exact HO.out);clear HO HQ;go_wp2;exact bodyPost_ret (v:=.tuple #[.slice (some ⟨g1,0,none⟩) j cap1,.int .i64 0]) (by simp[results,Tryz.results177,go_sem]) rfl ⟨_,rfl,O5.out,HB.out⟩
end Go.Proofs.YtlodkoimdoeopaaGreatDoor
