/- Parts, joined. -/
import Derived.Test.YtlodkoimdoeopaaGreatDoorP12
import Derived.Test.YtlodkoimdoeopaaGreatDoorP10
import Derived.Test.YtlodkoimdoeopaaGreatDoorP03
import Derived.Test.YtlodkoimdoeopaaGreatDoorP08
import Derived.Laws.BitsLemmas
import Derived.Deep.LoopGhost
import Derived.Deep.RegionHeld3
import Derived.Deep.QuietTactic
import Derived.BigQuiet
namespace Go.Proofs.YtlodkoimdoeopaaGreatDoor
open Go.RowKit
structure Opr where
 kd:Int
 bd:Int
 sg:Int
 rd:Int
 xs:List Int
 ys:List Int
 fl:Int
 wd:Int
 ht:Int
def zbz (o:Opr):Int:=if o.kd=0 then zbh o.sg else if o.kd=1 then za9 o.rd else if zX o.xs≠0 then zX o.xs else zX o.ys
def wX (o:Opr):List Int:=if o.kd=0 then zS o.sg else if o.kd=1 then zL o.rd else zJ o.xs
def wY (o:Opr):List Int:=if o.kd=0 then zS o.sg else if o.kd=1 then zL o.rd else zJ o.ys
def okO (o:Opr) (w h:Int):Bool:=decide (0<=o.kd) && decide (o.kd<=3) && decide (0<=o.bd) && decide (o.bd<=2) && zcQ w && zcQ h && (decide (o.kd≠3) || (zcQ o.wd && zcQ o.ht && decide (0<=o.fl) && decide (o.fl<=2)))
theorem zbq (o:Opr) (w h:Int):okO o w h=true↔(0<=o.kd/\o.kd<=3)/\(0<=o.bd/\o.bd<=2)/\(1<=w/\w<=65536)/\(1<=h/\h<=65536)/\(o.kd=3->(1<=o.wd/\o.wd<=65536)/\(1<=o.ht/\o.ht<=65536)/\0<=o.fl/\o.fl<=2):=by
 unfold okO;simp only[Bool.and_eq_true,Bool.or_eq_true,decide_eq_true_eq,zcu]
 constructor
 ·rintro ⟨⟨⟨⟨⟨⟨a,b⟩,c⟩,d⟩,e⟩,f⟩,g⟩;refine⟨⟨a,b⟩,⟨c,d⟩,e,f,λh3=>?_⟩;rcases g with g|⟨⟨⟨g1,g2⟩,g3⟩,g4⟩
  ·exact absurd h3 g
  ·exact⟨g1,g2,g3,g4⟩
 ·rintro ⟨⟨a,b⟩,⟨c,d⟩,e,f,g⟩;refine⟨⟨⟨⟨⟨⟨a,b⟩,c⟩,d⟩,e⟩,f⟩,?_⟩
  by_cases h3:o.kd=3
  ·obtain⟨g1,g2,g3,g4⟩:=g h3;exact .inr ⟨⟨⟨g1,g2⟩,g3⟩,g4⟩
  ·exact .inl h3
def zeA (o:Opr) (w:Int):Int:=if o.kd=3 then zN o.fl w o.wd else zu (wX o) w
def zeI (o:Opr) (h:Int):Int:=if o.kd=3 then zN o.fl h o.ht else zu (wY o) h
def zbG (o:Opr) (w:Int):List (Int×List Int):=if o.kd=3 then zt o.fl w o.wd o.wd.toNat else zQ (wX o) w.toNat
def zbi (o:Opr) (h:Int):List (Int×List Int):=if o.kd=3 then zt o.fl h o.ht o.ht.toNat else zQ (wY o) h.toNat
def zB (o:Opr) (w h:Int):Int:=if okO o w h=false then 6 else if o.kd≠3/\zbz o≠0 then zbz o else if zeA o w≠0 then zeA o w else zeI o h
def toW (o:Opr) (w:Int):Int:=if o.kd=3 then o.wd else w
def toH (o:Opr) (h:Int):Int:=if o.kd=3 then o.ht else h
structure Stg where
 lx:List (Int×List Int)
 ly:List (Int×List Int)
 fx:Int
 fy:Int
 sb:Int
def zj (o:Opr) (w h:Int):Stg:=⟨zbG o w,zbi o h,w,h,o.bd⟩
def op0:Opr:=⟨0,0,0,0,[],[],0,0,0⟩
def zh (L:List Opr) (j:Nat):Opr:=L.getD j op0
def zl (L:List Opr) (w h:Int):Nat->Int×Int
 |0=>(w,h)
 |k+1=>(toW (zh L k) (zl L w h k).1,toH (zh L k) (zl L w h k).2)
def zaL (L:List Opr) (w h c:Int) (k:Nat):Int :=
 if zB (zh L k) (zl L w h k).1 (zl L w h k).2≠0 then zB (zh L k) (zl L w h k).1 (zl L w h k).2 else if zaJ (zl L w h (k+1)).1 (zl L w h (k+1)).2 c=true then 0 else 5
def zaj (L:List Opr) (w h c:Int):Nat->Int
 |0=>0
 |k+1=>if zaj L w h c k≠0 then zaj L w h c k else zaL L w h c k
def zaA (L:List Opr) (w h c:Int):Int:=if 16<L.length then 6 else if zaJ w h c=false then 5 else zaj L w h c L.length
def zD (L:List Opr) (w h:Int) (k:Nat):Stg:=zj (zh L k) (zl L w h k).1 (zl L w h k).2
theorem zh8 {L:List Opr} {w h c:Int} {a:Nat} (n:zaj L w h c a≠0) {b:Nat} (hb:a<=b):zaj L w h c b=zaj L w h c a:=by
 induction b with
 |zero=>rw[Nat.le_zero.1 hb]
 |succ b ih =>
  rcases Nat.lt_or_ge b a with h1|h1
  ·rw[show b+1=a by omega]
  ·have:=ih h1
   show(if zaj L w h c b≠0 then zaj L w h c b else zaL L w h c b)=_
   rw[if_pos (by rw[this];exact n),this]
theorem zgv {L:List Opr} {w h c:Int} {k n:Nat} (hf:zaj L w h c k=0) (hs:zaL L w h c k≠0) (hk:k<n):zaj L w h c n=zaL L w h c k:=by
 have e:zaj L w h c (k+1)=zaL L w h c k:=by
  show(if zaj L w h c k≠0 then zaj L w h c k else zaL L w h c k)=_
  rw[if_neg (by rw[hf];decide)]
 rw[zh8 (a:=k+1) (by rw[e];exact hs) (by omega),e]
theorem zi3 {L:List Opr} {w h c:Int} {k:Nat} (hf:zaj L w h c k=0) (hs:zaL L w h c k=0):zaj L w h c (k+1)=0:=by
 show(if zaj L w h c k≠0 then zaj L w h c k else zaL L w h c k)=_
 rw[if_neg (by rw[hf];decide),hs]
theorem ze2 {L:List Opr} {w h c:Int} {n:Nat} (hf:zaj L w h c n=0) {k:Nat} (hk:k<n):zaj L w h c k=0/\zaL L w h c k=0:=by
 have a:zaj L w h c k=0:=by
  by_cases e:zaj L w h c k=0
  ·exact e
  ·have:=zh8 e (Nat.le_of_lt hk);rw[hf]at this;exact this.symm
 refine⟨a,?_⟩
 by_cases e:zaL L w h c k=0
 ·exact e
 ·have:=zgv a e hk;rw[hf]at this;exact this.symm
theorem zhC {s:Int} (h:zbh s=0):(zS s).length % 2=1/\(zS s).length<=1048576:=by
 unfold zbh at h;unfold zS
 split at h
 ·rename_i hs
  rw[if_pos hs];unfold zc0;rw[zcx];have:(zdO s).toNat<=192:=by unfold zdO;omega
  omega
 ·omega
theorem zfb (l:List Int):(zbP l).length=l.length:=by unfold zbP;rw[List.length_map]
theorem zeG {l:List Int} (h:zX l=0):(zJ l).length % 2=1/\(zJ l).length<=1048576:=by
 unfold zX at h;unfold zJ
 split at h
 ·rename_i hs
  rw[if_pos hs,zfb];have:=(zdB l).1 hs;exact⟨this.1,by have:=this.2.1;omega⟩
 ·omega
theorem zgx {r:Int} (h:za9 r=0):(zL r).length % 2=1/\(zL r).length<=1048576:=by
 unfold za9 at h;unfold zL
 split at h
 ·rename_i hs
  rw[if_pos hs,zfb,List.length_replicate];omega
 ·omega
theorem zx9 {o:Opr} (h:zbz o=0):(wX o).length<=1048576/\(wY o).length<=1048576:=by
 unfold zbz at h;unfold wX wY
 by_cases h0:o.kd=0
 ·rw[if_pos h0]at h ⊢;rw[if_pos h0];exact⟨(zhC h).2,(zhC h).2⟩
 rw[if_neg h0]at h ⊢;rw[if_neg h0]
 by_cases h1:o.kd=1
 ·rw[if_pos h1]at h ⊢;rw[if_pos h1];exact⟨(zgx h).2,(zgx h).2⟩
 rw[if_neg h1]at h ⊢;rw[if_neg h1]
 by_cases h2:zX o.xs≠0
 ·rw[if_pos h2]at h;exact absurd h h2
 ·rw[if_neg h2]at h;exact⟨(zeG (by omega)).2,(zeG h).2⟩
theorem ztl {l:List Int} (h:∀ x ∈ l,-9223372036854775808<=x/\x<=9223372036854775807):zad l:=λj hj=>by
 rw[List.getD_eq_getElem?_getD,List.getElem?_eq_getElem hj];exact h _ (List.getElem_mem hj)
theorem zmT (l:List Int) (hs:zP l≠0):zad (zbP l):=by
 refine ztl λx hx=>?_
 obtain⟨y,_,rfl⟩:=List.mem_map.1 hx;rw[zcg hs];exact⟨zfK _,ze8 _⟩
theorem zh9 (s:Int):zad (zS s):=by
 refine ztl λx hx=>?_
 unfold zS at hx
 split at hx
 ·obtain⟨k,_,rfl⟩:=List.mem_map.1 hx;have:=zi4 ((k:Int)-zdO s) s;omega
 ·cases hx
theorem zfC (l:List Int):zad (zJ l):=by
 unfold zJ
 by_cases h:zgf l=true
 ·rw[if_pos h];have:=(zdB l).1 h;exact zmT l (by have:=this.2.2.1;omega)
 ·rw[if_neg h];exact λj hj=>absurd hj (Nat.not_lt_zero _)
theorem zhf (r:Int):zad (zL r):=by
 unfold zL
 by_cases h:0<=r/\r<=511
 ·rw[if_pos h];exact zmT _ (by rw[zhc _ (by omega)];omega)
 ·rw[if_neg h];exact λj hj=>absurd hj (Nat.not_lt_zero _)
theorem zwo (o:Opr):zad (wX o)/\zad (wY o):=by
 unfold wX wY
 by_cases h0:o.kd=0
 ·rw[if_pos h0,if_pos h0];exact⟨zh9 _,zh9 _⟩
 rw[if_neg h0,if_neg h0]
 by_cases h1:o.kd=1
 ·rw[if_pos h1,if_pos h1];exact⟨zhf _,zhf _⟩
 rw[if_neg h1,if_neg h1];exact⟨zfC _,zfC _⟩
theorem zff {a b c:Int} (h:zaJ a b c=true):(1<=a/\a<=65536)/\(1<=b/\b<=65536)/\(c=1\/c=3):=by
 obtain⟨a0,a1,b0,b1,hc,_⟩:=zee.1 h;exact⟨⟨a0,a1⟩,⟨b0,b1⟩,hc⟩
end Go.Proofs.YtlodkoimdoeopaaGreatDoor
namespace Go.Proofs.YtlodkoimdoeopaaGreatDoor
def zjH (p n:Int):Prop:=0<=p/\p<=2/\1<=n/\n<=65536
def zmc (p n:Int):Bool:=decide (0<=p) && decide (p<=2) && decide (1<=n) && decide (n<=65536)
theorem zlz (p n:Int):zmc p n=true↔zjH p n:=by unfold zmc zjH;simp;omega
def zeH (j n:Int):Int:=if j<0 then 0 else if n<=j then n-1 else j
def zed (j n:Int):Int:=if j % (2*n)<n then j % (2*n) else 2*n-1-j % (2*n)
def atF (p j n:Int):Int:=if zmc p n=true then(if p=0 then zeH j n else if p=1 then zed j n else j % n) else 0
theorem zsM {p j n:Int} (h:¬zjH p n):atF p j n=0:=if_neg λg=>h ((zlz p n).1 g)
theorem zgU {p n:Int} (h0:0<=p) (h1:p<=2) (n0:1<=n) (n1:n<=65536):zmc p n=true:=(zlz p n).2 ⟨h0,h1,n0,n1⟩
theorem zrM {j n:Int} (n0:1<=n) (n1:n<=65536):atF 0 j n=zeH j n:=by unfold atF;rw[if_pos (zgU (by omega) (by omega) n0 n1),if_pos rfl]
theorem zqh {j n:Int} (n0:1<=n) (n1:n<=65536):atF 1 j n=zed j n:=by unfold atF;rw[if_pos (zgU (by omega) (by omega) n0 n1),if_neg (by omega),if_pos rfl]
theorem zvj {j n:Int} (n0:1<=n) (n1:n<=65536):atF 2 j n=j % n:=by unfold atF;rw[if_pos (zgU (by omega) (by omega) n0 n1),if_neg (by omega),if_neg (by omega)]
theorem zse {j n:Int} (n0:1<=n):0<=zeH j n/\zeH j n<n:=by unfold zeH;split<;>(try split)<;>omega
theorem zqW {j n:Int} (n0:1<=n):0<=zed j n/\zed j n<n:=by
 have r0:=Int.emod_nonneg j (show 2*n≠0 by omega);have r1:=Int.emod_lt_of_pos j (show 0<2*n by omega);unfold zed;split<;>omega
theorem zt2 {j n:Int} (n0:1<=n):0<=j % n/\j % n<n:=⟨Int.emod_nonneg j (by omega),Int.emod_lt_of_pos j (by omega)⟩
theorem znq {p j n:Int} (h:zjH p n):0<=atF p j n/\atF p j n<n:=by
 obtain⟨p0,p1,n0,n1⟩:=h;unfold atF;rw[if_pos (zgU p0 p1 n0 n1)]
 split
 ·exact zse n0
 ·split
  ·exact zqW n0
  ·exact zt2 n0
theorem zoI {j n:Int} (h0:0<=j) (h1:j<n):zeH j n=j:=by unfold zeH;rw[if_neg (by omega),if_neg (by omega)]
theorem znz {j n:Int} (h0:0<=j) (h1:j<n):zed j n=j:=by unfold zed;rw[Int.emod_eq_of_lt h0 (by omega),if_pos h1]
theorem zuP {p j n:Int} (h:zjH p n) (h0:0<=j) (h1:j<n):atF p j n=j:=by
 obtain⟨p0,p1,n0,n1⟩:=h;unfold atF;rw[if_pos (zgU p0 p1 n0 n1),zoI h0 h1,znz h0 h1,Int.emod_eq_of_lt h0 h1]
 split
 ·rfl
 ·split<;>rfl
end Go.Proofs.YtlodkoimdoeopaaGreatDoor
namespace Go.Proofs.YtlodkoimdoeopaaGreatDoor
open Go.RowKit
theorem zkL (a b:Int):IntKind.i64.wrap (IntKind.i64.wrap a+b)=IntKind.i64.wrap (a+b):=by rw[IntKind.wrap_i64,IntKind.wrap_i64,IntKind.wrap_i64];omega
theorem zmJ (a b:Int):IntKind.i64.wrap (a+IntKind.i64.wrap b)=IntKind.i64.wrap (a+b):=by rw[Int.add_comm,zkL,Int.add_comm]
theorem zxT (a:Int):∃ q,IntKind.i64.wrap a=a+18446744073709551616*q:=by
 rw[IntKind.wrap_i64];refine⟨-((a+9223372036854775808) / 18446744073709551616),?_⟩;have:=Int.mul_ediv_add_emod (a+9223372036854775808) 18446744073709551616;omega
theorem zxO {a b q:Int} (h:a=b+18446744073709551616*q):IntKind.i64.wrap a=IntKind.i64.wrap b:=by
 rw[IntKind.wrap_i64,IntKind.wrap_i64,h];omega
theorem zwX (a b:Int):IntKind.i64.wrap (IntKind.i64.wrap a*b)=IntKind.i64.wrap (a*b):=by
 obtain⟨q,hq⟩:=zxT a;rw[hq];exact zxO (q:=q*b) (by rw[Int.add_mul,Int.mul_assoc])
theorem zuC (a b:Int):IntKind.i64.wrap (a*IntKind.i64.wrap b)=IntKind.i64.wrap (a*b):=by rw[Int.mul_comm,zwX,Int.mul_comm]
theorem zyc (a:Int) : -9223372036854775808<=IntKind.i64.wrap a/\IntKind.i64.wrap a<=9223372036854775807:=by rw[IntKind.wrap_i64];omega
theorem za3 {a:Int} (h0 : -9223372036854775808<=a) (h1:a<=9223372036854775807):IntKind.i64.wrap a=a:=by rw[IntKind.wrap_i64];omega
def zr (ts:List Int) (f:Nat->Int):Nat->Int
 |0=>0
 |k+1=>zr ts f k+ts.getD k 0*f k
theorem zbW {ts:List Int} {f g:Nat->Int} {n:Nat} (h:∀ i,i<n->f i=g i):zr ts f n=zr ts g n:=by
 induction n with
 |zero=>rfl
 |succ n ih=>show zr ts f n+_*f n=zr ts g n+_*g n;rw[ih (λi hi=>h i (by omega)),h n (by omega)]
theorem zv5 (ts:List Int) (f g:Nat->Int) (n:Nat):zr ts (λi=>f i+g i) n=zr ts f n+zr ts g n:=by
 induction n with
 |zero=>rfl
 |succ n ih =>
  show zr ts (λi=>f i+g i) n+ts.getD n 0*(f n+g n)=zr ts f n+ts.getD n 0*f n+(zr ts g n+ts.getD n 0*g n)
  rw[ih,Int.mul_add];omega
theorem zuT (ts:List Int) (u:Int) (f:Nat->Int) (n:Nat):zr ts (λi=>u*f i) n=u*zr ts f n:=by
 induction n with
 |zero=>exact(Int.mul_zero u).symm
 |succ n ih =>
  show zr ts (λi=>u*f i) n+ts.getD n 0*(u*f n)=u*(zr ts f n+ts.getD n 0*f n)
  rw[ih,Int.mul_add,←Int.mul_assoc,Int.mul_comm (ts.getD n 0) u,Int.mul_assoc]
theorem ztA (ts:List Int) (n:Nat):zr ts (λ_=>0) n=0:=by
 induction n with
 |zero=>rfl
 |succ n ih=>show zr ts (λ_=>0) n+_*0=0;rw[ih,Int.mul_zero];rfl
theorem zvF (us bs:List Int) (g:Nat->Nat->Int) (n m:Nat):zr us (λi=>zr bs (λk=>g i k) m) n=zr bs (λk=>zr us (λi=>g i k) n) m:=by
 induction n with
 |zero=>exact(ztA bs m).symm
 |succ n ih =>
  show zr us (λi=>zr bs (λk=>g i k) m) n+us.getD n 0*zr bs (λk=>g n k) m=zr bs (λk=>zr us (λi=>g i k) n+us.getD n 0*g n k) m
  rw[zv5,ih,zuT]
theorem zkv (ts:List Int) (v:Int) (n:Nat) (hn:n<=ts.length):zr ts (λ_=>v) n=(ts.take n).sum*v:=by
 induction n with
 |zero=>exact(Int.zero_mul v).symm
 |succ n ih =>
  show zr ts (λ_=>v) n+ts.getD n 0*v=_
  rw[ih (by omega),List.take_succ_eq_append_getElem (by omega),List.sum_append,List.sum_singleton,List.getD_eq_getElem?_getD,List.getElem?_eq_getElem (by omega),Int.add_mul];rfl
def zjF (I:Im) (S:Stg) (x y:Nat) (c:Int) (i k:Nat):Int:=zdi I (atF S.sb ((ze S.lx x).1+(i:Int)) I.iw) (atF S.sb ((ze S.ly y).1+(k:Int)) I.ih) c
def zdu (I:Im) (S:Stg) (x y:Nat) (c:Int):Int:=zr (ze S.lx x).2 (λi=>zr (ze S.ly y).2 (λk=>zjF I S x y c i k) (ze S.ly y).2.length) (ze S.lx x).2.length
theorem zr0 (I:Im) (S:Stg) (x y:Nat) (c:Int):zdu I S x y c=zr (ze S.ly y).2 (λk=>zr (ze S.lx x).2 (λi=>zjF I S x y c i k) (ze S.lx x).2.length) (ze S.ly y).2.length:=zvF _ _ _ _ _
def zcY (I:Im) (S:Stg) (x y:Nat) (c:Int):Int:=IntKind.i64.wrap (zdu I S x y c)
def zcD (t:Int):Int:=if t<0 then 0 else if 65535<t then 65535 else t
def zbp (s t:Int):Int:=if zW s 28<0 then 0 else if zcD t<zW s 28 then zcD t else zW s 28
theorem zjl (t:Int):0<=zcD t/\zcD t<=65535:=by unfold zcD;split<;>(try split)<;>omega
theorem zfv {t:Int} (h0:0<=t) (h1:t<=65535):zcD t=t:=by unfold zcD;rw[if_neg (by omega),if_neg (by omega)]
theorem zf9 (s t:Int):0<=zbp s t/\zbp s t<=zcD t:=by
 have:=zjl t;unfold zbp
 split
 ·omega
 ·split<;>omega
theorem ztu (v:Int):zW (v*268435456) 28=v:=by
 unfold zW;rw[if_neg (by decide),if_neg (by decide)];have e:(v*268435456) / 2 ^ ((28:Int).toNat-1)=v*2:=by
  rw[show(2:Int) ^ ((28:Int).toNat-1)=134217728 by decide];omega
 rw[e];omega
theorem ztZ {I:Im} {S:Stg} {x y:Nat} {c v:Int} (hx:(ze S.lx x).2.sum=16384) (hy:(ze S.ly y).2.sum=16384) (h:∀ i k,zjF I S x y c i k=v):zdu I S x y c=v*268435456:=by
 unfold zdu;have e:zr (ze S.ly y).2 (λ_=>v) (ze S.ly y).2.length=16384*v:=by rw[zkv _ _ _ (Nat.le_refl _),List.take_of_length_le (Nat.le_refl _),hy]
 rw[zbW (g:=λ_=>16384*v) (λi _=>by rw[←e];exact zbW (λk _=>h i k)),zkv _ _ _ (Nat.le_refl _),List.take_of_length_le (Nat.le_refl _),hx];omega
theorem zqy {v t:Int} (h0:0<=v) (h1:v<=t) (ht:t<=65535):zbp (IntKind.i64.wrap (v*268435456)) t=v:=by
 rw[za3 (by omega) (by omega)];unfold zbp;rw[ztu,zfv (by omega) ht,if_neg (by omega),if_neg (by omega)]
def zdt (I:Im) (S:Stg) (k:Nat):Int:=zbp (zcY I S (k / I.ic.toNat % S.lx.length) (k / I.ic.toNat / S.lx.length) ((k % I.ic.toNat:Nat):Int)) I.it
def zaQ (I:Im) (S:Stg):Im:=⟨(S.lx.length:Int),(S.ly.length:Int),I.ic,I.it,(List.range (S.ly.length*S.lx.length*I.ic.toNat)).map (zdt I S)⟩
theorem ztn {C W x y c:Nat} (hc:c<C) (hx:x<W):((y*W+x)*C+c) % C=c/\((y*W+x)*C+c) / C % W=x/\((y*W+x)*C+c) / C / W=y:=by
 have e:((y*W+x)*C+c) / C=y*W+x:=by
  rw[Nat.add_comm,Nat.add_mul_div_right _ _ (by omega),Nat.div_eq_of_lt hc,Nat.zero_add]
 rw[e];refine⟨by rw[Nat.add_comm,Nat.add_mul_mod_self_right,Nat.mod_eq_of_lt hc],by rw[Nat.add_comm,Nat.add_mul_mod_self_right,Nat.mod_eq_of_lt hx],?_⟩;rw[Nat.add_comm,Nat.add_mul_div_right _ _ (by omega),Nat.div_eq_of_lt hx,Nat.zero_add]
theorem zpc {I:Im} {S:Stg} {x y c:Nat} (hc:c<I.ic.toNat) (hx:x<S.lx.length):zdt I S ((y*S.lx.length+x)*I.ic.toNat+c)=zbp (zcY I S x y (c:Int)) I.it:=by
 unfold zdt;obtain⟨e1,e2,e3⟩:=ztn (y:=y) hc hx;rw[e1,e2,e3]
def zca (I:Im):List Stg->Im
 |[]=>I
 |S :: r=>zca (zaQ I S) r
def zaR (I:Im) (S:Stg):Bool:=decide (S.fx=I.iw) && decide (S.fy=I.ih) && decide (0<=S.sb) && decide (S.sb<=2)
theorem zu1 {I:Im} {S:Stg} (h:zba I) (f:zaJ (S.lx.length:Int) (S.ly.length:Int) I.ic=true):zba (zaQ I S):=by
 obtain⟨_,_,_,_,hc,t0,t1,_,_,_⟩:=h;obtain⟨a0,a1,b0,b1,_,m⟩:=zee.1 f;have C0:(I.ic.toNat:Int)=I.ic:=Int.toNat_of_nonneg (by omega);refine⟨a0,a1,b0,b1,hc,t0,t1,m,?_,λx hx=>?_⟩
 ·show(((List.range (S.ly.length*S.lx.length*I.ic.toNat)).map (zdt I S)).length:Int)=(S.lx.length:Int)*(S.ly.length:Int)*I.ic
  rw[List.length_map,List.length_range,Int.natCast_mul,Int.natCast_mul,C0,Int.mul_comm (S.ly.length:Int)]
 ·obtain⟨k,_,rfl⟩:=List.mem_map.1 hx;have:=zf9 (zcY I S (k / I.ic.toNat % S.lx.length) (k / I.ic.toNat / S.lx.length) ((k % I.ic.toNat:Nat):Int)) I.it;rw[zfv (by omega) t1]at this;exact this
def zgk (I:Im) (S:Stg) (j:Int) (x:Nat) (c:Int):Int:=zr (ze S.lx x).2 (λi=>zdi I (atF S.sb ((ze S.lx x).1+(i:Int)) I.iw) (atF S.sb j I.ih) c) (ze S.lx x).2.length
theorem zyr (I:Im) (S:Stg) (x y:Nat) (c:Int):zdu I S x y c=zr (ze S.ly y).2 (λk=>zgk I S ((ze S.ly y).1+(k:Int)) x c) (ze S.ly y).2.length:=zr0 I S x y c
def zc4 (I:Im) (S:Stg) (x0 C n:Nat) (j:Int):List Int:=(List.range n).map λq=>IntKind.i64.wrap (zgk I S j (x0+q / C) ((q % C:Nat):Int))
theorem ziP (I:Im) (S:Stg) (x0 C n:Nat) (j:Int):(zc4 I S x0 C n j).length=n:=by unfold zc4;rw[List.length_map,List.length_range]
theorem zj2 {I:Im} {S:Stg} {x0 C n q:Nat} {j:Int} (h:q<n):(zc4 I S x0 C n j).getD q 0=IntKind.i64.wrap (zgk I S j (x0+q / C) ((q % C:Nat):Int)):=by
 unfold zc4;rw[List.getD_eq_getElem?_getD,List.getElem?_map,List.getElem?_range h];rfl
theorem zm8 (I:Im) (S:Stg) (x0 C n:Nat) (j:Int):zc4 I S x0 C (n+1) j=zc4 I S x0 C n j++[IntKind.i64.wrap (zgk I S j (x0+n / C) ((n % C:Nat):Int))]:=by
 unfold zc4;rw[List.range_succ,List.map_append];rfl
theorem ziB {C i c:Nat} (hc:c<C):(i*C+c) / C=i/\(i*C+c) % C=c:=by
 constructor
 ·rw[Nat.add_comm,Nat.add_mul_div_right _ _ (by omega),Nat.div_eq_of_lt hc,Nat.zero_add]
 ·rw[Nat.add_comm,Nat.add_mul_mod_self_right,Nat.mod_eq_of_lt hc]
theorem zsv (ts:List Int) (f:Nat->Int) (n:Nat):IntKind.i64.wrap (zr ts (λk=>IntKind.i64.wrap (f k)) n)=IntKind.i64.wrap (zr ts f n):=by
 induction n with
 |zero=>rfl
 |succ n ih =>
  show IntKind.i64.wrap (zr ts (λk=>IntKind.i64.wrap (f k)) n+ts.getD n 0*IntKind.i64.wrap (f n))=IntKind.i64.wrap (zr ts f n+ts.getD n 0*f n)
  rw[←zkL,ih,zkL,←zmJ,zuC,zmJ]
theorem zyt {I:Im} {S:Stg} {x0 y C n i c:Nat} (hc:c<C) (hi:i*C+c<n):IntKind.i64.wrap (zr (ze S.ly y).2 (λk=>(zc4 I S x0 C n ((ze S.ly y).1+(k:Int))).getD (i*C+c) 0) (ze S.ly y).2.length)=zcY I S (x0+i) y (c:Int):=by
 unfold zcY;rw[zyr,←zsv _ (λk=>zgk I S ((ze S.ly y).1+(k:Int)) (x0+i) (c:Int))]
 congr 1
 refine zbW (λk _=>?_);obtain⟨e1,e2⟩:=ziB (i:=i) hc;rw[zj2 hi,e1,e2]
def zfy (A C x0 y m:Nat) (p:Nat):Bool:=decide ((y*A+x0)*C<=p/\p<(y*A+x0)*C+m)
theorem zeB {A C x0 y p:Nat}:zfy A C x0 y 0 p=false:=by
 unfold zfy;exact decide_eq_false (by omega)
theorem zp9 {A C x0 y m p:Nat}:(zfy A C x0 y m p || p == (y*A+x0)*C+m)=zfy A C x0 y (m+1) p:=by
 unfold zfy;generalize (y*A+x0)*C=b;rw[Bool.eq_iff_iff,Bool.or_eq_true,decide_eq_true_iff,decide_eq_true_iff,beq_iff_eq];omega
theorem zsj {A C x0 W y p:Nat} (hC:1<=C) (hA:x0+W<=A):zfy A C x0 y (W*C) p=true↔(x0<=p / C % A/\p / C % A<x0+W/\p / C / A=y):=by
 unfold zfy;rw[decide_eq_true_iff,←Nat.add_mul,←Nat.le_div_iff_mul_le (by omega),←Nat.div_lt_iff_lt_mul (by omega)];generalize p / C=q;have e:=Nat.div_add_mod q A
 constructor
 ·rintro ⟨h1,h2⟩;have hy:q / A=y:=by
   refine Nat.div_eq_of_lt_le (by omega) ?_;rw[Nat.succ_mul];omega
  rw[hy,Nat.mul_comm A y]at e;omega
 ·rintro ⟨h1,h2,h3⟩;rw[h3,Nat.mul_comm A y]at e;omega
theorem zoy {A C x0 W y0 k p:Nat} (hC:1<=C) (hA:x0+W<=A):(zdP A C x0 W y0 k p || zfy A C x0 (y0+k) (W*C) p)=zdP A C x0 W y0 (k+1) p:=by
 rw[Bool.eq_iff_iff,Bool.or_eq_true,zeF,zsj hC hA,zeF];omega
def za5 (O I:Im) (S:Stg) (x0 W y0 k m:Nat):Im:=zcA O (zdt I S) (λp=>zdP S.lx.length I.ic.toNat x0 W y0 k p || zfy S.lx.length I.ic.toNat x0 (y0+k) m p)
theorem zi1 (O I:Im) (S:Stg) (x0 W y0:Nat):za5 O I S x0 W y0 0 0=O:=zqX (λp _=>by rw[zoX,zeB];rfl)
theorem zsS {O I:Im} {S:Stg} {x0 W y0 k:Nat} (hC:1<=I.ic.toNat) (hA:x0+W<=S.lx.length):za5 O I S x0 W y0 k (W*I.ic.toNat)=za5 O I S x0 W y0 (k+1) 0 :=
 zgA (λp _=>by rw[zoy hC hA,zeB,Bool.or_false]) (λ_ _ _=>rfl)
theorem zpO {O I:Im} {S:Stg} {x0 W y0 k i c:Nat} (hw:O.iw=(S.lx.length:Int)) (hc:O.ic=I.ic) (hCn:(I.ic.toNat:Int)=I.ic) (h2:c<I.ic.toNat) (h3:x0+i<S.lx.length)
  (hs:zbX O ((x0+i:Nat):Int) ((y0+k:Nat):Int) (c:Int) (zbp (zcY I S (x0+i) (y0+k) (c:Int)) I.it)=true) :
  zdH (za5 O I S x0 W y0 k (i*I.ic.toNat+c)) ((x0+i:Nat):Int) ((y0+k:Nat):Int) (c:Int) (zbp (zcY I S (x0+i) (y0+k) (c:Int)) I.it)=za5 O I S x0 W y0 k (i*I.ic.toNat+c+1):=by
 have hp:(zao O ((x0+i:Nat):Int) ((y0+k:Nat):Int) (c:Int)).toNat=((y0+k)*S.lx.length+(x0+i))*I.ic.toNat+c:=by
  unfold zao zdQ;rw[hw,hc,←hCn,←Int.natCast_mul,←Int.natCast_add,←Int.natCast_mul,←Int.natCast_add];exact Int.toNat_natCast _
 unfold za5;rw[zsW hs hp (zpc h2 h3).symm];refine zgA (λp _=>?_) (λ_ _ _=>rfl);rw[←zp9 (m:=i*I.ic.toNat+c),Bool.or_assoc]
 congr 2
 rw[←Nat.add_assoc ((y0+k)*S.lx.length),Nat.add_mul _ i,Nat.add_assoc]
theorem zol {O I:Im} {S:Stg} {x0 W y0 h k:Nat} (hk:k<=h):za5 (za5 O I S x0 W y0 k 0) I S x0 W (y0+k) (h-k) 0=za5 O I S x0 W y0 h 0:=by
 unfold za5;rw[zpW];refine zgA (λp _=>?_) (λ_ _ _=>rfl);rw[zeB,zeB,zeB,Bool.or_false,Bool.or_false,Bool.or_false,znh hk]
end Go.Proofs.YtlodkoimdoeopaaGreatDoor
namespace Go.Proofs.YtlodkoimdoeopaaGreatDoor
structure JobW (mo:Nat) (G:List Int) (E:Int) (ls:List Wnd):Prop where
 moves:zc7 mo ls
 held:∀ l r,ls=l :: r->HeldI G E l/\E<=zY l
theorem zrP {mo:Nat} {l:Wnd} {r:List Wnd} (h:zc7 mo (l :: r)):JobW mo [] l.1 (l :: r) :=
 ⟨h,λa b e=>by
  obtain⟨rfl,rfl⟩:=List.cons.inj e;exact⟨zjU l,by unfold zY;omega⟩⟩
theorem zmw {E:Int} {l:Wnd} (h:max E l.1<zY l):zam E l=max E l.1 :: zam (max E l.1+1) l:=by
 have a:=ziL (E:=max E l.1) (j:=max E l.1) (l:=l) (by omega) h (by omega);rw[show max (max E l.1) (max E l.1)=max E l.1 by omega,show max (max E l.1) (max E l.1+1)=max E l.1+1 by omega]at a;rw[←a];unfold zam;rw[show max (max E l.1) l.1=max E l.1 by omega]
theorem zoS {E:Int} {l:Wnd} (h:zY l<=max E l.1):zam E l=[]:=by
 unfold zam;rw[show(zY l-max E l.1).toNat=0 by omega];rfl
theorem znv {E y:Int} {l:Wnd} {r:List Wnd} (h:max E l.1<zY l):zO E y (l :: r)=(1,max E l.1) :: zO (max E l.1+1) y (l :: r):=by
 show(zam E l).map _++_=_ :: ((zam (max E l.1+1) l).map _++_)
 rw[zmw h,show zcI (max E l.1+1) l=zcI E l from by unfold zcI;omega];rfl
theorem zom {E y:Int} {l:Wnd} {r:List Wnd} (h:zY l<=max E l.1):zO E y (l :: r)=(2,y) :: zO (zcI E l) (y+1) r:=by
 show(zam E l).map _++_=_
 rw[zoS h];rfl
theorem JobW.filter {mo:Nat} {G:List Int} {E:Int} {l:Wnd} {r:List Wnd} (h:JobW mo G E (l :: r)) (hj:max E l.1<zY l):JobW mo (G++[max E l.1]) (max E l.1+1) (l :: r):=by
 refine⟨h.moves,λa b e=>?_⟩;obtain⟨rfl,rfl⟩:=List.cons.inj e;obtain⟨⟨h1,h2,h3⟩,_⟩:=h.held l r rfl;refine⟨⟨zlK h1 (λx hx=>by have:=h2 x hx;omega),λx hx=>?_,λi i1 i2=>?_⟩,by omega⟩
 ·rcases List.mem_append.1 hx with hx|hx
  ·have:=h2 x hx;omega
  ·rw[List.mem_singleton]at hx;omega
 ·by_cases e:i=max E l.1
  ·rw[e];exact List.mem_append_right _ (List.mem_singleton.2 rfl)
  ·exact List.mem_append_left _ (h3 i i1 (by omega))
theorem JobW.written {mo:Nat} {G:List Int} {E:Int} {l:Wnd} {r:List Wnd} (h:JobW mo G E (l :: r)) (hj:zY l<=max E l.1):JobW mo G (zcI E l) r:=by
 obtain⟨h0,h1,h2,h3⟩:=h.moves;obtain⟨⟨k1,k2,k3⟩,k4⟩:=h.held l r rfl;refine⟨h3,λm s e=>?_⟩;have hm:=h2 m (by rw[e];exact List.mem_cons_self ..);have hE:zY l<=E:=by unfold zY at *;omega
 unfold zcI;rw[show max E (zY l)=E by omega];exact⟨⟨k1,k2,λj a b=>k3 j (by omega) b⟩,by omega⟩
theorem JobW.has {mo:Nat} {G:List Int} {E:Int} {l:Wnd} {r:List Wnd} (h:JobW mo G E (l :: r)) {j:Int} (h1:l.1<=j) (_h2:j<zY l):j ∈ zaH mo G↔j<E:=by
 obtain⟨⟨k1,k2,k3⟩,k4⟩:=h.held l r rfl
 constructor
 ·exact λhj=>k2 j (zef hj)
 ·intro hj;refine zmO k1 k2 (k3 j h1 hj) ?_;have:=h.moves.2.1;unfold zY at *;omega
theorem JobW.last {mo:Nat} {G:List Int} {E:Int} {l:Wnd} {r:List Wnd} (h:JobW mo G E (l :: r)):∀ x ∈ G,x<max E l.1:=λx hx=>by
 have:=(h.held l r rfl).1.below x hx;omega
theorem JobW.rise {mo:Nat} {G:List Int} {E:Int} {l:Wnd} {r:List Wnd} (h:JobW mo G E (l :: r)):zeq G:=(h.held l r rfl).1.rise
theorem zkh {E y:Int} {ls:List Wnd}:zO E y ls=[]↔ls=[]:=by
 constructor
 ·intro h
  cases ls with
  |nil=>rfl
  |cons l r =>
   have:=congrArg List.length h;rw[zep,List.length_cons,List.length_nil]at this;omega
 ·rintro rfl;rfl
theorem zoo {E y:Int} {l:Wnd} {r:List Wnd}:(zO E y (l :: r)).length=(zY l-max E l.1).toNat+1+(zO (zcI E l) (y+1) r).length:=by
 show((zam E l).map _++_ :: _).length=_
 rw[List.length_append,List.length_map,List.length_cons,zgF];omega
end Go.Proofs.YtlodkoimdoeopaaGreatDoor
namespace Go.Proofs.YtlodkoimdoeopaaGreatDoor
open Go.RowKit
def zw0 (K:World->Prop) (T:World->Value->Int->List (Int×List Int)->Prop):Prop:=∀ (f n m:Int),-9223372036854775808<=f->f<=9223372036854775807->-9223372036854775808<=n->n<=9223372036854775807->-9223372036854775808<=m->m<=9223372036854775807->∀ w:World,K w ->
 Calls Tryz.prog 102 #[.int .i64 f,.int .i64 n,.int .i64 m] w λe w'=>∃ v,e=.returned (.tuple #[v,.int .i64 (zN f n m)])/\(zN f n m=0->T w' v n (zt f n m m.toNat))/\(zN f n m≠0->v=.pointer none)/\Below w.heap.size w w'
def zw8 (K:World->Prop) (T:World->Value->Int->List (Int×List Int)->Prop):Prop:=∀ (xs:List Int) (ad:Option Addr) (cap:Nat) (n:Int) (w:World),K w->RowAt .i64 w ad xs->zad xs->xs.length<=9223372036854775807->-9223372036854775808<=n->n<=9223372036854775807 ->
 Calls Tryz.prog 104 #[.slice ad xs.length cap,.int .i64 n] w λe w'=>∃ v,e=.returned (.tuple #[v,.int .i64 (zu xs n)])/\(zu xs n=0->T w' v n (zQ xs n.toNat))/\(zu xs n≠0->v=.pointer none)/\Below w.heap.size w w'
def zyF (K:World->Prop) (f:FuncId):Prop:=∀ w:World,K w->Calls Tryz.prog f #[] w λe w'=>e=.returned (.bool true)/\Below w.heap.size w w'
theorem zxU:zN 0 4 2=0/\zt 0 4 2 2=[(0,[8192,8192]),(2,[8192,8192])]/\zau [(0,[8192,8192]),(2,[8192,8192])] 0 2=(0,4,true):=by decide +kernel
theorem zyK (w:World) (a b:Int) (t:TypeId):RowAt .i64 (w.alloc (.cells #[.int .i64 a,.int .i64 b] t)) (some ⟨w.heap.size,0,none⟩) [a,b]:=by
 refine Or.inr ⟨w.heap.size,0,rfl,λj hj=>?_⟩
 match j,hj with
 |0,_=>simp
 |1,_=>simp
theorem zok (x:Int) (ad:Option Addr) (n c:Nat):∀ w:World,(Instr.field 103 (.agg #[.int .i64 x,.slice ad n c]) 0).run Tryz.prog w=.ok (.int .i64 x) w:=λ_=>by kernel_rfl
theorem znc (n m i:Int):zbt n m (i+1)=zbt n m i+2*n:=by
 unfold zbt;rw[show 2*(i+1)+1=(2*i+1)+2 by omega,Int.add_mul];omega
theorem zwh {f n m i:Int} (n0:1<=n) (m0:1<=m):zbI f n m i<=zbI f n m (i+1)/\zce f n m i<=zce f n m (i+1):=by
 unfold zbI zce;rw[znc];exact⟨Int.ediv_le_ediv (by omega) (by omega),Int.ediv_le_ediv (by omega) (by omega)⟩
def zfE (L:List (Int×List Int)):Prop:=∀ j,j+1<L.length->(ze L j).1<=(ze L (j+1)).1/\(ze L j).1+((ze L j).2.length:Int)<=(ze L (j+1)).1+((ze L (j+1)).2.length:Int)
theorem zaV (xs:List Int):(zG xs).length=xs.length:=by
 unfold zG;rw[(ze4 _ _ _).1,zfz]
theorem zon {f n:Int} {m:Nat} (f0:0<=f) (f1:f<=2) (n0:1<=n) (n1:n<=65536) (m1:m<=65536):zfE (zt f n m m):=by
 intro j hj;rw[zac]at hj;have e:∀ i:Nat,i<m->ze (zt f n m m) i=zbN f n m i:=λi hi=>zcT _ hi
 rw[e j (by omega),e (j+1) (by omega)];have en:∀ i:Nat,i<m->(zbN f n m i).1+((zbN f n m i).2.length:Int)=zce f n m i+1:=by
  intro i hi;have hM:zc9 f n m i:=⟨f0,f1,n0,n1,by omega,by omega,by omega,by omega⟩;have:=zcO hM
  show za8 f n m i+((zG (zbl f n m i)).length:Int)=_
  rw[zaV,zbD];unfold za8 zb8;omega
 rw[en j (by omega),en (j+1) (by omega)];obtain⟨a,b⟩:=zwh (f:=f) (n:=n) (m:=(m:Int)) (i:=(j:Int)) n0 (by omega);refine⟨?_,?_⟩
 ·show zbI f n m j+1<=zbI f n m ((j+1:Nat):Int)+1
  rw[show((j+1:Nat):Int)=(j:Int)+1 by omega];omega
 ·rw[show((j+1:Nat):Int)=(j:Int)+1 by omega];omega
theorem zoK {L:List (Int×List Int)} {i k:Int} (o:Nat) (h:(o:Int)<=i):zai L i k o=(0,0,false):=by
 induction o with
 |zero=>rfl
 |succ o ih =>
  unfold zai;rw[if_pos (Or.inl (by omega))];exact ih (by omega)
theorem zoY {L:List (Int×List Int)} {i k:Int} (a d:Nat) (h:k<=(a:Int)):zai L i k (a+d)=zai L i k a:=by
 induction d with
 |zero=>rfl
 |succ d ih =>
  have s:zai L i k (a+(d+1))=if((a+d:Nat):Int)<i\/k<=((a+d:Nat):Int) then zai L i k (a+d) else zdn (zai L i k (a+d)) (ze L (a+d)).1 (ze L (a+d)).2.length:=rfl;rw[s,if_pos (Or.inr (by omega)),ih]
theorem zgi {f n:Int} {m:Nat} (h:zN f n m=0) (hB:zdM f n m=true) {j:Nat} (hj:j<m):Fits (zbl f n m j):=by
 unfold zN at h;rw[if_pos hB,Int.toNat_natCast]at h;exact zas.1 (zkU h hj).1
theorem zvv {f n:Int} {m:Nat} (h:zN f n m=0) (hB:zdM f n m=true) {j:Nat} (hj:j<m) :
  (zbN f n m j).2.sum=16384/\∀ t,t<(zbN f n m j).2.length->-67108864<=(zbN f n m j).2.getD t 0/\(zbN f n m j).2.getD t 0<=67108865:=by
 have F:=zgi h hB hj;obtain⟨e1,e2,e3,_⟩:=zdD F;refine⟨e2,λt ht=>?_⟩;have ht':t<(zbl f n m j).length:=by rw[←e1];exact ht
 have hs:zaa ((zbl f n m j).getD t 0):=by
  rw[List.getD_eq_getElem?_getD,List.getElem?_eq_getElem ht'];exact F.small _ (List.getElem_mem ht')
 obtain⟨q0,q1,_⟩:=zbE (s:=zq (zbl f n m j)) F.s0 hs
 show -67108864<=(zG (zbl f n m j)).getD t 0/\(zG (zbl f n m j)).getD t 0<=67108865
 rcases e3 t ht' with e|⟨e,_⟩<;>rw[e]<;>omega
theorem zqi {l:List Int} (h:Fits l):∀ x ∈ zG l,-67108865<=x/\x<=67108865:=by
 obtain⟨len,_,each,_⟩:=zdD h;refine zji λj hj=>?_
 rw[len]at hj;have q:=zbE h.s0 (zbn h.small hj);rcases each j hj with e|⟨e,_⟩<;>omega
theorem ziI {l:List Int} (h:Fits l):zad (zG l):=by
 intro j hj;have hm:(zG l).getD j 0 ∈ zG l:=by
  rw[List.getD_eq_getElem?_getD,List.getElem?_eq_getElem hj];exact List.getElem_mem hj
 have:=zqi h _ hm;omega
theorem zvT {f n:Int} {m:Nat} (h:zN f n m=0) (hB:zdM f n m=true):zcj (zt f n m m):=by
 intro j hj;rw[zac]at hj;rw[show ze (zt f n m m) j=zbN f n m j from zcT _ hj];have hF:=zgi h hB hj;obtain⟨f0,f1,⟨n0,n1⟩,m0,m1⟩:=(zdm f n m).1 hB;have hM:zc9 f n m j:=⟨f0,f1,n0,n1,by omega,by omega,by omega,by omega⟩;obtain⟨a,b,c,d⟩:=zhl hM;refine⟨?_,?_,?_,?_,ziI hF⟩
 ·show _<=za8 f n m j;omega
 ·show za8 f n m j<=_;omega
 ·show 1<=(zG (zbl f n m j)).length;rw[zaV,zbD];exact c
 ·show(zG (zbl f n m j)).length<=_;rw[zaV,zbD];omega
theorem zey {xs:List Int} {k j:Nat} (h:j<k):ze (zQ xs k) j=ziF xs j:=zcT _ h
theorem zxH {xs:List Int} (h:Fits xs) {k:Nat} (hk:k<=65536):zcj (zQ xs k):=by
 intro j hj;rw[zae]at hj;rw[zey hj];have h2:=ziI h;obtain⟨h0,h1,_⟩:=h;refine⟨?_,?_,?_,?_,h2⟩
 ·show _<=(j:Int)-((xs.length / 2:Nat):Int);omega
 ·show(j:Int)-((xs.length / 2:Nat):Int)<=_;omega
 ·show 1<=(zG xs).length;rw[zaV];exact h0
 ·show(zG xs).length<=_;rw[zaV];exact h1
theorem zrH (xs:List Int) (k:Nat):zfE (zQ xs k):=by
 intro j hj;rw[zae]at hj;rw[zey (show j<k by omega),zey hj];refine⟨?_,?_⟩
 ·show(j:Int)-((xs.length / 2:Nat):Int)<=((j+1:Nat):Int)-((xs.length / 2:Nat):Int);omega
 ·show(j:Int)-((xs.length / 2:Nat):Int)+((zG xs).length:Int)<=((j+1:Nat):Int)-((xs.length / 2:Nat):Int)+((zG xs).length:Int);omega
theorem znx {L:List (Int×List Int)} {ts:List Int} (h:∀ j,j<L.length->(ze L j).2=ts) (h0:1<=L.length):zaB L=(ts.length:Int)/\zdT L=zP ts:=by
 have e:∀ o,o<=L.length->za7 L o=(if o=0 then 0 else(ts.length:Int))/\zdS L o=(if o=0 then 0 else zP ts):=by
  intro o ho
  induction o with
  |zero=>exact⟨rfl,rfl⟩
  |succ o ih =>
   obtain⟨a,b⟩:=ih (by omega);have s:za7 L (o+1)=max (za7 L o) ((ze L o).2.length:Int):=rfl;have t:zdS L (o+1)=max (zdS L o) (zP (ze L o).2):=rfl;have z:=(zdf ts).1;rw[s,t,a,b,h o (by omega),if_neg (show o+1≠0 by omega),if_neg (show o+1≠0 by omega)]
   constructor
   ·split<;>omega
   ·split<;>omega
 obtain⟨a,b⟩:=e L.length (Nat.le_refl _);rw[if_neg (show L.length≠0 by omega)]at a b;exact⟨a,b⟩
theorem zv7 (xs:List Int) {k:Nat} (h:1<=k):zaB (zQ xs k)=(xs.length:Int)/\zdT (zQ xs k)=zP (zG xs):=by
 have:=znx (L:=zQ xs k) (ts:=zG xs) (λj hj=>by rw[zae]at hj;rw[zey hj];rfl) (by rw[zae];exact h);rw[zaV]at this;exact this
theorem zp7 {L:List (Int×List Int)} {i k:Int} (h:min k (L.length:Int)<=max i 0):zau L i k=(0,0,false):=by
 have e:∀ o,o<=L.length->zai L i k o=(0,0,false):=by
  intro o ho
  induction o with
  |zero=>rfl
  |succ o ih =>
   unfold zai;rw[if_pos (by omega)];exact ih (by omega)
 exact e _ (Nat.le_refl _)
theorem zq0 {L:List (Int×List Int)} (hM:zfE L) {i k:Int} {p q:Nat} (hp:(p:Int)=max i 0) (hq:(q:Int)+1=min k (L.length:Int)) (h:p<=q) :
  zau L i k=((ze L p).1,(ze L q).1+((ze L q).2.length:Int),true):=by
 have e0:zai L i k p=(0,0,false):=by
  by_cases g:i<=0
  ·obtain rfl:p=0:=by omega
   rfl
  ·exact zoK p (by omega)
 have e:∀ d,p+d<=q->zai L i k (p+d+1)=((ze L p).1,(ze L (p+d)).1+((ze L (p+d)).2.length:Int),true)/\(ze L p).1<=(ze L (p+d)).1:=by
  intro d hd
  induction d with
  |zero =>
   refine⟨?_,Int.le_refl _⟩
   show(if(p:Int)<i\/k<=(p:Int) then _ else _)=_
   rw[if_neg (by omega),show p+0=p from rfl,e0];rfl
  |succ d ih =>
   obtain⟨a,b⟩:=ih (by omega);obtain⟨m0,m1⟩:=hM (p+d) (by omega);have s:zai L i k (p+(d+1)+1)=if((p+d+1:Nat):Int)<i\/k<=((p+d+1:Nat):Int) then zai L i k (p+d+1) else zdn (zai L i k (p+d+1)) (ze L (p+d+1)).1 (ze L (p+d+1)).2.length:=rfl;rw[s,if_neg (by omega),a];refine⟨?_,by show _<=(ze L (p+d+1)).1;omega⟩
   show(min (ze L p).1 (ze L (p+d+1)).1,max ((ze L (p+d)).1+((ze L (p+d)).2.length:Int)) ((ze L (p+d+1)).1+((ze L (p+d+1)).2.length:Int)),true)=_
   rw[Int.min_eq_left (by omega),Int.max_eq_right m1];rfl
 obtain⟨a,_⟩:=e (q-p) (by omega);rw[show p+(q-p)=q by omega]at a;unfold zau;obtain⟨d,hd⟩:∃ d,L.length=q+1+d:=⟨L.length-(q+1),by omega⟩;rw[hd]
 by_cases g:k<=((q+1:Nat):Int)
 ·rw[zoY (q+1) d g];exact a
 ·obtain rfl:d=0:=by omega
  exact a
theorem zlk {f n m:Int} (h:zN f n m=0) {j:Nat} (hj:j<m.toNat):(ze (zt f n m m.toNat) j).2.sum=16384:=by
 have hB:zdM f n m=true:=by
  cases hb:zdM f n m
  ·unfold zN at h;rw[if_neg (by rw[hb];decide)]at h;omega
  ·rfl
 have e:m=(m.toNat:Int):=by
  have:=((zdm f n m).1 hB).2.2.2;omega
 rw[show ze (zt f n m m.toNat) j=zbN f n m j from zcT _ hj];rw[e]at h hB ⊢;exact(zvv h hB hj).1
theorem zpL {xs:List Int} {n:Int} (h:zu xs n=0) {k j:Nat} (hj:j<k):(ze (zQ xs k) j).2.sum=16384:=by
 rw[zey hj];unfold zu at h
 split at h
 ·split at h
  ·omega
  ·exact(zdD (zas.1 h)).2.1
 ·omega
theorem zdY {o:Opr} {w h:Int} (hz:zB o w h=0):okO o w h=true/\zeA o w=0/\zeI o h=0:=by
 unfold zB at hz
 split at hz
 ·omega
 ·split at hz
  ·omega
  ·split at hz
   ·omega
   ·exact⟨by simpa using(by assumption:¬okO o w h=false),by omega,hz⟩
theorem zpa {o:Opr} {w h:Int} (hz:zB o w h=0):(∀ j,j<(zj o w h).lx.length->(ze (zj o w h).lx j).2.sum=16384)/\∀ j,j<(zj o w h).ly.length->(ze (zj o w h).ly j).2.sum=16384:=by
 obtain⟨_,hx,hy⟩:=zdY hz
 show(∀ j,j<(zbG o w).length->(ze (zbG o w) j).2.sum=16384)/\∀ j,j<(zbi o h).length->(ze (zbi o h) j).2.sum=16384
 unfold zeA at hx;unfold zeI at hy;unfold zbG zbi
 by_cases hk:o.kd=3
 ·rw[if_pos hk]at hx hy ⊢;rw[if_pos hk];refine⟨λj hj=>?_,λj hj=>?_⟩
  ·rw[zac]at hj;exact zlk hx hj
  ·rw[zac]at hj;exact zlk hy hj
 ·rw[if_neg hk]at hx hy ⊢;rw[if_neg hk];refine⟨λj hj=>?_,λj hj=>?_⟩
  ·rw[zae]at hj;exact zpL hx hj
  ·rw[zae]at hj;exact zpL hy hj
def zqp (I:Im) (v:Int):Prop:=∀ x ∈ I.il,x=v
theorem zpG {I:Im} {v:Int} (h:zqp I v) {x y z:Int} (hx:zdN I x y z=true) (hl:(zao I x y z).toNat<I.il.length):zdi I x y z=v:=by
 unfold zdi;rw[if_pos hx,List.getD_eq_getElem?_getD,List.getElem?_eq_getElem hl];exact h _ (List.getElem_mem hl)
theorem zwe {I:Im} {S:Stg} (hI:zba I) (hs:zaR I S=true) (x y:Nat) {c:Int} (c0:0<=c) (c1:c<I.ic) (i k:Nat) :
  zdN I (atF S.sb ((ze S.lx x).1+(i:Int)) I.iw) (atF S.sb ((ze S.ly y).1+(k:Int)) I.ih) c=true/\(zao I (atF S.sb ((ze S.lx x).1+(i:Int)) I.iw) (atF S.sb ((ze S.ly y).1+(k:Int)) I.ih) c).toNat<I.il.length:=by
 obtain⟨a0,a1,b0,b1,hc,t0,t1,m,hl,_⟩:=hI;unfold zaR at hs;simp only[Bool.and_eq_true,decide_eq_true_eq]at hs;obtain⟨⟨_,s0⟩,s1⟩:=hs;have ex:=znq (p:=S.sb) (n:=I.iw) (j:=(ze S.lx x).1+(i:Int)) ⟨s0,s1,a0,a1⟩;have ey:=znq (p:=S.sb) (n:=I.ih) (j:=(ze S.ly y).1+(k:Int)) ⟨s0,s1,b0,b1⟩;have p:=zjc (a:=I.iw) (b:=I.ih) (c:=I.ic) ex.1 ex.2 ey.1 ey.2 c0 c1;refine⟨zdj.2 ⟨ex.1,ex.2,ey.1,ey.2,c0,c1⟩,?_⟩;unfold zao;omega
theorem zwj {I:Im} {S:Stg} {v:Int} (hI:zba I) (hs:zaR I S=true) (hf:zqp I v) (v0:0<=v) (v1:v<=I.it) (hx:∀ j,j<S.lx.length->(ze S.lx j).2.sum=16384) (hy:∀ j,j<S.ly.length->(ze S.ly j).2.sum=16384):zqp (zaQ I S) v:=by
 intro u hu;obtain⟨k,hk,rfl⟩:=List.mem_map.1 hu;have hk2:=List.mem_range.1 hk;obtain⟨_,_,_,_,hc,_,t1,_,_,_⟩:=id hI;have C0:0<I.ic.toNat:=by omega
 have q1:k / I.ic.toNat<S.ly.length*S.lx.length:=Nat.div_lt_of_lt_mul (by rw[Nat.mul_comm];exact hk2);have W0:0<S.lx.length:=by
  rcases Nat.eq_zero_or_pos S.lx.length with e|e
  ·rw[e,Nat.mul_zero]at q1;exact absurd q1 (Nat.not_lt_zero _)
  ·exact e
 unfold zdt zcY;rw[ztZ (v:=v) (hx _ (Nat.mod_lt _ W0)) (hy _ (Nat.div_lt_of_lt_mul (by rw[Nat.mul_comm];exact q1))) (λi k'=>?_)]
 ·exact zqy v0 v1 t1
 ·have cm:=Nat.mod_lt k C0;have h:=zwe hI hs (k / I.ic.toNat % S.lx.length) (k / I.ic.toNat / S.lx.length) (c:=((k % I.ic.toNat:Nat):Int)) (by omega) (by omega) i k';exact zpG hf h.1 h.2
theorem zv8 {X D B:Int} (hD:0<D) (hB:B<=1099511627776) (h0 : -(B*D)<=X) (h1:X<=B*D):2*X-D<=2*(D*zM X D)/\2*(D*zM X D)<=2*X+D/\-(B+1)<=zM X D/\zM X D<=B+1:=by
 obtain⟨n0,n1⟩:=zm3 (X:=X) hD;have a:zaz X D<=B+1:=by
  by_cases g:zaz X D<=B+1
  ·exact g
  ·have:=Int.mul_le_mul_of_nonneg_left (show B+2<=zaz X D by omega) (show 0<=D by omega);rw[Int.mul_add,Int.mul_comm D B]at this;omega
 have b : -(B+1)<=zaz X D:=by
  by_cases g : -(B+1)<=zaz X D
  ·exact g
  ·have:=Int.mul_le_mul_of_nonneg_left (show zaz X D<=-(B+2) by omega) (show 0<=D by omega);rw[Int.mul_neg,Int.mul_add,Int.mul_comm D B]at this;omega
 rw[zcg (by omega),zH (by omega) (by omega)];omega
end Go.Proofs.YtlodkoimdoeopaaGreatDoor
