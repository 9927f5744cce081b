/- Parts, joined. -/
import Derived.Test.YtlodkoimdoeopaaGreatDoorQ12
import Derived.Test.YtlodkoimdoeopaaGreatDoorQ15
import Derived.Test.YtlodkoimdoeopaaGreatDoorQ19
import Derived.Test.YtlodkoimdoeopaaGreatDoorQ16
import Derived.Test.YtlodkoimdoeopaaGreatDoorQ18
import Derived.BigQuiet
import Derived.Deep.RegionHeld3
namespace Go.Proofs.YtlodkoimdoeopaaGreatDoor
open Go.RowKit
theorem zvF {xa xb:List Int} {g:Nat->Int} (n:Nat) (h:∀ j,j<n->xa.getD j 0=xb.getD j 0):zq xa g n=zq xb g n:=by
 induction n with
 |zero=>rfl
 |succ n ih=>show zq xa g n+xa.getD n 0*g n=zq xb g n+xb.getD n 0*g n;rw[ih (λj hj=>h j (by omega)),h n (by omega)]
theorem zum {ws:List Int} {i n:Nat} (hi:i<n) (hn:n<=ws.length) (d:Int) (g:Nat->Int):zq (ws.set i (ws.getD i 0+d)) g n=zq ws g n+d*g i:=by
 induction n with
 |zero=>omega
 |succ n ih =>
  show zq (ws.set i _) g n+(ws.set i _).getD n 0*g n=zq ws g n+ws.getD n 0*g n+d*g i
  rw[zdH _ _ _ _ (by omega)]
  by_cases e:i=n
  ·subst e;rw[if_pos rfl,zvF (xb:=ws) i (λj hj=>by rw[zdH _ _ _ _ (by omega),if_neg (by omega)]),Int.add_mul];omega
  ·rw[if_neg e,ih (by omega) (by omega)];omega
theorem zvI {xa xb:List Int} (n:Nat) (h:∀ j,j<n->xa.getD j 0=xb.getD j 0):zaZ xa n=zaZ xb n:=by
 induction n with
 |zero=>rfl
 |succ n ih=>show zaZ xa n+zi (xa.getD n 0)=zaZ xb n+zi (xb.getD n 0);rw[ih (λj hj=>h j (by omega)),h n (by omega)]
theorem zv7 (a b:Int):zi (a+b)<=zi a+zi b:=by unfold zi;split<;>split<;>split<;>omega
theorem zvb {ws:List Int} {i n:Nat} (hi:i<n) (hn:n<=ws.length) (d:Int):zaZ (ws.set i (ws.getD i 0+d)) n<=zaZ ws n+zi d:=by
 induction n with
 |zero=>omega
 |succ n ih =>
  show zaZ (ws.set i _) n+zi ((ws.set i _).getD n 0)<=zaZ ws n+zi (ws.getD n 0)+zi d
  rw[zdH _ _ _ _ (by omega)]
  by_cases e:i=n
  ·subst e;rw[if_pos rfl,zvI (xb:=ws) i (λj hj=>by rw[zdH _ _ _ _ (by omega),if_neg (by omega)])];have:=zv7 (ws.getD i 0) d;omega
  ·rw[if_neg e];have:=ih (by omega) (by omega);omega
theorem zf7 (ts:List Int) {j n:Nat} (h:j<n) : -zaZ ts n<=ts.getD j 0/\ts.getD j 0<=zaZ ts n:=by
 have a:=zgc ts (show j+1<=n by omega);have b:zaZ ts (j+1)=zaZ ts j+zi (ts.getD j 0):=rfl;have c:=zq0 ts j;have d : -zi (ts.getD j 0)<=ts.getD j 0/\ts.getD j 0<=zi (ts.getD j 0):=by unfold zi;split<;>omega
 omega
def zcH (ts ps:List Int) (n:Nat):Nat->List Int
 |0=>List.replicate n 0
 |k+1=>(zcH ts ps n k).set (ps.getD k 0).toNat ((zcH ts ps n k).getD (ps.getD k 0).toNat 0+ts.getD k 0)
theorem zdY (ts ps:List Int) (n k:Nat):(zcH ts ps n k).length=n:=by
 induction k with
 |zero=>exact List.length_replicate
 |succ k ih=>show((zcH ts ps n k).set _ _).length=n;rw[List.length_set,ih]
theorem zwK {ts ps:List Int} {n K:Nat} (hp:∀ k,k<K->0<=ps.getD k 0/\ps.getD k 0<(n:Int)) (g:Nat->Int) (k:Nat) (hk:k<=K):zq (zcH ts ps n k) g n=zq ts (λj=>g (ps.getD j 0).toNat) k:=by
 induction k with
 |zero =>
  have e:∀ m,m<=n->zq (List.replicate n (0:Int)) g m=0:=by
   intro m hm
   induction m with
   |zero=>rfl
   |succ m ih =>
    show zq _ g m+(List.replicate n (0:Int)).getD m 0*g m=0
    rw[ih (by omega),List.getD_eq_getElem?_getD,List.getElem?_replicate,if_pos (by omega)]
    show 0+0*g m=0
    omega
  exact e n (Nat.le_refl _)
 |succ k ih =>
  have h:=hp k (by omega)
  show zq ((zcH ts ps n k).set _ _) g n=zq ts _ k+ts.getD k 0*g (ps.getD k 0).toNat
  rw[zum (by omega) (by rw[zdY];exact Nat.le_refl _),ih (by omega)]
theorem zoY {ts ps:List Int} {n K:Nat} (hp:∀ k,k<K->0<=ps.getD k 0/\ps.getD k 0<(n:Int)) (k:Nat) (hk:k<=K):zaZ (zcH ts ps n k) n<=zaZ ts k:=by
 induction k with
 |zero =>
  have:=zo9 (List.replicate n (0:Int)) 0 n (λj hj=>by rw[List.getD_eq_getElem?_getD,List.getElem?_replicate,if_pos (by omega)];exact⟨by decide,by decide⟩)
  show zaZ (List.replicate n 0) n<=0
  omega
 |succ k ih =>
  have h:=hp k (by omega);have a:=zvb (ws:=zcH ts ps n k) (i:=(ps.getD k 0).toNat) (n:=n) (by omega) (by rw[zdY];exact Nat.le_refl _) (ts.getD k 0);have b:=ih (by omega)
  show zaZ ((zcH ts ps n k).set _ _) n<=zaZ ts k+zi (ts.getD k 0)
  omega
structure Gath (p f n:Int) (ts P W:List Int):Prop where
 len:P.length=W.length
 most:W.length<=1048576
 pin:∀ k,k<P.length->0<=P.getD k 0/\P.getD k 0<n
 small:zaj W
 sum:∀ g:Int->Int,zq W (λk=>g (P.getD k 0)) W.length=zq ts (λk=>g (atF p (f+(k:Int)) n)) ts.length
theorem zgK {p f n:Int} {m j:Nat} (f0 : -1099511627776<=f) (f1:f<=1099511627776) (hm:m<=1048576) (h:j<m):(zB p f n m).getD j 0=atF p (f+(j:Int)) n:=by
 unfold zB;rw[List.getD_eq_getElem?_getD,List.getElem?_map,List.getElem?_range h]
 show atF p (zE (f+(j:Int))) n=_
 rw[zH (by omega) (by omega)]
theorem zgx {p f n:Int} (p0:0<=p) (p1:p<=2) (n0:1<=n) (n1:n<=65536) {m:Nat} (f0 : -1099511627776<=f) (f1:f<=1099511627776) (hm:m<=1048576) (j:Nat) (h:j<m):0<=(zB p f n m).getD j 0/\(zB p f n m).getD j 0<n:=by
 rw[zgK f0 f1 hm h];have:=znr (p:=p) (n:=n) (j:=f+(j:Int));exact this ⟨p0,p1,n0,n1⟩
theorem ztw {p f n:Int} {ts:List Int} (p0:0<=p) (p1:p<=2) (n0:1<=n) (n1:n<=65536) (f0 : -1099511627776<=f) (f1:f<=1099511627776) (hs:zaj ts) (hl:ts.length<=1048576):Gath p f n ts (zB p f n ts.length) ts :=
 ⟨zaw _ _ _ _,hl,λk hk=>by rw[zaw]at hk;exact zgx p0 p1 n0 n1 f0 f1 hl k hk,hs,λg=>zbX λi hi=>by rw[zgK f0 f1 hl hi]⟩
theorem zrS {p f:Int} {n:Nat} {ts:List Int} (p0:0<=p) (p1:p<=2) (n0:1<=n) (n1:n<=65536) (f0 : -1099511627776<=f) (f1:f<=1099511627776) (hs:zaj ts) (hl:ts.length<=1048576):Gath p f (n:Int) ts (zB p 0 (n:Int) n) (zcH ts (zB p f (n:Int) ts.length) n ts.length):=by
 have hp:∀ k,k<ts.length->0<=(zB p f (n:Int) ts.length).getD k 0/\(zB p f (n:Int) ts.length).getD k 0<(n:Int):=λk hk=>zgx p0 p1 (by omega) (by omega) f0 f1 hl k hk
 have e0:∀ j,j<n->(zB p 0 (n:Int) n).getD j 0=(j:Int):=by
  intro j hj;rw[zgK (by decide) (by decide) (by omega) hj,Int.zero_add];exact zmk ⟨p0,p1,by omega,by omega⟩ (by omega) (by omega)
 refine⟨by rw[zaw,zdY],by rw[zdY];omega,λk hk=>?_,?_,λg=>?_⟩
 ·rw[zaw]at hk;rw[e0 k hk];omega
 ·have:=zoY (ts:=ts) hp ts.length (Nat.le_refl _);unfold zaj at hs ⊢;rw[zdY];omega
 ·rw[zdY,zbX (g:=λk:Nat=>g (k:Int)) (λi hi=>by rw[e0 i hi]),zwK hp (λk:Nat=>g (k:Int)) ts.length (Nat.le_refl _)];refine zbX λi hi=>?_
  have h:=hp i hi;rw[show(((zB p f (n:Int) ts.length).getD i 0).toNat:Int)=(zB p f (n:Int) ts.length).getD i 0 by omega,zgK f0 f1 hl hi]
theorem zsq (p f n:Int):Gath p f n [] [] []:=⟨rfl,by decide,λk hk=>absurd hk (Nat.not_lt_zero _),ze4,λ_=>rfl⟩
def lnI (L:List (Int×List Int)) (i:Int):Int×List Int:=if 0<=i then zf L i.toNat else(0,[])
theorem zgM (L:List (Int×List Int)) (j:Nat):lnI L (j:Int)=zf L j:=by unfold lnI;rw[if_pos (by omega),Int.toNat_natCast]
theorem zpt {L:List (Int×List Int)} {i:Int} (h:i<0\/(L.length:Int)<=i):lnI L i=(0,[]):=by
 unfold lnI
 split
 ·exact zmW (by omega)
 ·rfl
def zqi (I:Im) (S:Stg) (x y c:Int):Int:=zq (lnI S.lx x).2 (λi=>zq (lnI S.ly y).2 (λk=>zbe I (atF S.sb ((lnI S.lx x).1+(i:Int)) I.iw) (atF S.sb ((lnI S.ly y).1+(k:Int)) I.ih) c) (lnI S.ly y).2.length) (lnI S.lx x).2.length
theorem zpa (I:Im) (S:Stg) (x y:Nat) (c:Int):zqi I S (x:Int) (y:Int) c=zdv I S x y c:=by unfold zqi zdv zia;rw[zgM,zgM]
theorem zxU {I:Im} (hI:zay I) (x y z:Int):0<=zbe I x y z/\zbe I x y z<=65535:=by
 obtain⟨_,_,_,_,_,_,t1,_,_,hall⟩:=hI;unfold zbe
 split
 ·rw[List.getD_eq_getElem?_getD]
  cases h:I.il[(zL I x y z).toNat]? with
  |none=>exact⟨by decide,by decide⟩
  |some v =>
   have:=hall v (List.mem_of_getElem? h);exact⟨this.1,by show v<=_;omega⟩
 ·exact⟨by decide,by decide⟩
theorem zoT {I:Im} {S:Stg} (hI:zay I) (hs:zcF S) (x y c:Int) : -4611615649683210240<=zqi I S x y c/\zqi I S x y c<=4611615649683210240:=by
 have sx:zaj (lnI S.lx x).2:=by unfold lnI;split;exact zjo hs.1 _;exact ze4
 have sy:zaj (lnI S.ly y).2:=by unfold lnI;split;exact zjo hs.2.1 _;exact ze4
 exact zhJ sx (Nat.le_refl _) (λi _=>zgb sy (Nat.le_refl _) (λk _=>zxU hI _ _ _))
theorem zqb {I:Im} {S:Stg} (hI:zay I) (hs:zcF S) (x y:Nat) (c:Int):zbA I S x y c=zdv I S x y c:=by
 have h:=zoT hI hs (x:Int) (y:Int) c;rw[zpa]at h;exact zaN (by omega) (by omega)
def zfc (c:JobC) (j:Int) (q:Nat):Int:=zbe c.I (atF c.S.sb (c.lo+((q / c.C:Nat):Int)) c.I.iw) (atF c.S.sb j c.I.ih) ((q % c.C:Nat):Int)
def zfa (c:JobC) (j:Int) (n:Nat):List Int:=(List.range n).map (zfc c j)
theorem zg8 (c:JobC) (j:Int) (n:Nat):(zfa c j n).length=n:=by unfold zfa;rw[List.length_map,List.length_range]
theorem zwf {c:JobC} {j:Int} {n q:Nat} (h:q<n):(zfa c j n).getD q 0=zfc c j q:=by
 unfold zfa;rw[List.getD_eq_getElem?_getD,List.getElem?_map,List.getElem?_range h];rfl
theorem zse (c:JobC) (j:Int) (n:Nat):zfa c j (n+1)=zfa c j n++[zfc c j n]:=by
 unfold zfa;rw[List.range_succ,List.map_append];rfl
theorem zkk {w0:World} {c:JobC} (K:JobK w0 c) (j:Int) (q:Nat):0<=zfc c j q/\zfc c j q<=65535:=zxU K.img.ok _ _ _
def zem (c:JobC) (j:Int) (i ch k:Nat):Int:=zq (zf c.S.lx (c.x0+i)).2 (λt=>zfc c j (((zf c.S.lx (c.x0+i)).1-c.lo).toNat*c.C+t*c.C+ch)) k
theorem zkC {w0:World} {c:JobC} (K:JobK w0 c) (j:Int) {i ch k:Nat} (hi:i<c.W) (hk:k<=(zf c.S.lx (c.x0+i)).2.length) : -549747425280<=zem c j i ch k/\zem c j i ch k<=549747425280 :=
 zgb (K.small.1 (c.x0+i) (by have:=K.xw;omega)) hk (λ_ _=>zkk K _ _)
theorem zui {w0:World} {c:JobC} (K:JobK w0 c) (j:Int) {i ch:Nat} (hi:i<c.W) (hc:ch<c.C):zem c j i ch (zf c.S.lx (c.x0+i)).2.length=zgi c.I c.S j (c.x0+i) (ch:Int):=by
 unfold zem zgi;refine zbX λt _=>?_
 have s:=K.span hi;obtain⟨d,hd⟩:∃ d:Nat,(zf c.S.lx (c.x0+i)).1-c.lo=(d:Int):=⟨((zf c.S.lx (c.x0+i)).1-c.lo).toNat,by omega⟩;rw[hd,Int.toNat_natCast,←Nat.add_mul];obtain⟨e1,e2⟩:=zfz (i:=d+t) hc;unfold zfc;rw[e1,e2,show c.lo+((d+t:Nat):Int)=(zf c.S.lx (c.x0+i)).1+(t:Int) by omega]
theorem zpi {w0:World} {c:JobC} (K:JobK w0 c) (j:Int) {i ch:Nat} (hi:i<c.W) (hc:ch<c.C):IntKind.i64.wrap (zgi c.I c.S j (c.x0+(i*c.C+ch) / c.C) (((i*c.C+ch) % c.C:Nat):Int))=zem c j i ch (zf c.S.lx (c.x0+i)).2.length:=by
 obtain⟨e1,e2⟩:=zfz (i:=i) hc;rw[e1,e2,←zui K j hi hc];have:=zkC K j (ch:=ch) hi (Nat.le_refl _);exact zaN (by omega) (by omega)
def zhh (c:JobC) (j:Int) (m:Nat):List Int:=zc9 c.I c.S c.x0 c.C m j
theorem zi7 (c:JobC) (j:Int) (m:Nat):(zhh c j m).length=m:=ziC ..
theorem zvx (c:JobC) (j:Int):zhh c j (c.W*c.C)=c.row j:=rfl
theorem zsZ {w0:World} {c:JobC} (K:JobK w0 c) (j:Int) {i ch:Nat} (hi:i<c.W) (hc:ch<c.C):zhh c j (i*c.C+ch)++[zem c j i ch (zf c.S.lx (c.x0+i)).2.length]=zhh c j (i*c.C+ch+1):=by
 unfold zhh;rw[zl7,zpi K j hi hc]
theorem zmA {w0:World} {c:JobC} (K:JobK w0 c) (j:Int) (q:Nat) : -549747425280<=(c.row j).getD q 0/\(c.row j).getD q 0<=549747425280:=by
 by_cases h:q<c.W*c.C
 ·have h1:=K.c1;have hc:q % c.C<c.C:=Nat.mod_lt _ (by omega);have hi:q / c.C<c.W:=Nat.div_lt_of_lt_mul (by rw[Nat.mul_comm];exact h);have e:q / c.C*c.C+q % c.C=q:=Nat.div_add_mod' q c.C;unfold JobC.row;rw[zjz h,←e,zpi K j hi hc];exact zkC K j hi (Nat.le_refl _)
 ·rw[List.getD_eq_getElem?_getD,List.getElem?_eq_none (by rw[K.row_len];omega)];exact⟨by decide,by decide⟩
def zd7 (c:JobC) (y q k:Nat):Int:=zq (zf c.S.ly y).2 (λt=>(c.row ((zf c.S.ly y).1+(t:Int))).getD q 0) k
theorem zpd {w0:World} {c:JobC} (K:JobK w0 c) {y q k:Nat} (hy:y<c.S.ly.length) (hk:k<=(zf c.S.ly y).2.length) : -4611615649683210240<=zd7 c y q k/\zd7 c y q k<=4611615649683210240 :=
 zhJ (K.small.2.1 y hy) hk (λ_ _=>zmA K _ _)
theorem zu0 {w0:World} {c:JobC} (K:JobK w0 c) {y i ch:Nat} (hy:y<c.S.ly.length) (hi:i<c.W) (hc:ch<c.C):zd7 c y (i*c.C+ch) (zf c.S.ly y).2.length=zbA c.I c.S (c.x0+i) y (ch:Int):=by
 have hq:i*c.C+ch<c.W*c.C:=by
  have:=Nat.mul_le_mul_right c.C (show i+1<=c.W by omega);rw[Nat.add_mul,Nat.one_mul]at this;omega
 have a:=zxy (I:=c.I) (S:=c.S) (x0:=c.x0) (y:=y) (C:=c.C) (n:=c.W*c.C) hc hq;have b:=zpd K (q:=i*c.C+ch) hy (Nat.le_refl _);rw[←a];exact(zaN (by unfold zd7 at b;exact Int.le_trans (by decide) b.1) (by unfold zd7 at b;exact Int.le_trans b.2 (by decide))).symm
def zeU (c:JobC) (E:Int) (y n:Nat):Mv:=if n=0 then(0,0) else if E<(zf c.S.ly y).1+((zf c.S.ly y).2.length:Int) then(1,E) else(2,(y:Int))
def mvV (m:Mv):Value:=.agg #[.int .i64 m.1,.int .i64 m.2]
set_option maxHeartbeats 2000000 in
theorem zhQ {w0 w:World} {jb:Nat} {F R:Nat->Prop} {c:JobC} {G:List Int} {E:Int} {y n:Nat} (K:JobK w0 c) (J:JobAt w0 w jb F R c G E y n) :
  Calls Tryz.prog 20 #[.pointer (some ⟨jb,0,none⟩)] w λe w'=>e=.returned (mvV (zeU c E y n))/\Below w.heap.size w w':=by
 obtain⟨pb,pc,cbk,cc,rb,rc,r,fx,-⟩:=J.mem;have hl:=J.lt;have q7:=ca (ob:=.cells #[.int .i64 0,.int .i64 0] 65) hl fx.c7;have q9:=ca (ob:=.cells #[.int .i64 0,.int .i64 0] 65) hl fx.c9;have q19:=ca (ob:=.cells #[.int .i64 0,.int .i64 0] 65) hl J.c19;have q20:=ca (ob:=.cells #[.int .i64 0,.int .i64 0] 65) hl J.c20;have q21:=ca (ob:=.cells #[.int .i64 0,.int .i64 0] 65) hl J.c21;obtain⟨ad,cap,l0,-,-⟩:=J.line;have q22:=ca (ob:=.cells #[.int .i64 0,.int .i64 0] 65) hl l0;have yn:=J.yn;have yh:=K.yh;have yl:=K.ty.ok.2.2.1;unfold zeU
 by_cases h0:n=0
 ·rw[if_pos h0];have t1:((y:Int) == (c.y0:Int)+(c.H:Int))=true:=by simp;omega
  clear K J fx l0 q19 q21 q22;generalize c.y0=y0 at *;generalize c.H=H at *;unfold mvV
  go_enter Tryz.func20,Tryz.ntmps20
  go_wp2_with fail
  go_quiet (fail)
  go_wp2;exact bodyPost_ret (v:=.agg #[.int .i64 0,.int .i64 0]) (by simp[results,Tryz.results20,go_sem]) rfl ⟨rfl,by repeat (first|exact Below.refl _ _|(with_reducible refine bdN ?_ _)|with_reducible refine bd ?_|with_reducible refine ba ?_ _|with_reducible refine bs ?_ (Nat.le_refl _) _)⟩
 ·rw[if_neg h0];have t1:((y:Int) == (c.y0:Int)+(c.H:Int))=false:=by simp;omega
  obtain⟨n,rfl⟩:∃ m,n=m+1:=⟨n-1,by omega⟩;obtain⟨hy,e1,e2,b1,b2,b3,b4,-⟩:=J.E_in K;clear K J fx l0;generalize (zf c.S.ly y).1=f at *;generalize (zf c.S.ly y).2.length=m at *;generalize c.y0=y0 at *;generalize c.H=H at *
  by_cases h1:E<f+(m:Int)
  ·rw[if_pos h1];unfold mvV
   go_enter Tryz.func20,Tryz.ntmps20
   go_wp2_with fail
   go_quiet (fail)
   go_wp2_with fail
   go_quiet (fail)
   go_wp2;exact bodyPost_ret (v:=.agg #[.int .i64 1,.int .i64 E]) (by simp[results,Tryz.results20,go_sem]) rfl ⟨rfl,by repeat (first|exact Below.refl _ _|(with_reducible refine bdN ?_ _)|with_reducible refine bd ?_|with_reducible refine ba ?_ _|with_reducible refine bs ?_ (Nat.le_refl _) _)⟩
  ·rw[if_neg h1];unfold mvV
   go_enter Tryz.func20,Tryz.ntmps20
   go_wp2_with fail
   go_quiet (fail)
   go_wp2_with fail
   go_quiet (fail)
   go_wp2;exact bodyPost_ret (v:=.agg #[.int .i64 2,.int .i64 (y:Int)]) (by simp[results,Tryz.results20,go_sem]) rfl ⟨rfl,by repeat (first|exact Below.refl _ _|(with_reducible refine bdN ?_ _)|with_reducible refine bd ?_|with_reducible refine ba ?_ _|with_reducible refine bs ?_ (Nat.le_refl _) _)⟩
theorem zpZ {c:JobC} {G:List Int} {E:Int} {y n:Nat} (h:JobG c.mo G E (c.ls y (n+1))) (hy:y<c.S.ly.length) :
  (E<(zf c.S.ly y).1+((zf c.S.ly y).2.length:Int)->zaB E (y:Int) (c.ls y (n+1))=(1,E) :: zaB (E+1) (y:Int) (c.ls y (n+1))/\zeU c E y (n+1)=(1,E)/\JobG c.mo (G++[E]) (E+1) (c.ls y (n+1))) /\
  (¬E<(zf c.S.ly y).1+((zf c.S.ly y).2.length:Int)->zaB E (y:Int) (c.ls y (n+1))=(2,(y:Int)) :: zaB E ((y+1:Nat):Int) (c.ls (y+1) n)/\zeU c E y (n+1)=(2,(y:Int))/\JobG c.mo G E (c.ls (y+1) n)):=by
 rw[zcJ hy]at h ⊢;unfold zeU;rw[if_neg (Nat.succ_ne_zero n)];refine⟨λq=>⟨zlL h q,if_pos q,h.filter q⟩,λq=>⟨?_,if_neg q,h.written q⟩⟩;have:=znN (y:=(y:Int)) h q;rw[show((y+1:Nat):Int)=(y:Int)+1 by omega];exact this
def FarRow (B:Nat) (u:Option Addr) (xs:List Int):Prop:=xs=[]\/∃ b o,u=some ⟨b,o,none⟩/\B<=b
theorem FarRow.mono {B B':Nat} {u:Option Addr} {xs:List Int} (h:FarRow B u xs) (hb:B'<=B):FarRow B' u xs:=by
 rcases h with h|⟨b,o,e,l⟩
 ·exact .inl h
 ·exact .inr ⟨b,o,e,Nat.le_trans hb l⟩
theorem RowAt.far {k:IntKind} {w w':World} {B R:Nat} {u:Option Addr} {xs:List Int} (h:RowAt k w u xs) (hf:FarRow B u xs) (hg:w.grownBy w' (some R)) (hR:R<B):RowAt k w' u xs:=by
 rcases hf with hf|⟨b,o,rfl,l⟩
 ·exact .inl hf
 ·exact h.grown hg (λe=>by have:=Option.some.inj e;omega)
def GathAt (w:World) (B:Nat) (e:Ending) (p f n:Int) (ts:List Int):Prop :=
 ∃ (P W:List Int) (N:Nat) (u v:Option Addr) (cu cv:Nat),e=.returned (.agg #[.slice u N cu,.slice v N cv])/\P.length=N/\W.length=N/\RowAt .i64 w u P/\RowAt .i64 w v W/\FarRow B u P/\FarRow B v W/\Gath p f n ts P W
theorem GathAt.stored {w w':World} {B R:Nat} {e:Ending} {p f n:Int} {ts:List Int} (h:GathAt w B e p f n ts) (hg:w.grownBy w' (some R)) (hR:R<B):GathAt w' B e p f n ts:=by
 obtain⟨P,W,N,u,v,cu,cv,he,hP,hW,ru,rv,fu,fv,g⟩:=h;exact⟨P,W,N,u,v,cu,cv,he,hP,hW,ru.far fu hg hR,rv.far fv hg hR,fu,fv,g⟩
theorem zn7 (p f n:Int) (n0:0<=n) (ad:Option Addr) (cap:Nat) (B:Nat) (w:World) :
  Calls Tryz.prog 153 #[.int .i64 p,.int .i64 f,.slice ad 0 cap,.int .i64 n] w λe w'=>GathAt w' B e p f n []/\Below w.heap.size w w':=by
 have CS:=λw=>zst p f 0 n (by omega) w
 go_enter Tryz.func153,Tryz.ntmps153
 go_wp2_with (go_at_call 43;(with_reducible refine(CS _).mono ?_);rintro e w1 ⟨rfl,rfl⟩)
 exact bodyPost_ret (v:=.agg #[.slice none 0 0,.slice ad 0 cap]) (by simp[results,Tryz.results153,go_sem]) rfl ⟨⟨[],[],0,none,ad,0,cap,rfl,rfl,rfl,.inl rfl,.inl rfl,.inl rfl,.inl rfl,zsq p f n⟩,zg _ _⟩
set_option maxRecDepth 100000 in
theorem zn5 (p f:Int) (n m:Nat) (ts:List Int) (hm:ts.length=m) (ad:Option Addr) (cap:Nat) (w:World) (hr:RowAt .i64 w ad ts) (B:Nat) (hB:B<=w.heap.size) (hf:FarRow B ad ts) (p0:0<=p) (p1:p<=2) (n0:1<=n) (n1:n<=65536) (f0 : -1099511627776<=f) (f1:f<=1099511627776) (hs:zaj ts) (m0:1<=m) (hmn:m<=n) :
  Calls Tryz.prog 153 #[.int .i64 p,.int .i64 f,.slice ad m cap,.int .i64 (n:Int)] w λe w'=>GathAt w' B e p f (n:Int) ts/\Below w.heap.size w w':=by
 have G:=ztw (p:=p) (f:=f) (n:=(n:Int)) (ts:=ts) p0 p1 (by omega) (by omega) f0 f1 hs (by omega);rw[hm]at G;have HG:=za G;have HR:=za hr;have HM:=za hm;have CS:=λw=>zh8 p f (n:Int) m m0 (by omega) (by omega) (by omega) w
 have hle:(m:Int)<=(n:Int):=by omega
 have HL:=za (zaw p f (n:Int) m);generalize zB p f (n:Int) m=P at *;clear hr hm G hs f0 f1
 go_enter Tryz.func153,Tryz.ntmps153
 go_wp2_with (go_at_call 43;(with_reducible refine(CS _).mono ?_);rintro e w1 ⟨v,rfl,own,b1⟩;obtain⟨g,cg,rfl,hg,hl,row,_,_⟩:=zax own HL.out m0;have q0:=cb b1 (b:=w.heap.size) (o:=0) (v:=.slice none 0 0) (by simp) (by simp);have q1:=cb b1 (b:=w.heap.size) (o:=1) (v:=.slice none 0 0) (by simp) (by simp);have y0:=fb b1 (b:=w.heap.size) (o:=0) (by simp) (by simp);have y1:=fb b1 (b:=w.heap.size) (o:=1) (by simp) (by simp))
 simp at hg;have ne:some g≠some w.heap.size:=λe=>by have:=Option.some.inj e;omega
 have R1:=(row.grown (zn w1 w.heap.size 0 (.slice (some ⟨g,0,none⟩) m cg)) ne).grown (zn _ w.heap.size 1 (.slice ad m cap)) ne;have B1:=bs (bs (bt (zg _ _) b1) (b:=w.heap.size) (o:=0) (Nat.le_refl _) (.slice (some ⟨g,0,none⟩) m cg)) (b:=w.heap.size) (o:=1) (Nat.le_refl _) (.slice ad m cap);exact bodyPost_ret (v:=.agg #[.slice (some ⟨g,0,none⟩) m cg,.slice ad m cap]) (by simp[results,Tryz.results153,go_sem,q0,q1]) rfl ⟨⟨P,ts,m,_,ad,cg,cap,rfl,HL.out,HM.out,R1,HR.out.below B1,.inr ⟨g,0,rfl,by omega⟩,hf,HG.out⟩,B1⟩
set_option maxHeartbeats 4000000 in
set_option maxRecDepth 100000 in
theorem zm7 (p f:Int) (n m:Nat) (ts:List Int) (hm:ts.length=m) (ad:Option Addr) (cap:Nat) (w:World) (hr:RowAt .i64 w ad ts) (B:Nat) (hB:B<=w.heap.size) (hf:FarRow B ad ts) (p0:0<=p) (p1:p<=2) (n0:1<=n) (n1:n<=65536) (f0 : -1099511627776<=f) (f1:f<=1099511627776) (hs:zaj ts) (hl:m<=1048576) (hmn:n<m) :
  Calls Tryz.prog 153 #[.int .i64 p,.int .i64 f,.slice ad m cap,.int .i64 (n:Int)] w λe w'=>GathAt w' B e p f (n:Int) ts/\Below w.heap.size w w':=by
 have G:=zrS (p:=p) (f:=f) (n:=n) (ts:=ts) p0 p1 n0 n1 f0 f1 hs (by omega);rw[hm]at G;have hin:∀ k,k<m->0<=(zB p f (n:Int) m).getD k 0/\(zB p f (n:Int) m).getD k 0<(n:Int):=λk hk=>zgx p0 p1 (by omega) (by omega) f0 f1 hl k hk
 have gab:∀ k,k<=m->∀ j,j<n->-8388608<=(zcH ts (zB p f (n:Int) m) n k).getD j 0/\(zcH ts (zB p f (n:Int) m) n k).getD j 0<=8388608:=by
  intro k hk j hj;have a:=zoY (ts:=ts) hin k hk;have b:=zgc ts (show k<=ts.length by omega);have c:=zf7 (zcH ts (zB p f (n:Int) m) n k) (j:=j) (n:=n) hj;unfold zaj at hs;omega
 have wab:∀ k,k<m->-8388608<=ts.getD k 0/\ts.getD k 0<=8388608:=by
  intro k hk;have c:=zf7 ts (j:=k) (n:=ts.length) (by omega);unfold zaj at hs;omega
 have HG:=za G;have HR:=za hr;have HM:=za hm;have HIN:=za hin;have HGA:=za gab;have HWA:=za wab;have CS:=λw=>zh8 p f (n:Int) m (by omega) (by omega) (by omega) (by omega) w
 have CS2:=λw=>zh8 p 0 (n:Int) n n0 (by omega) (by omega) (by omega) w
 have hle:¬(m:Int)<=(n:Int):=by omega
 have HL:=za (zaw p f (n:Int) m);have HL2:=za (zaw p 0 (n:Int) n);have HGL:=za (λk=>zdY ts (zB p f (n:Int) m) n k);have HGS:=za (λk=>show zcH ts (zB p f (n:Int) m) n (k+1)=(zcH ts (zB p f (n:Int) m) n k).set ((zB p f (n:Int) m).getD k 0).toNat ((zcH ts (zB p f (n:Int) m) n k).getD ((zB p f (n:Int) m).getD k 0).toNat 0+ts.getD k 0) from rfl);have HG0:=za (show zcH ts (zB p f (n:Int) m) n 0=List.replicate n 0 from rfl);generalize zB p f (n:Int) m=P at *;generalize zB p 0 (n:Int) n=P2 at *;obtain⟨zs,MK,MO,_⟩:=zh9 n (by omega);have HMO:=za MO;clear hr hm G hs f0 f1 hin gab wab MO
 go_enter Tryz.func153,Tryz.ntmps153
 go_wp2_with (go_at_call 43;(with_reducible refine(CS _).mono ?_);rintro e w1 ⟨v,rfl,own,b1⟩;obtain⟨g,cg,rfl,hg,hl2,row,_,_⟩:=zax own HL.out (by omega);have q0:=cb b1 (b:=w.heap.size) (o:=0) (v:=.slice none 0 0) (by simp) (by simp);have q1:=cb b1 (b:=w.heap.size) (o:=1) (v:=.slice none 0 0) (by simp) (by simp);have y0:=fb b1 (b:=w.heap.size) (o:=0) (by simp) (by simp);have y1:=fb b1 (b:=w.heap.size) (o:=1) (by simp) (by simp))
 simp at hg;have B1:=za (bt (zg _ _) b1);have HROW:=za row;have O1:=HMO.out w1 w1.heap.size (Nat.le_refl _);rw[←HG0.out]at O1;have HO1:=za O1;have HB1:=za (ba (Below.refl w1.heap.size w1) (.cells zs 2));have HQ:=za (And.intro q0 (And.intro q1 (And.intro y0 y1)));have hsz:=b1.size;simp at hsz;clear MK HMO O1 own row b1 HG0 q0 q1 y0 y1;generalize w1.alloc (.cells zs 2)=w2 at *
 go_loopw [30] (λi wr=>∃ k:Nat,k<=m/\i=.int .i64 (k:Int)/\OwnI .i64 2 wr w1.heap.size (.slice (some ⟨w1.heap.size,0,none⟩) n n) (zcH ts P n k)/\Below w1.heap.size w1 wr) (λi _=>m-(intOf i).toNat)
 case atStart=>exact⟨0,by omega,rfl,HO1.out,HB1.out⟩
 case round =>
  clear HO1 HB1;obtain⟨k,hk,rfl,ho,hb⟩:=hrel;have HO:=za ho;have HB:=za hb;clear ho hb
  by_cases hlt:k<m
  ·obtain⟨j0,j1⟩:=HIN.out k hlt;obtain⟨J,hJ⟩:∃ J:Nat,(P.getD k 0).toNat=J:=⟨_,rfl⟩;have hJi:P.getD k 0=(J:Int):=by omega
   obtain⟨g0,g1⟩:=HGA.out k (by omega) J (by omega);obtain⟨t0,t1⟩:=HWA.out k hlt;have cp:=(HROW.out.below HB.out).at (show k<P.length by rw[HL.out];exact hlt);rw[hJi,Nat.zero_add]at cp;obtain⟨tb,tq,rfl,ct⟩:=((HR.out.below B1.out).below HB.out).get (show k<ts.length by rw[HM.out];exact hlt);have hJn:J<n:=by omega
   have HS:=za (HGS.out k);rw[hJ]at HS;have LP:=HGL.out k;obtain⟨A,hA⟩:∃ A,(zcH ts P n k).getD J 0=A:=⟨_,rfl⟩;obtain⟨T,hT⟩:∃ T,ts.getD k 0=T:=⟨_,rfl⟩;rw[hA,hT]at HS;rw[hA]at g0 g1;rw[hT]at t0 t1 ct;have W1:IntKind.i64.wrap (A+T)=A+T:=IntWalk.i64_in _ (by omega);have c1:=HO.out.cellAt LP hJn;rw[hA]at c1;have z1:=HO.out.frozenAt LP J;have ST:=HO.out.stored LP J (A+T);rw[←HS.out]at ST;have H5:=za (And.intro ST (bs HB.out (Nat.le_refl _) (b:=w1.heap.size) (o:=J) (.int .i64 (A+T))));clear LP ST HS hA hT g0 g1 t0 t1 j0 j1 hJ hJi
   go_upto_region 8 with fail
   go_region
   all_goals
    go_wp2
    go_roundw
    case rel=>exact⟨k+1,by omega,by go_num,H5.out.1.below (bd (Below.refl _ _)),bd H5.out.2⟩
    case measure=>simp[intOf];omega
  ·obtain rfl:k=m:=by omega
   obtain⟨g5,c5,he,hB5,hl5,row5,_,_⟩:=zax HO.out (HGL.out k) n0;simp only[Value.slice.injEq,Option.some.injEq,Addr.mk.injEq,and_true,true_and]at he;obtain⟨rfl,rfl⟩:=he;have HR5:=za row5;have hzz:=HB.out.size;clear row5 hlt;obtain⟨x0,x1,x2,x3⟩:=HQ.out;have lw:w.heap.size<w1.heap.size:=by omega
   have q0:=cb HB.out lw x0;have q1:=cb HB.out lw x1;have y0:=fb HB.out lw x2;have y1:=fb HB.out lw x3;have lw2:w.heap.size<wr.heap.size:=by omega
   clear x0 x1 x2 x3
   go_wp2_with (go_at_call 43;(with_reducible refine(CS2 _).mono ?_);rintro e w5 ⟨v,rfl,own,b5⟩;obtain⟨g6,c6,rfl,hg6,hl6,row6,_,_⟩:=zax own HL2.out n0;replace q0:=cb b5 lw2 q0;replace q1:=cb b5 lw2 q1;replace y0:=fb b5 lw2 y0;replace y1:=fb b5 lw2 y1)
   have ne:some g6≠some w.heap.size:=λe=>by have:=Option.some.inj e;omega
   have ne2:some w1.heap.size≠some w.heap.size:=λe=>by have:=Option.some.inj e;omega
   have R1:=(row6.grown (zn w5 w.heap.size 0 (.slice (some ⟨g6,0,none⟩) n c6)) ne).grown (zn _ w.heap.size 1 (.slice (some ⟨w1.heap.size,0,none⟩) n n)) ne;have R2:=((HR5.out.below b5).grown (zn w5 w.heap.size 0 (.slice (some ⟨g6,0,none⟩) n c6)) ne2).grown (zn _ w.heap.size 1 (.slice (some ⟨w1.heap.size,0,none⟩) n n)) ne2;have B5:=bs (bs (bt (bt B1.out HB.out) b5) (b:=w.heap.size) (o:=0) (Nat.le_refl _) (.slice (some ⟨g6,0,none⟩) n c6)) (b:=w.heap.size) (o:=1) (Nat.le_refl _) (.slice (some ⟨w1.heap.size,0,none⟩) n n);exact bodyPost_ret (v:=.agg #[.slice (some ⟨g6,0,none⟩) n c6,.slice (some ⟨w1.heap.size,0,none⟩) n n]) (by simp[results,Tryz.results153,go_sem,q0,q1]) rfl ⟨⟨P2,zcH ts P n k,n,_,_,c6,n,rfl,HL2.out,HGL.out k,R1,R2,.inr ⟨g6,0,rfl,by omega⟩,.inr ⟨w1.heap.size,0,rfl,by omega⟩,HG.out⟩,B5⟩
theorem zq7 (p f:Int) (n:Nat) (ts:List Int) (m:Nat) (hm:ts.length=m) (ad:Option Addr) (cap:Nat) (w:World) (hr:RowAt .i64 w ad ts) (B:Nat) (hB:B<=w.heap.size) (hf:FarRow B ad ts) (p0:0<=p) (p1:p<=2) (n0:1<=n) (n1:n<=65536) (f0 : -1099511627776<=f) (f1:f<=1099511627776) (hs:zaj ts) (hl:m<=1048576) :
  Calls Tryz.prog 153 #[.int .i64 p,.int .i64 f,.slice ad m cap,.int .i64 (n:Int)] w λe w'=>GathAt w' B e p f (n:Int) ts/\Below w.heap.size w w':=by
 by_cases h0:m=0
 ·subst h0;obtain rfl:=List.length_eq_zero_iff.1 hm;exact zn7 p f (n:Int) (by omega) ad cap B w
 ·by_cases h1:m<=n
  ·exact zn5 p f n m ts hm ad cap w hr B hB hf p0 p1 n0 n1 f0 f1 hs (by omega) h1
  ·exact zm7 p f n m ts hm ad cap w hr B hB hf p0 p1 n0 n1 f0 f1 hs hl (by omega)
def zff (a b:Int):Bool:=decide (1<=a/\a<=4096/\1<=b/\b<=4096)
theorem zcr {a b:Int}:zff a b=true↔1<=a/\a<=4096/\1<=b/\b<=4096:=decide_eq_true_iff
def inB (n i:Int):Bool:=decide (0<=i/\i<n)
theorem zoV {n i:Int}:inB n i=true↔0<=i/\i<n:=decide_eq_true_iff
theorem zxX {P:Program} {f:FuncId} {args:Array Value} {u:Value} (h:∀ w:World,Calls P f args w λe w'=>e=.returned u/\w=w') (w:World) (n:Nat) :
  Calls P f args (w.drewN n) λe w''=>e=.returned u/\∃ m,w''=w.drewN m :=
 (h _).mono λ_ _ q=>⟨q.1,n,q.2.symm⟩
def PlanAt (w:World) (v x y:Value) (S:Stg) (a b:Int):Prop :=
 ∃ g,v=.pointer (some ⟨g,0,none⟩)/\S5 w g x y (.int .i64 S.sb) (.int .i64 a) (.int .i64 b)/\Tab w x S.fx S.lx/\Tab w y S.fy S.ly/\zff a b=true
theorem PlanAt.below {w w':World} {v x y:Value} {S:Stg} {a b:Int} (h:PlanAt w v x y S a b) (hb:Below w.heap.size w w'):PlanAt w' v x y S a b:=by
 obtain⟨g,rfl,hs,tx,ty,ht⟩:=h;exact⟨g,rfl,hs.below hb,tx.below hb,ty.below hb,ht⟩
theorem ziF (n t:Int) (n0:0<=n) (n1:n<=65536) (t0:1<=t) (t1:t<=4096) (w:World):Calls Tryz.prog 110 #[.int .i64 n,.int .i64 t] w λe w'=>e=.returned (.int .i64 (zdm n t))/\w=w':=by
 unfold zdm
 go_enter Tryz.func110,Tryz.ntmps110
 go_wp2;go_ret;exact⟨rfl,rfl⟩
theorem zjI (n:Int) (h:1<=n/\n<=4096) (w:World):Calls Tryz.prog 107 #[.int .i64 n] w λe w'=>e=.returned (.bool true)/\w=w':=by
 obtain⟨h0,h1⟩:=h
 go_enter Tryz.func107,Tryz.ntmps107
 go_wp2;go_ret;exact⟨rfl,rfl⟩
theorem zk6 (n:Int) (h:n<1\/4096<n) (w:World):Calls Tryz.prog 107 #[.int .i64 n] w λe w'=>e=.returned (.bool false)/\w=w':=by
 rcases h with h|h
 ·go_enter Tryz.func107,Tryz.ntmps107
  go_wp2;go_ret;exact⟨rfl,rfl⟩
 ·have h1:1<=n:=by omega
  have h2:decide (n<=4096)=false:=decide_eq_false (by omega)
  go_enter Tryz.func107,Tryz.ntmps107
  go_wp2;go_ret;exact⟨rfl,rfl⟩
theorem zxu {P:Program} {f:FuncId} {args:Array Value} {u:Value} {w:World} {m n:Nat} (h:Calls P f args (w.drewN (m+n)) λe w'=>e=.returned u/\Drew (w.drewN (m+n)) w') :
  Calls P f args (w.drewN (m+n)) λe w''=>e=.returned u/\∃ k,w''=w.drewN (m+k) :=
 h.mono λe w' ⟨he,k,hk⟩=>⟨he,n+k,by rw[hk,World.drewN_drewN,Nat.add_assoc]⟩
theorem zlW {w:World} {v x y:Value} {S:Stg} {a b:Int} (h:PlanAt w v x y S a b):Calls Tryz.prog 109 #[v] w λe w'=>e=.returned (.int .i64 (zu S.lx a))/\Drew w w':=by
 obtain⟨g,rfl,hs,tx,ty,ht⟩:=h;obtain⟨ax,rfl⟩:=tx.ptr;obtain⟨a0,a1,_,_⟩:=zcr.1 ht;have n1:=tx.ok.2.2.1;have CT:=λn=>zdz (tx.below (bdN (Below.refl _ w) n))
 have CP:=ziF (S.lx.length:Int) a (by omega) (by omega) a0 a1;obtain⟨⟨c0,_⟩,⟨c1,_⟩,⟨c2,_⟩,⟨c3,_⟩,⟨c4,_⟩⟩:=hs;unfold zu;clear tx ty ht;generalize S.lx.length=n at *
 go_enter Tryz.func109,Tryz.ntmps109
 go_wp2
 go_quiet ((first
  |(go_at_call 32;with_reducible exact zbR (CT _))
  |(go_at_call 110;with_reducible exact zxX CP _ _)))
 go_wp2;go_ret;exact⟨rfl,⟨_,rfl⟩⟩
theorem zkZ {w:World} {v x y:Value} {S:Stg} {a b:Int} (h:PlanAt w v x y S a b):Calls Tryz.prog 70 #[v] w λe w'=>e=.returned (.int .i64 (zcp S.lx S.ly a b))/\Drew w w':=by
 have CC:=λn=>zlW (h.below (bdN (Below.refl _ w) n))
 obtain⟨g,rfl,hs,tx,ty,ht⟩:=h;obtain⟨ay,rfl⟩:=ty.ptr;obtain⟨a0,a1,b0,b1⟩:=zcr.1 ht;have m1:=tx.ok.2.2.1;have n1:=ty.ok.2.2.1;have cin:=zg0 (LX:=S.lx) (LY:=S.ly) a0 b0;have CT:=λn=>zdz (ty.below (bdN (Below.refl _ w) n))
 have CP:=ziF (S.ly.length:Int) b (by omega) (by omega) b0 b1;obtain⟨⟨c0,_⟩,⟨c1,_⟩,⟨c2,_⟩,⟨c3,_⟩,⟨c4,_⟩⟩:=hs;unfold zcp;rw[show zdm (S.ly.length:Int) b=zu S.ly b from rfl]at CP;have p1:zu S.lx a*zu S.ly b<=65536*65536:=Int.mul_le_mul (by omega) (by omega) (by omega) (by omega);have p0:0<=zu S.lx a*zu S.ly b:=Int.mul_nonneg (by omega) (by omega);have wr:IntKind.i64.wrap (zu S.lx a*zu S.ly b)=zu S.lx a*zu S.ly b:=by rw[IntKind.wrap_i64];omega
 clear tx ty ht cin m1;generalize S.ly.length=n at *;generalize zu S.lx a=A at *;generalize zu S.ly b=B at *
 go_enter Tryz.func70,Tryz.ntmps70
 go_wp2
 go_quiet ((first
  |(go_at_call 109;with_reducible exact zbR (CC _))
  |(go_at_call 32;with_reducible exact zbR (CT _))
  |(go_at_call 110;with_reducible exact zxX CP _ _)))
 go_wp2;go_ret;exact⟨rfl,⟨_,rfl⟩⟩
def R4 (w:World) (R:Nat) (v0 v1 v2 v3:Value):Prop:=(w.cell? ⟨R,0,none⟩=some v0/\w.frozen? ⟨R,0,none⟩=false)/\(w.cell? ⟨R,1,none⟩=some v1/\w.frozen? ⟨R,1,none⟩=false)/\(w.cell? ⟨R,2,none⟩=some v2/\w.frozen? ⟨R,2,none⟩=false)/\(w.cell? ⟨R,3,none⟩=some v3/\w.frozen? ⟨R,3,none⟩=false)
theorem R4.below {w w':World} {R:Nat} {v0 v1 v2 v3:Value} (h:R4 w R v0 v1 v2 v3) (b:Below w.heap.size w w'):R4 w' R v0 v1 v2 v3:=by
 obtain⟨⟨h0,f0⟩,⟨h1,f1⟩,⟨h2,f2⟩,⟨h3,f3⟩⟩:=h;have hl:=ze h0;exact⟨⟨cb b hl h0,fb b hl f0⟩,⟨cb b hl h1,fb b hl f1⟩,⟨cb b hl h2,fb b hl f2⟩,⟨cb b hl h3,fb b hl f3⟩⟩
theorem R4.new (w:World) (T:TypeId) (v0 v1 v2 v3:Value):R4 (w.alloc (.cells #[v0,v1,v2,v3] T)) w.heap.size v0 v1 v2 v3:=by
 unfold R4
 simp
theorem R4.fill {w:World} {R:Nat} {u0 u1 u2 u3:Value} (h:R4 w R u0 u1 u2 u3) (v0 v1 v2 v3:Value):R4 ((((w.setCell ⟨R,0,none⟩ v0).setCell ⟨R,1,none⟩ v1).setCell ⟨R,2,none⟩ v2).setCell ⟨R,3,none⟩ v3) R v0 v1 v2 v3:=by
 obtain⟨⟨h0,f0⟩,⟨h1,f1⟩,⟨h2,f2⟩,⟨h3,f3⟩⟩:=h;unfold R4;simp only[World.frozen?_setCell];refine⟨⟨?_,f0⟩,⟨?_,f1⟩,⟨?_,f2⟩,⟨?_,f3⟩⟩
 ·rw[zc (Or.inr (by decide)),zc (Or.inr (by decide)),zc (Or.inr (by decide))];exact World.cell?_setCell_same' _ _ _ (by rw[h0];rfl)
 ·rw[zc (Or.inr (by decide)),zc (Or.inr (by decide))];exact World.cell?_setCell_same' _ _ _ (by rw[zc (Or.inr (by decide)),h1];rfl)
 ·rw[zc (Or.inr (by decide))];exact World.cell?_setCell_same' _ _ _ (by rw[zc (Or.inr (by decide)),zc (Or.inr (by decide)),h2];rfl)
 ·exact World.cell?_setCell_same' _ _ _ (by rw[zc (Or.inr (by decide)),zc (Or.inr (by decide)),zc (Or.inr (by decide)),h3];rfl)
theorem zsW {w:World} {g h:Nat} (ne:g≠h) {p q x y u0 u1 u2 u3:Value} (c0:w.cell? ⟨g,0,none⟩=some p) (c1:w.cell? ⟨g,1,none⟩=some q) (c3:w.cell? ⟨g,3,none⟩=some x) (c4:w.cell? ⟨g,4,none⟩=some y) :
  ((((w.setCell ⟨h,0,none⟩ u0).setCell ⟨h,1,none⟩ u1).setCell ⟨h,2,none⟩ u2).setCell ⟨h,3,none⟩ u3).cell? ⟨g,0,none⟩=some p/\((((w.setCell ⟨h,0,none⟩ u0).setCell ⟨h,1,none⟩ u1).setCell ⟨h,2,none⟩ u2).setCell ⟨h,3,none⟩ u3).cell? ⟨g,1,none⟩=some q /\
  ((((w.setCell ⟨h,0,none⟩ u0).setCell ⟨h,1,none⟩ u1).setCell ⟨h,2,none⟩ u2).setCell ⟨h,3,none⟩ u3).cell? ⟨g,3,none⟩=some x/\((((w.setCell ⟨h,0,none⟩ u0).setCell ⟨h,1,none⟩ u1).setCell ⟨h,2,none⟩ u2).setCell ⟨h,3,none⟩ u3).cell? ⟨g,4,none⟩=some y:=by
 have e:∀ o,((((w.setCell ⟨h,0,none⟩ u0).setCell ⟨h,1,none⟩ u1).setCell ⟨h,2,none⟩ u2).setCell ⟨h,3,none⟩ u3).cell? ⟨g,o,none⟩=w.cell? ⟨g,o,none⟩:=λo=>by
  rw[zc (Or.inl ne.symm),zc (Or.inl ne.symm),zc (Or.inl ne.symm),zc (Or.inl ne.symm)]
 exact⟨(e 0).trans c0,(e 1).trans c1,(e 3).trans c3,(e 4).trans c4⟩
set_option maxHeartbeats 8000000 in
set_option maxRecDepth 100000 in
theorem zwG {w:World} {v x y:Value} {S:Stg} {a b:Int} (h:PlanAt w v x y S a b) (i:Int) (i0:0<=i) (i1:i<zcp S.lx S.ly a b) :
  Calls Tryz.prog 151 #[v,.int .i64 i] w λe w'=>e=.returned (.agg #[.int .i64 (i % zu S.lx a*a),.int .i64 (i / zu S.lx a*b),.int .i64 (min a ((S.lx.length:Int)-i % zu S.lx a*a)),.int .i64 (min b ((S.ly.length:Int)-i / zu S.lx a*b))])/\Below w.heap.size w w':=by
 have H:=za h;obtain⟨g,rfl,hs,tx,ty,ht⟩:=h;obtain⟨ax,rfl⟩:=tx.ptr;obtain⟨ay,rfl⟩:=ty.ptr;obtain⟨a0,a1,b0,b1⟩:=zcr.1 ht;have m0:=tx.ok.2.1;have m1:=tx.ok.2.2.1;have n1:=ty.ok.2.2.1;have A1:=zlc (n:=(S.lx.length:Int)) (t:=a) (by omega) a0;rw[show zdm (S.lx.length:Int) a=zu S.lx a from rfl]at A1;obtain⟨p0,p1,q0,q1,e5⟩:=ztI (A:=zu S.lx a) (D:=zu S.ly b) A1 i0 i1;clear e5;have X1:=(zeP (n:=(S.lx.length:Int)) a0).1 p1;have Y1:=(zeP (n:=(S.ly.length:Int)) b0).1 q1;have X0:0<=i % zu S.lx a*a:=Int.mul_nonneg p0 (by omega);have Y0:0<=i / zu S.lx a*b:=Int.mul_nonneg q0 (by omega);have CC:=λw' (b':Below w.heap.size w w')=>λn=>zlW (H.out.below (bdN b' n))
 have CTX:=λw' (b':Below w.heap.size w w')=>zeA (tx.below b')
 have CTY:=λw' (b':Below w.heap.size w w')=>zeA (ty.below b')
 have hne:g≠w.heap.size:=Nat.ne_of_lt (ze hs.1.1);have HR:=za (R4.new w 41 (.int .i64 0) (.int .i64 0) (.int .i64 0) (.int .i64 0));have HS0:=za hs;have HS:=za (hs.below (zg w (.cells #[.int .i64 0,.int .i64 0,.int .i64 0,.int .i64 0] 41)));have i2:i<=65536*65536:=by
  have cin:=zg0 (LX:=S.lx) (LY:=S.ly) a0 b0;have:(S.lx.length:Int)*(S.ly.length:Int)<=65536*65536:=Int.mul_le_mul (by omega) (by omega) (by omega) (by omega);omega
 have q2:i / zu S.lx a<=65536:=by
  have cin:=zg0 (LX:=S.lx) (LY:=S.ly) a0 b0;omega
 have wx1:IntKind.i64.wrap (i % zu S.lx a*a)=i % zu S.lx a*a:=by rw[IntKind.wrap_i64];omega
 have wy1:IntKind.i64.wrap (i / zu S.lx a*b)=i / zu S.lx a*b:=by rw[IntKind.wrap_i64];omega
 have tm:i.tmod (zu S.lx a)=i % zu S.lx a:=Int.tmod_eq_emod_of_nonneg i0;have td:i.tdiv (zu S.lx a)=i / zu S.lx a:=Int.tdiv_eq_ediv_of_nonneg i0;clear hs tx ty ht i1 m0 q1 p1;generalize S.lx.length=n at *;generalize S.ly.length=m at *;generalize zu S.lx a=A at *;obtain⟨p,hp⟩:∃ p,i % A=p:=⟨_,rfl⟩;obtain⟨q,hq⟩:∃ q,i / A=q:=⟨_,rfl⟩;rw[hp]at tm wx1 X0 X1 p0 ⊢;rw[hq]at td wy1 Y0 Y1 q0 q2 ⊢;obtain⟨X,hX⟩:∃ X,p*a=X:=⟨_,rfl⟩;obtain⟨Y,hY⟩:∃ Y,q*b=Y:=⟨_,rfl⟩;rw[hX]at wx1 X0 X1 ⊢;rw[hY]at wy1 Y0 Y1 ⊢;have wnx:IntKind.i64.wrap ((n:Int)-X)=(n:Int)-X:=by rw[IntKind.wrap_i64];omega
 have wmy:IntKind.i64.wrap ((m:Int)-Y)=(m:Int)-Y:=by rw[IntKind.wrap_i64];omega
 have hA0:(A == 0)=false:=beq_eq_false_iff_ne.2 (by omega);obtain⟨⟨c0,_⟩,⟨c1,_⟩,⟨c2,_⟩,⟨c3,_⟩,⟨c4,_⟩⟩:=HS.out;clear hp hq
 go_enter Tryz.func151,Tryz.ntmps151
 go_wp2
 go_quiet ((go_at_call 109;with_reducible exact zbR (CC _ (zg _ _) _)))
 go_wp2
 go_quiet ((go_at_call 109;with_reducible exact zxu (CC _ (zg _ _) _)))
 go_wp2
 go_region_held3 (λw'=>w'.cell? ⟨g,0,none⟩=some (.pointer (some ax))/\w'.cell? ⟨g,1,none⟩=some (.pointer (some ay))/\w'.cell? ⟨g,3,none⟩=some (.int .i64 a)/\w'.cell? ⟨g,4,none⟩=some (.int .i64 b)) (first|with_reducible assumption|(with_reducible exact⟨z0,z1,z3,z4⟩)|(with_reducible exact⟨y0,y1,y3,y4⟩)|(with_reducible exact zsW hne z0 z1 z3 z4)|go_keep)
  (first
   |(go_at_call 32;(with_reducible refine(CTX _ (by repeat (first|exact Below.refl _ _|(with_reducible refine bdN ?_ _)|with_reducible refine bd ?_|with_reducible refine ba ?_ _))).mono ?_);rintro e w8 ⟨rfl,b8⟩;have D8:Below w.heap.size w w8:=bt (by repeat (first|exact Below.refl _ _|(with_reducible refine bdN ?_ _)|with_reducible refine bd ?_|with_reducible refine ba ?_ _)) b8;have K8:=za D8;have R8:=za ((HR.out.below (by repeat (first|exact Below.refl _ _|(with_reducible refine bdN ?_ _)|with_reducible refine bd ?_|with_reducible refine ba ?_ _))).below b8);have y8:=HS0.out.below D8;obtain⟨⟨y0,_⟩,⟨y1,_⟩,_,⟨y3,_⟩,⟨y4,_⟩⟩:=y8;clear D8)
   |(go_at_call 32;(with_reducible refine(CTY _ K8.out).mono ?_);rintro e w9 ⟨rfl,b9⟩;have K9:=za (bt K8.out b9);have R9:=za (R8.out.below b9);have y9:=HS0.out.below K9.out;obtain⟨⟨z0,_⟩,⟨z1,_⟩,_,⟨z3,_⟩,⟨z4,_⟩⟩:=y9;obtain⟨⟨v0,vf0⟩,⟨v1,vf1⟩,⟨v2,vf2⟩,⟨v3,vf3⟩⟩:=R9.out))
 all_goals
  have F9:=R9.out.fill (.int .i64 X) (.int .i64 Y) (.int .i64 (min a ((n:Int)-X))) (.int .i64 (min b ((m:Int)-Y)));have B9:=za (bs (bs (bs (bs K9.out (Nat.le_refl _) (.int .i64 X) (o:=0)) (Nat.le_refl _) (.int .i64 Y) (o:=1)) (Nat.le_refl _) (.int .i64 (min a ((n:Int)-X))) (o:=2)) (Nat.le_refl _) (.int .i64 (min b ((m:Int)-Y))) (o:=3));obtain⟨⟨t0,_⟩,⟨t1,_⟩,⟨t2,_⟩,⟨t3,_⟩⟩:=F9;go_wp2;exact bodyPost_ret (v:=.agg #[.int .i64 X,.int .i64 Y,.int .i64 (min a ((n:Int)-X)),.int .i64 (min b ((m:Int)-Y))]) (by simp[results,Tryz.results151,go_sem,t0,t1,t2,t3]) rfl ⟨rfl,B9.out⟩
theorem zlv {w:World} {v:Value} {n:Int} {L:List (Int×List Int)} (h:Tab w v n L) (i:Int) (i0 : -9223372036854775808<=i) (i1:i<=9223372036854775807) (m:Nat) (hm:(lnI L i).2.length=m) :
  Calls Tryz.prog 46 #[v,.int .i64 i] w λe w'=>(∃ ad cap,e=.returned (.agg #[.int .i64 (lnI L i).1,.slice ad m cap])/\RowAt .i64 w' ad (lnI L i).2/\FarRow w.heap.size ad (lnI L i).2)/\Below w.heap.size w w':=by
 by_cases g:i<0\/(L.length:Int)<=i
 ·rw[zpt g]at hm ⊢;subst hm;refine(zqE h i i0 i1 g).mono ?_;rintro e w' ⟨ad,cap,rfl,b⟩;exact⟨⟨ad,cap,rfl,.inl rfl,.inl rfl⟩,b⟩
 ·obtain⟨j,rfl⟩:=Int.eq_ofNat_of_zero_le (show 0<=i by omega);rw[zgM]at hm ⊢;refine(zeH h j (by omega)).mono ?_;rintro e w' ⟨u,rfl,own,b⟩
  by_cases h0:m=0
  ·obtain⟨ad,cap,rfl,r⟩:=own.formn hm;exact⟨⟨ad,cap,rfl,r.1,.inl (List.length_eq_zero_iff.1 (by omega))⟩,b⟩
  ·obtain⟨b1,cap,rfl,hb,_,r,_,_⟩:=zax own hm (by omega);exact⟨⟨some ⟨b1,0,none⟩,cap,rfl,r,.inr ⟨b1,0,rfl,hb⟩⟩,b⟩
theorem zxY {L:List (Int×List Int)} (h:zby L) (i:Int) : -1099511627776<=(lnI L i).1/\(lnI L i).1<=1099511627776/\(lnI L i).2.length<=1048576:=by
 by_cases g:i<0\/(L.length:Int)<=i
 ·rw[zpt g];exact⟨by decide,by decide,by decide⟩
 ·obtain⟨j,rfl⟩:=Int.eq_ofNat_of_zero_le (show 0<=i by omega);rw[zgM];have:=h j (by omega);exact⟨this.1,this.2.1,this.2.2.2.1⟩
theorem ztz {L:List (Int×List Int)} (h:zet L) (i:Int):zaj (lnI L i).2:=by
 unfold lnI
 split
 ·exact zjo h _
 ·exact ze4
set_option maxHeartbeats 4000000 in
set_option maxRecDepth 100000 in
theorem zwn {w:World} {xv yv:Value} {S:Stg} (hT:Tab w yv S.fy S.ly) (hs:zet S.ly) (s0:0<=S.sb) (s1:S.sb<=2) (i:Int) (i0 : -9223372036854775808<=i) (i1:i<=9223372036854775807) :
  Calls Tryz.prog 114 #[.agg #[xv,yv,.int .i64 S.sb],.int .i64 i] w λe w'=>GathAt w' w.heap.size e S.sb (lnI S.ly i).1 S.fy (lnI S.ly i).2/\Below w.heap.size w w':=by
 obtain⟨hok,_,_,n0,n1⟩:=hT.ok;obtain⟨f0,f1,hl⟩:=zxY hok i;have sm:=ztz hs i;obtain⟨n,hn⟩:∃ n:Nat,S.fy=(n:Int):=⟨S.fy.toNat,by omega⟩;obtain⟨m,hm⟩:∃ m,(lnI S.ly i).2.length=m:=⟨_,rfl⟩;have CL:=λw' (b':Below w.heap.size w w')=>zlv (hT.below b') i i0 i1 m hm
 have CF:=λw' (b':Below w.heap.size w w')=>zfZ (hT.below b')
 rw[hn]at n0 n1 CF ⊢;obtain⟨f,hf⟩:∃ f,(lnI S.ly i).1=f:=⟨_,rfl⟩;obtain⟨ts,hts⟩:∃ ts,(lnI S.ly i).2=ts:=⟨_,rfl⟩;rw[hts]at hm hl sm CL ⊢;rw[hf]at f0 f1 CL ⊢;have CG:=λad cap w' (hr:RowAt .i64 w' ad ts) B hB hf=>zq7 S.sb f n ts m hm ad cap w' hr B hB hf s0 s1 (by omega) (by omega) f0 f1 sm (by omega)
 generalize S.sb=sb at *;obtain⟨W0,hW0⟩:∃ W0,(w.alloc (.cells #[xv,yv,.int .i64 sb] 36)).alloc (.cells #[.slice none 0 0,.slice none 0 0] 177)=W0:=⟨_,rfl⟩;have B0:=za (show Below w.heap.size w W0 by rw[←hW0];exact ba (zg _ _) _);have C0:=za (show W0.cell? ⟨w.heap.size,1,none⟩=some yv/\W0.cell? ⟨w.heap.size,2,none⟩=some (.int .i64 sb) by rw[←hW0];constructor<;>simp);have R0:=za (show(W0.cell? ⟨w.heap.size+1,0,none⟩=some (.slice none 0 0)/\W0.frozen? ⟨w.heap.size+1,0,none⟩=false)/\W0.cell? ⟨w.heap.size+1,1,none⟩=some (.slice none 0 0)/\W0.frozen? ⟨w.heap.size+1,1,none⟩=false by rw[←hW0];simp);have Z0:=za (show W0.heap.size=w.heap.size+1+1 by rw[←hW0];simp);obtain⟨av,rfl⟩:=hT.ptr;clear hT hok hs hn hts hf s0 s1 f0 f1 hl sm n0 n1
 go_enter Tryz.func114,Tryz.ntmps114
 go_upto_region 1 with fail
 clear hW0;obtain⟨q0,q1⟩:=C0.out
 go_upto_region 2 with(go_at_call 46;(with_reducible refine(CL _ B0.out).mono ?_);rintro e w2 ⟨⟨ad,cap,rfl,hr,hfr⟩,b2⟩;have K2:=za b2;have H2:=za hr;have HFR:=za hfr;clear hr b2 hfr)
 obtain⟨W2,hW2⟩:∃ W2,w2.alloc (.cells #[.int .i64 f,.slice ad m cap] 103)=W2:=⟨_,rfl⟩;have B2:=za (show Below W0.heap.size W0 W2 by rw[←hW2];exact ba K2.out _);have D2:=za (show W2.cell? ⟨w2.heap.size,0,none⟩=some (.int .i64 f)/\W2.cell? ⟨w2.heap.size,1,none⟩=some (.slice ad m cap) by rw[←hW2];constructor<;>simp);have H3:=za (show RowAt .i64 W2 ad ts by rw[←hW2];exact H2.out.below (zg _ _));have Z2:=za (show w2.heap.size<W2.heap.size/\W0.heap.size<=w2.heap.size by rw[←hW2];exact⟨by simp,K2.out.size⟩);obtain⟨RB,hRB⟩:∃ RB,w2.heap.size=RB:=⟨_,rfl⟩;rw[hW2,hRB];rw[hRB]at D2 Z2;clear hW2 hRB K2 H2 q0 q1;obtain⟨d0,d1⟩:=D2.out;have z0:=Z0.out;obtain⟨z1,z2⟩:=Z2.out;have q0:=cb B2.out (by omega) C0.out.1;have q1:=cb B2.out (by omega) C0.out.2;have R2:=za (show(W2.cell? ⟨w.heap.size+1,0,none⟩=some (.slice none 0 0)/\W2.frozen? ⟨w.heap.size+1,0,none⟩=false)/\W2.cell? ⟨w.heap.size+1,1,none⟩=some (.slice none 0 0)/\W2.frozen? ⟨w.heap.size+1,1,none⟩=false from⟨⟨cb B2.out (by omega) R0.out.1.1,fb B2.out (by omega) R0.out.1.2⟩,cb B2.out (by omega) R0.out.2.1,fb B2.out (by omega) R0.out.2.2⟩);have E2:=za (bt B0.out B2.out);have HSZ:=za (fun(w':World) (b':Below W2.heap.size W2 w')=>show W0.heap.size<=w'.heap.size by have:=b'.size;have:=B2.out.size;omega);clear R0 C0 CL B2 Z0 Z2 D2;have n1:w.heap.size+1≠RB:=by omega
 have n2:w.heap.size+1≠w.heap.size:=by omega
 go_region_held3 (λw'=>w'.cell? ⟨w.heap.size,1,none⟩=some (.pointer (some av))/\w'.cell? ⟨w.heap.size,2,none⟩=some (.int .i64 sb)/\w'.cell? ⟨RB,0,none⟩=some (.int .i64 f)/\w'.cell? ⟨RB,1,none⟩=some (.slice ad m cap)) (first|with_reducible assumption|(with_reducible exact⟨q0,q1,d0,d1⟩)|(with_reducible exact⟨x0,x1,x2,x3⟩)|(with_reducible exact⟨y0,y1,y2,y3⟩)|(simp only[zc (Or.inl n1),zc (Or.inl n2),y0,y1,y2,y3,and_self];done)|go_keep)
  (first
   |(go_at_call 106;(with_reducible refine(CF _ (bt E2.out bch)).mono ?_);rintro e w3 ⟨rfl,b3⟩;have D3:Below W2.heap.size W2 w3:=bt bch b3;have K3:=za D3;have x0:=cb D3 (by omega) q0;have x1:=cb D3 (by omega) q1;have x2:=cb D3 (by omega) d0;have x3:=cb D3 (by omega) d1;clear D3)
   |(go_at_call 153;(with_reducible refine(CG _ _ _ (H3.out.below (bt K3.out bch)) W0.heap.size (HSZ.out _ (bt K3.out bch)) HFR.out).mono ?_);rintro e w4 ⟨⟨P,W,N,u,v,cu,cv,rfl,hP,hW,rp,rw',fp,fw,hg⟩,b4⟩;have K4:=za (show Below W2.heap.size W2 w4 from bt (bt K3.out bch) b4);have G4:=za (show GathAt w4 W0.heap.size (.returned (.agg #[.slice u N cu,.slice v N cv])) sb f (n:Int) ts from⟨P,W,N,u,v,cu,cv,rfl,hP,hW,rp,rw',fp,fw,hg⟩);have y0:=cb K4.out (by omega) q0;have y1:=cb K4.out (by omega) q1;have y2:=cb K4.out (by omega) d0;have y3:=cb K4.out (by omega) d1;obtain⟨⟨p0,p1⟩,p2,p3⟩:=R2.out;have p0:=cb K4.out (by omega) p0;have p1:=fb K4.out (by omega) p1;have p2:=cb K4.out (by omega) p2;have p3:=fb K4.out (by omega) p3;clear hP hW rp rw' fp fw hg b4))
 all_goals
  go_wp2_with fail
  have GS:=za (G4.out.stored ((zn w4 (w.heap.size+1) 0 (.slice u N cu)).trans (zn _ (w.heap.size+1) 1 (.slice v N cv))) (by omega));have BS:=za (bs (bs (bt E2.out K4.out) (b:=w.heap.size+1) (o:=0) (Nat.le_succ _) (.slice u N cu)) (b:=w.heap.size+1) (o:=1) (Nat.le_succ _) (.slice v N cv));obtain⟨P1,W1,N1,u1,v1,cu1,cv1,he,hP,hW,ru,rv,fu,fv,hg⟩:=GS.out;exact bodyPost_ret (v:=.agg #[.slice u N cu,.slice v N cv]) (by simp[results,Tryz.results114,go_sem,p0,p2]) rfl ⟨⟨P1,W1,N1,u1,v1,cu1,cv1,he,hP,hW,ru,rv,fu.mono (by omega),fv.mono (by omega),hg⟩,BS.out⟩
end Go.Proofs.YtlodkoimdoeopaaGreatDoor
