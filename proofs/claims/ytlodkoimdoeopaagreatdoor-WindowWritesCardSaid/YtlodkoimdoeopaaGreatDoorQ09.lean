/- Parts, joined. -/
import Derived.Test.YtlodkoimdoeopaaGreatDoorQ08
import Derived.Test.YtlodkoimdoeopaaGreatDoorQ02
import Derived.Test.YtlodkoimdoeopaaGreatDoorQ03
import Derived.Test.YtlodkoimdoeopaaGreatDoorQ05
import Derived.Test.YtlodkoimdoeopaaGreatDoorQ07
import Derived.Test.YtlodkoimdoeopaaGreatDoorQ06
import Derived.Deep.RegionHeld3
import Derived.Laws.FloatArith
import Derived.RowKit
import Derived.WalkLawsBesides
namespace Go.Proofs.YtlodkoimdoeopaaGreatDoor
open Go.RowKit
theorem zjk {L:List (Int×List Int)} (hM:∀ j,j+1<L.length->(zf L j).1<=(zf L (j+1)).1/\(zf L j).1+((zf L j).2.length:Int)<=(zf L (j+1)).1+((zf L (j+1)).2.length:Int)) {i:Nat}:∀ k,i<=k->k<L.length->(zf L i).1<=(zf L k).1/\(zf L i).1+((zf L i).2.length:Int)<=(zf L k).1+((zf L k).2.length:Int)
 |0,h,_=>by
  obtain rfl:i=0:=by omega
  exact⟨Int.le_refl _,Int.le_refl _⟩
 |k+1,h,hk=>by
  by_cases e:i=k+1
  ·subst e;exact⟨Int.le_refl _,Int.le_refl _⟩
  ·have a:=zjk hM (i:=i) k (by omega) (by omega);have b:=hM k hk;omega
theorem zb6 {L:List (Int×List Int)} {y h:Nat} (hy:y<L.length):((zbZ L).drop y).take (h+1)=((zf L y).1,(zf L y).2.length) :: ((zbZ L).drop (y+1)).take h:=by
 rw[List.drop_eq_getElem_cons (by rw[zdT];exact hy),List.take_succ_cons,zir hy]
theorem zkW {L:List (Int×List Int)} {y h:Nat} {m:Wnd} (hm:m ∈ ((zbZ L).drop y).take h):∃ k,y<=k/\k<L.length/\m=((zf L k).1,(zf L k).2.length):=by
 obtain⟨i,hi,rfl⟩:=List.mem_iff_getElem.1 (List.mem_of_mem_take hm);rw[List.length_drop,zdT]at hi;refine⟨y+i,by omega,by omega,?_⟩;rw[List.getElem_drop,zir (by omega)]
theorem zlS {L:List (Int×List Int)} (hM:∀ j,j+1<L.length->(zf L j).1<=(zf L (j+1)).1/\(zf L j).1+((zf L j).2.length:Int)<=(zf L (j+1)).1+((zf L (j+1)).2.length:Int)) (h1:∀ j,j<L.length->1<=(zf L j).2.length):∀ h y,y+h<=L.length->zfE (zdi (zbZ L)) (((zbZ L).drop y).take h)
 |0,y,_=>by rw[List.take_zero];trivial
 |h+1,y,hy=>by
  rw[zb6 (by omega)];refine⟨h1 y (by omega),?_,λm hm=>?_,zlS hM h1 h (y+1) (by omega)⟩
  ·refine zup (l:=((zf L y).1,(zf L y).2.length)) ?_;rw[←zir (show y<L.length by omega)];exact List.getElem_mem _
  ·obtain⟨k,k0,k1,rfl⟩:=zkW hm;exact zjk hM k (by omega) k1
theorem znP {L:List (Int×List Int)}:∀ k,k<=L.length->(zdi ((zbZ L).take k):Int)=zbh L k
 |0,_=>rfl
 |k+1,hk=>by
  have a:=znP (L:=L) k (by omega);rw[zts (by omega)];unfold zbh;rw[←a];omega
theorem zwS (L:List (Int×List Int)):(zdi (zbZ L):Int)=zaL L:=by
 have a:=znP (L:=L) L.length (Nat.le_refl _);rw[List.take_of_length_le (by rw[zdT];exact Nat.le_refl _)]at a;exact a
theorem zlF {L:List (Int×List Int)} {y h:Nat} {z i:Int} (hyh:y+h<=L.length) (hL:L.length<=65536) (hb:∀ k,k<L.length->(zf L k).2.length<=1048576):(zaB z i (((zbZ L).drop y).take h)).length<=1099511627776:=by
 rw[zhC];have a:=zrh (n:=1048576) z (((zbZ L).drop y).take h) (λl hl=>by
  obtain⟨k,_,k1,rfl⟩:=zkW hl;exact hb k k1)
 have b:(((zbZ L).drop y).take h).length<=65536:=by rw[List.length_take];omega
 have c:1048576*(((zbZ L).drop y).take h).length<=1048576*65536:=Nat.mul_le_mul_left _ b;omega
structure Im where
 iw:Int
 ih:Int
 ic:Int
 it:Int
 il:List Int
def zay (I:Im):Prop :=
 1<=I.iw/\I.iw<=65536/\1<=I.ih/\I.ih<=65536/\(I.ic=1\/I.ic=3)/\1<=I.it/\I.it<=65535/\I.iw*I.ih*I.ic<=268435456/\(I.il.length:Int)=I.iw*I.ih*I.ic/\∀ x ∈ I.il,0<=x/\x<=I.it
def zaE (a b c:Int):Bool:=decide (1<=a/\a<=65536/\1<=b/\b<=65536/\(c=1\/c=3)/\a*b*c<=268435456)
def zbj (a b c t:Int):Int:=if t<1\/65535<t\/¬(c=1\/c=3) then 2 else if zaE a b c=true then 0 else 5
theorem zdq {a b c:Int}:zaE a b c=true↔(1<=a/\a<=65536/\1<=b/\b<=65536/\(c=1\/c=3)/\a*b*c<=268435456):=by unfold zaE;exact decide_eq_true_iff
theorem zfo {a b c t:Int} (h:zbj a b c t=0):1<=t/\t<=65535/\1<=a/\a<=65536/\1<=b/\b<=65536/\(c=1\/c=3)/\a*b*c<=268435456:=by
 unfold zbj at h
 split at h
 ·omega
 ·split at h
  ·have:=zdq.1 (by assumption);omega
  ·omega
theorem zmm {a b c t:Int} (t0:1<=t) (t1:t<=65535) (a0:1<=a) (a1:a<=65536) (b0:1<=b) (b1:b<=65536) (hc:c=1\/c=3) (h:a*b*c<=268435456):zbj a b c t=0:=by
 unfold zbj;rw[if_neg (by omega),if_pos (zdq.2 ⟨a0,a1,b0,b1,hc,h⟩)]
theorem zcQ {a b:Int} (a0:1<=a) (a1:a<=65536) (b0:1<=b) (b1:b<=65536):1<=a*b/\a*b<=4294967296:=by
 have h1:=Int.mul_le_mul a1 b1 (by omega) (by omega);have h2:=Int.mul_le_mul a0 b0 (by omega) (by omega);omega
theorem zd8 {a b c:Int} (a0:1<=a) (a1:a<=65536) (b0:1<=b) (b1:b<=65536) (hc:c=1\/c=3):1<=a*b*c/\a*b*c<=12884901888:=by
 have:=zcQ a0 a1 b0 b1;rcases hc with rfl|rfl<;>omega
def zcc (a c x y z:Int):Int:=(y*a+x)*c+z
theorem zi9 {a b c x y z:Int} (x0:0<=x) (x1:x<a) (y0:0<=y) (y1:y<b) (z0:0<=z) (z1:z<c):0<=y*a/\0<=y*a+x/\y*a+x<a*b/\0<=(y*a+x)*c/\0<=zcc a c x y z/\zcc a c x y z<a*b*c:=by
 have h1:0<=y*a:=Int.mul_nonneg y0 (by omega);have h2:y*a+a<=a*b:=by
  have:=Int.mul_le_mul_of_nonneg_right (show y+1<=b by omega) (show(0:Int)<=a by omega);rw[Int.add_mul,Int.one_mul,Int.mul_comm b a]at this;exact this
 have h3:0<=(y*a+x)*c:=Int.mul_nonneg (by omega) (by omega);have h4:(y*a+x)*c+c<=a*b*c:=by
  have:=Int.mul_le_mul_of_nonneg_right (show y*a+x+1<=a*b by omega) (show(0:Int)<=c by omega);rw[Int.add_mul,Int.one_mul]at this;exact this
 unfold zcc;omega
theorem zrT (a c x y z:Int):y*a*c+x*c+z=zcc a c x y z:=by unfold zcc;rw[Int.add_mul]
def zbl (I:Im) (x y z:Int):Bool:=decide (0<=x/\x<I.iw/\0<=y/\y<I.ih/\0<=z/\z<I.ic)
theorem zcP {I:Im} {x y z:Int}:zbl I x y z=true↔(0<=x/\x<I.iw/\0<=y/\y<I.ih/\0<=z/\z<I.ic):=by unfold zbl;exact decide_eq_true_iff
def zL (I:Im) (x y z:Int):Int:=zcc I.iw I.ic x y z
def zbe (I:Im) (x y z:Int):Int:=if zbl I x y z=true then I.il.getD (zL I x y z).toNat 0 else 0
def zbp (I:Im) (x y z v:Int):Bool:=zbl I x y z && decide (v<=I.it)
def zcs (I:Im) (x y z v:Int):Im:=if zbp I x y z v=true then { I with il:=I.il.set (zL I x y z).toNat v } else I
theorem zez {I:Im} (hI:zay I) {x y z:Int} (h:zbl I x y z=true):0<=zL I x y z/\(zL I x y z).toNat<I.il.length/\((zL I x y z).toNat:Int)=zL I x y z/\zL I x y z<268435456:=by
 obtain⟨_,_,_,_,_,_,_,hm,hl,_⟩:=hI;obtain⟨x0,x1,y0,y1,z0,z1⟩:=zcP.1 h;have:=zi9 x0 x1 y0 y1 z0 z1;unfold zL;omega
theorem ztV {I:Im} (hI:zay I) {x y z v:Int} (v0:0<=v):zay (zcs I x y z v):=by
 unfold zcs
 split
 ·rename_i h
  obtain⟨a,b,c,d,e,f,g,hm,hl,hx⟩:=hI;refine⟨a,b,c,d,e,f,g,hm,by simpa using hl,λq hq=>?_⟩;unfold zbp at h;rw[Bool.and_eq_true,decide_eq_true_iff]at h;rcases List.mem_or_eq_of_mem_set hq with hq|rfl
  ·exact hx q hq
  ·exact⟨v0,h.2⟩
 ·exact hI
theorem zbr {I:Im} (h:zay I):1<=I.il.length/\I.il.length<=268435456:=by
 obtain⟨a,b,c,d,e,_,_,hm,hl,_⟩:=h;have:=zd8 a b c d e;omega
def zcE (I:Im) (y:Int):List Int:=(I.il.drop (y*I.iw*I.ic).toNat).take (I.iw*I.ic).toNat
theorem zfO {I:Im} (hI:zay I) {y:Int} (y0:0<=y) (y1:y<I.ih):1<=I.iw*I.ic/\I.iw*I.ic<=196608/\0<=y*I.iw*I.ic/\y*I.iw*I.ic+I.iw*I.ic<=(I.il.length:Int)/\0<=y*I.iw/\y*I.iw<=4294967296:=by
 obtain⟨a,b,c,d,e,_,_,hm,hl,_⟩:=hI;have h1:0<=y*I.iw:=Int.mul_nonneg y0 (by omega);have h2:y*I.iw+I.iw<=I.iw*I.ih:=by
  have:=Int.mul_le_mul_of_nonneg_right (show y+1<=I.ih by omega) (show(0:Int)<=I.iw by omega);rw[Int.add_mul,Int.one_mul,Int.mul_comm I.ih I.iw]at this;exact this
 have h3:(y*I.iw+I.iw)*I.ic<=I.iw*I.ih*I.ic:=Int.mul_le_mul_of_nonneg_right h2 (by omega);rw[Int.add_mul]at h3;have h4:=zcQ a b c d;have h5:0<=y*I.iw*I.ic:=Int.mul_nonneg h1 (by omega);have h6:1<=I.iw*I.ic/\I.iw*I.ic<=196608:=by rcases e with e|e<;>rw[e]<;>omega
 exact⟨h6.1,h6.2,h5,by omega,h1,by omega⟩
theorem zld {I:Im} (hI:zay I) {y:Int} (y0:0<=y) (y1:y<I.ih):(zcE I y).length=(I.iw*I.ic).toNat:=by
 obtain⟨h1,h2,h3,h4,_⟩:=zfO hI y0 y1;unfold zcE;rw[List.length_take,List.length_drop];omega
theorem zg7 {xs:List Int} (h:∀ x ∈ xs,0<=x/\x<=65535) {j:Nat} (hj:j<xs.length):0<=xs.getD j 0/\xs.getD j 0<=65535:=by
 rw[List.getD_eq_getElem?_getD,List.getElem?_eq_getElem hj];exact h _ (List.getElem_mem hj)
def zbI (O:Im) (F:Nat->Int) (D:Nat->Bool):Im:={ O with il:=(List.range O.il.length).map λp=>if D p=true then F p else O.il.getD p 0 }
theorem zaV (O:Im) (F:Nat->Int) (D:Nat->Bool):(zbI O F D).il.length=O.il.length:=by
 show((List.range O.il.length).map _).length=_
 rw[List.length_map,List.length_range]
theorem zcR {O:Im} {F:Nat->Int} {D:Nat->Bool} {p:Nat} (h:p<O.il.length):(zbI O F D).il.getD p 0=if D p=true then F p else O.il.getD p 0:=by
 show((List.range O.il.length).map _).getD p 0=_
 rw[List.getD_eq_getElem?_getD,List.getElem?_map,List.getElem?_range h];rfl
theorem zjW {O Q:Im} (h1:O.iw=Q.iw) (h2:O.ih=Q.ih) (h3:O.ic=Q.ic) (h4:O.it=Q.it) (h5:O.il.length=Q.il.length) (h:∀ p,p<O.il.length->O.il.getD p 0=Q.il.getD p 0):O=Q:=by
 obtain⟨a,b,c,d,l⟩:=O;obtain⟨a',b',c',d',l'⟩:=Q;simp only at h1 h2 h3 h4 h5 h;subst h1 h2 h3 h4
 congr 1
 refine List.ext_getElem h5 (λp q1 q2=>?_);have:=h p q1;rw[List.getD_eq_getElem?_getD,List.getD_eq_getElem?_getD,List.getElem?_eq_getElem q1,List.getElem?_eq_getElem q2]at this;exact this
theorem zjZ {O:Im} {F:Nat->Int} {D:Nat->Bool} (h:∀ p,p<O.il.length->D p=false):zbI O F D=O :=
 zjW rfl rfl rfl rfl (zaV O F D) (λp hp=>by
  rw[zaV]at hp;rw[zcR hp,h p hp];rfl)
theorem zb3 {O:Im} {F G:Nat->Int} {D E:Nat->Bool} (h:∀ p,p<O.il.length->D p=E p) (hF:∀ p,p<O.il.length->D p=true->F p=G p):zbI O F D=zbI O G E :=
 zjW rfl rfl rfl rfl (by rw[zaV,zaV]) (λp hp=>by
  rw[zaV]at hp;rw[zcR hp,zcR hp,←h p hp]
  split
  ·exact hF p hp (by assumption)
  ·rfl)
theorem zj9 {O:Im} {F:Nat->Int} {D E:Nat->Bool}:zbI (zbI O F D) F E=zbI O F (λp=>D p || E p) :=
 zjW rfl rfl rfl rfl (by rw[zaV,zaV,zaV]) (λp hp=>by
  rw[zaV,zaV]at hp;rw[zcR (by rw[zaV];exact hp),zcR hp,zcR hp]
  cases hE:E p<;>cases hD:D p<;>rfl)
theorem zk2 {O:Im} {F:Nat->Int} {D:Nat->Bool} {x y z v:Int} {q:Nat} (hs:zbp O x y z v=true) (hq:(zL O x y z).toNat=q) (hv:v=F q):zcs (zbI O F D) x y z v=zbI O F (λp=>D p || p == q):=by
 have e:zcs (zbI O F D) x y z v={ (zbI O F D)with il:=(zbI O F D).il.set q v }:=by
  unfold zcs;rw[if_pos (show zbp (zbI O F D) x y z v=true from hs),show(zL (zbI O F D) x y z).toNat=q from hq]
 rw[e];refine zjW rfl rfl rfl rfl (by rw[List.length_set,zaV,zaV]) (λp hp=>?_);have hp':p<O.il.length:=by
  rw[List.length_set,zaV]at hp;exact hp
 rw[zcR hp',List.getD_eq_getElem?_getD,List.getElem?_set]
 by_cases g:q=p
 ·subst g;rw[if_pos rfl,if_pos (by rw[zaV];exact hp'),if_pos (by simp)];exact hv
 ·rw[if_neg g,←List.getD_eq_getElem?_getD,zcR hp'];have:(p == q)=false:=beq_eq_false_iff_ne.2 (λe=>g e.symm);rw[this,Bool.or_false]
theorem zkS {O:Im} {F:Nat->Int} {D:Nat->Bool} (hO:zay O) {x y z:Int} (h:zbl O x y z=true):zbe (zbI O F D) x y z=if D (zL O x y z).toNat=true then F (zL O x y z).toNat else zbe O x y z:=by
 unfold zbe;rw[if_pos (show zbl (zbI O F D) x y z=true from h),if_pos h];exact zcR (zez hO h).2.1
theorem zuJ {O:Im} {F:Nat->Int} {D:Nat->Bool} (hO:zay O) (hF:∀ p,p<O.il.length->D p=true->0<=F p/\F p<=O.it):zay (zbI O F D):=by
 obtain⟨a0,a1,b0,b1,c0,t0,t1,m,l,s⟩:=hO;refine⟨a0,a1,b0,b1,c0,t0,t1,m,by rw[zaV];exact l,λv hv=>?_⟩;obtain⟨p,hp,rfl⟩:=List.mem_map.1 hv;rw[List.mem_range]at hp
 split
 ·exact hF p hp (by assumption)
 ·refine s _ ?_;rw[List.getD_eq_getElem?_getD,List.getElem?_eq_getElem hp];exact List.getElem_mem hp
def zc5 (A C x0 W y0 h:Nat) (p:Nat):Bool:=decide (x0<=p / C % A/\p / C % A<x0+W/\y0<=p / C / A/\p / C / A<y0+h)
theorem zep {A C x0 W y0 h p:Nat}:zc5 A C x0 W y0 h p=true↔(x0<=p / C % A/\p / C % A<x0+W/\y0<=p / C / A/\p / C / A<y0+h):=by unfold zc5;exact decide_eq_true_iff
theorem zop {A C x0 W y0 p:Nat}:zc5 A C x0 W y0 0 p=false:=by
 unfold zc5;exact decide_eq_false (by omega)
theorem zhB {A C x0 W y0 h k p:Nat} (hk:k<=h):(zc5 A C x0 W y0 k p || zc5 A C x0 W (y0+k) (h-k) p)=zc5 A C x0 W y0 h p:=by
 rw[Bool.eq_iff_iff,Bool.or_eq_true,zep,zep,zep];omega
theorem znD {A C x y c:Nat} (hc:c<C) (hx:x<A) {x0 W y0 h:Nat}:zc5 A C x0 W y0 h ((y*A+x)*C+c)=decide (x0<=x/\x<x0+W/\y0<=y/\y<y0+h):=by
 have e:((y*A+x)*C+c) / C=y*A+x:=by
  rw[Nat.add_comm,Nat.add_mul_div_right _ _ (by omega),Nat.div_eq_of_lt hc,Nat.zero_add]
 have e2:(y*A+x) % A=x:=by rw[Nat.add_comm,Nat.add_mul_mod_self_right,Nat.mod_eq_of_lt hx]
 have e3:(y*A+x) / A=y:=by rw[Nat.add_comm,Nat.add_mul_div_right _ _ (by omega),Nat.div_eq_of_lt hx,Nat.zero_add]
 unfold zc5;rw[e,e2,e3]
theorem zxE (w:World) (a b c:Int) (t:TypeId):RowAt .i64 (w.alloc (.cells #[.int .i64 a,.int .i64 b,.int .i64 c] t)) (some ⟨w.heap.size,0,none⟩) [a,b,c]:=by
 refine Or.inr ⟨w.heap.size,0,rfl,λj hj=>?_⟩
 match j,hj with
 |0,_=>simp
 |1,_=>simp
 |2,_=>simp
theorem zt2:zad [536870912,536870912,536870912]:=by
 intro j hj
 match j,hj with
 |0,_=>decide
 |1,_=>decide
 |2,_=>decide
theorem zxA:zX [536870912,536870912,536870912]=0/\zc4 [536870912,536870912,536870912]=[5462,5461,5461]:=by decide +kernel
theorem zxt:zbc 65536=0/\(zS 65536).length=7:=by
 refine⟨by decide,?_⟩;unfold zS;rw[if_pos (by omega)];unfold zc6;rw[zcB]
 decide
theorem zxP {K:World->Prop} (hKB:∀ w w',K w->Below w.heap.size w w'->K w') (CA:zyq K) (CG:zyp K) (w:World) (hk:K w) :
  Calls Tryz.prog 149 #[] w λe w'=>e=.returned (.bool true)/\Below w.heap.size w w':=by
 have C1:=fun(w:World) hk hr=>CA [536870912,536870912,536870912] (some ⟨w.heap.size,0,none⟩) 3 (w.alloc (.cells #[.int .i64 536870912,.int .i64 536870912,.int .i64 536870912] 2)) hk hr zt2 (by decide)
 rw[show[(536870912:Int),536870912,536870912].length=3 from rfl]at C1;have C2:=λw hk=>CG 65536 w hk (by omega) (by omega)
 obtain⟨e1,e2⟩:=zxA;obtain⟨e3,e4⟩:=zxt;rw[e1,e2]at C1;rw[e3]at C2;obtain⟨gs,hgs⟩:∃ gs,zS 65536=gs:=⟨_,rfl⟩;rw[hgs]at C2 e4;have HE4:=za e4;clear e1 e2 e3 hgs CA CG
 go_enter Tryz.func149,Tryz.ntmps149
 go_wp2_with (first
  |(go_at_call 142;(with_reducible refine(C1 _ (hKB _ _ hk (zg _ _)) (zxE _ _ _ _ _)).mono ?_);rintro e w1 ⟨v,rfl,⟨ad,cap,rfl,hr⟩,b1⟩)
  |(go_at_call 144;(with_reducible refine(C2 _ (hKB _ _ hk (bt (zg _ _) b1))).mono ?_);rintro e w2 ⟨v,rfl,⟨ad2,cap2,rfl,hr2⟩,b2⟩)
  |(go_at_call 150;(with_reducible refine(zs9 3 [5462,5461,5461] rfl _ _ _ _ _ ((hr.below b2).below (zg _ _)) (zxE _ _ _ _ _) (by omega)).mono ?_);rintro e w3 ⟨rfl,b3⟩))
 go_ret;exact⟨rfl,bt (ba (bt (bt (zg _ _) b1) b2) _) b3⟩
def zcT (n:Int):Bool:=decide (1<=n) && decide (n<=65536)
theorem zco (n:Int):zcT n=true↔1<=n/\n<=65536:=by unfold zcT;simp
theorem zda (n:Int) (h0:1<=n) (h1:n<=65536) (w:World) :
  Calls Tryz.prog 175 #[.int .i64 n] w λe w'=>e=.returned (.bool true)/\w=w':=by
 go_enter Tryz.func175,Tryz.ntmps175
 go_wp2;go_ret
 first|exact⟨rfl,rfl⟩|exact⟨zU (decide_eq_true (by omega)),rfl⟩
theorem zgS (n:Int) (h:n<1\/65536<n) (w:World) :
  Calls Tryz.prog 175 #[.int .i64 n] w λe w'=>e=.returned (.bool false)/\w=w':=by
 rcases h with h|h
 all_goals
  go_enter Tryz.func175,Tryz.ntmps175
  go_wp2;go_ret
  first|exact⟨rfl,rfl⟩|exact⟨zU (decide_eq_false (by omega)),rfl⟩
theorem zps:(Tryz.prog.info? 111).map (λi=>(i.zero,i.size,i.bytes))=some (some (.agg #[.int .i64 0,.slice none 0 0]),2,32):=by kernel_rfl
theorem zxh (xs:List Int) (ad:Option Addr) (cap:Nat) (w:World) (hr:RowAt .i64 w ad xs) (hx:zad xs) (hl:xs.length<=9223372036854775807) :
  Calls Tryz.prog 177 #[.slice ad xs.length cap] w λe w'=>∃ v,e=.returned (.tuple #[v,.int .i64 (zX xs)])/\(zX xs=0->OwnI .i64 2 w' w.heap.size v (zG xs))/\Below w.heap.size w w':=by
 by_cases hf:Fits xs
 ·rw[zap.2 hf];refine(ziL xs ad cap w hr hx hf).mono ?_;rintro e w1 ⟨v,rfl,o,b⟩;exact⟨v,rfl,λ_=>o,b⟩
 ·refine(zq4 xs ad cap w hr hx hl).mono ?_;rintro e w1 ⟨v,rfl,_,b⟩;exact⟨v,rfl,(λg=>absurd (zap.1 g) hf),b⟩
def zgZ (k:Nat):Int:=2*((k:Int)+1)*(2*((k:Int)+1)+1)*1099511627776
def zbw (u:Int):Nat->Int
 |0=>1099511627776
 |n+1=>zN (zbw u n*u) (zgZ n)
def zdx (u:Int):Nat->Int
 |0=>1099511627776
 |n+1=>if n % 2=0 then zdx u n-zbw u (n+1) else zdx u n+zbw u (n+1)
def zgo:Nat->Int
 |0=>1099511627776
 |n+1=>zgo n*173627916808752 / zgZ n+1
def uF (p q:Int):Int:=zN (zN (10851744800547*p) q*p) q
def zgq (p q:Int):Bool:=decide (1<=q) && decide (q<=1048576) && decide (-4*q<=p) && decide (p<=4*q)
def zT (p q:Int):Int:=zdx (uF (zi p) q) 30
def zag (p q:Int):Int:=if zgq p q=true/\-3*q<p/\p<3*q then zV (zai (zT p q) (zT p (3*q)) 40) 10 else 0
theorem zwH:∀ k<30,6*1099511627776<=zgZ k/\zgZ k<=3660*1099511627776:=by decide
theorem zoS:∀ k:Nat,k<30->6<=2*((k:Int)+1)*(2*((k:Int)+1)+1)/\2*((k:Int)+1)*(2*((k:Int)+1)+1)<=3660:=by decide
theorem zko:∀ k<31,1<=zgo k/\zgo k<=4503599627370496:=by decide +kernel
theorem zuW {u:Int} (h0:0<=u) (h1:u<=173627916808752) (n:Nat) (hn:n<31):0<=zbw u n/\zbw u n<=zgo n:=by
 induction n with
 |zero=>simp[zbw,zgo]
 |succ n ih =>
  obtain⟨a0,a1⟩:=ih (by omega);obtain⟨d0,d1⟩:=zwH n (by omega);obtain⟨t0,t1⟩:=zko n (by omega);obtain⟨_,t3⟩:=zko (n+1) hn;have p0:0<=zbw u n*u:=Int.mul_nonneg a0 h0;have p1:zbw u n*u<=zgo n*173627916808752:=Int.mul_le_mul a1 h1 h0 (by omega);have p2:zgo n*173627916808752<(zgo n*173627916808752 / zgZ n+1)*zgZ n:=Int.lt_mul_of_ediv_lt (by omega) (by omega);have q:=zed (X:=zbw u n*u) (d:=zgZ n) (m:=zgo (n+1)) (by omega) p0 (by
   show _<=(zgo n*173627916808752 / zgZ n+1)*zgZ n
   omega)
  show 0<=zN _ _/\zN _ _<=_
  rw[zck (by omega),zH (by omega) (by omega)];exact q
theorem ze5 {u:Int} (h0:0<=u) (h1:u<=173627916808752) (n:Nat) (hn:n<31):0<=zbw u n/\zbw u n<=4503599627370496:=by
 obtain⟨a,b⟩:=zuW h0 h1 n hn;obtain⟨_,d⟩:=zko n hn;exact⟨a,by omega⟩
theorem zoZ {u:Int} (h0:0<=u) (h1:u<=173627916808752) (n:Nat) (hn:n<31) : -(((n:Int)+1)*4503599627370496)<=zdx u n/\zdx u n<=((n:Int)+1)*4503599627370496:=by
 induction n with
 |zero=>simp[zdx]
 |succ n ih =>
  have t:=ze5 h0 h1 (n+1) hn;have:=ih (by omega);unfold zdx
  split<;>omega
theorem zqH {p q:Int} (hq:0<q) (h0:0<=p) (h1:p<=4*q):0<=zN (10851744800547*p) q/\zN (10851744800547*p) q<=43406979202188/\0<=uF p q/\uF p q<=173627916808752:=by
 have a:=zed (X:=10851744800547*p) (d:=q) (m:=43406979202188) hq (by omega) (by omega);have e1:zN (10851744800547*p) q=zaC (10851744800547*p) q:=by rw[zck (by omega),zH (by omega) (by omega)]
 unfold uF;rw[e1];generalize zaC (10851744800547*p) q=v at *;obtain⟨a0,a1⟩:=a;have p0:0<=v*p:=Int.mul_nonneg a0 h0;have p1:v*p<=43406979202188*(4*q):=Int.mul_le_mul a1 h1 h0 (by omega);have b:=zed (X:=v*p) (d:=q) (m:=173627916808752) hq p0 (by omega);rw[zck (by omega),zH (by omega) (by omega)];exact⟨a0,a1,b⟩
theorem zhL {p q:Int} (h0 : -(4*q)<=p) (h1:p<=4*q):0<=zi p/\zi p<=4*q:=by
 unfold zi;split<;>omega
theorem zft {p q:Int} (hq:0<q) (h0 : -(4*q)<=p) (h1:p<=4*q) : -139611588448485376<=zT p q/\zT p q<=139611588448485376:=by
 obtain⟨a0,a1⟩:=zhL h0 h1;obtain⟨_,_,u0,u1⟩:=zqH hq a0 a1;have:=zoZ u0 u1 30 (by omega);unfold zT;omega
theorem zif (p q:Int):(zgq p q=true/\1<=q/\q<=1048576/\-4*q<=p/\p<=4*q)\/(zgq p q=false/\(q<1\/1048576<q\/p < -4*q\/4*q<p)):=by
 unfold zgq
 by_cases a:1<=q<;>by_cases b:q<=1048576<;>by_cases c : -4*q<=p<;>by_cases d:p<=4*q<;>simp[a,b,c,d]<;>omega
theorem zlp (p:Int):zi (-p)=zi p:=by unfold zi;split<;>split<;>omega
theorem ziO (p q:Int):zT (-p) q=zT p q:=by unfold zT;rw[zlp]
theorem zvq (p q:Int):zgq (-p) q=zgq p q:=by
 have a:=zif p q;have b:=zif (-p) q;rcases a with⟨a1,a2⟩|⟨a1,a2⟩<;>rcases b with⟨b1,b2⟩|⟨b1,b2⟩<;>first|(exfalso;omega)|rw[b1,a1]
theorem znw (p q:Int):zag (-p) q=zag p q:=by
 have e:(-3*q < -p/\-p<3*q)↔(-3*q<p/\p<3*q):=by omega
 unfold zag;rw[zvq,ziO,ziO];simp only[e]
theorem znI {X d:Int} (hd:0<d) : -d<=2*(d*zaC X d)-2*X/\2*(d*zaC X d)-2*X<=d:=by
 unfold zaC;rw[if_neg (by omega)];have e:=Int.mul_ediv_add_emod (2*X+d) (2*d);have r0:=Int.emod_nonneg (2*X+d) (show 2*d≠0 by omega);have r1:=Int.emod_lt_of_pos (2*X+d) (show 0<2*d by omega);rw[Int.mul_assoc]at e;omega
theorem znS (a b n v:Int) (hv:zai a b n=v) (h0 : -9223372036854775808<=a) (h1:a<=9223372036854775807) (k0 : -9223372036854775808<=b) (k1:b<=9223372036854775807) (w:World) :
  Calls Tryz.prog 218 #[.int .i64 a,.int .i64 b,.int .i64 n] w λe w'=>e=.returned (.int .i64 v)/\Below w.heap.size w w':=by
 subst hv;exact zm4 a b n h0 h1 k0 k1 w
theorem zkw (a b n v:Int) (hv:zai a b n=v) (h0 : -9223372036854775808<=a) (h1:a<=9223372036854775807) (k0 : -9223372036854775808<=b) (k1:b<=9223372036854775807) (w:World) :
  Calls Tryz.prog 246 #[.int .i64 a,.int .i64 b,.int .i64 n] w λe w'=>e=.returned (.int .i64 v)/\Below w.heap.size w w':=by
 subst hv;exact zjt a b n h0 h1 k0 k1 w
theorem zev (a b n:Int) : -9223372036854775808<=zai a b n/\zai a b n<=9223372036854775807:=by
 unfold zai
 split
 ·omega
 ·split<;>exact⟨zfF _,ze3 _⟩
set_option maxRecDepth 100000 in
set_option maxHeartbeats 1000000 in
theorem zpC (p q P v u:Int) (hP:zi p=P) (hv:zN (10851744800547*P) q=v) (hu:zN (v*P) q=u) (q0:0<q) (q1:q<=3145728) (P0:0<=P) (P1:P<=4*q) (v0:0<=v) (v1:v<=43406979202188) (u0:0<=u) (u1:u<=173627916808752) (w:World) :
  Calls Tryz.prog 219 #[.int .i64 p,.int .i64 q] w λe w'=>e=.returned (.int .i64 (zdx u 30))/\Below w.heap.size w w':=by
 have C1:=zd9 10851744800547 P q v hv (by omega) (by omega) (by omega) (by omega) (by omega) (by omega);have C2:=zd9 v P q u hu (by omega) (by omega) (by omega) (by omega) (by omega) (by omega);have hp:(decide (p<0)=true/\-p=P)\/(decide (p<0)=false/\p=P):=by
  unfold zi at hP
  by_cases h:p<0
  ·rw[if_pos h]at hP;exact Or.inl ⟨decide_eq_true h,hP⟩
  ·rw[if_neg h]at hP;exact Or.inr ⟨decide_eq_false h,hP⟩
 clear hv hu hP;rcases hp with⟨g,rfl⟩|⟨g,rfl⟩
 all_goals
  go_enter Tryz.func219,Tryz.ntmps219
  go_wp2_with (first
   |(go_at_call 173;(with_reducible refine(C1 _).mono ?_);rintro e w1 ⟨rfl,b1⟩)
   |(go_at_call 173;(with_reducible refine(C2 _).mono ?_);rintro e w2 ⟨rfl,b2⟩))
  go_loopw [6,7,8] (λs t i wr=>∃ k:Nat,k<=30/\s=.int .i64 (zdx u k)/\t=.int .i64 (zbw u k)/\i=.int .i64 ((k:Int)+1)/\Below w.heap.size w wr) (λ_ _ i _=>31-(intOf i).toNat)
  case atStart=>exact⟨0,by omega,rfl,rfl,rfl,bt b1 b2⟩
  case round =>
   obtain⟨k,hk,rfl,rfl,rfl,hb⟩:=hrel;have HB:=za hb;clear hb b1 b2;obtain⟨t0,t1⟩:=ze5 u0 u1 k (by omega);obtain⟨s0,s1⟩:=zoZ u0 u1 k (by omega)
   by_cases hlt:k<30
   ·obtain⟨x0,x1⟩:=ze5 u0 u1 (k+1) (by omega);obtain⟨m0,m1⟩:=zoS k hlt;have CM:=zd9 (zbw u k) u (2*((k:Int)+1)*(2*((k:Int)+1)+1)*1099511627776) (zbw u (k+1)) rfl (by omega) (by omega) (by omega) (by omega) (by omega) (by omega);have hs:zdx u (k+1)=if k % 2=0 then zdx u k-zbw u (k+1) else zdx u k+zbw u (k+1):=rfl;have HS:=za hs;clear hs
    by_cases hp:k % 2=0
    ·have tst:(((k:Int)+1) % 2 == 1)=true:=beq_iff_eq.2 (by omega);have HP:=za hp;clear hp
     go_wp2_with (go_at_call 173;(with_reducible refine(CM _).mono ?_);rintro e w3 ⟨rfl,b3⟩)
     go_roundw
     case rel=>exact⟨k+1,by omega,by rw[HS.out,if_pos HP.out],rfl,by go_num,bt HB.out b3⟩
     case measure=>simp[intOf];omega
    ·have tst:(((k:Int)+1) % 2 == 1)=false:=beq_eq_false_iff_ne.2 (by omega);have HP:=za hp;clear hp
     go_wp2_with (go_at_call 173;(with_reducible refine(CM _).mono ?_);rintro e w3 ⟨rfl,b3⟩)
     go_roundw
     case rel=>exact⟨k+1,by omega,by rw[HS.out,if_neg HP.out],rfl,by go_num,bt HB.out b3⟩
     case measure=>simp[intOf];omega
   ·obtain rfl:k=30:=by omega
    go_wp2;go_ret;exact⟨rfl,HB.out⟩
theorem ziA (p q:Int) (q0:0<q) (q1:q<=3145728) (h0 : -(4*q)<=p) (h1:p<=4*q) (w:World) :
  Calls Tryz.prog 219 #[.int .i64 p,.int .i64 q] w λe w'=>e=.returned (.int .i64 (zT p q))/\Below w.heap.size w w':=by
 obtain⟨a0,a1⟩:=zhL h0 h1;obtain⟨v0,v1,u0,u1⟩:=zqH q0 a0 a1;exact zpC p q _ _ _ rfl rfl rfl q0 q1 a0 a1 v0 v1 u0 u1 w
set_option maxRecDepth 100000 in
set_option maxHeartbeats 1000000 in
theorem zmd (p q P v u:Int) (hP:zi p=P) (hv:zN (10851744800547*P) q=v) (hu:zN (v*P) q=u) (q0:0<q) (q1:q<=3145728) (P0:0<=P) (P1:P<=4*q) (v0:0<=v) (v1:v<=43406979202188) (u0:0<=u) (u1:u<=173627916808752) (w:World) :
  Calls Tryz.prog 247 #[.int .i64 p,.int .i64 q] w λe w'=>e=.returned (.int .i64 (zdx u 30))/\Below w.heap.size w w':=by
 have C1:=zbv 10851744800547 P q v hv (by omega) (by omega) (by omega) (by omega) (by omega) (by omega);have C2:=zbv v P q u hu (by omega) (by omega) (by omega) (by omega) (by omega) (by omega);have hp:(decide (p<0)=true/\-p=P)\/(decide (p<0)=false/\p=P):=by
  unfold zi at hP
  by_cases h:p<0
  ·rw[if_pos h]at hP;exact Or.inl ⟨decide_eq_true h,hP⟩
  ·rw[if_neg h]at hP;exact Or.inr ⟨decide_eq_false h,hP⟩
 clear hv hu hP;rcases hp with⟨g,rfl⟩|⟨g,rfl⟩
 all_goals
  go_enter Tryz.func247,Tryz.ntmps247
  go_wp2_with (first
   |(go_at_call 180;(with_reducible refine(C1 _).mono ?_);rintro e w1 ⟨rfl,b1⟩)
   |(go_at_call 180;(with_reducible refine(C2 _).mono ?_);rintro e w2 ⟨rfl,b2⟩))
  go_loopw [7,8,9,10] (λa m t i wr=>∃ (k:Nat) (A M:Int),k<=30/\A-M=zdx u k/\0<=A/\0<=M/\A<=((k:Int)+1)*4503599627370496/\M<=((k:Int)+1)*4503599627370496/\a=.int .i64 A/\m=.int .i64 M/\t=.int .i64 (zbw u k)/\i=.int .i64 ((k:Int)+1)/\Below w.heap.size w wr) (λ_ _ _ i _=>31-(intOf i).toNat)
  case atStart=>exact⟨0,1099511627776,0,by omega,rfl,by omega,by omega,by omega,by omega,rfl,rfl,rfl,rfl,bt b1 b2⟩
  case round =>
   obtain⟨k,A,M,hk,hs0,A0,M0,A1,M1,rfl,rfl,rfl,rfl,hb⟩:=hrel;have HB:=za hb;clear hb b1 b2;obtain⟨t0,t1⟩:=ze5 u0 u1 k (by omega);have HS0:=za hs0;clear hs0
   by_cases hlt:k<30
   ·obtain⟨x0,x1⟩:=ze5 u0 u1 (k+1) (by omega);obtain⟨m0,m1⟩:=zoS k hlt;have CM:=zbv (zbw u k) u (2*((k:Int)+1)*(2*((k:Int)+1)+1)*1099511627776) (zbw u (k+1)) rfl (by omega) (by omega) (by omega) (by omega) (by omega) (by omega);have hs:zdx u (k+1)=if k % 2=0 then zdx u k-zbw u (k+1) else zdx u k+zbw u (k+1):=rfl;have HS:=za hs;clear hs
    by_cases hp:k % 2=0
    ·have tst:(((k:Int)+1) % 2 == 1)=true:=beq_iff_eq.2 (by omega);have HP:=za hp;clear hp
     go_wp2_with (go_at_call 180;(with_reducible refine(CM _).mono ?_);rintro e w3 ⟨rfl,b3⟩)
     go_roundw
     case rel=>exact⟨k+1,A,M+zbw u (k+1),by omega,by rw[HS.out,if_pos HP.out,←HS0.out];omega,by omega,by omega,by omega,by omega,rfl,rfl,rfl,by go_num,bt HB.out b3⟩
     case measure=>simp[intOf];omega
    ·have tst:(((k:Int)+1) % 2 == 1)=false:=beq_eq_false_iff_ne.2 (by omega);have HP:=za hp;clear hp
     go_wp2_with (go_at_call 180;(with_reducible refine(CM _).mono ?_);rintro e w3 ⟨rfl,b3⟩)
     go_roundw
     case rel=>exact⟨k+1,A+zbw u (k+1),M,by omega,by rw[HS.out,if_neg HP.out,←HS0.out];omega,by omega,by omega,by omega,by omega,rfl,rfl,rfl,by go_num,bt HB.out b3⟩
     case measure=>simp[intOf];omega
   ·obtain rfl:k=30:=by omega
    go_wp2;go_ret;exact⟨by rw[←HS0.out];rfl,HB.out⟩
theorem zht (p q:Int) (q0:0<q) (q1:q<=3145728) (h0 : -(4*q)<=p) (h1:p<=4*q) (w:World) :
  Calls Tryz.prog 247 #[.int .i64 p,.int .i64 q] w λe w'=>e=.returned (.int .i64 (zT p q))/\Below w.heap.size w w':=by
 obtain⟨a0,a1⟩:=zhL h0 h1;obtain⟨v0,v1,u0,u1⟩:=zqH q0 a0 a1;exact zmd p q _ _ _ rfl rfl rfl q0 q1 a0 a1 v0 v1 u0 u1 w
theorem zw9 (p q:Int) (w:World) (_h0 : -9223372036854775808<=p) (_h1:p<=9223372036854775807) :
  Calls Tryz.prog 217 #[.int .i64 p,.int .i64 q] w λe w'=>e=.returned (.bool (zgq p q))/\Below w.heap.size w w':=by
 unfold zgq
 by_cases g1:1<=q
 ·by_cases g2:q<=1048576
  ·by_cases g3 : -4*q<=p
   ·have e1:decide (1<=q)=true:=decide_eq_true g1;have e2:decide (q<=1048576)=true:=decide_eq_true g2;have e3:decide (-4*q<=p)=true:=decide_eq_true g3;rw[e1,e2,e3]
    go_enter Tryz.func217,Tryz.ntmps217
    go_wp2;go_ret;exact⟨rfl,Below.refl _ _⟩
   ·have e1:decide (1<=q)=true:=decide_eq_true g1;have e2:decide (q<=1048576)=true:=decide_eq_true g2;have e3:decide (-4*q<=p)=false:=decide_eq_false g3;rw[e1,e2,e3]
    go_enter Tryz.func217,Tryz.ntmps217
    go_wp2;go_ret;exact⟨rfl,Below.refl _ _⟩
  ·have e1:decide (1<=q)=true:=decide_eq_true g1;have e2:decide (q<=1048576)=false:=decide_eq_false g2;rw[e1,e2]
   go_enter Tryz.func217,Tryz.ntmps217
   go_wp2;go_ret;exact⟨rfl,Below.refl _ _⟩
 ·have e1:decide (1<=q)=false:=decide_eq_false g1;rw[e1]
  go_enter Tryz.func217,Tryz.ntmps217
  go_wp2;go_ret;exact⟨rfl,Below.refl _ _⟩
theorem zqK (p q:Int) (w:World) (_h0 : -9223372036854775808<=p) (_h1:p<=9223372036854775807) :
  Calls Tryz.prog 245 #[.int .i64 p,.int .i64 q] w λe w'=>e=.returned (.bool (zgq p q))/\Below w.heap.size w w':=by
 unfold zgq
 by_cases g1:q<1
 ·rw[show decide (1<=q)=false from decide_eq_false (by omega)]
  go_enter Tryz.func245,Tryz.ntmps245
  go_wp2;go_ret;exact⟨rfl,Below.refl _ _⟩
 by_cases g2:1048576<q
 ·rw[show decide (q<=1048576)=false from decide_eq_false (by omega),Bool.and_false]
  go_enter Tryz.func245,Tryz.ntmps245
  go_wp2;go_ret;exact⟨rfl,Below.refl _ _⟩
 rw[show decide (1<=q)=true from decide_eq_true (by omega),show decide (q<=1048576)=true from decide_eq_true (by omega)]
 by_cases g3:p<=4*q
 ·have e1:decide (p<=4*q)=true:=decide_eq_true g3;rw[e1]
  go_enter Tryz.func245,Tryz.ntmps245
  go_wp2;go_ret;exact⟨rfl,Below.refl _ _⟩
 ·have e1:decide (p<=4*q)=false:=decide_eq_false g3;rw[e1]
  go_enter Tryz.func245,Tryz.ntmps245
  go_wp2;go_ret;exact⟨rfl,Below.refl _ _⟩
set_option maxHeartbeats 1000000 in
theorem zn1 (p q:Int) (h0 : -9223372036854775808<=p) (h1:p<=9223372036854775807) (w:World) :
  Calls Tryz.prog 187 #[.int .i64 p,.int .i64 q] w λe w'=>e=.returned (.int .i64 (zag p q))/\Below w.heap.size w w':=by
 have CM:=λw=>zw9 p q w h0 h1
 rcases zif p q with⟨g,a1,a2,a3,a4⟩|⟨g,_⟩
 ·rw[g]at CM
  by_cases g1:p<=-3*q
  ·rw[show zag p q=0 from if_neg (by omega)];clear g
   go_enter Tryz.func187,Tryz.ntmps187
   go_wp2_with (go_at_call 217;(with_reducible refine(CM _).mono ?_);rintro e w1 ⟨rfl,b1⟩)
   go_ret;exact⟨rfl,b1⟩
  by_cases g2:3*q<=p
  ·rw[show zag p q=0 from if_neg (by omega)];clear g
   go_enter Tryz.func187,Tryz.ntmps187
   go_wp2_with (go_at_call 217;(with_reducible refine(CM _).mono ?_);rintro e w1 ⟨rfl,b1⟩)
   go_ret;exact⟨rfl,b1⟩
  rw[show zag p q=zV (zai (zT p q) (zT p (3*q)) 40) 10 from if_pos ⟨g,by omega,by omega⟩];clear g;have CS:=ziA p q (by omega) (by omega) (by omega) (by omega);have CT:=ziA p (3*q) (by omega) (by omega) (by omega) (by omega);obtain⟨s0,s1⟩:=zft (p:=p) (q:=q) (by omega) (by omega) (by omega);obtain⟨t0,t1⟩:=zft (p:=p) (q:=3*q) (by omega) (by omega) (by omega);have CX:=znS (zT p q) (zT p (3*q)) 40 _ rfl (by omega) (by omega) (by omega) (by omega);obtain⟨x0,x1⟩:=zev (zT p q) (zT p (3*q)) 40;have CH:=zew (zai (zT p q) (zT p (3*q)) 40) 10 x0 x1 (by omega) (by omega);generalize zV (zai (zT p q) (zT p (3*q)) 40) 10=z at *;generalize zai (zT p q) (zT p (3*q)) 40=y at *;generalize zT p (3*q)=t at *;generalize zT p q=s at *
  go_enter Tryz.func187,Tryz.ntmps187
  go_wp2_with (first
   |(go_at_call 217;(with_reducible refine(CM _).mono ?_);rintro e w1 ⟨rfl,b1⟩)
   |(go_at_call 219;(with_reducible refine(CS _).mono ?_);rintro e w2 ⟨rfl,b2⟩)
   |(go_at_call 219;(with_reducible refine(CT _).mono ?_);rintro e w3 ⟨rfl,b3⟩)
   |(go_at_call 218;(with_reducible refine(CX _).mono ?_);rintro e w4 ⟨rfl,b4⟩)
   |(go_at_call 130;(with_reducible refine(CH _).mono ?_);rintro e w5 ⟨rfl,b5⟩))
  go_ret;exact⟨rfl,bt (bt (bt (bt b1 b2) b3) b4) b5⟩
 ·rw[show zag p q=0 from if_neg (by rw[g];simp)];rw[g]at CM;clear g
  go_enter Tryz.func187,Tryz.ntmps187
  go_wp2_with (go_at_call 217;(with_reducible refine(CM _).mono ?_);rintro e w1 ⟨rfl,b1⟩)
  go_ret;exact⟨rfl,b1⟩
set_option maxHeartbeats 1000000 in
theorem zky (p q:Int) (h0 : -9223372036854775808<=p) (h1:p<=9223372036854775807) (w:World) :
  Calls Tryz.prog 231 #[.int .i64 p,.int .i64 q] w λe w'=>e=.returned (.int .i64 (zag p q))/\Below w.heap.size w w':=by
 have CM:=λw=>zqK p q w h0 h1
 rcases zif p q with⟨g,a1,a2,a3,a4⟩|⟨g,_⟩
 ·rw[g]at CM
  by_cases g1:p<=-3*q
  ·rw[show zag p q=0 from if_neg (by omega)];clear g
   go_enter Tryz.func231,Tryz.ntmps231
   go_wp2_with (go_at_call 245;(with_reducible refine(CM _).mono ?_);rintro e w1 ⟨rfl,b1⟩)
   go_ret;exact⟨rfl,b1⟩
  by_cases g2:3*q<=p
  ·rw[show zag p q=0 from if_neg (by omega)];clear g
   go_enter Tryz.func231,Tryz.ntmps231
   go_wp2_with (go_at_call 245;(with_reducible refine(CM _).mono ?_);rintro e w1 ⟨rfl,b1⟩)
   go_ret;exact⟨rfl,b1⟩
  rw[show zag p q=zV (zai (zT p q) (zT p (3*q)) 40) 10 from if_pos ⟨g,by omega,by omega⟩];clear g;have CS:=zht p q (by omega) (by omega) (by omega) (by omega);have CT:=zht p (3*q) (by omega) (by omega) (by omega) (by omega);obtain⟨s0,s1⟩:=zft (p:=p) (q:=q) (by omega) (by omega) (by omega);obtain⟨t0,t1⟩:=zft (p:=p) (q:=3*q) (by omega) (by omega) (by omega);have CX:=zkw (zT p q) (zT p (3*q)) 40 _ rfl (by omega) (by omega) (by omega) (by omega);obtain⟨x0,x1⟩:=zev (zT p q) (zT p (3*q)) 40;have CH:=zeG (zai (zT p q) (zT p (3*q)) 40) 10 x0 x1;generalize zV (zai (zT p q) (zT p (3*q)) 40) 10=z at *;generalize zai (zT p q) (zT p (3*q)) 40=y at *;generalize zT p (3*q)=t at *;generalize zT p q=s at *
  go_enter Tryz.func231,Tryz.ntmps231
  go_wp2_with (first
   |(go_at_call 245;(with_reducible refine(CM _).mono ?_);rintro e w1 ⟨rfl,b1⟩)
   |(go_at_call 247;(with_reducible refine(CS _).mono ?_);rintro e w2 ⟨rfl,b2⟩)
   |(go_at_call 247;(with_reducible refine(CT _).mono ?_);rintro e w3 ⟨rfl,b3⟩)
   |(go_at_call 246;(with_reducible refine(CX _).mono ?_);rintro e w4 ⟨rfl,b4⟩)
   |(go_at_call 96;(with_reducible refine(CH _).mono ?_);rintro e w5 ⟨rfl,b5⟩))
  go_ret;exact⟨rfl,bt (bt (bt (bt b1 b2) b3) b4) b5⟩
 ·rw[show zag p q=0 from if_neg (by rw[g];simp)];rw[g]at CM;clear g
  go_enter Tryz.func231,Tryz.ntmps231
  go_wp2_with (go_at_call 245;(with_reducible refine(CM _).mono ?_);rintro e w1 ⟨rfl,b1⟩)
  go_ret;exact⟨rfl,b1⟩
end Go.Proofs.YtlodkoimdoeopaaGreatDoor
namespace Go.Proofs.YtlodkoimdoeopaaGreatDoor
open Go.RowKit Ieee
def zd0 (p q:Int):Int:=3*(p*p*p)-5*(p*p)*q+2*(q*q*q)
def zcV (p q:Int):Int:=5*(p*p)*q-p*p*p-8*p*(q*q)+4*(q*q*q)
def za8 (p q:Int):Int:=if 1<=q/\q<=262144/\p<2*q/\-2*q<p then(if zi p<q then zN (zd0 (zi p) q*1073741824) (2*(q*q*q)) else zN (zcV (zi p) q*1073741824) (2*(q*q*q))) else 0
theorem zsd (p q:Int):za8 (-p) q=za8 p q:=by
 have e:(1<=q/\q<=262144/\-p<2*q/\-2*q < -p)↔(1<=q/\q<=262144/\p<2*q/\-2*q<p):=by omega
 unfold za8;rw[zlp];simp only[e]
theorem zrf {q:Int} (q0:1<=q) (q1:q<=262144):1<=q*q/\q*q<=68719476736/\1<=q*q*q/\q*q*q<=18014398509481984:=by
 have a:1*1<=q*q:=Int.mul_le_mul q0 q0 (by omega) (by omega);have b:q*q<=262144*262144:=Int.mul_le_mul q1 q1 (by omega) (by omega);have c:1*1<=q*q*q:=Int.mul_le_mul a q0 (by omega) (by omega);have d:q*q*q<=262144*262144*262144:=Int.mul_le_mul b q1 (by omega) (by omega);omega
theorem ziS {P q:Int} (q0:1<=q) (q1:q<=262144) (P0:0<=P) (P1:P<=2*q) :
  0<=P*P/\P*P<=274877906944/\0<=P*P*P/\P*P*P<=144115188075855872/\0<=5*(P*P)*q/\5*(P*P)*q<=360287970189639680/\0<=8*P*(q*q)/\8*P*(q*q)<=288230376151711744:=by
 obtain⟨s0,s1,c0,c1⟩:=zrf q0 q1;have P2:P<=524288:=by omega
 have a0:0<=P*P:=Int.mul_nonneg P0 P0;have a1:P*P<=524288*524288:=Int.mul_le_mul P2 P2 P0 (by omega);have b0:0<=P*P*P:=Int.mul_nonneg a0 P0;have b1:P*P*P<=524288*524288*524288:=Int.mul_le_mul a1 P2 P0 (by omega);have d0:0<=5*(P*P)*q:=Int.mul_nonneg (by omega) (by omega);have d1:5*(P*P)*q<=5*(524288*524288)*262144:=Int.mul_le_mul (by omega) q1 (by omega) (by omega);have g0:0<=8*P*(q*q):=Int.mul_nonneg (by omega) (by omega);have g1:8*P*(q*q)<=8*524288*68719476736:=Int.mul_le_mul (by omega) s1 (by omega) (by omega);omega
set_option maxRecDepth 100000 in
set_option maxHeartbeats 1000000 in
theorem zrq (p q P:Int) (hP:zi p=P) (h0 : -9223372036854775808<p) (h1:p<=9223372036854775807) (q0:1<=q) (q1:q<=262144) (g0:p<2*q) (g1 : -2*q<p) (w:World) :
  Calls Tryz.prog 230 #[.int .i64 p,.int .i64 q] w λe w'=>e=.returned (.int .i64 (if P<q then zN (zd0 P q*1073741824) (2*(q*q*q)) else zN (zcV P q*1073741824) (2*(q*q*q))))/\Below w.heap.size w w':=by
 have P0:0<=P:=by rw[←hP];exact za6 p
 have P1:P<=2*q:=by rw[←hP];unfold zi;split<;>omega
 obtain⟨a0,a1,b0,b1,d0,d1,e0,e1⟩:=ziS q0 q1 P0 P1;obtain⟨s0,s1,c0,c1⟩:=zrf q0 q1;have hp:(decide (p<0)=true/\-p=P)\/(decide (p<0)=false/\p=P):=by
  unfold zi at hP
  by_cases h:p<0
  ·rw[if_pos h]at hP;exact Or.inl ⟨decide_eq_true h,hP⟩
  ·rw[if_neg h]at hP;exact Or.inr ⟨decide_eq_false h,hP⟩
 clear hP
 by_cases g:P<q
 ·rw[if_pos g];have C:=zbv (zd0 P q) 1073741824 (2*(q*q*q)) _ rfl (by unfold zd0;omega) (by unfold zd0;omega) (by omega) (by omega) (by omega) (by omega);generalize zN (zd0 P q*1073741824) (2*(q*q*q))=z at *;unfold zd0 at C;have gd:decide (P<q)=true:=decide_eq_true g;rcases hp with⟨hp,hP⟩|⟨hp,hP⟩
  ·go_enter Tryz.func230,Tryz.ntmps230
   go_wp2_with (go_at_call 180;(with_reducible refine(C _).mono ?_);rintro e w1 ⟨rfl,b1⟩)
   go_ret;exact⟨rfl,b1⟩
  ·subst hP
   go_enter Tryz.func230,Tryz.ntmps230
   go_wp2_with (go_at_call 180;(with_reducible refine(C _).mono ?_);rintro e w1 ⟨rfl,b1⟩)
   go_ret;exact⟨rfl,b1⟩
 ·rw[if_neg g];have C:=zbv (zcV P q) 1073741824 (2*(q*q*q)) _ rfl (by unfold zcV;omega) (by unfold zcV;omega) (by omega) (by omega) (by omega) (by omega);generalize zN (zcV P q*1073741824) (2*(q*q*q))=z at *;unfold zcV at C;have gd:decide (P<q)=false:=decide_eq_false g;rcases hp with⟨hp,hP⟩|⟨hp,hP⟩
  ·go_enter Tryz.func230,Tryz.ntmps230
   go_wp2_with (go_at_call 180;(with_reducible refine(C _).mono ?_);rintro e w1 ⟨rfl,b1⟩)
   go_ret;exact⟨rfl,b1⟩
  ·subst hP
   go_enter Tryz.func230,Tryz.ntmps230
   go_wp2_with (go_at_call 180;(with_reducible refine(C _).mono ?_);rintro e w1 ⟨rfl,b1⟩)
   go_ret;exact⟨rfl,b1⟩
theorem znU (p q:Int) (h0 : -9223372036854775808<=p) (h1:p<=9223372036854775807) (w:World) :
  Calls Tryz.prog 230 #[.int .i64 p,.int .i64 q] w λe w'=>e=.returned (.int .i64 (za8 p q))/\Below w.heap.size w w':=by
 by_cases g:1<=q/\q<=262144/\p<2*q/\-2*q<p
 ·rw[show za8 p q=if zi p<q then zN (zd0 (zi p) q*1073741824) (2*(q*q*q)) else zN (zcV (zi p) q*1073741824) (2*(q*q*q)) from if_pos g];obtain⟨q0,q1,g0,g1⟩:=g;exact zrq p q _ rfl (by omega) h1 q0 q1 g0 g1 w
 ·rw[show za8 p q=0 from if_neg g]
  by_cases g1:q<1
  ·clear g
   go_enter Tryz.func230,Tryz.ntmps230
   go_wp2;go_ret;exact⟨rfl,Below.refl _ _⟩
  by_cases g2:262144<q
  ·clear g
   go_enter Tryz.func230,Tryz.ntmps230
   go_wp2;go_ret;exact⟨rfl,Below.refl _ _⟩
  by_cases g3:2*q<=p
  ·clear g
   go_enter Tryz.func230,Tryz.ntmps230
   go_wp2;go_ret;exact⟨rfl,Below.refl _ _⟩
  have g4:p<=-2*q:=by omega
  clear g
  go_enter Tryz.func230,Tryz.ntmps230
  go_wp2;go_ret;exact⟨rfl,Below.refl _ _⟩
end Go.Proofs.YtlodkoimdoeopaaGreatDoor
namespace Go.Proofs.YtlodkoimdoeopaaGreatDoor
open Go.RowKit
theorem zb9 {a b A B:Int} (a0:0<=a) (a1:a<=A) (b0:0<=b) (b1:b<=B):0<=a*b/\a*b<=A*B:=⟨Int.mul_nonneg a0 b0,Int.mul_le_mul a1 b1 b0 (by omega)⟩
set_option maxRecDepth 100000 in
theorem zn0 (p q v:Int) (hv:zd0 p q=v) (q0:1<=q) (q1:q<=262144) (p0:0<=p) (g:p<q) (w:World) :
  Calls Tryz.prog 204 #[.int .i64 p,.int .i64 q] w λe w'=>e=.returned (.int .i64 v)/\w=w':=by
 obtain⟨a0,a1⟩:=zb9 (a:=3*p) (A:=786432) (b:=p) (B:=262144) (by omega) (by omega) p0 (by omega);obtain⟨b0,b1⟩:=zb9 a0 a1 p0 (show p<=262144 by omega);obtain⟨c0,c1⟩:=zb9 (a:=5*p) (A:=1310720) (b:=p) (B:=262144) (by omega) (by omega) p0 (by omega);obtain⟨d0,d1⟩:=zb9 c0 c1 (show 0<=q by omega) q1;obtain⟨e0,e1⟩:=zb9 (a:=2*q) (A:=524288) (b:=q) (B:=262144) (by omega) (by omega) (by omega) q1;obtain⟨f0,f1⟩:=zb9 e0 e1 (show 0<=q by omega) q1;have HV:=za hv;clear hv
 go_enter Tryz.func204,Tryz.ntmps204
 go_wp2;go_ret;exact⟨zl (by rw[←HV.out];unfold zd0;simp only[Int.mul_assoc]),rfl⟩
set_option maxRecDepth 100000 in
theorem zml (p q v:Int) (hv:zcV p q=v) (q0:1<=q) (q1:q<=262144) (g:q<=p) (p1:p<2*q) (w:World) :
  Calls Tryz.prog 204 #[.int .i64 p,.int .i64 q] w λe w'=>e=.returned (.int .i64 v)/\w=w':=by
 have p0:0<=p:=by omega
 have p2:p<=524288:=by omega
 obtain⟨a0,a1⟩:=zb9 (a:=p) (A:=524288) (b:=p) (B:=524288) p0 p2 p0 p2;obtain⟨b0,b1⟩:=zb9 a0 a1 p0 p2;obtain⟨c0,c1⟩:=zb9 (a:=5*p) (A:=2621440) (b:=p) (B:=524288) (by omega) (by omega) p0 p2;obtain⟨d0,d1⟩:=zb9 c0 c1 (show 0<=q by omega) q1;obtain⟨e0,e1⟩:=zb9 (a:=4*q) (A:=1048576) (b:=q) (B:=262144) (by omega) (by omega) (by omega) q1;obtain⟨f0,f1⟩:=zb9 e0 e1 (show 0<=q by omega) q1;obtain⟨g0,g1⟩:=zb9 (a:=8*p) (A:=4194304) (b:=q) (B:=262144) (by omega) (by omega) (by omega) q1;obtain⟨h0,h1⟩:=zb9 g0 g1 (show 0<=q by omega) q1;have HV:=za hv;clear hv
 go_enter Tryz.func204,Tryz.ntmps204
 go_wp2;go_ret;exact⟨zl (by rw[←HV.out];unfold zcV;simp only[Int.mul_assoc]),rfl⟩
set_option maxRecDepth 100000 in
set_option maxHeartbeats 1000000 in
theorem zwq (p q P:Int) (hP:zi p=P) (h0 : -9223372036854775808<p) (h1:p<=9223372036854775807) (q0:1<=q) (q1:q<=262144) (g0:p<2*q) (g1 : -2*q<p) (w:World) :
  Calls Tryz.prog 174 #[.int .i64 p,.int .i64 q] w λe w'=>e=.returned (.int .i64 (if P<q then zN (zd0 P q*1073741824) (2*(q*q*q)) else zN (zcV P q*1073741824) (2*(q*q*q))))/\Below w.heap.size w w':=by
 have P0:0<=P:=by rw[←hP];exact za6 p
 have P1:P<2*q:=by rw[←hP];unfold zi;split<;>omega
 obtain⟨a0,a1,b0,b1,d0,d1,e0,e1⟩:=ziS q0 q1 P0 (by omega);obtain⟨s0,s1,c0,c1⟩:=zrf q0 q1;obtain⟨v,hv,v0,v1⟩:∃ v,(if P<q then zd0 P q else zcV P q)=v/\-9223372036854775808<=v/\v<=9223372036854775807:=by
  refine⟨_,rfl,?_⟩;unfold zd0 zcV
  split<;>omega
 have hp:(decide (p<0)=true/\-p=P)\/(decide (p<0)=false/\p=P):=by
  unfold zi at hP
  by_cases h:p<0
  ·rw[if_pos h]at hP;exact Or.inl ⟨decide_eq_true h,hP⟩
  ·rw[if_neg h]at hP;exact Or.inr ⟨decide_eq_false h,hP⟩
 clear hP;have CD:∀ w:World,Calls Tryz.prog 204 #[.int .i64 P,.int .i64 q] w λe w'=>e=.returned (.int .i64 v)/\w=w':=by
  intro w
  by_cases g:P<q
  ·rw[if_pos g]at hv;exact zn0 P q v hv q0 q1 P0 g w
  ·rw[if_neg g]at hv;exact zml P q v hv q0 q1 (by omega) P1 w
 have ez:(if P<q then zN (zd0 P q*1073741824) (2*(q*q*q)) else zN (zcV P q*1073741824) (2*(q*q*q)))=zN (v*1073741824) (2*q*q*q):=by
  rw[←hv,show 2*q*q*q=2*(q*q*q) by simp only[Int.mul_assoc]]
  split<;>rfl
 rw[ez];have eq3:2*q*q*q=2*(q*q*q):=by simp only[Int.mul_assoc]
 obtain⟨f0,f1⟩:=zb9 (a:=2*q) (A:=524288) (b:=q) (B:=262144) (by omega) (by omega) (by omega) q1;have CM:=zd9 v 1073741824 (2*q*q*q) _ rfl (by omega) (by omega) (by omega) (by omega) (by omega) (by omega);obtain⟨t0,t1⟩:1<=2*q*q*q/\2*q*q*q<=36028797018963968:=by omega
 generalize zN (v*1073741824) (2*q*q*q)=z at *;clear ez eq3 hv a0 a1 b0 b1 d0 d1 e0 e1 s0 s1 c0 c1 v0 v1;rcases hp with⟨hp,hP⟩|⟨hp,hP⟩
 ·go_enter Tryz.func174,Tryz.ntmps174
  go_wp2_with (first
   |(go_at_call 204;(with_reducible refine(CD _).mono ?_);rintro e w1 ⟨rfl,rfl⟩)
   |(go_at_call 173;(with_reducible refine(CM _).mono ?_);rintro e w1 ⟨rfl,b1⟩))
  go_ret;exact⟨rfl,b1⟩
 ·subst hP
  go_enter Tryz.func174,Tryz.ntmps174
  go_wp2_with (first
   |(go_at_call 204;(with_reducible refine(CD _).mono ?_);rintro e w1 ⟨rfl,rfl⟩)
   |(go_at_call 173;(with_reducible refine(CM _).mono ?_);rintro e w1 ⟨rfl,b1⟩))
  go_ret;exact⟨rfl,b1⟩
theorem zmf (p q:Int) (h0 : -9223372036854775808<=p) (h1:p<=9223372036854775807) (w:World) :
  Calls Tryz.prog 174 #[.int .i64 p,.int .i64 q] w λe w'=>e=.returned (.int .i64 (za8 p q))/\Below w.heap.size w w':=by
 by_cases g:1<=q/\q<=262144/\p<2*q/\-2*q<p
 ·rw[show za8 p q=if zi p<q then zN (zd0 (zi p) q*1073741824) (2*(q*q*q)) else zN (zcV (zi p) q*1073741824) (2*(q*q*q)) from if_pos g];obtain⟨q0,q1,g0,g1⟩:=g;exact zwq p q _ rfl (by omega) h1 q0 q1 g0 g1 w
 ·rw[show za8 p q=0 from if_neg g]
  by_cases g1:q<1
  ·clear g
   go_enter Tryz.func174,Tryz.ntmps174
   go_wp2;go_ret;exact⟨rfl,Below.refl _ _⟩
  by_cases g2:262144<q
  ·clear g
   go_enter Tryz.func174,Tryz.ntmps174
   go_wp2;go_ret;exact⟨rfl,Below.refl _ _⟩
  by_cases g3:p<=-2*q
  ·clear g
   go_enter Tryz.func174,Tryz.ntmps174
   go_wp2;go_ret;exact⟨rfl,Below.refl _ _⟩
  have g4:2*q<=p:=by omega
  clear g
  go_enter Tryz.func174,Tryz.ntmps174
  go_wp2;go_ret;exact⟨rfl,Below.refl _ _⟩
end Go.Proofs.YtlodkoimdoeopaaGreatDoor
