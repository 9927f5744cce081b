/- Parts, joined. -/
import Derived.Test.YtlodkoimdoeopaaGreatDoorQ12
import Derived.Test.YtlodkoimdoeopaaGreatDoorQ11
import Derived.Test.YtlodkoimdoeopaaGreatDoorQ02
import Derived.Test.YtlodkoimdoeopaaGreatDoorQ01
import Derived.Maps.OwnSet
import Derived.Shelf.Abstract
import Derived.Deep.LoopGhost
namespace Go.Proofs.YtlodkoimdoeopaaGreatDoor
open Go.RowKit
def zv8 (k p:Nat):Bool :=
 decide (-1075000000<=zag (p:Int) (2*((k:Int)+1))) && decide (zag (p:Int) (2*((k:Int)+1))<=1075000000) && decide (-1075000000<=za8 (p:Int) (2*((k:Int)+1))) && decide (za8 (p:Int) (2*((k:Int)+1))<=1075000000)
set_option maxRecDepth 100000 in
set_option maxHeartbeats 8000000 in
theorem zuB:((List.range 20).all λk=>(List.range (6*k+6)).all λp=>zv8 k p)=true:=by decide +kernel
theorem zxa {p q:Int} (q0:1<=q) (q1:q<=20):(-1075000000<=zag p (2*q)/\zag p (2*q)<=1075000000)/\-1075000000<=za8 p (2*q)/\za8 p (2*q)<=1075000000:=by
 have key:∀ P:Int,0<=P->(-1075000000<=zag P (2*q)/\zag P (2*q)<=1075000000)/\-1075000000<=za8 P (2*q)/\za8 P (2*q)<=1075000000:=by
  intro P P0
  by_cases g:P<3*(2*q)
  ·have h:=List.all_eq_true.1 zuB (q-1).toNat (List.mem_range.2 (by omega));have h2:=List.all_eq_true.1 h P.toNat (List.mem_range.2 (by omega));unfold zv8 at h2;simp only[Bool.and_eq_true,decide_eq_true_eq]at h2;rw[show((P.toNat:Nat):Int)=P by omega,show(((q-1).toNat:Nat):Int)+1=q by omega]at h2;obtain⟨⟨⟨a,b⟩,c⟩,d⟩:=h2;exact⟨⟨a,b⟩,c,d⟩
  ·have e1:zag P (2*q)=0:=by unfold zag;rw[if_neg (by omega)]
   have e2:za8 P (2*q)=0:=by unfold za8;rw[if_neg (by omega)]
   rw[e1,e2];omega
 by_cases g:0<=p
 ·exact key p g
 ·have:=key (-p) (by omega);rw[znw,zsd]at this;exact this
theorem zo4 {f n m i:Int} {j:Nat} (h:j<(zbg f n m i).length):(zbg f n m i).getD j 0=zab f n m i (za4 f n m i+(j:Int)):=by
 rw[zbE]at h;unfold zbg;rw[List.getD_eq_getElem?_getD,List.getElem?_map,List.getElem?_range h];rfl
theorem zoc {f n m i:Int} (hf:f=1\/f=2) (n0:1<=n) (n1:n<=20) (m0:1<=m) (m1:m<=20):zcb f n m i<=127:=by
 unfold zcb zbL zci;have s0:4<=zbf f n m/\zbf f n m<=120:=by
  unfold zbf;rw[if_neg (by omega)]
  split<;>omega
 generalize zbf f n m=s at *;generalize zbt n m i=c at *;have a:=Int.mul_ediv_add_emod (c+s-1) (2*m);have a0:=Int.emod_nonneg (c+s-1) (show 2*m≠0 by omega);have b:=Int.mul_ediv_add_emod (c-s) (2*m);have b0:=Int.emod_lt_of_pos (c-s) (show 0<2*m by omega);generalize (c+s-1) / (2*m)=A at *;generalize (c-s) / (2*m)=B at *
 by_cases g:A-B<=127
 ·omega
 ·exfalso
  have h:=Int.mul_le_mul_of_nonneg_left (show(128:Int)<=A-B by omega) (show 0<=2*m by omega);rw[Int.mul_sub]at h;generalize 2*m*A=x at *;generalize 2*m*B=y at *;omega
theorem zh5 {f n m:Int} (h:zO f n m=0) (n1:n<=20) (m1:m<=20):zet (zt f n m m.toNat):=by
 intro j hj;rw[zaq]at hj;have hB:zdO f n m=true:=by
  cases hb:zdO f n m
  ·unfold zO at h;rw[if_neg (by rw[hb];decide)]at h;omega
  ·rfl
 obtain⟨f0,f1,⟨n0,_⟩,m0,_⟩:=(zdr f n m).1 hB;have e:m=(m.toNat:Int):=by omega
 rw[show zf (zt f n m m.toNat) j=zbQ f n m j from zcS _ hj];rw[e]at h hB;have F:=zf3 h hB hj;rw[←e]at F
 show zaj (zG (zbg f n m j))
 have MP:zdf f n m (j:Int):=⟨f0,f1,n0,by omega,m0,by omega,by omega,by omega⟩
 by_cases hf:f=0
 ·subst hf;refine ze9 F (λt ht=>?_);rw[zo4 ht];rw[zbE]at ht;exact(znE n0 (by omega) m0 ((zkq MP).2.2.1 t ht)).2.2.1
 ·refine zkR F (λt ht=>?_) (by rw[zbE];exact zoc (by omega) n0 n1 m0 m1);rw[zo4 ht];have K:=λp=>zxa (p:=p) (q:=max n m) (by omega) (by omega)
  unfold zab;rw[if_neg hf,zls]
  split
  ·exact(K _).2
  ·exact(K _).1
theorem zoJ {f n m:Int} (h:zO f n m=0):zib (zt f n m m.toNat):=by
 intro j hj;rw[zaq]at hj;have hB:zdO f n m=true:=by
  cases hb:zdO f n m
  ·unfold zO at h;rw[if_neg (by rw[hb];decide)]at h;omega
  ·rfl
 obtain⟨f0,f1,⟨n0,n1⟩,m0,m1⟩:=(zdr f n m).1 hB;have e:m=(m.toNat:Int):=by omega
 rw[show zf (zt f n m m.toNat) j=zbQ f n m j from zcS _ hj];rw[e]at h hB;have F:=zf3 h hB hj;rw[←e]at F;have R:=zgW (f:=f) (n:=n) (m:=m) (i:=(j:Int)) ⟨f0,f1,n0,n1,m0,m1,by omega,by omega⟩
 show -1048576<=za4 f n m j/\za4 f n m j+((zG (zbg f n m j)).length:Int)<=2097152
 rw[(zdF F).1,zbE];omega
theorem zuo (l:List Int):∀ x ∈ l,zaK x<=zP l:=by
 refine zgV (P:=λl=>∀ x ∈ l,zaK x<=zP l) (λx hx=>by cases hx) (λl y ih x hx=>?_) l;rw[zen];have a:=zdB l;have b:0<=zaK y:=by
  have:=za6 y;unfold zaK zE;omega
 have b1:zaK y<=9223372036854775807:=ze3 _;have c:zP l<=zcD (zP l) (zaK y)/\zaK y<=zcD (zP l) (zaK y):=by
  unfold zcD zE;omega
 rcases List.mem_append.1 hx with g|g
 ·have:=ih x g;omega
 ·rw[List.mem_singleton.1 g];exact c.2
theorem zv3 {l:List Int} (s0:1<=zP l) (s1:zP l<=1048576):∀ x ∈ zbP l,-1075000000<=x/\x<=1075000000:=by
 intro x hx;obtain⟨y,hy,rfl⟩:=List.mem_map.1 hx;have a:=zuo l y hy;have b:zi y<=zP l:=by
  have:=za6 y;unfold zaK zE at a;omega
 have c : -zP l<=y/\y<=zP l:=by unfold zi at b;split at b<;>omega
 generalize zP l=s at *;have:=(zuY (X:=y*1073741824) (D:=s) (B:=1073741824) (by omega) (by decide) (by omega) (by omega)).2.2;omega
theorem zvh (n:Nat) (h:n<=2000):∀ x ∈ zbP (List.replicate n 1),0<=x:=by
 intro x hx;obtain⟨y,hy,rfl⟩:=List.mem_map.1 hx;obtain⟨h0,rfl⟩:=List.mem_replicate.1 hy;rw[zhl n h,zck (by omega)];have:=zed (X:=1*1073741824) (d:=(n:Int)) (m:=1073741824) (by omega) (by omega) (by omega);unfold zE;omega
theorem zln {xs:List Int} {n:Int} (h:zA xs n=0) (hs:Fits xs->zaj (zG xs)) (k:Nat):zet (zQ xs k):=by
 intro j hj;rw[zar]at hj;rw[zel hj];unfold zA at h
 split at h
 ·split at h
  ·omega
  ·exact hs (zap.1 h)
 ·omega
theorem zue {xs:List Int} {n:Int} (h:zA xs n=0) {k:Nat} (hk:k<=65536):zib (zQ xs k):=by
 intro j hj;rw[zar]at hj;rw[zel hj];unfold zA at h
 split at h
 ·split at h
  ·omega
  ·have F:=zap.1 h;have l1:=F.n1
   show -1048576<=(j:Int)-((xs.length / 2:Nat):Int)/\(j:Int)-((xs.length / 2:Nat):Int)+((zG xs).length:Int)<=2097152
   rw[(zdF F).1];omega
 ·omega
theorem zlf (s:Int) (hF:Fits (zS s)):zaj (zG (zS s)):=by
 refine ze9 hF (λj hj=>zbk (P:=λx=>0<=x) (λx hx=>?_) hj);unfold zS at hx
 split at hx
 ·obtain⟨k,_,rfl⟩:=List.mem_map.1 hx;exact(ziy ((k:Int)-zdQ s) s).1
 ·cases hx
theorem zke (r:Int) (hF:Fits (zM r)):zaj (zG (zM r)):=by
 refine ze9 hF (λj hj=>zbk (P:=λx=>0<=x) (λx hx=>?_) hj);unfold zM at hx
 split at hx
 ·exact zvh _ (by omega) x hx
 ·cases hx
theorem zjA (l:List Int) (hl:l.length<=40) (hF:Fits (zJ l)):zaj (zG (zJ l)):=by
 unfold zJ at hF ⊢
 by_cases h:zga l=true
 ·rw[if_pos h]at hF ⊢;have u:=(zdI l).1 h;have v:=zdB l;exact zkR hF (λj hj=>zbk (P:=λx => -1075000000<=x/\x<=1075000000) (zv3 (by have:=u.2.2.1;omega) (by have:=u.2.2.2;omega)) hj) (by rw[ze6];omega)
 ·rw[if_neg h]at hF;exact absurd hF.n0 (by decide)
theorem zhX {o:Opr} {w h s:Int} (hz:zC o w h=0) (hb:¬zdc s o) (s1:s<=20) (w1:w<=20) (h1:h<=20):zcF (zj o w h):=by
 obtain⟨hok,hx,hy⟩:=zfG hz;obtain⟨_,_,hw,hh,hr⟩:=(zbD _ _ _).1 hok;unfold zdc at hb
 show zet (zcf o w)/\zet (zbK o h)/\zib (zcf o w)
 unfold zex at hx;unfold zeE at hy;unfold zcf zbK
 by_cases hk:o.kd=3
 ·rw[if_pos hk]at hx hy ⊢;rw[if_pos hk];obtain⟨a,b,_⟩:=hr hk;exact⟨zh5 hx w1 (by omega),zh5 hy h1 (by omega),zoJ hx⟩
 ·rw[if_neg hk]at hx hy ⊢;rw[if_neg hk];have hs:(Fits (wX o)->zaj (zG (wX o)))/\(Fits (wY o)->zaj (zG (wY o))):=by
   unfold wX wY
   by_cases k0:o.kd=0
   ·rw[if_pos k0,if_pos k0];exact⟨zlf _,zlf _⟩
   rw[if_neg k0,if_neg k0]
   by_cases k1:o.kd=1
   ·rw[if_pos k1,if_pos k1];exact⟨zke _,zke _⟩
   rw[if_neg k1,if_neg k1];exact⟨zjA _ (by omega),zjA _ (by omega)⟩
  exact⟨zln hx hs.1 _,zln hy hs.2 _,zue hx (by omega)⟩
def zdK (L:List (Int×List Int)):Prop:=∀ j,j+1<L.length->(zf L (j+1)).1<=(zf L j).1+((zf L j).2.length:Int)
theorem zrU {f n:Int} {m:Nat} (f0:0<=f) (f1:f<=2) (n0:1<=n) (n1:n<=65536) (m1:m<=65536):zdK (zt f n m m):=by
 intro j hj;rw[zaq]at hj;have e:∀ i:Nat,i<m->zf (zt f n m m) i=zbQ f n m i:=λi hi=>zcS _ hi
 rw[e j (by omega),e (j+1) (by omega)];have hM:zdf f n m j:=⟨f0,f1,n0,n1,by omega,by omega,by omega,by omega⟩;have wc:=zcX hM;have en:(zbQ f n m j).1+((zbQ f n m j).2.length:Int)=zci f n m j+1:=by
  show za4 f n m j+((zG (zbg f n m j)).length:Int)=_
  rw[zaU,zbE];unfold za4 zcb;omega
 rw[en]
 show zbL f n m ((j+1:Nat):Int)+1<=_
 rw[show((j+1:Nat):Int)=(j:Int)+1 by omega];have:zbL f n m ((j:Int)+1)<=zci f n m j:=by
  unfold zbL zci;rw[zl9];refine Int.ediv_le_ediv (by omega) ?_;unfold zbf
  split
  ·omega
  ·split<;>omega
 omega
theorem zxi {xs:List Int} (h:1<=xs.length) (k:Nat):zdK (zQ xs k):=by
 intro j hj;rw[zar]at hj;rw[zel (show j<k by omega),zel hj]
 show((j+1:Nat):Int)-((xs.length / 2:Nat):Int)<=(j:Int)-((xs.length / 2:Nat):Int)+((zG xs).length:Int)
 rw[zaU];omega
theorem zqZ {f n:Int} {m:Nat} (_:0<=f) (_:f<=2) (n0:1<=n) (n1:n<=20) (m1:m<=20):zaL (zt f n m m)<=900:=by
 have e:∀ o,o<=m->zbh (zt f n m m) o<=900:=by
  intro o ho
  induction o with
  |zero=>show(0:Int)<=900;decide
  |succ o ih =>
   have a:=ih (by omega);have s:zbh (zt f n m m) (o+1)=max (zbh (zt f n m m) o) ((zf (zt f n m m) o).2.length:Int):=rfl;rw[s,show zf (zt f n m m) o=zbQ f n m o from zcS _ (by omega)];have b:((zbQ f n m o).2.length:Int)<=900:=by
    show((zG (zbg f n m o)).length:Int)<=_
    rw[zaU,zbE];unfold zcb zci zbL;have hs:0<=zbf f n m/\zbf f n m<=120:=by
     unfold zbf
     split
     ·omega
     ·split<;>omega
    generalize zbf f n m=q at *;generalize zbt n m o=c at *;have h1:(c+q-1) / (2*(m:Int))<=(c-q) / (2*(m:Int))+241:=by
     have d:(0:Int)<2*(m:Int):=by omega
     rw[show(c-q) / (2*(m:Int))+241=((c-q)+241*(2*(m:Int))) / (2*(m:Int)) by rw[Int.add_mul_ediv_right _ _ (by omega)]];exact Int.ediv_le_ediv d (by omega)
    omega
   omega
 unfold zaL;rw[zaq];exact e m (Nat.le_refl _)
theorem znf {o:Opr} {w h s:Int} (hz:zC o w h=0) (hb:¬zdc s o) (s1:s<=20) (h1:h<=20):zdK (zj o w h).ly/\zaL (zj o w h).ly<=900:=by
 obtain⟨hok,hx,hy⟩:=zfG hz;obtain⟨_,_,hw,hh,hr⟩:=(zbD _ _ _).1 hok;unfold zdc at hb
 show zdK (zbK o h)/\zaL (zbK o h)<=900
 unfold zeE at hy;unfold zbK
 by_cases hk:o.kd=3
 ·rw[if_pos hk];obtain⟨a,b,c,d⟩:=hr hk;obtain⟨m,hm⟩:∃ m:Nat,o.ht=(m:Int):=⟨o.ht.toNat,by omega⟩;rw[hm,Int.toNat_natCast];exact⟨zrU c d hh.1 hh.2 (by omega),zqZ c d hh.1 h1 (by omega)⟩
 ·rw[if_neg hk]at hy ⊢;have F:Fits (wY o)/\(wY o).length<=900:=by
   unfold zA at hy
   split at hy
   ·split at hy
    ·omega
    ·have F:=zap.1 hy;refine⟨F,?_⟩;have F1:=F.n0
     revert F1
     unfold wY
     split
     ·unfold zS
      split
      ·intro _;unfold zc6;rw[zcB];have:(zdQ o.sg).toNat<=192:=by unfold zdQ;omega
       omega
      ·intro q;exact absurd q (by decide)
     ·split
      ·unfold zM
       split
       ·intro _;rw[ze6,List.length_replicate];omega
       ·intro q;exact absurd q (by decide)
      ·unfold zJ
       split
       ·intro _;rw[ze6];omega
       ·intro q;exact absurd q (by decide)
   ·omega
  refine⟨zxi F.1.n0 _,?_⟩;rw[(zub (wY o) (show 1<=h.toNat by omega)).1];omega
def zmT:List Wnd->Prop
 |[]=>True
 |l :: r=>(∀ m s,r=m :: s->m.1<=zau l)/\zmT r
theorem zwa {L:List (Int×List Int)} (hG:zdK L):∀ h y,y+h<=L.length->zmT (((zbZ L).drop y).take h)
 |0,y,_=>by rw[List.take_zero];trivial
 |h+1,y,hy=>by
  rw[zb6 (by omega)];refine⟨λm s e=>?_,zwa hG h (y+1) (by omega)⟩
  cases h with
  |zero=>rw[List.take_zero]at e;cases e
  |succ h =>
   rw[zb6 (by omega)]at e;obtain⟨rfl,_⟩:=List.cons.inj e;exact hG y (by omega)
structure JobG (mo:Nat) (G:List Int) (E:Int) (ls:List Wnd):Prop where
 job:JobW mo G E ls
 gap:zmT ls
 at_:∀ l r,ls=l :: r->l.1<=E
theorem zkb {mo:Nat} {l:Wnd} {r:List Wnd} (h:zfE mo (l :: r)) (hg:zmT (l :: r)):JobG mo [] l.1 (l :: r) :=
 ⟨ztx h,hg,λa b e=>by obtain⟨rfl,_⟩:=List.cons.inj e;exact Int.le_refl _⟩
theorem JobG.filter {mo:Nat} {G:List Int} {E:Int} {l:Wnd} {r:List Wnd} (h:JobG mo G E (l :: r)) (hj:E<zau l):JobG mo (G++[E]) (E+1) (l :: r):=by
 have e:=h.at_ l r rfl;have k:=h.job.filter (show max E l.1<zau l by omega);rw[show max E l.1=E by omega]at k;exact⟨k,h.gap,λa b q=>by obtain⟨rfl,_⟩:=List.cons.inj q;omega⟩
theorem JobG.written {mo:Nat} {G:List Int} {E:Int} {l:Wnd} {r:List Wnd} (h:JobG mo G E (l :: r)) (hj:¬E<zau l):JobG mo G E r:=by
 have e:=h.at_ l r rfl;have b:=(h.job.held l r rfl).2;have k:=h.job.written (show zau l<=max E l.1 by omega);unfold zeL at k;rw[show max E (zau l)=E by omega]at k;exact⟨k,h.gap.2,λa s q=>by have:=h.gap.1 a s q;omega⟩
theorem JobG.end_le {mo:Nat} {G:List Int} {E:Int} {l:Wnd} {r:List Wnd} (h:JobG mo G E (l :: r)):E<=zau l:=(h.job.held l r rfl).2
theorem JobG.last {mo:Nat} {G:List Int} {E:Int} {l:Wnd} {r:List Wnd} (h:JobG mo G E (l :: r)):∀ x ∈ G,x<E:=λx hx=>by
 have:=h.job.last x hx;have:=h.at_ l r rfl;omega
theorem JobG.rise {mo:Nat} {G:List Int} {E:Int} {l:Wnd} {r:List Wnd} (h:JobG mo G E (l :: r)):zgQ G:=h.job.rise
theorem JobG.has {mo:Nat} {G:List Int} {E:Int} {l:Wnd} {r:List Wnd} (h:JobG mo G E (l :: r)) (hj:¬E<zau l) {j:Int} (h1:l.1<=j) (h2:j<zau l):j ∈ zch mo G :=
 (h.job.has h1 h2).2 (by omega)
theorem zlL {mo:Nat} {G:List Int} {E y:Int} {l:Wnd} {r:List Wnd} (h:JobG mo G E (l :: r)) (hj:E<zau l):zaB E y (l :: r)=(1,E) :: zaB (E+1) y (l :: r):=by
 have e:=h.at_ l r rfl;have:=zmS (E:=E) (y:=y) (l:=l) (r:=r) (by omega);rw[show max E l.1=E by omega]at this;exact this
theorem znN {mo:Nat} {G:List Int} {E y:Int} {l:Wnd} {r:List Wnd} (h:JobG mo G E (l :: r)) (hj:¬E<zau l):zaB E y (l :: r)=(2,y) :: zaB E (y+1) r:=by
 have e:=h.at_ l r rfl;have b:=h.end_le;have:=zoG (E:=E) (y:=y) (l:=l) (r:=r) (by omega);unfold zeL at this;rw[show max E (zau l)=E by omega]at this;exact this
def zeN (E:Int) (ls:List Wnd):Int:=ls.foldl (λ_ l=>zau l) E
theorem znB {mo:Nat}:∀ (ls:List Wnd) (G:List Int) (E y:Int),JobG mo G E ls->E<=zeN E ls/\((zaB E y ls).length:Int)=zeN E ls-E+(ls.length:Int):=by
 intro ls
 induction ls with
 |nil=>intro G E y _;exact⟨Int.le_refl _,by simp[zaB,zeN]⟩
 |cons l r ih =>
  intro G E y h;have e:=h.at_ l r rfl;have b:=h.end_le;have k:∃ G',JobG mo G' (zau l) r:=by
   have hm:∀ d:Nat,∀ G E,JobG mo G E (l :: r)->(zau l-E).toNat=d->∃ G',JobG mo G' (zau l) r:=by
    intro d
    induction d with
    |zero =>
     intro G E h hd;have b:=h.end_le;have q:=h.written (by omega);rw[show E=zau l by omega]at q;exact⟨G,q⟩
    |succ d ih2=>intro G E h hd;exact ih2 _ _ (h.filter (by omega)) (by omega)
   exact hm _ G E h rfl
  obtain⟨G',k⟩:=k;obtain⟨a,c⟩:=ih G' (zau l) (y+1) k;have s:=zoe (E:=E) (y:=y) (l:=l) (r:=r);unfold zeL at s;rw[show max E (zau l)=zau l by omega,show max E l.1=E by omega]at s;have le:zeN E (l :: r)=zeN (zau l) r:=rfl;rw[le,s,List.length_cons];refine⟨by omega,?_⟩;rw[Int.natCast_add,c];omega
theorem zh2 {L:List (Int×List Int)}:∀ h y E,y+h<=L.length->1<=h->zeN E (((zbZ L).drop y).take h)=(zf L (y+h-1)).1+((zf L (y+h-1)).2.length:Int)
 |0,_,_,_,h0=>absurd h0 (by decide)
 |1,y,E,hy,_=>by
  rw[zb6 (by omega),List.take_zero];rfl
 |h+2,y,E,hy,_=>by
  rw[zb6 (by omega)]
  show zeN _ (((zbZ L).drop (y+1)).take (h+1))=_
  rw[zh2 (h+1) (y+1) _ (by omega) (by omega)];rw[show y+1+(h+1)-1=y+(h+2)-1 by omega]
theorem zrt {O I:Im} {S:Stg} {x0 W y0 k:Nat}:zac (zac O I S x0 W y0 k 0) I S x0 W (y0+k) 1 0=zac O I S x0 W y0 (k+1) 0:=by
 have:=zix (O:=O) (I:=I) (S:=S) (x0:=x0) (W:=W) (y0:=y0) (h:=k+1) (k:=k) (by omega)
 rwa [show k+1-k=1 by omega]at this
structure Off (S:Nat->Prop) (w w':World):Prop where
 os:w'.os=w.os
 tape:w'.tape=w.tape
 output:w'.output=w.output
 size:w.heap.size<=w'.heap.size
 block:∀ k,k<w.heap.size->¬S k->w'.heap[k]?=w.heap[k]?
theorem Off.refl (S:Nat->Prop) (w:World):Off S w w:=⟨rfl,rfl,rfl,Nat.le_refl _,λ_ _ _=>rfl⟩
theorem Off.mono {S S':Nat->Prop} {w w':World} (h:Off S w w') (hs:∀ k,k<w.heap.size->S k->S' k):Off S' w w':=⟨h.os,h.tape,h.output,h.size,λk hk hn=>h.block k hk (λe=>hn (hs k hk e))⟩
theorem Off.trans {S S':Nat->Prop} {a b c:World} (h:Off S a b) (h':Off S' b c) (hs:∀ k,k<a.heap.size->S' k->S k):Off S a c :=
 ⟨h'.os.trans h.os,h'.tape.trans h.tape,h'.output.trans h.output,Nat.le_trans h.size h'.size,λk hk hn=>(h'.block k (Nat.lt_of_lt_of_le hk h.size) (λe=>hn (hs k hk e))).trans (h.block k hk hn)⟩
theorem Off.of_grown {w w':World} {b:Nat} (h:w.grownBy w' (some b)):Off (λk=>k=b) w w':=⟨h.os,h.tape,h.output,h.size,λk hk hn=>h.block k hk (λe=>hn (Option.some.inj e))⟩
theorem Off.of_grownO {w w':World} {row:Option Nat} (h:w.grownBy w' row):Off (λk=>some k=row) w w':=⟨h.os,h.tape,h.output,h.size,λk hk hn=>h.block k hk hn⟩
theorem Off.of_below {S:Nat->Prop} {w w':World} (h:Below w.heap.size w w'):Off S w w':=⟨h.os,h.tape,h.output,h.size,λk hk _=>h.block k hk⟩
theorem Off.below {S:Nat->Prop} {w w':World} (h:Off S w w') {B:Nat} (hb:B<=w.heap.size) (hs:∀ k,S k->B<=k):Below B w w' :=
 ⟨h.os,h.tape,h.output,h.size,λk hk=>h.block k (by omega) (λe=>by have:=hs k e;omega)⟩
theorem Off.after {S:Nat->Prop} {a w w':World} {B:Nat} (hb:Below B a w) (h:Off S w w') (hB:B<=w.heap.size) (hs:∀ k,S k->B<=k):Below B a w':=hb.trans (h.below hB hs)
theorem Off.cell {S:Nat->Prop} {w w':World} (h:Off S w w') {b o:Nat} (hn:¬S b) {v:Value} (hc:w.cell? ⟨b,o,none⟩=some v):w'.cell? ⟨b,o,none⟩=some v :=
 (World.cell?_of_block (w:=w) (h.block b (ze hc) hn)).trans hc
theorem Off.frozen {S:Nat->Prop} {w w':World} (h:Off S w w') {b o:Nat} (hn:¬S b) (hl:b<w.heap.size):w'.frozen? ⟨b,o,none⟩=w.frozen? ⟨b,o,none⟩ :=
 World.frozen?_of_block (w:=w) (h.block b hl hn)
theorem Off.row {S:Nat->Prop} {k:IntKind} {w w':World} {ad:Option Addr} {xs:List Int} (h:Off S w w') (hr:RowAt k w ad xs) (hn:∀ a,ad=some a->¬S a.block):RowAt k w' ad xs:=by
 rcases hr with hr|⟨b,off,h1,h2⟩
 ·exact Or.inl hr
 ·exact Or.inr ⟨b,off,h1,λj hj=>h.cell (hn _ h1) (h2 j hj)⟩
theorem Off.ownr {S:Nat->Prop} {T:TypeId} {w w':World} {base k:Nat} {v:Value} {n:Nat} {xs:List Value} (h:Off S w w') (ho:w.ownsRow base T k v n xs) (hn:∀ g,v.ownBlock=some g->¬S g):w'.ownsRow base T k v n xs:=by
 refine⟨ho.1,?_⟩;rcases ho.2 with h2|⟨g,cap,cur,hv,hB,hg,r⟩
 ·exact .inl h2
 ·refine .inr ⟨g,cap,cur,hv,hB,?_,r⟩;have hlt:g<w.heap.size:=by
   rcases Nat.lt_or_ge g w.heap.size with hlt|hge
   ·exact hlt
   ·rw[Array.getElem?_eq_none hge]at hg;cases hg
  rw[h.block g hlt (hn g (by subst hv;rfl))];exact hg
theorem Off.own {S:Nat->Prop} {k:IntKind} {T:TypeId} {w w':World} {base:Nat} {v:Value} {xs:List Int} (h:Off S w w') (ho:OwnI k T w base v xs) (hn:∀ g,v.ownBlock=some g->¬S g):OwnI k T w' base v xs:=h.ownr ho hn
theorem Off.map {S:Nat->Prop} {H:Type} {P:Program} {k:TypeId} {R:Value->Option (DataW H×List MemPlace)} {w w':World} {b n:Nat} {D:DataW H} (h:Off S w w') (ho:w.ownsMap P k R b n D) (hn:¬S b):w'.ownsMap P k R b n D:=by
 obtain⟨es,clock,hb,r⟩:=ho;have hlt:b<w.heap.size:=by
  rcases Nat.lt_or_ge b w.heap.size with hlt|hge
  ·exact hlt
  ·rw[Array.getElem?_eq_none hge]at hb;cases hb
 exact⟨es,clock,by rw[h.block b hlt hn];exact hb,r⟩
theorem Off.drewN {S:Nat->Prop} {a w:World} (h:Off S a w) (n:Nat):Off S a (w.drewN n):=h.trans (S':=λ_=>False) ⟨rfl,rfl,rfl,Nat.le_refl _,λ_ _ _=>rfl⟩ (λ_ _ e=>e.elim)
theorem Off.set {S:Nat->Prop} {a w:World} (h:Off S a w) {b o:Nat} (hb:b<a.heap.size->S b) (u:Value):Off S a (w.setCell ⟨b,o,none⟩ u) :=
 h.trans (Off.of_grown (zn w b o u)) (λk hk e=>by subst e;exact hb hk)
theorem Off.alloc {S:Nat->Prop} {a w:World} (h:Off S a w) (o:Obj):Off S a (w.alloc o) :=
 h.trans (S':=λ_=>False) (Off.of_grown (b:=w.heap.size) (World.grownBy_alloc w o _) |>.mono (λk hk e=>by subst e;omega)) (λ_ _ e=>e.elim)
theorem zkG {H:Type} {P:Program} {k:TypeId} {R:Value->Option (DataW H×List MemPlace)} {w:World} {b n:Nat} {D:DataW H} (h:w.ownsMap P k R b n D):w.ownsMap P k R b (Maps.size D) D:=by
 obtain⟨es,clock,hb,F,_,rfl⟩:=h;exact⟨es,clock,hb,F,by rw[Maps.size_eq,length_sorted];simp,rfl⟩
def zdJ (v:Value):Option (DataW Value×List MemPlace):=some (.held v,[])
end Go.Proofs.YtlodkoimdoeopaaGreatDoor
namespace Go.Proofs.YtlodkoimdoeopaaGreatDoor
def swp (h:List Int) (i j:Nat):List Int:=(h.set i (h.getD j 0)).set j (h.getD i 0)
theorem zjs (h:List Int) (i j:Nat):(swp h i j).length=h.length:=by unfold swp;simp
theorem zjM (h:List Int) (i k:Nat) (x:Int) (hi:i<h.length):(h.set i x).getD k 0=if k=i then x else h.getD k 0:=by
 rw[List.getD_eq_getElem?_getD,List.getD_eq_getElem?_getD]
 by_cases e:k=i
 ·subst e;rw[List.getElem?_set_self hi,if_pos rfl];rfl
 ·rw[List.getElem?_set_ne (λg=>e g.symm),if_neg e]
theorem zg1 (h:List Int) {i j:Nat} (hi:i<h.length) (hj:j<h.length) (k:Nat):(swp h i j).getD k 0=if k=j then h.getD i 0 else if k=i then h.getD j 0 else h.getD k 0:=by
 unfold swp;rw[zjM _ _ _ _ (by simpa using hj),zjM _ _ _ _ hi]
theorem zi5 (h:List Int) {i j:Nat} (hi:i<h.length) (hj:j<h.length):(swp h i j).Perm h:=by
 have e:swp h i j=(h.toArray.swap i j (by simpa using hi) (by simpa using hj)).toList:=by
  rw[Array.swap_def];unfold swp
  simp[List.getD_eq_getElem?_getD,List.getElem?_eq_getElem hi,List.getElem?_eq_getElem hj]
 rw[e];have:=Array.swap_perm (xs:=h.toArray) (i:=i) (j:=j) (by simpa using hi) (by simpa using hj);exact Array.perm_iff_toList_perm.1 this
def zbM (h:List Int) (n:Nat):Prop:=∀ k,0<k->k<n->h.getD ((k-1) / 2) 0<=h.getD k 0
def zkx (h:List Int) (n j:Nat):Prop:=(∀ k,0<k->k<n->k≠j->h.getD ((k-1) / 2) 0<=h.getD k 0)/\(0<j->∀ k,0<k->k<n->(k-1) / 2=j->h.getD ((j-1) / 2) 0<=h.getD k 0)
def zja (h:List Int) (n i:Nat):Prop:=(∀ k,0<k->k<n->(k-1) / 2≠i->h.getD ((k-1) / 2) 0<=h.getD k 0)/\(0<i->∀ k,0<k->k<n->(k-1) / 2=i->h.getD ((i-1) / 2) 0<=h.getD k 0)
theorem zrP {h:List Int} {n j:Nat} (hu:zkx h n j) (he:j=0\/h.getD ((j-1) / 2) 0<=h.getD j 0):zbM h n:=by
 intro k hk hn
 by_cases e:k=j
 ·subst e;rcases he with he|he
  ·omega
  ·exact he
 ·exact hu.1 k hk hn e
theorem zxd {h:List Int} {n j:Nat} (hl:n<=h.length) (hj:j<n) (h0:0<j) (hu:zkx h n j) (hlt:h.getD j 0<h.getD ((j-1) / 2) 0):zkx (swp h ((j-1) / 2) j) n ((j-1) / 2):=by
 have hp:(j-1) / 2<j:=by omega
 generalize hpe:(j-1) / 2=p at *;have hS:=zg1 h (i:=p) (j:=j) (by omega) (by omega);obtain⟨u1,u2⟩:=hu;refine⟨λk hk hn hne=>?_,λhp0 k hk hn hkp=>?_⟩
 ·rw[hS,hS]
  by_cases e:k=j
  ·subst e;rw[hpe,if_pos rfl,if_neg (by omega),if_pos rfl];omega
  ·rw[if_neg e,if_neg hne];have a:=u1 k hk hn e
   by_cases e1:(k-1) / 2=j
   ·rw[if_pos e1];have b:=u2 h0 k hk hn e1;rw[hpe]at b;exact b
   ·rw[if_neg e1]
    by_cases e2:(k-1) / 2=p
    ·rw[if_pos e2];rw[e2]at a;omega
    ·rw[if_neg e2];exact a
 ·have a:=u1 p hp0 (by omega) (by omega);rw[hS,hS,if_neg (by omega),if_neg (by omega)]
  by_cases e:k=j
  ·subst e;rw[if_pos rfl];exact a
  ·rw[if_neg e,if_neg (by omega)];have b:=u1 k hk hn e;rw[hkp]at b;omega
theorem zxC {h:List Int} {n i:Nat} (hd:zja h n i) (he:∀ k,0<k->k<n->(k-1) / 2=i->h.getD i 0<=h.getD k 0):zbM h n:=by
 intro k hk hn
 by_cases e:(k-1) / 2=i
 ·rw[e];exact he k hk hn e
 ·exact hd.1 k hk hn e
theorem zw8 {h:List Int} {n i j:Nat} (hl:n<=h.length) (hj:j<n) (h0:0<j) (hji:(j-1) / 2=i) (hd:zja h n i) (hlt:h.getD j 0<=h.getD i 0) (hm:∀ k,0<k->k<n->(k-1) / 2=i->h.getD j 0<=h.getD k 0):zja (swp h i j) n j:=by
 have hS:=zg1 h (i:=i) (j:=j) (by omega) (by omega);obtain⟨d1,d2⟩:=hd;refine⟨λk hk hn hne=>?_,λ_ k hk hn hkj=>?_⟩
 ·rw[hS,hS]
  by_cases e:k=j
  ·subst e;rw[hji,if_neg (by omega),if_pos rfl,if_pos rfl];exact hlt
  ·rw[if_neg e,if_neg hne]
   by_cases e1:(k-1) / 2=i
   ·rw[if_pos e1,if_neg (by omega)];exact hm k hk hn e1
   ·rw[if_neg e1];have a:=d1 k hk hn e1
    by_cases e2:k=i
    ·subst e2;rw[if_pos rfl];exact d2 (by omega) j h0 hj hji
    ·rw[if_neg e2];exact a
 ·rw[hS,hS,hji,if_neg (by omega),if_pos rfl,if_neg (by omega),if_neg (by omega)];have a:=d1 k hk hn (by omega);rw[hkj]at a;exact a
theorem zp5 {h:List Int} {n:Nat} (hh:zbM h n):∀ k,k<n->h.getD 0 0<=h.getD k 0:=by
 intro k
 induction k using Nat.strongRecOn with
 |ind k ih =>
  intro hn
  by_cases e:k=0
  ·subst e;exact Int.le_refl _
  ·have a:=hh k (by omega) hn;have b:=ih ((k-1) / 2) (by omega) (by omega);omega
theorem zrY {h:List Int} {n:Nat} (hn:h.length=n) (hh:zbM h n) (x:Int):zkx (h++[x]) (n+1) n:=by
 have old:∀ k,k<n->(h++[x]).getD k 0=h.getD k 0:=λk hk=>by
  rw[List.getD_eq_getElem?_getD,List.getD_eq_getElem?_getD,List.getElem?_append_left (by omega)]
 refine⟨λk hk hkn hne=>?_,λ_ k hk hkn hkp=>?_⟩
 ·rw[old k (by omega),old _ (by omega)];exact hh k hk (by omega)
 ·omega
theorem ztA {h:List Int} {n:Nat} (hn:h.length=n+1) (hh:zbM h (n+1)):zja (swp h 0 n) n 0:=by
 have hS:=zg1 h (i:=0) (j:=n) (by omega) (by omega);refine⟨λk hk hkn hne=>?_,λh0=>absurd h0 (by omega)⟩;rw[hS,hS,if_neg (by omega),if_neg (by omega),if_neg (by omega),if_neg (by omega)];exact hh k hk (by omega)
theorem zvK:zbM [] 0:=λ_ _ h=>absurd h (Nat.not_lt_zero _)
theorem zlk (h:List Int) {n k:Nat} (hk:k<n):(h.take n).getD k 0=h.getD k 0:=by
 rw[List.getD_eq_getElem?_getD,List.getD_eq_getElem?_getD,List.getElem?_take,if_pos hk]
theorem ztG {h:List Int} {n:Nat} (hh:zbM h n):zbM (h.take n) n:=by
 intro k hk hn;rw[zlk h hn,zlk h (by omega)];exact hh k hk hn
theorem zs1 {h h':List Int} {n:Nat} (hp:h'.Perm h) (he:h'.drop n=h.drop n):(h'.take n).Perm (h.take n):=by
 have a:(h'.take n++h'.drop n).Perm (h.take n++h.drop n):=by rw[List.take_append_drop,List.take_append_drop];exact hp
 rw[he]at a;exact(List.perm_append_right_iff _).1 a
theorem zuf {h:List Int} {i j n:Nat} (hi:i<n) (hj:j<n):(swp h i j).drop n=h.drop n:=by
 unfold swp;rw[List.drop_set_of_lt hj,List.drop_set_of_lt hi]
theorem zrz {h:List Int} {n:Nat} (hn:h.length=n+1):(swp h 0 n).getD n 0=h.getD 0 0/\((swp h 0 n).take n++[h.getD 0 0]).Perm h:=by
 have hS:=zg1 h (i:=0) (j:=n) (by omega) (by omega);have a:(swp h 0 n).getD n 0=h.getD 0 0:=by rw[hS,if_pos rfl]
 refine⟨a,?_⟩;have e:(swp h 0 n)=(swp h 0 n).take n++[h.getD 0 0]:=by
  have hl:(swp h 0 n).length=n+1:=by rw[zjs,hn]
  rw[←a,←List.take_append_drop n (swp h 0 n)]
  congr 1
  ·rw[List.take_append_drop]
  ·rw[List.take_append_drop,List.drop_eq_getElem_cons (by omega),List.drop_of_length_le (by omega),List.getD_eq_getElem?_getD,List.getElem?_eq_getElem (by omega)];rfl
 rw[←e];exact zi5 h (by omega) (by omega)
end Go.Proofs.YtlodkoimdoeopaaGreatDoor
namespace Go.Proofs.YtlodkoimdoeopaaGreatDoor
open Go.RowKit
theorem zm8 {r:Nat} {v:Value} {w:World} (h:w.cell? ⟨r,3,none⟩=some v):(loadVar 191 ⟨r,3,none⟩).run Tryz.prog w=.ok v w:=by
 simp[loadVar,h]
theorem zp6 (P:Program) (ts:Array TypeId) (ty:TypeId) (a:Addr) (s s':ByteArray) (w:World):(Builtin.ssaWrapNilChk_ ts ty #[.pointer (some a),.string s,.string s']).run P w=.ok (.pointer (some a)) w:=rfl
theorem zh3 {P:Program} {t e:TypeId} {name:String} {f:FuncId} (n:Nat)
  (hi:(P.info? t).map (λi=>(i.methods.find? (·.name == name)).map (λm=>(m.path,m.func)))=some (some (#[],some (f,false)))) (ht:P.underlying t=some (.pointer e)) {a:Addr} {v:Value} {w:World} (hl:(loadVar e a).run P w=.ok v w) :
  Sem.run P (method (n+1) t (.pointer (some a)) name) w=.ok (f,v) w:=by
 rcases hI:P.info? t with _|i
 ·rw[hI]at hi;cases hi
 ·rw[hI]at hi;rcases hM:i.methods.find? (·.name == name)with _|m
  ·rw[Option.map_some,hM]at hi;cases hi
  ·rw[Option.map_some,hM,Option.map_some]at hi;simp only[Option.some.injEq,Prod.mk.injEq]at hi;obtain⟨hp,hf⟩:=hi;have hT:(typeInfo t).run P w=.ok i w:=by simp[typeInfo,hI]
   simp[method,hT,hM,hp,hf,follow,receiverAt,run_underlying ht,zp6,strVal,Place.get,hl,asAddr,Result.andThen]
theorem zkI {P:Program} {t e:TypeId} {name:String} {f:FuncId} (n:Nat)
  (hi:(P.info? t).map (λi=>(i.methods.find? (·.name == name)).map (λm=>(m.path,m.func)))=some (some (#[],some (f,true)))) (ht:P.underlying t=some (.pointer e)) {a:Addr} {w:World} :
  Sem.run P (method (n+1) t (.pointer (some a)) name) w=.ok (f,.pointer (some a)) w:=by
 rcases hI:P.info? t with _|i
 ·rw[hI]at hi;cases hi
 ·rw[hI]at hi;rcases hM:i.methods.find? (·.name == name)with _|m
  ·rw[Option.map_some,hM]at hi;cases hi
  ·rw[Option.map_some,hM,Option.map_some]at hi;simp only[Option.some.injEq,Prod.mk.injEq]at hi;obtain⟨hp,hf⟩:=hi;have hT:(typeInfo t).run P w=.ok i w:=by simp[typeInfo,hI]
   simp[method,hT,hM,hp,hf,follow,receiverAt,run_underlying ht,Place.get,Result.andThen]
theorem zmp {r : Nat} {v : Value} {w : World} (h : w.cell? ⟨r, 3, none⟩ = some v) (n : Nat) : Sem.run Tryz.prog (method (n + 1) 234 (.pointer (some ⟨r, 3, none⟩)) "Len") w = .ok (271, v) w :=
 zh3 _ (by kernel_rfl) Tryz.underlying234 (zm8 h)
theorem zhW {r : Nat} {v : Value} {w : World} (h : w.cell? ⟨r, 3, none⟩ = some v) (n : Nat) : Sem.run Tryz.prog (method (n + 1) 234 (.pointer (some ⟨r, 3, none⟩)) "Less") w = .ok (272, v) w :=
 zh3 _ (by kernel_rfl) Tryz.underlying234 (zm8 h)
theorem zgd {r : Nat} {v : Value} {w : World} (h : w.cell? ⟨r, 3, none⟩ = some v) (n : Nat) : Sem.run Tryz.prog (method (n + 1) 234 (.pointer (some ⟨r, 3, none⟩)) "Swap") w = .ok (273, v) w :=
 zh3 _ (by kernel_rfl) Tryz.underlying234 (zm8 h)
theorem zsM (r : Nat) (w : World) (n : Nat) : Sem.run Tryz.prog (method (n + 1) 234 (.pointer (some ⟨r, 3, none⟩)) "Push") w = .ok (275, .pointer (some ⟨r, 3, none⟩)) w :=
 zkI _ (by kernel_rfl) Tryz.underlying234
theorem zv5 (r : Nat) (w : World) (n : Nat) : Sem.run Tryz.prog (method (n + 1) 234 (.pointer (some ⟨r, 3, none⟩)) "Pop") w = .ok (274, .pointer (some ⟨r, 3, none⟩)) w :=
 zkI _ (by kernel_rfl) Tryz.underlying234
theorem zo5:∀ args w,(callFunc 271 args).run Tryz.prog w=.ok (.enter 271 args) w:=Go.Proofs.enters_of Tryz.func271 (by kernel_rfl) rfl
theorem znl:∀ args w,(callFunc 272 args).run Tryz.prog w=.ok (.enter 272 args) w:=Go.Proofs.enters_of Tryz.func272 (by kernel_rfl) rfl
theorem zi0:∀ args w,(callFunc 273 args).run Tryz.prog w=.ok (.enter 273 args) w:=Go.Proofs.enters_of Tryz.func273 (by kernel_rfl) rfl
theorem zuA:∀ args w,(callFunc 275 args).run Tryz.prog w=.ok (.enter 275 args) w:=Go.Proofs.enters_of Tryz.func275 (by kernel_rfl) rfl
theorem zxm:∀ args w,(callFunc 274 args).run Tryz.prog w=.ok (.enter 274 args) w:=Go.Proofs.enters_of Tryz.func274 (by kernel_rfl) rfl
set_option maxHeartbeats 2000000 in
theorem zwb (ad:Option Addr) (n cap:Nat) (W:World):Calls Tryz.prog 271 #[.slice ad n cap] W λe w'=>e=.returned (.int .i64 n)/\W=w':=by
 go_enter Tryz.func271,Tryz.ntmps271
 go_wp2;go_ret;exact⟨rfl,rfl⟩
set_option maxHeartbeats 2000000 in
theorem znd (b n cap:Nat) (x y:Int) (i j:Nat) (hi:i<n) (hj:j<n) (_hn:n<=4294967296) (W:World) (ci:W.cell? ⟨b,i,none⟩=some (.int .i64 x)) (cj:W.cell? ⟨b,j,none⟩=some (.int .i64 y)) :
  Calls Tryz.prog 272 #[.slice (some ⟨b,0,none⟩) n cap,.int .i64 i,.int .i64 j] W λe w'=>e=.returned (.bool (decide (x<y)))/\Drew W w':=by
 go_enter Tryz.func272,Tryz.ntmps272
 go_wp2
 go_quiet (fail)
 go_wp2;go_ret;exact⟨rfl,nq,rfl⟩
set_option maxHeartbeats 2000000 in
theorem zms (b n cap:Nat) (x y:Int) (i j:Nat) (hi:i<n) (hj:j<n) (_hn:n<=4294967296) (W:World)
  (ci:W.cell? ⟨b,i,none⟩=some (.int .i64 x)) (cj:W.cell? ⟨b,j,none⟩=some (.int .i64 y)) (fi:W.frozen? ⟨b,i,none⟩=false) (fj:W.frozen? ⟨b,j,none⟩=false) :
  Calls Tryz.prog 273 #[.slice (some ⟨b,0,none⟩) n cap,.int .i64 i,.int .i64 j] W λe w'=>e=.returned (.tuple #[])/\∃ q,w'=((W.setCell ⟨b,i,none⟩ (.int .i64 y)).setCell ⟨b,j,none⟩ (.int .i64 x)).drewN q:=by
 obtain⟨v',hy'⟩:=cell?_setCell_some (w:=W) (p:=⟨b,i,none⟩) (x:=.int .i64 y) (q:=⟨b,j,none⟩) cj
 go_enter Tryz.func273,Tryz.ntmps273
 go_wp2
 go_region
 all_goals (try go_wp2)
 all_goals go_end0
 all_goals exact⟨rfl,1,rfl⟩
def NumAt (w:World) (r base b n cap:Nat) (h:List Int):Prop:=w.cell? ⟨r,3,none⟩=some (.slice (some ⟨b,0,none⟩) n cap)/\OwnI .i64 2 w base (.slice (some ⟨b,0,none⟩) n cap) h/\h.length=n
theorem ztC {k:IntKind} {T:TypeId} {w:World} {base:Nat} {v:Value} {xs:List Int} (h:OwnI k T w base v xs) (q:Nat):OwnI k T (w.drewN q) base v xs:=h
theorem NumAt.drewN {w:World} {r base b n cap:Nat} {h:List Int} (H:NumAt w r base b n cap h) (q:Nat):NumAt (w.drewN q) r base b n cap h:=H
theorem NumAt.swap {w:World} {r base b n cap i j:Nat} {h:List Int} (H:NumAt w r base b n cap h) (hr:r≠b) (q:Nat) :
  NumAt (((w.setCell ⟨b,i,none⟩ (.int .i64 (h.getD j 0))).setCell ⟨b,j,none⟩ (.int .i64 (h.getD i 0))).drewN q) r base b n cap (swp h i j)/\w.grownBy (((w.setCell ⟨b,i,none⟩ (.int .i64 (h.getD j 0))).setCell ⟨b,j,none⟩ (.int .i64 (h.getD i 0))).drewN q) (some b):=by
 obtain⟨h1,h2,h3⟩:=H;have g1:=zn w b i (.int .i64 (h.getD j 0));have g2:=zn (w.setCell ⟨b,i,none⟩ (.int .i64 (h.getD j 0))) b j (.int .i64 (h.getD i 0));have g:w.grownBy (((w.setCell ⟨b,i,none⟩ (.int .i64 (h.getD j 0))).setCell ⟨b,j,none⟩ (.int .i64 (h.getD i 0))).drewN q) (some b) :=
  ⟨rfl,rfl,rfl,Nat.le_trans g1.size g2.size,λk hk hne=>(g2.block k (Nat.lt_of_lt_of_le hk g1.size) hne).trans (g1.block k hk hne)⟩
 refine⟨⟨?_,?_,by rw[zjs];exact h3⟩,g⟩
 ·exact cg g (λe=>hr (Option.some.inj e)) h1
 ·refine ztC ?_ q;exact(h2.stored h3 i _).stored (by rw[List.length_set];exact h3) j _
theorem zwE (k:Nat):((k:Int)-1).tdiv 2=(((k-1) / 2:Nat):Int):=by
 by_cases h0:k=0
 ·subst h0;rfl
 ·rw[Int.tdiv_eq_ediv_of_nonneg (by omega)];omega
set_option maxHeartbeats 4000000 in
theorem zxz {r base b n cap:Nat} {h:List Int} {j:Nat} (hr:r≠b) (hj:j<n) (hn:n<=1048576) (hu:zkx h n j) (w:World) (H:NumAt w r base b n cap h) :
  Calls Tryz.prog 181 #[.iface 234 (.pointer (some ⟨r,3,none⟩)),.int .i64 j] w λe w'=>e=.returned (.tuple #[])/\∃ h',NumAt w' r base b n cap h'/\w.grownBy w' (some b)/\h'.Perm h/\zbM h' n:=by
 have eL:=znl;have eS:=zi0;have HH:=za H;have HU:=za hu;clear H hu
 go_enter Tryz.func181,Tryz.ntmps181
 go_wp2
 go_loopw [1] (λvj wr=>∃ (k:Nat) (d:List Int),vj=.int .i64 k/\k<n/\NumAt wr r base b n cap d/\w.grownBy wr (some b)/\d.Perm h/\zkx d n k) (λvj _=>(intOf vj).toNat)
 case atStart=>exact⟨j,h,rfl,hj,HH.out,zbi _ _,List.Perm.refl _,HU.out⟩
 case round =>
  obtain⟨k,d,rfl,hk,hN,hg,hp,hu⟩:=hrel;have td:=zwE k;obtain⟨p,hpe⟩:∃ p,p=(k-1) / 2:=⟨_,rfl⟩;rw[←hpe]at td;have HP:=za hpe;have HN:=za hN;have HG:=za hg;have HE:=za hp;have HV:=za hu;have hpk:p<=k:=by omega
  by_cases h0:k=0
  ·have q:((p:Int) == (k:Int))=true:=by rw[beq_iff_eq];omega
   have END:=za (⟨d,hN,hg,hp,zrP hu (Or.inl h0)⟩:∃ h',NumAt wr r base b n cap h'/\w.grownBy wr (some b)/\h'.Perm h/\zbM h' n);clear hN hg hp hu hpe;go_wp2
   go_end0
   exact⟨rfl,END.out⟩
  ·have q:((p:Int) == (k:Int))=false:=by rw[beq_eq_false_iff_ne];omega
   have mL:=zhW hN.1;have mS:=λq=>zgd (w:=wr.drewN q) hN.1
   have ck:=OwnI.cellAt hN.2.1 hN.2.2 hk;have cp:=OwnI.cellAt hN.2.1 hN.2.2 (show p<n by omega);have fk:=OwnI.frozenAt hN.2.1 hN.2.2 k;have fp:=OwnI.frozenAt hN.2.1 hN.2.2 p;have CL:=znd b n cap (d.getD k 0) (d.getD p 0) k p hk (by omega) (by omega) wr ck cp;have CS:=λq=>zms b n cap (d.getD p 0) (d.getD k 0) p k (by omega) hk (by omega) (wr.drewN q) cp ck fp fk
   have SW:=λq q2=>NumAt.swap (i:=p) (j:=k) (hN.drewN q) hr q2
   have hl:=hN.2.2;generalize hx:d.getD k 0=x at *;generalize hy:d.getD p 0=y at *
   by_cases hlt:x<y
   ·have ql:decide (x<y)=true:=decide_eq_true hlt;rw[ql]at CL;have NX:=za (zxd (j:=k) (by omega) hk (by omega) hu (by rw[hx,←hpe,hy];exact hlt));have PM:=za ((zi5 d (i:=p) (j:=k) (by omega) (by omega)).trans hp);rw[←hpe]at NX;have HSW:=za SW;clear hN hg hp hu hpe SW
    go_wp2_with (first
     |(go_at_fn 272;refine CL.mono ?_;rintro e w' ⟨rfl,q,rfl⟩)
     |(go_at_fn 273;refine(CS _).mono ?_;rintro e w' ⟨rfl,q2,rfl⟩))
    go_roundw
    case rel =>
     obtain⟨s1,s2⟩:=HSW.out q q2;exact⟨p,swp d p k,rfl,by omega,s1,⟨s2.os.trans HG.out.os,s2.tape.trans HG.out.tape,s2.output.trans HG.out.output,Nat.le_trans HG.out.size s2.size,λi hi hne=>(s2.block i (Nat.lt_of_lt_of_le hi HG.out.size) hne).trans (HG.out.block i hi hne)⟩,PM.out,NX.out⟩
    case measure =>
     have:=HP.out
     simp[intOf];omega
   ·have ql:decide (x<y)=false:=decide_eq_false hlt;rw[ql]at CL;have END:=za (λq=>(⟨d,hN.drewN q,⟨hg.os,hg.tape,hg.output,hg.size,hg.block⟩,hp,zrP hu (Or.inr (by rw[←hpe,hx,hy];omega))⟩:∃ h',NumAt (wr.drewN q) r base b n cap h'/\w.grownBy (wr.drewN q) (some b)/\h'.Perm h/\zbM h' n));clear hN hg hp hu hpe SW
    go_wp2_with (go_at_fn 272;refine CL.mono ?_;rintro e w' ⟨rfl,q,rfl⟩)
    go_end0
    exact⟨rfl,END.out q⟩
theorem zb2 {a b c:World} {row:Option Nat} (h:a.grownBy b row) (k:b.grownBy c row):a.grownBy c row:=⟨k.os.trans h.os,k.tape.trans h.tape,k.output.trans h.output,Nat.le_trans h.size k.size,λi hi hne=>(k.block i (Nat.lt_of_lt_of_le hi h.size) hne).trans (h.block i hi hne)⟩
def DnEnd (w:World) (r base b n cap m:Nat) (h:List Int) (w':World):Prop:=∃ h',NumAt w' r base b n cap h'/\w.grownBy w' (some b)/\h'.Perm h/\zbM h' m/\h'.drop m=h.drop m
theorem DnEnd.drewN {w:World} {r base b n cap m:Nat} {h:List Int} {w':World} (H:DnEnd w r base b n cap m h w') (q:Nat):DnEnd w r base b n cap m h (w'.drewN q):=by
 obtain⟨h',a,b,c⟩:=H;exact⟨h',a.drewN q,⟨b.os,b.tape,b.output,b.size,b.block⟩,c⟩
set_option maxHeartbeats 8000000 in
theorem zpU {r base b n cap m:Nat} {h:List Int} (hr:r≠b) (hmn:m<=n) (hn:n<=1048576) (hd:zja h m 0) (w:World) (H:NumAt w r base b n cap h) :
  Calls Tryz.prog 182 #[.iface 234 (.pointer (some ⟨r,3,none⟩)),.int .i64 0,.int .i64 m] w λe w'=>∃ bb,e=.returned (.bool bb)/\DnEnd w r base b n cap m h w':=by
 have eL:=znl;have eS:=zi0;have HH:=za H;have HU:=za hd;clear H hd
 go_enter Tryz.func182,Tryz.ntmps182
 go_wp2
 go_loopw [7] (λvi wr=>∃ (k:Nat) (d:List Int),vi=.int .i64 k/\k<=m/\NumAt wr r base b n cap d/\w.grownBy wr (some b)/\d.Perm h/\zja d m k/\d.drop m=h.drop m) (λvi _=>m-(intOf vi).toNat)
 case atStart=>exact⟨0,h,rfl,Nat.zero_le _,HH.out,zbi _ _,List.Perm.refl _,HU.out,rfl⟩
 case round =>
  obtain⟨k,d,rfl,hk,hN,hg,hp,hu,hdr⟩:=hrel;obtain⟨j1,hj1⟩:∃ j1,j1=2*k+1:=⟨_,rfl⟩;obtain⟨j2,hj2⟩:∃ j2,j2=j1+1:=⟨_,rfl⟩;have e1:2*(k:Int)+1=(j1:Int):=by omega
  have e2:(j1:Int)+1=(j2:Int):=by omega
  have qn:decide ((j1:Int)<0)=false:=decide_eq_false (by omega);have END:(∀ i,0<i->i<m->(i-1) / 2=k->d.getD k 0<=d.getD i 0)->Hid (DnEnd w r base b n cap m h wr):=λhe=>⟨d,hN,hg,hp,zxC hu he,hdr⟩
  have hl:=hN.2.2;have NEXT:∀ j,j<m->0<j->(j-1) / 2=k->d.getD j 0<d.getD k 0->(∀ i,0<i->i<m->(i-1) / 2=k->d.getD j 0<=d.getD i 0)->Hid (zja (swp d k j) m j/\(swp d k j).Perm h/\(swp d k j).drop m=h.drop m):=λj a b c e f =>
   ⟨zw8 (by omega) a b c hu (by omega) f,(zi5 d (by omega) (by omega)).trans hp,by rw[zuf (by omega) a];exact hdr⟩
  have HG:=za hg;have SW:=λj q q2=>za (NumAt.swap (i:=k) (j:=j) (hN.drewN q) hr q2)
  have:=λj q q' q2=>za (NumAt.swap (i:=k) (j:=j) ((hN.drewN q).drewN q') hr q2)
  have mL:=zhW hN.1;have mL1:=λq=>zhW (w:=wr.drewN q) hN.1
  have mS:=λq=>zgd (w:=wr.drewN q) hN.1
  have:=λq q'=>zgd (w:=(wr.drewN q).drewN q') hN.1
  have cA:∀ i,i<m->wr.cell? ⟨b,i,none⟩=some (.int .i64 (d.getD i 0)):=λi hi=>OwnI.cellAt hN.2.1 hl (by omega)
  have fA:∀ i,wr.frozen? ⟨b,i,none⟩=false:=λi=>OwnI.frozenAt hN.2.1 hl i
  have LESS:∀ (i j q:Nat),i<m->j<m->Calls Tryz.prog 272 #[.slice (some ⟨b,0,none⟩) n cap,.int .i64 i,.int .i64 j] (wr.drewN q) λe w'=>e=.returned (.bool (decide (d.getD i 0<d.getD j 0)))/\Drew (wr.drewN q) w':=λi j q hi hj =>
   znd b n cap _ _ i j (by omega) (by omega) (by omega) (wr.drewN q) (cA i hi) (cA j hj)
  have LESS0:∀ (i j:Nat),i<m->j<m->Calls Tryz.prog 272 #[.slice (some ⟨b,0,none⟩) n cap,.int .i64 i,.int .i64 j] wr λe w'=>e=.returned (.bool (decide (d.getD i 0<d.getD j 0)))/\Drew wr w':=λi j hi hj =>
   znd b n cap _ _ i j (by omega) (by omega) (by omega) wr (cA i hi) (cA j hj)
  have SWAP:∀ (i j q:Nat),i<m->j<m->Calls Tryz.prog 273 #[.slice (some ⟨b,0,none⟩) n cap,.int .i64 i,.int .i64 j] (wr.drewN q) λe w'=>e=.returned (.tuple #[])/\∃ q',w'=(((wr.drewN q).setCell ⟨b,i,none⟩ (.int .i64 (d.getD j 0))).setCell ⟨b,j,none⟩ (.int .i64 (d.getD i 0))).drewN q':=λi j q hi hj =>
   zms b n cap _ _ i j (by omega) (by omega) (by omega) (wr.drewN q) (cA i hi) (cA j hj) (fA i) (fA j)
  clear hN hg hp hu hdr cA fA
  by_cases hA:m<=j1
  ·have E:=END (λi _ hi he=>by omega);clear END NEXT SW LESS LESS0 SWAP mL mL1 mS;have q1:((m:Int)<=(j1:Int)):=by omega
   clear hj1 hj2;go_wp2;go_ret;exact⟨_,rfl,E.out⟩
  ·have q1:¬((m:Int)<=(j1:Int)):=by omega
   by_cases hB:j2<m
   ·have C1:=LESS0 j2 j1 hB (by omega)
    by_cases hC:d.getD j2 0<d.getD j1 0
    ·have qC:decide (d.getD j2 0<d.getD j1 0)=true:=decide_eq_true hC;simp only[qC]at C1;have MIN:=za (λi (a:0<i) (b:i<m) (c:(i-1) / 2=k)=>show d.getD j2 0<=d.getD i 0 by
      by_cases e:i=j2
      ·subst e;omega
      ·obtain rfl:i=j1:=by omega
       omega)
     have hjk:(j2-1) / 2=k:=by omega
     have C2:=λq=>LESS j2 k q (by omega) (by omega)
     have CS:=λq=>SWAP k j2 q (by omega) (by omega)
     by_cases hS:d.getD j2 0<d.getD k 0
     ·have NX:=NEXT j2 (by omega) (by omega) hjk hS MIN.out;have HSW:=SW;have qS:decide (d.getD j2 0<d.getD k 0)=true:=decide_eq_true hS;simp only[qS]at C2;clear END NEXT LESS LESS0 SWAP;have HJ:=za (And.intro hj1 (And.intro hj2 hjk));clear hj1 hj2 hjk
      go_wp2_with (first
        |(go_at_fn 272;(with_reducible refine C1.mono ?_);rintro e w' ⟨rfl,q,rfl⟩)
        |(go_at_fn 272;(with_reducible refine(C2 _).mono ?_);rintro e w' ⟨rfl,p,rfl⟩)
        |(go_at_fn 273;(with_reducible refine(CS _).mono ?_);rintro e w' ⟨rfl,q2,rfl⟩))
      obtain⟨hj1,hj2,hjk⟩:=HJ.out
      go_roundw
      case rel =>
       obtain⟨s1,s2⟩:=(HSW j2 (q+p) q2).out;obtain⟨n1,n2,n3⟩:=NX.out;exact⟨j2,swp d k j2,rfl,by omega,s1,zb2 (zb2 HG.out (zeX _ _ _)) s2,n2,n1,n3⟩
      case measure=>simp[intOf];omega
     ·have E:=END (λi a b c=>by have:=MIN.out i a b c;omega);have qS:decide (d.getD j2 0<d.getD k 0)=false:=decide_eq_false hS;simp only[qS]at C2;clear END NEXT LESS LESS0 SWAP SW hj1 hj2 hjk
      go_wp2_with (first
        |(go_at_fn 272;(with_reducible refine C1.mono ?_);rintro e w' ⟨rfl,q,rfl⟩)
        |(go_at_fn 272;(with_reducible refine(C2 _).mono ?_);rintro e w' ⟨rfl,p,rfl⟩))
      go_ret;exact⟨_,rfl,E.out.drewN (q+p)⟩
    ·have qC:decide (d.getD j2 0<d.getD j1 0)=false:=decide_eq_false hC;simp only[qC]at C1;have MIN:=za (λi (a:0<i) (b:i<m) (c:(i-1) / 2=k)=>show d.getD j1 0<=d.getD i 0 by
      by_cases e:i=j2
      ·subst e;omega
      ·obtain rfl:i=j1:=by omega
       omega)
     have hjk:(j1-1) / 2=k:=by omega
     have C2:=λq=>LESS j1 k q (by omega) (by omega)
     have CS:=λq=>SWAP k j1 q (by omega) (by omega)
     by_cases hS:d.getD j1 0<d.getD k 0
     ·have NX:=NEXT j1 (by omega) (by omega) hjk hS MIN.out;have HSW:=SW;have qS:decide (d.getD j1 0<d.getD k 0)=true:=decide_eq_true hS;simp only[qS]at C2;clear END NEXT LESS LESS0 SWAP;have HJ:=za (And.intro hj1 (And.intro hj2 hjk));clear hj1 hj2 hjk
      go_wp2_with (first
        |(go_at_fn 272;(with_reducible refine C1.mono ?_);rintro e w' ⟨rfl,q,rfl⟩)
        |(go_at_fn 272;(with_reducible refine(C2 _).mono ?_);rintro e w' ⟨rfl,p,rfl⟩)
        |(go_at_fn 273;(with_reducible refine(CS _).mono ?_);rintro e w' ⟨rfl,q2,rfl⟩))
      obtain⟨hj1,hj2,hjk⟩:=HJ.out
      go_roundw
      case rel =>
       obtain⟨s1,s2⟩:=(HSW j1 (q+p) q2).out;obtain⟨n1,n2,n3⟩:=NX.out;exact⟨j1,swp d k j1,rfl,by omega,s1,zb2 (zb2 HG.out (zeX _ _ _)) s2,n2,n1,n3⟩
      case measure=>simp[intOf];omega
     ·have E:=END (λi a b c=>by have:=MIN.out i a b c;omega);have qS:decide (d.getD j1 0<d.getD k 0)=false:=decide_eq_false hS;simp only[qS]at C2;clear END NEXT LESS LESS0 SWAP SW hj1 hj2 hjk
      go_wp2_with (first
        |(go_at_fn 272;(with_reducible refine C1.mono ?_);rintro e w' ⟨rfl,q,rfl⟩)
        |(go_at_fn 272;(with_reducible refine(C2 _).mono ?_);rintro e w' ⟨rfl,p,rfl⟩))
      go_ret;exact⟨_,rfl,E.out.drewN (q+p)⟩
   ·have MIN:=za (λi (a:0<i) (b:i<m) (c:(i-1) / 2=k)=>show d.getD j1 0<=d.getD i 0 by
     obtain rfl:i=j1:=by omega
     omega)
    have hjk:(j1-1) / 2=k:=by omega
    have C2:=LESS0 j1 k (by omega) (by omega);have CS:=λq=>SWAP k j1 q (by omega) (by omega)
    by_cases hS:d.getD j1 0<d.getD k 0
    ·have NX:=NEXT j1 (by omega) (by omega) hjk hS MIN.out;have HSW:=SW;have qS:decide (d.getD j1 0<d.getD k 0)=true:=decide_eq_true hS;simp only[qS]at C2;clear END NEXT LESS LESS0 SWAP;have HJ:=za (And.intro hj1 (And.intro hj2 hjk));clear hj1 hj2 hjk
     go_wp2_with (first
       |(go_at_fn 272;(with_reducible refine C2.mono ?_);rintro e w' ⟨rfl,q,rfl⟩)
       |(go_at_fn 273;(with_reducible refine(CS _).mono ?_);rintro e w' ⟨rfl,q2,rfl⟩))
     obtain⟨hj1,hj2,hjk⟩:=HJ.out
     go_roundw
     case rel =>
      obtain⟨s1,s2⟩:=(HSW j1 q q2).out;obtain⟨n1,n2,n3⟩:=NX.out;exact⟨j1,swp d k j1,rfl,by omega,s1,zb2 (zb2 HG.out (zeX _ _ _)) s2,n2,n1,n3⟩
     case measure=>simp[intOf];omega
    ·have E:=END (λi a b c=>by have:=MIN.out i a b c;omega);have qS:decide (d.getD j1 0<d.getD k 0)=false:=decide_eq_false hS;simp only[qS]at C2;clear END NEXT LESS LESS0 SWAP SW hj1 hj2 hjk
     go_wp2_with (go_at_fn 272;(with_reducible refine C2.mono ?_);rintro e w' ⟨rfl,q,rfl⟩)
     go_ret;exact⟨_,rfl,E.out.drewN q⟩
end Go.Proofs.YtlodkoimdoeopaaGreatDoor
