/- Parts, joined. -/
import Derived.Test.YtlodkoimdoeopaaGreatDoorQ09
import Derived.Test.YtlodkoimdoeopaaGreatDoorQ11
import Derived.Test.YtlodkoimdoeopaaGreatDoorQ07
import Derived.Test.YtlodkoimdoeopaaGreatDoorQ02
import Derived.Test.YtlodkoimdoeopaaGreatDoorQ08
import Derived.Deep.LoopGhost
import Derived.Deep.RegionHeld3
import Derived.Deep.QuietTactic
import Derived.BigQuiet
import Derived.Deep.Slices
import Derived.Deep.Fields
import Derived.ChangeSame
import Derived.OpenShut
namespace Go.Proofs.YtlodkoimdoeopaaGreatDoor
structure JobW (mo:Nat) (G:List Int) (E:Int) (ls:List Wnd):Prop where
 moves:zfE mo ls
 held:∀ l r,ls=l :: r->HeldI G E l/\E<=zau l
theorem ztx {mo:Nat} {l:Wnd} {r:List Wnd} (h:zfE mo (l :: r)):JobW mo [] l.1 (l :: r) :=
 ⟨h,λa b e=>by
  obtain⟨rfl,rfl⟩:=List.cons.inj e;exact⟨zqL l,by unfold zau;omega⟩⟩
theorem znM {E:Int} {l:Wnd} (h:max E l.1<zau l):zbo E l=max E l.1 :: zbo (max E l.1+1) l:=by
 have a:=zoN (E:=max E l.1) (j:=max E l.1) (l:=l) (by omega) h (by omega);rw[show max (max E l.1) (max E l.1)=max E l.1 by omega,show max (max E l.1) (max E l.1+1)=max E l.1+1 by omega]at a;rw[←a];unfold zbo;rw[show max (max E l.1) l.1=max E l.1 by omega]
theorem zn6 {E:Int} {l:Wnd} (h:zau l<=max E l.1):zbo E l=[]:=by
 unfold zbo;rw[show(zau l-max E l.1).toNat=0 by omega];rfl
theorem zmS {E y:Int} {l:Wnd} {r:List Wnd} (h:max E l.1<zau l):zaB E y (l :: r)=(1,max E l.1) :: zaB (max E l.1+1) y (l :: r):=by
 show(zbo E l).map _++_=_ :: ((zbo (max E l.1+1) l).map _++_)
 rw[znM h,show zeL (max E l.1+1) l=zeL E l from by unfold zeL;omega];rfl
theorem zoG {E y:Int} {l:Wnd} {r:List Wnd} (h:zau l<=max E l.1):zaB E y (l :: r)=(2,y) :: zaB (zeL E l) (y+1) r:=by
 show(zbo E l).map _++_=_
 rw[zn6 h];rfl
theorem JobW.filter {mo:Nat} {G:List Int} {E:Int} {l:Wnd} {r:List Wnd} (h:JobW mo G E (l :: r)) (hj:max E l.1<zau l):JobW mo (G++[max E l.1]) (max E l.1+1) (l :: r):=by
 refine⟨h.moves,λa b e=>?_⟩;obtain⟨rfl,rfl⟩:=List.cons.inj e;obtain⟨⟨h1,h2,h3⟩,_⟩:=h.held l r rfl;refine⟨⟨zsU h1 (λx hx=>by have:=h2 x hx;omega),λx hx=>?_,λi i1 i2=>?_⟩,by omega⟩
 ·rcases List.mem_append.1 hx with hx|hx
  ·have:=h2 x hx;omega
  ·rw[List.mem_singleton]at hx;omega
 ·by_cases e:i=max E l.1
  ·rw[e];exact List.mem_append_right _ (List.mem_singleton.2 rfl)
  ·exact List.mem_append_left _ (h3 i i1 (by omega))
theorem JobW.written {mo:Nat} {G:List Int} {E:Int} {l:Wnd} {r:List Wnd} (h:JobW mo G E (l :: r)) (hj:zau l<=max E l.1):JobW mo G (zeL E l) r:=by
 obtain⟨h0,h1,h2,h3⟩:=h.moves;obtain⟨⟨k1,k2,k3⟩,k4⟩:=h.held l r rfl;refine⟨h3,λm s e=>?_⟩;have hm:=h2 m (by rw[e];exact List.mem_cons_self ..);have hE:zau l<=E:=by unfold zau at *;omega
 unfold zeL;rw[show max E (zau l)=E by omega];exact⟨⟨k1,k2,λj a b=>k3 j (by omega) b⟩,by omega⟩
theorem JobW.has {mo:Nat} {G:List Int} {E:Int} {l:Wnd} {r:List Wnd} (h:JobW mo G E (l :: r)) {j:Int} (h1:l.1<=j) (_h2:j<zau l):j ∈ zch mo G↔j<E:=by
 obtain⟨⟨k1,k2,k3⟩,k4⟩:=h.held l r rfl
 constructor
 ·exact λhj=>k2 j (ze1 hj)
 ·intro hj;refine zuF k1 k2 (k3 j h1 hj) ?_;have:=h.moves.2.1;unfold zau at *;omega
theorem JobW.last {mo:Nat} {G:List Int} {E:Int} {l:Wnd} {r:List Wnd} (h:JobW mo G E (l :: r)):∀ x ∈ G,x<max E l.1:=λx hx=>by
 have:=(h.held l r rfl).1.below x hx;omega
theorem JobW.rise {mo:Nat} {G:List Int} {E:Int} {l:Wnd} {r:List Wnd} (h:JobW mo G E (l :: r)):zgQ G:=(h.held l r rfl).1.rise
theorem zj4 {E y:Int} {ls:List Wnd}:zaB E y ls=[]↔ls=[]:=by
 constructor
 ·intro h
  cases ls with
  |nil=>rfl
  |cons l r =>
   have:=congrArg List.length h;rw[zhC,List.length_cons,List.length_nil]at this;omega
 ·rintro rfl;rfl
theorem zoe {E y:Int} {l:Wnd} {r:List Wnd}:(zaB E y (l :: r)).length=(zau l-max E l.1).toNat+1+(zaB (zeL E l) (y+1) r).length:=by
 show((zbo E l).map _++_ :: _).length=_
 rw[List.length_append,List.length_map,List.length_cons,zgJ];omega
end Go.Proofs.YtlodkoimdoeopaaGreatDoor
namespace Go.Proofs.YtlodkoimdoeopaaGreatDoor
open Go.RowKit
def zxo (K:World->Prop) (T:World->Value->Int->List (Int×List Int)->Prop):Prop:=∀ (f n m:Int),-9223372036854775808<=f->f<=9223372036854775807->-9223372036854775808<=n->n<=9223372036854775807->-9223372036854775808<=m->m<=9223372036854775807->∀ w:World,K w ->
 Calls Tryz.prog 102 #[.int .i64 f,.int .i64 n,.int .i64 m] w λe w'=>∃ v,e=.returned (.tuple #[v,.int .i64 (zO f n m)])/\(zO f n m=0->T w' v n (zt f n m m.toNat))/\(zO f n m≠0->v=.pointer none)/\Below w.heap.size w w'
def zw6 (K:World->Prop) (T:World->Value->Int->List (Int×List Int)->Prop):Prop:=∀ (xs:List Int) (ad:Option Addr) (cap:Nat) (n:Int) (w:World),K w->RowAt .i64 w ad xs->zad xs->xs.length<=9223372036854775807->-9223372036854775808<=n->n<=9223372036854775807 ->
 Calls Tryz.prog 104 #[.slice ad xs.length cap,.int .i64 n] w λe w'=>∃ v,e=.returned (.tuple #[v,.int .i64 (zA xs n)])/\(zA xs n=0->T w' v n (zQ xs n.toNat))/\(zA xs n≠0->v=.pointer none)/\Below w.heap.size w w'
def zx8 (K:World->Prop) (f:FuncId):Prop:=∀ w:World,K w->Calls Tryz.prog f #[] w λe w'=>e=.returned (.bool true)/\Below w.heap.size w w'
theorem zxK:zO 0 4 2=0/\zt 0 4 2 2=[(0,[8192,8192]),(2,[8192,8192])]/\zav [(0,[8192,8192]),(2,[8192,8192])] 0 2=(0,4,true):=by decide +kernel
theorem zyn (w:World) (a b:Int) (t:TypeId):RowAt .i64 (w.alloc (.cells #[.int .i64 a,.int .i64 b] t)) (some ⟨w.heap.size,0,none⟩) [a,b]:=by
 refine Or.inr ⟨w.heap.size,0,rfl,λj hj=>?_⟩
 match j,hj with
 |0,_=>simp
 |1,_=>simp
theorem zor (x:Int) (ad:Option Addr) (n c:Nat):∀ w:World,(Instr.field 103 (.agg #[.int .i64 x,.slice ad n c]) 0).run Tryz.prog w=.ok (.int .i64 x) w:=λ_=>by kernel_rfl
theorem zl9 (n m i:Int):zbt n m (i+1)=zbt n m i+2*n:=by
 unfold zbt;rw[show 2*(i+1)+1=(2*i+1)+2 by omega,Int.add_mul];omega
theorem zvg {f n m i:Int} (n0:1<=n) (m0:1<=m):zbL f n m i<=zbL f n m (i+1)/\zci f n m i<=zci f n m (i+1):=by
 unfold zbL zci;rw[zl9];exact⟨Int.ediv_le_ediv (by omega) (by omega),Int.ediv_le_ediv (by omega) (by omega)⟩
def zfh (L:List (Int×List Int)):Prop:=∀ j,j+1<L.length->(zf L j).1<=(zf L (j+1)).1/\(zf L j).1+((zf L j).2.length:Int)<=(zf L (j+1)).1+((zf L (j+1)).2.length:Int)
theorem zaU (xs:List Int):(zG xs).length=xs.length:=by
 unfold zG;rw[(ze2 _ _ _).1,zfx]
theorem zn8 {f n:Int} {m:Nat} (f0:0<=f) (f1:f<=2) (n0:1<=n) (n1:n<=65536) (m1:m<=65536):zfh (zt f n m m):=by
 intro j hj;rw[zaq]at hj;have e:∀ i:Nat,i<m->zf (zt f n m m) i=zbQ f n m i:=λi hi=>zcS _ hi
 rw[e j (by omega),e (j+1) (by omega)];have en:∀ i:Nat,i<m->(zbQ f n m i).1+((zbQ f n m i).2.length:Int)=zci f n m i+1:=by
  intro i hi;have hM:zdf f n m i:=⟨f0,f1,n0,n1,by omega,by omega,by omega,by omega⟩;have:=zcX hM
  show za4 f n m i+((zG (zbg f n m i)).length:Int)=_
  rw[zaU,zbE];unfold za4 zcb;omega
 rw[en j (by omega),en (j+1) (by omega)];obtain⟨a,b⟩:=zvg (f:=f) (n:=n) (m:=(m:Int)) (i:=(j:Int)) n0 (by omega);refine⟨?_,?_⟩
 ·show zbL f n m j+1<=zbL f n m ((j+1:Nat):Int)+1
  rw[show((j+1:Nat):Int)=(j:Int)+1 by omega];omega
 ·rw[show((j+1:Nat):Int)=(j:Int)+1 by omega];omega
theorem zoB {L:List (Int×List Int)} {i k:Int} (o:Nat) (h:(o:Int)<=i):zaf L i k o=(0,0,false):=by
 induction o with
 |zero=>rfl
 |succ o ih =>
  unfold zaf;rw[if_pos (Or.inl (by omega))];exact ih (by omega)
theorem zoF {L:List (Int×List Int)} {i k:Int} (a d:Nat) (h:k<=(a:Int)):zaf L i k (a+d)=zaf L i k a:=by
 induction d with
 |zero=>rfl
 |succ d ih =>
  have s:zaf L i k (a+(d+1))=if((a+d:Nat):Int)<i\/k<=((a+d:Nat):Int) then zaf L i k (a+d) else zdy (zaf L i k (a+d)) (zf L (a+d)).1 (zf L (a+d)).2.length:=rfl;rw[s,if_pos (Or.inr (by omega)),ih]
theorem zf3 {f n:Int} {m:Nat} (h:zO f n m=0) (hB:zdO f n m=true) {j:Nat} (hj:j<m):Fits (zbg f n m j):=by
 unfold zO at h;rw[if_pos hB,Int.toNat_natCast]at h;exact zap.1 (zkm h hj).1
theorem zu2 {f n:Int} {m:Nat} (h:zO f n m=0) (hB:zdO f n m=true) {j:Nat} (hj:j<m) :
  (zbQ f n m j).2.sum=16384/\∀ t,t<(zbQ f n m j).2.length->-67108864<=(zbQ f n m j).2.getD t 0/\(zbQ f n m j).2.getD t 0<=67108865:=by
 have F:=zf3 h hB hj;obtain⟨e1,e2,e3,_⟩:=zdF F;refine⟨e2,λt ht=>?_⟩;have ht':t<(zbg f n m j).length:=by rw[←e1];exact ht
 have hs:zaa ((zbg f n m j).getD t 0):=by
  rw[List.getD_eq_getElem?_getD,List.getElem?_eq_getElem ht'];exact F.small _ (List.getElem_mem ht')
 obtain⟨q0,q1,_⟩:=zbJ (s:=zr (zbg f n m j)) F.s0 hs
 show -67108864<=(zG (zbg f n m j)).getD t 0/\(zG (zbg f n m j)).getD t 0<=67108865
 rcases e3 t ht' with e|⟨e,_⟩<;>rw[e]<;>omega
theorem zpO {l:List Int} (h:Fits l):∀ x ∈ zG l,-67108865<=x/\x<=67108865:=by
 obtain⟨len,_,each,_⟩:=zdF h;refine zi1 λj hj=>?_
 rw[len]at hj;have q:=zbJ h.s0 (zbk h.small hj);rcases each j hj with e|⟨e,_⟩<;>omega
theorem zis {l:List Int} (h:Fits l):zad (zG l):=by
 intro j hj;have hm:(zG l).getD j 0 ∈ zG l:=by
  rw[List.getD_eq_getElem?_getD,List.getElem?_eq_getElem hj];exact List.getElem_mem hj
 have:=zpO h _ hm;omega
theorem zuy {f n:Int} {m:Nat} (h:zO f n m=0) (hB:zdO f n m=true):zby (zt f n m m):=by
 intro j hj;rw[zaq]at hj;rw[show zf (zt f n m m) j=zbQ f n m j from zcS _ hj];have hF:=zf3 h hB hj;obtain⟨f0,f1,⟨n0,n1⟩,m0,m1⟩:=(zdr f n m).1 hB;have hM:zdf f n m j:=⟨f0,f1,n0,n1,by omega,by omega,by omega,by omega⟩;obtain⟨a,b,c,d⟩:=zgW hM;refine⟨?_,?_,?_,?_,zis hF⟩
 ·show _<=za4 f n m j;omega
 ·show za4 f n m j<=_;omega
 ·show 1<=(zG (zbg f n m j)).length;rw[zaU,zbE];exact c
 ·show(zG (zbg f n m j)).length<=_;rw[zaU,zbE];omega
theorem zel {xs:List Int} {k j:Nat} (h:j<k):zf (zQ xs k) j=zii xs j:=zcS _ h
theorem zxT {xs:List Int} (h:Fits xs) {k:Nat} (hk:k<=65536):zby (zQ xs k):=by
 intro j hj;rw[zar]at hj;rw[zel hj];have h2:=zis h;obtain⟨h0,h1,_⟩:=h;refine⟨?_,?_,?_,?_,h2⟩
 ·show _<=(j:Int)-((xs.length / 2:Nat):Int);omega
 ·show(j:Int)-((xs.length / 2:Nat):Int)<=_;omega
 ·show 1<=(zG xs).length;rw[zaU];exact h0
 ·show(zG xs).length<=_;rw[zaU];exact h1
theorem zr7 (xs:List Int) (k:Nat):zfh (zQ xs k):=by
 intro j hj;rw[zar]at hj;rw[zel (show j<k by omega),zel hj];refine⟨?_,?_⟩
 ·show(j:Int)-((xs.length / 2:Nat):Int)<=((j+1:Nat):Int)-((xs.length / 2:Nat):Int);omega
 ·show(j:Int)-((xs.length / 2:Nat):Int)+((zG xs).length:Int)<=((j+1:Nat):Int)-((xs.length / 2:Nat):Int)+((zG xs).length:Int);omega
theorem zna {L:List (Int×List Int)} {ts:List Int} (h:∀ j,j<L.length->(zf L j).2=ts) (h0:1<=L.length):zaL L=(ts.length:Int)/\zdW L=zP ts:=by
 have e:∀ o,o<=L.length->zbh L o=(if o=0 then 0 else(ts.length:Int))/\zdV L o=(if o=0 then 0 else zP ts):=by
  intro o ho
  induction o with
  |zero=>exact⟨rfl,rfl⟩
  |succ o ih =>
   obtain⟨a,b⟩:=ih (by omega);have s:zbh L (o+1)=max (zbh L o) ((zf L o).2.length:Int):=rfl;have t:zdV L (o+1)=max (zdV L o) (zP (zf L o).2):=rfl;have z:=(zdB ts).1;rw[s,t,a,b,h o (by omega),if_neg (show o+1≠0 by omega),if_neg (show o+1≠0 by omega)]
   constructor
   ·split<;>omega
   ·split<;>omega
 obtain⟨a,b⟩:=e L.length (Nat.le_refl _);rw[if_neg (show L.length≠0 by omega)]at a b;exact⟨a,b⟩
theorem zub (xs:List Int) {k:Nat} (h:1<=k):zaL (zQ xs k)=(xs.length:Int)/\zdW (zQ xs k)=zP (zG xs):=by
 have:=zna (L:=zQ xs k) (ts:=zG xs) (λj hj=>by rw[zar]at hj;rw[zel hj];rfl) (by rw[zar];exact h);rw[zaU]at this;exact this
theorem zrs {L:List (Int×List Int)} {i k:Int} (h:min k (L.length:Int)<=max i 0):zav L i k=(0,0,false):=by
 have e:∀ o,o<=L.length->zaf L i k o=(0,0,false):=by
  intro o ho
  induction o with
  |zero=>rfl
  |succ o ih =>
   unfold zaf;rw[if_pos (by omega)];exact ih (by omega)
 exact e _ (Nat.le_refl _)
theorem zqx {L:List (Int×List Int)} (hM:zfh L) {i k:Int} {p q:Nat} (hp:(p:Int)=max i 0) (hq:(q:Int)+1=min k (L.length:Int)) (h:p<=q) :
  zav L i k=((zf L p).1,(zf L q).1+((zf L q).2.length:Int),true):=by
 have e0:zaf L i k p=(0,0,false):=by
  by_cases g:i<=0
  ·obtain rfl:p=0:=by omega
   rfl
  ·exact zoB p (by omega)
 have e:∀ d,p+d<=q->zaf L i k (p+d+1)=((zf L p).1,(zf L (p+d)).1+((zf L (p+d)).2.length:Int),true)/\(zf L p).1<=(zf L (p+d)).1:=by
  intro d hd
  induction d with
  |zero =>
   refine⟨?_,Int.le_refl _⟩
   show(if(p:Int)<i\/k<=(p:Int) then _ else _)=_
   rw[if_neg (by omega),show p+0=p from rfl,e0];rfl
  |succ d ih =>
   obtain⟨a,b⟩:=ih (by omega);obtain⟨m0,m1⟩:=hM (p+d) (by omega);have s:zaf L i k (p+(d+1)+1)=if((p+d+1:Nat):Int)<i\/k<=((p+d+1:Nat):Int) then zaf L i k (p+d+1) else zdy (zaf L i k (p+d+1)) (zf L (p+d+1)).1 (zf L (p+d+1)).2.length:=rfl;rw[s,if_neg (by omega),a];refine⟨?_,by show _<=(zf L (p+d+1)).1;omega⟩
   show(min (zf L p).1 (zf L (p+d+1)).1,max ((zf L (p+d)).1+((zf L (p+d)).2.length:Int)) ((zf L (p+d+1)).1+((zf L (p+d+1)).2.length:Int)),true)=_
   rw[Int.min_eq_left (by omega),Int.max_eq_right m1];rfl
 obtain⟨a,_⟩:=e (q-p) (by omega);rw[show p+(q-p)=q by omega]at a;unfold zav;obtain⟨d,hd⟩:∃ d,L.length=q+1+d:=⟨L.length-(q+1),by omega⟩;rw[hd]
 by_cases g:k<=((q+1:Nat):Int)
 ·rw[zoF (q+1) d g];exact a
 ·obtain rfl:d=0:=by omega
  exact a
theorem zk7 {f n m:Int} (h:zO f n m=0) {j:Nat} (hj:j<m.toNat):(zf (zt f n m m.toNat) j).2.sum=16384:=by
 have hB:zdO f n m=true:=by
  cases hb:zdO f n m
  ·unfold zO at h;rw[if_neg (by rw[hb];decide)]at h;omega
  ·rfl
 have e:m=(m.toNat:Int):=by
  have:=((zdr f n m).1 hB).2.2.2;omega
 rw[show zf (zt f n m m.toNat) j=zbQ f n m j from zcS _ hj];rw[e]at h hB ⊢;exact(zu2 h hB hj).1
theorem zpw {xs:List Int} {n:Int} (h:zA xs n=0) {k j:Nat} (hj:j<k):(zf (zQ xs k) j).2.sum=16384:=by
 rw[zel hj];unfold zA at h
 split at h
 ·split at h
  ·omega
  ·exact(zdF (zap.1 h)).2.1
 ·omega
theorem zfG {o:Opr} {w h:Int} (hz:zC o w h=0):okO o w h=true/\zex o w=0/\zeE o h=0:=by
 unfold zC at hz
 split at hz
 ·omega
 ·split at hz
  ·omega
  ·split at hz
   ·omega
   ·exact⟨by simpa using(by assumption:¬okO o w h=false),by omega,hz⟩
theorem zpf {o:Opr} {w h:Int} (hz:zC o w h=0):(∀ j,j<(zj o w h).lx.length->(zf (zj o w h).lx j).2.sum=16384)/\∀ j,j<(zj o w h).ly.length->(zf (zj o w h).ly j).2.sum=16384:=by
 obtain⟨_,hx,hy⟩:=zfG hz
 show(∀ j,j<(zcf o w).length->(zf (zcf o w) j).2.sum=16384)/\∀ j,j<(zbK o h).length->(zf (zbK o h) j).2.sum=16384
 unfold zex at hx;unfold zeE at hy;unfold zcf zbK
 by_cases hk:o.kd=3
 ·rw[if_pos hk]at hx hy ⊢;rw[if_pos hk];refine⟨λj hj=>?_,λj hj=>?_⟩
  ·rw[zaq]at hj;exact zk7 hx hj
  ·rw[zaq]at hj;exact zk7 hy hj
 ·rw[if_neg hk]at hx hy ⊢;rw[if_neg hk];refine⟨λj hj=>?_,λj hj=>?_⟩
  ·rw[zar]at hj;exact zpw hx hj
  ·rw[zar]at hj;exact zpw hy hj
def zqN (I:Im) (v:Int):Prop:=∀ x ∈ I.il,x=v
theorem zo1 {I:Im} {v:Int} (h:zqN I v) {x y z:Int} (hx:zbl I x y z=true) (hl:(zL I x y z).toNat<I.il.length):zbe I x y z=v:=by
 unfold zbe;rw[if_pos hx,List.getD_eq_getElem?_getD,List.getElem?_eq_getElem hl];exact h _ (List.getElem_mem hl)
theorem zvn {I:Im} {S:Stg} (hI:zay I) (hs:zaY I S=true) (x y:Nat) {c:Int} (c0:0<=c) (c1:c<I.ic) (i k:Nat) :
  zbl I (atF S.sb ((zf S.lx x).1+(i:Int)) I.iw) (atF S.sb ((zf S.ly y).1+(k:Int)) I.ih) c=true/\(zL I (atF S.sb ((zf S.lx x).1+(i:Int)) I.iw) (atF S.sb ((zf S.ly y).1+(k:Int)) I.ih) c).toNat<I.il.length:=by
 obtain⟨a0,a1,b0,b1,hc,t0,t1,m,hl,_⟩:=hI;unfold zaY at hs;simp only[Bool.and_eq_true,decide_eq_true_eq]at hs;obtain⟨⟨_,s0⟩,s1⟩:=hs;have ex:=znr (p:=S.sb) (n:=I.iw) (j:=(zf S.lx x).1+(i:Int)) ⟨s0,s1,a0,a1⟩;have ey:=znr (p:=S.sb) (n:=I.ih) (j:=(zf S.ly y).1+(k:Int)) ⟨s0,s1,b0,b1⟩;have p:=zi9 (a:=I.iw) (b:=I.ih) (c:=I.ic) ex.1 ex.2 ey.1 ey.2 c0 c1;refine⟨zcP.2 ⟨ex.1,ex.2,ey.1,ey.2,c0,c1⟩,?_⟩;unfold zL;omega
theorem zt0 {I:Im} {S:Stg} {v:Int} (hI:zay I) (hs:zaY I S=true) (hf:zqN I v) (v0:0<=v) (v1:v<=I.it) (hx:∀ j,j<S.lx.length->(zf S.lx j).2.sum=16384) (hy:∀ j,j<S.ly.length->(zf S.ly j).2.sum=16384):zqN (zI I S) v:=by
 intro u hu;obtain⟨k,hk,rfl⟩:=List.mem_map.1 hu;have hk2:=List.mem_range.1 hk;obtain⟨_,_,_,_,hc,_,t1,_,_,_⟩:=id hI;have C0:0<I.ic.toNat:=by omega
 have q1:k / I.ic.toNat<S.ly.length*S.lx.length:=Nat.div_lt_of_lt_mul (by rw[Nat.mul_comm];exact hk2);have W0:0<S.lx.length:=by
  rcases Nat.eq_zero_or_pos S.lx.length with e|e
  ·rw[e,Nat.mul_zero]at q1;exact absurd q1 (Nat.not_lt_zero _)
  ·exact e
 unfold zbs zbA;rw[zrK (v:=v) (hx _ (Nat.mod_lt _ W0)) (hy _ (Nat.div_lt_of_lt_mul (by rw[Nat.mul_comm];exact q1))) (λi k'=>?_)]
 ·exact zpF v0 v1 t1
 ·have cm:=Nat.mod_lt k C0;have h:=zvn hI hs (k / I.ic.toNat % S.lx.length) (k / I.ic.toNat / S.lx.length) (c:=((k % I.ic.toNat:Nat):Int)) (by omega) (by omega) i k';exact zo1 hf h.1 h.2
theorem zuY {X D B:Int} (hD:0<D) (hB:B<=1099511627776) (h0 : -(B*D)<=X) (h1:X<=B*D):2*X-D<=2*(D*zN X D)/\2*(D*zN X D)<=2*X+D/\-(B+1)<=zN X D/\zN X D<=B+1:=by
 obtain⟨n0,n1⟩:=znI (X:=X) hD;have a:zaC X D<=B+1:=by
  by_cases g:zaC X D<=B+1
  ·exact g
  ·have:=Int.mul_le_mul_of_nonneg_left (show B+2<=zaC X D by omega) (show 0<=D by omega);rw[Int.mul_add,Int.mul_comm D B]at this;omega
 have b : -(B+1)<=zaC X D:=by
  by_cases g : -(B+1)<=zaC X D
  ·exact g
  ·have:=Int.mul_le_mul_of_nonneg_left (show zaC X D<=-(B+2) by omega) (show 0<=D by omega);rw[Int.mul_neg,Int.mul_add,Int.mul_comm D B]at this;omega
 rw[zck (by omega),zH (by omega) (by omega)];omega
def zaZ (ts:List Int):Nat->Int
 |0=>0
 |k+1=>zaZ ts k+zi (ts.getD k 0)
theorem zq0 (ts:List Int) (n:Nat):0<=zaZ ts n:=by
 induction n with
 |zero=>exact Int.le_refl _
 |succ n ih=>have:=za6 (ts.getD n 0);show 0<=zaZ ts n+_;omega
theorem zgc (ts:List Int) {m n:Nat} (h:m<=n):zaZ ts m<=zaZ ts n:=by
 induction n with
 |zero=>rw[show m=0 by omega];exact Int.le_refl _
 |succ n ih =>
  by_cases e:m=n+1
  ·rw[e];exact Int.le_refl _
  ·have:=ih (by omega);have:=za6 (ts.getD n 0)
   show _<=zaZ ts n+_
   omega
theorem zo9 (ts:List Int) (B:Int) (n:Nat) (h:∀ j,j<n->-B<=ts.getD j 0/\ts.getD j 0<=B):zaZ ts n<=(n:Int)*B:=by
 induction n with
 |zero=>exact Int.le_of_eq (Int.zero_mul B).symm
 |succ n ih =>
  have a:=ih (λj hj=>h j (by omega));have b:=h n (by omega);have c:zi (ts.getD n 0)<=B:=by unfold zi;split<;>omega
  have e:((n+1:Nat):Int)*B=(n:Int)*B+B:=by rw[show((n+1:Nat):Int)=(n:Int)+1 by omega,Int.add_mul,Int.one_mul]
  show zaZ ts n+_<=_
  omega
theorem zvZ (ts:List Int) (n:Nat) (hn:n<=ts.length) (h:∀ j,j<n->0<=ts.getD j 0):zaZ ts n=(ts.take n).sum:=by
 induction n with
 |zero=>rfl
 |succ n ih =>
  have a:=ih (by omega) (λj hj=>h j (by omega));have b:=h n (by omega);have c:zi (ts.getD n 0)=ts.getD n 0:=zaJ b
  show zaZ ts n+_=_
  rw[a,c,List.take_succ_eq_append_getElem (by omega),List.sum_append,List.sum_singleton,List.getD_eq_getElem?_getD,List.getElem?_eq_getElem (by omega)];rfl
theorem zkT {t f M:Int} (h0 : -M<=f) (h1:f<=M) : -(zi t*M)<=t*f/\t*f<=zi t*M:=by
 by_cases g:t<0
 ·rw[zaS g];have a:=Int.mul_le_mul_of_nonneg_left h1 (show 0<=-t by omega);have b:=Int.mul_le_mul_of_nonneg_left h0 (show 0<=-t by omega);rw[Int.neg_mul]at a b;rw[Int.mul_neg]at b;rw[Int.neg_mul]at a b ⊢;omega
 ·rw[zaJ (by omega)];have a:=Int.mul_le_mul_of_nonneg_left h1 (show 0<=t by omega);have b:=Int.mul_le_mul_of_nonneg_left h0 (show 0<=t by omega);rw[Int.mul_neg]at b;omega
theorem zpk {ts:List Int} {f:Nat->Int} {M:Int} (n:Nat) (h:∀ i,i<n->-M<=f i/\f i<=M) : -(zaZ ts n*M)<=zq ts f n/\zq ts f n<=zaZ ts n*M:=by
 induction n with
 |zero=>simp[zq,zaZ]
 |succ n ih =>
  obtain⟨a,b⟩:=ih (λi hi=>h i (by omega));obtain⟨c,d⟩:=h n (by omega);have:=zkT (t:=ts.getD n 0) c d
  show -((zaZ ts n+zi (ts.getD n 0))*M)<=zq ts f n+_*f n/\zq ts f n+_*f n<=(zaZ ts n+zi (ts.getD n 0))*M
  rw[Int.add_mul];omega
def zaj (ts:List Int):Prop:=zaZ ts ts.length<=8388608
def zet (L:List (Int×List Int)):Prop:=∀ j,j<L.length->zaj (zf L j).2
def zib (L:List (Int×List Int)):Prop:=∀ j,j<L.length->-1048576<=(zf L j).1/\(zf L j).1+((zf L j).2.length:Int)<=2097152
def zcF (S:Stg):Prop:=zet S.lx/\zet S.ly/\zib S.lx
theorem ze4:zaj []:=by unfold zaj zaZ;decide
theorem zjo {L:List (Int×List Int)} (h:zet L) (j:Nat):zaj (zf L j).2:=by
 by_cases g:j<L.length
 ·exact h j g
 ·rw[zmW (by omega)];exact ze4
theorem zgb {ts:List Int} (h:zaj ts) {f:Nat->Int} {n:Nat} (hn:n<=ts.length) (hf:∀ i,i<n->0<=f i/\f i<=65535) : -549747425280<=zq ts f n/\zq ts f n<=549747425280:=by
 have a:=zpk (ts:=ts) (f:=f) (M:=65535) n (λi hi=>⟨by have:=hf i hi;omega,(hf i hi).2⟩);have b:=zgc ts hn;have c:=zq0 ts n;unfold zaj at h;have d:=Int.mul_le_mul_of_nonneg_right (show zaZ ts n<=8388608 by omega) (show(0:Int)<=65535 by decide);omega
theorem zhJ {ts:List Int} (h:zaj ts) {f:Nat->Int} {n:Nat} (hn:n<=ts.length) (hf:∀ i,i<n->-549747425280<=f i/\f i<=549747425280) : -4611615649683210240<=zq ts f n/\zq ts f n<=4611615649683210240:=by
 have a:=zpk (ts:=ts) (f:=f) (M:=549747425280) n hf;have b:=zgc ts hn;have c:=zq0 ts n;unfold zaj at h;have d:=Int.mul_le_mul_of_nonneg_right (show zaZ ts n<=8388608 by omega) (show(0:Int)<=549747425280 by decide);omega
theorem zkR {l:List Int} (hF:Fits l) (h:∀ j,j<l.length->-1075000000<=l.getD j 0/\l.getD j 0<=1075000000) (hl:l.length<=127):zaj (zG l):=by
 obtain⟨e1,_,e3,_⟩:=zdF hF;have s0:=hF.s0;have each:∀ j,j<(zG l).length->-65614<=(zG l).getD j 0/\(zG l).getD j 0<=65614:=by
  intro j hj;have hj':j<l.length:=by rw[←e1];exact hj
  obtain⟨x0,x1⟩:=h j hj';have sm:zaa (l.getD j 0):=⟨by omega,by omega⟩;obtain⟨_,_,r0,r1⟩:=zbJ s0 sm;have q0 : -65613<=zae (zr l) (l.getD j 0):=by
   by_cases g : -65613<=zae (zr l) (l.getD j 0)
   ·exact g
   ·exfalso
    have:=Int.mul_le_mul_of_nonneg_right (show zae (zr l) (l.getD j 0)<=-65614 by omega) (show 0<=zr l by omega);omega
  have q1:zae (zr l) (l.getD j 0)<=65613:=by
   by_cases g:zae (zr l) (l.getD j 0)<=65613
   ·exact g
   ·exfalso
    have:=Int.mul_le_mul_of_nonneg_right (show 65614<=zae (zr l) (l.getD j 0) by omega) (show 0<=zr l by omega);omega
  rcases e3 j hj' with e|⟨e,_⟩<;>rw[e]<;>omega
 have a:=zo9 (zG l) 65614 (zG l).length each;unfold zaj;rw[e1]at a ⊢;omega
theorem ze9 {l:List Int} (hF:Fits l) (h:∀ j,j<l.length->0<=l.getD j 0):zaj (zG l):=by
 obtain⟨e1,e2,e3,_⟩:=zdF hF;have s0:=hF.s0;have each:∀ j,j<(zG l).length->0<=(zG l).getD j 0:=by
  intro j hj;have hj':j<l.length:=by rw[←e1];exact hj
  have x0:=h j hj';have sm:zaa (l.getD j 0):=zbk hF.small hj';obtain⟨_,_,r0,r1⟩:=zbJ s0 sm;have q0:0<=zae (zr l) (l.getD j 0):=by
   by_cases g:0<=zae (zr l) (l.getD j 0)
   ·exact g
   ·exfalso
    have:=Int.mul_le_mul_of_nonneg_right (show zae (zr l) (l.getD j 0)<=-1 by omega) (show 0<=zr l by omega);omega
  rcases e3 j hj' with e|⟨e,_⟩<;>rw[e]<;>omega
 unfold zaj;rw[zvZ _ _ (Nat.le_refl _) each,List.take_of_length_le (Nat.le_refl _),e2]
 decide
def opV (o:Opr) (ax:Option Addr) (cx:Nat) (ay:Option Addr) (cy:Nat):Value :=
 .agg #[.int .i64 o.kd,.int .i64 o.bd,.int .i64 o.sg,.int .i64 o.rd,.slice ax o.xs.length cx,.slice ay o.ys.length cy,.int .i64 o.fl,.int .i64 o.wd,.int .i64 o.ht]
def zaz (x:Int):Prop := -9223372036854775808<=x/\x<=9223372036854775807
structure OpFits (o:Opr):Prop where
 kd:zaz o.kd
 bd:zaz o.bd
 sg:zaz o.sg
 rd:zaz o.rd
 fl:zaz o.fl
 wd:zaz o.wd
 ht:zaz o.ht
 xs:AllK .i64 o.xs
 ys:AllK .i64 o.ys
 lx:o.xs.length<=maxLen
 ly:o.ys.length<=maxLen
theorem AllK.all {xs:List Int} (h:AllK .i64 xs):zad xs:=λ_ hj=>zuQ h hj
def OpAt (w:World) (o:Opr) (ax:Option Addr) (cx:Nat) (ay:Option Addr) (cy:Nat):Prop:=RowAt .i64 w ax o.xs/\RowAt .i64 w ay o.ys/\(ax=none->cx=0)/\(ay=none->cy=0)
theorem OpAt.below {w w':World} {o:Opr} {ax ay:Option Addr} {cx cy:Nat} (h:OpAt w o ax cx ay cy) (hb:Below w.heap.size w w'):OpAt w' o ax cx ay cy:=⟨h.1.below hb,h.2.1.below hb,h.2.2⟩
def OpIn (w:World) (b q:Nat) (o:Opr):Prop :=
 w.cell? ⟨b,q,none⟩=some (.int .i64 o.kd)/\w.cell? ⟨b,q+1,none⟩=some (.int .i64 o.bd)/\w.cell? ⟨b,q+2,none⟩=some (.int .i64 o.sg)/\w.cell? ⟨b,q+3,none⟩=some (.int .i64 o.rd) /\
 w.cell? ⟨b,q+6,none⟩=some (.int .i64 o.fl)/\w.cell? ⟨b,q+7,none⟩=some (.int .i64 o.wd)/\w.cell? ⟨b,q+8,none⟩=some (.int .i64 o.ht) /\
 ∃ ax cx ay cy,w.cell? ⟨b,q+4,none⟩=some (.slice ax o.xs.length cx)/\w.cell? ⟨b,q+5,none⟩=some (.slice ay o.ys.length cy)/\OpAt w o ax cx ay cy
theorem OpIn.below {w w':World} {b q:Nat} {o:Opr} (h:OpIn w b q o) (hb:Below w.heap.size w w'):OpIn w' b q o:=by
 obtain⟨h0,h1,h2,h3,h6,h7,h8,ax,cx,ay,cy,h4,h5,ha⟩:=h;have hl:=ze h0;exact⟨cb hb hl h0,cb hb hl h1,cb hb hl h2,cb hb hl h3,cb hb hl h6,cb hb hl h7,cb hb hl h8,ax,cx,ay,cy,cb hb hl h4,cb hb hl h5,ha.below hb⟩
def OpsAt (w:World) (ad:Option Addr) (L:List Opr):Prop :=
 L=[]\/∃ b off,ad=some ⟨b,off,none⟩/\∀ j,j<L.length->OpIn w b (off+j*9) (zh L j)
def zfV (L:List Opr):Prop:=∀ j,j<L.length->OpFits (zh L j)
theorem OpsAt.get {w:World} {ad:Option Addr} {L:List Opr} (h:OpsAt w ad L) {j:Nat} (hj:j<L.length):∃ b off,ad=some ⟨b,off,none⟩/\OpIn w b (off+j*9) (zh L j):=by
 rcases h with rfl|⟨b,off,h1,h2⟩
 ·exact absurd hj (Nat.not_lt_zero _)
 ·exact⟨b,off,h1,h2 j hj⟩
theorem OpsAt.below {w w':World} {ad:Option Addr} {L:List Opr} (h:OpsAt w ad L) (hb:Below w.heap.size w w'):OpsAt w' ad L:=by
 rcases h with h|⟨b,off,h1,h2⟩
 ·exact Or.inl h
 ·exact Or.inr ⟨b,off,h1,λj hj=>(h2 j hj).below hb⟩
theorem zeK {x:Int} (h:(Lit.int .i64 x).wf=true):zaz x:=by
 simpa [zaz,Lit.wf,IntKind.min,IntKind.max,IntKind.signed,IntKind.bits] using h
theorem zjU {H:Type} {enc:TypeId×Value->H} {w:World} {base:Nat} {held:Bool} {fuel:Nat} {v:Value} {x:DataW H×List MemPlace}
  (h:DataW.trod enc Tryz.prog w base (λ_=>true) held fuel 28 [v]=some x):∃ (xs:List Int) (ad:Option Addr) (cap:Nat),v=.slice ad xs.length cap/\RowAt .i64 w ad xs/\AllK .i64 xs/\xs.length<=maxLen/\(ad=none->cap=0):=by
 rcases Go.ChangeShapes.open_ints Tryz.underlying28 Tryz.underlying2 (by kernel_rfl) h with⟨hcs,_⟩|⟨x,l,c,zs,hcs,_,hl,hm,hz,_,hcell,hwz⟩
 ·obtain rfl:v=.slice none 0 0:=by simpa using hcs
  exact⟨[],none,0,rfl,Or.inl rfl,λn hn=>(by cases hn),Nat.zero_le _,λ_=>rfl⟩
 ·obtain rfl:v=.slice (some x) l c:=by simpa using hcs
  obtain⟨xs,e,a,b,d,f⟩:=znu (.inr ⟨x,zs,rfl,hl,hm,by simpa using hz,hcell,hwz⟩);subst e;exact⟨xs,_,_,rfl,a,b,d,f⟩
set_option maxRecDepth 100000 in
theorem zvy {H:Type} {enc:TypeId×Value->H} {w:World} {base:Nat} {held:Bool} {fuel:Nat} {cs:List Value} {x:DataW H×List MemPlace}
  (h:DataW.trod enc Tryz.prog w base (λ_=>true) held fuel 31 cs=some x) (h9:cs.length=9):∃ (o:Opr) (ax:Option Addr) (cx:Nat) (ay:Option Addr) (cy:Nat),
   cs=[.int .i64 o.kd,.int .i64 o.bd,.int .i64 o.sg,.int .i64 o.rd,.slice ax o.xs.length cx,.slice ay o.ys.length cy,.int .i64 o.fl,.int .i64 o.wd,.int .i64 o.ht]/\OpAt w o ax cx ay cy/\OpFits o:=by
 obtain⟨ys,n',_,_,hlen,hyl,hf⟩:=DataW.trod_struct Tryz.underlying31 h;have k1:Tryz.prog.cellsOf 3=1:=by kernel_rfl
 have k2:Tryz.prog.cellsOf 2=1:=by kernel_rfl
 have k3:Tryz.prog.cellsOf 26=1:=by kernel_rfl
 have k4:Tryz.prog.cellsOf 27=1:=by kernel_rfl
 have k5:Tryz.prog.cellsOf 29=1:=by kernel_rfl
 have k6:Tryz.prog.cellsOf 28=1:=by kernel_rfl
 match cs,h9 with
 |[c0,c1,c2,c3,c4,c5,c6,c7,c8],_ =>
  have hy:ys.length=9:=hyl
  match ys,hy with
  |[y0,y1,y2,y3,y4,y5,y6,y7,y8],_ =>
   have f0:DataW.trod enc Tryz.prog w base (λ_=>true) held n' 26 (List.take (Tryz.prog.cellsOf 26) (List.drop 0 [c0,c1,c2,c3,c4,c5,c6,c7,c8]))=some y0:=hf 0 _ rfl;have f1:DataW.trod enc Tryz.prog w base (λ_=>true) held n' 27 (List.take (Tryz.prog.cellsOf 27) (List.drop 1 [c0,c1,c2,c3,c4,c5,c6,c7,c8]))=some y1:=hf 1 _ rfl;have f2:DataW.trod enc Tryz.prog w base (λ_=>true) held n' 2 (List.take (Tryz.prog.cellsOf 2) (List.drop 2 [c0,c1,c2,c3,c4,c5,c6,c7,c8]))=some y2:=hf 2 _ rfl;have f3:DataW.trod enc Tryz.prog w base (λ_=>true) held n' 3 (List.take (Tryz.prog.cellsOf 3) (List.drop 3 [c0,c1,c2,c3,c4,c5,c6,c7,c8]))=some y3:=hf 3 _ rfl;have f4:DataW.trod enc Tryz.prog w base (λ_=>true) held n' 28 (List.take (Tryz.prog.cellsOf 28) (List.drop 4 [c0,c1,c2,c3,c4,c5,c6,c7,c8]))=some y4:=hf 4 _ rfl;have f5:DataW.trod enc Tryz.prog w base (λ_=>true) held n' 28 (List.take (Tryz.prog.cellsOf 28) (List.drop 5 [c0,c1,c2,c3,c4,c5,c6,c7,c8]))=some y5:=hf 5 _ rfl;have f6:DataW.trod enc Tryz.prog w base (λ_=>true) held n' 29 (List.take (Tryz.prog.cellsOf 29) (List.drop 6 [c0,c1,c2,c3,c4,c5,c6,c7,c8]))=some y6:=hf 6 _ rfl;have f7:DataW.trod enc Tryz.prog w base (λ_=>true) held n' 3 (List.take (Tryz.prog.cellsOf 3) (List.drop 7 [c0,c1,c2,c3,c4,c5,c6,c7,c8]))=some y7:=hf 7 _ rfl;have f8:DataW.trod enc Tryz.prog w base (λ_=>true) held n' 3 (List.take (Tryz.prog.cellsOf 3) (List.drop 8 [c0,c1,c2,c3,c4,c5,c6,c7,c8]))=some y8:=hf 8 _ rfl;rw[k3]at f0;rw[k4]at f1;rw[k2]at f2;rw[k1]at f3 f7 f8;rw[k6]at f4 f5;rw[k5]at f6;obtain⟨x0,q0,_,w0⟩:=DataW.trod_int Tryz.underlying26 f0;obtain⟨x1,q1,_,w1⟩:=DataW.trod_int Tryz.underlying27 f1;obtain⟨x2,q2,_,w2⟩:=DataW.trod_int Tryz.underlying2 f2;obtain⟨x3,q3,_,w3⟩:=DataW.trod_int Tryz.underlying3 f3;obtain⟨x6,q6,_,w6⟩:=DataW.trod_int Tryz.underlying29 f6;obtain⟨x7,q7,_,w7⟩:=DataW.trod_int Tryz.underlying3 f7;obtain⟨x8,q8,_,w8⟩:=DataW.trod_int Tryz.underlying3 f8;simp at q0 q1 q2 q3 q6 q7 q8;subst q0 q1 q2 q3 q6 q7 q8;obtain⟨xs,ax,cx,rfl,r4,a4,l4,z4⟩:=zjU f4;obtain⟨zs,ay,cy,rfl,r5,a5,l5,z5⟩:=zjU f5;exact⟨⟨x0,x1,x2,x3,xs,zs,x6,x7,x8⟩,ax,cx,ay,cy,rfl,⟨r4,r5,z4,z5⟩,zeK w0,zeK w1,zeK w2,zeK w3,zeK w6,zeK w7,zeK w8,a4,a5,l4,l5⟩
set_option maxRecDepth 100000 in
theorem zpm {H:Type} {enc:TypeId×Value->H} {w:World} {r:Reach} {b0 base:Nat} {held:Bool} {v:Value} {d:DataW H} {p:List MemPlace}
  (hv:Value.okWide Tryz.prog w r b0 31 v) (h:DataW.Trod enc Tryz.prog w base (λ_=>true) held 31 v d p):∃ (o:Opr) (ax:Option Addr) (cx:Nat) (ay:Option Addr) (cy:Nat),v=opV o ax cx ay cy/\OpAt w o ax cx ay cy/\OpFits o:=by
 obtain⟨cs,rfl,hsz⟩:=Go.WideShapes.okWide_struct Tryz.underlying31 hv;obtain⟨n,hn⟩:=h;have hC:Tryz.prog.cellsOf 31=9:=by kernel_rfl
 rw[hC]at hsz;obtain⟨o,ax,cx,ay,cy,e,a,b⟩:=zvy hn (by simpa [Value.cells] using hsz);obtain⟨l⟩:=cs;simp only[Value.cells]at e;subst e;exact⟨o,ax,cx,ay,cy,rfl,a,b⟩
def zlO (us:List (List Value)) (j i:Nat):Value:=(us.getD j []).getD i undef
def OwnRec (T:TypeId) (k:Nat) (w:World) (base:Nat) (v:Value) (us:List (List Value)):Prop:=w.ownsRow base T k v us.length us.flatten/\∀ u ∈ us,u.length=k
theorem zlY {k:Nat}:∀ {us:List (List Value)},(∀ u ∈ us,u.length=k)->∀ {j i:Nat},j<us.length->i<k->us.flatten[j*k+i]?=some (zlO us j i)
 |[],_,_,_,h,_=>absurd h (Nat.not_lt_zero _)
 |u :: us,hu,0,i,_,hi=>by
  have e:=hu u List.mem_cons_self;rw[Nat.zero_mul,Nat.zero_add,List.flatten_cons,List.getElem?_append_left (by omega),List.getElem?_eq_getElem (by omega)]
  show _=some (u.getD i undef)
  rw[List.getD_eq_getElem?_getD,List.getElem?_eq_getElem (by omega)];rfl
 |u :: us,hu,j+1,i,hj,hi=>by
  have e:=hu u List.mem_cons_self;have ih:=zlY (λv hv=>hu v (List.mem_cons_of_mem _ hv)) (j:=j) (i:=i) (by simpa using hj) hi;rw[List.flatten_cons,List.getElem?_append_right (by rw[e,Nat.add_mul];omega),e,show(j+1)*k+i-k=j*k+i by rw[Nat.add_mul];omega];exact ih
theorem OwnRec.nil (T:TypeId) (k:Nat) (w:World) (base:Nat):OwnRec T k w base (.slice none 0 0) []:=⟨World.ownsRow_nil _ _ _ _,λ_ h=>by cases h⟩
theorem zfy {T:TypeId} {w w':World} {base k:Nat} {v:Value} {n:Nat} {xs:List Value} (h:w.ownsRow base T k v n xs) (hb:Below w.heap.size w w'):w'.ownsRow base T k v n xs:=by
 refine⟨h.1,?_⟩;rcases h.2 with h2|⟨g,cap,cur,hv,hB,hg,r⟩
 ·exact .inl h2
 ·refine .inr ⟨g,cap,cur,hv,hB,?_,r⟩;have hlt:g<w.heap.size:=by
   rcases Nat.lt_or_ge g w.heap.size with hlt|hge
   ·exact hlt
   ·rw[Array.getElem?_eq_none hge]at hg;cases hg
  rw[hb.block g hlt];exact hg
theorem OwnRec.below {T:TypeId} {k:Nat} {w w':World} {base:Nat} {v:Value} {us:List (List Value)} (h:OwnRec T k w base v us) (hb:Below w.heap.size w w'):OwnRec T k w' base v us:=⟨zfy h.1 hb,h.2⟩
theorem OwnRec.mono {T:TypeId} {k:Nat} {w:World} {base base':Nat} {v:Value} {us:List (List Value)} (h:OwnRec T k w base v us) (hb:base'<=base):OwnRec T k w base' v us:=⟨zha h.1 hb,h.2⟩
theorem OwnRec.more {T:TypeId} {k:Nat} {w:World} {base n:Nat} {v:Value} {us:List (List Value)} {u:List Value} (hu:∀ x ∈ us,x.length=k) (hk:u.length=k) (hn:us.length+1=n) (h:w.ownsRow base T k v n (us.flatten++u)):OwnRec T k w base v (us++[u]):=by
 subst hn;refine⟨?_,λx hx=>?_⟩
 ·rw[List.length_append,List.flatten_append]
  simpa using h
 ·rcases List.mem_append.1 hx with hx|hx
  ·exact hu x hx
  ·rw[List.mem_singleton]at hx;rw[hx];exact hk
theorem OwnRec.read {T:TypeId} {k:Nat} {w:World} {base:Nat} {v:Value} {us:List (List Value)} (h:OwnRec T k w base v us) (h0:us≠[]) :
  ∃ g cap,v=.slice (some ⟨g,0,none⟩) us.length cap/\base<=g/\g<w.heap.size/\us.length<=cap/\∀ j,j<us.length->∀ i,i<k->w.cell? ⟨g,j*k+i,none⟩=some (zlO us j i):=by
 obtain⟨h2,h3⟩:=h;have hl:0<us.length:=List.length_pos_iff.2 h0;obtain⟨g,cap,hv,hB,hlt,hc⟩:∃ g cap,v=.slice (some ⟨g,0,none⟩) us.length cap/\base<=g/\g<w.heap.size/\us.length<=cap:=by
  rcases h2.2 with⟨_,h0⟩|⟨g,cap,cur,hv,hB,hg,hn,_⟩
  ·omega
  ·refine⟨g,cap,hv,hB,?_,hn⟩;rcases Nat.lt_or_ge g w.heap.size with hlt|hge
   ·exact hlt
   ·rw[Array.getElem?_eq_none hge]at hg;cases hg
 subst hv;refine⟨g,cap,rfl,hB,hlt,hc,λj hj i hi=>?_⟩;have e1:=World.ownsRow.cells h2 (g:=g) rfl _ _ (zlY h3 hj hi);rw[zeO,Nat.zero_add]at e1;exact e1
theorem OwnRec.form {T:TypeId} {k:Nat} {w:World} {base n:Nat} {v:Value} {us:List (List Value)} (h:OwnRec T k w base v us) (hn:us.length=n):∃ ad cap,v=.slice ad n cap/\n<=cap/\(ad=none->cap=0):=by
 subst hn;rcases h.1.2 with⟨hv,h0⟩|⟨g,cap,cur,hv,_,_,hn,_⟩
 ·exact⟨none,0,by rw[hv,h0],by omega,λ_=>rfl⟩
 ·exact⟨_,cap,hv,hn,λe=>by cases e⟩
theorem zmC (w:World) (l:List Value) (t:TypeId):∀ j x,l[j]?=some x->(w.alloc (.cells l.toArray t)).cell? ((⟨w.heap.size,0,none⟩:Addr).add j)=some x:=by
 intro j x h;rw[zeO,Nat.zero_add];unfold World.cell?;rw[heap_alloc_new]
 simp[h]
theorem zsg (o:Opr) (ax:Option Addr) (cx:Nat) (ay:Option Addr) (cy:Nat) (w:World) :
  Calls Tryz.prog 120 #[opV o ax cx ay cy] w λe w'=>e=.returned (opV o ax cx ay cy)/\Below w.heap.size w w':=by
 unfold opV;obtain⟨kd,bd,sg,rd,xs,ys,fl,wd,ht⟩:=o;simp only;generalize xs.length=nx at *;generalize ys.length=ny at *
 go_enter Tryz.func120,Tryz.ntmps120
 go_wp2;exact bodyPost_ret (v:=.agg #[.int .i64 kd,.int .i64 bd,.int .i64 sg,.int .i64 rd,.slice ax nx cx,.slice ay ny cy,.int .i64 fl,.int .i64 wd,.int .i64 ht]) (by simp[results,Tryz.results120,go_sem]) rfl ⟨rfl,ba (zg _ _) _⟩
def zdc (s:Int) (o:Opr):Prop:=40<o.xs.length\/40<o.ys.length\/(262144<o.sg/\o.sg<=4194304)\/(20<o.rd/\o.rd<512)\/(s<o.wd/\o.wd<=65536)\/(s<o.ht/\o.ht<=65536)
def zcj (s:Int) (L:List Opr):Nat->Bool
 |0=>false
 |k+1=>zcj s L k || (decide (40<(zh L k).xs.length) || decide (40<(zh L k).ys.length) || decide (262144<(zh L k).sg/\(zh L k).sg<=4194304) || decide (20<(zh L k).rd/\(zh L k).rd<512) || decide (s<(zh L k).wd/\(zh L k).wd<=65536) || decide (s<(zh L k).ht/\(zh L k).ht<=65536))
theorem zf9 (s:Int) (L:List Opr) (k:Nat):zcj s L (k+1)=true↔zcj s L k=true\/zdc s (zh L k):=by
 show(zcj s L k || _)=true↔_
 unfold zdc;simp only[Bool.or_eq_true,decide_eq_true_eq,or_assoc]
theorem zjL {s:Int} {L:List Opr} {k:Nat} (h:zcj s L k=true) {n:Nat} (hk:k<=n):zcj s L n=true:=by
 induction n with
 |zero=>rw[←Nat.le_zero.1 hk];exact h
 |succ n ih =>
  rcases Nat.lt_or_ge n k with q|q
  ·rw[show n+1=k by omega];exact h
  ·exact(zf9 s L n).2 (.inl (ih q))
theorem zkE {s:Int} {L:List Opr} {n:Nat} (h:zcj s L n=false) {k:Nat} (hk:k<n):¬zdc s (zh L k):=by
 intro q;have:=zjL ((zf9 s L k).2 (.inr q)) hk;rw[h]at this
 cases this
theorem zw1:(Tryz.prog.info? 183).map (λi=>(i.zero,i.size,i.bytes))=some (some (.agg #[.int .i64 0,.int .i64 0,.int .i64 0,.int .i64 0,.slice none 0 0,.slice none 0 0,.int .i64 0,.int .i64 0,.int .i64 0]),9,104):=by kernel_rfl
def zee (o:Opr) (ax:Option Addr) (cx:Nat) (ay:Option Addr) (cy:Nat):List Value :=
 [.int .i64 o.kd,.int .i64 o.bd,.int .i64 o.sg,.int .i64 o.rd,.slice ax o.xs.length cx,.slice ay o.ys.length cy,.int .i64 o.fl,.int .i64 o.wd,.int .i64 o.ht]
theorem zoI (o:Opr) (ax:Option Addr) (cx:Nat) (ay:Option Addr) (cy:Nat):∀ u ∈ zee o ax cx ay cy,u.oneCell'=true:=by
 intro u hu;unfold zee at hu;simp only[List.mem_cons,List.not_mem_nil,or_false]at hu;rcases hu with rfl|rfl|rfl|rfl|rfl|rfl|rfl|rfl|rfl<;>rfl
def RefsSo (T:TypeId) (B:Nat) (w0 w:World) (L:List Opr) (k:Nat) (v:Value):Prop :=
 ∃ us,us.length=k/\OwnRec T 9 w B v us/\∀ j,j<k->∃ ax cx ay cy,us.getD j []=zee (zh L j) ax cx ay cy/\OpAt w0 (zh L j) ax cx ay cy
theorem RefsSo.ops {T:TypeId} {B:Nat} {w0 w:World} {L:List Opr} {k:Nat} {v:Value} (h:RefsSo T B w0 w L k v) (hk:L.length=k) (hb:Below w0.heap.size w0 w):∃ ad cap,v=.slice ad k cap/\OpsAt w ad L/\(ad=none->cap=0):=by
 obtain⟨us,hu,ho,hc⟩:=h
 by_cases e:us=[]
 ·subst e;obtain⟨ad,cap,rfl,_,z⟩:=ho.form rfl;have hk0:k=0:=by simpa using hu.symm
  subst hk0;exact⟨ad,cap,rfl,.inl (List.eq_nil_of_length_eq_zero hk),z⟩
 ·obtain⟨g,cap,rfl,_,_,_,hr⟩:=ho.read e;rw[hu];refine⟨_,cap,rfl,.inr ⟨g,0,rfl,λj hj=>?_⟩,λe=>by cases e⟩;obtain⟨ax,cx,ay,cy,hcell,ha⟩:=hc j (by omega);have R:=hr j (by omega);unfold zlO at R;rw[hcell]at R;rw[Nat.zero_add];exact⟨R 0 (by decide),R 1 (by decide),R 2 (by decide),R 3 (by decide),R 6 (by decide),R 7 (by decide),R 8 (by decide),ax,cx,ay,cy,R 4 (by decide),R 5 (by decide),ha.below hb⟩
theorem RefsSo.more {T:TypeId} {B:Nat} {w0 w2:World} {L:List Opr} {k:Nat} {us:List (List Value)} {v':Value} {ax ay:Option Addr} {cx cy:Nat} (hu:us.length=k) (h9:∀ x ∈ us,x.length=9)
  (hc:∀ j,j<k->∃ ax cx ay cy,us.getD j []=zee (zh L j) ax cx ay cy/\OpAt w0 (zh L j) ax cx ay cy) (ha:OpAt w0 (zh L k) ax cx ay cy) (own:w2.ownsRow B T 9 v' (k+1) (us.flatten++zee (zh L k) ax cx ay cy)):RefsSo T B w0 w2 L (k+1) v':=by
 refine⟨us++[zee (zh L k) ax cx ay cy],by rw[List.length_append,hu];rfl,OwnRec.more h9 rfl (by rw[hu]) own,λj hj=>?_⟩
 by_cases e:j=k
 ·subst e;refine⟨ax,cx,ay,cy,?_,ha⟩;rw[←hu,List.getD_eq_getElem?_getD,List.getElem?_append_right (Nat.le_refl _),Nat.sub_self];rfl
 ·obtain⟨a,b,c,d,h1,h2⟩:=hc j (by omega);refine⟨a,b,c,d,?_,h2⟩;rw[List.getD_eq_getElem?_getD,List.getElem?_append_left (by omega),←List.getD_eq_getElem?_getD];exact h1
set_option maxHeartbeats 4000000 in
set_option maxRecDepth 100000 in
theorem zp8 (L:List Opr) (n:Nat) (hn:L.length=n) (h1:n<=1000) (ad:Option Addr) (cap:Nat) (w:World) (hr:OpsAt w ad L) :
  Calls Tryz.prog 78 #[.slice ad n cap] w λe w'=>∃ ad' cap',e=.returned (.slice ad' n cap')/\OpsAt w' ad' L/\(ad'=none->cap'=0)/\Below w.heap.size w w':=by
 have HR:=za hr;have HN:=za hn;obtain⟨i0,hi,hz0,hz1,hz2⟩:=info_parts zw1;clear hr hn
 go_enter Tryz.func78,Tryz.ntmps78
 go_wp2
 go_loopw [3,8] (λv i wr=>∃ k:Nat,k<=n/\i=.int .i64 (k:Int)/\RefsSo 183 w.heap.size w wr L k v/\Below w.heap.size w wr) (λ_ i _=>n-(intOf i).toNat)
 case atStart=>exact⟨0,by omega,rfl,⟨[],rfl,OwnRec.nil _ _ _ _,λj hj=>absurd hj (Nat.not_lt_zero _)⟩,Below.refl _ _⟩
 case round =>
  obtain⟨k,hk,rfl,hs,hb⟩:=hrel;have HB:=za hb;have HS:=za hs
  by_cases hlt:k<n
  ·obtain⟨us,hu,⟨ho,h9⟩,hc⟩:=hs;have HO:=za ho;have HMO:=za (fun(w2:World) (v':Value) (ax ay:Option Addr) (cx cy:Nat) (ha:OpAt w (zh L k) ax cx ay cy) (own:w2.ownsRow w.heap.size 183 9 v' (k+1) (us.flatten++zee (zh L k) ax cx ay cy))=>RefsSo.more hu h9 hc ha own);have HU:=za hu;obtain⟨b,off,rfl,h⟩:=HR.out.get (show k<L.length by rw[HN.out];exact hlt);obtain⟨g0,g1,g2,g3,g6,g7,g8,ax,cx,ay,cy,g4,g5,ga⟩:=h;have h0:=cb hb (ze g0) g0;have h1:=cb hb (ze g0) g1;have h2:=cb hb (ze g0) g2;have h3:=cb hb (ze g0) g3;have h4:=cb hb (ze g0) g4;have h5:=cb hb (ze g0) g5;have h6:=cb hb (ze g0) g6;have h7:=cb hb (ze g0) g7;have h8:=cb hb (ze g0) g8;have HGA:=za ga;have CR:=λw'=>zsg (zh L k) ax cx ay cy w'
   unfold opV at CR;have ONE:=zoI (zh L k) ax cx ay cy;have s0:=hb.size;clear ho h9 hc hu hb g0 g1 g2 g3 g4 g5 g6 g7 g8 ga HS;unfold zee at HMO ONE;have HONE:=za ONE;clear ONE;generalize (zh L k).kd=kd at *;generalize (zh L k).bd=bd at *;generalize (zh L k).sg=sg at *;generalize (zh L k).rd=rd at *;generalize (zh L k).xs.length=nx at *;generalize (zh L k).ys.length=ny at *;generalize (zh L k).fl=fl at *;generalize (zh L k).wd=wd at *;generalize (zh L k).ht=ht at *
   go_wp2_with (first
    |(go_at_call 120;(with_reducible refine(CR _).mono ?_);rintro e w3 ⟨rfl,b3⟩;have s3:=b3.size;simp at s3)
    |(at_builtin;refine wpList_append_own _ rfl _ _ 138 rfl w.heap.size 183 i0 (.agg #[.int .i64 0,.int .i64 0,.int .i64 0,.int .i64 0,.slice none 0 0,.slice none 0 0,.int .i64 0,.int .i64 0,.int .i64 0]) 9 104 Tryz.underlying138 hi hz0 hz1 hz2 rfl (by decide) _ _ _ rfl (World.ownsRow.alloc (zfy (zfy HO.out (zg _ _)) b3) _) ⟨w3.heap.size,0,none⟩ 1 1 [.int .i64 kd,.int .i64 bd,.int .i64 sg,.int .i64 rd,.slice ax nx cx,.slice ay ny cy,.int .i64 fl,.int .i64 wd,.int .i64 ht] rfl rfl (zmC _ _ _) HONE.out (by rw[HU.out];unfold maxLen;omega) (by rw[HU.out];omega) (by simp;omega) ?_;intro v' w4 own4 grow4 _;rw[HU.out]at own4))
   have B4:Below w.heap.size w w4:=(ba (bt (ba HB.out _) b3) _).grown grow4 (by simp;omega) (λg hg=>(World.ownsRow.lt HO.out g hg).1);have M4:=za (HMO.out _ _ _ _ _ _ HGA.out own4);have HB4:=za B4;clear own4 grow4 B4;go_wp2
   go_roundw
   case rel=>exact⟨k+1,by omega,by go_num,M4.out,HB4.out⟩
   case measure=>simp[intOf];omega
  ·obtain rfl:k=n:=by omega
   obtain⟨ad',cap',rfl,ho,hz⟩:=hs.ops HN.out hb;have HA:=za (And.intro ho (And.intro hz hb));clear hs hb ho hz HS;go_wp2;go_ret;exact⟨_,_,rfl,HA.out.1,HA.out.2.1,HA.out.2.2⟩
end Go.Proofs.YtlodkoimdoeopaaGreatDoor
