/- Parts, joined. -/
import Derived.Test.YtlodkoimdoeopaaGreatDoorP13
import Derived.Test.YtlodkoimdoeopaaGreatDoorP12
import Derived.Test.YtlodkoimdoeopaaGreatDoorP08
import Derived.Test.YtlodkoimdoeopaaGreatDoorP02
import Derived.Test.YtlodkoimdoeopaaGreatDoorP09
import Derived.Deep.Slices
import Derived.Deep.Fields
import Derived.ChangeSame
import Derived.OpenShut
import Derived.Deep.LoopGhost
import Derived.Maps.OwnSet
namespace Go.Proofs.YtlodkoimdoeopaaGreatDoor
open Go.RowKit
def zaZ (ts:List Int):Nat->Int
 |0=>0
 |k+1=>zaZ ts k+zi (ts.getD k 0)
theorem zp6 (ts:List Int) (n:Nat):0<=zaZ ts n:=by
 induction n with
 |zero=>exact Int.le_refl _
 |succ n ih=>have:=zbc (ts.getD n 0);show 0<=zaZ ts n+_;omega
theorem zgl (ts:List Int) {m n:Nat} (h:m<=n):zaZ ts m<=zaZ ts n:=by
 induction n with
 |zero=>rw[show m=0 by omega];exact Int.le_refl _
 |succ n ih =>
  by_cases e:m=n+1
  ·rw[e];exact Int.le_refl _
  ·have:=ih (by omega);have:=zbc (ts.getD n 0)
   show _<=zaZ ts n+_
   omega
theorem zpd (ts:List Int) (B:Int) (n:Nat) (h:∀ j,j<n->-B<=ts.getD j 0/\ts.getD j 0<=B):zaZ ts n<=(n:Int)*B:=by
 induction n with
 |zero=>exact Int.le_of_eq (Int.zero_mul B).symm
 |succ n ih =>
  have a:=ih (λj hj=>h j (by omega));have b:=h n (by omega);have c:zi (ts.getD n 0)<=B:=by unfold zi;split<;>omega
  have e:((n+1:Nat):Int)*B=(n:Int)*B+B:=by rw[show((n+1:Nat):Int)=(n:Int)+1 by omega,Int.add_mul,Int.one_mul]
  show zaZ ts n+_<=_
  omega
theorem zv4 (ts:List Int) (n:Nat) (hn:n<=ts.length) (h:∀ j,j<n->0<=ts.getD j 0):zaZ ts n=(ts.take n).sum:=by
 induction n with
 |zero=>rfl
 |succ n ih =>
  have a:=ih (by omega) (λj hj=>h j (by omega));have b:=h n (by omega);have c:zi (ts.getD n 0)=ts.getD n 0:=zaG b
  show zaZ ts n+_=_
  rw[a,c,List.take_succ_eq_append_getElem (by omega),List.sum_append,List.sum_singleton,List.getD_eq_getElem?_getD,List.getElem?_eq_getElem (by omega)];rfl
theorem zlo {t f M:Int} (h0 : -M<=f) (h1:f<=M) : -(zi t*M)<=t*f/\t*f<=zi t*M:=by
 by_cases g:t<0
 ·rw[zaU g];have a:=Int.mul_le_mul_of_nonneg_left h1 (show 0<=-t by omega);have b:=Int.mul_le_mul_of_nonneg_left h0 (show 0<=-t by omega);rw[Int.neg_mul]at a b;rw[Int.mul_neg]at b;rw[Int.neg_mul]at a b ⊢;omega
 ·rw[zaG (by omega)];have a:=Int.mul_le_mul_of_nonneg_left h1 (show 0<=t by omega);have b:=Int.mul_le_mul_of_nonneg_left h0 (show 0<=t by omega);rw[Int.mul_neg]at b;omega
theorem zpg {ts:List Int} {f:Nat->Int} {M:Int} (n:Nat) (h:∀ i,i<n->-M<=f i/\f i<=M) : -(zaZ ts n*M)<=zr ts f n/\zr ts f n<=zaZ ts n*M:=by
 induction n with
 |zero=>simp[zr,zaZ]
 |succ n ih =>
  obtain⟨a,b⟩:=ih (λi hi=>h i (by omega));obtain⟨c,d⟩:=h n (by omega);have:=zlo (t:=ts.getD n 0) c d
  show -((zaZ ts n+zi (ts.getD n 0))*M)<=zr ts f n+_*f n/\zr ts f n+_*f n<=(zaZ ts n+zi (ts.getD n 0))*M
  rw[Int.add_mul];omega
def zak (ts:List Int):Prop:=zaZ ts ts.length<=8388608
def zew (L:List (Int×List Int)):Prop:=∀ j,j<L.length->zak (ze L j).2
def ziv (L:List (Int×List Int)):Prop:=∀ j,j<L.length->-1048576<=(ze L j).1/\(ze L j).1+((ze L j).2.length:Int)<=2097152
def zcF (S:Stg):Prop:=zew S.lx/\zew S.ly/\ziv S.lx
theorem zfa:zak []:=by unfold zak zaZ;decide
theorem zje {L:List (Int×List Int)} (h:zew L) (j:Nat):zak (ze L j).2:=by
 by_cases g:j<L.length
 ·exact h j g
 ·rw[zmx (by omega)];exact zfa
theorem zgg {ts:List Int} (h:zak ts) {f:Nat->Int} {n:Nat} (hn:n<=ts.length) (hf:∀ i,i<n->0<=f i/\f i<=65535) : -549747425280<=zr ts f n/\zr ts f n<=549747425280:=by
 have a:=zpg (ts:=ts) (f:=f) (M:=65535) n (λi hi=>⟨by have:=hf i hi;omega,(hf i hi).2⟩);have b:=zgl ts hn;have c:=zp6 ts n;unfold zak at h;have d:=Int.mul_le_mul_of_nonneg_right (show zaZ ts n<=8388608 by omega) (show(0:Int)<=65535 by decide);omega
theorem zhY {ts:List Int} (h:zak ts) {f:Nat->Int} {n:Nat} (hn:n<=ts.length) (hf:∀ i,i<n->-549747425280<=f i/\f i<=549747425280) : -4611615649683210240<=zr ts f n/\zr ts f n<=4611615649683210240:=by
 have a:=zpg (ts:=ts) (f:=f) (M:=549747425280) n hf;have b:=zgl ts hn;have c:=zp6 ts n;unfold zak at h;have d:=Int.mul_le_mul_of_nonneg_right (show zaZ ts n<=8388608 by omega) (show(0:Int)<=549747425280 by decide);omega
theorem zlm {l:List Int} (hF:Fits l) (h:∀ j,j<l.length->-1075000000<=l.getD j 0/\l.getD j 0<=1075000000) (hl:l.length<=127):zak (zG l):=by
 obtain⟨e1,_,e3,_⟩:=zdD hF;have s0:=hF.s0;have each:∀ j,j<(zG l).length->-65614<=(zG l).getD j 0/\(zG l).getD j 0<=65614:=by
  intro j hj;have hj':j<l.length:=by rw[←e1];exact hj
  obtain⟨x0,x1⟩:=h j hj';have sm:zaa (l.getD j 0):=⟨by omega,by omega⟩;obtain⟨_,_,r0,r1⟩:=zbE s0 sm;have q0 : -65613<=zaf (zq l) (l.getD j 0):=by
   by_cases g : -65613<=zaf (zq l) (l.getD j 0)
   ·exact g
   ·exfalso
    have:=Int.mul_le_mul_of_nonneg_right (show zaf (zq l) (l.getD j 0)<=-65614 by omega) (show 0<=zq l by omega);omega
  have q1:zaf (zq l) (l.getD j 0)<=65613:=by
   by_cases g:zaf (zq l) (l.getD j 0)<=65613
   ·exact g
   ·exfalso
    have:=Int.mul_le_mul_of_nonneg_right (show 65614<=zaf (zq l) (l.getD j 0) by omega) (show 0<=zq l by omega);omega
  rcases e3 j hj' with e|⟨e,_⟩<;>rw[e]<;>omega
 have a:=zpd (zG l) 65614 (zG l).length each;unfold zak;rw[e1]at a ⊢;omega
theorem zfg {l:List Int} (hF:Fits l) (h:∀ j,j<l.length->0<=l.getD j 0):zak (zG l):=by
 obtain⟨e1,e2,e3,_⟩:=zdD hF;have s0:=hF.s0;have each:∀ j,j<(zG l).length->0<=(zG l).getD j 0:=by
  intro j hj;have hj':j<l.length:=by rw[←e1];exact hj
  have x0:=h j hj';have sm:zaa (l.getD j 0):=zbn hF.small hj';obtain⟨_,_,r0,r1⟩:=zbE s0 sm;have q0:0<=zaf (zq l) (l.getD j 0):=by
   by_cases g:0<=zaf (zq l) (l.getD j 0)
   ·exact g
   ·exfalso
    have:=Int.mul_le_mul_of_nonneg_right (show zaf (zq l) (l.getD j 0)<=-1 by omega) (show 0<=zq l by omega);omega
  rcases e3 j hj' with e|⟨e,_⟩<;>rw[e]<;>omega
 unfold zak;rw[zv4 _ _ (Nat.le_refl _) each,List.take_of_length_le (Nat.le_refl _),e2]
 decide
def opV (o:Opr) (ax:Option Addr) (cx:Nat) (ay:Option Addr) (cy:Nat):Value :=
 .agg #[.int .i64 o.kd,.int .i64 o.bd,.int .i64 o.sg,.int .i64 o.rd,.slice ax o.xs.length cx,.slice ay o.ys.length cy,.int .i64 o.fl,.int .i64 o.wd,.int .i64 o.ht]
def zax (x:Int):Prop := -9223372036854775808<=x/\x<=9223372036854775807
structure OpFits (o:Opr):Prop where
 kd:zax o.kd
 bd:zax o.bd
 sg:zax o.sg
 rd:zax o.rd
 fl:zax o.fl
 wd:zax o.wd
 ht:zax o.ht
 xs:AllK .i64 o.xs
 ys:AllK .i64 o.ys
 lx:o.xs.length<=maxLen
 ly:o.ys.length<=maxLen
theorem AllK.all {xs:List Int} (h:AllK .i64 xs):zad xs:=λ_ hj=>zwg h hj
def OpAt (w:World) (o:Opr) (ax:Option Addr) (cx:Nat) (ay:Option Addr) (cy:Nat):Prop:=RowAt .i64 w ax o.xs/\RowAt .i64 w ay o.ys/\(ax=none->cx=0)/\(ay=none->cy=0)
theorem OpAt.below {w w':World} {o:Opr} {ax ay:Option Addr} {cx cy:Nat} (h:OpAt w o ax cx ay cy) (hb:Below w.heap.size w w'):OpAt w' o ax cx ay cy:=⟨h.1.below hb,h.2.1.below hb,h.2.2⟩
def OpIn (w:World) (b q:Nat) (o:Opr):Prop :=
 w.cell? ⟨b,q,none⟩=some (.int .i64 o.kd)/\w.cell? ⟨b,q+1,none⟩=some (.int .i64 o.bd)/\w.cell? ⟨b,q+2,none⟩=some (.int .i64 o.sg)/\w.cell? ⟨b,q+3,none⟩=some (.int .i64 o.rd) /\
 w.cell? ⟨b,q+6,none⟩=some (.int .i64 o.fl)/\w.cell? ⟨b,q+7,none⟩=some (.int .i64 o.wd)/\w.cell? ⟨b,q+8,none⟩=some (.int .i64 o.ht) /\
 ∃ ax cx ay cy,w.cell? ⟨b,q+4,none⟩=some (.slice ax o.xs.length cx)/\w.cell? ⟨b,q+5,none⟩=some (.slice ay o.ys.length cy)/\OpAt w o ax cx ay cy
theorem OpIn.below {w w':World} {b q:Nat} {o:Opr} (h:OpIn w b q o) (hb:Below w.heap.size w w'):OpIn w' b q o:=by
 obtain⟨h0,h1,h2,h3,h6,h7,h8,ax,cx,ay,cy,h4,h5,ha⟩:=h;have hl:=zf h0;exact⟨cb hb hl h0,cb hb hl h1,cb hb hl h2,cb hb hl h3,cb hb hl h6,cb hb hl h7,cb hb hl h8,ax,cx,ay,cy,cb hb hl h4,cb hb hl h5,ha.below hb⟩
def OpsAt (w:World) (ad:Option Addr) (L:List Opr):Prop :=
 L=[]\/∃ b off,ad=some ⟨b,off,none⟩/\∀ j,j<L.length->OpIn w b (off+j*9) (zh L j)
def zfX (L:List Opr):Prop:=∀ j,j<L.length->OpFits (zh L j)
theorem OpsAt.get {w:World} {ad:Option Addr} {L:List Opr} (h:OpsAt w ad L) {j:Nat} (hj:j<L.length):∃ b off,ad=some ⟨b,off,none⟩/\OpIn w b (off+j*9) (zh L j):=by
 rcases h with rfl|⟨b,off,h1,h2⟩
 ·exact absurd hj (Nat.not_lt_zero _)
 ·exact⟨b,off,h1,h2 j hj⟩
theorem OpsAt.below {w w':World} {ad:Option Addr} {L:List Opr} (h:OpsAt w ad L) (hb:Below w.heap.size w w'):OpsAt w' ad L:=by
 rcases h with h|⟨b,off,h1,h2⟩
 ·exact Or.inl h
 ·exact Or.inr ⟨b,off,h1,λj hj=>(h2 j hj).below hb⟩
theorem zeT {x:Int} (h:(Lit.int .i64 x).wf=true):zax x:=by
 simpa [zax,Lit.wf,IntKind.min,IntKind.max,IntKind.signed,IntKind.bits] using h
theorem zkp {H:Type} {enc:TypeId×Value->H} {w:World} {base:Nat} {held:Bool} {fuel:Nat} {v:Value} {x:DataW H×List MemPlace}
  (h:DataW.trod enc Tryz.prog w base (λ_=>true) held fuel 28 [v]=some x):∃ (xs:List Int) (ad:Option Addr) (cap:Nat),v=.slice ad xs.length cap/\RowAt .i64 w ad xs/\AllK .i64 xs/\xs.length<=maxLen/\(ad=none->cap=0):=by
 rcases Go.ChangeShapes.open_ints Tryz.underlying28 Tryz.underlying2 (by kernel_rfl) h with⟨hcs,_⟩|⟨x,l,c,zs,hcs,_,hl,hm,hz,_,hcell,hwz⟩
 ·obtain rfl:v=.slice none 0 0:=by simpa using hcs
  exact⟨[],none,0,rfl,Or.inl rfl,λn hn=>(by cases hn),Nat.zero_le _,λ_=>rfl⟩
 ·obtain rfl:v=.slice (some x) l c:=by simpa using hcs
  obtain⟨xs,e,a,b,d,f⟩:=zm0 (.inr ⟨x,zs,rfl,hl,hm,by simpa using hz,hcell,hwz⟩);subst e;exact⟨xs,_,_,rfl,a,b,d,f⟩
set_option maxRecDepth 100000 in
theorem zuA {H:Type} {enc:TypeId×Value->H} {w:World} {base:Nat} {held:Bool} {fuel:Nat} {cs:List Value} {x:DataW H×List MemPlace}
  (h:DataW.trod enc Tryz.prog w base (λ_=>true) held fuel 31 cs=some x) (h9:cs.length=9):∃ (o:Opr) (ax:Option Addr) (cx:Nat) (ay:Option Addr) (cy:Nat),
   cs=[.int .i64 o.kd,.int .i64 o.bd,.int .i64 o.sg,.int .i64 o.rd,.slice ax o.xs.length cx,.slice ay o.ys.length cy,.int .i64 o.fl,.int .i64 o.wd,.int .i64 o.ht]/\OpAt w o ax cx ay cy/\OpFits o:=by
 obtain⟨ys,n',_,_,hlen,hyl,hf⟩:=DataW.trod_struct Tryz.underlying31 h;have k1:Tryz.prog.cellsOf 3=1:=by kernel_rfl
 have k2:Tryz.prog.cellsOf 2=1:=by kernel_rfl
 have k3:Tryz.prog.cellsOf 26=1:=by kernel_rfl
 have k4:Tryz.prog.cellsOf 27=1:=by kernel_rfl
 have k5:Tryz.prog.cellsOf 29=1:=by kernel_rfl
 have k6:Tryz.prog.cellsOf 28=1:=by kernel_rfl
 match cs,h9 with
 |[c0,c1,c2,c3,c4,c5,c6,c7,c8],_ =>
  have hy:ys.length=9:=hyl
  match ys,hy with
  |[y0,y1,y2,y3,y4,y5,y6,y7,y8],_ =>
   have f0:DataW.trod enc Tryz.prog w base (λ_=>true) held n' 26 (List.take (Tryz.prog.cellsOf 26) (List.drop 0 [c0,c1,c2,c3,c4,c5,c6,c7,c8]))=some y0:=hf 0 _ rfl;have f1:DataW.trod enc Tryz.prog w base (λ_=>true) held n' 27 (List.take (Tryz.prog.cellsOf 27) (List.drop 1 [c0,c1,c2,c3,c4,c5,c6,c7,c8]))=some y1:=hf 1 _ rfl;have f2:DataW.trod enc Tryz.prog w base (λ_=>true) held n' 2 (List.take (Tryz.prog.cellsOf 2) (List.drop 2 [c0,c1,c2,c3,c4,c5,c6,c7,c8]))=some y2:=hf 2 _ rfl;have f3:DataW.trod enc Tryz.prog w base (λ_=>true) held n' 3 (List.take (Tryz.prog.cellsOf 3) (List.drop 3 [c0,c1,c2,c3,c4,c5,c6,c7,c8]))=some y3:=hf 3 _ rfl;have f4:DataW.trod enc Tryz.prog w base (λ_=>true) held n' 28 (List.take (Tryz.prog.cellsOf 28) (List.drop 4 [c0,c1,c2,c3,c4,c5,c6,c7,c8]))=some y4:=hf 4 _ rfl;have f5:DataW.trod enc Tryz.prog w base (λ_=>true) held n' 28 (List.take (Tryz.prog.cellsOf 28) (List.drop 5 [c0,c1,c2,c3,c4,c5,c6,c7,c8]))=some y5:=hf 5 _ rfl;have f6:DataW.trod enc Tryz.prog w base (λ_=>true) held n' 29 (List.take (Tryz.prog.cellsOf 29) (List.drop 6 [c0,c1,c2,c3,c4,c5,c6,c7,c8]))=some y6:=hf 6 _ rfl;have f7:DataW.trod enc Tryz.prog w base (λ_=>true) held n' 3 (List.take (Tryz.prog.cellsOf 3) (List.drop 7 [c0,c1,c2,c3,c4,c5,c6,c7,c8]))=some y7:=hf 7 _ rfl;have f8:DataW.trod enc Tryz.prog w base (λ_=>true) held n' 3 (List.take (Tryz.prog.cellsOf 3) (List.drop 8 [c0,c1,c2,c3,c4,c5,c6,c7,c8]))=some y8:=hf 8 _ rfl;rw[k3]at f0;rw[k4]at f1;rw[k2]at f2;rw[k1]at f3 f7 f8;rw[k6]at f4 f5;rw[k5]at f6;obtain⟨x0,q0,_,w0⟩:=DataW.trod_int Tryz.underlying26 f0;obtain⟨x1,q1,_,w1⟩:=DataW.trod_int Tryz.underlying27 f1;obtain⟨x2,q2,_,w2⟩:=DataW.trod_int Tryz.underlying2 f2;obtain⟨x3,q3,_,w3⟩:=DataW.trod_int Tryz.underlying3 f3;obtain⟨x6,q6,_,w6⟩:=DataW.trod_int Tryz.underlying29 f6;obtain⟨x7,q7,_,w7⟩:=DataW.trod_int Tryz.underlying3 f7;obtain⟨x8,q8,_,w8⟩:=DataW.trod_int Tryz.underlying3 f8;simp at q0 q1 q2 q3 q6 q7 q8;subst q0 q1 q2 q3 q6 q7 q8;obtain⟨xs,ax,cx,rfl,r4,a4,l4,z4⟩:=zkp f4;obtain⟨zs,ay,cy,rfl,r5,a5,l5,z5⟩:=zkp f5;exact⟨⟨x0,x1,x2,x3,xs,zs,x6,x7,x8⟩,ax,cx,ay,cy,rfl,⟨r4,r5,z4,z5⟩,zeT w0,zeT w1,zeT w2,zeT w3,zeT w6,zeT w7,zeT w8,a4,a5,l4,l5⟩
set_option maxRecDepth 100000 in
theorem zkG {H:Type} {enc:TypeId×Value->H} {w:World} {r:Reach} {b0 base:Nat} {held:Bool} {v:Value} {d:DataW H} {p:List MemPlace}
  (hv:Value.okWide Tryz.prog w r b0 31 v) (h:DataW.Trod enc Tryz.prog w base (λ_=>true) held 31 v d p):∃ (o:Opr) (ax:Option Addr) (cx:Nat) (ay:Option Addr) (cy:Nat),v=opV o ax cx ay cy/\OpAt w o ax cx ay cy/\OpFits o:=by
 obtain⟨cs,rfl,hsz⟩:=Go.WideShapes.okWide_struct Tryz.underlying31 hv;obtain⟨n,hn⟩:=h;have hC:Tryz.prog.cellsOf 31=9:=by kernel_rfl
 rw[hC]at hsz;obtain⟨o,ax,cx,ay,cy,e,a,b⟩:=zuA hn (by simpa [Value.cells] using hsz);obtain⟨l⟩:=cs;simp only[Value.cells]at e;subst e;exact⟨o,ax,cx,ay,cy,rfl,a,b⟩
def zmb (us:List (List Value)) (j i:Nat):Value:=(us.getD j []).getD i undef
def OwnRec (T:TypeId) (k:Nat) (w:World) (base:Nat) (v:Value) (us:List (List Value)):Prop:=w.ownsRow base T k v us.length us.flatten/\∀ u ∈ us,u.length=k
theorem zmS {k:Nat}:∀ {us:List (List Value)},(∀ u ∈ us,u.length=k)->∀ {j i:Nat},j<us.length->i<k->us.flatten[j*k+i]?=some (zmb us j i)
 |[],_,_,_,h,_=>absurd h (Nat.not_lt_zero _)
 |u :: us,hu,0,i,_,hi=>by
  have e:=hu u List.mem_cons_self;rw[Nat.zero_mul,Nat.zero_add,List.flatten_cons,List.getElem?_append_left (by omega),List.getElem?_eq_getElem (by omega)]
  show _=some (u.getD i undef)
  rw[List.getD_eq_getElem?_getD,List.getElem?_eq_getElem (by omega)];rfl
 |u :: us,hu,j+1,i,hj,hi=>by
  have e:=hu u List.mem_cons_self;have ih:=zmS (λv hv=>hu v (List.mem_cons_of_mem _ hv)) (j:=j) (i:=i) (by simpa using hj) hi;rw[List.flatten_cons,List.getElem?_append_right (by rw[e,Nat.add_mul];omega),e,show(j+1)*k+i-k=j*k+i by rw[Nat.add_mul];omega];exact ih
theorem OwnRec.nil (T:TypeId) (k:Nat) (w:World) (base:Nat):OwnRec T k w base (.slice none 0 0) []:=⟨World.ownsRow_nil _ _ _ _,λ_ h=>by cases h⟩
theorem zfw {T:TypeId} {w w':World} {base k:Nat} {v:Value} {n:Nat} {xs:List Value} (h:w.ownsRow base T k v n xs) (hb:Below w.heap.size w w'):w'.ownsRow base T k v n xs:=by
 refine⟨h.1,?_⟩;rcases h.2 with h2|⟨g,cap,cur,hv,hB,hg,r⟩
 ·exact .inl h2
 ·refine .inr ⟨g,cap,cur,hv,hB,?_,r⟩;have hlt:g<w.heap.size:=by
   rcases Nat.lt_or_ge g w.heap.size with hlt|hge
   ·exact hlt
   ·rw[Array.getElem?_eq_none hge]at hg;cases hg
  rw[hb.block g hlt];exact hg
theorem OwnRec.below {T:TypeId} {k:Nat} {w w':World} {base:Nat} {v:Value} {us:List (List Value)} (h:OwnRec T k w base v us) (hb:Below w.heap.size w w'):OwnRec T k w' base v us:=⟨zfw h.1 hb,h.2⟩
theorem OwnRec.mono {T:TypeId} {k:Nat} {w:World} {base base':Nat} {v:Value} {us:List (List Value)} (h:OwnRec T k w base v us) (hb:base'<=base):OwnRec T k w base' v us:=⟨zho h.1 hb,h.2⟩
theorem OwnRec.more {T:TypeId} {k:Nat} {w:World} {base n:Nat} {v:Value} {us:List (List Value)} {u:List Value} (hu:∀ x ∈ us,x.length=k) (hk:u.length=k) (hn:us.length+1=n) (h:w.ownsRow base T k v n (us.flatten++u)):OwnRec T k w base v (us++[u]):=by
 subst hn;refine⟨?_,λx hx=>?_⟩
 ·rw[List.length_append,List.flatten_append]
  simpa using h
 ·rcases List.mem_append.1 hx with hx|hx
  ·exact hu x hx
  ·rw[List.mem_singleton]at hx;rw[hx];exact hk
theorem OwnRec.read {T:TypeId} {k:Nat} {w:World} {base:Nat} {v:Value} {us:List (List Value)} (h:OwnRec T k w base v us) (h0:us≠[]) :
  ∃ g cap,v=.slice (some ⟨g,0,none⟩) us.length cap/\base<=g/\g<w.heap.size/\us.length<=cap/\∀ j,j<us.length->∀ i,i<k->w.cell? ⟨g,j*k+i,none⟩=some (zmb us j i):=by
 obtain⟨h2,h3⟩:=h;have hl:0<us.length:=List.length_pos_iff.2 h0;obtain⟨g,cap,hv,hB,hlt,hc⟩:∃ g cap,v=.slice (some ⟨g,0,none⟩) us.length cap/\base<=g/\g<w.heap.size/\us.length<=cap:=by
  rcases h2.2 with⟨_,h0⟩|⟨g,cap,cur,hv,hB,hg,hn,_⟩
  ·omega
  ·refine⟨g,cap,hv,hB,?_,hn⟩;rcases Nat.lt_or_ge g w.heap.size with hlt|hge
   ·exact hlt
   ·rw[Array.getElem?_eq_none hge]at hg;cases hg
 subst hv;refine⟨g,cap,rfl,hB,hlt,hc,λj hj i hi=>?_⟩;have e1:=World.ownsRow.cells h2 (g:=g) rfl _ _ (zmS h3 hj hi);rw[zd0,Nat.zero_add]at e1;exact e1
theorem OwnRec.form {T:TypeId} {k:Nat} {w:World} {base n:Nat} {v:Value} {us:List (List Value)} (h:OwnRec T k w base v us) (hn:us.length=n):∃ ad cap,v=.slice ad n cap/\n<=cap/\(ad=none->cap=0):=by
 subst hn;rcases h.1.2 with⟨hv,h0⟩|⟨g,cap,cur,hv,_,_,hn,_⟩
 ·exact⟨none,0,by rw[hv,h0],by omega,λ_=>rfl⟩
 ·exact⟨_,cap,hv,hn,λe=>by cases e⟩
theorem zmQ (w:World) (l:List Value) (t:TypeId):∀ j x,l[j]?=some x->(w.alloc (.cells l.toArray t)).cell? ((⟨w.heap.size,0,none⟩:Addr).add j)=some x:=by
 intro j x h;rw[zd0,Nat.zero_add];unfold World.cell?;rw[heap_alloc_new]
 simp[h]
theorem ztW (o:Opr) (ax:Option Addr) (cx:Nat) (ay:Option Addr) (cy:Nat) (w:World) :
  Calls Tryz.prog 120 #[opV o ax cx ay cy] w λe w'=>e=.returned (opV o ax cx ay cy)/\Below w.heap.size w w':=by
 unfold opV;obtain⟨kd,bd,sg,rd,xs,ys,fl,wd,ht⟩:=o;simp only;generalize xs.length=nx at *;generalize ys.length=ny at *
 go_enter Tryz.func120,Tryz.ntmps120
 go_wp2;exact bodyPost_ret (v:=.agg #[.int .i64 kd,.int .i64 bd,.int .i64 sg,.int .i64 rd,.slice ax nx cx,.slice ay ny cy,.int .i64 fl,.int .i64 wd,.int .i64 ht]) (by simp[results,Tryz.results120,go_sem]) rfl ⟨rfl,ba (zg _ _) _⟩
def zcK (s:Int) (o:Opr):Prop:=40<o.xs.length\/40<o.ys.length\/(262144<o.sg/\o.sg<=4194304)\/(20<o.rd/\o.rd<512)\/(s<o.wd/\o.wd<=65536)\/(s<o.ht/\o.ht<=65536)
def zcf (s:Int) (L:List Opr):Nat->Bool
 |0=>false
 |k+1=>zcf s L k || (decide (40<(zh L k).xs.length) || decide (40<(zh L k).ys.length) || decide (262144<(zh L k).sg/\(zh L k).sg<=4194304) || decide (20<(zh L k).rd/\(zh L k).rd<512) || decide (s<(zh L k).wd/\(zh L k).wd<=65536) || decide (s<(zh L k).ht/\(zh L k).ht<=65536))
theorem zgn (s:Int) (L:List Opr) (k:Nat):zcf s L (k+1)=true↔zcf s L k=true\/zcK s (zh L k):=by
 show(zcf s L k || _)=true↔_
 unfold zcK;simp only[Bool.or_eq_true,decide_eq_true_eq,or_assoc]
theorem zkg {s:Int} {L:List Opr} {k:Nat} (h:zcf s L k=true) {n:Nat} (hk:k<=n):zcf s L n=true:=by
 induction n with
 |zero=>rw[←Nat.le_zero.1 hk];exact h
 |succ n ih =>
  rcases Nat.lt_or_ge n k with q|q
  ·rw[show n+1=k by omega];exact h
  ·exact(zgn s L n).2 (.inl (ih q))
theorem zkX {s:Int} {L:List Opr} {n:Nat} (h:zcf s L n=false) {k:Nat} (hk:k<n):¬zcK s (zh L k):=by
 intro q;have:=zkg ((zgn s L k).2 (.inr q)) hk;rw[h]at this
 cases this
theorem zxm:(Tryz.prog.info? 183).map (λi=>(i.zero,i.size,i.bytes))=some (some (.agg #[.int .i64 0,.int .i64 0,.int .i64 0,.int .i64 0,.slice none 0 0,.slice none 0 0,.int .i64 0,.int .i64 0,.int .i64 0]),9,104):=by kernel_rfl
def zec (o:Opr) (ax:Option Addr) (cx:Nat) (ay:Option Addr) (cy:Nat):List Value :=
 [.int .i64 o.kd,.int .i64 o.bd,.int .i64 o.sg,.int .i64 o.rd,.slice ax o.xs.length cx,.slice ay o.ys.length cy,.int .i64 o.fl,.int .i64 o.wd,.int .i64 o.ht]
theorem zo1 (o:Opr) (ax:Option Addr) (cx:Nat) (ay:Option Addr) (cy:Nat):∀ u ∈ zec o ax cx ay cy,u.oneCell'=true:=by
 intro u hu;unfold zec at hu;simp only[List.mem_cons,List.not_mem_nil,or_false]at hu;rcases hu with rfl|rfl|rfl|rfl|rfl|rfl|rfl|rfl|rfl<;>rfl
def RefsSo (T:TypeId) (B:Nat) (w0 w:World) (L:List Opr) (k:Nat) (v:Value):Prop :=
 ∃ us,us.length=k/\OwnRec T 9 w B v us/\∀ j,j<k->∃ ax cx ay cy,us.getD j []=zec (zh L j) ax cx ay cy/\OpAt w0 (zh L j) ax cx ay cy
theorem RefsSo.ops {T:TypeId} {B:Nat} {w0 w:World} {L:List Opr} {k:Nat} {v:Value} (h:RefsSo T B w0 w L k v) (hk:L.length=k) (hb:Below w0.heap.size w0 w):∃ ad cap,v=.slice ad k cap/\OpsAt w ad L/\(ad=none->cap=0):=by
 obtain⟨us,hu,ho,hc⟩:=h
 by_cases e:us=[]
 ·subst e;obtain⟨ad,cap,rfl,_,z⟩:=ho.form rfl;have hk0:k=0:=by simpa using hu.symm
  subst hk0;exact⟨ad,cap,rfl,.inl (List.eq_nil_of_length_eq_zero hk),z⟩
 ·obtain⟨g,cap,rfl,_,_,_,hr⟩:=ho.read e;rw[hu];refine⟨_,cap,rfl,.inr ⟨g,0,rfl,λj hj=>?_⟩,λe=>by cases e⟩;obtain⟨ax,cx,ay,cy,hcell,ha⟩:=hc j (by omega);have R:=hr j (by omega);unfold zmb at R;rw[hcell]at R;rw[Nat.zero_add];exact⟨R 0 (by decide),R 1 (by decide),R 2 (by decide),R 3 (by decide),R 6 (by decide),R 7 (by decide),R 8 (by decide),ax,cx,ay,cy,R 4 (by decide),R 5 (by decide),ha.below hb⟩
theorem RefsSo.more {T:TypeId} {B:Nat} {w0 w2:World} {L:List Opr} {k:Nat} {us:List (List Value)} {v':Value} {ax ay:Option Addr} {cx cy:Nat} (hu:us.length=k) (h9:∀ x ∈ us,x.length=9)
  (hc:∀ j,j<k->∃ ax cx ay cy,us.getD j []=zec (zh L j) ax cx ay cy/\OpAt w0 (zh L j) ax cx ay cy) (ha:OpAt w0 (zh L k) ax cx ay cy) (own:w2.ownsRow B T 9 v' (k+1) (us.flatten++zec (zh L k) ax cx ay cy)):RefsSo T B w0 w2 L (k+1) v':=by
 refine⟨us++[zec (zh L k) ax cx ay cy],by rw[List.length_append,hu];rfl,OwnRec.more h9 rfl (by rw[hu]) own,λj hj=>?_⟩
 by_cases e:j=k
 ·subst e;refine⟨ax,cx,ay,cy,?_,ha⟩;rw[←hu,List.getD_eq_getElem?_getD,List.getElem?_append_right (Nat.le_refl _),Nat.sub_self];rfl
 ·obtain⟨a,b,c,d,h1,h2⟩:=hc j (by omega);refine⟨a,b,c,d,?_,h2⟩;rw[List.getD_eq_getElem?_getD,List.getElem?_append_left (by omega),←List.getD_eq_getElem?_getD];exact h1
set_option maxHeartbeats 4000000 in
set_option maxRecDepth 100000 in
theorem zqR (L:List Opr) (n:Nat) (hn:L.length=n) (h1:n<=1000) (ad:Option Addr) (cap:Nat) (w:World) (hr:OpsAt w ad L) :
  Calls Tryz.prog 78 #[.slice ad n cap] w λe w'=>∃ ad' cap',e=.returned (.slice ad' n cap')/\OpsAt w' ad' L/\(ad'=none->cap'=0)/\Below w.heap.size w w':=by
 have HR:=za hr;have HN:=za hn;obtain⟨i0,hi,hz0,hz1,hz2⟩:=info_parts zxm;clear hr hn
 go_enter Tryz.func78,Tryz.ntmps78
 go_wp2
 go_loopw [3,8] (λv i wr=>∃ k:Nat,k<=n/\i=.int .i64 (k:Int)/\RefsSo 183 w.heap.size w wr L k v/\Below w.heap.size w wr) (λ_ i _=>n-(intOf i).toNat)
 case atStart=>exact⟨0,by omega,rfl,⟨[],rfl,OwnRec.nil _ _ _ _,λj hj=>absurd hj (Nat.not_lt_zero _)⟩,Below.refl _ _⟩
 case round =>
  obtain⟨k,hk,rfl,hs,hb⟩:=hrel;have HB:=za hb;have HS:=za hs
  by_cases hlt:k<n
  ·obtain⟨us,hu,⟨ho,h9⟩,hc⟩:=hs;have HO:=za ho;have HMO:=za (fun(w2:World) (v':Value) (ax ay:Option Addr) (cx cy:Nat) (ha:OpAt w (zh L k) ax cx ay cy) (own:w2.ownsRow w.heap.size 183 9 v' (k+1) (us.flatten++zec (zh L k) ax cx ay cy))=>RefsSo.more hu h9 hc ha own);have HU:=za hu;obtain⟨b,off,rfl,h⟩:=HR.out.get (show k<L.length by rw[HN.out];exact hlt);obtain⟨g0,g1,g2,g3,g6,g7,g8,ax,cx,ay,cy,g4,g5,ga⟩:=h;have h0:=cb hb (zf g0) g0;have h1:=cb hb (zf g0) g1;have h2:=cb hb (zf g0) g2;have h3:=cb hb (zf g0) g3;have h4:=cb hb (zf g0) g4;have h5:=cb hb (zf g0) g5;have h6:=cb hb (zf g0) g6;have h7:=cb hb (zf g0) g7;have h8:=cb hb (zf g0) g8;have HGA:=za ga;have CR:=λw'=>ztW (zh L k) ax cx ay cy w'
   unfold opV at CR;have ONE:=zo1 (zh L k) ax cx ay cy;have s0:=hb.size;clear ho h9 hc hu hb g0 g1 g2 g3 g4 g5 g6 g7 g8 ga HS;unfold zec at HMO ONE;have HONE:=za ONE;clear ONE;generalize (zh L k).kd=kd at *;generalize (zh L k).bd=bd at *;generalize (zh L k).sg=sg at *;generalize (zh L k).rd=rd at *;generalize (zh L k).xs.length=nx at *;generalize (zh L k).ys.length=ny at *;generalize (zh L k).fl=fl at *;generalize (zh L k).wd=wd at *;generalize (zh L k).ht=ht at *
   go_wp2_with (first
    |(go_at_call 120;(with_reducible refine(CR _).mono ?_);rintro e w3 ⟨rfl,b3⟩;have s3:=b3.size;simp at s3)
    |(at_builtin;refine wpList_append_own _ rfl _ _ 138 rfl w.heap.size 183 i0 (.agg #[.int .i64 0,.int .i64 0,.int .i64 0,.int .i64 0,.slice none 0 0,.slice none 0 0,.int .i64 0,.int .i64 0,.int .i64 0]) 9 104 Tryz.underlying138 hi hz0 hz1 hz2 rfl (by decide) _ _ _ rfl (World.ownsRow.alloc (zfw (zfw HO.out (zg _ _)) b3) _) ⟨w3.heap.size,0,none⟩ 1 1 [.int .i64 kd,.int .i64 bd,.int .i64 sg,.int .i64 rd,.slice ax nx cx,.slice ay ny cy,.int .i64 fl,.int .i64 wd,.int .i64 ht] rfl rfl (zmQ _ _ _) HONE.out (by rw[HU.out];unfold maxLen;omega) (by rw[HU.out];omega) (by simp;omega) ?_;intro v' w4 own4 grow4 _;rw[HU.out]at own4))
   have B4:Below w.heap.size w w4:=(ba (bt (ba HB.out _) b3) _).grown grow4 (by simp;omega) (λg hg=>(World.ownsRow.lt HO.out g hg).1);have M4:=za (HMO.out _ _ _ _ _ _ HGA.out own4);have HB4:=za B4;clear own4 grow4 B4;go_wp2
   go_roundw
   case rel=>exact⟨k+1,by omega,by go_num,M4.out,HB4.out⟩
   case measure=>simp[intOf];omega
  ·obtain rfl:k=n:=by omega
   obtain⟨ad',cap',rfl,ho,hz⟩:=hs.ops HN.out hb;have HA:=za (And.intro ho (And.intro hz hb));clear hs hb ho hz HS;go_wp2;go_ret;exact⟨_,_,rfl,HA.out.1,HA.out.2.1,HA.out.2.2⟩
def zwm (k p:Nat):Bool :=
 decide (-1075000000<=zah (p:Int) (2*((k:Int)+1))) && decide (zah (p:Int) (2*((k:Int)+1))<=1075000000) && decide (-1075000000<=zbd (p:Int) (2*((k:Int)+1))) && decide (zbd (p:Int) (2*((k:Int)+1))<=1075000000)
set_option maxRecDepth 100000 in
set_option maxHeartbeats 8000000 in
theorem zuu:((List.range 20).all λk=>(List.range (6*k+6)).all λp=>zwm k p)=true:=by decide +kernel
theorem zxr {p q:Int} (q0:1<=q) (q1:q<=20):(-1075000000<=zah p (2*q)/\zah p (2*q)<=1075000000)/\-1075000000<=zbd p (2*q)/\zbd p (2*q)<=1075000000:=by
 have key:∀ P:Int,0<=P->(-1075000000<=zah P (2*q)/\zah P (2*q)<=1075000000)/\-1075000000<=zbd P (2*q)/\zbd P (2*q)<=1075000000:=by
  intro P P0
  by_cases g:P<3*(2*q)
  ·have h:=List.all_eq_true.1 zuu (q-1).toNat (List.mem_range.2 (by omega));have h2:=List.all_eq_true.1 h P.toNat (List.mem_range.2 (by omega));unfold zwm at h2;simp only[Bool.and_eq_true,decide_eq_true_eq]at h2;rw[show((P.toNat:Nat):Int)=P by omega,show(((q-1).toNat:Nat):Int)+1=q by omega]at h2;obtain⟨⟨⟨a,b⟩,c⟩,d⟩:=h2;exact⟨⟨a,b⟩,c,d⟩
  ·have e1:zah P (2*q)=0:=by unfold zah;rw[if_neg (by omega)]
   have e2:zbd P (2*q)=0:=by unfold zbd;rw[if_neg (by omega)]
   rw[e1,e2];omega
 by_cases g:0<=p
 ·exact key p g
 ·have:=key (-p) (by omega);rw[zme,zrJ]at this;exact this
theorem zpu {f n m i:Int} {j:Nat} (h:j<(zbl f n m i).length):(zbl f n m i).getD j 0=zab f n m i (za8 f n m i+(j:Int)):=by
 rw[zbD]at h;unfold zbl;rw[List.getD_eq_getElem?_getD,List.getElem?_map,List.getElem?_range h];rfl
theorem zoZ {f n m i:Int} (hf:f=1\/f=2) (n0:1<=n) (n1:n<=20) (m0:1<=m) (m1:m<=20):zb8 f n m i<=127:=by
 unfold zb8 zbI zce;have s0:4<=zbj f n m/\zbj f n m<=120:=by
  unfold zbj;rw[if_neg (by omega)]
  split<;>omega
 generalize zbj f n m=s at *;generalize zbt n m i=c at *;have a:=Int.mul_ediv_add_emod (c+s-1) (2*m);have a0:=Int.emod_nonneg (c+s-1) (show 2*m≠0 by omega);have b:=Int.mul_ediv_add_emod (c-s) (2*m);have b0:=Int.emod_lt_of_pos (c-s) (show 0<2*m by omega);generalize (c+s-1) / (2*m)=A at *;generalize (c-s) / (2*m)=B at *
 by_cases g:A-B<=127
 ·omega
 ·exfalso
  have h:=Int.mul_le_mul_of_nonneg_left (show(128:Int)<=A-B by omega) (show 0<=2*m by omega);rw[Int.mul_sub]at h;generalize 2*m*A=x at *;generalize 2*m*B=y at *;omega
theorem zhZ {f n m:Int} (h:zN f n m=0) (n1:n<=20) (m1:m<=20):zew (zt f n m m.toNat):=by
 intro j hj;rw[zac]at hj;have hB:zdM f n m=true:=by
  cases hb:zdM f n m
  ·unfold zN at h;rw[if_neg (by rw[hb];decide)]at h;omega
  ·rfl
 obtain⟨f0,f1,⟨n0,_⟩,m0,_⟩:=(zdm f n m).1 hB;have e:m=(m.toNat:Int):=by omega
 rw[show ze (zt f n m m.toNat) j=zbN f n m j from zcT _ hj];rw[e]at h hB;have F:=zgi h hB hj;rw[←e]at F
 show zak (zG (zbl f n m j))
 have MP:zc9 f n m (j:Int):=⟨f0,f1,n0,by omega,m0,by omega,by omega,by omega⟩
 by_cases hf:f=0
 ·subst hf;refine zfg F (λt ht=>?_);rw[zpu ht];rw[zbD]at ht;exact(znZ n0 (by omega) m0 ((zkV MP).2.2.1 t ht)).2.2.1
 ·refine zlm F (λt ht=>?_) (by rw[zbD];exact zoZ (by omega) n0 n1 m0 m1);rw[zpu ht];have K:=λp=>zxr (p:=p) (q:=max n m) (by omega) (by omega)
  unfold zab;rw[if_neg hf,zlN]
  split
  ·exact(K _).2
  ·exact(K _).1
theorem zot {f n m:Int} (h:zN f n m=0):ziv (zt f n m m.toNat):=by
 intro j hj;rw[zac]at hj;have hB:zdM f n m=true:=by
  cases hb:zdM f n m
  ·unfold zN at h;rw[if_neg (by rw[hb];decide)]at h;omega
  ·rfl
 obtain⟨f0,f1,⟨n0,n1⟩,m0,m1⟩:=(zdm f n m).1 hB;have e:m=(m.toNat:Int):=by omega
 rw[show ze (zt f n m m.toNat) j=zbN f n m j from zcT _ hj];rw[e]at h hB;have F:=zgi h hB hj;rw[←e]at F;have R:=zhl (f:=f) (n:=n) (m:=m) (i:=(j:Int)) ⟨f0,f1,n0,n1,m0,m1,by omega,by omega⟩
 show -1048576<=za8 f n m j/\za8 f n m j+((zG (zbl f n m j)).length:Int)<=2097152
 rw[(zdD F).1,zbD];omega
theorem zvk (l:List Int):∀ x ∈ l,zaI x<=zP l:=by
 refine zhv (P:=λl=>∀ x ∈ l,zaI x<=zP l) (λx hx=>by cases hx) (λl y ih x hx=>?_) l;rw[zeL];have a:=zdf l;have b:0<=zaI y:=by
  have:=zbc y;unfold zaI zE;omega
 have b1:zaI y<=9223372036854775807:=ze8 _;have c:zP l<=zcE (zP l) (zaI y)/\zaI y<=zcE (zP l) (zaI y):=by
  unfold zcE zE;omega
 rcases List.mem_append.1 hx with g|g
 ·have:=ih x g;omega
 ·rw[List.mem_singleton.1 g];exact c.2
theorem zvt {l:List Int} (s0:1<=zP l) (s1:zP l<=1048576):∀ x ∈ zbP l,-1075000000<=x/\x<=1075000000:=by
 intro x hx;obtain⟨y,hy,rfl⟩:=List.mem_map.1 hx;have a:=zvk l y hy;have b:zi y<=zP l:=by
  have:=zbc y;unfold zaI zE at a;omega
 have c : -zP l<=y/\y<=zP l:=by unfold zi at b;split at b<;>omega
 generalize zP l=s at *;have:=(zv8 (X:=y*1073741824) (D:=s) (B:=1073741824) (by omega) (by decide) (by omega) (by omega)).2.2;omega
theorem zvK (n:Nat) (h:n<=2000):∀ x ∈ zbP (List.replicate n 1),0<=x:=by
 intro x hx;obtain⟨y,hy,rfl⟩:=List.mem_map.1 hx;obtain⟨h0,rfl⟩:=List.mem_replicate.1 hy;rw[zhc n h,zcg (by omega)];have:=zek (X:=1*1073741824) (d:=(n:Int)) (m:=1073741824) (by omega) (by omega) (by omega);unfold zE;omega
theorem zk3 {xs:List Int} {n:Int} (h:zu xs n=0) (hs:Fits xs->zak (zG xs)) (k:Nat):zew (zQ xs k):=by
 intro j hj;rw[zae]at hj;rw[zey hj];unfold zu at h
 split at h
 ·split at h
  ·omega
  ·exact hs (zas.1 h)
 ·omega
theorem zvS {xs:List Int} {n:Int} (h:zu xs n=0) {k:Nat} (hk:k<=65536):ziv (zQ xs k):=by
 intro j hj;rw[zae]at hj;rw[zey hj];unfold zu at h
 split at h
 ·split at h
  ·omega
  ·have F:=zas.1 h;have l1:=F.n1
   show -1048576<=(j:Int)-((xs.length / 2:Nat):Int)/\(j:Int)-((xs.length / 2:Nat):Int)+((zG xs).length:Int)<=2097152
   rw[(zdD F).1];omega
 ·omega
theorem zlg (s:Int) (hF:Fits (zS s)):zak (zG (zS s)):=by
 refine zfg hF (λj hj=>zbn (P:=λx=>0<=x) (λx hx=>?_) hj);unfold zS at hx
 split at hx
 ·obtain⟨k,_,rfl⟩:=List.mem_map.1 hx;exact(zi4 ((k:Int)-zdO s) s).1
 ·cases hx
theorem zj5 (r:Int) (hF:Fits (zL r)):zak (zG (zL r)):=by
 refine zfg hF (λj hj=>zbn (P:=λx=>0<=x) (λx hx=>?_) hj);unfold zL at hx
 split at hx
 ·exact zvK _ (by omega) x hx
 ·cases hx
theorem zks (l:List Int) (hl:l.length<=40) (hF:Fits (zJ l)):zak (zG (zJ l)):=by
 unfold zJ at hF ⊢
 by_cases h:zgf l=true
 ·rw[if_pos h]at hF ⊢;have u:=(zdB l).1 h;have v:=zdf l;exact zlm hF (λj hj=>zbn (P:=λx => -1075000000<=x/\x<=1075000000) (zvt (by have:=u.2.2.1;omega) (by have:=u.2.2.2;omega)) hj) (by rw[zfb];omega)
 ·rw[if_neg h]at hF;exact absurd hF.n0 (by decide)
theorem zhX {o:Opr} {w h s:Int} (hz:zB o w h=0) (hb:¬zcK s o) (s1:s<=20) (w1:w<=20) (h1:h<=20):zcF (zj o w h):=by
 obtain⟨hok,hx,hy⟩:=zdY hz;obtain⟨_,_,hw,hh,hr⟩:=(zbq _ _ _).1 hok;unfold zcK at hb
 show zew (zbG o w)/\zew (zbi o h)/\ziv (zbG o w)
 unfold zeA at hx;unfold zeI at hy;unfold zbG zbi
 by_cases hk:o.kd=3
 ·rw[if_pos hk]at hx hy ⊢;rw[if_pos hk];obtain⟨a,b,_⟩:=hr hk;exact⟨zhZ hx w1 (by omega),zhZ hy h1 (by omega),zot hx⟩
 ·rw[if_neg hk]at hx hy ⊢;rw[if_neg hk];have hs:(Fits (wX o)->zak (zG (wX o)))/\(Fits (wY o)->zak (zG (wY o))):=by
   unfold wX wY
   by_cases k0:o.kd=0
   ·rw[if_pos k0,if_pos k0];exact⟨zlg _,zlg _⟩
   rw[if_neg k0,if_neg k0]
   by_cases k1:o.kd=1
   ·rw[if_pos k1,if_pos k1];exact⟨zj5 _,zj5 _⟩
   rw[if_neg k1,if_neg k1];exact⟨zks _ (by omega),zks _ (by omega)⟩
  exact⟨zk3 hx hs.1 _,zk3 hy hs.2 _,zvS hx (by omega)⟩
def zdJ (L:List (Int×List Int)):Prop:=∀ j,j+1<L.length->(ze L (j+1)).1<=(ze L j).1+((ze L j).2.length:Int)
theorem zs2 {f n:Int} {m:Nat} (f0:0<=f) (f1:f<=2) (n0:1<=n) (n1:n<=65536) (m1:m<=65536):zdJ (zt f n m m):=by
 intro j hj;rw[zac]at hj;have e:∀ i:Nat,i<m->ze (zt f n m m) i=zbN f n m i:=λi hi=>zcT _ hi
 rw[e j (by omega),e (j+1) (by omega)];have hM:zc9 f n m j:=⟨f0,f1,n0,n1,by omega,by omega,by omega,by omega⟩;have wc:=zcO hM;have en:(zbN f n m j).1+((zbN f n m j).2.length:Int)=zce f n m j+1:=by
  show za8 f n m j+((zG (zbl f n m j)).length:Int)=_
  rw[zaV,zbD];unfold za8 zb8;omega
 rw[en]
 show zbI f n m ((j+1:Nat):Int)+1<=_
 rw[show((j+1:Nat):Int)=(j:Int)+1 by omega];have:zbI f n m ((j:Int)+1)<=zce f n m j:=by
  unfold zbI zce;rw[znc];refine Int.ediv_le_ediv (by omega) ?_;unfold zbj
  split
  ·omega
  ·split<;>omega
 omega
theorem zwJ {xs:List Int} (h:1<=xs.length) (k:Nat):zdJ (zQ xs k):=by
 intro j hj;rw[zae]at hj;rw[zey (show j<k by omega),zey hj]
 show((j+1:Nat):Int)-((xs.length / 2:Nat):Int)<=(j:Int)-((xs.length / 2:Nat):Int)+((zG xs).length:Int)
 rw[zaV];omega
theorem zpZ {f n:Int} {m:Nat} (_:0<=f) (_:f<=2) (n0:1<=n) (n1:n<=20) (m1:m<=20):zaB (zt f n m m)<=900:=by
 have e:∀ o,o<=m->za7 (zt f n m m) o<=900:=by
  intro o ho
  induction o with
  |zero=>show(0:Int)<=900;decide
  |succ o ih =>
   have a:=ih (by omega);have s:za7 (zt f n m m) (o+1)=max (za7 (zt f n m m) o) ((ze (zt f n m m) o).2.length:Int):=rfl;rw[s,show ze (zt f n m m) o=zbN f n m o from zcT _ (by omega)];have b:((zbN f n m o).2.length:Int)<=900:=by
    show((zG (zbl f n m o)).length:Int)<=_
    rw[zaV,zbD];unfold zb8 zce zbI;have hs:0<=zbj f n m/\zbj f n m<=120:=by
     unfold zbj
     split
     ·omega
     ·split<;>omega
    generalize zbj f n m=q at *;generalize zbt n m o=c at *;have h1:(c+q-1) / (2*(m:Int))<=(c-q) / (2*(m:Int))+241:=by
     have d:(0:Int)<2*(m:Int):=by omega
     rw[show(c-q) / (2*(m:Int))+241=((c-q)+241*(2*(m:Int))) / (2*(m:Int)) by rw[Int.add_mul_ediv_right _ _ (by omega)]];exact Int.ediv_le_ediv d (by omega)
    omega
   omega
 unfold zaB;rw[zac];exact e m (Nat.le_refl _)
theorem zjt {o:Opr} {w h s:Int} (hz:zB o w h=0) (hb:¬zcK s o) (s1:s<=20) (h1:h<=20):zdJ (zj o w h).ly/\zaB (zj o w h).ly<=900:=by
 obtain⟨hok,hx,hy⟩:=zdY hz;obtain⟨_,_,hw,hh,hr⟩:=(zbq _ _ _).1 hok;unfold zcK at hb
 show zdJ (zbi o h)/\zaB (zbi o h)<=900
 unfold zeI at hy;unfold zbi
 by_cases hk:o.kd=3
 ·rw[if_pos hk];obtain⟨a,b,c,d⟩:=hr hk;obtain⟨m,hm⟩:∃ m:Nat,o.ht=(m:Int):=⟨o.ht.toNat,by omega⟩;rw[hm,Int.toNat_natCast];exact⟨zs2 c d hh.1 hh.2 (by omega),zpZ c d hh.1 h1 (by omega)⟩
 ·rw[if_neg hk]at hy ⊢;have F:Fits (wY o)/\(wY o).length<=900:=by
   unfold zu at hy
   split at hy
   ·split at hy
    ·omega
    ·have F:=zas.1 hy;refine⟨F,?_⟩;have F1:=F.n0
     revert F1
     unfold wY
     split
     ·unfold zS
      split
      ·intro _;unfold zc0;rw[zcx];have:(zdO o.sg).toNat<=192:=by unfold zdO;omega
       omega
      ·intro q;exact absurd q (by decide)
     ·split
      ·unfold zL
       split
       ·intro _;rw[zfb,List.length_replicate];omega
       ·intro q;exact absurd q (by decide)
      ·unfold zJ
       split
       ·intro _;rw[zfb];omega
       ·intro q;exact absurd q (by decide)
   ·omega
  refine⟨zwJ F.1.n0 _,?_⟩;rw[(zv7 (wY o) (show 1<=h.toNat by omega)).1];omega
def zmq:List Wnd->Prop
 |[]=>True
 |l :: r=>(∀ m s,r=m :: s->m.1<=zY l)/\zmq r
theorem zwk {L:List (Int×List Int)} (hG:zdJ L):∀ h y,y+h<=L.length->zmq (((zaM L).drop y).take h)
 |0,y,_=>by rw[List.take_zero];trivial
 |h+1,y,hy=>by
  rw[zb5 (by omega)];refine⟨λm s e=>?_,zwk hG h (y+1) (by omega)⟩
  cases h with
  |zero=>rw[List.take_zero]at e;cases e
  |succ h =>
   rw[zb5 (by omega)]at e;obtain⟨rfl,_⟩:=List.cons.inj e;exact hG y (by omega)
structure JobG (mo:Nat) (G:List Int) (E:Int) (ls:List Wnd):Prop where
 job:JobW mo G E ls
 gap:zmq ls
 at_:∀ l r,ls=l :: r->l.1<=E
theorem zhy {mo:Nat} {l:Wnd} {r:List Wnd} (h:zc7 mo (l :: r)) (hg:zmq (l :: r)):JobG mo [] l.1 (l :: r) :=
 ⟨zrP h,hg,λa b e=>by obtain⟨rfl,_⟩:=List.cons.inj e;exact Int.le_refl _⟩
theorem JobG.filter {mo:Nat} {G:List Int} {E:Int} {l:Wnd} {r:List Wnd} (h:JobG mo G E (l :: r)) (hj:E<zY l):JobG mo (G++[E]) (E+1) (l :: r):=by
 have e:=h.at_ l r rfl;have k:=h.job.filter (show max E l.1<zY l by omega);rw[show max E l.1=E by omega]at k;exact⟨k,h.gap,λa b q=>by obtain⟨rfl,_⟩:=List.cons.inj q;omega⟩
theorem JobG.written {mo:Nat} {G:List Int} {E:Int} {l:Wnd} {r:List Wnd} (h:JobG mo G E (l :: r)) (hj:¬E<zY l):JobG mo G E r:=by
 have e:=h.at_ l r rfl;have b:=(h.job.held l r rfl).2;have k:=h.job.written (show zY l<=max E l.1 by omega);unfold zcI at k;rw[show max E (zY l)=E by omega]at k;exact⟨k,h.gap.2,λa s q=>by have:=h.gap.1 a s q;omega⟩
theorem JobG.end_le {mo:Nat} {G:List Int} {E:Int} {l:Wnd} {r:List Wnd} (h:JobG mo G E (l :: r)):E<=zY l:=(h.job.held l r rfl).2
theorem JobG.last {mo:Nat} {G:List Int} {E:Int} {l:Wnd} {r:List Wnd} (h:JobG mo G E (l :: r)):∀ x ∈ G,x<E:=λx hx=>by
 have:=h.job.last x hx;have:=h.at_ l r rfl;omega
theorem JobG.rise {mo:Nat} {G:List Int} {E:Int} {l:Wnd} {r:List Wnd} (h:JobG mo G E (l :: r)):zeq G:=h.job.rise
theorem JobG.has {mo:Nat} {G:List Int} {E:Int} {l:Wnd} {r:List Wnd} (h:JobG mo G E (l :: r)) (hj:¬E<zY l) {j:Int} (h1:l.1<=j) (h2:j<zY l):j ∈ zaH mo G :=
 (h.job.has h1 h2).2 (by omega)
theorem zlZ {mo:Nat} {G:List Int} {E y:Int} {l:Wnd} {r:List Wnd} (h:JobG mo G E (l :: r)) (hj:E<zY l):zO E y (l :: r)=(1,E) :: zO (E+1) y (l :: r):=by
 have e:=h.at_ l r rfl;have:=znv (E:=E) (y:=y) (l:=l) (r:=r) (by omega);rw[show max E l.1=E by omega]at this;exact this
theorem zns {mo:Nat} {G:List Int} {E y:Int} {l:Wnd} {r:List Wnd} (h:JobG mo G E (l :: r)) (hj:¬E<zY l):zO E y (l :: r)=(2,y) :: zO E (y+1) r:=by
 have e:=h.at_ l r rfl;have b:=h.end_le;have:=zom (E:=E) (y:=y) (l:=l) (r:=r) (by omega);unfold zcI at this;rw[show max E (zY l)=E by omega]at this;exact this
def zeO (E:Int) (ls:List Wnd):Int:=ls.foldl (λ_ l=>zY l) E
theorem zih {mo:Nat}:∀ (ls:List Wnd) (G:List Int) (E y:Int),JobG mo G E ls->E<=zeO E ls/\((zO E y ls).length:Int)=zeO E ls-E+(ls.length:Int):=by
 intro ls
 induction ls with
 |nil=>intro G E y _;exact⟨Int.le_refl _,by simp[zO,zeO]⟩
 |cons l r ih =>
  intro G E y h;have e:=h.at_ l r rfl;have b:=h.end_le;have k:∃ G',JobG mo G' (zY l) r:=by
   have hm:∀ d:Nat,∀ G E,JobG mo G E (l :: r)->(zY l-E).toNat=d->∃ G',JobG mo G' (zY l) r:=by
    intro d
    induction d with
    |zero =>
     intro G E h hd;have b:=h.end_le;have q:=h.written (by omega);rw[show E=zY l by omega]at q;exact⟨G,q⟩
    |succ d ih2=>intro G E h hd;exact ih2 _ _ (h.filter (by omega)) (by omega)
   exact hm _ G E h rfl
  obtain⟨G',k⟩:=k;obtain⟨a,c⟩:=ih G' (zY l) (y+1) k;have s:=zoo (E:=E) (y:=y) (l:=l) (r:=r);unfold zcI at s;rw[show max E (zY l)=zY l by omega,show max E l.1=E by omega]at s;have le:zeO E (l :: r)=zeO (zY l) r:=rfl;rw[le,s,List.length_cons];refine⟨by omega,?_⟩;rw[Int.natCast_add,c];omega
theorem zfZ {L:List (Int×List Int)}:∀ h y E,y+h<=L.length->1<=h->zeO E (((zaM L).drop y).take h)=(ze L (y+h-1)).1+((ze L (y+h-1)).2.length:Int)
 |0,_,_,_,h0=>absurd h0 (by decide)
 |1,y,E,hy,_=>by
  rw[zb5 (by omega),List.take_zero];rfl
 |h+2,y,E,hy,_=>by
  rw[zb5 (by omega)]
  show zeO _ (((zaM L).drop (y+1)).take (h+1))=_
  rw[zfZ (h+1) (y+1) _ (by omega) (by omega)];rw[show y+1+(h+1)-1=y+(h+2)-1 by omega]
theorem zhz {O I:Im} {S:Stg} {x0 W y0 k:Nat}:za5 (za5 O I S x0 W y0 k 0) I S x0 W (y0+k) 1 0=za5 O I S x0 W y0 (k+1) 0:=by
 have:=zol (O:=O) (I:=I) (S:=S) (x0:=x0) (W:=W) (y0:=y0) (h:=k+1) (k:=k) (by omega)
 rwa [show k+1-k=1 by omega]at this
structure Off (S:Nat->Prop) (w w':World):Prop where
 os:w'.os=w.os
 tape:w'.tape=w.tape
 output:w'.output=w.output
 size:w.heap.size<=w'.heap.size
 block:∀ k,k<w.heap.size->¬S k->w'.heap[k]?=w.heap[k]?
theorem Off.refl (S:Nat->Prop) (w:World):Off S w w:=⟨rfl,rfl,rfl,Nat.le_refl _,λ_ _ _=>rfl⟩
theorem Off.mono {S S':Nat->Prop} {w w':World} (h:Off S w w') (hs:∀ k,k<w.heap.size->S k->S' k):Off S' w w':=⟨h.os,h.tape,h.output,h.size,λk hk hn=>h.block k hk (λe=>hn (hs k hk e))⟩
theorem Off.trans {S S':Nat->Prop} {a b c:World} (h:Off S a b) (h':Off S' b c) (hs:∀ k,k<a.heap.size->S' k->S k):Off S a c :=
 ⟨h'.os.trans h.os,h'.tape.trans h.tape,h'.output.trans h.output,Nat.le_trans h.size h'.size,λk hk hn=>(h'.block k (Nat.lt_of_lt_of_le hk h.size) (λe=>hn (hs k hk e))).trans (h.block k hk hn)⟩
theorem Off.of_grown {w w':World} {b:Nat} (h:w.grownBy w' (some b)):Off (λk=>k=b) w w':=⟨h.os,h.tape,h.output,h.size,λk hk hn=>h.block k hk (λe=>hn (Option.some.inj e))⟩
theorem Off.of_grownO {w w':World} {row:Option Nat} (h:w.grownBy w' row):Off (λk=>some k=row) w w':=⟨h.os,h.tape,h.output,h.size,λk hk hn=>h.block k hk hn⟩
theorem Off.of_below {S:Nat->Prop} {w w':World} (h:Below w.heap.size w w'):Off S w w':=⟨h.os,h.tape,h.output,h.size,λk hk _=>h.block k hk⟩
theorem Off.below {S:Nat->Prop} {w w':World} (h:Off S w w') {B:Nat} (hb:B<=w.heap.size) (hs:∀ k,S k->B<=k):Below B w w' :=
 ⟨h.os,h.tape,h.output,h.size,λk hk=>h.block k (by omega) (λe=>by have:=hs k e;omega)⟩
theorem Off.after {S:Nat->Prop} {a w w':World} {B:Nat} (hb:Below B a w) (h:Off S w w') (hB:B<=w.heap.size) (hs:∀ k,S k->B<=k):Below B a w':=hb.trans (h.below hB hs)
theorem Off.cell {S:Nat->Prop} {w w':World} (h:Off S w w') {b o:Nat} (hn:¬S b) {v:Value} (hc:w.cell? ⟨b,o,none⟩=some v):w'.cell? ⟨b,o,none⟩=some v :=
 (World.cell?_of_block (w:=w) (h.block b (zf hc) hn)).trans hc
theorem Off.frozen {S:Nat->Prop} {w w':World} (h:Off S w w') {b o:Nat} (hn:¬S b) (hl:b<w.heap.size):w'.frozen? ⟨b,o,none⟩=w.frozen? ⟨b,o,none⟩ :=
 World.frozen?_of_block (w:=w) (h.block b hl hn)
theorem Off.row {S:Nat->Prop} {k:IntKind} {w w':World} {ad:Option Addr} {xs:List Int} (h:Off S w w') (hr:RowAt k w ad xs) (hn:∀ a,ad=some a->¬S a.block):RowAt k w' ad xs:=by
 rcases hr with hr|⟨b,off,h1,h2⟩
 ·exact Or.inl hr
 ·exact Or.inr ⟨b,off,h1,λj hj=>h.cell (hn _ h1) (h2 j hj)⟩
theorem Off.ownr {S:Nat->Prop} {T:TypeId} {w w':World} {base k:Nat} {v:Value} {n:Nat} {xs:List Value} (h:Off S w w') (ho:w.ownsRow base T k v n xs) (hn:∀ g,v.ownBlock=some g->¬S g):w'.ownsRow base T k v n xs:=by
 refine⟨ho.1,?_⟩;rcases ho.2 with h2|⟨g,cap,cur,hv,hB,hg,r⟩
 ·exact .inl h2
 ·refine .inr ⟨g,cap,cur,hv,hB,?_,r⟩;have hlt:g<w.heap.size:=by
   rcases Nat.lt_or_ge g w.heap.size with hlt|hge
   ·exact hlt
   ·rw[Array.getElem?_eq_none hge]at hg;cases hg
  rw[h.block g hlt (hn g (by subst hv;rfl))];exact hg
theorem Off.own {S:Nat->Prop} {k:IntKind} {T:TypeId} {w w':World} {base:Nat} {v:Value} {xs:List Int} (h:Off S w w') (ho:OwnI k T w base v xs) (hn:∀ g,v.ownBlock=some g->¬S g):OwnI k T w' base v xs:=h.ownr ho hn
theorem Off.map {S:Nat->Prop} {H:Type} {P:Program} {k:TypeId} {R:Value->Option (DataW H×List MemPlace)} {w w':World} {b n:Nat} {D:DataW H} (h:Off S w w') (ho:w.ownsMap P k R b n D) (hn:¬S b):w'.ownsMap P k R b n D:=by
 obtain⟨es,clock,hb,r⟩:=ho;have hlt:b<w.heap.size:=by
  rcases Nat.lt_or_ge b w.heap.size with hlt|hge
  ·exact hlt
  ·rw[Array.getElem?_eq_none hge]at hb;cases hb
 exact⟨es,clock,by rw[h.block b hlt hn];exact hb,r⟩
theorem Off.drewN {S:Nat->Prop} {a w:World} (h:Off S a w) (n:Nat):Off S a (w.drewN n):=h.trans (S':=λ_=>False) ⟨rfl,rfl,rfl,Nat.le_refl _,λ_ _ _=>rfl⟩ (λ_ _ e=>e.elim)
theorem Off.set {S:Nat->Prop} {a w:World} (h:Off S a w) {b o:Nat} (hb:b<a.heap.size->S b) (u:Value):Off S a (w.setCell ⟨b,o,none⟩ u) :=
 h.trans (Off.of_grown (zn w b o u)) (λk hk e=>by subst e;exact hb hk)
theorem Off.alloc {S:Nat->Prop} {a w:World} (h:Off S a w) (o:Obj):Off S a (w.alloc o) :=
 h.trans (S':=λ_=>False) (Off.of_grown (b:=w.heap.size) (World.grownBy_alloc w o _) |>.mono (λk hk e=>by subst e;omega)) (λ_ _ e=>e.elim)
theorem zk4 {H:Type} {P:Program} {k:TypeId} {R:Value->Option (DataW H×List MemPlace)} {w:World} {b n:Nat} {D:DataW H} (h:w.ownsMap P k R b n D):w.ownsMap P k R b (Maps.size D) D:=by
 obtain⟨es,clock,hb,F,_,rfl⟩:=h;exact⟨es,clock,hb,F,by rw[Maps.size_eq,length_sorted];simp,rfl⟩
def zdG (v:Value):Option (DataW Value×List MemPlace):=some (.held v,[])
end Go.Proofs.YtlodkoimdoeopaaGreatDoor
