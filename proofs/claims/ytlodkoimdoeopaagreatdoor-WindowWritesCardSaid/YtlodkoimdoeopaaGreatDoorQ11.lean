/- Parts, joined. -/
import Derived.Test.YtlodkoimdoeopaaGreatDoorQ09
import Derived.Test.YtlodkoimdoeopaaGreatDoorQ10
import Derived.Test.YtlodkoimdoeopaaGreatDoorQ08
import Derived.Test.YtlodkoimdoeopaaGreatDoorQ02
import Derived.Test.YtlodkoimdoeopaaGreatDoorQ07
import Derived.Laws.BitsLemmas
namespace Go.Proofs.YtlodkoimdoeopaaGreatDoor
open Go.RowKit
def za4 (f n m i:Int):Int:=zbL f n m i+1
def zcb (f n m i:Int):Nat:=(zci f n m i-zbL f n m i).toNat
def zbg (f n m i:Int):List Int:=(List.range (zcb f n m i)).map λk:Nat=>zab f n m i (za4 f n m i+(k:Int))
theorem zbE (f n m i:Int):(zbg f n m i).length=zcb f n m i:=by unfold zbg;rw[List.length_map,List.length_range]
theorem zt1 (f n m i:Int):zcI f n m i (za4 f n m i) (zcb f n m i)=(zbg f n m i).map (Value.int .i64):=by
 unfold zcI zbg;rw[List.map_map];rfl
theorem zkq {f n m i:Int} (h:zdf f n m i):zfk f n m i (za4 f n m i) (zcb f n m i):=(zcX h).1
theorem zgW {f n m i:Int} (h:zdf f n m i) : -262144<za4 f n m i/\za4 f n m i<262144/\1<=zcb f n m i/\zcb f n m i<=524288:=by
 obtain⟨_,a,b,c⟩:=zcX h;unfold za4 zcb;omega
theorem zpY (f n m i j:Int) : -9223372036854775808<=zab f n m i j/\zab f n m i j<=9223372036854775807:=by
 unfold zab
 split
 ·exact zkh _ _
 ·split
  ·unfold za8
   split
   ·split<;>exact zkh _ _
   ·omega
  ·unfold zag
   split
   ·unfold zV;rw[if_neg (by decide),if_neg (by decide)];exact zhf 9 (zev _ _ _).1 (zev _ _ _).2
   ·omega
theorem zpj (f n m i:Int):zad (zbg f n m i):=by
 intro j hj;rw[zbE]at hj;unfold zbg;rw[List.getD_eq_getElem?_getD,List.getElem?_map,List.getElem?_range hj];exact zpY _ _ _ _ _
theorem znh {w:World} {base:Nat} {v:Value} {f n m i:Int} (h:w.ownsRow base 2 1 v (zcb f n m i) (zcI f n m i (za4 f n m i) (zcb f n m i))):OwnI .i64 2 w base v (zbg f n m i):=by
 unfold OwnI;rw[zbE,←zt1];exact h
def zbQ (f n m:Int) (i:Nat):Int×List Int:=(za4 f n m i,zG (zbg f n m i))
def zqW (f n m:Int) (i:Nat):Int:=zX (zbg f n m i)
def zR (f n m:Int):Nat->Int
 |0=>0
 |i+1=>if zR f n m i=0 then zqW f n m i else zR f n m i
def zdO (f n m:Int):Bool:=decide (0<=f) && decide (f<=2) && zcT n && zcT m
theorem zdr (f n m:Int):zdO f n m=true↔0<=f/\f<=2/\(1<=n/\n<=65536)/\(1<=m/\m<=65536):=by
 unfold zdO;rw[Bool.and_eq_true,Bool.and_eq_true,Bool.and_eq_true,zco,zco,decide_eq_true_eq,decide_eq_true_eq,and_assoc,and_assoc]
def zO (f n m:Int):Int:=if zdO f n m=true then zR f n m m.toNat else 6
def zt (f n m:Int) (k:Nat):List (Int×List Int):=(List.range k).map (zbQ f n m)
theorem zhT (f n m:Int) (k:Nat):zt f n m (k+1)=zt f n m k++[zbQ f n m k]:=by unfold zt;rw[List.range_succ,List.map_append];rfl
theorem zaq (f n m:Int) (k:Nat):(zt f n m k).length=k:=by unfold zt;rw[List.length_map,List.length_range]
theorem zeq {f n m:Int} {a:Nat} (h:zR f n m a≠0) {b:Nat} (hb:a<=b):zR f n m b=zR f n m a:=by
 obtain⟨d,rfl⟩:∃ d,b=a+d:=⟨b-a,by omega⟩
 induction d with
 |zero=>rfl
 |succ d ih =>
  have e:=ih (by omega);have s:zR f n m (a+(d+1))=if zR f n m (a+d)=0 then zqW f n m (a+d) else zR f n m (a+d):=rfl;rw[s,if_neg (by rw[e];exact h),e]
theorem zkm {f n m:Int} {a:Nat} (h:zR f n m a=0) {j:Nat} (hj:j<a):zqW f n m j=0/\zR f n m j=0:=by
 have h0:∀ b,b<=a->zR f n m b=0:=by
  intro b hb
  by_cases g:zR f n m b=0
  ·exact g
  ·rw[zeq g hb]at h;exact absurd h g
 have e:=h0 (j+1) (by omega);have e1:=h0 j (by omega);unfold zR at e;rw[if_pos e1]at e;exact⟨e,e1⟩
theorem zos (f n m i:Int) (h:zdf f n m i) (w:World) :
  Calls Tryz.prog 176 #[.int .i64 f,.int .i64 n,.int .i64 m,.int .i64 i] w λe w'=>∃ v,e=.returned (.tuple #[.int .i64 (za4 f n m i),v])/\OwnI .i64 2 w' w.heap.size v (zbg f n m i)/\Below w.heap.size w w':=by
 refine(zok f n m i h w).mono ?_;rintro e w1 ⟨a,c,v,hwin,_,_,_,rfl,ho,b⟩;obtain⟨rfl,rfl⟩:=zig h.2.2.2.2.1 hwin (zkq h);exact⟨v,rfl,znh ho,b⟩
theorem zhN (n:Nat) (xs:List Int) (hn:xs.length=n) (ad:Option Addr) (cap:Nat) (w:World) (hr:RowAt .i64 w ad xs) (hx:zad xs) (hl:n<=9223372036854775807) :
  Calls Tryz.prog 177 #[.slice ad n cap] w λe w'=>∃ v,e=.returned (.tuple #[v,.int .i64 (zX xs)])/\(zX xs=0->OwnI .i64 2 w' w.heap.size v (zG xs))/\Below w.heap.size w w':=by
 subst hn;exact zxh xs ad cap w hr hx hl
theorem zlh (f n m:Int) (k:Nat):∃ (st:Int) (cn:Nat) (xs:List Int) (cd:Int),za4 f n m k=st/\zcb f n m k=cn/\zbg f n m k=xs/\zX xs=cd:=⟨_,_,_,_,rfl,rfl,rfl,rfl⟩
theorem znK (w:World) (x:Int) (v:Value) (t:TypeId):∀ j u,[Value.int .i64 x,v][j]?=some u->(w.alloc (.cells #[.int .i64 x,v] t)).cell? ((⟨w.heap.size,0,none⟩:Addr).add j)=some u:=by
 intro j u h
 match j,h with
 |0,h=>simp at h;subst h;simp[Addr.add]
 |1,h=>simp at h;subst h;simp[Addr.add]
theorem OwnI.oneCell {k:IntKind} {T:TypeId} {w:World} {base:Nat} {v:Value} {xs:List Int} (h:OwnI k T w base v xs):v.oneCell'=true:=by
 obtain⟨ad,cap,rfl,_⟩:=h.form;rfl
set_option maxHeartbeats 2000000 in
set_option maxRecDepth 100000 in
theorem zmw (f n:Int) (m:Nat) (f0:0<=f) (f1:f<=2) (n0:1<=n) (n1:n<=65536) (m0:1<=m) (m1:m<=65536) (w:World) :
  Calls Tryz.prog 157 #[.int .i64 f,.int .i64 n,.int .i64 (m:Int)] w λe w'=>∃ v,e=.returned (.tuple #[v,.int .i64 (zR f n m m)])/\(zR f n m m=0->OwnLs 111 w' w.heap.size v (zt f n m m))/\(zR f n m m≠0->v=.slice none 0 0)/\Below w.heap.size w w':=by
 have S1:=zda n n0 n1;have S2:=zda (m:Int) (by omega) (by omega);obtain⟨i0,hi,hz0,hz1,hz2⟩:=info_parts zps;obtain⟨cm,hcd⟩:∃ cm,zR f n m m=cm:=⟨_,rfl⟩;rw[hcd];have HCD:=za hcd;clear hcd
 go_enter Tryz.func157,Tryz.ntmps157
 go_wp2_with (first
  |(go_at_call 175;(with_reducible refine(S1 _).mono ?_);rintro e w1 ⟨rfl,rfl⟩)
  |(go_at_call 175;(with_reducible refine(S2 _).mono ?_);rintro e w1 ⟨rfl,rfl⟩))
 clear S1 S2
 go_loopw [8,31] (λu i wr=>∃ k:Nat,k<=m/\i=.int .i64 (k:Int)/\Hid (zR f n m k=0)/\OwnLs 111 wr w.heap.size u (zt f n m k)/\Below w.heap.size w wr) (λ_ i _=>m-(intOf i).toNat)
 case atStart=>exact⟨0,by omega,rfl,rfl,OwnLs.nil _ _ _,Below.refl _ _⟩
 case round =>
  obtain⟨k,hk,rfl,hf,ho,hb⟩:=hrel;have HO:=za ho;have HB:=za hb;clear ho hb
  by_cases hlt:k<m
  ·have hM:zdf f n m k:=⟨f0,f1,n0,n1,by omega,by omega,by omega,by omega⟩;have CR:=zos f n m k hM;obtain⟨s0,s1,c0,c1⟩:=zgW hM;clear hM;have hx:=zpj f n m k;have hln:=zbE f n m k;have hc1:zR f n m (k+1)=zX (zbg f n m k):=if_pos hf.out;have hlr:zbQ f n m k=(za4 f n m k,zG (zbg f n m k)):=rfl;have HLS:=za (zhT f n m k);have hll:=zaq f n m k;obtain⟨st,cn,xs,cd,e1,e2,e3,e4⟩:=zlh f n m k;rw[e1,e3]at CR hlr;rw[e1]at s0 s1;rw[e2]at c0 c1 hln;rw[e3]at hx hln hc1;rw[e4]at hc1;have HX:=za hx;have HLN:=za hln;have HC1:=za hc1;have HLR:=za hlr;have HLL:=za hll;have CA:∀ (ad:Option Addr) (cap:Nat) (w:World),RowAt .i64 w ad xs->Calls Tryz.prog 177 #[.slice ad cn cap] w λe w'=>∃ v,e=.returned (.tuple #[v,.int .i64 cd])/\(cd=0->OwnI .i64 2 w' w.heap.size v (zG xs))/\Below w.heap.size w w':=by
    intro ad cap w hr;have:=zhN cn xs hln ad cap w hr hx (by omega);rw[e4]at this;exact this
   clear e1 e2 e3 e4 hx hln hc1 hlr hll
   by_cases hz:cd=0
   ·subst hz;obtain⟨us,hu,how,hin⟩:=HO.out;obtain⟨an,han⟩:∃ an,(zG xs).length=an:=⟨_,rfl⟩;have HAN:=za han;have HU:=za hu;have HOW:=za how;have HIN:=za hin;clear hu how hin HO han
    go_wp2_with (first
     |(go_at_call 176;(with_reducible refine(CR _).mono ?_);rintro e w2 ⟨v,rfl,ho1,b2⟩;obtain⟨ad,cap,rfl,hrow,_⟩:=ho1.formn HLN.out)
     |(go_at_call 177;(with_reducible refine(CA _ _ _ hrow).mono ?_);rintro e w3 ⟨v2,rfl,ho2,b3⟩;have ho3:=za (ho2 (by trivial));clear ho2;obtain⟨ad2,cap2,rfl,_,_⟩:=ho3.out.formn HAN.out)
     |(at_builtin;refine wpList_append_own _ rfl _ _ 37 rfl w.heap.size 111 i0 (.agg #[.int .i64 0,.slice none 0 0]) 2 32 Tryz.underlying37 hi hz0 hz1 hz2 rfl (by decide) _ _ _ rfl (World.ownsRow.alloc (zjg HOW.out (bt b2 b3)) _) ⟨w3.heap.size,0,none⟩ 1 1 [.int .i64 st,.slice ad2 an cap2] rfl rfl (znK _ _ _ _) (by intro u hu;simp at hu;rcases hu with rfl|rfl<;>rfl) (by rw[HLL.out];unfold maxLen;omega) (by rw[HLL.out];omega) (by have:=HB.out.size;have:=b2.size;have:=b3.size;simp;omega) ?_;intro u' w4 own4 grow4 _))
    have R:=za (OwnLs.more (x:=(st,zG xs)) (by decide) (bt (bt HB.out b2) b3) HU.out (zjg HOW.out (bt b2 b3)) (λj hj=>(HIN.out j hj).below (bt b2 b3)) (ho3.out.mono (by have:=HB.out.size;have:=b2.size;omega)) own4 grow4);clear own4 grow4 ho3 ho1 hrow;go_wp2
    go_roundw
    case rel=>exact⟨k+1,by omega,by go_num,HC1.out,by rw[HLS.out,HLR.out];exact R.out.1,R.out.2⟩
    case measure=>simp[intOf];omega
   ·have hzb:(cd != 0)=true:=by simpa using hz
    have hend:zR f n m m=cd:=(zeq (by rw[HC1.out];exact hz) (show k+1<=m by omega)).trans HC1.out;have hcc:cm=cd:=HCD.out.symm.trans hend;subst hcc;have HZ:=za hz;clear hend hz HC1
    go_wp2_with (first
     |(go_at_call 176;(with_reducible refine(CR _).mono ?_);rintro e w2 ⟨v,rfl,ho1,b2⟩;obtain⟨ad,cap,rfl,hrow,_⟩:=ho1.formn HLN.out)
     |(go_at_call 177;(with_reducible refine(CA _ _ _ hrow).mono ?_);rintro e w3 ⟨v2,rfl,ho2,b3⟩))
    exact bodyPost_ret (v:=.tuple #[.slice none 0 0,.int .i64 cm]) (by simp[results,Tryz.results157,go_sem]) rfl ⟨.slice none 0 0,rfl,(by intro g;exact absurd g HZ.out),(by first|trivial|(intro _;rfl)),bt (bt HB.out b2) b3⟩
  ·obtain rfl:k=m:=by omega
   have hcc:cm=0:=HCD.out.symm.trans hf.out;subst hcc;clear HCD hf hlt hk;go_wp2;exact bodyPost_ret (v:=.tuple #[u8,.int .i64 0]) (by simp[results,Tryz.results157,go_sem]) rfl (by first|exact⟨u8,rfl,HO.out,HB.out⟩|exact⟨u8,rfl,(λ_=>HO.out),(λg=>absurd rfl g),HB.out⟩)
theorem zlD (f n m:Int) (h:zdO f n m=false) (w:World) :
  Calls Tryz.prog 157 #[.int .i64 f,.int .i64 n,.int .i64 m] w λe w'=>e=.returned (.tuple #[.slice none 0 0,.int .i64 6])/\w=w':=by
 have hb:=λg=>Bool.false_ne_true (h.symm.trans ((zdr f n m).2 g))
 clear h
 by_cases a1:f<0
 ·clear hb
  go_enter Tryz.func157,Tryz.ntmps157
  go_wp2;exact bodyPost_ret (v:=.tuple #[.slice none 0 0,.int .i64 6]) (by simp[results,Tryz.results157,go_sem]) rfl ⟨rfl,rfl⟩
 by_cases a2:2<f
 ·clear hb
  go_enter Tryz.func157,Tryz.ntmps157
  go_wp2;exact bodyPost_ret (v:=.tuple #[.slice none 0 0,.int .i64 6]) (by simp[results,Tryz.results157,go_sem]) rfl ⟨rfl,rfl⟩
 have f0:0<=f:=by omega
 have f1:f<=2:=by omega
 clear a1 a2
 by_cases a3:1<=n/\n<=65536
 ·have S1:=zda n a3.1 a3.2;have a4:m<1\/65536<m:=by
   by_cases g:m<1
   ·exact Or.inl g
   ·by_cases g2:65536<m
    ·exact Or.inr g2
    ·exact absurd ⟨f0,f1,a3,by omega,by omega⟩ hb
  have S2:=zgS m a4;clear hb a3 a4
  go_enter Tryz.func157,Tryz.ntmps157
  go_wp2_with (first
   |(go_at_call 175;(with_reducible refine(S1 _).mono ?_);rintro e w1 ⟨rfl,rfl⟩)
   |(go_at_call 175;(with_reducible refine(S2 _).mono ?_);rintro e w1 ⟨rfl,rfl⟩))
  exact bodyPost_ret (v:=.tuple #[.slice none 0 0,.int .i64 6]) (by simp[results,Tryz.results157,go_sem]) rfl ⟨rfl,rfl⟩
 ·have S1:=zgS n (by omega);clear hb a3
  go_enter Tryz.func157,Tryz.ntmps157
  go_wp2_with (go_at_call 175;(with_reducible refine(S1 _).mono ?_);rintro e w1 ⟨rfl,rfl⟩)
  exact bodyPost_ret (v:=.tuple #[.slice none 0 0,.int .i64 6]) (by simp[results,Tryz.results157,go_sem]) rfl ⟨rfl,rfl⟩
theorem zhr (f n m:Int) (w:World) :
  Calls Tryz.prog 157 #[.int .i64 f,.int .i64 n,.int .i64 m] w λe w'=>∃ v,e=.returned (.tuple #[v,.int .i64 (zO f n m)])/\(zO f n m=0->OwnLs 111 w' w.heap.size v (zt f n m m.toNat))/\(zO f n m≠0->v=.slice none 0 0)/\Below w.heap.size w w':=by
 cases h:zdO f n m with
 |false =>
  have e:zO f n m=6:=by unfold zO;rw[h];rfl
  rw[e];refine(zlD f n m h w).mono ?_;rintro e w1 ⟨rfl,rfl⟩;exact⟨_,rfl,(λg=>absurd g (by decide)),(λ_=>rfl),Below.refl _ _⟩
 |true =>
  have e:zO f n m=zR f n m m.toNat:=by unfold zO;rw[h];rfl
  rw[e];obtain⟨f0,f1,⟨n0,n1⟩,m0,m1⟩:=(zdr f n m).1 h;obtain⟨k,rfl⟩:∃ k:Nat,m=(k:Int):=⟨m.toNat,by omega⟩;rw[Int.toNat_natCast];refine(zmw f n k f0 f1 n0 n1 (by omega) (by omega) w).mono ?_;rintro e w1 ⟨v,rfl,o,z,b⟩;exact⟨v,rfl,o,z,b⟩
def zA (xs:List Int) (n:Int):Int:=if zcT n=true then(if xs.length % 2=0 then 7 else zX xs) else 6
def zii (xs:List Int) (i:Nat):Int×List Int:=((i:Int)-((xs.length / 2:Nat):Int),zG xs)
def zQ (xs:List Int) (k:Nat):List (Int×List Int):=(List.range k).map (zii xs)
theorem zrr (xs:List Int) (k:Nat):zQ xs (k+1)=zQ xs k++[zii xs k]:=by unfold zQ;rw[List.range_succ,List.map_append];rfl
theorem zar (xs:List Int) (k:Nat):(zQ xs k).length=k:=by unfold zQ;rw[List.length_map,List.length_range]
theorem zsG {T:TypeId} (hT:2≠T) {wc w2:World} {base base' n:Nat} {v y:Value} {us:List Value} {xs:List Int} {o:Obj} (hown:wc.ownsRow base' T 2 v n us) (hy:OwnI .i64 2 wc base y xs) (hgrow:(wc.alloc o).grownBy w2 v.ownBlock):OwnI .i64 2 w2 base y xs :=
 OwnI.kept (hy.alloc o) hgrow (zgk hT (hy.alloc o) (World.ownsRow.alloc hown o))
theorem zlK (xs:List Int) (ad:Option Addr) (cap:Nat) (n:Int) (h:zcT n=false) (w:World) :
  Calls Tryz.prog 161 #[.slice ad xs.length cap,.int .i64 n] w λe w'=>e=.returned (.tuple #[.slice none 0 0,.int .i64 6])/\w=w':=by
 have S1:=zgS n (by
  have:=λg=>Bool.false_ne_true (h.symm.trans ((zco n).2 g))
  by_cases a:n<1
  ·exact Or.inl a
  ·by_cases b:65536<n
   ·exact Or.inr b
   ·exact absurd ⟨by omega,by omega⟩ this)
 clear h;generalize xs.length=k at *
 go_enter Tryz.func161,Tryz.ntmps161
 go_wp2_with (go_at_call 175;(with_reducible refine(S1 _).mono ?_);rintro e w1 ⟨rfl,rfl⟩)
 exact bodyPost_ret (v:=.tuple #[.slice none 0 0,.int .i64 6]) (by simp[results,Tryz.results161,go_sem]) rfl ⟨rfl,rfl⟩
theorem zjr (xs:List Int) (ad:Option Addr) (cap:Nat) (n:Int) (h:zcT n=true) (h2:xs.length % 2=0) (hl:xs.length<=9223372036854775807) (w:World) :
  Calls Tryz.prog 161 #[.slice ad xs.length cap,.int .i64 n] w λe w'=>e=.returned (.tuple #[.slice none 0 0,.int .i64 7])/\w=w':=by
 obtain⟨n0,n1⟩:=(zco n).1 h;have S1:=zda n n0 n1;clear h;generalize xs.length=k at *;have b1:((k:Int) % 2 == 0)=true:=beq_iff_eq.2 (by omega);clear h2
 go_enter Tryz.func161,Tryz.ntmps161
 go_wp2_with (go_at_call 175;(with_reducible refine(S1 _).mono ?_);rintro e w1 ⟨rfl,rfl⟩)
 exact bodyPost_ret (v:=.tuple #[.slice none 0 0,.int .i64 7]) (by simp[results,Tryz.results161,go_sem]) rfl ⟨rfl,rfl⟩
theorem zkg (xs:List Int) (ad:Option Addr) (cap:Nat) (n:Int) (h:zcT n=true) (h2:xs.length % 2=1) (cd:Int) (hc:zX xs=cd) (hz:cd≠0) (hl:xs.length<=9223372036854775807) (w:World) (hr:RowAt .i64 w ad xs) (hx:zad xs) :
  Calls Tryz.prog 161 #[.slice ad xs.length cap,.int .i64 n] w λe w'=>e=.returned (.tuple #[.slice none 0 0,.int .i64 cd])/\Below w.heap.size w w':=by
 obtain⟨n0,n1⟩:=(zco n).1 h;have S1:=zda n n0 n1;have CA:=zhN xs.length xs rfl ad cap w hr hx hl;rw[hc]at CA;clear h hc hr;generalize xs.length=k at *;have b1:((k:Int) % 2 == 0)=false:=beq_eq_false_iff_ne.2 (by omega);have hzb:(cd != 0)=true:=by simpa using hz
 clear h2 hz
 go_enter Tryz.func161,Tryz.ntmps161
 go_wp2_with (first
  |(go_at_call 175;(with_reducible refine(S1 _).mono ?_);rintro e w1 ⟨rfl,rfl⟩)
  |(go_at_call 177;(with_reducible refine CA.mono ?_);rintro e w3 ⟨v2,rfl,_,b3⟩))
 exact bodyPost_ret (v:=.tuple #[.slice none 0 0,.int .i64 cd]) (by simp[results,Tryz.results161,go_sem]) rfl ⟨rfl,b3⟩
set_option maxHeartbeats 2000000 in
set_option maxRecDepth 100000 in
theorem znA (xs:List Int) (ad:Option Addr) (cap:Nat) (n:Nat) (n0:1<=n) (n1:n<=65536) (h2:xs.length % 2=1) (hc:zX xs=0) (hl:xs.length<=1048576) (w:World) (hr:RowAt .i64 w ad xs) (hx:zad xs) :
  Calls Tryz.prog 161 #[.slice ad xs.length cap,.int .i64 (n:Int)] w λe w'=>∃ v,e=.returned (.tuple #[v,.int .i64 0])/\OwnLs 111 w' w.heap.size v (zQ xs n)/\Below w.heap.size w w':=by
 have S1:=zda (n:Int) (by omega) (by omega);have CA:=zhN xs.length xs rfl ad cap w hr hx (by omega);rw[hc]at CA;obtain⟨i0,hi,hz0,hz1,hz2⟩:=info_parts zps;obtain⟨k,hk⟩:∃ k,xs.length=k:=⟨_,rfl⟩;obtain⟨an,han⟩:∃ an,(zG xs).length=an:=⟨_,rfl⟩;have HAN:=za han;have HK:=za hk;rw[hk]at CA h2 hl ⊢;clear hk hc hr han;have b1:((k:Int) % 2 == 0)=false:=beq_eq_false_iff_ne.2 (by omega);clear h2
 go_enter Tryz.func161,Tryz.ntmps161
 go_wp2_with (first
  |(go_at_call 175;(with_reducible refine(S1 _).mono ?_);rintro e w1 ⟨rfl,rfl⟩)
  |(go_at_call 177;(with_reducible refine CA.mono ?_);rintro e w3 ⟨v2,rfl,ho2,b3⟩;have ho3:=za (ho2 (by trivial));clear ho2;obtain⟨ad2,cap2,rfl,_,_⟩:=ho3.out.formn HAN.out))
 have HB3:=za b3;clear S1 CA b3 b1
 go_loopw [8,26] (λu i wr=>∃ j:Nat,j<=n/\i=.int .i64 (j:Int)/\OwnLs 111 wr w.heap.size u (zQ xs j)/\OwnI .i64 2 wr w.heap.size (.slice ad2 an cap2) (zG xs)/\Below w.heap.size w wr) (λ_ i _=>n-(intOf i).toNat)
 case atStart=>exact⟨0,by omega,rfl,OwnLs.nil _ _ _,ho3.out,HB3.out⟩
 case round =>
  clear ho3 HB3;obtain⟨j,hj,rfl,ho,hq,hb⟩:=hrel;have HO:=za ho;have HQ:=za hq;have HB:=za hb;clear ho hq hb
  by_cases hlt:j<n
  ·obtain⟨us,hu,how,hin⟩:=HO.out;have HU:=za hu;have HOW:=za how;have HIN:=za hin;have HLS:=za (zrr xs j);have hlr:zii xs j=((j:Int)-((xs.length / 2:Nat):Int),zG xs):=rfl;rw[HK.out,show((k / 2:Nat):Int)=(k:Int) / 2 by omega]at hlr;have HLR:=za hlr;have HLL:=za (zar xs j);clear hu how hin HO hlr
   go_wp2_with (at_builtin;refine wpList_append_own _ rfl _ _ 37 rfl w.heap.size 111 i0 (.agg #[.int .i64 0,.slice none 0 0]) 2 32 Tryz.underlying37 hi hz0 hz1 hz2 rfl (by decide) _ _ _ rfl (World.ownsRow.alloc HOW.out _) ⟨wr.heap.size,0,none⟩ 1 1 [.int .i64 ((j:Int)-(k:Int) / 2),.slice ad2 an cap2] rfl rfl (znK _ _ _ _) (by intro u hu;simp at hu;rcases hu with rfl|rfl<;>rfl) (by rw[HLL.out];unfold maxLen;omega) (by rw[HLL.out];omega) (by have:=HB.out.size;simp;omega) ?_;intro u' w4 own4 grow4 _)
   have R:=za (And.intro (OwnLs.more (x:=((j:Int)-(k:Int) / 2,zG xs)) (by decide) HB.out HU.out HOW.out HIN.out HQ.out own4 grow4) (zsG (by decide) HOW.out HQ.out grow4));clear own4 grow4;go_wp2
   go_roundw
   case rel=>exact⟨j+1,by omega,by go_num,by rw[HLS.out,HLR.out];exact R.out.1.1,R.out.2,R.out.1.2⟩
   case measure=>simp[intOf];omega
  ·obtain rfl:j=n:=by omega
   go_wp2;exact bodyPost_ret (v:=.tuple #[u8,.int .i64 0]) (by simp[results,Tryz.results161,go_sem]) rfl ⟨u8,rfl,HO.out,HB.out⟩
theorem zcn (xs:List Int) (ad:Option Addr) (cap:Nat) (n:Int) (w:World) (hr:RowAt .i64 w ad xs) (hx:zad xs) (hl:xs.length<=9223372036854775807) :
  Calls Tryz.prog 161 #[.slice ad xs.length cap,.int .i64 n] w λe w'=>∃ v,e=.returned (.tuple #[v,.int .i64 (zA xs n)])/\(zA xs n=0->OwnLs 111 w' w.heap.size v (zQ xs n.toNat))/\(zA xs n≠0->v=.slice none 0 0)/\Below w.heap.size w w':=by
 unfold zA
 cases h:zcT n with
 |false =>
  rw[if_neg (by decide)];refine(zlK xs ad cap n h w).mono ?_;rintro e w1 ⟨rfl,rfl⟩;exact⟨_,rfl,(λg=>absurd g (by decide)),(λ_=>rfl),Below.refl _ _⟩
 |true =>
  rw[if_pos rfl]
  by_cases h2:xs.length % 2=0
  ·rw[if_pos h2];refine(zjr xs ad cap n h h2 hl w).mono ?_;rintro e w1 ⟨rfl,rfl⟩;exact⟨_,rfl,(λg=>absurd g (by decide)),(λ_=>rfl),Below.refl _ _⟩
  ·rw[if_neg h2]
   by_cases hz:zX xs=0
   ·rw[hz];obtain⟨n0,n1⟩:=(zco n).1 h;obtain⟨k,rfl⟩:∃ k:Nat,n=(k:Int):=⟨n.toNat,by omega⟩;rw[Int.toNat_natCast];refine(znA xs ad cap k (by omega) (by omega) (by omega) hz (zap.1 hz).n1 w hr hx).mono ?_;rintro e w1 ⟨v,rfl,o,b⟩;exact⟨v,rfl,(λ_=>o),(λg=>absurd rfl g),b⟩
   ·refine(zkg xs ad cap n h (by omega) _ rfl hz hl w hr hx).mono ?_;rintro e w1 ⟨rfl,b⟩;exact⟨_,rfl,(λg=>absurd g hz),(λ_=>rfl),b⟩
theorem zqU {r:Int} (h0:0<=r) (h1:r<=1099511627776) (n:Nat):0<=zan r (n+1)/\zan r (n+1)<=zan r n:=by
 obtain⟨a0,a1⟩:=zc0 h0 h1 n;have p0:0<=zan r n*r:=Int.mul_nonneg a0 h0;have p1:zan r n*r<=zan r n*(((n:Int)+1)*1099511627776):=Int.mul_le_mul_of_nonneg_left (by omega) a0;have q:=zed (X:=zan r n*r) (d:=((n:Int)+1)*1099511627776) (m:=zan r n) (by omega) p0 p1
 show 0<=zN _ _/\zN _ _<=_
 rw[zck (by omega),zH (by omega) (by omega)];exact q
theorem zvi {r:Int} (h0:0<=r) (h1:r<=1099511627776) (n:Nat) :
  (n % 2=0->zan r n<=za0 r n/\za0 r n<=1099511627776)/\(n % 2=1->0<=za0 r n/\za0 r n<=1099511627776-zan r n):=by
 induction n with
 |zero=>exact⟨λ_=>⟨Int.le_refl _,Int.le_refl _⟩,λh=>by omega⟩
 |succ n ih =>
  obtain⟨d0,d1⟩:=zqU h0 h1 n;have e:za0 r (n+1)=if n % 2=0 then za0 r n-zan r (n+1) else za0 r n+zan r (n+1):=rfl;rw[e]
  by_cases g:n % 2=0
  ·have:=ih.1 g;rw[if_pos g];exact⟨λh=>by omega,λ_=>by omega⟩
  ·have:=ih.2 (by omega);rw[if_neg g];exact⟨λ_=>by omega,λh=>by omega⟩
theorem zpR {x:Int} (n:Int) (h0:0<=x):0<=zV x n/\zV x n<=x:=by
 unfold zV
 split
 ·omega
 ·split
  ·omega
  ·have a0:0<=x / 2 ^ (n.toNat-1):=Int.ediv_nonneg h0 (Int.le_of_lt (Int.pow_pos (by decide)));have a1:x / 2 ^ (n.toNat-1)<=x:=Int.ediv_le_self _ h0;omega
theorem zqe {t:Int} (h0:0<=t):0<=zcw t/\zcw t<=1099511627776:=by
 have e:zdt t=t:=by unfold zdt;omega
 have s:=(zvi (r:=t % 762123384786) (by omega) (by omega) 16).1 rfl;have p:=(zc0 (r:=t % 762123384786) (by omega) (by omega) 16).1;unfold zcw;rw[e];have:=zpR (x:=za0 (t % 762123384786) 16) (t / 762123384786) (by omega);omega
theorem ziy (d s:Int):0<=zc2 d s/\zc2 d s<=1073741824:=by
 have e:=zqe (zpK d s);unfold zc2 zV;rw[if_neg (by omega),if_neg (by omega),show(10:Int).toNat-1=9 from rfl,show(2:Int) ^ 9=512 from rfl];omega
structure Opr where
 kd:Int
 bd:Int
 sg:Int
 rd:Int
 xs:List Int
 ys:List Int
 fl:Int
 wd:Int
 ht:Int
def zbB (o:Opr):Int:=if o.kd=0 then zbc o.sg else if o.kd=1 then za5 o.rd else if zY o.xs≠0 then zY o.xs else zY o.ys
def wX (o:Opr):List Int:=if o.kd=0 then zS o.sg else if o.kd=1 then zM o.rd else zJ o.xs
def wY (o:Opr):List Int:=if o.kd=0 then zS o.sg else if o.kd=1 then zM o.rd else zJ o.ys
def okO (o:Opr) (w h:Int):Bool:=decide (0<=o.kd) && decide (o.kd<=3) && decide (0<=o.bd) && decide (o.bd<=2) && zcT w && zcT h && (decide (o.kd≠3) || (zcT o.wd && zcT o.ht && decide (0<=o.fl) && decide (o.fl<=2)))
theorem zbD (o:Opr) (w h:Int):okO o w h=true↔(0<=o.kd/\o.kd<=3)/\(0<=o.bd/\o.bd<=2)/\(1<=w/\w<=65536)/\(1<=h/\h<=65536)/\(o.kd=3->(1<=o.wd/\o.wd<=65536)/\(1<=o.ht/\o.ht<=65536)/\0<=o.fl/\o.fl<=2):=by
 unfold okO;simp only[Bool.and_eq_true,Bool.or_eq_true,decide_eq_true_eq,zco]
 constructor
 ·rintro ⟨⟨⟨⟨⟨⟨a,b⟩,c⟩,d⟩,e⟩,f⟩,g⟩;refine⟨⟨a,b⟩,⟨c,d⟩,e,f,λh3=>?_⟩;rcases g with g|⟨⟨⟨g1,g2⟩,g3⟩,g4⟩
  ·exact absurd h3 g
  ·exact⟨g1,g2,g3,g4⟩
 ·rintro ⟨⟨a,b⟩,⟨c,d⟩,e,f,g⟩;refine⟨⟨⟨⟨⟨⟨a,b⟩,c⟩,d⟩,e⟩,f⟩,?_⟩
  by_cases h3:o.kd=3
  ·obtain⟨g1,g2,g3,g4⟩:=g h3;exact .inr ⟨⟨⟨g1,g2⟩,g3⟩,g4⟩
  ·exact .inl h3
def zex (o:Opr) (w:Int):Int:=if o.kd=3 then zO o.fl w o.wd else zA (wX o) w
def zeE (o:Opr) (h:Int):Int:=if o.kd=3 then zO o.fl h o.ht else zA (wY o) h
def zcf (o:Opr) (w:Int):List (Int×List Int):=if o.kd=3 then zt o.fl w o.wd o.wd.toNat else zQ (wX o) w.toNat
def zbK (o:Opr) (h:Int):List (Int×List Int):=if o.kd=3 then zt o.fl h o.ht o.ht.toNat else zQ (wY o) h.toNat
def zC (o:Opr) (w h:Int):Int:=if okO o w h=false then 6 else if o.kd≠3/\zbB o≠0 then zbB o else if zex o w≠0 then zex o w else zeE o h
def toW (o:Opr) (w:Int):Int:=if o.kd=3 then o.wd else w
def toH (o:Opr) (h:Int):Int:=if o.kd=3 then o.ht else h
structure Stg where
 lx:List (Int×List Int)
 ly:List (Int×List Int)
 fx:Int
 fy:Int
 sb:Int
def zj (o:Opr) (w h:Int):Stg:=⟨zcf o w,zbK o h,w,h,o.bd⟩
def op0:Opr:=⟨0,0,0,0,[],[],0,0,0⟩
def zh (L:List Opr) (j:Nat):Opr:=L.getD j op0
def zm (L:List Opr) (w h:Int):Nat->Int×Int
 |0=>(w,h)
 |k+1=>(toW (zh L k) (zm L w h k).1,toH (zh L k) (zm L w h k).2)
def zaO (L:List Opr) (w h c:Int) (k:Nat):Int :=
 if zC (zh L k) (zm L w h k).1 (zm L w h k).2≠0 then zC (zh L k) (zm L w h k).1 (zm L w h k).2 else if zaE (zm L w h (k+1)).1 (zm L w h (k+1)).2 c=true then 0 else 5
def zah (L:List Opr) (w h c:Int):Nat->Int
 |0=>0
 |k+1=>if zah L w h c k≠0 then zah L w h c k else zaO L w h c k
def zaD (L:List Opr) (w h c:Int):Int:=if 16<L.length then 6 else if zaE w h c=false then 5 else zah L w h c L.length
def zD (L:List Opr) (w h:Int) (k:Nat):Stg:=zj (zh L k) (zm L w h k).1 (zm L w h k).2
theorem zh0 {L:List Opr} {w h c:Int} {a:Nat} (n:zah L w h c a≠0) {b:Nat} (hb:a<=b):zah L w h c b=zah L w h c a:=by
 induction b with
 |zero=>rw[Nat.le_zero.1 hb]
 |succ b ih =>
  rcases Nat.lt_or_ge b a with h1|h1
  ·rw[show b+1=a by omega]
  ·have:=ih h1
   show(if zah L w h c b≠0 then zah L w h c b else zaO L w h c b)=_
   rw[if_pos (by rw[this];exact n),this]
theorem zgs {L:List Opr} {w h c:Int} {k n:Nat} (hf:zah L w h c k=0) (hs:zaO L w h c k≠0) (hk:k<n):zah L w h c n=zaO L w h c k:=by
 have e:zah L w h c (k+1)=zaO L w h c k:=by
  show(if zah L w h c k≠0 then zah L w h c k else zaO L w h c k)=_
  rw[if_neg (by rw[hf];decide)]
 rw[zh0 (a:=k+1) (by rw[e];exact hs) (by omega),e]
theorem ziH {L:List Opr} {w h c:Int} {k:Nat} (hf:zah L w h c k=0) (hs:zaO L w h c k=0):zah L w h c (k+1)=0:=by
 show(if zah L w h c k≠0 then zah L w h c k else zaO L w h c k)=_
 rw[if_neg (by rw[hf];decide),hs]
theorem zeY {L:List Opr} {w h c:Int} {n:Nat} (hf:zah L w h c n=0) {k:Nat} (hk:k<n):zah L w h c k=0/\zaO L w h c k=0:=by
 have a:zah L w h c k=0:=by
  by_cases e:zah L w h c k=0
  ·exact e
  ·have:=zh0 e (Nat.le_of_lt hk);rw[hf]at this;exact this.symm
 refine⟨a,?_⟩
 by_cases e:zaO L w h c k=0
 ·exact e
 ·have:=zgs a e hk;rw[hf]at this;exact this.symm
theorem zgX {s:Int} (h:zbc s=0):(zS s).length % 2=1/\(zS s).length<=1048576:=by
 unfold zbc at h;unfold zS
 split at h
 ·rename_i hs
  rw[if_pos hs];unfold zc6;rw[zcB];have:(zdQ s).toNat<=192:=by unfold zdQ;omega
  omega
 ·omega
theorem ze6 (l:List Int):(zbP l).length=l.length:=by unfold zbP;rw[List.length_map]
theorem zes {l:List Int} (h:zY l=0):(zJ l).length % 2=1/\(zJ l).length<=1048576:=by
 unfold zY at h;unfold zJ
 split at h
 ·rename_i hs
  rw[if_pos hs,ze6];have:=(zdI l).1 hs;exact⟨this.1,by have:=this.2.1;omega⟩
 ·omega
theorem zgt {r:Int} (h:za5 r=0):(zM r).length % 2=1/\(zM r).length<=1048576:=by
 unfold za5 at h;unfold zM
 split at h
 ·rename_i hs
  rw[if_pos hs,ze6,List.length_replicate];omega
 ·omega
theorem zxL {o:Opr} (h:zbB o=0):(wX o).length<=1048576/\(wY o).length<=1048576:=by
 unfold zbB at h;unfold wX wY
 by_cases h0:o.kd=0
 ·rw[if_pos h0]at h ⊢;rw[if_pos h0];exact⟨(zgX h).2,(zgX h).2⟩
 rw[if_neg h0]at h ⊢;rw[if_neg h0]
 by_cases h1:o.kd=1
 ·rw[if_pos h1]at h ⊢;rw[if_pos h1];exact⟨(zgt h).2,(zgt h).2⟩
 rw[if_neg h1]at h ⊢;rw[if_neg h1]
 by_cases h2:zY o.xs≠0
 ·rw[if_pos h2]at h;exact absurd h h2
 ·rw[if_neg h2]at h;exact⟨(zes (by omega)).2,(zes h).2⟩
theorem zrZ {l:List Int} (h:∀ x ∈ l,-9223372036854775808<=x/\x<=9223372036854775807):zad l:=λj hj=>by
 rw[List.getD_eq_getElem?_getD,List.getElem?_eq_getElem hj];exact h _ (List.getElem_mem hj)
theorem znz (l:List Int) (hs:zP l≠0):zad (zbP l):=by
 refine zrZ λx hx=>?_
 obtain⟨y,_,rfl⟩:=List.mem_map.1 hx;rw[zck hs];exact⟨zfF _,ze3 _⟩
theorem zhZ (s:Int):zad (zS s):=by
 refine zrZ λx hx=>?_
 unfold zS at hx
 split at hx
 ·obtain⟨k,_,rfl⟩:=List.mem_map.1 hx;have:=ziy ((k:Int)-zdQ s) s;omega
 ·cases hx
theorem zfw (l:List Int):zad (zJ l):=by
 unfold zJ
 by_cases h:zga l=true
 ·rw[if_pos h];have:=(zdI l).1 h;exact znz l (by have:=this.2.2.1;omega)
 ·rw[if_neg h];exact λj hj=>absurd hj (Nat.not_lt_zero _)
theorem zgO (r:Int):zad (zM r):=by
 unfold zM
 by_cases h:0<=r/\r<=511
 ·rw[if_pos h];exact znz _ (by rw[zhl _ (by omega)];omega)
 ·rw[if_neg h];exact λj hj=>absurd hj (Nat.not_lt_zero _)
theorem zwd (o:Opr):zad (wX o)/\zad (wY o):=by
 unfold wX wY
 by_cases h0:o.kd=0
 ·rw[if_pos h0,if_pos h0];exact⟨zhZ _,zhZ _⟩
 rw[if_neg h0,if_neg h0]
 by_cases h1:o.kd=1
 ·rw[if_pos h1,if_pos h1];exact⟨zgO _,zgO _⟩
 rw[if_neg h1,if_neg h1];exact⟨zfw _,zfw _⟩
theorem ze8 {a b c:Int} (h:zaE a b c=true):(1<=a/\a<=65536)/\(1<=b/\b<=65536)/\(c=1\/c=3):=by
 obtain⟨a0,a1,b0,b1,hc,_⟩:=zdq.1 h;exact⟨⟨a0,a1⟩,⟨b0,b1⟩,hc⟩
end Go.Proofs.YtlodkoimdoeopaaGreatDoor
namespace Go.Proofs.YtlodkoimdoeopaaGreatDoor
def zf5 (p n:Int):Prop:=0<=p/\p<=2/\1<=n/\n<=65536
def zlN (p n:Int):Bool:=decide (0<=p) && decide (p<=2) && decide (1<=n) && decide (n<=65536)
theorem zkM (p n:Int):zlN p n=true↔zf5 p n:=by unfold zlN zf5;simp;omega
def zc7 (j n:Int):Int:=if j<0 then 0 else if n<=j then n-1 else j
def zcK (j n:Int):Int:=if j % (2*n)<n then j % (2*n) else 2*n-1-j % (2*n)
def atF (p j n:Int):Int:=if zlN p n=true then(if p=0 then zc7 j n else if p=1 then zcK j n else j % n) else 0
theorem zm3 {p j n:Int} (h:¬zf5 p n):atF p j n=0:=if_neg λg=>h ((zkM p n).1 g)
theorem zgH {p n:Int} (h0:0<=p) (h1:p<=2) (n0:1<=n) (n1:n<=65536):zlN p n=true:=(zkM p n).2 ⟨h0,h1,n0,n1⟩
theorem zlu {j n:Int} (n0:1<=n) (n1:n<=65536):atF 0 j n=zc7 j n:=by unfold atF;rw[if_pos (zgH (by omega) (by omega) n0 n1),if_pos rfl]
theorem zjB {j n:Int} (n0:1<=n) (n1:n<=65536):atF 1 j n=zcK j n:=by unfold atF;rw[if_pos (zgH (by omega) (by omega) n0 n1),if_neg (by omega),if_pos rfl]
theorem zme {j n:Int} (n0:1<=n) (n1:n<=65536):atF 2 j n=j % n:=by unfold atF;rw[if_pos (zgH (by omega) (by omega) n0 n1),if_neg (by omega),if_neg (by omega)]
theorem zlo {j n:Int} (n0:1<=n):j % n=if j % (2*n)<n then j % (2*n) else j % (2*n)-n:=by
 have e:=Int.mul_ediv_add_emod j (2*n);have r0:=Int.emod_nonneg j (show 2*n≠0 by omega);have r1:=Int.emod_lt_of_pos j (show 0<2*n by omega);generalize j % (2*n)=r at *;have e2:2*n*(j / (2*n))=n*(2*(j / (2*n))):=by rw[Int.mul_comm 2 n,Int.mul_assoc]
 rw[e2]at e
 split
 ·exact zc8 (q:=2*(j / (2*n))) e.symm r0 (by omega)
 ·exact zc8 (q:=2*(j / (2*n))+1) (by rw[Int.mul_add,Int.mul_one];omega) (by omega) (by omega)
theorem zsJ {j n:Int} (n0:1<=n):0<=zc7 j n/\zc7 j n<n:=by unfold zc7;split<;>(try split)<;>omega
theorem zrm {j n:Int} (n0:1<=n):0<=zcK j n/\zcK j n<n:=by
 have r0:=Int.emod_nonneg j (show 2*n≠0 by omega);have r1:=Int.emod_lt_of_pos j (show 0<2*n by omega);unfold zcK;split<;>omega
theorem zvV {j n:Int} (n0:1<=n):0<=j % n/\j % n<n:=⟨Int.emod_nonneg j (by omega),Int.emod_lt_of_pos j (by omega)⟩
theorem znr {p j n:Int} (h:zf5 p n):0<=atF p j n/\atF p j n<n:=by
 obtain⟨p0,p1,n0,n1⟩:=h;unfold atF;rw[if_pos (zgH p0 p1 n0 n1)]
 split
 ·exact zsJ n0
 ·split
  ·exact zrm n0
  ·exact zvV n0
theorem zoq {j n:Int} (h0:0<=j) (h1:j<n):zc7 j n=j:=by unfold zc7;rw[if_neg (by omega),if_neg (by omega)]
theorem zm0 {j n:Int} (h0:0<=j) (h1:j<n):zcK j n=j:=by unfold zcK;rw[Int.emod_eq_of_lt h0 (by omega),if_pos h1]
theorem zmk {p j n:Int} (h:zf5 p n) (h0:0<=j) (h1:j<n):atF p j n=j:=by
 obtain⟨p0,p1,n0,n1⟩:=h;unfold atF;rw[if_pos (zgH p0 p1 n0 n1),zoq h0 h1,zm0 h0 h1,Int.emod_eq_of_lt h0 h1]
 split
 ·rfl
 ·split<;>rfl
theorem zpy {a m:Int} (hm:0<m):a.tmod m % m=a % m/\-m<a.tmod m/\a.tmod m<m:=by
 have e:=Int.mul_tdiv_add_tmod a m;have b0:=Int.tmod_lt_of_pos a hm;have b1 : -m<a.tmod m:=by
  by_cases h:0<=a
  ·have:=Int.tmod_nonneg m h;omega
  ·have g:a.tmod m = -((-a).tmod m):=by rw[Int.neg_tmod,Int.neg_neg]
   have:=Int.tmod_lt_of_pos (-a) hm;omega
 refine⟨?_,b1,b0⟩;have g:a=a.tmod m+m*a.tdiv m:=by omega
 conv=>rhs;rw[g]
 rw[Int.add_mul_emod_self_left]
end Go.Proofs.YtlodkoimdoeopaaGreatDoor
namespace Go.Proofs.YtlodkoimdoeopaaGreatDoor
open Go.RowKit
theorem zin (a b:Int):IntKind.i64.wrap (IntKind.i64.wrap a+b)=IntKind.i64.wrap (a+b):=by rw[IntKind.wrap_i64,IntKind.wrap_i64,IntKind.wrap_i64];omega
theorem zfR (a b:Int):IntKind.i64.wrap (a+IntKind.i64.wrap b)=IntKind.i64.wrap (a+b):=by rw[Int.add_comm,zin,Int.add_comm]
theorem zx3 (a:Int):∃ q,IntKind.i64.wrap a=a+18446744073709551616*q:=by
 rw[IntKind.wrap_i64];refine⟨-((a+9223372036854775808) / 18446744073709551616),?_⟩;have:=Int.mul_ediv_add_emod (a+9223372036854775808) 18446744073709551616;omega
theorem zx7 {a b q:Int} (h:a=b+18446744073709551616*q):IntKind.i64.wrap a=IntKind.i64.wrap b:=by
 rw[IntKind.wrap_i64,IntKind.wrap_i64,h];omega
theorem zw5 (a b:Int):IntKind.i64.wrap (IntKind.i64.wrap a*b)=IntKind.i64.wrap (a*b):=by
 obtain⟨q,hq⟩:=zx3 a;rw[hq];exact zx7 (q:=q*b) (by rw[Int.add_mul,Int.mul_assoc])
theorem zl5 (a b:Int):IntKind.i64.wrap (a*IntKind.i64.wrap b)=IntKind.i64.wrap (a*b):=by rw[Int.mul_comm,zw5,Int.mul_comm]
theorem zry (a:Int) : -9223372036854775808<=IntKind.i64.wrap a/\IntKind.i64.wrap a<=9223372036854775807:=by rw[IntKind.wrap_i64];omega
theorem zaN {a:Int} (h0 : -9223372036854775808<=a) (h1:a<=9223372036854775807):IntKind.i64.wrap a=a:=by rw[IntKind.wrap_i64];omega
theorem zmG (s a v:Int):IntKind.i64.wrap (IntKind.i64.wrap s+IntKind.i64.wrap (a*IntKind.i64.wrap v))=IntKind.i64.wrap (s+a*v):=by rw[zin,zfR,←zfR,zl5,zfR]
def zq (ts:List Int) (f:Nat->Int):Nat->Int
 |0=>0
 |k+1=>zq ts f k+ts.getD k 0*f k
theorem zbX {ts:List Int} {f g:Nat->Int} {n:Nat} (h:∀ i,i<n->f i=g i):zq ts f n=zq ts g n:=by
 induction n with
 |zero=>rfl
 |succ n ih=>show zq ts f n+_*f n=zq ts g n+_*g n;rw[ih (λi hi=>h i (by omega)),h n (by omega)]
theorem ztZ (ts:List Int) (f g:Nat->Int) (n:Nat):zq ts (λi=>f i+g i) n=zq ts f n+zq ts g n:=by
 induction n with
 |zero=>rfl
 |succ n ih =>
  show zq ts (λi=>f i+g i) n+ts.getD n 0*(f n+g n)=zq ts f n+ts.getD n 0*f n+(zq ts g n+ts.getD n 0*g n)
  rw[ih,Int.mul_add];omega
theorem zuu (ts:List Int) (u:Int) (f:Nat->Int) (n:Nat):zq ts (λi=>u*f i) n=u*zq ts f n:=by
 induction n with
 |zero=>exact(Int.mul_zero u).symm
 |succ n ih =>
  show zq ts (λi=>u*f i) n+ts.getD n 0*(u*f n)=u*(zq ts f n+ts.getD n 0*f n)
  rw[ih,Int.mul_add,←Int.mul_assoc,Int.mul_comm (ts.getD n 0) u,Int.mul_assoc]
theorem zsk (ts:List Int) (n:Nat):zq ts (λ_=>0) n=0:=by
 induction n with
 |zero=>rfl
 |succ n ih=>show zq ts (λ_=>0) n+_*0=0;rw[ih,Int.mul_zero];rfl
theorem zu6 (us bs:List Int) (g:Nat->Nat->Int) (n m:Nat):zq us (λi=>zq bs (λk=>g i k) m) n=zq bs (λk=>zq us (λi=>g i k) n) m:=by
 induction n with
 |zero=>exact(zsk bs m).symm
 |succ n ih =>
  show zq us (λi=>zq bs (λk=>g i k) m) n+us.getD n 0*zq bs (λk=>g n k) m=zq bs (λk=>zq us (λi=>g i k) n+us.getD n 0*g n k) m
  rw[ztZ,ih,zuu]
theorem zka (ts:List Int) (v:Int) (n:Nat) (hn:n<=ts.length):zq ts (λ_=>v) n=(ts.take n).sum*v:=by
 induction n with
 |zero=>exact(Int.zero_mul v).symm
 |succ n ih =>
  show zq ts (λ_=>v) n+ts.getD n 0*v=_
  rw[ih (by omega),List.take_succ_eq_append_getElem (by omega),List.sum_append,List.sum_singleton,List.getD_eq_getElem?_getD,List.getElem?_eq_getElem (by omega),Int.add_mul];rfl
def zia (I:Im) (S:Stg) (x y:Nat) (c:Int) (i k:Nat):Int:=zbe I (atF S.sb ((zf S.lx x).1+(i:Int)) I.iw) (atF S.sb ((zf S.ly y).1+(k:Int)) I.ih) c
def zdv (I:Im) (S:Stg) (x y:Nat) (c:Int):Int:=zq (zf S.lx x).2 (λi=>zq (zf S.ly y).2 (λk=>zia I S x y c i k) (zf S.ly y).2.length) (zf S.lx x).2.length
theorem zru (I:Im) (S:Stg) (x y:Nat) (c:Int):zdv I S x y c=zq (zf S.ly y).2 (λk=>zq (zf S.lx x).2 (λi=>zia I S x y c i k) (zf S.lx x).2.length) (zf S.ly y).2.length:=zu6 _ _ _ _ _
def zbA (I:Im) (S:Stg) (x y:Nat) (c:Int):Int:=IntKind.i64.wrap (zdv I S x y c)
def zcy (t:Int):Int:=if t<0 then 0 else if 65535<t then 65535 else t
def zaM (s t:Int):Int:=if zV s 28<0 then 0 else if zcy t<zV s 28 then zcy t else zV s 28
theorem zjh (t:Int):0<=zcy t/\zcy t<=65535:=by unfold zcy;split<;>(try split)<;>omega
theorem zfr {t:Int} (h0:0<=t) (h1:t<=65535):zcy t=t:=by unfold zcy;rw[if_neg (by omega),if_neg (by omega)]
theorem zgn (s t:Int):0<=zaM s t/\zaM s t<=zcy t:=by
 have:=zjh t;unfold zaM
 split
 ·omega
 ·split<;>omega
theorem zrW (v:Int):zV (v*268435456) 28=v:=by
 unfold zV;rw[if_neg (by decide),if_neg (by decide)];have e:(v*268435456) / 2 ^ ((28:Int).toNat-1)=v*2:=by
  rw[show(2:Int) ^ ((28:Int).toNat-1)=134217728 by decide];omega
 rw[e];omega
theorem zrK {I:Im} {S:Stg} {x y:Nat} {c v:Int} (hx:(zf S.lx x).2.sum=16384) (hy:(zf S.ly y).2.sum=16384) (h:∀ i k,zia I S x y c i k=v):zdv I S x y c=v*268435456:=by
 unfold zdv;have e:zq (zf S.ly y).2 (λ_=>v) (zf S.ly y).2.length=16384*v:=by rw[zka _ _ _ (Nat.le_refl _),List.take_of_length_le (Nat.le_refl _),hy]
 rw[zbX (g:=λ_=>16384*v) (λi _=>by rw[←e];exact zbX (λk _=>h i k)),zka _ _ _ (Nat.le_refl _),List.take_of_length_le (Nat.le_refl _),hx];omega
theorem zpF {v t:Int} (h0:0<=v) (h1:v<=t) (ht:t<=65535):zaM (IntKind.i64.wrap (v*268435456)) t=v:=by
 rw[zaN (by omega) (by omega)];unfold zaM;rw[zrW,zfr (by omega) ht,if_neg (by omega),if_neg (by omega)]
def zbs (I:Im) (S:Stg) (k:Nat):Int:=zaM (zbA I S (k / I.ic.toNat % S.lx.length) (k / I.ic.toNat / S.lx.length) ((k % I.ic.toNat:Nat):Int)) I.it
def zI (I:Im) (S:Stg):Im:=⟨(S.lx.length:Int),(S.ly.length:Int),I.ic,I.it,(List.range (S.ly.length*S.lx.length*I.ic.toNat)).map (zbs I S)⟩
theorem ztl {C W x y c:Nat} (hc:c<C) (hx:x<W):((y*W+x)*C+c) % C=c/\((y*W+x)*C+c) / C % W=x/\((y*W+x)*C+c) / C / W=y:=by
 have e:((y*W+x)*C+c) / C=y*W+x:=by
  rw[Nat.add_comm,Nat.add_mul_div_right _ _ (by omega),Nat.div_eq_of_lt hc,Nat.zero_add]
 rw[e];refine⟨by rw[Nat.add_comm,Nat.add_mul_mod_self_right,Nat.mod_eq_of_lt hc],by rw[Nat.add_comm,Nat.add_mul_mod_self_right,Nat.mod_eq_of_lt hx],?_⟩;rw[Nat.add_comm,Nat.add_mul_div_right _ _ (by omega),Nat.div_eq_of_lt hx,Nat.zero_add]
theorem zgA {I:Im} {S:Stg} {x y c:Nat} (hc:c<I.ic.toNat) (hx:x<S.lx.length):zbs I S ((y*S.lx.length+x)*I.ic.toNat+c)=zaM (zbA I S x y (c:Int)) I.it:=by
 unfold zbs;obtain⟨e1,e2,e3⟩:=ztl (y:=y) hc hx;rw[e1,e2,e3]
def zce (I:Im):List Stg->Im
 |[]=>I
 |S :: r=>zce (zI I S) r
def zaY (I:Im) (S:Stg):Bool:=decide (S.fx=I.iw) && decide (S.fy=I.ih) && decide (0<=S.sb) && decide (S.sb<=2)
theorem zmZ {I:Im} {S:Stg} (h:zay I) (f:zaE (S.lx.length:Int) (S.ly.length:Int) I.ic=true):zay (zI I S):=by
 obtain⟨_,_,_,_,hc,t0,t1,_,_,_⟩:=h;obtain⟨a0,a1,b0,b1,_,m⟩:=zdq.1 f;have C0:(I.ic.toNat:Int)=I.ic:=Int.toNat_of_nonneg (by omega);refine⟨a0,a1,b0,b1,hc,t0,t1,m,?_,λx hx=>?_⟩
 ·show(((List.range (S.ly.length*S.lx.length*I.ic.toNat)).map (zbs I S)).length:Int)=(S.lx.length:Int)*(S.ly.length:Int)*I.ic
  rw[List.length_map,List.length_range,Int.natCast_mul,Int.natCast_mul,C0,Int.mul_comm (S.ly.length:Int)]
 ·obtain⟨k,_,rfl⟩:=List.mem_map.1 hx;have:=zgn (zbA I S (k / I.ic.toNat % S.lx.length) (k / I.ic.toNat / S.lx.length) ((k % I.ic.toNat:Nat):Int)) I.it;rw[zfr (by omega) t1]at this;exact this
def zgi (I:Im) (S:Stg) (j:Int) (x:Nat) (c:Int):Int:=zq (zf S.lx x).2 (λi=>zbe I (atF S.sb ((zf S.lx x).1+(i:Int)) I.iw) (atF S.sb j I.ih) c) (zf S.lx x).2.length
theorem zxv (I:Im) (S:Stg) (x y:Nat) (c:Int):zdv I S x y c=zq (zf S.ly y).2 (λk=>zgi I S ((zf S.ly y).1+(k:Int)) x c) (zf S.ly y).2.length:=zru I S x y c
def zc9 (I:Im) (S:Stg) (x0 C n:Nat) (j:Int):List Int:=(List.range n).map λq=>IntKind.i64.wrap (zgi I S j (x0+q / C) ((q % C:Nat):Int))
theorem ziC (I:Im) (S:Stg) (x0 C n:Nat) (j:Int):(zc9 I S x0 C n j).length=n:=by unfold zc9;rw[List.length_map,List.length_range]
theorem zjz {I:Im} {S:Stg} {x0 C n q:Nat} {j:Int} (h:q<n):(zc9 I S x0 C n j).getD q 0=IntKind.i64.wrap (zgi I S j (x0+q / C) ((q % C:Nat):Int)):=by
 unfold zc9;rw[List.getD_eq_getElem?_getD,List.getElem?_map,List.getElem?_range h];rfl
theorem zl7 (I:Im) (S:Stg) (x0 C n:Nat) (j:Int):zc9 I S x0 C (n+1) j=zc9 I S x0 C n j++[IntKind.i64.wrap (zgi I S j (x0+n / C) ((n % C:Nat):Int))]:=by
 unfold zc9;rw[List.range_succ,List.map_append];rfl
theorem zfz {C i c:Nat} (hc:c<C):(i*C+c) / C=i/\(i*C+c) % C=c:=by
 constructor
 ·rw[Nat.add_comm,Nat.add_mul_div_right _ _ (by omega),Nat.div_eq_of_lt hc,Nat.zero_add]
 ·rw[Nat.add_comm,Nat.add_mul_mod_self_right,Nat.mod_eq_of_lt hc]
theorem zrX (ts:List Int) (f:Nat->Int) (n:Nat):IntKind.i64.wrap (zq ts (λk=>IntKind.i64.wrap (f k)) n)=IntKind.i64.wrap (zq ts f n):=by
 induction n with
 |zero=>rfl
 |succ n ih =>
  show IntKind.i64.wrap (zq ts (λk=>IntKind.i64.wrap (f k)) n+ts.getD n 0*IntKind.i64.wrap (f n))=IntKind.i64.wrap (zq ts f n+ts.getD n 0*f n)
  rw[←zin,ih,zin,←zfR,zl5,zfR]
theorem zxy {I:Im} {S:Stg} {x0 y C n i c:Nat} (hc:c<C) (hi:i*C+c<n):IntKind.i64.wrap (zq (zf S.ly y).2 (λk=>(zc9 I S x0 C n ((zf S.ly y).1+(k:Int))).getD (i*C+c) 0) (zf S.ly y).2.length)=zbA I S (x0+i) y (c:Int):=by
 unfold zbA;rw[zxv,←zrX _ (λk=>zgi I S ((zf S.ly y).1+(k:Int)) (x0+i) (c:Int))]
 congr 1
 refine zbX (λk _=>?_);obtain⟨e1,e2⟩:=zfz (i:=i) hc;rw[zjz hi,e1,e2]
def zfp (A C x0 y m:Nat) (p:Nat):Bool:=decide ((y*A+x0)*C<=p/\p<(y*A+x0)*C+m)
theorem zbY {A C x0 y p:Nat}:zfp A C x0 y 0 p=false:=by
 unfold zfp;exact decide_eq_false (by omega)
theorem zqD {A C x0 y m p:Nat}:(zfp A C x0 y m p || p == (y*A+x0)*C+m)=zfp A C x0 y (m+1) p:=by
 unfold zfp;generalize (y*A+x0)*C=b;rw[Bool.eq_iff_iff,Bool.or_eq_true,decide_eq_true_iff,decide_eq_true_iff,beq_iff_eq];omega
theorem zsF {A C x0 W y p:Nat} (hC:1<=C) (hA:x0+W<=A):zfp A C x0 y (W*C) p=true↔(x0<=p / C % A/\p / C % A<x0+W/\p / C / A=y):=by
 unfold zfp;rw[decide_eq_true_iff,←Nat.add_mul,←Nat.le_div_iff_mul_le (by omega),←Nat.div_lt_iff_lt_mul (by omega)];generalize p / C=q;have e:=Nat.div_add_mod q A
 constructor
 ·rintro ⟨h1,h2⟩;have hy:q / A=y:=by
   refine Nat.div_eq_of_lt_le (by omega) ?_;rw[Nat.succ_mul];omega
  rw[hy,Nat.mul_comm A y]at e;omega
 ·rintro ⟨h1,h2,h3⟩;rw[h3,Nat.mul_comm A y]at e;omega
theorem zoL {A C x0 W y0 k p:Nat} (hC:1<=C) (hA:x0+W<=A):(zc5 A C x0 W y0 k p || zfp A C x0 (y0+k) (W*C) p)=zc5 A C x0 W y0 (k+1) p:=by
 rw[Bool.eq_iff_iff,Bool.or_eq_true,zep,zsF hC hA,zep];omega
def zac (O I:Im) (S:Stg) (x0 W y0 k m:Nat):Im:=zbI O (zbs I S) (λp=>zc5 S.lx.length I.ic.toNat x0 W y0 k p || zfp S.lx.length I.ic.toNat x0 (y0+k) m p)
theorem zgr (O I:Im) (S:Stg) (x0 W y0:Nat):zac O I S x0 W y0 0 0=O:=zjZ (λp _=>by rw[zop,zbY];rfl)
theorem zsT {O I:Im} {S:Stg} {x0 W y0 k:Nat} (hC:1<=I.ic.toNat) (hA:x0+W<=S.lx.length):zac O I S x0 W y0 k (W*I.ic.toNat)=zac O I S x0 W y0 (k+1) 0 :=
 zb3 (λp _=>by rw[zoL hC hA,zbY,Bool.or_false]) (λ_ _ _=>rfl)
theorem zp4 {O I:Im} {S:Stg} {x0 W y0 k i c:Nat} (hw:O.iw=(S.lx.length:Int)) (hc:O.ic=I.ic) (hCn:(I.ic.toNat:Int)=I.ic) (h2:c<I.ic.toNat) (h3:x0+i<S.lx.length)
  (hs:zbp O ((x0+i:Nat):Int) ((y0+k:Nat):Int) (c:Int) (zaM (zbA I S (x0+i) (y0+k) (c:Int)) I.it)=true) :
  zcs (zac O I S x0 W y0 k (i*I.ic.toNat+c)) ((x0+i:Nat):Int) ((y0+k:Nat):Int) (c:Int) (zaM (zbA I S (x0+i) (y0+k) (c:Int)) I.it)=zac O I S x0 W y0 k (i*I.ic.toNat+c+1):=by
 have hp:(zL O ((x0+i:Nat):Int) ((y0+k:Nat):Int) (c:Int)).toNat=((y0+k)*S.lx.length+(x0+i))*I.ic.toNat+c:=by
  unfold zL zcc;rw[hw,hc,←hCn,←Int.natCast_mul,←Int.natCast_add,←Int.natCast_mul,←Int.natCast_add];exact Int.toNat_natCast _
 unfold zac;rw[zk2 hs hp (zgA h2 h3).symm];refine zb3 (λp _=>?_) (λ_ _ _=>rfl);rw[←zqD (m:=i*I.ic.toNat+c),Bool.or_assoc]
 congr 2
 rw[←Nat.add_assoc ((y0+k)*S.lx.length),Nat.add_mul _ i,Nat.add_assoc]
theorem zix {O I:Im} {S:Stg} {x0 W y0 h k:Nat} (hk:k<=h):zac (zac O I S x0 W y0 k 0) I S x0 W (y0+k) (h-k) 0=zac O I S x0 W y0 h 0:=by
 unfold zac;rw[zj9];refine zb3 (λp _=>?_) (λ_ _ _=>rfl);rw[zbY,zbY,zbY,Bool.or_false,Bool.or_false,Bool.or_false,zhB hk]
theorem zmt {O I:Im} {S:Stg} {x0 W y0 h k:Nat} (hk:k<=h):zac (zac O I S x0 W (y0+k) (h-k) 0) I S x0 W y0 k 0=zac O I S x0 W y0 h 0:=by
 unfold zac;rw[zj9];refine zb3 (λp _=>?_) (λ_ _ _=>rfl);rw[zbY,zbY,zbY,Bool.or_false,Bool.or_false,Bool.or_false,Bool.or_comm,zhB hk]
end Go.Proofs.YtlodkoimdoeopaaGreatDoor
