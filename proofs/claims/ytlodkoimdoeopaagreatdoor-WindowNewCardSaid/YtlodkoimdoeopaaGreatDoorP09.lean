/- Parts, joined. -/
import Derived.Test.YtlodkoimdoeopaaGreatDoorP08
import Derived.Test.YtlodkoimdoeopaaGreatDoorP02
import Derived.Test.YtlodkoimdoeopaaGreatDoorP01
import Derived.ProofKit
import Derived.OpenShut
namespace Go.Proofs.YtlodkoimdoeopaaGreatDoor
open Go.RowKit
def zbP (l:List Int):List Int:=l.map λx=>zM (x*1073741824) (zP l)
def ze1 (l:List Int):Prop:=l.length % 2=1/\l.length<=1024/\1<=zP l/\zP l<=1048576
theorem zo4 (xs:List Int) (ad:Option Addr) (cap:Nat) (w:World) (hr:RowAt .i64 w ad xs) (hx:zad xs) (hl:xs.length<=9223372036854775807) (h:¬ze1 xs) :
  Calls Tryz.prog 160 #[.slice ad xs.length cap] w λe w'=>e=.returned (.tuple #[.slice none 0 0,.int .i64 7])/\Below w.heap.size w w':=by
 have CS:=λw hr=>zib xs ad cap w hr hx hl
 obtain⟨s0,s1⟩:=zdf xs;unfold ze1 at h;have HR:=za hr;clear hr hx;generalize zP xs=s at *;generalize xs.length=n at *
 by_cases a1:n % 2=1
 ·by_cases a2:n<=1024
  ·by_cases a3:1<=s
   ·have a4:1048576<s:=by omega
    have b1:((n:Int) % 2 == 0)=false:=beq_eq_false_iff_ne.2 (by omega);have b2:(s == 0)=false:=beq_eq_false_iff_ne.2 (by omega);clear h a1
    go_enter Tryz.func160,Tryz.ntmps160
    go_wp2_with (go_at_call 179;(with_reducible refine(CS _ HR.out).mono ?_);rintro e w1 ⟨rfl,rfl⟩)
    exact bodyPost_ret (v:=.tuple #[.slice none 0 0,.int .i64 7]) (by simp[results,Tryz.results160,go_sem]) rfl ⟨rfl,Below.refl _ _⟩
   ·obtain rfl:s=0:=by omega
    have b1:((n:Int) % 2 == 0)=false:=beq_eq_false_iff_ne.2 (by omega);clear h a1
    go_enter Tryz.func160,Tryz.ntmps160
    go_wp2_with (go_at_call 179;(with_reducible refine(CS _ HR.out).mono ?_);rintro e w1 ⟨rfl,rfl⟩)
    exact bodyPost_ret (v:=.tuple #[.slice none 0 0,.int .i64 7]) (by simp[results,Tryz.results160,go_sem]) rfl ⟨rfl,Below.refl _ _⟩
  ·have b1:((n:Int) % 2 == 0)=false:=beq_eq_false_iff_ne.2 (by omega);have b3:(1024:Int)<(n:Int):=by omega
   clear h a1
   go_enter Tryz.func160,Tryz.ntmps160
   go_wp2_with (go_at_call 179;(with_reducible refine(CS _ HR.out).mono ?_);rintro e w1 ⟨rfl,rfl⟩)
   exact bodyPost_ret (v:=.tuple #[.slice none 0 0,.int .i64 7]) (by simp[results,Tryz.results160,go_sem]) rfl ⟨rfl,Below.refl _ _⟩
 ·have b1:((n:Int) % 2 == 0)=true:=beq_iff_eq.2 (by omega);clear h a1
  go_enter Tryz.func160,Tryz.ntmps160
  go_wp2_with (go_at_call 179;(with_reducible refine(CS _ HR.out).mono ?_);rintro e w1 ⟨rfl,rfl⟩)
  exact bodyPost_ret (v:=.tuple #[.slice none 0 0,.int .i64 7]) (by simp[results,Tryz.results160,go_sem]) rfl ⟨rfl,Below.refl _ _⟩
set_option maxHeartbeats 4000000 in
set_option maxRecDepth 1000000 in
theorem zjR (xs:List Int) (ad:Option Addr) (cap:Nat) (w:World) (hr:RowAt .i64 w ad xs) (hx:zad xs) (h:ze1 xs) :
  Calls Tryz.prog 160 #[.slice ad xs.length cap] w λe w'=>∃ v,e=.returned (.tuple #[v,.int .i64 0])/\OwnI .i64 2 w' w.heap.size v (zbP xs)/\Below w.heap.size w w':=by
 obtain⟨p0,p1,s0,s1⟩:=h;have CS:=λw hr=>zib xs ad cap w hr hx (by omega)
 obtain⟨i0,hi,hz0,hz1,hz2⟩:=info_parts zg8;have HR:=za hr;have HX:=za hx;have HE:=za (show zbP xs=xs.map λx=>zM (x*1073741824) (zP xs) from rfl);clear hr hx;obtain⟨n,hn⟩:∃ n,xs.length=n:=⟨_,rfl⟩;have HN:=za hn;rw[hn]at p0 p1 CS ⊢;generalize zP xs=s at *;generalize zbP xs=us at *;have b1:((n:Int) % 2 == 0)=false:=beq_eq_false_iff_ne.2 (by omega);have b2:(s == 0)=false:=beq_eq_false_iff_ne.2 (by omega);clear hn p0
 go_enter Tryz.func160,Tryz.ntmps160
 go_wp2_with (go_at_call 179;(with_reducible refine(CS _ HR.out).mono ?_);rintro e w1 ⟨rfl,rfl⟩)
 clear CS
 go_loopw [5,29] (λu i wr=>∃ j:Nat,j<=n/\i=.int .i64 (j:Int)/\OwnI .i64 2 wr w.heap.size u ((xs.take j).map λx=>zM (x*1073741824) s)/\Below w.heap.size w wr) (λ_ i _=>n-(intOf i).toNat)
 case atStart=>exact⟨0,by omega,rfl,OwnI.nil _ _ _ _,Below.refl _ _⟩
 case round =>
  obtain⟨j,hj,rfl,ho,hb⟩:=hrel;have HO:=za ho;have HB:=za hb;clear ho hb
  by_cases hlt:j<n
  ·obtain⟨b,off,rfl,hc⟩:=(HR.out.below HB.out).get (show j<xs.length by rw[HN.out];exact hlt);obtain⟨x0,x1⟩:=HX.out j (by rw[HN.out];exact hlt);have CM:=λw=>zbx (xs.getD j 0) 1073741824 s _ rfl x0 x1 (by omega) (by omega) (by omega) (by omega) w
   have HT:=za (zb1 xs (show j<xs.length by rw[HN.out];exact hlt));have HL:=za (show((xs.take j).map λx=>zM (x*1073741824) s).length=j by rw[List.length_map,List.length_take];have:=HN.out;omega);generalize xs.getD j 0=x at *;generalize hqe:zM (x*1073741824) s=q at *;have HQE:=za hqe;clear hqe
   go_wp2_with (first
    |(go_at_call 180;(with_reducible refine(CM _).mono ?_);rintro e w2 ⟨rfl,b2⟩)
    |(at_builtin;refine wpList_append_own _ rfl _ _ 28 rfl w.heap.size 2 i0 (.int .i64 0) 1 8 Tryz.underlying28 hi hz0 hz1 hz2 rfl (by decide) _ _ _ rfl ((HO.out.below b2).alloc _) ⟨w2.heap.size,0,none⟩ 1 1 [.int .i64 q] rfl rfl (zeg _ _ _) (zeS _ _) (by rw[HL.out];unfold maxLen;omega) (by rw[HL.out];omega) (by have:=HB.out.size;have:=b2.size;simp;omega) ?_;intro u' w3 own3 grow3 _))
   have R:=za (zjg (bt HB.out b2) (HO.out.below b2) own3 grow3);clear own3 grow3 b2 CM;go_wp2
   go_roundw
   case rel=>exact⟨j+1,by omega,by go_num,by rw[HT.out,List.map_append,List.map_singleton,HQE.out];exact R.out.1,R.out.2⟩
   case measure=>simp[intOf];omega
  ·obtain rfl:j=n:=by omega
   have et:xs.take j=xs:=List.take_of_length_le (by rw[HN.out];exact Nat.le_refl _);have O2:=HO.out;rw[et,←HE.out]at O2;have HO2:=za O2;clear O2 HO et;go_wp2;exact bodyPost_ret (v:=.tuple #[_,.int .i64 0]) (by simp[results,Tryz.results160,go_sem]) rfl ⟨_,rfl,HO2.out,HB.out⟩
def zdO (s:Int):Int:=(3*s+65535) / 65536
def zbM (r s:Int) (j:Nat):List Int:=(List.range j).map λk:Nat=>zc1 ((k:Int)-r) s
theorem zhO (r s:Int) (j:Nat):zbM r s (j+1)=zbM r s j++[zc1 ((j:Int)-r) s]:=by unfold zbM;rw[List.range_succ,List.map_append];rfl
theorem zcx (r s:Int) (j:Nat):(zbM r s j).length=j:=by unfold zbM;rw[List.length_map,List.length_range]
def zc0 (s:Int):List Int:=zbM (zdO s) s (2*(zdO s).toNat+1)
theorem zjJ (s:Int) (h:s<1\/4194304<s) (w:World) :
  Calls Tryz.prog 158 #[.int .i64 s] w λe w'=>e=.returned (.tuple #[.slice none 0 0,.int .i64 7])/\Below w.heap.size w w':=by
 rcases h with h|h
 all_goals
  go_enter Tryz.func158,Tryz.ntmps158
  go_wp2;exact bodyPost_ret (v:=.tuple #[.slice none 0 0,.int .i64 7]) (by simp[results,Tryz.results158,go_sem]) rfl ⟨rfl,Below.refl _ _⟩
set_option maxHeartbeats 4000000 in
set_option maxRecDepth 1000000 in
theorem zkT (s:Int) (s0:1<=s) (s1:s<=4194304) (w:World) :
  Calls Tryz.prog 158 #[.int .i64 s] w λe w'=>∃ v,e=.returned (.tuple #[v,.int .i64 0])/\OwnI .i64 2 w' w.heap.size v (zc0 s)/\Below w.heap.size w w':=by
 obtain⟨i0,hi,hz0,hz1,hz2⟩:=info_parts zg8;obtain⟨r,hr⟩:∃ r,zdO s=r:=⟨_,rfl⟩;have hr2:=hr;unfold zdO at hr2;have r0:0<=r:=by omega
 have r1:r<=192:=by omega
 have ra:3*s<=r*65536:=by omega
 have rb:r*65536<3*s+65536:=by omega
 have HG:=za (show zc0 s=zbM r s (2*r.toNat+1) by unfold zc0;rw[hr]);generalize zc0 s=gs at *;clear hr hr2
 go_enter Tryz.func158,Tryz.ntmps158
 go_wp2
 go_loop [4] (λx=>∃ t:Int,x=.int .i64 t/\0<=t/\t<=r) (λx=>(r-intOf x).toNat)
 case atStart=>exact⟨0,rfl,by omega,r0⟩
 case round =>
  obtain⟨t,rfl,t0,t1⟩:=hrel
  by_cases hlt:t<r
  ·have g:t*65536<3*s:=by omega
   go_wp2
   go_round
   case rel=>exact⟨t+1,by go_num,by omega,by omega⟩
   case measure=>simp[intOf];omega
  ·obtain rfl:t=r:=by omega
   have g:¬t*65536<3*s:=by omega
   go_wp2
   go_loopw [5,6] (λu d wr=>∃ j:Nat,(j:Int)<=2*t+1/\d=.int .i64 ((j:Int)-t)/\OwnI .i64 2 wr w.heap.size u (zbM t s j)/\Below w.heap.size w wr) (λ_ d _=>(2*t+2-(intOf d+t)).toNat)
   case atStart=>exact⟨0,by omega,by simp,OwnI.nil _ _ _ _,Below.refl _ _⟩
   case round =>
    obtain⟨j,hj,rfl,ho,hb⟩:=hrel;have HO:=za ho;have HB:=za hb;clear ho hb
    by_cases hlt2:(j:Int)<2*t+1
    ·have CG:=λw=>zn1 ((j:Int)-t) s (by omega) (by omega) (by omega) (by omega) w
     have HL:=za (zcx t s j);have HRS:=za (zhO t s j);generalize zc1 ((j:Int)-t) s=q at *
     go_wp2_with (first
      |(go_at_call 178;(with_reducible refine(CG _).mono ?_);rintro e w2 ⟨rfl,b2⟩)
      |(at_builtin;refine wpList_append_own _ rfl _ _ 28 rfl w.heap.size 2 i0 (.int .i64 0) 1 8 Tryz.underlying28 hi hz0 hz1 hz2 rfl (by decide) _ _ _ rfl ((HO.out.below b2).alloc _) ⟨w2.heap.size,0,none⟩ 1 1 [.int .i64 q] rfl rfl (zeg _ _ _) (zeS _ _) (by rw[HL.out];unfold maxLen;omega) (by rw[HL.out];omega) (by have:=HB.out.size;have:=b2.size;simp;omega) ?_;intro u' w3 own3 grow3 _))
     have R:=za (zjg (bt HB.out b2) (HO.out.below b2) own3 grow3);clear own3 grow3 b2 CG;go_wp2
     go_roundw
     case rel=>exact⟨j+1,by omega,by first|go_num|(rw[show((j+1:Nat):Int)-t=(j:Int)-t+1 by omega]),by rw[HRS.out];exact R.out.1,R.out.2⟩
     case measure=>simp[intOf];omega
    ·have ej:j=2*t.toNat+1:=by omega
     have O2:=HO.out;rw[ej,←HG.out]at O2;have HO2:=za O2;clear O2 HO ej;go_wp2;exact bodyPost_ret (v:=.tuple #[_,.int .i64 0]) (by simp[results,Tryz.results158,go_sem]) rfl ⟨_,rfl,HO2.out,HB.out⟩
theorem zox (r:Int) (h:r<0\/511<r) (w:World) :
  Calls Tryz.prog 159 #[.int .i64 r] w λe w'=>e=.returned (.tuple #[.slice none 0 0,.int .i64 7])/\Below w.heap.size w w':=by
 rcases h with h|h
 all_goals
  go_enter Tryz.func159,Tryz.ntmps159
  go_wp2;exact bodyPost_ret (v:=.tuple #[.slice none 0 0,.int .i64 7]) (by simp[results,Tryz.results159,go_sem]) rfl ⟨rfl,Below.refl _ _⟩
theorem zhc (n:Nat) (h:n<=2000):zP (List.replicate n 1)=n:=by
 induction n with
 |zero=>rfl
 |succ n ih =>
  rw[List.replicate_succ',zeL,ih (by omega)];have e:zaI 1=1:=by decide
  rw[e];unfold zcE;rw[zH (by omega) (by omega)];omega
theorem zlh (r:Nat) (h:r<=511):ze1 (List.replicate (2*r+1) 1):=by
 unfold ze1;rw[zhc _ (by omega),List.length_replicate];omega
theorem zpr (n:Nat):zad (List.replicate n 1):=by
 intro j hj;rw[List.getD_eq_getElem?_getD,List.getElem?_eq_getElem hj,List.getElem_replicate]
 simp
set_option maxHeartbeats 4000000 in
set_option maxRecDepth 1000000 in
theorem zrb (r:Nat) (h:r<=511) (w:World) :
  Calls Tryz.prog 159 #[.int .i64 (r:Int)] w λe w'=>∃ v,e=.returned (.tuple #[v,.int .i64 0])/\OwnI .i64 2 w' w.heap.size v (zbP (List.replicate (2*r+1) 1))/\Below w.heap.size w w':=by
 obtain⟨i0,hi,hz0,hz1,hz2⟩:=info_parts zg8;have HU:=za (zlh r h);have HG:=za (show ∀ u:List Int,u=zbP (List.replicate (2*r+1) 1)->u=zbP (List.replicate (2*r+1) 1) from λ_ h=>h);obtain⟨us,hus⟩:∃ us,us=zbP (List.replicate (2*r+1) 1):=⟨_,rfl⟩;have HUS:=za hus;rw[←hus];clear hus HG
 go_enter Tryz.func159,Tryz.ntmps159
 go_wp2
 go_loopw [4,14] (λu i wr=>∃ j:Nat,j<=2*r+1/\i=.int .i64 (j:Int)/\OwnI .i64 2 wr w.heap.size u (List.replicate j 1)/\Below w.heap.size w wr) (λ_ i _=>2*r+1-(intOf i).toNat)
 case atStart=>exact⟨0,by omega,rfl,OwnI.nil _ _ _ _,Below.refl _ _⟩
 case round =>
  obtain⟨j,hj,rfl,ho,hb⟩:=hrel;have HO:=za ho;have HB:=za hb;clear ho hb
  by_cases hlt:j<2*r+1
  ·have HL:=za (show(List.replicate j (1:Int)).length=j from List.length_replicate);have HRS:=za (show List.replicate (j+1) (1:Int)=List.replicate j 1++[1] from List.replicate_succ');have hlt':(j:Int)<2*(r:Int)+1:=by omega
   go_wp2_with (at_builtin;refine wpList_append_own _ rfl _ _ 28 rfl w.heap.size 2 i0 (.int .i64 0) 1 8 Tryz.underlying28 hi hz0 hz1 hz2 rfl (by decide) _ _ _ rfl (HO.out.alloc _) ⟨wr.heap.size,0,none⟩ 1 1 [.int .i64 1] rfl rfl (zeg _ _ _) (zeS _ _) (by rw[HL.out];unfold maxLen;omega) (by rw[HL.out];omega) (by have:=HB.out.size;simp;omega) ?_;intro u' w3 own3 grow3 _)
   have R:=za (zjg HB.out HO.out own3 grow3);clear own3 grow3;go_wp2
   go_roundw
   case rel=>exact⟨j+1,by omega,by go_num,by rw[HRS.out];exact R.out.1,R.out.2⟩
   case measure=>simp[intOf];omega
  ·obtain rfl:j=2*r+1:=by omega
   have hge:¬((2*r+1:Nat):Int)<2*(r:Int)+1:=by omega
   obtain⟨ad,cap,rfl,RA,_⟩:=HO.out.form;have CU:=zjR (List.replicate (2*r+1) 1) ad cap wr RA (zpr _) HU.out;rw[←HUS.out]at CU;rw[List.length_replicate]at CU ⊢;clear RA HU HUS hlt hj
   go_wp2_with (go_at_call 160;(with_reducible refine CU.mono ?_);rintro e w2 ⟨v,rfl,ov,b2⟩)
   exact bodyPost_ret (v:=.tuple #[v,.int .i64 0]) (by simp[results,Tryz.results159,go_sem]) rfl ⟨_,rfl,ov.mono HB.out.size,bt HB.out b2⟩
def AllK (k:IntKind) (xs:List Int):Prop:=∀ n ∈ xs,(Lit.int k n).wf=true
theorem zm0 {k:IntKind} {w:World} {a:Option Addr} {len cap:Nat}
  (h:(a=none/\len=0/\cap=0)\/∃ (x:Addr) (zs:List Int),a=some x/\len<=cap/\cap<=maxLen/\zs.length=cap/\(∀ i,i<zs.length->w.cell? (x.add i)=some (.int k (zs.getD i 0)))/\∀ n ∈ zs,(Lit.int k n).wf=true) :
  ∃ xs:List Int,xs.length=len/\RowAt k w a xs/\AllK k xs/\xs.length<=maxLen/\(a=none->cap=0):=by
 rcases h with⟨rfl,rfl,rfl⟩|⟨x,zs,rfl,hl,hm,hz,hc,hw⟩
 ·exact⟨[],rfl,Or.inl rfl,(λn hn=>by cases hn),by simp,λ_=>rfl⟩
 ·refine⟨zs.take len,by rw[List.length_take];omega,?_,λn hn=>hw n (List.mem_of_mem_take hn),by rw[List.length_take];omega,λh=>by cases h⟩
  by_cases h0:len=0
  ·subst h0;exact Or.inl rfl
  ·obtain⟨b,off,rfl,c⟩:=ints_at hc (by omega);refine Or.inr ⟨b,off,rfl,λj hj=>?_⟩;rw[List.length_take]at hj;have:=c j (by omega);rw[this,List.getD_eq_getElem?_getD,List.getD_eq_getElem?_getD,List.getElem?_take,if_pos (by omega)]
theorem zky {k:IntKind} {xs:List Int} (h:AllK k xs) {j:Nat} (hj:j<xs.length):(Lit.int k (xs.getD j 0)).wf=true:=by
 rw[List.getD_eq_getElem?_getD,List.getElem?_eq_getElem hj];exact h _ (List.getElem_mem hj)
theorem zwg {xs:List Int} (h:AllK .i64 xs) {j:Nat} (hj:j<xs.length) : -9223372036854775808<=xs.getD j 0/\xs.getD j 0<=9223372036854775807:=by
 simpa [Lit.wf,IntKind.min,IntKind.max,IntKind.signed,IntKind.bits] using zky h hj
theorem zyL {xs:List Int} (h:AllK .i32 xs) {j:Nat} (hj:j<xs.length) : -2147483648<=xs.getD j 0/\xs.getD j 0<=2147483647:=by
 simpa [Lit.wf,IntKind.min,IntKind.max,IntKind.signed,IntKind.bits] using zky h hj
theorem zyT {xs:List Int} (h:AllK .u8 xs) {j:Nat} (hj:j<xs.length):0<=xs.getD j 0/\xs.getD j 0<=255:=by
 simpa [Lit.wf,IntKind.min,IntKind.max,IntKind.signed,IntKind.bits] using zky h hj
def Ret (k:IntKind) (xs:List Int) (w:World) (v:Value):Prop:=∃ ad cap,v=.slice ad xs.length cap/\RowAt k w ad xs
theorem OwnI.ret {k:IntKind} {T:TypeId} {w:World} {base:Nat} {v:Value} {xs:List Int} (h:OwnI k T w base v xs):Ret k xs w v:=by
 obtain⟨ad,cap,h1,h2,_⟩:=h.form;exact⟨ad,cap,h1,h2⟩
theorem zcH (k:IntKind) (w:World) (ad:Option Addr) (cap:Nat):Ret k [] w (.slice ad 0 cap):=⟨ad,cap,rfl,Or.inl rfl⟩
theorem Ret.below {k:IntKind} {xs:List Int} {w w':World} {v:Value} (h:Ret k xs w v) (hb:Below w.heap.size w w'):Ret k xs w' v:=by
 obtain⟨ad,cap,h1,h2⟩:=h;exact⟨ad,cap,h1,h2.below hb⟩
theorem Ret.formn {k:IntKind} {w:World} {n:Nat} {v:Value} {xs:List Int} (h:Ret k xs w v) (hn:xs.length=n):∃ ad cap,v=.slice ad n cap/\RowAt k w ad xs:=by subst hn;exact h
def zfR (l:List Int):Bool:=decide (l.length<1) || decide (1048576<l.length) || l.any (λx=>decide (x < -1099511627776) || decide (1099511627776<x))
def zV (l:List Int):Int:=if zfR l=true then 7 else if zq l<268435456 then 8 else 0
def zc3 (l:List Int):List Int:=if zV l=0 then zG l else[]
theorem zeV (l:List Int):zfR l=true↔l.length<1\/1048576<l.length\/¬∀ x ∈ l,zaa x:=by
 unfold zfR zaa;rw[Bool.or_eq_true,Bool.or_eq_true,decide_eq_true_eq,decide_eq_true_eq,List.any_eq_true]
 constructor
 ·rintro ((h|h)|⟨x,hx,h⟩)
  ·exact Or.inl h
  ·exact Or.inr (Or.inl h)
  ·refine Or.inr (Or.inr λg=>?_);have:=g x hx;simp at h;omega
 ·rintro (h|h|h)
  ·exact Or.inl (Or.inl h)
  ·exact Or.inl (Or.inr h)
  ·refine Or.inr ?_;simp only[Classical.not_forall]at h;obtain⟨x,hx,g⟩:=h;refine⟨x,hx,?_⟩
   simp
   omega
theorem zas {l:List Int}:zV l=0↔Fits l:=by
 unfold zV;have B:=zeV l
 constructor
 ·intro h
  by_cases g:zfR l=true
  ·rw[if_pos g]at h;omega
  ·rw[if_neg g]at h
   by_cases g2:zq l<268435456
   ·rw[if_pos g2]at h;omega
   ·have nb:¬(l.length<1\/1048576<l.length\/¬∀ x ∈ l,zaa x):=λq=>g (B.2 q)
    refine⟨?_,?_,?_,by omega⟩
    ·by_cases q:l.length<1
     ·exact absurd (Or.inl q) nb
     ·omega
    ·by_cases q:1048576<l.length
     ·exact absurd (Or.inr (Or.inl q)) nb
     ·omega
    ·exact Classical.byContradiction λq=>nb (Or.inr (Or.inr q))
 ·rintro ⟨h0,h1,h2,h3⟩;have g:¬zfR l=true:=λq=>by
   rcases B.1 q with h|h|h
   ·omega
   ·omega
   ·exact h h2
  rw[if_neg g,if_neg (by omega)]
theorem zp8 (xs:List Int) (ad:Option Addr) (cap:Nat) (w:World) (hr:RowAt .i64 w ad xs) (hx:zad xs) (hl:xs.length<=9223372036854775807) :
  Calls Tryz.prog 177 #[.slice ad xs.length cap] w λe w'=>∃ v,e=.returned (.tuple #[v,.int .i64 (zV xs)])/\Ret .i64 (zc3 xs) w' v/\Below w.heap.size w w':=by
 by_cases hf:Fits xs
 ·have e:=zas.2 hf;have e2:zc3 xs=zG xs:=by unfold zc3;rw[if_pos e]
  rw[e,e2];refine(zi5 xs ad cap w hr hx hf).mono ?_;rintro e w1 ⟨v,rfl,o,b⟩;exact⟨v,rfl,o.ret,b⟩
 ·have e:zV xs≠0:=λg=>hf (zas.1 g)
  have e2:zc3 xs=[]:=by unfold zc3;rw[if_neg e]
  rw[e2]
  by_cases hb:zfR xs=true
  ·have e3:zV xs=7:=by unfold zV;rw[if_pos hb]
   rw[e3]
   by_cases g:xs.length<1\/1048576<xs.length
   ·refine(zqj xs ad cap w hl g).mono ?_;rintro e w1 ⟨rfl,b⟩;exact⟨_,rfl,zcH _ _ _ _,b⟩
   ·have g2:¬∀ x ∈ xs,zaa x:=by
     rcases(zeV xs).1 hb with h|h|h
     ·exact absurd (Or.inl h) g
     ·exact absurd (Or.inr h) g
     ·exact h
    refine(zp5 xs ad cap w hr hx (by omega) (by omega) g2).mono ?_;rintro e w1 ⟨rfl,b⟩;exact⟨_,rfl,zcH _ _ _ _,b⟩
  ·have nb:¬(xs.length<1\/1048576<xs.length\/¬∀ x ∈ xs,zaa x):=λq=>hb ((zeV xs).2 q)
   have h0:1<=xs.length:=by
    by_cases q:xs.length<1
    ·exact absurd (Or.inl q) nb
    ·omega
   have h1:xs.length<=1048576:=by
    by_cases q:1048576<xs.length
    ·exact absurd (Or.inr (Or.inl q)) nb
    ·omega
   have h2:∀ x ∈ xs,zaa x:=Classical.byContradiction λq=>nb (Or.inr (Or.inr q))
   have h3:zq xs<268435456:=by
    by_cases q:zq xs<268435456
    ·exact q
    ·exact absurd ⟨h0,h1,h2,by omega⟩ hf
   have e3:zV xs=8:=by unfold zV;rw[if_neg hb,if_pos h3]
   rw[e3];refine(zqE xs ad cap w hr hx h0 h1 h2 h3).mono ?_;rintro e w1 ⟨rfl,b⟩;exact⟨_,rfl,zcH _ _ _ _,b⟩
def zgf (l:List Int):Bool:=decide (l.length % 2=1) && decide (l.length<=1024) && decide (1<=zP l) && decide (zP l<=1048576)
theorem zdB (l:List Int):zgf l=true↔ze1 l:=by unfold zgf ze1;simp;omega
def zX (l:List Int):Int:=if zgf l=true then 0 else 7
def zJ (l:List Int):List Int:=if zgf l=true then zbP l else[]
theorem ziX (xs:List Int) (ad:Option Addr) (cap:Nat) (w:World) (hr:RowAt .i64 w ad xs) (hx:zad xs) (hl:xs.length<=9223372036854775807) :
  Calls Tryz.prog 160 #[.slice ad xs.length cap] w λe w'=>∃ v,e=.returned (.tuple #[v,.int .i64 (zX xs)])/\Ret .i64 (zJ xs) w' v/\Below w.heap.size w w':=by
 unfold zX zJ
 by_cases hu:zgf xs=true
 ·rw[if_pos hu,if_pos hu];refine(zjR xs ad cap w hr hx ((zdB xs).1 hu)).mono ?_;rintro e w1 ⟨v,rfl,o,b⟩;exact⟨v,rfl,o.ret,b⟩
 ·rw[if_neg hu,if_neg hu];refine(zo4 xs ad cap w hr hx hl (λq=>hu ((zdB xs).2 q))).mono ?_;rintro e w1 ⟨rfl,b⟩;exact⟨_,rfl,zcH _ _ _ _,b⟩
def zbh (s:Int):Int:=if 1<=s/\s<=4194304 then 0 else 7
def zS (s:Int):List Int:=if 1<=s/\s<=4194304 then zc0 s else[]
theorem zjK (s:Int) (w:World) :
  Calls Tryz.prog 158 #[.int .i64 s] w λe w'=>∃ v,e=.returned (.tuple #[v,.int .i64 (zbh s)])/\Ret .i64 (zS s) w' v/\Below w.heap.size w w':=by
 unfold zbh zS
 by_cases h:1<=s/\s<=4194304
 ·rw[if_pos h,if_pos h];refine(zkT s h.1 h.2 w).mono ?_;rintro e w1 ⟨v,rfl,o,b⟩;exact⟨v,rfl,o.ret,b⟩
 ·rw[if_neg h,if_neg h];refine(zjJ s (by omega) w).mono ?_;rintro e w1 ⟨rfl,b⟩;exact⟨_,rfl,zcH _ _ _ _,b⟩
def za9 (r:Int):Int:=if 0<=r/\r<=511 then 0 else 7
def zL (r:Int):List Int:=if 0<=r/\r<=511 then zbP (List.replicate (2*r.toNat+1) 1) else[]
theorem zoE (r:Int) (w:World) :
  Calls Tryz.prog 159 #[.int .i64 r] w λe w'=>∃ v,e=.returned (.tuple #[v,.int .i64 (za9 r)])/\Ret .i64 (zL r) w' v/\Below w.heap.size w w':=by
 unfold za9 zL
 by_cases h:0<=r/\r<=511
 ·rw[if_pos h,if_pos h];obtain⟨n,rfl⟩:∃ n:Nat,r=(n:Int):=⟨r.toNat,by omega⟩;refine(zrb n (by omega) w).mono ?_;rintro e w1 ⟨v,rfl,o,b⟩;exact⟨v,rfl,o.ret,b⟩
 ·rw[if_neg h,if_neg h];refine(zox r (by omega) w).mono ?_;rintro e w1 ⟨rfl,b⟩;exact⟨_,rfl,zcH _ _ _ _,b⟩
def zyI (K:World->Prop):Prop:=∀ (xs:List Int) (ad:Option Addr) (cap:Nat) (w:World),K w->RowAt .i64 w ad xs->zad xs->xs.length<=9223372036854775807 ->
 Calls Tryz.prog 142 #[.slice ad xs.length cap] w λe w'=>∃ v,e=.returned (.tuple #[v,.int .i64 (zV xs)])/\Ret .i64 (zc3 xs) w' v/\Below w.heap.size w w'
def zyS (K:World->Prop):Prop:=∀ (s:Int) (w:World),K w->-9223372036854775808<=s->s<=9223372036854775807 ->
 Calls Tryz.prog 144 #[.int .i64 s] w λe w'=>∃ v,e=.returned (.tuple #[v,.int .i64 (zbh s)])/\Ret .i64 (zS s) w' v/\Below w.heap.size w w'
def LinesAt (w:World) (g:Nat) (L:List (Int×List Int)):Prop :=
 ∀ j,j<L.length->w.cell? ⟨g,j*2,none⟩=some (.int .i64 (ze L j).1)/\∃ u,w.cell? ⟨g,j*2+1,none⟩=some u/\Ret .i64 (ze L j).2 w u
theorem LinesAt.below {w w':World} {g:Nat} {L:List (Int×List Int)} (h:LinesAt w g L) (hb:Below w.heap.size w w'):LinesAt w' g L:=by
 intro j hj;obtain⟨h1,u,h2,h3⟩:=h j hj;exact⟨cb hb (zf h1) h1,u,cb hb (zf h2) h2,h3.below hb⟩
def zdz:List (Int×List Int)->List Value->List Value
 |x :: L,u :: us=>.int .i64 x.1 :: u :: zdz L us
 |_,_=>[]
theorem zof {L:List (Int×List Int)} {us:List Value} (h:us.length=L.length) (x:Int×List Int) (u:Value):zdz (L++[x]) (us++[u])=zdz L us++[.int .i64 x.1,u]:=by
 induction L generalizing us with
 |nil=>rw[List.eq_nil_of_length_eq_zero h];rfl
 |cons y L ih =>
  cases us with
  |nil=>simp at h
  |cons v us =>
   show _ :: _ :: zdz (L++[x]) (us++[u])=_
   rw[ih (by simpa using h)];rfl
theorem zq7 {L:List (Int×List Int)} {us:List Value} (h:us.length=L.length) {j:Nat} (hj:j<L.length):(zdz L us)[2*j]?=some (.int .i64 (ze L j).1)/\(zdz L us)[2*j+1]?=some (us.getD j undef):=by
 induction L generalizing us j with
 |nil=>simp at hj
 |cons y L ih =>
  cases us with
  |nil=>simp at h
  |cons v us =>
   cases j with
   |zero=>exact⟨rfl,rfl⟩
   |succ j =>
    have:=ih (us:=us) (by simpa using h) (j:=j) (by simpa using hj)
    show(Value.int .i64 y.1 :: v :: zdz L us)[2*(j+1)]?=_/\(Value.int .i64 y.1 :: v :: zdz L us)[2*(j+1)+1]?=_
    rw[show 2*(j+1)=2*j+1+1 by omega];exact this
theorem zvW {us:List Value} {u:Value} {j:Nat} (h:j<us.length):(us++[u]).getD j undef=us.getD j undef:=by
 rw[List.getD_eq_getElem?_getD,List.getD_eq_getElem?_getD,List.getElem?_append_left h]
theorem zwd (us:List Value) (u:Value):(us++[u]).getD us.length undef=u:=by
 rw[List.getD_eq_getElem?_getD,List.getElem?_append_right (Nat.le_refl _),Nat.sub_self];rfl
def OwnLs (T:TypeId) (w:World) (base:Nat) (v:Value) (L:List (Int×List Int)):Prop :=
 ∃ us:List Value,us.length=L.length/\w.ownsRow base T 2 v L.length (zdz L us)/\∀ j,j<L.length->OwnI .i64 2 w base (us.getD j undef) (ze L j).2
theorem OwnLs.nil (T:TypeId) (w:World) (base:Nat):OwnLs T w base (.slice none 0 0) []:=⟨[],rfl,World.ownsRow_nil _ _ _ _,λ_ h=>absurd h (Nat.not_lt_zero _)⟩
theorem zhp {T:TypeId} {w w':World} {base k:Nat} {v:Value} {n:Nat} {xs:List Value} (h:w.ownsRow base T k v n xs) (hb:Below w.heap.size w w'):w'.ownsRow base T k v n xs:=by
 refine⟨h.1,?_⟩;rcases h.2 with h2|⟨g,cap,cur,hv,hB,hg,r⟩
 ·exact .inl h2
 ·refine .inr ⟨g,cap,cur,hv,hB,?_,r⟩;have hlt:g<w.heap.size:=by
   rcases Nat.lt_or_ge g w.heap.size with hlt|hge
   ·exact hlt
   ·rw[Array.getElem?_eq_none hge]at hg;cases hg
  rw[hb.block g hlt];exact hg
theorem OwnLs.below {T:TypeId} {w w':World} {base:Nat} {v:Value} {L:List (Int×List Int)} (h:OwnLs T w base v L) (hb:Below w.heap.size w w'):OwnLs T w' base v L:=by
 obtain⟨us,h1,h2,h3⟩:=h;exact⟨us,h1,zhp h2 hb,λj hj=>(h3 j hj).below hb⟩
theorem zgd {T T':TypeId} (hne:T≠T') {w:World} {base base' k k':Nat} {v v':Value} {n n':Nat} {xs xs':List Value} (h:w.ownsRow base T k v n xs) (h':w.ownsRow base' T' k' v' n' xs'):Apart v v':=by
 intro g hg hg';rcases h.2 with⟨hv,_⟩|⟨b,cap,cur,hv,_,hb,_⟩
 ·subst hv;cases hg
 ·rcases h'.2 with⟨hv',_⟩|⟨b',cap',cur',hv',_,hb',_⟩
  ·subst hv';cases hg'
  ·subst hv;subst hv';obtain rfl:=Option.some.inj hg;obtain rfl:=Option.some.inj hg';rw[hb]at hb'
   injection hb' with hb'
   injection hb' with _ ht
   exact hne ht
theorem OwnLs.more {T:TypeId} (hT:2≠T) {w0 wc w2:World} {v v' u:Value} {L:List (Int×List Int)} {x:Int×List Int} {o:Obj} (hb:Below w0.heap.size w0 wc) {us:List Value} (hu:us.length=L.length)
  (hown:wc.ownsRow w0.heap.size T 2 v L.length (zdz L us)) (hin:∀ j,j<L.length->OwnI .i64 2 wc w0.heap.size (us.getD j undef) (ze L j).2) (hx:OwnI .i64 2 wc w0.heap.size u x.2)
  (hown':w2.ownsRow w0.heap.size T 2 v' (L.length+1) (zdz L us++[.int .i64 x.1,u])) (hgrow:(wc.alloc o).grownBy w2 v.ownBlock) :
  OwnLs T w2 w0.heap.size v' (L++[x])/\Below w0.heap.size w0 w2:=by
 have hs:=hb.size;refine⟨⟨us++[u],by rw[List.length_append,List.length_append,hu];rfl,?_,?_⟩,(hb.alloc (by omega) o).grown hgrow (by simp;omega) (λj hj=>(World.ownsRow.lt hown j hj).1)⟩
 ·rw[zof hu,List.length_append];exact hown'
 ·intro j hj;have K:∀ {y:Value} {xs:List Int},OwnI .i64 2 wc w0.heap.size y xs->OwnI .i64 2 w2 w0.heap.size y xs:=λ{y xs} hy=>OwnI.kept (hy.alloc o) hgrow (zgd hT (hy.alloc o) (World.ownsRow.alloc hown o))
  rw[List.length_append,List.length_singleton]at hj
  by_cases e:j=L.length
  ·subst e;rw[zgZ,show(us++[u]).getD L.length undef=u by rw[←hu];exact zwd us u];exact K hx
  ·rw[zg0 x (by omega),zvW (by omega)];exact K (hin j (by omega))
theorem OwnLs.read {T:TypeId} {w:World} {base:Nat} {v:Value} {L:List (Int×List Int)} (h:OwnLs T w base v L) (h0:L≠[]):∃ g cap,v=.slice (some ⟨g,0,none⟩) L.length cap/\g<w.heap.size/\LinesAt w g L:=by
 obtain⟨us,h1,h2,h3⟩:=h;have hl:0<L.length:=List.length_pos_iff.2 h0;obtain⟨g,cap,hv,hlt⟩:∃ g cap,v=.slice (some ⟨g,0,none⟩) L.length cap/\g<w.heap.size:=by
  rcases h2.2 with⟨_,h0⟩|⟨g,cap,cur,hv,_,hg,_⟩
  ·omega
  ·refine⟨g,cap,hv,?_⟩;rcases Nat.lt_or_ge g w.heap.size with hlt|hge
   ·exact hlt
   ·rw[Array.getElem?_eq_none hge]at hg;cases hg
 subst hv;refine⟨g,cap,rfl,hlt,λj hj=>?_⟩;obtain⟨c1,c2⟩:=zq7 h1 hj;have e1:=World.ownsRow.cells h2 (g:=g) rfl _ _ c1;have e2:=World.ownsRow.cells h2 (g:=g) rfl _ _ c2;rw[zd0,Nat.zero_add]at e1 e2;rw[Nat.mul_comm 2 j]at e1 e2;exact⟨e1,_,e2,(h3 j hj).ret⟩
def mvC:List (Int×Int)->List Value
 |[]=>[]
 |m :: r=>.int .i64 m.1 :: .int .i64 m.2 :: mvC r
theorem zvu (P:List (Int×Int)) (m:Int×Int):mvC (P++[m])=mvC P++[.int .i64 m.1,.int .i64 m.2]:=by
 induction P with
 |nil=>rfl
 |cons x r ih=>show _ :: _ :: mvC (r++[m])=_;rw[ih];rfl
theorem zuv:(Tryz.prog.info? 62).map (λi=>(i.zero,i.size,i.bytes))=some (some (.agg #[.int .i64 0,.int .i64 0]),2,16):=by kernel_rfl
theorem zni:(Tryz.prog.info? 2).map (λi=>(i.zero,i.size,i.bytes))=some (some (.int .i64 0),1,8):=by kernel_rfl
theorem zv3 (w:World) (x y:Int) (t:TypeId):∀ j u,[Value.int .i64 x,.int .i64 y][j]?=some u->(w.alloc (.cells #[.int .i64 x,.int .i64 y] t)).cell? ((⟨w.heap.size,0,none⟩:Addr).add j)=some u:=by
 intro j u h
 match j,h with
 |0,h=>simp at h;subst h;simp[Addr.add]
 |1,h=>simp at h;subst h;simp[Addr.add]
structure StepS (w wr:World) (A:Option Nat) (p0 p1 bx vo vh:Value) (P:List (Int×Int)) (H:List Int):Prop where
 out:wr.ownsRow (w.heap.size+1) 62 2 vo P.length (mvC P)
 held:OwnO .i64 wr (w.heap.size+1) vh H
 apart:∀ g,vo.ownBlock=some g->vh.ownBlock≠some g
 box:wr.cell? ⟨w.heap.size,1,none⟩=some bx
 bel:Below w.heap.size w wr
 big:w.heap.size+1<=wr.heap.size
 pro:∀ a,A=some a->wr.cell? ⟨a,0,none⟩=some p0/\wr.cell? ⟨a,1,none⟩=some p1/\vo.ownBlock≠some a/\vh.ownBlock≠some a
theorem StepS.below {w wr w':World} {A:Option Nat} {p0 p1 bx vo vh:Value} {P:List (Int×Int)} {H:List Int} (h:StepS w wr A p0 p1 bx vo vh P H) (hb:Below wr.heap.size wr w'):StepS w w' A p0 p1 bx vo vh P H :=
 ⟨zhp h.out hb,h.held.below hb,h.apart,cb hb (zf h.box) h.box,bt h.bel hb,Nat.le_trans h.big hb.size,λa ha=>by
  obtain⟨q0,q1,q2⟩:=h.pro a ha;exact⟨cb hb (zf q0) q0,cb hb (zf q1) q1,q2⟩⟩
theorem zhI {w wc:World} {A:Option Nat} {p0 p1 bx vo vh:Value} {P:List (Int×Int)} {G:List Int} {ops:Array Oper} {rest:List Oper} {o:Oper} {a:Act} {Q:Exit->Act->World->Prop} {x y:Int} {s e:Operand} {H:Nat}
  (h:StepS w wc A p0 p1 bx vo vh P G) (hg:o.guard=none) (hop:o.op=Op.call { callee:=Callee.builtin Builtin.append,args:=#[s,e],argTypes:=#[58,58] }) (hs:a.eval s=vo) (hH:wc.heap.size=H) (he:a.eval e=.slice (some ⟨H,0,none⟩) 1 1) (hK:P.length<=1099511627776)
  (cont:∀ v' w',StepS w w' A p0 p1 bx v' vh (P++[(x,y)]) G->wpList Tryz.prog ops Q rest (a.put o.dst v') w'):wpList Tryz.prog ops Q (o :: rest) a (wc.alloc (.cells #[.int .i64 x,.int .i64 y] 62)):=by
 subst hH;obtain⟨i0,hi,hz0,hz1,hz2⟩:=info_parts zuv;have hb0:=h.big;refine zcd _ hg s e 58 hop (w.heap.size+1) 62 i0 (.agg #[.int .i64 0,.int .i64 0]) 2 16 Tryz.underlying58 hi hz0 hz1 hz2 rfl (by decide) vo P.length (mvC P) hs (World.ownsRow.alloc h.out _) ⟨wc.heap.size,0,none⟩ 1 1 [.int .i64 x,.int .i64 y] he rfl (zv3 _ _ _ _) (λq hq=>by
  simp at hq;rcases hq with rfl|rfl<;>rfl) (by unfold maxLen;omega) (by omega) (by simp;omega) ?_
 intro v' w' own' grow' hat;have gb:wc.grownBy w' vo.ownBlock:=⟨grow'.os,grow'.tape,grow'.output,by have:=grow'.size;simp at this;omega,λk hk hne=>(grow'.block k (by simp;omega) hne).trans (Below.heap_alloc _ _ _ hk)⟩;have fr:∀ g,vh.ownBlock=some g->g<wc.heap.size:=λg hg=>(h.held.fresh g hg).2
 refine cont v' w' ⟨by rw[List.length_append,zvu];exact own',h.held.grown gb (λg hg e2=>h.apart g e2.symm hg),λg hg e2=>?_,cg gb (λe2=>by have:=(World.ownsRow.lt h.out _ e2.symm).1;omega) h.box,h.bel.grown gb h.bel.size (λk hk=>by have:=(World.ownsRow.lt h.out k hk).1;omega),Nat.le_trans h.big gb.size,λa ha=>?_⟩
 rotate_left
 ·obtain⟨q0,q1,q2,q3⟩:=h.pro a ha;refine⟨cg gb (λe2=>q2 e2.symm) q0,cg gb (λe2=>q2 e2.symm) q1,λe2=>?_,q3⟩;rcases hat with q|q
  ·exact q2 (q ▸ e2)
  ·have a1:=q a e2;have a2:=zf q0;simp at a1;omega
 rcases hat with q|q
 ·exact h.apart g (q ▸ hg) e2
 ·have a1:=q g hg;have a2:=fr g e2;simp at a1;omega
theorem zke {w wc:World} {A:Option Nat} {p0 p1 bx vo vh:Value} {P:List (Int×Int)} {G:List Int} {ops:Array Oper} {rest:List Oper} {o:Oper} {a:Act} {Q:Exit->Act->World->Prop} {x:Int} {s e:Operand} {H n:Nat}
  (h:StepS w wc A p0 p1 bx vo vh P G) (hg:o.guard=none) (hop:o.op=Op.call { callee:=Callee.builtin Builtin.append,args:=#[s,e],argTypes:=#[28,28] }) (hs:a.eval s=vh) (hH:wc.heap.size=H) (he:a.eval e=.slice (some ⟨H,0,none⟩) 1 1) (hn:G.length=n) (hK:n<=1099511627776)
  (cont:∀ g off cap w',StepS w w' A p0 p1 bx vo (.slice (some ⟨g,off,none⟩) (n+1) cap) P (G++[x])->n+1<=cap->wpList Tryz.prog ops Q rest (a.put o.dst (.slice (some ⟨g,off,none⟩) (n+1) cap)) w'):wpList Tryz.prog ops Q (o :: rest) a (wc.alloc (.cells #[.int .i64 x] 2)):=by
 subst hH;subst hn;obtain⟨i0,hi,hz0,hz1,hz2⟩:=info_parts zni;have hb0:=h.big;refine zj0 .i64 _ hg s e 28 hop 2 i0 (.int .i64 0) 8 Tryz.underlying28 hi hz0 hz1 hz2 rfl (w.heap.size+1) vh G hs (h.held.alloc _) (by simp;omega) ⟨wc.heap.size,0,none⟩ 1 x he (zeg _ _ _) (by unfold maxLen;omega) (by omega) ?_;intro v' w' own' grow' hat;have gb:wc.grownBy w' vh.ownBlock:=⟨grow'.os,grow'.tape,grow'.output,by have:=grow'.size;simp at this;omega,λk hk hne=>(grow'.block k (by simp;omega) hne).trans (Below.heap_alloc _ _ _ hk)⟩;have own2:=own';rcases own' with⟨_,h0⟩|⟨g,off,cap,rfl,g1,g2,g3,g4⟩
 ·simp at h0
 ·rw[List.length_append,List.length_singleton]at own2 g3 hat ⊢;refine cont g off cap w' ⟨h.out.kept gb ?_,own2,λq hq e2=>?_,cg gb (λe2=>by have:=(h.held.fresh _ e2.symm).1;omega) h.box,h.bel.grown gb h.bel.size (λk hk=>by have:=(h.held.fresh k hk).1;omega),Nat.le_trans h.big gb.size,λa ha=>?_⟩ g3
  rotate_right
  ·obtain⟨q0,q1,q2,q3⟩:=h.pro a ha;refine⟨cg gb (λe2=>q3 e2.symm) q0,cg gb (λe2=>q3 e2.symm) q1,q2,λe2=>?_⟩;rcases hat with q|q
   ·exact q3 (q ▸ e2)
   ·have a1:=q a e2;have a2:=zf q0;simp at a1;omega
  ·rcases hv:vo.ownBlock with _|q
   ·exact Or.inl rfl
   ·exact Or.inr (λe2=>h.apart q hv e2.symm)
  ·rcases hat with p|p
   ·exact h.apart q hq (p ▸ e2)
   ·have a1:=p q e2;have a2:=(World.ownsRow.lt h.out q hq).2;simp at a1;omega
theorem StepS.cut {w wr:World} {A:Option Nat} {p0 p1 bx vo:Value} {g off n cap:Nat} {P:List (Int×Int)} {G:List Int} (h:StepS w wr A p0 p1 bx vo (.slice (some ⟨g,off,none⟩) n cap) P G) (hn:G.length=n) (h0:1<=n):StepS w wr A p0 p1 bx vo (.slice (some ⟨g,if cap=1 then off else off+1,none⟩) (n-1) (cap-1)) P G.tail :=
 ⟨h.out,h.held.tail hn h0,h.apart,h.box,h.bel,h.big,h.pro⟩
theorem StepS.line {w wr:World} {p0 p1 bx vo vh x y:Value} {P:List (Int×Int)} {G:List Int} {T:TypeId} (h:StepS w wr none p0 p1 bx vo vh P G):StepS w (wr.alloc (.cells #[x,y] T)) (some wr.heap.size) x y bx vo vh P G:=by
 have h':=h.below (zg wr (.cells #[x,y] T));exact⟨h'.out,h'.held,h'.apart,h'.box,h'.bel,h'.big,λa ha=>by
  obtain rfl:=Option.some.inj ha;exact⟨by simp,by simp,λe=>by have:=(World.ownsRow.lt h.out _ e).2;omega,λe=>by have:=(h.held.fresh _ e).2;omega⟩⟩
theorem StepS.drop {w wr:World} {A:Option Nat} {p0 p1 bx vo vh q0 q1:Value} {P:List (Int×Int)} {G:List Int} (h:StepS w wr A p0 p1 bx vo vh P G):StepS w wr none q0 q1 bx vo vh P G:=⟨h.out,h.held,h.apart,h.box,h.bel,h.big,λa ha=>by cases ha⟩
end Go.Proofs.YtlodkoimdoeopaaGreatDoor
