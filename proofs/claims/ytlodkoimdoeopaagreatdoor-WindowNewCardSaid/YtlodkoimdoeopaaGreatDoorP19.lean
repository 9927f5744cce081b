/- Parts, joined. -/
import Derived.Test.YtlodkoimdoeopaaGreatDoorP18
import Derived.Test.YtlodkoimdoeopaaGreatDoorP13
import Derived.Test.YtlodkoimdoeopaaGreatDoorP12
import Derived.Test.YtlodkoimdoeopaaGreatDoorP14
import Derived.Test.YtlodkoimdoeopaaGreatDoorP10
import Derived.Test.YtlodkoimdoeopaaGreatDoorP03
import Derived.Laws.OwnMore
import Derived.Deep.LoopGhost
namespace Go.Proofs.YtlodkoimdoeopaaGreatDoor
open Go.RowKit
theorem zgc (f:Int) (f0:0<=f) (f1:f<=2):∃ s,zfD f=.string s/\s.toList.isEmpty=false:=by
 unfold zfD
 by_cases h0:f=0
 ·rw[if_pos h0];exact⟨_,rfl,by decide +kernel⟩
 by_cases h1:f=1
 ·rw[if_neg h0,if_pos h1];exact⟨_,rfl,by decide +kernel⟩
 ·rw[if_neg h0,if_neg h1,if_pos (by omega)];exact⟨_,rfl,by decide +kernel⟩
theorem zm1 {k:IntKind} {T:TypeId} {w:World} {base n:Nat} {v:Value} {xs:List Int} (h:OwnI k T w base v xs) (hn:xs.length=n) (h0:1<=n) :
  ∃ b cap,v=.slice (some ⟨b,0,none⟩) n cap/\base<=b/\RowAt k w (some ⟨b,0,none⟩) xs:=by
 subst hn;obtain⟨ad,cap,rfl,hr,hz,hs,_⟩:=h.form;rcases ad with _|a
 ·have:=(hz rfl).1;rw[this]at h0;exact absurd h0 (by decide)
 ·obtain⟨g,rfl,hb,_⟩:=hs a rfl;exact⟨g,cap,rfl,hb,hr⟩
set_option maxHeartbeats 4000000 in
set_option maxRecDepth 100000 in
theorem zor (f n:Int) (m:Nat) (f0:0<=f) (f1:f<=2) (n0:1<=n) (n1:n<=65536) (m0:1<=m) (m1:m<=65536) (w:World) (hk:zaT w) :
  Calls Tryz.prog 102 #[.int .i64 f,.int .i64 n,.int .i64 (m:Int)] w λe w'=>∃ v,e=.returned (.tuple #[v,.int .i64 (zR f n m m)])/\(zR f n m m=0->TabM w' v n (zt f n m m))/\(zR f n m m≠0->v=.pointer none)/\Below w.heap.size w w':=by
 have S1:=zd9 n n0 n1;have S2:=zd9 (m:Int) (by omega) (by omega);have CN:=λw hk=>zha f (by unfold I64;omega) w hk
 obtain⟨s,hs,s0⟩:=zgc f f0 f1;rw[hs]at CN;obtain⟨i0,hi,hz0,hz1,hz2⟩:=info_parts zpm;obtain⟨cm,hcd⟩:∃ cm,zR f n m m=cm:=⟨_,rfl⟩;rw[hcd];have HCD:=za hcd;have HK:=za (fun(w':World) (b:Below w.heap.size w w')=>zbs hk b);clear hcd hs
 go_enter Tryz.func102,Tryz.ntmps102
 go_upto_region 3 with(first
  |(go_at_call 101;(with_reducible refine(CN _ hk).mono ?_);rintro e w0 ⟨rfl,b0⟩)
  |(go_at_call 140;(with_reducible refine(S1 _).mono ?_);rintro e w1 ⟨rfl,rfl⟩)
  |(go_at_call 140;(with_reducible refine(S2 _).mono ?_);rintro e w1 ⟨rfl,rfl⟩))
 clear S1 S2 CN
 go_wp2_with (at_make;refine wpList_make_full _ rfl _ _ 108 rfl w.heap.size 103 i0 (.agg #[.int .i64 0,.slice none 0 0]) 2 Tryz.underlying108 hi hz0 hz1 .i64 .i64 (m:Int) (m:Int) m rfl rfl rfl rfl (by rw[hz2];omega) (by unfold maxLen;omega) (by have:=b0.size;omega) ?_;intro w2 hown hgrow)
 have B2:Below w.heap.size w w2:=b0.grown hgrow b0.size (λj hj=>by cases hj);have hlt:=(World.ownsRow.lt hown w0.heap.size rfl).2;have F0:=za (Fill.start (g:=w2.heap.size) (hown.alloc (.cells #[.int .i64 n,.slice (some ⟨w0.heap.size,0,none⟩) m m,.int .i64 0,.int .i64 0] 110)) (Nat.ne_of_lt hlt));have BA:=za (ba B2 (.cells #[.int .i64 n,.slice (some ⟨w0.heap.size,0,none⟩) m m,.int .i64 0,.int .i64 0] 110));have hgB:w.heap.size<=w2.heap.size:=B2.size;have hhB:w.heap.size<=w0.heap.size:=b0.size;clear hown hgrow b0 B2 hk;obtain⟨h,hh⟩:∃ h,w0.heap.size=h:=⟨_,rfl⟩;rw[hh]at F0 BA hhB hlt;obtain⟨g,hg⟩:∃ g,w2.heap.size=g:=⟨_,rfl⟩;have HG:=za hg;rw[hg]at F0 hgB hlt;have hne:h≠g:=Nat.ne_of_lt hlt;have hne2:g≠h:=λe=>hne e.symm
 simp only[hh];simp only[hg];clear hh
 go_loopw [37] (λi wr=>∃ k:Nat,k<=m/\i=.int .i64 (k:Int)/\Hid (zR f n m k=0)/\Hid (Fill wr g h m (zt f n m k))/\wr.cell? ⟨g,0,none⟩=some (.int .i64 n)/\wr.cell? ⟨g,1,none⟩=some (.slice (some ⟨h,0,none⟩) m m)/\wr.cell? ⟨g,2,none⟩=some (.int .i64 (zaB (zt f n m k)))/\wr.cell? ⟨g,3,none⟩=some (.int .i64 (zdT (zt f n m k)))/\wr.frozen? ⟨g,2,none⟩=false/\wr.frozen? ⟨g,3,none⟩=false/\Below w.heap.size w wr) (λi _=>m-(intOf i).toNat)
 case atStart =>
  subst hg;exact⟨0,by omega,rfl,rfl,F0,by simp,by simp,by simp;rfl,by simp;rfl,by simp,by simp,BA.out⟩
 case round =>
  obtain⟨k,hkm,rfl,hf,HF,c0,c1,c2,c3,z2,z3,hb⟩:=hrel;have HB:=za hb;have gl:=zf c0;clear hb F0 BA HG hg hlt;have hll:=zac f n m k
  by_cases hkl:k<m
  ·have hM:zc9 f n m k:=⟨f0,f1,n0,n1,by omega,by omega,by omega,by omega⟩;have CR:=zsN f n m k hM;obtain⟨s0,s1,b0,b1⟩:=zhl hM;clear hM;have hx:=zpI f n m k;have hln:=zbD f n m k;have hc1:zR f n m (k+1)=zV (zbl f n m k):=if_pos hf.out;have hsn:=zhT f n m k;have hlr:zbN f n m k=(za8 f n m k,zG (zbl f n m k)):=rfl;rw[hlr]at hsn;have HM1:=za ((congrArg zaB hsn).trans (zsk _ _));have HS1:=za ((congrArg zdT hsn).trans (zrO _ _));have HSN:=za hsn;clear hlr hsn;obtain⟨st,cn,xs,cd,e1,e2,e3,e4⟩:=zlG f n m k;rw[e1,e3]at CR HSN HM1 HS1;rw[e1]at s0 s1;rw[e2]at b0 b1 hln;rw[e3]at hx hln hc1;rw[e4]at hc1;have CA:∀ (ad:Option Addr) (cap:Nat) (w:World),RowAt .i64 w ad xs->Calls Tryz.prog 142 #[.slice ad cn cap] w λe w'=>∃ v,e=.returned (.tuple #[v,.int .i64 cd])/\(cd=0->OwnI .i64 2 w' w.heap.size v (zG xs))/\Below w.heap.size w w':=by
    intro ad cap w hr;have:=zhi cn xs hln ad cap w hr hx (by omega);rw[e4]at this;exact this
   have hal:(zG xs).length=cn:=by rw[zaV];exact hln
   have HLN:=za hln;have HAL:=za hal;have HC1:=za hc1;have HLL:=za hll
   by_cases hz:cd=0
   ·have hfit:Fits xs:=zas.1 (e4.trans hz);have HX:=za (ziI hfit);subst hz;obtain⟨ts,hts⟩:∃ ts,zG xs=ts:=⟨_,rfl⟩;rw[hts]at CA HX HAL HSN HM1 HS1;obtain⟨so,hso⟩:∃ so,zdT (zt f n m k)=so:=⟨_,rfl⟩;obtain⟨mo,hmo⟩:∃ mo,zaB (zt f n m k)=mo:=⟨_,rfl⟩;rw[hso]at HS1 c3;rw[hmo]at HM1 c2;obtain⟨sz,hsz⟩:∃ sz,zP ts=sz:=⟨_,rfl⟩;have HS2:=za (show zdT (zt f n m (k+1))=max so sz by rw[←hsz];exact HS1.out);have HM2:=za (show zaB (zt f n m (k+1))=max mo (cn:Int) by rw[←HAL.out];exact HM1.out);have CS:=λw ad cap hr=>zpx cn ts HAL.out ad cap w hr HX.out (by omega)
    rw[hsz]at CS;clear e1 e2 e3 e4 hx hln hc1 hal hts hso hmo hsz hfit HX HS1 HM1 hll
    go_upto_region 13 with(first
     |(go_at_call 141;(with_reducible refine(CR _ (HK.out _ HB.out)).mono ?_);rintro e w2 ⟨v,rfl,ho1,b2⟩;obtain⟨ad,cap,rfl,hrow,_⟩:=ho1.formn HLN.out)
     |(go_at_call 142;(with_reducible refine(CA _ _ _ hrow).mono ?_);rintro e w3 ⟨v2,rfl,ho2,b3⟩;obtain⟨b,cap2,rfl,hbb,hrt⟩:=zm1 (ho2 (by trivial)) HAL.out b0;clear ho2;have b23:=bt b2 b3;have F3:=HF.out.below b23;obtain⟨⟨v0,r0⟩,y0,⟨v1,r1⟩,y1⟩:=F3.room hkl;have d0:=cb b23 gl c0;have d1:=cb b23 gl c1;have d2:=cb b23 gl c2;have d3:=cb b23 gl c3;have x2:=fb b23 gl z2;have x3:=fb b23 gl z3))
    have hl2:=zf (HF.out.room hkl).1.choose_spec;have s2:=b2.size;obtain⟨F4,R4,p0,p1,p2,p3,w2',w3'⟩:=zs9 (cap:=cap2) F3 HLL.out hkl st ts HAL.out (show b≠g by omega) (show b≠h by omega) hrt d0 d1 d2 d3 x2 x3 (.int .i64 (max mo (cn:Int))) rfl;have B4:=bs (bs (bs (bt HB.out b23) hhB (b:=h) (o:=k*2) (.int .i64 st)) hhB (b:=h) (o:=k*2+1) (.slice (some ⟨b,0,none⟩) cn cap2)) hgB (b:=g) (o:=2) (.int .i64 (max mo (cn:Int)));have HF4:=za F4;have HR4:=za R4;have HB4:=za B4;clear F4 R4 B4 F3 b23 b2 b3 hrt d0 d1 d2 d3 x2 x3 c0 c1 c2 c3 z2 z3 r0 y0 r1 y1 hbb ho1 hrow CA CR HF HB;generalize ((w3.setCell ⟨h,k*2,none⟩ (.int .i64 st)).setCell ⟨h,k*2+1,none⟩ (.slice (some ⟨b,0,none⟩) cn cap2)).setCell ⟨g,2,none⟩ (.int .i64 (max mo (cn:Int)))=W at *;obtain⟨F5,q0,q1,q2,q3,o2,o3⟩:=ztT (W:=W.drew.setCell ⟨g,3,none⟩ (.int .i64 (max so sz))) HF4.out p0 p1 p2 p3 w2' w3' (.int .i64 (max so sz)) rfl;have B5:Below w.heap.size w (W.drew.setCell ⟨g,3,none⟩ (.int .i64 (max so sz))):=bs (bd HB4.out) hgB (b:=g) (o:=3) _;rw[←HSN.out]at F5;have H5:=za (And.intro F5 (And.intro q0 (And.intro q1 (And.intro q2 (And.intro q3 (And.intro o2 (And.intro o3 B5)))))));clear F5 B5 q0 q1 q2 q3 o2 o3
    go_region_with (go_at_call 143;(with_reducible refine(CS _ _ _ (HR4.out.below (by first|exact Below.refl _ _|exact bd (Below.refl _ _)))).mono ?_);rintro e w4 ⟨rfl,rfl⟩)
    all_goals
     go_wp2
     go_roundw
     case rel =>
      obtain⟨F5,q0,q1,q2,q3,o2,o3,B5⟩:=H5.out;exact⟨k+1,by omega,by go_num,HC1,F5,q0,q1,(by rw[HM2.out];exact q2),(by rw[HS2.out];exact q3),o2,o3,B5⟩
     case measure=>simp[intOf];omega
   ·have hend:zR f n m m=cd:=(zez (by rw[hc1];exact hz) (show k+1<=m by omega)).trans hc1;have hcc:cm=cd:=HCD.out.symm.trans hend;subst hcc;have hzb:(cm != 0)=true:=by simpa using hz
    have HZ:=za hz;clear e1 e2 e3 e4 hx hln hc1 hal hend hz HC1 HSN HS1 HM1 hll
    go_wp2_with (first
     |(go_at_call 141;(with_reducible refine(CR _ (HK.out _ HB.out)).mono ?_);rintro e w2 ⟨v,rfl,ho1,b2⟩;obtain⟨ad,cap,rfl,hrow,_⟩:=ho1.formn HLN.out)
     |(go_at_call 142;(with_reducible refine(CA _ _ _ hrow).mono ?_);rintro e w3 ⟨v2,rfl,ho2,b3⟩))
    exact bodyPost_ret (v:=.tuple #[.pointer none,.int .i64 cm]) (by simp[results,Tryz.results102,go_sem]) rfl (by
     have B9:=bt (bt HB.out b2) b3
     first|exact⟨.pointer none,rfl,(λg=>absurd g HZ.out),(λ_=>rfl),B9⟩|exact⟨.pointer none,rfl,(λg=>absurd g HZ.out),trivial,B9⟩)
  ·obtain rfl:k=m:=by omega
   have hcc:cm=0:=HCD.out.symm.trans hf.out;subst hcc;have hT:=za (show TabM wr (.pointer (some ⟨g,0,none⟩)) n (zt f n k k) from⟨g,h,k,rfl,c0,by rw[hll];exact c1,c2,c3,HF.out.heads⟩);clear HCD hf hkl hkm HF c0 c1 c2 c3;go_wp2;exact bodyPost_ret (v:=.tuple #[.pointer (some ⟨g,0,none⟩),.int .i64 0]) (by simp[results,Tryz.results102,go_sem]) rfl (by first|exact⟨_,rfl,hT.out,HB.out⟩|exact⟨_,rfl,(λ_=>hT.out),(λg=>absurd rfl g),HB.out⟩)
theorem zog (f n m:Int) (h:zdM f n m=false) (hf:I64 f) (w:World) (hk:zaT w) :
  Calls Tryz.prog 102 #[.int .i64 f,.int .i64 n,.int .i64 m] w λe w'=>e=.returned (.tuple #[.pointer none,.int .i64 6])/\Below w.heap.size w w':=by
 have hb:=λg=>Bool.false_ne_true (h.symm.trans ((zdm f n m).2 g))
 clear h;have CN:=λw hk=>zha f hf w hk
 by_cases hfr:0<=f/\f<=2
 ·obtain⟨s,hs,s0⟩:=zgc f hfr.1 hfr.2;rw[hs]at CN;clear hs
  by_cases hn:1<=n/\n<=65536
  ·have S1:=zd9 n hn.1 hn.2;have S2:=zjB m (by
    by_cases q:m<1
    ·exact Or.inl q
    ·refine Or.inr ?_
     by_cases q2:65536<m
     ·exact q2
     ·exact absurd ⟨hfr.1,hfr.2,hn,by omega,by omega⟩ hb)
   clear hb hn hfr
   go_enter Tryz.func102,Tryz.ntmps102
   go_wp2_with (first
    |(go_at_call 101;(with_reducible refine(CN _ hk).mono ?_);rintro e w0 ⟨rfl,b0⟩)
    |(go_at_call 140;(with_reducible refine(S1 _).mono ?_);rintro e w1 ⟨rfl,rfl⟩)
    |(go_at_call 140;(with_reducible refine(S2 _).mono ?_);rintro e w1 ⟨rfl,rfl⟩))
   exact bodyPost_ret (v:=.tuple #[.pointer none,.int .i64 6]) (by simp[results,Tryz.results102,go_sem]) rfl ⟨rfl,b0⟩
  ·have S1:=zjB n (by omega);clear hb hn hfr
   go_enter Tryz.func102,Tryz.ntmps102
   go_wp2_with (first
    |(go_at_call 101;(with_reducible refine(CN _ hk).mono ?_);rintro e w0 ⟨rfl,b0⟩)
    |(go_at_call 140;(with_reducible refine(S1 _).mono ?_);rintro e w1 ⟨rfl,rfl⟩))
   exact bodyPost_ret (v:=.tuple #[.pointer none,.int .i64 6]) (by simp[results,Tryz.results102,go_sem]) rfl ⟨rfl,b0⟩
 ·rw[show zfD f=.string ⟨#[]⟩ by unfold zfD;rw[if_neg (by omega),if_neg (by omega),if_neg (by omega)]]at CN;clear hb hfr
  go_enter Tryz.func102,Tryz.ntmps102
  go_wp2_with (go_at_call 101;(with_reducible refine(CN _ hk).mono ?_);rintro e w0 ⟨rfl,b0⟩)
  exact bodyPost_ret (v:=.tuple #[.pointer none,.int .i64 6]) (by simp[results,Tryz.results102,go_sem]) rfl ⟨rfl,b0⟩
theorem zjx:zw0 zaT Tab:=by
 intro f n m f0 f1 n0 n1 m0 m1 w hk
 cases hB:zdM f n m with
 |false =>
  have e:zN f n m=6:=by unfold zN;rw[hB];rfl
  rw[e];refine(zog f n m hB ⟨f0,f1⟩ w hk).mono ?_;rintro e w1 ⟨rfl,b⟩;exact⟨_,rfl,(λg=>absurd g (by decide)),(λ_=>rfl),b⟩
 |true =>
  obtain⟨a0,a1,⟨b0,b1⟩,c0,c1⟩:=(zdm f n m).1 hB;obtain⟨k,rfl⟩:∃ k:Nat,m=(k:Int):=⟨m.toNat,by omega⟩;have e:zN f n k=zR f n k k:=by unfold zN;rw[hB,if_pos rfl,Int.toNat_natCast]
  have HE:=za e;rw[Int.toNat_natCast];refine(zor f n k a0 a1 b0 b1 (by omega) (by omega) w hk).mono ?_;rintro e w1 ⟨v,rfl,hT,hN,b⟩;rw[HE.out];refine⟨v,rfl,λg=>(hT g).tab (zvT (HE.out.trans g) hB) (zon a0 a1 b0 b1 (by omega)) (by rw[zac];omega) (by rw[zac];omega) b0 b1,hN,b⟩
def zis (ts:List Int):Nat:=ts.length / 2
def zbv (ts:List Int) (k:Nat):List (Int×List Int):=(List.range k).map λi:Nat=>((i:Int)-(zis ts:Int),ts)
theorem zeo (ts:List Int) (k:Nat):(zbv ts k).length=k:=by unfold zbv;rw[List.length_map,List.length_range]
theorem zod {ts:List Int} {k j:Nat} (h:j<k):ze (zbv ts k) j=((j:Int)-(zis ts:Int),ts):=zcT _ h
theorem zl6 (ts:List Int) (k:Nat):zbv ts (k+1)=zbv ts k++[((k:Int)-(zis ts:Int),ts)]:=by unfold zbv;rw[List.range_succ,List.map_append];rfl
theorem zq6 (xs:List Int) (k:Nat):zQ xs k=zbv (zG xs) k:=by
 unfold zQ zbv zis;rw[zaV];rfl
theorem zoT (ts:List Int) {k:Nat} (h:1<=k):zaB (zbv ts k)=(ts.length:Int)/\zdT (zbv ts k)=zP ts :=
 znx (L:=zbv ts k) (ts:=ts) (λj hj=>by rw[zeo]at hj;rw[zod hj]) (by rw[zeo];exact h)
set_option maxHeartbeats 4000000 in
set_option maxRecDepth 100000 in
theorem zqw (ts:List Int) (l:Nat) (hl:ts.length=l) (l0:1<=l) (l1:l<=1048576) (hx:zad ts) (n:Nat) (n0:1<=n) (n1:n<=65536) (b cap:Nat) (w:World) (hr:RowAt .i64 w (some ⟨b,0,none⟩) ts) :
  Calls Tryz.prog 147 #[.slice (some ⟨b,0,none⟩) l cap,.int .i64 (n:Int)] w λe w'=>∃ v,e=.returned v/\TabM w' v n (zbv ts n)/\Below w.heap.size w w':=by
 obtain⟨zs,MK,MO⟩:=zxX n (by omega);have CS:=λw hr=>zpx l ts hl (some ⟨b,0,none⟩) cap w hr hx (by omega)
 have blt:b<w.heap.size:=by
  obtain⟨b',off,e,c⟩:=hr.get (show 0<ts.length by omega);simp only[Option.some.injEq,Addr.mk.injEq,and_true]at e;obtain⟨rfl,rfl⟩:=e;exact zf c
 have HR:=za hr;have HL:=za hl;have HX:=za hx;have HMO:=za MO;have SI:=(zdf ts);obtain⟨s,hs⟩:∃ s,zP ts=s:=⟨_,rfl⟩;have HS:=za hs;rw[hs]at CS SI;obtain⟨HF,hHF⟩:∃ q,l / 2=q:=⟨_,rfl⟩;have HH:=za (show zis ts=HF by unfold zis;rw[hl,hHF]);clear hr hx hl MO hs
 go_enter Tryz.func147,Tryz.ntmps147
 go_upto_region 1 with fail
 go_cut [5] (λt wx=>t=.pointer (some ⟨w.heap.size+1,0,none⟩)/\wx=((w.alloc (.cells zs 103)).alloc (.cells #[.int .i64 (n:Int),.slice (some ⟨w.heap.size,0,none⟩) n n,.int .i64 (l:Int),.int .i64 s] 110)).drew)
 case first =>
  go_region_with (go_at_call 143;(with_reducible refine(CS _ (HR.out.below (by repeat (first|exact Below.refl _ _|(with_reducible refine bt ?_ (by assumption))|with_reducible refine bd ?_|with_reducible refine ba ?_ _)))).mono ?_);rintro e w4 ⟨rfl,rfl⟩)
  all_goals (go_wp2_with fail;go_meet)
  all_goals exact⟨rfl,rfl⟩
 case rest =>
  obtain⟨rfl,hcut⟩:=hcut;have F0:=Fill.start (g:=w.heap.size+1) ((HMO.out w w.heap.size (Nat.le_refl _)).alloc (.cells #[.int .i64 (n:Int),.slice (some ⟨w.heap.size,0,none⟩) n n,.int .i64 (l:Int),.int .i64 s] 110)) (by omega);have F1:=za (show Fill wc (w.heap.size+1) w.heap.size n [] by rw[hcut];exact F0.below (bd (Below.refl _ _)));have BA:=za (show Below w.heap.size w wc by rw[hcut];exact bd (ba (ba (Below.refl _ _) _) _));have c0:wc.cell? ⟨w.heap.size+1,0,none⟩=some (.int .i64 (n:Int)):=by rw[hcut];simp
  have c1:wc.cell? ⟨w.heap.size+1,1,none⟩=some (.slice (some ⟨w.heap.size,0,none⟩) n n):=by rw[hcut];simp
  have c2:wc.cell? ⟨w.heap.size+1,2,none⟩=some (.int .i64 (l:Int)):=by rw[hcut];simp
  have c3:wc.cell? ⟨w.heap.size+1,3,none⟩=some (.int .i64 s):=by rw[hcut];simp
  clear F0 hcut MK HMO CS;obtain⟨h,hh⟩:∃ h,w.heap.size=h:=⟨_,rfl⟩;rw[hh]at F1 c0 c1 c2 c3 blt;simp only[hh];obtain⟨g,hg⟩:∃ g,h+1=g:=⟨_,rfl⟩;rw[hg]at F1 c0 c1 c2 c3;simp only[hg];have hgB:w.heap.size<=g:=by omega
  have hhB:w.heap.size<=h:=by omega
  have hne:h≠g:=by omega
  have hne2:g≠h:=by omega
  have hbg:b≠g:=by omega
  have hbh:b≠h:=by omega
  have hhalf:(l:Int) / 2=(HF:Int):=by omega
  have h0:(HF:Int)<=524288:=by omega
  have h1:0<=(HF:Int):=by omega
  have HHH:=za hh;clear hh hg hHF blt;go_wp2;clear hhalf
  go_loopw [25] (λi wr=>∃ k:Nat,k<=n/\i=.int .i64 (k:Int)/\Hid (Fill wr g h n (zbv ts k))/\wr.cell? ⟨g,0,none⟩=some (.int .i64 (n:Int))/\wr.cell? ⟨g,1,none⟩=some (.slice (some ⟨h,0,none⟩) n n)/\wr.cell? ⟨g,2,none⟩=some (.int .i64 (l:Int))/\wr.cell? ⟨g,3,none⟩=some (.int .i64 s)/\Below w.heap.size w wr) (λi _=>n-(intOf i).toNat)
  case atStart=>exact⟨0,by omega,rfl,F1,c0,c1,c2,c3,BA.out⟩
  case round =>
   clear F1 BA c0 c1 c2 c3;obtain⟨k,hkn,rfl,HF1,c0,c1,c2,c3,hb⟩:=hrel;have HB:=za hb;clear hb
   by_cases hkl:k<n
   ·obtain⟨⟨v0,r0⟩,y0,⟨v1,r1⟩,y1⟩:=HF1.out.room hkl;have F4:=HF1.out.more (zeo ts k) hkl ((k:Int)-(HF:Int)) ts HL.out hbg hbh (HR.out.below HB.out) (cap:=cap);have es:=zl6 ts k;rw[HH.out]at es;rw[←es]at F4;have B4:=bs (bs HB.out hhB (b:=h) (o:=k*2) (.int .i64 ((k:Int)-(HF:Int)))) hhB (b:=h) (o:=k*2+1) (.slice (some ⟨b,0,none⟩) l cap);have E:∀ j,((wr.setCell ⟨h,k*2,none⟩ (.int .i64 ((k:Int)-(HF:Int)))).setCell ⟨h,k*2+1,none⟩ (.slice (some ⟨b,0,none⟩) l cap)).cell? ⟨g,j,none⟩=wr.cell? ⟨g,j,none⟩:=λj=>(zc (Or.inl hne)).trans (zc (Or.inl hne))
    have H4:=za (And.intro F4 (And.intro ((E 0).trans c0) (And.intro ((E 1).trans c1) (And.intro ((E 2).trans c2) (And.intro ((E 3).trans c3) B4)))));clear F4 es B4 E HF1 c0 c2 c3;go_wp2
    go_roundw
    case rel =>
     obtain⟨F4,q0,q1,q2,q3,B4⟩:=H4.out;exact⟨k+1,by omega,by go_num,F4,q0,q1,q2,q3,B4⟩
    case measure=>simp[intOf];omega
   ·obtain rfl:k=n:=by omega
    obtain⟨em,es⟩:=zoT ts (k:=k) n0;rw[HL.out]at em;rw[HS.out]at es;have hT:=za (show TabM wr (.pointer (some ⟨g,0,none⟩)) k (zbv ts k) from⟨g,h,k,rfl,c0,by rw[zeo];exact c1,by rw[em];exact c2,by rw[es];exact c3,HF1.out.heads⟩);clear em es HF1 c0 c1 c2 c3 hkl hkn;go_wp2;go_ret;exact⟨_,rfl,hT.out,HB.out⟩
theorem zrt (xs:List Int) (ad:Option Addr) (cap:Nat) (n:Int) (h:zcQ n=false) (w:World) :
  Calls Tryz.prog 104 #[.slice ad xs.length cap,.int .i64 n] w λe w'=>e=.returned (.tuple #[.pointer none,.int .i64 6])/\w=w':=by
 have S1:=zjB n (by
  have q:=λg=>Bool.false_ne_true (h.symm.trans ((zcu n).2 g))
  by_cases q1:n<1
  ·exact Or.inl q1
  ·refine Or.inr ?_
   by_cases q2:65536<n
   ·exact q2
   ·exact absurd ⟨by omega,by omega⟩ q)
 clear h;generalize xs.length=l at *
 go_enter Tryz.func104,Tryz.ntmps104
 go_wp2_with (go_at_call 140;(with_reducible refine(S1 _).mono ?_);rintro e w1 ⟨rfl,rfl⟩)
 exact bodyPost_ret (v:=.tuple #[.pointer none,.int .i64 6]) (by simp[results,Tryz.results104,go_sem]) rfl ⟨rfl,rfl⟩
theorem zm7 (l:Nat) (ad:Option Addr) (cap:Nat) (n:Int) (n0:1<=n) (n1:n<=65536) (h2:l % 2=0) (hl:l<=9223372036854775807) (w:World) :
  Calls Tryz.prog 104 #[.slice ad l cap,.int .i64 n] w λe w'=>e=.returned (.tuple #[.pointer none,.int .i64 7])/\w=w':=by
 have S1:=zd9 n n0 n1;have h3:(l:Int) % 2=0:=by omega
 go_enter Tryz.func104,Tryz.ntmps104
 go_wp2_with (go_at_call 140;(with_reducible refine(S1 _).mono ?_);rintro e w1 ⟨rfl,rfl⟩)
 exact bodyPost_ret (v:=.tuple #[.pointer none,.int .i64 7]) (by simp[results,Tryz.results104,go_sem]) rfl ⟨rfl,rfl⟩
theorem zoW (xs:List Int) (l:Nat) (hn:xs.length=l) (ad:Option Addr) (cap:Nat) (n:Int) (n0:1<=n) (n1:n<=65536) (h2:l % 2=1) (hl:l<=9223372036854775807) (cd:Int) (hc:zV xs=cd) (hz:cd≠0) (w:World) (hr:RowAt .i64 w ad xs) (hx:zad xs) :
  Calls Tryz.prog 104 #[.slice ad l cap,.int .i64 n] w λe w'=>e=.returned (.tuple #[.pointer none,.int .i64 cd])/\Below w.heap.size w w':=by
 have S1:=zd9 n n0 n1;have CA:=zhi l xs hn ad cap w hr hx hl;rw[hc]at CA;have h3:(l:Int) % 2=1:=by omega
 have hzb:(cd != 0)=true:=by simpa using hz
 clear hr hx hc hn
 go_enter Tryz.func104,Tryz.ntmps104
 go_wp2_with (first
  |(go_at_call 140;(with_reducible refine(S1 _).mono ?_);rintro e w1 ⟨rfl,rfl⟩)
  |(go_at_call 142;(with_reducible refine CA.mono ?_);rintro e w2 ⟨v,rfl,_,b2⟩))
 exact bodyPost_ret (v:=.tuple #[.pointer none,.int .i64 cd]) (by simp[results,Tryz.results104,go_sem]) rfl ⟨rfl,b2⟩
theorem zsT (xs:List Int) (l:Nat) (hn:xs.length=l) (ad:Option Addr) (cap:Nat) (n:Nat) (n0:1<=n) (n1:n<=65536) (h2:l % 2=1) (hc:zV xs=0) (w:World) (hr:RowAt .i64 w ad xs) (hx:zad xs) :
  Calls Tryz.prog 104 #[.slice ad l cap,.int .i64 (n:Int)] w λe w'=>∃ v,e=.returned (.tuple #[v,.int .i64 0])/\Tab w' v n (zQ xs n)/\Below w.heap.size w w':=by
 have hf:=zas.1 hc;have l1:l<=1048576:=by
  obtain⟨_,h1,_⟩:=hf;omega
 have l0:1<=l:=by omega
 have S1:=zd9 n (by omega) (by omega);have CA:=zhi l xs hn ad cap w hr hx (by omega);rw[hc]at CA;have CR:=λb cap w hr=>zqw (zG xs) l (by rw[zaV];exact hn) l0 l1 (ziI hf) n n0 n1 b cap w hr
 rw[←zq6]at CR;have CT:∀ (w':World) (v:Value),TabM w' v n (zQ xs n)->Tab w' v n (zQ xs n):=λw' v h=>h.tab (zxH hf n1) (zrH xs n) (by rw[zae];exact n0) (by rw[zae];exact n1) (by omega) (by omega)
 have HT:=za CT;have h3:(l:Int) % 2=1:=by omega
 have HA:=za (show(zG xs).length=l by rw[zaV];exact hn);clear CT hr hx hc hn hf;generalize zQ xs n=L at *
 go_enter Tryz.func104,Tryz.ntmps104
 go_wp2_with (first
  |(go_at_call 140;(with_reducible refine(S1 _).mono ?_);rintro e w1 ⟨rfl,rfl⟩)
  |(go_at_call 142;(with_reducible refine CA.mono ?_);rintro e w2 ⟨v,rfl,ho,b2⟩;obtain⟨b,cap2,rfl,_,hrt⟩:=zm1 (ho (by trivial)) HA.out l0;clear ho)
  |(go_at_call 147;(with_reducible refine(CR _ _ _ hrt).mono ?_);rintro e w3 ⟨v,rfl,hm,b3⟩))
 exact bodyPost_ret (v:=.tuple #[v,.int .i64 0]) (by simp[results,Tryz.results104,go_sem]) rfl ⟨_,rfl,HT.out _ _ hm,bt b2 b3⟩
theorem zmK:zw8 zaT Tab:=by
 intro xs ad cap n w _ hr hx hl n0 n1
 cases hB:zcQ n with
 |false =>
  have e:zu xs n=6:=by unfold zu;rw[hB];rfl
  rw[e];refine(zrt xs ad cap n hB w).mono ?_;rintro e w1 ⟨rfl,rfl⟩;exact⟨_,rfl,(λg=>absurd g (by decide)),(λ_=>rfl),Below.refl _ _⟩
 |true =>
  obtain⟨a0,a1⟩:=(zcu n).1 hB
  by_cases h2:xs.length % 2=0
  ·have e:zu xs n=7:=by unfold zu;rw[hB,if_pos rfl,if_pos h2]
   rw[e];refine(zm7 xs.length ad cap n a0 a1 h2 hl w).mono ?_;rintro e w1 ⟨rfl,rfl⟩;exact⟨_,rfl,(λg=>absurd g (by decide)),(λ_=>rfl),Below.refl _ _⟩
  ·have e:zu xs n=zV xs:=by unfold zu;rw[hB,if_pos rfl,if_neg h2]
   rw[e]
   by_cases hz:zV xs=0
   ·obtain⟨k,rfl⟩:∃ k:Nat,n=(k:Int):=⟨n.toNat,by omega⟩;rw[hz,Int.toNat_natCast];refine(zsT xs xs.length rfl ad cap k (by omega) (by omega) (by omega) hz w hr hx).mono ?_;rintro e w1 ⟨v,rfl,hT,b⟩;exact⟨v,rfl,(λ_=>hT),(λg=>absurd rfl g),b⟩
   ·have HZ:=za hz;refine(zoW xs xs.length rfl ad cap n a0 a1 (by omega) hl (zV xs) rfl hz w hr hx).mono ?_;rintro e w1 ⟨rfl,b⟩;exact⟨_,rfl,(λg=>absurd g HZ.out),(λ_=>rfl),b⟩
set_option maxRecDepth 100000 in
theorem zyi:zyF zaT 105:=by
 intro w hk;have C5:∀ w:World,zaT w->Calls Tryz.prog 148 #[] w λe w'=>e=.returned (.bool true)/\Below w.heap.size w w':=λw hk=>zx7 zpC zyw w hk
 have C6:∀ w:World,zaT w->Calls Tryz.prog 149 #[] w λe w'=>e=.returned (.bool true)/\Below w.heap.size w w':=λw hk=>zyh (K:=zaT) (λ_ _ h b=>zbs h b) (λxs ad cap w _ hr hx hl=>zhG xs ad cap w hr hx hl) (λs w _ _ _=>zh0 s w) w hk
 obtain⟨e1,e2,e3⟩:=zxU;have CR1:=λw hk=>zjx 0 4 2 (by omega) (by omega) (by omega) (by omega) (by omega) (by omega) w hk
 rw[e1,show(2:Int).toNat=2 from rfl,e2]at CR1;have CK:∀ w':World,Below w.heap.size w w'->zaT w':=λw' b=>zbs hk b
 have L1:∀ {w:World} {v:Value} {n:Int},Tab w v n [(0,[8192,8192]),(2,[8192,8192])]->Calls Tryz.prog 46 #[v,.int .i64 1] w λe w'=>∃ u,e=.returned (.agg #[.int .i64 2,u])/\OwnI .i64 2 w' w.heap.size u [8192,8192]/\Below w.heap.size w w':=λh=>zeX h 1 (by decide)
 have L0:∀ {w:World} {v:Value} {n:Int},Tab w v n [(0,[8192,8192]),(2,[8192,8192])]->Calls Tryz.prog 46 #[v,.int .i64 0] w λe w'=>∃ u,e=.returned (.agg #[.int .i64 0,u])/\OwnI .i64 2 w' w.heap.size u [8192,8192]/\Below w.heap.size w w':=λh=>zeX h 0 (by decide)
 have LR:∀ {w:World} {v:Value} {n:Int},Tab w v n [(0,[8192,8192]),(2,[8192,8192])]->Calls Tryz.prog 42 #[v,.int .i64 0,.int .i64 2] w λe w'=>e=.returned (.tuple #[.int .i64 0,.int .i64 4])/\Below w.heap.size w w':=by
  intro w v n h;have:=zgm h 0 2 (by omega) (by omega) (by omega) (by omega);rw[e3]at this;exact this
 clear e1 e2 e3 hk
 go_enter Tryz.func105,Tryz.ntmps105
 go_wp2_with (first
  |(go_at_call 148;(with_reducible refine(C5 _ (CK _ (by repeat (first|exact Below.refl _ _|exact HB.out|(with_reducible refine bt ?_ (by assumption))|with_reducible refine bd ?_|with_reducible refine ba ?_ _)))).mono ?_);rintro e w1 ⟨rfl,b1⟩)
  |(go_at_call 149;(with_reducible refine(C6 _ (CK _ (by repeat (first|exact Below.refl _ _|exact HB.out|(with_reducible refine bt ?_ (by assumption))|with_reducible refine bd ?_|with_reducible refine ba ?_ _)))).mono ?_);rintro e w2 ⟨rfl,b2⟩)
  |(go_at_call 102;(with_reducible refine(CR1 _ (CK _ (by repeat (first|exact Below.refl _ _|exact HB.out|(with_reducible refine bt ?_ (by assumption))|with_reducible refine bd ?_|with_reducible refine ba ?_ _)))).mono ?_);rintro e w3 ⟨v,rfl,hT,_,b3⟩;have HT:=za (hT (by trivial));clear hT;obtain⟨a,rfl⟩:=Tab.ptr HT.out)
  |(go_at_call 46;(with_reducible refine(L1 HT.out).mono ?_);rintro e w4 ⟨u,rfl,ou,b4⟩;obtain⟨ad,cap,rfl,ra,_⟩:=ou.formn (show[(8192:Int),8192].length=2 from rfl))
  |(go_at_call 42;(with_reducible refine(LR (Tab.below HT.out (by repeat (first|exact Below.refl _ _|exact HB.out|(with_reducible refine bt ?_ (by assumption))|with_reducible refine bd ?_|with_reducible refine ba ?_ _)))).mono ?_);rintro e w5 ⟨rfl,b5⟩;have q0:=cb b5 (b:=w4.heap.size) (o:=0) (v:=.int .i64 2) (by simp) (by simp);have q1:=cb b5 (b:=w4.heap.size) (o:=1) (v:=.slice ad 2 cap) (by simp) (by simp);have z5:w4.heap.size<w5.heap.size:=(by have:=b5.size;simp at this;omega))
  |(go_at_call 46;(with_reducible refine(L0 (Tab.below HT.out (by repeat (first|exact Below.refl _ _|exact HB.out|(with_reducible refine bt ?_ (by assumption))|with_reducible refine bd ?_|with_reducible refine ba ?_ _)))).mono ?_);rintro e w6 ⟨u6,rfl,ou6,b6⟩;obtain⟨ad6,cap6,rfl,_,_⟩:=ou6.formn (show[(8192:Int),8192].length=2 from rfl);have F0:=zok 0 ad6 2 cap6;have y0:=cb b6 z5 q0;have y1:=cb b6 z5 q1)
  |(go_at_call 150;(with_reducible refine(zs5 2 [8192,8192] rfl _ _ _ _ _ (ra.below (by repeat (first|exact Below.refl _ _|exact HB.out|(with_reducible refine bt ?_ (by assumption))|with_reducible refine bd ?_|with_reducible refine ba ?_ _))) (zyK _ _ _ _) (by omega)).mono ?_);rintro e w7 ⟨rfl,b7⟩))
 go_ret;refine⟨rfl,?_⟩;exact(by repeat (first|exact Below.refl _ _|exact HB.out|(with_reducible refine bt ?_ (by assumption))|with_reducible refine bd ?_|with_reducible refine ba ?_ _))
theorem zaO (n:Int) (h0:1<=n) (h1:n<=65536) (w:World) :
  Calls Tryz.prog 156 #[.int .i64 n] w λe w'=>e=.returned (.bool true)/\w=w':=by
 go_enter Tryz.func156,Tryz.ntmps156
 go_wp2;go_ret
 first|exact⟨rfl,rfl⟩|exact⟨zag (decide_eq_true (by omega)),rfl⟩
theorem zfm (n:Int) (h:n<1\/65536<n) (w:World) :
  Calls Tryz.prog 156 #[.int .i64 n] w λe w'=>e=.returned (.bool false)/\w=w':=by
 rcases h with h|h
 all_goals
  go_enter Tryz.func156,Tryz.ntmps156
  go_wp2;go_ret
  first|exact⟨rfl,rfl⟩|exact⟨zag (decide_eq_false (by omega)),rfl⟩
theorem zo0 (o:Opr) (ax:Option Addr) (cx:Nat) (ay:Option Addr) (cy:Nat) (a b:Int) (w:World) :
  Calls Tryz.prog 119 #[opV o ax cx ay cy,.int .i64 a,.int .i64 b] w λe w'=>e=.returned (.tuple #[.int .i64 (toW o a),.int .i64 (toH o b)])/\Below w.heap.size w w':=by
 unfold opV toW toH;obtain⟨kd,bd,sg,rd,xs,ys,fl,wd,ht⟩:=o;simp only;generalize xs.length=nx at *;generalize ys.length=ny at *
 by_cases h:kd=3
 ·rw[if_pos h,if_pos h];subst h
  go_enter Tryz.func119,Tryz.ntmps119
  go_wp2
  go_quiet (fail)
  go_wp2;exact bodyPost_ret (v:=.tuple #[.int .i64 wd,.int .i64 ht]) (by simp[results,Tryz.results119,go_sem]) rfl ⟨rfl,by repeat (first|exact Below.refl _ _|with_reducible refine bdN ?_ _|with_reducible refine bd ?_|with_reducible refine ba ?_ _)⟩
 ·rw[if_neg h,if_neg h];have hq:(kd == 3)=false:=by simpa using h
  clear h
  go_enter Tryz.func119,Tryz.ntmps119
  go_wp2;exact bodyPost_ret (v:=.tuple #[.int .i64 a,.int .i64 b]) (by simp[results,Tryz.results119,go_sem]) rfl ⟨rfl,by repeat (first|exact Below.refl _ _|with_reducible refine bd ?_|with_reducible refine ba ?_ _)⟩
def S5 (w:World) (R:Nat) (v0 v1 v2 v3 v4:Value):Prop :=
 (w.cell? ⟨R,0,none⟩=some v0/\w.frozen? ⟨R,0,none⟩=false)/\(w.cell? ⟨R,1,none⟩=some v1/\w.frozen? ⟨R,1,none⟩=false)/\(w.cell? ⟨R,2,none⟩=some v2/\w.frozen? ⟨R,2,none⟩=false) /\
 (w.cell? ⟨R,3,none⟩=some v3/\w.frozen? ⟨R,3,none⟩=false)/\(w.cell? ⟨R,4,none⟩=some v4/\w.frozen? ⟨R,4,none⟩=false)
theorem S5.grown {w w':World} {R:Nat} {v0 v1 v2 v3 v4:Value} {row:Option Nat} (h:S5 w R v0 v1 v2 v3 v4) (g:w.grownBy w' row) (ne:some R≠row):S5 w' R v0 v1 v2 v3 v4:=by
 obtain⟨⟨a,a'⟩,⟨b,b'⟩,⟨c,c'⟩,⟨d,d'⟩,⟨e,e'⟩⟩:=h;exact⟨⟨cg g ne a,fg g ne a a'⟩,⟨cg g ne b,fg g ne b b'⟩,⟨cg g ne c,fg g ne c c'⟩,⟨cg g ne d,fg g ne d d'⟩,⟨cg g ne e,fg g ne e e'⟩⟩
theorem S5.below {w w':World} {R:Nat} {v0 v1 v2 v3 v4:Value} (h:S5 w R v0 v1 v2 v3 v4) (b:Below w.heap.size w w'):S5 w' R v0 v1 v2 v3 v4:=h.grown (zI b none) (by simp)
theorem S5.new (w:World) (T:TypeId) (v0 v1 v2 v3 v4:Value):S5 (w.alloc (.cells #[v0,v1,v2,v3,v4] T)) w.heap.size v0 v1 v2 v3 v4:=by
 unfold S5
 simp
theorem S5.set0 {w:World} {R:Nat} {v0 v1 v2 v3 v4:Value} (h:S5 w R v0 v1 v2 v3 v4) (u:Value):S5 (w.setCell ⟨R,0,none⟩ u) R u v1 v2 v3 v4:=by
 obtain⟨⟨a,a'⟩,⟨b,b'⟩,⟨c,c'⟩,⟨d,d'⟩,⟨e,e'⟩⟩:=h;unfold S5;simp only[World.frozen?_setCell];refine⟨⟨World.cell?_setCell_same' _ _ _ (by rw[a];rfl),a'⟩,⟨?_,b'⟩,⟨?_,c'⟩,⟨?_,d'⟩,⟨?_,e'⟩⟩<;>rw[World.cell?_setCell_other _ _ _ _ (by intro x;simp at x)]<;>assumption
theorem S5.set1 {w:World} {R:Nat} {v0 v1 v2 v3 v4:Value} (h:S5 w R v0 v1 v2 v3 v4) (u:Value):S5 (w.setCell ⟨R,1,none⟩ u) R v0 u v2 v3 v4:=by
 obtain⟨⟨a,a'⟩,⟨b,b'⟩,⟨c,c'⟩,⟨d,d'⟩,⟨e,e'⟩⟩:=h;unfold S5;simp only[World.frozen?_setCell];refine⟨⟨?_,a'⟩,⟨World.cell?_setCell_same' _ _ _ (by rw[b];rfl),b'⟩,⟨?_,c'⟩,⟨?_,d'⟩,⟨?_,e'⟩⟩<;>rw[World.cell?_setCell_other _ _ _ _ (by intro x;simp at x)]<;>assumption
theorem S5.set2 {w:World} {R:Nat} {v0 v1 v2 v3 v4:Value} (h:S5 w R v0 v1 v2 v3 v4) (u:Value):S5 (w.setCell ⟨R,2,none⟩ u) R v0 v1 u v3 v4:=by
 obtain⟨⟨a,a'⟩,⟨b,b'⟩,⟨c,c'⟩,⟨d,d'⟩,⟨e,e'⟩⟩:=h;unfold S5;simp only[World.frozen?_setCell];refine⟨⟨?_,a'⟩,⟨?_,b'⟩,⟨World.cell?_setCell_same' _ _ _ (by rw[c];rfl),c'⟩,⟨?_,d'⟩,⟨?_,e'⟩⟩<;>rw[World.cell?_setCell_other _ _ _ _ (by intro x;simp at x)]<;>assumption
theorem S5.set3 {w:World} {R:Nat} {v0 v1 v2 v3 v4:Value} (h:S5 w R v0 v1 v2 v3 v4) (u:Value):S5 (w.setCell ⟨R,3,none⟩ u) R v0 v1 v2 u v4:=by
 obtain⟨⟨a,a'⟩,⟨b,b'⟩,⟨c,c'⟩,⟨d,d'⟩,⟨e,e'⟩⟩:=h;unfold S5;simp only[World.frozen?_setCell];refine⟨⟨?_,a'⟩,⟨?_,b'⟩,⟨?_,c'⟩,⟨World.cell?_setCell_same' _ _ _ (by rw[d];rfl),d'⟩,⟨?_,e'⟩⟩<;>rw[World.cell?_setCell_other _ _ _ _ (by intro x;simp at x)]<;>assumption
theorem S5.set4 {w:World} {R:Nat} {v0 v1 v2 v3 v4:Value} (h:S5 w R v0 v1 v2 v3 v4) (u:Value):S5 (w.setCell ⟨R,4,none⟩ u) R v0 v1 v2 v3 u:=by
 obtain⟨⟨a,a'⟩,⟨b,b'⟩,⟨c,c'⟩,⟨d,d'⟩,⟨e,e'⟩⟩:=h;unfold S5;simp only[World.frozen?_setCell];refine⟨⟨?_,a'⟩,⟨?_,b'⟩,⟨?_,c'⟩,⟨?_,d'⟩,⟨World.cell?_setCell_same' _ _ _ (by rw[e];rfl),e'⟩⟩<;>rw[World.cell?_setCell_other _ _ _ _ (by intro x;simp at x)]<;>assumption
theorem S5.fill {w:World} {R:Nat} {u0 u1 u2 u3 u4:Value} (h:S5 w R u0 u1 u2 u3 u4) (v0 v1 v2 v3 v4:Value):S5 (((((w.setCell ⟨R,0,none⟩ v0).setCell ⟨R,1,none⟩ v1).setCell ⟨R,2,none⟩ v2).setCell ⟨R,3,none⟩ v3).setCell ⟨R,4,none⟩ v4) R v0 v1 v2 v3 v4 :=
 ((((h.set0 v0).set1 v1).set2 v2).set3 v3).set4 v4
theorem zaK {a w:World} {R:Nat} (h:Below a.heap.size a w) (hR:a.heap.size<=R) (v0 v1 v2 v3 v4:Value):Below a.heap.size a (((((w.setCell ⟨R,0,none⟩ v0).setCell ⟨R,1,none⟩ v1).setCell ⟨R,2,none⟩ v2).setCell ⟨R,3,none⟩ v3).setCell ⟨R,4,none⟩ v4) :=
 bs (bs (bs (bs (bs h hR _) hR _) hR _) hR _) hR _
def s0V:Value:=.agg #[.slice none 0 0,.slice none 0 0,.int .i64 0,.int .i64 0,.int .i64 0]
set_option maxHeartbeats 4000000 in
set_option maxRecDepth 100000 in
theorem zr4 (o:Opr) (ax:Option Addr) (cx:Nat) (ay:Option Addr) (cy:Nat) (a b:Int) (w:World) (h:okO o a b=false) :
  Calls Tryz.prog 118 #[opV o ax cx ay cy,.int .i64 a,.int .i64 b] w λe w'=>e=.returned (.tuple #[s0V,.int .i64 6])/\Below w.heap.size w w':=by
 have hn:¬((0<=o.kd/\o.kd<=3)/\(0<=o.bd/\o.bd<=2)/\(1<=a/\a<=65536)/\(1<=b/\b<=65536)/\(o.kd=3->(1<=o.wd/\o.wd<=65536)/\(1<=o.ht/\o.ht<=65536)/\0<=o.fl/\o.fl<=2)):=λg=>Bool.false_ne_true (h.symm.trans ((zbq o a b).2 g))
 unfold opV s0V;obtain⟨kd,bd,sg,rd,xs,ys,fl,wd,ht⟩:=o;simp only at hn ⊢;clear h;generalize xs.length=nx at *;generalize ys.length=ny at *
 by_cases a1:kd<0
 ·clear hn
  go_enter Tryz.func118,Tryz.ntmps118
  go_wp2;exact bodyPost_ret (v:=.tuple #[.agg #[.slice none 0 0,.slice none 0 0,.int .i64 0,.int .i64 0,.int .i64 0],.int .i64 6]) (by simp[results,Tryz.results118,go_sem]) rfl ⟨rfl,by repeat (first|exact Below.refl _ _|with_reducible refine ba ?_ _)⟩
 by_cases a2:3<kd
 ·clear hn
  go_enter Tryz.func118,Tryz.ntmps118
  go_wp2;exact bodyPost_ret (v:=.tuple #[.agg #[.slice none 0 0,.slice none 0 0,.int .i64 0,.int .i64 0,.int .i64 0],.int .i64 6]) (by simp[results,Tryz.results118,go_sem]) rfl ⟨rfl,by repeat (first|exact Below.refl _ _|with_reducible refine ba ?_ _)⟩
 by_cases a3:bd<0
 ·clear hn
  go_enter Tryz.func118,Tryz.ntmps118
  go_wp2;exact bodyPost_ret (v:=.tuple #[.agg #[.slice none 0 0,.slice none 0 0,.int .i64 0,.int .i64 0,.int .i64 0],.int .i64 6]) (by simp[results,Tryz.results118,go_sem]) rfl ⟨rfl,by repeat (first|exact Below.refl _ _|with_reducible refine ba ?_ _)⟩
 by_cases a4:2<bd
 ·clear hn
  go_enter Tryz.func118,Tryz.ntmps118
  go_wp2;exact bodyPost_ret (v:=.tuple #[.agg #[.slice none 0 0,.slice none 0 0,.int .i64 0,.int .i64 0,.int .i64 0],.int .i64 6]) (by simp[results,Tryz.results118,go_sem]) rfl ⟨rfl,by repeat (first|exact Below.refl _ _|with_reducible refine ba ?_ _)⟩
 by_cases a5:1<=a/\a<=65536
 case neg =>
  have S1:=zfm a (by omega);clear hn a5
  go_enter Tryz.func118,Tryz.ntmps118
  go_wp2_with (first
   |(go_at_call 156;(with_reducible refine(S1 _).mono ?_);rintro e w1 ⟨rfl,rfl⟩))
  exact bodyPost_ret (v:=.tuple #[.agg #[.slice none 0 0,.slice none 0 0,.int .i64 0,.int .i64 0,.int .i64 0],.int .i64 6]) (by simp[results,Tryz.results118,go_sem]) rfl ⟨rfl,by repeat (first|exact Below.refl _ _|with_reducible refine ba ?_ _)⟩
 have S1:=zaO a a5.1 a5.2
 by_cases a6:1<=b/\b<=65536
 case neg =>
  have S2:=zfm b (by omega);clear hn a5 a6
  go_enter Tryz.func118,Tryz.ntmps118
  go_wp2_with (first
   |(go_at_call 156;(with_reducible refine(S1 _).mono ?_);rintro e w1 ⟨rfl,rfl⟩)
   |(go_at_call 156;(with_reducible refine(S2 _).mono ?_);rintro e w1 ⟨rfl,rfl⟩))
  exact bodyPost_ret (v:=.tuple #[.agg #[.slice none 0 0,.slice none 0 0,.int .i64 0,.int .i64 0,.int .i64 0],.int .i64 6]) (by simp[results,Tryz.results118,go_sem]) rfl ⟨rfl,by repeat (first|exact Below.refl _ _|with_reducible refine ba ?_ _)⟩
 have S2:=zaO b a6.1 a6.2;have k3:kd=3:=by
  by_cases k:kd=3
  ·exact k
  ·exact absurd ⟨⟨by omega,by omega⟩,⟨by omega,by omega⟩,a5,a6,λe=>absurd e k⟩ hn
 subst k3
 by_cases a7:1<=wd/\wd<=65536
 case neg =>
  have S3:=zfm wd (by omega);clear hn a5 a6 a7
  go_enter Tryz.func118,Tryz.ntmps118
  go_wp2_with (first
   |(go_at_call 156;(with_reducible refine(S1 _).mono ?_);rintro e w1 ⟨rfl,rfl⟩)
   |(go_at_call 156;(with_reducible refine(S2 _).mono ?_);rintro e w1 ⟨rfl,rfl⟩)
   |(go_at_call 156;(with_reducible refine(S3 _).mono ?_);rintro e w1 ⟨rfl,rfl⟩))
  exact bodyPost_ret (v:=.tuple #[.agg #[.slice none 0 0,.slice none 0 0,.int .i64 0,.int .i64 0,.int .i64 0],.int .i64 6]) (by simp[results,Tryz.results118,go_sem]) rfl ⟨rfl,by repeat (first|exact Below.refl _ _|with_reducible refine ba ?_ _)⟩
 have S3:=zaO wd a7.1 a7.2
 by_cases a8:1<=ht/\ht<=65536
 case neg =>
  have S4:=zfm ht (by omega);clear hn a5 a6 a7 a8
  go_enter Tryz.func118,Tryz.ntmps118
  go_wp2_with (first
   |(go_at_call 156;(with_reducible refine(S1 _).mono ?_);rintro e w1 ⟨rfl,rfl⟩)
   |(go_at_call 156;(with_reducible refine(S2 _).mono ?_);rintro e w1 ⟨rfl,rfl⟩)
   |(go_at_call 156;(with_reducible refine(S3 _).mono ?_);rintro e w1 ⟨rfl,rfl⟩)
   |(go_at_call 156;(with_reducible refine(S4 _).mono ?_);rintro e w1 ⟨rfl,rfl⟩))
  exact bodyPost_ret (v:=.tuple #[.agg #[.slice none 0 0,.slice none 0 0,.int .i64 0,.int .i64 0,.int .i64 0],.int .i64 6]) (by simp[results,Tryz.results118,go_sem]) rfl ⟨rfl,by repeat (first|exact Below.refl _ _|with_reducible refine ba ?_ _)⟩
 have S4:=zaO ht a8.1 a8.2
 by_cases a9:fl<0
 ·clear hn a5 a6 a7 a8
  go_enter Tryz.func118,Tryz.ntmps118
  go_wp2_with (first
   |(go_at_call 156;(with_reducible refine(S1 _).mono ?_);rintro e w1 ⟨rfl,rfl⟩)
   |(go_at_call 156;(with_reducible refine(S2 _).mono ?_);rintro e w1 ⟨rfl,rfl⟩)
   |(go_at_call 156;(with_reducible refine(S3 _).mono ?_);rintro e w1 ⟨rfl,rfl⟩)
   |(go_at_call 156;(with_reducible refine(S4 _).mono ?_);rintro e w1 ⟨rfl,rfl⟩))
  exact bodyPost_ret (v:=.tuple #[.agg #[.slice none 0 0,.slice none 0 0,.int .i64 0,.int .i64 0,.int .i64 0],.int .i64 6]) (by simp[results,Tryz.results118,go_sem]) rfl ⟨rfl,by repeat (first|exact Below.refl _ _|with_reducible refine ba ?_ _)⟩
 have aa:2<fl:=by
  by_cases k:2<fl
  ·exact k
  ·exact absurd ⟨⟨by omega,by omega⟩,⟨by omega,by omega⟩,a5,a6,λ_=>⟨a7,a8,by omega,by omega⟩⟩ hn
 clear hn a5 a6 a7 a8
 go_enter Tryz.func118,Tryz.ntmps118
 go_wp2_with (first
  |(go_at_call 156;(with_reducible refine(S1 _).mono ?_);rintro e w1 ⟨rfl,rfl⟩)
  |(go_at_call 156;(with_reducible refine(S2 _).mono ?_);rintro e w1 ⟨rfl,rfl⟩)
  |(go_at_call 156;(with_reducible refine(S3 _).mono ?_);rintro e w1 ⟨rfl,rfl⟩)
  |(go_at_call 156;(with_reducible refine(S4 _).mono ?_);rintro e w1 ⟨rfl,rfl⟩))
 exact bodyPost_ret (v:=.tuple #[.agg #[.slice none 0 0,.slice none 0 0,.int .i64 0,.int .i64 0,.int .i64 0],.int .i64 6]) (by simp[results,Tryz.results118,go_sem]) rfl ⟨rfl,by repeat (first|exact Below.refl _ _|with_reducible refine ba ?_ _)⟩
def P9 (w:World) (b:Nat) (k d s r:Int) (x y:Value) (f a h:Int):Prop :=
 w.cell? ⟨b,0,none⟩=some (.int .i64 k)/\w.cell? ⟨b,1,none⟩=some (.int .i64 d)/\w.cell? ⟨b,2,none⟩=some (.int .i64 s)/\w.cell? ⟨b,3,none⟩=some (.int .i64 r)/\w.cell? ⟨b,4,none⟩=some x/\w.cell? ⟨b,5,none⟩=some y /\
 w.cell? ⟨b,6,none⟩=some (.int .i64 f)/\w.cell? ⟨b,7,none⟩=some (.int .i64 a)/\w.cell? ⟨b,8,none⟩=some (.int .i64 h)
theorem P9.below {w w':World} {b:Nat} {k d s r:Int} {x y:Value} {f a h:Int} (p:P9 w b k d s r x y f a h) (hb:Below w.heap.size w w'):P9 w' b k d s r x y f a h:=by
 obtain⟨p0,p1,p2,p3,p4,p5,p6,p7,p8⟩:=p;have hl:=zf p0;exact⟨cb hb hl p0,cb hb hl p1,cb hb hl p2,cb hb hl p3,cb hb hl p4,cb hb hl p5,cb hb hl p6,cb hb hl p7,cb hb hl p8⟩
theorem P9.new (w:World) (T:TypeId) (k d s r:Int) (x y:Value) (f a h:Int):P9 (w.alloc (.cells #[.int .i64 k,.int .i64 d,.int .i64 s,.int .i64 r,x,y,.int .i64 f,.int .i64 a,.int .i64 h] T)) w.heap.size k d s r x y f a h:=by
 unfold P9
 simp
theorem zwN (w:World) (T:TypeId) (o:Opr) (ax:Option Addr) (cx:Nat) (ay:Option Addr) (cy:Nat) (hA:OpAt w o ax cx ay cy):OpsAt (w.alloc (.cells #[.int .i64 o.kd,.int .i64 o.bd,.int .i64 o.sg,.int .i64 o.rd,.slice ax o.xs.length cx,.slice ay o.ys.length cy,.int .i64 o.fl,.int .i64 o.wd,.int .i64 o.ht] T)) (some ⟨w.heap.size,0,none⟩) [o]:=by
 refine .inr ⟨w.heap.size,0,rfl,λj hj=>?_⟩;obtain rfl:j=0:=by simpa using hj
 show OpIn _ _ _ o
 obtain⟨p0,p1,p2,p3,p4,p5,p6,p7,p8⟩:=P9.new w T o.kd o.bd o.sg o.rd (.slice ax o.xs.length cx) (.slice ay o.ys.length cy) o.fl o.wd o.ht;exact⟨p0,p1,p2,p3,p6,p7,p8,ax,cx,ay,cy,p4,p5,hA.below (zg _ _)⟩
def zb6 (e:Ending) (w':World) (k:Int) (S:Stg):Prop :=
 (k≠0/\e=.returned (.tuple #[.agg #[.pointer none,.pointer none,.int .i64 0],.int .i64 k]))\/(k=0/\∃ x y,e=.returned (.tuple #[.agg #[x,y,.int .i64 S.sb],.int .i64 0])/\Tab w' x S.fx S.lx/\Tab w' y S.fy S.ly)
def zto (K:World->Prop):Prop:=∀ (o:Opr) (ax:Option Addr) (cx:Nat) (ay:Option Addr) (cy:Nat) (a b:Int) (w:World),K w->OpAt w o ax cx ay cy->OpFits o->zax a->zax b ->
 Calls Tryz.prog 34 #[opV o ax cx ay cy,.int .i64 a,.int .i64 b] w λe w'=>zb6 e w' (zB o a b) (zj o a b)/\Below w.heap.size w w'
def exO:Opr:=⟨3,0,0,0,[],[],0,2,1⟩
theorem zvR:zB exO 4 3=0/\(zj exO 4 3).lx.length=2/\(zj exO 4 3).ly.length=1:=by decide +kernel
theorem zvc:OpFits exO:=by
 refine⟨?_,?_,?_,?_,?_,?_,?_,(λn hn=>by cases hn),(λn hn=>by cases hn),Nat.zero_le _,Nat.zero_le _⟩<;>(unfold zax exO;simp)
set_option maxRecDepth 100000 in
theorem zsq {K:World->Prop} (hKB:∀ w w',K w->Below w.heap.size w w'->K w') (hKK:∀ w,K w->zaT w) (CM:zto K) (w:World) (hk:K w) :
  Calls Tryz.prog 67 #[] w λe w'=>e=.returned (.bool true)/\Below w.heap.size w w':=by
 have C8:∀ w:World,zaT w->Calls Tryz.prog 105 #[] w λe w'=>e=.returned (.bool true)/\Below w.heap.size w w':=λw hk=>zyi w hk
 obtain⟨e1,e2,e3⟩:=zvR;have C1:∀ w:World,K w->Calls Tryz.prog 34 #[.agg #[.int .i64 3,.int .i64 0,.int .i64 0,.int .i64 0,.slice none 0 0,.slice none 0 0,.int .i64 0,.int .i64 2,.int .i64 1],.int .i64 4,.int .i64 3] w λe w'=>(∃ x y,e=.returned (.tuple #[.agg #[.pointer (some x),.pointer (some y),.int .i64 0],.int .i64 0])/\Tab w' (.pointer (some x)) 4 (zj exO 4 3).lx/\Tab w' (.pointer (some y)) 3 (zj exO 4 3).ly)/\Below w.heap.size w w':=λw hk =>
  (CM exO none 0 none 0 4 3 w hk ⟨.inl rfl,.inl rfl,λ_=>rfl,λ_=>rfl⟩ zvc (by unfold zax;omega) (by unfold zax;omega)).mono λe w' ⟨hA,hB⟩=>by
   rw[e1]at hA;rcases hA with⟨h0,_⟩|⟨_,x,y,he,tx,ty⟩
   ·exact absurd rfl h0
   ·obtain⟨ax,rfl⟩:=tx.ptr;obtain⟨ay,rfl⟩:=ty.ptr;exact⟨⟨ax,ay,he,tx,ty⟩,hB⟩
 have TF:=λ{w:World} {v:Value} {n:Int} {L:List (Int×List Int)} (h:Tab w v n L)=>zfS h
 have TX:=λ{w:World} {v:Value} {n:Int} (h:Tab w v n (zj exO 4 3).lx)=>zeC h
 have TY:=λ{w:World} {v:Value} {n:Int} (h:Tab w v n (zj exO 4 3).ly)=>zeC h
 rw[e2]at TX;rw[e3]at TY;clear e1 e2 e3 CM;generalize (zj exO 4 3).lx=LX at *;generalize (zj exO 4 3).ly=LY at *;have q1:∀ (a:Addr) (w:World),(binOp .neq 34 (.pointer (some a)) (.pointer none)).run Tryz.prog w=.ok (.bool true) w:=λa w=>by kernel_rfl
 go_enter Tryz.func67,Tryz.ntmps67
 go_wp2_with (first
  |(go_at_call 34;(with_reducible refine(C1 _ hk).mono ?_);rintro e w1 ⟨⟨x,y,rfl,tx,ty⟩,b1⟩;have HX:=za tx;have HY:=za ty;clear tx ty)
  |(go_at_call 105;(with_reducible refine(C8 _ (hKK _ (hKB _ _ hk (ba b1 _)))).mono ?_);rintro e w2 ⟨rfl,b2⟩;have p0:=cb b2 (b:=w1.heap.size) (o:=0) (v:=.pointer (some x)) (by simp) (by simp);have p1:=cb b2 (b:=w1.heap.size) (o:=1) (v:=.pointer (some y)) (by simp) (by simp);have l2:w1.heap.size<w2.heap.size:=(by have:=b2.size;simp at this;omega))
  |(go_at_call 106;(with_reducible refine(TF ((HX.out.below (zg _ _)).below b2)).mono ?_);rintro e w3 ⟨rfl,b3⟩;have p2:=cb b3 l2 p0;have p3:=cb b3 l2 p1;have l3:=Nat.lt_of_lt_of_le l2 b3.size)
  |(go_at_call 32;(with_reducible refine(TX (((HX.out.below (zg _ _)).below b2).below b3)).mono ?_);rintro e w4 ⟨rfl,b4⟩;have p5:=cb b4 l3 p3;have l4:=Nat.lt_of_lt_of_le l3 b4.size)
  |(go_at_call 106;(with_reducible refine(TF ((((HY.out.below (zg _ _)).below b2).below b3).below b4)).mono ?_);rintro e w5 ⟨rfl,b5⟩;have p6:=cb b5 l4 p5)
  |(go_at_call 32;(with_reducible refine(TY (((((HY.out.below (zg _ _)).below b2).below b3).below b4).below b5)).mono ?_);rintro e w6 ⟨rfl,b6⟩))
 go_ret;exact⟨rfl,bt (bt (bt (bt (bt (ba b1 _) b2) b3) b4) b5) b6⟩
end Go.Proofs.YtlodkoimdoeopaaGreatDoor
