/- Parts, joined. -/
import Derived.Test.YtlodkoimdoeopaaGreatDoorQ21
import Derived.Test.YtlodkoimdoeopaaGreatDoorQ20
import Derived.Test.YtlodkoimdoeopaaGreatDoorQ16
import Derived.Test.YtlodkoimdoeopaaGreatDoorQ24
import Derived.Test.YtlodkoimdoeopaaGreatDoorQ22
import Derived.Test.YtlodkoimdoeopaaGreatDoorQ12
import Derived.Test.YtlodkoimdoeopaaGreatDoorQ18
import Derived.Deep.LoopGhost
import Derived.Deep.RegionHeld3
namespace Go.Proofs.YtlodkoimdoeopaaGreatDoor
open Go.RowKit
set_option maxHeartbeats 8000000 in
set_option maxRecDepth 100000 in
theorem zow {w:World} {xv yv:Value} {S:Stg} (hT:Tab w xv S.fx S.lx) (hs:zib S.lx) (N:Nat) (hN:S.lx.length=N) :
  Calls Tryz.prog 112 #[.agg #[xv,yv,.int .i64 S.sb]] w λe w'=>(∃ h,e=.returned (.slice (some ⟨h,0,none⟩) N N)/\w.heap.size<=h/\∀ i,i<N->ColAt w' w.heap.size h S i)/\Below w.heap.size w w':=by
 obtain⟨hok,l0,l1,n0,n1⟩:=hT.ok;rw[hN]at l0 l1;obtain⟨lo,hlo⟩:∃ lo,(zav S.lx 0 (N:Int)).1=lo:=⟨_,rfl⟩;obtain⟨hi,hhi⟩:∃ hi,(zav S.lx 0 (N:Int)).2.1=hi:=⟨_,rfl⟩;have hcov:∀ j,j<N->lo<=(zf S.lx j).1/\(zf S.lx j).1+((zf S.lx j).2.length:Int)<=hi:=by
  intro j hj;have:=(zsA S.lx (N:Int) N (Int.le_refl _)).2 j hj;rw[show zaf S.lx 0 (N:Int) N=zav S.lx 0 (N:Int) by unfold zav;rw[hN],hlo,hhi]at this;exact this
 have hnear : -1048576<=lo/\hi<=2097152:=by
  have:=zqM hs (N:Int) N (by omega);rw[show zaf S.lx 0 (N:Int) N=zav S.lx 0 (N:Int) by unfold zav;rw[hN],hlo,hhi]at this;exact this
 obtain⟨r0,r1⟩:=hnear;have h00:=hcov 0 (by omega);have h01:=(hok 0 (by omega)).2.2.1;obtain⟨c,hc⟩:∃ c:Nat,hi-lo=(c:Int):=⟨(hi-lo).toNat,by omega⟩;have CT:=λw' (b:Below w.heap.size w w')=>zeA (hT.below b)
 have CR:=λw' (b:Below w.heap.size w w')=>zf8 (hT.below b) 0 (N:Int) (by omega) (by omega) (by omega) (by omega)
 have CF:=λw' (b:Below w.heap.size w w')=>zfZ (hT.below b)
 have CL:=za (λw' (b:Below w.heap.size w w') (j:Nat) (hj:j<N)=>zeH (hT.below b) j (by omega));simp only[hN]at CT;simp only[hlo,hhi,hc]at CR;have CS:=λw'=>zly S.sb lo S.fx c (by omega) (by omega) (by omega) (by omega) w'
 have HSL:=za (zaw S.sb lo S.fx c);have HCOV:=za hcov;have HOK:=za (fun(j:Nat) (hj:j<N)=>hok j (by omega));have c0:1<=c:=by omega
 have c1:c<=3145728:=by omega
 have HHI:=za hc;obtain⟨zs,MK,MO⟩:=zxg N (by omega);have HMO:=za MO;obtain⟨av,rfl⟩:=hT.ptr;obtain⟨W0,hW0⟩:∃ W0,w.alloc (.cells #[.pointer (some av),yv,.int .i64 S.sb] 36)=W0:=⟨_,rfl⟩;have B0:=za (show Below w.heap.size w W0 by rw[←hW0];exact zg _ _);have C0:=za (show W0.cell? ⟨w.heap.size,0,none⟩=some (.pointer (some av))/\W0.cell? ⟨w.heap.size,2,none⟩=some (.int .i64 S.sb) by rw[←hW0];constructor<;>simp);have Z0:=za (show w.heap.size<W0.heap.size by rw[←hW0];simp);clear hT hs hok hcov h00 h01 hlo hhi hc MO;have HPL:=za (fun(d m:Nat) (h:d+m<=c)=>zsx S.sb lo S.fx h);obtain⟨sb,hsb⟩:∃ sb,S.sb=sb:=⟨_,rfl⟩;obtain⟨fx,hfx⟩:∃ fx,S.fx=fx:=⟨_,rfl⟩;obtain⟨PL,hPL⟩:∃ PL,zB S.sb lo S.fx c=PL:=⟨_,rfl⟩;rw[hPL]at CS HSL;simp only[hPL]at HPL;rw[hsb,hfx]at CS;rw[hsb]at C0 hW0 ⊢;rw[hfx]at CF;clear hPL hsb hfx;have z0:=Z0.out
 go_enter Tryz.func112,Tryz.ntmps112
 go_upto_region 1 with fail
 clear hW0;obtain⟨q0,q1⟩:=C0.out
 go_cut [3,4] (λa b wx=>a=.int .i64 lo/\b=.int .i64 (c:Int)/\Below W0.heap.size W0 wx)
 case first =>
  go_region_held3 (λw'=>w'.cell? ⟨w.heap.size,0,none⟩=some (.pointer (some av))) (first|with_reducible assumption|go_keep)
   (first
    |(go_at_call 32;(with_reducible refine(CT _ (bt B0.out bch)).mono ?_);rintro e w3 ⟨rfl,b3⟩;have D3:Below W0.heap.size W0 w3:=bt bch b3;have K3:=za D3;have x0:=cb D3 z0 q0;clear D3 b3)
    |(go_at_call 42;(with_reducible refine(CR _ (bt B0.out (bt K3.out bch))).mono ?_);rintro e w4 ⟨rfl,b4⟩;have D4:Below W0.heap.size W0 w4:=bt (bt K3.out bch) b4;have K4:=za D4;have y0:=cb D4 z0 q0;clear D4 b4))
  all_goals
   go_wp2_with fail
   go_meet;exact⟨rfl,rfl,by repeat (first|exact K4.out|(with_reducible refine bdN ?_ _)|with_reducible refine bd ?_)⟩
 case rest =>
  obtain⟨rfl,rfl,hb⟩:=hcut;have H1:=za hb;clear hb
  go_upto_region 2 with fail
  have q0:=cb H1.out z0 C0.out.1;have q1:=cb H1.out z0 C0.out.2;have zx:W0.heap.size<=wc.heap.size:=H1.out.size;have HZX:=za zx
  go_cut [3,5] (λa p wx=>a=.int .i64 lo/\(∃ pb pc,p=.slice (some ⟨pb,0,none⟩) c pc/\W0.heap.size<=pb/\pb<wx.heap.size/\c<=pc/\RowAt .i64 wx (some ⟨pb,0,none⟩) PL)/\Below W0.heap.size W0 wx)
  case first =>
   go_region_held3 (λw'=>w'.cell? ⟨w.heap.size,0,none⟩=some (.pointer (some av))/\w'.cell? ⟨w.heap.size,2,none⟩=some (.int .i64 sb)) (first|with_reducible assumption|(with_reducible exact⟨q0,q1⟩)|(with_reducible exact⟨x0,x1⟩)|(with_reducible exact⟨y0,y1⟩)|go_keep)
    (first
     |(go_at_call 106;(with_reducible refine(CF _ (bt B0.out (bt H1.out bch))).mono ?_);rintro e w3 ⟨rfl,b3⟩;have D3:Below W0.heap.size W0 w3:=bt (bt H1.out bch) b3;have K3:=za D3;have x0:=cb D3 z0 C0.out.1;have x1:=cb D3 z0 C0.out.2;clear D3 b3)
     |(go_at_call 43;(with_reducible refine(CS _).mono ?_);rintro e w4 ⟨v,rfl,own,b4⟩;have D4:Below W0.heap.size W0 w4:=bt (bt K3.out bch) b4;have K4:=za D4;obtain⟨pb,pc,rfl,hpb,hpl,hrow,hcap,_⟩:=zax own HSL.out c0;have KP:=za (And.intro hpb (And.intro hpl (And.intro hrow hcap)));have KS:=za K3.out.size;have y0:=cb D4 z0 C0.out.1;have y1:=cb D4 z0 C0.out.2;clear D4 b4 own hpb hpl hrow hcap))
   all_goals
    go_wp2_with fail
    go_meet;obtain⟨k0,k1,k2,k3⟩:=KP.out;have ks:=KS.out;exact⟨rfl,⟨pb,pc,rfl,by omega,k1,k3,k2⟩,by repeat (first|exact K4.out|(with_reducible refine bdN ?_ _)|with_reducible refine bd ?_)⟩
  case rest =>
   obtain⟨rfl,⟨pb,pc,rfl,hpb,hpl,hpc,hrow⟩,hb⟩:=hcut;have H2:=za hb;have HROW:=za hrow;have HSL2:=HSL;clear hb hrow CS HSL q0 q1;have q0:=cb H2.out z0 C0.out.1
   go_wp2_with (go_at_call 32;(with_reducible refine(CT _ (bt B0.out H2.out)).mono ?_);rintro e w5 ⟨rfl,b5⟩;have H5:=za (bt H2.out b5);have HROW5:=za (HROW.out.below b5);have HS5:=za b5.size;clear b5)
   have HF:=za (HMO.out w5 w.heap.size S);have HB5:=za (ba (Below.refl w5.heap.size w5) (.cells zs 177));clear MK HMO q0;generalize w5.alloc (.cells zs 177)=w6 at *;obtain⟨h,hh⟩:∃ h,w5.heap.size=h:=⟨_,rfl⟩;have HHH:=za hh;have hs5:=HS5.out;have hph:pb<h:=by omega
   have hwh:w.heap.size<h:=by have:=H5.out.size;omega
   rw[hh]at HF;simp only[hh];clear hh hs5
   go_loopg [7,33] N (λr t i wr=>∃ k:Nat,k+r=N/\i=.int .i64 (k:Int)/\(∃ ad T m cp,t=.slice ad m cp/\T.length=m/\RowAt .i64 wr ad T/\FarRow (h+1) ad T/\m<=1048576)/\ColFill wr w.heap.size h N S k/\Below w5.heap.size w5 wr)
   case atStart=>exact⟨0,by omega,rfl,⟨none,[],0,0,rfl,rfl,.inl rfl,.inl rfl,by decide⟩,HF.out,HB5.out⟩
   case round =>
    clear HF HB5;obtain⟨k,hk,rfl,⟨ad,T,m0,cp,rfl,hT0,hrT,hfT,hm0⟩,hfill,hb⟩:=hrel;have HK:=za hk;have HT0:=za hT0;have HRT:=za hrT;have HFT:=za hfT;have HFI:=za hfill;have HB:=za hb;clear hk hT0 hrT hfT hfill hb
    by_cases hlt:k<N
    ·have LK:=HOK.out k hlt;have cov:=HCOV.out k hlt;have CL1:=CL.out wr (bt B0.out (bt H5.out HB.out)) k hlt;obtain⟨f,ts,he⟩:∃ f ts,zf S.lx k=(f,ts):=⟨_,_,rfl⟩;rw[he]at LK cov CL1;obtain⟨_,_,m1,m2,_⟩:=LK;obtain⟨v0,v1⟩:=cov;have m1:1<=ts.length:=m1;have m2:ts.length<=1048576:=m2;have v0:lo<=f:=v0;have v1:f+(ts.length:Int)<=hi:=v1;obtain⟨m,hm⟩:∃ m,ts.length=m:=⟨_,rfl⟩;rw[hm]at m1 m2 v1;obtain⟨d,hd⟩:∃ d:Nat,f-lo=(d:Int):=⟨(f-lo).toNat,by omega⟩;have hhi:=HHI.out;have g1:0<=f-lo:=by omega
     have g2:f-lo<=(c:Int):=by omega
     have g3:(f-lo).toNat=d:=by omega
     have dm:d+m<=c:=by omega
     have HSPN:=za (HPL.out d m dm);have HFE:=za (show lo+(d:Int)=f by omega);have HE:=za he;have HM:=za hm;have x0:=cb HB.out (by have:=HHH.out;omega) (cb H5.out z0 C0.out.1);have np:¬pc=d:=by omega
     have g4:m<=pc-d:=by omega
     have hwr:=HB.out.size;clear he hm hd hhi v0 v1
     by_cases hE:ts=T
     ·subst hE;obtain rfl:m=m0:=by rw[←HM.out,HT0.out]
      have CE:∀ w' ad' cap' bd cap'' (_:RowAt .i64 w' ad' ts) (_:RowAt .i64 w' bd ts),Calls Tryz.prog 83 #[.slice ad' m cap',.slice bd m cap''] w' λe w''=>e=.returned (.bool true)/\Below w'.heap.size w' w'':=λw' ad' cap' bd cap'' h1 h2 =>
       (zio ts ts m m HM.out HM.out ad' bd cap' cap'' (by omega) w' h1 h2).mono λe w'' q=>⟨by rw[q.1,decide_eq_true rfl],q.2.below⟩
      obtain⟨wb,wo,rfl,hwb⟩:∃ b o,ad=some ⟨b,o,none⟩/\h+1<=b:=by
       rcases HFT.out with e|⟨b,o,e,l⟩
       ·exact absurd (congrArg List.length e) (by rw[HM.out];exact λq=>by simp at q;omega)
       ·exact⟨b,o,e,l⟩
      go_wp2_with (first
       |(go_at_call 46;(with_reducible refine CL1.mono ?_);rintro e w3 ⟨u,rfl,own,b3⟩;obtain⟨tb,tc,rfl,htb,_,hr,_,_⟩:=zax own HM.out m1;have K3:=za b3;have HR3:=za hr;have HRT3:=za (HRT.out.below b3);have FI3:=za (HFI.out.below b3);clear own hr b3)
       |(go_at_call 83;(with_reducible refine(CE _ _ _ _ _ (HR3.out.below (zg _ _)) (HRT3.out.below (zg _ _))).mono ?_);rintro e w4 ⟨rfl,b4⟩;have g0:=cb b4 (b:=w3.heap.size) (o:=0) (v:=.int .i64 f) (by simp) (by simp);have g1:=cb b4 (b:=w3.heap.size) (o:=1) (v:=.slice (some ⟨tb,0,none⟩) m tc) (by simp) (by simp);have FI4:=za ((FI3.out.below (zg _ (.cells #[.int .i64 f,.slice (some ⟨tb,0,none⟩) m tc] 103))).below b4);have HRT4:=za ((HRT3.out.below (zg _ (.cells #[.int .i64 f,.slice (some ⟨tb,0,none⟩) m tc] 103))).below b4);have K4:=za (bt (ba K3.out (.cells #[.int .i64 f,.slice (some ⟨tb,0,none⟩) m tc] 103)) b4);obtain⟨⟨va,ka⟩,fa⟩:=FI4.out.1 (k*2) (by omega);obtain⟨⟨vb,kb⟩,fb'⟩:=FI4.out.1 (k*2+1) (by omega)))
      have PR:=((HROW5.out.below (show Below w5.heap.size w5 w4 from bt HB.out K4.out)).part d m (by rw[HSL2.out];exact dm));rw[HSPN.out,HFE.out,Nat.zero_add]at PR;have PE:RowAt .i64 w4 (some ⟨pb,d,none⟩) (zB S.sb (zf S.lx k).1 S.fx m):=by rw[HE.out];exact PR
      have TE:RowAt .i64 w4 (some ⟨wb,wo,none⟩) (zf S.lx k).2:=by rw[HE.out];exact HRT4.out
      have PUT:=za (FI4.out.put hlt (pc:=pc-d) (wc:=cp) (m:=m) (by rw[HE.out];exact HM.out) PE TE (by omega) (by omega) (by omega) (by omega));have GR:=(zn w4 h (k*2) (.slice (some ⟨pb,d,none⟩) m (pc-d))).trans (zn _ h (k*2+1) (.slice (some ⟨wb,wo,none⟩) m cp));have NR:=za (HRT4.out.grown GR (λe=>by have:=Option.some.inj e;omega));have NB:=za ((bt HB.out K4.out).grown GR (by have:=HB.out.size;have:=K4.out.size;omega) (λj hj=>by have:=Option.some.inj hj;have:=HHH.out;omega))
      go_roundg (gk-1)
      case measure=>have:=HK.out;omega
      case rel=>exact⟨k+1,by have:=HK.out;omega,by go_num,⟨_,ts,m,cp,rfl,HM.out,NR.out,.inr ⟨wb,wo,rfl,by omega⟩,m2⟩,PUT.out,NB.out⟩
     ·have CE:∀ w' ad' cap' bd cap'' (_:RowAt .i64 w' ad' ts) (_:RowAt .i64 w' bd T),Calls Tryz.prog 83 #[.slice ad' m cap',.slice bd m0 cap''] w' λe w''=>e=.returned (.bool false)/\Below w'.heap.size w' w'':=λw' ad' cap' bd cap'' h1 h2 =>
       (zio ts T m m0 HM.out HT0.out ad' bd cap' cap'' (by omega) w' h1 h2).mono λe w'' q=>⟨by rw[q.1,decide_eq_false hE],q.2.below⟩
      clear hE
      go_wp2_with (first
       |(go_at_call 46;(with_reducible refine CL1.mono ?_);rintro e w3 ⟨u,rfl,own,b3⟩;obtain⟨tb,tc,rfl,htb,_,hr,_,_⟩:=zax own HM.out m1;have K3:=za b3;have HR3:=za hr;have HTB:=za htb;have HRT3:=za (HRT.out.below b3);have FI3:=za (HFI.out.below b3);clear own hr b3 htb)
       |(go_at_call 83;(with_reducible refine(CE _ _ _ _ _ (HR3.out.below (zg _ _)) (HRT3.out.below (zg _ _))).mono ?_);rintro e w4 ⟨rfl,b4⟩;have g0:=cb b4 (b:=w3.heap.size) (o:=0) (v:=.int .i64 f) (by simp) (by simp);have g1:=cb b4 (b:=w3.heap.size) (o:=1) (v:=.slice (some ⟨tb,0,none⟩) m tc) (by simp) (by simp);have FI4:=za ((FI3.out.below (zg _ (.cells #[.int .i64 f,.slice (some ⟨tb,0,none⟩) m tc] 103))).below b4);have HRT4:=za ((HR3.out.below (zg _ (.cells #[.int .i64 f,.slice (some ⟨tb,0,none⟩) m tc] 103))).below b4);have K4:=za (bt (ba K3.out (.cells #[.int .i64 f,.slice (some ⟨tb,0,none⟩) m tc] 103)) b4);obtain⟨⟨va,ka⟩,fa⟩:=FI4.out.1 (k*2) (by omega);obtain⟨⟨vb,kb⟩,fb'⟩:=FI4.out.1 (k*2+1) (by omega)))
      have hh1:h+1<=tb:=by
       obtain⟨⟨v9,k9⟩,_⟩:=HFI.out.1 0 (by omega);have:=HTB.out;have:=ze k9;omega
      have PR:=((HROW5.out.below (show Below w5.heap.size w5 w4 from bt HB.out K4.out)).part d m (by rw[HSL2.out];exact dm));rw[HSPN.out,HFE.out,Nat.zero_add]at PR;have PE:RowAt .i64 w4 (some ⟨pb,d,none⟩) (zB S.sb (zf S.lx k).1 S.fx m):=by rw[HE.out];exact PR
      have TE:RowAt .i64 w4 (some ⟨tb,0,none⟩) (zf S.lx k).2:=by rw[HE.out];exact HRT4.out
      have PUT:=za (FI4.out.put hlt (pc:=pc-d) (wc:=tc) (m:=m) (by rw[HE.out];exact HM.out) PE TE (by omega) (by omega) (by omega) (by omega));have GR:=(zn w4 h (k*2) (.slice (some ⟨pb,d,none⟩) m (pc-d))).trans (zn _ h (k*2+1) (.slice (some ⟨tb,0,none⟩) m tc));have NR:=za (HRT4.out.grown GR (λe=>by have:=Option.some.inj e;omega));have NB:=za ((bt HB.out K4.out).grown GR (by have:=HB.out.size;have:=K4.out.size;omega) (λj hj=>by have:=Option.some.inj hj;have:=HHH.out;omega))
      go_roundg (gk-1)
      case measure=>have:=HK.out;omega
      case rel=>exact⟨k+1,by have:=HK.out;omega,by go_num,⟨_,ts,m,tc,rfl,HM.out,NR.out,.inr ⟨tb,0,rfl,by omega⟩,m2⟩,PUT.out,NB.out⟩
    ·obtain rfl:N=k:=by have:=HK.out;omega
     clear hlt;go_wp2;go_ret;exact⟨⟨h,rfl,by omega,HFI.out.2⟩,bt B0.out (bt H5.out HB.out)⟩
set_option maxHeartbeats 4000000 in
theorem zn2 {w:World} {g h:Nat} {I:Im} (H:ImgAt w g h I) (y:Int) (y0:0<=y) (y1:y<I.ih):Calls Tryz.prog 152 #[.pointer (some ⟨g,0,none⟩),.int .i64 y] w λe w'=>∃ v,e=.returned v/\OwnI .u16 22 w' w.heap.size v (zcE I y)/\Below w.heap.size w w':=by
 have hk:=H.ok;obtain⟨l0,l1⟩:=zbr hk;obtain⟨r0,r1,r2,r3,r4,r5⟩:=zfO hk y0 y1;have hl:=zld hk y0 y1;have CP:=zh1 H (x:=0) (y:=y) (z:=0) (zcP.2 (by obtain⟨a0,_,_,_,hc,_⟩:=hk;omega));rw[show zL I 0 y 0=y*I.iw*I.ic by unfold zL zcc;rw[Int.add_zero,Int.add_zero]]at CP;obtain⟨cap,c0,c1,c2,c3,c4,hr,hz,hcap,-⟩:=H;obtain⟨k,hkk⟩:∃ k:Nat,(k:Int)=y*I.iw*I.ic:=⟨_,Int.toNat_of_nonneg r2⟩;obtain⟨n,hn⟩:∃ n:Nat,(n:Int)=I.iw*I.ic:=⟨_,Int.toNat_of_nonneg (by omega)⟩;have hpart:=hr.part k n (by omega);have HP:=za hpart;have e1:zcE I y=(I.il.drop k).take n:=by unfold zcE;rw[←hkk,←hn,Int.toNat_natCast,Int.toNat_natCast]
 rw[←hn,Int.toNat_natCast]at hl;rw[←e1,Nat.zero_add]at hpart;have HR:=za hpart;have CC:=λcap w hr=>ziq (zcE I y) n hl h k cap (by omega) w hr
 rw[←hkk]at CP r2 r3;rw[←hn]at r0 r1 r3;have hm:I.iw*I.ic=(n:Int):=hn.symm;generalize zcE I y=xs at *;generalize I.il.length=m at *;generalize I.iw=a at *;generalize I.ih=b at *;generalize I.ic=c at *;clear hpart HP e1 hr hz hk hkk hn c3 r4 r5;have hw1:IntKind.i64.wrap (a*c)=(n:Int):=by rw[hm];exact IntWalk.i64_in _ (by omega)
 have hw2:IntKind.i64.wrap ((k:Int)+(n:Int))=(k:Int)+(n:Int):=IntWalk.i64_in _ (by omega);clear hm
 go_enter Tryz.func152,Tryz.ntmps152
 go_upto_region 4 with(go_at_call 55;(with_reducible refine CP.mono ?_);rintro e w1 ⟨rfl,q,rfl⟩)
 go_region_with (go_at_call 39;(with_reducible refine(CC _ _ (HR.out.below (by repeat (first|exact Below.refl _ _|(with_reducible refine bdN ?_ _)|(with_reducible refine bd ?_))))).mono ?_);rintro e w2 ⟨v,rfl,own,b2⟩)
 all_goals go_wp2
 all_goals go_ret
 all_goals exact⟨_,rfl,own,bt (bdN (Below.refl _ _) _) b2⟩
def zde (I:Im) (P:List Int) (j q:Nat):Int:=(zcE I (P.getD q 0)).getD j 0
def dnL (I:Im) (P W:List Int) (n k i:Nat):List Int:=(List.range n).map λj=>if j<i then zq W (zde I P j) (k+1) else zq W (zde I P j) k
theorem zcm (I:Im) (P W:List Int) (n k i:Nat):(dnL I P W n k i).length=n:=by unfold dnL;rw[List.length_map,List.length_range]
theorem zgF (I:Im) (P W:List Int) {n j:Nat} (k i:Nat) (h:j<n):(dnL I P W n k i).getD j 0=if j<i then zq W (zde I P j) (k+1) else zq W (zde I P j) k:=by
 unfold dnL;rw[List.getD_eq_getElem?_getD,List.getElem?_map,List.getElem?_range h];rfl
theorem zvk (I:Im) (P W:List Int) (n:Nat):dnL I P W n 0 0=List.replicate n 0:=by
 refine List.ext_getElem (by rw[zcm,List.length_replicate]) (λj h1 h2=>?_);rw[zcm]at h1;have:=zgF I P W 0 0 h1;rw[List.getD_eq_getElem?_getD,List.getElem?_eq_getElem (by rw[zcm];exact h1),if_neg (Nat.not_lt_zero _)]at this;rw[List.getElem_replicate];exact this
theorem zvG (I:Im) (P W:List Int) (n k:Nat):dnL I P W n k n=dnL I P W n (k+1) 0:=by
 unfold dnL;refine List.map_congr_left (λj hj=>?_);rw[if_pos (List.mem_range.1 hj),if_neg (Nat.not_lt_zero _)]
theorem zwu (I:Im) (P W:List Int) {n k i:Nat} (_h:i<n) (x:Int) (hx:x=zq W (zde I P i) (k+1)):(dnL I P W n k i).set i x=dnL I P W n k (i+1):=by
 refine List.ext_getElem (by rw[List.length_set,zcm,zcm]) (λj h1 h2=>?_);rw[zcm]at h2;have a:=zgF I P W k i h2;have b:=zgF I P W k (i+1) h2;rw[List.getD_eq_getElem?_getD,List.getElem?_eq_getElem (by rw[zcm];exact h2)]at a b;rw[List.getElem_set];have a':(dnL I P W n k i)[j]'(by rw[zcm];exact h2)=if j<i then zq W (zde I P j) (k+1) else zq W (zde I P j) k:=a;have b':(dnL I P W n k (i+1))[j]'(by rw[zcm];exact h2)=if j<i+1 then zq W (zde I P j) (k+1) else zq W (zde I P j) k:=b;rw[b']
 by_cases e:i=j
 ·subst e;rw[if_pos rfl,if_pos (by omega),hx]
 ·rw[if_neg e,a']
  by_cases g:j<i
  ·rw[if_pos g,if_pos (by omega)]
  ·rw[if_neg g,if_neg (by omega)]
theorem zji {I:Im} (hI:zay I) (y:Int) (j:Nat):0<=(zcE I y).getD j 0/\(zcE I y).getD j 0<=65535:=by
 obtain⟨_,_,_,_,_,_,t1,_,_,hall⟩:=hI;rw[List.getD_eq_getElem?_getD]
 cases h:(zcE I y)[j]? with
 |none=>exact⟨by decide,by decide⟩
 |some v =>
  have m:=List.mem_of_mem_drop (List.mem_of_mem_take (List.mem_of_getElem? h));have:=hall v m;exact⟨this.1,by show v<=_;omega⟩
set_option maxHeartbeats 8000000 in
set_option maxRecDepth 100000 in
theorem zus {w:World} {g h:Nat} {I:Im} (H:ImgAt w g h I) (P W:List Int) (N:Nat) (hP:P.length=N) (hW:W.length=N) (u v:Option Addr) (cu cv:Nat) (ru:RowAt .i64 w u P) (rv:RowAt .i64 w v W) (hp:∀ k,k<N->0<=P.getD k 0/\P.getD k 0<I.ih) (sm:zaj W) (N1:N<=1048576) (n:Nat) (hn:I.iw*I.ic=(n:Int)) :
  Calls Tryz.prog 113 #[.pointer (some ⟨g,0,none⟩),.agg #[.slice u N cu,.slice v N cv]] w λe w'=>∃ s,e=.returned s/\OwnI .i64 2 w' w.heap.size s (dnL I P W n N 0)/\Below w.heap.size w w':=by
 have hI:=H.ok;have n1:1<=n/\n<=196608:=by
  have:=zfO hI (y:=0) (by omega) (by have:=hI.2.2.1;omega);omega
 obtain⟨n1,n2⟩:=n1;have HH:=za H;have HRU:=za ru;have HRV:=za rv;have HPP:=za hp;have HP:=za hP;have HW:=za hW;have HRL:=za (fun(y:Int) (y0:0<=y) (y1:y<I.ih)=>show(zcE I y).length=n by rw[zld hI y0 y1,hn];omega);have HIN:=za (fun(y:Int) (j:Nat)=>zji hI y j);have HSB:=za (fun(j k:Nat) (hk:k<=N)=>zgb sm (f:=zde I P j) (n:=k) (by rw[hW];exact hk) (λq _=>zji hI _ _));have HWB:=za (fun(k:Nat) (hk:k<N)=>show -8388608<=W.getD k 0/\W.getD k 0<=8388608 by
  have a:=zf7 W (j:=k) (n:=W.length) (by omega);unfold zaj at sm;omega)
 have CW:=λw' (b:Below w.heap.size w w')=>zdu (H.below b)
 have CC:=λw' (b:Below w.heap.size w w')=>zaF (H.below b)
 have CR:=λw' (b:Below w.heap.size w w') (y:Int) (y0:0<=y) (y1:y<I.ih)=>zn2 (H.below b) y y0 y1
 have W0:wrap64 (I.iw*I.ic)=(n:Int):=by rw[hn];unfold wrap64;omega
 have HZ:=za (zvk I P W n);obtain⟨zs,MK,MO,_⟩:=zh9 n (by omega);have HMO:=za MO;obtain⟨W1,hW1⟩:∃ W1,w.alloc (.cells #[.slice u N cu,.slice v N cv] 177)=W1:=⟨_,rfl⟩;have B1:=za (show Below w.heap.size w W1 by rw[←hW1];exact zg _ _);have L1:=za (show W1.cell? ⟨w.heap.size,0,none⟩=some (.slice u N cu)/\W1.cell? ⟨w.heap.size,1,none⟩=some (.slice v N cv) by rw[←hW1];constructor<;>simp);have Z1:=za (show W1.heap.size=w.heap.size+1 by rw[←hW1];simp);clear H hI ru rv hp hP hW sm MO hn;generalize I.iw=iw at *;generalize I.ic=ic at *;generalize I.ih=ih at *
 go_enter Tryz.func113,Tryz.ntmps113
 go_upto_region 1 with fail
 clear hW1;obtain⟨q0,q1⟩:=L1.out;have q2:=ca (ob:=.cells zs 2) (show w.heap.size<W1.heap.size by have:=Z1.out;omega) q0
 go_wp2_with (first
  |(go_at_call 24;(with_reducible refine(CW _ B1.out).mono ?_);rintro e w2 ⟨rfl,rfl⟩)
  |(go_at_call 17;(with_reducible refine(CC _ B1.out).mono ?_);rintro e w2 ⟨rfl,rfl⟩))
 have O1:=HMO.out W1 W1.heap.size (Nat.le_refl _);rw[←HZ.out]at O1;have HO1:=za O1;have HB1:=za (ba (Below.refl W1.heap.size W1) (.cells zs 2));clear MK HMO O1 q0 q1 q2 W0 CW CC HZ;generalize W1.alloc (.cells zs 2)=W2 at *
 go_loopg [19] N (λr i wr=>∃ k:Nat,k+r=N/\i=.int .i64 (k:Int)/\OwnI .i64 2 wr W1.heap.size (.slice (some ⟨W1.heap.size,0,none⟩) n n) (dnL I P W n k 0)/\Below W1.heap.size W1 wr)
 case atStart=>exact⟨0,by omega,rfl,HO1.out,HB1.out⟩
 case round =>
  clear HO1 HB1;obtain⟨k,hk,rfl,ho,hb⟩:=hrel;have HO:=za ho;have HB:=za hb;have HK:=za hk;clear ho hb hk
  by_cases hlt:k<N
  ·obtain⟨p0,p1⟩:=HPP.out k hlt;obtain⟨ub,uo,rfl,cu1⟩:=((HRU.out.below B1.out).below HB.out).get (show k<P.length by rw[HP.out];exact hlt);obtain⟨vb,vo,rfl,cv0⟩:=HRV.out.get (show k<W.length by rw[HW.out];exact hlt);have lv:=ze cv0;have cv1:=cb B1.out lv cv0;have cv1:=cb HB.out (ze cv1) cv1;obtain⟨A,hA⟩:∃ A,W.getD k 0=A:=⟨_,rfl⟩;have hwb:=HWB.out k hlt;rw[hA]at cv1 hwb;have HA:=za hA;obtain⟨wb0,wb1⟩:=hwb;obtain⟨y,hy⟩:∃ y,P.getD k 0=y:=⟨_,rfl⟩;rw[hy]at cu1 p0 p1;have HY:=za hy;have CR1:=CR wr (bt B1.out HB.out) y p0 p1;have HRL1:=za (HRL.out y p0 p1);have z1:w.heap.size<W1.heap.size:=by have:=Z1.out;omega
   have x1:=cb HB.out z1 L1.out.2;have HCV:=za cv1;have HX1:=za x1;have HLV:=za lv;clear hA hy p0 p1 cv1 x1 cv0 lv;obtain⟨G,hG⟩:∃ G,G=gk:=⟨_,rfl⟩;subst hG
   go_wp2_with (go_at_call 152;(with_reducible refine CR1.mono ?_);rintro e w3 ⟨vr,rfl,own,b3⟩;obtain⟨rb,cr,rfl,hrb,_,hr,_,_⟩:=zax own HRL1.out n1;have HR3:=za hr;have HRB:=za hrb;have K3:=za b3;clear own hr hrb b3)
   have HO3:=za (HO.out.below K3.out);have ZR:=za (show rb≠W1.heap.size from by
    have a:=HO.out.lt W1.heap.size rfl;have b:=HRB.out;omega)
   clear CR1 cu1
   go_loopg [28] n (λr i w4=>∃ q:Nat,q+r=n/\i=.int .i64 (q:Int)/\OwnI .i64 2 w4 W1.heap.size (.slice (some ⟨W1.heap.size,0,none⟩) n n) (dnL I P W n k q)/\w3.grownBy w4 (some W1.heap.size))
   case atStart=>exact⟨0,by omega,rfl,HO3.out,zbi _ _⟩
   case round =>
    clear HO3;obtain⟨q,hq,rfl,ho,hg⟩:=hrel;have HS:=za ho;have HG:=za hg;have HQ:=za hq;clear ho hg hq
    by_cases hlt2:q<n
    ·have LP:=zcm I P W n k q;have c1:=HS.out.cellAt LP hlt2;have z5:=HS.out.frozenAt LP q;rw[zgF I P W k q hlt2,if_neg (by omega)]at c1;have cr1:=HR3.out.at (show q<(zcE I y).length by rw[HRL1.out];exact hlt2);rw[Nat.zero_add]at cr1;have cr1:=cg HG.out (λe=>ZR.out (Option.some.inj e)) cr1;have iv:=HIN.out y q;obtain⟨V,hV⟩:∃ V,(zcE I y).getD q 0=V:=⟨_,rfl⟩;rw[hV]at cr1 iv;obtain⟨v0,v1⟩:=iv;have sb:=HSB.out q k (by have:=HK.out;omega);have sb2:=HSB.out q (k+1) (by have:=HK.out;omega);have st:zq W (zde I P q) (k+1)=zq W (zde I P q) k+A*V:=by
      show zq W (zde I P q) k+W.getD k 0*zde I P q k=_
      rw[HA.out];unfold zde;rw[HY.out,hV]
     rw[st]at sb2;have pr:=zkT (t:=A) (f:=V) (M:=65535) (by omega) v1;have pa:zi A*65535<=8388608*65535:=Int.mul_le_mul_of_nonneg_right (by unfold zi;split<;>omega) (by decide);obtain⟨X,hX⟩:∃ X,zq W (zde I P q) k=X:=⟨_,rfl⟩;rw[hX]at c1 st sb sb2;obtain⟨PR,hPR⟩:∃ PR,A*V=PR:=⟨_,rfl⟩;rw[hPR]at st sb2 pr;have E0:wrap64 V=V:=by unfold wrap64;omega
     have E1:wrap64 (A*V)=PR:=by rw[hPR];unfold wrap64;omega
     have E2:wrap64 (X+PR)=X+PR:=by unfold wrap64;omega
     have ST:=HS.out.stored LP q (X+PR);rw[zwu I P W hlt2 (X+PR) st.symm]at ST;have H5:=za (And.intro ST (((HG.out.trans (zn wr W1.heap.size q (.int .i64 (X+PR)))).trans (zpW _ _))));have x1:=cg HG.out (λe=>by have:=Option.some.inj e;omega) (cb K3.out (by have:=HB.out.size;omega) HX1.out);have cv1:=cg HG.out (λe=>by have:=Option.some.inj e;have:=HLV.out;have:=Z1.out;omega) (cb K3.out (ze HCV.out) HCV.out);clear LP ST st sb sb2 pr pa hX hPR hV v0 v1 wb0 wb1
     go_upto_region 8 with fail
     go_region
     all_goals
      go_wp2
      go_roundg (gk-1)
      case measure=>have:=HQ.out;omega
      case rel=>exact⟨q+1,by have:=HQ.out;omega,by go_num,H5.out.1.below (bd (Below.refl _ _)),H5.out.2⟩
    ·obtain rfl:n=q:=by have:=HQ.out;omega
     have e:=zvG I P W n k;have HS5:=HS.out;rw[e]at HS5;have HE:=za HS5;clear HS5 e hlt2;go_wp2
     go_roundg (G-1)
     case measure=>have:=HK.out;omega
     case rel=>exact⟨k+1,by have:=HK.out;omega,by go_num,HE.out,(bt HB.out K3.out).grown HG.out (by have:=HB.out.size;have:=K3.out.size;omega) (λj hj=>by have:=Option.some.inj hj;omega)⟩
  ·obtain rfl:N=k:=by have:=HK.out;omega
   clear hlt;go_wp2;go_ret;exact⟨_,rfl,HO.out.mono (by have:=Z1.out;omega),bt B1.out HB.out⟩
theorem ztU {I:Im} (hI:zay I) {y:Int} (y0:0<=y) (y1:y<I.ih) {k:Nat} (hk:(k:Int)<I.iw*I.ic):zbe I ((k:Int) / I.ic) y ((k:Int) % I.ic)=(zcE I y).getD k 0:=by
 obtain⟨r0,r1,r2,r3,_,_⟩:=zfO hI y0 y1;obtain⟨a0,a1,b0,b1,hc,_,_,hm,hl,_⟩:=hI;have c0:0<I.ic:=by omega
 have p0:0<=(k:Int) / I.ic:=Int.ediv_nonneg (by omega) (by omega);have p1:(k:Int) / I.ic<I.iw:=Int.ediv_lt_of_lt_mul c0 hk;have q0:0<=(k:Int) % I.ic:=Int.emod_nonneg _ (by omega);have q1:(k:Int) % I.ic<I.ic:=Int.emod_lt_of_pos _ c0;have hh:zbl I ((k:Int) / I.ic) y ((k:Int) % I.ic)=true:=zcP.2 ⟨p0,p1,y0,y1,q0,q1⟩;unfold zbe;rw[if_pos hh];have e:zL I ((k:Int) / I.ic) y ((k:Int) % I.ic)=y*I.iw*I.ic+k:=by
  unfold zL zcc;have:=Int.emod_add_ediv_mul (k:Int) I.ic;rw[Int.add_mul];omega
 rw[e];unfold zcE;rw[List.getD_eq_getElem?_getD,List.getD_eq_getElem?_getD,List.getElem?_take,if_pos (by omega),List.getElem?_drop]
 congr 2
 omega
def zba (I:Im) (S:Stg) (k:Nat):Im:=⟨(S.lx.length:Int),(S.ly.length:Int),I.ic,I.it,zbH ((List.range k).map (zbs I S)) (S.ly.length*S.lx.length*I.ic.toNat)⟩
theorem zjf (I:Im) (S:Stg) (k:Nat):((List.range k).map (zbs I S)).length=k:=by rw[List.length_map,List.length_range]
theorem zvX (I:Im) (S:Stg):zba I S (S.ly.length*S.lx.length*I.ic.toNat)=zI I S:=by
 unfold zba zI;rw[zcL (zjf I S _)]
theorem zqY {I:Im} {S:Stg} (c0:0<=I.ic):((S.lx.length:Int)*(S.ly.length:Int)*I.ic).toNat=S.ly.length*S.lx.length*I.ic.toNat:=by
 obtain⟨c,hc⟩:=Int.eq_ofNat_of_zero_le c0;rw[hc,Int.toNat_natCast,←Int.natCast_mul,←Int.natCast_mul,Int.toNat_natCast,Nat.mul_comm S.lx.length]
theorem ztJ {I:Im} {S:Stg} (c0:0<=I.ic):(⟨(S.lx.length:Int),(S.ly.length:Int),I.ic,I.it,List.replicate ((S.lx.length:Int)*(S.ly.length:Int)*I.ic).toNat 0⟩:Im)=zba I S 0:=by
 unfold zba;rw[zqY c0]
 show _=Im.mk _ _ _ _ (zbH [] _)
 rw[zdl]
theorem zuc {I:Im} (hI:zay I) {S:Stg} {x y c:Nat} (hx:x<S.lx.length) (hy:y<S.ly.length) (hc:(c:Int)<I.ic) :
  zbp (zba I S ((y*S.lx.length+x)*I.ic.toNat+c)) (x:Int) (y:Int) (c:Int) (zbs I S ((y*S.lx.length+x)*I.ic.toNat+c))=true/\zcs (zba I S ((y*S.lx.length+x)*I.ic.toNat+c)) (x:Int) (y:Int) (c:Int) (zbs I S ((y*S.lx.length+x)*I.ic.toNat+c))=zba I S ((y*S.lx.length+x)*I.ic.toNat+c+1)/\(0<=zbs I S ((y*S.lx.length+x)*I.ic.toNat+c)/\zbs I S ((y*S.lx.length+x)*I.ic.toNat+c)<=65535):=by
 obtain⟨_,_,_,_,hcc,t0,t1,_,_,_⟩:=hI;obtain⟨C,hC⟩:∃ C:Nat,I.ic=(C:Int):=⟨I.ic.toNat,by omega⟩;have hCt:I.ic.toNat=C:=by omega
 rw[hCt];obtain⟨k,hk⟩:∃ k,(y*S.lx.length+x)*C+c=k:=⟨_,rfl⟩;rw[hk];have hlt:k<S.ly.length*S.lx.length*C:=by
  have h1:y*S.lx.length+x+1<=S.ly.length*S.lx.length:=by
   have:=Nat.mul_le_mul_right S.lx.length (show y+1<=S.ly.length by omega);rw[Nat.add_mul,Nat.one_mul]at this;omega
  have h2:=Nat.mul_le_mul_right C h1;rw[Nat.add_mul (y*S.lx.length+x),Nat.one_mul]at h2;omega
 have hv:=zgn (zbA I S (k / I.ic.toNat % S.lx.length) (k / I.ic.toNat / S.lx.length) ((k % I.ic.toNat:Nat):Int)) I.it;rw[zfr (by omega) t1]at hv;have hv:0<=zbs I S k/\zbs I S k<=I.it:=hv;have hs:zbp (zba I S k) (x:Int) (y:Int) (c:Int) (zbs I S k)=true:=by
  unfold zbp;rw[Bool.and_eq_true,decide_eq_true_iff];refine⟨zcP.2 ⟨by omega,?_,by omega,?_,by omega,?_⟩,hv.2⟩
  ·show(x:Int)<(S.lx.length:Int);omega
  ·show(y:Int)<(S.ly.length:Int);omega
  ·show(c:Int)<I.ic;omega
 have hp:(zL (zba I S k) (x:Int) (y:Int) (c:Int)).toNat=k:=by
  unfold zL zcc
  show(((y:Int)*(S.lx.length:Int)+(x:Int))*I.ic+(c:Int)).toNat=k
  rw[hC,←Int.natCast_mul,←Int.natCast_add,←Int.natCast_mul,←Int.natCast_add,Int.toNat_natCast,hk]
 refine⟨hs,?_,hv.1,by omega⟩;unfold zcs;rw[if_pos hs,hp];unfold zba
 show Im.mk _ _ _ _ ((zbH ((List.range k).map (zbs I S)) (S.ly.length*S.lx.length*I.ic.toNat)).set k (zbs I S k))=_
 rw[zdA (zjf I S k) (by rw[hCt];exact hlt),List.range_succ,List.map_append];rfl
theorem zuT {I:Im} (hI:zay I) {S:Stg} (hs:zaY I S=true) {x y c:Nat} (hc:(c:Int)<I.ic) {P W:List Int} {N n:Nat} (hP:P.length=N) (hW:W.length=N) (hn:I.iw*I.ic=(n:Int)) (g:Gath S.sb (zf S.ly y).1 I.ih (zf S.ly y).2 P W) (lx : -1099511627776<=(zf S.lx x).1/\(zf S.lx x).1<=1099511627776/\(zf S.lx x).2.length<=1048576) :
  zq (zf S.lx x).2 (λk=>(dnL I P W n N 0).getD ((zB S.sb (zf S.lx x).1 S.fx (zf S.lx x).2.length).getD k 0*I.ic+(c:Int)).toNat 0) (zf S.lx x).2.length=zdv I S x y (c:Int):=by
 obtain⟨a0,a1,b0,b1,hcc,_,_,_,_,_⟩:=id hI;have hs':=hs;unfold zaY at hs';simp only[Bool.and_eq_true,decide_eq_true_eq]at hs';obtain⟨⟨⟨ef,_⟩,s0⟩,s1⟩:=hs';unfold zdv zia;refine zbX λi hi=>?_
 have ha:=zgK (p:=S.sb) (n:=S.fx) lx.1 lx.2.1 lx.2.2 hi;have hr:=zgx s0 s1 (by omega) (by omega) lx.1 lx.2.1 lx.2.2 i hi (n:=S.fx) (p:=S.sb);rw[ha]at hr ⊢;rw[ef]at hr ⊢;obtain⟨p,hp⟩:∃ p,atF S.sb ((zf S.lx x).1+(i:Int)) I.iw=p:=⟨_,rfl⟩;rw[hp]at hr ⊢;obtain⟨p0,p1⟩:=hr;have m0:0<=p*I.ic:=Int.mul_nonneg p0 (by omega);have m1:p*I.ic+I.ic<=I.iw*I.ic:=by
  have:=Int.mul_le_mul_of_nonneg_right (show p+1<=I.iw by omega) (show(0:Int)<=I.ic by omega);rw[Int.add_mul,Int.one_mul]at this;exact this
 obtain⟨j,hj⟩:∃ j:Nat,p*I.ic+(c:Int)=(j:Int):=⟨(p*I.ic+(c:Int)).toNat,by omega⟩;rw[hj,Int.toNat_natCast,zgF I P W N 0 (by omega),if_neg (Nat.not_lt_zero _)];have e:∀ q,q<N->zde I P j q=zbe I p (P.getD q 0) (c:Int):=by
  intro q hq;obtain⟨q0,q1⟩:=g.pin q (by rw[hP];exact hq);have r:=ztU hI q0 q1 (k:=j) (by omega);unfold zde;rw[←r];have e1:(j:Int) / I.ic=p:=by rw[←hj,Int.add_comm,Int.add_mul_ediv_right _ _ (by omega),Int.ediv_eq_zero_of_lt (by omega) hc,Int.zero_add]
  have e2:(j:Int) % I.ic=(c:Int):=by rw[←hj,Int.add_comm,Int.add_mul_emod_self_right,Int.emod_eq_of_lt (by omega) hc]
  rw[e1,e2]
 rw[zbX e];have:=g.sum (λb=>zbe I p b (c:Int));rw[hW]at this;exact this
theorem zuq {p a n:Int} {C c:Nat} (_p0:0<=p) (p1:p<a) (hc:c<C) (hn:a*(C:Int)=n):p*(C:Int)+(c:Int)<n:=by
 have:=Int.mul_le_mul_of_nonneg_right (show p+1<=a by omega) (show(0:Int)<=(C:Int) by omega);rw[Int.add_mul,Int.one_mul]at this;omega
set_option maxHeartbeats 4000000 in
set_option maxRecDepth 100000 in
theorem zqj (P W T:List Int) (n m:Nat) (hP:P.length=n) (hW:W.length=n) (hT:T.length=m) (pa wa ta:Option Addr) (pc wc tc:Nat) (ch c:Int) (w:World) (rp:RowAt .i64 w pa P) (rw':RowAt .i64 w wa W) (rt:RowAt .i64 w ta T)
  (n1:n<=1048576) (m1:m<=268435456) (c0:0<=c) (hch:c<ch) (ch1:ch<=3) (hp:∀ k,k<n->0<=P.getD k 0/\P.getD k 0*ch+c<(m:Int)/\P.getD k 0<=65536) (sm:zaj W) (ht:∀ j,j<m->-549747425280<=T.getD j 0/\T.getD j 0<=549747425280) :
  Calls Tryz.prog 115 #[.agg #[.slice pa n pc,.slice wa n wc],.slice ta m tc,.int .i64 ch,.int .i64 c] w λe w'=>e=.returned (.int .i64 (zq W (λk=>T.getD (P.getD k 0*ch+c).toNat 0) n))/\Below w.heap.size w w':=by
 obtain⟨F,hF⟩:∃ F:Nat->Int,F=λk=>T.getD (P.getD k 0*ch+c).toNat 0:=⟨_,rfl⟩
 have hfin:∀ k,k<n->-549747425280<=F k/\F k<=549747425280:=by
  intro k hk;obtain⟨p0,p1,_⟩:=hp k hk;have:0<=P.getD k 0*ch:=Int.mul_nonneg p0 (by omega);rw[hF];exact ht _ (by omega)
 have ball:∀ k,k<=n->-4611615649683210240<=zq W F k/\zq W F k<=4611615649683210240:=λk hk=>zhJ sm (by omega) (λi hi=>hfin i (by omega))
 have wall:∀ k,k<n->-8388608<=W.getD k 0/\W.getD k 0<=8388608:=by
  intro k hk;have a:=zf7 W (j:=k) (n:=W.length) (by omega);unfold zaj at sm;omega
 have HF:=za (λk=>show F k=T.getD (P.getD k 0*ch+c).toNat 0 by rw[hF]);rw[←hF];have HP:=za hp;have HN:=za hP;have HNW:=za hW;have HM:=za hT;have HRP:=za rp;have HRW:=za rw';have HRT:=za rt;have HFI:=za hfin;have HBA:=za ball;have HWA:=za wall;obtain⟨W0,hW0⟩:∃ W0,(w.alloc (.cells #[.slice pa n pc,.slice wa n wc] 177)).alloc (.cells #[.int .u64 0,.int .u64 0] 225)=W0:=⟨_,rfl⟩;have B0:=za (show Below w.heap.size w W0 by rw[←hW0];exact ba (zg _ _) _);have L0:=za (show W0.cell? ⟨w.heap.size,0,none⟩=some (.slice pa n pc)/\W0.cell? ⟨w.heap.size,1,none⟩=some (.slice wa n wc) by rw[←hW0];constructor<;>simp);have T0:=za (show TotAt W0 (w.heap.size+1) 0 by rw[←hW0];simpa using TotAt.new (w.alloc (.cells #[.slice pa n pc,.slice wa n wc] 177)) 225);have Z0:=za (show w.heap.size+1<W0.heap.size by rw[←hW0];simp);clear hp hP hW hT rp rw' rt hfin ball wall hF sm ht
 go_enter Tryz.func115,Tryz.ntmps115
 go_upto_region 2 with fail
 clear hW0;obtain⟨q0,q1⟩:=L0.out;go_wp2
 go_loopg [15] n (λr i wr=>∃ k:Nat,k+r=n/\i=.int .i64 (k:Int)/\TotAt wr (w.heap.size+1) (zq W F k)/\W0.grownBy wr (some (w.heap.size+1)))
 case atStart=>exact⟨0,by omega,rfl,T0.out,zZ (Below.refl _ _) _⟩
 case round =>
  obtain⟨k,hk,rfl,ht,hg⟩:=hrel;have HK:=za hk;have HT:=za ht;have HG:=za hg;clear hk ht hg;have z9:w.heap.size<w.heap.size+1:=Nat.lt_succ_self _;have nS:some w.heap.size≠some (w.heap.size+1):=λe=>by have:=Option.some.inj e;omega
  have x0:=cg HG.out nS q0;have x1:=cg HG.out nS q1;clear q0 q1
  by_cases hlt:k<n
  ·obtain⟨xb,xo,rfl,cx⟩:=HRP.out.get (show k<P.length by rw[HN.out];exact hlt);obtain⟨yb,yo,rfl,cy⟩:=HRW.out.get (show k<W.length by rw[HNW.out];exact hlt);obtain⟨p0,p1,p2⟩:=HP.out k hlt;have hm0:0<=P.getD k 0*ch:=Int.mul_nonneg p0 (by omega);have hm1:P.getD k 0*ch<=65536*3:=Int.mul_le_mul p2 ch1 (by omega) (by omega);obtain⟨J,hJ⟩:∃ J:Nat,(P.getD k 0*ch+c).toNat=J:=⟨_,rfl⟩;have hJi:P.getD k 0*ch+c=(J:Int):=by omega
   obtain⟨zb,zo,rfl,cz⟩:=HRT.out.get (j:=J) (by rw[HM.out];omega);have lx:=ze cx;have ly:=ze cy;have lz:=ze cz;have nx:some xb≠some (w.heap.size+1):=λe=>by have:=Option.some.inj e;omega
   have ny:some yb≠some (w.heap.size+1):=λe=>by have:=Option.some.inj e;omega
   have nz:some zb≠some (w.heap.size+1):=λe=>by have:=Option.some.inj e;omega
   have cx:=cg HG.out nx (cb B0.out lx cx);have cy:=cg HG.out ny (cb B0.out ly cy);have cz:=cg HG.out nz (cb B0.out lz cz);have NY:=za ny;have NZ:=za nz;have NS:=za nS;clear nx ny nz nS;have fk:=HF.out k;rw[hJ]at fk;have a1:=HWA.out k hlt;have b1:=HFI.out k hlt;have hst:zq W F (k+1)=zq W F k+W.getD k 0*F k:=rfl;rw[←fk]at cz;have W2:IntKind.i64.wrap (P.getD k 0*ch)=P.getD k 0*ch:=IntWalk.i64_in _ (by omega);have W3:IntKind.i64.wrap (P.getD k 0*ch+c)=(J:Int):=by rw[←hJi];exact IntWalk.i64_in _ (by omega)
   have hJm:J<m:=by omega
   obtain⟨p,hp⟩:∃ p,P.getD k 0=p:=⟨_,rfl⟩;obtain⟨M,hM⟩:∃ M,p*ch=M:=⟨_,rfl⟩;rw[hp]at cx W2 W3;rw[hM]at W2 W3;obtain⟨A,hA⟩:∃ A,W.getD k 0=A:=⟨_,rfl⟩;rw[hA]at cy a1 hst;obtain⟨V,hV⟩:∃ V,F k=V:=⟨_,rfl⟩;rw[hV]at cz b1 hst;have HST:=za hst;have CA:=λw' (h:TotAt w' (w.heap.size+1) (zq W F k))=>zwR A V (by omega) (by omega) (by omega) (by omega) (w.heap.size+1) (zq W F k) w' h
   obtain⟨X,hX⟩:∃ X,zq W F k=X:=⟨_,rfl⟩;rw[hX]at HST CA;have HT2:=za HT.out;rw[hX]at HT2;clear hp p0 p1 p2 hm0 hm1 hJ hJi fk hst hA hV hX lx ly lz a1 b1
   go_wp2_with fail
   go_region_held3 (λw'=>w'.cell? ⟨w.heap.size,1,none⟩=some (.slice (some ⟨yb,yo,none⟩) n wc)/\w'.cell? ⟨yb,yo+k,none⟩=some (.int .i64 A)/\w'.cell? ⟨zb,zo+J,none⟩=some (.int .i64 V)) (first|with_reducible assumption|(with_reducible exact⟨x1,cy,cz⟩)|(with_reducible exact⟨s1,s2,s3⟩)|go_keep)
    (first|(go_at_call 154;(with_reducible refine(CA _ (HT2.out.below bch)).mono ?_);rintro e w5 ⟨rfl,h5,g5⟩;have HT5:=za h5;have GA:wr.grownBy w5 (some (w.heap.size+1)):=(zZ bch _).trans g5;have s1:=cg GA NS.out x1;have s2:=cg GA NY.out cy;have s3:=cg GA NZ.out cz;have HG5:=za (HG.out.trans GA);clear h5 g5 GA))
   go_wp2
   go_roundg (gk-1)
   case measure=>have:=HK.out;omega
   case rel=>exact⟨k+1,by have:=HK.out;omega,by go_num,by rw[HST.out];exact HT5.out,HG5.out⟩
  ·obtain rfl:n=k:=by have:=HK.out;omega
   clear hlt;have CH:=zua (w.heap.size+1) (zq W F n) wr HT.out (by have:=HBA.out n (Nat.le_refl _);omega) (by have:=HBA.out n (Nat.le_refl _);omega)
   go_wp2_with (go_at_call 155;(with_reducible refine CH.mono ?_);rintro e w5 ⟨rfl,rfl⟩)
   go_ret;exact⟨rfl,B0.out.grown HG.out B0.out.size (λj hj=>by have:=Option.some.inj hj;omega)⟩
theorem S3.grown {w w':World} {R:Nat} {v0 v1 v2:Value} {row:Option Nat} (h:S3 w R v0 v1 v2) (g:w.grownBy w' row) (ne:some R≠row):S3 w' R v0 v1 v2:=by
 obtain⟨⟨a,a'⟩,⟨b,b'⟩,⟨c,c'⟩⟩:=h;exact⟨⟨cg g ne a,fg g ne a a'⟩,⟨cg g ne b,fg g ne b b'⟩,⟨cg g ne c,fg g ne c c'⟩⟩
def zd5 (B:Nat) (e:Ending) (w':World) (k:Int) (J:Im):Prop:=(k=0/\∃ v,e=.returned (.tuple #[v,.int .i64 0])/\zfM B w' v J)\/(k≠0/\e=.returned (.tuple #[.pointer none,.int .i64 k]))
set_option maxHeartbeats 4000000 in
set_option maxRecDepth 100000 in
theorem zsL {w:World} {g h:Nat} {I:Im} {x y:Value} {S:Stg} (hk:OpK w) (H:ImgAt w g h I) (tx:Tab w x S.fx S.lx) (ty:Tab w y S.fy S.ly) (hz:zaY I S=false) :
  Calls Tryz.prog 73 #[.pointer (some ⟨g,0,none⟩),.agg #[x,y,.int .i64 S.sb]] w λe w'=>zd5 w.heap.size e w' (zao I S) (zI I S)/\Below w.heap.size w w':=by
 have CS:=λw' (b:Below w.heap.size w w')=>zge (zaW _ _ hk b) (H.below b) (tx.below b) (ty.below b)
 have e6:zao I S=6:=by unfold zao;rw[hz];rfl
 rw[hz]at CS;have HA:=za (fun(w':World)=>show zd5 w.heap.size (.returned (.tuple #[.pointer none,.int .i64 6])) w' (zao I S) (zI I S) from .inr (by rw[e6];exact⟨by decide,rfl⟩));clear e6 hz hk H;obtain⟨ax,rfl⟩:=tx.ptr;obtain⟨ay,rfl⟩:=ty.ptr;clear tx ty
 go_enter Tryz.func73,Tryz.ntmps73
 go_wp2_with (go_at_call 79;(with_reducible refine(CS _ (zg _ _)).mono ?_);rintro e w1 ⟨rfl,b1⟩)
 exact bodyPost_ret (v:=.tuple #[.pointer none,.int .i64 6]) (by simp[results,Tryz.results73,go_sem]) rfl ⟨HA.out _,bt (zg _ _) b1⟩
set_option maxHeartbeats 4000000 in
set_option maxRecDepth 100000 in
theorem ztb {w:World} {g h:Nat} {I:Im} {x y:Value} {S:Stg} (hk:OpK w) (H:ImgAt w g h I) (tx:Tab w x S.fx S.lx) (ty:Tab w y S.fy S.ly) (hz:zaY I S=true) (hf:zaE (S.lx.length:Int) (S.ly.length:Int) I.ic=false) :
  Calls Tryz.prog 73 #[.pointer (some ⟨g,0,none⟩),.agg #[x,y,.int .i64 S.sb]] w λe w'=>zd5 w.heap.size e w' (zao I S) (zI I S)/\Below w.heap.size w w':=by
 have CS:=λw' (b:Below w.heap.size w w')=>zge (zaW _ _ hk b) (H.below b) (tx.below b) (ty.below b)
 have e5:zao I S=5:=by unfold zao;rw[hz,hf];rfl
 rw[hz]at CS;have HA:=za (fun(w':World)=>show zd5 w.heap.size (.returned (.tuple #[.pointer none,.int .i64 5])) w' (zao I S) (zI I S) from .inr (by rw[e5];exact⟨by decide,rfl⟩));have hc:zbj (S.lx.length:Int) (S.ly.length:Int) I.ic I.it=5:=by
  obtain⟨_,_,_,_,c0,t0,t1,_,_,_⟩:=H.ok;unfold zbj;rw[if_neg (by omega),hf];rfl
 have CN:=λw'=>zx5 (S.lx.length:Int) (S.ly.length:Int) I.ic I.it (by rw[hc];decide) w'
 rw[hc]at CN;have CX:=λw' (b:Below w.heap.size w w')=>zeA (tx.below b)
 have CY:=λw' (b:Below w.heap.size w w')=>zeA (ty.below b)
 have CC:=λw' (b:Below w.heap.size w w')=>zaF (H.below b)
 have CM:=λw' (b:Below w.heap.size w w')=>zcW (H.below b)
 clear e5 hz hk H hc hf;obtain⟨ax,rfl⟩:=tx.ptr;obtain⟨ay,rfl⟩:=ty.ptr;have T0:=za (S3.new w 36 (.pointer (some ax)) (.pointer (some ay)) (.int .i64 S.sb));clear tx ty;generalize S.lx.length=N at *;generalize S.ly.length=M at *;generalize S.sb=sb at *;generalize I.ic=ic at *;generalize I.it=it at *
 go_enter Tryz.func73,Tryz.ntmps73
 go_wp2_with (go_at_call 79;(with_reducible refine(CS _ (zg _ _)).mono ?_);rintro e w1 ⟨rfl,b1⟩;have T1:=za (T0.out.below b1);have B1:=za (bt (zg _ _) b1);clear b1)
 obtain⟨⟨t0,_⟩,⟨t1,_⟩,⟨t2,_⟩⟩:=T1.out
 go_cut [4,6,7] (λa o e wx=>a=.pointer none/\o=.pointer none/\e=.int .i64 5/\Below w.heap.size w wx)
 case first =>
  go_region_held3 (λw'=>w'.cell? ⟨w.heap.size,0,none⟩=some (.pointer (some ax))/\w'.cell? ⟨w.heap.size,1,none⟩=some (.pointer (some ay))) (first|with_reducible assumption|(with_reducible exact⟨t0,t1⟩)|(with_reducible exact⟨x0,x1⟩)|(with_reducible exact⟨y0,y1⟩)|go_keep)
   (first
    |(go_at_call 32;(with_reducible refine(CX _ (bt B1.out bch)).mono ?_);rintro e w3 ⟨rfl,b3⟩;have K3:=za (bt (show Below w1.heap.size w1 _ by repeat (first|exact Below.refl _ _|(with_reducible refine bdN ?_ _)|with_reducible refine bd ?_)) b3);obtain⟨⟨x0,_⟩,⟨x1,_⟩,_⟩:=T1.out.below K3.out;clear b3)
    |(go_at_call 32;(with_reducible refine(CY _ (bt B1.out (bt K3.out bch))).mono ?_);rintro e w4 ⟨rfl,b4⟩;have K4:=za (bt (bt K3.out (show Below w3.heap.size w3 _ by repeat (first|exact Below.refl _ _|(with_reducible refine bdN ?_ _)|with_reducible refine bd ?_))) b4);obtain⟨⟨y0,_⟩,⟨y1,_⟩,_⟩:=T1.out.below K4.out;clear b4)
    |(go_at_call 17;(with_reducible refine(CC _ (bt B1.out (bt K4.out bch))).mono ?_);rintro e w5 ⟨rfl,rfl⟩)
    |(go_at_call 23;(with_reducible refine(CM _ (bt B1.out (bt K4.out bch))).mono ?_);rintro e w6 ⟨rfl,rfl⟩)
    |(go_at_call 33;(with_reducible refine(CN _).mono ?_);rintro e w7 ⟨rfl,rfl⟩))
  all_goals
   go_wp2_with fail
   go_meet;exact⟨rfl,rfl,rfl,bt B1.out (bt K4.out bch)⟩
 case rest =>
  obtain⟨rfl,rfl,rfl,hb⟩:=hcut;have HB:=za hb;clear hb;go_wp2;exact bodyPost_ret (v:=.tuple #[.pointer none,.int .i64 5]) (by simp[results,Tryz.results73,go_sem]) rfl ⟨HA.out _,HB.out⟩
end Go.Proofs.YtlodkoimdoeopaaGreatDoor
