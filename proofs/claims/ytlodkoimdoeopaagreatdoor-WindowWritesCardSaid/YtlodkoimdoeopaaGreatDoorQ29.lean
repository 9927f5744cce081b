/- Parts, joined. -/
import Derived.Test.YtlodkoimdoeopaaGreatDoorQ28
import Derived.Test.YtlodkoimdoeopaaGreatDoorQ21
import Derived.Test.YtlodkoimdoeopaaGreatDoorQ13
import Derived.Test.YtlodkoimdoeopaaGreatDoorQ24
import Derived.Test.YtlodkoimdoeopaaGreatDoorQ11
import Derived.Test.YtlodkoimdoeopaaGreatDoorQ12
import Derived.Test.YtlodkoimdoeopaaGreatDoorQ08
import Derived.Test.YtlodkoimdoeopaaGreatDoorQ18
import Derived.BigQuiet
import Derived.Deep.RegionHeld3
namespace Go.Proofs.YtlodkoimdoeopaaGreatDoor
open Go.RowKit
set_option maxHeartbeats 16000000 in
set_option maxRecDepth 100000 in
theorem zqs {w:World} {g h:Nat} {I:Im} {x y:Value} {S:Stg} (hk:OpK w) (H:ImgAt w g h I) (tx:Tab w x S.fx S.lx) (ty:Tab w y S.fy S.ly) (hs:zcF S) (hz:zaY I S=true) (hf:zaE (S.lx.length:Int) (S.ly.length:Int) I.ic=true) :
  Calls Tryz.prog 73 #[.pointer (some ⟨g,0,none⟩),.agg #[x,y,.int .i64 S.sb]] w λe w'=>zd5 w.heap.size e w' (zao I S) (zI I S)/\Below w.heap.size w w':=by
 have CS:=λw' (b:Below w.heap.size w w')=>zge (zaW _ _ hk b) (H.below b) (tx.below b) (ty.below b)
 have e0:zao I S=0:=by unfold zao;rw[hz,hf];rfl
 rw[hz]at CS;have hI:=H.ok;obtain⟨_,_,_,_,c0,t0',t1',_,_,_⟩:=id hI;obtain⟨C,hC⟩:∃ C:Nat,I.ic=(C:Int):=⟨I.ic.toNat,by omega⟩;have hCt:I.ic.toNat=C:=by omega
 have hc:zbj (S.lx.length:Int) (S.ly.length:Int) I.ic I.it=0:=by
  unfold zbj;rw[if_neg (by omega),hf];rfl
 have hs':=hz;unfold zaY at hs';simp only[Bool.and_eq_true,decide_eq_true_eq]at hs';obtain⟨⟨⟨efx,efy⟩,s0⟩,s1⟩:=hs';have okx:=tx.ok.1;have lyn:=ty.ok.2.2.1;have lxn:=tx.ok.2.2.1;have HA:=za (fun(w':World) (g2 h2:Nat) (hg:w.heap.size<=g2) (hh:w.heap.size<=h2) (q:ImgAt w' g2 h2 (zba I S (S.ly.length*S.lx.length*I.ic.toNat)))=>show zd5 w.heap.size (.returned (.tuple #[.pointer (some ⟨g2,0,none⟩),.int .i64 0])) w' (zao I S) (zI I S) from .inl ⟨e0,_,rfl,g2,h2,rfl,hg,hh,by rw[←zvX];exact q⟩);have CN:=λw'=>zoR (S.lx.length:Int) (S.ly.length:Int) I.ic I.it hc w'
 rw[ztJ (S:=S) (by omega)]at CN;have CX:=λw' (b:Below w.heap.size w w')=>zeA (tx.below b)
 have CY:=λw' (b:Below w.heap.size w w')=>zeA (ty.below b)
 have CC:=λw' (b:Below w.heap.size w w')=>zaF (H.below b)
 have CM:=λw' (b:Below w.heap.size w w')=>zcW (H.below b)
 obtain⟨N,hN⟩:∃ N,S.lx.length=N:=⟨_,rfl⟩;obtain⟨M,hM⟩:∃ M,S.ly.length=M:=⟨_,rfl⟩;have CCO:=za (λw' (b:Below w.heap.size w w')=>zow (yv:=y) (tx.below b) hs.2.2 N hN);have CRW:=za (λw' (q:Tab w' y S.fy S.ly) (i:Int) (i0 : -9223372036854775808<=i) (i1:i<=9223372036854775807)=>zwn (xv:=x) q hs.2.1 s0 s1 i i0 i1)
 -- the image that is made
 have OH:=za (λw' g2 h2 k (q:ImgAt w' g2 h2 (zba I S k))=>show Calls Tryz.prog 25 #[.pointer (some ⟨g2,0,none⟩)] w' λe w''=>e=.returned (.int .i64 (M:Int))/\w'=w'' from by
  have:=zcO q;rw[show(zba I S k).ih=(M:Int) by rw[←hM];rfl]at this;exact this)
 have OC:=za (λw' g2 h2 k (q:ImgAt w' g2 h2 (zba I S k))=>show Calls Tryz.prog 17 #[.pointer (some ⟨g2,0,none⟩)] w' λe w''=>e=.returned (.int .i64 (C:Int))/\w'=w'' from by
  have:=zaF q;rw[show(zba I S k).ic=(C:Int) from hC]at this;exact this)
 have OM:=za (λw' g2 h2 k (q:ImgAt w' g2 h2 (zba I S k))=>show Calls Tryz.prog 23 #[.pointer (some ⟨g2,0,none⟩)] w' λe w''=>e=.returned (.int .i64 I.it)/\w'=w'' from by have:=zcW q;exact this);have OS:=za (λw' g2 h2 (xx yy c:Nat) (hx:xx<N) (hy:yy<M) (hcc:c<C) (q:ImgAt w' g2 h2 (zba I S ((yy*N+xx)*C+c)))=>show Calls Tryz.prog 26 #[.pointer (some ⟨g2,0,none⟩),.int .i64 (xx:Int),.int .i64 (yy:Int),.int .i64 (c:Int),.int .u16 (zaM (zdv I S xx yy (c:Int)) I.it)] w' λe w''=>e=.returned (.bool true)/\ImgAt w'' g2 h2 (zba I S ((yy*N+xx)*C+c+1))/\w'.grownBy w'' (some h2) from by
  have p:=zuc hI (S:=S) (x:=xx) (y:=yy) (c:=c) (by omega) (by omega) (by omega);have o:=zgA (I:=I) (S:=S) (x:=xx) (y:=yy) (c:=c) (by omega) (by omega);rw[zqb hI hs]at o;rw[hN,hCt]at p o;rw[o]at p;have:=zeT q (xx:Int) (yy:Int) (c:Int) (zaM (zdv I S xx yy (c:Int)) I.it) p.2.2.1 p.2.2.2 p.1;rw[p.2.1]at this;exact this)
 have OB:=za (fun(xx yy c:Nat)=>show -9223372036854775808<=zdv I S xx yy (c:Int)/\zdv I S xx yy (c:Int)<=9223372036854775807 from by
  have:=zoT hI hs (xx:Int) (yy:Int) (c:Int);rw[zpa]at this;omega)
 have HX16:=za (λw' g2 h2 k (q:ImgAt w' g2 h2 (zba I S k)) (b:Nat) (z:Int) (e:some h2=some b)=>show w'.cell? ⟨b,0,none⟩≠some (.int .i64 z) from by
  obtain rfl:=Option.some.inj e;obtain⟨_,_,_,_,_,_,r,_,_,_,ok⟩:=q;have c:=r.at (zbr ok).1;rw[Nat.zero_add]at c;rw[c];intro q2
  cases q2)
 have HH:=za H;have HTY:=za ty;have HII:=za hI;have HOX:=za okx;have HSM:=za hs;have HZ:=za hz;have HL:=H.lt;have HCE:=za hC;have HEY:=za efy;have HEX:=za efx;obtain⟨ax,rfl⟩:=tx.ptr;obtain⟨ay,rfl⟩:=ty.ptr;have T0:=za (S3.new w 36 (.pointer (some ax)) (.pointer (some ay)) (.int .i64 S.sb));simp only[hN]at CX CN;simp only[hM]at CY CN;rw[hC]at CC CN;rw[hN]at HA lxn;rw[hM,hCt]at HA;rw[hM]at lyn;have c3:C=1\/C=3:=by omega
 have HNN:=za hN;have HMM:=za hM;clear tx ty hk H hI hf hs hz e0 hc hCt efx efy s0 s1 okx hN hM hC c0;obtain⟨sb,hsb⟩:∃ sb,S.sb=sb:=⟨_,rfl⟩;rw[hsb]at CS T0 CCO CRW ⊢;have HSB:=za hsb;clear hsb;obtain⟨it,hit⟩:∃ it,I.it=it:=⟨_,rfl⟩;rw[hit]at CM CN OM OS t0' t1';clear hit
 go_enter Tryz.func73,Tryz.ntmps73
 go_wp2_with (go_at_call 79;(with_reducible refine(CS _ (zg _ _)).mono ?_);rintro e w1 ⟨rfl,b1⟩;have T1:=za (T0.out.below b1);have B1:=za (bt (zg _ _) b1);clear b1)
 obtain⟨⟨t0,_⟩,⟨t1,_⟩,⟨t2,_⟩⟩:=T1.out
 go_cut [6,7] (λo e wx=>(∃ g2 h2,o=.pointer (some ⟨g2,0,none⟩)/\w1.heap.size<=g2/\w1.heap.size<=h2/\ImgAt wx g2 h2 (zba I S 0))/\e=.int .i64 0/\Below w1.heap.size w1 wx)
 case first =>
  go_region_held3 (λw'=>w'.cell? ⟨w.heap.size,0,none⟩=some (.pointer (some ax))/\w'.cell? ⟨w.heap.size,1,none⟩=some (.pointer (some ay))) (first|with_reducible assumption|(with_reducible exact⟨t0,t1⟩)|(with_reducible exact⟨x0,x1⟩)|(with_reducible exact⟨y0,y1⟩)|(with_reducible exact⟨v0,v1⟩)|go_keep)
   (first
    |(go_at_call 32;(with_reducible refine(CX _ (bt B1.out bch)).mono ?_);rintro e w3 ⟨rfl,b3⟩;have K3:=za (bt (show Below w1.heap.size w1 _ by repeat (first|exact Below.refl _ _|(with_reducible refine bdN ?_ _)|with_reducible refine bd ?_)) b3);obtain⟨⟨x0,_⟩,⟨x1,_⟩,_⟩:=T1.out.below K3.out;clear b3)
    |(go_at_call 32;(with_reducible refine(CY _ (bt B1.out (bt K3.out bch))).mono ?_);rintro e w4 ⟨rfl,b4⟩;have K4:=za (bt (bt K3.out (show Below w3.heap.size w3 _ by repeat (first|exact Below.refl _ _|(with_reducible refine bdN ?_ _)|with_reducible refine bd ?_))) b4);obtain⟨⟨y0,_⟩,⟨y1,_⟩,_⟩:=T1.out.below K4.out;clear b4)
    |(go_at_call 17;(with_reducible refine(CC _ (bt B1.out (bt K4.out bch))).mono ?_);rintro e w5 ⟨rfl,rfl⟩)
    |(go_at_call 23;(with_reducible refine(CM _ (bt B1.out (bt K4.out bch))).mono ?_);rintro e w6 ⟨rfl,rfl⟩)
    |(go_at_call 33;(with_reducible refine(CN _).mono ?_);rintro e w7 ⟨vo,rfl,⟨g2,h2,rfl,hg2,hh2,hq⟩,b7⟩;have K7:=za (bt (bt K4.out (show Below w4.heap.size w4 _ by repeat (first|exact Below.refl _ _|(with_reducible refine bdN ?_ _)|with_reducible refine bd ?_))) b7);have KN:=za (And.intro hg2 (And.intro hh2 hq));obtain⟨⟨v0,_⟩,⟨v1,_⟩,_⟩:=T1.out.below K7.out;have KS:=za (show w1.heap.size<=_ from(bt K4.out (show Below w4.heap.size w4 _ by repeat (first|exact Below.refl _ _|(with_reducible refine bdN ?_ _)|with_reducible refine bd ?_))).size);clear hg2 hh2 hq b7))
  all_goals
   go_wp2_with fail
   go_meet;obtain⟨k0,k1,k2⟩:=KN.out;exact⟨⟨g2,h2,rfl,Nat.le_trans KS.out k0,Nat.le_trans KS.out k1,by repeat (first|exact k2|(with_reducible refine ImgAt.below ?_ (bd (Below.refl _ _))))⟩,rfl,by repeat (first|exact K7.out|(with_reducible refine bdN ?_ _)|with_reducible refine bd ?_)⟩
 case rest =>
  obtain⟨⟨g2,h2,rfl,hg2,hh2,hq⟩,rfl,hb⟩:=hcut;have HQ0:=za hq;have HB0:=za hb;have T2:=za (T1.out.below hb);obtain⟨⟨t0,_⟩,⟨t1,_⟩,⟨t2,_⟩⟩:=T2.out;have hl2:=(HQ0.out.lt).2;have hw1:w.heap.size<w1.heap.size:=ze T1.out.1.1;have HN9:=za (show(some w.heap.size:Option Nat)≠some h2 from λe=>by have:=Option.some.inj e;omega);have HN7:=za (show(some g:Option Nat)≠some h2 from λe=>by have:=Option.some.inj e;omega);have HN8:=za (show(some h:Option Nat)≠some h2 from λe=>by have:=Option.some.inj e;omega);clear hb hq T1 T0
  go_wp2_with (first
   |(go_at_call 112;(with_reducible refine(CCO.out _ (bt B1.out HB0.out)).mono ?_);rintro e w3 ⟨⟨hc,rfl,hhc,hcol⟩,b3⟩;have KCO:=za hcol;have HHC:=za hhc;have HQ3:=za (HQ0.out.below b3);have K3:=za (bt HB0.out b3);have T3:=za (T2.out.below b3);clear hcol hhc b3)
   |(go_at_call 25;(with_reducible refine(OH.out _ _ _ 0 HQ3.out).mono ?_);rintro e w4 ⟨rfl,rfl⟩))
  clear t0 t1 t2 CS CX CY CN CC CM T2
  go_loopg [39] M (λr i wr=>∃ yy:Nat,yy+r=M/\i=.int .i64 (yy:Int)/\ImgAt wr g2 h2 (zba I S (yy*N*C))/\w3.grownBy wr (some h2))
  case atStart=>exact⟨0,by omega,rfl,by rw[Nat.zero_mul,Nat.zero_mul];exact HQ3.out,zbi _ _⟩
  case round =>
   obtain⟨yy,hyy,rfl,hq,hg⟩:=hrel;have HQ:=za hq;have HG:=za hg;have HYY:=za hyy;clear hq hg hyy;obtain⟨G,hG⟩:∃ G,G=gk:=⟨_,rfl⟩;subst hG
   by_cases hlt:yy<M
   ·have T4:=za (T3.out.grown HG.out HN9.out);obtain⟨⟨t0,_⟩,⟨t1,_⟩,⟨t2,_⟩⟩:=T4.out;have CR1:=CRW.out wr ((HTY.out.below (bt B1.out K3.out)).kept HG.out (λb z e=>HX16.out _ _ _ _ HQ3.out b z e)) (yy:Int) (by omega) (by omega);have HI4:=za ((HH.out.below (bt B1.out K3.out)).grown HG.out HN7.out HN8.out);obtain⟨n,hn⟩:∃ n:Nat,I.iw*I.ic=(n:Int):=⟨(I.iw*I.ic).toNat,by have:=zfO HII.out (y:=0) (by omega) (by have:=HII.out.2.2.1;omega);omega⟩;have n1:1<=n/\n<=196608:=by have:=zfO HII.out (y:=0) (by omega) (by have:=HII.out.2.2.1;omega);omega
    have HNI:=za hn;clear hn
    go_wp2_with (first
     |(go_at_call 114;(with_reducible refine CR1.mono ?_);rintro e w4 ⟨⟨P,W,NN,u,v,cu,cv,rfl,hP,hW,ru,rv,fu,fv,hga⟩,b4⟩;have HP:=za hP;have HW:=za hW;have HGA:=za hga;have HRU:=za ru;have HRV:=za rv;have K4:=za b4;clear hP hW ru rv fu fv hga b4)
     |(go_at_call 113;(with_reducible refine(zus (HI4.out.below K4.out) P W NN HP.out HW.out u v cu cv HRU.out HRV.out (λk hk=>by rw[←HEY.out];exact HGA.out.pin k (by rw[HP.out];exact hk)) HGA.out.small (by rw[←HW.out];exact HGA.out.most) n HNI.out).mono ?_);rintro e w5 ⟨s,rfl,own,b5⟩;obtain⟨tb,tc,rfl,htb,_,hrow,_,_⟩:=zax own (zcm I P W n NN 0) n1.1;have HRT:=za hrow;have HTB:=za htb;have K5:=za (bt K4.out b5);have K45:=za K4.out.size;clear own hrow htb b5))
    have HTV:=za (fun(j:Nat) (hj:j<n)=>show -549747425280<=(dnL I P W n NN 0).getD j 0/\(dnL I P W n NN 0).getD j 0<=549747425280 from by
     rw[zgF I P W NN 0 hj,if_neg (Nat.not_lt_zero _)];exact zgb HGA.out.small (by rw[HW.out];exact Nat.le_refl _) (λq _=>zji HII.out _ _))
    have HSUM:=za (fun(xx c:Nat) (hxx:xx<N) (hcc:c<C)=>show zq (zf S.lx xx).2 (λk=>(dnL I P W n NN 0).getD ((zB S.sb (zf S.lx xx).1 S.fx (zf S.lx xx).2.length).getD k 0*(C:Int)+(c:Int)).toNat 0) (zf S.lx xx).2.length=zdv I S xx yy (c:Int) from by
     have ga:=HGA.out;rw[zgM,←HSB.out,HEY.out]at ga;have lk:=HOX.out xx (by rw[HNN.out];exact hxx);have:=zuT HII.out HZ.out (x:=xx) (y:=yy) (c:=c) (by rw[HCE.out];omega) HP.out HW.out HNI.out ga ⟨lk.1,lk.2.1,lk.2.2.2.1⟩;rw[HCE.out]at this;exact this)
    have HTL:=za (zcm I P W n NN 0);generalize dnL I P W n NN 0=TL at *;clear t0 t1 t2 CR1 HGA HRU HRV HP HW;have HQ5:=za (HQ.out.below K5.out);have HH5:=za (show h2<tb from by have:=HTB.out;have:=HQ.out.lt.2;have:=K45.out;omega);clear HTB
    go_loopg [49] N (λr i w6=>∃ xx:Nat,xx+r=N/\i=.int .i64 (xx:Int)/\ImgAt w6 g2 h2 (zba I S ((yy*N+xx)*C))/\w5.grownBy w6 (some h2))
    case atStart=>exact⟨0,by omega,rfl,HQ5.out,zbi _ _⟩
    case round =>
     obtain⟨xx,hxx,rfl,hq,hg⟩:=hrel;have HQX:=za hq;have HGX:=za hg;have HXX:=za hxx;clear hq hg hxx;obtain⟨G2,hG2⟩:∃ G2,G2=gk:=⟨_,rfl⟩;subst hG2
     by_cases hlt2:xx<N
     ·have GA:=za ((HG.out.trans (zZ K5.out _)).trans HGX.out);obtain⟨pb,po,pc,wb,wo,wc',k0,k1,rp,rw',b0,b1,_,_⟩:=(KCO.out xx hlt2).grown GA.out (by omega) HHC.out;have HRT6:=za (HRT.out.grown HGX.out (λe=>by have:=Option.some.inj e;have:=HH5.out;omega));have HRP6:=za rp;have HRW6:=za rw';have hp2:pb≠h2:=by omega
      have hw2:wb≠h2:=by omega
      have lk:=HOX.out xx (by rw[HNN.out];exact hlt2);obtain⟨lk0,lk1,lk2,lk3,_⟩:=lk;have sm:=HSM.out.1 xx (by rw[HNN.out];exact hlt2);have hpin:∀ k,k<(zf S.lx xx).2.length->0<=(zB S.sb (zf S.lx xx).1 S.fx (zf S.lx xx).2.length).getD k 0/\(zB S.sb (zf S.lx xx).1 S.fx (zf S.lx xx).2.length).getD k 0<I.iw:=by
       intro k hk;have hz:=HZ.out;unfold zaY at hz;simp only[Bool.and_eq_true,decide_eq_true_eq]at hz;obtain⟨⟨⟨efx,_⟩,s0⟩,s1⟩:=hz;have hi:=HII.out;have:=zgx (n:=S.fx) s0 s1 (by rw[efx];exact hi.1) (by rw[efx];exact hi.2.1) lk0 lk1 lk3 k hk;rw[efx]at this ⊢;exact this
      have HSU:=za (fun(c:Nat) (hcc:c<C)=>HSUM.out xx c hlt2 hcc);have HSL:=za (zaw S.sb (zf S.lx xx).1 S.fx (zf S.lx xx).2.length);have HLP:=za (fun(c:Nat) (hcc:c<C) (k:Nat) (hk:k<(zf S.lx xx).2.length)=>show 0<=(zB S.sb (zf S.lx xx).1 S.fx (zf S.lx xx).2.length).getD k 0/\(zB S.sb (zf S.lx xx).1 S.fx (zf S.lx xx).2.length).getD k 0*(C:Int)+(c:Int)<(n:Int)/\(zB S.sb (zf S.lx xx).1 S.fx (zf S.lx xx).2.length).getD k 0<=65536 from by
       obtain⟨q0,q1⟩:=hpin k hk;have e:=HNI.out;rw[HCE.out]at e;have:=HII.out.2.1;exact⟨q0,zuq q0 q1 hcc e,by omega⟩)
      generalize zB S.sb (zf S.lx xx).1 S.fx (zf S.lx xx).2.length=PX at *;obtain⟨WX,hWX⟩:∃ WX,(zf S.lx xx).2=WX:=⟨_,rfl⟩;rw[hWX]at k0 k1 lk3 sm HSU HSL HLP HRW6;obtain⟨m,hm⟩:∃ m,WX.length=m:=⟨_,rfl⟩;rw[hm]at k0 k1 lk3 HSU HSL HLP;have HM:=za hm;have HSMX:=za sm;have CAL:=za (λw' (c:Nat) (hcc:c<C) (r1:RowAt .i64 w' (some ⟨pb,po,none⟩) PX) (r2:RowAt .i64 w' (some ⟨wb,wo,none⟩) WX) (r3:RowAt .i64 w' (some ⟨tb,0,none⟩) TL)=>show Calls Tryz.prog 115 #[.agg #[.slice (some ⟨pb,po,none⟩) m pc,.slice (some ⟨wb,wo,none⟩) m wc'],.slice (some ⟨tb,0,none⟩) n tc,.int .i64 (C:Int),.int .i64 (c:Int)] w' λe w''=>e=.returned (.int .i64 (zdv I S xx yy (c:Int)))/\Below w'.heap.size w' w'' from by
       have:=zqj PX WX TL m n HSL.out HM.out HTL.out _ _ _ pc wc' tc (C:Int) (c:Int) w' r1 r2 r3 lk3 (by omega) (by omega) (by omega) (by omega) (HLP.out c hcc) HSMX.out HTV.out;rw[HSU.out c hcc]at this;exact this)
      have hlt2':=hlt2;obtain⟨W6,hW6⟩:∃ W6,wr.alloc (.cells #[.slice (some ⟨pb,po,none⟩) m pc,.slice (some ⟨wb,wo,none⟩) m wc'] 177)=W6:=⟨_,rfl⟩;have B6:=za (show Below wr.heap.size wr W6 by rw[←hW6];exact zg _ _);have L6:=za (show W6.cell? ⟨wr.heap.size,0,none⟩=some (.slice (some ⟨pb,po,none⟩) m pc)/\W6.cell? ⟨wr.heap.size,1,none⟩=some (.slice (some ⟨wb,wo,none⟩) m wc') by rw[←hW6];constructor<;>simp);have HQ6:=za (HQX.out.below B6.out);obtain⟨R6,hR6⟩:∃ R6,wr.heap.size=R6:=⟨_,rfl⟩;rw[hR6]at L6;have HN6:=za (show(some R6:Option Nat)≠some h2 from λe=>by have:=Option.some.inj e;have:=HQX.out.lt.2;omega);have HRP7:=za (HRP6.out.below B6.out);have HRW7:=za (HRW6.out.below B6.out);have HRT7:=za (HRT6.out.below B6.out);have NP:=za (show(some pb:Option Nat)≠some h2 from λe=>hp2 (Option.some.inj e));have NW:=za (show(some wb:Option Nat)≠some h2 from λe=>hw2 (Option.some.inj e));have NT:=za (show(some tb:Option Nat)≠some h2 from λe=>by have:=Option.some.inj e;have:=HH5.out;omega);clear hp2 hw2 lk0 lk1 lk2 sm hpin hWX hm rp rw' b0 b1 HRP6 HRW6 HRT6 HSL HLP HSU
      go_upto_region 14 with fail
      clear hW6 k0 k1
      go_wp2_with (go_at_call 17;(with_reducible refine(OC.out _ _ _ _ HQ6.out).mono ?_);rintro e w7 ⟨rfl,rfl⟩)
      go_loopg [56] C (λr i w8=>∃ c:Nat,c+r=C/\i=.int .i64 (c:Int)/\ImgAt w8 g2 h2 (zba I S ((yy*N+xx)*C+c))/\W6.grownBy w8 (some h2))
      case atStart=>exact⟨0,by omega,rfl,HQ6.out,zbi _ _⟩
      case round =>
       obtain⟨c,hcc,rfl,hq,hg⟩:=hrel;have HQC:=za hq;have HGC:=za hg;have HCC:=za hcc;clear hq hg hcc
       by_cases hlt3:c<C
       ·have l0:=cg HGC.out HN6.out L6.out.1;have l1:=cg HGC.out HN6.out L6.out.2;have RP:=za (HRP7.out.grown HGC.out NP.out);have RW:=za (HRW7.out.grown HGC.out NW.out);have RT:=za (HRT7.out.grown HGC.out NT.out);have ob:=OB.out xx yy c;have CA:=CAL.out;have CAC:=λw' r1 r2 r3=>CAL.out w' c hlt3 r1 r2 r3
        have CSET:=λw' (q:ImgAt w' g2 h2 (zba I S ((yy*N+xx)*C+c)))=>OS.out w' g2 h2 xx yy c hlt2' hlt hlt3 q
        have COM:=λw' (q:ImgAt w' g2 h2 (zba I S ((yy*N+xx)*C+c)))=>OM.out w' g2 h2 _ q
        have COC:=λw' (q:ImgAt w' g2 h2 (zba I S ((yy*N+xx)*C+c)))=>OC.out w' g2 h2 _ q
        obtain⟨V,hV⟩:∃ V,zdv I S xx yy (c:Int)=V:=⟨_,rfl⟩;rw[hV]at ob;simp only[hV]at CAC CSET;obtain⟨ob0,ob1⟩:=ob;have CRD:=λw'=>zkP V it ob0 ob1 w'
        obtain⟨R,hR⟩:∃ R,zaM V it=R:=⟨_,rfl⟩;simp only[hR]at CSET CRD;clear hV hR CA ob0 ob1
        go_wp2_with fail
        go_region_held3 (λw'=>w'.cell? ⟨R6,0,none⟩=some (.slice (some ⟨pb,po,none⟩) m pc)/\w'.cell? ⟨R6,1,none⟩=some (.slice (some ⟨wb,wo,none⟩) m wc')) (first|with_reducible assumption|(with_reducible exact⟨l0,l1⟩)|(with_reducible exact⟨s0,s1⟩)|(with_reducible exact⟨u0,u1⟩)|(with_reducible exact⟨v0,v1⟩)|go_keep)
         (first
          |(go_at_call 17;(with_reducible refine(COC _ (HQC.out.below bch)).mono ?_);rintro e w9 ⟨rfl,rfl⟩)
          |(go_at_call 115;(with_reducible refine(CAC _ (RP.out.below bch) (RW.out.below bch) (RT.out.below bch)).mono ?_);rintro e wa ⟨rfl,ba'⟩;have KA:=za (bt (show Below wr.heap.size wr _ by repeat (first|exact Below.refl _ _|(with_reducible refine bdN ?_ _)|with_reducible refine bd ?_)) ba');have s0:=cb KA.out (ze l0) l0;have s1:=cb KA.out (ze l1) l1;clear ba')
          |(go_at_call 23;(with_reducible refine(COM _ (HQC.out.below (bt KA.out bch))).mono ?_);rintro e wb' ⟨rfl,rfl⟩)
          |(go_at_call 93;(with_reducible refine(CRD _).mono ?_);rintro e wd ⟨rfl,bd'⟩;have KD:=za (bt (bt KA.out (show Below wa.heap.size wa _ by repeat (first|exact Below.refl _ _|(with_reducible refine bdN ?_ _)|with_reducible refine bd ?_))) bd');have u0:=cb KD.out (ze l0) l0;have u1:=cb KD.out (ze l1) l1;clear bd')
          |(go_at_call 26;(with_reducible refine(CSET _ (HQC.out.below (bt KD.out bch))).mono ?_);rintro e we ⟨rfl,qe,ge⟩;have KE:=za ((zZ (bt KD.out (show Below wd.heap.size wd _ by repeat (first|exact Below.refl _ _|(with_reducible refine bdN ?_ _)|with_reducible refine bd ?_))) _).trans ge);have QE:=za qe;have v0:=cg KE.out HN6.out l0;have v1:=cg KE.out HN6.out l1;clear qe ge))
        go_wp2
        go_roundg (gk-1)
        case measure=>have:=HCC.out;omega
        case rel=>exact⟨c+1,by have:=HCC.out;omega,by go_num,QE.out,HGC.out.trans KE.out⟩
       ·obtain rfl:C=c:=by have:=HCC.out;omega
        have e1:=Nat.succ_mul (yy*N+xx) C;have QF:=HQC.out;rw[←e1]at QF;have QF2:=za QF;clear QF e1 hlt3;go_wp2
        go_roundg (G2-1)
        case measure=>have:=HXX.out;omega
        case rel=>exact⟨xx+1,by have:=HXX.out;omega,by go_num,QF2.out,(HGX.out.trans (zZ B6.out _)).trans HGC.out⟩
     ·obtain rfl:N=xx:=by have:=HXX.out;omega
      have e1:=Nat.succ_mul yy N;have QF:=HQX.out;rw[←e1]at QF;have QF2:=za QF;clear QF e1 hlt2;go_wp2
      go_roundg (G-1)
      case measure=>have:=HYY.out;omega
      case rel=>exact⟨yy+1,by have:=HYY.out;omega,by go_num,QF2.out,(HG.out.trans (zZ K5.out _)).trans HGX.out⟩
   ·obtain rfl:M=yy:=by have:=HYY.out;omega
    clear hlt;go_wp2;exact bodyPost_ret (v:=.tuple #[.pointer (some ⟨g2,0,none⟩),.int .i64 0]) (by simp[results,Tryz.results73,go_sem]) rfl ⟨HA.out _ g2 h2 (by omega) (by omega) HQ.out,(bt B1.out K3.out).grown HG.out ((bt B1.out K3.out).size) (λj hj=>by have:=Option.some.inj hj;omega)⟩
theorem zsb {w:World} {g h:Nat} {I:Im} {x y:Value} {S:Stg} (hk:OpK w) (H:ImgAt w g h I) (tx:Tab w x S.fx S.lx) (ty:Tab w y S.fy S.ly) (hs:zcF S) :
  Calls Tryz.prog 73 #[.pointer (some ⟨g,0,none⟩),.agg #[x,y,.int .i64 S.sb]] w λe w'=>zd5 w.heap.size e w' (zao I S) (zI I S)/\Below w.heap.size w w':=by
 cases hz:zaY I S with
 |false=>exact zsL hk H tx ty hz
 |true =>
  cases hf:zaE (S.lx.length:Int) (S.ly.length:Int) I.ic with
  |false=>exact ztb hk H tx ty hz hf
  |true=>exact zqs hk H tx ty hs hz hf
def zhH (I J:Im):Bool:=decide (I.iw=J.iw/\I.ih=J.ih/\I.ic=J.ic/\I.it=J.it/\I.il=J.il)
theorem zgv (I:Im):zhH I I=true:=decide_eq_true ⟨rfl,rfl,rfl,rfl,rfl⟩
theorem zk5 {I J:Im} (h:¬(I.iw=J.iw/\I.ih=J.ih/\I.ic=J.ic/\I.it=J.it)):zhH I J=false:=decide_eq_false fun⟨a,b,c,d,_⟩=>h ⟨a,b,c,d⟩
theorem zj1 {I J:Im} (h:I.iw=J.iw/\I.ih=J.ih/\I.ic=J.ic/\I.it=J.it):zhH I J=decide (I.il=J.il):=decide_eq_decide.2 ⟨λq=>q.2.2.2.2,λq=>⟨h.1,h.2.1,h.2.2.1,h.2.2.2,q⟩⟩
set_option maxHeartbeats 2000000 in
theorem zmc {w:World} {g h g' h':Nat} {I J:Im} (H:ImgAt w g h I) (H':ImgAt w g' h' J):Calls Tryz.prog 13 #[.pointer (some ⟨g,0,none⟩),.pointer (some ⟨g',0,none⟩)] w λe w'=>e=.returned (.bool (zhH I J))/\Drew w w':=by
 obtain⟨l0,l1⟩:=zbr H.ok;obtain⟨l2,l3⟩:=zbr H'.ok;obtain⟨cap,c0,c1,c2,c3,c4,hr,hz,hcap,-⟩:=H;obtain⟨cap',d0,d1,d2,d3,d4,hr',hz',hcap',-⟩:=H';have CE:=λk=>zwv I.il J.il _ _ rfl rfl (some ⟨h,0,none⟩) (some ⟨h',0,none⟩) cap cap' l1 (w.drewN k) (hr.below (bdN (Below.refl _ _) k)) (hr'.below (bdN (Below.refl _ _) k))
 by_cases hs:I.iw=J.iw/\I.ih=J.ih/\I.ic=J.ic/\I.it=J.it
 ·rw[zj1 hs];obtain⟨e0,e1,e2,e3⟩:=hs;rw[←e0]at d0;rw[←e1]at d1;rw[←e2]at d2;rw[←e3]at d3;generalize decide (I.il=J.il)=r at *;generalize I.il.length=n at *;generalize J.il.length=m at *;generalize I.iw=a at *;generalize I.ih=b at *;generalize I.ic=c at *;generalize I.it=t at *;have q0:(a == a)=true:=beq_self_eq_true a;have q1:(b == b)=true:=beq_self_eq_true b;have q2:(c == c)=true:=beq_self_eq_true c;have q3:(t == t)=true:=beq_self_eq_true t;clear e0 e1 e2 e3 hr hr' hz hz' hcap hcap' l0 l1 l2 l3
  go_enter Tryz.func13,Tryz.ntmps13
  go_wp2_with fail
  go_quiet ((go_at_call 47;with_reducible exact zbR (CE _)))
  go_wp2;go_ret;exact⟨rfl,(Drew.refl _).more _⟩
 ·rw[zk5 hs];generalize decide (I.il=J.il)=r at *;generalize I.il.length=n at *;generalize J.il.length=m at *;generalize I.iw=a at *;generalize I.ih=b at *;generalize I.ic=c at *;generalize I.it=t at *;generalize J.iw=a' at *;generalize J.ih=b' at *;generalize J.ic=c' at *;generalize J.it=t' at *;clear hr hr' hz hz' hcap hcap' l0 l1 l2 l3 CE c4 d4
  by_cases e0:a=a'
  ·subst e0;have q0:(a == a)=true:=beq_self_eq_true a
   by_cases e1:b=b'
   ·subst e1;have q1:(b == b)=true:=beq_self_eq_true b
    by_cases e2:c=c'
    ·subst e2;have q2:(c == c)=true:=beq_self_eq_true c;have q3:(t == t')=false:=beq_eq_false_iff_ne.2 (λe=>hs ⟨rfl,rfl,rfl,e⟩);clear hs
     go_enter Tryz.func13,Tryz.ntmps13
     go_wp2_with fail
     go_quiet (fail)
     go_wp2;go_ret;exact⟨rfl,(Drew.refl _).more _⟩
    ·have q2:(c == c')=false:=beq_eq_false_iff_ne.2 e2;clear hs e2
     go_enter Tryz.func13,Tryz.ntmps13
     go_wp2_with fail
     go_quiet (fail)
     go_wp2;go_ret;exact⟨rfl,(Drew.refl _).more _⟩
   ·have q1:(b == b')=false:=beq_eq_false_iff_ne.2 e1;clear hs e1
    go_enter Tryz.func13,Tryz.ntmps13
    go_wp2_with fail
    go_quiet (fail)
    go_wp2;go_ret;exact⟨rfl,(Drew.refl _).more _⟩
  ·have q0:(a == a')=false:=beq_eq_false_iff_ne.2 e0;clear hs e0
   go_enter Tryz.func13,Tryz.ntmps13
   go_wp2_with fail
   go_quiet (fail)
   go_wp2;go_ret;exact⟨rfl,(Drew.refl _).more _⟩
def S2 (w:World) (R:Nat) (v0 v1:Value):Prop:=(w.cell? ⟨R,0,none⟩=some v0/\w.frozen? ⟨R,0,none⟩=false)/\w.cell? ⟨R,1,none⟩=some v1/\w.frozen? ⟨R,1,none⟩=false
theorem S2.mk {w:World} {R:Nat} {v0 v1:Value} (a:w.cell? ⟨R,0,none⟩=some v0) (b:w.frozen? ⟨R,0,none⟩=false) (c:w.cell? ⟨R,1,none⟩=some v1) (d:w.frozen? ⟨R,1,none⟩=false):S2 w R v0 v1:=⟨⟨a,b⟩,c,d⟩
theorem S2.new (w:World) (T:TypeId) (v0 v1:Value):S2 (w.alloc (.cells #[v0,v1] T)) w.heap.size v0 v1:=by
 unfold S2
 simp
theorem S2.new2 (w:World) (o:Obj) (T:TypeId) (v0 v1:Value):S2 ((w.alloc o).alloc (.cells #[v0,v1] T)) (w.heap.size+1) v0 v1:=by
 unfold S2
 simp
theorem S2.new3 (w:World) (o:Obj) (T:TypeId) (v0 v1:Value):S2 ((w.alloc o).drew.alloc (.cells #[v0,v1] T)) (w.heap.size+1) v0 v1:=by
 have h:=S2.new (w.alloc o).drew T v0 v1
 rwa [show(w.alloc o).drew.heap.size=w.heap.size+1 by simp[World.drew]]at h
theorem S2.new4 (w:World) (T:TypeId) (v0 v1:Value):S2 (w.drew.alloc (.cells #[v0,v1] T)) w.heap.size v0 v1:=S2.new w.drew T v0 v1
theorem S2.below {w w':World} {R:Nat} {v0 v1:Value} (h:S2 w R v0 v1) (hb:Below w.heap.size w w'):S2 w' R v0 v1:=by
 obtain⟨⟨a,a'⟩,b,b'⟩:=h;exact⟨⟨cb hb (ze a) a,fb hb (ze a) a'⟩,cb hb (ze b) b,fb hb (ze b) b'⟩
theorem zuI {L:List Opr} {w h c:Int} (hz:zaD L w h c=0) (hb:zcj 12 L L.length=false) (w1:w<=20) (h1:h<=20) (k:Nat) (hk:k<=L.length):(zm L w h k).1<=20/\(zm L w h k).2<=20:=by
 induction k with
 |zero=>exact⟨w1,h1⟩
 |succ k ih =>
  obtain⟨i1,i2⟩:=ih (by omega);have hf:zah L w h c L.length=0:=by
   unfold zaD at hz
   split at hz
   ·omega
   ·split at hz
    ·omega
    ·exact hz
  have hs:=(zeY hf (show k<L.length by omega)).2;have ho:zC (zh L k) (zm L w h k).1 (zm L w h k).2=0:=by
   by_cases g:zC (zh L k) (zm L w h k).1 (zm L w h k).2=0
   ·exact g
   ·unfold zaO at hs;rw[if_pos g]at hs;exact absurd hs g
  have hok:=(zbD _ _ _).1 (zfG ho).1;obtain⟨_,_,_,_,hr⟩:=hok;have nb:=zkE hb (show k<L.length by omega);unfold zdc at nb
  show toW (zh L k) (zm L w h k).1<=20/\toH (zh L k) (zm L w h k).2<=20
  unfold toW toH
  by_cases hk3:(zh L k).kd=3
  ·have:=hr hk3;rw[if_pos hk3,if_pos hk3];omega
  ·rw[if_neg hk3,if_neg hk3];exact⟨i1,i2⟩
theorem zjT {L:List Opr} {w h c:Int} (hz:zaD L w h c=0) (hb:zcj 12 L L.length=false) (w1:w<=20) (h1:h<=20) (k:Nat) (hk:k<L.length):zcF (zD L w h k)/\zC (zh L k) (zm L w h k).1 (zm L w h k).2=0:=by
 have hf:zah L w h c L.length=0:=by
  unfold zaD at hz
  split at hz
  ·omega
  ·split at hz
   ·omega
   ·exact hz
 have hs:=(zeY hf hk).2;have ho:zC (zh L k) (zm L w h k).1 (zm L w h k).2=0:=by
  by_cases g:zC (zh L k) (zm L w h k).1 (zm L w h k).2=0
  ·exact g
  ·unfold zaO at hs;rw[if_pos g]at hs;exact absurd hs g
 obtain⟨a,b⟩:=zuI hz hb w1 h1 k (by omega);exact⟨zhX ho (zkE hb hk) (by omega) a b,ho⟩
def zca:Opr:=⟨1,0,0,2,[],[],0,0,0⟩
theorem zhF:zC zca 1 1=0/\(zj zca 1 1).lx.length=1/\(zj zca 1 1).ly.length=1:=by decide +kernel
theorem zr4:OpFits zca:=by
 refine⟨?_,?_,?_,?_,?_,?_,?_,(λn hn=>by cases hn),(λn hn=>by cases hn),Nat.zero_le _,Nat.zero_le _⟩<;>(unfold zaz zca;simp)
def im7:Im:=⟨1,1,1,255,[7]⟩
theorem zx1:zay im7:=by
 unfold zay im7;refine⟨by decide,by decide,by decide,by decide,by decide,by decide,by decide,by decide,by decide,λx hx=>?_⟩;obtain rfl:x=7:=by simpa using hx
 decide
theorem zlB:zao im7 (zj zca 1 1)=0:=by
 obtain⟨_,h1,h2⟩:=zhF;unfold zao;rw[h1,h2]
 decide
theorem zpM:zbe (zI im7 (zj zca 1 1)) 0 0 0=7:=by
 obtain⟨h0,h1,h2⟩:=zhF;have one:=zpf h0;have F:=zt0 (v:=7) zx1 (zdL zlB).1 (λx hx=>by simpa [im7] using hx) (by decide) (by decide) one.1 one.2;have L:(zI im7 (zj zca 1 1)).il.length=1:=by
  show((List.range _).map _).length=1
  rw[List.length_map,List.length_range,h1,h2];rfl
 refine zo1 F (zcP.2 ⟨by decide,?_,by decide,?_,by decide,by decide⟩) ?_
 ·show(0:Int)<(((zj zca 1 1).lx.length:Nat):Int)
  rw[h1];decide
 ·show(0:Int)<(((zj zca 1 1).ly.length:Nat):Int)
  rw[h2];decide
 ·rw[L]
  show(zcc (((zj zca 1 1).lx.length:Nat):Int) 1 0 0 0).toNat<1
  rw[h1];decide
def imV (I:Im) (b n cap:Nat):Value:=.agg #[.int .i64 I.iw,.int .i64 I.ih,.int .i64 I.ic,.int .i64 I.it,.slice (some ⟨b,0,none⟩) n cap]
theorem zww (I:Im) (s:Value) (x y z:Int) (w:World):Calls Tryz.prog 59 #[.agg #[.int .i64 I.iw,.int .i64 I.ih,.int .i64 I.ic,.int .i64 I.it,s],.int .i64 x,.int .i64 y,.int .i64 z] w λe w'=>e=.returned (.bool (zbl I x y z))/\Below w.heap.size w w':=by
 obtain⟨b,hb⟩:∃ b,zbl I x y z=b:=⟨_,rfl⟩;have HB:=za hb;unfold zbl at hb;rw[show zbl I x y z=b from HB.out];generalize I.iw=a at *;generalize I.ih=a2 at *;generalize I.ic=a3 at *;generalize I.it=a4 at *
 by_cases h0:0<=x
 ·by_cases h2:0<=y
  ·by_cases h4:0<=z
   ·by_cases h1:x<a
    ·by_cases h3:y<a2
     ·by_cases h5:z<a3
      ·obtain rfl:b=true:=by rw[←hb];exact decide_eq_true (by omega)
       clear hb HB
       go_enter Tryz.func59,Tryz.ntmps59
       go_wp2;go_ret;exact⟨rfl,zg _ _⟩
      ·obtain rfl:b=false:=by rw[←hb];exact decide_eq_false (by omega)
       clear hb HB
       go_enter Tryz.func59,Tryz.ntmps59
       go_wp2;go_ret;exact⟨rfl,zg _ _⟩
     ·obtain rfl:b=false:=by rw[←hb];exact decide_eq_false (by omega)
      clear hb HB
      go_enter Tryz.func59,Tryz.ntmps59
      go_wp2;go_ret;exact⟨rfl,zg _ _⟩
    ·obtain rfl:b=false:=by rw[←hb];exact decide_eq_false (by omega)
     clear hb HB
     go_enter Tryz.func59,Tryz.ntmps59
     go_wp2;go_ret;exact⟨rfl,zg _ _⟩
   ·obtain rfl:b=false:=by rw[←hb];exact decide_eq_false (by omega)
    clear hb HB
    go_enter Tryz.func59,Tryz.ntmps59
    go_wp2;go_ret;exact⟨rfl,zg _ _⟩
  ·obtain rfl:b=false:=by rw[←hb];exact decide_eq_false (by omega)
   clear hb HB
   go_enter Tryz.func59,Tryz.ntmps59
   go_wp2;go_ret;exact⟨rfl,zg _ _⟩
 ·obtain rfl:b=false:=by rw[←hb];exact decide_eq_false (by omega)
  clear hb HB
  go_enter Tryz.func59,Tryz.ntmps59
  go_wp2;go_ret;exact⟨rfl,zg _ _⟩
theorem znT {I:Im} (hI:zay I) {x y z:Int} (h:zbl I x y z=true):∃ k:Nat,y*I.iw*I.ic+x*I.ic+z=(k:Int)/\k<I.il.length/\(zL I x y z).toNat=k/\0<=y*I.iw/\y*I.iw<=4294967296/\0<=y*I.iw*I.ic/\y*I.iw*I.ic<=12884901888/\0<=x*I.ic/\x*I.ic<=196608/\0<=z/\z<3:=by
 obtain⟨p0,p1,p2,p3⟩:=zez hI h;obtain⟨x0,x1,y0,y1,z0,z1⟩:=zcP.1 h;obtain⟨r0,r1,r2,r3,r4,r5⟩:=zfO hI y0 y1;have e:=zrT I.iw I.ic x y z;have q0:0<=x*I.ic:=Int.mul_nonneg x0 (by omega);have q1:x*I.ic<=I.iw*I.ic:=Int.mul_le_mul_of_nonneg_right (by omega) (by omega);obtain⟨_,_,_,_,hc,_,_,_,hl,_⟩:=hI;have hl':(I.il.length:Int)<=268435456:=by omega
 refine⟨(zL I x y z).toNat,?_,p1,rfl,r4,r5,r2,by omega,q0,by omega,z0,by omega⟩;rw[e,p2];rfl
theorem zoW (I:Im) (b cap:Nat) (hI:zay I) (x y z:Int) (w:World) (hr:RowAt .u16 w (some ⟨b,0,none⟩) I.il):Calls Tryz.prog 29 #[imV I b I.il.length cap,.int .i64 x,.int .i64 y,.int .i64 z] w λe w'=>e=.returned (.int .u16 (zbe I x y z))/\Below w.heap.size w w':=by
 unfold imV;have CI:=λw=>zww I (.slice (some ⟨b,0,none⟩) I.il.length cap) x y z w
 unfold zbe
 cases hh:zbl I x y z with
 |false =>
  rw[hh]at CI;rw[if_neg (by decide)];clear hr hI hh;generalize I.iw=a at *;generalize I.ih=a2 at *;generalize I.ic=a3 at *;generalize I.it=a4 at *;generalize I.il.length=n at *
  go_enter Tryz.func29,Tryz.ntmps29
  go_wp2_with (go_at_call 59;(with_reducible refine(CI _).mono ?_);rintro e w1 ⟨rfl,b1⟩)
  go_ret;exact⟨rfl,bt (zg _ _) b1⟩
 |true =>
  rw[hh]at CI;rw[if_pos rfl];obtain⟨l0,l1⟩:=zbr hI;obtain⟨k,e,hk,hp,p0,p1,p2,p3,p4,p5,p6,p7⟩:=znT hI hh;have hc:=hr.at hk;rw[Nat.zero_add]at hc;rw[hp];have hl:=ze hc;clear hr hI hh hp;generalize I.il.getD k 0=u at *;generalize I.iw=a at *;generalize I.ih=a2 at *;generalize I.ic=a3 at *;generalize I.it=a4 at *;generalize I.il.length=n at *
  go_enter Tryz.func29,Tryz.ntmps29
  go_wp2_with (go_at_call 59;(with_reducible refine(CI _).mono ?_);rintro e w1 ⟨rfl,b1⟩;have q0:=cb b1 (b:=w.heap.size) (o:=0) (v:=.int .i64 a) (by simp) (by simp);have q2:=cb b1 (b:=w.heap.size) (o:=2) (v:=.int .i64 a3) (by simp) (by simp);have q4:=cb b1 (b:=w.heap.size) (o:=4) (v:=.slice (some ⟨b,0,none⟩) n cap) (by simp) (by simp);have hc1:=cb b1 (by simp;omega) (cb (zg w _) hl hc))
  go_ret;exact⟨rfl,bt (zg _ _) b1⟩
structure Pic where
 pw:Int
 ph:Int
 pc:Int
 pm:Int
 pl:List Int
def zfd (p:Pic) (ad:Option Addr) (cap:Nat):Value:=.agg #[.int .u16 p.pw,.int .u16 p.ph,.int .u16 p.pc,.int .u16 p.pm,.slice ad p.pl.length cap]
def PicAt (w:World) (p:Pic) (ad:Option Addr) (cap:Nat):Prop:=RowAt .u16 w ad p.pl/\(ad=none->cap=0)
def zeJ (p:Pic):Prop:=(0<=p.pw/\p.pw<=65535)/\(0<=p.ph/\p.ph<=65535)/\(0<=p.pc/\p.pc<=65535)/\(0<=p.pm/\p.pm<=65535)/\AllK .u16 p.pl/\p.pl.length<=maxLen
theorem PicAt.below {w w':World} {p:Pic} {ad:Option Addr} {cap:Nat} (h:PicAt w p ad cap) (hb:Below w.heap.size w w'):PicAt w' p ad cap:=⟨h.1.below hb,h.2⟩
theorem zjP {x:Int} (h:(Lit.int .u16 x).wf=true):0<=x/\x<=65535:=by
 simpa [Lit.wf,IntKind.min,IntKind.max,IntKind.signed,IntKind.bits] using h
theorem zqw {H:Type} {enc:TypeId×Value->H} {w:World} {base:Nat} {held:Bool} {fuel:Nat} {v:Value} {x:DataW H×List MemPlace}
  (h:DataW.trod enc Tryz.prog w base (λ_=>true) held fuel 23 [v]=some x):∃ (xs:List Int) (ad:Option Addr) (cap:Nat),v=.slice ad xs.length cap/\RowAt .u16 w ad xs/\AllK .u16 xs/\xs.length<=maxLen/\(ad=none->cap=0):=by
 rcases Go.ChangeShapes.open_ints Tryz.underlying23 Tryz.underlying22 (by kernel_rfl) h with⟨hcs,_⟩|⟨x,l,c,zs,hcs,_,hl,hm,hz,_,hcell,hwz⟩
 ·obtain rfl:v=.slice none 0 0:=by simpa using hcs
  exact⟨[],none,0,rfl,Or.inl rfl,λn hn=>(by cases hn),Nat.zero_le _,λ_=>rfl⟩
 ·obtain rfl:v=.slice (some x) l c:=by simpa using hcs
  obtain⟨xs,e,a,b,d,f⟩:=znu (.inr ⟨x,zs,rfl,hl,hm,by simpa using hz,hcell,hwz⟩);subst e;exact⟨xs,_,_,rfl,a,b,d,f⟩
set_option maxRecDepth 100000 in
theorem zsc {H:Type} {enc:TypeId×Value->H} {w:World} {base:Nat} {held:Bool} {fuel:Nat} {cs:List Value} {x:DataW H×List MemPlace}
  (h:DataW.trod enc Tryz.prog w base (λ_=>true) held fuel 25 cs=some x) (h5:cs.length=5):∃ (p:Pic) (ad:Option Addr) (cap:Nat),
   cs=[.int .u16 p.pw,.int .u16 p.ph,.int .u16 p.pc,.int .u16 p.pm,.slice ad p.pl.length cap]/\PicAt w p ad cap/\zeJ p:=by
 obtain⟨ys,n',_,_,hlen,hyl,hf⟩:=DataW.trod_struct Tryz.underlying25 h;have k1:Tryz.prog.cellsOf 22=1:=by kernel_rfl
 have k2:Tryz.prog.cellsOf 23=1:=by kernel_rfl
 match cs,h5 with
 |[c0,c1,c2,c3,c4],_ =>
  have hy:ys.length=5:=hyl
  match ys,hy with
  |[y0,y1,y2,y3,y4],_ =>
   have f0:DataW.trod enc Tryz.prog w base (λ_=>true) held n' 22 (List.take (Tryz.prog.cellsOf 22) (List.drop 0 [c0,c1,c2,c3,c4]))=some y0:=hf 0 _ rfl;have f1:DataW.trod enc Tryz.prog w base (λ_=>true) held n' 22 (List.take (Tryz.prog.cellsOf 22) (List.drop 1 [c0,c1,c2,c3,c4]))=some y1:=hf 1 _ rfl;have f2:DataW.trod enc Tryz.prog w base (λ_=>true) held n' 22 (List.take (Tryz.prog.cellsOf 22) (List.drop 2 [c0,c1,c2,c3,c4]))=some y2:=hf 2 _ rfl;have f3:DataW.trod enc Tryz.prog w base (λ_=>true) held n' 22 (List.take (Tryz.prog.cellsOf 22) (List.drop 3 [c0,c1,c2,c3,c4]))=some y3:=hf 3 _ rfl;have f4:DataW.trod enc Tryz.prog w base (λ_=>true) held n' 23 (List.take (Tryz.prog.cellsOf 23) (List.drop 4 [c0,c1,c2,c3,c4]))=some y4:=hf 4 _ rfl;rw[k1]at f0 f1 f2 f3;rw[k2]at f4;obtain⟨x0,q0,_,w0⟩:=DataW.trod_int Tryz.underlying22 f0;obtain⟨x1,q1,_,w1⟩:=DataW.trod_int Tryz.underlying22 f1;obtain⟨x2,q2,_,w2⟩:=DataW.trod_int Tryz.underlying22 f2;obtain⟨x3,q3,_,w3⟩:=DataW.trod_int Tryz.underlying22 f3;simp at q0 q1 q2 q3;subst q0 q1 q2 q3;obtain⟨xs,ad,cap,rfl,r4,a4,l4,z4⟩:=zqw f4;exact⟨⟨x0,x1,x2,x3,xs⟩,ad,cap,rfl,⟨r4,z4⟩,zjP w0,zjP w1,zjP w2,zjP w3,a4,l4⟩
set_option maxRecDepth 100000 in
theorem zlX {H:Type} {enc:TypeId×Value->H} {w:World} {r:Reach} {b0 base:Nat} {held:Bool} {v:Value} {d:DataW H} {p:List MemPlace}
  (hv:Value.okWide Tryz.prog w r b0 25 v) (h:DataW.Trod enc Tryz.prog w base (λ_=>true) held 25 v d p):∃ (q:Pic) (ad:Option Addr) (cap:Nat),v=zfd q ad cap/\PicAt w q ad cap/\zeJ q:=by
 obtain⟨cs,rfl,hsz⟩:=Go.WideShapes.okWide_struct Tryz.underlying25 hv;obtain⟨n,hn⟩:=h;have hC:Tryz.prog.cellsOf 25=5:=by kernel_rfl
 rw[hC]at hsz;obtain⟨o,ad,cap,e,a,b⟩:=zsc hn (by simpa [Value.cells] using hsz);obtain⟨l⟩:=cs;simp only[Value.cells]at e;subst e;exact⟨o,ad,cap,rfl,a,b⟩
theorem zxq:zbj 2 1 3 255=0:=by decide
theorem zx2:zbp ⟨2,1,3,255,List.replicate 6 0⟩ 1 0 2 255=true:=by decide
theorem zyc:zbp ⟨2,1,3,255,List.replicate 6 0⟩ 1 0 2 256=false:=by decide
theorem zxp (w:World):Calls Tryz.prog 72 #[] w λe w'=>e=.returned (.bool true)/\Below w.heap.size w w':=by
 have CN:=zoR 2 1 3 255 zxq;rw[show((2:Int)*1*3).toNat=6 from rfl]at CN;have E1:=za zx2;have E2:=za zyc;obtain⟨I,hI⟩:∃ I,(⟨2,1,3,255,List.replicate 6 0⟩:Im)=I:=⟨_,rfl⟩;have hl:I.il.length=6:=by rw[←hI];rfl
 have HL:=za hl;rw[hI]at CN E1 E2;clear hI hl
 go_enter Tryz.func72,Tryz.ntmps72
 go_wp2_with (first
  |(go_at_call 33;(with_reducible refine(CN _).mono ?_);rintro e w1 ⟨v,rfl,⟨g,h,rfl,gB,hB,hi⟩,b1⟩;have HI:=za hi;clear hi)
  |(go_at_call 56;(with_reducible refine(ziR HI.out).mono ?_);rintro e w2 ⟨v2,rfl,own2,b2⟩;obtain⟨ad2,cap2,rfl,_,_⟩:=own2.formn HL.out)
  |(go_at_call 26;(with_reducible refine(zjJ (HI.out.below b2) 1 0 2 256 (by omega) (by omega) E2.out).mono ?_);rintro e w3 ⟨rfl,rfl⟩)
  |(go_at_call 26;(with_reducible refine(zeT (HI.out.below b2) 1 0 2 255 (by omega) (by omega) E1.out).mono ?_);rintro e w4 ⟨rfl,hi4,g4⟩))
 go_ret;exact⟨rfl,(bt b1 b2).grown g4 ((bt b1 b2).size) (λk hk=>by have:=Option.some.inj hk;omega)⟩
set_option maxHeartbeats 2000000 in
set_option maxRecDepth 100000 in
theorem zt9 (a b c t:Int) (xs:List Int) (ad:Option Addr) (cap:Nat) (w:World) (a0:0<=a) (b0:0<=b) (c0:0<=c) (t0:0<=t) (t1:t<=65535) (hr:RowAt .u16 w ad xs) (hx:∀ x ∈ xs,0<=x/\x<=65535) (hl:xs.length<=maxLen) :
  Calls Tryz.prog 74 #[.int .u16 a,.int .u16 b,.int .u16 c,.int .u16 t,.slice ad xs.length cap] w λe w'=>∃ v I,e=.returned v/\zfM w.heap.size w' v I/\I.iw<=20/\I.ih<=20/\I.it=1+t % 65535/\Below w.heap.size w w':=by
 obtain⟨x,hx0,hx1⟩:∃ x,1+a % 20=x/\(1<=x/\x<=20):=⟨_,rfl,by omega⟩;obtain⟨y,hy0,hy1⟩:∃ y,1+b % 20=y/\(1<=y/\y<=20):=⟨_,rfl,by omega⟩;obtain⟨z,hz0,hz1⟩:∃ z,1+2*(c % 2)=z/\(z=1\/z=3):=⟨_,rfl,by omega⟩;obtain⟨top,ht0,ht1,ht2⟩:∃ top,1+t % 65535=top/\1<=top/\top<=65535:=⟨_,rfl,by omega,by omega⟩;have HTT:=za ht0.symm;have m0:1<=x*y/\x*y<=400:=by
  have h1:=Int.mul_le_mul hx1.2 hy1.2 (by omega) (by omega);have h2:=(zcQ hx1.1 (show x<=65536 by omega) hy1.1 (show y<=65536 by omega)).1;omega
 have m1:1<=x*y*z/\x*y*z<=1200:=by rcases hz1 with e|e<;>rw[e]<;>omega
 have hcd:zbj x y z top=0:=zmm ht1 ht2 (by omega) (by omega) (by omega) (by omega) hz1 (by omega);obtain⟨n,hn⟩:∃ n:Nat,(n:Int)=x*y*z:=⟨_,Int.toNat_of_nonneg (by omega)⟩;obtain⟨zs,MK,MO⟩:=zmy n (by omega);rw[hn]at MK;have n0:1<=n:=by omega
 have n1:n<=1200:=by omega
 have HMO:=za MO;have HR:=za hr;have HX:=za hx;have HN:=za hn;have HCD:=za hcd;obtain⟨m,hm⟩:∃ m,xs.length=m:=⟨_,rfl⟩;have HM:=za hm;rw[hm]at hl ⊢;have hl2:m<=9223372036854775807:=hl;clear MO hr hx hn hcd hm hl
 go_enter Tryz.func74,Tryz.ntmps74
 go_wp2;have O1:=HMO.out w w.heap.size (Nat.le_refl _);have HO1:=za O1;have HB1:=za (ba (Below.refl w.heap.size w) (.cells zs 22));clear MK HMO O1;generalize w.alloc (.cells zs 22)=w1 at *
 go_loopw [44] (λi wr=>∃ k:Nat,k<=n/\i=.int .i64 (k:Int)/\(∃ L:List Int,L.length=n/\Hid (∀ q ∈ L,0<=q/\q<=top)/\OwnI .u16 22 wr w.heap.size (.slice (some ⟨w.heap.size,0,none⟩) n n) L)/\Below w.heap.size w wr) (λi _=>n-(intOf i).toNat)
 case atStart=>exact⟨0,by omega,rfl,⟨_,by simp,(λq hq=>by obtain⟨_,rfl⟩:=List.mem_replicate.1 hq;omega),HO1.out⟩,HB1.out⟩
 case round =>
  clear HO1 HB1;obtain⟨k,hk,rfl,⟨L,hL,hq,ho⟩,hb⟩:=hrel;have HO:=za ho;have HB:=za hb;have HL:=za hL;clear ho hb hL
  by_cases hlt:k<n
  ·by_cases hm0:m=0
   ·subst hm0;go_wp2
    go_roundw
    case rel=>exact⟨k+1,by omega,by go_num,⟨L,HL.out,hq,HO.out⟩,HB.out⟩
    case measure=>simp[intOf];omega
   ·obtain⟨j,hj,hjm⟩:∃ j:Nat,(j:Int)=(k:Int) % (m:Int)/\j<m:=⟨k % m,by omega,Nat.mod_lt _ (by omega)⟩;obtain⟨b2,off,rfl,hc⟩:=(HR.out).get (show j<xs.length by rw[HM.out];exact hjm);have hu:=zg7 HX.out (show j<xs.length by rw[HM.out];exact hjm);generalize xs.getD j 0=u at *;obtain⟨q,hq0,hq1⟩:∃ q:Int,(k:Int) / (m:Int)=q/\(0<=q/\q<=1200):=⟨_,rfl,Int.ediv_nonneg (by omega) (by omega),by
     have:=Int.ediv_le_self (m:Int) (show(0:Int)<=(k:Int) by omega);omega⟩
    obtain⟨r,hr0,hr1⟩:∃ r:Int,(u+q) % (top+1)=r/\(0<=r/\r<=top):=⟨_,rfl,Int.emod_nonneg _ (by omega),by
     have:=Int.emod_lt_of_pos (u+q) (show(0:Int)<top+1 by omega);omega⟩
    have e1:(k:Int).tmod (m:Int)=(j:Int):=by rw[Int.tmod_eq_emod_of_nonneg (by omega)];exact hj.symm
    have e1':(k:Int) % (m:Int)=(j:Int):=hj.symm;have e2:(k:Int).tdiv (m:Int)=q:=by rw[Int.tdiv_eq_ediv_of_nonneg (by omega)];exact hq0
    have e2':(k:Int) / (m:Int)=q:=hq0;have e3:(u+q).tmod (top+1)=r:=by rw[Int.tmod_eq_emod_of_nonneg (by omega)];exact hr0
    have e3':(u+q) % (top+1)=r:=hr0;have e4:IntKind.i64.wrap (u+q)=u+q:=IntWalk.i64_in _ (by omega);have e5:IntKind.i64.wrap (top+1)=top+1:=IntWalk.i64_in _ (by omega);have e6:IntKind.u16.wrap r=r:=by rw[IntKind.wrap_u16];omega
    have hc':=cb HB.out (ze hc) hc;have hne:b2≠w.heap.size:=Nat.ne_of_lt (ze hc);have hne':w.heap.size≠b2:=hne.symm;have c1:=HO.out.cellAt HL.out hlt;have z1:=HO.out.frozenAt HL.out k;have mz:((m:Int) == 0)=false:=beq_eq_false_iff_ne.2 (by omega);have mz':((m:Int) != 0)=true:=bne_iff_ne.2 (by omega);have hj0:(0:Int)<=(j:Int):=by omega
    have hj1:(j:Int)<(m:Int):=by omega
    have H5:=za (And.intro (show(L.set k r).length=n by rw[List.length_set];exact HL.out) (And.intro (show ∀ q ∈ L.set k r,0<=q/\q<=top from λq' h'=>by
     rcases List.mem_or_eq_of_mem_set h' with h'|rfl
     ·exact hq.out q' h'
     ·exact hr1) (And.intro (HO.out.stored HL.out k r) (bs HB.out (Nat.le_refl _) (b:=w.heap.size) (o:=k) (.int .u16 r)))))
    clear hj hjm hq0 hr0 hm0
    go_upto_region 8 with fail
    go_region
    all_goals
     go_wp2
     go_roundw
     case rel=>exact⟨k+1,by omega,by go_num,⟨_,H5.out.1,H5.out.2.1,H5.out.2.2.1.below (bd (Below.refl _ _))⟩,bd H5.out.2.2.2⟩
     case measure=>simp[intOf];omega
  ·obtain rfl:k=n:=by omega
   obtain⟨_,_,hv,_,_,hrow,_,_⟩:=zax HO.out HL.out n0;simp only[Value.slice.injEq,Option.some.injEq,Addr.mk.injEq,and_true,true_and]at hv;obtain⟨rfl,rfl⟩:=hv;have hmx:zdE L k<=top:=by
    have:=(zsm (xs:=L) (by rw[HL.out];exact n0)).2 (λx hx=>(hq.out x hx).2);rw[HL.out]at this;exact this
   have CO:=λW hr=>ztj x y z top HCD.out L k HL.out (some ⟨w.heap.size,0,none⟩) k HN.out (λx hx=>⟨(hq.out x hx).1,by have:=(hq.out x hx).2;omega⟩) hmx W hr
   have HRW:=za hrow;clear hrow HO
   go_wp2_with (go_at_call 71;(with_reducible refine(CO _ HRW.out).mono ?_);rintro e w2 ⟨v,rfl,⟨g,h,rfl,gB,hB,hi⟩,b2⟩;have HI:=za hi;clear hi)
   have sB:=HB.out.size;go_ret;exact⟨_,_,rfl,⟨g,h,rfl,by omega,by omega,HI.out⟩,hx1.2,hy1.2,HTT.out,bt HB.out b2⟩
theorem zuj (a b c t:Int) (xs:List Int) (ad:Option Addr) (cap:Nat) (w:World) (a0:0<=a) (b0:0<=b) (c0:0<=c) (t0:0<=t) (t1:t<=65535) (hr:RowAt .u16 w ad xs) (hx:∀ x ∈ xs,0<=x/\x<=65535) (hl:xs.length<=maxLen) :
  Calls Tryz.prog 74 #[.int .u16 a,.int .u16 b,.int .u16 c,.int .u16 t,.slice ad xs.length cap] w λe w'=>∃ v I,e=.returned v/\zfM w.heap.size w' v I/\I.iw<=20/\I.ih<=20/\Below w.heap.size w w' :=
 (zt9 a b c t xs ad cap w a0 b0 c0 t0 t1 hr hx hl).mono λ_ _ ⟨v,I,h1,h2,h3,h4,_,h6⟩=>⟨v,I,h1,h2,h3,h4,h6⟩
end Go.Proofs.YtlodkoimdoeopaaGreatDoor
