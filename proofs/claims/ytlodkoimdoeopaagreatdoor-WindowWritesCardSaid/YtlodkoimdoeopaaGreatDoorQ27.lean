/- Parts, joined. -/
import Derived.Test.YtlodkoimdoeopaaGreatDoorQ26
import Derived.Test.YtlodkoimdoeopaaGreatDoorQ21
import Derived.Test.YtlodkoimdoeopaaGreatDoorQ14
import Derived.Test.YtlodkoimdoeopaaGreatDoorQ24
import Derived.Test.YtlodkoimdoeopaaGreatDoorQ12
import Derived.Deep.LoopGhost
import Derived.BigQuiet
import Derived.LaidEqlPtr
import Derived.Deep.RegionHeld3
import Derived.Deep.DeepCutAuto
namespace Go.Proofs.YtlodkoimdoeopaaGreatDoor
open Go.RowKit
theorem zvC:(Tryz.prog.info? 145).map (λi=>(i.zero,i.size,i.bytes))=some (some (.agg #[.int .i64 0,.slice none 0 0]),2,32):=by kernel_rfl
def ColJ (w:World) (B h x0:Nat) (lo:Int) (L:List (Int×List Int)) (i:Nat):Prop :=
 ∃ wb wo wc,w.cell? ⟨h,i*2,none⟩=some (.int .i64 ((zf L (x0+i)).1-lo))/\w.cell? ⟨h,i*2+1,none⟩=some (.slice (some ⟨wb,wo,none⟩) (zf L (x0+i)).2.length wc)/\RowAt .i64 w (some ⟨wb,wo,none⟩) (zf L (x0+i)).2/\B<=wb/\wb≠h
theorem ColJ.below {w w':World} {B h x0:Nat} {lo:Int} {L:List (Int×List Int)} {i:Nat} (H:ColJ w B h x0 lo L i) (hb:Below w.heap.size w w'):ColJ w' B h x0 lo L i:=by
 obtain⟨wb,wo,wc,c0,c1,rw',r⟩:=H;exact⟨wb,wo,wc,cb hb (ze c0) c0,cb hb (ze c1) c1,rw'.below hb,r⟩
def ColFillJ (w:World) (B h n x0:Nat) (lo:Int) (L:List (Int×List Int)) (k:Nat):Prop:=(∀ j,j<n*2->(∃ v,w.cell? ⟨h,j,none⟩=some v)/\w.frozen? ⟨h,j,none⟩=false)/\∀ i,i<k->ColJ w B h x0 lo L i
theorem ColFillJ.below {w w':World} {B h n x0:Nat} {lo:Int} {L:List (Int×List Int)} {k:Nat} (H:ColFillJ w B h n x0 lo L k) (hb:Below w.heap.size w w'):ColFillJ w' B h n x0 lo L k:=by
 refine⟨λj hj=>?_,λi hi=>(H.2 i hi).below hb⟩;obtain⟨⟨v,c⟩,f⟩:=H.1 j hj;exact⟨⟨v,cb hb (ze c) c⟩,fb hb (ze c) f⟩
theorem ColFillJ.put {w:World} {B h n x0:Nat} {lo:Int} {L:List (Int×List Int)} {k:Nat} (H:ColFillJ w B h n x0 lo L k) (hk:k<n) {wb wo wc m:Nat} {d:Int} (hd:(zf L (x0+k)).1-lo=d) (hm:(zf L (x0+k)).2.length=m) (rw':RowAt .i64 w (some ⟨wb,wo,none⟩) (zf L (x0+k)).2) (b1:B<=wb) (n1:wb≠h) :
  ColFillJ ((w.setCell ⟨h,k*2,none⟩ (.int .i64 d)).setCell ⟨h,k*2+1,none⟩ (.slice (some ⟨wb,wo,none⟩) m wc)) B h n x0 lo L (k+1):=by
 obtain⟨hc,hx⟩:=H;subst hm hd;obtain⟨⟨v0,c0⟩,_⟩:=hc (k*2) (by omega);obtain⟨⟨v1,c1⟩,_⟩:=hc (k*2+1) (by omega);generalize hW:(w.setCell ⟨h,k*2,none⟩ (.int .i64 ((zf L (x0+k)).1-lo))).setCell ⟨h,k*2+1,none⟩ (.slice (some ⟨wb,wo,none⟩) (zf L (x0+k)).2.length wc)=W;have hg:w.grownBy W (some h):=hW ▸ (zn w h (k*2) _).trans (zn _ h (k*2+1) _);have E:∀ j,j≠k*2->j≠k*2+1->W.cell? ⟨h,j,none⟩=w.cell? ⟨h,j,none⟩:=λj a b=>hW ▸ (zc (Or.inr (by omega))).trans (zc (Or.inr (by omega)))
 have E0:W.cell? ⟨h,k*2,none⟩=some (.int .i64 ((zf L (x0+k)).1-lo)):=hW ▸ (zc (Or.inr (by omega))).trans (World.cell?_setCell_same' _ _ _ (by rw[c0];rfl));have E1:W.cell? ⟨h,k*2+1,none⟩=some (.slice (some ⟨wb,wo,none⟩) (zf L (x0+k)).2.length wc):=hW ▸ World.cell?_setCell_same' _ _ _ (by rw[zc (Or.inr (by omega)),c1];rfl);have K:∀ {b o:Nat} {xs:List Int},b≠h->RowAt .i64 w (some ⟨b,o,none⟩) xs->RowAt .i64 W (some ⟨b,o,none⟩) xs:=λhne r=>r.grown hg (λe=>hne (Option.some.inj e))
 have FZ:∀ j,W.frozen? ⟨h,j,none⟩=w.frozen? ⟨h,j,none⟩:=λj=>by rw[←hW,World.frozen?_setCell,World.frozen?_setCell]
 refine⟨λj hj=>?_,λi hi=>?_⟩
 ·refine⟨?_,(FZ j).trans (hc j hj).2⟩
  by_cases a:j=k*2
  ·subst a;exact⟨_,E0⟩
  by_cases b:j=k*2+1
  ·subst b;exact⟨_,E1⟩
  rw[E j a b];exact(hc j hj).1
 ·by_cases e:i=k
  ·subst e;exact⟨wb,wo,wc,E0,E1,K n1 rw',b1,n1⟩
  ·obtain⟨wb',wo',wc',d0,d1,rw'',b1',n1'⟩:=hx i (by omega);exact⟨wb',wo',wc',(E _ (by omega) (by omega)).trans d0,(E _ (by omega) (by omega)).trans d1,K n1' rw'',b1',n1'⟩
theorem zvc (n:Nat) (h:n<=1048576):∃ zs:Array Value,(∀ w:World,(Instr.makeSlice 96 (.int .i64 (n:Int)) (.int .i64 (n:Int))).run Tryz.prog w=.ok (.slice (some ⟨w.heap.size,0,none⟩) n n) (w.alloc (.cells zs 145)))/\(∀ (w:World) (B x0:Nat) (lo:Int) (L:List (Int×List Int)),ColFillJ (w.alloc (.cells zs 145)) B w.heap.size n x0 lo L 0):=by
 obtain⟨i0,hi,hz0,hz1,hz2⟩:=info_parts zvC;have hm:(n:Int)<=9223372036854775807:=by omega
 refine⟨madeCells (Value.agg #[.int .i64 0,.slice none 0 0]).cells (n*i0.size),λw=>?_,λw B x0 lo L=>?_⟩
 ·have hr:=run_make (P:=Tryz.prog) w 96 145 i0 (.agg #[.int .i64 0,.slice none 0 0]) Tryz.underlying96 hi hz0 .i64 .i64 n n (by omega) (Int.le_refl _) (by rw[hz2];omega) hm
  simpa only [Int.toNat_natCast] using hr
 ·rw[hz1];have ho:(w.alloc (.cells (madeCells (Value.agg #[.int .i64 0,.slice none 0 0]).cells (n*2)) 145)).ownsRow 0 145 2 (.slice (some ⟨w.heap.size,0,none⟩) n n) n (madeCells (Value.agg #[.int .i64 0,.slice none 0 0]).cells (n*2)).toList :=
   World.ownsRow_lit w _ n (Nat.zero_le _) (by unfold maxLen;omega) (by rw[size_madeCells])
  have hl:=ho.1;refine⟨λj hj=>⟨?_,ho.frozenAt j⟩,λi hi=>absurd hi (Nat.not_lt_zero _)⟩;rw[ho.cellAt j hj];exact⟨_,List.getElem?_eq_getElem (by omega)⟩
set_option maxHeartbeats 8000000 in
set_option maxRecDepth 100000 in
theorem zvE {w:World} {xv:Value} {n lo:Int} {L:List (Int×List Int)} {x0 N:Nat} {oy oh:Int} (hT:Tab w xv n L) (hN:x0+N<=L.length) (h1:1<=N) (hlo:∀ i,i<N->0<=(zf L (x0+i)).1-lo/\(zf L (x0+i)).1-lo<=4294967296) :
  Calls Tryz.prog 44 #[xv,.agg #[.int .i64 (x0:Int),.int .i64 oy,.int .i64 (N:Int),.int .i64 oh],.int .i64 lo] w λe w'=>(∃ h,e=.returned (.slice (some ⟨h,0,none⟩) N N)/\w.heap.size<h/\h<w'.heap.size/\∀ i,i<N->ColJ w' w.heap.size h x0 lo L i)/\Below w.heap.size w w':=by
 obtain⟨hok,l0,l1,n0,n1⟩:=hT.ok;have N1:N<=65536:=by omega
 have CL:=za (λw' (b:Below w.heap.size w w') (j:Nat) (hj:j<N)=>zeH (hT.below b) (x0+j) (by omega));have HOK:=za (fun(j:Nat) (hj:j<N)=>hok (x0+j) (by omega));have HLO:=za hlo;obtain⟨zs,MK,MO⟩:=zvc N (by omega);have HMO:=za MO;obtain⟨av,rfl⟩:=hT.ptr;have HX:=za (show x0+N<=65536 by omega);obtain⟨W0,hW0⟩:∃ W0,w.alloc (.cells #[.int .i64 (x0:Int),.int .i64 oy,.int .i64 (N:Int),.int .i64 oh] 41)=W0:=⟨_,rfl⟩;have B0:=za (show Below w.heap.size w W0 by rw[←hW0];exact zg _ _);have C0:=za (show W0.cell? ⟨w.heap.size,0,none⟩=some (.int .i64 (x0:Int))/\W0.cell? ⟨w.heap.size,2,none⟩=some (.int .i64 (N:Int)) by rw[←hW0];constructor<;>simp);have Z0:=za (show w.heap.size<W0.heap.size by rw[←hW0];simp);clear hT hok hN hlo MO l0 l1 n0 n1
 go_enter Tryz.func44,Tryz.ntmps44
 go_upto_region 1 with fail
 clear hW0;obtain⟨q0,q2⟩:=C0.out;have x0c:=ca (ob:=.cells zs 145) Z0.out q0;go_wp2;have HF:=za (HMO.out W0 w.heap.size x0 lo L);have HB5:=za (ba (Below.refl W0.heap.size W0) (.cells zs 145));clear MK HMO q0 q2 x0c;generalize W0.alloc (.cells zs 145)=w6 at *;obtain⟨h,hh⟩:∃ h,W0.heap.size=h:=⟨_,rfl⟩;have HHH:=za hh;have hwh:w.heap.size<h:=by have:=Z0.out;omega
 rw[hh]at HF;simp only[hh];clear hh
 go_loopg [8,16] N (λr t i wr=>∃ k:Nat,k+r=N/\i=.int .i64 (k:Int)/\(∃ ad T m cp,t=.slice ad m cp/\T.length=m/\RowAt .i64 wr ad T/\FarRow (h+1) ad T/\m<=1048576)/\ColFillJ wr w.heap.size h N x0 lo L k/\Below W0.heap.size W0 wr)
 case atStart=>exact⟨0,by omega,rfl,⟨none,[],0,0,rfl,rfl,.inl rfl,.inl rfl,by decide⟩,HF.out,HB5.out⟩
 case round =>
  clear HF HB5;obtain⟨k,hk,rfl,⟨ad,T,m0,cp,rfl,hT0,hrT,hfT,hm0⟩,hfill,hb⟩:=hrel;have HK:=za hk;have HT0:=za hT0;have HRT:=za hrT;have HFT:=za hfT;have HFI:=za hfill;have HB:=za hb;clear hk hT0 hrT hfT hfill hb
  by_cases hlt:k<N
  ·have LK:=HOK.out k hlt;have CL1:=CL.out wr (bt B0.out HB.out) k hlt;have dl:=HLO.out k hlt;obtain⟨f,ts,he⟩:∃ f ts,zf L (x0+k)=(f,ts):=⟨_,_,rfl⟩;have HE:=za he;rw[he]at LK CL1 dl;obtain⟨_,_,m1,m2,_⟩:=LK;have m1:1<=ts.length:=m1;have m2:ts.length<=1048576:=m2;obtain⟨d0,d1⟩:=dl;have d0:0<=f-lo:=d0;have d1:f-lo<=4294967296:=d1;obtain⟨m,hm⟩:∃ m,ts.length=m:=⟨_,rfl⟩;rw[hm]at m1 m2;have HM:=za hm;have y0:=cb HB.out (by have:=HHH.out;omega) C0.out.1;have WX:wrap64 ((x0:Int)+(k:Int))=((x0+k:Nat):Int):=zjH rfl (by have:=HX.out;omega);obtain⟨xk,hxk⟩:∃ xk,x0+k=xk:=⟨_,rfl⟩;rw[hxk]at WX CL1 he;have HXK:=za hxk;have hwr:=HB.out.size;clear he hm hxk
   by_cases hE:ts=T
   ·subst hE;obtain rfl:m=m0:=by rw[←HM.out,HT0.out]
    have CE:∀ w' ad' cap' bd cap'' (_:RowAt .i64 w' ad' ts) (_:RowAt .i64 w' bd ts),Calls Tryz.prog 83 #[.slice ad' m cap',.slice bd m cap''] w' λe w''=>e=.returned (.bool true)/\Below w'.heap.size w' w'':=λw' ad' cap' bd cap'' h1 h2 =>
     (zio ts ts m m HM.out HM.out ad' bd cap' cap'' (by omega) w' h1 h2).mono λe w'' q=>⟨by rw[q.1,decide_eq_true rfl],q.2.below⟩
    obtain⟨wb,wo,rfl,hwb⟩:∃ b o,ad=some ⟨b,o,none⟩/\h+1<=b:=by
     rcases HFT.out with e|⟨b,o,e,l⟩
     ·exact absurd (congrArg List.length e) (by rw[HM.out];exact λq=>by simp at q;omega)
     ·exact⟨b,o,e,l⟩
    go_wp2_with (first
     |(go_at_call 46;(with_reducible refine CL1.mono ?_);rintro e w3 ⟨u,rfl,own,b3⟩;obtain⟨tb,tc,rfl,htb,_,hr,_,_⟩:=zax own HM.out m1;have K3:=za b3;have HR3:=za hr;have HRT3:=za (HRT.out.below b3);have FI3:=za (HFI.out.below b3);clear own hr b3)
     |(go_at_call 83;(with_reducible refine(CE _ _ _ _ _ (HR3.out.below (zg _ _)) (HRT3.out.below (zg _ _))).mono ?_);rintro e w4 ⟨rfl,b4⟩;have g0:=cb b4 (b:=w3.heap.size) (o:=0) (v:=.int .i64 f) (by simp) (by simp);have g1:=cb b4 (b:=w3.heap.size) (o:=1) (v:=.slice (some ⟨tb,0,none⟩) m tc) (by simp) (by simp);have FI4:=za ((FI3.out.below (zg _ (.cells #[.int .i64 f,.slice (some ⟨tb,0,none⟩) m tc] 103))).below b4);have HRT4:=za ((HRT3.out.below (zg _ (.cells #[.int .i64 f,.slice (some ⟨tb,0,none⟩) m tc] 103))).below b4);have K4:=za (bt (ba K3.out (.cells #[.int .i64 f,.slice (some ⟨tb,0,none⟩) m tc] 103)) b4);obtain⟨⟨va,ka⟩,fa⟩:=FI4.out.1 (k*2) (by omega);obtain⟨⟨vb,kb⟩,fb'⟩:=FI4.out.1 (k*2+1) (by omega)))
    have PUT:=za (FI4.out.put hlt (d:=f-lo) (wc:=cp) (m:=m) (by rw[HE.out]) (by rw[HE.out];exact HM.out) (by rw[HE.out];exact HRT4.out) (by omega) (by omega));have GR:=(zn w4 h (k*2) (.int .i64 (f-lo))).trans (zn _ h (k*2+1) (.slice (some ⟨wb,wo,none⟩) m cp));have NR:=za (HRT4.out.grown GR (λe=>by have:=Option.some.inj e;omega));have NB:=za ((bt HB.out K4.out).grown GR (by have:=HB.out.size;have:=K4.out.size;omega) (λj hj=>Nat.le_of_eq (HHH.out.trans (Option.some.inj hj))))
    go_roundg (gk-1)
    case measure=>have:=HK.out;omega
    case rel=>exact⟨k+1,by have:=HK.out;omega,by go_num,⟨_,ts,m,cp,rfl,HM.out,NR.out,.inr ⟨wb,wo,rfl,by omega⟩,m2⟩,PUT.out,NB.out⟩
   ·have CE:∀ w' ad' cap' bd cap'' (_:RowAt .i64 w' ad' ts) (_:RowAt .i64 w' bd T),Calls Tryz.prog 83 #[.slice ad' m cap',.slice bd m0 cap''] w' λe w''=>e=.returned (.bool false)/\Below w'.heap.size w' w'':=λw' ad' cap' bd cap'' h1 h2 =>
     (zio ts T m m0 HM.out HT0.out ad' bd cap' cap'' (by omega) w' h1 h2).mono λe w'' q=>⟨by rw[q.1,decide_eq_false hE],q.2.below⟩
    clear hE
    go_wp2_with (first
     |(go_at_call 46;(with_reducible refine CL1.mono ?_);rintro e w3 ⟨u,rfl,own,b3⟩;obtain⟨tb,tc,rfl,htb,_,hr,_,_⟩:=zax own HM.out m1;have K3:=za b3;have HR3:=za hr;have HTB:=za htb;have HRT3:=za (HRT.out.below b3);have FI3:=za (HFI.out.below b3);clear own hr b3 htb)
     |(go_at_call 83;(with_reducible refine(CE _ _ _ _ _ (HR3.out.below (zg _ _)) (HRT3.out.below (zg _ _))).mono ?_);rintro e w4 ⟨rfl,b4⟩;have g0:=cb b4 (b:=w3.heap.size) (o:=0) (v:=.int .i64 f) (by simp) (by simp);have g1:=cb b4 (b:=w3.heap.size) (o:=1) (v:=.slice (some ⟨tb,0,none⟩) m tc) (by simp) (by simp);have FI4:=za ((FI3.out.below (zg _ (.cells #[.int .i64 f,.slice (some ⟨tb,0,none⟩) m tc] 103))).below b4);have HRT4:=za ((HR3.out.below (zg _ (.cells #[.int .i64 f,.slice (some ⟨tb,0,none⟩) m tc] 103))).below b4);have K4:=za (bt (ba K3.out (.cells #[.int .i64 f,.slice (some ⟨tb,0,none⟩) m tc] 103)) b4);obtain⟨⟨va,ka⟩,fa⟩:=FI4.out.1 (k*2) (by omega);obtain⟨⟨vb,kb⟩,fb'⟩:=FI4.out.1 (k*2+1) (by omega)))
    have hh1:h+1<=tb:=by
     obtain⟨⟨v9,k9⟩,_⟩:=HFI.out.1 0 (by omega);have:=HTB.out;have:=ze k9;omega
    have PUT:=za (FI4.out.put hlt (d:=f-lo) (wc:=tc) (m:=m) (by rw[HE.out]) (by rw[HE.out];exact HM.out) (by rw[HE.out];exact HRT4.out) (by omega) (by omega));have GR:=(zn w4 h (k*2) (.int .i64 (f-lo))).trans (zn _ h (k*2+1) (.slice (some ⟨tb,0,none⟩) m tc));have NR:=za (HRT4.out.grown GR (λe=>by have:=Option.some.inj e;omega));have NB:=za ((bt HB.out K4.out).grown GR (by have:=HB.out.size;have:=K4.out.size;omega) (λj hj=>Nat.le_of_eq (HHH.out.trans (Option.some.inj hj))))
    go_roundg (gk-1)
    case measure=>have:=HK.out;omega
    case rel=>exact⟨k+1,by have:=HK.out;omega,by go_num,⟨_,ts,m,tc,rfl,HM.out,NR.out,.inr ⟨tb,0,rfl,by omega⟩,m2⟩,PUT.out,NB.out⟩
  ·obtain rfl:N=k:=by have:=HK.out;omega
   clear hlt;go_wp2;go_ret;obtain⟨⟨v9,k9⟩,_⟩:=HFI.out.1 0 (by omega);exact⟨⟨h,rfl,hwh,ze k9,HFI.out.2⟩,bt B0.out HB.out⟩
theorem zur:(Tryz.prog.info? 146).map (λi=>(i.zero,i.size,i.bytes))=some (some (.pointer none),1,8):=by kernel_rfl
theorem zrB {m:Nat} (h1:1<=m) (h2:m<=65536):(zgP (m:Int)).toNat=m:=by unfold zgP;rw[if_neg (by omega),if_neg (by omega)];exact Int.toNat_natCast m
theorem zqz {m:Nat} (h2:m<=262144):(zfU (m:Int)).toNat=m:=by unfold zfU;rw[if_neg (by omega),if_neg (by omega)];exact Int.toNat_natCast m
theorem zlm {w:World} {base base' r:Nat} {S:Nat->Prop} {L:List (Int×List Int)} (h:∃ m v h D V,RMem w base r S L m v h D V) (hb:base'<=base):∃ m v h D V,RMem w base' r S L m v h D V:=by
 obtain⟨m,v,h,D,V,M⟩:=h;exact⟨m,v,h,D,V,{ M with nums:=M.nums.mono hb,rows:=λx hx=>(M.rows x hx).mono hb }⟩
set_option maxHeartbeats 4000000 in
set_option maxRecDepth 100000 in
theorem zuK {w:World} {mo wd:Nat} (m1:1<=mo) (m2:mo<=65536) (hw:wd<=262144) :
  Calls Tryz.prog 45 #[.int .i64 (mo:Int),.int .i64 (wd:Int)] w λe w'=>(∃ rb rc r R,e=.returned (.agg #[.slice (some ⟨rb,0,none⟩) 1 rc,.int .i64 0])/\RingAt w' w.heap.size r R mo wd []/\w'.cell? ⟨rb,0,none⟩=some (.pointer (some ⟨r,0,none⟩))/\w.heap.size<=rb/\rb<w'.heap.size/\¬R rb)/\Below w.heap.size w w':=by
 obtain⟨i0,hinf,hz0,hz1,hz2⟩:=info_parts zur;have CN:=λw'=>zuZ (mo:Int) (wd:Int) (by omega) (by omega) (by omega) (by omega) w'
 simp only[zrB m1 m2,zqz hw]at CN;obtain⟨W1,hW1⟩:∃ W1,w.alloc (.cells #[.slice none 0 0,.int .i64 0] 100)=W1:=⟨_,rfl⟩;have B1:=za (show Below w.heap.size w W1 by rw[←hW1];exact zg _ _);have R1:=za (show(W1.cell? ⟨w.heap.size,0,none⟩=some (.slice none 0 0)/\W1.cell? ⟨w.heap.size,1,none⟩=some (.int .i64 0))/\∀ o,W1.frozen? ⟨w.heap.size,o,none⟩=false by rw[←hW1];refine⟨⟨?_,?_⟩,λo=>?_⟩<;>simp);have Z1:=za (show w.heap.size<W1.heap.size by rw[←hW1];simp)
 go_enter Tryz.func45,Tryz.ntmps45
 go_upto_region 1 with fail
 clear hW1;go_wp2
 go_loopg [0,5] 1 (λg a l wr=>∃ k:Nat,k+g=1/\((k=0/\a=.int .i64 (mo:Int)/\l=.slice none 0 0/\W1=wr)\/(k=1/\a=.int .i64 0/\(∃ rb rc r R,l=.slice (some ⟨rb,0,none⟩) 1 rc/\RingAt wr W1.heap.size r R mo wd []/\wr.cell? ⟨rb,0,none⟩=some (.pointer (some ⟨r,0,none⟩))/\W1.heap.size<=rb/\¬R rb)/\Below W1.heap.size W1 wr)))
 case atStart=>exact⟨0,rfl,Or.inl ⟨rfl,rfl,rfl,rfl⟩⟩
 case round =>
  obtain⟨k,hk,h|h⟩:=hrel
  ·obtain⟨rfl,rfl,rfl,rfl⟩:=h;have mz:(mo:Int)-(mo:Int)=0:=by omega
   go_wp2_with (first
    |(go_at_call 84;(with_reducible refine(CN _).mono ?_);rintro e w2 ⟨r,R,rfl,rr,b2⟩;have HR2:=za rr;have K2:=za b2;clear rr b2)
    |(at_builtin;refine wpList_append_own _ rfl _ _ 98 rfl w2.heap.size 146 i0 (.pointer none) 1 8 Tryz.underlying98 hinf hz0 hz1 hz2 rfl (by decide) (.slice none 0 0) 0 [] rfl (World.ownsRow_nil _ _ _ _) ⟨w2.heap.size,0,none⟩ 1 1 [.pointer (some ⟨r,0,none⟩)] rfl rfl (zea _ _ _) (by intro u hu;simp at hu;subst hu;rfl) (by unfold maxLen;omega) (by omega) (by simp) ?_;intro v3 w3 own3 grow3 _;obtain⟨rb,rc,rfl,hrb,hrl,_,hcell⟩:=OwnRec.read (T:=146) (k:=1) (w:=w3) (base:=w2.heap.size) (v:=v3) (us:=[[.pointer (some ⟨r,0,none⟩)]]) ⟨own3,by intro u hu;simp at hu;subst hu;rfl⟩ (by simp);have cr:w3.cell? ⟨rb,0,none⟩=some (.pointer (some ⟨r,0,none⟩)):=hcell 0 (by simp) 0 (by decide);have K3:=za (bt (ba (Below.refl _ w2) (.cells #[.pointer (some ⟨r,0,none⟩)] 146)) (zoi grow3));have HR3:=za (HR2.out.below K3.out);have HRB:=za (show W1.heap.size<=rb/\¬R rb from⟨Nat.le_trans K2.out.size hrb,λe=>by have:=HR2.out.hi rb e;omega⟩);have HCR:=za cr;have CRM:=zhG HR3.out;clear own3 grow3 hcell hrb hrl cr)
    |(go_at_call 85;(with_reducible refine CRM.mono ?_);rintro e w4 ⟨rfl,rfl⟩))
   go_roundg 0
   case measure=>omega
   case rel=>exact⟨1,rfl,Or.inr ⟨rfl,by go_num,⟨rb,rc,r,R,rfl,HR3.out,HCR.out,HRB.out.1,HRB.out.2⟩,bt K2.out K3.out⟩⟩
  ·obtain⟨rfl,rfl,⟨rb,rc,r,R,rfl,rr,cr,hrb,hnr⟩,bb⟩:=h;have BB:=za bb;have HRR:=za rr;have HCR:=za cr;have HRB:=za (And.intro hrb hnr);have r0:=cb bb Z1.out R1.out.1.1;have r1:=cb bb Z1.out R1.out.1.2;have f0:=fb bb Z1.out (R1.out.2 0);have f1:=fb bb Z1.out (R1.out.2 1);clear rr cr hrb hnr bb;go_wp2;have g0:((wr.setCell ⟨w.heap.size,0,none⟩ (.slice (some ⟨rb,0,none⟩) 1 rc)).setCell ⟨w.heap.size,1,none⟩ (.int .i64 0)).cell? ⟨w.heap.size,0,none⟩=some (.slice (some ⟨rb,0,none⟩) 1 rc):=(zc (Or.inr (by decide))).trans (World.cell?_setCell_same' _ _ _ (by rw[r0];rfl));have g1:((wr.setCell ⟨w.heap.size,0,none⟩ (.slice (some ⟨rb,0,none⟩) 1 rc)).setCell ⟨w.heap.size,1,none⟩ (.int .i64 0)).cell? ⟨w.heap.size,1,none⟩=some (.int .i64 0):=World.cell?_setCell_same' _ _ _ (by rw[zc (Or.inr (by decide)),r1];rfl);have z1:=Z1.out;have lrb:=ze HCR.out;have OF:Off (λk=>k=w.heap.size) wr ((wr.setCell ⟨w.heap.size,0,none⟩ (.slice (some ⟨rb,0,none⟩) 1 rc)).setCell ⟨w.heap.size,1,none⟩ (.int .i64 0)):=((Off.refl (λk=>k=w.heap.size) wr).set (λ_=>rfl) _).set (λ_=>rfl) _;have RF:=HRR.out.off OF (λk hk e=>by have e2:k=w.heap.size:=e;have:=HRR.out.lo k hk;omega);exact bodyPost_ret (v:=.agg #[.slice (some ⟨rb,0,none⟩) 1 rc,.int .i64 0]) (by simp[results,Tryz.results45,go_sem,g0,g1]) rfl ⟨⟨rb,rc,r,R,rfl,⟨RF.ok,λk hk=>Nat.le_trans B1.out.size (RF.lo k hk),RF.hi,RF.sr,RF.c0,RF.c1,RF.fr,zlm RF.mem B1.out.size⟩,OF.cell (by have:=HRB.out.1;show ¬rb=w.heap.size;omega) HCR.out,by have:=HRB.out.1;omega,Nat.lt_of_lt_of_le lrb OF.size,HRB.out.2⟩,bs (bs (bt B1.out BB.out) (Nat.le_refl _) _) (Nat.le_refl _) _⟩
def zbd (a b n:Int):Bool:=decide (0<=a) && decide (1<=b) && decide (b<=n-a)
theorem zdU {a b n:Int}:zbd a b n=true↔0<=a/\1<=b/\b<=n-a:=by
 unfold zbd;simp only[Bool.and_eq_true,decide_eq_true_eq];exact and_assoc
set_option maxHeartbeats 2000000 in
theorem zk0 (a b n:Int) (a0 : -9223372036854775808<=a) (a1:a<=9223372036854775807) (n0:1<=n) (n1:n<=65536) (w:World) :
  Calls Tryz.prog 80 #[.int .i64 a,.int .i64 b,.int .i64 n] w λe w'=>e=.returned (.bool (zbd a b n))/\w=w':=by
 have hU:undef=Value.tuple #[]:=rfl;unfold zbd
 by_cases h1:0<=a
 ·rw[decide_eq_true h1,Bool.true_and]
  by_cases h2:1<=b
  ·rw[decide_eq_true h2,Bool.true_and]
   by_cases h3:b<=n-a
   ·rw[decide_eq_true h3]
    go_enter Tryz.func80,Tryz.ntmps80
    go_wp2;go_ret;exact⟨rfl,rfl⟩
   ·rw[decide_eq_false h3]
    go_enter Tryz.func80,Tryz.ntmps80
    go_wp2;go_ret;exact⟨rfl,rfl⟩
  ·rw[decide_eq_false h2,Bool.false_and]
   go_enter Tryz.func80,Tryz.ntmps80
   go_wp2;go_ret;exact⟨rfl,rfl⟩
 ·rw[decide_eq_false h1,Bool.false_and,Bool.false_and]
  go_enter Tryz.func80,Tryz.ntmps80
  go_wp2;go_ret;exact⟨rfl,rfl⟩
set_option maxHeartbeats 4000000 in
set_option maxRecDepth 100000 in
theorem ziW {w:World} {xv yv:Value} {nx ny:Int} {LX LY:List (Int×List Int)} (tx:Tab w xv nx LX) (ty:Tab w yv ny LY) (sb a b c d:Int) (a0 : -9223372036854775808<=a) (a1:a<=9223372036854775807) (b0 : -9223372036854775808<=b) (b1:b<=9223372036854775807) :
  Calls Tryz.prog 41 #[.agg #[.int .i64 a,.int .i64 b,.int .i64 c,.int .i64 d],.agg #[xv,yv,.int .i64 sb]] w λe w'=>e=.returned (.bool (zbd a c (LX.length:Int) && zbd b d (LY.length:Int)))/\Below w.heap.size w w':=by
 have lx:=tx.ok;have ly:=ty.ok;have CX:=λw' (b:Below w.heap.size w w')=>zdz (tx.below b)
 have CY:=λw' (b:Below w.heap.size w w')=>zdz (ty.below b)
 obtain⟨ax,rfl⟩:=tx.ptr;obtain⟨ay,rfl⟩:=ty.ptr;obtain⟨-,l0,l1,-,-⟩:=lx;obtain⟨-,m0,m1,-,-⟩:=ly;generalize LX.length=N at *;generalize LY.length=M at *;have CP:=λw=>zk0 a c (N:Int) a0 a1 (by omega) (by omega) w
 have CQ:=λw=>zk0 b d (M:Int) b0 b1 (by omega) (by omega) w
 have BW:=za (ba (zg w (.cells #[.int .i64 a,.int .i64 b,.int .i64 c,.int .i64 d] 41)) (.cells #[.pointer (some ax),.pointer (some ay),.int .i64 sb] 36));have hU:undef=Value.tuple #[]:=rfl;clear tx ty;generalize zbd b d (M:Int)=q at *
 cases hp:zbd a c (N:Int)
 ·rw[hp]at CP;rw[Bool.false_and]
  go_enter Tryz.func41,Tryz.ntmps41
  go_wp2_with fail
  go_quiet (first|(go_at_call 32;with_reducible exact zbR (CX _ (bdN BW.out _)))|(go_at_call 80;with_reducible exact zcg (CP _)))
  go_wp2;go_ret;exact⟨rfl,bdN BW.out _⟩
 ·rw[hp]at CP;rw[Bool.true_and]
  go_enter Tryz.func41,Tryz.ntmps41
  go_wp2_with fail
  go_quiet (first|(go_at_call 32;with_reducible exact zbR (CX _ (bdN BW.out _)))|(go_at_call 32;with_reducible exact zbR (CY _ (bdN BW.out _)))|(go_at_call 80;with_reducible exact zcg (CP _))|(go_at_call 80;with_reducible exact zcg (CQ _)))
  go_wp2;go_ret;exact⟨rfl,bdN BW.out _⟩
def Thawed (w:World) (g:Nat):Prop:=∀ j,w.frozen? ⟨g,j,none⟩=false
theorem Thawed.below {w w':World} {g:Nat} (h:Thawed w g) (hl:g<w.heap.size) (hb:Below w.heap.size w w'):Thawed w' g:=λj=>fb hb hl (h j)
theorem Thawed.grown {w w':World} {g:Nat} {r:Option Nat} (h:Thawed w g) (hl:g<w.heap.size) (hg:w.grownBy w' r) (hne:some g≠r):Thawed w' g:=λj=>(hg.frozen_far ⟨g,j,none⟩ hl hne).trans (h j)
theorem zpc {w:World} {a:Nat} {u:Value} (h:w.cell? ⟨a,0,none⟩=some u):∃ c e f,w.heap[a]?=some (.cells c e f)/\c.size≠0:=by
 unfold World.cell? at h;simp only at h
 split at h
 ·rename_i c e f hc
  refine⟨c,e,f,hc,?_⟩;intro e0;obtain rfl:=Array.size_eq_zero_iff.1 e0;simp at h
 ·cases h
theorem znZ {w:World} {a b:Nat} {u v:Value} (h:a≠b) (ha:w.cell? ⟨a,0,none⟩=some u) (hb:w.cell? ⟨b,0,none⟩=some v) (hf:Thawed w b) :
  (sameAddr ⟨a,0,none⟩ ⟨b,0,none⟩).run Tryz.prog w=.ok false w:=by
 obtain⟨c,e,f,hc,hn⟩:=zpc ha;obtain⟨c',e',f',hc',hn'⟩:=zpc hb;have f0:=hf 0;have f1:=hf c'.size
 simp[sameAddr,h,f0,f1,hc,hc',noView,viewAt,World.shape?,mayBeOne,stringish,hn,hn']
theorem zsD {w:World} {a b:Nat} {u v:Value} (h:a≠b) (ha:w.cell? ⟨a,0,none⟩=some u) (hb:w.cell? ⟨b,0,none⟩=some v) (hf:Thawed w b) :
  (binOp .eql 33 (.pointer (some ⟨a,0,none⟩)) (.pointer (some ⟨b,0,none⟩))).run Tryz.prog w=.ok (.bool false) w:=by
 have hp:Tryz.prog.underlying 33=some (.pointer 89):=by kernel_rfl
 have e5:(Tryz.prog.info? 89).map (λi=>i.size)=some 5:=by kernel_rfl
 obtain⟨i,hi,hz5⟩:=Option.map_eq_some_iff.1 e5;have hz:i.size≠0:=by omega
 have h:∀ d:Nat,(Op.equalIn (d+1) 33 (.pointer (some ⟨a,0,none⟩)) (.pointer (some ⟨b,0,none⟩))).run Tryz.prog w=.ok false w:=λd=>by
  simp[Op.equalIn,run_underlying hp,sizeOf,typeInfo,hi,hz,znZ h ha hb hf]
 simp only[binOp]
 simp[Op.equal,Op.maxDepth,h 9999]
theorem zmP {w:World} {g h:Nat} {I:Im} (H:ImgAt w g h I):w.cell? ⟨g,0,none⟩=some (.int .i64 I.iw):=by
 obtain⟨_,c,_⟩:=H;exact c
set_option maxHeartbeats 2000000 in
theorem zlw (a b c t:Int) (h:zbj a b c t=0) (w:World) :
  Calls Tryz.prog 33 #[.int .i64 a,.int .i64 b,.int .i64 c,.int .i64 t] w λe w'=>∃ g h,e=.returned (.tuple #[.pointer (some ⟨g,0,none⟩),.int .i64 0])/\w.heap.size<=g/\w.heap.size<=h/\ImgAt w' g h ⟨a,b,c,t,List.replicate (a*b*c).toNat 0⟩/\Thawed w' g/\Below w.heap.size w w':=by
 obtain⟨hok,hn,hl⟩:=zsN h;obtain⟨t0,t1,a0,a1,b0,b1,hc,hm⟩:=zfo h;obtain⟨m0,m1⟩:=zcQ a0 a1 b0 b1;obtain⟨p0,p1⟩:=zd8 a0 a1 b0 b1 hc;have CC:=zfl a b c t;rw[h]at CC;obtain⟨zs,MK,MO⟩:=zmy (a*b*c).toNat hl;have HMO:=za MO;have HOK:=za hok;rw[hn]at MK;have n0:1<=(a*b*c).toNat:=by omega
 generalize (a*b*c).toNat=n at *;have HL:=za (List.length_replicate (n:=n) (a:=(0:Int)));clear MO hok hn hc h
 go_enter Tryz.func33,Tryz.ntmps33
 go_wp2_with (go_at_call 61;(with_reducible refine(CC _).mono ?_);rintro e w1 ⟨rfl,rfl⟩)
 obtain⟨g,cp,hv,hg,hlt,hr,_,hz⟩:=zax (HMO.out w w.heap.size (Nat.le_refl _)) HL.out n0;simp only[Value.slice.injEq,Option.some.injEq,Addr.mk.injEq,and_true,true_and]at hv;obtain⟨rfl,rfl⟩:=hv;have hi:=ImgAt.new (T:=89) hr hz (by rw[HL.out];exact Nat.le_refl _) HOK.out;rw[HL.out]at hi;have HI:=za hi;clear hi hr hz;exact bodyPost_ret (v:=.tuple #[.pointer (some ⟨w.heap.size+1,0,none⟩),.int .i64 0]) (by simp[results,Tryz.results33,go_sem]) rfl ⟨w.heap.size+1,w.heap.size,rfl,by omega,Nat.le_refl _,by simpa using HI.out,(λj=>by simp),ba (zg _ _) _⟩
def goB (I O:Im) (S:Stg):Bool:=zaY I S && (decide (O.iw=(S.lx.length:Int)) && (decide (O.ih=(S.ly.length:Int)) && (decide (O.ic=I.ic) && decide (O.it=I.it))))
set_option maxHeartbeats 4000000 in
set_option maxRecDepth 100000 in
theorem ztt {w:World} {g h g2 h2:Nat} {I O:Im} {xv yv:Value} {S:Stg} (hk:OpK w) (H:ImgAt w g h I) (HO:ImgAt w g2 h2 O) (hne:g≠g2) (hf:Thawed w g2) (tx:Tab w xv S.fx S.lx) (ty:Tab w yv S.fy S.ly) :
  Calls Tryz.prog 40 #[.pointer (some ⟨g,0,none⟩),.pointer (some ⟨g2,0,none⟩),.agg #[xv,yv,.int .i64 S.sb]] w λe w'=>e=.returned (.bool (goB I O S))/\Below w.heap.size w w':=by
 have q1:∀ (a:Addr) (w:World),(binOp .eql 33 (.pointer (some a)) (.pointer none)).run Tryz.prog w=.ok (.bool false) w:=λa w=>by kernel_rfl
 have CS:=λw' (b:Below w.heap.size w w')=>zge (zaW _ _ hk b) (H.below b) (tx.below b) (ty.below b)
 have CX:=λw' (b:Below w.heap.size w w')=>zdz (tx.below b)
 have CY:=λw' (b:Below w.heap.size w w')=>zdz (ty.below b)
 have CW:=λw' (b:Below w.heap.size w w')=>zdu (HO.below b)
 have CH:=λw' (b:Below w.heap.size w w')=>zcO (HO.below b)
 have CC:=λw' (b:Below w.heap.size w w')=>zaF (HO.below b)
 have CI:=λw' (b:Below w.heap.size w w')=>zaF (H.below b)
 have CM:=λw' (b:Below w.heap.size w w')=>zcW (HO.below b)
 have CN:=λw' (b:Below w.heap.size w w')=>zcW (H.below b)
 obtain⟨ax,rfl⟩:=tx.ptr;obtain⟨ay,rfl⟩:=ty.ptr;have BW:=za (zg w (.cells #[.pointer (some ax),.pointer (some ay),.int .i64 S.sb] 36));have S0:=za (S3.new w 36 (.pointer (some ax)) (.pointer (some ay)) (.int .i64 S.sb));have q3:=zsD hne (zmP (H.below BW.out)) (zmP (HO.below BW.out)) (hf.below HO.lt.1 BW.out);have hU:undef=Value.tuple #[]:=rfl;unfold goB;generalize zaY I S=bs at *;generalize S.lx.length=N at *;generalize S.ly.length=M at *;generalize S.sb=sb at *;generalize O.iw=ow at *;generalize O.ih=oh at *;generalize O.ic=oc at *;generalize O.it=ot at *;generalize I.ic=ic at *;generalize I.it=it at *;clear hk H HO hf tx ty
 cases bs
 ·rw[Bool.false_and]
  go_enter Tryz.func40,Tryz.ntmps40
  go_wp2_with (go_at_call 79;(with_reducible refine(CS _ BW.out).mono ?_);rintro e w1 ⟨rfl,b1⟩;have B1:=za (bt BW.out b1);clear b1)
  go_ret;exact⟨rfl,B1.out⟩
 ·rw[Bool.true_and]
  by_cases h1:ow=(N:Int)
  ·subst h1;rw[decide_eq_true rfl,Bool.true_and];have e1:((N:Int) != (N:Int))=false:=by simp
   by_cases h2':oh=(M:Int)
   ·subst h2';rw[decide_eq_true rfl,Bool.true_and];have e2:((M:Int) != (M:Int))=false:=by simp
    by_cases h3:oc=ic
    ·subst h3;rw[decide_eq_true rfl,Bool.true_and];have e3:(oc == oc)=true:=by simp
     by_cases h4:ot=it
     ·subst h4;rw[decide_eq_true rfl];have e4:(ot == ot)=true:=by simp
      go_enter Tryz.func40,Tryz.ntmps40
      go_wp2_with (go_at_call 79;(with_reducible refine(CS _ BW.out).mono ?_);rintro e w1 ⟨rfl,b1⟩;have B1:=za (bt BW.out b1);obtain⟨⟨s0,_⟩,⟨s1,_⟩,_⟩:=S0.out.below b1;clear b1)
      go_quiet (first|(go_at_call 24;with_reducible exact zcg (CW _ (bdN B1.out _)))|(go_at_call 25;with_reducible exact zcg (CH _ (bdN B1.out _)))|(go_at_call 32;with_reducible exact zbR (CX _ (bdN B1.out _)))|(go_at_call 32;with_reducible exact zbR (CY _ (bdN B1.out _))))
      go_wp2_with (first
       |(go_at_call 17;(with_reducible refine(CC _ (bdN B1.out _)).mono ?_);rintro e w2 ⟨rfl,rfl⟩)
       |(go_at_call 17;(with_reducible refine(CI _ (bdN B1.out _)).mono ?_);rintro e w2 ⟨rfl,rfl⟩)
       |(go_at_call 23;(with_reducible refine(CM _ (bdN B1.out _)).mono ?_);rintro e w2 ⟨rfl,rfl⟩)
       |(go_at_call 23;(with_reducible refine(CN _ (bdN B1.out _)).mono ?_);rintro e w2 ⟨rfl,rfl⟩))
      go_ret;exact⟨rfl,bdN B1.out _⟩
     ·rw[decide_eq_false h4];have e4:(ot == it)=false:=beq_eq_false_iff_ne.2 h4
      go_enter Tryz.func40,Tryz.ntmps40
      go_wp2_with (go_at_call 79;(with_reducible refine(CS _ BW.out).mono ?_);rintro e w1 ⟨rfl,b1⟩;have B1:=za (bt BW.out b1);obtain⟨⟨s0,_⟩,⟨s1,_⟩,_⟩:=S0.out.below b1;clear b1)
      go_quiet (first|(go_at_call 24;with_reducible exact zcg (CW _ (bdN B1.out _)))|(go_at_call 25;with_reducible exact zcg (CH _ (bdN B1.out _)))|(go_at_call 32;with_reducible exact zbR (CX _ (bdN B1.out _)))|(go_at_call 32;with_reducible exact zbR (CY _ (bdN B1.out _))))
      go_wp2_with (first
       |(go_at_call 17;(with_reducible refine(CC _ (bdN B1.out _)).mono ?_);rintro e w2 ⟨rfl,rfl⟩)
       |(go_at_call 17;(with_reducible refine(CI _ (bdN B1.out _)).mono ?_);rintro e w2 ⟨rfl,rfl⟩)
       |(go_at_call 23;(with_reducible refine(CM _ (bdN B1.out _)).mono ?_);rintro e w2 ⟨rfl,rfl⟩)
       |(go_at_call 23;(with_reducible refine(CN _ (bdN B1.out _)).mono ?_);rintro e w2 ⟨rfl,rfl⟩))
      go_ret;exact⟨rfl,bdN B1.out _⟩
    ·rw[decide_eq_false h3,Bool.false_and];have e3:(oc == ic)=false:=beq_eq_false_iff_ne.2 h3
     go_enter Tryz.func40,Tryz.ntmps40
     go_wp2_with (go_at_call 79;(with_reducible refine(CS _ BW.out).mono ?_);rintro e w1 ⟨rfl,b1⟩;have B1:=za (bt BW.out b1);obtain⟨⟨s0,_⟩,⟨s1,_⟩,_⟩:=S0.out.below b1;clear b1)
     go_quiet (first|(go_at_call 24;with_reducible exact zcg (CW _ (bdN B1.out _)))|(go_at_call 25;with_reducible exact zcg (CH _ (bdN B1.out _)))|(go_at_call 32;with_reducible exact zbR (CX _ (bdN B1.out _)))|(go_at_call 32;with_reducible exact zbR (CY _ (bdN B1.out _))))
     go_wp2_with (first
      |(go_at_call 17;(with_reducible refine(CC _ (bdN B1.out _)).mono ?_);rintro e w2 ⟨rfl,rfl⟩)
      |(go_at_call 17;(with_reducible refine(CI _ (bdN B1.out _)).mono ?_);rintro e w2 ⟨rfl,rfl⟩))
     go_ret;exact⟨rfl,bdN B1.out _⟩
   ·rw[decide_eq_false h2',Bool.false_and];have e2:(oh != (M:Int))=true:=bne_iff_ne.2 h2'
    go_enter Tryz.func40,Tryz.ntmps40
    go_wp2_with (go_at_call 79;(with_reducible refine(CS _ BW.out).mono ?_);rintro e w1 ⟨rfl,b1⟩;have B1:=za (bt BW.out b1);obtain⟨⟨s0,_⟩,⟨s1,_⟩,_⟩:=S0.out.below b1;clear b1)
    go_quiet (first|(go_at_call 24;with_reducible exact zcg (CW _ (bdN B1.out _)))|(go_at_call 25;with_reducible exact zcg (CH _ (bdN B1.out _)))|(go_at_call 32;with_reducible exact zbR (CX _ (bdN B1.out _)))|(go_at_call 32;with_reducible exact zbR (CY _ (bdN B1.out _))))
    go_wp2;go_ret;exact⟨rfl,bdN B1.out _⟩
  ·rw[decide_eq_false h1,Bool.false_and];have e1:(ow != (N:Int))=true:=bne_iff_ne.2 h1
   go_enter Tryz.func40,Tryz.ntmps40
   go_wp2_with (go_at_call 79;(with_reducible refine(CS _ BW.out).mono ?_);rintro e w1 ⟨rfl,b1⟩;have B1:=za (bt BW.out b1);obtain⟨⟨s0,_⟩,⟨s1,_⟩,_⟩:=S0.out.below b1;clear b1)
   go_quiet (first|(go_at_call 24;with_reducible exact zcg (CW _ (bdN B1.out _)))|(go_at_call 32;with_reducible exact zbR (CX _ (bdN B1.out _))))
   go_wp2;go_ret;exact⟨rfl,bdN B1.out _⟩
def S13 (w:World) (SB TB:Nat) (x y z:Value) (t:Til):Prop:=(w.cell? ⟨SB,0,none⟩=some x/\w.cell? ⟨SB,1,none⟩=some y/\w.cell? ⟨SB,2,none⟩=some z)/\P10 w TB t
theorem S13.below {w w':World} {SB TB:Nat} {x y z:Value} {t:Til} (h:S13 w SB TB x y z t) (hb:Below w.heap.size w w'):S13 w' SB TB x y z t:=by
 obtain⟨⟨a,b,d⟩,p⟩:=h;exact⟨⟨cb hb (ze a) a,cb hb (ze b) b,cb hb (ze d) d⟩,p.below hb⟩
theorem zwL {w0 wn w5 w6 w9 w10 W:World} {h2 pb pc cbk cc rb rc r lb lc B base9 M:Nat} {R:Nat->Prop} {c:JobC} {O:Im} {T:TypeId} (C:LawC w0 wn h2 c O) (HO:ImgAt wn c.g2 h2 O) (hb:Below w0.heap.size w0 wn) (hM:c.W*c.C=M)
  (pb0:wn.heap.size<=pb) (pb1:pb<w5.heap.size) (hpl:RowAt .i64 w5 (some ⟨pb,0,none⟩) (zB c.S.sb c.lo c.I.iw c.cnt)) (b5:Below w5.heap.size w5 w6)
  (hB:wn.heap.size<=B) (cb0:B<cbk) (cb1:cbk<w6.heap.size) (hcol:∀ i,i<c.W->ColJ w6 B cbk c.x0 c.lo c.S.lx i) (b6:w6.heap.size<=base9) (b69:Below w6.heap.size w6 w9)
  (hr:RingAt w9 base9 r R c.mo M []) (rcl:w9.cell? ⟨rb,0,none⟩=some (.pointer (some ⟨r,0,none⟩))) (rb0:base9<=rb) (rb1:rb<w9.heap.size) (rnr:¬R rb) (b9:Below w9.heap.size w9 w10)
  (lb0:w9.heap.size<=lb) (lb1:lb<w10.heap.size) (hl:RowAt .i64 w10 (some ⟨lb,0,none⟩) (zf c.S.ly c.y0).2) (bn:Below wn.heap.size wn w10)
  (hW:W=w10.alloc (.cells #[.pointer (some ⟨c.g,0,none⟩),.pointer (some ⟨c.g2,0,none⟩),.pointer (some c.ax),.pointer (some c.ay),.int .i64 c.S.sb,.int .i64 c.tn,.int .i64 (c.x0:Int),.int .i64 (c.y0:Int),.int .i64 (c.W:Int),.int .i64 (c.H:Int),.int .i64 c.tfx,.int .i64 c.tfy,.int .i64 c.tcx,.int .i64 c.tcy,.int .i64 c.trg,.slice (some ⟨pb,0,none⟩) c.cnt pc,.slice (some ⟨cbk,0,none⟩) c.W cc,.slice (some ⟨rb,0,none⟩) 1 rc,.int .i64 0,.int .i64 (zf c.S.ly c.y0).1,.int .i64 (c.y0:Int),.int .i64 (zf c.S.ly c.y0).1,.slice (some ⟨lb,0,none⟩) (zf c.S.ly c.y0).2.length lc] T)) :
  LawT w0 wn W w10.heap.size h2 c O (zaB (zf c.S.ly c.y0).1 (c.y0:Int) (c.ls c.y0 c.H)):=by
 have K:=C.job;have yh:=K.yh;have h1:=K.h1;have xw:=K.xw;have s5:=b5.size;have s6:=b69.size;have s9:=b9.size;have sn:=hb.size;have b610:=bt b69 b9;have b510:=bt b5 b610;have hcells:∀ o v,#[Value.pointer (some ⟨c.g,0,none⟩),.pointer (some ⟨c.g2,0,none⟩),.pointer (some c.ax),.pointer (some c.ay),.int .i64 c.S.sb,.int .i64 c.tn,.int .i64 (c.x0:Int),.int .i64 (c.y0:Int),.int .i64 (c.W:Int),.int .i64 (c.H:Int),.int .i64 c.tfx,.int .i64 c.tfy,.int .i64 c.tcx,.int .i64 c.tcy,.int .i64 c.trg,.slice (some ⟨pb,0,none⟩) c.cnt pc,.slice (some ⟨cbk,0,none⟩) c.W cc,.slice (some ⟨rb,0,none⟩) 1 rc,.int .i64 0,.int .i64 (zf c.S.ly c.y0).1,.int .i64 (c.y0:Int),.int .i64 (zf c.S.ly c.y0).1,.slice (some ⟨lb,0,none⟩) (zf c.S.ly c.y0).2.length lc][o]?=some v->W.cell? ⟨w10.heap.size,o,none⟩=some v:=λo v hv=>by
  rw[hW];simp only[World.cell?,World.alloc,Array.getElem?_push_size];exact hv
 have BW:Below w10.heap.size w10 W:=by rw[hW];exact zg _ _
 have sW:W.heap.size=w10.heap.size+1:=by rw[hW];simp
 have c19:W.cell? ⟨w10.heap.size,19,none⟩=some (.int .i64 (zf c.S.ly c.y0).1):=hcells 19 _ rfl;have RR:RingAt W w0.heap.size r R c.mo (c.W*c.C) (c.rows []):=by
  have q:=(hr.below b9).below BW;rw[hM,show c.rows []=[] by unfold JobC.rows zch;simp];exact⟨q.ok,λk hk=>Nat.le_trans (by omega) (q.lo k hk),q.hi,q.sr,q.c0,q.c1,q.fr,zlm q.mem (by omega)⟩
 have hst:=K.lines (y:=c.y0) (n:=c.H) yh;obtain⟨H0,hH⟩:∃ H0,c.H=H0+1:=⟨c.H-1,by omega⟩;have lsE:c.ls c.y0 c.H=((zf c.S.ly c.y0).1,(zf c.S.ly c.y0).2.length) :: c.ls (c.y0+1) H0:=by rw[hH];exact zcJ (by omega)
 have st:JobG c.mo [] (zf c.S.ly c.y0).1 (c.ls c.y0 c.H):=by
  rw[lsE]at hst ⊢;exact zkb hst.1 hst.2
 have rlo:∀ k,R k->base9<=k:=hr.lo;have rhi:∀ k,R k->k<w9.heap.size:=hr.hi;refine⟨λk=>wn.heap.size<=k/\k<w10.heap.size/\¬R k,R,[],(zf c.S.ly c.y0).1,c.y0,c.H,⟨(hb.trans (bn.mono sn)).trans (BW.mono (by omega)),by omega,λk hk=>by omega,λk hk=>by omega,λe=>by omega,λe=>by have:=rhi _ e;omega,λk hk=>hk.2.2,hcells 18 _ rfl,c19,hcells 20 _ rfl,hcells 21 _ rfl,⟨some ⟨lb,0,none⟩,lc,hcells 22 _ rfl,hl.below BW,.inr ⟨lb,0,rfl,by omega,lb1,λe=>by have:=rhi _ e;omega⟩⟩,st,rfl,by simp,⟨pb,pc,cbk,cc,rb,rc,r,⟨hcells 0 _ rfl,hcells 1 _ rfl,hcells 2 _ rfl,hcells 3 _ rfl,hcells 4 _ rfl,hcells 5 _ rfl,hcells 6 _ rfl,hcells 7 _ rfl,hcells 8 _ rfl,hcells 9 _ rfl,hcells 10 _ rfl,hcells 11 _ rfl,hcells 12 _ rfl,hcells 13 _ rfl,hcells 14 _ rfl,hcells 15 _ rfl,hcells 16 _ rfl,hcells 17 _ rfl,λo=>by rw[hW];simp,?_,λi hi=>?_,?_,⟨pb0,by omega,λe=>by have:=rlo _ e;omega⟩,⟨by omega,by omega,λe=>by have:=rlo _ e;omega⟩,⟨by omega,by omega,rnr⟩⟩,RR⟩⟩,?_,?_,λk hk=>?_,Nat.le_refl _,rfl⟩
 ·rw[K.suit.1];exact(hpl.below b510).below BW
 ·obtain⟨wb,wo,wc,d0,d1,rr,wb0,wb1⟩:=hcol i hi;have lb':=(K.tx.ok.1 (c.x0+i) (by omega)).2.2.1;have lt6:wb<w6.heap.size:=ze (rr.at (show 0<_ by omega));refine⟨some ⟨wb,wo,none⟩,wc,cb BW (Nat.lt_of_lt_of_le cb1 b610.size) (cb b610 cb1 d0),cb BW (Nat.lt_of_lt_of_le cb1 b610.size) (cb b610 cb1 d1),(rr.below b610).below BW,λa e=>?_⟩;obtain rfl:=Option.some.inj e;exact⟨by show wn.heap.size<=wb;omega,by show wb<_;omega,λe=>by have:=rlo _ e;have e2:base9<=wb:=this;omega⟩
 ·exact cb BW (by omega) (cb b9 rb1 rcl)
 ·rw[Nat.sub_self,zgr];exact(HO.below bn).below BW
 ·exact(zZ bn _).trans (zZ BW _)
 ·rcases hk with q|q|q
  ·exact q.1
  ·have:=rlo k q;omega
  ·have:=bn.size;omega
set_option maxHeartbeats 16000000 in
set_option maxRecDepth 100000 in
theorem zhv {w0 wn:World} {h2:Nat} {c:JobC} {O:Im} (C:LawC w0 wn h2 c O) (HO:ImgAt wn c.g2 h2 O) (hne:c.g≠c.g2) (hf:Thawed wn c.g2) (hb:Below w0.heap.size w0 wn) :
  Calls Tryz.prog 11 #[.pointer (some ⟨c.g,0,none⟩),.pointer (some ⟨c.g2,0,none⟩),.agg #[.pointer (some c.ax),.pointer (some c.ay),.int .i64 c.S.sb],zg6 c.til] wn λe w'=>∃ jb,e=.returned (.tuple #[.pointer (some ⟨jb,0,none⟩),.int .i64 0])/\LawT w0 wn w' jb h2 c O (zaB (zf c.S.ly c.y0).1 (c.y0:Int) (c.ls c.y0 c.H))/\Below wn.heap.size wn w':=by
 have K:=C.job.below hb;obtain⟨k0,k1,k2,k3,k4,k5⟩:=K.cnt_in;obtain⟨ef,eg,s0,s1⟩:=K.suit;obtain⟨C1,C3,hCn⟩:=K.c1;have xw:=K.xw;have yh:=K.yh;have w1:=K.w1;have h1:=K.h1;have lx:=K.tx.ok.2.2.1;have ly:=K.ty.ok.2.2.1;have hgo:goB c.I O c.S=true:=by
  unfold goB;rw[K.suits,C.ow,C.oh,C.oc,C.ot]
  simp
 have CT:=λw' (b:Below wn.heap.size wn w')=>ztt (zaW _ _ K.opk b) (K.img.below b) (HO.below b) hne (hf.below HO.lt.1 b) (K.tx.below b) (K.ty.below b)
 rw[hgo]at CT;have CW:=λw' (b:Below wn.heap.size wn w')=>ziW (K.tx.below b) (K.ty.below b) c.S.sb (c.x0:Int) (c.y0:Int) (c.W:Int) (c.H:Int) (by omega) (by omega) (by omega) (by omega)
 rw[show zbd (c.x0:Int) (c.W:Int) (c.S.lx.length:Int)=true from zdU.2 (by omega),show zbd (c.y0:Int) (c.H:Int) (c.S.ly.length:Int)=true from zdU.2 (by omega),Bool.true_and]at CW;have CR:=λw' (b:Below wn.heap.size wn w')=>zfb (K.tx.below b) (c.x0:Int) ((c.x0:Int)+(c.W:Int)) (p:=c.x0) (q:=c.x0+c.W-1) (by omega) (by omega) (by omega)
 have eR:(zf c.S.lx (c.x0+c.W-1)).1+((zf c.S.lx (c.x0+c.W-1)).2.length:Int)-(zf c.S.lx c.x0).1=(c.cnt:Int):=by rw[k0];rfl
 have eL:(zf c.S.lx c.x0).1=c.lo:=rfl;rw[eR,eL]at CR;have CI:=λw' (b:Below wn.heap.size wn w')=>zdu (K.img.below b)
 have CC:=λw' (b:Below wn.heap.size wn w')=>zaF (K.img.below b)
 rw[K.ch]at CC;have CS:=λw'=>zly c.S.sb c.lo c.I.iw c.cnt k1 (by omega) (by omega) (by omega) w'
 have CO:=λw' (b:Below wn.heap.size wn w')=>zvE (n:=c.S.fx) (lo:=c.lo) (oy:=(c.y0:Int)) (oh:=(c.H:Int)) (K.tx.below b) xw w1 (λi hi=>by have:=K.span hi;omega)
 have CM:=λw' (b:Below wn.heap.size wn w')=>zqc (K.ty.below b)
 rw[K.most]at CM;have CF:=λw'=>zuK (w:=w') (mo:=c.mo) (wd:=c.W*c.C) K.mo1 K.mo2 (Nat.le_trans (zef (show c.W<=65536 by omega) C3) (by decide))
 have CL:=λw' (b:Below wn.heap.size wn w')=>zeH (K.ty.below b) c.y0 (by omega)
 have WM:IntKind.i64.wrap ((c.W:Int)*(c.C:Int))=((c.W*c.C:Nat):Int):=by
  rw[←Int.natCast_mul];have:=zef (show c.W<=65536 by omega) C3;exact zaN (by omega) (by omega)
 obtain⟨M,hM⟩:∃ M,c.W*c.C=M:=⟨_,rfl⟩;rw[hM]at WM;simp only[hM]at CF;have HM:=za hM;clear hM;have WS:IntKind.i64.wrap ((c.x0:Int)+(c.W:Int))=(c.x0:Int)+(c.W:Int):=zaN (by omega) (by omega);obtain⟨W1,hW1⟩:∃ W1,(wn.alloc (.cells #[.pointer (some c.ax),.pointer (some c.ay),.int .i64 c.S.sb] 36)).alloc (.cells #[.int .i64 c.tn,.int .i64 (c.x0:Int),.int .i64 (c.y0:Int),.int .i64 (c.W:Int),.int .i64 (c.H:Int),.int .i64 c.tfx,.int .i64 c.tfy,.int .i64 c.tcx,.int .i64 c.tcy,.int .i64 c.trg] 43)=W1:=⟨_,rfl⟩;have B1:=za (show Below wn.heap.size wn W1 by rw[←hW1];exact ba (zg _ _) _);have X1:=za (show S13 W1 wn.heap.size (wn.heap.size+1) (.pointer (some c.ax)) (.pointer (some c.ay)) (.int .i64 c.S.sb) c.til by
  rw[←hW1];refine⟨by refine⟨?_,?_,?_⟩<;>simp,?_⟩;have q:=P10.new (wn.alloc (.cells #[.pointer (some c.ax),.pointer (some c.ay),.int .i64 c.S.sb] 36)) 43 c.til;rw[show(wn.alloc (.cells #[.pointer (some c.ax),.pointer (some c.ay),.int .i64 c.S.sb] 36)).heap.size=wn.heap.size+1 by simp]at q;exact q)
 have JN:=za (fun(w5 w6 w9 w10 W:World) (pb pc cbk cc rb rc r lb lc B base9 M:Nat) (R:Nat->Prop) (T:TypeId)=>zwL (w5:=w5) (w6:=w6) (w9:=w9) (w10:=w10) (W:=W) (pb:=pb) (pc:=pc) (cbk:=cbk) (cc:=cc) (rb:=rb) (rc:=rc) (r:=r) (lb:=lb) (lc:=lc) (B:=B) (base9:=base9) (M:=M) (R:=R) (T:=T) C HO hb);have k1':=k1;have l1':=(K.ty.ok.1 c.y0 (by omega)).2.2.1;unfold zg6 JobC.til;simp only;clear K C HO hne hf hb k0 k1 k3 k4 k5 ef eg s0 s1 hgo eR eL hCn
 go_enter Tryz.func11,Tryz.ntmps11
 go_upto_region 1 with fail
 clear hW1;obtain⟨⟨a0,a1,a2⟩,p0,p1,p2,p3,p4,p5,p6,p7,p8,p9⟩:=X1.out;unfold JobC.til at p0 p1 p2 p3 p4 p5 p6 p7 p8 p9;simp only at p0 p1 p2 p3 p4 p5 p6 p7 p8 p9
 go_upto_region 3 with(go_at_call 40;(with_reducible refine(CT _ B1.out).mono ?_);rintro e w2 ⟨rfl,b2⟩;have B2:=za (bt B1.out b2);have X2:=za (X1.out.below b2);clear b2)
 clear a0 a1 a2 p0 p1 p2 p3 p4 p5 p6 p7 p8 p9;obtain⟨⟨a0,a1,a2⟩,p0,p1,p2,p3,p4,p5,p6,p7,p8,p9⟩:=X2.out;unfold JobC.til at p0 p1 p2 p3 p4 p5 p6 p7 p8 p9;simp only at p0 p1 p2 p3 p4 p5 p6 p7 p8 p9
 go_upto_region 5 with(go_at_call 41;(with_reducible refine(CW _ B2.out).mono ?_);rintro e w3 ⟨rfl,b3⟩;have B3:=za (bt B2.out b3);have X3:=za (X2.out.below b3);clear b3)
 clear a0 a1 a2 p0 p1 p2 p3 p4 p5 p6 p7 p8 p9;obtain⟨⟨a0,a1,a2⟩,p0,p1,p2,p3,p4,p5,p6,p7,p8,p9⟩:=X3.out;unfold JobC.til at p0 p1 p2 p3 p4 p5 p6 p7 p8 p9;simp only at p0 p1 p2 p3 p4 p5 p6 p7 p8 p9
 go_upto_region 6 with(go_at_call 42;(with_reducible refine(CR _ B3.out).mono ?_);rintro e w4 ⟨rfl,b4⟩;have B4:=za (bt B3.out b4);have X4:=za (X3.out.below b4);clear b4)
 have HS:=za (fun(w':World) (q:S13 w' wn.heap.size (wn.heap.size+1) (.pointer (some c.ax)) (.pointer (some c.ay)) (.int .i64 c.S.sb) c.til)=>show(w'.cell? ⟨wn.heap.size,0,none⟩=some (.pointer (some c.ax))/\w'.cell? ⟨wn.heap.size,1,none⟩=some (.pointer (some c.ay))/\w'.cell? ⟨wn.heap.size,2,none⟩=some (.int .i64 c.S.sb))/\w'.cell? ⟨wn.heap.size+1,0,none⟩=some (.int .i64 c.tn)/\w'.cell? ⟨wn.heap.size+1,1,none⟩=some (.int .i64 (c.x0:Int))/\w'.cell? ⟨wn.heap.size+1,2,none⟩=some (.int .i64 (c.y0:Int))/\w'.cell? ⟨wn.heap.size+1,3,none⟩=some (.int .i64 (c.W:Int))/\w'.cell? ⟨wn.heap.size+1,4,none⟩=some (.int .i64 (c.H:Int))/\w'.cell? ⟨wn.heap.size+1,5,none⟩=some (.int .i64 c.tfx)/\w'.cell? ⟨wn.heap.size+1,6,none⟩=some (.int .i64 c.tfy)/\w'.cell? ⟨wn.heap.size+1,7,none⟩=some (.int .i64 c.tcx)/\w'.cell? ⟨wn.heap.size+1,8,none⟩=some (.int .i64 c.tcy)/\w'.cell? ⟨wn.heap.size+1,9,none⟩=some (.int .i64 c.trg) from q);clear a0 a1 a2 p0 p1 p2 p3 p4 p5 p6 p7 p8 p9 CT CW CR;have x0:=HS.out _ X4.out
 go_region_held3 (λw'=>(w'.cell? ⟨wn.heap.size,0,none⟩=some (.pointer (some c.ax))/\w'.cell? ⟨wn.heap.size,1,none⟩=some (.pointer (some c.ay))/\w'.cell? ⟨wn.heap.size,2,none⟩=some (.int .i64 c.S.sb))/\w'.cell? ⟨wn.heap.size+1,0,none⟩=some (.int .i64 c.tn)/\w'.cell? ⟨wn.heap.size+1,1,none⟩=some (.int .i64 (c.x0:Int))/\w'.cell? ⟨wn.heap.size+1,2,none⟩=some (.int .i64 (c.y0:Int))/\w'.cell? ⟨wn.heap.size+1,3,none⟩=some (.int .i64 (c.W:Int))/\w'.cell? ⟨wn.heap.size+1,4,none⟩=some (.int .i64 (c.H:Int))/\w'.cell? ⟨wn.heap.size+1,5,none⟩=some (.int .i64 c.tfx)/\w'.cell? ⟨wn.heap.size+1,6,none⟩=some (.int .i64 c.tfy)/\w'.cell? ⟨wn.heap.size+1,7,none⟩=some (.int .i64 c.tcx)/\w'.cell? ⟨wn.heap.size+1,8,none⟩=some (.int .i64 c.tcy)/\w'.cell? ⟨wn.heap.size+1,9,none⟩=some (.int .i64 c.trg)) (first|with_reducible assumption|(with_reducible exact x0)|go_keep)
  (first
   |(go_at_call 24;(with_reducible refine(CI _ (bt B4.out bch)).mono ?_);rintro e w5 ⟨rfl,rfl⟩)
   |(go_at_call 43;(with_reducible refine(CS _).mono ?_);rintro e w5 ⟨v5,rfl,own5,b5⟩;obtain⟨pb,pc,rfl,pb0,pb1,prow,_,_⟩:=zax own5 (zaw _ _ _ _) k1';have K5:=za (bt (show Below w4.heap.size w4 _ from bch) b5);have y5:=HS.out _ (X4.out.below K5.out);have P5:=za (And.intro pb0 (And.intro pb1 prow));clear own5 b5 pb0 pb1 prow)
   |(go_at_call 44;(with_reducible refine(CO _ (bt B4.out (bt K5.out bch))).mono ?_);rintro e w6 ⟨⟨cbk,rfl,cb0,cb1,ccol⟩,b6⟩;have K6:=za (bt K5.out (bt (show Below w5.heap.size w5 _ from bch) b6));have K56:=za (bt (show Below w5.heap.size w5 _ from bch) b6);have y6:=HS.out _ (X4.out.below K6.out);have P6:=za (And.intro cb0 (And.intro cb1 ccol));clear cb0 cb1 ccol b6)
   |(go_at_call 16;(with_reducible refine(CM _ (bt B4.out (bt K6.out bch))).mono ?_);rintro e w7 ⟨rfl,d7⟩;have K7:=za (bt K6.out (bt (show Below w6.heap.size w6 _ from bch) d7.below));have K67:=za (bt (show Below w6.heap.size w6 _ from bch) d7.below);have y7:=HS.out _ (X4.out.below K7.out);clear d7)
   |(go_at_call 17;(with_reducible refine(CC _ (bt B4.out (bt K7.out bch))).mono ?_);rintro e w8 ⟨rfl,rfl⟩)
   |(go_at_call 45;(with_reducible refine(CF _).mono ?_);rintro e w9 ⟨⟨rb,rc,r,R,rfl,rr,rcl,rb0,rb1,rnr⟩,b9⟩;have K9:=za (bt K7.out (bt (show Below w7.heap.size w7 _ from bch) b9));have K69:=za (And.intro (show w6.heap.size<=_ from(bt K67.out (show Below w7.heap.size w7 _ from bch)).size) (bt K67.out (bt (show Below w7.heap.size w7 _ from bch) b9)));have y9:=HS.out _ (X4.out.below K9.out);have P9:=za (And.intro rr (And.intro rcl (And.intro rb0 (And.intro rb1 rnr))));clear rr rcl rb0 rb1 rnr b9)
   |(go_at_call 46;(with_reducible refine(CL _ (bt B4.out (bt K9.out bch))).mono ?_);rintro e w10 ⟨u,rfl,own10,b10⟩;obtain⟨lb,lc,rfl,lb0,lb1,lrow,_,_⟩:=zax own10 rfl l1';have K10:=za (bt K9.out (bt (show Below w9.heap.size w9 _ from bch) b10));have K910:=za (bt (show Below w9.heap.size w9 _ from bch) b10);have y10:=HS.out _ (X4.out.below K10.out);have P10':=za (And.intro lb0 (And.intro lb1 lrow));clear own10 b10 lb0 lb1 lrow))
 all_goals
  have FIN:=za (JN.out w5 w6 w9 w10 _ pb pc cbk c.W rb rc r lb lc _ _ M R 106 HM.out (Nat.le_trans B4.out.size P5.out.1) P5.out.2.1 P5.out.2.2 K56.out (Nat.le_trans B4.out.size K5.out.size) P6.out.1 P6.out.2.1 P6.out.2.2 K69.out.1 K69.out.2 P9.out.1 P9.out.2.1 P9.out.2.2.1 P9.out.2.2.2.1 P9.out.2.2.2.2 K910.out P10'.out.1 P10'.out.2.1 P10'.out.2.2 (bt B4.out K10.out) rfl);clear x0 y5 y6 y7 y9 y10;go_wp2;exact bodyPost_ret (v:=.tuple #[.pointer (some ⟨w10.heap.size,0,none⟩),.int .i64 0]) (by simp[results,Tryz.results11,go_sem]) rfl ⟨w10.heap.size,rfl,FIN.out,ba (bt B4.out K10.out) _⟩
end Go.Proofs.YtlodkoimdoeopaaGreatDoor
