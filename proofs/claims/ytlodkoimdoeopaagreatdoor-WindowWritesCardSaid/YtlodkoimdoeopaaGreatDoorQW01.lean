/- Parts, joined. -/
import Derived.Test.YtlodkoimdoeopaaGreatDoorQ31
import Derived.Test.YtlodkoimdoeopaaGreatDoorQ26
import Derived.Test.YtlodkoimdoeopaaGreatDoorQ32
import Derived.Test.YtlodkoimdoeopaaGreatDoorQ11
import Derived.Test.YtlodkoimdoeopaaGreatDoorQ29
import Derived.Deep.CutBlock
namespace Go.Proofs.YtlodkoimdoeopaaGreatDoor
open Go.RowKit
def LawD (w0 wn w:World) (jb h2:Nat) (D:Nat->Prop) (c:JobC) (O:Im) (T:List Mv):Prop :=
 ∃ F R G E y n,JobAt w0 w jb F R c G E y n/\ImgAt w c.g2 h2 (zac O c.I c.S c.x0 c.W c.y0 (y-c.y0) 0)/\wn.grownBy w (some h2)/\(∀ k,F k\/R k\/k=jb->D k)/\(∀ k,D k->wn.heap.size<=k/\k<w.heap.size)/\c.y0<=y/\zaB E (y:Int) (c.ls y n)=T
theorem LawD.law {w0 wn w:World} {jb h2:Nat} {D:Nat->Prop} {c:JobC} {O:Im} {T:List Mv} (L:LawD w0 wn w jb h2 D c O T):LawT w0 wn w jb h2 c O T:=by
 obtain⟨F,R,G,E,y,n,J,H,g,a,d,y0,e⟩:=L;exact⟨F,R,G,E,y,n,J,H,g,λk q=>(d k (a k q)).1,y0,e⟩
theorem LawD.hi {w0 wn w:World} {jb h2:Nat} {D:Nat->Prop} {c:JobC} {O:Im} {T:List Mv} (L:LawD w0 wn w jb h2 D c O T):∀ k,D k->wn.heap.size<=k/\k<w.heap.size:=by
 obtain⟨F,R,G,E,y,n,J,H,g,a,d,y0,e⟩:=L;exact d
theorem LawD.below {w0 wn w w':World} {jb h2:Nat} {D:Nat->Prop} {c:JobC} {O:Im} {T:List Mv} (L:LawD w0 wn w jb h2 D c O T) (hb:Below w.heap.size w w'):LawD w0 wn w' jb h2 D c O T:=by
 obtain⟨F,R,G,E,y,n,J,H,g,a,d,y0,e⟩:=L;exact⟨F,R,G,E,y,n,J.below hb,H.below hb,g.trans (zZ hb _),a,λk q=>⟨(d k q).1,Nat.lt_of_lt_of_le (d k q).2 hb.size⟩,y0,e⟩
theorem LawT.own {w0 wn w:World} {jb h2:Nat} {c:JobC} {O:Im} {T:List Mv} (L:LawT w0 wn w jb h2 c O T):∃ D,LawD w0 wn w jb h2 D c O T:=by
 obtain⟨F,R,G,E,y,n,J,H,g,a,y0,e⟩:=L;refine⟨λk=>F k\/R k\/k=jb,F,R,G,E,y,n,J,H,g,λk q=>q,λk q=>⟨a k q,?_⟩,y0,e⟩;obtain⟨pb,pc,cbk,cc,rb,rc,r,fx,RR⟩:=J.mem;rcases q with q|q|q
 ·exact J.fhi k q
 ·exact RR.hi k q
 ·have:=J.lt;omega
theorem zpN {w0 w':World} {c:JobC} (K:JobK w0 c) (hb:Below w0.heap.size w0 w') :
  Calls Tryz.prog 19 #[.agg #[.pointer (some c.ax),.pointer (some c.ay),.int .i64 c.S.sb],.agg #[.int .i64 0,.int .i64 (c.x0:Int),.int .i64 (c.y0:Int),.int .i64 (c.W:Int),.int .i64 (c.H:Int),.int .i64 0,.int .i64 0,.int .i64 0,.int .i64 0,.int .i64 0]] w' λe w''=>e=.returned (.int .i64 (c.steps.length:Int))/\Below w'.heap.size w' w'':=by
 have K':=K.below hb;have xw:=K.xw;have yh:=K.yh;have w1:=K.w1;have h1:=K.h1;have lx:=K.tx.ok.2.2.1;have ly:=K.ty.ok.2.2.1;refine(zpL K'.tx K'.ty c.S.sb 0 (c.x0:Int) (c.y0:Int) (c.W:Int) (c.H:Int) 0 0 0 0 0 (by omega) (by omega) (by omega) (by omega)).mono ?_;have hI:(zbd (c.x0:Int) (c.W:Int) (c.S.lx.length:Int) && zbd (c.y0:Int) (c.H:Int) (c.S.ly.length:Int))=true:=by
  rw[Bool.and_eq_true];exact⟨zdU.2 (by omega),zdU.2 (by omega)⟩
 rintro e w2 ⟨⟨hI',rfl⟩|⟨_,a,H,ea,eH,ha,hH,rfl⟩,b⟩
 ·rw[hI]at hI'
  cases hI'
 ·obtain rfl:c.y0=a:=Int.ofNat_inj.1 ea;obtain rfl:c.H=H:=Int.ofNat_inj.1 eH;exact⟨by rw[zlM K],b⟩
def zdX (A C i k c:Nat) (p:Nat):Bool:=decide (p / C % A<i\/p / C % A=i/\(p / C / A<k\/p / C / A=k/\p % C<c))
theorem zdC {A C i k c p:Nat}:zdX A C i k c p=true↔(p / C % A<i\/p / C % A=i/\(p / C / A<k\/p / C / A=k/\p % C<c)):=by unfold zdX;exact decide_eq_true_iff
theorem zoj {A C p:Nat}:zdX A C 0 0 0 p=false:=by
 unfold zdX;refine decide_eq_false ?_;generalize p / C % A=a;generalize p / C / A=b;generalize p % C=d;omega
theorem zsn {A C i k c p:Nat} (hc:c<C) (hi:i<A):p=(k*A+i)*C+c↔(p / C % A=i/\p / C / A=k/\p % C=c):=by
 constructor
 ·rintro rfl;obtain⟨e1,e2⟩:=zfz (i:=k*A+i) hc;rw[e1,e2];obtain⟨e3,e4⟩:=zfz (i:=k) hi;exact⟨e4,e3,rfl⟩
 ·rintro ⟨h1,h2,h3⟩;have a:=Nat.div_add_mod p C;have b:=Nat.div_add_mod (p / C) A;rw[h1,h2,Nat.mul_comm]at b;rw[h3,←b,Nat.mul_comm]at a;exact a.symm
theorem zpX {A C i k c p:Nat} (hc:c<C) (hi:i<A):(zdX A C i k c p || p == (k*A+i)*C+c)=zdX A C i k (c+1) p:=by
 rw[Bool.eq_iff_iff,Bool.or_eq_true,zdC,zdC,beq_iff_eq,zsn hc hi];generalize p / C % A=a at *;generalize p / C / A=b at *;generalize p % C=d at *;omega
theorem ztB {A C i k p:Nat} (hC:1<=C):zdX A C i k C p=zdX A C i (k+1) 0 p:=by
 have:=Nat.mod_lt p hC;rw[Bool.eq_iff_iff,zdC,zdC];generalize p / C % A=a at *;generalize p / C / A=b at *;generalize p % C=d at *;omega
theorem ztu {A B C i p:Nat} (hp:p / C / A<B):zdX A C i B 0 p=zdX A C (i+1) 0 0 p:=by
 rw[Bool.eq_iff_iff,zdC,zdC];generalize p / C % A=a at *;generalize p / C / A=b at *;generalize p % C=d at *;omega
theorem zrO {A C p:Nat} (hA:1<=A):zdX A C A 0 0 p=true:=by
 have:=Nat.mod_lt (p / C) hA;rw[zdC];exact .inl this
def zdk (O:Im) (A C:Nat) (v:Int) (i k c:Nat):Im:=zbI O (λ_=>v) (zdX A C i k c)
theorem zou (O:Im) (A C:Nat) (v:Int):zdk O A C v 0 0 0=O:=zjZ (λ_ _=>zoj)
theorem zpV {O:Im} {A C:Nat} {v:Int} {i k c:Nat} (hw:O.iw=(A:Int)) (hc:O.ic=(C:Int)) (hc2:c<C) (hi:i<A) (hs:zbp O (i:Int) (k:Int) (c:Int) v=true) :
  zcs (zdk O A C v i k c) (i:Int) (k:Int) (c:Int) v=zdk O A C v i k (c+1):=by
 have hp:(zL O (i:Int) (k:Int) (c:Int)).toNat=(k*A+i)*C+c:=by
  unfold zL zcc;rw[hw,hc,←Int.natCast_mul,←Int.natCast_add,←Int.natCast_mul,←Int.natCast_add];exact Int.toNat_natCast _
 unfold zdk;rw[zk2 hs hp rfl];exact zb3 (λp _=>zpX hc2 hi) (λ_ _ _=>rfl)
theorem zrC {O:Im} {A C:Nat} {v:Int} {i k:Nat} (hC:1<=C):zdk O A C v i k C=zdk O A C v i (k+1) 0:=zb3 (λ_ _=>ztB hC) (λ_ _ _=>rfl)
theorem zte {O:Im} {A B C:Nat} {v:Int} {i:Nat} (hA:1<=A) (hC:1<=C) (hl:O.il.length=A*B*C):zdk O A C v i B 0=zdk O A C v (i+1) 0 0 :=
 zb3 (λp hp=>ztu (by
  rw[hl]at hp;rw[Nat.div_lt_iff_lt_mul hA,Nat.div_lt_iff_lt_mul hC,Nat.mul_comm B A];exact hp)) (λ_ _ _=>rfl)
def zeZ (O:Im) (v:Int):Im:=zbI O (λ_=>v) (λ_=>true)
theorem zsi {O:Im} {A C:Nat} {v:Int} (hA:1<=A):zdk O A C v A 0 0=zeZ O v:=zb3 (λ_ _=>zrO hA) (λ_ _ _=>rfl)
theorem zuP {O:Im} {v:Int} (hO:zay O) {x y z:Int} (h:zbl O x y z=true):zbe (zeZ O v) x y z=v:=by
 unfold zeZ;rw[zkS hO h,if_pos rfl]
theorem zu5 {O:Im} {v:Int} (hO:zay O) (v0:0<=v) (v1:v<=O.it):zay (zeZ O v):=zuJ hO (λ_ _ _=>⟨v0,v1⟩)
theorem zwB {O I:Im} {S:Stg} {x0 W y0 H x y c:Nat} {v:Int} (hO:zay O) (hw:O.iw=(S.lx.length:Int)) (hh:O.ih=(S.ly.length:Int)) (hc:O.ic=I.ic) (hCn:(I.ic.toNat:Int)=I.ic) (hx:x<S.lx.length) (hy:y<S.ly.length) (h3:c<I.ic.toNat) (v0:0<=v) (v1:v<=O.it) :
  zbe (zac (zeZ O v) I S x0 W y0 H 0) (x:Int) (y:Int) (c:Int)=if x0<=x/\x<x0+W/\y0<=y/\y<y0+H then zaM (zbA I S x y (c:Int)) I.it else v:=by
 have hF:zbl O (x:Int) (y:Int) (c:Int)=true:=by
  unfold zbl;rw[decide_eq_true_iff,hw,hh,hc,←hCn];omega
 have hp:(zL (zeZ O v) (x:Int) (y:Int) (c:Int)).toNat=(y*S.lx.length+x)*I.ic.toNat+c:=by
  show(zL O (x:Int) (y:Int) (c:Int)).toNat=_
  unfold zL zcc;rw[hw,hc,←hCn,←Int.natCast_mul,←Int.natCast_add,←Int.natCast_mul,←Int.natCast_add];exact Int.toNat_natCast _
 unfold zac;rw[zkS (zu5 hO v0 v1) (show zbl (zeZ O v) (x:Int) (y:Int) (c:Int)=true from hF),hp,zbY,Bool.or_false,znD h3 hx,zuP hO hF,zgA h3 hx];simp only[decide_eq_true_eq]
theorem zvm {I:Im} {S:Stg} {x y c:Nat} (hCn:(I.ic.toNat:Int)=I.ic) (hx:x<S.lx.length) (hy:y<S.ly.length) (h3:c<I.ic.toNat) :
  zbe (zI I S) (x:Int) (y:Int) (c:Int)=zaM (zbA I S x y (c:Int)) I.it:=by
 have hF:zbl (zI I S) (x:Int) (y:Int) (c:Int)=true:=by
  unfold zbl zI;simp only;rw[decide_eq_true_iff];omega
 unfold zbe;rw[if_pos hF];have hp:(zL (zI I S) (x:Int) (y:Int) (c:Int)).toNat=(y*S.lx.length+x)*I.ic.toNat+c:=by
  unfold zL zcc zI;simp only;rw[←hCn,←Int.natCast_mul,←Int.natCast_add,←Int.natCast_mul,←Int.natCast_add];exact Int.toNat_natCast _
 rw[hp,←zgA (I:=I) (S:=S) (y:=y) h3 hx];have hl:(y*S.lx.length+x)*I.ic.toNat+c<S.ly.length*S.lx.length*I.ic.toNat:=by
  have a:y*S.lx.length+x<S.ly.length*S.lx.length:=by
   have:(y+1)*S.lx.length<=S.ly.length*S.lx.length:=Nat.mul_le_mul_right _ hy;rw[Nat.add_mul,Nat.one_mul]at this;omega
  have:(y*S.lx.length+x+1)*I.ic.toNat<=S.ly.length*S.lx.length*I.ic.toNat:=Nat.mul_le_mul_right _ a;rw[Nat.add_mul,Nat.one_mul]at this;omega
 show((List.range (S.ly.length*S.lx.length*I.ic.toNat)).map (zbs I S)).getD _ 0=_
 rw[List.getD_eq_getElem?_getD,List.getElem?_map,List.getElem?_range hl];rfl
theorem zoA {w:World} {g h:Nat} {I:Im} (H:ImgAt w g h I) (x y z v:Int) (v0:0<=v) (v1:v<=65535):Calls Tryz.prog 26 #[.pointer (some ⟨g,0,none⟩),.int .i64 x,.int .i64 y,.int .i64 z,.int .u16 v] w λe w'=>e=.returned (.bool (zbp I x y z v))/\ImgAt w' g h (zcs I x y z v)/\w.grownBy w' (some h):=by
 cases hs:zbp I x y z v with
 |true=>exact zeT H x y z v v0 v1 hs
 |false =>
  have e:zcs I x y z v=I:=by unfold zcs;rw[if_neg (by rw[hs];decide)]
  rw[e];refine(zjJ H x y z v v0 v1 hs).mono ?_;rintro e w' ⟨rfl,rfl⟩;exact⟨rfl,H,World.grownBy.refl _ _⟩
set_option maxHeartbeats 400000 in
theorem zm5 {w:World} {g h:Nat} {I:Im} (H:ImgAt w g h I):Calls Tryz.prog 27 #[.pointer (some ⟨g,0,none⟩)] w λe w'=>∃ b cap,e=.returned (imV I b I.il.length cap)/\RowAt .u16 w' (some ⟨b,0,none⟩) I.il/\w.heap.size<=b/\b<w'.heap.size/\I.il.length<=cap/\Below w.heap.size w w':=by
 unfold imV;have HI:=za (H.below (zg w (.cells #[.int .i64 0,.int .i64 0,.int .i64 0,.int .i64 0,.slice none 0 0] 70)));have CW:=zdu HI.out;have CH:=zcO HI.out;have CC:=zaF HI.out;have CT:=zcW HI.out;have CS:=ziR HI.out;obtain⟨l0,l1⟩:=zbr H.ok;obtain⟨n,hn⟩:∃ n,I.il.length=n:=⟨_,rfl⟩;have HN:=za hn;rw[hn]at l0 l1 ⊢;clear H HI hn;generalize I.iw=a at *;generalize I.ih=a2 at *;generalize I.ic=a3 at *;generalize I.it=a4 at *
 go_enter Tryz.func27,Tryz.ntmps27
 go_wp2_with (first
  |(go_at_call 24;(with_reducible refine CW.mono ?_);rintro e w1 ⟨rfl,rfl⟩)
  |(go_at_call 25;(with_reducible refine CH.mono ?_);rintro e w1 ⟨rfl,rfl⟩)
  |(go_at_call 17;(with_reducible refine CC.mono ?_);rintro e w1 ⟨rfl,rfl⟩)
  |(go_at_call 23;(with_reducible refine CT.mono ?_);rintro e w1 ⟨rfl,rfl⟩)
  |(go_at_call 56;(with_reducible refine CS.mono ?_);rintro e w1 ⟨v,rfl,own,b1⟩;obtain⟨b',cp,rfl,hb0,hb1,hr2,hcp,_⟩:=zax own HN.out l0;have HR2:=za hr2;have c0:=cb b1 (b:=w.heap.size) (o:=0) (v:=.int .i64 0) (by simp) (by simp);have y0:=fb b1 (b:=w.heap.size) (o:=0) (by simp) (by simp);have c1:=cb b1 (b:=w.heap.size) (o:=1) (v:=.int .i64 0) (by simp) (by simp);have y1:=fb b1 (b:=w.heap.size) (o:=1) (by simp) (by simp);have c2:=cb b1 (b:=w.heap.size) (o:=2) (v:=.int .i64 0) (by simp) (by simp);have y2:=fb b1 (b:=w.heap.size) (o:=2) (by simp) (by simp);have c3:=cb b1 (b:=w.heap.size) (o:=3) (v:=.int .i64 0) (by simp) (by simp);have y3:=fb b1 (b:=w.heap.size) (o:=3) (by simp) (by simp);have c4:=cb b1 (b:=w.heap.size) (o:=4) (v:=.slice none 0 0) (by simp) (by simp);have y4:=fb b1 (b:=w.heap.size) (o:=4) (by simp) (by simp)))
 have g0:b'≠w.heap.size:=by simp at hb0;omega
 have g1:w.heap.size<=b':=by simp at hb0;omega
 have ne:some b'≠some w.heap.size:=λe=>g0 (Option.some.inj e)
 have HF:=za (((((HR2.out.grown (zn _ w.heap.size 0 (.int .i64 a)) ne).grown (zn _ w.heap.size 1 (.int .i64 a2)) ne).grown (zn _ w.heap.size 2 (.int .i64 a3)) ne).grown (zn _ w.heap.size 3 (.int .i64 a4)) ne).grown (zn _ w.heap.size 4 (.slice (some ⟨b',0,none⟩) n cp)) ne);have HB:=za (bs (bs (bs (bs (bs (bt (zg w _) b1) (b:=w.heap.size) (o:=0) (Nat.le_refl _) (.int .i64 a)) (b:=w.heap.size) (o:=1) (Nat.le_refl _) (.int .i64 a2)) (b:=w.heap.size) (o:=2) (Nat.le_refl _) (.int .i64 a3)) (b:=w.heap.size) (o:=3) (Nat.le_refl _) (.int .i64 a4)) (b:=w.heap.size) (o:=4) (Nat.le_refl _) (.slice (some ⟨b',0,none⟩) n cp));have sz:=HB.out.size;have HZ:=za (show b'<w1.heap.size from hb1);clear CS HR2 hr2 own b1 hb0 hb1 sz;exact bodyPost_ret (v:=.agg #[.int .i64 a,.int .i64 a2,.int .i64 a3,.int .i64 a4,.slice (some ⟨b',0,none⟩) n cp]) (by simp[results,Tryz.results27,go_sem,c0,c1,c2,c3,c4]) rfl ⟨b',cp,rfl,HF.out,g1,(by simp[World.setCell];exact HZ.out),hcp,HB.out⟩
set_option maxHeartbeats 2000000 in
theorem zpE (I J:Im) (b b' cap cap':Nat) (l1:I.il.length<=268435456) (w:World) (hr:RowAt .u16 w (some ⟨b,0,none⟩) I.il) (hr':RowAt .u16 w (some ⟨b',0,none⟩) J.il):Calls Tryz.prog 31 #[imV I b I.il.length cap,imV J b' J.il.length cap'] w λe w'=>e=.returned (.bool (zhH I J))/\Below w.heap.size w w':=by
 unfold imV;have CE:=λw hr hr'=>zrR I.il J.il _ _ rfl rfl (some ⟨b,0,none⟩) (some ⟨b',0,none⟩) cap cap' l1 w hr hr'
 have HR:=za hr;have HR':=za hr'
 by_cases hs:I.iw=J.iw/\I.ih=J.ih/\I.ic=J.ic/\I.it=J.it
 ·rw[zj1 hs];obtain⟨e0,e1,e2,e3⟩:=hs;rw[←e0,←e1,←e2,←e3];generalize decide (I.il=J.il)=r at *;generalize I.il.length=n at *;generalize J.il.length=m at *;generalize I.iw=a at *;generalize I.ih=a2 at *;generalize I.ic=a3 at *;generalize I.it=a4 at *;have q0:(a == a)=true:=beq_self_eq_true a;have q1:(a2 == a2)=true:=beq_self_eq_true a2;have q2:(a3 == a3)=true:=beq_self_eq_true a3;have q3:(a4 == a4)=true:=beq_self_eq_true a4;clear e0 e1 e2 e3 hr hr' l1
  go_enter Tryz.func31,Tryz.ntmps31
  go_wp2_with (go_at_call 60;(with_reducible refine(CE _ (HR.out.below (ba (zg _ _) _)) (HR'.out.below (ba (zg _ _) _))).mono ?_);rintro e w1 ⟨rfl,b1⟩)
  go_ret;exact⟨rfl,bt (ba (zg _ _) _) b1⟩
 ·rw[zk5 hs];generalize I.il.length=n at *;generalize J.il.length=m at *;generalize I.iw=a at *;generalize I.ih=a2 at *;generalize I.ic=a3 at *;generalize I.it=a4 at *;generalize J.iw=c at *;generalize J.ih=c2 at *;generalize J.ic=c3 at *;generalize J.it=c4 at *;clear hr hr' HR HR' CE l1
  by_cases e0:a=c
  ·subst e0;have q0:(a == a)=true:=beq_self_eq_true a
   by_cases e1:a2=c2
   ·subst e1;have q1:(a2 == a2)=true:=beq_self_eq_true a2
    by_cases e2:a3=c3
    ·subst e2;have q2:(a3 == a3)=true:=beq_self_eq_true a3;have q3:(a4 == c4)=false:=beq_eq_false_iff_ne.2 (λe=>hs ⟨rfl,rfl,rfl,e⟩);clear hs
     go_enter Tryz.func31,Tryz.ntmps31
     go_wp2;go_ret;exact⟨rfl,ba (zg _ _) _⟩
    ·have q2:(a3 == c3)=false:=beq_eq_false_iff_ne.2 e2;clear hs e2
     go_enter Tryz.func31,Tryz.ntmps31
     go_wp2;go_ret;exact⟨rfl,ba (zg _ _) _⟩
   ·have q1:(a2 == c2)=false:=beq_eq_false_iff_ne.2 e1;clear hs e1
    go_enter Tryz.func31,Tryz.ntmps31
    go_wp2;go_ret;exact⟨rfl,ba (zg _ _) _⟩
  ·have q0:(a == c)=false:=beq_eq_false_iff_ne.2 e0;clear hs e0
   go_enter Tryz.func31,Tryz.ntmps31
   go_wp2;go_ret;exact⟨rfl,ba (zg _ _) _⟩
end Go.Proofs.YtlodkoimdoeopaaGreatDoor
