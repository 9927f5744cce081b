/- Parts, joined. -/
import Derived.Test.YtlodkoimdoeopaaGreatDoorP34
import Derived.Test.YtlodkoimdoeopaaGreatDoorP28
import Derived.Test.YtlodkoimdoeopaaGreatDoorP10
import Derived.Deep.RegionHeld3
import Derived.Deep.Onto
namespace Go.Proofs.YtlodkoimdoeopaaGreatDoor
open Go.RowKit
set_option maxHeartbeats 8000000 in
set_option maxRecDepth 100000 in
theorem zhm {w:World} {ax ay:Addr} {nx ny:Int} {LX LY:List (Int×List Int)} (tx:Tab w (.pointer (some ax)) nx LX) (ty:Tab w (.pointer (some ay)) ny LY) (sb:Int) (tn a b d h t5 t6 t7 t8 t9:Int) (a0 : -9223372036854775808<=a) (a1:a<=9223372036854775807) (b0 : -9223372036854775808<=b) (b1:b<=9223372036854775807) :
  Calls Tryz.prog 19 #[.agg #[.pointer (some ax),.pointer (some ay),.int .i64 sb],.agg #[.int .i64 tn,.int .i64 a,.int .i64 b,.int .i64 d,.int .i64 h,.int .i64 t5,.int .i64 t6,.int .i64 t7,.int .i64 t8,.int .i64 t9]] w λe w' =>
   ((zZ a d (LX.length:Int) && zZ b h (LY.length:Int))=false/\e=.returned (.int .i64 0)\/(zZ a d (LX.length:Int) && zZ b h (LY.length:Int))=true/\∃ y0 H:Nat,b=(y0:Int)/\h=(H:Int)/\y0+H<=LY.length/\1<=H/\e=.returned (.int .i64 ((ze LY (y0+H-1)).1+((ze LY (y0+H-1)).2.length:Int)-(ze LY y0).1+(H:Int))))/\Below w.heap.size w w':=by
 have ly:=ty.ok.2.2.1;have lok:=ty.ok.1;have CW:=λw' (k:Below w.heap.size w w')=>zeZ (tx.below k) (ty.below k) sb a b d h a0 a1 b0 b1
 have CR:=λw' (k:Below w.heap.size w w') (y0 H:Nat) (hy:y0+H<=LY.length) (hH:1<=H)=>zdV (ty.below k) (y0:Int) ((y0:Int)+(H:Int)) (p:=y0) (q:=y0+H-1) (by omega) (by omega) (by omega)
 obtain⟨W1,hW1⟩:∃ W1,(w.alloc (.cells #[.pointer (some ax),.pointer (some ay),.int .i64 sb] 36)).alloc (.cells #[.int .i64 tn,.int .i64 a,.int .i64 b,.int .i64 d,.int .i64 h,.int .i64 t5,.int .i64 t6,.int .i64 t7,.int .i64 t8,.int .i64 t9] 43)=W1:=⟨_,rfl⟩;have B1:=za (show Below w.heap.size w W1 by rw[←hW1];exact ba (zg _ _) _);have X1:=za (show S13 W1 w.heap.size (w.heap.size+1) (.pointer (some ax)) (.pointer (some ay)) (.int .i64 sb) ⟨tn,a,b,d,h,t5,t6,t7,t8,t9⟩ by
  rw[←hW1];refine⟨by refine⟨?_,?_,?_⟩<;>simp,?_⟩;have q:=P10.new (w.alloc (.cells #[.pointer (some ax),.pointer (some ay),.int .i64 sb] 36)) 43 ⟨tn,a,b,d,h,t5,t6,t7,t8,t9⟩;rw[show(w.alloc (.cells #[.pointer (some ax),.pointer (some ay),.int .i64 sb] 36)).heap.size=w.heap.size+1 by simp]at q;exact q)
 have HW1:=za hW1;have q1:∀ (a:Addr) (w:World),(binOp .eql 34 (.pointer (some a)) (.pointer none)).run Tryz.prog w=.ok (.bool false) w:=λa w=>by kernel_rfl
 clear hW1
 cases hI:(zZ a d (LX.length:Int) && zZ b h (LY.length:Int)) with
 |false =>
  rw[hI]at CW;clear CR tx ty lok ly hI
  go_enter Tryz.func19,Tryz.ntmps19
  go_upto_region 1 with fail
  rw[HW1.out];obtain⟨⟨z0,z1,z2⟩,p0,p1,p2,p3,p4,p5,p6,p7,p8,p9⟩:=X1.out;simp only at p0 p1 p2 p3 p4 p5 p6 p7 p8 p9
  go_wp2_with (go_at_call 41;(with_reducible refine(CW _ B1.out).mono ?_);rintro e w2 ⟨rfl,b2⟩;have B2:=za (bt B1.out b2))
  go_ret;exact⟨.inl ⟨trivial,rfl⟩,B2.out⟩
 |true =>
  rw[hI]at CW;rw[Bool.and_eq_true]at hI;have i2:=zbk.1 hI.2;obtain⟨y0,rfl⟩:∃ y0:Nat,b=(y0:Int):=⟨b.toNat,by omega⟩;obtain⟨H,rfl⟩:∃ H:Nat,h=(H:Int):=⟨h.toNat,by omega⟩;have CR2:=λw' k=>CR w' k y0 H (by omega) (by omega)
  have l1:=lok y0 (by omega);have l2:=lok (y0+H-1) (by omega);have e1:IntKind.i64.wrap ((y0:Int)+(H:Int))=(y0:Int)+(H:Int):=za3 (by omega) (by omega);have e2:IntKind.i64.wrap ((ze LY (y0+H-1)).1+((ze LY (y0+H-1)).2.length:Int)-(ze LY y0).1+(H:Int))=(ze LY (y0+H-1)).1+((ze LY (y0+H-1)).2.length:Int)-(ze LY y0).1+(H:Int):=za3 (by unfold zfY at l1 l2;omega) (by unfold zfY at l1 l2;omega);have hyH:y0+H<=LY.length:=by omega
  have hH:1<=H:=by omega
  obtain⟨M,hM⟩:∃ M,(ze LY (y0+H-1)).1+((ze LY (y0+H-1)).2.length:Int)-(ze LY y0).1=M:=⟨_,rfl⟩;rw[hM]at e2 CR2;have HM:=za hM;have HY:=za (And.intro hyH hH);clear CR tx ty lok ly hI l1 l2 i2 hM hyH hH
  go_enter Tryz.func19,Tryz.ntmps19
  go_upto_region 1 with fail
  rw[HW1.out];obtain⟨⟨z0,z1,z2⟩,p0,p1,p2,p3,p4,p5,p6,p7,p8,p9⟩:=X1.out;simp only at p0 p1 p2 p3 p4 p5 p6 p7 p8 p9
  go_upto_region 3 with(go_at_call 41;(with_reducible refine(CW _ B1.out).mono ?_);rintro e w2 ⟨rfl,b2⟩;have B2:=za (bt B1.out b2);have X2:=za (X1.out.below b2))
  clear z0 z1 z2 p0 p1 p2 p3 p4 p5 p6 p7 p8 p9;obtain⟨⟨z0,z1,z2⟩,p0,p1,p2,p3,p4,p5,p6,p7,p8,p9⟩:=X2.out;simp only at p0 p1 p2 p3 p4 p5 p6 p7 p8 p9
  go_wp2_with (go_at_call 42;(with_reducible refine(CR2 _ B2.out).mono ?_);rintro e w3 ⟨rfl,b3⟩;have B3:=za (bt B2.out b3);have X3:=za (X2.out.below b3);obtain⟨⟨v0,v1,v2⟩,r0,r1,r2,r3,r4,r5,r6,r7,r8,r9⟩:=X3.out;simp only at r0 r1 r2 r3 r4 r5 r6 r7 r8 r9)
  go_ret;exact⟨.inr ⟨trivial,y0,H,rfl,rfl,HY.out.1,HY.out.2,by rw[HM.out];rfl⟩,B3.out⟩
theorem zfi {w0:World} {c:JobC} (K:JobK w0 c):(c.steps.length:Int)=(ze c.S.ly (c.y0+c.H-1)).1+((ze c.S.ly (c.y0+c.H-1)).2.length:Int)-(ze c.S.ly c.y0).1+(c.H:Int):=by
 have yh:=K.yh;have h1:=K.h1;have hst:=K.lines (y:=c.y0) (n:=c.H) yh;have hl:(c.ls c.y0 c.H).length=c.H:=by
  unfold JobC.ls zaM;rw[List.length_take,List.length_drop,List.length_map];omega
 have st:JobG c.mo [] (ze c.S.ly c.y0).1 (c.ls c.y0 c.H):=by
  obtain⟨H0,hH⟩:∃ H0,c.H=H0+1:=⟨c.H-1,by omega⟩;rw[hH,zcl (by omega)]at hst ⊢;exact zhy hst.1 hst.2
 obtain⟨_,e⟩:=zih _ _ _ (c.y0:Int) st;rw[hl]at e;unfold JobC.steps;rw[e];unfold JobC.ls;rw[zfZ c.H c.y0 _ yh h1]
def LawD (w0 wn w:World) (jb h2:Nat) (D:Nat->Prop) (c:JobC) (O:Im) (T:List Mv):Prop :=
 ∃ F R G E y n,JobAt w0 w jb F R c G E y n/\ImgAt w c.g2 h2 (za5 O c.I c.S c.x0 c.W c.y0 (y-c.y0) 0)/\wn.grownBy w (some h2)/\(∀ k,F k\/R k\/k=jb->D k)/\(∀ k,D k->wn.heap.size<=k/\k<w.heap.size)/\c.y0<=y/\zO E (y:Int) (c.ls y n)=T
theorem LawD.law {w0 wn w:World} {jb h2:Nat} {D:Nat->Prop} {c:JobC} {O:Im} {T:List Mv} (L:LawD w0 wn w jb h2 D c O T):LawT w0 wn w jb h2 c O T:=by
 obtain⟨F,R,G,E,y,n,J,H,g,a,d,y0,e⟩:=L;exact⟨F,R,G,E,y,n,J,H,g,λk q=>(d k (a k q)).1,y0,e⟩
theorem LawD.hi {w0 wn w:World} {jb h2:Nat} {D:Nat->Prop} {c:JobC} {O:Im} {T:List Mv} (L:LawD w0 wn w jb h2 D c O T):∀ k,D k->wn.heap.size<=k/\k<w.heap.size:=by
 obtain⟨F,R,G,E,y,n,J,H,g,a,d,y0,e⟩:=L;exact d
theorem LawD.below {w0 wn w w':World} {jb h2:Nat} {D:Nat->Prop} {c:JobC} {O:Im} {T:List Mv} (L:LawD w0 wn w jb h2 D c O T) (hb:Below w.heap.size w w'):LawD w0 wn w' jb h2 D c O T:=by
 obtain⟨F,R,G,E,y,n,J,H,g,a,d,y0,e⟩:=L;exact⟨F,R,G,E,y,n,J.below hb,H.below hb,g.trans (zI hb _),a,λk q=>⟨(d k q).1,Nat.lt_of_lt_of_le (d k q).2 hb.size⟩,y0,e⟩
theorem LawT.own {w0 wn w:World} {jb h2:Nat} {c:JobC} {O:Im} {T:List Mv} (L:LawT w0 wn w jb h2 c O T):∃ D,LawD w0 wn w jb h2 D c O T:=by
 obtain⟨F,R,G,E,y,n,J,H,g,a,y0,e⟩:=L;refine⟨λk=>F k\/R k\/k=jb,F,R,G,E,y,n,J,H,g,λk q=>q,λk q=>⟨a k q,?_⟩,y0,e⟩;obtain⟨pb,pc,cbk,cc,rb,rc,r,fx,RR⟩:=J.mem;rcases q with q|q|q
 ·exact J.fhi k q
 ·exact RR.hi k q
 ·have:=J.lt;omega
theorem zym {w0 wn w:World} {jb h2:Nat} {D:Nat->Prop} {c:JobC} {O:Im} {m:Mv} {T:List Mv} (C:LawC w0 wn h2 c O) (L:LawD w0 wn w jb h2 D c O (m :: T)) :
  Calls Tryz.prog 21 #[.pointer (some ⟨jb,0,none⟩)] w λe w'=>e=.returned (mvV m)/\∃ D',LawD w0 wn w' jb h2 D' c O T/\(∀ k,D' k->D k\/w.heap.size<=k)/\Off (λk=>D k\/k=h2) w w':=by
 obtain⟨F,R,G,E,y,n,J,H,g,ad,dd,by0,e⟩:=L;have a:∀ k,F k\/R k\/k=jb->wn.heap.size<=k:=λk q=>(dd k (ad k q)).1
 cases n with
 |zero =>
  rw[zh6]at e
  cases e
 |succ n =>
  have K:=C.job;have hy:y<c.S.ly.length:=by have:=J.yn;have:=K.yh;omega
  obtain⟨k1,k2⟩:=zev J.st hy;have nj:jb≠h2:=λq=>by have:=a jb (Or.inr (Or.inr rfl));have:=C.lh;omega
  have nF:¬F h2:=λq=>by have:=a h2 (Or.inl q);have:=C.lh;omega
  have nR:¬R h2:=λq=>by have:=a h2 (Or.inr (Or.inl q));have:=C.lh;omega
  have ng:jb≠c.g2:=λq=>by have:=a jb (Or.inr (Or.inr rfl));have:=C.lg;omega
  by_cases hE:E<(ze c.S.ly y).1+((ze c.S.ly y).2.length:Int)
  ·obtain⟨s1,s2,-⟩:=k1 hE;rw[s1]at e;obtain⟨rfl,rfl⟩:=List.cons.inj e;refine(zf3 K J hE).mono ?_;rintro e w' ⟨rfl,R',J',o',s'⟩;have hR':∀ k,R' k->k<w'.heap.size:=by
    obtain⟨pb,pc,cbk,cc,rb,rc,r,fx,RR⟩:=J'.mem;exact RR.hi
   refine⟨rfl,λk=>F k\/R' k\/k=jb,⟨F,R',G++[E],E+1,y,n+1,J',H.off o' (λq=>?_) (λq=>?_),zds g o' (λk q=>Or.inl ?_),λk q=>q,λk q=>⟨?_,?_⟩,by0,rfl⟩,λk q=>?_,o'.mono (λk _ q=>Or.inl ?_)⟩
   ·rcases q with q|q
    ·have:=a _ (Or.inr (Or.inl q));have:=C.lg;omega
    ·exact ng q.symm
   ·rcases q with q|q
    ·exact nR q
    ·exact nj q.symm
   ·rcases q with q|q
    ·exact a k (Or.inr (Or.inl q))
    ·exact a k (Or.inr (Or.inr q))
   ·rcases q with q|q|q
    ·exact a k (Or.inl q)
    ·rcases s' k q with q|q
     ·exact a k (Or.inr (Or.inl q))
     ·exact Nat.le_trans g.size q
    ·exact a k (Or.inr (Or.inr q))
   ·rcases q with q|q|q
    ·exact J'.fhi k q
    ·exact hR' k q
    ·have:=J'.lt;omega
   ·rcases q with q|q|q
    ·exact Or.inl (ad k (Or.inl q))
    ·rcases s' k q with q|q
     ·exact Or.inl (ad k (Or.inr (Or.inl q)))
     ·exact Or.inr q
    ·exact Or.inl (ad k (Or.inr (Or.inr q)))
   ·rcases q with q|q
    ·exact ad k (Or.inr (Or.inl q))
    ·exact ad k (Or.inr (Or.inr q))
  ·obtain⟨s1,s2,-⟩:=k2 hE;rw[s1]at e;obtain⟨rfl,rfl⟩:=List.cons.inj e;refine(zgs K J hE H C.ow C.oh C.oc C.ot nj nF nR C.base ng).mono ?_;rintro e w' ⟨rfl,F',R',J',H',o',f',s'⟩;have tm:=zhz (O:=O) (I:=c.I) (S:=c.S) (x0:=c.x0) (W:=c.W) (y0:=c.y0) (k:=y-c.y0);rw[show c.y0+(y-c.y0)=y by omega,show y-c.y0+1=y+1-c.y0 by omega]at tm;rw[tm]at H';have hR':∀ k,R' k->k<w'.heap.size:=by
    obtain⟨pb,pc,cbk,cc,rb,rc,r,fx,RR⟩:=J'.mem;exact RR.hi
   refine⟨rfl,λk=>F' k\/R' k\/k=jb,⟨F',R',G,E,y+1,n,J',H',zds g o' (λk q=>?_),λk q=>q,λk q=>⟨?_,?_⟩,by omega,rfl⟩,λk q=>?_,o'.mono (λk _ q=>?_)⟩
   ·rcases q with q|q
    ·exact Or.inl (a k (Or.inr (Or.inr q)))
    ·exact Or.inr q
   ·rcases q with q|q|q
    ·rcases f' k q with q|q
     ·exact a k (Or.inl q)
     ·exact Nat.le_trans g.size (Nat.le_of_lt q)
    ·rcases s' k q with q|q
     ·exact a k (Or.inr (Or.inl q))
     ·exact Nat.le_trans g.size q
    ·exact a k (Or.inr (Or.inr q))
   ·rcases q with q|q|q
    ·exact J'.fhi k q
    ·exact hR' k q
    ·have:=J'.lt;omega
   ·rcases q with q|q|q
    ·rcases f' k q with q|q
     ·exact Or.inl (ad k (Or.inl q))
     ·exact Or.inr (Nat.le_of_lt q)
    ·rcases s' k q with q|q
     ·exact Or.inl (ad k (Or.inr (Or.inl q)))
     ·exact Or.inr q
    ·exact Or.inl (ad k (Or.inr (Or.inr q)))
   ·rcases q with q|q
    ·exact Or.inl (ad k (Or.inr (Or.inr q)))
    ·exact Or.inr q
theorem zrG {w0 wn w:World} {jb h2:Nat} {c:JobC} {O:Im} {T:List Mv} (C:LawC w0 wn h2 c O) (L:LawT w0 wn w jb h2 c O T) :
  Calls Tryz.prog 20 #[.pointer (some ⟨jb,0,none⟩)] w λe w'=>e=.returned (mvV (T.headD (0,0)))/\Below w.heap.size w w':=by
 obtain⟨F,R,G,E,y,n,J,H,g,a,b,e⟩:=L;have hh:zdU c E y n=T.headD (0,0):=by
  cases n with
  |zero =>
   rw[zh6]at e;rw[←e];rfl
  |succ n =>
   have hy:y<c.S.ly.length:=by have:=J.yn;have:=C.job.yh;omega
   obtain⟨k1,k2⟩:=zev J.st hy
   by_cases hE:E<(ze c.S.ly y).1+((ze c.S.ly y).2.length:Int)
   ·obtain⟨s1,s2,-⟩:=k1 hE;rw[s2,←e,s1];rfl
   ·obtain⟨s1,s2,-⟩:=k2 hE;rw[s2,←e,s1];rfl
 have:=ze5 C.job J;rw[hh]at this;exact this
theorem zt0 (m:Mv) (B:List Mv):∀ A:List Mv,(mvC (A++m :: B))[A.length*2]?=some (.int .i64 m.1)/\(mvC (A++m :: B))[A.length*2+1]?=some (.int .i64 m.2)
 |[]=>⟨rfl,rfl⟩
 |a :: A=>by
  obtain⟨h1,h2⟩:=zt0 m B A;rw[List.length_cons,show(A.length+1)*2=A.length*2+1+1 by omega];exact⟨h1,h2⟩
theorem zpU {w0 w':World} {c:JobC} (K:JobK w0 c) (hb:Below w0.heap.size w0 w') :
  Calls Tryz.prog 19 #[.agg #[.pointer (some c.ax),.pointer (some c.ay),.int .i64 c.S.sb],.agg #[.int .i64 0,.int .i64 (c.x0:Int),.int .i64 (c.y0:Int),.int .i64 (c.W:Int),.int .i64 (c.H:Int),.int .i64 0,.int .i64 0,.int .i64 0,.int .i64 0,.int .i64 0]] w' λe w''=>e=.returned (.int .i64 (c.steps.length:Int))/\Below w'.heap.size w' w'':=by
 have K':=K.below hb;have xw:=K.xw;have yh:=K.yh;have w1:=K.w1;have h1:=K.h1;have lx:=K.tx.ok.2.2.1;have ly:=K.ty.ok.2.2.1;refine(zhm K'.tx K'.ty c.S.sb 0 (c.x0:Int) (c.y0:Int) (c.W:Int) (c.H:Int) 0 0 0 0 0 (by omega) (by omega) (by omega) (by omega)).mono ?_;have hI:(zZ (c.x0:Int) (c.W:Int) (c.S.lx.length:Int) && zZ (c.y0:Int) (c.H:Int) (c.S.ly.length:Int))=true:=by
  rw[Bool.and_eq_true];exact⟨zbk.2 (by omega),zbk.2 (by omega)⟩
 rintro e w2 ⟨⟨hI',rfl⟩|⟨_,a,H,ea,eH,ha,hH,rfl⟩,b⟩
 ·rw[hI]at hI'
  cases hI'
 ·obtain rfl:c.y0=a:=Int.ofNat_inj.1 ea;obtain rfl:c.H=H:=Int.ofNat_inj.1 eH;exact⟨by rw[zfi K],b⟩
theorem ztH (k j:Int) (w':World):(storeCells ⟨w'.heap.size,0,none⟩ [.int .i64 k,.int .i64 j] 0).run Tryz.prog (w'.alloc (.cells #[.int .i64 0,.int .i64 0] 62))=.ok () (w'.alloc (.cells #[.int .i64 k,.int .i64 j] 62)) :=
 run_storeCells_new w' 62 #[.int .i64 0,.int .i64 0] #[.int .i64 k,.int .i64 j] (by kernel_rfl) rfl (by simp[Value.oneCell'])
theorem zx3 (a b:Int) (w:World):(binOp .neq 65 (.agg #[.int .i64 a,.int .i64 b]) (.agg #[.int .i64 a,.int .i64 b])).run Tryz.prog w=.ok (.bool false) w:=by
 simp[go_sem]
theorem ztQ {w0 wn wr wc w1 w2:World} {jb h2 vb bx n vc:Nat} {D D':Nat->Prop} {c:JobC} {O:Im} {B:List Mv} {X L:List Value} (l:LawD w0 wn w1 jb h2 D' c O B) (d:∀ k,D' k->D k\/wc.heap.size<=k) (o:Off (λk=>D k\/k=h2) wc w1) (bc:Below wr.heap.size wr wc) (b2:Below w1.heap.size w1 w2)
  (hv:¬D vb) (hvl:vb<wr.heap.size) (hO:wr.ownsRow 0 62 2 (.slice (some ⟨vb,0,none⟩) n vc) n X) (hX:CellsAt wr bx L) (nX:¬D bx) (xh:bx≠h2) (vh:vb≠h2) :
  LawD w0 wn w2 jb h2 D' c O B/\¬D' vb/\vb<w2.heap.size/\w2.ownsRow 0 62 2 (.slice (some ⟨vb,0,none⟩) n vc) n X/\CellsAt w2 bx L:=by
 have hs:=bc.size;have ho:=o.size;have h2s:=b2.size;refine⟨l.below b2,λq=>?_,by omega,?_,?_⟩
 ·rcases d _ q with q|q
  ·exact hv q
  ·omega
 ·refine World.ownsRow.kept (o.ownr (hO.kept (zI bc none) (.inr (by simp[Value.ownBlock]))) (λg e=>?_)) (zI b2 none) (.inr (by simp[Value.ownBlock]))
  simp[Value.ownBlock]at e
  subst e;exact λq=>q.elim hv vh
 ·intro j v hj;have h0:=o.cell (b:=bx) (λq=>q.elim nX xh) ((hX.below bc) j v hj);exact cb b2 (zf h0) h0
attribute [-go_sem] storeCells in
set_option maxHeartbeats 8000000 in
set_option maxRecDepth 100000 in
theorem zkr (q:Pic) (pd:Option Addr) (pc:Nat) (o:Opr) (ax:Option Addr) (cx:Nat) (ay:Option Addr) (cy:Nat) (x y u v:Int) (w:World) (hk:OpK w) (hp:PicAt w q pd pc/\zeW q) (hA:OpAt w o ax cx ay cy/\OpFits o)
  (hx:0<=x/\x<=255) (hy:0<=y/\y<=255) (hu:0<=u/\u<=255) (hv:0<=v/\v<=255) :
  Calls Tryz.prog 4 #[zeM q pd pc,opV o ax cx ay cy,.int .u8 x,.int .u8 y,.int .u8 u,.int .u8 v] w λe w'=>e=.returned (.bool true)/\Below w.heap.size w w':=by
 have K0:=za (λw' (b:Below w.heap.size w w')=>zaE _ _ hk b);have CL:=λw' (b:Below w.heap.size w w')=>zgw w' (K0.out w' b)
 have CB:=λw' (b:Below w.heap.size w w')=>zie q pd pc o ax cx ay cy x y u v w' (K0.out w' b) ⟨hp.1.below b,hp.2⟩ ⟨hA.1.below b,hA.2⟩ hx hy hu hv
 obtain⟨pw,ph,pcc,pm,pl⟩:=q;obtain⟨W0,hW0⟩:∃ W0,(w.alloc (.cells #[.int .u16 pw,.int .u16 ph,.int .u16 pcc,.int .u16 pm,.slice pd pl.length pc] 25)).alloc (.cells #[.int .i64 o.kd,.int .i64 o.bd,.int .i64 o.sg,.int .i64 o.rd,.slice ax o.xs.length cx,.slice ay o.ys.length cy,.int .i64 o.fl,.int .i64 o.wd,.int .i64 o.ht] 31)=W0:=⟨_,rfl⟩;have P0:=za (show S5 W0 w.heap.size (.int .u16 pw) (.int .u16 ph) (.int .u16 pcc) (.int .u16 pm) (.slice pd pl.length pc) from hW0 ▸ ((S5.new w 25 (.int .u16 pw) (.int .u16 ph) (.int .u16 pcc) (.int .u16 pm) (.slice pd pl.length pc)).below (zg _ _)));have O0:=za (show P9 W0 (w.heap.size+1) o.kd o.bd o.sg o.rd (.slice ax o.xs.length cx) (.slice ay o.ys.length cy) o.fl o.wd o.ht from hW0 ▸ (by
  simpa using P9.new (w.alloc (.cells #[.int .u16 pw,.int .u16 ph,.int .u16 pcc,.int .u16 pm,.slice pd pl.length pc] 25)) 31 o.kd o.bd o.sg o.rd (.slice ax o.xs.length cx) (.slice ay o.ys.length cy) o.fl o.wd o.ht))
 have B0:=za (show Below w.heap.size w W0 from hW0 ▸ ba (zg w _) _);have HW0:=za hW0;have SZ:=zd8 [.pointer none,.pointer none,.pointer none,.pointer none,.int .i64 0,.slice none 0 0,.slice none 0 0,.int .i64 0,.int .i64 0,.int .i64 0,.int .i64 0,.int .i64 0,.int .i64 0,.int .i64 0,.int .i64 0,.int .i64 0,.int .i64 0,.int .i64 0,.int .i64 0,.int .i64 0] rfl (by simp[Value.oneCell']);have SY:=λc gx px gy py=>zd8 (zbr c gx px gy py) rfl (zkE c gx px gy py)
 have SM:=zm2;have SD:=ztH;have q1:∀ (a:Addr) (w:World),(binOp .eql 49 (.pointer (some a)) (.pointer none)).run Tryz.prog w=.ok (.bool false) w:=λa w=>by kernel_rfl
 unfold zbr at SY;unfold zkb zkQ zeM opV at CB;unfold zeM opV;clear hk hp hA hW0 hx hy hu hv;obtain⟨kd,bo,sg,rd,xs,ys,fl,wd,ht⟩:=o;simp only at P0 O0 B0 HW0 CB;generalize hnx:xs.length=nx at *;generalize hny:ys.length=ny at *;clear hnx hny
 go_enter Tryz.func4,Tryz.ntmps4
 go_upto_region 1 with fail
 rw[HW0.out];clear HW0
 go_upto_region 3 with(go_at_call 8;(with_reducible refine(CL _ B0.out).mono ?_);rintro e w1 ⟨rfl,b1⟩;have B1:=za (bt B0.out b1);obtain⟨⟨p0,_⟩,⟨p1,_⟩,⟨p2,_⟩,⟨p3,_⟩,⟨p4,_⟩⟩:=P0.out.below b1;obtain⟨o0,o1,o2,o3,o4,o5,o6,o7,o8⟩:=O0.out.below b1)
 have q0:∀ (a b:Value) (w:World),(Instr.field 65 (.agg #[a,b]) 0).run Tryz.prog w=.ok a w:=λa b w=>by kernel_rfl
 go_wp2_with (go_at_call 9;(with_reducible refine(CB _ B1.out).mono ?_);rintro e w2 ⟨rfl|⟨w0,c,h2,gx,px,gy,py,O,rfl,BG⟩,b2⟩;have B2:=za (bt B1.out b2))
 ·go_ret;exact⟨rfl,ba (bt B1.out b2) _⟩
 have HB:=za BG;obtain⟨W3,hW3⟩:∃ W3,w2.alloc (.cells #[.pointer (some ⟨c.g,0,none⟩),.pointer (some ⟨c.g2,0,none⟩),.pointer (some c.ax),.pointer (some c.ay),.int .i64 c.S.sb,.slice (some ⟨gx,0,none⟩) c.S.lx.length px,.slice (some ⟨gy,0,none⟩) c.S.ly.length py,.int .i64 c.S.fx,.int .i64 c.S.fy,.int .i64 c.S.sb,.int .i64 0,.int .i64 (c.x0:Int),.int .i64 (c.y0:Int),.int .i64 (c.W:Int),.int .i64 (c.H:Int),.int .i64 0,.int .i64 0,.int .i64 0,.int .i64 0,.int .i64 0] 45)=W3:=⟨_,rfl⟩;have XB:=za (show CellsAt W3 w2.heap.size (zbr c gx px gy py) from hW3 ▸ CellsAt.new w2 (zbr c gx px gy py) _);have E3:=za (show Below w2.heap.size w2 W3 from hW3 ▸ zg w2 _);have L3:=za (show w2.heap.size<W3.heap.size from by rw[←hW3];simp);have B3:=za (show Below w.heap.size w W3 from hW3 ▸ ba (bt B1.out b2) _);have CN:=zpE BG E3.out;clear CB CL SZ SY p0 p1 p2 p3 p4 o0 o1 o2 o3 o4 o5 o6 o7 o8 b2 BG;rw[hW3];clear hW3;have X0:=XB.out 0 _ rfl;obtain⟨bx,hbx⟩:∃ bx,w2.heap.size=bx:=⟨_,rfl⟩;have HBX:=za hbx
 go_upto_region 7 with(go_at_call 11;(with_reducible refine CN.mono ?_);rintro e w4 ⟨jb,rfl,LC,LT,b4⟩;have HC:=za LC;have HT:=za LT;have B4:=za b4;clear LC LT b4)
 clear X0 CN;have XB4:=za (XB.out.below B4.out);rw[hbx]at XB4;have BXL:=za (show bx<W3.heap.size from hbx ▸ L3.out);have BXH:=za (show bx≠h2 from λe=>by have:=HB.out.tgt.lt.2;omega);clear hbx;obtain⟨D,hD⟩:=HT.out.own;have HD:=za hD;clear hD;have K4:=za (HC.out.job.below HT.out.base);have yh:=HC.out.job.yh;have xw:=HC.out.job.xw;have w1:=HC.out.job.w1;have h1:=HC.out.job.h1;have mo2:=HC.out.job.mo2;have lx:=HC.out.job.tx.ok.2.2.1;have ly:=HC.out.job.ty.ok.2.2.1;obtain⟨C1,C3,hCn⟩:=HC.out.job.c1;have CTI:=λw' (b:Below w4.heap.size w4 w')=>zyB (HT.out.below b)
 have CWO:=λw' (b:Below w4.heap.size w4 w')=>zyn (HT.out.below b)
 have CMO:=λw' (b:Below w4.heap.size w4 w')=>zhB (K4.out.ty.below b)
 have CCH:=λw' (b:Below w4.heap.size w4 w')=>zaF (K4.out.img.below b)
 have DS:=λw' (b:Below w4.heap.size w4 w')=>znl (L:=c.S.ly) (m:=c.S.ly.length) (ycap:=py) (g:=gy) (y:=c.y0) (h:=c.H) (mo:=c.mo) (xs:=.slice (some ⟨gx,0,none⟩) c.S.lx.length px) (fx:=.int .i64 c.S.fx) (fy:=.int .i64 c.S.fy) (bd:=.int .i64 c.S.sb) (ls:=c.ls c.y0 c.H) (T:=c.steps) rfl (λk hk=>by have:=HC.out.job.ty.ok.1 k hk;unfold zfY at this;omega) ly yh h1 HC.out.job.most_w rfl rfl (ziq HC.out HT.out) (HC.out.job.lines yh).1 ⟨_,_,_,rfl⟩ ⟨_,rfl⟩ ⟨_,rfl⟩ ⟨_,rfl⟩ w' (HB.out.ly.below (bt HB.out.bel (bt E3.out (bt B4.out b))))
 have CSL:=λw' (b:Below w4.heap.size w4 w')=>zpU HC.out.job (bt HT.out.base b)
 have eC:c.I.ic=(c.C:Int):=HC.out.job.ch;have eM:zaB c.S.ly=(c.mo:Int):=HC.out.job.most;rw[eC]at CCH;rw[eM]at CMO;have eT:zbV c.til=.agg #[.int .i64 0,.int .i64 (c.x0:Int),.int .i64 (c.y0:Int),.int .i64 (c.W:Int),.int .i64 (c.H:Int),.int .i64 0,.int .i64 0,.int .i64 0,.int .i64 0,.int .i64 0]:=by
  unfold zbV JobC.til;simp only[HB.out.n0,HB.out.n1,HB.out.n2,HB.out.n3,HB.out.n4,HB.out.n5]
 rw[eT]at CTI;have hMW:(c.mo:Int)*(c.W:Int)<=65536*65536:=Int.mul_le_mul (by omega) (by omega) (by omega) (by omega);have hMW0:0<=(c.mo:Int)*(c.W:Int):=Int.mul_nonneg (by omega) (by omega);have hMC:(c.mo:Int)*(c.W:Int)*(c.C:Int)<=65536*65536*3:=Int.mul_le_mul hMW (by omega) (by omega) (by omega);have hMC0:0<=(c.mo:Int)*(c.W:Int)*(c.C:Int):=Int.mul_nonneg hMW0 (by omega);have wr1:IntKind.i64.wrap ((c.mo:Int)*(c.W:Int))=(c.mo:Int)*(c.W:Int):=za3 (by omega) (by omega);have wr2:IntKind.i64.wrap ((c.mo:Int)*(c.W:Int)*(c.C:Int))=(c.mo:Int)*(c.W:Int)*(c.C:Int):=za3 (by omega) (by omega);rw[show(c.mo:Int)*((c.W*c.C:Nat):Int)=(c.mo:Int)*(c.W:Int)*(c.C:Int) by rw[Int.natCast_mul,Int.mul_assoc]]at CWO;obtain⟨V1,hV1⟩:∃ V,(c.mo:Int)*(c.W:Int)=V:=⟨_,rfl⟩;rw[hV1]at wr1 wr2 CWO;obtain⟨V2,hV2⟩:∃ V,V1*(c.C:Int)=V:=⟨_,rfl⟩;rw[hV2]at wr2 CWO;have KF:=za (fun(w':World) (b:Below w4.heap.size w4 w')=>show w'.cell? ⟨bx,0,none⟩=some (.pointer (some ⟨c.g,0,none⟩))/\w'.cell? ⟨bx,3,none⟩=some (.pointer (some c.ay))/\w'.cell? ⟨bx,10,none⟩=some (.int .i64 0)/\w'.cell? ⟨bx,11,none⟩=some (.int .i64 (c.x0:Int))/\w'.cell? ⟨bx,12,none⟩=some (.int .i64 (c.y0:Int))/\w'.cell? ⟨bx,13,none⟩=some (.int .i64 (c.W:Int))/\w'.cell? ⟨bx,14,none⟩=some (.int .i64 (c.H:Int))/\w'.cell? ⟨bx,15,none⟩=some (.int .i64 0)/\w'.cell? ⟨bx,16,none⟩=some (.int .i64 0)/\w'.cell? ⟨bx,17,none⟩=some (.int .i64 0)/\w'.cell? ⟨bx,18,none⟩=some (.int .i64 0)/\w'.cell? ⟨bx,19,none⟩=some (.int .i64 0) from by
  have X:=XB4.out.below b;exact⟨X 0 _ rfl,X 3 _ rfl,X 10 _ rfl,X 11 _ rfl,X 12 _ rfl,X 13 _ rfl,X 14 _ rfl,X 15 _ rfl,X 16 _ rfl,X 17 _ rfl,X 18 _ rfl,X 19 _ rfl⟩)
 have nE:1<=c.steps.length:=by
  have:=zpv HC.out.job;have h9:za0 c.steps<=c.steps.length:=List.length_filter_le _ _;omega
 obtain⟨n,hn⟩:∃ n,c.steps.length=n:=⟨_,rfl⟩;rw[hn]at nE DS CSL;have nL:n<=1099511627776:=hn ▸ ziq HC.out HT.out;have HN:=za hn;have HEM:=za eM;clear yh xw w1 h1 mo2 lx ly C1 C3 hCn eC eM eT hMW hMW0 hMC hMC0 hn
 go_cut [77] (λa wx=>a=.bool false/\Below w4.heap.size w4 wx)
 case first =>
  have x0:=KF.out w4 (Below.refl _ _)
  go_region_held3 (λw'=>w'.cell? ⟨bx,0,none⟩=some (.pointer (some ⟨c.g,0,none⟩))/\w'.cell? ⟨bx,3,none⟩=some (.pointer (some c.ay))/\w'.cell? ⟨bx,10,none⟩=some (.int .i64 0)/\w'.cell? ⟨bx,11,none⟩=some (.int .i64 (c.x0:Int))/\w'.cell? ⟨bx,12,none⟩=some (.int .i64 (c.y0:Int))/\w'.cell? ⟨bx,13,none⟩=some (.int .i64 (c.W:Int))/\w'.cell? ⟨bx,14,none⟩=some (.int .i64 (c.H:Int))/\w'.cell? ⟨bx,15,none⟩=some (.int .i64 0)/\w'.cell? ⟨bx,16,none⟩=some (.int .i64 0)/\w'.cell? ⟨bx,17,none⟩=some (.int .i64 0)/\w'.cell? ⟨bx,18,none⟩=some (.int .i64 0)/\w'.cell? ⟨bx,19,none⟩=some (.int .i64 0)) (first|with_reducible assumption|(with_reducible exact x0)|go_keep)
   (first
    |(go_at_call 14;(with_reducible refine(CTI _ bch).mono ?_);rintro e w5 ⟨rfl,b5⟩;have K5:=za (bt (show Below w4.heap.size w4 _ from bch) b5);have y5:=KF.out _ K5.out;clear b5)
    |(go_at_call 15;(with_reducible refine(CWO _ (bt K5.out bch)).mono ?_);rintro e w6 ⟨rfl,b6⟩;have K6:=za (bt K5.out (bt (show Below w5.heap.size w5 _ from bch) b6));have y6:=KF.out _ K6.out;clear b6)
    |(go_at_call 16;(with_reducible refine(CMO _ (bt K6.out bch)).mono ?_);rintro e w7 ⟨rfl,d7⟩;have K7:=za (bt K6.out (bt (show Below w6.heap.size w6 _ from bch) d7.below));have y7:=KF.out _ K7.out;clear d7)
    |(go_at_call 17;(with_reducible refine(CCH _ (bt K7.out bch)).mono ?_);rintro e w8 ⟨rfl,rfl⟩))
  all_goals
   go_wp2_with fail
   go_meet;exact⟨rfl,bt K7.out bch⟩
 case rest =>
  obtain⟨rfl,hb5⟩:=hcut;have B5:=za hb5;have XB5:=za (XB4.out.below hb5);have CM:=λw' (b:Below w0.heap.size w0 w')=>zhB (HC.out.job.below b).ty
  rw[HEM.out]at CM;clear hb5 CTI CWO CCH wr1 wr2 hV1 hV2 CMO;have x2:=XB5.out 2 _ rfl;have x3:=XB5.out 3 _ rfl;have x4:=XB5.out 4 _ rfl;have x5:=XB5.out 5 _ rfl;have x6:=XB5.out 6 _ rfl;have x7:=XB5.out 7 _ rfl;have x8:=XB5.out 8 _ rfl;have x9:=XB5.out 9 _ rfl;have x12:=XB5.out 12 _ rfl;have x14:=XB5.out 14 _ rfl
  go_upto_region 10 with(go_at_call 18;(with_reducible refine(DS _ B5.out).mono ?_);rintro e w6 ⟨v,rfl,own6,b6⟩;obtain⟨vb,vc,rfl,vb0,vb1⟩:=own6.form nE)
  have OW6:=za (own6.mono (Nat.zero_le _));have B6:=za (bt B5.out b6);have XB6:=za (XB5.out.below b6);have VB:=za (show w4.heap.size<=vb from Nat.le_trans B5.out.size (Nat.le_of_succ_le vb0));have VBH:=za (show vb≠h2 from λe=>by have:=VB.out;have:=HC.out.lh;have:=B4.out.size;omega);clear own6 b6 vb0 vb1 x2 x3 x4 x5 x6 x7 x8 x9 x12 x14 DS;have x2:=XB6.out 2 _ rfl;have x3:=XB6.out 3 _ rfl;have x4:=XB6.out 4 _ rfl;have x10:=XB6.out 10 _ rfl;have x11:=XB6.out 11 _ rfl;have x12:=XB6.out 12 _ rfl;have x13:=XB6.out 13 _ rfl;have x14:=XB6.out 14 _ rfl;have x15:=XB6.out 15 _ rfl;have x16:=XB6.out 16 _ rfl;have x17:=XB6.out 17 _ rfl;have x18:=XB6.out 18 _ rfl;have x19:=XB6.out 19 _ rfl
  go_upto_region 12 with(go_at_call 19;(with_reducible refine(CSL _ B6.out).mono ?_);rintro e w7 ⟨rfl,b7⟩;have B7:=za (bt B6.out b7);have XB7:=za (XB6.out.below b7);have OW7:=za (OW6.out.kept (zI b7 none) (.inr (by simp[Value.ownBlock])));clear b7 x2 x3 x4 x10 x11 x12 x13 x14 x15 x16 x17 x18 x19 CSL)
  go_wp2
  go_loopg [99] n (λr s wr=>∃ (A B:List Mv) (k:Nat) (D':Nat->Prop),A++B=c.steps/\k+r=n/\B.length=r/\A.length=k/\s=.int .i64 (k:Int)/\LawD w0 W3 wr jb h2 D' c O B/\¬D' vb/\vb<wr.heap.size/\wr.ownsRow 0 62 2 (.slice (some ⟨vb,0,none⟩) n vc) n (mvC c.steps)/\CellsAt wr bx (zbr c gx px gy py))
  case atStart=>exact⟨[],c.steps,0,D,rfl,by omega,HN.out,rfl,rfl,HD.out.below B7.out,(λq=>by have:=(HD.out.hi _ q).2;have:=VB.out;omega),((OW7.out.lt vb rfl).2),OW7.out,XB7.out⟩
  case round =>
   obtain⟨A,B,k,D',hAB,hkr,hB,hA,rfl,hL,hv,hvl,hO,hX⟩:=hrel
   cases B with
   |nil =>
    obtain rfl:n=k:=by simp at hB;omega
    have HL:=za hL.law;have CX:=zrG HC.out HL.out;have CS:=λw' (l:LawT w0 W3 w' jb h2 c O [])=>zfG HC.out l
    have CR:=λw' (l:LawT w0 W3 w' jb h2 c O [])=>zyQ HC.out l (λm hm=>by cases hm)
    unfold mvV at CX CS;simp only[List.headD_nil]at CX;clear hAB hkr hB hA hL hv hvl hO hX;have r5:∀ w:World,(binOp .eql 65 (.agg #[.int .i64 0,.int .i64 0]) (.agg #[.int .i64 0,.int .i64 0])).run Tryz.prog w=.ok (.bool true) w:=λw=>by kernel_rfl
    go_wp2_with (first
     |(go_at_call 20;(with_reducible refine CX.mono ?_);rintro e w8 ⟨rfl,b8⟩;have HL8:=za (HL.out.below b8);clear b8)
     |(go_at_call 21;(with_reducible refine(CS _ HL8.out).mono ?_);rintro e w9 ⟨rfl,l9⟩;have HL9:=za l9;clear l9)
     |(go_at_call 12;(with_reducible refine(CR _ HL9.out).mono ?_);rintro e w10 ⟨rfl,l10⟩;have HL10:=za l10;clear l10))
    go_ret;exact⟨rfl,bt B1.out (bt HB.out.bel0 HL10.out.base)⟩
   |cons m B =>
    obtain⟨mk,mr⟩:=m;have hlt:k<n:=by simp at hB;omega
    have hltI:(k:Int)<(n:Int):=by omega
    obtain⟨a0,a1⟩:=zt0 (mk,mr) B A;rw[hAB,hA]at a0 a1;have c0:wr.cell? ⟨vb,k*2,none⟩=some (.int .i64 mk):=(hO.cellAt (k*2) (by omega)).trans a0;have c1:wr.cell? ⟨vb,k*2+1,none⟩=some (.int .i64 mr):=(hO.cellAt (k*2+1) (by omega)).trans a1;have CX:=λw' (b:Below wr.heap.size wr w')=>zrG HC.out (hL.below b).law
    unfold mvV at CX;simp only[List.headD_cons]at CX;have HA:=za (And.intro hAB (And.intro hkr (And.intro hB hA)));have HL:=za hL;have HV:=za (And.intro hv (And.intro hvl (And.intro hO hX)));clear a0 a1 hAB hkr hB hA hL hv hvl hO hX
    go_upto_region 16 with(go_at_call 20;(with_reducible refine(CX _ (zg _ _)).mono ?_);rintro e w9 ⟨rfl,b9⟩;have HB9:=za b9;clear b9)
    have m0:=cb HB9.out (by simp) (show(wr.alloc (.cells #[.int .i64 mk,.int .i64 mr] 62)).cell? ⟨wr.heap.size,0,none⟩=some (.int .i64 mk) by simp);have m1:=cb HB9.out (by simp) (show(wr.alloc (.cells #[.int .i64 mk,.int .i64 mr] 62)).cell? ⟨wr.heap.size,1,none⟩=some (.int .i64 mr) by simp);have p0:=ca (ob:=.cells #[.int .i64 mk,.int .i64 mr] 65) (zf m0) m0;have p1:=ca (ob:=.cells #[.int .i64 mk,.int .i64 mr] 65) (zf m1) m1;have p2:(w9.alloc (.cells #[.int .i64 mk,.int .i64 mr] 65)).cell? ⟨w9.heap.size,0,none⟩=some (.int .i64 mk):=by simp
    have p3:(w9.alloc (.cells #[.int .i64 mk,.int .i64 mr] 65)).cell? ⟨w9.heap.size,1,none⟩=some (.int .i64 mr):=by simp
    have BW:Below wr.heap.size wr (w9.alloc (.cells #[.int .i64 mk,.int .i64 mr] 65)):=ba (bt (zg _ _) HB9.out) _;have x3:=(HV.out.2.2.2.below BW) 3 _ rfl;have lM:wr.heap.size<=w9.heap.size:=(bt (zg wr _) HB9.out).size;obtain⟨W10,hW10⟩:∃ W10,w9.alloc (.cells #[.int .i64 mk,.int .i64 mr] 65)=W10:=⟨_,rfl⟩;rw[hW10]at p0 p1 p2 p3 BW x3;rw[hW10];obtain⟨M,hM⟩:∃ M,wr.heap.size=M:=⟨_,rfl⟩;obtain⟨N,hN⟩:∃ N,w9.heap.size=N:=⟨_,rfl⟩;rw[hM]at p0 p1 lM;rw[hN]at p2 p3 lM;have dh:=HL.out.hi;have lg:=HL.out.law.grown.size;have lh2:=HC.out.lh;have nM:¬(D' M\/M=h2):=λq=>by
     rcases q with q|q
     ·have:=dh _ q;omega
     ·omega
    have nN:¬(D' N\/N=h2):=λq=>by
     rcases q with q|q
     ·have:=dh _ q;omega
     ·omega
    have nX:¬D' bx:=λq=>by have:=dh _ q;have:=BXL.out;omega
    have NX:=za nX;have HW:=za BW;have HL10:=za (HL.out.below BW);have KS:=za (fun(wa w':World) (b:Below W10.heap.size W10 wa) (o:Off (λk=>D' k\/k=h2) wa w')=>show(w'.cell? ⟨M,0,none⟩=some (.int .i64 mk)/\w'.cell? ⟨M,1,none⟩=some (.int .i64 mr))/\(w'.cell? ⟨N,0,none⟩=some (.int .i64 mk)/\w'.cell? ⟨N,1,none⟩=some (.int .i64 mr))/\w'.cell? ⟨bx,3,none⟩=some (.pointer (some c.ay)) from⟨⟨o.cell nM (cb b (zf p0) p0),o.cell nM (cb b (zf p1) p1)⟩,⟨o.cell nN (cb b (zf p2) p2),o.cell nN (cb b (zf p3) p3)⟩,o.cell (λq=>q.elim nX BXH.out) (cb b (zf x3) x3)⟩);have y0:=KS.out W10 W10 (Below.refl _ _) (Off.refl _ _);have CS:=λw' (b:Below W10.heap.size W10 w')=>zym HC.out (HL10.out.below b)
    unfold mvV at CS;simp only at CS;simp only[hM,hN];have r6:=zx3 mk mr;clear m0 m1 p0 p1 p2 p3 BW x3 lM hW10 hM hN dh lg lh2 nM nN nX c0 c1 CX
    go_region_held3 (λw'=>(w'.cell? ⟨M,0,none⟩=some (.int .i64 mk)/\w'.cell? ⟨M,1,none⟩=some (.int .i64 mr))/\(w'.cell? ⟨N,0,none⟩=some (.int .i64 mk)/\w'.cell? ⟨N,1,none⟩=some (.int .i64 mr))/\w'.cell? ⟨bx,3,none⟩=some (.pointer (some c.ay))) (first|with_reducible assumption|(with_reducible exact y0)|go_keep)
     (first
      |(go_at_call 21;(with_reducible refine(CS _ bch).mono ?_);rintro e w11 ⟨rfl,D2,l11,d11,o11⟩;have y11:=KS.out _ _ (show Below W10.heap.size W10 _ from bch) o11;have Y11:=za (fun(w':World) (b:Below w11.heap.size w11 w')=>show(w'.cell? ⟨M,0,none⟩=some (.int .i64 mk)/\w'.cell? ⟨M,1,none⟩=some (.int .i64 mr))/\(w'.cell? ⟨N,0,none⟩=some (.int .i64 mk)/\w'.cell? ⟨N,1,none⟩=some (.int .i64 mr))/\w'.cell? ⟨bx,3,none⟩=some (.pointer (some c.ay)) from⟨⟨cb b (zf y11.1.1) y11.1.1,cb b (zf y11.1.2) y11.1.2⟩,⟨cb b (zf y11.2.1.1) y11.2.1.1,cb b (zf y11.2.1.2) y11.2.1.2⟩,cb b (zf y11.2.2) y11.2.2⟩);have H11:=za (fun(w':World) (b:Below w11.heap.size w11 w')=>ztQ l11 d11 o11 (bt HW.out bch) b HV.out.1 HV.out.2.1 HV.out.2.2.1 HV.out.2.2.2 NX.out BXH.out VBH.out);clear l11 d11 o11)
      |(go_at_call 22;(with_reducible refine(zyG (H11.out _ bch).1.law).mono ?_);rintro e w12 ⟨kh,hkh,rfl,rfl⟩;have hkI:¬(c.mo:Int)<(kh:Int):=(by omega))
      |(go_at_call 16;(with_reducible refine(CM _ ((H11.out _ bch).1.law.base)).mono ?_);rintro e w13 ⟨rfl,d13⟩;have B13:=za (bt (show Below w11.heap.size w11 _ from bch) d13.below);have y13:=Y11.out _ B13.out;clear d13))
    all_goals
     go_wp2
     go_roundg (gk-1)
     case measure=>have h1:=HA.out.2.2.1;simp at h1;omega
     case rel =>
      obtain⟨hAB,hkr,hB,hA⟩:=HA.out;simp at hB;exact⟨A++[(mk,mr)],B,k+1,D2,by rw[←hAB];simp,by omega,by omega,by simp[hA],by go_num,H11.out _ (bt B13.out bch)⟩
end Go.Proofs.YtlodkoimdoeopaaGreatDoor
