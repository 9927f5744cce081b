/- Parts, joined. -/
import Derived.Test.YtlodkoimdoeopaaGreatDoorQ20
import Derived.Test.YtlodkoimdoeopaaGreatDoorQ25
import Derived.Deep.DeepCutAuto
import Derived.Deep.LoopGhost
namespace Go.Proofs.YtlodkoimdoeopaaGreatDoor
open Go.RowKit
theorem P10.put0 {w:World} {b:Nat} {t:Til} (h:P10 w b t) (v:Int):P10 (w.setCell ⟨b,0,none⟩ (.int .i64 v)) b { t with tn:=v }:=by
 obtain⟨h0,h1,h2,h3,h4,h5,h6,h7,h8,h9⟩:=h;exact⟨World.cell?_setCell_same' _ _ _ (by rw[h0];rfl),(zc (Or.inr (by decide))).trans h1,(zc (Or.inr (by decide))).trans h2,(zc (Or.inr (by decide))).trans h3,(zc (Or.inr (by decide))).trans h4,(zc (Or.inr (by decide))).trans h5,(zc (Or.inr (by decide))).trans h6,(zc (Or.inr (by decide))).trans h7,(zc (Or.inr (by decide))).trans h8,(zc (Or.inr (by decide))).trans h9⟩
theorem P10.put1 {w:World} {b:Nat} {t:Til} (h:P10 w b t) (v:Int):P10 (w.setCell ⟨b,1,none⟩ (.int .i64 v)) b { t with tx:=v }:=by
 obtain⟨h0,h1,h2,h3,h4,h5,h6,h7,h8,h9⟩:=h;exact⟨(zc (Or.inr (by decide))).trans h0,World.cell?_setCell_same' _ _ _ (by rw[h1];rfl),(zc (Or.inr (by decide))).trans h2,(zc (Or.inr (by decide))).trans h3,(zc (Or.inr (by decide))).trans h4,(zc (Or.inr (by decide))).trans h5,(zc (Or.inr (by decide))).trans h6,(zc (Or.inr (by decide))).trans h7,(zc (Or.inr (by decide))).trans h8,(zc (Or.inr (by decide))).trans h9⟩
theorem P10.put2 {w:World} {b:Nat} {t:Til} (h:P10 w b t) (v:Int):P10 (w.setCell ⟨b,2,none⟩ (.int .i64 v)) b { t with ty:=v }:=by
 obtain⟨h0,h1,h2,h3,h4,h5,h6,h7,h8,h9⟩:=h;exact⟨(zc (Or.inr (by decide))).trans h0,(zc (Or.inr (by decide))).trans h1,World.cell?_setCell_same' _ _ _ (by rw[h2];rfl),(zc (Or.inr (by decide))).trans h3,(zc (Or.inr (by decide))).trans h4,(zc (Or.inr (by decide))).trans h5,(zc (Or.inr (by decide))).trans h6,(zc (Or.inr (by decide))).trans h7,(zc (Or.inr (by decide))).trans h8,(zc (Or.inr (by decide))).trans h9⟩
theorem P10.put3 {w:World} {b:Nat} {t:Til} (h:P10 w b t) (v:Int):P10 (w.setCell ⟨b,3,none⟩ (.int .i64 v)) b { t with tw:=v }:=by
 obtain⟨h0,h1,h2,h3,h4,h5,h6,h7,h8,h9⟩:=h;exact⟨(zc (Or.inr (by decide))).trans h0,(zc (Or.inr (by decide))).trans h1,(zc (Or.inr (by decide))).trans h2,World.cell?_setCell_same' _ _ _ (by rw[h3];rfl),(zc (Or.inr (by decide))).trans h4,(zc (Or.inr (by decide))).trans h5,(zc (Or.inr (by decide))).trans h6,(zc (Or.inr (by decide))).trans h7,(zc (Or.inr (by decide))).trans h8,(zc (Or.inr (by decide))).trans h9⟩
theorem P10.put4 {w:World} {b:Nat} {t:Til} (h:P10 w b t) (v:Int):P10 (w.setCell ⟨b,4,none⟩ (.int .i64 v)) b { t with th:=v }:=by
 obtain⟨h0,h1,h2,h3,h4,h5,h6,h7,h8,h9⟩:=h;exact⟨(zc (Or.inr (by decide))).trans h0,(zc (Or.inr (by decide))).trans h1,(zc (Or.inr (by decide))).trans h2,(zc (Or.inr (by decide))).trans h3,World.cell?_setCell_same' _ _ _ (by rw[h4];rfl),(zc (Or.inr (by decide))).trans h5,(zc (Or.inr (by decide))).trans h6,(zc (Or.inr (by decide))).trans h7,(zc (Or.inr (by decide))).trans h8,(zc (Or.inr (by decide))).trans h9⟩
theorem P10.put5 {w:World} {b:Nat} {t:Til} (h:P10 w b t) (v:Int):P10 (w.setCell ⟨b,5,none⟩ (.int .i64 v)) b { t with fx:=v }:=by
 obtain⟨h0,h1,h2,h3,h4,h5,h6,h7,h8,h9⟩:=h;exact⟨(zc (Or.inr (by decide))).trans h0,(zc (Or.inr (by decide))).trans h1,(zc (Or.inr (by decide))).trans h2,(zc (Or.inr (by decide))).trans h3,(zc (Or.inr (by decide))).trans h4,World.cell?_setCell_same' _ _ _ (by rw[h5];rfl),(zc (Or.inr (by decide))).trans h6,(zc (Or.inr (by decide))).trans h7,(zc (Or.inr (by decide))).trans h8,(zc (Or.inr (by decide))).trans h9⟩
theorem P10.put6 {w:World} {b:Nat} {t:Til} (h:P10 w b t) (v:Int):P10 (w.setCell ⟨b,6,none⟩ (.int .i64 v)) b { t with fy:=v }:=by
 obtain⟨h0,h1,h2,h3,h4,h5,h6,h7,h8,h9⟩:=h;exact⟨(zc (Or.inr (by decide))).trans h0,(zc (Or.inr (by decide))).trans h1,(zc (Or.inr (by decide))).trans h2,(zc (Or.inr (by decide))).trans h3,(zc (Or.inr (by decide))).trans h4,(zc (Or.inr (by decide))).trans h5,World.cell?_setCell_same' _ _ _ (by rw[h6];rfl),(zc (Or.inr (by decide))).trans h7,(zc (Or.inr (by decide))).trans h8,(zc (Or.inr (by decide))).trans h9⟩
theorem P10.put7 {w:World} {b:Nat} {t:Til} (h:P10 w b t) (v:Int):P10 (w.setCell ⟨b,7,none⟩ (.int .i64 v)) b { t with cx:=v }:=by
 obtain⟨h0,h1,h2,h3,h4,h5,h6,h7,h8,h9⟩:=h;exact⟨(zc (Or.inr (by decide))).trans h0,(zc (Or.inr (by decide))).trans h1,(zc (Or.inr (by decide))).trans h2,(zc (Or.inr (by decide))).trans h3,(zc (Or.inr (by decide))).trans h4,(zc (Or.inr (by decide))).trans h5,(zc (Or.inr (by decide))).trans h6,World.cell?_setCell_same' _ _ _ (by rw[h7];rfl),(zc (Or.inr (by decide))).trans h8,(zc (Or.inr (by decide))).trans h9⟩
theorem P10.put8 {w:World} {b:Nat} {t:Til} (h:P10 w b t) (v:Int):P10 (w.setCell ⟨b,8,none⟩ (.int .i64 v)) b { t with cy:=v }:=by
 obtain⟨h0,h1,h2,h3,h4,h5,h6,h7,h8,h9⟩:=h;exact⟨(zc (Or.inr (by decide))).trans h0,(zc (Or.inr (by decide))).trans h1,(zc (Or.inr (by decide))).trans h2,(zc (Or.inr (by decide))).trans h3,(zc (Or.inr (by decide))).trans h4,(zc (Or.inr (by decide))).trans h5,(zc (Or.inr (by decide))).trans h6,(zc (Or.inr (by decide))).trans h7,World.cell?_setCell_same' _ _ _ (by rw[h8];rfl),(zc (Or.inr (by decide))).trans h9⟩
theorem P10.put9 {w:World} {b:Nat} {t:Til} (h:P10 w b t) (v:Int):P10 (w.setCell ⟨b,9,none⟩ (.int .i64 v)) b { t with rg:=v }:=by
 obtain⟨h0,h1,h2,h3,h4,h5,h6,h7,h8,h9⟩:=h;exact⟨(zc (Or.inr (by decide))).trans h0,(zc (Or.inr (by decide))).trans h1,(zc (Or.inr (by decide))).trans h2,(zc (Or.inr (by decide))).trans h3,(zc (Or.inr (by decide))).trans h4,(zc (Or.inr (by decide))).trans h5,(zc (Or.inr (by decide))).trans h6,(zc (Or.inr (by decide))).trans h7,(zc (Or.inr (by decide))).trans h8,World.cell?_setCell_same' _ _ _ (by rw[h9];rfl)⟩
theorem F10.put {w:World} {b:Nat} (h:F10 w b) (c o:Nat) (v:Value):F10 (w.setCell ⟨c,o,none⟩ v) b:=by
 obtain⟨f0,f1,f2,f3,f4,f5,f6,f7,f8,f9,hl⟩:=h;unfold F10;simp only[World.frozen?_setCell];exact⟨f0,f1,f2,f3,f4,f5,f6,f7,f8,f9,by simpa [World.setCell] using hl⟩
def zgC (w:World) (b:Nat) (t:Til):World:=(((((((((w.setCell ⟨b,0,none⟩ (.int .i64 t.tn)).setCell ⟨b,1,none⟩ (.int .i64 t.tx)).setCell ⟨b,2,none⟩ (.int .i64 t.ty)).setCell ⟨b,3,none⟩ (.int .i64 t.tw)).setCell ⟨b,4,none⟩ (.int .i64 t.th)).setCell ⟨b,5,none⟩ (.int .i64 t.fx)).setCell ⟨b,6,none⟩ (.int .i64 t.fy)).setCell ⟨b,7,none⟩ (.int .i64 t.cx)).setCell ⟨b,8,none⟩ (.int .i64 t.cy)).setCell ⟨b,9,none⟩ (.int .i64 t.rg)
theorem P10.fill {w:World} {b:Nat} {s:Til} (h:P10 w b s) (t:Til):P10 (zgC w b t) b t:=(((((((((h.put0 t.tn).put1 t.tx).put2 t.ty).put3 t.tw).put4 t.th).put5 t.fx).put6 t.fy).put7 t.cx).put8 t.cy).put9 t.rg
theorem zeo {a w:World} {b:Nat} (h:Below a.heap.size a w) (hb:a.heap.size<=b) (t:Til):Below a.heap.size a (zgC w b t):=bs (bs (bs (bs (bs (bs (bs (bs (bs (bs h hb _) hb _) hb _) hb _) hb _) hb _) hb _) hb _) hb _) hb _
theorem F10.fill {w:World} {b:Nat} (h:F10 w b) (t:Til):F10 (zgC w b t) b:=(((((((((h.put _ _ _).put _ _ _).put _ _ _).put _ _ _).put _ _ _).put _ _ _).put _ _ _).put _ _ _).put _ _ _).put _ _ _
set_option maxHeartbeats 8000000 in
set_option maxRecDepth 100000 in
theorem zq9 {w:World} {v x y:Value} {S:Stg} {a b:Int} (h:PlanAt w v x y S a b) (i:Int) (i0:0<=i) (i1:i<zcp S.lx S.ly a b) :
  Calls Tryz.prog 108 #[v,.int .i64 i] w λe w'=>e=.returned (zg6 (zjm S.lx S.ly a b i))/\Below w.heap.size w w':=by
 have CO:=λw' (b':Below w.heap.size w w')=>zwG (h.below b') i i0 i1
 obtain⟨g,rfl,hs,tx,ty,ht⟩:=h;obtain⟨ax,rfl⟩:=tx.ptr;obtain⟨ay,rfl⟩:=ty.ptr;obtain⟨a0,a1,b0,b1⟩:=zcr.1 ht;have ok:=zwh (LX:=S.lx) (LY:=S.ly) tx.ok.1 ty.ok.1 tx.ok.2.1 a0 b0 i0 i1;have m1:=tx.ok.2.2.1;have n1:=ty.ok.2.2.1;have CM:=λw' (b':Below w.heap.size w w')=>zuD (ty.below b')
 have CX:=λi j (h0 : -9223372036854775808<=i) h1 (h2 : -9223372036854775808<=j) h3 w' (b':Below w.heap.size w w')=>zf8 (tx.below b') i j h0 h1 h2 h3
 have CY:=λi j (h0 : -9223372036854775808<=i) h1 (h2 : -9223372036854775808<=j) h3 w' (b':Below w.heap.size w w')=>zf8 (ty.below b') i j h0 h1 h2 h3
 obtain⟨X,Y,Wd,Hd,fx,fy,cx,cy,M,hE,hX,hY⟩:∃ X Y Wd Hd fx fy cx cy M,zjm S.lx S.ly a b i=⟨i,X,Y,Wd,Hd,fx,fy,cx,cy,M⟩/\(X=i % zu S.lx a*a/\Y=i / zu S.lx a*b/\Wd=min a ((S.lx.length:Int)-i % zu S.lx a*a)/\Hd=min b ((S.ly.length:Int)-i / zu S.lx a*b)/\M=zaL S.ly) /\
   ((fx=(zav S.lx X (X+Wd)).1/\cx=(zav S.lx X (X+Wd)).2.1-(zav S.lx X (X+Wd)).1)/\fy=(zav S.ly Y (Y+Hd)).1/\cy=(zav S.ly Y (Y+Hd)).2.1-(zav S.ly Y (Y+Hd)).1) :=
  ⟨_,_,_,_,_,_,_,_,_,rfl,⟨rfl,rfl,rfl,rfl,rfl⟩,⟨rfl,rfl⟩,rfl,rfl⟩
 rw[hE]at ok ⊢;obtain⟨⟨X0,X1⟩,⟨Y0,Y1⟩,⟨W0,W1⟩,⟨H0,H1⟩,⟨f0,f1⟩,⟨f2,f3⟩,⟨f4,f5⟩,⟨f6,f7⟩,⟨f8,f9⟩⟩:=ok;simp only at X0 X1 Y0 Y1 W0 W1 H0 H1 f0 f1 f2 f3 f4 f5 f6 f7 f8 f9;obtain⟨e1,e2,e3,e4,e5⟩:=hX;obtain⟨⟨g1,g2⟩,g3,g4⟩:=hY;rw[←e3,←e4,←e1,←e2]at CO;rw[←e5]at CM;have wx:IntKind.i64.wrap (X+Wd)=X+Wd:=by rw[IntKind.wrap_i64];omega
 have wy:IntKind.i64.wrap (Y+Hd)=Y+Hd:=by rw[IntKind.wrap_i64];omega
 replace CX:=CX X (X+Wd) (by omega) (by omega) (by omega) (by omega)
 replace CY:=CY Y (Y+Hd) (by omega) (by omega) (by omega) (by omega)
 rw[←g2,←g1]at CX;rw[←g4,←g3]at CY;have HS:=za hs;have gl:g<w.heap.size:=ze hs.1.1;unfold zg6;clear hs tx ty ht hE e1 e2 e3 e4 e5 g1 g2 g3 g4 m1 n1 i1
 go_enter Tryz.func108,Tryz.ntmps108
 go_upto_region 2 with(go_at_call 151;(with_reducible refine(CO _ (zg _ _)).mono ?_);rintro e w5 ⟨rfl,b5⟩;have D5:=za (bt (zg w (.cells #[.int .i64 0,.int .i64 0,.int .i64 0,.int .i64 0,.int .i64 0,.int .i64 0,.int .i64 0,.int .i64 0,.int .i64 0,.int .i64 0] 43)) b5);have T5:=za ((P10.new w 43 zf1).below b5);have F5:=za ((F10.new w #[.int .i64 0,.int .i64 0,.int .i64 0,.int .i64 0,.int .i64 0,.int .i64 0,.int .i64 0,.int .i64 0,.int .i64 0,.int .i64 0] 43).below b5))
 obtain⟨W,hW⟩:∃ W,w5.alloc (.cells #[.int .i64 X,.int .i64 Y,.int .i64 Wd,.int .i64 Hd] 41)=W:=⟨_,rfl⟩;obtain⟨RB,hRB⟩:∃ RB,w5.heap.size=RB:=⟨_,rfl⟩;have BW:=za (show Below w5.heap.size w5 W by rw[←hW];exact zg _ _);have RW:=za (show R4 W RB (.int .i64 X) (.int .i64 Y) (.int .i64 Wd) (.int .i64 Hd) by rw[←hW,←hRB];exact R4.new _ _ _ _ _ _);have ZW:RB<W.heap.size:=by rw[←hW,←hRB];simp
 have DW:=za (bt D5.out BW.out);have TW:=za (T5.out.below BW.out);have FW:=za (F5.out.below BW.out);rw[hW,hRB];clear hW hRB BW D5 T5 F5 b5;have z0:w.heap.size<W.heap.size:=FW.out.2.2.2.2.2.2.2.2.2.2
 go_cut [6] (λt wx=>∃ TB,t=.pointer (some ⟨TB,0,none⟩)/\W.heap.size<=TB/\P10 wx TB ⟨i,X,Y,Wd,Hd,0,0,0,0,M⟩/\F10 wx TB/\Below W.heap.size W wx)
 case first =>
  obtain⟨_,⟨y1,_⟩,_⟩:=HS.out.below DW.out;obtain⟨⟨r0,_⟩,⟨r1,_⟩,⟨r2,_⟩,⟨r3,_⟩⟩:=RW.out;have hTN:=za (show P10 (W.drew.alloc (.cells #[.int .i64 0,.int .i64 0,.int .i64 0,.int .i64 0,.int .i64 0,.int .i64 0,.int .i64 0,.int .i64 0,.int .i64 0,.int .i64 0] 43)) W.heap.size ⟨0,0,0,0,0,0,0,0,0,0⟩ from P10.new W.drew 43 zf1);have hFN:=za (show F10 (W.drew.alloc (.cells #[.int .i64 0,.int .i64 0,.int .i64 0,.int .i64 0,.int .i64 0,.int .i64 0,.int .i64 0,.int .i64 0,.int .i64 0,.int .i64 0] 43)) W.heap.size from F10.new W.drew #[.int .i64 0,.int .i64 0,.int .i64 0,.int .i64 0,.int .i64 0,.int .i64 0,.int .i64 0,.int .i64 0,.int .i64 0,.int .i64 0] 43);have n1:W.heap.size≠g:=by omega
  have n2:W.heap.size≠RB:=by omega
  go_region_held3 (λw'=>w'.cell? ⟨g,1,none⟩=some (.pointer (some ay))/\w'.cell? ⟨RB,0,none⟩=some (.int .i64 X)/\w'.cell? ⟨RB,1,none⟩=some (.int .i64 Y)/\w'.cell? ⟨RB,2,none⟩=some (.int .i64 Wd)/\w'.cell? ⟨RB,3,none⟩=some (.int .i64 Hd)) (first|with_reducible assumption|(with_reducible exact⟨x1,s0,s1,s2,s3⟩)|(simp only[zc (Or.inl n1),zc (Or.inl n2),x1,s0,s1,s2,s3,and_self];done)|go_keep)
   (first
    |(go_at_call 16;(with_reducible refine(CM _ (bt DW.out (by repeat (first|exact Below.refl _ _|(with_reducible refine bdN ?_ _)|with_reducible refine bd ?_|with_reducible refine ba ?_ _)))).mono ?_);rintro e w8 ⟨rfl,b8⟩;have D8:Below W.heap.size W w8:=bt (by repeat (first|exact Below.refl _ _|(with_reducible refine bdN ?_ _)|with_reducible refine bd ?_|with_reducible refine ba ?_ _)) b8;have K8:=za D8;obtain⟨_,⟨x1,_⟩,_⟩:=HS.out.below (bt DW.out D8);obtain⟨⟨s0,_⟩,⟨s1,_⟩,⟨s2,_⟩,⟨s3,_⟩⟩:=RW.out.below D8;clear D8;(first|(have P8:=za (hTN.out.below b8);have F8:=za (hFN.out.below b8);obtain⟨p0,p1,p2,p3,p4,p5,p6,p7,p8,p9⟩:=P8.out;obtain⟨q0,q1,q2,q3,q4,q5,q6,q7,q8,q9,_⟩:=F8.out;simp only at p0 p1 p2 p3 p4 p5 p6 p7 p8 p9)|skip)))
  ·go_wp2_with fail
   go_meet;exact⟨_,rfl,K8.out.size,P10.new _ _ ⟨i,X,Y,Wd,Hd,0,0,0,0,M⟩,F10.new _ _ _,ba K8.out _⟩
  ·go_wp2_with fail
   go_meet;exact⟨_,rfl,Nat.le_refl _,P8.out.fill ⟨i,X,Y,Wd,Hd,0,0,0,0,M⟩,F8.out.fill ⟨i,X,Y,Wd,Hd,0,0,0,0,M⟩,zeo K8.out (Nat.le_refl _) ⟨i,X,Y,Wd,Hd,0,0,0,0,M⟩⟩
 case rest =>
  obtain⟨TB,rfl,hTB,hP,hF,hB⟩:=hcut;have n1:TB≠g:=by omega
  have n2:TB≠RB:=by omega
  have aP:=za hP;have aF:=za hF;have aK:=za hB;clear hP hF hB
  go_upto_region 3 with fail
  go_cut [] (λwx=>P10 wx TB ⟨i,X,Y,Wd,Hd,fx,0,cx,0,M⟩/\F10 wx TB/\Below W.heap.size W wx)
  case first =>
   have y8:=HS.out.below (bt DW.out aK.out);obtain⟨⟨y0,_⟩,_⟩:=y8;have ry:=RW.out.below aK.out;obtain⟨⟨r0,_⟩,⟨r1,_⟩,⟨r2,_⟩,⟨r3,_⟩⟩:=ry
   go_region_held3 (λw'=>w'.cell? ⟨g,0,none⟩=some (.pointer (some ax))/\w'.cell? ⟨RB,0,none⟩=some (.int .i64 X)/\w'.cell? ⟨RB,2,none⟩=some (.int .i64 Wd)) (first|with_reducible assumption|(with_reducible exact⟨y0,r0,r2⟩)|(with_reducible exact⟨x0,s0,s2⟩)|(simp only[zc (Or.inl n1),zc (Or.inl n2),x0,s0,s2,and_self];done)|go_keep)
    (first
     |(go_at_call 42;(with_reducible refine(CX _ (bt DW.out (bt aK.out (bd (Below.refl _ _))))).mono ?_);rintro e w8 ⟨rfl,b8⟩;have D8:Below W.heap.size W w8:=bt aK.out (bt (bd (Below.refl _ _)) b8);have K8:=za D8;obtain⟨⟨x0,_⟩,_⟩:=HS.out.below (bt DW.out D8);obtain⟨⟨s0,_⟩,⟨s1,_⟩,⟨s2,_⟩,⟨s3,_⟩⟩:=RW.out.below D8;clear D8;have P8:=za ((aP.out.below (bd (Below.refl _ _))).below b8);have F8:=za ((aF.out.below (bd (Below.refl _ _))).below b8);obtain⟨p0,p1,p2,p3,p4,p5,p6,p7,p8,p9⟩:=P8.out;obtain⟨q0,q1,q2,q3,q4,q5,q6,q7,q8,q9,_⟩:=F8.out;simp only at p0 p1 p2 p3 p4 p5 p6 p7 p8 p9))
   all_goals
    go_wp2_with fail
    go_meet
   all_goals first
    |exact⟨(P8.out.put5 fx).put7 cx,(F8.out.put _ _ _).put _ _ _,bs (bs K8.out hTB _) hTB _⟩
    |exact⟨(P8.out.put7 cx).put5 fx,(F8.out.put _ _ _).put _ _ _,bs (bs K8.out hTB _) hTB _⟩
  case rest =>
   obtain⟨hP,hF,hB⟩:=hcut;have bP:=za hP;have bF:=za hF;have bK:=za hB;clear hP hF hB aP aF aK
   go_upto_region 4 with fail
   go_cut [] (λwx=>P10 wx TB ⟨i,X,Y,Wd,Hd,fx,fy,cx,cy,M⟩/\F10 wx TB/\Below W.heap.size W wx)
   case first =>
    have y8:=HS.out.below (bt DW.out bK.out);obtain⟨_,⟨y0,_⟩,_⟩:=y8;have ry:=RW.out.below bK.out;obtain⟨⟨r0,_⟩,⟨r1,_⟩,⟨r2,_⟩,⟨r3,_⟩⟩:=ry
    go_region_held3 (λw'=>w'.cell? ⟨g,1,none⟩=some (.pointer (some ay))/\w'.cell? ⟨RB,1,none⟩=some (.int .i64 Y)/\w'.cell? ⟨RB,3,none⟩=some (.int .i64 Hd)) (first|with_reducible assumption|(with_reducible exact⟨y0,r1,r3⟩)|(with_reducible exact⟨x0,s1,s3⟩)|(simp only[zc (Or.inl n1),zc (Or.inl n2),x0,s1,s3,and_self];done)|go_keep)
     (first
      |(go_at_call 42;(with_reducible refine(CY _ (bt DW.out (bt bK.out (bd (Below.refl _ _))))).mono ?_);rintro e w8 ⟨rfl,b8⟩;have D8:Below W.heap.size W w8:=bt bK.out (bt (bd (Below.refl _ _)) b8);have K8:=za D8;obtain⟨_,⟨x0,_⟩,_⟩:=HS.out.below (bt DW.out D8);obtain⟨⟨s0,_⟩,⟨s1,_⟩,⟨s2,_⟩,⟨s3,_⟩⟩:=RW.out.below D8;clear D8;have P8:=za ((bP.out.below (bd (Below.refl _ _))).below b8);have F8:=za ((bF.out.below (bd (Below.refl _ _))).below b8);obtain⟨p0,p1,p2,p3,p4,p5,p6,p7,p8,p9⟩:=P8.out;obtain⟨q0,q1,q2,q3,q4,q5,q6,q7,q8,q9,_⟩:=F8.out;simp only at p0 p1 p2 p3 p4 p5 p6 p7 p8 p9))
    all_goals
     go_wp2_with fail
     go_meet
    all_goals first
     |exact⟨(P8.out.put6 fy).put8 cy,(F8.out.put _ _ _).put _ _ _,bs (bs K8.out hTB _) hTB _⟩
     |exact⟨(P8.out.put8 cy).put6 fy,(F8.out.put _ _ _).put _ _ _,bs (bs K8.out hTB _) hTB _⟩
   case rest =>
    obtain⟨hP,hF,hB⟩:=hcut;have BZ:=za (bt DW.out hB);have PZ:=za (TW.out.below hB);have FZ:=za (FW.out.below hB);have E:=za (PZ.out.fill ⟨i,X,Y,Wd,Hd,fx,fy,cx,cy,M⟩);have EB:=za (zeo BZ.out (Nat.le_refl _) ⟨i,X,Y,Wd,Hd,fx,fy,cx,cy,M⟩);obtain⟨p0,p1,p2,p3,p4,p5,p6,p7,p8,p9⟩:=hP;obtain⟨t0,t1,t2,t3,t4,t5,t6,t7,t8,t9⟩:=PZ.out;obtain⟨q0,q1,q2,q3,q4,q5,q6,q7,q8,q9,_⟩:=FZ.out;unfold zf1 at t0 t1 t2 t3 t4 t5 t6 t7 t8 t9;simp only at p0 p1 p2 p3 p4 p5 p6 p7 p8 p9 t0 t1 t2 t3 t4 t5 t6 t7 t8 t9;clear hF hB HS RW DW TW FW bP bF bK;go_wp2;obtain⟨u0,u1,u2,u3,u4,u5,u6,u7,u8,u9⟩:=E.out;unfold zgC at u0 u1 u2 u3 u4 u5 u6 u7 u8 u9;simp only at u0 u1 u2 u3 u4 u5 u6 u7 u8 u9;exact bodyPost_ret (v:=.agg #[.int .i64 i,.int .i64 X,.int .i64 Y,.int .i64 Wd,.int .i64 Hd,.int .i64 fx,.int .i64 fy,.int .i64 cx,.int .i64 cy,.int .i64 M]) (by simp[results,Tryz.results108,go_sem,u0,u1,u2,u3,u4,u5,u6,u7,u8,u9]) rfl ⟨rfl,EB.out⟩
theorem ztE {w0 w w5 w7:World} {jb h2 cap:Nat} {F R:Nat->Prop} {c:JobC} {G:List Int} {E:Int} {y n:Nat} {ad:Option Addr} (K:JobK w0 c) (J:JobAt w0 w jb F R c G E y (n+1)) (hE:¬E<(zf c.S.ly y).1+((zf c.S.ly y).2.length:Int)) (g5:w.grownBy w5 (some h2)) (z5:w.heap.size<w5.heap.size)
  (b7:Below (w5.setCell ⟨jb,20,none⟩ (.int .i64 ((y:Int)+1))).heap.size (w5.setCell ⟨jb,20,none⟩ (.int .i64 ((y:Int)+1))) w7) (hr:RowAt .i64 w7 ad (zf c.S.ly (y+1)).2) (hf:FarRow (w5.setCell ⟨jb,20,none⟩ (.int .i64 ((y:Int)+1))).heap.size ad (zf c.S.ly (y+1)).2)
  (hj:jb≠h2) (hF:¬F h2) (hR:¬R h2) (hb2:w0.heap.size<=h2) :
  ∃ F',JobAt w0 ((w7.setCell ⟨jb,21,none⟩ (.int .i64 (zf c.S.ly (y+1)).1)).setCell ⟨jb,22,none⟩ (.slice ad (zf c.S.ly (y+1)).2.length cap)) jb F' R c G E (y+1) n /\
   Off (λk=>k=jb\/k=h2) w ((w7.setCell ⟨jb,21,none⟩ (.int .i64 (zf c.S.ly (y+1)).1)).setCell ⟨jb,22,none⟩ (.slice ad (zf c.S.ly (y+1)).2.length cap))/\∀ k,F' k->F k\/w.heap.size<k:=by
 obtain⟨W6,hW6⟩:∃ W6,w5.setCell ⟨jb,20,none⟩ (.int .i64 ((y:Int)+1))=W6:=⟨_,rfl⟩;have hl:=J.lt;have s6:W6.heap.size=w5.heap.size:=by rw[←hW6];simp[World.setCell]
 have O5:Off (λk=>k=jb\/k=h2) w w5:=(Off.of_grown g5).mono (λk _ e=>Or.inr e);have O6:Off (λk=>k=jb\/k=h2) w W6:=by rw[←hW6];exact O5.set (λ_=>Or.inl rfl) _
 have R6:RecJ w W6 jb:=by
  rw[←hW6];exact(RecJ.off (Off.of_grown g5) hj hl).trans (RecJ.set w5 jb 20 (by decide) _)
 have c20:W6.cell? ⟨jb,20,none⟩=some (.int .i64 ((y:Int)+1)):=by
  rw[←hW6];exact World.cell?_setCell_same' _ _ _ (by rw[cg g5 (λe=>hj (Option.some.inj e)) J.c20];rfl)
 have c18:W6.cell? ⟨jb,18,none⟩=some (.int .i64 (G.length:Int)):=by
  rw[←hW6];exact(zc (Or.inr (by decide))).trans (cg g5 (λe=>hj (Option.some.inj e)) J.c18)
 have c19:W6.cell? ⟨jb,19,none⟩=some (.int .i64 E):=by
  rw[←hW6];exact(zc (Or.inr (by decide))).trans (cg g5 (λe=>hj (Option.some.inj e)) J.c19)
 have c21:W6.cell? ⟨jb,21,none⟩=some (.int .i64 (zf c.S.ly y).1):=by
  rw[←hW6];exact(zc (Or.inr (by decide))).trans (cg g5 (λe=>hj (Option.some.inj e)) J.c21)
 obtain⟨ad0,cap0,l0,-,-⟩:=J.line;have c22:W6.cell? ⟨jb,22,none⟩=some (.slice ad0 (zf c.S.ly y).2.length cap0):=by
  rw[←hW6];exact(zc (Or.inr (by decide))).trans (cg g5 (λe=>hj (Option.some.inj e)) l0)
 rw[hW6]at b7 hf;clear hW6;have hl6:jb<W6.heap.size:=ze c18;have s7:=b7.size;have O7:Off (λk=>k=jb\/k=h2) w w7:=O6.trans (Off.of_below (S:=λk=>k=jb\/k=h2) b7) (λ_ _ e=>e);have O9:Off (λk=>k=jb\/k=h2) w ((w7.setCell ⟨jb,21,none⟩ (.int .i64 (zf c.S.ly (y+1)).1)).setCell ⟨jb,22,none⟩ (.slice ad (zf c.S.ly (y+1)).2.length cap)):=(O7.set (λ_=>Or.inl rfl) _).set (λ_=>Or.inl rfl) _;have R9:RecJ w ((w7.setCell ⟨jb,21,none⟩ (.int .i64 (zf c.S.ly (y+1)).1)).setCell ⟨jb,22,none⟩ (.slice ad (zf c.S.ly (y+1)).2.length cap)) jb :=
  ((R6.trans (RecJ.off (T:=λ_=>False) (Off.of_below b7) (λe=>e) hl6)).trans (RecJ.set w7 jb 21 (by decide) _)).trans (RecJ.set _ jb 22 (by decide) _)
 have keep:∀ o u,o≠21->o≠22->W6.cell? ⟨jb,o,none⟩=some u->((w7.setCell ⟨jb,21,none⟩ (.int .i64 (zf c.S.ly (y+1)).1)).setCell ⟨jb,22,none⟩ (.slice ad (zf c.S.ly (y+1)).2.length cap)).cell? ⟨jb,o,none⟩=some u:=λo u h1 h2 hu =>
  (zc (Or.inr (λe=>h2 e.symm))).trans ((zc (Or.inr (λe=>h1 e.symm))).trans (cb b7 hl6 hu))
 obtain⟨hy,-,-,-⟩:=J.E_in K;have st:=J.st;rw[zcJ hy]at st;have st2:JobG c.mo G E (c.ls (y+1) n):=st.written hE;have nF:∀ k,F k->¬(k=jb\/k=h2):=λk hk e=>by
  rcases e with e|e
  ·exact J.fj (e ▸ hk)
  ·exact hF (e ▸ hk)
 have hm:=J.mem;obtain⟨pb,pc,cbk,cc,rb,rc,r,fx,RR⟩:=hm;have newF:∀ k,(F k\/((zf c.S.ly (y+1)).2≠[]/\∃ o,ad=some ⟨k,o,none⟩/\W6.heap.size<=k))->F k\/(w.heap.size<k/\k<w7.heap.size):=λk hk=>by
  rcases hk with hk|⟨hne,o,he,hk⟩
  ·exact Or.inl hk
  ·refine Or.inr ⟨by omega,?_⟩;subst he;have h0:0<(zf c.S.ly (y+1)).2.length:=List.length_pos_iff.2 hne;exact ze (hr.at h0)
 have s9:((w7.setCell ⟨jb,21,none⟩ (.int .i64 (zf c.S.ly (y+1)).1)).setCell ⟨jb,22,none⟩ (.slice ad (zf c.S.ly (y+1)).2.length cap)).heap.size=w7.heap.size:=by simp[World.setCell]
 refine⟨λk=>F k\/((zf c.S.ly (y+1)).2≠[]/\∃ o,ad=some ⟨k,o,none⟩/\W6.heap.size<=k),⟨J.bel.trans (O9.below J.bel.size (λk e=>by
   rcases e with e|e
   ·exact e ▸ J.jlo
   ·exact e ▸ hb2)),J.jlo,λk hk=>?_,λk hk=>?_,λe=>?_,J.rj,λk hk e=>?_,keep 18 _ (by decide) (by decide) c18,keep 19 _ (by decide) (by decide) c19,keep 20 _ (by decide) (by decide) c20,?_,?_,st2,by have:=J.yn;omega,J.len,⟨pb,pc,cbk,cc,rb,rc,r,(fx.off O9 R9 nF).more (λk hk=>Or.inl hk),?_⟩⟩,O9,λk hk=>?_⟩
 ·rcases newF k hk with q|q
  ·exact J.flo k q
  ·have:=J.bel.size;omega
 ·rw[s9];rcases newF k hk with q|q
  ·have:=J.fhi k q;omega
  ·exact q.2
 ·rcases newF jb e with q|q
  ·exact J.fj q
  ·omega
 ·rcases newF k hk with q|q
  ·exact J.fr k q e
  ·have:=RR.hi k e;omega
 ·exact(zc (Or.inr (by decide))).trans (World.cell?_setCell_same' _ _ _ (by rw[cb b7 hl6 c21];rfl))
 ·refine⟨ad,cap,World.cell?_setCell_same' _ _ _ (by rw[zc (Or.inr (by decide)),cb b7 hl6 c22];rfl),?_,?_⟩
  ·rcases hf with e|⟨b,o,rfl,hb⟩
   ·exact .inl e
   ·have ne:jb≠b:=by omega
    exact(hr.grown (zn w7 jb 21 _) (λe=>ne (Option.some.inj e).symm)).grown (zn _ jb 22 _) (λe=>ne (Option.some.inj e).symm)
  ·rcases hf with e|⟨b,o,rfl,hb⟩
   ·exact .inl e
   ·by_cases e:(zf c.S.ly (y+1)).2=[]
    ·exact .inl e
    ·exact .inr ⟨b,o,rfl,Or.inr ⟨e,o,rfl,hb⟩⟩
 ·exact RR.off O9 (λk hk e=>by
   rcases e with e|e
   ·exact J.rj (e ▸ hk)
   ·exact hR (e ▸ hk))
 ·rcases newF k hk with q|q
  ·exact Or.inl q
  ·exact Or.inr q.1
set_option maxHeartbeats 16000000 in
set_option maxRecDepth 100000 in
theorem zoy {w0 w:World} {jb h2:Nat} {F R:Nat->Prop} {c:JobC} {G:List Int} {E:Int} {y n:Nat} {O:Im} (K:JobK w0 c) (J:JobAt w0 w jb F R c G E y (n+1)) (hE:¬E<(zf c.S.ly y).1+((zf c.S.ly y).2.length:Int)) (HO:ImgAt w c.g2 h2 O) (ow:O.iw=(c.S.lx.length:Int)) (oh:O.ih=(c.S.ly.length:Int)) (oc:O.ic=c.I.ic) (ot:O.it=c.I.it)
  (hj:jb≠h2) (hF:¬F h2) (hR:¬R h2) (hb2:w0.heap.size<=h2) (hg2:jb≠c.g2) :
  Calls Tryz.prog 21 #[.pointer (some ⟨jb,0,none⟩)] w λe w'=>e=.returned (mvV (2,(y:Int)))/\∃ F' R',JobAt w0 w' jb F' R' c G E (y+1) n/\ImgAt w' c.g2 h2 (zac O c.I c.S c.x0 c.W y 1 0)/\Off (λk=>k=jb\/k=h2) w w'/\(∀ k,F' k->F k\/w.heap.size<k)/\∀ k,R' k->R k\/w.heap.size<=k:=by
 obtain⟨hy,e1,e2,lok⟩:=J.E_in K;have hn:zeU c E y (n+1)=(2,(y:Int)):=by unfold zeU;rw[if_neg (Nat.succ_ne_zero n),if_neg hE]
 have CN:=λw' (b:Below w.heap.size w w')=>zhQ K (J.below b)
 rw[hn]at CN;have HK:=za K;have HJ:=za J;have HE:=za hE;have hl:=J.lt;have CW:=za (λw' (b:Below w.heap.size w w')=>zqy K (J.below b) hE (HO.below b) ow oh oc ot hj hF hR hb2);have TR:=za (show zac O c.I c.S c.x0 c.W y 0 (c.W*c.C)=zac O c.I c.S c.x0 c.W y 1 0 from by
  have:=zsT (O:=O) (I:=c.I) (S:=c.S) (x0:=c.x0) (W:=c.W) (y0:=y) (k:=0) (by rw[K.c1.2.2];exact K.c1.1) K.xw;rw[K.c1.2.2]at this;exact this)
 rw[TR.out]at CW;have HA:=za (And.intro hj (And.intro hF (And.intro hR (And.intro hb2 hg2))));have HLT:=za (And.intro HO.lt.1 HO.lt.2);obtain⟨pb,pc,cbk,cc,rb,rc,r,fx,-⟩:=J.mem;have q3:=fx.c3;have q20:=J.c20;have q21:=J.c21;obtain⟨ad0,cap0,q22,-,-⟩:=J.line;have FZ:=za fx.fz;have yl:y<=65536:=by have:=K.ty.ok.2.2.1;omega
 have lnY:=zgM c.S.ly (y+1);have CL:=za (λw' (b:Below w0.heap.size w0 w')=>zlv (K.ty.below b) ((y+1:Nat):Int) (by omega) (by omega) _ (by rw[lnY]));rw[lnY,show((y+1:Nat):Int)=(y:Int)+1 by omega]at CL;have A0:=za (zg w (.cells #[.int .i64 0,.int .i64 0] 65));have R0:=za (show((w.alloc (.cells #[.int .i64 0,.int .i64 0] 65)).cell? ⟨w.heap.size,0,none⟩=some (.int .i64 0)/\(w.alloc (.cells #[.int .i64 0,.int .i64 0] 65)).cell? ⟨w.heap.size,1,none⟩=some (.int .i64 0))/\∀ o,(w.alloc (.cells #[.int .i64 0,.int .i64 0] 65)).frozen? ⟨w.heap.size,o,none⟩=false by refine⟨⟨?_,?_⟩,λo=>?_⟩<;>simp);have MV:=za (fun(w:World)=>show(w.alloc (.cells #[.int .i64 2,.int .i64 (y:Int)] 65)).cell? ⟨w.heap.size,0,none⟩=some (.int .i64 2)/\(w.alloc (.cells #[.int .i64 2,.int .i64 (y:Int)] 65)).cell? ⟨w.heap.size,1,none⟩=some (.int .i64 (y:Int)) by constructor<;>simp);have X:=za (And.intro q3 (And.intro q20 (And.intro q21 q22)));unfold mvV at CN ⊢;clear K J hE hn lok HO ow oh oc ot hj hF hR hb2 hg2 fx q3 q20 q21 q22 lnY e1 e2
 go_enter Tryz.func21,Tryz.ntmps21
 go_upto_region 7 with(go_at_call 20;(with_reducible refine(CN _ A0.out).mono ?_);rintro e w1 ⟨rfl,b1⟩;have B1:=za (bt A0.out b1);have R1:=za (show(w1.cell? ⟨w.heap.size,0,none⟩=some (.int .i64 0)/\w1.cell? ⟨w.heap.size,1,none⟩=some (.int .i64 0))/\∀ o,w1.frozen? ⟨w.heap.size,o,none⟩=false from⟨⟨cb b1 (by simp) R0.out.1.1,cb b1 (by simp) R0.out.1.2⟩,λo=>fb b1 (by simp) (R0.out.2 o)⟩);clear b1)
 obtain⟨V1,hV1⟩:∃ V1,w1.alloc (.cells #[.int .i64 2,.int .i64 (y:Int)] 65)=V1:=⟨_,rfl⟩;have BV:=za (show Below w.heap.size w V1 by rw[←hV1];exact ba B1.out _);have MV1:=za (MV.out w1);have RV1:=za (show(V1.cell? ⟨w.heap.size,0,none⟩=some (.int .i64 0)/\V1.cell? ⟨w.heap.size,1,none⟩=some (.int .i64 0))/\∀ o,V1.frozen? ⟨w.heap.size,o,none⟩=false by
  rw[←hV1];exact⟨⟨ca (ze R1.out.1.1) R1.out.1.1,ca (ze R1.out.1.2) R1.out.1.2⟩,λo=>fa (ze R1.out.1.1) (R1.out.2 o)⟩)
 have HVL:=za (show w.heap.size<V1.heap.size from ze RV1.out.1.1);rw[hV1]at MV1;obtain⟨MB,hMB⟩:∃ MB,w1.heap.size=MB:=⟨_,rfl⟩;rw[hMB]at MV1;have HMB:=za (show w.heap.size<MB from hMB ▸ (by have:=B1.out.size;have:=ze R1.out.1.1;omega));rw[hV1,hMB];clear hV1 hMB MV R1 R0 CN
 go_upto_region 9 with(go_at_call 52;(with_reducible refine(CW.out _ BV.out).mono ?_);rintro e w5 ⟨rfl,hi5,g5⟩;have HI5:=za hi5;have HG5:=za g5;have y20:=cg g5 (λe=>HA.out.1 (Option.some.inj e)) (cb BV.out hl X.out.2.1);have f20:=fg g5 (λe=>HA.out.1 (Option.some.inj e)) (cb BV.out hl X.out.2.1) (fb BV.out hl (FZ.out 20));clear hi5 g5)
 have x20:(w5.setCell ⟨jb,20,none⟩ (.int .i64 ((y:Int)+1))).cell? ⟨jb,20,none⟩=some (.int .i64 ((y:Int)+1)):=World.cell?_setCell_same' _ _ _ (by rw[y20];rfl);have gj:∀ o u,o≠20->w.cell? ⟨jb,o,none⟩=some u->(w5.setCell ⟨jb,20,none⟩ (.int .i64 ((y:Int)+1))).cell? ⟨jb,o,none⟩=some u:=λo u ho hu=>(zc (Or.inr (λe=>ho e.symm))).trans (cg HG5.out (λe=>HA.out.1 (Option.some.inj e)) (cb BV.out hl hu))
 have x3:=gj 3 _ (by decide) X.out.1;have x21:=gj 21 _ (by decide) X.out.2.2.1;have x22:=gj 22 _ (by decide) X.out.2.2.2;have xf:∀ o,(w5.setCell ⟨jb,20,none⟩ (.int .i64 ((y:Int)+1))).frozen? ⟨jb,o,none⟩=false:=λo=>by
  rw[World.frozen?_setCell];exact(HG5.out.frozen_far ⟨jb,o,none⟩ (Nat.lt_of_lt_of_le hl BV.out.size) (λe=>HA.out.1 (Option.some.inj e))).trans (fb BV.out hl (FZ.out o))
 have XF:=za xf;have n0:w.heap.size≠jb:=by omega
 have G5:=za ((zZ BV.out (some h2)).trans HG5.out);have s6:(w5.setCell ⟨jb,20,none⟩ (.int .i64 ((y:Int)+1))).heap.size=w5.heap.size:=by simp[World.setCell]
 have S6:=za s6;have B06:=za (show Below w0.heap.size w0 (w5.setCell ⟨jb,20,none⟩ (.int .i64 ((y:Int)+1))) from HJ.out.bel.trans ((Off.of_grown G5.out).below HJ.out.bel.size (λk e=>e ▸ HA.out.2.2.2.1) |>.trans ⟨rfl,rfl,rfl,Nat.le_of_eq s6.symm,λk hk=>Below.heap_setCell _ _ _ _ (by have:=HJ.out.jlo;show k≠jb;omega)⟩));have MR:=za (show((w5.setCell ⟨jb,20,none⟩ (.int .i64 ((y:Int)+1))).cell? ⟨MB,0,none⟩=some (.int .i64 2)/\(w5.setCell ⟨jb,20,none⟩ (.int .i64 ((y:Int)+1))).cell? ⟨MB,1,none⟩=some (.int .i64 (y:Int)))/\((w5.setCell ⟨jb,20,none⟩ (.int .i64 ((y:Int)+1))).cell? ⟨w.heap.size,0,none⟩=some (.int .i64 0)/\(w5.setCell ⟨jb,20,none⟩ (.int .i64 ((y:Int)+1))).cell? ⟨w.heap.size,1,none⟩=some (.int .i64 0))/\∀ o,(w5.setCell ⟨jb,20,none⟩ (.int .i64 ((y:Int)+1))).frozen? ⟨w.heap.size,o,none⟩=false from by
  have hm:=HMB.out;have h2l:=HLT.out.2;have nm:jb≠MB:=by omega
  have nr:jb≠w.heap.size:=by omega
  have km:(some MB:Option Nat)≠some h2:=λe=>by have:=Option.some.inj e;omega
  have kr:(some w.heap.size:Option Nat)≠some h2:=λe=>by have:=Option.some.inj e;omega
  refine⟨⟨(zc (Or.inl nm)).trans (cg HG5.out km MV1.out.1),(zc (Or.inl nm)).trans (cg HG5.out km MV1.out.2)⟩,⟨(zc (Or.inl nr)).trans (cg HG5.out kr RV1.out.1.1),(zc (Or.inl nr)).trans (cg HG5.out kr RV1.out.1.2)⟩,λo=>?_⟩;rw[World.frozen?_setCell];exact(HG5.out.frozen_far ⟨w.heap.size,o,none⟩ HVL.out kr).trans (RV1.out.2 o))
 have ZV:=za (show w.heap.size<w5.heap.size from Nat.lt_of_lt_of_le HVL.out HG5.out.size);have HI6:=za (HI5.out.grown (zn w5 jb 20 (.int .i64 ((y:Int)+1))) (λe=>HA.out.2.2.2.2 (Option.some.inj e).symm) (λe=>HA.out.1 (Option.some.inj e).symm));clear y20 f20 gj xf s6 HI5;obtain⟨LF,hLF⟩:∃ LF,(zf c.S.ly (y+1)).1=LF:=⟨_,rfl⟩;obtain⟨LM,hLM⟩:∃ LM,(zf c.S.ly (y+1)).2.length=LM:=⟨_,rfl⟩;have JW:=za (λw7 ad cap b7 hr hf=>ztE (w7:=w7) (ad:=ad) (cap:=cap) HK.out HJ.out (Int.not_lt.2 HE.out) G5.out ZV.out b7 hr hf HA.out.1 HA.out.2.1 HA.out.2.2.1 HA.out.2.2.2.1);simp only[hLF,hLM]at JW CL;clear hLF hLM;obtain⟨W6,hW6⟩:∃ W6,w5.setCell ⟨jb,20,none⟩ (.int .i64 ((y:Int)+1))=W6:=⟨_,rfl⟩;simp only[hW6]at *;clear hW6;have k3:∀ (w':World) (u0 u1:Value),w'.cell? ⟨jb,3,none⟩=some (.pointer (some c.ay))/\w'.cell? ⟨jb,20,none⟩=some (.int .i64 ((y:Int)+1))->((w'.setCell ⟨jb,21,none⟩ u0).setCell ⟨jb,22,none⟩ u1).cell? ⟨jb,3,none⟩=some (.pointer (some c.ay))/\((w'.setCell ⟨jb,21,none⟩ u0).setCell ⟨jb,22,none⟩ u1).cell? ⟨jb,20,none⟩=some (.int .i64 ((y:Int)+1)):=λw' u0 u1 h =>
  ⟨(zc (Or.inr (by decide))).trans ((zc (Or.inr (by decide))).trans h.1),(zc (Or.inr (by decide))).trans ((zc (Or.inr (by decide))).trans h.2)⟩
 have K3:=za k3;clear k3
 go_region_held3 (λw'=>w'.cell? ⟨jb,3,none⟩=some (.pointer (some c.ay))/\w'.cell? ⟨jb,20,none⟩=some (.int .i64 ((y:Int)+1))) (first|with_reducible assumption|(with_reducible exact⟨x3,x20⟩)|(with_reducible exact⟨y3,y20⟩)|(with_reducible exact K3.out _ _ _ ⟨y3,y20⟩)|go_keep)
  (first|(go_at_call 46;(with_reducible refine(CL.out _ (B06.out.trans ((show Below W6.heap.size W6 _ by repeat (first|exact Below.refl _ _|(with_reducible refine bdN ?_ _)|with_reducible refine bd ?_)).mono B06.out.size))).mono ?_);rintro e w7 ⟨⟨ad,cap,rfl,hr,hf⟩,b7⟩;have K7:=za (bt (show Below W6.heap.size W6 _ by repeat (first|exact Below.refl _ _|(with_reducible refine bdN ?_ _)|with_reducible refine bd ?_)) b7);have J7:=za (JW.out w7 ad cap K7.out hr hf);have y3:=cb K7.out (ze x3) x3;have y20:=cb K7.out (ze x20) x20;have y21:=cb K7.out (ze x21) x21;have y22:=cb K7.out (ze x22) x22;have f21:=fb K7.out (ze x21) (XF.out 21);have f22:=fb K7.out (ze x22) (XF.out 22);clear hr hf b7))
 all_goals
  have nm:jb≠MB:=by have:=HMB.out;omega
  have nr:jb≠w.heap.size:=by omega
  have m0:=cb K7.out (ze MR.out.1.1) MR.out.1.1;have m1:=cb K7.out (ze MR.out.1.2) MR.out.1.2;have r0:=cb K7.out (ze MR.out.2.1.1) MR.out.2.1.1;have r1:=cb K7.out (ze MR.out.2.1.2) MR.out.2.1.2;have rf0:=fb K7.out (ze MR.out.2.1.1) (MR.out.2.2 0);have rf1:=fb K7.out (ze MR.out.2.1.1) (MR.out.2.2 1);have s0:((w7.setCell ⟨jb,21,none⟩ (.int .i64 LF)).setCell ⟨jb,22,none⟩ (.slice ad LM cap)).cell? ⟨w.heap.size,0,none⟩=some (.int .i64 0):=(zc (Or.inl nr)).trans ((zc (Or.inl nr)).trans r0);have s1:((w7.setCell ⟨jb,21,none⟩ (.int .i64 LF)).setCell ⟨jb,22,none⟩ (.slice ad LM cap)).cell? ⟨w.heap.size,1,none⟩=some (.int .i64 0):=(zc (Or.inl nr)).trans ((zc (Or.inl nr)).trans r1);obtain⟨F',jj,oo,ff⟩:=J7.out;have FIN:=za (zmO (ws:=V1) (k:=2) (j:=(y:Int)) HJ.out ⟨R,jj,oo,λ_ h=>Or.inl h⟩ HVL.out ff (λk e=>by
   rcases e with e|e
   ·omega
   ·exact e ▸ HLT.out.2) s0 s1)
  have HFF:=za ff;have HI9:=za ((((HI6.out.below K7.out).grown (zn w7 jb 21 (.int .i64 LF)) (λe=>HA.out.2.2.2.2 (Option.some.inj e).symm) (λe=>HA.out.1 (Option.some.inj e).symm)).grown (zn _ jb 22 (.slice ad LM cap)) (λe=>HA.out.2.2.2.2 (Option.some.inj e).symm) (λe=>HA.out.1 (Option.some.inj e).symm)));have HLN:=za (show(some c.g2:Option Nat)≠some w.heap.size/\(some h2:Option Nat)≠some w.heap.size from⟨λe=>by have:=Option.some.inj e;have:=HLT.out.1;omega,λe=>by have:=Option.some.inj e;have:=HLT.out.2;omega⟩);clear jj oo ff s0 s1 x3 x20 x21 x22 y3 y20;go_wp2;obtain⟨g0,g1,R',g2,g3,g4⟩:=FIN.out;exact bodyPost_ret (v:=.agg #[.int .i64 2,.int .i64 (y:Int)]) (by simp[results,Tryz.results21,go_sem,g0,g1]) rfl ⟨rfl,F',R',g2,(HI9.out.grown (zn _ w.heap.size 0 _) HLN.out.1 HLN.out.2).grown (zn _ w.heap.size 1 _) HLN.out.1 HLN.out.2,g3,HFF.out,g4⟩
theorem ImgAt.off {S:Nat->Prop} {w w':World} {g h:Nat} {I:Im} (H:ImgAt w g h I) (ho:Off S w w') (hg:¬S g) (hh:¬S h):ImgAt w' g h I:=by
 obtain⟨cap,c0,c1,c2,c3,c4,r,z,hc,hne,k⟩:=H;exact⟨cap,ho.cell hg c0,ho.cell hg c1,ho.cell hg c2,ho.cell hg c3,ho.cell hg c4,ho.row r (λa e=>by obtain rfl:=Option.some.inj e;exact hh),λj hj=>(ho.frozen hh (by have:=r.at hj;rw[Nat.zero_add]at this;exact ze this)).trans (z j hj),hc,hne,k⟩
theorem zk9 {S:Nat->Prop} {wn w w':World} {b:Nat} (g:wn.grownBy w (some b)) (o:Off S w w') (hs:∀ k,S k->wn.heap.size<=k\/k=b):wn.grownBy w' (some b) :=
 ⟨o.os.trans g.os,o.tape.trans g.tape,o.output.trans g.output,Nat.le_trans g.size o.size,λk hk hne=>(o.block k (Nat.lt_of_lt_of_le hk g.size) (λe=>by
  rcases hs k e with q|q
  ·omega
  ·exact hne (by rw[q]))).trans (g.block k hk hne)⟩
structure LawC (w0 wn:World) (h2:Nat) (c:JobC) (O:Im):Prop where
 job:JobK w0 c
 ow:O.iw=(c.S.lx.length:Int)
 oh:O.ih=(c.S.ly.length:Int)
 oc:O.ic=c.I.ic
 ot:O.it=c.I.it
 lg:c.g2<wn.heap.size
 lh:h2<wn.heap.size
 base:w0.heap.size<=h2
 size:w0.heap.size<=wn.heap.size
def LawT (w0 wn w:World) (jb h2:Nat) (c:JobC) (O:Im) (T:List Mv):Prop :=
 ∃ F R G E y n,JobAt w0 w jb F R c G E y n/\ImgAt w c.g2 h2 (zac O c.I c.S c.x0 c.W c.y0 (y-c.y0) 0)/\wn.grownBy w (some h2)/\(∀ k,F k\/R k\/k=jb->wn.heap.size<=k)/\c.y0<=y/\zaB E (y:Int) (c.ls y n)=T
theorem LawT.below {w0 wn w w':World} {jb h2:Nat} {c:JobC} {O:Im} {T:List Mv} (L:LawT w0 wn w jb h2 c O T) (hb:Below w.heap.size w w'):LawT w0 wn w' jb h2 c O T:=by
 obtain⟨F,R,G,E,y,n,J,H,g,a,b,e⟩:=L;exact⟨F,R,G,E,y,n,J.below hb,H.below hb,g.trans (zZ hb _),a,b,e⟩
theorem LawT.grown {w0 wn w:World} {jb h2:Nat} {c:JobC} {O:Im} {T:List Mv} (L:LawT w0 wn w jb h2 c O T):wn.grownBy w (some h2):=by
 obtain⟨F,R,G,E,y,n,J,H,g,a,b,e⟩:=L;exact g
theorem LawT.base {w0 wn w:World} {jb h2:Nat} {c:JobC} {O:Im} {T:List Mv} (L:LawT w0 wn w jb h2 c O T):Below w0.heap.size w0 w:=by
 obtain⟨F,R,G,E,y,n,J,H,g,a,b,e⟩:=L;exact J.bel
theorem LawT.done {w0 wn w:World} {jb h2:Nat} {c:JobC} {O:Im} (C:LawC w0 wn h2 c O) (L:LawT w0 wn w jb h2 c O []):ImgAt w c.g2 h2 (zac O c.I c.S c.x0 c.W c.y0 c.H 0):=by
 obtain⟨F,R,G,E,y,n,J,H,g,a,b,e⟩:=L;have h:=zj4.1 e;have hn:n=0:=by
  cases n with
  |zero=>rfl
  |succ n =>
   have:=C.job.yh;have:=J.yn;rw[zcJ (by omega)]at h
   cases h
 have:=J.yn;rw[show y-c.y0=c.H by omega]at H;exact H
set_option maxHeartbeats 4000000 in
set_option maxRecDepth 100000 in
theorem zrc {w0 w:World} {jb:Nat} {F R:Nat->Prop} {c:JobC} {G:List Int} {E:Int} {y:Nat} (K:JobK w0 c) (J:JobAt w0 w jb F R c G E y 0) :
  Calls Tryz.prog 21 #[.pointer (some ⟨jb,0,none⟩)] w λe w'=>e=.returned (mvV (0,0))/\Below w.heap.size w w':=by
 have hn:zeU c E y 0=(0,0):=if_pos rfl;have CN:=λw' (b:Below w.heap.size w w')=>zhQ K (J.below b)
 rw[hn]at CN;have A0:=za (zg w (.cells #[.int .i64 0,.int .i64 0] 65));have R0:=za (show((w.alloc (.cells #[.int .i64 0,.int .i64 0] 65)).cell? ⟨w.heap.size,0,none⟩=some (.int .i64 0)/\(w.alloc (.cells #[.int .i64 0,.int .i64 0] 65)).cell? ⟨w.heap.size,1,none⟩=some (.int .i64 0))/\∀ o,(w.alloc (.cells #[.int .i64 0,.int .i64 0] 65)).frozen? ⟨w.heap.size,o,none⟩=false by refine⟨⟨?_,?_⟩,λo=>?_⟩<;>simp);unfold mvV at CN ⊢;clear K J hn
 go_enter Tryz.func21,Tryz.ntmps21
 go_wp2_with (go_at_call 20;(with_reducible refine(CN _ A0.out).mono ?_);rintro e w1 ⟨rfl,b1⟩;have B1:=za (bt A0.out b1);have r0:=cb b1 (by simp) R0.out.1.1;have r1:=cb b1 (by simp) R0.out.1.2;have q0:=ca (ob:=.cells #[.int .i64 0,.int .i64 0] 65) (ze r0) r0;have q1:=ca (ob:=.cells #[.int .i64 0,.int .i64 0] 65) (ze r1) r1;have f0:=fa (ob:=.cells #[.int .i64 0,.int .i64 0] 65) (ze r0) (fb b1 (by simp) (R0.out.2 0));have f1:=fa (ob:=.cells #[.int .i64 0,.int .i64 0] 65) (ze r0) (fb b1 (by simp) (R0.out.2 1));clear b1)
 have g0:(((w1.alloc (.cells #[.int .i64 0,.int .i64 0] 65)).setCell ⟨w.heap.size,0,none⟩ (.int .i64 0)).setCell ⟨w.heap.size,1,none⟩ (.int .i64 0)).cell? ⟨w.heap.size,0,none⟩=some (.int .i64 0):=(zc (Or.inr (by decide))).trans (World.cell?_setCell_same' _ _ _ (by rw[q0];rfl));have g1:(((w1.alloc (.cells #[.int .i64 0,.int .i64 0] 65)).setCell ⟨w.heap.size,0,none⟩ (.int .i64 0)).setCell ⟨w.heap.size,1,none⟩ (.int .i64 0)).cell? ⟨w.heap.size,1,none⟩=some (.int .i64 0):=World.cell?_setCell_same' _ _ _ (by rw[zc (Or.inr (by decide)),q1];rfl);exact bodyPost_ret (v:=.agg #[.int .i64 0,.int .i64 0]) (by simp[results,Tryz.results21,go_sem,g0,g1]) rfl ⟨rfl,bs (bs (ba B1.out _) (Nat.le_refl _) _) (Nat.le_refl _) _⟩
theorem zjy {w0 wn w:World} {jb h2:Nat} {c:JobC} {O:Im} {m:Mv} {T:List Mv} (C:LawC w0 wn h2 c O) (L:LawT w0 wn w jb h2 c O (m :: T)) :
  Calls Tryz.prog 21 #[.pointer (some ⟨jb,0,none⟩)] w λe w'=>e=.returned (mvV m)/\LawT w0 wn w' jb h2 c O T:=by
 obtain⟨F,R,G,E,y,n,J,H,g,a,b,e⟩:=L
 cases n with
 |zero =>
  rw[zxr]at e
  cases e
 |succ n =>
  have K:=C.job;have hy:y<c.S.ly.length:=by have:=J.yn;have:=K.yh;omega
  obtain⟨k1,k2⟩:=zpZ J.st hy;have nj:jb≠h2:=λq=>by have:=a jb (Or.inr (Or.inr rfl));have:=C.lh;omega
  have nF:¬F h2:=λq=>by have:=a h2 (Or.inl q);have:=C.lh;omega
  have nR:¬R h2:=λq=>by have:=a h2 (Or.inr (Or.inl q));have:=C.lh;omega
  have ng:jb≠c.g2:=λq=>by have:=a jb (Or.inr (Or.inr rfl));have:=C.lg;omega
  by_cases hE:E<(zf c.S.ly y).1+((zf c.S.ly y).2.length:Int)
  ·obtain⟨s1,s2,-⟩:=k1 hE;rw[s1]at e;obtain⟨rfl,rfl⟩:=List.cons.inj e;refine(zmr K J hE).mono ?_;rintro e w' ⟨rfl,R',J',o',s'⟩;refine⟨rfl,F,R',G++[E],E+1,y,n+1,J',H.off o' (λq=>?_) (λq=>?_),zk9 g o' (λk q=>Or.inl ?_),λk q=>?_,b,rfl⟩
   ·rcases q with q|q
    ·have:=a _ (Or.inr (Or.inl q));have:=C.lg;omega
    ·exact ng q.symm
   ·rcases q with q|q
    ·exact nR q
    ·exact nj q.symm
   ·rcases q with q|q
    ·exact a k (Or.inr (Or.inl q))
    ·exact a k (Or.inr (Or.inr q))
   ·rcases q with q|q|q
    ·exact a k (Or.inl q)
    ·rcases s' k q with q|q
     ·exact a k (Or.inr (Or.inl q))
     ·exact Nat.le_trans g.size q
    ·exact a k (Or.inr (Or.inr q))
  ·obtain⟨s1,s2,-⟩:=k2 hE;rw[s1]at e;obtain⟨rfl,rfl⟩:=List.cons.inj e;refine(zoy K J hE H C.ow C.oh C.oc C.ot nj nF nR C.base ng).mono ?_;rintro e w' ⟨rfl,F',R',J',H',o',f',s'⟩;have tm:=zrt (O:=O) (I:=c.I) (S:=c.S) (x0:=c.x0) (W:=c.W) (y0:=c.y0) (k:=y-c.y0);rw[show c.y0+(y-c.y0)=y by omega,show y-c.y0+1=y+1-c.y0 by omega]at tm;rw[tm]at H';refine⟨rfl,F',R',G,E,y+1,n,J',H',zk9 g o' (λk q=>?_),λk q=>?_,by omega,rfl⟩
   ·rcases q with q|q
    ·exact Or.inl (a k (Or.inr (Or.inr q)))
    ·exact Or.inr q
   ·rcases q with q|q|q
    ·rcases f' k q with q|q
     ·exact a k (Or.inl q)
     ·exact Nat.le_trans g.size (Nat.le_of_lt q)
    ·rcases s' k q with q|q
     ·exact a k (Or.inr (Or.inl q))
     ·exact Nat.le_trans g.size q
    ·exact a k (Or.inr (Or.inr q))
theorem zyb {w0 wn w:World} {jb h2:Nat} {c:JobC} {O:Im} {F R:Nat->Prop} {G:List Int} {E:Int} {y n:Nat} (C:LawC w0 wn h2 c O) (J:JobAt w0 w jb F R c G E y n) (e:zaB E (y:Int) (c.ls y n)=[]):n=0:=by
 cases n with
 |zero=>rfl
 |succ n =>
  have:=C.job.yh;have:=J.yn;have h:=zj4.1 e;rw[zcJ (by omega)]at h
  cases h
theorem zjS {w0 wn w:World} {jb h2:Nat} {c:JobC} {O:Im} (C:LawC w0 wn h2 c O) (L:LawT w0 wn w jb h2 c O []) :
  Calls Tryz.prog 21 #[.pointer (some ⟨jb,0,none⟩)] w λe w'=>e=.returned (mvV (0,0))/\LawT w0 wn w' jb h2 c O []:=by
 have L0:=L;obtain⟨F,R,G,E,y,n,J,H,g,a,b,e⟩:=L;obtain rfl:=zyb C J e;exact(zrc C.job J).mono λe w' ⟨h1,h2⟩=>⟨h1,L0.below h2⟩
theorem zs0 {w0 wn w:World} {jb h2:Nat} {c:JobC} {O:Im} {T:List Mv} (C:LawC w0 wn h2 c O) (L:LawT w0 wn w jb h2 c O T):T.length<=1099511627776:=by
 obtain⟨F,R,G,E,y,n,J,H,g,a,b,e⟩:=L;rw[←e];have ok:=C.job.ty.ok;exact zlF (by have:=J.yn;have:=C.job.yh;omega) ok.2.2.1 (λk hk=>(ok.1 k hk).2.2.2.1)
set_option maxHeartbeats 4000000 in
theorem zq2 {w0 wn w:World} {jb h2:Nat} {c:JobC} {O:Im} {T:List Mv} (C:LawC w0 wn h2 c O) (L:LawT w0 wn w jb h2 c O T) (hk:∀ m ∈ T,m.1=1\/m.1=2) :
  Calls Tryz.prog 12 #[.pointer (some ⟨jb,0,none⟩)] w λe w'=>e=.returned (.int .i64 (T.length:Int))/\LawT w0 wn w' jb h2 c O []:=by
 have hl:=zs0 C L;have HC:=za C;have HL:=za L;have HK:=za hk;obtain⟨N,hN⟩:∃ N,T.length=N:=⟨_,rfl⟩;rw[hN]at hl ⊢;have HN:=za hN;have q0:∀ (a b:Value) (w:World),(Instr.field 65 (.agg #[a,b]) 0).run Tryz.prog w=.ok a w:=λa b w=>by kernel_rfl
 clear C L hN hk
 go_enter Tryz.func12,Tryz.ntmps12
 go_wp2
 go_loopg [3] N (λr s wr=>∃ (k:Nat) (B:List Mv),k+r=N/\B.length=r/\s=.int .i64 (k:Int)/\(∀ m ∈ B,m.1=1\/m.1=2)/\LawT w0 wn wr jb h2 c O B)
 case atStart=>exact⟨0,T,by omega,HN.out,rfl,HK.out,HL.out⟩
 case round =>
  obtain⟨k,B,hk,hB,rfl,hm,hL⟩:=hrel;have HB:=za hB;have HKK:=za hk;have hk9:k<=1099511627776:=by omega
  have hz0:((0:Int) != 0)=false:=rfl;clear hk
  cases B with
  |nil =>
   have CS:=zjS HC.out hL;unfold mvV at CS;clear hL hm hB
   go_wp2_with (go_at_call 21;(with_reducible refine CS.mono ?_);rintro e w1 ⟨rfl,l1⟩;have HL1:=za l1;clear l1)
   go_ret;have h1:=HB.out;have h4:=HKK.out;have h3:k=N:=by simp at h1;omega
   exact⟨by rw[h3];rfl,HL1.out⟩
  |cons m B =>
   have CS:=zjy HC.out hL;have hm0:=hm m (List.mem_cons_self ..);have HM:=za (λx (hx:x ∈ B)=>hm x (List.mem_cons_of_mem _ hx));obtain⟨mk,mr⟩:=m;unfold mvV at CS;have hne:(mk != 0)=true:=by
    simp only at hm0
    simp
    omega
   clear hL hm hB hm0
   go_wp2_with (go_at_call 21;(with_reducible refine CS.mono ?_);rintro e w1 ⟨rfl,l1⟩;have HL1:=za l1;clear l1)
   go_roundg (gk-1)
   case measure=>have h1:=HB.out;simp at h1;omega
   case rel=>exact⟨k+1,B,by have h1:=HB.out;have:=HKK.out;simp at h1;omega,by have h1:=HB.out;simp at h1;omega,by go_num,HM.out,HL1.out⟩
end Go.Proofs.YtlodkoimdoeopaaGreatDoor
