/- Parts, joined. -/
import Derived.Test.YtlodkoimdoeopaaGreatDoorP34
import Derived.Deep.RegionHeld3
import Derived.Deep.DeepCutAuto
import Derived.BigQuiet
namespace Go.Proofs.YtlodkoimdoeopaaGreatDoor
open Go.RowKit
set_option maxHeartbeats 8000000 in
set_option maxRecDepth 100000 in
theorem zhm {w:World} {ax ay:Addr} {nx ny:Int} {LX LY:List (Int×List Int)} (tx:Tab w (.pointer (some ax)) nx LX) (ty:Tab w (.pointer (some ay)) ny LY) (sb:Int) (tn a b d h t5 t6 t7 t8 t9:Int) (a0 : -9223372036854775808<=a) (a1:a<=9223372036854775807) (b0 : -9223372036854775808<=b) (b1:b<=9223372036854775807) :
  Calls Tryz.prog 19 #[.agg #[.pointer (some ax),.pointer (some ay),.int .i64 sb],.agg #[.int .i64 tn,.int .i64 a,.int .i64 b,.int .i64 d,.int .i64 h,.int .i64 t5,.int .i64 t6,.int .i64 t7,.int .i64 t8,.int .i64 t9]] w λe w' =>
   ((zZ a d (LX.length:Int) && zZ b h (LY.length:Int))=false/\e=.returned (.int .i64 0)\/(zZ a d (LX.length:Int) && zZ b h (LY.length:Int))=true/\∃ y0 H:Nat,b=(y0:Int)/\h=(H:Int)/\y0+H<=LY.length/\1<=H/\e=.returned (.int .i64 ((ze LY (y0+H-1)).1+((ze LY (y0+H-1)).2.length:Int)-(ze LY y0).1+(H:Int))))/\Below w.heap.size w w':=by
 have ly:=ty.ok.2.2.1;have lok:=ty.ok.1;have CW:=λw' (k:Below w.heap.size w w')=>zeZ (tx.below k) (ty.below k) sb a b d h a0 a1 b0 b1
 have CR:=λw' (k:Below w.heap.size w w') (y0 H:Nat) (hy:y0+H<=LY.length) (hH:1<=H)=>zdV (ty.below k) (y0:Int) ((y0:Int)+(H:Int)) (p:=y0) (q:=y0+H-1) (by omega) (by omega) (by omega)
 obtain⟨W1,hW1⟩:∃ W1,(w.alloc (.cells #[.pointer (some ax),.pointer (some ay),.int .i64 sb] 36)).alloc (.cells #[.int .i64 tn,.int .i64 a,.int .i64 b,.int .i64 d,.int .i64 h,.int .i64 t5,.int .i64 t6,.int .i64 t7,.int .i64 t8,.int .i64 t9] 43)=W1:=⟨_,rfl⟩;have B1:=za (show Below w.heap.size w W1 by rw[←hW1];exact ba (zg _ _) _);have X1:=za (show S13 W1 w.heap.size (w.heap.size+1) (.pointer (some ax)) (.pointer (some ay)) (.int .i64 sb) ⟨tn,a,b,d,h,t5,t6,t7,t8,t9⟩ by
  rw[←hW1];refine⟨by refine⟨?_,?_,?_⟩<;>simp,?_⟩;have q:=P10.new (w.alloc (.cells #[.pointer (some ax),.pointer (some ay),.int .i64 sb] 36)) 43 ⟨tn,a,b,d,h,t5,t6,t7,t8,t9⟩;rw[show(w.alloc (.cells #[.pointer (some ax),.pointer (some ay),.int .i64 sb] 36)).heap.size=w.heap.size+1 by simp]at q;exact q)
 have HW1:=za hW1;have q1:∀ (a:Addr) (w:World),(binOp .eql 34 (.pointer (some a)) (.pointer none)).run Tryz.prog w=.ok (.bool false) w:=λa w=>by kernel_rfl
 clear hW1
 cases hI:(zZ a d (LX.length:Int) && zZ b h (LY.length:Int)) with
 |false =>
  rw[hI]at CW;clear CR tx ty lok ly hI
  go_enter Tryz.func19,Tryz.ntmps19
  go_upto_region 1 with fail
  rw[HW1.out];obtain⟨⟨z0,z1,z2⟩,p0,p1,p2,p3,p4,p5,p6,p7,p8,p9⟩:=X1.out;simp only at p0 p1 p2 p3 p4 p5 p6 p7 p8 p9
  go_wp2_with (go_at_call 41;(with_reducible refine(CW _ B1.out).mono ?_);rintro e w2 ⟨rfl,b2⟩;have B2:=za (bt B1.out b2))
  go_ret;exact⟨.inl ⟨trivial,rfl⟩,B2.out⟩
 |true =>
  rw[hI]at CW;rw[Bool.and_eq_true]at hI;have i2:=zbk.1 hI.2;obtain⟨y0,rfl⟩:∃ y0:Nat,b=(y0:Int):=⟨b.toNat,by omega⟩;obtain⟨H,rfl⟩:∃ H:Nat,h=(H:Int):=⟨h.toNat,by omega⟩;have CR2:=λw' k=>CR w' k y0 H (by omega) (by omega)
  have l1:=lok y0 (by omega);have l2:=lok (y0+H-1) (by omega);have e1:IntKind.i64.wrap ((y0:Int)+(H:Int))=(y0:Int)+(H:Int):=za3 (by omega) (by omega);have e2:IntKind.i64.wrap ((ze LY (y0+H-1)).1+((ze LY (y0+H-1)).2.length:Int)-(ze LY y0).1+(H:Int))=(ze LY (y0+H-1)).1+((ze LY (y0+H-1)).2.length:Int)-(ze LY y0).1+(H:Int):=za3 (by unfold zfY at l1 l2;omega) (by unfold zfY at l1 l2;omega);have hyH:y0+H<=LY.length:=by omega
  have hH:1<=H:=by omega
  obtain⟨M,hM⟩:∃ M,(ze LY (y0+H-1)).1+((ze LY (y0+H-1)).2.length:Int)-(ze LY y0).1=M:=⟨_,rfl⟩;rw[hM]at e2 CR2;have HM:=za hM;have HY:=za (And.intro hyH hH);clear CR tx ty lok ly hI l1 l2 i2 hM hyH hH
  go_enter Tryz.func19,Tryz.ntmps19
  go_upto_region 1 with fail
  rw[HW1.out];obtain⟨⟨z0,z1,z2⟩,p0,p1,p2,p3,p4,p5,p6,p7,p8,p9⟩:=X1.out;simp only at p0 p1 p2 p3 p4 p5 p6 p7 p8 p9
  go_upto_region 3 with(go_at_call 41;(with_reducible refine(CW _ B1.out).mono ?_);rintro e w2 ⟨rfl,b2⟩;have B2:=za (bt B1.out b2);have X2:=za (X1.out.below b2))
  clear z0 z1 z2 p0 p1 p2 p3 p4 p5 p6 p7 p8 p9;obtain⟨⟨z0,z1,z2⟩,p0,p1,p2,p3,p4,p5,p6,p7,p8,p9⟩:=X2.out;simp only at p0 p1 p2 p3 p4 p5 p6 p7 p8 p9
  go_wp2_with (go_at_call 42;(with_reducible refine(CR2 _ B2.out).mono ?_);rintro e w3 ⟨rfl,b3⟩;have B3:=za (bt B2.out b3);have X3:=za (X2.out.below b3);obtain⟨⟨v0,v1,v2⟩,r0,r1,r2,r3,r4,r5,r6,r7,r8,r9⟩:=X3.out;simp only at r0 r1 r2 r3 r4 r5 r6 r7 r8 r9)
  go_ret;exact⟨.inr ⟨trivial,y0,H,rfl,rfl,HY.out.1,HY.out.2,by rw[HM.out];rfl⟩,B3.out⟩
theorem zfi {w0:World} {c:JobC} (K:JobK w0 c):(c.steps.length:Int)=(ze c.S.ly (c.y0+c.H-1)).1+((ze c.S.ly (c.y0+c.H-1)).2.length:Int)-(ze c.S.ly c.y0).1+(c.H:Int):=by
 have yh:=K.yh;have h1:=K.h1;have hst:=K.lines (y:=c.y0) (n:=c.H) yh;have hl:(c.ls c.y0 c.H).length=c.H:=by
  unfold JobC.ls zaM;rw[List.length_take,List.length_drop,List.length_map];omega
 have st:JobG c.mo [] (ze c.S.ly c.y0).1 (c.ls c.y0 c.H):=by
  obtain⟨H0,hH⟩:∃ H0,c.H=H0+1:=⟨c.H-1,by omega⟩;rw[hH,zcl (by omega)]at hst ⊢;exact zhy hst.1 hst.2
 obtain⟨_,e⟩:=zih _ _ _ (c.y0:Int) st;rw[hl]at e;unfold JobC.steps;rw[e];unfold JobC.ls;rw[zfZ c.H c.y0 _ yh h1]
theorem zlM (w:World) (xv yv:Value) (sb:Int) (T:Til):Below w.heap.size w ((w.alloc (.cells #[xv,yv,.int .i64 sb] 36)).alloc (.cells #[.int .i64 T.tn,.int .i64 T.tx,.int .i64 T.ty,.int .i64 T.tw,.int .i64 T.th,.int .i64 T.fx,.int .i64 T.fy,.int .i64 T.cx,.int .i64 T.cy,.int .i64 T.rg] 43)) /\
  S13 ((w.alloc (.cells #[xv,yv,.int .i64 sb] 36)).alloc (.cells #[.int .i64 T.tn,.int .i64 T.tx,.int .i64 T.ty,.int .i64 T.tw,.int .i64 T.th,.int .i64 T.fx,.int .i64 T.fy,.int .i64 T.cx,.int .i64 T.cy,.int .i64 T.rg] 43)) w.heap.size (w.heap.size+1) xv yv (.int .i64 sb) T:=by
 refine⟨ba (zg _ _) _,?_,?_⟩
 ·refine⟨?_,?_,?_⟩<;>simp
 ·have q:=P10.new (w.alloc (.cells #[xv,yv,.int .i64 sb] 36)) 43 T;rw[show(w.alloc (.cells #[xv,yv,.int .i64 sb] 36)).heap.size=w.heap.size+1 by simp]at q;exact q
set_option maxHeartbeats 4000000 in
set_option maxRecDepth 100000 in
theorem zhj {w:World} {p1 p2 x y:Option Addr} (sb:Int) (T:Til) (CT:∀ w',Below w.heap.size w w'->Calls Tryz.prog 40 #[.pointer p1,.pointer p2,.agg #[.pointer x,.pointer y,.int .i64 sb]] w' λe w''=>e=.returned (.bool false)/\Below w'.heap.size w' w'') :
  Calls Tryz.prog 11 #[.pointer p1,.pointer p2,.agg #[.pointer x,.pointer y,.int .i64 sb],zbV T] w λe w'=>e=.returned (.tuple #[.pointer none,.int .i64 6])/\Below w.heap.size w w':=by
 obtain⟨b1,x1⟩:=zlM w (.pointer x) (.pointer y) sb T;obtain⟨W1,hW1⟩:∃ W1,(w.alloc (.cells #[.pointer x,.pointer y,.int .i64 sb] 36)).alloc (.cells #[.int .i64 T.tn,.int .i64 T.tx,.int .i64 T.ty,.int .i64 T.tw,.int .i64 T.th,.int .i64 T.fx,.int .i64 T.fy,.int .i64 T.cx,.int .i64 T.cy,.int .i64 T.rg] 43)=W1:=⟨_,rfl⟩;rw[hW1]at b1 x1;have B1:=za b1;have X1:=za x1;have HW1:=za hW1;unfold zbV;clear b1 x1 hW1;obtain⟨tn,ta,tb,td,th,t5,t6,t7,t8,t9⟩:=T;simp only at HW1
 go_enter Tryz.func11,Tryz.ntmps11
 go_upto_region 1 with fail
 rw[HW1.out];obtain⟨⟨z0,z1,z2⟩,-⟩:=X1.out
 go_wp2_with (go_at_call 40;(with_reducible refine(CT _ B1.out).mono ?_);rintro e w2 ⟨rfl,b2⟩;have B2:=za (bt B1.out b2))
 exact bodyPost_ret (v:=.tuple #[.pointer none,.int .i64 6]) (by simp[results,Tryz.results11,go_sem]) rfl ⟨rfl,B2.out⟩
set_option maxHeartbeats 4000000 in
set_option maxRecDepth 100000 in
theorem ztI {w:World} {p1 p2 x y:Option Addr} (sb:Int) (T:Til) (CT:∀ w',Below w.heap.size w w'->Calls Tryz.prog 40 #[.pointer p1,.pointer p2,.agg #[.pointer x,.pointer y,.int .i64 sb]] w' λe w''=>e=.returned (.bool true)/\Below w'.heap.size w' w'')
  (CW:∀ w',Below w.heap.size w w'->Calls Tryz.prog 41 #[.agg #[.int .i64 T.tx,.int .i64 T.ty,.int .i64 T.tw,.int .i64 T.th],.agg #[.pointer x,.pointer y,.int .i64 sb]] w' λe w''=>e=.returned (.bool false)/\Below w'.heap.size w' w'') :
  Calls Tryz.prog 11 #[.pointer p1,.pointer p2,.agg #[.pointer x,.pointer y,.int .i64 sb],zbV T] w λe w'=>e=.returned (.tuple #[.pointer none,.int .i64 9])/\Below w.heap.size w w':=by
 obtain⟨b1,x1⟩:=zlM w (.pointer x) (.pointer y) sb T;obtain⟨W1,hW1⟩:∃ W1,(w.alloc (.cells #[.pointer x,.pointer y,.int .i64 sb] 36)).alloc (.cells #[.int .i64 T.tn,.int .i64 T.tx,.int .i64 T.ty,.int .i64 T.tw,.int .i64 T.th,.int .i64 T.fx,.int .i64 T.fy,.int .i64 T.cx,.int .i64 T.cy,.int .i64 T.rg] 43)=W1:=⟨_,rfl⟩;rw[hW1]at b1 x1;have B1:=za b1;have X1:=za x1;have HW1:=za hW1;unfold zbV;clear b1 x1 hW1;obtain⟨tn,ta,tb,td,th,t5,t6,t7,t8,t9⟩:=T;simp only at HW1 CW
 go_enter Tryz.func11,Tryz.ntmps11
 go_upto_region 1 with fail
 rw[HW1.out];obtain⟨⟨z0,z1,z2⟩,-⟩:=X1.out
 go_upto_region 3 with(go_at_call 40;(with_reducible refine(CT _ B1.out).mono ?_);rintro e w2 ⟨rfl,b2⟩;have B2:=za (bt B1.out b2);have X2:=za (X1.out.below b2))
 clear z0 z1 z2;obtain⟨⟨z0,z1,z2⟩,p0,p1,p2,p3,p4,-⟩:=X2.out;simp only at p0 p1 p2 p3 p4
 go_wp2_with (go_at_call 41;(with_reducible refine(CW _ B2.out).mono ?_);rintro e w3 ⟨rfl,b3⟩;have B3:=za (bt B2.out b3))
 exact bodyPost_ret (v:=.tuple #[.pointer none,.int .i64 9]) (by simp[results,Tryz.results11,go_sem]) rfl ⟨rfl,B3.out⟩
theorem ztw {w:World} {g:Nat} (y:Option Addr) (sb:Int):Calls Tryz.prog 79 #[.pointer (some ⟨g,0,none⟩),.agg #[.pointer none,.pointer y,.int .i64 sb]] w λe w'=>e=.returned (.bool false)/\Below w.heap.size w w':=by
 have e1:=zos
 go_enter Tryz.func79,Tryz.ntmps79
 go_wp2_with fail
 go_ret;exact⟨rfl,zg _ _⟩
theorem zki:∀ w:World,(binOp .eql 33 (.pointer none) (.pointer none)).run Tryz.prog w=.ok (.bool true) w:=λw=>by kernel_rfl
theorem zjG:∀ (a:Addr) (w:World),(binOp .eql 33 (.pointer (some a)) (.pointer none)).run Tryz.prog w=.ok (.bool false) w:=λa w=>by kernel_rfl
set_option maxHeartbeats 2000000 in
theorem zma {w:World} (p2 x y:Option Addr) (sb:Int):Calls Tryz.prog 40 #[.pointer none,.pointer p2,.agg #[.pointer x,.pointer y,.int .i64 sb]] w λe w'=>e=.returned (.bool false)/\Below w.heap.size w w':=by
 have e1:=zki
 go_enter Tryz.func40,Tryz.ntmps40
 go_wp2_with fail
 go_ret;exact⟨rfl,zg _ _⟩
set_option maxHeartbeats 2000000 in
theorem zl7 {w:World} (a:Addr) (x y:Option Addr) (sb:Int):Calls Tryz.prog 40 #[.pointer (some a),.pointer none,.agg #[.pointer x,.pointer y,.int .i64 sb]] w λe w'=>e=.returned (.bool false)/\Below w.heap.size w w':=by
 have e1:=zki;have e2:=zjG
 go_enter Tryz.func40,Tryz.ntmps40
 go_wp2_with fail
 go_ret;exact⟨rfl,zg _ _⟩
set_option maxHeartbeats 2000000 in
theorem zmC {w:World} {g g2 h h2:Nat} {I O:Im} (H:ImgAt w g h I) (HO:ImgAt w g2 h2 O) (hne:g≠g2) (hf:Thawed w g2) (y:Option Addr) (sb:Int):Calls Tryz.prog 40 #[.pointer (some ⟨g,0,none⟩),.pointer (some ⟨g2,0,none⟩),.agg #[.pointer none,.pointer y,.int .i64 sb]] w λe w'=>e=.returned (.bool false)/\Below w.heap.size w w':=by
 have e2:=zjG;obtain⟨_,c0,-⟩:=H;obtain⟨_,d0,-⟩:=HO;have q2:=zlQ (w:=w.alloc (.cells #[.pointer none,.pointer y,.int .i64 sb] 36)) hne (ca (zf c0) c0) (ca (zf d0) d0) (hf.below (zf d0) (zg w _));have CS:=λw'=>ztw (w:=w') (g:=g) y sb
 clear c0 d0
 go_enter Tryz.func40,Tryz.ntmps40
 go_wp2_with (go_at_call 79;(with_reducible refine(CS _).mono ?_);rintro e w2 ⟨rfl,b2⟩;have B2:=za (bt (zg w _) b2))
 go_ret;exact⟨rfl,B2.out⟩
def JobC.of (c:JobC) (x0 y0 W H:Nat):JobC:=⟨c.g,c.h,c.I,c.g2,c.ax,c.ay,c.S,0,0,0,0,0,0,x0,y0,W,H,c.C,c.mo⟩
theorem JobK.of {w0:World} {c:JobC} (K:JobK w0 c) {x0 y0 W H:Nat} (xw:x0+W<=c.S.lx.length) (w1:1<=W) (yh:y0+H<=c.S.ly.length) (h1:1<=H):JobK w0 (c.of x0 y0 W H) :=
 ⟨K.opk,K.tx,K.ty,K.img,K.suits,K.small,K.gap,K.most,K.mo1,K.mo2,K.ch,xw,w1,yh,h1⟩
theorem zwi {w0 w':World} {c:JobC} {h2:Nat} {O:Im} (K:JobK w0 c) (HO:ImgAt w' c.g2 h2 O) (ow:O.iw=(c.S.lx.length:Int)) (oh:O.ih=(c.S.ly.length:Int)) (oc:O.ic=c.I.ic) (ot:O.it=c.I.it) (hne:c.g≠c.g2) (hf:Thawed w' c.g2) (hb:Below w0.heap.size w0 w') (hB:w0.heap.size<=h2)
  {x0 y0 W H:Nat} (xw:x0+W<=c.S.lx.length) (w1:1<=W) (yh:y0+H<=c.S.ly.length) (h1:1<=H) :
  Calls Tryz.prog 11 #[.pointer (some ⟨c.g,0,none⟩),.pointer (some ⟨c.g2,0,none⟩),.agg #[.pointer (some c.ax),.pointer (some c.ay),.int .i64 c.S.sb],.agg #[.int .i64 0,.int .i64 (x0:Int),.int .i64 (y0:Int),.int .i64 (W:Int),.int .i64 (H:Int),.int .i64 0,.int .i64 0,.int .i64 0,.int .i64 0,.int .i64 0]] w' λe w''=>∃ jb,e=.returned (.tuple #[.pointer (some ⟨jb,0,none⟩),.int .i64 0])/\LawC w0 w' h2 (c.of x0 y0 W H) O/\LawT w0 w' w'' jb h2 (c.of x0 y0 W H) O (c.of x0 y0 W H).steps/\Below w'.heap.size w' w'':=by
 have ll:=HO.lt;have C:LawC w0 w' h2 (c.of x0 y0 W H) O:=⟨K.of xw w1 yh h1,ow,oh,oc,ot,ll.1,ll.2,hB,hb.size⟩;refine(zh1 C HO hne hf hb).mono ?_;rintro e w2 ⟨jb,rfl,L,b⟩;exact⟨jb,rfl,C,L,b⟩
theorem zun {w0 w':World} {c:JobC} {h2:Nat} {O:Im} (K:JobK w0 c) (HO:ImgAt w' c.g2 h2 O) (ow:O.iw=(c.S.lx.length:Int)) (oh:O.ih=(c.S.ly.length:Int)) (oc:O.ic=c.I.ic) (ot:O.it=c.I.it) (hne:c.g≠c.g2) (hf:Thawed w' c.g2) (hb:Below w0.heap.size w0 w') (hB:w0.heap.size<=h2)
  (x y d h:Int) (x0 : -9223372036854775808<=x) (x1:x<=9223372036854775807) (y0 : -9223372036854775808<=y) (y1:y<=9223372036854775807) :
  Calls Tryz.prog 11 #[.pointer (some ⟨c.g,0,none⟩),.pointer (some ⟨c.g2,0,none⟩),.agg #[.pointer (some c.ax),.pointer (some c.ay),.int .i64 c.S.sb],.agg #[.int .i64 0,.int .i64 x,.int .i64 y,.int .i64 d,.int .i64 h,.int .i64 0,.int .i64 0,.int .i64 0,.int .i64 0,.int .i64 0]] w' λe w'' =>
   ((zZ x d (c.S.lx.length:Int) && zZ y h (c.S.ly.length:Int))=true/\(∃ jb,e=.returned (.tuple #[.pointer (some ⟨jb,0,none⟩),.int .i64 0]))\/(zZ x d (c.S.lx.length:Int) && zZ y h (c.S.ly.length:Int))=false/\e=.returned (.tuple #[.pointer none,.int .i64 9])) /\
   (∃ O',ImgAt w'' c.g2 h2 O'/\O'.iw=O.iw/\O'.ih=O.ih/\O'.ic=O.ic/\O'.it=O.it)/\Thawed w'' c.g2/\Below w0.heap.size w0 w''/\w'.grownBy w'' (some h2):=by
 cases hI:(zZ x d (c.S.lx.length:Int) && zZ y h (c.S.ly.length:Int)) with
 |true =>
  rw[Bool.and_eq_true]at hI;have i1:=zbk.1 hI.1;have i2:=zbk.1 hI.2;obtain⟨x0',rfl⟩:∃ n:Nat,x=(n:Int):=⟨x.toNat,by omega⟩;obtain⟨y0',rfl⟩:∃ n:Nat,y=(n:Int):=⟨y.toNat,by omega⟩;obtain⟨W,rfl⟩:∃ n:Nat,d=(n:Int):=⟨d.toNat,by omega⟩;obtain⟨H,rfl⟩:∃ n:Nat,h=(n:Int):=⟨h.toNat,by omega⟩;refine(zwi K HO ow oh oc ot hne hf hb hB (x0:=x0') (y0:=y0') (W:=W) (H:=H) (by omega) (by omega) (by omega) (by omega)).mono ?_;rintro e w2 ⟨jb,rfl,C,L,-⟩;refine⟨.inl ⟨rfl,jb,rfl⟩,?_,hf.grown HO.lt.1 L.grown (λe=>HO.ne (Option.some.inj e)),L.base,L.grown⟩;obtain⟨F,R,G,E,yy,n,J,HI,_⟩:=L;exact⟨_,HI,rfl,rfl,rfl,rfl⟩
 |false =>
  have go:goB c.I O c.S=true:=by
   unfold goB;rw[K.suits,ow,oh,oc,ot]
   simp
  have K':=K.below hb;have CT:=λw'' (b:Below w'.heap.size w' w'')=>zh7 (zaE _ _ K'.opk b) (K'.img.below b) (HO.below b) hne (hf.below HO.lt.1 b) (K'.tx.below b) (K'.ty.below b)
  rw[go]at CT;have CW:=λw'' (b:Below w'.heap.size w' w'')=>zeZ (K'.tx.below b) (K'.ty.below b) c.S.sb x y d h x0 x1 y0 y1
  rw[hI]at CW;refine(ztI c.S.sb ⟨0,x,y,d,h,0,0,0,0,0⟩ CT CW).mono ?_;rintro e w2 ⟨rfl,b⟩;exact⟨.inr ⟨rfl,rfl⟩,⟨O,HO.below b,rfl,rfl,rfl,rfl⟩,hf.below HO.lt.1 b,bt hb b,zI b _⟩
theorem zqT {w0 w':World} {c:JobC} (K:JobK w0 c) (hb:Below w0.heap.size w0 w') (x y d h:Int) (x0 : -9223372036854775808<=x) (x1:x<=9223372036854775807) (y0 : -9223372036854775808<=y) (y1:y<=9223372036854775807) :
  Calls Tryz.prog 19 #[.agg #[.pointer (some c.ax),.pointer (some c.ay),.int .i64 c.S.sb],.agg #[.int .i64 0,.int .i64 x,.int .i64 y,.int .i64 d,.int .i64 h,.int .i64 0,.int .i64 0,.int .i64 0,.int .i64 0,.int .i64 0]] w' λe w'' =>
   (∃ V:Int,e=.returned (.int .i64 V)/\((zZ x d (c.S.lx.length:Int) && zZ y h (c.S.ly.length:Int))=true->0<V)/\((zZ x d (c.S.lx.length:Int) && zZ y h (c.S.ly.length:Int))=false->V=0))/\Below w'.heap.size w' w'':=by
 have K':=K.below hb;refine(zhm K'.tx K'.ty c.S.sb 0 x y d h 0 0 0 0 0 x0 x1 y0 y1).mono ?_;rintro e w2 ⟨⟨hI,rfl⟩|⟨hI,a,H,rfl,rfl,ha,hH,rfl⟩,b⟩
 ·exact⟨⟨0,rfl,(λq=>by rw[hI]at q;cases q),λ_=>rfl⟩,b⟩
 ·refine⟨⟨_,rfl,(λ_=>?_),λq=>by rw[hI]at q;cases q⟩,b⟩;have i1:=zbk.1 ((Bool.and_eq_true _ _).mp hI).1;have n:=zfi (K.of (x0:=x.toNat) (y0:=a) (W:=d.toNat) (H:=H) (by omega) (by omega) ha hH);have e:(c.of x.toNat a d.toNat H).steps.length=(zbJ (ze c.S.ly a).1 (((zaM c.S.ly).drop a).take H)).length+(((zaM c.S.ly).drop a).take H).length:=zep _ _ _;have l:(((zaM c.S.ly).drop a).take H).length=H:=by
   unfold zaM;rw[List.length_take,List.length_drop,List.length_map];omega
  have n2:((c.of x.toNat a d.toNat H).steps.length:Int)=(ze c.S.ly (a+H-1)).1+((ze c.S.ly (a+H-1)).2.length:Int)-(ze c.S.ly a).1+(H:Int):=n;rw[←n2];omega
theorem ziA {P:World->Prop} {w:World} (h:P w):∃ W,W=w/\P W:=⟨w,rfl,h⟩
structure NewW (w0 W5 wx:World) (c:JobC) (h2:Nat) (O:Im):Prop where
 img:∃ O',ImgAt wx c.g2 h2 O'/\O'.iw=O.iw/\O'.ih=O.ih/\O'.ic=O.ic/\O'.it=O.it
 thaw:Thawed wx c.g2
 bel:Below w0.heap.size w0 wx
 grown:W5.grownBy wx (some h2)
theorem NewW.below {w0 W5 wx w':World} {c:JobC} {h2:Nat} {O:Im} (h:NewW w0 W5 wx c h2 O) (b:Below wx.heap.size wx w'):NewW w0 W5 w' c h2 O:=by
 obtain⟨⟨O',i,e⟩,t,l,g⟩:=h;exact⟨⟨O',i.below b,e⟩,t.below i.lt.1 b,bt l b,g.trans (zI b _)⟩
def OtherI (w:World) (base:Nat) (a b d t:Int) (v:Value):Prop:=∃ g h I,v=.pointer (some ⟨g,0,none⟩)/\base<=g/\ImgAt w g h I/\Thawed w g/\I.iw=a/\I.ih=b/\I.ic=d/\I.it=t
theorem OtherI.below {w w':World} {base:Nat} {a b d t:Int} {v:Value} (h:OtherI w base a b d t v) (hb:Below w.heap.size w w'):OtherI w' base a b d t v:=by
 obtain⟨g,h,I,rfl,l,i,f,e⟩:=h;exact⟨g,h,I,rfl,l,i.below hb,f.below i.lt.1 hb,e⟩
theorem zk6 (a b d t:Int) (h:zaX a b d t=0) (w:World) (base:Nat) (hb:base<=w.heap.size) :
  Calls Tryz.prog 33 #[.int .i64 a,.int .i64 b,.int .i64 d,.int .i64 t] w λe w'=>∃ p,e=.returned (.tuple #[.pointer (some p),.int .i64 0])/\OtherI w' base a b d t (.pointer (some p))/\Below w.heap.size w w':=by
 refine(zh5 a b d t h w).mono ?_;rintro e w' ⟨g,h,rfl,lg,lh,i,f,b⟩;exact⟨_,rfl,⟨g,h,_,rfl,Nat.le_trans hb lg,i,f,rfl,rfl,rfl,rfl⟩,b⟩
def Stg.bord (S:Stg) (b:Int):Stg:={ S with sb:=b }
theorem zwM {I O:Im} {S:Stg}:goB I O (S.bord 3)=false:=by
 unfold goB;have:zaR I (S.bord 3)=false:=by
  unfold zaR;rw[show decide ((S.bord 3).sb<=2)=false from rfl,Bool.and_false]
 rw[this,Bool.false_and]
theorem zwu {I O:Im} {S:Stg} (hI:I.ic=1\/I.ic=3) (h:O.ic=4-I.ic):goB I O S=false:=by
 unfold goB;rw[show decide (O.ic=I.ic)=false from decide_eq_false (by omega)]
 simp
theorem zwx {I O:Im} {S:Stg} (h:O.iw=(S.lx.length:Int)+1):goB I O S=false:=by
 unfold goB;rw[show decide (O.iw=(S.lx.length:Int))=false from decide_eq_false (by omega)]
 simp
theorem zrE {w w0 wn:World} {c:JobC} {h2 gx px gy py:Nat} {O:Im} (B:BegIn w w0 wn c h2 gx px gy py O):c.S.lx.length<=20/\c.S.ly.length<=20:=by
 obtain⟨o,oc,nb,eS⟩:=B.op;obtain⟨_,_,_,_,hr⟩:=(zbq _ _ _).1 (zdY oc).1;have i0:=B.i0;have i1:=B.i1;unfold zcK at nb;rw[eS]
 constructor
 ·show(zbG o c.I.iw).length<=20
  unfold zbG
  by_cases hk:o.kd=3
  ·obtain⟨_,_,e1,e2⟩:=hr hk;rw[if_pos hk,zac];omega
  ·rw[if_neg hk,zae];omega
 ·show(zbi o c.I.ih).length<=20
  unfold zbi
  by_cases hk:o.kd=3
  ·obtain⟨_,_,e1,e2⟩:=hr hk;rw[if_pos hk,zac];omega
  ·rw[if_neg hk,zae];omega
theorem zjL {a b d t:Int} (a0:1<=a) (a1:a<=21) (b0:1<=b) (b1:b<=21) (hd:d=1\/d=3) (t0:1<=t) (t1:t<=65535):zaX a b d t=0:=by
 have h1:a*b<=21*21:=Int.mul_le_mul a1 b1 (by omega) (by omega);have h0:0<=a*b:=Int.mul_nonneg (by omega) (by omega);refine zjq t0 t1 a0 (by omega) b0 (by omega) hd ?_;rcases hd with rfl|rfl<;>omega
theorem zwa {x:Int} (h:0<=x):x.tmod 6=0\/x.tmod 6=1\/x.tmod 6=2\/x.tmod 6=3\/x.tmod 6=4\/x.tmod 6=5:=by
 rw[Int.tmod_eq_emod_of_nonneg h];omega
theorem zhL {w0 W6 w':World} {c:JobC} (K:JobK w0 c) (b06:Below w0.heap.size w0 W6) {og oh:Nat} {Io:Im} {S:Stg} (e1:S.fx=c.S.fx) (e2:S.lx=c.S.lx) (e3:S.fy=c.S.fy) (e4:S.ly=c.S.ly) (hi:ImgAt w' og oh Io) (hf:Thawed w' og) (hne:c.g≠og) (b:Below W6.heap.size W6 w') (hg:goB c.I Io S=false) (T:Til) :
  Calls Tryz.prog 11 #[.pointer (some ⟨c.g,0,none⟩),.pointer (some ⟨og,0,none⟩),.agg #[.pointer (some c.ax),.pointer (some c.ay),.int .i64 S.sb],zbV T] w' λe w''=>e=.returned (.tuple #[.pointer none,.int .i64 6])/\Below w'.heap.size w' w'':=by
 refine zhj S.sb T (λw2 b2=>?_);have K2:=K.below (bt b06 (bt b b2));rw[←hg];exact zh7 (zaE _ _ K2.opk (Below.refl _ _)) K2.img (hi.below b2) hne (hf.below hi.lt.1 b2) (e1 ▸ e2 ▸ K2.tx) (e3 ▸ e4 ▸ K2.ty)
theorem P10.grown17 {w w':World} {b:Nat} {t:Til} {row:Option Nat} (h:P10 w b t) (g:w.grownBy w' row) (ne:some b≠row):P10 w' b t:=by
 obtain⟨h0,h1,h2,h3,h4,h5,h6,h7,h8,h9⟩:=h;exact⟨cg g ne h0,cg g ne h1,cg g ne h2,cg g ne h3,cg g ne h4,cg g ne h5,cg g ne h6,cg g ne h7,cg g ne h8,cg g ne h9⟩
theorem zsr (x y d h:Int) (w':World) (C:Array Value) (T:TypeId):(storeCells ⟨w'.heap.size+1,0,none⟩ [.int .i64 0,.int .i64 x,.int .i64 y,.int .i64 d,.int .i64 h,.int .i64 0,.int .i64 0,.int .i64 0,.int .i64 0,.int .i64 0] 0).run Tryz.prog ((w'.alloc (.cells C T)).alloc (.cells #[.int .i64 0,.int .i64 0,.int .i64 0,.int .i64 0,.int .i64 0,.int .i64 0,.int .i64 0,.int .i64 0,.int .i64 0,.int .i64 0] 43))=.ok () ((w'.alloc (.cells C T)).alloc (.cells #[.int .i64 0,.int .i64 x,.int .i64 y,.int .i64 d,.int .i64 h,.int .i64 0,.int .i64 0,.int .i64 0,.int .i64 0,.int .i64 0] 43)):=by
 have q:=run_storeCells_new (P:=Tryz.prog) (w'.alloc (.cells C T)) 43 #[.int .i64 0,.int .i64 0,.int .i64 0,.int .i64 0,.int .i64 0,.int .i64 0,.int .i64 0,.int .i64 0,.int .i64 0,.int .i64 0] #[.int .i64 0,.int .i64 x,.int .i64 y,.int .i64 d,.int .i64 h,.int .i64 0,.int .i64 0,.int .i64 0,.int .i64 0,.int .i64 0] (by kernel_rfl) rfl (by simp[Value.oneCell']);rw[show(w'.alloc (.cells C T)).heap.size=w'.heap.size+1 by simp]at q;exact q
theorem zqo (x y:Option Addr) (z:Int) (w':World):(storeCells ⟨w'.heap.size,0,none⟩ [.pointer x,.pointer y,.int .i64 z] 0).run Tryz.prog (w'.alloc (.cells #[.pointer none,.pointer none,.int .i64 0] 36)).drew=.ok () (w'.alloc (.cells #[.pointer x,.pointer y,.int .i64 z] 36)).drew :=
 run_storeCells_new w'.drew 36 #[.pointer none,.pointer none,.int .i64 0] #[.pointer x,.pointer y,.int .i64 z] (by kernel_rfl) rfl (by simp[Value.oneCell'])
theorem zlV (b o:Nat) (v:Value) (w:World):(storeCells ⟨b,o,none⟩ [v] 0).run Tryz.prog w=(store ⟨b,o,none⟩ v).run Tryz.prog w:=by
 have hadd:(⟨b,o,none⟩:Addr).add 0=⟨b,o,none⟩:=by unfold Addr.add;split<;>simp_all
 simp only[storeCells,hadd,Sem.run_bind]
 cases (store (⟨b,o,none⟩:Addr) v).run Tryz.prog w<;>rfl
theorem zru:∀ w:World,(binOp .eql 49 (.pointer none) (.pointer none)).run Tryz.prog w=.ok (.bool true) w:=λw=>by kernel_rfl
theorem zs1 (x y d h A B:Int):(¬0<=x)\/(0<=x/\¬0<=y)\/(0<=x/\0<=y/\¬1<=d)\/(0<=x/\0<=y/\1<=d/\¬1<=h)\/(0<=x/\0<=y/\1<=d/\1<=h/\¬x<A)\/(0<=x/\0<=y/\1<=d/\1<=h/\x<A/\¬y<B)\/(0<=x/\0<=y/\1<=d/\1<=h/\x<A/\y<B/\¬d<=A-x)\/(0<=x/\0<=y/\1<=d/\1<=h/\x<A/\y<B/\d<=A-x/\¬h<=B-y)\/(0<=x/\0<=y/\1<=d/\1<=h/\x<A/\y<B/\d<=A-x/\h<=B-y):=by
 by_cases c0:0<=x
 case neg=>exact .inl c0
 by_cases c1:0<=y
 case neg=>exact .inr (.inl ⟨c0,c1⟩)
 by_cases c2:1<=d
 case neg=>exact .inr (.inr (.inl ⟨c0,c1,c2⟩))
 by_cases c3:1<=h
 case neg=>exact .inr (.inr (.inr (.inl ⟨c0,c1,c2,c3⟩)))
 by_cases c4:x<A
 case neg=>exact .inr (.inr (.inr (.inr (.inl ⟨c0,c1,c2,c3,c4⟩))))
 by_cases c5:y<B
 case neg=>exact .inr (.inr (.inr (.inr (.inr (.inl ⟨c0,c1,c2,c3,c4,c5⟩)))))
 by_cases c6:d<=A-x
 case neg=>exact .inr (.inr (.inr (.inr (.inr (.inr (.inl ⟨c0,c1,c2,c3,c4,c5,c6⟩))))))
 by_cases c7:h<=B-y
 case neg=>exact .inr (.inr (.inr (.inr (.inr (.inr (.inr (.inl ⟨c0,c1,c2,c3,c4,c5,c6,c7⟩)))))))
 exact .inr (.inr (.inr (.inr (.inr (.inr (.inr (.inr ⟨c0,c1,c2,c3,c4,c5,c6,c7⟩)))))))
attribute [-go_sem] storeCells in
set_option maxHeartbeats 8000000 in
set_option maxRecDepth 100000 in
theorem zl1 (q:Pic) (pd:Option Addr) (pc:Nat) (o:Opr) (ax:Option Addr) (cx:Nat) (ay:Option Addr) (cy:Nat) (x y d h wh:Int) (w:World) (hk:OpK w) (hp:PicAt w q pd pc/\zeW q) (hA:OpAt w o ax cx ay cy/\OpFits o)
  (hx : -9223372036854775808<=x/\x<=9223372036854775807) (hy : -9223372036854775808<=y/\y<=9223372036854775807) (hd : -9223372036854775808<=d/\d<=9223372036854775807) (hh : -9223372036854775808<=h/\h<=9223372036854775807) (hw:0<=wh/\wh<=255) :
  Calls Tryz.prog 7 #[zeM q pd pc,opV o ax cx ay cy,.int .i64 x,.int .i64 y,.int .i64 d,.int .i64 h,.int .u8 wh] w λe w'=>e=.returned (.bool true)/\Below w.heap.size w w':=by
 have K0:=za (λw' (b:Below w.heap.size w w')=>zaE _ _ hk b);have CL:=λw' (b:Below w.heap.size w w')=>zgw w' (K0.out w' b)
 have CB:=λw' (b:Below w.heap.size w w')=>zie q pd pc o ax cx ay cy 0 0 0 0 w' (K0.out w' b) ⟨hp.1.below b,hp.2⟩ ⟨hA.1.below b,hA.2⟩ (by decide) (by decide) (by decide) (by decide)
 obtain⟨pw,ph,pcc,pm,pl⟩:=q;obtain⟨W0,hW0⟩:∃ W0,(w.alloc (.cells #[.int .u16 pw,.int .u16 ph,.int .u16 pcc,.int .u16 pm,.slice pd pl.length pc] 25)).alloc (.cells #[.int .i64 o.kd,.int .i64 o.bd,.int .i64 o.sg,.int .i64 o.rd,.slice ax o.xs.length cx,.slice ay o.ys.length cy,.int .i64 o.fl,.int .i64 o.wd,.int .i64 o.ht] 31)=W0:=⟨_,rfl⟩;have P0:=za (show S5 W0 w.heap.size (.int .u16 pw) (.int .u16 ph) (.int .u16 pcc) (.int .u16 pm) (.slice pd pl.length pc) from hW0 ▸ ((S5.new w 25 (.int .u16 pw) (.int .u16 ph) (.int .u16 pcc) (.int .u16 pm) (.slice pd pl.length pc)).below (zg _ _)));have O0:=za (show P9 W0 (w.heap.size+1) o.kd o.bd o.sg o.rd (.slice ax o.xs.length cx) (.slice ay o.ys.length cy) o.fl o.wd o.ht from hW0 ▸ (by
  simpa using P9.new (w.alloc (.cells #[.int .u16 pw,.int .u16 ph,.int .u16 pcc,.int .u16 pm,.slice pd pl.length pc] 25)) 31 o.kd o.bd o.sg o.rd (.slice ax o.xs.length cx) (.slice ay o.ys.length cy) o.fl o.wd o.ht))
 have B0:=za (show Below w.heap.size w W0 from hW0 ▸ ba (zg w _) _);have HW0:=za hW0;have SZ:=zd8 [.pointer none,.pointer none,.pointer none,.pointer none,.int .i64 0,.slice none 0 0,.slice none 0 0,.int .i64 0,.int .i64 0,.int .i64 0,.int .i64 0,.int .i64 0,.int .i64 0,.int .i64 0,.int .i64 0,.int .i64 0,.int .i64 0,.int .i64 0,.int .i64 0,.int .i64 0] rfl (by simp[Value.oneCell']);have SY:=λc gx px gy py=>zd8 (zbr c gx px gy py) rfl (zkE c gx px gy py)
 have ST:=zsr;have q1:∀ (a:Addr) (w:World),(binOp .eql 49 (.pointer (some a)) (.pointer none)).run Tryz.prog w=.ok (.bool false) w:=λa w=>by kernel_rfl
 unfold zbr at SY;unfold zkb zkQ zeM opV at CB;unfold zeM opV;clear hk hp hA hW0;obtain⟨kd,bo,sg,rd,xs,ys,fl,wd,ht⟩:=o;simp only at P0 O0 B0 HW0 CB;generalize hnx:xs.length=nx at *;generalize hny:ys.length=ny at *;clear hnx hny
 go_enter Tryz.func7,Tryz.ntmps7
 go_upto_region 1 with fail
 rw[HW0.out];clear HW0
 go_upto_region 3 with(go_at_call 8;(with_reducible refine(CL _ B0.out).mono ?_);rintro e w1 ⟨rfl,b1⟩;have B1:=za (bt B0.out b1);obtain⟨⟨p0,_⟩,⟨p1,_⟩,⟨p2,_⟩,⟨p3,_⟩,⟨p4,_⟩⟩:=P0.out.below b1;obtain⟨o0,o1,o2,o3,o4,o5,o6,o7,o8⟩:=O0.out.below b1)
 go_wp2_with (go_at_call 9;(with_reducible refine(CB _ B1.out).mono ?_);rintro e w2 ⟨rfl|⟨w0,c,h2,gx,px,gy,py,O,rfl,BG⟩,b2⟩;have B2:=za (bt B1.out b2))
 ·go_ret;exact⟨rfl,ba (bt B1.out b2) _⟩
 have HB:=za BG;obtain⟨W3,hW3⟩:∃ W3,w2.alloc (.cells #[.pointer (some ⟨c.g,0,none⟩),.pointer (some ⟨c.g2,0,none⟩),.pointer (some c.ax),.pointer (some c.ay),.int .i64 c.S.sb,.slice (some ⟨gx,0,none⟩) c.S.lx.length px,.slice (some ⟨gy,0,none⟩) c.S.ly.length py,.int .i64 c.S.fx,.int .i64 c.S.fy,.int .i64 c.S.sb,.int .i64 0,.int .i64 (c.x0:Int),.int .i64 (c.y0:Int),.int .i64 (c.W:Int),.int .i64 (c.H:Int),.int .i64 0,.int .i64 0,.int .i64 0,.int .i64 0,.int .i64 0] 45)=W3:=⟨_,rfl⟩;have XB:=za (show CellsAt W3 w2.heap.size (zbr c gx px gy py) from hW3 ▸ CellsAt.new w2 (zbr c gx px gy py) _);have E3:=za (show Below w2.heap.size w2 W3 from hW3 ▸ zg w2 _);have L3:=za (show w2.heap.size+1=W3.heap.size from by rw[←hW3];simp);have B3:=za (show Below w.heap.size w W3 from hW3 ▸ ba (bt B1.out b2) _);clear CB CL SZ SY p0 p1 p2 p3 p4 o0 o1 o2 o3 o4 o5 o6 o7 o8 b2 BG;rw[hW3];clear hW3;obtain⟨bx,hbx⟩:∃ bx,w2.heap.size=bx:=⟨_,rfl⟩;have HBX:=za hbx;obtain⟨W4,hW4⟩:∃ W4,W3.alloc (.cells #[.int .i64 0,.int .i64 x,.int .i64 y,.int .i64 d,.int .i64 h,.int .i64 0,.int .i64 0,.int .i64 0,.int .i64 0,.int .i64 0] 43)=W4:=⟨_,rfl⟩;obtain⟨tb,htb⟩:∃ tb,W3.heap.size=tb:=⟨_,rfl⟩;have htb2:bx+1=tb:=by rw[←hbx,←htb];exact L3.out
 have P4:=za (show P10 W4 tb ⟨0,x,y,d,h,0,0,0,0,0⟩ from htb ▸ hW4 ▸ P10.new W3 43 ⟨0,x,y,d,h,0,0,0,0,0⟩);have E34:=za (show Below W3.heap.size W3 W4 from hW4 ▸ zg W3 _);have XB4:=za (show CellsAt W4 bx (zbr c gx px gy py) from hbx ▸ XB.out.below E34.out);have TB:=za htb;rw[hW4];simp only[hbx,htb2];clear hW4 hbx htb htb2 ST;have E24:=za (bt E3.out E34.out);have K:=HB.out.law.job.below (bt HB.out.bel E24.out);have A2:=K.tx.ok;have B2':=K.ty.ok;have CX:=λw' (b:Below W4.heap.size W4 w')=>zcv (K.tx.below b)
 have CY:=λw' (b:Below W4.heap.size W4 w')=>zcv (K.ty.below b)
 obtain⟨A,hA⟩:∃ A,c.S.lx.length=A:=⟨_,rfl⟩;obtain⟨B,hB⟩:∃ B,c.S.ly.length=B:=⟨_,rfl⟩;rw[hA]at CX;rw[hB]at CY;have A1:1<=A/\A<=65536:=by omega
 have B1':1<=B/\B<=65536:=by omega
 have x2:=XB4.out 2 _ rfl;have x3:=XB4.out 3 _ rfl;clear K A2 B2'
 go_quiet (first|(go_at_call 32;with_reducible exact zbF (CX _ (bdN (Below.refl _ _) _)))|(go_at_call 32;with_reducible exact zbF (CY _ (bdN (Below.refl _ _) _))))
 clear CX CY x2 x3;obtain⟨W5,hW5⟩:∃ W5,W4.drewN nq=W5:=⟨_,rfl⟩;have E45:=za (show Below W4.heap.size W4 W5 from hW5 ▸ bdN (Below.refl _ _) nq);rw[hW5];clear hW5;obtain⟨IB,hIB⟩:∃ IB,(zZ x d (A:Int) && zZ y h (B:Int))=IB:=⟨_,rfl⟩;have HIB:=za hIB;have IV:=za (show IB=true↔(0<=x/\1<=d/\d<=(A:Int)-x)/\0<=y/\1<=h/\h<=(B:Int)-y from by rw[←hIB,Bool.and_eq_true,zbk,zbk]);clear hIB
 go_upto_region 8 with fail
 go_cut [20] (λa wx=>a=.bool IB/\wx=W5)
 case first=>as_aux_lemma =>
  have hy9:=hy;rcases zs1 x y d h (A:Int) (B:Int)with c1|⟨c1,c2⟩|⟨c1,c2,c3⟩|⟨c1,c2,c3,c4⟩|⟨c1,c2,c3,c4,c5⟩|⟨c1,c2,c3,c4,c5,c6⟩|⟨c1,c2,c3,c4,c5,c6,c7⟩|⟨c1,c2,c3,c4,c5,c6,c7,c8⟩|⟨c1,c2,c3,c4,c5,c6,c7,c8⟩
  all_goals
   go_wp2;go_meet;have iv:=IV.out;refine⟨?_,rfl⟩
   cases IB
   ·first|rfl|(exfalso;have:=iv.2 ⟨⟨by omega,by omega,by omega⟩,by omega,by omega,by omega⟩;cases this)
   ·first|rfl|(exfalso;have:=iv.1 rfl;omega)
 case rest =>
  obtain⟨rfl,hwx⟩:=hcut;rw[hwx];clear hwx;have E25:=za (bt E24.out E45.out);have TN:=zun HB.out.law.job (HB.out.tgt.below E25.out) HB.out.law.ow HB.out.law.oh HB.out.law.oc HB.out.law.ot HB.out.ne (HB.out.thaw.below HB.out.tgt.lt.1 E25.out) (bt HB.out.bel E25.out) HB.out.law.base x y d h hx.1 hx.2 hy.1 hy.2;have TS:=λw' (b:Below w0.heap.size w0 w')=>zqT HB.out.law.job b x y d h hx.1 hx.2 hy.1 hy.2
  rw[hA,hB,HIB.out]at TN;rw[hA,hB,HIB.out]at TS;have XB5:=za (XB4.out.below E45.out);have P5:=za (P4.out.below E45.out);have bxl:=zf (XB5.out 0 _ rfl);have tbl:=zf P5.out.1;have h2x:some bx≠some h2:=λe=>by have:=Option.some.inj e;have:=HB.out.tgt.lt.2;have:=HBX.out;omega
  have h2t:some tb≠some h2:=λe=>by have:=Option.some.inj e;have:=HB.out.tgt.lt.2;have:=L3.out;have:=TB.out;omega
  have q9:∀ (w:World),(binOp .neq 49 (.pointer none) (.pointer none)).run Tryz.prog w=.ok (.bool false) w:=λw=>by kernel_rfl
  have q8:∀ (a:Addr) (w:World),(binOp .neq 49 (.pointer (some a)) (.pointer none)).run Tryz.prog w=.ok (.bool true) w:=λa w=>by kernel_rfl
  have ZZ:=za (fun(w':World) (g:W5.grownBy w' (some h2))=>And.intro (cg g h2x (XB5.out 2 _ rfl)) (And.intro (cg g h2x (XB5.out 3 _ rfl)) (And.intro (cg g h2x (XB5.out 4 _ rfl)) (P5.out.grown17 g h2t))))
  go_upto_region 9 with fail
  go_cut [21,22] (λa b wx=>((IB=true/\∃ jb:Nat,a=.pointer (some ⟨jb,0,none⟩)/\b=.int .i64 0)\/(IB=false/\a=.pointer none/\b=.int .i64 9))/\(∃ O',ImgAt wx c.g2 h2 O'/\O'.iw=O.iw/\O'.ih=O.ih/\O'.ic=O.ic/\O'.it=O.it)/\Thawed wx c.g2/\Below w0.heap.size w0 wx/\W5.grownBy wx (some h2))
  case first=>as_aux_lemma =>
   have z0:=XB5.out 0 _ rfl;have z1:=XB5.out 1 _ rfl;have z2:=XB5.out 2 _ rfl;have z3:=XB5.out 3 _ rfl;have z4:=XB5.out 4 _ rfl;obtain⟨p0,p1,p2,p3,p4,p5,p6,p7,p8,p9⟩:=P5.out;simp only at p0 p1 p2 p3 p4 p5 p6 p7 p8 p9
   go_wp2_with (go_at_call 11;(with_reducible refine TN.mono ?_);(rintro e w6 ⟨⟨hb6,jb,rfl⟩|⟨hb6,rfl⟩,hO6,ht6,b6,g6⟩<;>(have HI6:=za hb6;clear hb6)))
   ·go_meet;exact⟨.inl ⟨HI6.out,jb,rfl,rfl⟩,hO6,ht6,b6,g6⟩
   ·go_meet;exact⟨.inr ⟨HI6.out,rfl,rfl⟩,hO6,ht6,b6,g6⟩
  case rest =>
   obtain⟨REL,hO6,ht6,b6,g6⟩:=hcut;obtain⟨z2,z3,z4,p0,p1,p2,p3,p4,p5,p6,p7,p8,p9⟩:=ZZ.out _ g6;simp only at p0 p1 p2 p3 p4 p5 p6 p7 p8 p9;have HN:=za (NewW.mk hO6 ht6 b6 g6);have CT:=TS _ b6;clear hO6 ht6 b6 g6 TN TS
   go_upto_region 10 with fail
   go_cut [20,131] (λ_ a wx=>a=.bool false/\NewW w0 W5 wx c h2 O)
   case first=>as_aux_lemma =>
    rcases REL with⟨hIB,jb,rfl,rfl⟩|⟨hIB,rfl,rfl⟩
    ·go_wp2_with (go_at_call 19;(with_reducible refine CT.mono ?_);rintro e w7 ⟨⟨V,rfl,hV1,hV0⟩,b7⟩;have hV:=hV1 hIB;have HN7:=za (HN.out.below b7);clear hV1 hV0 b7)
     go_meet;exact⟨rfl,HN7.out⟩
    ·go_wp2_with (go_at_call 19;(with_reducible refine CT.mono ?_);rintro e w7 ⟨⟨V,rfl,hV1,hV0⟩,b7⟩;have hV:=hV0 hIB;have HN7:=za (HN.out.below b7);clear hV1 hV0 b7)
     go_meet;exact⟨rfl,HN7.out⟩
   case rest =>
    obtain⟨rfl,hN6⟩:=hcut;obtain⟨W6,hw,hN6⟩:=ziA (P:=λW=>NewW w0 W5 W c h2 O) hN6;subst hw;have HN6:=za hN6;have XB6:=za (λj v (hj:(zbr c gx px gy py)[j]?=some v)=>cg hN6.grown h2x (XB5.out j v hj));have P6:=za (P5.out.grown17 hN6.grown h2t);have K6:=za (HB.out.law.job.below hN6.bel);clear hN6 z2 z3 z4 p0 p1 p2 p3 p4 p5 p6 p7 p8 p9 HN CT REL;obtain⟨ic,hic⟩:∃ ic,c.I.ic=ic:=⟨_,rfl⟩;obtain⟨it,hit⟩:∃ it,c.I.it=it:=⟨_,rfl⟩;have okI:=HB.out.law.job.img.ok;obtain⟨_,_,_,_,hc3,t0,t1,_,_,_⟩:=okI;rw[hic]at hc3;rw[hit]at t0 t1;obtain⟨l20,m20⟩:=zrE HB.out;rw[hA]at l20;rw[hB]at m20;have code1:zaX (A:Int) (B:Int) (4-ic) it=0:=zjL (by omega) (by omega) (by omega) (by omega) (by omega) t0 t1;have code2:zaX ((A:Int)+1) (B:Int) ic it=0:=zjL (by omega) (by omega) (by omega) (by omega) hc3 t0 t1;have e1:IntKind.i64.wrap (4-ic)=4-ic:=za3 (by omega) (by omega);have e2:IntKind.i64.wrap ((A:Int)+1)=(A:Int)+1:=za3 (by omega) (by omega);have HC3:=za (And.intro hc3 (And.intro hic (And.intro hit (And.intro hA hB))));clear hc3 t0 t1 l20 m20 hA hB A1 B1'
    go_upto_region 12 with fail
    go_cut [23,24,25] (λa b s wx=>a=.pointer (some ⟨c.g,0,none⟩)/\b=.pointer (some ⟨c.g2,0,none⟩)/\∃ sB:Nat,s=.pointer (some ⟨sB,0,none⟩)/\W6.heap.size<=sB/\(wx.cell? ⟨sB,0,none⟩=some (.pointer (some c.ax))/\wx.cell? ⟨sB,1,none⟩=some (.pointer (some c.ay))/\wx.cell? ⟨sB,2,none⟩=some (.int .i64 c.S.sb))/\(∀ j,wx.frozen? ⟨sB,j,none⟩=false)/\Below W6.heap.size W6 wx)
    case first=>as_aux_lemma =>
     have z0:=XB6.out 0 _ rfl;have z1:=XB6.out 1 _ rfl;have z2:=XB6.out 2 _ rfl;have z3:=XB6.out 3 _ rfl;have z4:=XB6.out 4 _ rfl;have S12:=zqo (some c.ax) (some c.ay) c.S.sb W6
     go_region_held3 (λw'=>w'.cell? ⟨bx,0,none⟩=some (.pointer (some ⟨c.g,0,none⟩))/\w'.cell? ⟨bx,1,none⟩=some (.pointer (some ⟨c.g2,0,none⟩))/\w'.cell? ⟨bx,2,none⟩=some (.pointer (some c.ax))/\w'.cell? ⟨bx,3,none⟩=some (.pointer (some c.ay))/\w'.cell? ⟨bx,4,none⟩=some (.int .i64 c.S.sb)) (first|with_reducible assumption|(with_reducible exact⟨z0,z1,z2,z3,z4⟩)|go_keep) (fail)
     all_goals
      go_wp2_with fail
      go_meet;refine⟨rfl,rfl,W6.heap.size,rfl,Nat.le_refl _,⟨?_,?_,?_⟩,λj=>?_,?_⟩
      ·simp
      ·simp
      ·simp
      ·simp
      ·exact(by repeat (first|exact zg _ _|exact Below.refl _ _|(with_reducible refine bdN ?_ _)|(with_reducible refine ba ?_ _)|with_reducible refine bd ?_))
    case rest =>
     obtain⟨rfl,rfl,sB,rfl,lsB,hS,fS,bS⟩:=hcut;have LS:=za lsB;have BS:=za bS;have HS:=za hS;have FS:=za fS;clear lsB bS hS fS;obtain⟨W7,hw7,⟨bS,hS,fS⟩⟩:=ziA (P:=λW=>Below W6.heap.size W6 W/\(W.cell? ⟨sB,0,none⟩=some (.pointer (some c.ax))/\W.cell? ⟨sB,1,none⟩=some (.pointer (some c.ay))/\W.cell? ⟨sB,2,none⟩=some (.int .i64 c.S.sb))/\∀ j,W.frozen? ⟨sB,j,none⟩=false) ⟨BS.out,HS.out,FS.out⟩;subst hw7;clear bS hS fS;have z0:=cb BS.out (zf (XB6.out 0 _ rfl)) (XB6.out 0 _ rfl);have CC:=λw' (b:Below W6.heap.size W6 w')=>zaF (K6.out.img.below b)
     have CM:=λw' (b:Below W6.heap.size W6 w')=>zdo (K6.out.img.below b)
     rw[hic]at CC;rw[hit]at CM;have CO1:=λw' (b:Below W6.heap.size W6 w')=>zk6 (A:Int) (B:Int) (4-ic) it code1 w' W6.heap.size b.size
     have CO2:=λw' (b:Below W6.heap.size W6 w')=>zk6 ((A:Int)+1) (B:Int) ic it code2 w' W6.heap.size b.size
     go_upto_region 13 with fail
     go_cut [26,27] (λa f wx=>f=.int .i64 0/\OtherI wx W6.heap.size (A:Int) (B:Int) (4-ic) it a/\Below W6.heap.size W6 wx/\(wx.cell? ⟨bx,0,none⟩=some (.pointer (some ⟨c.g,0,none⟩)))/\(wx.cell? ⟨sB,0,none⟩=some (.pointer (some c.ax))/\wx.cell? ⟨sB,1,none⟩=some (.pointer (some c.ay))/\wx.cell? ⟨sB,2,none⟩=some (.int .i64 c.S.sb))/\∀ j,wx.frozen? ⟨sB,j,none⟩=false)
     case first=>as_aux_lemma =>
      go_region_held3 (λw'=>w'.cell? ⟨bx,0,none⟩=some (.pointer (some ⟨c.g,0,none⟩))) (first|with_reducible assumption|go_keep)
       (first
        |(go_at_call 17;(with_reducible refine(CC _ (bt BS.out bch)).mono ?_);rintro e w8 ⟨rfl,rfl⟩)
        |(go_at_call 23;(with_reducible refine(CM _ (bt BS.out bch)).mono ?_);rintro e w8 ⟨rfl,rfl⟩)
        |(go_at_call 33;(with_reducible refine(CO1 _ (bt BS.out bch)).mono ?_);rintro e w9 ⟨p9,rfl,o9,b9⟩;have O9:=za o9;have B9:=za (bt (show Below W7.heap.size W7 _ from bch) b9);have y9:=cb B9.out (zf z0) z0;clear o9 b9))
      all_goals
       go_wp2_with fail
       go_meet;exact⟨rfl,O9.out.below bch,bt BS.out (bt B9.out bch),cb (bt B9.out bch) (zf z0) z0,⟨cb (bt B9.out bch) (zf HS.out.1) HS.out.1,cb (bt B9.out bch) (zf HS.out.1) HS.out.2.1,cb (bt B9.out bch) (zf HS.out.1) HS.out.2.2⟩,λj=>fb (bt B9.out bch) (zf HS.out.1) (FS.out j)⟩
     case rest =>
      obtain⟨rfl,hO1,bS,z0',hS,fS⟩:=hcut;obtain⟨W8,hw8,⟨bS,z0,hS,fS,hO1⟩⟩:=ziA (P:=λW=>Below W6.heap.size W6 W/\W.cell? ⟨bx,0,none⟩=some (.pointer (some ⟨c.g,0,none⟩))/\(W.cell? ⟨sB,0,none⟩=some (.pointer (some c.ax))/\W.cell? ⟨sB,1,none⟩=some (.pointer (some c.ay))/\W.cell? ⟨sB,2,none⟩=some (.int .i64 c.S.sb))/\(∀ j,W.frozen? ⟨sB,j,none⟩=false)/\OtherI W W6.heap.size (A:Int) (B:Int) (4-ic) it u26) ⟨bS,z0',hS,fS,hO1⟩;subst hw8;clear z0';have BS8:=za bS;have HS8:=za hS;have FS8:=za fS;have HO8:=za hO1;clear bS hS fS hO1 CO1
      go_upto_region 14 with fail
      go_cut [28,29] (λa f wx=>f=.int .i64 0/\OtherI wx W6.heap.size ((A:Int)+1) (B:Int) ic it a/\OtherI wx W6.heap.size (A:Int) (B:Int) (4-ic) it u26/\Below W6.heap.size W6 wx/\(wx.cell? ⟨sB,0,none⟩=some (.pointer (some c.ax))/\wx.cell? ⟨sB,1,none⟩=some (.pointer (some c.ay))/\wx.cell? ⟨sB,2,none⟩=some (.int .i64 c.S.sb))/\∀ j,wx.frozen? ⟨sB,j,none⟩=false)
      case first=>as_aux_lemma =>
       go_region_held3 (λw'=>w'.cell? ⟨bx,0,none⟩=some (.pointer (some ⟨c.g,0,none⟩))) (first|with_reducible assumption|go_keep)
        (first
         |(go_at_call 17;(with_reducible refine(CC _ (bt BS8.out bch)).mono ?_);rintro e w8 ⟨rfl,rfl⟩)
         |(go_at_call 23;(with_reducible refine(CM _ (bt BS8.out bch)).mono ?_);rintro e w8 ⟨rfl,rfl⟩)
         |(go_at_call 33;(with_reducible refine(CO2 _ (bt BS8.out bch)).mono ?_);rintro e w9 ⟨p9,rfl,o9,b9⟩;have O9:=za o9;have B9:=za (bt (show Below W8.heap.size W8 _ from bch) b9);have y9:=cb B9.out (zf z0) z0;clear o9 b9))
       all_goals
        go_wp2_with fail
        go_meet;exact⟨rfl,O9.out.below bch,HO8.out.below (bt B9.out bch),bt BS8.out (bt B9.out bch),⟨cb (bt B9.out bch) (zf HS8.out.1) HS8.out.1,cb (bt B9.out bch) (zf HS8.out.1) HS8.out.2.1,cb (bt B9.out bch) (zf HS8.out.1) HS8.out.2.2⟩,λj=>fb (bt B9.out bch) (zf HS8.out.1) (FS8.out j)⟩
      case rest =>
       obtain⟨rfl,ho2,ho1,bS,hS,fS⟩:=hcut;obtain⟨W9,hw9,⟨bS,hS,fS,ho1,ho2⟩⟩:=ziA (P:=λW=>Below W6.heap.size W6 W/\(W.cell? ⟨sB,0,none⟩=some (.pointer (some c.ax))/\W.cell? ⟨sB,1,none⟩=some (.pointer (some c.ay))/\W.cell? ⟨sB,2,none⟩=some (.int .i64 c.S.sb))/\(∀ j,W.frozen? ⟨sB,j,none⟩=false)/\OtherI W W6.heap.size (A:Int) (B:Int) (4-ic) it u26/\OtherI W W6.heap.size ((A:Int)+1) (B:Int) ic it u28) ⟨bS,hS,fS,ho1,ho2⟩;subst hw9;obtain⟨s0,s1,s2⟩:=hS;have f0:=fS 0;have f2:=fS 2;have B9:=za bS;obtain⟨og1,oh1,I1,rfl,l1,i1,t1,d1⟩:=ho1;obtain⟨og2,oh2,I2,rfl,l2,i2,t2,d2⟩:=ho2;have H1:=za (And.intro l1 (And.intro i1 (And.intro t1 d1)));have H2:=za (And.intro l2 (And.intro i2 (And.intro t2 d2)));have HCOD:=za (And.intro code1 code2);have k0:=hw.1;clear fS bS l1 i1 t1 d1 l2 i2 t2 d2 CC CM CO2 e1 e2 code1 code2 z0;have gl:c.g<W6.heap.size:=K6.out.img.lt.1;have NG1:=za (show c.g≠og1 from λe=>by have:=H1.out.1;omega);have NG2:=za (show c.g≠og2 from λe=>by have:=H2.out.1;omega);clear gl;have p9:=P6.out.below B9.out;obtain⟨p0,p1,p2,p3,p4,p5,p6,p7,p8,p9⟩:=p9;simp only at p0 p1 p2 p3 p4 p5 p6 p7 p8 p9;have one:=zlV;have r1:=zru;rcases zwa k0 with e|e|e|e|e|e
       ·have CT:=zhj (w:=W9) (p1:=none) (p2:=some ⟨c.g2,0,none⟩) (x:=some c.ax) (y:=some c.ay) c.S.sb ⟨0,x,y,d,h,0,0,0,0,0⟩ (λw2 _=>zma _ _ _ _);unfold zbV at CT;simp only at CT;clear f0 f2 one
        go_wp2_with (go_at_call 11;(with_reducible refine CT.mono ?_);rintro e w10 ⟨rfl,b10⟩;have B10:=za b10)
        go_ret;exact⟨rfl,bt B1.out (bt HB.out.bel0 (bt HN6.out.bel (bt B9.out B10.out)))⟩
       ·have CT:=zhj (w:=W9) (p1:=some ⟨c.g,0,none⟩) (p2:=none) (x:=some c.ax) (y:=some c.ay) c.S.sb ⟨0,x,y,d,h,0,0,0,0,0⟩ (λw2 _=>zl7 _ _ _ _);unfold zbV at CT;simp only at CT;clear f0 f2 one
        go_wp2_with (go_at_call 11;(with_reducible refine CT.mono ?_);rintro e w10 ⟨rfl,b10⟩;have B10:=za b10)
        go_ret;exact⟨rfl,bt B1.out (bt HB.out.bel0 (bt HN6.out.bel (bt B9.out B10.out)))⟩
       ·obtain⟨O6,io,_⟩:=HN6.out.img;have BW:Below W6.heap.size W6 (W9.setCell ⟨sB,0,none⟩ (.pointer none)):=bs B9.out LS.out _;have CT:=zhj (w:=W9.setCell ⟨sB,0,none⟩ (.pointer none)) (p1:=some ⟨c.g,0,none⟩) (p2:=some ⟨c.g2,0,none⟩) (x:=none) (y:=some c.ay) c.S.sb ⟨0,x,y,d,h,0,0,0,0,0⟩ (λw2 b2=>zmC (K6.out.img.below (bt BW b2)) (io.below (bt BW b2)) HB.out.ne (HN6.out.thaw.below io.lt.1 (bt BW b2)) (some c.ay) c.S.sb);unfold zbV at CT;simp only at CT;have n0:(W9.setCell ⟨sB,0,none⟩ (.pointer none)).cell? ⟨sB,0,none⟩=some (.pointer none):=World.cell?_setCell_same' _ _ _ (by rw[s0];rfl);have n1:(W9.setCell ⟨sB,0,none⟩ (.pointer none)).cell? ⟨sB,1,none⟩=some (.pointer (some c.ay)):=(zc (Or.inr (by decide))).trans s1;have n2:(W9.setCell ⟨sB,0,none⟩ (.pointer none)).cell? ⟨sB,2,none⟩=some (.int .i64 c.S.sb):=(zc (Or.inr (by decide))).trans s2;obtain⟨m0,m1,m2,m3,m4,m5,m6,m7,m8,m9⟩:=P6.out.below BW;simp only at m0 m1 m2 m3 m4 m5 m6 m7 m8 m9;have HW:=za BW;clear f2 io BW p0 p1 p2 p3 p4 p5 p6 p7 p8 p9
        go_wp2_with (go_at_call 11;(with_reducible refine CT.mono ?_);rintro e w10 ⟨rfl,b10⟩;have B10:=za b10)
        go_ret;exact⟨rfl,bt B1.out (bt HB.out.bel0 (bt HN6.out.bel (bt HW.out B10.out)))⟩
       ·have CT:=zhL HB.out.law.job HN6.out.bel (S:=c.S) rfl rfl rfl rfl H1.out.2.1 H1.out.2.2.1 NG1.out B9.out (zwu (by rw[HC3.out.2.1];exact HC3.out.1) (by rw[HC3.out.2.1];exact H1.out.2.2.2.2.2.1)) ⟨0,x,y,d,h,0,0,0,0,0⟩;unfold zbV at CT;simp only at CT;clear f0 f2 one
        go_wp2_with (go_at_call 11;(with_reducible refine CT.mono ?_);rintro e w10 ⟨rfl,b10⟩;have B10:=za b10)
        go_ret;exact⟨rfl,bt B1.out (bt HB.out.bel0 (bt HN6.out.bel (bt B9.out B10.out)))⟩
       ·have CT:=zhL HB.out.law.job HN6.out.bel (S:=c.S) rfl rfl rfl rfl H2.out.2.1 H2.out.2.2.1 NG2.out B9.out (zwx (by rw[HC3.out.2.2.2.1];exact H2.out.2.2.2.1)) ⟨0,x,y,d,h,0,0,0,0,0⟩;unfold zbV at CT;simp only at CT;clear f0 f2 one
        go_wp2_with (go_at_call 11;(with_reducible refine CT.mono ?_);rintro e w10 ⟨rfl,b10⟩;have B10:=za b10)
        go_ret;exact⟨rfl,bt B1.out (bt HB.out.bel0 (bt HN6.out.bel (bt B9.out B10.out)))⟩
       ·obtain⟨O6,io,_⟩:=HN6.out.img;have BW:Below W6.heap.size W6 (W9.setCell ⟨sB,2,none⟩ (.int .i64 3)):=bs B9.out LS.out _;have CT:=zhL HB.out.law.job HN6.out.bel (S:=c.S.bord 3) rfl rfl rfl rfl (io.below BW) (HN6.out.thaw.below io.lt.1 BW) HB.out.ne BW zwM ⟨0,x,y,d,h,0,0,0,0,0⟩;rw[show(c.S.bord 3).sb=3 from rfl]at CT;unfold zbV at CT;simp only at CT;have n0:(W9.setCell ⟨sB,2,none⟩ (.int .i64 3)).cell? ⟨sB,0,none⟩=some (.pointer (some c.ax)):=(zc (Or.inr (by decide))).trans s0;have n1:(W9.setCell ⟨sB,2,none⟩ (.int .i64 3)).cell? ⟨sB,1,none⟩=some (.pointer (some c.ay)):=(zc (Or.inr (by decide))).trans s1;have n2:(W9.setCell ⟨sB,2,none⟩ (.int .i64 3)).cell? ⟨sB,2,none⟩=some (.int .i64 3):=World.cell?_setCell_same' _ _ _ (by rw[s2];rfl);obtain⟨m0,m1,m2,m3,m4,m5,m6,m7,m8,m9⟩:=P6.out.below BW;simp only at m0 m1 m2 m3 m4 m5 m6 m7 m8 m9;have HW:=za BW;clear f0 io BW p0 p1 p2 p3 p4 p5 p6 p7 p8 p9
        go_wp2_with (go_at_call 11;(with_reducible refine CT.mono ?_);rintro e w10 ⟨rfl,b10⟩;have B10:=za b10)
        go_ret;exact⟨rfl,bt B1.out (bt HB.out.bel0 (bt HN6.out.bel (bt HW.out B10.out)))⟩
end Go.Proofs.YtlodkoimdoeopaaGreatDoor
