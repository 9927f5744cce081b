/- Parts, joined. -/
import Derived.Test.YtlodkoimdoeopaaGreatDoorQ09
import Derived.Test.YtlodkoimdoeopaaGreatDoorQ31
import Derived.Test.YtlodkoimdoeopaaGreatDoorQ10
import Derived.Test.YtlodkoimdoeopaaGreatDoorRows
import Derived.Test.YtlodkoimdoeopaaGreatDoorQ19
import Derived.Test.YtlodkoimdoeopaaGreatDoorQ11
import Derived.Test.YtlodkoimdoeopaaGreatDoorQ17
import Derived.Test.YtlodkoimdoeopaaGreatDoorQ30
import Derived.Test.YtlodkoimdoeopaaGreatDoorQ18
import Derived.Test.YtlodkoimdoeopaaGreatDoorQ24
import Derived.Maps.RangeWalk
import Derived.Maps.OwnOps
import Derived.Deep.WholeRow
import Derived.Deep.LoopGhost
import Derived.ProofKit
import Derived.LaidMore
import Derived.OpenShut
namespace Go.Proofs.YtlodkoimdoeopaaGreatDoor
theorem zfv {E y:Int} {ls:List Wnd} {m:Mv} (h:m ∈ zaB E y ls):m.1=1\/m.1=2:=by
 induction ls generalizing E y with
 |nil=>cases h
 |cons l r ih =>
  rcases List.mem_append.1 h with h|h
  ·obtain⟨x,_,rfl⟩:=List.mem_map.1 h;exact .inl rfl
  ·rcases List.mem_cons.1 h with rfl|h
   ·exact .inr rfl
   ·exact ih h
end Go.Proofs.YtlodkoimdoeopaaGreatDoor
namespace Go.Proofs.YtlodkoimdoeopaaGreatDoor
open Go.RowKit Go.Maps
theorem zgm (L:List Value) (hl:L.length=20) (h1:L.toArray.all (·.oneCell')=true) (w':World):(storeCells ⟨w'.heap.size,0,none⟩ L 0).run Tryz.prog (w'.alloc (.cells #[.pointer none,.pointer none,.pointer none,.pointer none,.int .i64 0,.slice none 0 0,.slice none 0 0,.int .i64 0,.int .i64 0,.int .i64 0,.int .i64 0,.int .i64 0,.int .i64 0,.int .i64 0,.int .i64 0,.int .i64 0,.int .i64 0,.int .i64 0,.int .i64 0,.int .i64 0] 45))=.ok () (w'.alloc (.cells L.toArray 45)) :=
 run_storeCells_new w' 45 #[.pointer none,.pointer none,.pointer none,.pointer none,.int .i64 0,.slice none 0 0,.slice none 0 0,.int .i64 0,.int .i64 0,.int .i64 0,.int .i64 0,.int .i64 0,.int .i64 0,.int .i64 0,.int .i64 0,.int .i64 0,.int .i64 0,.int .i64 0,.int .i64 0,.int .i64 0] L.toArray (by rw[show(Tryz.prog.info? 45).map (·.size)=Option.some 20 by kernel_rfl];simp[hl]) (by simp[hl]) h1
def za2 (c:JobC) (gx px gy py:Nat):List Value :=
 [.pointer (some ⟨c.g,0,none⟩),.pointer (some ⟨c.g2,0,none⟩),.pointer (some c.ax),.pointer (some c.ay),.int .i64 c.S.sb,.slice (some ⟨gx,0,none⟩) c.S.lx.length px,.slice (some ⟨gy,0,none⟩) c.S.ly.length py,.int .i64 c.S.fx,.int .i64 c.S.fy,.int .i64 c.S.sb,.int .i64 0,.int .i64 (c.x0:Int),.int .i64 (c.y0:Int),.int .i64 (c.W:Int),.int .i64 (c.H:Int),.int .i64 0,.int .i64 0,.int .i64 0,.int .i64 0,.int .i64 0]
theorem zpl (c:JobC) (gx px gy py:Nat):(za2 c gx px gy py).toArray.all (·.oneCell')=true:=by
 unfold za2
 simp[Value.oneCell']
end Go.Proofs.YtlodkoimdoeopaaGreatDoor
namespace Go.Proofs.YtlodkoimdoeopaaGreatDoor
open Go.RowKit
set_option maxHeartbeats 8000000 in
set_option maxRecDepth 100000 in
theorem zpL {w:World} {ax ay:Addr} {nx ny:Int} {LX LY:List (Int×List Int)} (tx:Tab w (.pointer (some ax)) nx LX) (ty:Tab w (.pointer (some ay)) ny LY) (sb:Int) (tn a b d h t5 t6 t7 t8 t9:Int) (a0 : -9223372036854775808<=a) (a1:a<=9223372036854775807) (b0 : -9223372036854775808<=b) (b1:b<=9223372036854775807) :
  Calls Tryz.prog 19 #[.agg #[.pointer (some ax),.pointer (some ay),.int .i64 sb],.agg #[.int .i64 tn,.int .i64 a,.int .i64 b,.int .i64 d,.int .i64 h,.int .i64 t5,.int .i64 t6,.int .i64 t7,.int .i64 t8,.int .i64 t9]] w λe w' =>
   ((zbd a d (LX.length:Int) && zbd b h (LY.length:Int))=false/\e=.returned (.int .i64 0)\/(zbd a d (LX.length:Int) && zbd b h (LY.length:Int))=true/\∃ y0 H:Nat,b=(y0:Int)/\h=(H:Int)/\y0+H<=LY.length/\1<=H/\e=.returned (.int .i64 ((zf LY (y0+H-1)).1+((zf LY (y0+H-1)).2.length:Int)-(zf LY y0).1+(H:Int))))/\Below w.heap.size w w':=by
 have ly:=ty.ok.2.2.1;have lok:=ty.ok.1;have CW:=λw' (k:Below w.heap.size w w')=>ziW (tx.below k) (ty.below k) sb a b d h a0 a1 b0 b1
 have CR:=λw' (k:Below w.heap.size w w') (y0 H:Nat) (hy:y0+H<=LY.length) (hH:1<=H)=>zfb (ty.below k) (y0:Int) ((y0:Int)+(H:Int)) (p:=y0) (q:=y0+H-1) (by omega) (by omega) (by omega)
 obtain⟨W1,hW1⟩:∃ W1,(w.alloc (.cells #[.pointer (some ax),.pointer (some ay),.int .i64 sb] 36)).alloc (.cells #[.int .i64 tn,.int .i64 a,.int .i64 b,.int .i64 d,.int .i64 h,.int .i64 t5,.int .i64 t6,.int .i64 t7,.int .i64 t8,.int .i64 t9] 43)=W1:=⟨_,rfl⟩;have B1:=za (show Below w.heap.size w W1 by rw[←hW1];exact ba (zg _ _) _);have X1:=za (show S13 W1 w.heap.size (w.heap.size+1) (.pointer (some ax)) (.pointer (some ay)) (.int .i64 sb) ⟨tn,a,b,d,h,t5,t6,t7,t8,t9⟩ by
  rw[←hW1];refine⟨by refine⟨?_,?_,?_⟩<;>simp,?_⟩;have q:=P10.new (w.alloc (.cells #[.pointer (some ax),.pointer (some ay),.int .i64 sb] 36)) 43 ⟨tn,a,b,d,h,t5,t6,t7,t8,t9⟩;rw[show(w.alloc (.cells #[.pointer (some ax),.pointer (some ay),.int .i64 sb] 36)).heap.size=w.heap.size+1 by simp]at q;exact q)
 have HW1:=za hW1;have q1:∀ (a:Addr) (w:World),(binOp .eql 34 (.pointer (some a)) (.pointer none)).run Tryz.prog w=.ok (.bool false) w:=λa w=>by kernel_rfl
 clear hW1
 cases hI:(zbd a d (LX.length:Int) && zbd b h (LY.length:Int)) with
 |false =>
  rw[hI]at CW;clear CR tx ty lok ly hI
  go_enter Tryz.func19,Tryz.ntmps19
  go_upto_region 1 with fail
  rw[HW1.out];obtain⟨⟨z0,z1,z2⟩,p0,p1,p2,p3,p4,p5,p6,p7,p8,p9⟩:=X1.out;simp only at p0 p1 p2 p3 p4 p5 p6 p7 p8 p9
  go_wp2_with (go_at_call 41;(with_reducible refine(CW _ B1.out).mono ?_);rintro e w2 ⟨rfl,b2⟩;have B2:=za (bt B1.out b2))
  go_ret;exact⟨.inl ⟨trivial,rfl⟩,B2.out⟩
 |true =>
  rw[hI]at CW;rw[Bool.and_eq_true]at hI;have i2:=zdU.1 hI.2;obtain⟨y0,rfl⟩:∃ y0:Nat,b=(y0:Int):=⟨b.toNat,by omega⟩;obtain⟨H,rfl⟩:∃ H:Nat,h=(H:Int):=⟨h.toNat,by omega⟩;have CR2:=λw' k=>CR w' k y0 H (by omega) (by omega)
  have l1:=lok y0 (by omega);have l2:=lok (y0+H-1) (by omega);have e1:IntKind.i64.wrap ((y0:Int)+(H:Int))=(y0:Int)+(H:Int):=zaN (by omega) (by omega);have e2:IntKind.i64.wrap ((zf LY (y0+H-1)).1+((zf LY (y0+H-1)).2.length:Int)-(zf LY y0).1+(H:Int))=(zf LY (y0+H-1)).1+((zf LY (y0+H-1)).2.length:Int)-(zf LY y0).1+(H:Int):=zaN (by unfold zj7 at l1 l2;omega) (by unfold zj7 at l1 l2;omega);have hyH:y0+H<=LY.length:=by omega
  have hH:1<=H:=by omega
  obtain⟨M,hM⟩:∃ M,(zf LY (y0+H-1)).1+((zf LY (y0+H-1)).2.length:Int)-(zf LY y0).1=M:=⟨_,rfl⟩;rw[hM]at e2 CR2;have HM:=za hM;have HY:=za (And.intro hyH hH);clear CR tx ty lok ly hI l1 l2 i2 hM hyH hH
  go_enter Tryz.func19,Tryz.ntmps19
  go_upto_region 1 with fail
  rw[HW1.out];obtain⟨⟨z0,z1,z2⟩,p0,p1,p2,p3,p4,p5,p6,p7,p8,p9⟩:=X1.out;simp only at p0 p1 p2 p3 p4 p5 p6 p7 p8 p9
  go_upto_region 3 with(go_at_call 41;(with_reducible refine(CW _ B1.out).mono ?_);rintro e w2 ⟨rfl,b2⟩;have B2:=za (bt B1.out b2);have X2:=za (X1.out.below b2))
  clear z0 z1 z2 p0 p1 p2 p3 p4 p5 p6 p7 p8 p9;obtain⟨⟨z0,z1,z2⟩,p0,p1,p2,p3,p4,p5,p6,p7,p8,p9⟩:=X2.out;simp only at p0 p1 p2 p3 p4 p5 p6 p7 p8 p9
  go_wp2_with (go_at_call 42;(with_reducible refine(CR2 _ B2.out).mono ?_);rintro e w3 ⟨rfl,b3⟩;have B3:=za (bt B2.out b3);have X3:=za (X2.out.below b3);obtain⟨⟨v0,v1,v2⟩,r0,r1,r2,r3,r4,r5,r6,r7,r8,r9⟩:=X3.out;simp only at r0 r1 r2 r3 r4 r5 r6 r7 r8 r9)
  go_ret;exact⟨.inr ⟨trivial,y0,H,rfl,rfl,HY.out.1,HY.out.2,by rw[HM.out];rfl⟩,B3.out⟩
theorem zlM {w0:World} {c:JobC} (K:JobK w0 c):(c.steps.length:Int)=(zf c.S.ly (c.y0+c.H-1)).1+((zf c.S.ly (c.y0+c.H-1)).2.length:Int)-(zf c.S.ly c.y0).1+(c.H:Int):=by
 have yh:=K.yh;have h1:=K.h1;have hst:=K.lines (y:=c.y0) (n:=c.H) yh;have hl:(c.ls c.y0 c.H).length=c.H:=by
  unfold JobC.ls zbZ;rw[List.length_take,List.length_drop,List.length_map];omega
 have st:JobG c.mo [] (zf c.S.ly c.y0).1 (c.ls c.y0 c.H):=by
  obtain⟨H0,hH⟩:∃ H0,c.H=H0+1:=⟨c.H-1,by omega⟩;rw[hH,zcJ (by omega)]at hst ⊢;exact zkb hst.1 hst.2
 obtain⟨_,e⟩:=znB _ _ _ (c.y0:Int) st;rw[hl]at e;unfold JobC.steps;rw[e];unfold JobC.ls;rw[zh2 c.H c.y0 _ yh h1]
def JobC.of (c:JobC) (x0 y0 W H:Nat):JobC:=⟨c.g,c.h,c.I,c.g2,c.ax,c.ay,c.S,0,0,0,0,0,0,x0,y0,W,H,c.C,c.mo⟩
theorem JobK.of {w0:World} {c:JobC} (K:JobK w0 c) {x0 y0 W H:Nat} (xw:x0+W<=c.S.lx.length) (w1:1<=W) (yh:y0+H<=c.S.ly.length) (h1:1<=H):JobK w0 (c.of x0 y0 W H) :=
 ⟨K.opk,K.tx,K.ty,K.img,K.suits,K.small,K.gap,K.most,K.mo1,K.mo2,K.ch,xw,w1,yh,h1⟩
theorem zhe {w0 w':World} {c:JobC} {h2:Nat} {O:Im} (K:JobK w0 c) (HO:ImgAt w' c.g2 h2 O) (ow:O.iw=(c.S.lx.length:Int)) (oh:O.ih=(c.S.ly.length:Int)) (oc:O.ic=c.I.ic) (ot:O.it=c.I.it) (hne:c.g≠c.g2) (hf:Thawed w' c.g2) (hb:Below w0.heap.size w0 w') (hB:w0.heap.size<=h2)
  {x0 y0 W H:Nat} (xw:x0+W<=c.S.lx.length) (w1:1<=W) (yh:y0+H<=c.S.ly.length) (h1:1<=H) :
  Calls Tryz.prog 11 #[.pointer (some ⟨c.g,0,none⟩),.pointer (some ⟨c.g2,0,none⟩),.agg #[.pointer (some c.ax),.pointer (some c.ay),.int .i64 c.S.sb],.agg #[.int .i64 0,.int .i64 (x0:Int),.int .i64 (y0:Int),.int .i64 (W:Int),.int .i64 (H:Int),.int .i64 0,.int .i64 0,.int .i64 0,.int .i64 0,.int .i64 0]] w' λe w''=>∃ jb,e=.returned (.tuple #[.pointer (some ⟨jb,0,none⟩),.int .i64 0])/\LawC w0 w' h2 (c.of x0 y0 W H) O/\LawT w0 w' w'' jb h2 (c.of x0 y0 W H) O (c.of x0 y0 W H).steps/\Below w'.heap.size w' w'':=by
 have ll:=HO.lt;have C:LawC w0 w' h2 (c.of x0 y0 W H) O:=⟨K.of xw w1 yh h1,ow,oh,oc,ot,ll.1,ll.2,hB,hb.size⟩;refine(zhv C HO hne hf hb).mono ?_;rintro e w2 ⟨jb,rfl,L,b⟩;exact⟨jb,rfl,C,L,b⟩
end Go.Proofs.YtlodkoimdoeopaaGreatDoor
namespace Go.Proofs.YtlodkoimdoeopaaGreatDoor
open Go.ChangeShapes Go.WideShapes Go.ChangeAt Go.WideMaps Go.WideElems Go.RowKit
theorem gKinds : Tryz.prog.globalNamed "smalto/raw.kinds" = some 1 := by kernel_rfl
theorem tKinds:(Tryz.prog.globals[1]?).map (·.type)=some 212:=by kernel_rfl
theorem zrb:Tryz.prog.cellsOf 212=6:=by kernel_rfl
theorem zsY:Tryz.prog.cellsOf 211=2:=by kernel_rfl
theorem zsa:Tryz.prog.cellsOf 9=1:=by kernel_rfl
theorem ztd:Tryz.prog.cellsOf 2=1:=by kernel_rfl
theorem zjD {s:ByteArray} {l:List UInt8} (h:s.data.toList=l):s=⟨l.toArray⟩:=by
 subst h;rfl
theorem zg9 {H:Type} {enc:TypeId×Value->H} {w:World} {base:Nat} {sp:Nat->Bool} {held:Bool} {fuel:Nat} {a b:Value} {l:List UInt8} {n:Int} {y:DataW H×List MemPlace}
  (h:DataW.trod enc Tryz.prog w base sp held fuel 211 [a,b]=some y) (hy:y.1=.agg [.lit (.string l),.lit (.int .i64 n)]):a=.string ⟨l.toArray⟩/\b=.int .i64 n:=by
 obtain⟨y0,y1,m,rfl,_,h0,h1⟩:=trod_struct2 Tryz.underlying211 h
 simp[zsa,ztd]at h0 h1 hy
 obtain⟨s,e0,rfl,_⟩:=DataW.trod_string Tryz.underlying9 h0;obtain⟨k,e1,rfl,_⟩:=DataW.trod_int Tryz.underlying2 h1;simp at e0 e1 hy;obtain⟨g0,rfl⟩:=hy;exact⟨by rw[e0,zjD g0],e1⟩
set_option maxRecDepth 100000 in
theorem zom {H:Type} {enc:TypeId×Value->H} {w:World} {base:Nat} {sp:Nat->Bool} {held:Bool} {fuel:Nat} {cs:Array Value} {p:List MemPlace}
  (h:DataW.trod enc Tryz.prog w base sp held fuel 212 cs.toList=some (Rows.laid_smalto_raw_kinds,p)) :
  cs=#[.string ⟨#[98,111,120]⟩,.int .i64 0,.string ⟨#[99,117,98,105,99]⟩,.int .i64 2,.string ⟨#[108,97,110,99,122,111,115]⟩,.int .i64 3]:=by
 obtain⟨l⟩:=cs;obtain⟨xs,m,rfl,hx,hl,hn,he⟩:=DataW.trod_array Tryz.underlying212 h;rw[zrb]at hl;rw[zsY]at he;obtain⟨c0,c1,c2,c3,c4,c5,rfl⟩:∃ c0 c1 c2 c3 c4 c5,l=[c0,c1,c2,c3,c4,c5]:=by
  match l,hl with
  |[a,b,c,d,e,f],_=>exact⟨a,b,c,d,e,f,rfl⟩
 obtain⟨y0,y1,y2,rfl⟩:∃ y0 y1 y2,xs=[y0,y1,y2]:=by
  match xs,hn with
  |[a,b,c],_=>exact⟨a,b,c,rfl⟩
 have h0:=he 0 (by omega);have h1:=he 1 (by omega);have h2:=he 2 (by omega);simp at h0 h1 h2
 simp[Rows.laid_smalto_raw_kinds]at hx
 obtain⟨⟨g0,g1,g2⟩,_⟩:=hx;obtain⟨rfl,rfl⟩:=zg9 h0 g0.symm;obtain⟨rfl,rfl⟩:=zg9 h1 g1.symm;obtain⟨rfl,rfl⟩:=zg9 h2 g2.symm;rfl
def zec {H : Type} : List (String × DataW H) := [("smalto/border.names", Rows.laid_smalto_border_names), ("smalto/raw.kinds", Rows.laid_smalto_raw_kinds)]
theorem zj8 (os:Os) (args:Array Value):laidMetH Tryz.prog zec ((World.doorLaid Tryz.prog 400 os).forCall (λ_ _=>0) ⟨#[],args,[]⟩).memory :=
 laidMetH_of_parts3 (fuel:=8) (laidMet_of_run' 8 (by kernel_rfl) (by kernel_rfl)) (by kernel_rfl) (by kernel_rfl)
theorem ziJ {W:World} (h:laidMetH Tryz.prog zec W):OpK W:=by
 rw[MakeChecks.laidMetH_plain _ _ _ (by kernel_rfl)]at h;obtain⟨ps,⟨g0,t0,cs0,f0,p0,q0,hg0,ht0,hv0,hd0,⟨g1,t1,cs1,f1,p1,q1,hg1,ht1,hv1,hd1,_,_⟩,_⟩,_,_⟩:=h;obtain rfl:=Option.some.inj (gNamesE.symm.trans hg0);obtain rfl:=Option.some.inj (tNamesE.symm.trans ht0);obtain rfl:=znR hd0;obtain rfl:=Option.some.inj (gKinds.symm.trans hg1);obtain rfl:=Option.some.inj (tKinds.symm.trans ht1);obtain rfl:=zom hd1;exact⟨⟨World.var?_cell hg1 hv1 0,World.var?_cell hg1 hv1 1,World.var?_cell hg1 hv1 2,World.var?_cell hg1 hv1 3,World.var?_cell hg1 hv1 4,World.var?_cell hg1 hv1 5⟩,World.var?_cell hg0 hv0 0,World.var?_cell hg0 hv0 1,World.var?_cell hg0 hv0 2⟩
end Go.Proofs.YtlodkoimdoeopaaGreatDoor
