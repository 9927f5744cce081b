/- Parts, joined. -/
import Derived.Test.YtlodkoimdoeopaaGreatDoorQ30
import Derived.Test.YtlodkoimdoeopaaGreatDoorQ20
import Derived.Test.YtlodkoimdoeopaaGreatDoorQ28
import Derived.Test.YtlodkoimdoeopaaGreatDoorQ26
import Derived.Test.YtlodkoimdoeopaaGreatDoorQ19
import Derived.Test.YtlodkoimdoeopaaGreatDoorQ27
import Derived.Deep.RegionHeld3
import Derived.Deep.WholeRow
namespace Go.Proofs.YtlodkoimdoeopaaGreatDoor
open Go.RowKit
def S18 (w:World) (sb off xb tb:Nat) (x y:Value) (b:Int) (r0 r1:Value) (fx fy:Int) (t:Til):Prop :=
 (w.cell? ⟨sb,off,none⟩=some x/\w.cell? ⟨sb,off+1,none⟩=some y/\w.cell? ⟨sb,off+2,none⟩=some (.int .i64 b))/\(w.cell? ⟨xb,0,none⟩=some r0/\w.cell? ⟨xb,1,none⟩=some r1/\w.cell? ⟨xb,2,none⟩=some (.int .i64 fx)/\w.cell? ⟨xb,3,none⟩=some (.int .i64 fy)/\w.cell? ⟨xb,4,none⟩=some (.int .i64 b))/\P10 w tb t
theorem S18.fill {w:World} {ub sb off xb tb:Nat} {x y:Value} {b:Int} {r0 r1:Value} {fx fy:Int} {t:Til} (h:S18 w sb off xb tb x y b r0 r1 fx fy t) (n1:ub≠sb) (n2:ub≠xb) (n3:ub≠tb) (vs:List Value):S18 (w.setCells ub 0 vs) sb off xb tb x y b r0 r1 fx fy t:=by
 have e1:∀ o,(w.setCells ub 0 vs).cell? ⟨sb,o,none⟩=w.cell? ⟨sb,o,none⟩:=λo=>World.cell?_setCells_out ub vs 0 w _ (λe _=>absurd e.symm n1)
 have e2:∀ o,(w.setCells ub 0 vs).cell? ⟨xb,o,none⟩=w.cell? ⟨xb,o,none⟩:=λo=>World.cell?_setCells_out ub vs 0 w _ (λe _=>absurd e.symm n2)
 have e3:∀ o,(w.setCells ub 0 vs).cell? ⟨tb,o,none⟩=w.cell? ⟨tb,o,none⟩:=λo=>World.cell?_setCells_out ub vs 0 w _ (λe _=>absurd e.symm n3)
 unfold S18 P10 at h ⊢;simp only[e1,e2,e3];exact h
def zmL (w:World) (e:Ending) (w':World):Prop :=
 e=.returned (.tuple #[.agg #[.pointer none,.pointer none,.pointer none,.pointer none,.int .i64 0,.slice none 0 0,.slice none 0 0,.int .i64 0,.int .i64 0,.int .i64 0,.int .i64 0,.int .i64 0,.int .i64 0,.int .i64 0,.int .i64 0,.int .i64 0,.int .i64 0,.int .i64 0,.int .i64 0,.int .i64 0],.bool false])\/∃ w0 c h2 gx px gy py O,e=.returned (.tuple #[znx c gx px gy py,.bool true])/\BegIn w w0 w' c h2 gx px gy py O
theorem zwQ {w w0 wn:World} {g h g2 h2:Nat} {I:Im} {ax ay:Addr} {S:Stg} {x0 y0 W H mo C gx px gy py:Nat} {o:Opr} {O:Im} (hk:OpK w0) (tx:Tab w0 (.pointer (some ax)) S.fx S.lx) (ty:Tab w0 (.pointer (some ay)) S.fy S.ly) (hi:ImgAt w0 g h I) (i0:I.iw<=20) (i1:I.ih<=20)
  (sm:zcF S) (cz:zao I S=0) (gl:zdK S.ly) (hm:zaL S.ly=(mo:Int)) (m2:mo<=65536) (hC:I.ic=(C:Int)) (oc:zC o I.iw I.ih=0) (nb:¬zdc 12 o) (eS:S=zj o I.iw I.ih)
  (hO:O=⟨(S.lx.length:Int),(S.ly.length:Int),I.ic,I.it,List.replicate ((S.lx.length:Int)*(S.ly.length:Int)*I.ic).toNat 0⟩) (HO:ImgAt wn g2 h2 O) (ht:Thawed wn g2) (gB:w0.heap.size<=g2) (hB:w0.heap.size<=h2) (b0:Below w.heap.size w w0) (bn:Below w0.heap.size w0 wn) (lx:LinesAt w0 gx S.lx) (ly:LinesAt w0 gy S.ly)
  (xw:x0+W<=S.lx.length) (w1:1<=W) (yh:y0+H<=S.ly.length) (h1:1<=H):BegIn w w0 wn ⟨g,h,I,g2,ax,ay,S,0,0,0,0,0,0,x0,y0,W,H,C,mo⟩ h2 gx px gy py O:=by
 have m1:1<=mo:=by
  have a:=(ty.ok.1 y0 (by omega)).2.2.1;have b:((zf S.ly y0).2.length:Int)<=zaL S.ly:=zll S.ly.length (show y0<S.ly.length by omega);omega
 have ll:=HO.lt;have lg:=hi.lt;exact⟨⟨⟨hk,tx,ty,hi,(zdL cz).1,sm,gl,hm,m1,m2,hC,xw,w1,yh,h1⟩,by rw[hO],by rw[hO],by rw[hO],by rw[hO],ll.1,ll.2,hB,bn.size⟩,HO,by show g≠g2;omega,ht,b0,bn,lx,ly,hO,cz,⟨o,oc,nb,eS⟩,i0,i1,rfl,rfl,rfl,rfl,rfl,rfl⟩
theorem zks (w:World) (cs:Array Value) (T:TypeId) (j:Nat):(w.alloc (.cells cs T)).frozen? ⟨w.heap.size,j,none⟩=false:=by simp
theorem zwi {w w3 w5 W7:World} {ub g h g2 h2:Nat} {I:Im} {ax ay:Addr} {S:Stg} {x0 y0 W H gx px gy py:Nat} {o:Opr} {O:Im} (L:List Value) (hk:OpK w3) (Z:CellsAt w3 ub zas) (X:CellsEnd w3 ub 20) (lb:w.heap.size<=ub) (lu:ub<w3.heap.size) (_:CellsAt W7 ub zas) (_:CellsEnd W7 ub 20)
  (tx:Tab w3 (.pointer (some ax)) S.fx S.lx) (ty:Tab w3 (.pointer (some ay)) S.fy S.ly) (hi:ImgAt w3 g h I) (i0:I.iw<=20) (i1:I.ih<=20)
  (es:zcF S/\zao I S=0/\zdK S.ly/\zaL S.ly<=65536/\zC o I.iw I.ih=0/\¬zdc 12 o/\S=zj o I.iw I.ih)
  (hO:O=⟨(S.lx.length:Int),(S.ly.length:Int),I.ic,I.it,List.replicate ((S.lx.length:Int)*(S.ly.length:Int)*I.ic).toNat 0⟩) (HO:ImgAt w5 g2 h2 O) (ht:Thawed w5 g2) (gB:w3.heap.size<=g2) (hB:w3.heap.size<=h2) (b0:Below w.heap.size w w3) (b5:Below w3.heap.size w3 w5) (b7:Below w5.heap.size w5 W7) (lx:LinesAt w3 gx S.lx) (ly:LinesAt w3 gy S.ly)
  (xw:x0+W<=S.lx.length) (w1:1<=W) (yh:y0+H<=S.ly.length) (h1:1<=H):∃ mo,BegIn w (w3.setCells ub 0 L) (W7.drew.setCells ub 0 L) ⟨g,h,I,g2,ax,ay,S,0,0,0,0,0,0,x0,y0,W,H,I.ic.toNat,mo⟩ h2 gx px gy py O:=by
 obtain⟨sm,cz,gl,hm,oc,nb,eS⟩:=es;obtain⟨sx,sy⟩:=zpf oc;rw[←eS]at sx sy;have hx:∀ j,j<S.lx.length->(zf S.lx j).2.sum≠0:=λj hj=>by rw[sx j hj];decide
 have hy:∀ j,j<S.ly.length->(zf S.ly j).2.sum≠0:=λj hj=>by rw[sy j hj];decide
 have okx:=tx.ok;have oky:=ty.ok;have hc:=hi.ok.2.2.2.2.1;obtain⟨n1,n2⟩:=zxS Z hi;have m0:0<=zaL S.ly:=by
  have b:((zf S.ly y0).2.length:Int)<=zaL S.ly:=zll S.ly.length (show y0<S.ly.length by omega);omega
 have ll:=HO.lt;have b37:=bt b5 b7;have s5:=b5.size;have s7:=b7.size;have nx:(W7.drew).heap.size=W7.heap.size:=rfl;have b7':Below w3.heap.size w3 W7.drew:=bd b37;refine⟨(zaL S.ly).toNat,zwQ (o:=o) (zuN Z L hk) (zmK Z X hx L tx) (zmK Z X hy L ty) (zmi n1 n2 L hi) i0 i1 sm cz gl (by omega) (by omega) (by omega) oc nb eS hO ?_ ?_ ?_ ?_ (zbn lb L 0 w3 b0) (ziU L 0 b7') ?_ ?_ xw w1 yh h1⟩
 ·exact zmi (by omega) (by omega) L (HO.below (bd b7))
 ·exact λj=>(World.frozen?_setCells ub L 0 _ _).trans (ht.below ll.1 (bd b7) j)
 ·rw[zhO];exact gB
 ·rw[zhO];exact hB
 ·exact zj2 Z X okx.2.1 hx L lx
 ·exact zj2 Z X oky.2.1 hy L ly
theorem ztW {I:Im} {S:Stg} (hI:zay I) (cz:zao I S=0):zbj (S.lx.length:Int) (S.ly.length:Int) I.ic I.it=0:=by
 obtain⟨a,b,c,d,e,f⟩:=zdq.1 (zdL cz).2;obtain⟨_,_,_,_,_,t0,t1,_⟩:=hI;exact zmm t0 t1 a b c d e f
attribute [-go_sem] loadVar in
set_option maxRecDepth 100000 in
theorem ziT {w:World} {ub:Nat} {tm:Array Value} {L:List Value} {r:Bool} (h12:tm[12]?.getD undef=.pointer (some ⟨ub,0,none⟩)) (h13:tm[13]?.getD undef=.bool r)
  (LV:(loadVar 45 ⟨ub,0,none⟩).run Tryz.prog w=.ok (.agg L.toArray) w):(results Tryz.f9 tm).run Tryz.prog w=.ok (.tuple #[.agg L.toArray,.bool r]) w:=by
 simp[results,Tryz.results9,go_sem,LV,h12,h13]
attribute [-go_sem] storeCells in
set_option maxHeartbeats 8000000 in
set_option maxRecDepth 100000 in
theorem zle (q:Pic) (pd:Option Addr) (pc:Nat) (o:Opr) (ax:Option Addr) (cx:Nat) (ay:Option Addr) (cy:Nat) (x y u v:Int) (w:World) (hk:OpK w) (hp:PicAt w q pd pc/\zeJ q) (hA:OpAt w o ax cx ay cy/\OpFits o)
  (hx:0<=x/\x<=255) (hy:0<=y/\y<=255) (hu:0<=u/\u<=255) (hv:0<=v/\v<=255) :
  Calls Tryz.prog 9 #[zfd q pd pc,opV o ax cx ay cy,.int .u8 x,.int .u8 y,.int .u8 u,.int .u8 v] w λe w'=>zmL w e w'/\Below w.heap.size w w':=by
 have K0:=za (λw' (b:Below w.heap.size w w')=>zaW _ _ hk b);have CD:=λw' (b:Below w.heap.size w w')=>zsQ q pd pc w' (hp.1.below b) hp.2
 have OF:zfV [o]:=λj hj=>by
  obtain rfl:j=0:=by simpa using hj
  exact hA.2
 have OA:=za (λw' (b:Below w.heap.size w w')=>zwt w' 31 o ax cx ay cy (hA.1.below b));have m1:1<=maxLen:=by unfold maxLen;omega
 have CN:=za (λw' (b:Below w.heap.size w w') ad (ha:OpsAt w' (some ad) [o]) g h I (H:ImgAt w' g h I) hy=>zs8 (L:=[o]) (n:=1) (ad:=some ad) (cap:=1) rfl m1 (λe=>by cases e) (K0.out w' b) ha OF H hy);have CY:=za (λw' (b:Below w.heap.size w w') ad (ha:OpsAt w' (some ad) [o]) g h I (H:ImgAt w' g h I) hy=>zqt (L:=[o]) (n:=1) (ad:=some ad) (cap:=1) rfl m1 (λe=>by cases e) (K0.out w' b) ha OF H hy);have ONE:=za (λI (hI:zay I) i0 i1 hy S hS=>ztN (o:=o) hI i0 i1 hy (S:=S) hS);obtain⟨pw,ph,pcc,pm,pl⟩:=q;obtain⟨W0,hW0⟩:∃ W0,((w.alloc (.cells #[.int .u16 pw,.int .u16 ph,.int .u16 pcc,.int .u16 pm,.slice pd pl.length pc] 25)).alloc (.cells #[.int .i64 o.kd,.int .i64 o.bd,.int .i64 o.sg,.int .i64 o.rd,.slice ax o.xs.length cx,.slice ay o.ys.length cy,.int .i64 o.fl,.int .i64 o.wd,.int .i64 o.ht] 31)).alloc (.cells #[.pointer none,.pointer none,.pointer none,.pointer none,.int .i64 0,.slice none 0 0,.slice none 0 0,.int .i64 0,.int .i64 0,.int .i64 0,.int .i64 0,.int .i64 0,.int .i64 0,.int .i64 0,.int .i64 0,.int .i64 0,.int .i64 0,.int .i64 0,.int .i64 0,.int .i64 0] 45)=W0:=⟨_,rfl⟩;have b2:Below w.heap.size w ((w.alloc (.cells #[.int .u16 pw,.int .u16 ph,.int .u16 pcc,.int .u16 pm,.slice pd pl.length pc] 25)).alloc (.cells #[.int .i64 o.kd,.int .i64 o.bd,.int .i64 o.sg,.int .i64 o.rd,.slice ax o.xs.length cx,.slice ay o.ys.length cy,.int .i64 o.fl,.int .i64 o.wd,.int .i64 o.ht] 31)):=ba (zg w _) _;have P0:=za (show S5 W0 w.heap.size (.int .u16 pw) (.int .u16 ph) (.int .u16 pcc) (.int .u16 pm) (.slice pd pl.length pc) from hW0 ▸ ((S5.new w 25 (.int .u16 pw) (.int .u16 ph) (.int .u16 pcc) (.int .u16 pm) (.slice pd pl.length pc)).below (ba (zg _ _) _)));have O0:=za (show P9 W0 (w.heap.size+1) o.kd o.bd o.sg o.rd (.slice ax o.xs.length cx) (.slice ay o.ys.length cy) o.fl o.wd o.ht from hW0 ▸ (by
  have:=(P9.new (w.alloc (.cells #[.int .u16 pw,.int .u16 ph,.int .u16 pcc,.int .u16 pm,.slice pd pl.length pc] 25)) 31 o.kd o.bd o.sg o.rd (.slice ax o.xs.length cx) (.slice ay o.ys.length cy) o.fl o.wd o.ht).below (zg _ (.cells #[.pointer none,.pointer none,.pointer none,.pointer none,.int .i64 0,.slice none 0 0,.slice none 0 0,.int .i64 0,.int .i64 0,.int .i64 0,.int .i64 0,.int .i64 0,.int .i64 0,.int .i64 0,.int .i64 0,.int .i64 0,.int .i64 0,.int .i64 0,.int .i64 0,.int .i64 0] 45))
  simpa using this))
 have Z0:=za (show CellsAt W0 (w.heap.size+2) zas from by
  have e:((w.alloc (.cells #[.int .u16 pw,.int .u16 ph,.int .u16 pcc,.int .u16 pm,.slice pd pl.length pc] 25)).alloc (.cells #[.int .i64 o.kd,.int .i64 o.bd,.int .i64 o.sg,.int .i64 o.rd,.slice ax o.xs.length cx,.slice ay o.ys.length cy,.int .i64 o.fl,.int .i64 o.wd,.int .i64 o.ht] 31)).heap.size=w.heap.size+2:=by simp
  rw[←hW0,←e];exact CellsAt.new _ zas _)
 have X0:=za (show CellsEnd W0 (w.heap.size+2) 20 from by
  have e:((w.alloc (.cells #[.int .u16 pw,.int .u16 ph,.int .u16 pcc,.int .u16 pm,.slice pd pl.length pc] 25)).alloc (.cells #[.int .i64 o.kd,.int .i64 o.bd,.int .i64 o.sg,.int .i64 o.rd,.slice ax o.xs.length cx,.slice ay o.ys.length cy,.int .i64 o.fl,.int .i64 o.wd,.int .i64 o.ht] 31)).heap.size=w.heap.size+2:=by simp
  rw[←hW0,←e];exact CellsEnd.new _ zas _)
 have F0:=za (show ∀ j,W0.frozen? ⟨w.heap.size+2,j,none⟩=false from λj=>by
  have e:((w.alloc (.cells #[.int .u16 pw,.int .u16 ph,.int .u16 pcc,.int .u16 pm,.slice pd pl.length pc] 25)).alloc (.cells #[.int .i64 o.kd,.int .i64 o.bd,.int .i64 o.sg,.int .i64 o.rd,.slice ax o.xs.length cx,.slice ay o.ys.length cy,.int .i64 o.fl,.int .i64 o.wd,.int .i64 o.ht] 31)).heap.size=w.heap.size+2:=by simp
  rw[←hW0,←e];exact zks _ _ _ _)
 have B0:=za (show Below w.heap.size w W0 from hW0 ▸ ba b2 _);have N0:=za (show w.heap.size+2<W0.heap.size from by rw[←hW0];simp);have HW0:=za hW0;obtain⟨ub,hub⟩:∃ ub,w.heap.size+1+1=ub:=⟨_,rfl⟩;have LB:=za (show w.heap.size<=ub by omega);rw[show w.heap.size+2=ub from hub]at Z0 F0 N0 X0;have HUB:=za hub;unfold zfd at CD ⊢;unfold opV;clear hk hp hA b2 hW0 hub;obtain⟨kd,bo,sg,rd,xs,ys,fl,wd,ht⟩:=o;simp only at P0 O0 B0 OA HW0;generalize hnx:xs.length=nx at *;generalize hny:ys.length=ny at *;clear hnx hny
 go_enter Tryz.func9,Tryz.ntmps9
 go_upto_region 1 with fail
 rw[HW0.out,HUB.out];clear HW0 HUB;obtain⟨⟨p0,_⟩,⟨p1,_⟩,⟨p2,_⟩,⟨p3,_⟩,⟨p4,_⟩⟩:=P0.out
 go_upto_region 2 with(go_at_call 37;(with_reducible refine(CD _ B0.out).mono ?_);rintro e w2 ⟨v2,I,rfl,⟨g,h,rfl,gB,hB,hi⟩,i0,i1,b2⟩;have HI:=za hi;have B2:=za (bt B0.out b2);have E2:=za b2;obtain⟨o0,o1,o2,o3,o4,o5,o6,o7,o8⟩:=O0.out.below b2;clear hi b2)
 have OA2:=za (OA.out w2 B2.out);have B3:=za (ba B2.out (.cells #[.int .i64 kd,.int .i64 bo,.int .i64 sg,.int .i64 rd,.slice ax nx cx,.slice ay ny cy,.int .i64 fl,.int .i64 wd,.int .i64 ht] 31));have BB3:=za (zg w2 (.cells #[.int .i64 kd,.int .i64 bo,.int .i64 sg,.int .i64 rd,.slice ax nx cx,.slice ay ny cy,.int .i64 fl,.int .i64 wd,.int .i64 ht] 31));have HI3:=za (HI.out.below BB3.out);generalize (⟨kd,bo,sg,rd,xs,ys,fl,wd,ht⟩:Opr)=OO at *;clear CD P0 O0 p0 p1 p2 p3 p4 OA gB hB
 by_cases hy':zaD [OO] I.iw I.ih I.ic=0/\1<=4/\zcj 12 [OO] 1=false
 ·have CS:=CY.out _ B3.out _ OA2.out g h I HI3.out hy';obtain⟨S,hSS⟩:∃ S,zD [OO] I.iw I.ih 0=S:=⟨_,rfl⟩;obtain⟨sm,cz,gl,hm,oc,nb,eS⟩:=ONE.out I HI.out.ok i0 i1 hy' S hSS;have HSS:=za hSS;have ES:=za (And.intro sm (And.intro cz (And.intro gl (And.intro hm (And.intro oc (And.intro nb eS))))));clear hSS CN CY hy' ONE sm cz gl hm oc nb eS
  go_upto_region 5 with(go_at_call 38;(with_reducible refine CS.mono ?_);rintro e w3 ⟨⟨ad3,cap3,ad4,cap4,rfl,hs3,hq3⟩,b3⟩;obtain⟨sb,off,rfl,x3',y3',s0,s1,s2,tx,ty⟩:=hs3.get Nat.zero_lt_one;obtain⟨xb,rfl,gx,px,gy,py,r0,r1,r2,r3,r4,lx,ly⟩:=hq3.get Nat.zero_lt_one;rw[HSS.out]at s2 tx ty r0 r1 r2 r3 r4 lx ly;obtain⟨x3,rfl⟩:=tx.ptr;obtain⟨y3,rfl⟩:=ty.ptr;have B4:=za (bt B3.out b3);have E4:=za (bt E2.out (bt BB3.out b3));have HI4:=za (HI3.out.below b3);have SS4:=za (show w3.cell? ⟨sb,off,none⟩=some (.pointer (some x3))/\w3.cell? ⟨sb,off+1,none⟩=some (.pointer (some y3))/\w3.cell? ⟨sb,off+2,none⟩=some (.int .i64 S.sb)/\Tab w3 (.pointer (some x3)) S.fx S.lx/\Tab w3 (.pointer (some y3)) S.fy S.ly from⟨by simpa using s0,by simpa using s1,by simpa using s2,tx,ty⟩);have RR4:=za (show w3.cell? ⟨xb,0,none⟩=some (.slice (some ⟨gx,0,none⟩) S.lx.length px)/\w3.cell? ⟨xb,1,none⟩=some (.slice (some ⟨gy,0,none⟩) S.ly.length py)/\w3.cell? ⟨xb,2,none⟩=some (.int .i64 S.fx)/\w3.cell? ⟨xb,3,none⟩=some (.int .i64 S.fy)/\w3.cell? ⟨xb,4,none⟩=some (.int .i64 S.sb)/\LinesAt w3 gx S.lx/\LinesAt w3 gy S.ly from⟨by simpa using r0,by simpa using r1,by simpa using r2,by simpa using r3,by simpa using r4,lx,ly⟩);clear s0 s1 s2 tx ty r0 r1 r2 r3 r4 lx ly hs3 hq3 b3)
  clear o0 o1 o2 o3 o4 o5 o6 o7 o8 CS OA2;obtain⟨A,hA⟩:∃ A,S.lx.length=A:=⟨_,rfl⟩;obtain⟨B,hB⟩:∃ B,S.ly.length=B:=⟨_,rfl⟩;have code:=ztW HI.out.ok ES.out.2.1;have A1:=SS4.out.2.2.2.1.ok.2.1;have B1:=SS4.out.2.2.2.2.ok.2.1;have A2:=SS4.out.2.2.2.1.ok.2.2.1;have B2':=SS4.out.2.2.2.2.ok.2.2.1;have CX:=λw' (b:Below w3.heap.size w3 w')=>zdz (SS4.out.2.2.2.1.below b)
  have CY:=λw' (b:Below w3.heap.size w3 w')=>zdz (SS4.out.2.2.2.2.below b)
  rw[hA]at CX;rw[hB]at CY;rw[hA,hB]at code;obtain⟨s0,s1,s2,-⟩:=id SS4.out
  go_quiet (first|(go_at_call 32;with_reducible exact zbR (CX _ (bdN (Below.refl _ _) _)))|(go_at_call 32;with_reducible exact zbR (CY _ (bdN (Below.refl _ _) _))))
  have CC:=λw' (b:Below w3.heap.size w3 w')=>zaF (HI4.out.below b)
  have CM:=λw' (b:Below w3.heap.size w3 w')=>zcW (HI4.out.below b)
  have CW:=λw'=>zlw (A:Int) (B:Int) I.ic I.it code w'
  clear CX CY s0 s1 s2
  go_upto_region 7 with(first
   |(go_at_call 17;(with_reducible refine(CC _ (bdN (Below.refl _ _) _)).mono ?_);rintro e w5 ⟨rfl,rfl⟩)
   |(go_at_call 23;(with_reducible refine(CM _ (bdN (Below.refl _ _) _)).mono ?_);rintro e w5 ⟨rfl,rfl⟩)
   |(go_at_call 33;(with_reducible refine(CW _).mono ?_);rintro e w5 ⟨g2,h2,rfl,gB,hB',hi,hth,b5⟩;have HG:=za (And.intro hi hth);have E5:=za (show Below w3.heap.size w3 w5 from bt (bdN (Below.refl _ _) _) b5);have GB:=za (show w3.heap.size<=g2 from Nat.le_trans (bdN (Below.refl _ _) _).size gB);have HB:=za (show w3.heap.size<=h2 from Nat.le_trans (bdN (Below.refl _ _) _).size hB');clear hi hth b5 gB hB'))
  obtain⟨p,q,ep,pq,eq⟩:=zpr (A:=A) hx.1 hu.1 (hA ▸ A1);obtain⟨r,s,er,rs,es⟩:=zpr (A:=B) hy.1 hv.1 (hB ▸ B1);obtain⟨a1,a2,a3,a4,a5,a6⟩:=zni pq (hA ▸ A2);obtain⟨c1,c2,c3,c4,c5,c6⟩:=zni rs (hB ▸ B2');have n1:¬A=0:=zim pq |>.1;have n2:¬A=p:=zim pq |>.2;have n3:¬B=0:=zim rs |>.1;have n4:¬B=r:=zim rs |>.2;have x1:=zgR hx;have y1:=zgR hy;have u1:=zgR hu;have v1:=zgR hv;have ST7:(storeCells ⟨w5.heap.size,0,none⟩ [.int .i64 0,.int .i64 (p:Int),.int .i64 (r:Int),.int .i64 0,.int .i64 0,.int .i64 0,.int .i64 0,.int .i64 0,.int .i64 0,.int .i64 0] 0).run Tryz.prog (w5.alloc (.cells #[.int .i64 0,.int .i64 0,.int .i64 0,.int .i64 0,.int .i64 0,.int .i64 0,.int .i64 0,.int .i64 0,.int .i64 0,.int .i64 0] 43)).drew=.ok () (w5.alloc (.cells #[.int .i64 0,.int .i64 (p:Int),.int .i64 (r:Int),.int .i64 0,.int .i64 0,.int .i64 0,.int .i64 0,.int .i64 0,.int .i64 0,.int .i64 0] 43)).drew:=run_storeCells_new w5.drew 43 #[.int .i64 0,.int .i64 0,.int .i64 0,.int .i64 0,.int .i64 0,.int .i64 0,.int .i64 0,.int .i64 0,.int .i64 0,.int .i64 0] #[.int .i64 0,.int .i64 (p:Int),.int .i64 (r:Int),.int .i64 0,.int .i64 0,.int .i64 0,.int .i64 0,.int .i64 0,.int .i64 0,.int .i64 0] (by kernel_rfl) rfl (by simp[Value.oneCell']);clear CC CM CW;have s0:=cb E5.out (ze SS4.out.1) SS4.out.1
  go_region_held3 (λw'=>w'.cell? ⟨sb,off,none⟩=some (.pointer (some x3))) (first|with_reducible assumption|go_keep) (fail)
  clear ST7 s0;obtain⟨W6,hW6⟩:∃ W6,(w5.alloc (.cells #[.int .i64 0,.int .i64 (p:Int),.int .i64 (r:Int),.int .i64 0,.int .i64 0,.int .i64 0,.int .i64 0,.int .i64 0,.int .i64 0,.int .i64 0] 43)).drew=W6:=⟨_,rfl⟩;obtain⟨tb,htb⟩:∃ tb,w5.heap.size=tb:=⟨_,rfl⟩;have P6:=za (show P10 W6 tb ⟨0,(p:Int),(r:Int),0,0,0,0,0,0,0⟩ from htb ▸ hW6 ▸ P10.new w5.drew 43 ⟨0,(p:Int),(r:Int),0,0,0,0,0,0,0⟩);have F6:=za (show ∀ j,W6.frozen? ⟨tb,j,none⟩=false from λj=>htb ▸ hW6 ▸ zks w5.drew _ _ j);have E6:=za (show Below w5.heap.size w5 W6 from hW6 ▸ bd (zg w5 _));have TB:=za (show w5.heap.size<=tb from Nat.le_of_eq htb);rw[hW6];rw[htb];clear hW6 htb;obtain⟨t0,t1,t2,t3,t4,-⟩:=P6.out;have f3:=F6.out 3;have f4:=F6.out 4;simp only at t0 t1 t2 t3 t4;have ST1:=zlj;have z1:(W6.setCell ⟨tb,3,none⟩ (.int .i64 (1+(q:Int)))).drew.cell? ⟨tb,1,none⟩=some (.int .i64 (p:Int)):=(zc (w:=W6) (Or.inr (by decide))).trans t1;have z2:(W6.setCell ⟨tb,3,none⟩ (.int .i64 (1+(q:Int)))).drew.cell? ⟨tb,2,none⟩=some (.int .i64 (r:Int)):=(zc (w:=W6) (Or.inr (by decide))).trans t2;have z3:((W6.setCell ⟨tb,3,none⟩ (.int .i64 (1+(q:Int)))).setCell ⟨tb,4,none⟩ (.int .i64 (1+(s:Int)))).drew.cell? ⟨tb,1,none⟩=some (.int .i64 (p:Int)):=(zc (w:=W6.setCell ⟨tb,3,none⟩ (.int .i64 (1+(q:Int)))) (Or.inr (by decide))).trans z1;have z4:((W6.setCell ⟨tb,3,none⟩ (.int .i64 (1+(q:Int)))).setCell ⟨tb,4,none⟩ (.int .i64 (1+(s:Int)))).drew.cell? ⟨tb,2,none⟩=some (.int .i64 (r:Int)):=(zc (w:=W6.setCell ⟨tb,3,none⟩ (.int .i64 (1+(q:Int)))) (Or.inr (by decide))).trans z2
  go_upto_region 8 with fail
  go_region_held3 (λw'=>w'.cell? ⟨tb,1,none⟩=some (.int .i64 (p:Int))/\w'.cell? ⟨tb,2,none⟩=some (.int .i64 (r:Int))) (first|with_reducible assumption|(with_reducible exact⟨t1,t2⟩)|(with_reducible exact⟨z1,z2⟩)|(with_reducible exact⟨z3,z4⟩)|go_keep) (fail)
  obtain⟨W7,hW7⟩:∃ W7,((W6.setCell ⟨tb,3,none⟩ (.int .i64 (1+(q:Int)))).setCell ⟨tb,4,none⟩ (.int .i64 (1+(s:Int)))).drew=W7:=⟨_,rfl⟩;have P7:=za (show P10 W7 tb ⟨0,(p:Int),(r:Int),1+(q:Int),1+(s:Int),0,0,0,0,0⟩ from hW7 ▸ ((P6.out.put3 (1+(q:Int))).put4 (1+(s:Int))));have E7:=za (show Below w5.heap.size w5 W7 from hW7 ▸ bd (bs (bs E6.out TB.out _) TB.out _));rw[hW7];clear hW7 z1 z2 z3 z4 t0 t1 t2 t3 t4 f3 f4 ST1;have E37:=za (bt E5.out E7.out);have B7:=za (bt B4.out E37.out);have Z7:=za (Z0.out.below (bt E4.out E37.out));have F7:=za (λj=>fb (bt E4.out E37.out) N0.out (F0.out j));have S7:=za (show S18 W7 sb off xb tb (.pointer (some x3)) (.pointer (some y3)) S.sb (.slice (some ⟨gx,0,none⟩) A px) (.slice (some ⟨gy,0,none⟩) B py) S.fx S.fy ⟨0,(p:Int),(r:Int),1+(q:Int),1+(s:Int),0,0,0,0,0⟩ from by
   have a:=SS4.out;have b:=RR4.out;rw[hA,hB]at b;exact⟨⟨cb E37.out (ze a.1) a.1,cb E37.out (ze a.1) a.2.1,cb E37.out (ze a.1) a.2.2.1⟩,⟨cb E37.out (ze b.1) b.1,cb E37.out (ze b.1) b.2.1,cb E37.out (ze b.1) b.2.2.1,cb E37.out (ze b.1) b.2.2.2.1,cb E37.out (ze b.1) b.2.2.2.2.1⟩,P7.out⟩)
  have X7:=X0.out.below N0.out (bt E4.out E37.out);have n5:=zw3 Z7.out X7 S7.out.1.1;have n6:=zva Z7.out S7.out.2.1.1;have n7:ub≠tb:=Nat.ne_of_lt (Nat.lt_of_lt_of_le N0.out (Nat.le_trans (bt E4.out E5.out).size TB.out));clear X7;have HS:=za (fun(w':World) (h:S18 w' sb off xb tb (.pointer (some x3)) (.pointer (some y3)) S.sb (.slice (some ⟨gx,0,none⟩) A px) (.slice (some ⟨gy,0,none⟩) B py) S.fx S.fy ⟨0,(p:Int),(r:Int),1+(q:Int),1+(s:Int),0,0,0,0,0⟩)=>show(w'.cell? ⟨sb,off,none⟩=some (.pointer (some x3))/\w'.cell? ⟨sb,off+1,none⟩=some (.pointer (some y3))/\w'.cell? ⟨sb,off+2,none⟩=some (.int .i64 S.sb))/\(w'.cell? ⟨xb,0,none⟩=some (.slice (some ⟨gx,0,none⟩) A px)/\w'.cell? ⟨xb,1,none⟩=some (.slice (some ⟨gy,0,none⟩) B py)/\w'.cell? ⟨xb,2,none⟩=some (.int .i64 S.fx)/\w'.cell? ⟨xb,3,none⟩=some (.int .i64 S.fy)/\w'.cell? ⟨xb,4,none⟩=some (.int .i64 S.sb))/\w'.cell? ⟨tb,0,none⟩=some (.int .i64 0)/\w'.cell? ⟨tb,1,none⟩=some (.int .i64 (p:Int))/\w'.cell? ⟨tb,2,none⟩=some (.int .i64 (r:Int))/\w'.cell? ⟨tb,3,none⟩=some (.int .i64 (1+(q:Int)))/\w'.cell? ⟨tb,4,none⟩=some (.int .i64 (1+(s:Int)))/\w'.cell? ⟨tb,5,none⟩=some (.int .i64 0)/\w'.cell? ⟨tb,6,none⟩=some (.int .i64 0)/\w'.cell? ⟨tb,7,none⟩=some (.int .i64 0)/\w'.cell? ⟨tb,8,none⟩=some (.int .i64 0)/\w'.cell? ⟨tb,9,none⟩=some (.int .i64 0) from h);have ST9:(storeCells ⟨ub,0,none⟩ [.pointer (some ⟨g,0,none⟩),.pointer (some ⟨g2,0,none⟩),.pointer (some x3),.pointer (some y3),.int .i64 S.sb,.slice (some ⟨gx,0,none⟩) A px,.slice (some ⟨gy,0,none⟩) B py,.int .i64 S.fx,.int .i64 S.fy,.int .i64 S.sb,.int .i64 0,.int .i64 (p:Int),.int .i64 (r:Int),.int .i64 (1+(q:Int)),.int .i64 (1+(s:Int)),.int .i64 0,.int .i64 0,.int .i64 0,.int .i64 0,.int .i64 0] 0).run Tryz.prog W7.drew=.ok () (W7.drew.setCells ub 0 [.pointer (some ⟨g,0,none⟩),.pointer (some ⟨g2,0,none⟩),.pointer (some x3),.pointer (some y3),.int .i64 S.sb,.slice (some ⟨gx,0,none⟩) A px,.slice (some ⟨gy,0,none⟩) B py,.int .i64 S.fx,.int .i64 S.fy,.int .i64 S.sb,.int .i64 0,.int .i64 (p:Int),.int .i64 (r:Int),.int .i64 (1+(q:Int)),.int .i64 (1+(s:Int)),.int .i64 0,.int .i64 0,.int .i64 0,.int .i64 0,.int .i64 0]):=Z7.out.store F7.out [.pointer (some ⟨g,0,none⟩),.pointer (some ⟨g2,0,none⟩),.pointer (some x3),.pointer (some y3),.int .i64 S.sb,.slice (some ⟨gx,0,none⟩) A px,.slice (some ⟨gy,0,none⟩) B py,.int .i64 S.fx,.int .i64 S.fy,.int .i64 S.sb,.int .i64 0,.int .i64 (p:Int),.int .i64 (r:Int),.int .i64 (1+(q:Int)),.int .i64 (1+(s:Int)),.int .i64 0,.int .i64 0,.int .i64 0,.int .i64 0,.int .i64 0] rfl (by simp[Value.oneCell']) 1;have h7:=HS.out _ S7.out;have h8:=HS.out _ (S18.fill (w:=W7.drew) S7.out n5 n6 n7 [.pointer (some ⟨g,0,none⟩),.pointer (some ⟨g2,0,none⟩),.pointer (some x3),.pointer (some y3),.int .i64 S.sb,.slice (some ⟨gx,0,none⟩) A px,.slice (some ⟨gy,0,none⟩) B py,.int .i64 S.fx,.int .i64 S.fy,.int .i64 S.sb,.int .i64 0,.int .i64 (p:Int),.int .i64 (r:Int),.int .i64 (1+(q:Int)),.int .i64 (1+(s:Int)),.int .i64 0,.int .i64 0,.int .i64 0,.int .i64 0,.int .i64 0])
  go_upto_region 9 with fail
  go_region_held3 (λw'=>(w'.cell? ⟨sb,off,none⟩=some (.pointer (some x3))/\w'.cell? ⟨sb,off+1,none⟩=some (.pointer (some y3))/\w'.cell? ⟨sb,off+2,none⟩=some (.int .i64 S.sb))/\(w'.cell? ⟨xb,0,none⟩=some (.slice (some ⟨gx,0,none⟩) A px)/\w'.cell? ⟨xb,1,none⟩=some (.slice (some ⟨gy,0,none⟩) B py)/\w'.cell? ⟨xb,2,none⟩=some (.int .i64 S.fx)/\w'.cell? ⟨xb,3,none⟩=some (.int .i64 S.fy)/\w'.cell? ⟨xb,4,none⟩=some (.int .i64 S.sb))/\w'.cell? ⟨tb,0,none⟩=some (.int .i64 0)/\w'.cell? ⟨tb,1,none⟩=some (.int .i64 (p:Int))/\w'.cell? ⟨tb,2,none⟩=some (.int .i64 (r:Int))/\w'.cell? ⟨tb,3,none⟩=some (.int .i64 (1+(q:Int)))/\w'.cell? ⟨tb,4,none⟩=some (.int .i64 (1+(s:Int)))/\w'.cell? ⟨tb,5,none⟩=some (.int .i64 0)/\w'.cell? ⟨tb,6,none⟩=some (.int .i64 0)/\w'.cell? ⟨tb,7,none⟩=some (.int .i64 0)/\w'.cell? ⟨tb,8,none⟩=some (.int .i64 0)/\w'.cell? ⟨tb,9,none⟩=some (.int .i64 0)) (first|with_reducible assumption|(with_reducible exact h7)|(with_reducible exact h8)|go_keep) (fail)
  clear h7 h8 ST9;have LV:=(Z7.out.fill (w:=W7.drew) (vs:=[.pointer (some ⟨g,0,none⟩),.pointer (some ⟨g2,0,none⟩),.pointer (some x3),.pointer (some y3),.int .i64 S.sb,.slice (some ⟨gx,0,none⟩) A px,.slice (some ⟨gy,0,none⟩) B py,.int .i64 S.fx,.int .i64 S.fy,.int .i64 S.sb,.int .i64 0,.int .i64 (p:Int),.int .i64 (r:Int),.int .i64 (1+(q:Int)),.int .i64 (1+(s:Int)),.int .i64 0,.int .i64 0,.int .i64 0,.int .i64 0,.int .i64 0]) rfl).load rfl;obtain⟨mo,BG⟩:=zwi (w:=w) (o:=OO) (W:=1+q) (H:=1+s) (x0:=p) (y0:=r) (px:=px) (py:=py) [.pointer (some ⟨g,0,none⟩),.pointer (some ⟨g2,0,none⟩),.pointer (some x3),.pointer (some y3),.int .i64 S.sb,.slice (some ⟨gx,0,none⟩) A px,.slice (some ⟨gy,0,none⟩) B py,.int .i64 S.fx,.int .i64 S.fy,.int .i64 S.sb,.int .i64 0,.int .i64 (p:Int),.int .i64 (r:Int),.int .i64 (1+(q:Int)),.int .i64 (1+(s:Int)),.int .i64 0,.int .i64 0,.int .i64 0,.int .i64 0,.int .i64 0] (K0.out w3 B4.out) (Z0.out.below E4.out) (X0.out.below N0.out E4.out) LB.out (Nat.lt_of_lt_of_le N0.out E4.out.size) Z7.out (X0.out.below N0.out (bt E4.out E37.out)) SS4.out.2.2.2.1 SS4.out.2.2.2.2 HI4.out i0 i1 ES.out rfl (hA ▸ hB ▸ HG.out.1) HG.out.2 GB.out HB.out B4.out E5.out E7.out RR4.out.2.2.2.2.2.1 RR4.out.2.2.2.2.2.2 (hA ▸ pq) (Nat.le_add_right 1 q) (hB ▸ rs) (Nat.le_add_right 1 s);have HBG:=za BG;have EV:znx ⟨g,h,I,g2,x3,y3,S,0,0,0,0,0,0,p,r,1+q,1+s,I.ic.toNat,mo⟩ gx px gy py=.agg ([.pointer (some ⟨g,0,none⟩),.pointer (some ⟨g2,0,none⟩),.pointer (some x3),.pointer (some y3),.int .i64 S.sb,.slice (some ⟨gx,0,none⟩) A px,.slice (some ⟨gy,0,none⟩) B py,.int .i64 S.fx,.int .i64 S.fy,.int .i64 S.sb,.int .i64 0,.int .i64 (p:Int),.int .i64 (r:Int),.int .i64 (1+(q:Int)),.int .i64 (1+(s:Int)),.int .i64 0,.int .i64 0,.int .i64 0,.int .i64 0,.int .i64 0]:List Value).toArray:=by
   unfold znx;simp only[hA,hB,Int.natCast_add,Int.cast_ofNat_Int]
  have HEV:=za EV;have B8:=za (zbn LB.out [.pointer (some ⟨g,0,none⟩),.pointer (some ⟨g2,0,none⟩),.pointer (some x3),.pointer (some y3),.int .i64 S.sb,.slice (some ⟨gx,0,none⟩) A px,.slice (some ⟨gy,0,none⟩) B py,.int .i64 S.fx,.int .i64 S.fy,.int .i64 S.sb,.int .i64 0,.int .i64 (p:Int),.int .i64 (r:Int),.int .i64 (1+(q:Int)),.int .i64 (1+(s:Int)),.int .i64 0,.int .i64 0,.int .i64 0,.int .i64 0,.int .i64 0] 0 W7.drew (bd B7.out));clear BG EV
  go_wp2_with fail
  exact bodyPost_ret (v:=.tuple #[.agg ([.pointer (some ⟨g,0,none⟩),.pointer (some ⟨g2,0,none⟩),.pointer (some x3),.pointer (some y3),.int .i64 S.sb,.slice (some ⟨gx,0,none⟩) A px,.slice (some ⟨gy,0,none⟩) B py,.int .i64 S.fx,.int .i64 S.fy,.int .i64 S.sb,.int .i64 0,.int .i64 (p:Int),.int .i64 (r:Int),.int .i64 (1+(q:Int)),.int .i64 (1+(s:Int)),.int .i64 0,.int .i64 0,.int .i64 0,.int .i64 0,.int .i64 0]:List Value).toArray,.bool true]) (ziT rfl rfl LV) rfl ⟨.inr ⟨_,_,h2,gx,px,gy,py,_,by rw[HEV.out],HBG.out⟩,B8.out⟩
 ·have CS:=CN.out _ B3.out _ OA2.out g h I HI3.out hy';clear CN CY hy' ONE
  go_upto_region 4 with(go_at_call 38;(with_reducible refine CS.mono ?_);rintro e w3 ⟨⟨v3,v4,rfl⟩,b3⟩;have B4:=za (bt B3.out b3);have E4:=za (bt E2.out (bt BB3.out b3)))
  have Z4:=za (Z0.out.below E4.out);have F4:=za (λj=>fb E4.out N0.out (F0.out j));have U4:=za (Z4.out.fill (vs:=zas) rfl);have B5:=za (zbn (b:=ub) LB.out zas 0 w3 B4.out);have ST:=Z4.out.store0 F4.out zas rfl (by decide);unfold zas at ST
  go_wp2_with fail
  clear ST;have LV:=U4.out.load rfl;have b5:=B5.out;unfold zas at LV b5;exact bodyPost_ret (v:=.tuple #[.agg #[.pointer none,.pointer none,.pointer none,.pointer none,.int .i64 0,.slice none 0 0,.slice none 0 0,.int .i64 0,.int .i64 0,.int .i64 0,.int .i64 0,.int .i64 0,.int .i64 0,.int .i64 0,.int .i64 0,.int .i64 0,.int .i64 0,.int .i64 0,.int .i64 0,.int .i64 0],.bool false]) (ziT rfl rfl LV) rfl ⟨.inl rfl,b5⟩
theorem zq5:∀ (p:Addr) (w:World),(binOp .eql 34 (.pointer (some p)) (.pointer none)).run Tryz.prog w=.ok (.bool false) w:=λp w=>by kernel_rfl
theorem zrG (x y:Value) (S:Stg) (a b:Int) (w:World) (tx:Tab w x S.fx S.lx) (ty:Tab w y S.fy S.ly) :
  Calls Tryz.prog 68 #[.agg #[x,y,.int .i64 S.sb],.int .i64 a,.int .i64 b] w λe w'=>((zff a b=true/\∃ v,e=.returned (.tuple #[v,.int .i64 0])/\PlanAt w' v x y S a b)\/(zff a b=false/\e=.returned (.tuple #[.pointer none,.int .i64 9])))/\Below w.heap.size w w':=by
 have q1:=zq5;obtain⟨ax,rfl⟩:=tx.ptr;obtain⟨ay,rfl⟩:=ty.ptr;have HX:=za tx;have HY:=za ty
 by_cases ha:1<=a/\a<=4096
 ·have CA:=zjI a ha
  by_cases hb:1<=b/\b<=4096
  ·have CB:=zjI b hb;have ht:zff a b=true:=zcr.2 ⟨ha.1,ha.2,hb.1,hb.2⟩;have HP:=za (fun(w':World) (g:Nat) (h5:S5 w' g (.pointer (some ax)) (.pointer (some ay)) (.int .i64 S.sb) (.int .i64 a) (.int .i64 b)) (b':Below w.heap.size w w')=>show PlanAt w' (.pointer (some ⟨g,0,none⟩)) (.pointer (some ax)) (.pointer (some ay)) S a b from⟨g,rfl,h5,tx.below b',ty.below b',ht⟩);have HT:=za ht;clear tx ty ha hb ht HX HY;generalize hsb:S.sb=sb at *;have HSB:=za hsb;clear hsb
   go_enter Tryz.func68,Tryz.ntmps68
   go_wp2_with (first
    |(go_at_call 107;(with_reducible refine(CA _).mono ?_);rintro e w1 ⟨rfl,rfl⟩)
    |(go_at_call 107;(with_reducible refine(CB _).mono ?_);rintro e w1 ⟨rfl,rfl⟩))
   exact bodyPost_ret (v:=.tuple #[.pointer (some ⟨w.heap.size+1,0,none⟩),.int .i64 0]) (by simp[results,Tryz.results68,go_sem]) rfl ⟨.inl ⟨HT.out,_,rfl,HP.out _ _ (by simpa using S5.new (w.alloc (.cells #[.pointer (some ax),.pointer (some ay),.int .i64 sb] 36)) 169 (.pointer (some ax)) (.pointer (some ay)) (.int .i64 sb) (.int .i64 a) (.int .i64 b)) (ba (zg _ _) _)⟩,ba (zg _ _) _⟩
  ·have CB:=zk6 b (by omega);have ht:zff a b=false:=by
    cases h:zff a b
    ·rfl
    ·have:=zcr.1 h;omega
   have HT:=za ht;clear tx ty ha hb ht HX HY;generalize S.sb=sb at *
   go_enter Tryz.func68,Tryz.ntmps68
   go_wp2_with (first
    |(go_at_call 107;(with_reducible refine(CA _).mono ?_);rintro e w1 ⟨rfl,rfl⟩)
    |(go_at_call 107;(with_reducible refine(CB _).mono ?_);rintro e w1 ⟨rfl,rfl⟩))
   exact bodyPost_ret (v:=.tuple #[.pointer none,.int .i64 9]) (by simp[results,Tryz.results68,go_sem]) rfl ⟨.inr ⟨HT.out,rfl⟩,zg _ _⟩
 ·have CA:=zk6 a (by omega);have ht:zff a b=false:=by
   cases h:zff a b
   ·rfl
   ·have:=zcr.1 h;omega
  have HT:=za ht;clear tx ty ha ht HX HY;generalize S.sb=sb at *
  go_enter Tryz.func68,Tryz.ntmps68
  go_wp2_with (go_at_call 107;(with_reducible refine(CA _).mono ?_);rintro e w1 ⟨rfl,rfl⟩)
  exact bodyPost_ret (v:=.tuple #[.pointer none,.int .i64 9]) (by simp[results,Tryz.results68,go_sem]) rfl ⟨.inr ⟨HT.out,rfl⟩,zg _ _⟩
theorem zsS {w:World} {v x y:Value} {S:Stg} {a b:Int} (h:PlanAt w v x y S a b) (i:Int) (hi:zaz i) :
  Calls Tryz.prog 69 #[v,.int .i64 i] w λe w'=>e=.returned (.tuple #[zg6 (if inB (zcp S.lx S.ly a b) i=true then zjm S.lx S.ly a b i else zf1),.bool (inB (zcp S.lx S.ly a b) i)])/\Below w.heap.size w w':=by
 have CC:=λw' (b':Below w.heap.size w w')=>zkZ (h.below b')
 have CT:=λi0 i1 w' (b':Below w.heap.size w w')=>zq9 (h.below b') i i0 i1
 have hcin:=zg0 (LX:=S.lx) (LY:=S.ly) (zcr.1 (by obtain⟨_,_,_,_,_,ht⟩:=h;exact ht)).1 (zcr.1 (by obtain⟨_,_,_,_,_,ht⟩:=h;exact ht)).2.2.1;obtain⟨g,rfl,_⟩:=h;generalize zcp S.lx S.ly a b=C at *;obtain⟨_,_,_,_,C0,_⟩:=hcin;unfold zaz at hi;have T0:=za (P10.new w 43 zf1);have F0:=za (F10.new w #[.int .i64 0,.int .i64 0,.int .i64 0,.int .i64 0,.int .i64 0,.int .i64 0,.int .i64 0,.int .i64 0,.int .i64 0,.int .i64 0] 43)
 by_cases hin:0<=i/\i<C
 ·rw[zoV.2 hin,if_pos rfl];obtain⟨i0,i1⟩:=hin
  replace CT:=CT i0 i1
  have hge:decide (C<=i)=false:=decide_eq_false (by omega);unfold zg6 at CT ⊢;generalize zjm S.lx S.ly a b i=t at *;obtain⟨tn,t1,t2,t3,t4,t5,t6,t7,t8,t9⟩:=t;simp only at CT ⊢
  go_enter Tryz.func69,Tryz.ntmps69
  go_wp2_with (first
   |(go_at_call 70;(with_reducible refine(CC _ (zg _ _)).mono ?_);rintro e w1 ⟨rfl,d1⟩;have B1:=za (bt (zg w (.cells #[.int .i64 0,.int .i64 0,.int .i64 0,.int .i64 0,.int .i64 0,.int .i64 0,.int .i64 0,.int .i64 0,.int .i64 0,.int .i64 0] 43)) d1.below);have T1:=za (T0.out.below d1.below);have F1:=za (F0.out.below d1.below);clear d1)
   |(go_at_call 108;(with_reducible refine(CT _ B1.out).mono ?_);rintro e w3 ⟨rfl,b3⟩;have B3:=za (bt B1.out b3);have T3:=za (T1.out.below b3);have F3:=za (F1.out.below b3);obtain⟨p0,p1,p2,p3,p4,p5,p6,p7,p8,p9⟩:=T3.out;obtain⟨q0,q1,q2,q3,q4,q5,q6,q7,q8,q9,_⟩:=F3.out;unfold zf1 at p0 p1 p2 p3 p4 p5 p6 p7 p8 p9;simp only at p0 p1 p2 p3 p4 p5 p6 p7 p8 p9))
  have E:=za (T3.out.fill ⟨tn,t1,t2,t3,t4,t5,t6,t7,t8,t9⟩);have EB:=za (zeo B3.out (Nat.le_refl _) ⟨tn,t1,t2,t3,t4,t5,t6,t7,t8,t9⟩);obtain⟨u0,u1,u2,u3,u4,u5,u6,u7,u8,u9⟩:=E.out;unfold zgC at u0 u1 u2 u3 u4 u5 u6 u7 u8 u9;simp only at u0 u1 u2 u3 u4 u5 u6 u7 u8 u9;exact bodyPost_ret (v:=.tuple #[.agg #[.int .i64 tn,.int .i64 t1,.int .i64 t2,.int .i64 t3,.int .i64 t4,.int .i64 t5,.int .i64 t6,.int .i64 t7,.int .i64 t8,.int .i64 t9],.bool true]) (by simp[results,Tryz.results69,go_sem,u0,u1,u2,u3,u4,u5,u6,u7,u8,u9]) rfl ⟨rfl,EB.out⟩
 ·rw[show inB C i=false by
   cases hb:inB C i
   ·rfl
   ·exact absurd (zoV.1 hb) hin,if_neg (by decide)]
  unfold zg6 zf1;simp only;rcases Int.lt_or_le i 0 with q0|q0
  ·go_enter Tryz.func69,Tryz.ntmps69
   go_wp2;exact bodyPost_ret (v:=.tuple #[.agg #[.int .i64 0,.int .i64 0,.int .i64 0,.int .i64 0,.int .i64 0,.int .i64 0,.int .i64 0,.int .i64 0,.int .i64 0,.int .i64 0],.bool false]) (by simp[results,Tryz.results69,go_sem]) rfl ⟨rfl,zg _ _⟩
  ·have hge:C<=i:=by omega
   go_enter Tryz.func69,Tryz.ntmps69
   go_wp2_with (go_at_call 70;(with_reducible refine(CC _ (zg _ _)).mono ?_);rintro e w1 ⟨rfl,d1⟩;have B1:=za (bt (zg w (.cells #[.int .i64 0,.int .i64 0,.int .i64 0,.int .i64 0,.int .i64 0,.int .i64 0,.int .i64 0,.int .i64 0,.int .i64 0,.int .i64 0] 43)) d1.below);have T1:=za (T0.out.below d1.below);have F1:=za (F0.out.below d1.below);obtain⟨p0,p1,p2,p3,p4,p5,p6,p7,p8,p9⟩:=T1.out;obtain⟨q0,q1,q2,q3,q4,q5,q6,q7,q8,q9,_⟩:=F1.out;unfold zf1 at p0 p1 p2 p3 p4 p5 p6 p7 p8 p9;simp only at p0 p1 p2 p3 p4 p5 p6 p7 p8 p9;clear d1)
   have E:=za (T1.out.fill zf1);have EB:=za (zeo B1.out (Nat.le_refl _) zf1);obtain⟨u0,u1,u2,u3,u4,u5,u6,u7,u8,u9⟩:=E.out;unfold zgC zf1 at u0 u1 u2 u3 u4 u5 u6 u7 u8 u9;simp only at u0 u1 u2 u3 u4 u5 u6 u7 u8 u9;exact bodyPost_ret (v:=.tuple #[.agg #[.int .i64 0,.int .i64 0,.int .i64 0,.int .i64 0,.int .i64 0,.int .i64 0,.int .i64 0,.int .i64 0,.int .i64 0,.int .i64 0],.bool false]) (by simp[results,Tryz.results69,go_sem,u0,u1,u2,u3,u4,u5,u6,u7,u8,u9]) rfl ⟨rfl,EB.out⟩
def exM:Opr:=⟨3,0,0,0,[],[],0,5,3⟩
theorem zvQ:zC exM 9 9=0/\(zj exM 9 9).lx.length=5/\(zj exM 9 9).ly.length=3:=by decide +kernel
theorem zuh:OpFits exM:=by
 refine⟨?_,?_,?_,?_,?_,?_,?_,(λn hn=>by cases hn),(λn hn=>by cases hn),Nat.zero_le _,Nat.zero_le _⟩<;>(unfold zaz exM;simp)
theorem zvv {LX LY:List (Int×List Int)} (hx:LX.length=5) (hy:LY.length=3):zcp LX LY 2 2=6/\inB (zcp LX LY 2 2) 5=true/\∃ fx fy cx cy rg,zjm LX LY 2 2 5=⟨5,4,2,1,1,fx,fy,cx,cy,rg⟩:=by
 have hA:zu LX 2=3:=by unfold zu;rw[hx];decide
 have hD:zu LY 2=2:=by unfold zu;rw[hy];decide
 have hC:zcp LX LY 2 2=6:=by unfold zcp;rw[hA,hD];decide
 refine⟨hC,by rw[hC];decide,?_⟩;unfold zjm zra;rw[hA,hx,hy];exact⟨_,_,_,_,_,rfl⟩
theorem znL:∀ (p:Addr) (w:World),(binOp .eql 125 (.pointer (some p)) (.pointer none)).run Tryz.prog w=.ok (.bool false) w:=λp w=>by kernel_rfl
set_option maxHeartbeats 2000000 in
set_option maxRecDepth 100000 in
theorem zvU (w:World) (hk:OpK w) :
  Calls Tryz.prog 35 #[] w λe w'=>e=.returned (.bool true)/\Below w.heap.size w w':=by
 obtain⟨e1,e2,e3⟩:=zvQ;have CK:∀ w',Below w.heap.size w w'->OpK w':=λw' b=>zaW w w' hk b
 have CL:∀ w,OpK w->Calls Tryz.prog 67 #[] w λe w'=>e=.returned (.bool true)/\Below w.heap.size w w':=λw k=>zsu zaW (λ_ h=>h.1) zeh w k
 have C1:∀ w:World,OpK w->Calls Tryz.prog 34 #[.agg #[.int .i64 3,.int .i64 0,.int .i64 0,.int .i64 0,.slice none 0 0,.slice none 0 0,.int .i64 0,.int .i64 5,.int .i64 3],.int .i64 9,.int .i64 9] w λe w'=>(∃ x y,e=.returned (.tuple #[.agg #[.pointer (some x),.pointer (some y),.int .i64 (zj exM 9 9).sb],.int .i64 0])/\Tab w' (.pointer (some x)) (zj exM 9 9).fx (zj exM 9 9).lx/\Tab w' (.pointer (some y)) (zj exM 9 9).fy (zj exM 9 9).ly)/\Below w.heap.size w w':=λw hk =>
  (zeh exM none 0 none 0 9 9 w hk ⟨.inl rfl,.inl rfl,λ_=>rfl,λ_=>rfl⟩ zuh (by unfold zaz;omega) (by unfold zaz;omega)).mono λe w' ⟨hA,hB⟩=>by
   rw[e1]at hA;rcases hA with⟨h0,_⟩|⟨_,x,y,he,tx,ty⟩
   ·exact absurd rfl h0
   ·obtain⟨ax,rfl⟩:=tx.ptr;obtain⟨ay,rfl⟩:=ty.ptr;exact⟨⟨ax,ay,he,tx,ty⟩,hB⟩
 obtain⟨f1,f2,fx,fy,cx,cy,rg,f3⟩:=zvv e2 e3;have CN:∀ (x y:Value) (w':World),OpK w'->Tab w' x (zj exM 9 9).fx (zj exM 9 9).lx->Tab w' y (zj exM 9 9).fy (zj exM 9 9).ly->Calls Tryz.prog 68 #[.agg #[x,y,.int .i64 (zj exM 9 9).sb],.int .i64 2,.int .i64 2] w' λe w''=>(∃ p,e=.returned (.tuple #[.pointer (some p),.int .i64 0])/\PlanAt w'' (.pointer (some p)) x y (zj exM 9 9) 2 2)/\Below w'.heap.size w' w'':=λx y w' k tx ty =>
  (zrG x y (zj exM 9 9) 2 2 w' tx ty).mono λe w'' ⟨hA,hB⟩=>by
   rcases hA with⟨_,v,he,hp⟩|⟨h0,_⟩
   ·obtain⟨p,rfl⟩:∃ p,v=.pointer (some p):=(by obtain⟨_,e,_⟩:=hp;exact⟨_,e⟩);exact⟨⟨p,he,hp⟩,hB⟩
   ·exact absurd h0 (by decide)
 have CT:∀ (v x y:Value) (w':World),PlanAt w' v x y (zj exM 9 9) 2 2->Calls Tryz.prog 69 #[v,.int .i64 5] w' λe w''=>e=.returned (.tuple #[.agg #[.int .i64 5,.int .i64 4,.int .i64 2,.int .i64 1,.int .i64 1,.int .i64 fx,.int .i64 fy,.int .i64 cx,.int .i64 cy,.int .i64 rg],.bool true])/\Below w'.heap.size w' w'':=λv x y w' h=>by
  have:=zsS h 5 (by unfold zaz;omega);rw[f2,if_pos rfl,f3]at this;exact this
 have CC:∀ (v x y:Value) (w':World),PlanAt w' v x y (zj exM 9 9) 2 2->Calls Tryz.prog 70 #[v] w' λe w''=>e=.returned (.int .i64 6)/\Below w'.heap.size w' w'':=λv x y w' h=>by
  have:=(zkZ h).mono (λ_ _ ⟨a,b⟩=>(⟨a,b.below⟩:_/\_));rw[f1]at this;exact this
 have PB:∀ {w w':World} {v x y:Value},PlanAt w v x y (zj exM 9 9) 2 2->Below w.heap.size w w'->PlanAt w' v x y (zj exM 9 9) 2 2:=λh b=>h.below b
 have q1:=znL;have q2:∀ w:World,(binOp .eql 41 (.agg #[.int .i64 4,.int .i64 2,.int .i64 1,.int .i64 1]) (.agg #[.int .i64 4,.int .i64 2,.int .i64 1,.int .i64 1])).run Tryz.prog w=.ok (.bool true) w:=λw=>by kernel_rfl
 clear f1 f2 f3 e1 e2 e3;generalize zj exM 9 9=S at *;obtain⟨lx,ly,sx,sy,sb⟩:=S;simp only at C1 CN
 go_enter Tryz.func35,Tryz.ntmps35
 go_wp2_with (first
  |(go_at_call 34;(with_reducible refine(C1 _ hk).mono ?_);rintro e w1 ⟨⟨x,y,rfl,tx,ty⟩,b1⟩;have HX:=za tx;have HY:=za ty;clear tx ty;have B1:=za b1)
  |(go_at_call 67;(with_reducible refine(CL _ (CK _ (ba B1.out _))).mono ?_);rintro e w2 ⟨rfl,b2⟩;have B2:=za (bt (ba B1.out _) b2);have HX2:=za ((HX.out.below (zg _ _)).below b2);have HY2:=za ((HY.out.below (zg _ _)).below b2);have S2:=(S3.new w1 36 (.pointer (some x)) (.pointer (some y)) (.int .i64 sb)).below b2;obtain⟨⟨s0,_⟩,⟨s1,_⟩,⟨s2,_⟩⟩:=S2)
  |(go_at_call 68;(with_reducible refine(CN _ _ _ (CK _ B2.out) HX2.out HY2.out).mono ?_);rintro e w3 ⟨⟨p,rfl,hp⟩,b3⟩;have HP:=za hp;have B3:=za (bt B2.out b3);clear hp)
  |(go_at_call 69;(with_reducible refine(CT _ _ _ _ HP.out).mono ?_);rintro e w4 ⟨rfl,b4⟩;have HP4:=za ((PB HP.out b4));have B4:=za (bt B3.out b4);have T4:=za (P10.new w4 43 ⟨5,4,2,1,1,fx,fy,cx,cy,rg⟩))
  |(go_at_call 70;(with_reducible refine(CC _ _ _ _ (PB HP4.out (zg _ _))).mono ?_);rintro e w5 ⟨rfl,b5⟩;have B5:=za (bt (ba B4.out _) b5);have T5:=T4.out.below b5;obtain⟨t0,t1,t2,t3,t4,t5,t6,t7,t8,t9⟩:=T5))
 go_ret;exact⟨rfl,B5.out⟩
def exL:Opr:=⟨1,0,0,1,[],[],0,0,0⟩
def imL:Im:=⟨3,1,1,255,List.replicate ((3:Int)*1*1).toNat 0⟩
theorem zmH:zC exL 3 1=0/\(zj exL 3 1).lx.length=3/\(zj exL 3 1).ly.length=1/\zaB (zf (zj exL 3 1).ly 0).1 0 (((zbZ (zj exL 3 1).ly).drop 0).take 1)=[(1,-1),(1,0),(1,1),(2,0)]/\zaY imL (zj exL 3 1)=true/\zaL (zj exL 3 1).ly=3:=by decide +kernel
theorem zud:OpFits exL:=by
 refine⟨?_,?_,?_,?_,?_,?_,?_,(λn hn=>by cases hn),(λn hn=>by cases hn),Nat.zero_le _,Nat.zero_le _⟩<;>(unfold zaz exL;simp)
theorem zwy {w0 wn:World} {g h g2 h2:Nat} {ax ay:Addr} (hk:OpK w0) (tx:Tab w0 (.pointer (some ax)) 3 (zj exL 3 1).lx) (ty:Tab w0 (.pointer (some ay)) 1 (zj exL 3 1).ly) (hi:ImgAt w0 g h imL) (HO:ImgAt wn g2 h2 imL) (ht:Thawed wn g2) (gB:w0.heap.size<=g2) (hB:w0.heap.size<=h2) (hb:Below w0.heap.size w0 wn) :
  Calls Tryz.prog 11 #[.pointer (some ⟨g,0,none⟩),.pointer (some ⟨g2,0,none⟩),.agg #[.pointer (some ax),.pointer (some ay),.int .i64 0],.agg #[.int .i64 0,.int .i64 0,.int .i64 0,.int .i64 3,.int .i64 1,.int .i64 0,.int .i64 0,.int .i64 0,.int .i64 0,.int .i64 0]] wn λe w'=>∃ jb c O,e=.returned (.tuple #[.pointer (some ⟨jb,0,none⟩),.int .i64 0])/\LawC w0 wn h2 c O/\LawT w0 wn w' jb h2 c O [(1,-1),(1,0),(1,1),(2,0)]/\Below w0.heap.size w0 w':=by
 obtain⟨oc,l1,l2,st,su,mo⟩:=zmH;have nb:¬zdc 12 exL:=by unfold zdc exL;decide
 have sm:zcF (zj exL 3 1):=zhX (s:=12) oc nb (by decide) (by decide) (by decide);obtain⟨gl,_⟩:=znf (o:=exL) (w:=3) (h:=1) (s:=12) oc nb (by decide) (by decide);have lg:=hi.lt;have ll:=HO.lt;have K:JobK w0 ⟨g,h,imL,g2,ax,ay,zj exL 3 1,0,0,0,0,0,0,0,0,3,1,1,3⟩:=⟨hk,tx,ty,hi,su,sm,gl,mo,(show 1<=3 by decide),(show 3<=65536 by decide),rfl,by show 0+3<=(zj exL 3 1).lx.length;omega,(show 1<=3 by decide),by show 0+1<=(zj exL 3 1).ly.length;omega,(show 1<=1 by decide)⟩;have C:LawC w0 wn h2 ⟨g,h,imL,g2,ax,ay,zj exL 3 1,0,0,0,0,0,0,0,0,3,1,1,3⟩ imL:=⟨K,by show(3:Int)=((zj exL 3 1).lx.length:Int);omega,by show(1:Int)=((zj exL 3 1).ly.length:Int);omega,rfl,rfl,ll.1,ll.2,hB,hb.size⟩;refine(zhv C HO (show g≠g2 by omega) ht hb).mono ?_;rintro e w' ⟨jb,rfl,L,-⟩;have L2:LawT w0 wn w' jb h2 _ imL (zaB (zf (zj exL 3 1).ly 0).1 0 (((zbZ (zj exL 3 1).ly).drop 0).take 1)):=L;rw[st]at L2;exact⟨jb,_,imL,rfl,C,L2,L2.base⟩
set_option maxHeartbeats 8000000 in
set_option maxRecDepth 100000 in
theorem ziM (w:World) (hk:OpK w):Calls Tryz.prog 8 #[] w λe w'=>e=.returned (.bool true)/\Below w.heap.size w w':=by
 have K0:=za (λw' (b:Below w.heap.size w w')=>zaW _ _ hk b);have CN:=λw'=>zlw 3 1 1 255 (by decide) w'
 obtain⟨oc,-⟩:=zmH;have CM:∀ w',Below w.heap.size w w'->Calls Tryz.prog 34 #[.agg #[.int .i64 1,.int .i64 0,.int .i64 0,.int .i64 1,.slice none 0 0,.slice none 0 0,.int .i64 0,.int .i64 0,.int .i64 0],.int .i64 3,.int .i64 1] w' λe w''=>(∃ x y,e=.returned (.tuple #[.agg #[.pointer (some x),.pointer (some y),.int .i64 0],.int .i64 0])/\Tab w'' (.pointer (some x)) 3 (zj exL 3 1).lx/\Tab w'' (.pointer (some y)) 1 (zj exL 3 1).ly)/\Below w'.heap.size w' w'':=λw' b =>
  (zeh exL none 0 none 0 3 1 w' (K0.out w' b) ⟨.inl rfl,.inl rfl,λ_=>rfl,λ_=>rfl⟩ zud (by unfold zaz;omega) (by unfold zaz;omega)).mono λe w'' ⟨hA,hB⟩=>by
   rw[oc]at hA;rcases hA with⟨h0,_⟩|⟨_,x,y,he,tx,ty⟩
   ·exact absurd rfl h0
   ·obtain⟨ax,rfl⟩:=tx.ptr;obtain⟨ay,rfl⟩:=ty.ptr;exact⟨⟨ax,ay,he,tx,ty⟩,hB⟩
 have C14:=λw' (b:Below w.heap.size w w')=>zvU w' (K0.out w' b)
 have C15:=λw' (b:Below w.heap.size w w')=>znX w' (K0.out w' b)
 have q1:∀ (a:Addr) (w:World),(binOp .eql 49 (.pointer (some a)) (.pointer none)).run Tryz.prog w=.ok (.bool false) w:=λa w=>by kernel_rfl
 have B0:=za (Below.refl w.heap.size w);obtain⟨IL,hIL⟩:∃ I,imL=I:=⟨_,rfl⟩;have CN2:∀ w',Calls Tryz.prog 33 #[.int .i64 3,.int .i64 1,.int .i64 1,.int .i64 255] w' λe w''=>∃ g h,e=.returned (.tuple #[.pointer (some ⟨g,0,none⟩),.int .i64 0])/\w'.heap.size<=g/\w'.heap.size<=h/\ImgAt w'' g h IL/\Thawed w'' g/\Below w'.heap.size w' w'':=λw'=>hIL ▸ CN w'
 have CX:=za (fun(w0 wn:World) g h g2 h2 ax ay hb tx ty (hi:ImgAt w0 g h IL) (HO:ImgAt wn g2 h2 IL) ht gB hB hn=>zwy (w0:=w0) (wn:=wn) (g:=g) (h:=h) (g2:=g2) (h2:=h2) (ax:=ax) (ay:=ay) (K0.out w0 hb) tx ty (hIL ▸ hi) (hIL ▸ HO) ht gB hB hn);clear CN oc hk hIL;generalize (zj exL 3 1).lx=LX at *;generalize (zj exL 3 1).ly=LY at *
 go_enter Tryz.func8,Tryz.ntmps8
 go_upto_region 9 with(first
  |(go_at_call 34;(with_reducible refine(CM _ B1.out).mono ?_);rintro e w2 ⟨⟨x,y,rfl,tx,ty⟩,b2⟩;have HX:=za tx;have HY:=za ty;have B2:=za (bt B1.out b2);have HI2:=za (HI.out.below b2);have S2:=za (λT=>S3.new w2 T (.pointer (some x)) (.pointer (some y)) (.int .i64 0));clear tx ty)
  |(go_at_call 33;(with_reducible refine(CN2 _).mono ?_);rintro e w3 ⟨g2,h2,rfl,gB,hB,hi,hth,b3⟩;have HG:=za (And.intro hi (And.intro hth (And.intro gB hB)));have B3:=za (bt (zg w2 _) b3);have S3':=za ((S2.out _).below b3);clear hi hth gB hB b3)
  |(go_at_call 33;(with_reducible refine(CN2 _).mono ?_);rintro e w1 ⟨g,h,rfl,gB,hB,hi,hth,b1⟩;have HI:=za hi;have B1:=za b1;clear hi hth gB hB b1)
  |(go_at_call 35;(with_reducible refine(C14 _ (bt B2.out B3.out)).mono ?_);rintro e w4 ⟨rfl,b4⟩;have B4:=za (bt B3.out b4);have E4:=za b4)
  |(go_at_call 36;(with_reducible refine(C15 _ (bt B2.out B4.out)).mono ?_);rintro e w5 ⟨rfl,b5⟩;have B5:=za (bt B4.out b5);have E5:=za (bt E4.out b5);obtain⟨⟨s0,_⟩,⟨s1,_⟩,⟨s2,_⟩⟩:=S3'.out.below (bt E4.out b5))
  |(go_at_call 11;(with_reducible refine(CX.out w2 _ g h g2 h2 x y B2.out HX.out HY.out HI2.out (HG.out.1.below E5.out) (HG.out.2.1.below HG.out.1.lt.1 E5.out) (Nat.le_trans (zg w2 _).size HG.out.2.2.1) (Nat.le_trans (zg w2 _).size HG.out.2.2.2) B5.out).mono ?_);rintro e w6 ⟨jb,c,O,rfl,LC,LT,b6⟩;have HC:=za LC;have HT:=za LT;have B6:=za (bt B2.out b6);clear LC LT b6))
 clear CN2 CM C14 C15 s0 s1 s2;have m0:(binOp .neq 65 (.agg #[.int .i64 1,.int .i64 (-1)]) (.agg #[.int .i64 1,.int .i64 (-1)])).run Tryz.prog w6=.ok (.bool false) w6:=by kernel_rfl
 have r1:∀ w:World,(binOp .neq 65 (.agg #[.int .i64 1,.int .i64 (-1)]) (.agg #[.int .i64 1,.int .i64 (-1)])).run Tryz.prog w=.ok (.bool false) w:=λw=>by kernel_rfl
 have r2:∀ w:World,(binOp .neq 65 (.agg #[.int .i64 1,.int .i64 0]) (.agg #[.int .i64 1,.int .i64 0])).run Tryz.prog w=.ok (.bool false) w:=λw=>by kernel_rfl
 have r3:∀ w:World,(binOp .neq 65 (.agg #[.int .i64 1,.int .i64 1]) (.agg #[.int .i64 1,.int .i64 1])).run Tryz.prog w=.ok (.bool false) w:=λw=>by kernel_rfl
 have r4:∀ w:World,(binOp .eql 65 (.agg #[.int .i64 2,.int .i64 0]) (.agg #[.int .i64 2,.int .i64 0])).run Tryz.prog w=.ok (.bool true) w:=λw=>by kernel_rfl
 have r5:∀ w:World,(binOp .eql 65 (.agg #[.int .i64 0,.int .i64 0]) (.agg #[.int .i64 0,.int .i64 0])).run Tryz.prog w=.ok (.bool true) w:=λw=>by kernel_rfl
 clear m0;go_wp2
 go_loopg [9] 3 (λr s wr=>∃ k:Nat,k+r=3/\s=.int .i64 ((k:Int)-1)/\LawT w2 w5 wr jb h2 c O ([(1,-1),(1,0),(1,1),(2,0)].drop k))
 case atStart=>exact⟨0,rfl,rfl,HT.out⟩
 case round =>
  obtain⟨k,hk,rfl,hL⟩:=hrel;rcases(show k=0\/k=1\/k=2\/k=3 by omega)with rfl|rfl|rfl|rfl
  ·have CS:=zjy (m:=(1,-1)) (T:=[(1,0),(1,1),(2,0)]) HC.out hL;unfold mvV at CS;simp only at CS;clear hL
   go_wp2_with (go_at_call 21;(with_reducible refine CS.mono ?_);rintro e w8 ⟨rfl,l8⟩;have HL8:=za l8;clear l8)
   go_roundg (gk-1)
   case measure=>omega
   case rel=>exact⟨1,by omega,by go_num,HL8.out⟩
  ·have CS:=zjy (m:=(1,0)) (T:=[(1,1),(2,0)]) HC.out hL;unfold mvV at CS;simp only at CS;clear hL
   go_wp2_with (go_at_call 21;(with_reducible refine CS.mono ?_);rintro e w8 ⟨rfl,l8⟩;have HL8:=za l8;clear l8)
   go_roundg (gk-1)
   case measure=>omega
   case rel=>exact⟨2,by omega,by go_num,HL8.out⟩
  ·have CS:=zjy (m:=(1,1)) (T:=[(2,0)]) HC.out hL;unfold mvV at CS;simp only at CS;clear hL
   go_wp2_with (go_at_call 21;(with_reducible refine CS.mono ?_);rintro e w8 ⟨rfl,l8⟩;have HL8:=za l8;clear l8)
   go_roundg (gk-1)
   case measure=>omega
   case rel=>exact⟨3,by omega,by go_num,HL8.out⟩
  ·have CS:=zjy (m:=(2,0)) (T:=[]) HC.out hL;have CE:=λw' (hL:LawT w2 w5 w' jb h2 c O [])=>zjS HC.out hL
   unfold mvV at CS CE;simp only at CS CE;clear hL
   go_wp2_with (first
    |(go_at_call 21;(with_reducible refine CS.mono ?_);rintro e w8 ⟨rfl,l8⟩;have HL8:=za l8;clear l8)
    |(go_at_call 21;(with_reducible refine(CE _ HL8.out).mono ?_);rintro e w9 ⟨rfl,l9⟩;have HL9:=za l9;clear l9))
   go_ret;exact⟨rfl,bt B2.out HL9.out.base⟩
theorem LawC.more {w0 wn w':World} {h2:Nat} {c:JobC} {O:Im} (C:LawC w0 wn h2 c O) (s:wn.heap.size<=w'.heap.size):LawC w0 w' h2 c O :=
 ⟨C.job,C.ow,C.oh,C.oc,C.ot,Nat.lt_of_lt_of_le C.lg s,Nat.lt_of_lt_of_le C.lh s,C.base,Nat.le_trans C.size s⟩
def JobC.steps (c:JobC):List Mv:=zaB (zf c.S.ly c.y0).1 (c.y0:Int) (c.ls c.y0 c.H)
theorem zo7 {w w0 wn w':World} {c:JobC} {h2 gx px gy py:Nat} {O:Im} (B:BegIn w w0 wn c h2 gx px gy py O) (hb:Below wn.heap.size wn w') :
  Calls Tryz.prog 11 #[.pointer (some ⟨c.g,0,none⟩),.pointer (some ⟨c.g2,0,none⟩),.agg #[.pointer (some c.ax),.pointer (some c.ay),.int .i64 c.S.sb],.agg #[.int .i64 0,.int .i64 (c.x0:Int),.int .i64 (c.y0:Int),.int .i64 (c.W:Int),.int .i64 (c.H:Int),.int .i64 0,.int .i64 0,.int .i64 0,.int .i64 0,.int .i64 0]] w' λe w''=>∃ jb,e=.returned (.tuple #[.pointer (some ⟨jb,0,none⟩),.int .i64 0])/\LawC w0 w' h2 c O/\LawT w0 w' w'' jb h2 c O c.steps/\Below w'.heap.size w' w'':=by
 have C:=B.law.more hb.size;have e:zg6 c.til=.agg #[.int .i64 0,.int .i64 (c.x0:Int),.int .i64 (c.y0:Int),.int .i64 (c.W:Int),.int .i64 (c.H:Int),.int .i64 0,.int .i64 0,.int .i64 0,.int .i64 0,.int .i64 0]:=by
  unfold zg6 JobC.til;simp only[B.n0,B.n1,B.n2,B.n3,B.n4,B.n5]
 rw[←e];refine(zhv C (B.tgt.below hb) B.ne (B.thaw.below B.tgt.lt.1 hb) (bt B.bel hb)).mono ?_;rintro e2 w2 ⟨jb,rfl,L,b⟩;exact⟨jb,rfl,C,L,b⟩
end Go.Proofs.YtlodkoimdoeopaaGreatDoor
