/- Parts, joined. -/
import Derived.Test.YtlodkoimdoeopaaGreatDoorQ32
import Derived.Test.YtlodkoimdoeopaaGreatDoorQW01
import Derived.Test.YtlodkoimdoeopaaGreatDoorQ30
import Derived.Test.YtlodkoimdoeopaaGreatDoorQ24
import Derived.Test.YtlodkoimdoeopaaGreatDoorQ11
import Derived.Test.YtlodkoimdoeopaaGreatDoorQ15
import Derived.Test.YtlodkoimdoeopaaGreatDoorQ29
import Derived.Test.YtlodkoimdoeopaaGreatDoorQ08
import Derived.Test.YtlodkoimdoeopaaGreatDoorQ18
import Derived.Test.YtlodkoimdoeopaaGreatDoorQ04
import Derived.Deep.RegionHeld3
import Derived.Deep.Onto
import Derived.Deep.LoopGhost
import Derived.BigQuiet
namespace Go.Proofs.YtlodkoimdoeopaaGreatDoor
open Go.RowKit
theorem zs3 (a b d t:Int) (s:Option Addr) (n k:Nat) (w':World):(storeCells ⟨w'.heap.size,0,none⟩ [.int .i64 a,.int .i64 b,.int .i64 d,.int .i64 t,.slice s n k] 0).run Tryz.prog (w'.alloc (.cells #[.int .i64 0,.int .i64 0,.int .i64 0,.int .i64 0,.slice none 0 0] 70))=.ok () (w'.alloc (.cells #[.int .i64 a,.int .i64 b,.int .i64 d,.int .i64 t,.slice s n k] 70)) :=
 run_storeCells_new w' 70 #[.int .i64 0,.int .i64 0,.int .i64 0,.int .i64 0,.slice none 0 0] #[.int .i64 a,.int .i64 b,.int .i64 d,.int .i64 t,.slice s n k] (by kernel_rfl) rfl (by simp[Value.oneCell'])
theorem zqP (a b d t:Int) (w':World):(storeCells ⟨w'.heap.size,0,none⟩ [.int .i64 a,.int .i64 b,.int .i64 d,.int .i64 t] 0).run Tryz.prog (w'.alloc (.cells #[.int .i64 0,.int .i64 0,.int .i64 0,.int .i64 0] 41))=.ok () (w'.alloc (.cells #[.int .i64 a,.int .i64 b,.int .i64 d,.int .i64 t] 41)) :=
 run_storeCells_new w' 41 #[.int .i64 0,.int .i64 0,.int .i64 0,.int .i64 0] #[.int .i64 a,.int .i64 b,.int .i64 d,.int .i64 t] (by kernel_rfl) rfl (by simp[Value.oneCell'])
theorem zqv {w0 w w':World} {h:Nat} (hb:Below w0.heap.size w0 w) (g:w.grownBy w' (some h)) (hh:w0.heap.size<=h):Below w0.heap.size w0 w':=Off.after hb (Off.of_grown g) hb.size (λ_ e=>e ▸ hh)
theorem zrF {a b d e:Prop} [Decidable a] [Decidable b] [Decidable d] [Decidable e] (h:¬(a/\b/\d/\e)):¬a\/(a/\¬b)\/(a/\b/\¬d)\/(a/\b/\d/\¬e):=by
 by_cases h1:a
 case neg=>exact .inl h1
 by_cases h2:b
 case neg=>exact .inr (.inl ⟨h1,h2⟩)
 by_cases h3:d
 case neg=>exact .inr (.inr (.inl ⟨h1,h2,h3⟩))
 exact .inr (.inr (.inr ⟨h1,h2,h3,λh4=>h ⟨h1,h2,h3,h4⟩⟩))
theorem zmU (w:World) (r:Option Nat):w.grownBy w r:=⟨rfl,rfl,rfl,Nat.le_refl _,λ_ _ _=>rfl⟩
attribute [-go_sem] storeCells in
set_option maxHeartbeats 8000000 in
set_option maxRecDepth 100000 in
theorem ziu (q:Pic) (pd:Option Addr) (pc:Nat) (o:Opr) (ax:Option Addr) (cx:Nat) (ay:Option Addr) (cy:Nat) (x y u v mk:Int) (w:World) (hk:OpK w) (hp:PicAt w q pd pc/\zeJ q) (hA:OpAt w o ax cx ay cy/\OpFits o)
  (hx:0<=x/\x<=255) (hy:0<=y/\y<=255) (hu:0<=u/\u<=255) (hv:0<=v/\v<=255) (hmk:0<=mk/\mk<=65535) (CA:zne) :
  Calls Tryz.prog 5 #[zfd q pd pc,opV o ax cx ay cy,.int .u8 x,.int .u8 y,.int .u8 u,.int .u8 v,.int .u16 mk] w λe w'=>e=.returned (.bool true)/\Below w.heap.size w w':=by
 have K0:=za (λw' (b:Below w.heap.size w w')=>zaW _ _ hk b);have CL:=λw' (b:Below w.heap.size w w')=>ziM w' (K0.out w' b)
 have CB:=λw' (b:Below w.heap.size w w')=>zle q pd pc o ax cx ay cy x y u v w' (K0.out w' b) ⟨hp.1.below b,hp.2⟩ ⟨hA.1.below b,hA.2⟩ hx hy hu hv
 obtain⟨pw,ph,pcc,pm,pl⟩:=q;obtain⟨W0,hW0⟩:∃ W0,(w.alloc (.cells #[.int .u16 pw,.int .u16 ph,.int .u16 pcc,.int .u16 pm,.slice pd pl.length pc] 25)).alloc (.cells #[.int .i64 o.kd,.int .i64 o.bd,.int .i64 o.sg,.int .i64 o.rd,.slice ax o.xs.length cx,.slice ay o.ys.length cy,.int .i64 o.fl,.int .i64 o.wd,.int .i64 o.ht] 31)=W0:=⟨_,rfl⟩;have P0:=za (show S5 W0 w.heap.size (.int .u16 pw) (.int .u16 ph) (.int .u16 pcc) (.int .u16 pm) (.slice pd pl.length pc) from hW0 ▸ ((S5.new w 25 (.int .u16 pw) (.int .u16 ph) (.int .u16 pcc) (.int .u16 pm) (.slice pd pl.length pc)).below (zg _ _)));have O0:=za (show P9 W0 (w.heap.size+1) o.kd o.bd o.sg o.rd (.slice ax o.xs.length cx) (.slice ay o.ys.length cy) o.fl o.wd o.ht from hW0 ▸ (by
  simpa using P9.new (w.alloc (.cells #[.int .u16 pw,.int .u16 ph,.int .u16 pcc,.int .u16 pm,.slice pd pl.length pc] 25)) 31 o.kd o.bd o.sg o.rd (.slice ax o.xs.length cx) (.slice ay o.ys.length cy) o.fl o.wd o.ht))
 have B0:=za (show Below w.heap.size w W0 from hW0 ▸ ba (zg w _) _);have HW0:=za hW0;have SZ:=zgm [.pointer none,.pointer none,.pointer none,.pointer none,.int .i64 0,.slice none 0 0,.slice none 0 0,.int .i64 0,.int .i64 0,.int .i64 0,.int .i64 0,.int .i64 0,.int .i64 0,.int .i64 0,.int .i64 0,.int .i64 0,.int .i64 0,.int .i64 0,.int .i64 0,.int .i64 0] rfl (by simp[Value.oneCell']);have SY:=λc gx px gy py=>zgm (za2 c gx px gy py) rfl (zpl c gx px gy py)
 have q1:∀ (a:Addr) (w:World),(binOp .eql 49 (.pointer (some a)) (.pointer none)).run Tryz.prog w=.ok (.bool false) w:=λa w=>by kernel_rfl
 unfold za2 at SY;unfold zmL znx zfd opV at CB;unfold zfd opV;clear hk hp hA hW0 hx hy hu hv;obtain⟨kd,bo,sg,rd,xs,ys,fl,wd,ht⟩:=o;simp only at P0 O0 B0 HW0 CB;generalize hnx:xs.length=nx at *;generalize hny:ys.length=ny at *;clear hnx hny
 go_enter Tryz.func5,Tryz.ntmps5
 go_upto_region 1 with fail
 rw[HW0.out];clear HW0
 go_upto_region 3 with(go_at_call 8;(with_reducible refine(CL _ B0.out).mono ?_);rintro e w1 ⟨rfl,b1⟩;have B1:=za (bt B0.out b1);obtain⟨⟨p0,_⟩,⟨p1,_⟩,⟨p2,_⟩,⟨p3,_⟩,⟨p4,_⟩⟩:=P0.out.below b1;obtain⟨o0,o1,o2,o3,o4,o5,o6,o7,o8⟩:=O0.out.below b1)
 have q0:∀ (a b:Value) (w:World),(Instr.field 65 (.agg #[a,b]) 0).run Tryz.prog w=.ok a w:=λa b w=>by kernel_rfl
 go_wp2_with (go_at_call 9;(with_reducible refine(CB _ B1.out).mono ?_);rintro e w2 ⟨rfl|⟨w0,c,h2,gx,px,gy,py,O,rfl,BG⟩,b2⟩;have B2:=za (bt B1.out b2))
 ·go_ret;exact⟨rfl,ba (bt B1.out b2) _⟩
 have HB:=za BG;obtain⟨W3,hW3⟩:∃ W3,w2.alloc (.cells #[.pointer (some ⟨c.g,0,none⟩),.pointer (some ⟨c.g2,0,none⟩),.pointer (some c.ax),.pointer (some c.ay),.int .i64 c.S.sb,.slice (some ⟨gx,0,none⟩) c.S.lx.length px,.slice (some ⟨gy,0,none⟩) c.S.ly.length py,.int .i64 c.S.fx,.int .i64 c.S.fy,.int .i64 c.S.sb,.int .i64 0,.int .i64 (c.x0:Int),.int .i64 (c.y0:Int),.int .i64 (c.W:Int),.int .i64 (c.H:Int),.int .i64 0,.int .i64 0,.int .i64 0,.int .i64 0,.int .i64 0] 45)=W3:=⟨_,rfl⟩;have XB:=za (show CellsAt W3 w2.heap.size (za2 c gx px gy py) from hW3 ▸ CellsAt.new w2 (za2 c gx px gy py) _);have E3:=za (show Below w2.heap.size w2 W3 from hW3 ▸ zg w2 _);have L3:=za (show w2.heap.size<W3.heap.size from by rw[←hW3];simp);have B3:=za (show Below w.heap.size w W3 from hW3 ▸ ba (bt B1.out b2) _);have CN:=zo7 BG E3.out;clear CB CL SZ SY p0 p1 p2 p3 p4 o0 o1 o2 o3 o4 o5 o6 o7 o8 b2 BG;rw[hW3];clear hW3;have X0:=XB.out 0 _ rfl;obtain⟨bx,hbx⟩:∃ bx,w2.heap.size=bx:=⟨_,rfl⟩;have HBX:=za hbx;have XBX:=za XB;have SI:=zs3;have SR:=zqP;rw[hbx]at XBX;have BXL:=za (show bx<W3.heap.size from hbx ▸ L3.out);have BXH:=za (show bx≠h2 from λe=>by have:=HB.out.tgt.lt.2;omega);simp only[hbx];clear hbx X0 CN;have HO3:=za (HB.out.tgt.below E3.out);obtain⟨A,hA⟩:∃ A,c.S.lx.length=A:=⟨_,rfl⟩;obtain⟨B,hB⟩:∃ B,c.S.ly.length=B:=⟨_,rfl⟩;obtain⟨C1,C3,hCn⟩:=HB.out.law.job.c1;have ow:O.iw=(A:Int):=hA ▸ HB.out.law.ow;have oh:O.ih=(B:Int):=hB ▸ HB.out.law.oh;have oc:O.ic=(c.C:Int):=HB.out.law.oc.trans HB.out.law.job.ch;have ot:O.it=c.I.it:=HB.out.law.ot;obtain⟨C,hC⟩:∃ C,c.C=C:=⟨_,rfl⟩;rw[hC]at oc C1 C3 hCn;have okO:=HO3.out.ok;have okO':=okO;obtain⟨a0,a1,b0,b1,_,t0,t1,_,ol,_⟩:=okO';rw[ow]at a0 a1;rw[oh]at b0 b1;rw[ot]at t0 t1;have lO:O.il.length=A*B*C:=by
  rw[ow,oh,oc]at ol;have:(O.il.length:Int)=((A*B*C:Nat):Int):=by rw[ol,Int.natCast_mul,Int.natCast_mul]
  omega
 obtain⟨it,hit⟩:∃ it,c.I.it=it:=⟨_,rfl⟩;rw[hit]at ot t0 t1;obtain⟨vv,hvv⟩:∃ vv,mk % (it+1)=vv:=⟨_,rfl⟩;have v0:0<=vv:=hvv ▸ Int.emod_nonneg _ (by omega);have v1:vv<=it:=by have:=Int.emod_lt_of_pos mk (show 0<it+1 by omega);omega
 have RR:=zwe (x:=mk) (y:=it+1) hmk.1 (by omega) hvv;have e5:IntKind.i64.wrap (it+1)=it+1:=zaN (by omega) (by omega);have e6:IntKind.u16.wrap vv=vv:=by simp only[IntKind.wrap_u16];omega
 have e7:IntKind.i64.wrap mk=mk:=zaN (by omega) (by omega);have e8:¬it+1=0:=by omega
 have CMO:=zcW HO3.out;have CWI:=zdu HO3.out;rw[ot]at CMO;rw[ow]at CWI;have HV:=za (And.intro v0 (And.intro v1 (And.intro t0 t1)));have HA:=za (And.intro hA (And.intro hB (And.intro hC hit)));have HOF:=za (And.intro ow (And.intro oh (And.intro oc ot)));have HOK:=za okO;have HLO:=za lO;have HSZ:=za (And.intro a0 (And.intro a1 (And.intro b0 (And.intro b1 (And.intro C1 (And.intro C3 hCn))))));have hA9:A<=65536:=by omega
 have hB9:B<=65536:=by omega
 have hC9:C<=3:=C3;have x1:=XBX.out 1 _ rfl;clear hA hB hC hit ow oh oc ot okO ol lO hCn a0 a1 b0 b1 C1 C3 t0 t1;have w2':=hmk
 go_upto_region 7 with(go_at_call 23;(with_reducible refine CMO.mono ?_);rintro e w4 ⟨rfl,rfl⟩)
 clear RR e5 e6 e7 e8 hvv CMO
 go_wp2_with (go_at_call 24;(with_reducible refine CWI.mono ?_);rintro e w4 ⟨rfl,rfl⟩)
 clear CWI x1;have UX:=za (fun(w':World) (g:W3.grownBy w' (some h2))=>cg g (λe=>BXH.out (Option.some.inj e)) (XBX.out 1 _ rfl))
 go_loopg [55] A (λr s wr=>∃ i:Nat,i+r=A/\s=.int .i64 (i:Int)/\ImgAt wr c.g2 h2 (zdk O A C vv i 0 0)/\W3.grownBy wr (some h2))
 case atStart=>exact⟨0,by omega,rfl,(zou O A C vv).symm ▸ HO3.out,zmU _ _⟩
 case round =>
  obtain⟨i,hi,rfl,hI,hG⟩:=hrel;obtain⟨G1,hG1⟩:∃ G,G=gk:=⟨_,rfl⟩;subst hG1;obtain⟨Wa,hWa⟩:∃ W0,W0=wr:=⟨_,rfl⟩;subst hWa;have HI:=za hI;have HG:=za hG;have Hi:=za hi;clear hi
  by_cases hlt:i<A
  ·have CH:=zcO hI;rw[show(zdk O A C vv i 0 0).ih=(B:Int) from HOF.out.2.1]at CH;have x1:=UX.out _ hG;clear hI hG
   go_wp2_with (go_at_call 25;(with_reducible refine CH.mono ?_);rintro e w5 ⟨rfl,rfl⟩)
   clear CH x1
   go_loopg [61] B (λr s wr=>∃ k:Nat,k+r=B/\s=.int .i64 (k:Int)/\ImgAt wr c.g2 h2 (zdk O A C vv i k 0)/\W3.grownBy wr (some h2))
   case atStart=>exact⟨0,by omega,rfl,HI.out,HG.out⟩
   case round =>
    obtain⟨k,hk,rfl,hI,hG⟩:=hrel;obtain⟨G2,hG2⟩:∃ G,G=gk:=⟨_,rfl⟩;subst hG2;obtain⟨Wb,hWb⟩:∃ W0,W0=wr:=⟨_,rfl⟩;subst hWb;have HI2:=za hI;have HG2:=za hG;have Hk:=za hk;clear hk
    by_cases hlt2:k<B
    ·have CC:=zaF hI;rw[show(zdk O A C vv i k 0).ic=(C:Int) from HOF.out.2.2.1]at CC;have x1:=UX.out _ hG;clear hI hG
     go_wp2_with (go_at_call 17;(with_reducible refine CC.mono ?_);rintro e w5 ⟨rfl,rfl⟩)
     clear CC x1
     go_loopg [67] C (λr s wr=>∃ d:Nat,d+r=C/\s=.int .i64 (d:Int)/\ImgAt wr c.g2 h2 (zdk O A C vv i k d)/\W3.grownBy wr (some h2))
     case atStart=>exact⟨0,by omega,rfl,HI2.out,HG2.out⟩
     case round =>
      obtain⟨d,hd,rfl,hI,hG⟩:=hrel;have Hd:=za hd;clear hd
      by_cases hlt3:d<C
      ·have CS:=zoA hI (i:Int) (k:Int) (d:Int) vv HV.out.1 (by have:=HV.out.2;omega);have HG3:=za hG;have x1:=UX.out _ hG;have sok:zbp O (i:Int) (k:Int) (d:Int) vv=true:=by
        unfold zbp zbl;rw[HOF.out.1,HOF.out.2.1,HOF.out.2.2.1,HOF.out.2.2.2,Bool.and_eq_true,decide_eq_true_iff,decide_eq_true_iff];have:=HV.out;omega
       rw[zpV HOF.out.1 HOF.out.2.2.1 hlt3 hlt sok]at CS;clear hI hG sok
       go_wp2_with (go_at_call 26;(with_reducible refine CS.mono ?_);rintro e w7 ⟨rfl,i7,g7⟩;have HI7:=za i7;have HG7:=za (HG3.out.trans g7);clear i7 g7)
       go_roundg (gk-1)
       case measure=>have:=Hd.out;omega
       case rel=>exact⟨d+1,by have:=Hd.out;omega,by go_num,HI7.out,HG7.out⟩
      ·obtain rfl:C=d:=by have:=Hd.out;omega
       have HI7:=za hI;have HG7:=za hG;clear hI hG hlt3;go_wp2
       go_roundg (G2-1)
       case measure=>have:=Hk.out;omega
       case rel=>exact⟨k+1,by have:=Hk.out;omega,by go_num,zrC HSZ.out.2.2.2.2.1 ▸ HI7.out,HG7.out⟩
    ·obtain rfl:B=k:=by have:=Hk.out;omega
     clear hlt2 hI hG;go_wp2
     go_roundg (G1-1)
     case measure=>have:=Hi.out;omega
     case rel=>exact⟨i+1,by have:=Hi.out;omega,by go_num,(zte (O:=O) (A:=A) (B:=B) (C:=C) (v:=vv) (i:=i) (by have:=HSZ.out.1;omega) HSZ.out.2.2.2.2.1 HLO.out) ▸ HI2.out,HG2.out⟩
  ·obtain rfl:A=i:=by have:=Hi.out;omega
   clear hlt hI hG;have HF:=za (show ImgAt Wa c.g2 h2 (zeZ O vv) from zsi (O:=O) (A:=A) (C:=C) (v:=vv) (by have:=HSZ.out.1;omega) ▸ HI.out);clear HI;have BA:=za (zqv (bt HB.out.bel E3.out) HG.out HB.out.law.base);have KA:=za (HB.out.law.job.below BA.out);have HT:=za ((HB.out.thaw.below HB.out.tgt.lt.1 E3.out).grown HO3.out.lt.1 HG.out (λe=>HO3.out.ne (Option.some.inj e)));have CR:=zm5 KA.out.img;unfold imV at CR;have HXA:=za (λj v (h:(za2 c gx px gy py)[j]?=some v)=>cg HG.out (λe=>BXH.out (Option.some.inj e)) (XBX.out j v h));have BXA:=za (Nat.lt_of_lt_of_le BXL.out HG.out.size);have x0:=HXA.out 0 _ rfl;obtain⟨nI,hnI⟩:∃ n,c.I.il.length=n:=⟨_,rfl⟩;have lI:=(zbr KA.out.img.ok).2;rw[hnI]at CR lI;have HNI:=za hnI;clear hnI
   go_upto_region 21 with(go_at_call 27;(with_reducible refine CR.mono ?_);rintro e w5 ⟨rb,rcp,rfl,rr,rl,rh,rc1,b5⟩;have R5:=za (And.intro rr (And.intro rl (And.intro rh rc1)));have B5:=za b5;clear rr rl rh rc1 b5)
   have P6:(w5.alloc (.cells #[.int .i64 c.I.iw,.int .i64 c.I.ih,.int .i64 c.I.ic,.int .i64 c.I.it,.slice (some ⟨rb,0,none⟩) nI rcp] 70)).cell? ⟨w5.heap.size,0,none⟩=some (.int .i64 c.I.iw)/\(w5.alloc (.cells #[.int .i64 c.I.iw,.int .i64 c.I.ih,.int .i64 c.I.ic,.int .i64 c.I.it,.slice (some ⟨rb,0,none⟩) nI rcp] 70)).cell? ⟨w5.heap.size,1,none⟩=some (.int .i64 c.I.ih)/\(w5.alloc (.cells #[.int .i64 c.I.iw,.int .i64 c.I.ih,.int .i64 c.I.ic,.int .i64 c.I.it,.slice (some ⟨rb,0,none⟩) nI rcp] 70)).cell? ⟨w5.heap.size,2,none⟩=some (.int .i64 c.I.ic)/\(w5.alloc (.cells #[.int .i64 c.I.iw,.int .i64 c.I.ih,.int .i64 c.I.ic,.int .i64 c.I.it,.slice (some ⟨rb,0,none⟩) nI rcp] 70)).cell? ⟨w5.heap.size,3,none⟩=some (.int .i64 c.I.it)/\(w5.alloc (.cells #[.int .i64 c.I.iw,.int .i64 c.I.ih,.int .i64 c.I.ic,.int .i64 c.I.it,.slice (some ⟨rb,0,none⟩) nI rcp] 70)).cell? ⟨w5.heap.size,4,none⟩=some (.slice (some ⟨rb,0,none⟩) nI rcp):=by refine⟨?_,?_,?_,?_,?_⟩<;>simp
   have BW:Below Wa.heap.size Wa (w5.alloc (.cells #[.int .i64 c.I.iw,.int .i64 c.I.ih,.int .i64 c.I.ic,.int .i64 c.I.it,.slice (some ⟨rb,0,none⟩) nI rcp] 70)):=ba B5.out _;have LW:Wa.heap.size<=w5.heap.size/\w5.heap.size<(w5.alloc (.cells #[.int .i64 c.I.iw,.int .i64 c.I.ih,.int .i64 c.I.ic,.int .i64 c.I.it,.slice (some ⟨rb,0,none⟩) nI rcp] 70)).heap.size:=⟨B5.out.size,by simp⟩;have RW:=R5.out.1.below (zg w5 (.cells #[.int .i64 c.I.iw,.int .i64 c.I.ih,.int .i64 c.I.ic,.int .i64 c.I.it,.slice (some ⟨rb,0,none⟩) nI rcp] 70));obtain⟨W6,hW6⟩:∃ W6,w5.alloc (.cells #[.int .i64 c.I.iw,.int .i64 c.I.ih,.int .i64 c.I.ic,.int .i64 c.I.it,.slice (some ⟨rb,0,none⟩) nI rcp] 70)=W6:=⟨_,rfl⟩;obtain⟨wb,hwb⟩:∃ wb,w5.heap.size=wb:=⟨_,rfl⟩;rw[hW6,hwb]at P6 LW;rw[hW6]at BW RW;rw[hW6];simp only[hwb];have HP6:=za P6;have HB6:=za BW;have HL6:=za LW;have HR6:=za RW;have B06:=za (bt BA.out BW);clear P6 BW LW RW hW6 hwb x0 CR;have HX6:=za (λj v (h:(za2 c gx px gy py)[j]?=some v)=>cb HB6.out BXA.out (HXA.out j v h));have CN:=zhe HB.out.law.job (HF.out.below HB6.out) HB.out.law.ow HB.out.law.oh HB.out.law.oc HB.out.law.ot HB.out.ne (HT.out.below HF.out.lt.1 HB6.out) B06.out HB.out.law.base HB.out.law.job.xw HB.out.law.job.w1 HB.out.law.job.yh HB.out.law.job.h1;have x0:=HX6.out 0 _ rfl;have x1:=HX6.out 1 _ rfl;have x2:=HX6.out 2 _ rfl;have x3:=HX6.out 3 _ rfl;have x4:=HX6.out 4 _ rfl;have x10:=HX6.out 10 _ rfl;have x11:=HX6.out 11 _ rfl;have x12:=HX6.out 12 _ rfl;have x13:=HX6.out 13 _ rfl;have x14:=HX6.out 14 _ rfl;have x15:=HX6.out 15 _ rfl;have x16:=HX6.out 16 _ rfl;have x17:=HX6.out 17 _ rfl;have x18:=HX6.out 18 _ rfl;have x19:=HX6.out 19 _ rfl
   go_upto_region 22 with(go_at_call 11;(with_reducible refine CN.mono ?_);rintro e w7 ⟨jb,rfl,LC,LT,b7⟩;have HC:=za LC;have HT7:=za LT;clear LC LT b7)
   clear x0 x1 x2 x3 x4 x10 x11 x12 x13 x14 x15 x16 x17 x18 x19 CN;have KF:=za (fun(w':World) (g:W6.grownBy w' (some h2))=>show w'.cell? ⟨bx,2,none⟩=some (.pointer (some c.ax))/\w'.cell? ⟨bx,3,none⟩=some (.pointer (some c.ay))/\w'.cell? ⟨bx,4,none⟩=some (.int .i64 c.S.sb)/\w'.cell? ⟨bx,10,none⟩=some (.int .i64 0)/\w'.cell? ⟨bx,11,none⟩=some (.int .i64 (c.x0:Int))/\w'.cell? ⟨bx,12,none⟩=some (.int .i64 (c.y0:Int))/\w'.cell? ⟨bx,13,none⟩=some (.int .i64 (c.W:Int))/\w'.cell? ⟨bx,14,none⟩=some (.int .i64 (c.H:Int))/\w'.cell? ⟨bx,15,none⟩=some (.int .i64 0)/\w'.cell? ⟨bx,16,none⟩=some (.int .i64 0)/\w'.cell? ⟨bx,17,none⟩=some (.int .i64 0)/\w'.cell? ⟨bx,18,none⟩=some (.int .i64 0)/\w'.cell? ⟨bx,19,none⟩=some (.int .i64 0) from
    have X:=λj v (h:(za2 c gx px gy py)[j]?=some v)=>cg g (λe=>BXH.out (Option.some.inj e)) (HX6.out j v h)
    ⟨X 2 _ rfl,X 3 _ rfl,X 4 _ rfl,X 10 _ rfl,X 11 _ rfl,X 12 _ rfl,X 13 _ rfl,X 14 _ rfl,X 15 _ rfl,X 16 _ rfl,X 17 _ rfl,X 18 _ rfl,X 19 _ rfl⟩)
   have KX:=za (fun(w':World) (g:W6.grownBy w' (some h2))=>show w'.cell? ⟨bx,5,none⟩=some (.slice (some ⟨gx,0,none⟩) c.S.lx.length px)/\w'.cell? ⟨bx,6,none⟩=some (.slice (some ⟨gy,0,none⟩) c.S.ly.length py)/\w'.cell? ⟨bx,7,none⟩=some (.int .i64 c.S.fx)/\w'.cell? ⟨bx,8,none⟩=some (.int .i64 c.S.fy)/\w'.cell? ⟨bx,9,none⟩=some (.int .i64 c.S.sb) from
    have X:=λj v (h:(za2 c gx px gy py)[j]?=some v)=>cg g (λe=>BXH.out (Option.some.inj e)) (HX6.out j v h)
    ⟨X 5 _ rfl,X 6 _ rfl,X 7 _ rfl,X 8 _ rfl,X 9 _ rfl⟩)
   have CRU:=λw' (b:Below w7.heap.size w7 w')=>zq2 HC.out (HT7.out.below b) (λm hm=>zfv hm)
   have CSL:=λw' (b:Below w0.heap.size w0 w')=>zpN HB.out.law.job b
   have eS:(c.of c.x0 c.y0 c.W c.H).steps.length=c.steps.length:=rfl;rw[eS]at CRU;generalize c.steps.length=nS at *;clear eS;have y0:=KF.out w7 HT7.out.grown
   go_cut [110] (λa wx=>a=.bool false/\LawT w0 W6 wx jb h2 (c.of c.x0 c.y0 c.W c.H) (zeZ O vv) [])
   case first =>
    go_region_held3 (λw'=>w'.cell? ⟨bx,2,none⟩=some (.pointer (some c.ax))/\w'.cell? ⟨bx,3,none⟩=some (.pointer (some c.ay))/\w'.cell? ⟨bx,4,none⟩=some (.int .i64 c.S.sb)/\w'.cell? ⟨bx,10,none⟩=some (.int .i64 0)/\w'.cell? ⟨bx,11,none⟩=some (.int .i64 (c.x0:Int))/\w'.cell? ⟨bx,12,none⟩=some (.int .i64 (c.y0:Int))/\w'.cell? ⟨bx,13,none⟩=some (.int .i64 (c.W:Int))/\w'.cell? ⟨bx,14,none⟩=some (.int .i64 (c.H:Int))/\w'.cell? ⟨bx,15,none⟩=some (.int .i64 0)/\w'.cell? ⟨bx,16,none⟩=some (.int .i64 0)/\w'.cell? ⟨bx,17,none⟩=some (.int .i64 0)/\w'.cell? ⟨bx,18,none⟩=some (.int .i64 0)/\w'.cell? ⟨bx,19,none⟩=some (.int .i64 0)) (first|with_reducible assumption|(with_reducible exact y0)|go_keep)
     (first
      |(go_at_call 12;(with_reducible refine(CRU _ bch).mono ?_);rintro e w8 ⟨rfl,l8⟩;have HL8:=za l8;have y8:=KF.out _ l8.grown;clear l8)
      |(go_at_call 19;(with_reducible refine(CSL _ (bt HL8.out.base bch)).mono ?_);rintro e w9 ⟨rfl,b9⟩;have HL9:=za (HL8.out.below (bt (show Below w8.heap.size w8 _ from bch) b9));have y9:=KF.out _ HL9.out.grown;clear b9))
    all_goals
     go_wp2_with fail
     go_meet;exact⟨rfl,HL9.out.below bch⟩
   case rest =>
    obtain⟨rfl,hL⟩:=hcut;have HI9:=za (hL.done HC.out);have G9:=za hL.grown;have B9:=za hL.base;have NRB:=za (show some rb≠some h2 from λe=>by have:=Option.some.inj e;have:=R5.out.2.1;have:=HF.out.lt.2;omega);have NWB:=za (show some wb≠some h2 from λe=>by have:=Option.some.inj e;have:=HL6.out.1;have:=HF.out.lt.2;omega);have R9:=za (HR6.out.grown hL.grown NRB.out);have K9:=HB.out.law.job.below hL.base;have x5:=KX.out _ hL.grown;have p0:=cg hL.grown NWB.out HP6.out.1;have p1:=cg hL.grown NWB.out HP6.out.2.1;have p2:=cg hL.grown NWB.out HP6.out.2.2.1;have p3:=cg hL.grown NWB.out HP6.out.2.2.2.1;have p4:=cg hL.grown NWB.out HP6.out.2.2.2.2;have LA:=za (ze p0);have CAP:=CA c.I c.S rb rcp gx px gy py _ K9.img.ok R9.out (HB.out.lx.below hL.base) (HB.out.ly.below hL.base) K9.tx.ok.1 K9.ty.ok.1 (by have:=K9.tx.ok.2.1;omega) (by have:=K9.ty.ok.2.1;omega) K9.tx.ok.2.2.1 K9.ty.ok.2.2.1 (zdL HB.out.step).2;unfold imV at CAP;simp only[show(zI c.I c.S).iw=(A:Int) from HA.out.1 ▸ rfl,show(zI c.I c.S).ih=(B:Int) from HA.out.2.1 ▸ rfl,show(zI c.I c.S).ic=(C:Int) from HA.out.2.2.1 ▸ HB.out.law.job.ch,show(zI c.I c.S).it=it from HA.out.2.2.2,HNI.out]at CAP;obtain⟨nA,hnA⟩:∃ n,(zI c.I c.S).il.length=n:=⟨_,rfl⟩;simp only[hnA]at CAP;have HNA:=za hnA;obtain⟨q5,q6,q7,q8,q9⟩:=x5;clear hL y0 CRU CSL K9 hnA
    go_upto_region 25 with(go_at_call 28;(with_reducible refine CAP.mono ?_);rintro e w10 ⟨⟨ab,acp,rfl,ar,al⟩,b10⟩;have R10:=za (And.intro ar al);have B10:=za b10;clear ar al b10)
    clear CAP p0 p1 p2 p3 p4 q5 q6 q7 q8 q9;have q0:(w10.alloc (.cells #[.int .i64 (A:Int),.int .i64 (B:Int),.int .i64 (C:Int),.int .i64 it,.slice (some ⟨ab,0,none⟩) nA acp] 70)).cell? ⟨w10.heap.size,0,none⟩=some (.int .i64 (A:Int))/\(w10.alloc (.cells #[.int .i64 (A:Int),.int .i64 (B:Int),.int .i64 (C:Int),.int .i64 it,.slice (some ⟨ab,0,none⟩) nA acp] 70)).cell? ⟨w10.heap.size,1,none⟩=some (.int .i64 (B:Int))/\(w10.alloc (.cells #[.int .i64 (A:Int),.int .i64 (B:Int),.int .i64 (C:Int),.int .i64 it,.slice (some ⟨ab,0,none⟩) nA acp] 70)).cell? ⟨w10.heap.size,2,none⟩=some (.int .i64 (C:Int))/\(w10.alloc (.cells #[.int .i64 (A:Int),.int .i64 (B:Int),.int .i64 (C:Int),.int .i64 it,.slice (some ⟨ab,0,none⟩) nA acp] 70)).cell? ⟨w10.heap.size,3,none⟩=some (.int .i64 it)/\(w10.alloc (.cells #[.int .i64 (A:Int),.int .i64 (B:Int),.int .i64 (C:Int),.int .i64 it,.slice (some ⟨ab,0,none⟩) nA acp] 70)).cell? ⟨w10.heap.size,4,none⟩=some (.slice (some ⟨ab,0,none⟩) nA acp):=by refine⟨?_,?_,?_,?_,?_⟩<;>simp
    have BW:=ba B10.out (.cells #[.int .i64 (A:Int),.int .i64 (B:Int),.int .i64 (C:Int),.int .i64 it,.slice (some ⟨ab,0,none⟩) nA acp] 70);have RA:=R10.out.1.below (zg w10 (.cells #[.int .i64 (A:Int),.int .i64 (B:Int),.int .i64 (C:Int),.int .i64 it,.slice (some ⟨ab,0,none⟩) nA acp] 70));obtain⟨W11,hW11⟩:∃ W11,(w10.alloc (.cells #[.int .i64 (A:Int),.int .i64 (B:Int),.int .i64 (C:Int),.int .i64 it,.slice (some ⟨ab,0,none⟩) nA acp] 70))=W11:=⟨_,rfl⟩;obtain⟨eb,heb⟩:∃ eb,w10.heap.size=eb:=⟨_,rfl⟩;rw[hW11,heb]at q0;rw[hW11]at BW RA;rw[hW11];simp only[heb];have XX:=λj v (h:(za2 c gx px gy py)[j]?=some v)=>cb BW (Nat.lt_of_lt_of_le BXA.out (Nat.le_trans HB6.out.size G9.out.size)) (cg G9.out (λe=>BXH.out (Option.some.inj e)) (HX6.out j v h))
    have z11:=XX 11 _ rfl;have z12:=XX 12 _ rfl;have z13:=XX 13 _ rfl;have z14:=XX 14 _ rfl;have lt1:=ze z11;have q1:=cb (zg W11 (.cells #[.int .i64 (c.x0:Int),.int .i64 (c.y0:Int),.int .i64 (c.W:Int),.int .i64 (c.H:Int)] 41)) (ze q0.1) q0.1;have q2:=cb (zg W11 (.cells #[.int .i64 (c.x0:Int),.int .i64 (c.y0:Int),.int .i64 (c.W:Int),.int .i64 (c.H:Int)] 41)) (ze q0.1) q0.2.1;have q3:=cb (zg W11 (.cells #[.int .i64 (c.x0:Int),.int .i64 (c.y0:Int),.int .i64 (c.W:Int),.int .i64 (c.H:Int)] 41)) (ze q0.1) q0.2.2.1;have q4:=cb (zg W11 (.cells #[.int .i64 (c.x0:Int),.int .i64 (c.y0:Int),.int .i64 (c.W:Int),.int .i64 (c.H:Int)] 41)) (ze q0.1) q0.2.2.2.1;have q5:=cb (zg W11 (.cells #[.int .i64 (c.x0:Int),.int .i64 (c.y0:Int),.int .i64 (c.W:Int),.int .i64 (c.H:Int)] 41)) (ze q0.1) q0.2.2.2.2;have q6:(W11.alloc (.cells #[.int .i64 (c.x0:Int),.int .i64 (c.y0:Int),.int .i64 (c.W:Int),.int .i64 (c.H:Int)] 41)).cell? ⟨W11.heap.size,0,none⟩=some (.int .i64 (c.x0:Int))/\(W11.alloc (.cells #[.int .i64 (c.x0:Int),.int .i64 (c.y0:Int),.int .i64 (c.W:Int),.int .i64 (c.H:Int)] 41)).cell? ⟨W11.heap.size,1,none⟩=some (.int .i64 (c.y0:Int))/\(W11.alloc (.cells #[.int .i64 (c.x0:Int),.int .i64 (c.y0:Int),.int .i64 (c.W:Int),.int .i64 (c.H:Int)] 41)).cell? ⟨W11.heap.size,2,none⟩=some (.int .i64 (c.W:Int))/\(W11.alloc (.cells #[.int .i64 (c.x0:Int),.int .i64 (c.y0:Int),.int .i64 (c.W:Int),.int .i64 (c.H:Int)] 41)).cell? ⟨W11.heap.size,3,none⟩=some (.int .i64 (c.H:Int)):=by refine⟨?_,?_,?_,?_⟩<;>simp
    have BV:=ba BW (.cells #[.int .i64 (c.x0:Int),.int .i64 (c.y0:Int),.int .i64 (c.W:Int),.int .i64 (c.H:Int)] 41);have q7:=λo u (h:_)=>cb BV LA.out (cg (w:=W6) (o:=o) (v:=u) G9.out NWB.out h)
    have z0:=cb BV (Nat.lt_of_lt_of_le BXA.out (Nat.le_trans HB6.out.size G9.out.size)) (cg G9.out (λe=>BXH.out (Option.some.inj e)) (HX6.out 0 _ rfl));have z1:=cb BV (Nat.lt_of_lt_of_le BXA.out (Nat.le_trans HB6.out.size G9.out.size)) (cg G9.out (λe=>BXH.out (Option.some.inj e)) (HX6.out 1 _ rfl));have p0:=q7 _ _ HP6.out.1;have p1:=q7 _ _ HP6.out.2.1;have p2:=q7 _ _ HP6.out.2.2.1;have p3:=q7 _ _ HP6.out.2.2.2.1;have p4:=q7 _ _ HP6.out.2.2.2.2;have RA2:=RA.below (zg W11 (.cells #[.int .i64 (c.x0:Int),.int .i64 (c.y0:Int),.int .i64 (c.W:Int),.int .i64 (c.H:Int)] 41));have RW2:=R9.out.below BV;have IW2:=HI9.out.below BV;have B02:=bt B9.out BV;clear q7 XX q0 RA BW
    go_upto_region 26 with fail
    clear z11 z12 z13 z14;obtain⟨W12,hW12⟩:∃ W12,W11.alloc (.cells #[.int .i64 (c.x0:Int),.int .i64 (c.y0:Int),.int .i64 (c.W:Int),.int .i64 (c.H:Int)] 41)=W12:=⟨_,rfl⟩;obtain⟨tb,htb⟩:∃ tb,W11.heap.size=tb:=⟨_,rfl⟩;rw[hW12]at q1 q2 q3 q4 q5 q6 z0 z1 p0 p1 p2 p3 p4 RA2 RW2 IW2 B02;rw[htb]at q6;rw[hW12];simp only[htb];have HQ:=za (fun(w':World) (b:Below W12.heap.size W12 w')=>show(w'.cell? ⟨eb,0,none⟩=some (.int .i64 (A:Int))/\w'.cell? ⟨eb,1,none⟩=some (.int .i64 (B:Int))/\w'.cell? ⟨eb,2,none⟩=some (.int .i64 (C:Int))/\w'.cell? ⟨eb,3,none⟩=some (.int .i64 it)/\w'.cell? ⟨eb,4,none⟩=some (.slice (some ⟨ab,0,none⟩) nA acp))/\(w'.cell? ⟨tb,0,none⟩=some (.int .i64 (c.x0:Int))/\w'.cell? ⟨tb,1,none⟩=some (.int .i64 (c.y0:Int))/\w'.cell? ⟨tb,2,none⟩=some (.int .i64 (c.W:Int))/\w'.cell? ⟨tb,3,none⟩=some (.int .i64 (c.H:Int)))/\(w'.cell? ⟨wb,0,none⟩=some (.int .i64 c.I.iw)/\w'.cell? ⟨wb,1,none⟩=some (.int .i64 c.I.ih)/\w'.cell? ⟨wb,2,none⟩=some (.int .i64 c.I.ic)/\w'.cell? ⟨wb,3,none⟩=some (.int .i64 c.I.it)/\w'.cell? ⟨wb,4,none⟩=some (.slice (some ⟨rb,0,none⟩) nI rcp))/\w'.cell? ⟨bx,0,none⟩=some (.pointer (some ⟨c.g,0,none⟩))/\w'.cell? ⟨bx,1,none⟩=some (.pointer (some ⟨c.g2,0,none⟩)) from⟨⟨cb b (ze q1) q1,cb b (ze q1) q2,cb b (ze q1) q3,cb b (ze q1) q4,cb b (ze q1) q5⟩,⟨cb b (ze q6.1) q6.1,cb b (ze q6.1) q6.2.1,cb b (ze q6.1) q6.2.2.1,cb b (ze q6.1) q6.2.2.2⟩,⟨cb b (ze p0) p0,cb b (ze p0) p1,cb b (ze p0) p2,cb b (ze p0) p3,cb b (ze p0) p4⟩,cb b (ze z0) z0,cb b (ze z0) z1⟩);have HRA:=za RA2;have HRW:=za RW2;have HIW:=za (show ImgAt W12 c.g2 h2 (zac (zeZ O vv) c.I c.S c.x0 c.W c.y0 c.H 0) from IW2);have H02:=za B02;have e0:=q1;have xw:c.x0+c.W<=A:=HA.out.1 ▸ HB.out.law.job.xw;have yh:c.y0+c.H<=B:=HA.out.2.1 ▸ HB.out.law.job.yh;have wx1:IntKind.i64.wrap ((c.x0:Int)+(c.W:Int))=(c.x0:Int)+(c.W:Int):=zaN (by omega) (by omega);have wy1:IntKind.i64.wrap ((c.y0:Int)+(c.H:Int))=(c.y0:Int)+(c.H:Int):=zaN (by omega) (by omega);clear hW11 heb hW12 htb q1 q2 q3 q4 q5 q6 z0 z1 p0 p1 p2 p3 p4 RA2 RW2 IW2 B02 BV lt1;go_wp2;clear e0
    go_loopg [120] A (λr s wr=>∃ i:Nat,i+r=A/\s=.int .i64 (i:Int)/\Below W12.heap.size W12 wr)
    case atStart=>exact⟨0,by omega,rfl,Below.refl _ _⟩
    case round =>
     obtain⟨i,hi,rfl,hb⟩:=hrel;obtain⟨G1,hG1⟩:∃ G,G=gk:=⟨_,rfl⟩;subst hG1;obtain⟨Wc,hWc⟩:∃ W0,W0=wr:=⟨_,rfl⟩;subst hWc;have Hi:=za hi;have Hb:=za hb;have e1:=(HQ.out _ hb).1.2.1;clear hi hb
     by_cases hlt:i<A
     ·go_wp2;clear e1
      go_loopg [125] B (λr s wr=>∃ k:Nat,k+r=B/\s=.int .i64 (k:Int)/\Below W12.heap.size W12 wr)
      case atStart=>exact⟨0,by omega,rfl,Hb.out⟩
      case round =>
       obtain⟨k,hk,rfl,hb⟩:=hrel;obtain⟨G2,hG2⟩:∃ G,G=gk:=⟨_,rfl⟩;subst hG2;obtain⟨Wd,hWd⟩:∃ W0,W0=wr:=⟨_,rfl⟩;subst hWd;have Hk:=za hk;have Hb2:=za hb;have e2:=(HQ.out _ hb).1.2.2.1;clear hk hb
       by_cases hlt2:k<B
       ·go_wp2;clear e2
        go_loopg [130] C (λr s wr=>∃ d:Nat,d+r=C/\s=.int .i64 (d:Int)/\Below W12.heap.size W12 wr)
        case atStart=>exact⟨0,by omega,rfl,Hb2.out⟩
        case round =>
         obtain⟨d,hd,rfl,hb⟩:=hrel;have Hd:=za hd;have Hb3:=za hb;clear hd
         by_cases hlt3:d<C
         ·have hCn:(c.I.ic.toNat:Int)=c.I.ic:=by have:=HSZ.out.2.2.2.2.2.2;have:=HOF.out.2.2.1;have:=HB.out.law.oc;omega
          have hCe:c.I.ic.toNat=C:=HSZ.out.2.2.2.2.2.2;have E1:=zwB (S:=c.S) (x0:=c.x0) (W:=c.W) (y0:=c.y0) (H:=c.H) (v:=vv) HOK.out HB.out.law.ow HB.out.law.oh HB.out.law.oc hCn (x:=i) (y:=k) (c:=d) (by rw[HA.out.1];exact hlt) (by rw[HA.out.2.1];exact hlt2) (by rw[hCe];exact hlt3) HV.out.1 (by rw[HOF.out.2.2.2];exact HV.out.2.1);have E2:=zvm (I:=c.I) (S:=c.S) hCn (x:=i) (y:=k) (c:=d) (by rw[HA.out.1];exact hlt) (by rw[HA.out.2.1];exact hlt2) (by rw[hCe];exact hlt3);obtain⟨R,hR⟩:∃ R,zaM (zbA c.I c.S i k (d:Int)) c.I.it=R:=⟨_,rfl⟩;rw[hR]at E1 E2;have CAT:=λw' (b:Below W12.heap.size W12 w')=>zmz (HIW.out.below b) (i:Int) (k:Int) (d:Int)
          rw[E1]at CAT;have CDA:=λw' (b:Below W12.heap.size W12 w')=>zoW (zI c.I c.S) ab acp (zmZ HB.out.law.job.img.ok (zdL HB.out.step).2) (i:Int) (k:Int) (d:Int) w' (HRA.out.below b)
          unfold imV at CDA;simp only[show(zI c.I c.S).iw=(A:Int) from HA.out.1 ▸ rfl,show(zI c.I c.S).ih=(B:Int) from HA.out.2.1 ▸ rfl,show(zI c.I c.S).ic=(C:Int) from HA.out.2.2.1 ▸ HB.out.law.job.ch,show(zI c.I c.S).it=it from HA.out.2.2.2,HNA.out,E2]at CDA;obtain⟨⟨e0,e1,e2,e3,e4⟩,⟨r0,r1,r2,r3⟩,-,-,x1⟩:=HQ.out _ hb;clear hCn hCe E1 E2 hR hb
          by_cases hin:c.x0<=i/\i<c.x0+c.W/\c.y0<=k/\k<c.y0+c.H
          ·simp only[if_pos hin]at CAT;obtain⟨h1,h2',h3,h4⟩:=hin;have m1:(c.x0:Int)<=(i:Int):=by omega
           have m2:(i:Int)<(c.x0:Int)+(c.W:Int):=by omega
           have m3:(c.y0:Int)<=(k:Int):=by omega
           have m4:(k:Int)<(c.y0:Int)+(c.H:Int):=by omega
           clear h1 h2' h3 h4
           go_wp2_with (first
            |(go_at_call 29;(with_reducible refine(CDA _ Hb3.out).mono ?_);rintro e w13 ⟨rfl,b13⟩;have K13:=za (bt Hb3.out b13);have z1:=(HQ.out _ K13.out).2.2.2.2;clear b13)
            |(go_at_call 30;(with_reducible refine(CAT _ K13.out).mono ?_);rintro e w14 ⟨rfl,d14⟩;have K14:=za (bt K13.out d14.below);clear d14))
           go_roundg (gk-1)
           case measure=>have:=Hd.out;omega
           case rel=>exact⟨d+1,by have:=Hd.out;omega,by go_num,K14.out⟩
          ·simp only[if_neg hin]at CAT;rcases zrF hin with h1|⟨h1,h2'⟩|⟨h1,h2',h3⟩|⟨h1,h2',h3,h4⟩
           all_goals clear hin
           ·have m1:¬(c.x0:Int)<=(i:Int):=by omega
            clear h1;clear CDA
            go_wp2_with (go_at_call 30;(with_reducible refine(CAT _ Hb3.out).mono ?_);rintro e w14 ⟨rfl,d14⟩;have K14:=za (bt Hb3.out d14.below);clear d14)
            go_roundg (gk-1)
            case measure=>have:=Hd.out;omega
            case rel=>exact⟨d+1,by have:=Hd.out;omega,by go_num,K14.out⟩
           ·have m1:(c.x0:Int)<=(i:Int):=by omega
            have m2:¬(i:Int)<(c.x0:Int)+(c.W:Int):=by omega
            clear h1 h2';clear CDA
            go_wp2_with (go_at_call 30;(with_reducible refine(CAT _ Hb3.out).mono ?_);rintro e w14 ⟨rfl,d14⟩;have K14:=za (bt Hb3.out d14.below);clear d14)
            go_roundg (gk-1)
            case measure=>have:=Hd.out;omega
            case rel=>exact⟨d+1,by have:=Hd.out;omega,by go_num,K14.out⟩
           ·have m1:(c.x0:Int)<=(i:Int):=by omega
            have m2:(i:Int)<(c.x0:Int)+(c.W:Int):=by omega
            have m3:¬(c.y0:Int)<=(k:Int):=by omega
            clear h1 h2' h3;clear CDA
            go_wp2_with (go_at_call 30;(with_reducible refine(CAT _ Hb3.out).mono ?_);rintro e w14 ⟨rfl,d14⟩;have K14:=za (bt Hb3.out d14.below);clear d14)
            go_roundg (gk-1)
            case measure=>have:=Hd.out;omega
            case rel=>exact⟨d+1,by have:=Hd.out;omega,by go_num,K14.out⟩
           ·have m1:(c.x0:Int)<=(i:Int):=by omega
            have m2:(i:Int)<(c.x0:Int)+(c.W:Int):=by omega
            have m3:(c.y0:Int)<=(k:Int):=by omega
            have m4:¬(k:Int)<(c.y0:Int)+(c.H:Int):=by omega
            clear h1 h2' h3 h4;clear CDA
            go_wp2_with (go_at_call 30;(with_reducible refine(CAT _ Hb3.out).mono ?_);rintro e w14 ⟨rfl,d14⟩;have K14:=za (bt Hb3.out d14.below);clear d14)
            go_roundg (gk-1)
            case measure=>have:=Hd.out;omega
            case rel=>exact⟨d+1,by have:=Hd.out;omega,by go_num,K14.out⟩
         ·obtain rfl:C=d:=by have:=Hd.out;omega
          have Hb4:=za hb;clear hb hlt3;go_wp2
          go_roundg (G2-1)
          case measure=>have:=Hk.out;omega
          case rel=>exact⟨k+1,by have:=Hk.out;omega,by go_num,Hb4.out⟩
       ·obtain rfl:B=k:=by have:=Hk.out;omega
        clear hlt2 e2;go_wp2
        go_roundg (G1-1)
        case measure=>have:=Hi.out;omega
        case rel=>exact⟨i+1,by have:=Hi.out;omega,by go_num,Hb2.out⟩
     ·obtain rfl:A=i:=by have:=Hi.out;omega
      clear hlt e1;have CRE:=λw' (b:Below W12.heap.size W12 w')=>zm5 (HB.out.law.job.below (bt H02.out b)).img
      unfold imV at CRE;simp only[HNI.out]at CRE;have CEQ:=λb5 c5 w' r1 r2=>zpE c.I c.I b5 rb c5 rcp (by rw[HNI.out];exact lI) w' r1 r2
      unfold imV at CEQ;simp only[HNI.out,zgv]at CEQ;have WK:=za (fun(w':World) (b:Below W12.heap.size W12 w')=>show(w'.cell? ⟨wb,0,none⟩=some (.int .i64 c.I.iw)/\w'.cell? ⟨wb,1,none⟩=some (.int .i64 c.I.ih)/\w'.cell? ⟨wb,2,none⟩=some (.int .i64 c.I.ic)/\w'.cell? ⟨wb,3,none⟩=some (.int .i64 c.I.it)/\w'.cell? ⟨wb,4,none⟩=some (.slice (some ⟨rb,0,none⟩) nI rcp))/\w'.cell? ⟨bx,0,none⟩=some (.pointer (some ⟨c.g,0,none⟩)) from⟨(HQ.out _ b).2.2.1,(HQ.out _ b).2.2.2.1⟩);have y0:=WK.out _ Hb.out
      go_upto_region 43 with fail
      go_region_held3 (λw'=>(w'.cell? ⟨wb,0,none⟩=some (.int .i64 c.I.iw)/\w'.cell? ⟨wb,1,none⟩=some (.int .i64 c.I.ih)/\w'.cell? ⟨wb,2,none⟩=some (.int .i64 c.I.ic)/\w'.cell? ⟨wb,3,none⟩=some (.int .i64 c.I.it)/\w'.cell? ⟨wb,4,none⟩=some (.slice (some ⟨rb,0,none⟩) nI rcp))/\w'.cell? ⟨bx,0,none⟩=some (.pointer (some ⟨c.g,0,none⟩))) (first|with_reducible assumption|(with_reducible exact y0)|go_keep)
       (first
        |(go_at_call 27;(with_reducible refine(CRE _ (bt Hb.out bch)).mono ?_);rintro e w15 ⟨b5,cp5,rfl,rr5,_,_,_,b15⟩;have R15:=za rr5;have B15:=za (bt (bt Hb.out (show Below Wc.heap.size Wc _ from bch)) b15);have y15:=WK.out _ B15.out;clear rr5 b15)
        |(go_at_call 31;(with_reducible refine(CEQ b5 cp5 _ (R15.out.below bch) (HRW.out.below (bt B15.out bch))).mono ?_);rintro e w16 ⟨rfl,b16⟩;have B16:=za (bt B15.out (bt (show Below w15.heap.size w15 _ from bch) b16));have y16:=WK.out _ B16.out;clear b16))
      all_goals
       go_wp2_with fail
       go_ret;exact⟨rfl,bt B1.out (bt HB.out.bel0 (bt H02.out (bt B16.out bch)))⟩
theorem zlC (n:Int):wrap64 n=IntKind.i64.wrap n:=by
 unfold wrap64;rw[IntKind.wrap_i64]
theorem zm2 (s t:Int) (h0 : -9223372036854775808<=s) (h1:s<=9223372036854775807) (w:World) :
  Calls Tryz.prog 57 #[.int .i64 s,.int .i64 t] w λe w'=>e=.returned (.int .u16 (zaM s t))/\Below w.heap.size w w':=by
 have CS:=λw=>zeG s 28 h0 h1 w
 unfold zaM zcy;generalize zV s 28=V at *;rcases Int.lt_or_le t 0 with ht|ht
 ·rw[if_pos ht];rcases Int.lt_or_le V 0 with hv|hv
  ·rw[if_pos hv]
   go_enter Tryz.func57,Tryz.ntmps57
   go_wp2_with (go_at_call 96;(with_reducible refine(CS _).mono ?_);rintro e w1 ⟨rfl,b1⟩)
   go_ret;exact⟨rfl,b1⟩
  ·rw[if_neg (by omega)];rcases Int.lt_or_le 0 V with hm|hm
   ·rw[if_pos hm]
    go_enter Tryz.func57,Tryz.ntmps57
    go_wp2_with (go_at_call 96;(with_reducible refine(CS _).mono ?_);rintro e w1 ⟨rfl,b1⟩)
    go_ret;exact⟨rfl,b1⟩
   ·rw[if_neg (by omega)]
    go_enter Tryz.func57,Tryz.ntmps57
    go_wp2_with (go_at_call 96;(with_reducible refine(CS _).mono ?_);rintro e w1 ⟨rfl,b1⟩)
    go_ret;exact⟨rfl,b1⟩
 ·rw[if_neg (show ¬t<0 by omega)];rcases Int.lt_or_le 65535 t with hT|hT
  ·rw[if_pos hT];rcases Int.lt_or_le V 0 with hv|hv
   ·rw[if_pos hv]
    go_enter Tryz.func57,Tryz.ntmps57
    go_wp2_with (go_at_call 96;(with_reducible refine(CS _).mono ?_);rintro e w1 ⟨rfl,b1⟩)
    go_ret;exact⟨rfl,b1⟩
   ·rw[if_neg (by omega)];rcases Int.lt_or_le 65535 V with hm|hm
    ·rw[if_pos hm]
     go_enter Tryz.func57,Tryz.ntmps57
     go_wp2_with (go_at_call 96;(with_reducible refine(CS _).mono ?_);rintro e w1 ⟨rfl,b1⟩)
     go_ret;exact⟨rfl,b1⟩
    ·rw[if_neg (by omega)]
     go_enter Tryz.func57,Tryz.ntmps57
     go_wp2_with (go_at_call 96;(with_reducible refine(CS _).mono ?_);rintro e w1 ⟨rfl,b1⟩)
     go_ret;exact⟨rfl,b1⟩
  ·rw[if_neg (show ¬65535<t by omega)];rcases Int.lt_or_le V 0 with hv|hv
   ·rw[if_pos hv]
    go_enter Tryz.func57,Tryz.ntmps57
    go_wp2_with (go_at_call 96;(with_reducible refine(CS _).mono ?_);rintro e w1 ⟨rfl,b1⟩)
    go_ret;exact⟨rfl,b1⟩
   ·rw[if_neg (by omega)];rcases Int.lt_or_le t V with hm|hm
    ·rw[if_pos hm]
     go_enter Tryz.func57,Tryz.ntmps57
     go_wp2_with (go_at_call 96;(with_reducible refine(CS _).mono ?_);rintro e w1 ⟨rfl,b1⟩)
     go_ret;exact⟨rfl,b1⟩
    ·rw[if_neg (by omega)]
     go_enter Tryz.func57,Tryz.ntmps57
     go_wp2_with (go_at_call 96;(with_reducible refine(CS _).mono ?_);rintro e w1 ⟨rfl,b1⟩)
     go_ret;exact⟨rfl,b1⟩
theorem zvB {I:Im} (hI:zay I) (x y z:Int):0<=zbe I x y z/\zbe I x y z<=65535:=by
 obtain⟨_,_,_,_,_,_,t1,_,_,hall⟩:=hI;unfold zbe
 split
 ·rw[List.getD_eq_getElem?_getD]
  cases h:I.il[(zL I x y z).toNat]? with
  |none=>exact⟨by decide,by decide⟩
  |some v =>
   have:=hall v (List.mem_of_getElem? h);exact⟨this.1,by show v<=_;omega⟩
 ·exact⟨by decide,by decide⟩
theorem ztc {P:Program} {f:FuncId} {args:Array Value} {u:Value} (h:∀ w:World,Calls P f args w λe w'=>e=.returned u/\w=w') (w:World) (n:Nat) :
  Calls P f args (w.drewN n) λe w''=>e=.returned u/\∃ m,w''=w.drewN m :=
 (h _).mono λ_ _ q=>⟨q.1,n,q.2.symm⟩
set_option maxHeartbeats 8000000 in
set_option maxRecDepth 100000 in
theorem zrn (I:Im) (S:Stg) (b cap gx px gy py x y:Nat) (c:Int) (w:World) (hI:zay I) (hr:RowAt .u16 w (some ⟨b,0,none⟩) I.il) (rx:LinesAt w gx S.lx) (ry:LinesAt w gy S.ly) (ox:∀ j,j<S.lx.length->-1099511627776<=(zf S.lx j).1/\(zf S.lx j).1<=1099511627776/\1<=(zf S.lx j).2.length/\(zf S.lx j).2.length<=1048576) (oy:∀ j,j<S.ly.length->-1099511627776<=(zf S.ly j).1/\(zf S.ly j).1<=1099511627776/\1<=(zf S.ly j).2.length/\(zf S.ly j).2.length<=1048576) (hx:x<S.lx.length) (hy:y<S.ly.length) (_:S.lx.length<=65536) (_:S.ly.length<=65536) :
  Calls Tryz.prog 58 #[imV I b I.il.length cap,.agg #[.slice (some ⟨gx,0,none⟩) S.lx.length px,.slice (some ⟨gy,0,none⟩) S.ly.length py,.int .i64 S.fx,.int .i64 S.fy,.int .i64 S.sb],.int .i64 (x:Int),.int .i64 (y:Int),.int .i64 c] w λe w'=>e=.returned (.int .i64 (zbA I S x y c))/\Below w.heap.size w w':=by
 obtain⟨W0,hW0⟩:∃ W0,(w.alloc (.cells #[.int .i64 I.iw,.int .i64 I.ih,.int .i64 I.ic,.int .i64 I.it,.slice (some ⟨b,0,none⟩) I.il.length cap] 70)).alloc (.cells #[.slice (some ⟨gx,0,none⟩) S.lx.length px,.slice (some ⟨gy,0,none⟩) S.ly.length py,.int .i64 S.fx,.int .i64 S.fy,.int .i64 S.sb] 39)=W0:=⟨_,rfl⟩;have B0:=za (show Below w.heap.size w W0 by rw[←hW0];exact ba (zg _ _) _);have M0:=za (show S5 W0 w.heap.size (.int .i64 I.iw) (.int .i64 I.ih) (.int .i64 I.ic) (.int .i64 I.it) (.slice (some ⟨b,0,none⟩) I.il.length cap) by rw[←hW0];exact(S5.new _ _ _ _ _ _ _).below (zg _ _));have S0:=za (show S5 W0 (w.heap.size+1) (.slice (some ⟨gx,0,none⟩) S.lx.length px) (.slice (some ⟨gy,0,none⟩) S.ly.length py) (.int .i64 S.fx) (.int .i64 S.fy) (.int .i64 S.sb) by rw[←hW0];simpa using S5.new (w.alloc (.cells #[.int .i64 I.iw,.int .i64 I.ih,.int .i64 I.ic,.int .i64 I.it,.slice (some ⟨b,0,none⟩) I.il.length cap] 70)) 39 (.slice (some ⟨gx,0,none⟩) S.lx.length px) (.slice (some ⟨gy,0,none⟩) S.ly.length py) (.int .i64 S.fx) (.int .i64 S.fy) (.int .i64 S.sb));have HRX:=za (rx.below B0.out);have HRY:=za (ry.below B0.out);have HRI:=za (hr.below B0.out);have AX:=ox x hx;have AY:=oy y hy;obtain⟨f0,f1,_,n1⟩:=AX;obtain⟨g0,g1,_,m1⟩:=AY;have CDA:=fun(p q:Int) w' hr'=>zoW I b cap hI p q c w' hr'
 have CAT:=fun(j n:Int) (h0 : -9223372036854775808<=j) (h1:j<=9223372036854775807) w'=>ztf S.sb j n h0 h1 w'
 have HV:=za (fun(p q:Int)=>zvB hI p q c);obtain⟨T,hT⟩:∃ T:Nat->Int,T=λi=>zq (zf S.ly y).2 (λk=>zia I S x y c i k) (zf S.ly y).2.length:=⟨_,rfl⟩
 have hsum:zbA I S x y c=IntKind.i64.wrap (zq (zf S.lx x).2 T (zf S.lx x).2.length):=by rw[hT];rfl
 have HX:=za (fun(wr:World) (hb:Below W0.heap.size W0 wr)=>(HRX.out.below hb) x hx);have HY:=za (fun(wr:World) (hb:Below W0.heap.size W0 wr)=>(HRY.out.below hb) y hy);rw[hsum];have HT:=za (λi=>show T i=zq (zf S.ly y).2 (λk=>zbe I (atF S.sb ((zf S.lx x).1+(i:Int)) I.iw) (atF S.sb ((zf S.ly y).1+(k:Int)) I.ih) c) (zf S.ly y).2.length by rw[hT];rfl);unfold imV at CDA ⊢;clear hT hsum hr rx ry ox oy hI HRX HRY;obtain⟨fx,tx,hlx⟩:∃ f t,zf S.lx x=(f,t):=⟨_,_,rfl⟩;obtain⟨fy,ty,hly⟩:∃ f t,zf S.ly y=(f,t):=⟨_,_,rfl⟩;simp only[hlx]at f0 f1 n1 HX HT ⊢;simp only[hly]at g0 g1 m1 HY HT;clear hlx hly;obtain⟨N1,hN1⟩:∃ N,tx.length=N:=⟨_,rfl⟩;obtain⟨N2,hN2⟩:∃ N,ty.length=N:=⟨_,rfl⟩;simp only[hN1]at n1 HX ⊢;simp only[hN2]at m1 HY HT;have HN1:=za hN1;have HN2:=za hN2;clear hN1 hN2;generalize S.lx.length=nx at *;generalize S.ly.length=ny at *;generalize I.iw=iw at *;generalize I.ih=ih at *;generalize I.ic=ic at *;generalize I.it=it at *;generalize I.il.length=nl at *;generalize S.fx=sfx at *;generalize S.fy=sfy at *;generalize S.sb=sb at *;obtain⟨⟨p0,_⟩,⟨p1,_⟩,⟨p2,_⟩,⟨p3,_⟩,⟨p4,_⟩⟩:=S0.out;obtain⟨d1,u1,d2,adx,cpx,rfl,rowx⟩:=HX.out W0 (Below.refl _ _);rw[HN1.out]at d2;obtain⟨dy0,uy,dy1,ady,cpy,rfl,rowy⟩:=HY.out W0 (Below.refl _ _);rw[HN2.out]at dy1;have HC0:=za dy0;have HC1:=za dy1;have HRY:=za rowy;clear rowy dy0 dy1;have HRT:=za rowx;clear rowx
 go_enter Tryz.func58,Tryz.ntmps58
 go_wp2;clear p0 p1 p2 p3 p4 d1 d2 hW0
 go_loopg [11,26] N1 (λr s i wr=>∃ k:Nat,k+r=N1/\i=.int .i64 (k:Int)/\s=.int .i64 (IntKind.i64.wrap (zq tx T k))/\Below W0.heap.size W0 wr)
 case atStart=>exact⟨0,by omega,rfl,rfl,Below.refl _ _⟩
 case round =>
  obtain⟨k,hk,rfl,rfl,hb⟩:=hrel;have HB:=za hb;have HK:=za hk;clear hb hk
  by_cases hlt:k<N1
  ·obtain⟨q0,o0,rfl,ct⟩:=(HRT.out.below HB.out).get (j:=k) (by rw[HN1.out];exact hlt);obtain⟨A,hA⟩:∃ A,tx.getD k 0=A:=⟨_,rfl⟩;rw[hA]at ct;have HA:=za hA;clear hA;obtain⟨cf,u0,cu,_⟩:=HX.out wr HB.out;obtain⟨⟨p0,_⟩,⟨p1,_⟩,⟨p2,_⟩,⟨p3,_⟩,⟨p4,_⟩⟩:=S0.out.below HB.out;obtain⟨⟨m0,_⟩,⟨m1',_⟩,⟨m2,_⟩,⟨m3,_⟩,⟨m4,_⟩⟩:=M0.out.below HB.out;have dy1:=cb HB.out (ze HC1.out) HC1.out;have W1:IntKind.i64.wrap (fx+(k:Int))=fx+(k:Int):=IntWalk.i64_in _ (by omega);have C1:=CAT (fx+(k:Int)) iw (by omega) (by omega);go_wp2
   go_quiet ((go_at_call 97;(with_reducible exact ztc C1 _ _)))
   have HT1:=za (HT.out k);clear C1 W1;obtain⟨G2,hG2⟩:∃ G2,G2=gk:=⟨_,rfl⟩;subst hG2;obtain⟨u,hu⟩:∃ u,atF sb (fx+(k:Int)) iw=u:=⟨_,rfl⟩;rw[hu]at HT1;simp only[hu];clear hu;obtain⟨G,hG⟩:∃ G:Nat->Int,G=fun(q:Nat)=>zbe I u (atF sb (fy+(q:Int)) ih) c:=⟨_,rfl⟩
   rw[←hG]at HT1;have HG:=za (fun(q:Nat)=>show G q=zbe I u (atF sb (fy+(q:Int)) ih) c by rw[hG]);clear hG;have B2:=za (show Below W0.heap.size W0 (wr.drewN nq) from bdN HB.out _);go_wp2
   go_loopg [15,51] N2 (λr s i w2=>∃ q:Nat,q+r=N2/\i=.int .i64 (q:Int)/\s=.int .i64 (IntKind.i64.wrap (zq ty G q))/\Below W0.heap.size W0 w2)
   case atStart=>exact⟨0,by omega,rfl,rfl,B2.out⟩
   case round =>
    obtain⟨q,hq,rfl,rfl,hb⟩:=hrel;have HB2:=za hb;have HQ:=za hq;clear hb hq
    by_cases hlt2:q<N2
    ·obtain⟨q1,o1,rfl,ct2⟩:=(HRY.out.below HB2.out).get (j:=q) (by rw[HN2.out];exact hlt2);obtain⟨A2,hA2⟩:∃ A2,ty.getD q 0=A2:=⟨_,rfl⟩;rw[hA2]at ct2;have HA2:=za hA2;clear hA2 p0 p1 p2 p3 p4 m0 m1' m2 m3 m4 ct cf cu dy1;have dy0:=cb HB2.out (ze HC0.out) HC0.out;obtain⟨⟨p0,_⟩,⟨p1,_⟩,⟨p2,_⟩,⟨p3,_⟩,⟨p4,_⟩⟩:=S0.out.below HB2.out;obtain⟨⟨m0,_⟩,⟨m1',_⟩,⟨m2,_⟩,⟨m3,_⟩,⟨m4,_⟩⟩:=M0.out.below HB2.out;have W1:IntKind.i64.wrap (fy+(q:Int))=fy+(q:Int):=IntWalk.i64_in _ (by omega);have C1:=CAT (fy+(q:Int)) ih (by omega) (by omega);have HG1:=za (HG.out q);go_wp2
     go_quiet ((go_at_call 97;(with_reducible exact ztc C1 _ _)))
     clear C1 W1;obtain⟨v,hv⟩:∃ v,atF sb (fy+(q:Int)) ih=v:=⟨_,rfl⟩;rw[hv]at HG1;simp only[hv];clear hv;have B3:=za (show Below W0.heap.size W0 (wr.drewN nq) from bdN HB2.out _)
     go_wp2_with (go_at_call 29;(with_reducible refine(CDA _ _ _ (HRI.out.below B3.out)).mono ?_);rintro e w5 ⟨rfl,b5⟩)
     go_roundg (gk-1)
     case measure=>have:=HQ.out;omega
     case rel=>exact⟨q+1,by have:=HQ.out;omega,by go_num,by
      have e:zq ty G (q+1)=zq ty G q+ty.getD q 0*G q:=rfl;simp only[zlC];rw[zmG,e,HA2.out,HG1.out],bt B3.out b5⟩
    ·obtain rfl:N2=q:=by have:=HQ.out;omega
     clear hlt2;go_wp2
     go_roundg (G2-1)
     case measure=>have:=HK.out;omega
     case rel=>exact⟨k+1,by have:=HK.out;omega,by go_num,by
      have e:zq tx T (k+1)=zq tx T k+tx.getD k 0*T k:=rfl;simp only[zlC];rw[zmG,e,HA.out,HT1.out],HB2.out⟩
  ·obtain rfl:N1=k:=by have:=HK.out;omega
   clear hlt;go_wp2;go_ret;exact⟨rfl,bt B0.out HB.out⟩
end Go.Proofs.YtlodkoimdoeopaaGreatDoor
