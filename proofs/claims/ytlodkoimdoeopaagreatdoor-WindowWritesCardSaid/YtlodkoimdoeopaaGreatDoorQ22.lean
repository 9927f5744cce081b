/- Parts, joined. -/
import Derived.Test.YtlodkoimdoeopaaGreatDoorQ21
import Derived.Test.YtlodkoimdoeopaaGreatDoorQ04
import Derived.Test.YtlodkoimdoeopaaGreatDoorQ02
import Derived.Test.YtlodkoimdoeopaaGreatDoorQ14
import Derived.Laws.BitsAllLaws
import Derived.Deep.LoopGhost
import Derived.BigQuiet
namespace Go.Proofs.YtlodkoimdoeopaaGreatDoor
open Go.RowKit
set_option maxHeartbeats 8000000 in
set_option maxRecDepth 100000 in
theorem zlH {w0 w:World} {jb:Nat} {F R:Nat->Prop} {c:JobC} {G:List Int} {E:Int} {y n:Nat} (K:JobK w0 c) (J:JobAt w0 w jb F R c G E y (n+1)) :
  Calls Tryz.prog 51 #[.pointer (some ⟨jb,0,none⟩)] w λe w'=>∃ v,e=.returned v/\OwnI .i64 2 w' w.heap.size v (c.row E)/\Below w.heap.size w w':=by
 obtain⟨pb,pc,cbk,cc,rb,rc,r,fx,-⟩:=J.mem;obtain⟨k0,k1,k2,k3,k4,k5⟩:=K.cnt_in;obtain⟨C1,C3,-⟩:=K.c1;have w1':=K.w1;have wb:c.W<=65536:=by have:=K.xw;have:=K.tx.ok.2.2.1;omega
 have q0:=fx.c0;have q16:=fx.c16;have HCO:=za fx.cols;have HI:=za (K.img.below J.bel);have CC:=zaF HI.out;rw[K.ch]at CC;have CS:=zmN K J;have HLEN:=za (zg8 c E (c.cnt*c.C));have HAT:=za (fun(q:Nat) (h:q<c.cnt*c.C)=>zwf (c:=c) (j:=E) h);have HSI:=za (λq=>zkk K E q);have HSP:=za (fun(i:Nat) (hi:i<c.W)=>show ∃ d m:Nat,(zf c.S.lx (c.x0+i)).1-c.lo=(d:Int)/\(zf c.S.lx (c.x0+i)).2.length=m/\d+m<=c.cnt/\1<=m by
  have s:=K.span hi;have ok:=K.tx.ok.1 (c.x0+i) (by have:=K.xw;omega);exact⟨((zf c.S.lx (c.x0+i)).1-c.lo).toNat,_,by omega,rfl,by omega,ok.2.2.1⟩)
 have HPI:=za (fun(i ch k:Nat) (hi:i<c.W) (hk:k<=(zf c.S.lx (c.x0+i)).2.length)=>zkC K E (ch:=ch) hi hk);have HSN:=za (fun(i ch:Nat) (hi:i<c.W) (hc:ch<c.C)=>zsZ K E hi hc);have HST:=za (fun(i ch t:Nat)=>show zem c E i ch (t+1)=zem c E i ch t+(zf c.S.lx (c.x0+i)).2.getD t 0*zfc c E (((zf c.S.lx (c.x0+i)).1-c.lo).toNat*c.C+t*c.C+ch) from rfl);have HALL:=za (zvx c E);obtain⟨N,hN⟩:∃ N,c.cnt*c.C=N:=⟨_,rfl⟩;rw[hN]at CS HLEN HAT;have n0:1<=N:=by rw[←hN];exact Nat.mul_pos (by omega) (by omega)
 obtain⟨M,hM⟩:∃ M,c.W*c.C=M:=⟨_,rfl⟩;have m1:M<=65536*3:=hM ▸ zef wb C3;have m3:M<=4294967296:=Nat.le_trans m1 (by decide);have W0:=zgG hM m3;have n2:N<=3145728*3:=hN ▸ zef k2 C3;have n3:N<=4294967296:=Nat.le_trans n2 (by decide);obtain⟨zs,MK,MO⟩:=zkl M (Nat.le_trans m1 (by decide));have HMO:=za MO;have HN:=za hN;have HM:=za hM;rw[hM]at HALL;rw[←HALL.out];have X16:=za q16;have hl:=ze q0;have N3:=za n3;have M3':=za m3;clear K J fx k0 k3 k4 k5 MO hN hM HALL m1 n2 n3 m3;obtain⟨cn,hcn⟩:∃ cn,c.cnt=cn:=⟨_,rfl⟩;obtain⟨C,hC⟩:∃ C,c.C=C:=⟨_,rfl⟩;obtain⟨W,hW⟩:∃ W,c.W=W:=⟨_,rfl⟩;rw[hcn]at k1 k2 HSP HN;clear hcn;rw[hC]at C1 C3 CC W0 HN HM HSN HST;rw[hW]at w1' wb q16 HCO HSP HPI HSN W0 HM X16
 go_enter Tryz.func51,Tryz.ntmps51
 go_wp2_with (first
  |(go_at_call 17;(with_reducible refine CC.mono ?_);rintro e w2 ⟨rfl,rfl⟩)
  |(go_at_call 90;(with_reducible refine CS.mono ?_);rintro e w3 ⟨sv,rfl,own,b3⟩;obtain⟨sbk,scap,rfl,hsb,hsl,hrow,_,_⟩:=zax own HLEN.out n0;have HR3:=za hrow;have B3:=za b3;have y16:=cb b3 hl q16;have z16:=ca (ob:=.cells zs 2) (show jb<w3.heap.size by have:=b3.size;omega) y16;clear own hrow b3 hsb hsl))
 have O1:=HMO.out w3 w.heap.size B3.out.size;rw[←zdl]at O1;have HO1:=za O1;have HB1:=za (ba (Below.refl w3.heap.size w3) (.cells zs 2));clear MK HMO O1 q0 q16 y16 z16 W0;generalize w3.alloc (.cells zs 2)=W2 at *;obtain⟨B,hB⟩:∃ B,w3.heap.size=B:=⟨_,rfl⟩;have HBE:=za hB;have HBW:=za (show w.heap.size<=B from hB ▸ B3.out.size);rw[hB]at HO1;simp only[hB];clear hB
 go_loopg [32] W (λr i wr=>∃ k:Nat,k+r=W/\i=.int .i64 (k:Int)/\OwnI .i64 2 wr w.heap.size (.slice (some ⟨B,0,none⟩) M M) (zbH (zhh c E (k*C)) M)/\Below w3.heap.size w3 wr)
 case atStart=>exact⟨0,by omega,rfl,by rw[Nat.zero_mul];exact HO1.out,HB1.out⟩
 case round =>
  clear HO1 HB1;obtain⟨k,hk,rfl,ho,hb⟩:=hrel;have HO:=za ho;have HB:=za hb;have HK:=za hk;clear ho hb hk;obtain⟨G0,hG⟩:∃ G0,G0=gk:=⟨_,rfl⟩;subst hG
  by_cases hlt:k<W
  ·obtain⟨ad,cap,d0,d1,dr,-⟩:=HCO.out k hlt;obtain⟨d,m,hd,hm,dm,dm1⟩:=HSP.out k hlt;have HD:=za hd;have HMM:=za hm;have HPK:=za (λch t (ht:t<=m)=>HPI.out k ch t hlt (by rw[hm];exact ht));have HSK:=za (λch t=>HST.out k ch t);rw[hd]at d0 HSK;rw[hm]at d1;have bw:Below w.heap.size w wr:=bt B3.out HB.out;obtain⟨tb,tof,rfl,ctb⟩:=dr.get (show 0<_ by rw[hm];exact dm1);have HTB:=za (show(some tb:Option Nat)≠some B from λe=>by have:=Option.some.inj e;have:=ze ctb;have:=HBW.out;omega);have HQB:=za (show(some wr.heap.size:Option Nat)≠some B from λe=>by have:=Option.some.inj e;have:=HO.out.lt B rfl;omega);have HDR:=za (dr.below bw);have x0:=cb bw (ze d0) d0;have x1:=cb bw (ze d1) d1;have HNX:=za (λch (hc:ch<C)=>HSN.out k ch hlt hc);obtain⟨ts,hts⟩:∃ ts,(zf c.S.lx (c.x0+k)).2=ts:=⟨_,rfl⟩;rw[hts]at HDR HMM HSK HNX;rw[HMM.out]at HNX;have L6:=za (show(wr.alloc (.cells #[.int .i64 (d:Int),.slice (some ⟨tb,tof,none⟩) m cap] 145)).cell? ⟨wr.heap.size,0,none⟩=some (.int .i64 (d:Int))/\(wr.alloc (.cells #[.int .i64 (d:Int),.slice (some ⟨tb,tof,none⟩) m cap] 145)).cell? ⟨wr.heap.size,1,none⟩=some (.slice (some ⟨tb,tof,none⟩) m cap) by constructor<;>simp);have B6:=za (zg wr (.cells #[.int .i64 (d:Int),.slice (some ⟨tb,tof,none⟩) m cap] 145));have HO6:=za (HO.out.below B6.out);have x16:=cb bw (ze X16.out) X16.out;clear hd hm d0 d1 dr bw hts ctb
   go_upto_region 7 with fail
   obtain⟨V6,hV6⟩:∃ V6,wr.alloc (.cells #[.int .i64 (d:Int),.slice (some ⟨tb,tof,none⟩) m cap] 145)=V6:=⟨_,rfl⟩;rw[hV6]at L6 B6 HO6 ⊢;obtain⟨Q6,hQ6⟩:∃ Q6,wr.heap.size=Q6:=⟨_,rfl⟩;rw[hQ6]at L6 HQB ⊢;have HQ6:=za (show Q6<V6.heap.size from ze L6.out.1);clear hV6 hQ6 x0 x1 x16;have B36:=za (show Below w3.heap.size w3 V6 from bt HB.out B6.out);go_wp2
   go_loopg [38] C (λr i wq=>∃ ch:Nat,ch+r=C/\i=.int .i64 (ch:Int)/\OwnI .i64 2 wq w.heap.size (.slice (some ⟨B,0,none⟩) M M) (zbH (zhh c E (k*C+ch)) M)/\Below w3.heap.size w3 wq/\V6.grownBy wq (some B))
   case atStart=>exact⟨0,by omega,rfl,HO6.out,B36.out,zbi _ _⟩
   case round =>
    obtain⟨ch,hch,rfl,ho,hb,hg⟩:=hrel;have HO2:=za ho;have HB2:=za hb;have HG2:=za hg;have HQ:=za hch;clear ho hb hg hch;obtain⟨G2,hG2⟩:∃ G2,G2=gk:=⟨_,rfl⟩;subst hG2
    by_cases hlt2:ch<C
    ·have nQ:=HQB.out;have l0:=cg HG2.out nQ L6.out.1;have l1:=cg HG2.out nQ L6.out.2;obtain⟨WQ,hWQ⟩:∃ WQ,WQ=wr:=⟨_,rfl⟩;subst hWQ;go_wp2
     go_loopg [9,44] m (λr s i wq=>∃ t:Nat,t+r=m/\i=.int .i64 (t:Int)/\s=.int .i64 (zem c E k ch t)/\WQ=wq)
     case atStart=>exact⟨0,by omega,rfl,rfl,rfl⟩
     case round =>
      obtain⟨t,ht,rfl,rfl,rfl⟩:=hrel;have HT:=za ht;clear ht
      by_cases hlt3:t<m
      ·have a1:=HPK.out ch t (by omega);have a2:=HPK.out ch (t+1) (by omega);have a3:=HSK.out ch t;rw[Int.toNat_natCast]at a3;have hix:(d+t)*C+ch<cn*C:=zhY (by omega) hlt2;rw[HN.out]at hix;have ce:=(HR3.out.below HB2.out).at (show(d+t)*C+ch<_ by rw[HLEN.out];exact hix);rw[HAT.out _ hix,Nat.zero_add]at ce;rw[Nat.add_mul]at ce hix;have cu:=((HDR.out.below B6.out).grown HG2.out HTB.out).at (show t<ts.length by rw[HMM.out];exact hlt3);have se:=HSI.out (d*C+t*C+ch);obtain⟨V,hV⟩:∃ V,zfc c E (d*C+t*C+ch)=V:=⟨_,rfl⟩;rw[hV]at ce se a3;obtain⟨A,hA⟩:∃ A,ts.getD t 0=A:=⟨_,rfl⟩;rw[hA]at cu a3;obtain⟨X,hX⟩:∃ X,zem c E k ch t=X:=⟨_,rfl⟩;obtain⟨Y,hY⟩:∃ Y,zem c E k ch (t+1)=Y:=⟨_,rfl⟩;have HY:=za hY;rw[hX,hY]at a3;rw[hX]at a1;rw[hY]at a2;rw[hX];obtain⟨PR,hPR⟩:∃ PR,A*V=PR:=⟨_,rfl⟩;rw[hPR]at a3;have E1:wrap64 (A*V)=PR:=by rw[hPR];exact zfB (by omega) (by omega)
       have E2:wrap64 (X+PR)=Y:=by rw[←a3];exact zfB (by omega) (by omega)
       have hq4:d*C+t*C+ch<=4294967296:=zqS hix N3.out;have M1:=zgG (a:=d+t) (b:=C) (Nat.add_mul d t C) (Nat.le_trans (Nat.le_add_right _ ch) hq4);rw[Int.natCast_add]at M1;have M2:=zjH (a:=d*C+t*C) (b:=ch) rfl hq4;generalize hixx:d*C+t*C+ch=ix at *;generalize d*C+t*C=dt at *;clear a1 a2 a3 hV hA hX hY hPR se hixx hq4;go_wp2
       go_roundg (gk-1)
       case measure=>have:=HT.out;omega
       case rel=>exact⟨t+1,by have:=HT.out;omega,by go_num,by rw[HY.out,E2],rfl⟩
      ·obtain rfl:m=t:=by have:=HT.out;omega
       have hp:=zhY hlt hlt2;rw[HM.out]at hp;have LP:=zd3 (L:=zhh c E (k*C+ch)) (n:=M) (by rw[zi7];omega);have z5:=HO2.out.frozenAt LP (k*C+ch);have z6:=HO2.out.cellAt LP hp;have hq4:k*C+ch<=4294967296:=zqS hp M3'.out;have M1:=zgG (a:=k) (b:=C) rfl (Nat.le_trans (Nat.le_add_right _ ch) hq4);have M2:=zjH (a:=k*C) (b:=ch) rfl hq4;have ST:=HO2.out.stored LP (k*C+ch) (zem c E k ch m);rw[zdA (zi7 c E (k*C+ch)) hp,HNX.out ch hlt2]at ST;have H5:=za (And.intro ST (zn WQ B (k*C+ch) (.int .i64 (zem c E k ch m))));obtain⟨X,hX⟩:∃ X,zem c E k ch m=X:=⟨_,rfl⟩;rw[hX]at H5 ⊢;generalize hmm:k*C+ch=pl at *;generalize k*C=kc at *;have HMQ:=za hmm;obtain⟨z,hz⟩:∃ z,(zbH (zhh c E pl) M).getD pl 0=z:=⟨_,rfl⟩;rw[hz]at z6;clear ST LP hX hlt3 hmm hq4 hz;go_wp2
       go_roundg (G2-1)
       case measure=>have:=HQ.out;omega
       case rel=>exact⟨ch+1,by have:=HQ.out;omega,by go_num,by rw[←Nat.add_assoc,HMQ.out];exact H5.out.1,HB2.out.grown H5.out.2 HB2.out.size (λj hj=>Nat.le_of_eq (HBE.out.trans (Option.some.inj hj))),HG2.out.trans H5.out.2⟩
    ·obtain rfl:C=ch:=by have:=HQ.out;omega
     have e:=Nat.succ_mul k C;have OO:=HO2.out;rw[←e]at OO;have HOO:=za OO;clear OO e hlt2;go_wp2
     go_roundg (G0-1)
     case measure=>have:=HK.out;omega
     case rel=>exact⟨k+1,by have:=HK.out;omega,by go_num,HOO.out,HB2.out⟩
  ·obtain rfl:W=k:=by have:=HK.out;omega
   have OO:=HO.out;rw[HM.out,zcL (zi7 c E M)]at OO;have HOO:=za OO;clear OO hlt;go_wp2;go_ret;exact⟨_,rfl,HOO.out,bt B3.out HB.out⟩
theorem zmu {a c:Int} (a0 : -9223372036854775808<=a) (a1:a<=9223372036854775807) (c0 : -9223372036854775808<=c) (c1:c<=9223372036854775807) :
  lo (IntKind.u64.wrap a*IntKind.u64.wrap c)=lo (a*c)/\(hi (IntKind.u64.wrap a*IntKind.u64.wrap c)-(if a<0 then IntKind.u64.wrap c else 0)-(if c<0 then IntKind.u64.wrap a else 0)) % 18446744073709551616=hi (a*c) % 18446744073709551616:=by
 have ea:IntKind.u64.wrap a=a+(if a<0 then 1 else 0)*18446744073709551616:=by rw[IntKind.wrap_u64];split<;>omega
 have ec:IntKind.u64.wrap c=c+(if c<0 then 1 else 0)*18446744073709551616:=by rw[IntKind.wrap_u64];split<;>omega
 by_cases ha:a<0<;>by_cases hc:c<0
 all_goals
  simp only[ha,hc,if_true,if_false]at ea ec ⊢;rw[ea,ec];have e:∀ s t:Int,(a+s*18446744073709551616)*(c+t*18446744073709551616)=a*c+(s*c+t*a+s*t*18446744073709551616)*18446744073709551616:=by intro s t;grind
  rw[e];generalize a*c=p;unfold lo hi;omega
def TotAt (w:World) (b:Nat) (X:Int):Prop :=
 (w.cell? ⟨b,0,none⟩=some (.int .u64 (hi X % 18446744073709551616))/\w.frozen? ⟨b,0,none⟩=false)/\w.cell? ⟨b,1,none⟩=some (.int .u64 (lo X))/\w.frozen? ⟨b,1,none⟩=false
theorem TotAt.below {w w':World} {b:Nat} {X:Int} (h:TotAt w b X) (hb:Below w.heap.size w w'):TotAt w' b X:=by
 obtain⟨⟨c0,f0⟩,c1,f1⟩:=h;have hl:=ze c0;exact⟨⟨cb hb hl c0,fb hb hl f0⟩,cb hb hl c1,fb hb hl f1⟩
theorem TotAt.new (w:World) (T:TypeId):TotAt (w.alloc (.cells #[.int .u64 0,.int .u64 0] T)) w.heap.size 0:=by
 have e0:hi 0 % 18446744073709551616=0:=rfl;have e1:lo 0=0:=rfl;unfold TotAt;rw[e0,e1]
 simp
theorem zo0 (X P:Int):(lo X+lo P) % 18446744073709551616=lo (X+P)/\(hi X % 18446744073709551616+hi P % 18446744073709551616+(lo X+lo P) / 18446744073709551616) % 18446744073709551616=hi (X+P) % 18446744073709551616:=by
 unfold lo hi;omega
theorem zjq (A C H L:Int) (hH:hi (A*C)=H) (hL:lo (A*C)=L) (a0:0<=A) (a1:A<18446744073709551616) (c0:0<=C) (c1:C<18446744073709551616) (w:World) :
  Calls Tryz.prog 128 #[.int .u64 A,.int .u64 C] w λe w'=>e=.returned (.tuple #[.int .u64 H,.int .u64 L])/\w=w':=by
 subst hH hL;exact zhx _ _ a0 a1 c0 c1 w
set_option maxHeartbeats 2000000 in
set_option maxRecDepth 100000 in
theorem zwR (a c:Int) (a0 : -9223372036854775808<=a) (a1:a<=9223372036854775807) (c0 : -9223372036854775808<=c) (c1:c<=9223372036854775807) (b:Nat) (X:Int) (w:World) (h:TotAt w b X) :
  Calls Tryz.prog 154 #[.pointer (some ⟨b,0,none⟩),.int .i64 a,.int .i64 c] w λe w'=>e=.returned (.tuple #[])/\TotAt w' b (X+a*c)/\w.grownBy w' (some b):=by
 obtain⟨e1,e2⟩:=zmu a0 a1 c0 c1;have ua:0<=IntKind.u64.wrap a/\IntKind.u64.wrap a<18446744073709551616:=by rw[IntKind.wrap_u64];omega
 have uc:0<=IntKind.u64.wrap c/\IntKind.u64.wrap c<18446744073709551616:=by rw[IntKind.wrap_u64];omega
 obtain⟨A,hA⟩:∃ A,IntKind.u64.wrap a=A:=⟨_,rfl⟩;obtain⟨C,hC⟩:∃ C,IntKind.u64.wrap c=C:=⟨_,rfl⟩;rw[hA]at ua;rw[hC]at uc;rw[hA,hC]at e1 e2;obtain⟨ua0,ua1⟩:=ua;obtain⟨uc0,uc1⟩:=uc;obtain⟨H,hH⟩:∃ H,hi (A*C)=H:=⟨_,rfl⟩;obtain⟨L,hL⟩:∃ L,lo (A*C)=L:=⟨_,rfl⟩;have CM:=λw=>zjq A C H L hH hL ua0 ua1 uc0 uc1 w
 have l0:0<=L:=by rw[←hL];exact lo0 _
 have l1:L<18446744073709551616:=by rw[←hL];exact lo1 _
 have h0:0<=H/\H<18446744073709551616:=by
  rw[←hH];have p0:=Int.mul_nonneg ua0 uc0;have p1:A*C<=18446744073709551615*18446744073709551615:=Int.mul_le_mul (by omega) (by omega) uc0 (by omega);unfold hi;omega
 obtain⟨h0,h1⟩:=h0;rw[hH]at e2;rw[hL]at e1;obtain⟨c0',f0⟩:=h.1;obtain⟨c1',f1⟩:=h.2;obtain⟨t1,t2⟩:=zo0 X (a*c);rw[←e1]at t1 t2;have x0:=lo0 X;have A1:=za (λw=>zbz (lo X) L 0 x0 l0 (by omega) (by omega) w);have P:=za (show ∀ R1 R2:Int,R1=lo (X+a*c)->R2=hi (X+a*c) % 18446744073709551616->TotAt ((w.setCell ⟨b,1,none⟩ (.int .u64 R1)).setCell ⟨b,0,none⟩ (.int .u64 R2)) b (X+a*c)/\w.grownBy ((w.setCell ⟨b,1,none⟩ (.int .u64 R1)).setCell ⟨b,0,none⟩ (.int .u64 R2)) (some b) from by
  intro R1 R2 r1 r2;subst r1 r2;refine⟨⟨⟨?_,by simpa using f0⟩,?_,by simpa using f1⟩,(zn w b 1 _).trans (zn _ b 0 _)⟩
  ·exact World.cell?_setCell_same' _ _ _ (by rw[World.cell?_setCell_other _ _ _ _ (by intro e;simp at e),c0'];rfl)
  ·rw[World.cell?_setCell_other _ _ _ _ (by intro e;simp at e)];exact World.cell?_setCell_same' _ _ _ (by rw[c1'];rfl))
 have hx0:0<=hi X % 18446744073709551616:=by omega
 have hx1:lo X<18446744073709551616:=lo1 X;generalize hi X % 18446744073709551616=HX at *;generalize lo X=LX at *;generalize X+a*c=Y at *;generalize a*c=PR at *;clear h e1 hH hL a0 a1 c0 c1
 by_cases ha:a<0<;>by_cases hc:c<0
 all_goals
  simp only[ha,hc,if_true,if_false]at e2
 ·obtain⟨H1,hH1⟩:∃ H1,IntKind.u64.wrap (H-C)=H1:=⟨_,rfl⟩;have d1:H1=(H-C) % 18446744073709551616:=by rw[←hH1,IntKind.wrap_u64]
  obtain⟨H2,hH2⟩:∃ H2,IntKind.u64.wrap (H1-A)=H2:=⟨_,rfl⟩;have d2:H2=(H1-A) % 18446744073709551616:=by rw[←hH2,IntKind.wrap_u64]
  have A2:=za (λw=>zbz HX H2 ((LX+L) / 18446744073709551616) hx0 (by omega) (by omega) (by omega) w);have F:=za (P.out _ _ t1 (show(HX+H2+(LX+L) / 18446744073709551616) % 18446744073709551616=_ by rw[←t2];omega));clear e2 t1 t2 P d1 d2
  go_enter Tryz.func154,Tryz.ntmps154
  go_wp2_with (first|(go_at_call 128;(with_reducible refine(CM _).mono ?_);rintro e w1 ⟨rfl,rfl⟩)|simp only[A1.out]|simp only[A2.out])
  go_end0
  exact⟨rfl,F.out⟩
 ·obtain⟨H1,hH1⟩:∃ H1,IntKind.u64.wrap (H-C)=H1:=⟨_,rfl⟩;have d1:H1=(H-C) % 18446744073709551616:=by rw[←hH1,IntKind.wrap_u64]
  have A2:=za (λw=>zbz HX H1 ((LX+L) / 18446744073709551616) hx0 (by omega) (by omega) (by omega) w);have F:=za (P.out _ _ t1 (show(HX+H1+(LX+L) / 18446744073709551616) % 18446744073709551616=_ by rw[←t2];omega));clear e2 t1 t2 P d1
  go_enter Tryz.func154,Tryz.ntmps154
  go_wp2_with (first|(go_at_call 128;(with_reducible refine(CM _).mono ?_);rintro e w1 ⟨rfl,rfl⟩)|simp only[A1.out]|simp only[A2.out])
  go_end0
  exact⟨rfl,F.out⟩
 ·obtain⟨H2,hH2⟩:∃ H2,IntKind.u64.wrap (H-A)=H2:=⟨_,rfl⟩;have d2:H2=(H-A) % 18446744073709551616:=by rw[←hH2,IntKind.wrap_u64]
  have A2:=za (λw=>zbz HX H2 ((LX+L) / 18446744073709551616) hx0 (by omega) (by omega) (by omega) w);have F:=za (P.out _ _ t1 (show(HX+H2+(LX+L) / 18446744073709551616) % 18446744073709551616=_ by rw[←t2];omega));clear e2 t1 t2 P d2
  go_enter Tryz.func154,Tryz.ntmps154
  go_wp2_with (first|(go_at_call 128;(with_reducible refine(CM _).mono ?_);rintro e w1 ⟨rfl,rfl⟩)|simp only[A1.out]|simp only[A2.out])
  go_end0
  exact⟨rfl,F.out⟩
 ·have A2:=za (λw=>zbz HX H ((LX+L) / 18446744073709551616) hx0 (by omega) (by omega) (by omega) w);have F:=za (P.out _ _ t1 (show(HX+H+(LX+L) / 18446744073709551616) % 18446744073709551616=_ by rw[←t2];omega));clear e2 t1 t2 P
  go_enter Tryz.func154,Tryz.ntmps154
  go_wp2_with (first|(go_at_call 128;(with_reducible refine(CM _).mono ?_);rintro e w1 ⟨rfl,rfl⟩)|simp only[A1.out]|simp only[A2.out])
  go_end0
  exact⟨rfl,F.out⟩
theorem zua (b:Nat) (X:Int) (w:World) (h:TotAt w b X) (x0 : -9223372036854775808<=X) (x1:X<=9223372036854775807) :
  Calls Tryz.prog 155 #[.pointer (some ⟨b,0,none⟩)] w λe w'=>e=.returned (.int .i64 X)/\w=w':=by
 obtain⟨⟨c0,_⟩,c1,_⟩:=h
 by_cases g:0<=X
 ·rw[show hi X % 18446744073709551616=0 by unfold hi;omega]at c0;rw[show lo X=X by unfold lo;omega]at c1;have e1:X / 9223372036854775808=0:=by omega
  go_enter Tryz.func155,Tryz.ntmps155
  go_wp2;go_ret;exact⟨rfl,rfl⟩
 ·rw[show hi X % 18446744073709551616=18446744073709551615 by unfold hi;omega]at c0;rw[show lo X=X+18446744073709551616 by unfold lo;omega]at c1;have e0:IntKind.i64.wrap (X+18446744073709551616)=X:=by rw[IntKind.wrap_i64];omega
  have e1:X / 9223372036854775808 = -1:=by omega
  have e2:wrap64 18446744073709551615 = -1:=by unfold wrap64;omega
  go_enter Tryz.func155,Tryz.ntmps155
  go_wp2;go_ret;exact⟨rfl,rfl⟩
def Tot2 (w:World) (b o:Nat) (X:Int):Prop :=
 (w.cell? ⟨b,o,none⟩=some (.int .u64 (hi X % 18446744073709551616))/\w.frozen? ⟨b,o,none⟩=false)/\w.cell? ⟨b,o+1,none⟩=some (.int .u64 (lo X))/\w.frozen? ⟨b,o+1,none⟩=false
theorem Tot2.grown {w w':World} {b o:Nat} {X:Int} {r:Option Nat} (h:Tot2 w b o X) (hg:w.grownBy w' r) (hn:some b≠r):Tot2 w' b o X:=by
 obtain⟨⟨c0,f0⟩,c1,f1⟩:=h;exact⟨⟨cg hg hn c0,fg hg hn c0 f0⟩,cg hg hn c1,fg hg hn c1 f1⟩
theorem Tot2.below {w w':World} {b o:Nat} {X:Int} (h:Tot2 w b o X) (hb:Below w.heap.size w w'):Tot2 w' b o X:=by
 obtain⟨⟨c0,f0⟩,c1,f1⟩:=h;have hl:=ze c0;exact⟨⟨cb hb hl c0,fb hb hl f0⟩,cb hb hl c1,fb hb hl f1⟩
def TotEnd (w w':World) (b o:Nat):Prop:=w.grownBy w' (some b)/\(∀ j,j≠o->j≠o+1->w'.cell? ⟨b,j,none⟩=w.cell? ⟨b,j,none⟩)/\∀ j,w'.frozen? ⟨b,j,none⟩=w.frozen? ⟨b,j,none⟩
theorem zpb {c:Int} (c0:0<=c) (c1:c<18446744073709551616):bits .and .u64 18446744073709551615 c=c:=by
 rw[u64_and _ _ (by decide) (by decide) c0 c1];have e:(18446744073709551615:Int).toNat=2 ^ 64-1:=by decide
 rw[e,Nat.and_comm,Nat.and_two_pow_sub_one_eq_mod];omega
theorem znp {c:Int} (c0:0<=c) (c1:c<18446744073709551616):bits .and .u64 0 c=0:=by
 rw[u64_and _ _ (by decide) (by decide) c0 c1]
 simp
set_option maxHeartbeats 2000000 in
set_option maxRecDepth 100000 in
theorem zvp (a c:Int) (a0 : -9223372036854775808<=a) (a1:a<=9223372036854775807) (c0 : -9223372036854775808<=c) (c1:c<=9223372036854775807) (b o:Nat) (X:Int) (w:World) (h:Tot2 w b o X) :
  Calls Tryz.prog 92 #[.pointer (some ⟨b,o,none⟩),.int .i64 a,.int .i64 c] w λe w'=>e=.returned (.tuple #[])/\Tot2 w' b o (X+a*c)/\TotEnd w w' b o:=by
 obtain⟨e1,e2⟩:=zmu a0 a1 c0 c1;have ua:0<=IntKind.u64.wrap a/\IntKind.u64.wrap a<18446744073709551616:=by rw[IntKind.wrap_u64];omega
 have uc:0<=IntKind.u64.wrap c/\IntKind.u64.wrap c<18446744073709551616:=by rw[IntKind.wrap_u64];omega
 obtain⟨A,hA⟩:∃ A,IntKind.u64.wrap a=A:=⟨_,rfl⟩;obtain⟨C,hC⟩:∃ C,IntKind.u64.wrap c=C:=⟨_,rfl⟩;rw[hA]at ua;rw[hC]at uc;rw[hA,hC]at e1 e2;obtain⟨ua0,ua1⟩:=ua;obtain⟨uc0,uc1⟩:=uc;obtain⟨H,hH⟩:∃ H,hi (A*C)=H:=⟨_,rfl⟩;obtain⟨L,hL⟩:∃ L,lo (A*C)=L:=⟨_,rfl⟩;have CM:=λw=>zjq A C H L hH hL ua0 ua1 uc0 uc1 w
 have l0:0<=L:=by rw[←hL];exact lo0 _
 have l1:L<18446744073709551616:=by rw[←hL];exact lo1 _
 have h0:0<=H/\H<18446744073709551616:=by
  rw[←hH];have p0:=Int.mul_nonneg ua0 uc0;have p1:A*C<=18446744073709551615*18446744073709551615:=Int.mul_le_mul (by omega) (by omega) uc0 (by omega);unfold hi;omega
 obtain⟨h0,h1⟩:=h0;rw[hH]at e2;rw[hL]at e1;obtain⟨c0',f0⟩:=h.1;obtain⟨c1',f1⟩:=h.2;obtain⟨t1,t2⟩:=zo0 X (a*c);rw[←e1]at t1 t2;have x0:=lo0 X;have A1:=za (λw=>zbz (lo X) L 0 x0 l0 (by omega) (by omega) w);have P:=za (show ∀ R1 R2:Int,R1=lo (X+a*c)->R2=hi (X+a*c) % 18446744073709551616->Tot2 ((w.setCell ⟨b,o+1,none⟩ (.int .u64 R1)).setCell ⟨b,o,none⟩ (.int .u64 R2)) b o (X+a*c)/\TotEnd w ((w.setCell ⟨b,o+1,none⟩ (.int .u64 R1)).setCell ⟨b,o,none⟩ (.int .u64 R2)) b o from by
  intro R1 R2 r1 r2;subst r1 r2;refine⟨⟨⟨?_,by simpa using f0⟩,?_,by simpa using f1⟩,(zn w b (o+1) _).trans (zn _ b o _),λj h1 h2=>?_,λj=>by simp⟩
  ·exact World.cell?_setCell_same' _ _ _ (by rw[World.cell?_setCell_other _ _ _ _ (by intro e;simp at e),c0'];rfl)
  ·rw[World.cell?_setCell_other _ _ _ _ (by intro e;simp at e)];exact World.cell?_setCell_same' _ _ _ (by rw[c1'];rfl)
  ·rw[World.cell?_setCell_other _ _ _ _ (by intro e;simp only[Addr.mk.injEq,and_true]at e;omega),World.cell?_setCell_other _ _ _ _ (by intro e;simp only[Addr.mk.injEq,and_true]at e;omega)])
 have hx0:0<=hi X % 18446744073709551616:=by omega
 have hx1:lo X<18446744073709551616:=lo1 X;generalize hi X % 18446744073709551616=HX at *;generalize lo X=LX at *;generalize X+a*c=Y at *;generalize a*c=PR at *;have k1:=zpb ua0 ua1;have k2:=znp ua0 ua1;have k3:=zpb uc0 uc1;have k4:=znp uc0 uc1;have m1:IntKind.u64.wrap (-1)=18446744073709551615:=by decide
 clear h e1 hH hL
 by_cases ha:a<0<;>by_cases hc:c<0
 all_goals
  simp only[ha,hc,if_true,if_false]at e2
 ·have s1:a / 9223372036854775808 = -1:=by omega
  have s2:c / 9223372036854775808 = -1:=by omega
  clear a0 a1 c0 c1;obtain⟨D,hD⟩:∃ D,IntKind.u64.wrap (C+A)=D:=⟨_,rfl⟩;have d0:D=(C+A) % 18446744073709551616:=by rw[←hD,IntKind.wrap_u64]
  obtain⟨H2,hH2⟩:∃ H2,IntKind.u64.wrap (H-D)=H2:=⟨_,rfl⟩;have d2:H2=(H-D) % 18446744073709551616:=by rw[←hH2,IntKind.wrap_u64]
  have A2:=za (λw=>zbz HX H2 ((LX+L) / 18446744073709551616) hx0 (by omega) (by omega) (by omega) w);have F:=za (P.out _ _ t1 (show(HX+H2+(LX+L) / 18446744073709551616) % 18446744073709551616=_ by rw[←t2];omega));clear e2 t1 t2 P d0 d2 k2 k4 ha hc
  go_enter Tryz.func92,Tryz.ntmps92
  go_wp2_with (first|(go_at_call 128;(with_reducible refine(CM _).mono ?_);rintro e w1 ⟨rfl,rfl⟩)|simp only[A1.out]|simp only[A2.out])
  go_end0
  exact⟨rfl,F.out⟩
 ·have s1:a / 9223372036854775808 = -1:=by omega
  have s2:c / 9223372036854775808=0:=by omega
  clear a0 a1 c0 c1;obtain⟨H2,hH2⟩:∃ H2,IntKind.u64.wrap (H-C)=H2:=⟨_,rfl⟩;have d2:H2=(H-C) % 18446744073709551616:=by rw[←hH2,IntKind.wrap_u64]
  have A2:=za (λw=>zbz HX H2 ((LX+L) / 18446744073709551616) hx0 (by omega) (by omega) (by omega) w);have F:=za (P.out _ _ t1 (show(HX+H2+(LX+L) / 18446744073709551616) % 18446744073709551616=_ by rw[←t2];omega));clear e2 t1 t2 P d2 ha hc
  go_enter Tryz.func92,Tryz.ntmps92
  go_wp2_with (first|(go_at_call 128;(with_reducible refine(CM _).mono ?_);rintro e w1 ⟨rfl,rfl⟩)|simp only[A1.out]|simp only[A2.out])
  go_end0
  exact⟨rfl,F.out⟩
 ·have s1:a / 9223372036854775808=0:=by omega
  have s2:c / 9223372036854775808 = -1:=by omega
  clear a0 a1 c0 c1;obtain⟨H2,hH2⟩:∃ H2,IntKind.u64.wrap (H-A)=H2:=⟨_,rfl⟩;have d2:H2=(H-A) % 18446744073709551616:=by rw[←hH2,IntKind.wrap_u64]
  have A2:=za (λw=>zbz HX H2 ((LX+L) / 18446744073709551616) hx0 (by omega) (by omega) (by omega) w);have F:=za (P.out _ _ t1 (show(HX+H2+(LX+L) / 18446744073709551616) % 18446744073709551616=_ by rw[←t2];omega));clear e2 t1 t2 P d2 ha hc
  go_enter Tryz.func92,Tryz.ntmps92
  go_wp2_with (first|(go_at_call 128;(with_reducible refine(CM _).mono ?_);rintro e w1 ⟨rfl,rfl⟩)|simp only[A1.out]|simp only[A2.out])
  go_end0
  exact⟨rfl,F.out⟩
 ·have s1:a / 9223372036854775808=0:=by omega
  have s2:c / 9223372036854775808=0:=by omega
  clear a0 a1 c0 c1;have A2:=za (λw=>zbz HX H ((LX+L) / 18446744073709551616) hx0 (by omega) (by omega) (by omega) w);have F:=za (P.out _ _ t1 (show(HX+H+(LX+L) / 18446744073709551616) % 18446744073709551616=_ by rw[←t2];omega));clear e2 t1 t2 P ha hc
  go_enter Tryz.func92,Tryz.ntmps92
  go_wp2_with (first|(go_at_call 128;(with_reducible refine(CM _).mono ?_);rintro e w1 ⟨rfl,rfl⟩)|simp only[A1.out]|simp only[A2.out])
  go_end0
  exact⟨rfl,F.out⟩
theorem zsK (b o:Nat) (X:Int) (w:World) (h:Tot2 w b o X) (x0 : -9223372036854775808<=X) (x1:X<=9223372036854775807) :
  Calls Tryz.prog 94 #[.pointer (some ⟨b,o,none⟩)] w λe w'=>e=.returned (.int .i64 X)/\w=w':=by
 obtain⟨⟨c0,_⟩,c1,_⟩:=h
 by_cases g:0<=X
 ·rw[show hi X % 18446744073709551616=0 by unfold hi;omega]at c0;rw[show lo X=X by unfold lo;omega]at c1;have e1:X / 9223372036854775808=0:=by omega
  go_enter Tryz.func94,Tryz.ntmps94
  go_wp2;go_ret;exact⟨rfl,rfl⟩
 ·rw[show hi X % 18446744073709551616=18446744073709551615 by unfold hi;omega]at c0;rw[show lo X=X+18446744073709551616 by unfold lo;omega]at c1;have e0:IntKind.i64.wrap (X+18446744073709551616)=X:=by rw[IntKind.wrap_i64];omega
  have e1:X / 9223372036854775808 = -1:=by omega
  have e2:wrap64 18446744073709551615 = -1:=by unfold wrap64;omega
  go_enter Tryz.func94,Tryz.ntmps94
  go_wp2;go_ret;exact⟨rfl,rfl⟩
set_option maxHeartbeats 2000000 in
theorem zs4 {w:World} {base r jb rb rc:Nat} {S:Nat->Prop} {room width:Nat} {L:List (Int×List Int)} (R:RingAt w base r S room width L) (c17:w.cell? ⟨jb,17,none⟩=some (.slice (some ⟨rb,0,none⟩) 1 rc)) (cr:w.cell? ⟨rb,0,none⟩=some (.pointer (some ⟨r,0,none⟩))) :
  Calls Tryz.prog 88 #[.pointer (some ⟨jb,17,none⟩)] w λe w'=>e=.returned (.int .i64 (room:Int))/\w=w':=by
 have C:=zhG R;have r2:=R.ok.r2;clear R
 go_enter Tryz.func88,Tryz.ntmps88
 go_wp2
 go_loopg [3,11] 1 (λg s i wr=>∃ k:Nat,k+g=1/\i=.int .i64 (k:Int)/\s=.int .i64 (if k=0 then 0 else(room:Int))/\w=wr)
 case atStart=>exact⟨0,rfl,rfl,rfl,rfl⟩
 case round =>
  obtain⟨k,hk,rfl,rfl,rfl⟩:=hrel
  by_cases h0:k=0
  ·subst h0
   go_wp2_with (go_at_call 85;(with_reducible refine C.mono ?_);rintro e w1 ⟨rfl,rfl⟩)
   go_roundg 0
   case measure=>omega
   case rel=>exact⟨1,rfl,rfl,by simp,rfl⟩
  ·obtain rfl:k=1:=by omega
   go_wp2;go_ret;exact⟨by simp,rfl⟩
set_option maxHeartbeats 2000000 in
theorem ztS {w:World} {base r jb rb rc:Nat} {S:Nat->Prop} {room width:Nat} {L:List (Int×List Int)} {j:Int} (h1 : -9223372036854775808<=j) (h2:j<=9223372036854775807) (R:RingAt w base r S room width L) (hj:zbu L j=true) (c17:w.cell? ⟨jb,17,none⟩=some (.slice (some ⟨rb,0,none⟩) 1 rc)) (cr:w.cell? ⟨rb,0,none⟩=some (.pointer (some ⟨r,0,none⟩))) :
  Calls Tryz.prog 91 #[.pointer (some ⟨jb,17,none⟩),.int .i64 j] w λe w'=>∃ v,e=.returned v/\OwnI .i64 2 w' w.heap.size v (zdR L j)/\Below w.heap.size w w':=by
 have C:=zvR h1 h2 R;rw[hj]at C;clear R
 go_enter Tryz.func91,Tryz.ntmps91
 go_wp2
 go_loopw [14] (λi wr=>i=.int .i64 0/\w=wr) (λ_ _=>0)
 case atStart=>exact⟨rfl,rfl⟩
 case round =>
  obtain⟨rfl,rfl⟩:=hrel
  go_wp2_with (go_at_call 127;(with_reducible refine C.mono ?_);rintro e w1 ⟨v,rfl,o1,b1⟩;obtain⟨ad,cap,rfl,_,_⟩:=o1.formn rfl;have HO:=za o1;have HB:=za b1;clear o1 b1)
  go_ret;exact⟨_,rfl,HO.out,HB.out⟩
def zqX (w:World) (base r jb:Nat) (S:Nat->Prop) (room width:Nat) (L:List (Int×List Int)) (p:Int) (w':World):Prop :=
 ∃ S',RingAt w' base r S' room width L/\Off (λk=>S k\/k=jb) w w'/\(∀ k,S' k->S k\/w.heap.size<=k)/\w'.cell? ⟨jb,18,none⟩=some (.int .i64 (p+1))/\(∀ o u,o≠18->w.cell? ⟨jb,o,none⟩=some u->w'.cell? ⟨jb,o,none⟩=some u)/\∀ o,w.frozen? ⟨jb,o,none⟩=false->w'.frozen? ⟨jb,o,none⟩=false
set_option maxHeartbeats 4000000 in
theorem zuR {w:World} {base r jb rb rc:Nat} {S:Nat->Prop} {room width:Nat} {L:List (Int×List Int)} {j p:Int} {xs:List Int} {cap vb:Nat} (j1 : -9223372036854775808<=j) (j2:j<=9223372036854775807) (R:RingAt w base r S room width L)
  (c17:w.cell? ⟨jb,17,none⟩=some (.slice (some ⟨rb,0,none⟩) 1 rc)) (c18:w.cell? ⟨jb,18,none⟩=some (.int .i64 p)) (p0:0<=p) (p1:p<=4611686018427387904) (f18:w.frozen? ⟨jb,18,none⟩=false) (cr:w.cell? ⟨rb,0,none⟩=some (.pointer (some ⟨r,0,none⟩)))
  (hn:xs.length=width) (hr:RowAt .i64 w (some ⟨vb,0,none⟩) xs) (hS:¬S vb) (hv:vb≠jb) (hjb:¬S jb) (hrb:rb≠jb) (hput:zi8 room width L j width=true) :
  Calls Tryz.prog 50 #[.pointer (some ⟨jb,17,none⟩),.int .i64 j,.slice (some ⟨vb,0,none⟩) width cap] w λe w'=>e=.returned (.tuple #[])/\zqX w base r jb S room width (zfS room L (j,xs)) p w':=by
 have hw:=R.ok.wd;have r1:=R.ok.r1;have r2:=R.ok.r2;have HR:=za R;have HRO:=za hr;have HN:=za hn;have HJ:=za (And.intro j1 j2);have HP:=za hput;obtain⟨tm,htm⟩:∃ tm,p.tmod (room:Int)=tm:=⟨_,rfl⟩;have t0:0<=tm:=by rw[←htm];exact Int.tmod_nonneg _ p0
 have t1:tm<(room:Int):=by rw[←htm,Int.tmod_eq_emod_of_nonneg p0];exact Int.emod_lt_of_pos _ (by omega)
 have t2:p % (room:Int)=tm:=by rw[←htm,Int.tmod_eq_emod_of_nonneg p0]
 have CM:=λq=>zs4 (HR.out.drewN q) (jb:=jb) (rb:=rb) (rc:=rc) c17 cr
 have rne:(room:Int)≠0:=by omega
 have hlt:=ze c18;have OF:=za (λq=>show Off (λk=>k=jb) w ((w.drewN q).setCell ⟨jb,18,none⟩ (.int .i64 (p+1))) from((Off.refl (λk=>k=jb) w).drewN q).set (λ_=>rfl) _);have CEL:=za (λq=>show((w.drewN q).setCell ⟨jb,18,none⟩ (.int .i64 (p+1))).cell? ⟨jb,18,none⟩=some (.int .i64 (p+1)) from World.cell?_setCell_same' _ _ _ (by show((w.cell? ⟨jb,18,none⟩).isSome)=true;rw[c18];rfl));have OTH:=za (λq=>show(∀ o u,o≠18->w.cell? ⟨jb,o,none⟩=some u->((w.drewN q).setCell ⟨jb,18,none⟩ (.int .i64 (p+1))).cell? ⟨jb,o,none⟩=some u)/\∀ o,w.frozen? ⟨jb,o,none⟩=false->((w.drewN q).setCell ⟨jb,18,none⟩ (.int .i64 (p+1))).frozen? ⟨jb,o,none⟩=false from
  ⟨λo u ho hu=>(World.cell?_setCell_other _ _ _ _ (by intro e;simp only[Addr.mk.injEq,and_true]at e;omega)).trans hu,λo ho=>by rw[World.frozen?_setCell];exact ho⟩)
 have HS:=za (And.intro hS (And.intro hv (And.intro hjb hrb)));have CR2:=za (λq=>(OF.out q).cell (show ¬rb=jb from hrb) cr);have C172:=za (λq=>(OTH.out q).1 17 _ (by decide) c17);clear R hr hS hv hjb hrb hput j1 j2 hn
 go_enter Tryz.func50,Tryz.ntmps50
 go_wp2_with fail
 go_quiet ((go_at_call 88;with_reducible exact zcg (CM _)))
 go_upto_region 2 with fail
 have O1:=za (OF.out nq);have K1:=CEL.out nq;have T1:=za (OTH.out nq);have x17:=C172.out nq;have xr:=CR2.out nq;have R1:=za (HR.out.off O1.out (λk hk e=>HS.out.2.2.1 (e ▸ hk)));have V1:=za (O1.out.row HRO.out (λa e=>by obtain rfl:=Option.some.inj e;exact HS.out.2.1));clear OF CEL OTH C172 CR2 CM c17 c18 cr;generalize (w.drewN nq).setCell ⟨jb,18,none⟩ (.int .i64 (p+1))=W1 at *;have KK:=za K1;clear K1;go_wp2
 go_loopw [6,28] (λt i wr=>t=.int .i64 tm/\i=.int .i64 0/\W1=wr) (λ_ _ _=>0)
 case atStart=>exact⟨rfl,rfl,rfl⟩
 case round =>
  obtain⟨rfl,rfl,rfl⟩:=hrel;have CRM:=zhG R1.out;have CP:=zuG (n:=width) (cap:=cap) HJ.out.1 HJ.out.2 R1.out HN.out (by omega) V1.out (λe=>by cases e) (λa e=>by obtain rfl:=Option.some.inj e;exact HS.out.1);rw[HP.out,if_pos rfl]at CP
  go_wp2_with (first
   |(go_at_call 85;(with_reducible refine CRM.mono ?_);rintro e w2 ⟨rfl,rfl⟩)
   |(go_at_call 89;(with_reducible refine CP.mono ?_);rintro e w3 ⟨rfl,S',R3,o3,s3⟩;have HF:=za (And.intro R3 (And.intro o3 s3));clear R3 o3 s3))
  (try simp only[Exit.inBlock,Exit.then])
  refine bodyPost_ret (results_none rfl _ _ _) rfl ?_;obtain⟨R3,o3,s3⟩:=HF.out;refine⟨rfl,S',R3,(O1.out.mono (S':=λk=>S k\/k=jb) (λk _ e=>Or.inr e)).trans o3 (λk _ e=>Or.inl e),λk hk=>?_,o3.cell HS.out.2.2.1 KK.out,λo u ho hu=>o3.cell HS.out.2.2.1 (T1.out.1 o u ho hu),λo ho=>(o3.frozen HS.out.2.2.1 (by have:=O1.out.size;omega)).trans (T1.out.2 o ho)⟩;rcases s3 k hk with q|q
  ·exact Or.inl q
  ·exact Or.inr (Nat.le_trans O1.out.size q)
end Go.Proofs.YtlodkoimdoeopaaGreatDoor
