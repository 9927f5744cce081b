/- Parts, joined. -/
import Derived.Test.YtlodkoimdoeopaaGreatDoorQW02
import Derived.Test.YtlodkoimdoeopaaGreatDoorQ28
import Derived.Test.YtlodkoimdoeopaaGreatDoorQW01
import Derived.Test.YtlodkoimdoeopaaGreatDoorQ30
import Derived.Deep.RegionLaw
import Derived.Deep.AppendLies
import Derived.Deep.RegionHeldLaw
namespace Go.Proofs.YtlodkoimdoeopaaGreatDoor
open Go.RowKit
structure ASt (T:TypeId) (B R2 R3 R4 R9:Nat) (I:Im) (S:Stg) (vm vx vy:Value) (w0 w:World) (v:Value) (L:List Int):Prop where
 own:OwnI .u16 T w B v L
 m5:S5 w R2 (.int .i64 I.iw) (.int .i64 I.ih) (.int .i64 I.ic) (.int .i64 I.it) vm
 s5:S5 w R3 vx vy (.int .i64 S.fx) (.int .i64 S.fy) (.int .i64 S.sb)
 z5:S5 w R4 (.int .i64 0) (.int .i64 0) (.int .i64 0) (.int .i64 0) (.slice none 0 0)
 o5:S5 w R9 (.int .i64 (S.lx.length:Int)) (.int .i64 (S.ly.length:Int)) (.int .i64 I.ic) (.int .i64 I.it) v
 bel:Below w0.heap.size w0 w
 bw:B<=w.heap.size
 r2:R2<R9
 r3:R3<R9
 r4:R4<R9
 w4:w0.heap.size<=R4
 r9:R9<B
 w9:w0.heap.size<=R9
theorem ASt.below {T:TypeId} {B R2 R3 R4 R9:Nat} {I:Im} {S:Stg} {vm vx vy:Value} {w0 w w':World} {v:Value} {L:List Int} (D:ASt T B R2 R3 R4 R9 I S vm vx vy w0 w v L) (hb:Below w.heap.size w w'):ASt T B R2 R3 R4 R9 I S vm vx vy w0 w' v L :=
 ⟨D.own.below hb,D.m5.below hb,D.s5.below hb,D.z5.below hb,D.o5.below hb,bt D.bel hb,Nat.le_trans D.bw hb.size,D.r2,D.r3,D.r4,D.w4,D.r9,D.w9⟩
theorem ASt.more {T:TypeId} {B R2 R3 R4 R9:Nat} {I:Im} {S:Stg} {vm vx vy:Value} {w0 w w3:World} {v v':Value} {L:List Int} {x:Int} {o:Obj} (D:ASt T B R2 R3 R4 R9 I S vm vx vy w0 w v L)
  (own':w3.ownsRow B T 1 v' (L.length+1) (L.map (Value.int .u16)++[Value.int .u16 x])) (grow:(w.alloc o).grownBy w3 v.ownBlock) :
  ASt T B R2 R3 R4 R9 I S vm vx vy w0 (w3.setCell ⟨R9,4,none⟩ v') v' (L++[x])/\w3.cell? ⟨R9,4,none⟩=some v/\w3.frozen? ⟨R9,4,none⟩=false:=by
 have h2:=D.r2;have h3:=D.r3;have h4:=D.r4;have h9:=D.r9;have hw:=D.w9;have hlt:∀ g,v.ownBlock=some g->B<=g:=zdw D.own;have ne:∀ R,R<B->some R≠v.ownBlock:=λR hR e=>by
  have:=hlt R e.symm;omega
 have G:w.grownBy w3 v.ownBlock:=(zZ (zg w o) _).trans grow;have G2:=zn w3 R9 4 v';have n2:some R2≠some R9:=λe=>by have:=Option.some.inj e;omega
 have n3:some R3≠some R9:=λe=>by have:=Option.some.inj e;omega
 have n4:some R4≠some R9:=λe=>by have:=Option.some.inj e;omega
 have o3:=D.o5.grown G (ne R9 h9);have sz:=G.size;have hbw:=D.bw;refine⟨⟨?_,(D.m5.grown G (ne R2 (by omega))).grown G2 n2,(D.s5.grown G (ne R3 (by omega))).grown G2 n3,(D.z5.grown G (ne R4 (by omega))).grown G2 n4,o3.set4 v',?_,?_,h2,h3,h4,D.w4,h9,hw⟩,o3.2.2.2.2.1,o3.2.2.2.2.2⟩
 ·refine OwnI.kept (u:=.slice (some ⟨R9,0,none⟩) 0 0) (OwnI.append own') G2 ?_;intro g hg he;have h1:=zdw own' g hg;have h2:=Option.some.inj he;simp at h2;omega
 ·exact bs (D.bel.grown G D.bel.size (λk hk=>by have:=hlt k hk;omega)) (by omega) _
 ·show B<=(w3.setCell ⟨R9,4,none⟩ v').heap.size
  simp[World.setCell]
  omega
set_option maxHeartbeats 8000000 in
set_option maxRecDepth 100000 in
theorem znv (I:Im) (S:Stg) (b cap gx px gy py:Nat) (w:World) (hI:zay I) (hr:RowAt .u16 w (some ⟨b,0,none⟩) I.il) (rx:LinesAt w gx S.lx) (ry:LinesAt w gy S.ly) (okx:zby S.lx) (oky:zby S.ly) (lx0:1<=S.lx.length) (ly0:1<=S.ly.length) (lx1:S.lx.length<=65536) (ly1:S.ly.length<=65536) (hf:zaE (S.lx.length:Int) (S.ly.length:Int) I.ic=true) :
  Calls Tryz.prog 28 #[imV I b I.il.length cap,.agg #[.slice (some ⟨gx,0,none⟩) S.lx.length px,.slice (some ⟨gy,0,none⟩) S.ly.length py,.int .i64 S.fx,.int .i64 S.fy,.int .i64 S.sb]] w λe w'=>(∃ b' cap',e=.returned (imV (zI I S) b' (zI I S).il.length cap')/\RowAt .u16 w' (some ⟨b',0,none⟩) (zI I S).il/\w.heap.size<=b')/\Below w.heap.size w w':=by
 obtain⟨N,hN⟩:∃ N,S.lx.length=N:=⟨_,rfl⟩;obtain⟨M,hM⟩:∃ M,S.ly.length=M:=⟨_,rfl⟩;obtain⟨_,_,_,_,c0,t0',t1',_,_,_⟩:=id hI;obtain⟨C,hC⟩:∃ C:Nat,I.ic=(C:Int):=⟨I.ic.toNat,by omega⟩;have hCt:I.ic.toNat=C:=by omega
 obtain⟨_,_,_,_,_,hmx⟩:=zdq.1 hf;have hTot:M*N*C<=268435456:=by
  rw[hN,hM,hC,←Int.natCast_mul,←Int.natCast_mul,Nat.mul_comm N]at hmx;omega
 have CSM:=za (λw' (bb:Below w.heap.size w w') (x y:Nat) (c:Int) (hx:x<N) (hy:y<M)=>zrn I S b cap gx px gy py x y c w' hI (hr.below bb) (rx.below bb) (ry.below bb) (λj hj=>⟨(okx j hj).1,(okx j hj).2.1,(okx j hj).2.2.1,(okx j hj).2.2.2.1⟩) (λj hj=>⟨(oky j hj).1,(oky j hj).2.1,(oky j hj).2.2.1,(oky j hj).2.2.2.1⟩) (by omega) (by omega) lx1 ly1);have CRD:=fun(s:Int) (s0 : -9223372036854775808<=s) (s1:s<=9223372036854775807) w'=>zm2 s I.it s0 s1 w'
 have HWI:=za (fun(x y:Nat) (c:Int)=>show -9223372036854775808<=zbA I S x y c/\zbA I S x y c<=9223372036854775807 from zry _);have HOUT:=za (fun(x y c:Nat) (hx:x<N) (hc:c<C)=>show zbs I S ((y*N+x)*C+c)=zaM (zbA I S x y (c:Int)) I.it from by
  have o:=zgA (I:=I) (S:=S) (x:=x) (y:=y) (c:=c) (by omega) (by omega);rw[hN,hCt]at o;exact o)
 have HPOS:=za (show 1<=M*N*C from by
  have:=Nat.mul_pos (Nat.mul_pos (show 0<M by omega) (show 0<N by omega)) (show 0<C by omega);omega)
 have HAL:=za (show(zI I S).il=(List.range (M*N*C)).map (zbs I S) from by unfold zI;rw[hN,hM,hCt]);have HAV:=za (fun(b' n' c':Nat)=>show imV (zI I S) b' n' c'=.agg #[.int .i64 (N:Int),.int .i64 (M:Int),.int .i64 (C:Int),.int .i64 I.it,.slice (some ⟨b',0,none⟩) n' c'] from by unfold imV zI;rw[hN,hM,hC]);have HLN:=za (λk=>zjf I S k);have HSN:=za (λk=>show(List.range (k+1)).map (zbs I S)=(List.range k).map (zbs I S)++[zbs I S k] from by rw[List.range_succ,List.map_append];rfl);obtain⟨W0,hW0⟩:∃ W0,(((w.alloc (.cells #[.int .i64 I.iw,.int .i64 I.ih,.int .i64 (C:Int),.int .i64 I.it,.slice (some ⟨b,0,none⟩) I.il.length cap] 70)).alloc (.cells #[.slice (some ⟨gx,0,none⟩) N px,.slice (some ⟨gy,0,none⟩) M py,.int .i64 S.fx,.int .i64 S.fy,.int .i64 S.sb] 39)).alloc (.cells #[.int .i64 0,.int .i64 0,.int .i64 0,.int .i64 0,.slice none 0 0] 70)).alloc (.cells #[.int .i64 (N:Int),.int .i64 (M:Int),.int .i64 (C:Int),.int .i64 I.it,.slice none 0 0] 70)=W0:=⟨_,rfl⟩;have A0:ASt 22 (w.heap.size+1+1+1+1) w.heap.size (w.heap.size+1) (w.heap.size+1+1) (w.heap.size+1+1+1) I S (.slice (some ⟨b,0,none⟩) I.il.length cap) (.slice (some ⟨gx,0,none⟩) N px) (.slice (some ⟨gy,0,none⟩) M py) w W0 (.slice none 0 0) ((List.range 0).map (zbs I S)):=by
  rw[←hW0];refine⟨OwnI.nil _ _ _ _,?_,?_,?_,?_,?_,?_,by omega,by omega,by omega,by omega,by omega,by omega⟩
  ·rw[hC];exact(((S5.new _ _ _ _ _ _ _).below (zg _ _)).below (zg _ _)).below (zg _ _)
  ·simpa using((S5.new (w.alloc (.cells #[.int .i64 I.iw,.int .i64 I.ih,.int .i64 (C:Int),.int .i64 I.it,.slice (some ⟨b,0,none⟩) I.il.length cap] 70)) 39 (.slice (some ⟨gx,0,none⟩) N px) (.slice (some ⟨gy,0,none⟩) M py) (.int .i64 S.fx) (.int .i64 S.fy) (.int .i64 S.sb)).below (zg _ (.cells #[.int .i64 0,.int .i64 0,.int .i64 0,.int .i64 0,.slice none 0 0] 70))).below (zg _ (.cells #[.int .i64 (N:Int),.int .i64 (M:Int),.int .i64 (C:Int),.int .i64 I.it,.slice none 0 0] 70))
  ·simpa using(S5.new ((w.alloc (.cells #[.int .i64 I.iw,.int .i64 I.ih,.int .i64 (C:Int),.int .i64 I.it,.slice (some ⟨b,0,none⟩) I.il.length cap] 70)).alloc (.cells #[.slice (some ⟨gx,0,none⟩) N px,.slice (some ⟨gy,0,none⟩) M py,.int .i64 S.fx,.int .i64 S.fy,.int .i64 S.sb] 39)) 70 (.int .i64 0) (.int .i64 0) (.int .i64 0) (.int .i64 0) (.slice none 0 0)).below (zg _ (.cells #[.int .i64 (N:Int),.int .i64 (M:Int),.int .i64 (C:Int),.int .i64 I.it,.slice none 0 0] 70))
  ·rw[hN,hM,hC]
   simpa using S5.new (((w.alloc (.cells #[.int .i64 I.iw,.int .i64 I.ih,.int .i64 (C:Int),.int .i64 I.it,.slice (some ⟨b,0,none⟩) I.il.length cap] 70)).alloc (.cells #[.slice (some ⟨gx,0,none⟩) N px,.slice (some ⟨gy,0,none⟩) M py,.int .i64 S.fx,.int .i64 S.fy,.int .i64 S.sb] 39)).alloc (.cells #[.int .i64 0,.int .i64 0,.int .i64 0,.int .i64 0,.slice none 0 0] 70)) 70 (.int .i64 (N:Int)) (.int .i64 (M:Int)) (.int .i64 (C:Int)) (.int .i64 I.it) (.slice none 0 0)
  ·exact ba (ba (ba (zg _ _) _) _) _
  ·simp
 have HA0:=za A0;have N1:N<=65536:=by omega
 have M1:M<=65536:=by omega
 have C3:C<=3:=by omega
 have HICC:=za hC;unfold imV at CSM ⊢;rw[hN,hM,hC]at CSM;rw[hN,hM,hC];obtain⟨it,hit⟩:∃ it,I.it=it:=⟨_,rfl⟩;have HIT:=za hit;rw[hit]at CSM CRD hW0 HAV HOUT ⊢;obtain⟨i0,hi0,hz0,hz1,hz2⟩:=info_parts zkt;obtain⟨iw,hiw⟩:∃ iw,I.iw=iw:=⟨_,rfl⟩;obtain⟨ih,hih⟩:∃ ih,I.ih=ih:=⟨_,rfl⟩;obtain⟨fx,hfx⟩:∃ fx,S.fx=fx:=⟨_,rfl⟩;obtain⟨fy,hfy⟩:∃ fy,S.fy=fy:=⟨_,rfl⟩;obtain⟨sb,hsb⟩:∃ sb,S.sb=sb:=⟨_,rfl⟩;have HM5:=za (fun(w':World) v L (D:ASt 22 (w.heap.size+1+1+1+1) w.heap.size (w.heap.size+1) (w.heap.size+1+1) (w.heap.size+1+1+1) I S (.slice (some ⟨b,0,none⟩) I.il.length cap) (.slice (some ⟨gx,0,none⟩) N px) (.slice (some ⟨gy,0,none⟩) M py) w w' v L)=>show S5 w' w.heap.size (.int .i64 iw) (.int .i64 ih) (.int .i64 (C:Int)) (.int .i64 it) (.slice (some ⟨b,0,none⟩) I.il.length cap)/\S5 w' (w.heap.size+1) (.slice (some ⟨gx,0,none⟩) N px) (.slice (some ⟨gy,0,none⟩) M py) (.int .i64 fx) (.int .i64 fy) (.int .i64 sb)/\S5 w' (w.heap.size+1+1+1) (.int .i64 (N:Int)) (.int .i64 (M:Int)) (.int .i64 (C:Int)) (.int .i64 it) v from⟨by have:=D.m5;rw[hiw,hih,hC,hit]at this;exact this,by have:=D.s5;rw[hfx,hfy,hsb]at this;exact this,by have:=D.o5;rw[hN,hM,hC,hit]at this;exact this⟩);rw[hiw,hih,hfx,hfy,hsb]at CSM hW0 ⊢;clear hI hr rx ry okx oky lx0 ly0 lx1 ly1 hf hmx c0 t0' t1' hN hM hC hCt hit hiw hih hfx hfy hsb A0;obtain⟨nl,hnl⟩:∃ nl,I.il.length=nl:=⟨_,rfl⟩;rw[hnl]at CSM hW0 HA0 HM5 ⊢;clear hnl;have HW0:=za hW0;clear hW0
 go_enter Tryz.func28,Tryz.ntmps28
 go_upto_region 2 with fail
 rw[HW0.out];obtain⟨⟨⟨x0,_⟩,⟨x1,_⟩,⟨x2,_⟩,⟨x3,_⟩,⟨x4,_⟩⟩,⟨⟨y0,_⟩,⟨y1,_⟩,⟨y2,_⟩,⟨y3,_⟩,⟨y4,_⟩⟩,_⟩:=HM5.out _ _ _ HA0.out;clear HW0;go_wp2;clear x0 x1 x2 x3 x4 y0 y1 y2 y3 y4
 go_loopg [23] M (λr i wr=>∃ yy:Nat,yy+r=M/\i=.int .i64 (yy:Int)/\∃ v,ASt 22 (w.heap.size+1+1+1+1) w.heap.size (w.heap.size+1) (w.heap.size+1+1) (w.heap.size+1+1+1) I S (.slice (some ⟨b,0,none⟩) nl cap) (.slice (some ⟨gx,0,none⟩) N px) (.slice (some ⟨gy,0,none⟩) M py) w wr v ((List.range (yy*N*C)).map (zbs I S)))
 case atStart=>exact⟨0,by omega,rfl,_,by rw[Nat.zero_mul,Nat.zero_mul];exact HA0.out⟩
 case round =>
  obtain⟨yy,hyy,rfl,v,hd⟩:=hrel;have HD:=za hd;have HYY:=za hyy;clear hd hyy;obtain⟨G,hG⟩:∃ G,G=gk:=⟨_,rfl⟩;subst hG
  by_cases hlt:yy<M
  ·obtain⟨_,⟨⟨y0,_⟩,_⟩,_⟩:=HM5.out _ _ _ HD.out;go_wp2;clear y0
   go_loopg [29] N (λr i wr=>∃ xx:Nat,xx+r=N/\i=.int .i64 (xx:Int)/\∃ v,ASt 22 (w.heap.size+1+1+1+1) w.heap.size (w.heap.size+1) (w.heap.size+1+1) (w.heap.size+1+1+1) I S (.slice (some ⟨b,0,none⟩) nl cap) (.slice (some ⟨gx,0,none⟩) N px) (.slice (some ⟨gy,0,none⟩) M py) w wr v ((List.range ((yy*N+xx)*C)).map (zbs I S)))
   case atStart=>exact⟨0,by omega,rfl,_,HD.out⟩
   case round =>
    obtain⟨xx,hxx,rfl,v2,hd⟩:=hrel;have HD2:=za hd;have HXX:=za hxx;clear hd hxx;obtain⟨G2,hG2⟩:∃ G2,G2=gk:=⟨_,rfl⟩;subst hG2
    by_cases hlt2:xx<N
    ·obtain⟨⟨_,_,⟨x2,_⟩,_⟩,_,_⟩:=HM5.out _ _ _ HD2.out;go_wp2;clear x2
     go_loopg [34] C (λr i wr=>∃ c:Nat,c+r=C/\i=.int .i64 (c:Int)/\∃ v,ASt 22 (w.heap.size+1+1+1+1) w.heap.size (w.heap.size+1) (w.heap.size+1+1) (w.heap.size+1+1+1) I S (.slice (some ⟨b,0,none⟩) nl cap) (.slice (some ⟨gx,0,none⟩) N px) (.slice (some ⟨gy,0,none⟩) M py) w wr v ((List.range ((yy*N+xx)*C+c)).map (zbs I S)))
     case atStart=>exact⟨0,by omega,rfl,_,HD2.out⟩
     case round =>
      obtain⟨c,hcc,rfl,v3,hd⟩:=hrel;have HD3:=za hd;have HCC:=za hcc;clear hd hcc
      by_cases hlt3:c<C
      ·obtain⟨⟨⟨x0,_⟩,⟨x1,_⟩,⟨x2,_⟩,⟨x3,_⟩,⟨x4,_⟩⟩,⟨⟨y0,_⟩,⟨y1,_⟩,⟨y2,_⟩,⟨y3,_⟩,⟨y4,_⟩⟩,⟨⟨o0,f0⟩,⟨o1,f1⟩,⟨o2,f2⟩,⟨o3,f3⟩,⟨o4,f4⟩⟩⟩:=HM5.out _ _ _ HD3.out;have CS1:=λw' bb=>CSM.out w' bb xx yy (c:Int) hlt2 hlt
       have hw:=HWI.out xx yy (c:Int);have HO:=za (HOUT.out xx yy c hlt2 hlt3);obtain⟨V,hV⟩:∃ V,zbA I S xx yy (c:Int)=V:=⟨_,rfl⟩;rw[hV]at hw HO;simp only[hV]at CS1;have CR1:=λw'=>CRD V hw.1 hw.2 w'
       obtain⟨R,hR⟩:∃ R,zaM V it=R:=⟨_,rfl⟩;rw[hR]at HO;simp only[hR]at CR1;have HSN1:=za (HSN.out ((yy*N+xx)*C+c));rw[HO.out]at HSN1;obtain⟨L,hL⟩:∃ L,(List.range ((yy*N+xx)*C+c)).map (zbs I S)=L:=⟨_,rfl⟩;have HLL:=za (show L.length<=268435456 from by
        rw[←hL,HLN.out];have t1:(yy*N+xx)*C+c<M*N*C:=by
         have u1:yy*N+xx<M*N:=by
          have:=Nat.mul_le_mul_right N (show yy+1<=M from hlt);rw[Nat.succ_mul]at this;omega
         have:=Nat.mul_le_mul_right C (show yy*N+xx+1<=M*N from u1);rw[Nat.succ_mul]at this;omega
        omega)
       rw[hL]at HSN1;have HD4:=za HD3.out;rw[hL]at HD4;have HMORE:=za (fun(w3:World) (v':Value) (o:Obj) (wq:World) (D:ASt 22 (w.heap.size+1+1+1+1) w.heap.size (w.heap.size+1) (w.heap.size+1+1) (w.heap.size+1+1+1) I S (.slice (some ⟨b,0,none⟩) nl cap) (.slice (some ⟨gx,0,none⟩) N px) (.slice (some ⟨gy,0,none⟩) M py) w wq v3 L) (own':w3.ownsRow (w.heap.size+1+1+1+1) 22 1 v' (L.length+1) (L.map (Value.int .u16)++[Value.int .u16 R])) (grow:(wq.alloc o).grownBy w3 v3.ownBlock)=>D.more own' grow);clear hV hR hw hL;have HUL:=za (Tryz.underlying23)
       go_wp2_with fail
       go_region_law (first
        |(refine step_append_lies _ (by rfl) _ _ _ (by rfl) (w.heap.size+1+1+1+1) 22 i0 (.int .u16 0) 1 2 HUL.out hi0 hz0 hz1 hz2 rfl (by decide) v3 L.length (L.map (Value.int .u16)) (by rfl) (HX5.out.own.alloc _) _ _ _ [.int .u16 R] (by rfl) rfl (zea _ _ _) (zeg _ _) (by decide) (by have:=HLL.out;unfold maxLen;omega) (by have:=HLL.out;omega) (by have:=HX5.out.bw;simp;omega) _ (by rfl) ?_;intro g9 cap9 w9 hown9 hgrow9 hat9 hlt9;obtain⟨D9,e9,f9⟩:=HX5.out.more hown9 hgrow9;have HD9:=za D9;clear D9 hown9 hgrow9 hat9 hlt9)
        |(go_simp;go_at_call 58;(with_reducible refine(CS1 _ (bt HD4.out.bel bch)).mono ?_);rintro e w4 ⟨rfl,b4⟩;have HX4:=za ((HD4.out.below bch).below b4);obtain⟨⟨⟨x0,_⟩,⟨x1,_⟩,⟨x2,_⟩,⟨x3,_⟩,⟨x4,_⟩⟩,⟨⟨y0,_⟩,⟨y1,_⟩,⟨y2,_⟩,⟨y3,_⟩,⟨y4,_⟩⟩,⟨⟨o0,f0⟩,⟨o1,f1⟩,⟨o2,f2⟩,⟨o3,f3⟩,⟨o4,f4⟩⟩⟩:=HM5.out _ _ _ HX4.out;clear b4)
        |(go_simp;go_at_call 57;(with_reducible refine(CR1 _).mono ?_);rintro e w5 ⟨rfl,b5⟩;have HX5:=za ((HX4.out.below bch).below b5);obtain⟨⟨⟨x0,_⟩,⟨x1,_⟩,⟨x2,_⟩,⟨x3,_⟩,⟨x4,_⟩⟩,⟨⟨y0,_⟩,⟨y1,_⟩,⟨y2,_⟩,⟨y3,_⟩,⟨y4,_⟩⟩,⟨⟨o0,f0⟩,⟨o1,f1⟩,⟨o2,f2⟩,⟨o3,f3⟩,⟨o4,f4⟩⟩⟩:=HM5.out _ _ _ HX5.out;have Q6:=λT=>HM5.out _ _ _ (HX5.out.below (zg _ (.cells #[.int .u16 R] T)));have q4:=λT=>(Q6 T).2.2.2.2.2.2.1;have g4:=λT=>(Q6 T).2.2.2.2.2.2.2;clear b5 Q6))
       all_goals
        rw[←HSN1.out]at HD9;clear HSN1;clear e9 f9;go_wp2
        go_roundg (gk-1)
        case measure=>have:=HCC.out;omega
        case rel=>exact⟨c+1,by have:=HCC.out;omega,by go_num,_,HD9.out⟩
      ·obtain rfl:C=c:=by have:=HCC.out;omega
       have e1:=Nat.succ_mul (yy*N+xx) C;have QF:=HD3.out;rw[←e1]at QF;have QF2:=za QF;clear QF e1 hlt3;go_wp2
       go_roundg (G2-1)
       case measure=>have:=HXX.out;omega
       case rel=>exact⟨xx+1,by have:=HXX.out;omega,by go_num,_,QF2.out⟩
    ·obtain rfl:N=xx:=by have:=HXX.out;omega
     have e1:=Nat.succ_mul yy N;have QF:=HD2.out;rw[←e1]at QF;have QF2:=za QF;clear QF e1 hlt2;go_wp2
     go_roundg (G-1)
     case measure=>have:=HYY.out;omega
     case rel=>exact⟨yy+1,by have:=HYY.out;omega,by go_num,_,QF2.out⟩
  ·obtain rfl:M=yy:=by have:=HYY.out;omega
   have hlen:((List.range (M*N*C)).map (zbs I S)).length=M*N*C:=by simp
   have hpos:1<=M*N*C:=HPOS.out;obtain⟨g,cp,hv,hg,hlt9,hrow,hcp,hzz⟩:=zax HD.out.own hlen hpos;subst hv;obtain⟨_,_,⟨⟨o0,_⟩,⟨o1,_⟩,⟨o2,_⟩,⟨o3,_⟩,⟨o4,_⟩⟩⟩:=HM5.out _ _ _ HD.out;have z5:=HD.out.z5;have HZ5:=za z5;obtain⟨⟨z0,p0⟩,⟨z1,p1⟩,⟨z2,p2⟩,⟨z3,p3⟩,⟨z4,p4⟩⟩:=z5;have g5:=((((zn wr (w.heap.size+1+1) 0 (.int .i64 (N:Int))).trans (zn _ (w.heap.size+1+1) 1 (.int .i64 (M:Int)))).trans (zn _ (w.heap.size+1+1) 2 (.int .i64 (C:Int)))).trans (zn _ (w.heap.size+1+1) 3 (.int .i64 it))).trans (zn _ (w.heap.size+1+1) 4 (.slice (some ⟨g,0,none⟩) (M*N*C) cp));have FB:=za (zaI HD.out.bel (show w.heap.size<=w.heap.size+1+1 by omega) (.int .i64 (N:Int)) (.int .i64 (M:Int)) (.int .i64 (C:Int)) (.int .i64 it) (.slice (some ⟨g,0,none⟩) (M*N*C) cp));have F5:=za (S5.fill HZ5.out (.int .i64 (N:Int)) (.int .i64 (M:Int)) (.int .i64 (C:Int)) (.int .i64 it) (.slice (some ⟨g,0,none⟩) (M*N*C) cp));have FR:=za (hrow.grown g5 (λe=>by have:=Option.some.inj e;omega));have HG:=za hg;clear g5 hrow hg hzz hlt hlt9 HD;obtain⟨T,hT⟩:∃ T,M*N*C=T:=⟨_,rfl⟩;have HT:=za hT;rw[hT]at o4 F5 FR FB hcp;clear hT hlen hpos;go_wp2;obtain⟨⟨v0,_⟩,⟨v1,_⟩,⟨v2,_⟩,⟨v3,_⟩,⟨v4,_⟩⟩:=F5.out;exact bodyPost_ret (v:=.agg #[.int .i64 (N:Int),.int .i64 (M:Int),.int .i64 (C:Int),.int .i64 it,.slice (some ⟨g,0,none⟩) T cp]) (by simp[results,Tryz.results28,go_sem,v0,v1,v2,v3,v4]) rfl ⟨⟨g,cp,(by rw[show(zI I S).il.length=T from by rw[HAL.out,List.length_map,List.length_range,HT.out]];exact congrArg Ending.returned (HAV.out g T cp).symm),(by rw[HAL.out,HT.out];exact FR.out),(by have:=HG.out;omega)⟩,FB.out⟩
theorem zuU:zne:=λI S b cap gx px gy py w h1 h2 h3 h4 h5 h6 h7 h8 h9 h10 h11=>znv I S b cap gx px gy py w h1 h2 h3 h4 h5 h6 h7 h8 h9 h10 h11
theorem zjj (q:Pic) (pd:Option Addr) (pc:Nat) (o:Opr) (ax:Option Addr) (cx:Nat) (ay:Option Addr) (cy:Nat) (x y u v mk:Int) (w:World) (hk:OpK w) (hp:PicAt w q pd pc/\zeJ q) (hA:OpAt w o ax cx ay cy/\OpFits o)
  (hx:0<=x/\x<=255) (hy:0<=y/\y<=255) (hu:0<=u/\u<=255) (hv:0<=v/\v<=255) (hmk:0<=mk/\mk<=65535) :
  Calls Tryz.prog 5 #[zfd q pd pc,opV o ax cx ay cy,.int .u8 x,.int .u8 y,.int .u8 u,.int .u8 v,.int .u16 mk] w λe w'=>e=.returned (.bool true)/\Below w.heap.size w w' :=
 ziu q pd pc o ax cx ay cy x y u v mk w hk hp hA hx hy hu hv hmk zuU
end Go.Proofs.YtlodkoimdoeopaaGreatDoor
