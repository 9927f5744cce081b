/- Parts, joined. -/
import Derived.Test.YtlodkoimdoeopaaGreatDoorQ29
import Derived.Test.YtlodkoimdoeopaaGreatDoorQ18
import Derived.Test.YtlodkoimdoeopaaGreatDoorQ24
import Derived.Test.YtlodkoimdoeopaaGreatDoorQ19
import Derived.Test.YtlodkoimdoeopaaGreatDoorQ21
import Derived.Test.YtlodkoimdoeopaaGreatDoorQ12
import Derived.Test.YtlodkoimdoeopaaGreatDoorQ27
import Derived.Deep.LoopGhost
import Derived.Deep.DeepCutAuto
import Derived.Deep.MidRow
namespace Go.Proofs.YtlodkoimdoeopaaGreatDoor
open Go.RowKit
theorem zto (w:World) (T:TypeId) (x:Int):RowAt .u16 (w.alloc (.cells #[.int .u16 x] T)) (some ⟨w.heap.size,0,none⟩) [x]:=by
 refine .inr ⟨_,_,rfl,λj hj=>?_⟩;obtain rfl:j=0:=by simpa using hj
 simp
theorem zv9 {a:Int} (_:0<=a) (_:a<=65535):0<=a % 12/\a % 12<=65535:=by omega
set_option maxHeartbeats 2000000 in
set_option maxRecDepth 100000 in
theorem zsQ (q:Pic) (ad:Option Addr) (cap:Nat) (w:World) (hA:PicAt w q ad cap) (hF:zeJ q) :
  Calls Tryz.prog 37 #[zfd q ad cap] w λe w'=>∃ v I,e=.returned v/\zfM w.heap.size w' v I/\I.iw<=20/\I.ih<=20/\Below w.heap.size w w':=by
 obtain⟨pw,ph,pc,pm,pl⟩:=q;obtain⟨⟨a0,a1⟩,⟨b0,b1⟩,⟨c0,c1⟩,⟨t0,t1⟩,hx,hl⟩:=hF;simp only at a0 a1 b0 b1 c0 c1 t0 t1 hx hl;have ea:pw.tmod 12=pw % 12:=Int.tmod_eq_emod_of_nonneg a0;have eb:ph.tmod 12=ph % 12:=Int.tmod_eq_emod_of_nonneg b0;have ma:=zv9 a0 a1;have mb:=zv9 b0 b1;have wa:IntKind.u16.wrap (pw % 12)=pw % 12:=by rw[IntKind.wrap_u16];omega
 have wb:IntKind.u16.wrap (ph % 12)=ph % 12:=by rw[IntKind.wrap_u16];omega
 have CD:=λw' (b:Below w.heap.size w w')=>zuj (pw % 12) (ph % 12) pc pm pl ad cap w' ma.1 mb.1 c0 t0 t1 (hA.1.below b) (zyi hx) hl
 have e12:(12:Int)≠0:=by decide
 have B1:=za (show Below w.heap.size w (w.alloc (.cells #[.int .u16 pw,.int .u16 ph,.int .u16 pc,.int .u16 pm,.slice ad pl.length cap] 25)) from zg _ _);unfold zfd;clear hA hx
 go_enter Tryz.func37,Tryz.ntmps37
 go_wp2_with (go_at_call 74;(with_reducible refine(CD _ B1.out).mono ?_);rintro e w1 ⟨v,I,rfl,⟨g,h,rfl,gB,hB,hi⟩,i0,i1,bb⟩;have HI:=za hi;clear hi)
 go_ret;exact⟨_,I,rfl,⟨g,h,rfl,Nat.le_trans B1.out.size gB,Nat.le_trans B1.out.size hB,HI.out⟩,i0,i1,bt B1.out bb⟩
set_option maxHeartbeats 2000000 in
set_option maxRecDepth 100000 in
theorem znX (w:World) (hk:OpK w):Calls Tryz.prog 36 #[] w λe w'=>e=.returned (.bool true)/\Below w.heap.size w w':=by
 have K0:=za (λw' (b:Below w.heap.size w w')=>zaW _ _ hk b);have CO:=fun(w':World) (hr:RowAt .u16 w' (some ⟨w.heap.size,0,none⟩) [7])=>ztj 1 1 1 255 (by decide) [7] 1 rfl (some ⟨w.heap.size,0,none⟩) 1 (by decide) (by simp) (by decide) w' hr
 have R0:=za (show RowAt .u16 (w.alloc (.cells #[.int .u16 7] 22)) (some ⟨w.heap.size,0,none⟩) [7] from zto _ _ _);obtain⟨e1,_,_⟩:=zhF;have CM:∀ w',Below w.heap.size w w'->Calls Tryz.prog 34 #[.agg #[.int .i64 1,.int .i64 0,.int .i64 0,.int .i64 2,.slice none 0 0,.slice none 0 0,.int .i64 0,.int .i64 0,.int .i64 0],.int .i64 1,.int .i64 1] w' λe w''=>(∃ x y,e=.returned (.tuple #[.agg #[.pointer (some x),.pointer (some y),.int .i64 0],.int .i64 0])/\Tab w'' (.pointer (some x)) 1 (zj zca 1 1).lx/\Tab w'' (.pointer (some y)) 1 (zj zca 1 1).ly)/\Below w'.heap.size w' w'':=λw' b =>
  (zeh zca none 0 none 0 1 1 w' (K0.out w' b) ⟨.inl rfl,.inl rfl,λ_=>rfl,λ_=>rfl⟩ zr4 (by unfold zaz;omega) (by unfold zaz;omega)).mono λe w'' ⟨hA,hB⟩=>by
   rw[e1]at hA;rcases hA with⟨h0,_⟩|⟨_,x,y,he,tx,ty⟩
   ·exact absurd rfl h0
   ·obtain⟨ax,rfl⟩:=tx.ptr;obtain⟨ay,rfl⟩:=ty.ptr;exact⟨⟨ax,ay,he,tx,ty⟩,hB⟩
 have sm:zcF (zj zca 1 1):=zhX (s:=12) e1 (by unfold zdc zca;decide) (by decide) (by decide) (by decide);have CA:∀ w' g h x y,Below w.heap.size w w'->ImgAt w' g h im7->Tab w' x 1 (zj zca 1 1).lx->Tab w' y 1 (zj zca 1 1).ly->Calls Tryz.prog 73 #[.pointer (some ⟨g,0,none⟩),.agg #[x,y,.int .i64 0]] w' λe w''=>(∃ v,e=.returned (.tuple #[v,.int .i64 0])/\zfM w'.heap.size w'' v (zI im7 (zj zca 1 1)))/\Below w'.heap.size w' w'':=λw' g h x y b H tx ty =>
  (zsb (S:=zj zca 1 1) (K0.out w' b) H tx ty sm).mono λe w'' ⟨hA,hB⟩=>by
   rw[zlB]at hA;rcases hA with⟨_,v,he,hi⟩|⟨h0,_⟩
   ·exact⟨⟨v,he,hi⟩,hB⟩
   ·exact absurd rfl h0
 have C12:=λw' (b:Below w.heap.size w w')=>zsu zaW (λ_ h=>h.1) zeh w' (K0.out w' b)
 have EV:=za zpM;obtain⟨I7,hI7⟩:∃ I,(⟨1,1,1,255,[7]⟩:Im)=I:=⟨_,rfl⟩;have e7:im7=I7:=by rw[←hI7];rfl
 rw[hI7]at CO;rw[e7]at CA EV;generalize zI I7 (zj zca 1 1)=J at *;generalize (zj zca 1 1).lx=LX at *;generalize (zj zca 1 1).ly=LY at *;clear hI7 e7 sm e1 hk;have q1:∀ (a:Addr) (w:World),(binOp .neq 33 (.pointer (some a)) (.pointer none)).run Tryz.prog w=.ok (.bool true) w:=λa w=>by kernel_rfl
 have q2:∀ (a:Addr) (w:World),(binOp .eql 33 (.pointer (some a)) (.pointer none)).run Tryz.prog w=.ok (.bool false) w:=λa w=>by kernel_rfl
 go_enter Tryz.func36,Tryz.ntmps36
 go_wp2_with (first
  |(go_at_call 71;(with_reducible refine(CO _ R0.out).mono ?_);rintro e w1 ⟨v,rfl,⟨g,h,rfl,gB,hB,hi⟩,b1⟩;have HI:=za hi;have B1:=za (bt (zg _ _) b1);clear hi)
  |(go_at_call 34;(with_reducible refine(CM _ B1.out).mono ?_);rintro e w2 ⟨⟨x,y,rfl,tx,ty⟩,b2⟩;have HX:=za tx;have HY:=za ty;have B2:=za (bt B1.out b2);have HI2:=za (HI.out.below b2);have S2:=za (λT=>S3.new w2 T (.pointer (some x)) (.pointer (some y)) (.int .i64 0));clear tx ty)
  |(go_at_call 72;(with_reducible refine(zxp _).mono ?_);rintro e w3 ⟨rfl,b3⟩;have B3:=za (bt (ba B2.out _) b3);have S3':=za ((S2.out _).below b3);have HI3:=za ((HI2.out.below (zg _ _)).below b3);have HX3:=za ((HX.out.below (zg _ _)).below b3);have HY3:=za ((HY.out.below (zg _ _)).below b3))
  |(go_at_call 67;(with_reducible refine(C12 _ B3.out).mono ?_);rintro e w4 ⟨rfl,b4⟩;have B4:=za (bt B3.out b4);have S4:=S3'.out.below b4;obtain⟨⟨s0,_⟩,⟨s1,_⟩,⟨s2,_⟩⟩:=S4;have HI4:=za (HI3.out.below b4);have HX4:=za (HX3.out.below b4);have HY4:=za (HY3.out.below b4))
  |(go_at_call 73;(with_reducible refine(CA _ _ _ _ _ B4.out HI4.out HX4.out HY4.out).mono ?_);rintro e w5 ⟨⟨v5,rfl,⟨g5,h5,rfl,g5B,h5B,hj⟩⟩,b5⟩;have HJ:=za hj;have B5:=za (bt B4.out b5);clear hj)
  |(go_at_call 30;(with_reducible refine(zmz HJ.out 0 0 0).mono ?_);rintro e w6 ⟨rfl,d6⟩;have B6:=za (bt B5.out d6.below);rw[EV.out]))
 go_ret;exact⟨rfl,B6.out⟩
def zne:Prop:=∀ (I:Im) (S:Stg) (b cap gx px gy py:Nat) (w:World),zay I->RowAt .u16 w (some ⟨b,0,none⟩) I.il->LinesAt w gx S.lx->LinesAt w gy S.ly->zby S.lx->zby S.ly->1<=S.lx.length->1<=S.ly.length->S.lx.length<=65536->S.ly.length<=65536->zaE (S.lx.length:Int) (S.ly.length:Int) I.ic=true ->
  Calls Tryz.prog 28 #[imV I b I.il.length cap,.agg #[.slice (some ⟨gx,0,none⟩) S.lx.length px,.slice (some ⟨gy,0,none⟩) S.ly.length py,.int .i64 S.fx,.int .i64 S.fy,.int .i64 S.sb]] w λe w'=>(∃ b' cap',e=.returned (imV (zI I S) b' (zI I S).il.length cap')/\RowAt .u16 w' (some ⟨b',0,none⟩) (zI I S).il/\w.heap.size<=b')/\Below w.heap.size w w'
theorem zvW:(Tryz.prog.info? 36).map (λi=>(i.zero,i.size,i.bytes))=some (some (.agg #[.pointer none,.pointer none,.int .i64 0]),3,24):=by kernel_rfl
def StgFill (w:World) (h n k:Nat) (F:Nat->Stg):Prop :=
 (∀ j,j<n*3->(∃ v,w.cell? ⟨h,j,none⟩=some v)/\w.frozen? ⟨h,j,none⟩=false)/\(0<n->∃ p,w.cell? ⟨h,0,none⟩=some (.pointer p)) /\
 ∀ j,j<k->∃ x y,w.cell? ⟨h,j*3,none⟩=some x/\w.cell? ⟨h,j*3+1,none⟩=some y/\w.cell? ⟨h,j*3+2,none⟩=some (.int .i64 (F j).sb)/\Tab w x (F j).fx (F j).lx/\Tab w y (F j).fy (F j).ly
theorem StgFill.below {w w':World} {h n k:Nat} {F:Nat->Stg} (s:StgFill w h n k F) (hb:Below w.heap.size w w'):StgFill w' h n k F:=by
 obtain⟨s1,s2,s3⟩:=s;refine⟨λj hj=>?_,λh0=>?_,λj hj=>?_⟩
 ·obtain⟨⟨v,c⟩,f⟩:=s1 j hj;exact⟨⟨v,cb hb (ze c) c⟩,fb hb (ze c) f⟩
 ·obtain⟨p,c⟩:=s2 h0;exact⟨p,cb hb (ze c) c⟩
 ·obtain⟨x,y,c0,c1,c2,tx,ty⟩:=s3 j hj;exact⟨x,y,cb hb (ze c0) c0,cb hb (ze c0) c1,cb hb (ze c0) c2,tx.below hb,ty.below hb⟩
theorem StgFill.room {w:World} {h n k:Nat} {F:Nat->Stg} (s:StgFill w h n k F) (hk:k<n) :
  ((∃ v,w.cell? ⟨h,k*3,none⟩=some v)/\w.frozen? ⟨h,k*3,none⟩=false)/\((∃ v,w.cell? ⟨h,k*3+1,none⟩=some v)/\w.frozen? ⟨h,k*3+1,none⟩=false)/\(∃ v,w.cell? ⟨h,k*3+2,none⟩=some v)/\w.frozen? ⟨h,k*3+2,none⟩=false :=
 ⟨s.1 _ (by omega),s.1 _ (by omega),s.1 _ (by omega)⟩
theorem StgFill.more {w:World} {h n k:Nat} {F:Nat->Stg} (s:StgFill w h n k F) (hk:k<n) {gx gy:Addr} (tx:Tab w (.pointer (some gx)) (F k).fx (F k).lx) (ty:Tab w (.pointer (some gy)) (F k).fy (F k).ly) :
  StgFill (((w.setCell ⟨h,k*3,none⟩ (.pointer (some gx))).setCell ⟨h,k*3+1,none⟩ (.pointer (some gy))).setCell ⟨h,k*3+2,none⟩ (.int .i64 (F k).sb)) h n (k+1) F:=by
 obtain⟨s1,s2,s3⟩:=s;obtain⟨p,hp⟩:=s2 (by omega);have KT:∀ {v:Value} {m:Int} {L:List (Int×List Int)},Tab w v m L->Tab (((w.setCell ⟨h,k*3,none⟩ (.pointer (some gx))).setCell ⟨h,k*3+1,none⟩ (.pointer (some gy))).setCell ⟨h,k*3+2,none⟩ (.int .i64 (F k).sb)) v m L:=λt=>by
  refine t.kept (((zn w h (k*3) (.pointer (some gx))).trans (zn _ h (k*3+1) (.pointer (some gy)))).trans (zn _ h (k*3+2) (.int .i64 (F k).sb))) (λb x e c=>?_);obtain rfl:=Option.some.inj e;rw[hp]at c
  cases c
 have E:∀ j,j≠k*3->j≠k*3+1->j≠k*3+2->(((w.setCell ⟨h,k*3,none⟩ (.pointer (some gx))).setCell ⟨h,k*3+1,none⟩ (.pointer (some gy))).setCell ⟨h,k*3+2,none⟩ (.int .i64 (F k).sb)).cell? ⟨h,j,none⟩=w.cell? ⟨h,j,none⟩:=λj a b c =>
  (zc (Or.inr (Ne.symm c))).trans ((zc (Or.inr (Ne.symm b))).trans (zc (Or.inr (Ne.symm a))))
 obtain⟨⟨⟨v0,c0⟩,_⟩,⟨⟨v1,c1⟩,_⟩,⟨v2,c2⟩,_⟩:=StgFill.room (k:=k) ⟨s1,s2,s3⟩ hk;have E0:(((w.setCell ⟨h,k*3,none⟩ (.pointer (some gx))).setCell ⟨h,k*3+1,none⟩ (.pointer (some gy))).setCell ⟨h,k*3+2,none⟩ (.int .i64 (F k).sb)).cell? ⟨h,k*3,none⟩=some (.pointer (some gx)) :=
  (zc (Or.inr (by omega))).trans ((zc (Or.inr (by omega))).trans (World.cell?_setCell_same' _ _ _ (by rw[c0];rfl)))
 have E1:(((w.setCell ⟨h,k*3,none⟩ (.pointer (some gx))).setCell ⟨h,k*3+1,none⟩ (.pointer (some gy))).setCell ⟨h,k*3+2,none⟩ (.int .i64 (F k).sb)).cell? ⟨h,k*3+1,none⟩=some (.pointer (some gy)) :=
  (zc (Or.inr (by omega))).trans (World.cell?_setCell_same' _ _ _ (by rw[zc (Or.inr (by omega)),c1];rfl))
 have E2:(((w.setCell ⟨h,k*3,none⟩ (.pointer (some gx))).setCell ⟨h,k*3+1,none⟩ (.pointer (some gy))).setCell ⟨h,k*3+2,none⟩ (.int .i64 (F k).sb)).cell? ⟨h,k*3+2,none⟩=some (.int .i64 (F k).sb) :=
  World.cell?_setCell_same' _ _ _ (by rw[zc (Or.inr (by omega)),zc (Or.inr (by omega)),c2];rfl)
 refine⟨λj hj=>?_,λ_=>?_,λj hj=>?_⟩
 ·simp only[World.frozen?_setCell];refine⟨?_,(s1 j hj).2⟩
  by_cases a:j=k*3
  ·subst a;exact⟨_,E0⟩
  by_cases b:j=k*3+1
  ·subst b;exact⟨_,E1⟩
  by_cases c:j=k*3+2
  ·subst c;exact⟨_,E2⟩
  rw[E j a b c];exact(s1 j hj).1
 ·by_cases a:k=0
  ·subst a;exact⟨_,E0⟩
  ·rw[E 0 (by omega) (by omega) (by omega)];exact⟨p,hp⟩
 ·by_cases e:j=k
  ·subst e;exact⟨_,_,E0,E1,E2,KT tx,KT ty⟩
  ·obtain⟨x,y,d0,d1,d2,t1,t2⟩:=s3 j (by omega);exact⟨x,y,(E _ (by omega) (by omega) (by omega)).trans d0,(E _ (by omega) (by omega) (by omega)).trans d1,(E _ (by omega) (by omega) (by omega)).trans d2,KT t1,KT t2⟩
theorem zxD (n:Nat) (h:n<=1048576):∃ zs:Array Value,(∀ w:World,(Instr.makeSlice 83 (.int .i64 (n:Int)) (.int .i64 (n:Int))).run Tryz.prog w=.ok (.slice (some ⟨w.heap.size,0,none⟩) n n) (w.alloc (.cells zs 36)))/\(∀ (w:World) (F:Nat->Stg),StgFill (w.alloc (.cells zs 36)) w.heap.size n 0 F):=by
 obtain⟨i0,hi,hz0,hz1,hz2⟩:=info_parts zvW;have hm:(n:Int)<=9223372036854775807:=by omega
 refine⟨madeCells (Value.agg #[.pointer none,.pointer none,.int .i64 0]).cells (n*i0.size),λw=>?_,λw F=>?_⟩
 ·have hr:=run_make (P:=Tryz.prog) w 83 36 i0 (.agg #[.pointer none,.pointer none,.int .i64 0]) Tryz.underlying83 hi hz0 .i64 .i64 n n (by omega) (Int.le_refl _) (by rw[hz2];omega) hm
  simpa only [Int.toNat_natCast] using hr
 ·rw[hz1];have ho:(w.alloc (.cells (madeCells (Value.agg #[.pointer none,.pointer none,.int .i64 0]).cells (n*3)) 36)).ownsRow 0 36 3 (.slice (some ⟨w.heap.size,0,none⟩) n n) n (madeCells (Value.agg #[.pointer none,.pointer none,.int .i64 0]).cells (n*3)).toList :=
   World.ownsRow_lit w _ n (Nat.zero_le _) (by unfold maxLen;omega) (by rw[size_madeCells])
  have hl:=ho.1;refine⟨λj hj=>⟨?_,ho.frozenAt j⟩,λh0=>⟨none,?_⟩,λj hj=>absurd hj (Nat.not_lt_zero _)⟩
  ·rw[ho.cellAt j hj];exact⟨_,List.getElem?_eq_getElem (by omega)⟩
  ·rw[ho.cellAt 0 (by omega)];have h3:0<n*3:=by omega
   simp[madeCells,Value.cells,h3]
theorem StgFill.at {w:World} {h n:Nat} {F:Nat->Stg} (s:StgFill w h n n F):StgsAt w (some ⟨h,0,none⟩) n F:=by
 refine .inr ⟨h,0,rfl,λj hj=>?_⟩;rw[Nat.zero_add];exact s.2.2 j hj
set_option maxHeartbeats 4000000 in
set_option maxRecDepth 100000 in
theorem zxs (L:List Opr) (n:Nat) (hn:L.length=n) (h1:n<=maxLen) (ad:Option Addr) (cap:Nat) (a b c:Int) (w:World) (hk:OpK w) (hr:OpsAt w ad L) (hF:zfV L) (ha:zaz a) (hb:zaz b) :
  Calls Tryz.prog 76 #[.slice ad n cap,.int .i64 a,.int .i64 b,.int .i64 c] w λe w'=>zgB e w' (zaD L a b c) n (zD L a b)/\Below w.heap.size w w':=by
 have hm:n<=9223372036854775807:=h1
 by_cases h16:16<n
 ·have e:zaD L a b c=6:=if_pos (by rw[hn];exact h16);rw[e];have HA:=za (fun(w':World)=>show zgB (.returned (.tuple #[.slice none 0 0,.int .i64 6])) w' 6 n (zD L a b) from .inl ⟨by decide,none,0,rfl⟩);clear hr hF hn h1 e ha hb hk
  go_enter Tryz.func76,Tryz.ntmps76
  go_wp2;exact bodyPost_ret (v:=.tuple #[.slice none 0 0,.int .i64 6]) (by simp[results,Tryz.results76,go_sem]) rfl ⟨HA.out _,Below.refl _ _⟩
 have CFT:=λw=>zhV a b c w
 by_cases hft:zaE a b c=true
 case neg =>
  have e:zaD L a b c=5:=(if_neg (by rw[hn];exact h16)).trans (if_pos (by simpa using hft));rw[e];have HA:=za (fun(w':World)=>show zgB (.returned (.tuple #[.slice none 0 0,.int .i64 5])) w' 5 n (zD L a b) from .inl ⟨by decide,none,0,rfl⟩);rw[show zaE a b c=false by simpa using hft]at CFT;clear hr hF hn h1 e hft ha hb hk
  go_enter Tryz.func76,Tryz.ntmps76
  go_wp2_with (go_at_call 99;(with_reducible refine(CFT _).mono ?_);rintro e w1 ⟨rfl,rfl⟩)
  exact bodyPost_ret (v:=.tuple #[.slice none 0 0,.int .i64 5]) (by simp[results,Tryz.results76,go_sem]) rfl ⟨HA.out _,Below.refl _ _⟩
 have e0:zaD L a b c=zah L a b c n:=by
  unfold zaD;rw[if_neg (by rw[hn];exact h16),if_neg (by rw[hft];decide),hn]
 rw[e0];have HBAD:=za (fun(k:Nat) (w':World) (hk:k<n) (hf:zah L a b c k=0) (hs:zaO L a b c k≠0)=>show zgB (.returned (.tuple #[.slice none 0 0,.int .i64 (zaO L a b c k)])) w' (zah L a b c n) n (zD L a b) by
  rw[zgs hf hs hk];exact .inl ⟨hs,none,0,rfl⟩)
 have HR:=za hr;have HN:=za hn;have HF:=za hF;have HK:=za (fun(w':World) (b':Below w.heap.size w w')=>zaW w w' hk b');obtain⟨zs,MK,MO⟩:=zxD n (by omega);have HMO:=za MO;have hfit0:1<=a/\a<=65536/\1<=b/\b<=65536:=⟨(ze8 hft).1.1,(ze8 hft).1.2,(ze8 hft).2.1.1,(ze8 hft).2.1.2⟩;have HG:Hid (∀ k,zaz (zm L a b k).1/\zaz (zm L a b k).2\/¬zah L a b c k=0\/n<k):=za (λk=>by
  induction k with
  |zero=>exact .inl ⟨ha,hb⟩
  |succ k ih =>
   by_cases hkn:n<k+1
   ·exact .inr (.inr hkn)
   by_cases hz:zah L a b c (k+1)=0
   ·have hbk:=zeY hz (show k<k+1 by omega);have hst:=hbk.2;have ho:zC (zh L k) (zm L a b k).1 (zm L a b k).2=0:=by
     by_cases g:zC (zh L k) (zm L a b k).1 (zm L a b k).2=0
     ·exact g
     ·rw[zki g]at hst;exact absurd hst g
    rw[zjc ho]at hst;have hfx:zaE (toW (zh L k) (zm L a b k).1) (toH (zh L k) (zm L a b k).2) c=true:=by
     by_cases g:zaE (toW (zh L k) (zm L a b k).1) (toH (zh L k) (zm L a b k).2) c=true
     ·exact g
     ·rw[if_neg g]at hst;cases hst
    obtain⟨⟨q0,q1⟩,⟨q2,q3⟩,_⟩:=ze8 hfx;refine .inl ⟨?_,?_⟩
    ·show zaz (toW (zh L k) (zm L a b k).1)
     unfold zaz;omega
    ·show zaz (toH (zh L k) (zm L a b k).2)
     unfold zaz;omega
   ·exact .inr (.inl hz))
 rw[hft]at CFT;clear hr hF hn h1 e0 hft hk MO hfit0 ha hb
 go_enter Tryz.func76,Tryz.ntmps76
 go_wp2_with (go_at_call 99;(with_reducible refine(CFT _).mono ?_);rintro e w1 ⟨rfl,rfl⟩)
 have F0:=za (HMO.out w (zD L a b));have hw0:w.heap.size<(w.alloc (.cells zs 36)).heap.size:=by simp
 go_loopw [1,2,28] (λp q i wr=>∃ k:Nat,k<=n/\i=.int .i64 (k:Int)/\p=.int .i64 (zm L a b k).1/\q=.int .i64 (zm L a b k).2/\Hid (zah L a b c k=0)/\Hid (StgFill wr w.heap.size n k (zD L a b))/\Below w.heap.size w wr) (λ_ _ i _=>n-(intOf i).toNat)
 case atStart=>exact⟨0,by omega,rfl,rfl,rfl,za rfl,F0,zg _ _⟩
 case round =>
  clear CFT F0 MK HMO;obtain⟨k,hk,rfl,rfl,rfl,hf,HS,hb⟩:=hrel;have HB:=za hb
  by_cases hlt:k<n
  ·obtain⟨bl,off,rfl,hop⟩:=HR.out.get (show k<L.length by rw[HN.out];exact hlt);obtain⟨g0,g1,g2,g3,g6,g7,g8,ax,cx,ay,cy,g4,g5,ga⟩:=hop.below hb;have HBADk:=za (λw' hs=>HBAD.out k w' hlt hf.out hs);have hfit:=HF.out k (by rw[HN.out];exact hlt);have h64:zaz (zm L a b k).1/\zaz (zm L a b k).2:=by
    rcases HG.out k with g|g|g
    ·exact g
    ·exact absurd hf.out g
    ·omega
   have CM:=λw' (b':Below wr.heap.size wr w')=>zeh (zh L k) ax cx ay cy (zm L a b k).1 (zm L a b k).2 w' (HK.out w' (bt hb b')) (ga.below b') hfit h64.1 h64.2
   have CZ:=λw'=>ztv (zh L k) ax cx ay cy (zm L a b k).1 (zm L a b k).2 w'
   have CF:=λw'=>zhV (toW (zh L k) (zm L a b k).1) (toH (zh L k) (zm L a b k).2) c w'
   have P0:=za (P9.new wr 31 (zh L k).kd (zh L k).bd (zh L k).sg (zh L k).rd (.slice ax (zh L k).xs.length cx) (.slice ay (zh L k).ys.length cy) (zh L k).fl (zh L k).wd (zh L k).ht);have so:=zki (L:=L) (a:=a) (b:=b) (c:=c) (k:=k);have sf:=zjc (L:=L) (a:=a) (b:=b) (c:=c) (k:=k);unfold opV at CM CZ;clear ga hfit hb hop h64
   by_cases hz:zC (zh L k) (zm L a b k).1 (zm L a b k).2=0
   case neg =>
    have CM2:∀ w',Below wr.heap.size wr w'->Calls Tryz.prog 34 #[.agg #[.int .i64 (zh L k).kd,.int .i64 (zh L k).bd,.int .i64 (zh L k).sg,.int .i64 (zh L k).rd,.slice ax (zh L k).xs.length cx,.slice ay (zh L k).ys.length cy,.int .i64 (zh L k).fl,.int .i64 (zh L k).wd,.int .i64 (zh L k).ht],.int .i64 (zm L a b k).1,.int .i64 (zm L a b k).2] w' λe w''=>e=.returned (.tuple #[.agg #[.pointer none,.pointer none,.int .i64 0],.int .i64 (zC (zh L k) (zm L a b k).1 (zm L a b k).2)])/\Below w'.heap.size w' w'':=λw' b' =>
     (CM w' b').mono λe w'' ⟨hA,hB⟩=>by
      rcases hA with⟨_,he⟩|⟨h0,_⟩
      ·exact⟨he,hB⟩
      ·exact absurd h0 hz
    have HE:=za (λw'=>by have:=HBADk.out w' (by rw[so hz];exact hz);rw[so hz]at this;exact this);have qz:(zC (zh L k) (zm L a b k).1 (zm L a b k).2 != 0)=true:=bne_iff_ne.2 hz;clear CM CZ CF so sf hz HBADk HBAD;generalize zC (zh L k) (zm L a b k).1 (zm L a b k).2=oc at *;generalize (zm L a b k).1=p at *;generalize (zm L a b k).2=q at *;generalize (zh L k).kd=kd at *;generalize (zh L k).bd=bd at *;generalize (zh L k).sg=sg at *;generalize (zh L k).rd=rd at *;generalize (zh L k).xs.length=nx at *;generalize (zh L k).ys.length=ny at *;generalize (zh L k).fl=fl at *;generalize (zh L k).wd=wd at *;generalize (zh L k).ht=ht at *
    go_wp2_with (go_at_call 34;(with_reducible refine(CM2 _ (zg _ _)).mono ?_);rintro e w3 ⟨rfl,b3⟩)
    exact bodyPost_ret (v:=.tuple #[.slice none 0 0,.int .i64 oc]) (by simp[results,Tryz.results76,go_sem]) rfl ⟨HE.out _,ba (bt (ba HB.out _) b3) _⟩
   have CM2:∀ w',Below wr.heap.size wr w'->Calls Tryz.prog 34 #[.agg #[.int .i64 (zh L k).kd,.int .i64 (zh L k).bd,.int .i64 (zh L k).sg,.int .i64 (zh L k).rd,.slice ax (zh L k).xs.length cx,.slice ay (zh L k).ys.length cy,.int .i64 (zh L k).fl,.int .i64 (zh L k).wd,.int .i64 (zh L k).ht],.int .i64 (zm L a b k).1,.int .i64 (zm L a b k).2] w' λe w''=>(∃ gx gy,e=.returned (.tuple #[.agg #[.pointer (some gx),.pointer (some gy),.int .i64 (zD L a b k).sb],.int .i64 0])/\Tab w'' (.pointer (some gx)) (zD L a b k).fx (zD L a b k).lx/\Tab w'' (.pointer (some gy)) (zD L a b k).fy (zD L a b k).ly)/\Below w'.heap.size w' w'':=λw' b' =>
    (CM w' b').mono λe w'' ⟨hA,hB⟩=>by
     rcases hA with⟨h0,_⟩|⟨_,x,y,he,tx,ty⟩
     ·exact absurd hz h0
     ·obtain⟨gx,rfl⟩:=tx.ptr;obtain⟨gy,rfl⟩:=ty.ptr;exact⟨⟨gx,gy,he,tx,ty⟩,hB⟩
   have hstep:=sf hz;clear CM so sf hz HBAD
   by_cases hq:zaE (toW (zh L k) (zm L a b k).1) (toH (zh L k) (zm L a b k).2) c=true
   case neg =>
    rw[if_neg hq]at hstep;have HE:=za (λw'=>by have:=HBADk.out w' (by rw[hstep];decide);rw[hstep]at this;exact this);rw[show zaE (toW (zh L k) (zm L a b k).1) (toH (zh L k) (zm L a b k).2) c=false by simpa using hq]at CF;clear hstep hq HBADk HS;generalize toW (zh L k) (zm L a b k).1=p' at *;generalize toH (zh L k) (zm L a b k).2=q' at *;generalize (zm L a b k).1=p at *;generalize (zm L a b k).2=q at *;generalize (zD L a b k)=S at *;obtain⟨lx,ly,fx,fy,sb⟩:=S;simp only at CM2;generalize (zh L k).kd=kd at *;generalize (zh L k).bd=bd at *;generalize (zh L k).sg=sg at *;generalize (zh L k).rd=rd at *;generalize (zh L k).xs.length=nx at *;generalize (zh L k).ys.length=ny at *;generalize (zh L k).fl=fl at *;generalize (zh L k).wd=wd at *;generalize (zh L k).ht=ht at *
    go_wp2_with (first
     |(go_at_call 34;(with_reducible refine(CM2 _ (zg _ _)).mono ?_);rintro e w3 ⟨⟨gx,gy,rfl,_,_⟩,b3⟩;have P3:=(P0.out.below b3).below (zg w3 (.cells #[.pointer (some gx),.pointer (some gy),.int .i64 sb] 36));obtain⟨a0,a1,a2,a3,a4,a5,a6,a7,a8⟩:=P3)
     |(go_at_call 116;(with_reducible refine(CZ _).mono ?_);rintro e w4 ⟨rfl,b4⟩)
     |(go_at_call 99;(with_reducible refine(CF _).mono ?_);rintro e w5 ⟨rfl,rfl⟩))
    exact bodyPost_ret (v:=.tuple #[.slice none 0 0,.int .i64 5]) (by simp[results,Tryz.results76,go_sem]) rfl ⟨HE.out _,bt (ba (bt (ba HB.out _) b3) _) b4⟩
   rw[if_pos hq]at hstep;rw[hq]at CF;have hfn:=za (ziH hf.out hstep);have hw1:=HB.out.size;have HMORE:=za (fun(W:World) (gx gy:Addr) (s:StgFill W w.heap.size n k (zD L a b)) (tx:Tab W (.pointer (some gx)) (zD L a b k).fx (zD L a b k).lx) (ty:Tab W (.pointer (some gy)) (zD L a b k).fy (zD L a b k).ly)=>s.more hlt tx ty);clear hstep hq HBADk hf;rw[show toW (zh L k) (zm L a b k).1=(zm L a b (k+1)).1 from rfl,show toH (zh L k) (zm L a b k).2=(zm L a b (k+1)).2 from rfl]at CZ CF;generalize (zm L a b k).1=p at *;generalize (zm L a b k).2=q at *;generalize (zD L a b k).fx=fx at *;generalize (zD L a b k).fy=fy at *;generalize (zD L a b k).lx=lx at *;generalize (zD L a b k).ly=ly at *;generalize (zD L a b k).sb=sb at *;generalize (zh L k).kd=kd at *;generalize (zh L k).bd=bd at *;generalize (zh L k).sg=sg at *;generalize (zh L k).rd=rd at *;generalize (zh L k).xs.length=nx at *;generalize (zh L k).ys.length=ny at *;generalize (zh L k).fl=fl at *;generalize (zh L k).wd=wd at *;generalize (zh L k).ht=ht at *
   go_wp2_with (first
    |(go_at_call 34;(with_reducible refine(CM2 _ (zg _ _)).mono ?_);rintro e w3 ⟨⟨gx,gy,rfl,tx,ty⟩,b3⟩;have P3:=(P0.out.below b3).below (zg w3 (.cells #[.pointer (some gx),.pointer (some gy),.int .i64 sb] 36));obtain⟨a0,a1,a2,a3,a4,a5,a6,a7,a8⟩:=P3;have TX:=za tx;have TY:=za ty;clear tx ty;have s3:=b3.size;simp at s3)
    |(go_at_call 116;(with_reducible refine(CZ _).mono ?_);rintro e w4 ⟨rfl,b4⟩;have T4:=S3.below (S3.new w3 36 (.pointer (some gx)) (.pointer (some gy)) (.int .i64 sb)) b4;obtain⟨⟨t0,_⟩,⟨t1,_⟩,⟨t2,_⟩⟩:=T4;have s4:=b4.size;simp at s4;have F4:=(HS.out.below (bt (ba (bt (zg _ _) b3) _) b4));have HF4:=za F4;obtain⟨⟨⟨v0,r0⟩,y0⟩,⟨⟨v1,r1⟩,y1⟩,⟨v2,r2⟩,y2⟩:=F4.room hlt)
    |(go_at_call 99;(with_reducible refine(CF _).mono ?_);rintro e w5 ⟨rfl,rfl⟩))
   have M5:=za (HMORE.out w4 gx gy HF4.out ((TX.out.below (zg _ _)).below b4) ((TY.out.below (zg _ _)).below b4));have B5:=za (show Below w.heap.size w (((w4.setCell ⟨w.heap.size,k*3,none⟩ (.pointer (some gx))).setCell ⟨w.heap.size,k*3+1,none⟩ (.pointer (some gy))).setCell ⟨w.heap.size,k*3+2,none⟩ (.int .i64 sb)) from bs (bs (bs (bt (ba (bt (ba HB.out _) b3) _) b4) (Nat.le_refl _) _) (Nat.le_refl _) _) (Nat.le_refl _) _);clear HF4 TX TY b3 b4 a0 a1 a2 a3 a4 a5 a6 a7 a8 t0 t1 t2 r0 r1 r2 y0 y1 y2 HMORE;go_wp2
   go_roundw
   case rel=>exact⟨k+1,by omega,by go_num,rfl,rfl,hfn,M5,B5.out⟩
   case measure=>simp[intOf];omega
  ·obtain rfl:k=n:=by omega
   have hv:=hf.out;have HA:=za (show zgB (.returned (.tuple #[.slice (some ⟨w.heap.size,0,none⟩) k k,.int .i64 0])) wr (zah L a b c k) k (zD L a b) from .inr ⟨hv,_,k,rfl,HS.out.at⟩);clear hv hb hf HS;go_wp2;exact bodyPost_ret (v:=.tuple #[.slice (some ⟨w.heap.size,0,none⟩) k k,.int .i64 0]) (by simp[results,Tryz.results76,go_sem]) rfl ⟨HA.out,HB.out⟩
theorem zvj:zyd OpK:=λL ad cap a b c w hk hr hF h1 _ ha hb _=>zxs L L.length rfl h1 ad cap a b c w hk hr hF ha hb
def zkJ (L:List Opr) (n:Nat) (I:Im) (e:Ending) (w':World):Prop:=zaD L I.iw I.ih I.ic=0/\n<=4/\zcj 12 L n=false/\∃ ad cap ad' cap',e=.returned (.tuple #[.slice ad n cap,.slice ad' n cap',.bool true])/\StgsAt w' ad n (zD L I.iw I.ih)/\StgsRef w' ad' n (zD L I.iw I.ih)
def zlZ (L:List Opr) (n:Nat) (I:Im) (e:Ending):Prop:=¬(zaD L I.iw I.ih I.ic=0/\n<=4/\zcj 12 L n=false)/\∃ v v',e=.returned (.tuple #[v,v',.bool false])
theorem zwm {w:World} {ad:Option Addr} {n:Nat} {F:Nat->Stg} (h:StgsAt w ad n F) (j:Nat) (hj:j<n):(F j).lx≠[]/\(F j).ly≠[]:=by
 rcases h with h|⟨b,off,_,h⟩
 ·omega
 ·obtain⟨x,y,_,_,_,tx,ty⟩:=h j hj;exact⟨λe=>by have:=tx.ok.2.1;rw[e]at this;exact absurd this (by decide),λe=>by have:=ty.ok.2.1;rw[e]at this;exact absurd this (by decide)⟩
set_option maxHeartbeats 4000000 in
set_option maxRecDepth 100000 in
theorem zj3 (L:List Opr) (n:Nat) (hn:L.length=n) (h1:n<=maxLen) (ad:Option Addr) (cap:Nat) (hz:ad=none->cap=0) (w:World) (hk:OpK w) (hr:OpsAt w ad L) (hF:zfV L) {g h:Nat} {I:Im} (H:ImgAt w g h I) :
  Calls Tryz.prog 38 #[.slice ad n cap,.pointer (some ⟨g,0,none⟩)] w λe w'=>(zkJ L n I e w'\/zlZ L n I e)/\Below w.heap.size w w':=by
 have hm:n<=9223372036854775807:=h1;obtain⟨a0,a1,b0,b1,c0,_⟩:=H.ok;have CL:=λw' (b:Below w.heap.size w w')=>zpI L n hn h1 12 ad cap w' (hr.below b)
 have CR:=λw' (b:Below w.heap.size w w') (h4:n<=4)=>zp8 L n hn (by omega) ad cap w' (hr.below b)
 have CA:=λw' (b:Below w.heap.size w w')=>zvj L ad cap I.iw I.ih I.ic w' (zaW _ _ hk b) (hr.below b) hF (by rw[hn];exact h1) hz (by unfold zaz;omega) (by unfold zaz;omega) (by unfold zaz;omega)
 have CD:=λw' ad' cap' (hr':OpsAt w' ad' L)=>zvL L n hn h1 ad' cap' I.iw I.ih I.ic w' hr' hF
 rw[hn]at CA;have CW:=λw' (b:Below w.heap.size w w')=>zdu (H.below b)
 have CH:=λw' (b:Below w.heap.size w w')=>zcO (H.below b)
 have CC:=λw' (b:Below w.heap.size w w')=>zaF (H.below b)
 have B0:=za (Below.refl w.heap.size w);have q2:∀ (a:Addr) (w:World),(binOp .eql 33 (.pointer (some a)) (.pointer none)).run Tryz.prog w=.ok (.bool false) w:=λa w=>by kernel_rfl
 unfold zkJ zlZ
 by_cases h4:4<n
 ·have h4':(4:Int)<(n:Int):=by omega
  clear CL CR CA CD CW CH CC hr hF H hk hz hn
  go_enter Tryz.func38,Tryz.ntmps38
  go_wp2_with fail
  exact bodyPost_ret (v:=.tuple #[.slice none 0 0,.slice none 0 0,.bool false]) (by simp[results,Tryz.results38,go_sem]) rfl ⟨.inr ⟨fun⟨_,q,_⟩=>absurd q (by omega),_,_,rfl⟩,B0.out⟩
 have h5:n<=4:=by omega
 have h5':¬(4:Int)<(n:Int):=by omega
 have h5'':(n:Int)<=4:=by omega
 cases hb:zcj 12 L n with
 |true =>
  rw[hb]at CL;clear CR CA CD CW CH CC hr hF H hk hz hn
  go_enter Tryz.func38,Tryz.ntmps38
  go_wp2_with (go_at_call 75;(with_reducible refine(CL _ B0.out).mono ?_);rintro e w1 ⟨rfl,b1⟩;have B1:=za (bt B0.out b1))
  exact bodyPost_ret (v:=.tuple #[.slice none 0 0,.slice none 0 0,.bool false]) (by simp[results,Tryz.results38,go_sem]) rfl ⟨.inr ⟨fun⟨_,_,q⟩=>(by simp at q),_,_,rfl⟩,B1.out⟩
 |false =>
  rw[hb]at CL
  replace CR:=λw' b=>CR w' b h5
  obtain⟨iw,hiw⟩:∃ iw,I.iw=iw:=⟨_,rfl⟩;obtain⟨ih,hih⟩:∃ ih,I.ih=ih:=⟨_,rfl⟩;obtain⟨ic,hic⟩:∃ ic,I.ic=ic:=⟨_,rfl⟩;rw[hiw]at CA CD CW ⊢;rw[hih]at CA CD CH ⊢;rw[hic]at CA CD CC ⊢;obtain⟨F,hFF⟩:∃ F,zD L iw ih=F:=⟨_,rfl⟩;rw[hFF]at CA CD ⊢;obtain⟨K,hK⟩:∃ K,zaD L iw ih ic=K:=⟨_,rfl⟩;simp only[hK]at CA CD ⊢;clear hr hF H hk hz hn hiw hih hic hFF
  by_cases hz:K=0
  ·subst hz;have CA2:∀ w',Below w.heap.size w w'->Calls Tryz.prog 76 #[.slice ad n cap,.int .i64 iw,.int .i64 ih,.int .i64 ic] w' λe w''=>(∃ ad cap,e=.returned (.tuple #[.slice ad n cap,.int .i64 0])/\StgsAt w'' ad n F)/\Below w'.heap.size w' w'':=λw' b=>(CA w' b).mono λe w'' ⟨hA,hB⟩=>by
    rcases hA with⟨h0,_⟩|⟨_,hA⟩
    ·exact absurd rfl h0
    ·exact⟨hA,hB⟩
   have CD2:∀ w' ad' cap',OpsAt w' ad' L->(∀ j,j<n->(F j).lx≠[]/\(F j).ly≠[])->Calls Tryz.prog 77 #[.slice ad' n cap',.int .i64 iw,.int .i64 ih,.int .i64 ic] w' λe w''=>(∃ ad cap,e=.returned (.tuple #[.slice ad n cap,.int .i64 0])/\StgsRef w'' ad n F)/\Below w'.heap.size w' w'':=λw' ad' cap' b hne=>(CD w' ad' cap' b).mono λe w'' ⟨hA,hB⟩=>by
    rcases hA with⟨h0,_⟩|⟨_,v,he,hA⟩
    ·exact absurd rfl h0
    ·obtain⟨ad2,cap2,rfl,hs⟩:=hA.read hne;exact⟨⟨ad2,cap2,he,hs⟩,hB⟩
   clear CA CD
   go_enter Tryz.func38,Tryz.ntmps38
   go_wp2_with (first
    |(go_at_call 75;(with_reducible refine(CL _ B0.out).mono ?_);rintro e w1 ⟨rfl,b1⟩;have B1:=za (bt B0.out b1))
    |(go_at_call 24;(first|with_reducible refine(CW _ B3.out).mono ?_|with_reducible refine(CW _ B1.out).mono ?_);rintro e w9 ⟨rfl,rfl⟩)
    |(go_at_call 25;(first|with_reducible refine(CH _ B3.out).mono ?_|with_reducible refine(CH _ B1.out).mono ?_);rintro e w9 ⟨rfl,rfl⟩)
    |(go_at_call 17;(first|with_reducible refine(CC _ B3.out).mono ?_|with_reducible refine(CC _ B1.out).mono ?_);rintro e w9 ⟨rfl,rfl⟩)
    |(go_at_call 76;(with_reducible refine(CA2 _ B1.out).mono ?_);rintro e w2 ⟨⟨ad2,cap2,rfl,hs2⟩,b2⟩;have B2:=za (bt B1.out b2);have HS2:=za hs2;clear hs2)
    |(go_at_call 78;(with_reducible refine(CR _ B2.out).mono ?_);rintro e w3 ⟨ad3,cap3,rfl,hr3,hz3,b3⟩;have B3:=za (bt B2.out b3);have HS3:=za (HS2.out.below b3);have HR3:=za hr3;clear hr3)
    |(go_at_call 77;(with_reducible refine(CD2 _ _ _ HR3.out (zwm HS3.out)).mono ?_);rintro e w4 ⟨⟨ad4,cap4,rfl,hs4⟩,b4⟩;have B4:=za (bt B3.out b4);have HS4:=za (HS3.out.below b4);have HQ4:=za hs4;clear hs4))
   exact bodyPost_ret (v:=.tuple #[.slice ad2 n cap2,.slice ad4 n cap4,.bool true]) (by simp[results,Tryz.results38,go_sem]) rfl ⟨.inl ⟨trivial,h5,trivial,_,_,_,_,rfl,HS4.out,HQ4.out⟩,B4.out⟩
  ·have CA2:∀ w',Below w.heap.size w w'->Calls Tryz.prog 76 #[.slice ad n cap,.int .i64 iw,.int .i64 ih,.int .i64 ic] w' λe w''=>(∃ ad cap,e=.returned (.tuple #[.slice ad 0 cap,.int .i64 K]))/\Below w'.heap.size w' w'':=λw' b=>(CA w' b).mono λe w'' ⟨hA,hB⟩=>by
    rcases hA with⟨_,hA⟩|⟨h0,_⟩
    ·exact⟨hA,hB⟩
    ·exact absurd h0 hz
   have CD2:∀ w' ad' cap',OpsAt w' ad' L->Calls Tryz.prog 77 #[.slice ad' n cap',.int .i64 iw,.int .i64 ih,.int .i64 ic] w' λe w''=>e=.returned (.tuple #[.slice none 0 0,.int .i64 K])/\Below w'.heap.size w' w'':=λw' ad' cap' b=>(CD w' ad' cap' b).mono λe w'' ⟨hA,hB⟩=>by
    rcases hA with⟨_,hA⟩|⟨h0,_⟩
    ·exact⟨hA,hB⟩
    ·exact absurd h0 hz
   clear CA CD
   go_enter Tryz.func38,Tryz.ntmps38
   go_wp2_with (first
    |(go_at_call 75;(with_reducible refine(CL _ B0.out).mono ?_);rintro e w1 ⟨rfl,b1⟩;have B1:=za (bt B0.out b1))
    |(go_at_call 24;(first|with_reducible refine(CW _ B3.out).mono ?_|with_reducible refine(CW _ B1.out).mono ?_);rintro e w9 ⟨rfl,rfl⟩)
    |(go_at_call 25;(first|with_reducible refine(CH _ B3.out).mono ?_|with_reducible refine(CH _ B1.out).mono ?_);rintro e w9 ⟨rfl,rfl⟩)
    |(go_at_call 17;(first|with_reducible refine(CC _ B3.out).mono ?_|with_reducible refine(CC _ B1.out).mono ?_);rintro e w9 ⟨rfl,rfl⟩)
    |(go_at_call 76;(with_reducible refine(CA2 _ B1.out).mono ?_);rintro e w2 ⟨⟨ad2,cap2,rfl⟩,b2⟩;have B2:=za (bt B1.out b2))
    |(go_at_call 78;(with_reducible refine(CR _ B2.out).mono ?_);rintro e w3 ⟨ad3,cap3,rfl,hr3,hz3,b3⟩;have B3:=za (bt B2.out b3);have HR3:=za hr3;clear hr3)
    |(go_at_call 77;(with_reducible refine(CD2 _ _ _ HR3.out).mono ?_);rintro e w4 ⟨rfl,b4⟩;have B4:=za (bt B3.out b4)))
   exact bodyPost_ret (v:=.tuple #[.slice ad2 0 cap2,.slice none 0 0,.bool false]) (by simp[results,Tryz.results38,go_sem]) rfl ⟨.inr ⟨fun⟨q,_,_⟩=>hz q,_,_,rfl⟩,B4.out⟩
theorem zqt {L:List Opr} {n:Nat} (hn:L.length=n) (h1:n<=maxLen) {ad:Option Addr} {cap:Nat} (hz:ad=none->cap=0) {w:World} (hk:OpK w) (hr:OpsAt w ad L) (hF:zfV L) {g h:Nat} {I:Im} (H:ImgAt w g h I) (hy:zaD L I.iw I.ih I.ic=0/\n<=4/\zcj 12 L n=false) :
  Calls Tryz.prog 38 #[.slice ad n cap,.pointer (some ⟨g,0,none⟩)] w λe w'=>(∃ ad cap ad' cap',e=.returned (.tuple #[.slice ad n cap,.slice ad' n cap',.bool true])/\StgsAt w' ad n (zD L I.iw I.ih)/\StgsRef w' ad' n (zD L I.iw I.ih))/\Below w.heap.size w w' :=
 (zj3 L n hn h1 ad cap hz w hk hr hF H).mono λe w' ⟨hA,hB⟩=>by
  rcases hA with⟨_,_,_,q⟩|⟨q,_⟩
  ·exact⟨q,hB⟩
  ·exact absurd hy q
theorem zs8 {L:List Opr} {n:Nat} (hn:L.length=n) (h1:n<=maxLen) {ad:Option Addr} {cap:Nat} (hz:ad=none->cap=0) {w:World} (hk:OpK w) (hr:OpsAt w ad L) (hF:zfV L) {g h:Nat} {I:Im} (H:ImgAt w g h I) (hy:¬(zaD L I.iw I.ih I.ic=0/\n<=4/\zcj 12 L n=false)) :
  Calls Tryz.prog 38 #[.slice ad n cap,.pointer (some ⟨g,0,none⟩)] w λe w'=>(∃ v v',e=.returned (.tuple #[v,v',.bool false]))/\Below w.heap.size w w' :=
 (zj3 L n hn h1 ad cap hz w hk hr hF H).mono λe w' ⟨hA,hB⟩=>by
  rcases hA with⟨a,b,c,_⟩|⟨_,q⟩
  ·exact absurd ⟨a,b,c⟩ hy
  ·exact⟨q,hB⟩
theorem zoE {L:List Opr} {n:Nat} (hn:L.length=n) {I:Im} (hI:zay I) (i0:I.iw<=20) (i1:I.ih<=20) (hy:zaD L I.iw I.ih I.ic=0/\n<=4/\zcj 12 L n=false) :
  (∀ j,j<n->zcF (zD L I.iw I.ih j))/\∀ k,k<=n->zcA I (zh4 (zD L I.iw I.ih) k)=0:=by
 subst hn;obtain⟨a,_,c⟩:=hy;exact⟨λj hj=>(zjT a c i0 i1 j hj).1,λk hk=>(zth hI a k hk).1⟩
theorem zbn {B:World} {b:Nat} (hb:B.heap.size<=b):∀ (vs:List Value) (k:Nat) (w:World),Below B.heap.size B w->Below B.heap.size B (w.setCells b k vs)
 |[],_,_,h=>h
 |v :: r,k,_,h=>zbn hb r (k+1) _ (bs h hb v)
def CellsAt (w:World) (b:Nat) (L:List Value):Prop:=∀ j v,L[j]?=some v->w.cell? ⟨b,j,none⟩=some v
theorem CellsAt.below {w w':World} {b:Nat} {L:List Value} (h:CellsAt w b L) (hb:Below w.heap.size w w'):CellsAt w' b L:=λj v hj=>cb hb (ze (h j v hj)) (h j v hj)
theorem CellsAt.new (w:World) (L:List Value) (T:TypeId):CellsAt (w.alloc (.cells L.toArray T)) w.heap.size L:=λj v hj=>by
 simp only[World.cell?,World.alloc,Array.getElem?_push_size]
 simpa using hj
theorem CellsAt.has {w:World} {b:Nat} {L:List Value} (h:CellsAt w b L) {i:Nat} (hi:i<L.length):(w.cell? ⟨b,i,none⟩).isSome=true:=by
 rw[h i L[i] (List.getElem?_eq_getElem hi)];rfl
theorem CellsAt.fill {w:World} {b:Nat} {L vs:List Value} (h:CellsAt w b L) (hl:vs.length=L.length):CellsAt (w.setCells b 0 vs) b vs:=λj v hj=>by
 obtain⟨hi,e⟩:=List.getElem?_eq_some_iff.1 hj;have:=World.cell?_setCells_in b vs 0 w (λi hi=>by rw[Nat.zero_add];exact h.has (by omega)) j hi;rw[Nat.zero_add,e]at this;exact this
theorem CellsAt.store {w:World} {b:Nat} {L:List Value} (h:CellsAt w b L) (hf:∀ j,w.frozen? ⟨b,j,none⟩=false) (vs:List Value) (hl:vs.length=L.length) (h1:∀ v ∈ vs,v.oneCell'=true) (k:Nat) :
  (storeCells ⟨b,0,none⟩ vs 0).run Tryz.prog (w.drewN k)=.ok () ((w.drewN k).setCells b 0 vs):=by
 have:=run_storeCells_cells (P:=Tryz.prog) b 0 vs 0 (w.drewN k) (λj hj=>by have q:=h.has (i:=j) (by omega);simpa using q) (λj _=>hf _) h1
 simpa using this
theorem CellsAt.store0 {w:World} {b:Nat} {L:List Value} (h:CellsAt w b L) (hf:∀ j,w.frozen? ⟨b,j,none⟩=false) (vs:List Value) (hl:vs.length=L.length) (h1:∀ v ∈ vs,v.oneCell'=true) :
  (storeCells ⟨b,0,none⟩ vs 0).run Tryz.prog w=.ok () (w.setCells b 0 vs):=by
 have:=run_storeCells_cells (P:=Tryz.prog) b 0 vs 0 w (λj hj=>by have q:=h.has (i:=j) (by omega);simpa using q) (λj _=>hf _) h1
 simpa using this
def zas:List Value:=[.pointer none,.pointer none,.pointer none,.pointer none,.int .i64 0,.slice none 0 0,.slice none 0 0,.int .i64 0,.int .i64 0,.int .i64 0,.int .i64 0,.int .i64 0,.int .i64 0,.int .i64 0,.int .i64 0,.int .i64 0,.int .i64 0,.int .i64 0,.int .i64 0,.int .i64 0]
theorem CellsAt.load {w:World} {b:Nat} {L:List Value} (h:CellsAt w b L) (hl:L.length=20):(loadVar 45 ⟨b,0,none⟩).run Tryz.prog w=.ok (.agg L.toArray) w:=by
 have hi:(Tryz.prog.info? 45).map (·.size)=some 20:=by kernel_rfl
 exact run_loadVar_mid w b 0 45 L _ (λj v hj=>by rw[Nat.zero_add];exact h j v hj) Tryz.underlying45 rfl (by rw[hi,hl])
def CellsEnd (w:World) (b n:Nat):Prop:=∀ j,n<=j->w.cell? ⟨b,j,none⟩=none
theorem CellsEnd.below {w w':World} {b n:Nat} (h:CellsEnd w b n) (hl:b<w.heap.size) (hb:Below w.heap.size w w'):CellsEnd w' b n:=λj hj=>by
 have:=h j hj;unfold World.cell? at this ⊢;rw[hb.block b hl];exact this
theorem CellsEnd.new (w:World) (L:List Value) (T:TypeId):CellsEnd (w.alloc (.cells L.toArray T)) w.heap.size L.length:=λj hj=>by
 simp only[World.cell?,World.alloc,Array.getElem?_push_size]
 simpa using hj
theorem zw3 {w:World} {b a off:Nat} {x:Addr} (h:CellsAt w b zas) (he:CellsEnd w b 20) (hx:w.cell? ⟨a,off,none⟩=some (.pointer (some x))):b≠a:=by
 rintro rfl
 by_cases hl:off<20
 ·have:=h off zas[off] (List.getElem?_eq_getElem hl);rw[hx]at this;have hm:Value.pointer (some x) ∈ zas:=by
   rw[Option.some.inj this];exact List.getElem_mem hl
  unfold zas at hm;simp at hm
 ·rw[he off (by omega)]at hx
  cases hx
theorem zva {w:World} {b a:Nat} {x:Option Addr} {n c:Nat} (h:CellsAt w b zas) (hx:w.cell? ⟨a,0,none⟩=some (.slice x n c)):b≠a:=by
 rintro rfl;rw[h 0 _ rfl]at hx;simp at hx
theorem zlj (b o:Nat) (n:Int) (w:World):(storeCells ⟨b,o,none⟩ [.int .i64 n] 0).run Tryz.prog w=(store ⟨b,o,none⟩ (.int .i64 n)).run Tryz.prog w:=by
 have hadd:(⟨b,o,none⟩:Addr).add 0=⟨b,o,none⟩:=by unfold Addr.add;split<;>simp_all
 simp only[storeCells,hadd,Sem.run_bind]
 cases (store (⟨b,o,none⟩:Addr) (.int .i64 n)).run Tryz.prog w<;>rfl
theorem ztN {o:Opr} {I:Im} (hI:zay I) (i0:I.iw<=20) (i1:I.ih<=20) (hy:zaD [o] I.iw I.ih I.ic=0/\1<=4/\zcj 12 [o] 1=false) {S:Stg} (hS:zD [o] I.iw I.ih 0=S) :
  zcF S/\zao I S=0/\zdK S.ly/\zaL S.ly<=65536/\zC o I.iw I.ih=0/\¬zdc 12 o/\S=zj o I.iw I.ih:=by
 obtain⟨sm,cz⟩:=zoE (L:=[o]) (n:=1) rfl hI i0 i1 hy;have c1:=cz 1 (by omega);rw[zk8,zkK I _ _ rfl,hS]at c1;obtain⟨_,oc⟩:=zjT (L:=[o]) hy.1 hy.2.2 i0 i1 0 (by simp);have nb:=zkE hy.2.2 (k:=0) (by decide);obtain⟨g,m⟩:=znf (o:=o) (w:=I.iw) (h:=I.ih) (s:=12) oc nb (by decide) i1;have e:zj o I.iw I.ih=S:=hS;rw[e]at g m;exact⟨hS ▸ sm 0 (by omega),c1,g,by omega,oc,nb,e.symm⟩
structure BegIn (w w0 wn:World) (c:JobC) (h2 gx px gy py:Nat) (O:Im):Prop where
 law:LawC w0 wn h2 c O
 tgt:ImgAt wn c.g2 h2 O
 ne:c.g≠c.g2
 thaw:Thawed wn c.g2
 bel0:Below w.heap.size w w0
 bel:Below w0.heap.size w0 wn
 lx:LinesAt w0 gx c.S.lx
 ly:LinesAt w0 gy c.S.ly
 out:O=⟨(c.S.lx.length:Int),(c.S.ly.length:Int),c.I.ic,c.I.it,List.replicate ((c.S.lx.length:Int)*(c.S.ly.length:Int)*c.I.ic).toNat 0⟩
 step:zao c.I c.S=0
 op:∃ o,zC o c.I.iw c.I.ih=0/\¬zdc 12 o/\c.S=zj o c.I.iw c.I.ih
 i0:c.I.iw<=20
 i1:c.I.ih<=20
 n0:c.tn=0
 n1:c.tfx=0
 n2:c.tfy=0
 n3:c.tcx=0
 n4:c.tcy=0
 n5:c.trg=0
def znx (c:JobC) (gx px gy py:Nat):Value :=
 .agg #[.pointer (some ⟨c.g,0,none⟩),.pointer (some ⟨c.g2,0,none⟩),.pointer (some c.ax),.pointer (some c.ay),.int .i64 c.S.sb,.slice (some ⟨gx,0,none⟩) c.S.lx.length px,.slice (some ⟨gy,0,none⟩) c.S.ly.length py,.int .i64 c.S.fx,.int .i64 c.S.fy,.int .i64 c.S.sb,.int .i64 0,.int .i64 (c.x0:Int),.int .i64 (c.y0:Int),.int .i64 (c.W:Int),.int .i64 (c.H:Int),.int .i64 0,.int .i64 0,.int .i64 0,.int .i64 0,.int .i64 0]
theorem zpr {A:Nat} {x w:Int} (x0:0<=x) (w0:0<=w) (hA:1<=A):∃ p q:Nat,x.tmod (A:Int)=(p:Int)/\p+(1+q)<=A/\w.tmod ((A:Int)-(p:Int))=(q:Int):=by
 have a0:x.tmod (A:Int)=x % (A:Int):=Int.tmod_eq_emod_of_nonneg x0;have h1:=Int.emod_nonneg x (show(A:Int)≠0 by omega);have h2:=Int.emod_lt_of_pos x (show(0:Int)<(A:Int) by omega);obtain⟨p,hp⟩:∃ p:Nat,x % (A:Int)=(p:Int):=⟨(x % (A:Int)).toNat,by omega⟩;have b0:w.tmod ((A:Int)-(p:Int))=w % ((A:Int)-(p:Int)):=Int.tmod_eq_emod_of_nonneg w0;have h3:=Int.emod_nonneg w (show(A:Int)-(p:Int)≠0 by omega);have h4:=Int.emod_lt_of_pos w (show(0:Int)<(A:Int)-(p:Int) by omega);exact⟨p,(w % ((A:Int)-(p:Int))).toNat,by omega,by omega,by omega⟩
theorem zni {A p q:Nat} (h:p+(1+q)<=A) (hA:A<=65536):¬(A:Int)=0/\¬((A:Int)-(p:Int))=0/\IntKind.i64.wrap (p:Int)=(p:Int)/\IntKind.i64.wrap ((A:Int)-(p:Int))=(A:Int)-(p:Int)/\IntKind.i64.wrap (q:Int)=(q:Int)/\IntKind.i64.wrap (1+(q:Int))=1+(q:Int):=by
 simp only[IntKind.wrap_i64];omega
theorem zim {A p q:Nat} (h:p+(1+q)<=A):¬A=0/\¬A=p:=by omega
theorem zgR {x:Int} (h:0<=x/\x<=255):IntKind.i64.wrap x=x:=by
 simp only[IntKind.wrap_i64];omega
theorem zq8 {w w':World} {a:Addr} (h:Below w.heap.size w w') (v:Value):Below (w.setCell a v).heap.size (w.setCell a v) (w'.setCell a v):=by
 refine⟨h.os,h.tape,h.output,?_,λk hk=>?_⟩
 ·simp only[World.size_setCell];exact h.size
 ·rw[World.size_setCell]at hk;have:=h.block k hk;simp only[World.setCell,Array.getElem?_modify];rw[this]
theorem ziU {b:Nat}:∀ (vs:List Value) (k:Nat) {w w':World},Below w.heap.size w w'->Below (w.setCells b k vs).heap.size (w.setCells b k vs) (w'.setCells b k vs)
 |[],_,_,_,h=>h
 |v :: r,k,_,_,h=>ziU r (k+1) (zq8 h v)
theorem zhO (b:Nat):∀ (vs:List Value) (k:Nat) (w:World),(w.setCells b k vs).heap.size=w.heap.size
 |[],_,_=>rfl
 |_ :: r,k,_=>(zhO b r (k+1) _).trans (World.size_setCell ..)
theorem zal {b c:Nat} (h:b≠c) (vs:List Value) (w:World) (o:Nat):(w.setCells b 0 vs).cell? ⟨c,o,none⟩=w.cell? ⟨c,o,none⟩:=World.cell?_setCells_out b vs 0 w _ (λe _=>absurd e.symm h)
theorem zfK {w:World} {b c:Nat} {k:IntKind} {x:Int} (h:CellsAt w b zas) (hx:w.cell? ⟨c,0,none⟩=some (.int k x)):b≠c:=by
 rintro rfl;rw[h 0 _ rfl]at hx;simp at hx
theorem zlT {w:World} {b c:Nat} {x:ByteArray} (h:CellsAt w b zas) (hx:w.cell? ⟨c,0,none⟩=some (.string x)):b≠c:=by
 rintro rfl;rw[h 0 _ rfl]at hx;simp at hx
theorem znJ:∀ (xs:List Int),(∀ j,j<xs.length->xs.getD j 0=0)->xs.sum=0
 |[],_=>rfl
 |x :: r,h=>by
  have a:=h 0 (by simp);have b:=znJ r (λj hj=>by have:=h (j+1) (by simpa using hj);simpa using this);simp only[List.getD_cons_zero]at a
  simp[a,b]
theorem zuw {w:World} {b c o:Nat} {xs:List Int} (h:CellsAt w b zas) (he:CellsEnd w b 20) (hs:xs.sum≠0) (hx:∀ j,j<xs.length->w.cell? ⟨c,o+j,none⟩=some (.int .i64 (xs.getD j 0))):b≠c:=by
 rintro rfl;refine hs (znJ xs λj hj=>?_);have q:=hx j hj
 by_cases hl:o+j<20
 ·have:=h (o+j) zas[o+j] (List.getElem?_eq_getElem hl);rw[q]at this;have hm:Value.int .i64 (xs.getD j 0) ∈ zas:=by
   rw[Option.some.inj this];exact List.getElem_mem hl
  unfold zas at hm
  simpa using hm
 ·rw[he (o+j) (by omega)]at q
  cases q
theorem zmR {w:World} {b:Nat} {ad:Option Addr} {xs:List Int} (h:CellsAt w b zas) (he:CellsEnd w b 20) (hs:xs.sum≠0) (vs:List Value) (r:RowAt .i64 w ad xs):RowAt .i64 (w.setCells b 0 vs) ad xs:=by
 rcases r with r|⟨c,o,e,r⟩
 ·exact .inl r
 ·exact .inr ⟨c,o,e,λj hj=>(zal (zuw h he hs r) vs w _).trans (r j hj)⟩
theorem zr5 {w:World} {b g:Nat} {L:List (Int×List Int)} (h:CellsAt w b zas) (he:CellsEnd w b 20) (l0:1<=L.length) (hs:∀ j,j<L.length->(zf L j).2.sum≠0) (vs:List Value) (H:LinesHead w g L):LinesHead (w.setCells b 0 vs) g L:=by
 have n:b≠g:=zfK h (by simpa using(H 0 l0).1);intro j hj;obtain⟨c1,d,cap,c2,hr⟩:=H j hj;exact⟨(zal n vs w _).trans c1,d,cap,(zal n vs w _).trans c2,zmR h he (hs j hj) vs hr⟩
theorem zmK {w:World} {b:Nat} {v:Value} {n:Int} {L:List (Int×List Int)} (h:CellsAt w b zas) (he:CellsEnd w b 20) (hs:∀ j,j<L.length->(zf L j).2.sum≠0) (vs:List Value) (H:Tab w v n L):Tab (w.setCells b 0 vs) v n L:=by
 obtain⟨g,d,cap,e,c0,c1,c2,c3,hl,hok,hm,l0,l1,n0,n1⟩:=H;have n:=zfK h c0;exact⟨g,d,cap,e,(zal n vs w _).trans c0,(zal n vs w _).trans c1,(zal n vs w _).trans c2,(zal n vs w _).trans c3,zr5 h he l0 hs vs hl,hok,hm,l0,l1,n0,n1⟩
theorem zj2 {w:World} {b g:Nat} {L:List (Int×List Int)} (h:CellsAt w b zas) (he:CellsEnd w b 20) (l0:1<=L.length) (hs:∀ j,j<L.length->(zf L j).2.sum≠0) (vs:List Value) (H:LinesAt w g L):LinesAt (w.setCells b 0 vs) g L:=by
 have n:b≠g:=zfK h (by simpa using(H 0 l0).1);intro j hj;obtain⟨c1,u,c2,ad,cap,e,hr⟩:=H j hj;exact⟨(zal n vs w _).trans c1,u,(zal n vs w _).trans c2,ad,cap,e,zmR h he (hs j hj) vs hr⟩
theorem zmi {w:World} {b g d:Nat} {I:Im} (n1:b≠g) (n2:b≠d) (vs:List Value) (H:ImgAt w g d I):ImgAt (w.setCells b 0 vs) g d I:=by
 obtain⟨cap,c0,c1,c2,c3,c4,r,z,hc,hne,k⟩:=H;refine⟨cap,(zal n1 vs w _).trans c0,(zal n1 vs w _).trans c1,(zal n1 vs w _).trans c2,(zal n1 vs w _).trans c3,(zal n1 vs w _).trans c4,?_,λj hj=>(World.frozen?_setCells b vs 0 w _).trans (z j hj),hc,hne,k⟩;rcases r with r|⟨c,o,e,r⟩
 ·exact .inl r
 ·have e2:d=c/\0=o:=by simpa using e
  obtain⟨rfl,rfl⟩:=e2;exact .inr ⟨d,0,rfl,λj hj=>(zal n2 vs w _).trans (r j hj)⟩
theorem zxS {w:World} {b g d:Nat} {I:Im} (h:CellsAt w b zas) (H:ImgAt w g d I):b≠g/\b≠d:=by
 obtain⟨cap,c0,c1,c2,c3,c4,r,z,hc,hne,k⟩:=H;have q:=r.at (zbr k).1;exact⟨zfK h c0,zfK h q⟩
theorem zuN {w:World} {b:Nat} (h:CellsAt w b zas) (vs:List Value) (H:OpK w):OpK (w.setCells b 0 vs):=by
 obtain⟨k,n⟩:=H;have e1:=zlT h k.1;have e2:=zlT h n.1;unfold OpK;unfold zaT at k ⊢;unfold ze0 at n ⊢;simp only[zal e1,zal e2];exact⟨k,n⟩
end Go.Proofs.YtlodkoimdoeopaaGreatDoor
