/- Parts, joined. -/
import Derived.Test.YtlodkoimdoeopaaGreatDoorP21
import Derived.Test.YtlodkoimdoeopaaGreatDoorP26
import Derived.Test.YtlodkoimdoeopaaGreatDoorP23
import Derived.Test.YtlodkoimdoeopaaGreatDoorP31
import Derived.Test.YtlodkoimdoeopaaGreatDoorP19
import Derived.Test.YtlodkoimdoeopaaGreatDoorP14
import Derived.Test.YtlodkoimdoeopaaGreatDoorP29
import Derived.Deep.LoopGhost
import Derived.Deep.DeepCutAuto
import Derived.Deep.MidRow
namespace Go.Proofs.YtlodkoimdoeopaaGreatDoor
open Go.RowKit
theorem zuo:(Tryz.prog.info? 36).map (λi=>(i.zero,i.size,i.bytes))=some (some (.agg #[.pointer none,.pointer none,.int .i64 0]),3,24):=by kernel_rfl
def StgFill (w:World) (h n k:Nat) (F:Nat->Stg):Prop :=
 (∀ j,j<n*3->(∃ v,w.cell? ⟨h,j,none⟩=some v)/\w.frozen? ⟨h,j,none⟩=false)/\(0<n->∃ p,w.cell? ⟨h,0,none⟩=some (.pointer p)) /\
 ∀ j,j<k->∃ x y,w.cell? ⟨h,j*3,none⟩=some x/\w.cell? ⟨h,j*3+1,none⟩=some y/\w.cell? ⟨h,j*3+2,none⟩=some (.int .i64 (F j).sb)/\Tab w x (F j).fx (F j).lx/\Tab w y (F j).fy (F j).ly
theorem StgFill.below {w w':World} {h n k:Nat} {F:Nat->Stg} (s:StgFill w h n k F) (hb:Below w.heap.size w w'):StgFill w' h n k F:=by
 obtain⟨s1,s2,s3⟩:=s;refine⟨λj hj=>?_,λh0=>?_,λj hj=>?_⟩
 ·obtain⟨⟨v,c⟩,f⟩:=s1 j hj;exact⟨⟨v,cb hb (zf c) c⟩,fb hb (zf c) f⟩
 ·obtain⟨p,c⟩:=s2 h0;exact⟨p,cb hb (zf c) c⟩
 ·obtain⟨x,y,c0,c1,c2,tx,ty⟩:=s3 j hj;exact⟨x,y,cb hb (zf c0) c0,cb hb (zf c0) c1,cb hb (zf c0) c2,tx.below hb,ty.below hb⟩
theorem StgFill.room {w:World} {h n k:Nat} {F:Nat->Stg} (s:StgFill w h n k F) (hk:k<n) :
  ((∃ v,w.cell? ⟨h,k*3,none⟩=some v)/\w.frozen? ⟨h,k*3,none⟩=false)/\((∃ v,w.cell? ⟨h,k*3+1,none⟩=some v)/\w.frozen? ⟨h,k*3+1,none⟩=false)/\(∃ v,w.cell? ⟨h,k*3+2,none⟩=some v)/\w.frozen? ⟨h,k*3+2,none⟩=false :=
 ⟨s.1 _ (by omega),s.1 _ (by omega),s.1 _ (by omega)⟩
theorem StgFill.more {w:World} {h n k:Nat} {F:Nat->Stg} (s:StgFill w h n k F) (hk:k<n) {gx gy:Addr} (tx:Tab w (.pointer (some gx)) (F k).fx (F k).lx) (ty:Tab w (.pointer (some gy)) (F k).fy (F k).ly) :
  StgFill (((w.setCell ⟨h,k*3,none⟩ (.pointer (some gx))).setCell ⟨h,k*3+1,none⟩ (.pointer (some gy))).setCell ⟨h,k*3+2,none⟩ (.int .i64 (F k).sb)) h n (k+1) F:=by
 obtain⟨s1,s2,s3⟩:=s;obtain⟨p,hp⟩:=s2 (by omega);have KT:∀ {v:Value} {m:Int} {L:List (Int×List Int)},Tab w v m L->Tab (((w.setCell ⟨h,k*3,none⟩ (.pointer (some gx))).setCell ⟨h,k*3+1,none⟩ (.pointer (some gy))).setCell ⟨h,k*3+2,none⟩ (.int .i64 (F k).sb)) v m L:=λt=>by
  refine t.kept (((zn w h (k*3) (.pointer (some gx))).trans (zn _ h (k*3+1) (.pointer (some gy)))).trans (zn _ h (k*3+2) (.int .i64 (F k).sb))) (λb x e c=>?_);obtain rfl:=Option.some.inj e;rw[hp]at c
  cases c
 have E:∀ j,j≠k*3->j≠k*3+1->j≠k*3+2->(((w.setCell ⟨h,k*3,none⟩ (.pointer (some gx))).setCell ⟨h,k*3+1,none⟩ (.pointer (some gy))).setCell ⟨h,k*3+2,none⟩ (.int .i64 (F k).sb)).cell? ⟨h,j,none⟩=w.cell? ⟨h,j,none⟩:=λj a b c =>
  (zc (Or.inr (Ne.symm c))).trans ((zc (Or.inr (Ne.symm b))).trans (zc (Or.inr (Ne.symm a))))
 obtain⟨⟨⟨v0,c0⟩,_⟩,⟨⟨v1,c1⟩,_⟩,⟨v2,c2⟩,_⟩:=StgFill.room (k:=k) ⟨s1,s2,s3⟩ hk;have E0:(((w.setCell ⟨h,k*3,none⟩ (.pointer (some gx))).setCell ⟨h,k*3+1,none⟩ (.pointer (some gy))).setCell ⟨h,k*3+2,none⟩ (.int .i64 (F k).sb)).cell? ⟨h,k*3,none⟩=some (.pointer (some gx)) :=
  (zc (Or.inr (by omega))).trans ((zc (Or.inr (by omega))).trans (World.cell?_setCell_same' _ _ _ (by rw[c0];rfl)))
 have E1:(((w.setCell ⟨h,k*3,none⟩ (.pointer (some gx))).setCell ⟨h,k*3+1,none⟩ (.pointer (some gy))).setCell ⟨h,k*3+2,none⟩ (.int .i64 (F k).sb)).cell? ⟨h,k*3+1,none⟩=some (.pointer (some gy)) :=
  (zc (Or.inr (by omega))).trans (World.cell?_setCell_same' _ _ _ (by rw[zc (Or.inr (by omega)),c1];rfl))
 have E2:(((w.setCell ⟨h,k*3,none⟩ (.pointer (some gx))).setCell ⟨h,k*3+1,none⟩ (.pointer (some gy))).setCell ⟨h,k*3+2,none⟩ (.int .i64 (F k).sb)).cell? ⟨h,k*3+2,none⟩=some (.int .i64 (F k).sb) :=
  World.cell?_setCell_same' _ _ _ (by rw[zc (Or.inr (by omega)),zc (Or.inr (by omega)),c2];rfl)
 refine⟨λj hj=>?_,λ_=>?_,λj hj=>?_⟩
 ·simp only[World.frozen?_setCell];refine⟨?_,(s1 j hj).2⟩
  by_cases a:j=k*3
  ·subst a;exact⟨_,E0⟩
  by_cases b:j=k*3+1
  ·subst b;exact⟨_,E1⟩
  by_cases c:j=k*3+2
  ·subst c;exact⟨_,E2⟩
  rw[E j a b c];exact(s1 j hj).1
 ·by_cases a:k=0
  ·subst a;exact⟨_,E0⟩
  ·rw[E 0 (by omega) (by omega) (by omega)];exact⟨p,hp⟩
 ·by_cases e:j=k
  ·subst e;exact⟨_,_,E0,E1,E2,KT tx,KT ty⟩
  ·obtain⟨x,y,d0,d1,d2,t1,t2⟩:=s3 j (by omega);exact⟨x,y,(E _ (by omega) (by omega) (by omega)).trans d0,(E _ (by omega) (by omega) (by omega)).trans d1,(E _ (by omega) (by omega) (by omega)).trans d2,KT t1,KT t2⟩
theorem zxY (n:Nat) (h:n<=1048576):∃ zs:Array Value,(∀ w:World,(Instr.makeSlice 83 (.int .i64 (n:Int)) (.int .i64 (n:Int))).run Tryz.prog w=.ok (.slice (some ⟨w.heap.size,0,none⟩) n n) (w.alloc (.cells zs 36)))/\(∀ (w:World) (F:Nat->Stg),StgFill (w.alloc (.cells zs 36)) w.heap.size n 0 F):=by
 obtain⟨i0,hi,hz0,hz1,hz2⟩:=info_parts zuo;have hm:(n:Int)<=9223372036854775807:=by omega
 refine⟨madeCells (Value.agg #[.pointer none,.pointer none,.int .i64 0]).cells (n*i0.size),λw=>?_,λw F=>?_⟩
 ·have hr:=run_make (P:=Tryz.prog) w 83 36 i0 (.agg #[.pointer none,.pointer none,.int .i64 0]) Tryz.underlying83 hi hz0 .i64 .i64 n n (by omega) (Int.le_refl _) (by rw[hz2];omega) hm
  simpa only [Int.toNat_natCast] using hr
 ·rw[hz1];have ho:(w.alloc (.cells (madeCells (Value.agg #[.pointer none,.pointer none,.int .i64 0]).cells (n*3)) 36)).ownsRow 0 36 3 (.slice (some ⟨w.heap.size,0,none⟩) n n) n (madeCells (Value.agg #[.pointer none,.pointer none,.int .i64 0]).cells (n*3)).toList :=
   World.ownsRow_lit w _ n (Nat.zero_le _) (by unfold maxLen;omega) (by rw[size_madeCells])
  have hl:=ho.1;refine⟨λj hj=>⟨?_,ho.frozenAt j⟩,λh0=>⟨none,?_⟩,λj hj=>absurd hj (Nat.not_lt_zero _)⟩
  ·rw[ho.cellAt j hj];exact⟨_,List.getElem?_eq_getElem (by omega)⟩
  ·rw[ho.cellAt 0 (by omega)];have h3:0<n*3:=by omega
   simp[madeCells,Value.cells,h3]
theorem StgFill.at {w:World} {h n:Nat} {F:Nat->Stg} (s:StgFill w h n n F):StgsAt w (some ⟨h,0,none⟩) n F:=by
 refine .inr ⟨h,0,rfl,λj hj=>?_⟩;rw[Nat.zero_add];exact s.2.2 j hj
set_option maxHeartbeats 4000000 in
set_option maxRecDepth 100000 in
theorem zxZ (L:List Opr) (n:Nat) (hn:L.length=n) (h1:n<=maxLen) (ad:Option Addr) (cap:Nat) (a b c:Int) (w:World) (hk:OpK w) (hr:OpsAt w ad L) (hF:zfX L) (ha:zax a) (hb:zax b) :
  Calls Tryz.prog 76 #[.slice ad n cap,.int .i64 a,.int .i64 b,.int .i64 c] w λe w'=>zgE e w' (zaA L a b c) n (zD L a b)/\Below w.heap.size w w':=by
 have hm:n<=9223372036854775807:=h1
 by_cases h16:16<n
 ·have e:zaA L a b c=6:=if_pos (by rw[hn];exact h16);rw[e];have HA:=za (fun(w':World)=>show zgE (.returned (.tuple #[.slice none 0 0,.int .i64 6])) w' 6 n (zD L a b) from .inl ⟨by decide,none,0,rfl⟩);clear hr hF hn h1 e ha hb hk
  go_enter Tryz.func76,Tryz.ntmps76
  go_wp2;exact bodyPost_ret (v:=.tuple #[.slice none 0 0,.int .i64 6]) (by simp[results,Tryz.results76,go_sem]) rfl ⟨HA.out _,Below.refl _ _⟩
 have CFT:=λw=>zir a b c w
 by_cases hft:zaJ a b c=true
 case neg =>
  have e:zaA L a b c=5:=(if_neg (by rw[hn];exact h16)).trans (if_pos (by simpa using hft));rw[e];have HA:=za (fun(w':World)=>show zgE (.returned (.tuple #[.slice none 0 0,.int .i64 5])) w' 5 n (zD L a b) from .inl ⟨by decide,none,0,rfl⟩);rw[show zaJ a b c=false by simpa using hft]at CFT;clear hr hF hn h1 e hft ha hb hk
  go_enter Tryz.func76,Tryz.ntmps76
  go_wp2_with (go_at_call 99;(with_reducible refine(CFT _).mono ?_);rintro e w1 ⟨rfl,rfl⟩)
  exact bodyPost_ret (v:=.tuple #[.slice none 0 0,.int .i64 5]) (by simp[results,Tryz.results76,go_sem]) rfl ⟨HA.out _,Below.refl _ _⟩
 have e0:zaA L a b c=zaj L a b c n:=by
  unfold zaA;rw[if_neg (by rw[hn];exact h16),if_neg (by rw[hft];decide),hn]
 rw[e0];have HBAD:=za (fun(k:Nat) (w':World) (hk:k<n) (hf:zaj L a b c k=0) (hs:zaL L a b c k≠0)=>show zgE (.returned (.tuple #[.slice none 0 0,.int .i64 (zaL L a b c k)])) w' (zaj L a b c n) n (zD L a b) by
  rw[zgv hf hs hk];exact .inl ⟨hs,none,0,rfl⟩)
 have HR:=za hr;have HN:=za hn;have HF:=za hF;have HK:=za (fun(w':World) (b':Below w.heap.size w w')=>zaE w w' hk b');obtain⟨zs,MK,MO⟩:=zxY n (by omega);have HMO:=za MO;have hfit0:1<=a/\a<=65536/\1<=b/\b<=65536:=⟨(zff hft).1.1,(zff hft).1.2,(zff hft).2.1.1,(zff hft).2.1.2⟩;have HG:Hid (∀ k,zax (zl L a b k).1/\zax (zl L a b k).2\/¬zaj L a b c k=0\/n<k):=za (λk=>by
  induction k with
  |zero=>exact .inl ⟨ha,hb⟩
  |succ k ih =>
   by_cases hkn:n<k+1
   ·exact .inr (.inr hkn)
   by_cases hz:zaj L a b c (k+1)=0
   ·have hbk:=ze2 hz (show k<k+1 by omega);have hst:=hbk.2;have ho:zB (zh L k) (zl L a b k).1 (zl L a b k).2=0:=by
     by_cases g:zB (zh L k) (zl L a b k).1 (zl L a b k).2=0
     ·exact g
     ·rw[zkS g]at hst;exact absurd hst g
    rw[zjs ho]at hst;have hfx:zaJ (toW (zh L k) (zl L a b k).1) (toH (zh L k) (zl L a b k).2) c=true:=by
     by_cases g:zaJ (toW (zh L k) (zl L a b k).1) (toH (zh L k) (zl L a b k).2) c=true
     ·exact g
     ·rw[if_neg g]at hst;cases hst
    obtain⟨⟨q0,q1⟩,⟨q2,q3⟩,_⟩:=zff hfx;refine .inl ⟨?_,?_⟩
    ·show zax (toW (zh L k) (zl L a b k).1)
     unfold zax;omega
    ·show zax (toH (zh L k) (zl L a b k).2)
     unfold zax;omega
   ·exact .inr (.inl hz))
 rw[hft]at CFT;clear hr hF hn h1 e0 hft hk MO hfit0 ha hb
 go_enter Tryz.func76,Tryz.ntmps76
 go_wp2_with (go_at_call 99;(with_reducible refine(CFT _).mono ?_);rintro e w1 ⟨rfl,rfl⟩)
 have F0:=za (HMO.out w (zD L a b));have hw0:w.heap.size<(w.alloc (.cells zs 36)).heap.size:=by simp
 go_loopw [1,2,28] (λp q i wr=>∃ k:Nat,k<=n/\i=.int .i64 (k:Int)/\p=.int .i64 (zl L a b k).1/\q=.int .i64 (zl L a b k).2/\Hid (zaj L a b c k=0)/\Hid (StgFill wr w.heap.size n k (zD L a b))/\Below w.heap.size w wr) (λ_ _ i _=>n-(intOf i).toNat)
 case atStart=>exact⟨0,by omega,rfl,rfl,rfl,za rfl,F0,zg _ _⟩
 case round =>
  clear CFT F0 MK HMO;obtain⟨k,hk,rfl,rfl,rfl,hf,HS,hb⟩:=hrel;have HB:=za hb
  by_cases hlt:k<n
  ·obtain⟨bl,off,rfl,hop⟩:=HR.out.get (show k<L.length by rw[HN.out];exact hlt);obtain⟨g0,g1,g2,g3,g6,g7,g8,ax,cx,ay,cy,g4,g5,ga⟩:=hop.below hb;have HBADk:=za (λw' hs=>HBAD.out k w' hlt hf.out hs);have hfit:=HF.out k (by rw[HN.out];exact hlt);have h64:zax (zl L a b k).1/\zax (zl L a b k).2:=by
    rcases HG.out k with g|g|g
    ·exact g
    ·exact absurd hf.out g
    ·omega
   have CM:=λw' (b':Below wr.heap.size wr w')=>zea (zh L k) ax cx ay cy (zl L a b k).1 (zl L a b k).2 w' (HK.out w' (bt hb b')) (ga.below b') hfit h64.1 h64.2
   have CZ:=λw'=>zsX (zh L k) ax cx ay cy (zl L a b k).1 (zl L a b k).2 w'
   have CF:=λw'=>zir (toW (zh L k) (zl L a b k).1) (toH (zh L k) (zl L a b k).2) c w'
   have P0:=za (P9.new wr 31 (zh L k).kd (zh L k).bd (zh L k).sg (zh L k).rd (.slice ax (zh L k).xs.length cx) (.slice ay (zh L k).ys.length cy) (zh L k).fl (zh L k).wd (zh L k).ht);have so:=zkS (L:=L) (a:=a) (b:=b) (c:=c) (k:=k);have sf:=zjs (L:=L) (a:=a) (b:=b) (c:=c) (k:=k);unfold opV at CM CZ;clear ga hfit hb hop h64
   by_cases hz:zB (zh L k) (zl L a b k).1 (zl L a b k).2=0
   case neg =>
    have CM2:∀ w',Below wr.heap.size wr w'->Calls Tryz.prog 34 #[.agg #[.int .i64 (zh L k).kd,.int .i64 (zh L k).bd,.int .i64 (zh L k).sg,.int .i64 (zh L k).rd,.slice ax (zh L k).xs.length cx,.slice ay (zh L k).ys.length cy,.int .i64 (zh L k).fl,.int .i64 (zh L k).wd,.int .i64 (zh L k).ht],.int .i64 (zl L a b k).1,.int .i64 (zl L a b k).2] w' λe w''=>e=.returned (.tuple #[.agg #[.pointer none,.pointer none,.int .i64 0],.int .i64 (zB (zh L k) (zl L a b k).1 (zl L a b k).2)])/\Below w'.heap.size w' w'':=λw' b' =>
     (CM w' b').mono λe w'' ⟨hA,hB⟩=>by
      rcases hA with⟨_,he⟩|⟨h0,_⟩
      ·exact⟨he,hB⟩
      ·exact absurd h0 hz
    have HE:=za (λw'=>by have:=HBADk.out w' (by rw[so hz];exact hz);rw[so hz]at this;exact this);have qz:(zB (zh L k) (zl L a b k).1 (zl L a b k).2 != 0)=true:=bne_iff_ne.2 hz;clear CM CZ CF so sf hz HBADk HBAD;generalize zB (zh L k) (zl L a b k).1 (zl L a b k).2=oc at *;generalize (zl L a b k).1=p at *;generalize (zl L a b k).2=q at *;generalize (zh L k).kd=kd at *;generalize (zh L k).bd=bd at *;generalize (zh L k).sg=sg at *;generalize (zh L k).rd=rd at *;generalize (zh L k).xs.length=nx at *;generalize (zh L k).ys.length=ny at *;generalize (zh L k).fl=fl at *;generalize (zh L k).wd=wd at *;generalize (zh L k).ht=ht at *
    go_wp2_with (go_at_call 34;(with_reducible refine(CM2 _ (zg _ _)).mono ?_);rintro e w3 ⟨rfl,b3⟩)
    exact bodyPost_ret (v:=.tuple #[.slice none 0 0,.int .i64 oc]) (by simp[results,Tryz.results76,go_sem]) rfl ⟨HE.out _,ba (bt (ba HB.out _) b3) _⟩
   have CM2:∀ w',Below wr.heap.size wr w'->Calls Tryz.prog 34 #[.agg #[.int .i64 (zh L k).kd,.int .i64 (zh L k).bd,.int .i64 (zh L k).sg,.int .i64 (zh L k).rd,.slice ax (zh L k).xs.length cx,.slice ay (zh L k).ys.length cy,.int .i64 (zh L k).fl,.int .i64 (zh L k).wd,.int .i64 (zh L k).ht],.int .i64 (zl L a b k).1,.int .i64 (zl L a b k).2] w' λe w''=>(∃ gx gy,e=.returned (.tuple #[.agg #[.pointer (some gx),.pointer (some gy),.int .i64 (zD L a b k).sb],.int .i64 0])/\Tab w'' (.pointer (some gx)) (zD L a b k).fx (zD L a b k).lx/\Tab w'' (.pointer (some gy)) (zD L a b k).fy (zD L a b k).ly)/\Below w'.heap.size w' w'':=λw' b' =>
    (CM w' b').mono λe w'' ⟨hA,hB⟩=>by
     rcases hA with⟨h0,_⟩|⟨_,x,y,he,tx,ty⟩
     ·exact absurd hz h0
     ·obtain⟨gx,rfl⟩:=tx.ptr;obtain⟨gy,rfl⟩:=ty.ptr;exact⟨⟨gx,gy,he,tx,ty⟩,hB⟩
   have hstep:=sf hz;clear CM so sf hz HBAD
   by_cases hq:zaJ (toW (zh L k) (zl L a b k).1) (toH (zh L k) (zl L a b k).2) c=true
   case neg =>
    rw[if_neg hq]at hstep;have HE:=za (λw'=>by have:=HBADk.out w' (by rw[hstep];decide);rw[hstep]at this;exact this);rw[show zaJ (toW (zh L k) (zl L a b k).1) (toH (zh L k) (zl L a b k).2) c=false by simpa using hq]at CF;clear hstep hq HBADk HS;generalize toW (zh L k) (zl L a b k).1=p' at *;generalize toH (zh L k) (zl L a b k).2=q' at *;generalize (zl L a b k).1=p at *;generalize (zl L a b k).2=q at *;generalize (zD L a b k)=S at *;obtain⟨lx,ly,fx,fy,sb⟩:=S;simp only at CM2;generalize (zh L k).kd=kd at *;generalize (zh L k).bd=bd at *;generalize (zh L k).sg=sg at *;generalize (zh L k).rd=rd at *;generalize (zh L k).xs.length=nx at *;generalize (zh L k).ys.length=ny at *;generalize (zh L k).fl=fl at *;generalize (zh L k).wd=wd at *;generalize (zh L k).ht=ht at *
    go_wp2_with (first
     |(go_at_call 34;(with_reducible refine(CM2 _ (zg _ _)).mono ?_);rintro e w3 ⟨⟨gx,gy,rfl,_,_⟩,b3⟩;have P3:=(P0.out.below b3).below (zg w3 (.cells #[.pointer (some gx),.pointer (some gy),.int .i64 sb] 36));obtain⟨a0,a1,a2,a3,a4,a5,a6,a7,a8⟩:=P3)
     |(go_at_call 116;(with_reducible refine(CZ _).mono ?_);rintro e w4 ⟨rfl,b4⟩)
     |(go_at_call 99;(with_reducible refine(CF _).mono ?_);rintro e w5 ⟨rfl,rfl⟩))
    exact bodyPost_ret (v:=.tuple #[.slice none 0 0,.int .i64 5]) (by simp[results,Tryz.results76,go_sem]) rfl ⟨HE.out _,bt (ba (bt (ba HB.out _) b3) _) b4⟩
   rw[if_pos hq]at hstep;rw[hq]at CF;have hfn:=za (zi3 hf.out hstep);have hw1:=HB.out.size;have HMORE:=za (fun(W:World) (gx gy:Addr) (s:StgFill W w.heap.size n k (zD L a b)) (tx:Tab W (.pointer (some gx)) (zD L a b k).fx (zD L a b k).lx) (ty:Tab W (.pointer (some gy)) (zD L a b k).fy (zD L a b k).ly)=>s.more hlt tx ty);clear hstep hq HBADk hf;rw[show toW (zh L k) (zl L a b k).1=(zl L a b (k+1)).1 from rfl,show toH (zh L k) (zl L a b k).2=(zl L a b (k+1)).2 from rfl]at CZ CF;generalize (zl L a b k).1=p at *;generalize (zl L a b k).2=q at *;generalize (zD L a b k).fx=fx at *;generalize (zD L a b k).fy=fy at *;generalize (zD L a b k).lx=lx at *;generalize (zD L a b k).ly=ly at *;generalize (zD L a b k).sb=sb at *;generalize (zh L k).kd=kd at *;generalize (zh L k).bd=bd at *;generalize (zh L k).sg=sg at *;generalize (zh L k).rd=rd at *;generalize (zh L k).xs.length=nx at *;generalize (zh L k).ys.length=ny at *;generalize (zh L k).fl=fl at *;generalize (zh L k).wd=wd at *;generalize (zh L k).ht=ht at *
   go_wp2_with (first
    |(go_at_call 34;(with_reducible refine(CM2 _ (zg _ _)).mono ?_);rintro e w3 ⟨⟨gx,gy,rfl,tx,ty⟩,b3⟩;have P3:=(P0.out.below b3).below (zg w3 (.cells #[.pointer (some gx),.pointer (some gy),.int .i64 sb] 36));obtain⟨a0,a1,a2,a3,a4,a5,a6,a7,a8⟩:=P3;have TX:=za tx;have TY:=za ty;clear tx ty;have s3:=b3.size;simp at s3)
    |(go_at_call 116;(with_reducible refine(CZ _).mono ?_);rintro e w4 ⟨rfl,b4⟩;have T4:=S3.below (S3.new w3 36 (.pointer (some gx)) (.pointer (some gy)) (.int .i64 sb)) b4;obtain⟨⟨t0,_⟩,⟨t1,_⟩,⟨t2,_⟩⟩:=T4;have s4:=b4.size;simp at s4;have F4:=(HS.out.below (bt (ba (bt (zg _ _) b3) _) b4));have HF4:=za F4;obtain⟨⟨⟨v0,r0⟩,y0⟩,⟨⟨v1,r1⟩,y1⟩,⟨v2,r2⟩,y2⟩:=F4.room hlt)
    |(go_at_call 99;(with_reducible refine(CF _).mono ?_);rintro e w5 ⟨rfl,rfl⟩))
   have M5:=za (HMORE.out w4 gx gy HF4.out ((TX.out.below (zg _ _)).below b4) ((TY.out.below (zg _ _)).below b4));have B5:=za (show Below w.heap.size w (((w4.setCell ⟨w.heap.size,k*3,none⟩ (.pointer (some gx))).setCell ⟨w.heap.size,k*3+1,none⟩ (.pointer (some gy))).setCell ⟨w.heap.size,k*3+2,none⟩ (.int .i64 sb)) from bs (bs (bs (bt (ba (bt (ba HB.out _) b3) _) b4) (Nat.le_refl _) _) (Nat.le_refl _) _) (Nat.le_refl _) _);clear HF4 TX TY b3 b4 a0 a1 a2 a3 a4 a5 a6 a7 a8 t0 t1 t2 r0 r1 r2 y0 y1 y2 HMORE;go_wp2
   go_roundw
   case rel=>exact⟨k+1,by omega,by go_num,rfl,rfl,hfn,M5,B5.out⟩
   case measure=>simp[intOf];omega
  ·obtain rfl:k=n:=by omega
   have hv:=hf.out;have HA:=za (show zgE (.returned (.tuple #[.slice (some ⟨w.heap.size,0,none⟩) k k,.int .i64 0])) wr (zaj L a b c k) k (zD L a b) from .inr ⟨hv,_,k,rfl,HS.out.at⟩);clear hv hb hf HS;go_wp2;exact bodyPost_ret (v:=.tuple #[.slice (some ⟨w.heap.size,0,none⟩) k k,.int .i64 0]) (by simp[results,Tryz.results76,go_sem]) rfl ⟨HA.out,HB.out⟩
theorem zvq:zyy OpK:=λL ad cap a b c w hk hr hF h1 _ ha hb _=>zxZ L L.length rfl h1 ad cap a b c w hk hr hF ha hb
def zlS (L:List Opr) (n:Nat) (I:Im) (e:Ending) (w':World):Prop:=zaA L I.iw I.ih I.ic=0/\n<=4/\zcf 12 L n=false/\∃ ad cap ad' cap',e=.returned (.tuple #[.slice ad n cap,.slice ad' n cap',.bool true])/\StgsAt w' ad n (zD L I.iw I.ih)/\StgsRef w' ad' n (zD L I.iw I.ih)
def znp (L:List Opr) (n:Nat) (I:Im) (e:Ending):Prop:=¬(zaA L I.iw I.ih I.ic=0/\n<=4/\zcf 12 L n=false)/\∃ v v',e=.returned (.tuple #[v,v',.bool false])
theorem zxo {w:World} {ad:Option Addr} {n:Nat} {F:Nat->Stg} (h:StgsAt w ad n F) (j:Nat) (hj:j<n):(F j).lx≠[]/\(F j).ly≠[]:=by
 rcases h with h|⟨b,off,_,h⟩
 ·omega
 ·obtain⟨x,y,_,_,_,tx,ty⟩:=h j hj;exact⟨λe=>by have:=tx.ok.2.1;rw[e]at this;exact absurd this (by decide),λe=>by have:=ty.ok.2.1;rw[e]at this;exact absurd this (by decide)⟩
set_option maxHeartbeats 4000000 in
set_option maxRecDepth 100000 in
theorem zkk (L:List Opr) (n:Nat) (hn:L.length=n) (h1:n<=maxLen) (ad:Option Addr) (cap:Nat) (hz:ad=none->cap=0) (w:World) (hk:OpK w) (hr:OpsAt w ad L) (hF:zfX L) {g h:Nat} {I:Im} (H:ImgAt w g h I) :
  Calls Tryz.prog 38 #[.slice ad n cap,.pointer (some ⟨g,0,none⟩)] w λe w'=>(zlS L n I e w'\/znp L n I e)/\Below w.heap.size w w':=by
 have hm:n<=9223372036854775807:=h1;obtain⟨a0,a1,b0,b1,c0,_⟩:=H.ok;have CL:=λw' (b:Below w.heap.size w w')=>zqD L n hn h1 12 ad cap w' (hr.below b)
 have CR:=λw' (b:Below w.heap.size w w') (h4:n<=4)=>zqR L n hn (by omega) ad cap w' (hr.below b)
 have CA:=λw' (b:Below w.heap.size w w')=>zvq L ad cap I.iw I.ih I.ic w' (zaE _ _ hk b) (hr.below b) hF (by rw[hn];exact h1) hz (by unfold zax;omega) (by unfold zax;omega) (by unfold zax;omega)
 have CD:=λw' ad' cap' (hr':OpsAt w' ad' L)=>zuQ L n hn h1 ad' cap' I.iw I.ih I.ic w' hr' hF
 rw[hn]at CA;have CW:=λw' (b:Below w.heap.size w w')=>zfc (H.below b)
 have CH:=λw' (b:Below w.heap.size w w')=>zer (H.below b)
 have CC:=λw' (b:Below w.heap.size w w')=>zaF (H.below b)
 have B0:=za (Below.refl w.heap.size w);have q2:∀ (a:Addr) (w:World),(binOp .eql 33 (.pointer (some a)) (.pointer none)).run Tryz.prog w=.ok (.bool false) w:=λa w=>by kernel_rfl
 unfold zlS znp
 by_cases h4:4<n
 ·have h4':(4:Int)<(n:Int):=by omega
  clear CL CR CA CD CW CH CC hr hF H hk hz hn
  go_enter Tryz.func38,Tryz.ntmps38
  go_wp2_with fail
  exact bodyPost_ret (v:=.tuple #[.slice none 0 0,.slice none 0 0,.bool false]) (by simp[results,Tryz.results38,go_sem]) rfl ⟨.inr ⟨fun⟨_,q,_⟩=>absurd q (by omega),_,_,rfl⟩,B0.out⟩
 have h5:n<=4:=by omega
 have h5':¬(4:Int)<(n:Int):=by omega
 have h5'':(n:Int)<=4:=by omega
 cases hb:zcf 12 L n with
 |true =>
  rw[hb]at CL;clear CR CA CD CW CH CC hr hF H hk hz hn
  go_enter Tryz.func38,Tryz.ntmps38
  go_wp2_with (go_at_call 75;(with_reducible refine(CL _ B0.out).mono ?_);rintro e w1 ⟨rfl,b1⟩;have B1:=za (bt B0.out b1))
  exact bodyPost_ret (v:=.tuple #[.slice none 0 0,.slice none 0 0,.bool false]) (by simp[results,Tryz.results38,go_sem]) rfl ⟨.inr ⟨fun⟨_,_,q⟩=>(by simp at q),_,_,rfl⟩,B1.out⟩
 |false =>
  rw[hb]at CL
  replace CR:=λw' b=>CR w' b h5
  obtain⟨iw,hiw⟩:∃ iw,I.iw=iw:=⟨_,rfl⟩;obtain⟨ih,hih⟩:∃ ih,I.ih=ih:=⟨_,rfl⟩;obtain⟨ic,hic⟩:∃ ic,I.ic=ic:=⟨_,rfl⟩;rw[hiw]at CA CD CW ⊢;rw[hih]at CA CD CH ⊢;rw[hic]at CA CD CC ⊢;obtain⟨F,hFF⟩:∃ F,zD L iw ih=F:=⟨_,rfl⟩;rw[hFF]at CA CD ⊢;obtain⟨K,hK⟩:∃ K,zaA L iw ih ic=K:=⟨_,rfl⟩;simp only[hK]at CA CD ⊢;clear hr hF H hk hz hn hiw hih hic hFF
  by_cases hz:K=0
  ·subst hz;have CA2:∀ w',Below w.heap.size w w'->Calls Tryz.prog 76 #[.slice ad n cap,.int .i64 iw,.int .i64 ih,.int .i64 ic] w' λe w''=>(∃ ad cap,e=.returned (.tuple #[.slice ad n cap,.int .i64 0])/\StgsAt w'' ad n F)/\Below w'.heap.size w' w'':=λw' b=>(CA w' b).mono λe w'' ⟨hA,hB⟩=>by
    rcases hA with⟨h0,_⟩|⟨_,hA⟩
    ·exact absurd rfl h0
    ·exact⟨hA,hB⟩
   have CD2:∀ w' ad' cap',OpsAt w' ad' L->(∀ j,j<n->(F j).lx≠[]/\(F j).ly≠[])->Calls Tryz.prog 77 #[.slice ad' n cap',.int .i64 iw,.int .i64 ih,.int .i64 ic] w' λe w''=>(∃ ad cap,e=.returned (.tuple #[.slice ad n cap,.int .i64 0])/\StgsRef w'' ad n F)/\Below w'.heap.size w' w'':=λw' ad' cap' b hne=>(CD w' ad' cap' b).mono λe w'' ⟨hA,hB⟩=>by
    rcases hA with⟨h0,_⟩|⟨_,v,he,hA⟩
    ·exact absurd rfl h0
    ·obtain⟨ad2,cap2,rfl,hs⟩:=hA.read hne;exact⟨⟨ad2,cap2,he,hs⟩,hB⟩
   clear CA CD
   go_enter Tryz.func38,Tryz.ntmps38
   go_wp2_with (first
    |(go_at_call 75;(with_reducible refine(CL _ B0.out).mono ?_);rintro e w1 ⟨rfl,b1⟩;have B1:=za (bt B0.out b1))
    |(go_at_call 24;(first|with_reducible refine(CW _ B3.out).mono ?_|with_reducible refine(CW _ B1.out).mono ?_);rintro e w9 ⟨rfl,rfl⟩)
    |(go_at_call 25;(first|with_reducible refine(CH _ B3.out).mono ?_|with_reducible refine(CH _ B1.out).mono ?_);rintro e w9 ⟨rfl,rfl⟩)
    |(go_at_call 17;(first|with_reducible refine(CC _ B3.out).mono ?_|with_reducible refine(CC _ B1.out).mono ?_);rintro e w9 ⟨rfl,rfl⟩)
    |(go_at_call 76;(with_reducible refine(CA2 _ B1.out).mono ?_);rintro e w2 ⟨⟨ad2,cap2,rfl,hs2⟩,b2⟩;have B2:=za (bt B1.out b2);have HS2:=za hs2;clear hs2)
    |(go_at_call 78;(with_reducible refine(CR _ B2.out).mono ?_);rintro e w3 ⟨ad3,cap3,rfl,hr3,hz3,b3⟩;have B3:=za (bt B2.out b3);have HS3:=za (HS2.out.below b3);have HR3:=za hr3;clear hr3)
    |(go_at_call 77;(with_reducible refine(CD2 _ _ _ HR3.out (zxo HS3.out)).mono ?_);rintro e w4 ⟨⟨ad4,cap4,rfl,hs4⟩,b4⟩;have B4:=za (bt B3.out b4);have HS4:=za (HS3.out.below b4);have HQ4:=za hs4;clear hs4))
   exact bodyPost_ret (v:=.tuple #[.slice ad2 n cap2,.slice ad4 n cap4,.bool true]) (by simp[results,Tryz.results38,go_sem]) rfl ⟨.inl ⟨trivial,h5,trivial,_,_,_,_,rfl,HS4.out,HQ4.out⟩,B4.out⟩
  ·have CA2:∀ w',Below w.heap.size w w'->Calls Tryz.prog 76 #[.slice ad n cap,.int .i64 iw,.int .i64 ih,.int .i64 ic] w' λe w''=>(∃ ad cap,e=.returned (.tuple #[.slice ad 0 cap,.int .i64 K]))/\Below w'.heap.size w' w'':=λw' b=>(CA w' b).mono λe w'' ⟨hA,hB⟩=>by
    rcases hA with⟨_,hA⟩|⟨h0,_⟩
    ·exact⟨hA,hB⟩
    ·exact absurd h0 hz
   have CD2:∀ w' ad' cap',OpsAt w' ad' L->Calls Tryz.prog 77 #[.slice ad' n cap',.int .i64 iw,.int .i64 ih,.int .i64 ic] w' λe w''=>e=.returned (.tuple #[.slice none 0 0,.int .i64 K])/\Below w'.heap.size w' w'':=λw' ad' cap' b=>(CD w' ad' cap' b).mono λe w'' ⟨hA,hB⟩=>by
    rcases hA with⟨_,hA⟩|⟨h0,_⟩
    ·exact⟨hA,hB⟩
    ·exact absurd h0 hz
   clear CA CD
   go_enter Tryz.func38,Tryz.ntmps38
   go_wp2_with (first
    |(go_at_call 75;(with_reducible refine(CL _ B0.out).mono ?_);rintro e w1 ⟨rfl,b1⟩;have B1:=za (bt B0.out b1))
    |(go_at_call 24;(first|with_reducible refine(CW _ B3.out).mono ?_|with_reducible refine(CW _ B1.out).mono ?_);rintro e w9 ⟨rfl,rfl⟩)
    |(go_at_call 25;(first|with_reducible refine(CH _ B3.out).mono ?_|with_reducible refine(CH _ B1.out).mono ?_);rintro e w9 ⟨rfl,rfl⟩)
    |(go_at_call 17;(first|with_reducible refine(CC _ B3.out).mono ?_|with_reducible refine(CC _ B1.out).mono ?_);rintro e w9 ⟨rfl,rfl⟩)
    |(go_at_call 76;(with_reducible refine(CA2 _ B1.out).mono ?_);rintro e w2 ⟨⟨ad2,cap2,rfl⟩,b2⟩;have B2:=za (bt B1.out b2))
    |(go_at_call 78;(with_reducible refine(CR _ B2.out).mono ?_);rintro e w3 ⟨ad3,cap3,rfl,hr3,hz3,b3⟩;have B3:=za (bt B2.out b3);have HR3:=za hr3;clear hr3)
    |(go_at_call 77;(with_reducible refine(CD2 _ _ _ HR3.out).mono ?_);rintro e w4 ⟨rfl,b4⟩;have B4:=za (bt B3.out b4)))
   exact bodyPost_ret (v:=.tuple #[.slice ad2 0 cap2,.slice none 0 0,.bool false]) (by simp[results,Tryz.results38,go_sem]) rfl ⟨.inr ⟨fun⟨q,_,_⟩=>hz q,_,_,rfl⟩,B4.out⟩
theorem zpX {L:List Opr} {n:Nat} (hn:L.length=n) (h1:n<=maxLen) {ad:Option Addr} {cap:Nat} (hz:ad=none->cap=0) {w:World} (hk:OpK w) (hr:OpsAt w ad L) (hF:zfX L) {g h:Nat} {I:Im} (H:ImgAt w g h I) (hy:zaA L I.iw I.ih I.ic=0/\n<=4/\zcf 12 L n=false) :
  Calls Tryz.prog 38 #[.slice ad n cap,.pointer (some ⟨g,0,none⟩)] w λe w'=>(∃ ad cap ad' cap',e=.returned (.tuple #[.slice ad n cap,.slice ad' n cap',.bool true])/\StgsAt w' ad n (zD L I.iw I.ih)/\StgsRef w' ad' n (zD L I.iw I.ih))/\Below w.heap.size w w' :=
 (zkk L n hn h1 ad cap hz w hk hr hF H).mono λe w' ⟨hA,hB⟩=>by
  rcases hA with⟨_,_,_,q⟩|⟨q,_⟩
  ·exact⟨q,hB⟩
  ·exact absurd hy q
theorem zsF {L:List Opr} {n:Nat} (hn:L.length=n) (h1:n<=maxLen) {ad:Option Addr} {cap:Nat} (hz:ad=none->cap=0) {w:World} (hk:OpK w) (hr:OpsAt w ad L) (hF:zfX L) {g h:Nat} {I:Im} (H:ImgAt w g h I) (hy:¬(zaA L I.iw I.ih I.ic=0/\n<=4/\zcf 12 L n=false)) :
  Calls Tryz.prog 38 #[.slice ad n cap,.pointer (some ⟨g,0,none⟩)] w λe w'=>(∃ v v',e=.returned (.tuple #[v,v',.bool false]))/\Below w.heap.size w w' :=
 (zkk L n hn h1 ad cap hz w hk hr hF H).mono λe w' ⟨hA,hB⟩=>by
  rcases hA with⟨a,b,c,_⟩|⟨_,q⟩
  ·exact absurd ⟨a,b,c⟩ hy
  ·exact⟨q,hB⟩
theorem zoe {L:List Opr} {n:Nat} (hn:L.length=n) {I:Im} (hI:zba I) (i0:I.iw<=20) (i1:I.ih<=20) (hy:zaA L I.iw I.ih I.ic=0/\n<=4/\zcf 12 L n=false) :
  (∀ j,j<n->zcF (zD L I.iw I.ih j))/\∀ k,k<=n->zcy I (zh2 (zD L I.iw I.ih) k)=0:=by
 subst hn;obtain⟨a,_,c⟩:=hy;exact⟨λj hj=>(zko a c i0 i1 j hj).1,λk hk=>(zsQ hI a k hk).1⟩
theorem zdF {B:World} {b:Nat} (hb:B.heap.size<=b):∀ (vs:List Value) (k:Nat) (w:World),Below B.heap.size B w->Below B.heap.size B (w.setCells b k vs)
 |[],_,_,h=>h
 |v :: r,k,_,h=>zdF hb r (k+1) _ (bs h hb v)
def CellsAt (w:World) (b:Nat) (L:List Value):Prop:=∀ j v,L[j]?=some v->w.cell? ⟨b,j,none⟩=some v
theorem CellsAt.below {w w':World} {b:Nat} {L:List Value} (h:CellsAt w b L) (hb:Below w.heap.size w w'):CellsAt w' b L:=λj v hj=>cb hb (zf (h j v hj)) (h j v hj)
theorem CellsAt.new (w:World) (L:List Value) (T:TypeId):CellsAt (w.alloc (.cells L.toArray T)) w.heap.size L:=λj v hj=>by
 simp only[World.cell?,World.alloc,Array.getElem?_push_size]
 simpa using hj
theorem CellsAt.has {w:World} {b:Nat} {L:List Value} (h:CellsAt w b L) {i:Nat} (hi:i<L.length):(w.cell? ⟨b,i,none⟩).isSome=true:=by
 rw[h i L[i] (List.getElem?_eq_getElem hi)];rfl
theorem CellsAt.fill {w:World} {b:Nat} {L vs:List Value} (h:CellsAt w b L) (hl:vs.length=L.length):CellsAt (w.setCells b 0 vs) b vs:=λj v hj=>by
 obtain⟨hi,e⟩:=List.getElem?_eq_some_iff.1 hj;have:=World.cell?_setCells_in b vs 0 w (λi hi=>by rw[Nat.zero_add];exact h.has (by omega)) j hi;rw[Nat.zero_add,e]at this;exact this
theorem CellsAt.store {w:World} {b:Nat} {L:List Value} (h:CellsAt w b L) (hf:∀ j,w.frozen? ⟨b,j,none⟩=false) (vs:List Value) (hl:vs.length=L.length) (h1:∀ v ∈ vs,v.oneCell'=true) (k:Nat) :
  (storeCells ⟨b,0,none⟩ vs 0).run Tryz.prog (w.drewN k)=.ok () ((w.drewN k).setCells b 0 vs):=by
 have:=run_storeCells_cells (P:=Tryz.prog) b 0 vs 0 (w.drewN k) (λj hj=>by have q:=h.has (i:=j) (by omega);simpa using q) (λj _=>hf _) h1
 simpa using this
theorem CellsAt.store0 {w:World} {b:Nat} {L:List Value} (h:CellsAt w b L) (hf:∀ j,w.frozen? ⟨b,j,none⟩=false) (vs:List Value) (hl:vs.length=L.length) (h1:∀ v ∈ vs,v.oneCell'=true) :
  (storeCells ⟨b,0,none⟩ vs 0).run Tryz.prog w=.ok () (w.setCells b 0 vs):=by
 have:=run_storeCells_cells (P:=Tryz.prog) b 0 vs 0 w (λj hj=>by have q:=h.has (i:=j) (by omega);simpa using q) (λj _=>hf _) h1
 simpa using this
def zat:List Value:=[.pointer none,.pointer none,.pointer none,.pointer none,.int .i64 0,.slice none 0 0,.slice none 0 0,.int .i64 0,.int .i64 0,.int .i64 0,.int .i64 0,.int .i64 0,.int .i64 0,.int .i64 0,.int .i64 0,.int .i64 0,.int .i64 0,.int .i64 0,.int .i64 0,.int .i64 0]
theorem CellsAt.load {w:World} {b:Nat} {L:List Value} (h:CellsAt w b L) (hl:L.length=20):(loadVar 45 ⟨b,0,none⟩).run Tryz.prog w=.ok (.agg L.toArray) w:=by
 have hi:(Tryz.prog.info? 45).map (·.size)=some 20:=by kernel_rfl
 exact run_loadVar_mid w b 0 45 L _ (λj v hj=>by rw[Nat.zero_add];exact h j v hj) Tryz.underlying45 rfl (by rw[hi,hl])
def CellsEnd (w:World) (b n:Nat):Prop:=∀ j,n<=j->w.cell? ⟨b,j,none⟩=none
theorem CellsEnd.below {w w':World} {b n:Nat} (h:CellsEnd w b n) (hl:b<w.heap.size) (hb:Below w.heap.size w w'):CellsEnd w' b n:=λj hj=>by
 have:=h j hj;unfold World.cell? at this ⊢;rw[hb.block b hl];exact this
theorem CellsEnd.new (w:World) (L:List Value) (T:TypeId):CellsEnd (w.alloc (.cells L.toArray T)) w.heap.size L.length:=λj hj=>by
 simp only[World.cell?,World.alloc,Array.getElem?_push_size]
 simpa using hj
theorem zwK {w:World} {b a off:Nat} {x:Addr} (h:CellsAt w b zat) (he:CellsEnd w b 20) (hx:w.cell? ⟨a,off,none⟩=some (.pointer (some x))):b≠a:=by
 rintro rfl
 by_cases hl:off<20
 ·have:=h off zat[off] (List.getElem?_eq_getElem hl);rw[hx]at this;have hm:Value.pointer (some x) ∈ zat:=by
   rw[Option.some.inj this];exact List.getElem_mem hl
  unfold zat at hm;simp at hm
 ·rw[he off (by omega)]at hx
  cases hx
theorem zvU {w:World} {b a:Nat} {x:Option Addr} {n c:Nat} (h:CellsAt w b zat) (hx:w.cell? ⟨a,0,none⟩=some (.slice x n c)):b≠a:=by
 rintro rfl;rw[h 0 _ rfl]at hx;simp at hx
theorem zrX (b o:Nat) (n:Int) (w:World):(storeCells ⟨b,o,none⟩ [.int .i64 n] 0).run Tryz.prog w=(store ⟨b,o,none⟩ (.int .i64 n)).run Tryz.prog w:=by
 have hadd:(⟨b,o,none⟩:Addr).add 0=⟨b,o,none⟩:=by unfold Addr.add;split<;>simp_all
 simp only[storeCells,hadd,Sem.run_bind]
 cases (store (⟨b,o,none⟩:Addr) (.int .i64 n)).run Tryz.prog w<;>rfl
theorem ztp {o:Opr} {I:Im} (hI:zba I) (i0:I.iw<=20) (i1:I.ih<=20) (hy:zaA [o] I.iw I.ih I.ic=0/\1<=4/\zcf 12 [o] 1=false) {S:Stg} (hS:zD [o] I.iw I.ih 0=S) :
  zcF S/\zap I S=0/\zdJ S.ly/\zaB S.ly<=65536/\zB o I.iw I.ih=0/\¬zcK 12 o/\S=zj o I.iw I.ih:=by
 obtain⟨sm,cz⟩:=zoe (L:=[o]) (n:=1) rfl hI i0 i1 hy;have c1:=cz 1 (by omega);rw[zlv,zlI I _ _ rfl,hS]at c1;obtain⟨_,oc⟩:=zko (L:=[o]) hy.1 hy.2.2 i0 i1 0 (by simp);have nb:=zkX hy.2.2 (k:=0) (by decide);obtain⟨g,m⟩:=zjt (o:=o) (w:=I.iw) (h:=I.ih) (s:=12) oc nb (by decide) i1;have e:zj o I.iw I.ih=S:=hS;rw[e]at g m;exact⟨hS ▸ sm 0 (by omega),c1,g,by omega,oc,nb,e.symm⟩
structure BegIn (w w0 wn:World) (c:JobC) (h2 gx px gy py:Nat) (O:Im):Prop where
 law:LawC w0 wn h2 c O
 tgt:ImgAt wn c.g2 h2 O
 ne:c.g≠c.g2
 thaw:Thawed wn c.g2
 bel0:Below w.heap.size w w0
 bel:Below w0.heap.size w0 wn
 lx:LinesAt w0 gx c.S.lx
 ly:LinesAt w0 gy c.S.ly
 out:O=⟨(c.S.lx.length:Int),(c.S.ly.length:Int),c.I.ic,c.I.it,List.replicate ((c.S.lx.length:Int)*(c.S.ly.length:Int)*c.I.ic).toNat 0⟩
 step:zap c.I c.S=0
 op:∃ o,zB o c.I.iw c.I.ih=0/\¬zcK 12 o/\c.S=zj o c.I.iw c.I.ih
 i0:c.I.iw<=20
 i1:c.I.ih<=20
 n0:c.tn=0
 n1:c.tfx=0
 n2:c.tfy=0
 n3:c.tcx=0
 n4:c.tcy=0
 n5:c.trg=0
def zkQ (c:JobC) (gx px gy py:Nat):Value :=
 .agg #[.pointer (some ⟨c.g,0,none⟩),.pointer (some ⟨c.g2,0,none⟩),.pointer (some c.ax),.pointer (some c.ay),.int .i64 c.S.sb,.slice (some ⟨gx,0,none⟩) c.S.lx.length px,.slice (some ⟨gy,0,none⟩) c.S.ly.length py,.int .i64 c.S.fx,.int .i64 c.S.fy,.int .i64 c.S.sb,.int .i64 0,.int .i64 (c.x0:Int),.int .i64 (c.y0:Int),.int .i64 (c.W:Int),.int .i64 (c.H:Int),.int .i64 0,.int .i64 0,.int .i64 0,.int .i64 0,.int .i64 0]
theorem zpB {A:Nat} {x w:Int} (x0:0<=x) (w0:0<=w) (hA:1<=A):∃ p q:Nat,x.tmod (A:Int)=(p:Int)/\p+(1+q)<=A/\w.tmod ((A:Int)-(p:Int))=(q:Int):=by
 have a0:x.tmod (A:Int)=x % (A:Int):=Int.tmod_eq_emod_of_nonneg x0;have h1:=Int.emod_nonneg x (show(A:Int)≠0 by omega);have h2:=Int.emod_lt_of_pos x (show(0:Int)<(A:Int) by omega);obtain⟨p,hp⟩:∃ p:Nat,x % (A:Int)=(p:Int):=⟨(x % (A:Int)).toNat,by omega⟩;have b0:w.tmod ((A:Int)-(p:Int))=w % ((A:Int)-(p:Int)):=Int.tmod_eq_emod_of_nonneg w0;have h3:=Int.emod_nonneg w (show(A:Int)-(p:Int)≠0 by omega);have h4:=Int.emod_lt_of_pos w (show(0:Int)<(A:Int)-(p:Int) by omega);exact⟨p,(w % ((A:Int)-(p:Int))).toNat,by omega,by omega,by omega⟩
theorem zms {A p q:Nat} (h:p+(1+q)<=A) (hA:A<=65536):¬(A:Int)=0/\¬((A:Int)-(p:Int))=0/\IntKind.i64.wrap (p:Int)=(p:Int)/\IntKind.i64.wrap ((A:Int)-(p:Int))=(A:Int)-(p:Int)/\IntKind.i64.wrap (q:Int)=(q:Int)/\IntKind.i64.wrap (1+(q:Int))=1+(q:Int):=by
 simp only[IntKind.wrap_i64];omega
theorem ziC {A p q:Nat} (h:p+(1+q)<=A):¬A=0/\¬A=p:=by omega
theorem zhu {x:Int} (h:0<=x/\x<=255):IntKind.i64.wrap x=x:=by
 simp only[IntKind.wrap_i64];omega
theorem zq4 {w w':World} {a:Addr} (h:Below w.heap.size w w') (v:Value):Below (w.setCell a v).heap.size (w.setCell a v) (w'.setCell a v):=by
 refine⟨h.os,h.tape,h.output,?_,λk hk=>?_⟩
 ·simp only[World.size_setCell];exact h.size
 ·rw[World.size_setCell]at hk;have:=h.block k hk;simp only[World.setCell,Array.getElem?_modify];rw[this]
theorem ziW {b:Nat}:∀ (vs:List Value) (k:Nat) {w w':World},Below w.heap.size w w'->Below (w.setCells b k vs).heap.size (w.setCells b k vs) (w'.setCells b k vs)
 |[],_,_,_,h=>h
 |v :: r,k,_,_,h=>ziW r (k+1) (zq4 h v)
theorem zif (b:Nat):∀ (vs:List Value) (k:Nat) (w:World),(w.setCells b k vs).heap.size=w.heap.size
 |[],_,_=>rfl
 |_ :: r,k,_=>(zif b r (k+1) _).trans (World.size_setCell ..)
theorem za2 {b c:Nat} (h:b≠c) (vs:List Value) (w:World) (o:Nat):(w.setCells b 0 vs).cell? ⟨c,o,none⟩=w.cell? ⟨c,o,none⟩:=World.cell?_setCells_out b vs 0 w _ (λe _=>absurd e.symm h)
theorem zfU {w:World} {b c:Nat} {k:IntKind} {x:Int} (h:CellsAt w b zat) (hx:w.cell? ⟨c,0,none⟩=some (.int k x)):b≠c:=by
 rintro rfl;rw[h 0 _ rfl]at hx;simp at hx
theorem znH {w:World} {b c:Nat} {x:ByteArray} (h:CellsAt w b zat) (hx:w.cell? ⟨c,0,none⟩=some (.string x)):b≠c:=by
 rintro rfl;rw[h 0 _ rfl]at hx;simp at hx
theorem zna:∀ (xs:List Int),(∀ j,j<xs.length->xs.getD j 0=0)->xs.sum=0
 |[],_=>rfl
 |x :: r,h=>by
  have a:=h 0 (by simp);have b:=zna r (λj hj=>by have:=h (j+1) (by simpa using hj);simpa using this);simp only[List.getD_cons_zero]at a
  simp[a,b]
theorem zvf {w:World} {b c o:Nat} {xs:List Int} (h:CellsAt w b zat) (he:CellsEnd w b 20) (hs:xs.sum≠0) (hx:∀ j,j<xs.length->w.cell? ⟨c,o+j,none⟩=some (.int .i64 (xs.getD j 0))):b≠c:=by
 rintro rfl;refine hs (zna xs λj hj=>?_);have q:=hx j hj
 by_cases hl:o+j<20
 ·have:=h (o+j) zat[o+j] (List.getElem?_eq_getElem hl);rw[q]at this;have hm:Value.int .i64 (xs.getD j 0) ∈ zat:=by
   rw[Option.some.inj this];exact List.getElem_mem hl
  unfold zat at hm
  simpa using hm
 ·rw[he (o+j) (by omega)]at q
  cases q
theorem zmv {w:World} {b:Nat} {ad:Option Addr} {xs:List Int} (h:CellsAt w b zat) (he:CellsEnd w b 20) (hs:xs.sum≠0) (vs:List Value) (r:RowAt .i64 w ad xs):RowAt .i64 (w.setCells b 0 vs) ad xs:=by
 rcases r with r|⟨c,o,e,r⟩
 ·exact .inl r
 ·exact .inr ⟨c,o,e,λj hj=>(za2 (zvf h he hs r) vs w _).trans (r j hj)⟩
theorem zrI {w:World} {b g:Nat} {L:List (Int×List Int)} (h:CellsAt w b zat) (he:CellsEnd w b 20) (l0:1<=L.length) (hs:∀ j,j<L.length->(ze L j).2.sum≠0) (vs:List Value) (H:LinesHead w g L):LinesHead (w.setCells b 0 vs) g L:=by
 have n:b≠g:=zfU h (by simpa using(H 0 l0).1);intro j hj;obtain⟨c1,d,cap,c2,hr⟩:=H j hj;exact⟨(za2 n vs w _).trans c1,d,cap,(za2 n vs w _).trans c2,zmv h he (hs j hj) vs hr⟩
theorem znV {w:World} {b:Nat} {v:Value} {n:Int} {L:List (Int×List Int)} (h:CellsAt w b zat) (he:CellsEnd w b 20) (hs:∀ j,j<L.length->(ze L j).2.sum≠0) (vs:List Value) (H:Tab w v n L):Tab (w.setCells b 0 vs) v n L:=by
 obtain⟨g,d,cap,e,c0,c1,c2,c3,hl,hok,hm,l0,l1,n0,n1⟩:=H;have n:=zfU h c0;exact⟨g,d,cap,e,(za2 n vs w _).trans c0,(za2 n vs w _).trans c1,(za2 n vs w _).trans c2,(za2 n vs w _).trans c3,zrI h he l0 hs vs hl,hok,hm,l0,l1,n0,n1⟩
theorem zkq {w:World} {b g:Nat} {L:List (Int×List Int)} (h:CellsAt w b zat) (he:CellsEnd w b 20) (l0:1<=L.length) (hs:∀ j,j<L.length->(ze L j).2.sum≠0) (vs:List Value) (H:LinesAt w g L):LinesAt (w.setCells b 0 vs) g L:=by
 have n:b≠g:=zfU h (by simpa using(H 0 l0).1);intro j hj;obtain⟨c1,u,c2,ad,cap,e,hr⟩:=H j hj;exact⟨(za2 n vs w _).trans c1,u,(za2 n vs w _).trans c2,ad,cap,e,zmv h he (hs j hj) vs hr⟩
theorem znJ {w:World} {b g d:Nat} {I:Im} (n1:b≠g) (n2:b≠d) (vs:List Value) (H:ImgAt w g d I):ImgAt (w.setCells b 0 vs) g d I:=by
 obtain⟨cap,c0,c1,c2,c3,c4,r,z,hc,hne,k⟩:=H;refine⟨cap,(za2 n1 vs w _).trans c0,(za2 n1 vs w _).trans c1,(za2 n1 vs w _).trans c2,(za2 n1 vs w _).trans c3,(za2 n1 vs w _).trans c4,?_,λj hj=>(World.frozen?_setCells b vs 0 w _).trans (z j hj),hc,hne,k⟩;rcases r with r|⟨c,o,e,r⟩
 ·exact .inl r
 ·have e2:d=c/\0=o:=by simpa using e
  obtain⟨rfl,rfl⟩:=e2;exact .inr ⟨d,0,rfl,λj hj=>(za2 n2 vs w _).trans (r j hj)⟩
theorem zx6 {w:World} {b g d:Nat} {I:Im} (h:CellsAt w b zat) (H:ImgAt w g d I):b≠g/\b≠d:=by
 obtain⟨cap,c0,c1,c2,c3,c4,r,z,hc,hne,k⟩:=H;have q:=r.at (zdg k).1;exact⟨zfU h c0,zfU h q⟩
theorem zvn {w:World} {b:Nat} (h:CellsAt w b zat) (vs:List Value) (H:OpK w):OpK (w.setCells b 0 vs):=by
 obtain⟨k,n⟩:=H;have e1:=znH h k.1;have e2:=znH h n.1;unfold OpK;unfold zaT at k ⊢;unfold ze7 at n ⊢;simp only[za2 e1,za2 e2];exact⟨k,n⟩
end Go.Proofs.YtlodkoimdoeopaaGreatDoor
