/- Parts, joined. -/
import Derived.Test.YtlodkoimdoeopaaGreatDoorQ18
import Derived.Test.YtlodkoimdoeopaaGreatDoorQ11
import Derived.Test.YtlodkoimdoeopaaGreatDoorQ12
import Derived.Test.YtlodkoimdoeopaaGreatDoorQ09
import Derived.Test.YtlodkoimdoeopaaGreatDoorQ02
import Derived.Test.YtlodkoimdoeopaaGreatDoorQ13
import Derived.Test.YtlodkoimdoeopaaGreatDoorQ14
namespace Go.Proofs.YtlodkoimdoeopaaGreatDoor
open Go.RowKit
def zkc:Value:=.agg #[.pointer none,.pointer none,.int .i64 0]
def OpK (w:World):Prop:=zaT w/\ze0 w
theorem zaW (w w':World) (h:OpK w) (b:Below w.heap.size w w'):OpK w':=⟨zbq h.1 b,zdD h.2 b⟩
set_option maxHeartbeats 2000000 in
set_option maxRecDepth 100000 in
theorem zoO (o:Opr) (ax:Option Addr) (cx:Nat) (ay:Option Addr) (cy:Nat) (a b:Int) (w:World) (hk:zaT w) (hF:OpFits o) (h:¬((1<=o.wd/\o.wd<=65536)/\(1<=o.ht/\o.ht<=65536)/\0<=o.fl/\o.fl<=2)) :
  Calls Tryz.prog 65 #[opV o ax cx ay cy,.int .i64 a,.int .i64 b] w λe w'=>e=.returned (.tuple #[zkc,.int .i64 6])/\Below w.heap.size w w':=by
 have HK:=za (fun(w':World) (b':Below w.heap.size w w')=>zbq hk b');have CN:=fun(w':World) (hk:zaT w')=>zhn o.fl hF.fl w' hk
 unfold zkc;clear hF hk;unfold opV;obtain⟨kd,bd,sg,rd,xs,ys,fl,wd,ht⟩:=o;simp only at *;generalize xs.length=nx at *;generalize ys.length=ny at *;have HP:=za (show P9 ((w.alloc (.cells #[.int .i64 kd,.int .i64 bd,.int .i64 sg,.int .i64 rd,.slice ax nx cx,.slice ay ny cy,.int .i64 fl,.int .i64 wd,.int .i64 ht] 31)).alloc (.cells #[.pointer none,.pointer none,.int .i64 0] 36)) w.heap.size kd bd sg rd (.slice ax nx cx) (.slice ay ny cy) fl wd ht from(P9.new w 31 kd bd sg rd (.slice ax nx cx) (.slice ay ny cy) fl wd ht).below (zg _ _));have HR:=za (show S3 ((w.alloc (.cells #[.int .i64 kd,.int .i64 bd,.int .i64 sg,.int .i64 rd,.slice ax nx cx,.slice ay ny cy,.int .i64 fl,.int .i64 wd,.int .i64 ht] 31)).alloc (.cells #[.pointer none,.pointer none,.int .i64 0] 36)) (w.heap.size+1) (.pointer none) (.pointer none) (.int .i64 0) from by simpa using S3.new (w.alloc (.cells #[.int .i64 kd,.int .i64 bd,.int .i64 sg,.int .i64 rd,.slice ax nx cx,.slice ay ny cy,.int .i64 fl,.int .i64 wd,.int .i64 ht] 31)) 36 (.pointer none) (.pointer none) (.int .i64 0));have HB:=za (show Below w.heap.size w ((w.alloc (.cells #[.int .i64 kd,.int .i64 bd,.int .i64 sg,.int .i64 rd,.slice ax nx cx,.slice ay ny cy,.int .i64 fl,.int .i64 wd,.int .i64 ht] 31)).alloc (.cells #[.pointer none,.pointer none,.int .i64 0] 36)) from ba (zg _ _) _)
 by_cases hf:0<=fl/\fl<=2
 case neg =>
  rw[show zfg fl=.string ⟨#[]⟩ by unfold zfg;rw[if_neg (by omega),if_neg (by omega),if_neg (by omega)]]at CN;clear h hf
  go_enter Tryz.func65,Tryz.ntmps65
  go_wp2_with (first
   |(go_at_call 101;(with_reducible refine(CN _ (HK.out _ HB.out)).mono ?_);rintro e wv ⟨rfl,bv⟩;have PV:=za (HP.out.below bv);have RV:=za (HR.out.below bv);have BV:=za (bt HB.out bv);have pv:=PV.out;obtain⟨a0,a1,a2,a3,a4,a5,a6,a7,a8⟩:=pv;have rv:=RV.out;obtain⟨⟨fr0,fy0⟩,⟨fr1,fy1⟩,⟨fr2,fy2⟩⟩:=rv))
  have EN:=za (And.intro (S3.fill RV.out (.pointer none) (.pointer none) (.int .i64 0)) (And.intro (zaP BV.out (Nat.le_add_right _ 1) (.pointer none) (.pointer none) (.int .i64 0)) trivial));generalize (((wv).setCell ⟨w.heap.size+1,0,none⟩ (.pointer none)).setCell ⟨w.heap.size+1,1,none⟩ (.pointer none)).setCell ⟨w.heap.size+1,2,none⟩ (.int .i64 0)=WE at EN ⊢;obtain⟨⟨er0,ey0⟩,⟨er1,ey1⟩,⟨er2,ey2⟩⟩:=EN.out.1;exact bodyPost_ret (v:=.tuple #[.agg #[.pointer none,.pointer none,.int .i64 0],.int .i64 6]) (by simp[results,Tryz.results65,go_sem,er0,er1,er2]) rfl ⟨rfl,EN.out.2.1⟩
 obtain⟨s,hs,s0⟩:=zf6 fl hf.1 hf.2;rw[hs]at CN
 by_cases hw:1<=wd/\wd<=65536
 case neg =>
  have S1:=zhd wd (by omega);clear h hf hw hs
  go_enter Tryz.func65,Tryz.ntmps65
  go_wp2_with (first
   |(go_at_call 101;(with_reducible refine(CN _ (HK.out _ HB.out)).mono ?_);rintro e wv ⟨rfl,bv⟩;have PV:=za (HP.out.below bv);have RV:=za (HR.out.below bv);have BV:=za (bt HB.out bv);have pv:=PV.out;obtain⟨a0,a1,a2,a3,a4,a5,a6,a7,a8⟩:=pv;have rv:=RV.out;obtain⟨⟨fr0,fy0⟩,⟨fr1,fy1⟩,⟨fr2,fy2⟩⟩:=rv)
   |(go_at_call 64;(with_reducible refine(S1 _).mono ?_);rintro e wz ⟨rfl,rfl⟩))
  have EN:=za (And.intro (S3.fill RV.out (.pointer none) (.pointer none) (.int .i64 0)) (And.intro (zaP BV.out (Nat.le_add_right _ 1) (.pointer none) (.pointer none) (.int .i64 0)) trivial));generalize (((wv).setCell ⟨w.heap.size+1,0,none⟩ (.pointer none)).setCell ⟨w.heap.size+1,1,none⟩ (.pointer none)).setCell ⟨w.heap.size+1,2,none⟩ (.int .i64 0)=WE at EN ⊢;obtain⟨⟨er0,ey0⟩,⟨er1,ey1⟩,⟨er2,ey2⟩⟩:=EN.out.1;exact bodyPost_ret (v:=.tuple #[.agg #[.pointer none,.pointer none,.int .i64 0],.int .i64 6]) (by simp[results,Tryz.results65,go_sem,er0,er1,er2]) rfl ⟨rfl,EN.out.2.1⟩
 have S1:=zcM wd hw.1 hw.2;have S2:=zhd ht (by
  by_cases q:ht<1
  ·exact .inl q
  ·by_cases q2:65536<ht
   ·exact .inr q2
   ·exact absurd ⟨hw,⟨by omega,by omega⟩,hf.1,hf.2⟩ h)
 clear h hf hw hs
 go_enter Tryz.func65,Tryz.ntmps65
 go_wp2_with (first
  |(go_at_call 101;(with_reducible refine(CN _ (HK.out _ HB.out)).mono ?_);rintro e wv ⟨rfl,bv⟩;have PV:=za (HP.out.below bv);have RV:=za (HR.out.below bv);have BV:=za (bt HB.out bv);have pv:=PV.out;obtain⟨a0,a1,a2,a3,a4,a5,a6,a7,a8⟩:=pv;have rv:=RV.out;obtain⟨⟨fr0,fy0⟩,⟨fr1,fy1⟩,⟨fr2,fy2⟩⟩:=rv)
  |(go_at_call 64;(with_reducible refine(S1 _).mono ?_);rintro e wz ⟨rfl,rfl⟩)
  |(go_at_call 64;(with_reducible refine(S2 _).mono ?_);rintro e wz ⟨rfl,rfl⟩))
 have EN:=za (And.intro (S3.fill RV.out (.pointer none) (.pointer none) (.int .i64 0)) (And.intro (zaP BV.out (Nat.le_add_right _ 1) (.pointer none) (.pointer none) (.int .i64 0)) trivial));generalize (((wv).setCell ⟨w.heap.size+1,0,none⟩ (.pointer none)).setCell ⟨w.heap.size+1,1,none⟩ (.pointer none)).setCell ⟨w.heap.size+1,2,none⟩ (.int .i64 0)=WE at EN ⊢;obtain⟨⟨er0,ey0⟩,⟨er1,ey1⟩,⟨er2,ey2⟩⟩:=EN.out.1;exact bodyPost_ret (v:=.tuple #[.agg #[.pointer none,.pointer none,.int .i64 0],.int .i64 6]) (by simp[results,Tryz.results65,go_sem,er0,er1,er2]) rfl ⟨rfl,EN.out.2.1⟩
set_option maxHeartbeats 2000000 in
set_option maxRecDepth 100000 in
theorem zr0 (o:Opr) (ax:Option Addr) (cx:Nat) (ay:Option Addr) (cy:Nat) (a b:Int) (w:World) (hk:OpK w) (h:¬((0<=o.kd/\o.kd<=3)/\(0<=o.bd/\o.bd<=2)/\(1<=a/\a<=65536)/\(1<=b/\b<=65536))) :
  Calls Tryz.prog 34 #[opV o ax cx ay cy,.int .i64 a,.int .i64 b] w λe w'=>e=.returned (.tuple #[zkc,.int .i64 6])/\Below w.heap.size w w':=by
 have HK:=za (fun(w':World) (b':Below w.heap.size w w')=>zdD hk.2 b');have CB:=fun(w':World) (hk:ze0 w')=>zgg o.bd w' hk
 unfold zkc;clear hk;unfold opV;obtain⟨kd,bd,sg,rd,xs,ys,fl,wd,ht⟩:=o;simp only at *;generalize xs.length=nx at *;generalize ys.length=ny at *;have HP:=za (show P9 ((w.alloc (.cells #[.int .i64 kd,.int .i64 bd,.int .i64 sg,.int .i64 rd,.slice ax nx cx,.slice ay ny cy,.int .i64 fl,.int .i64 wd,.int .i64 ht] 31)).alloc (.cells #[.pointer none,.pointer none,.int .i64 0] 36)) w.heap.size kd bd sg rd (.slice ax nx cx) (.slice ay ny cy) fl wd ht from(P9.new w 31 kd bd sg rd (.slice ax nx cx) (.slice ay ny cy) fl wd ht).below (zg _ _));have HR:=za (show S3 ((w.alloc (.cells #[.int .i64 kd,.int .i64 bd,.int .i64 sg,.int .i64 rd,.slice ax nx cx,.slice ay ny cy,.int .i64 fl,.int .i64 wd,.int .i64 ht] 31)).alloc (.cells #[.pointer none,.pointer none,.int .i64 0] 36)) (w.heap.size+1) (.pointer none) (.pointer none) (.int .i64 0) from by simpa using S3.new (w.alloc (.cells #[.int .i64 kd,.int .i64 bd,.int .i64 sg,.int .i64 rd,.slice ax nx cx,.slice ay ny cy,.int .i64 fl,.int .i64 wd,.int .i64 ht] 31)) 36 (.pointer none) (.pointer none) (.int .i64 0));have HB:=za (show Below w.heap.size w ((w.alloc (.cells #[.int .i64 kd,.int .i64 bd,.int .i64 sg,.int .i64 rd,.slice ax nx cx,.slice ay ny cy,.int .i64 fl,.int .i64 wd,.int .i64 ht] 31)).alloc (.cells #[.pointer none,.pointer none,.int .i64 0] 36)) from ba (zg _ _) _)
 by_cases hkd:0<=kd/\kd<=3
 case neg =>
  have C1:=zrH kd (by omega);clear h hkd
  go_enter Tryz.func34,Tryz.ntmps34
  go_wp2_with (first
   |(go_at_call 62;(with_reducible refine(C1 _).mono ?_);rintro e wz ⟨rfl,rfl⟩))
  exact bodyPost_ret (v:=.tuple #[.agg #[.pointer none,.pointer none,.int .i64 0],.int .i64 6]) (by simp[results,Tryz.results34,go_sem]) rfl ⟨rfl,HB.out⟩
 have C1:=zhi kd hkd.1 hkd.2
 by_cases hbd:0<=bd/\bd<=2
 case neg =>
  rw[zj0 bd (by omega)]at CB;clear h hkd hbd
  go_enter Tryz.func34,Tryz.ntmps34
  go_wp2_with (first
   |(go_at_call 62;(with_reducible refine(C1 _).mono ?_);rintro e wz ⟨rfl,rfl⟩)
   |(go_at_call 63;(with_reducible refine(CB _ (HK.out _ HB.out)).mono ?_);rintro e wz ⟨rfl,rfl⟩))
  exact bodyPost_ret (v:=.tuple #[.agg #[.pointer none,.pointer none,.int .i64 0],.int .i64 6]) (by simp[results,Tryz.results34,go_sem]) rfl ⟨rfl,HB.out⟩
 obtain⟨s,hs,s0⟩:=zfu bd hbd.1 hbd.2;rw[hs]at CB
 by_cases ha:1<=a/\a<=65536
 case neg =>
  have S1:=zhd a (by omega);clear h hkd hbd ha hs
  go_enter Tryz.func34,Tryz.ntmps34
  go_wp2_with (first
   |(go_at_call 62;(with_reducible refine(C1 _).mono ?_);rintro e wz ⟨rfl,rfl⟩)
   |(go_at_call 63;(with_reducible refine(CB _ (HK.out _ HB.out)).mono ?_);rintro e wz ⟨rfl,rfl⟩)
   |(go_at_call 64;(with_reducible refine(S1 _).mono ?_);rintro e wz ⟨rfl,rfl⟩))
  exact bodyPost_ret (v:=.tuple #[.agg #[.pointer none,.pointer none,.int .i64 0],.int .i64 6]) (by simp[results,Tryz.results34,go_sem]) rfl ⟨rfl,HB.out⟩
 have S1:=zcM a ha.1 ha.2;have S2:=zhd b (by
  by_cases q:b<1
  ·exact .inl q
  ·by_cases q2:65536<b
   ·exact .inr q2
   ·exact absurd ⟨hkd,hbd,ha,by omega,by omega⟩ h)
 clear h hkd hbd ha hs
 go_enter Tryz.func34,Tryz.ntmps34
 go_wp2_with (first
  |(go_at_call 62;(with_reducible refine(C1 _).mono ?_);rintro e wz ⟨rfl,rfl⟩)
  |(go_at_call 63;(with_reducible refine(CB _ (HK.out _ HB.out)).mono ?_);rintro e wz ⟨rfl,rfl⟩)
  |(go_at_call 64;(with_reducible refine(S1 _).mono ?_);rintro e wz ⟨rfl,rfl⟩)
  |(go_at_call 64;(with_reducible refine(S2 _).mono ?_);rintro e wz ⟨rfl,rfl⟩))
 exact bodyPost_ret (v:=.tuple #[.agg #[.pointer none,.pointer none,.int .i64 0],.int .i64 6]) (by simp[results,Tryz.results34,go_sem]) rfl ⟨rfl,HB.out⟩
set_option maxHeartbeats 2000000 in
set_option maxRecDepth 100000 in
theorem zkQ (o:Opr) (ax:Option Addr) (cx:Nat) (ay:Option Addr) (cy:Nat) (a b:Int) (w:World) (hk:OpK w) (k0:0<=o.kd) (k1:o.kd<=3) (b0:0<=o.bd) (b1:o.bd<=2) (a0:1<=a) (a1:a<=65536) (h0:1<=b) (h1:b<=65536) (k3:o.kd=3) (k:Int) (S:Stg)
  (CC:∀ w',Below w.heap.size w w'->Calls Tryz.prog 65 #[opV o ax cx ay cy,.int .i64 a,.int .i64 b] w' λe w''=>zb7 e w'' k S/\Below w'.heap.size w' w'') :
  Calls Tryz.prog 34 #[opV o ax cx ay cy,.int .i64 a,.int .i64 b] w λe w'=>zb7 e w' k S/\Below w.heap.size w w':=by
 have HK:=za (fun(w':World) (b':Below w.heap.size w w')=>zdD hk.2 b');have CB:=fun(w':World) (hk:ze0 w')=>zgg o.bd w' hk
 obtain⟨s,hs,s0⟩:=zfu o.bd b0 b1;rw[hs]at CB;have C1:=zhi o.kd k0 k1;have S1:=zcM a a0 a1;have S2:=zcM b h0 h1;unfold opV at CC ⊢;clear hk hs b0 b1 a0 a1 h0 h1 k0 k1;obtain⟨kd,bd,sg,rd,xs,ys,fl,wd,ht⟩:=o;simp only at *;subst k3;generalize xs.length=nx at *;generalize ys.length=ny at *;have HP:=za (show P9 ((w.alloc (.cells #[.int .i64 3,.int .i64 bd,.int .i64 sg,.int .i64 rd,.slice ax nx cx,.slice ay ny cy,.int .i64 fl,.int .i64 wd,.int .i64 ht] 31)).alloc (.cells #[.pointer none,.pointer none,.int .i64 0] 36)) w.heap.size 3 bd sg rd (.slice ax nx cx) (.slice ay ny cy) fl wd ht from(P9.new w 31 3 bd sg rd (.slice ax nx cx) (.slice ay ny cy) fl wd ht).below (zg _ _));have HR:=za (show S3 ((w.alloc (.cells #[.int .i64 3,.int .i64 bd,.int .i64 sg,.int .i64 rd,.slice ax nx cx,.slice ay ny cy,.int .i64 fl,.int .i64 wd,.int .i64 ht] 31)).alloc (.cells #[.pointer none,.pointer none,.int .i64 0] 36)) (w.heap.size+1) (.pointer none) (.pointer none) (.int .i64 0) from by simpa using S3.new (w.alloc (.cells #[.int .i64 3,.int .i64 bd,.int .i64 sg,.int .i64 rd,.slice ax nx cx,.slice ay ny cy,.int .i64 fl,.int .i64 wd,.int .i64 ht] 31)) 36 (.pointer none) (.pointer none) (.int .i64 0));have HB:=za (show Below w.heap.size w ((w.alloc (.cells #[.int .i64 3,.int .i64 bd,.int .i64 sg,.int .i64 rd,.slice ax nx cx,.slice ay ny cy,.int .i64 fl,.int .i64 wd,.int .i64 ht] 31)).alloc (.cells #[.pointer none,.pointer none,.int .i64 0] 36)) from ba (zg _ _) _);obtain⟨lx,ly,fx,fy,sb⟩:=S;unfold zb7 at CC ⊢;simp only at *
 by_cases hz:k=0
 case neg =>
  replace CC:∀ w',Below w.heap.size w w'->Calls Tryz.prog 65 #[.agg #[.int .i64 3,.int .i64 bd,.int .i64 sg,.int .i64 rd,.slice ax nx cx,.slice ay ny cy,.int .i64 fl,.int .i64 wd,.int .i64 ht],.int .i64 a,.int .i64 b] w' λe w''=>e=.returned (.tuple #[.agg #[.pointer none,.pointer none,.int .i64 0],.int .i64 k])/\Below w'.heap.size w' w'':=λw' b'=>(CC w' b').mono λe w'' ⟨hA,hB⟩=>by
   rcases hA with⟨_,he⟩|⟨q,_⟩
   ·exact⟨he,hB⟩
   ·exact absurd q hz
  have HNZ:=za hz;clear hz
  go_enter Tryz.func34,Tryz.ntmps34
  go_wp2_with (first
   |(go_at_call 62;(with_reducible refine(C1 _).mono ?_);rintro e wz ⟨rfl,rfl⟩)
   |(go_at_call 63;(with_reducible refine(CB _ (HK.out _ HB.out)).mono ?_);rintro e wz ⟨rfl,rfl⟩)
   |(go_at_call 64;(with_reducible refine(S1 _).mono ?_);rintro e wz ⟨rfl,rfl⟩)
   |(go_at_call 64;(with_reducible refine(S2 _).mono ?_);rintro e wz ⟨rfl,rfl⟩)
   |(go_at_call 65;(with_reducible refine(CC _ HB.out).mono ?_);rintro e wx ⟨rfl,bx⟩;have RX:=za (HR.out.below bx);have BX:=za (bt HB.out bx);have rx:=RX.out;obtain⟨⟨gr0,gy0⟩,⟨gr1,gy1⟩,⟨gr2,gy2⟩⟩:=rx))
  have EN:=za (And.intro (S3.fill RX.out (.pointer none) (.pointer none) (.int .i64 0)) (And.intro (zaP BX.out (Nat.le_add_right _ 1) (.pointer none) (.pointer none) (.int .i64 0)) trivial));generalize (((wx).setCell ⟨w.heap.size+1,0,none⟩ (.pointer none)).setCell ⟨w.heap.size+1,1,none⟩ (.pointer none)).setCell ⟨w.heap.size+1,2,none⟩ (.int .i64 0)=WE at EN ⊢;obtain⟨⟨er0,ey0⟩,⟨er1,ey1⟩,⟨er2,ey2⟩⟩:=EN.out.1;exact bodyPost_ret (v:=.tuple #[.agg #[.pointer none,.pointer none,.int .i64 0],.int .i64 k]) (by simp[results,Tryz.results34,go_sem,er0,er1,er2]) rfl ⟨.inl ⟨HNZ.out,rfl⟩,EN.out.2.1⟩
 subst hz
 replace CC:∀ w',Below w.heap.size w w'->Calls Tryz.prog 65 #[.agg #[.int .i64 3,.int .i64 bd,.int .i64 sg,.int .i64 rd,.slice ax nx cx,.slice ay ny cy,.int .i64 fl,.int .i64 wd,.int .i64 ht],.int .i64 a,.int .i64 b] w' λe w''=>(∃ gx gy,e=.returned (.tuple #[.agg #[.pointer (some gx),.pointer (some gy),.int .i64 sb],.int .i64 0])/\Tab w'' (.pointer (some gx)) fx lx/\Tab w'' (.pointer (some gy)) fy ly)/\Below w'.heap.size w' w'':=λw' b'=>(CC w' b').mono λe w'' ⟨hA,hB⟩=>by
  rcases hA with⟨q,_⟩|⟨_,x,y,he,tx,ty⟩
  ·exact absurd rfl q
  ·obtain⟨gx,rfl⟩:=tx.ptr;obtain⟨gy,rfl⟩:=ty.ptr;exact⟨⟨gx,gy,he,tx,ty⟩,hB⟩
 go_enter Tryz.func34,Tryz.ntmps34
 go_wp2_with (first
  |(go_at_call 62;(with_reducible refine(C1 _).mono ?_);rintro e wz ⟨rfl,rfl⟩)
  |(go_at_call 63;(with_reducible refine(CB _ (HK.out _ HB.out)).mono ?_);rintro e wz ⟨rfl,rfl⟩)
  |(go_at_call 64;(with_reducible refine(S1 _).mono ?_);rintro e wz ⟨rfl,rfl⟩)
  |(go_at_call 64;(with_reducible refine(S2 _).mono ?_);rintro e wz ⟨rfl,rfl⟩)
  |(go_at_call 65;(with_reducible refine(CC _ HB.out).mono ?_);rintro e wx ⟨⟨gx,gy,rfl,tx,ty⟩,bx⟩;have RX:=za (HR.out.below bx);have BX:=za (bt HB.out bx);have rx:=RX.out;obtain⟨⟨gr0,gy0⟩,⟨gr1,gy1⟩,⟨gr2,gy2⟩⟩:=rx;have TX:=za tx;have TY:=za ty;clear tx ty))
 have EN:=za (And.intro (S3.fill RX.out (.pointer (some gx)) (.pointer (some gy)) (.int .i64 sb)) (And.intro (zaP BX.out (Nat.le_add_right _ 1) (.pointer (some gx)) (.pointer (some gy)) (.int .i64 sb)) (And.intro (Tab.fill3 TX.out RX.out (λ_ q=>by cases q) (.pointer (some gx)) (.pointer (some gy)) (.int .i64 sb)) (Tab.fill3 TY.out RX.out (λ_ q=>by cases q) (.pointer (some gx)) (.pointer (some gy)) (.int .i64 sb)))));generalize (((wx).setCell ⟨w.heap.size+1,0,none⟩ (.pointer (some gx))).setCell ⟨w.heap.size+1,1,none⟩ (.pointer (some gy))).setCell ⟨w.heap.size+1,2,none⟩ (.int .i64 sb)=WE at EN ⊢;obtain⟨⟨er0,ey0⟩,⟨er1,ey1⟩,⟨er2,ey2⟩⟩:=EN.out.1;exact bodyPost_ret (v:=.tuple #[.agg #[.pointer (some gx),.pointer (some gy),.int .i64 sb],.int .i64 0]) (by simp[results,Tryz.results34,go_sem,er0,er1,er2]) rfl ⟨.inr ⟨by trivial,_,_,rfl,EN.out.2.2.1,EN.out.2.2.2⟩,EN.out.2.1⟩
set_option maxHeartbeats 2000000 in
set_option maxRecDepth 100000 in
theorem zsh (o:Opr) (ax:Option Addr) (cx:Nat) (ay:Option Addr) (cy:Nat) (a b:Int) (w:World) (hk:OpK w) (k0:0<=o.kd) (k1:o.kd<=3) (b0:0<=o.bd) (b1:o.bd<=2) (a0:1<=a) (a1:a<=65536) (h0:1<=b) (h1:b<=65536) (k3:o.kd≠3) (k:Int) (S:Stg)
  (CC:∀ w',Below w.heap.size w w'->Calls Tryz.prog 66 #[opV o ax cx ay cy,.int .i64 a,.int .i64 b] w' λe w''=>zb7 e w'' k S/\Below w'.heap.size w' w'') :
  Calls Tryz.prog 34 #[opV o ax cx ay cy,.int .i64 a,.int .i64 b] w λe w'=>zb7 e w' k S/\Below w.heap.size w w':=by
 have HK:=za (fun(w':World) (b':Below w.heap.size w w')=>zdD hk.2 b');have CB:=fun(w':World) (hk:ze0 w')=>zgg o.bd w' hk
 obtain⟨s,hs,s0⟩:=zfu o.bd b0 b1;rw[hs]at CB;have C1:=zhi o.kd k0 k1;have S1:=zcM a a0 a1;have S2:=zcM b h0 h1;unfold opV at CC ⊢;clear hk hs b0 b1 a0 a1 h0 h1 k0 k1;obtain⟨kd,bd,sg,rd,xs,ys,fl,wd,ht⟩:=o;simp only at *;have q3:(kd == 3)=false:=by simpa using k3
 generalize xs.length=nx at *;generalize ys.length=ny at *;have HP:=za (show P9 ((w.alloc (.cells #[.int .i64 kd,.int .i64 bd,.int .i64 sg,.int .i64 rd,.slice ax nx cx,.slice ay ny cy,.int .i64 fl,.int .i64 wd,.int .i64 ht] 31)).alloc (.cells #[.pointer none,.pointer none,.int .i64 0] 36)) w.heap.size kd bd sg rd (.slice ax nx cx) (.slice ay ny cy) fl wd ht from(P9.new w 31 kd bd sg rd (.slice ax nx cx) (.slice ay ny cy) fl wd ht).below (zg _ _));have HR:=za (show S3 ((w.alloc (.cells #[.int .i64 kd,.int .i64 bd,.int .i64 sg,.int .i64 rd,.slice ax nx cx,.slice ay ny cy,.int .i64 fl,.int .i64 wd,.int .i64 ht] 31)).alloc (.cells #[.pointer none,.pointer none,.int .i64 0] 36)) (w.heap.size+1) (.pointer none) (.pointer none) (.int .i64 0) from by simpa using S3.new (w.alloc (.cells #[.int .i64 kd,.int .i64 bd,.int .i64 sg,.int .i64 rd,.slice ax nx cx,.slice ay ny cy,.int .i64 fl,.int .i64 wd,.int .i64 ht] 31)) 36 (.pointer none) (.pointer none) (.int .i64 0));have HB:=za (show Below w.heap.size w ((w.alloc (.cells #[.int .i64 kd,.int .i64 bd,.int .i64 sg,.int .i64 rd,.slice ax nx cx,.slice ay ny cy,.int .i64 fl,.int .i64 wd,.int .i64 ht] 31)).alloc (.cells #[.pointer none,.pointer none,.int .i64 0] 36)) from ba (zg _ _) _);obtain⟨lx,ly,fx,fy,sb⟩:=S;unfold zb7 at CC ⊢;simp only at *
 by_cases hz:k=0
 case neg =>
  replace CC:∀ w',Below w.heap.size w w'->Calls Tryz.prog 66 #[.agg #[.int .i64 kd,.int .i64 bd,.int .i64 sg,.int .i64 rd,.slice ax nx cx,.slice ay ny cy,.int .i64 fl,.int .i64 wd,.int .i64 ht],.int .i64 a,.int .i64 b] w' λe w''=>e=.returned (.tuple #[.agg #[.pointer none,.pointer none,.int .i64 0],.int .i64 k])/\Below w'.heap.size w' w'':=λw' b'=>(CC w' b').mono λe w'' ⟨hA,hB⟩=>by
   rcases hA with⟨_,he⟩|⟨q,_⟩
   ·exact⟨he,hB⟩
   ·exact absurd q hz
  have HNZ:=za hz;clear hz
  go_enter Tryz.func34,Tryz.ntmps34
  go_wp2_with (first
   |(go_at_call 62;(with_reducible refine(C1 _).mono ?_);rintro e wz ⟨rfl,rfl⟩)
   |(go_at_call 63;(with_reducible refine(CB _ (HK.out _ HB.out)).mono ?_);rintro e wz ⟨rfl,rfl⟩)
   |(go_at_call 64;(with_reducible refine(S1 _).mono ?_);rintro e wz ⟨rfl,rfl⟩)
   |(go_at_call 64;(with_reducible refine(S2 _).mono ?_);rintro e wz ⟨rfl,rfl⟩)
   |(go_at_call 66;(with_reducible refine(CC _ HB.out).mono ?_);rintro e wx ⟨rfl,bx⟩;have RX:=za (HR.out.below bx);have BX:=za (bt HB.out bx);have rx:=RX.out;obtain⟨⟨gr0,gy0⟩,⟨gr1,gy1⟩,⟨gr2,gy2⟩⟩:=rx))
  have EN:=za (And.intro (S3.fill RX.out (.pointer none) (.pointer none) (.int .i64 0)) (And.intro (zaP BX.out (Nat.le_add_right _ 1) (.pointer none) (.pointer none) (.int .i64 0)) trivial));generalize (((wx).setCell ⟨w.heap.size+1,0,none⟩ (.pointer none)).setCell ⟨w.heap.size+1,1,none⟩ (.pointer none)).setCell ⟨w.heap.size+1,2,none⟩ (.int .i64 0)=WE at EN ⊢;obtain⟨⟨er0,ey0⟩,⟨er1,ey1⟩,⟨er2,ey2⟩⟩:=EN.out.1;exact bodyPost_ret (v:=.tuple #[.agg #[.pointer none,.pointer none,.int .i64 0],.int .i64 k]) (by simp[results,Tryz.results34,go_sem,er0,er1,er2]) rfl ⟨.inl ⟨HNZ.out,rfl⟩,EN.out.2.1⟩
 subst hz
 replace CC:∀ w',Below w.heap.size w w'->Calls Tryz.prog 66 #[.agg #[.int .i64 kd,.int .i64 bd,.int .i64 sg,.int .i64 rd,.slice ax nx cx,.slice ay ny cy,.int .i64 fl,.int .i64 wd,.int .i64 ht],.int .i64 a,.int .i64 b] w' λe w''=>(∃ gx gy,e=.returned (.tuple #[.agg #[.pointer (some gx),.pointer (some gy),.int .i64 sb],.int .i64 0])/\Tab w'' (.pointer (some gx)) fx lx/\Tab w'' (.pointer (some gy)) fy ly)/\Below w'.heap.size w' w'':=λw' b'=>(CC w' b').mono λe w'' ⟨hA,hB⟩=>by
  rcases hA with⟨q,_⟩|⟨_,x,y,he,tx,ty⟩
  ·exact absurd rfl q
  ·obtain⟨gx,rfl⟩:=tx.ptr;obtain⟨gy,rfl⟩:=ty.ptr;exact⟨⟨gx,gy,he,tx,ty⟩,hB⟩
 go_enter Tryz.func34,Tryz.ntmps34
 go_wp2_with (first
  |(go_at_call 62;(with_reducible refine(C1 _).mono ?_);rintro e wz ⟨rfl,rfl⟩)
  |(go_at_call 63;(with_reducible refine(CB _ (HK.out _ HB.out)).mono ?_);rintro e wz ⟨rfl,rfl⟩)
  |(go_at_call 64;(with_reducible refine(S1 _).mono ?_);rintro e wz ⟨rfl,rfl⟩)
  |(go_at_call 64;(with_reducible refine(S2 _).mono ?_);rintro e wz ⟨rfl,rfl⟩)
  |(go_at_call 66;(with_reducible refine(CC _ HB.out).mono ?_);rintro e wx ⟨⟨gx,gy,rfl,tx,ty⟩,bx⟩;have RX:=za (HR.out.below bx);have BX:=za (bt HB.out bx);have rx:=RX.out;obtain⟨⟨gr0,gy0⟩,⟨gr1,gy1⟩,⟨gr2,gy2⟩⟩:=rx;have TX:=za tx;have TY:=za ty;clear tx ty))
 have EN:=za (And.intro (S3.fill RX.out (.pointer (some gx)) (.pointer (some gy)) (.int .i64 sb)) (And.intro (zaP BX.out (Nat.le_add_right _ 1) (.pointer (some gx)) (.pointer (some gy)) (.int .i64 sb)) (And.intro (Tab.fill3 TX.out RX.out (λ_ q=>by cases q) (.pointer (some gx)) (.pointer (some gy)) (.int .i64 sb)) (Tab.fill3 TY.out RX.out (λ_ q=>by cases q) (.pointer (some gx)) (.pointer (some gy)) (.int .i64 sb)))));generalize (((wx).setCell ⟨w.heap.size+1,0,none⟩ (.pointer (some gx))).setCell ⟨w.heap.size+1,1,none⟩ (.pointer (some gy))).setCell ⟨w.heap.size+1,2,none⟩ (.int .i64 sb)=WE at EN ⊢;obtain⟨⟨er0,ey0⟩,⟨er1,ey1⟩,⟨er2,ey2⟩⟩:=EN.out.1;exact bodyPost_ret (v:=.tuple #[.agg #[.pointer (some gx),.pointer (some gy),.int .i64 sb],.int .i64 0]) (by simp[results,Tryz.results34,go_sem,er0,er1,er2]) rfl ⟨.inr ⟨by trivial,_,_,rfl,EN.out.2.2.1,EN.out.2.2.2⟩,EN.out.2.1⟩
theorem zeh:zrM OpK:=by
 intro o ax cx ay cy a b w hk hA hF ha hb
 by_cases hf:(0<=o.kd/\o.kd<=3)/\(0<=o.bd/\o.bd<=2)/\(1<=a/\a<=65536)/\(1<=b/\b<=65536)
 case neg =>
  have ho:okO o a b=false:=by
   cases e:okO o a b with
   |false=>rfl
   |true=>exact absurd (let g:=(zbD o a b).1 e;⟨g.1,g.2.1,g.2.2.1,g.2.2.2.1⟩) hf
  have hc:zC o a b=6:=if_pos ho;rw[hc];refine(zr0 o ax cx ay cy a b w hk hf).mono ?_;rintro e w1 ⟨rfl,bb⟩;exact⟨.inl ⟨by decide,rfl⟩,bb⟩
 obtain⟨⟨k0,k1⟩,⟨b0,b1⟩,⟨a0,a1⟩,h0,h1⟩:=hf
 by_cases k3:o.kd=3
 ·by_cases hr:(1<=o.wd/\o.wd<=65536)/\(1<=o.ht/\o.ht<=65536)/\0<=o.fl/\o.fl<=2
  ·have ho:okO o a b=true:=(zbD o a b).2 ⟨⟨k0,k1⟩,⟨b0,b1⟩,⟨a0,a1⟩,⟨h0,h1⟩,λ_=>hr⟩;have hc:zC o a b=if zO o.fl a o.wd≠0 then zO o.fl a o.wd else zO o.fl b o.ht:=by
    unfold zC zex zeE;rw[ho,if_neg (by decide),if_neg (λq=>q.1 k3),if_pos k3,if_pos k3]
   rw[hc];exact zkQ o ax cx ay cy a b w hk k0 k1 b0 b1 a0 a1 h0 h1 k3 _ _ λw' b'=>zoC o ax cx ay cy a b w' (zbq hk.1 b') hF k3 ha hb hr.1.1 hr.1.2 hr.2.1.1 hr.2.1.2 hr.2.2.1 hr.2.2.2
  ·have ho:okO o a b=false:=by
    cases e:okO o a b with
    |false=>rfl
    |true=>exact absurd (((zbD o a b).1 e).2.2.2.2 k3) hr
   have hc:zC o a b=6:=if_pos ho;rw[hc];exact zkQ o ax cx ay cy a b w hk k0 k1 b0 b1 a0 a1 h0 h1 k3 _ _ λw' b'=>(zoO o ax cx ay cy a b w' (zbq hk.1 b') hF hr).mono λe w'' ⟨he,hB⟩=>⟨.inl ⟨by decide,he⟩,hB⟩
 ·have ho:okO o a b=true:=(zbD o a b).2 ⟨⟨k0,k1⟩,⟨b0,b1⟩,⟨a0,a1⟩,⟨h0,h1⟩,λq=>absurd q k3⟩;have hc:zC o a b=if zbB o≠0 then zbB o else if zA (wX o) a≠0 then zA (wX o) a else zA (wY o) b:=by
   unfold zC zex zeE;rw[ho,if_neg (by decide),if_neg k3,if_neg k3]
   by_cases g:zbB o=0
   ·rw[if_neg (λq=>q.2 g),if_neg (show ¬(zbB o≠0) from λq=>q g)]
   ·rw[if_pos ⟨k3,g⟩,if_pos g]
  rw[hc];exact zsh o ax cx ay cy a b w hk k0 k1 b0 b1 a0 a1 h0 h1 k3 _ _ λw' b'=>zod o ax cx ay cy a b w' (zbq hk.1 b') (hA.below b') hF (by omega) ha hb
def zdm (n t:Int):Int:=(n+t-1) / t
theorem zeP {n t i:Int} (ht:1<=t):i<zdm n t↔i*t<n:=by
 unfold zdm;rw[←Int.add_one_le_iff,Int.le_ediv_iff_mul_le (by omega),Int.add_mul];omega
theorem zlc {n t:Int} (hn:1<=n) (ht:1<=t):1<=zdm n t:=by
 have:=(zeP (n:=n) (i:=0) ht).2 (by omega);omega
theorem zl2 {n t:Int} (hn:0<=n) (ht:1<=t):zdm n t<=n:=by
 rcases Int.lt_or_le n (zdm n t)with h|h
 ·have:=(zeP (n:=n) (i:=n) ht).1 h;have h2:n*1<=n*t:=Int.mul_le_mul_of_nonneg_left ht hn;omega
 ·exact h
structure Til where
 tn:Int
 tx:Int
 ty:Int
 tw:Int
 th:Int
 fx:Int
 fy:Int
 cx:Int
 cy:Int
 rg:Int
def zf1:Til:=⟨0,0,0,0,0,0,0,0,0,0⟩
def zra (LX LY:List (Int×List Int)) (a b i j k:Int):Til :=
 ⟨k,i*a,j*b,min a ((LX.length:Int)-i*a),min b ((LY.length:Int)-j*b),
  (zav LX (i*a) (i*a+min a ((LX.length:Int)-i*a))).1,(zav LY (j*b) (j*b+min b ((LY.length:Int)-j*b))).1,
  (zav LX (i*a) (i*a+min a ((LX.length:Int)-i*a))).2.1-(zav LX (i*a) (i*a+min a ((LX.length:Int)-i*a))).1,
  (zav LY (j*b) (j*b+min b ((LY.length:Int)-j*b))).2.1-(zav LY (j*b) (j*b+min b ((LY.length:Int)-j*b))).1,zaL LY⟩
def zu (LX:List (Int×List Int)) (a:Int):Int:=zdm (LX.length:Int) a
def zcp (LX LY:List (Int×List Int)) (a b:Int):Int:=zu LX a*zu LY b
def zjm (LX LY:List (Int×List Int)) (a b k:Int):Til:=zra LX LY a b (k % zu LX a) (k / zu LX a) k
theorem ztI {A D k:Int} (hA:1<=A) (k0:0<=k) (k1:k<A*D):0<=k % A/\k % A<A/\0<=k / A/\k / A<D/\k=k / A*A+k % A:=by
 have e:=Int.emod_add_mul_ediv k A;rw[Int.mul_comm]at e;refine⟨Int.emod_nonneg _ (by omega),Int.emod_lt_of_pos _ (by omega),Int.ediv_nonneg k0 (by omega),?_,by omega⟩;exact Int.ediv_lt_of_lt_mul (by omega) (by rw[Int.mul_comm];exact k1)
structure TilOk (LX LY:List (Int×List Int)) (t:Til):Prop where
 tx:0<=t.tx/\t.tx<(LX.length:Int)
 ty:0<=t.ty/\t.ty<(LY.length:Int)
 tw:1<=t.tw/\t.tx+t.tw<=(LX.length:Int)
 th:1<=t.th/\t.ty+t.th<=(LY.length:Int)
 fx : -1099511627776<=t.fx/\t.fx<=1099511627776
 fy : -1099511627776<=t.fy/\t.fy<=1099511627776
 cx : -3298534883328<=t.cx/\t.cx<=3298534883328
 cy : -3298534883328<=t.cy/\t.cy<=3298534883328
 rg:0<=t.rg/\t.rg<=1048576
theorem zxH {LX LY:List (Int×List Int)} (hx:zby LX) (hy:zby LY) {a b i j k:Int} (ha:1<=a) (hb:1<=b) (i0:0<=i) (i1:i<zu LX a) (j0:0<=j) (j1:j<zu LY b):TilOk LX LY (zra LX LY a b i j k):=by
 have e1:=(zeP ha).1 i1;have e2:=(zeP hb).1 j1;have z1:0<=i*a:=Int.mul_nonneg i0 (by omega);have z2:0<=j*b:=Int.mul_nonneg j0 (by omega);have rx:=zjR hx (i*a) (i*a+min a ((LX.length:Int)-i*a)) LX.length (Nat.le_refl _);have ry:=zjR hy (j*b) (j*b+min b ((LY.length:Int)-j*b)) LY.length (Nat.le_refl _);have mo:=zrD hy LY.length (Nat.le_refl _);rw[show zaf LX (i*a) (i*a+min a ((LX.length:Int)-i*a)) LX.length=zav LX (i*a) (i*a+min a ((LX.length:Int)-i*a)) from rfl]at rx;rw[show zaf LY (j*b) (j*b+min b ((LY.length:Int)-j*b)) LY.length=zav LY (j*b) (j*b+min b ((LY.length:Int)-j*b)) from rfl]at ry;rw[show zbh LY LY.length=zaL LY from rfl]at mo;obtain⟨p0,p1,p2,p3,_,_⟩:=rx;obtain⟨q0,q1,q2,q3,_,_⟩:=ry;exact⟨⟨z1,e1⟩,⟨z2,e2⟩,⟨by show 1<=min a _;omega,by show i*a+min a _<=_;omega⟩,⟨by show 1<=min b _;omega,by show j*b+min b _<=_;omega⟩,⟨p0,p1⟩,⟨q0,q1⟩,
  ⟨by show _<=(zav LX _ _).2.1-_;omega,by show(zav LX _ _).2.1-_<=_;omega⟩,⟨by show _<=(zav LY _ _).2.1-_;omega,by show(zav LY _ _).2.1-_<=_;omega⟩,mo⟩
theorem zwh {LX LY:List (Int×List Int)} (hx:zby LX) (hy:zby LY) (lx:1<=LX.length) {a b k:Int} (ha:1<=a) (hb:1<=b) (k0:0<=k) (k1:k<zcp LX LY a b):TilOk LX LY (zjm LX LY a b k):=by
 obtain⟨p0,p1,p2,p3,_⟩:=ztI (A:=zu LX a) (zlc (by omega) ha) k0 k1;exact zxH hx hy ha hb p0 p1 p2 p3
theorem zg0 {LX LY:List (Int×List Int)} {a b:Int} (ha:1<=a) (hb:1<=b):0<=zu LX a/\zu LX a<=(LX.length:Int)/\0<=zu LY b/\zu LY b<=(LY.length:Int)/\0<=zcp LX LY a b/\zcp LX LY a b<=(LX.length:Int)*(LY.length:Int):=by
 have h1:=zl2 (n:=(LX.length:Int)) (t:=a) (by omega) ha;have h2:=zl2 (n:=(LY.length:Int)) (t:=b) (by omega) hb;have z:∀ n:Nat,∀ t:Int,1<=t->0<=zdm (n:Int) t:=λn t ht=>Int.ediv_nonneg (by omega) (by omega)
 have z1:=z LX.length a ha;have z2:=z LY.length b hb;exact⟨z1,h1,z2,h2,Int.mul_nonneg z1 z2,Int.mul_le_mul h1 h2 z2 (by omega)⟩
def zg6 (t:Til):Value:=.agg #[.int .i64 t.tn,.int .i64 t.tx,.int .i64 t.ty,.int .i64 t.tw,.int .i64 t.th,.int .i64 t.fx,.int .i64 t.fy,.int .i64 t.cx,.int .i64 t.cy,.int .i64 t.rg]
def P10 (w:World) (b:Nat) (t:Til):Prop:=w.cell? ⟨b,0,none⟩=some (.int .i64 t.tn)/\w.cell? ⟨b,1,none⟩=some (.int .i64 t.tx)/\w.cell? ⟨b,2,none⟩=some (.int .i64 t.ty)/\w.cell? ⟨b,3,none⟩=some (.int .i64 t.tw)/\w.cell? ⟨b,4,none⟩=some (.int .i64 t.th)/\w.cell? ⟨b,5,none⟩=some (.int .i64 t.fx)/\w.cell? ⟨b,6,none⟩=some (.int .i64 t.fy)/\w.cell? ⟨b,7,none⟩=some (.int .i64 t.cx)/\w.cell? ⟨b,8,none⟩=some (.int .i64 t.cy)/\w.cell? ⟨b,9,none⟩=some (.int .i64 t.rg)
theorem P10.below {w w':World} {b:Nat} {t:Til} (h:P10 w b t) (hb:Below w.heap.size w w'):P10 w' b t:=by
 obtain⟨h0,h1,h2,h3,h4,h5,h6,h7,h8,h9⟩:=h;have hl:=ze h0;exact⟨cb hb hl h0,cb hb hl h1,cb hb hl h2,cb hb hl h3,cb hb hl h4,cb hb hl h5,cb hb hl h6,cb hb hl h7,cb hb hl h8,cb hb hl h9⟩
theorem P10.new (w:World) (T:TypeId) (t:Til):P10 (w.alloc (.cells #[.int .i64 t.tn,.int .i64 t.tx,.int .i64 t.ty,.int .i64 t.tw,.int .i64 t.th,.int .i64 t.fx,.int .i64 t.fy,.int .i64 t.cx,.int .i64 t.cy,.int .i64 t.rg] T)) w.heap.size t:=by
 unfold P10
 simp
def ImgAt (w:World) (g h:Nat) (I:Im):Prop :=
 ∃ cap,w.cell? ⟨g,0,none⟩=some (.int .i64 I.iw)/\w.cell? ⟨g,1,none⟩=some (.int .i64 I.ih)/\w.cell? ⟨g,2,none⟩=some (.int .i64 I.ic)/\w.cell? ⟨g,3,none⟩=some (.int .i64 I.it) /\
  w.cell? ⟨g,4,none⟩=some (.slice (some ⟨h,0,none⟩) I.il.length cap)/\RowAt .u16 w (some ⟨h,0,none⟩) I.il/\(∀ j,j<I.il.length->w.frozen? ⟨h,j,none⟩=false)/\I.il.length<=cap/\g≠h/\zay I
theorem ImgAt.ok {w:World} {g h:Nat} {I:Im} (H:ImgAt w g h I):zay I:=by
 obtain⟨_,_,_,_,_,_,_,_,_,_,k⟩:=H;exact k
theorem ImgAt.ne {w:World} {g h:Nat} {I:Im} (H:ImgAt w g h I):g≠h:=by
 obtain⟨_,_,_,_,_,_,_,_,_,k,_⟩:=H;exact k
theorem ImgAt.lt {w:World} {g h:Nat} {I:Im} (H:ImgAt w g h I):g<w.heap.size/\h<w.heap.size:=by
 obtain⟨_,c0,_,_,_,_,r,_,_,_,k⟩:=H;exact⟨ze c0,ze (r.at (zbr k).1)⟩
theorem ImgAt.below {w w':World} {g h:Nat} {I:Im} (H:ImgAt w g h I) (hb:Below w.heap.size w w'):ImgAt w' g h I:=by
 have hl:=H.lt;obtain⟨cap,c0,c1,c2,c3,c4,r,z,hc,hne,k⟩:=H;exact⟨cap,cb hb hl.1 c0,cb hb hl.1 c1,cb hb hl.1 c2,cb hb hl.1 c3,cb hb hl.1 c4,r.below hb,λj hj=>fb hb hl.2 (z j hj),hc,hne,k⟩
theorem ImgAt.grown {w w':World} {g h:Nat} {I:Im} {row:Option Nat} (H:ImgAt w g h I) (hg:w.grownBy w' row) (n1:some g≠row) (n2:some h≠row):ImgAt w' g h I:=by
 obtain⟨cap,c0,c1,c2,c3,c4,r,z,hc,hne,k⟩:=H;exact⟨cap,cg hg n1 c0,cg hg n1 c1,cg hg n1 c2,cg hg n1 c3,cg hg n1 c4,r.grown hg n2,λj hj=>fg hg n2 (by have:=r.at hj;rw[Nat.zero_add]at this;exact this) (z j hj),hc,hne,k⟩
theorem ImgAt.put {w:World} {g h:Nat} {I:Im} (H:ImgAt w g h I) {x y z v:Int} (v0:0<=v) (hs:zbp I x y z v=true):ImgAt (w.setCell ⟨h,(zL I x y z).toNat,none⟩ (.int .u16 v)) g h (zcs I x y z v):=by
 have hg:=zn w h (zL I x y z).toNat (.int .u16 v);obtain⟨cap,c0,c1,c2,c3,c4,r,zz,hc,hne,k⟩:=H;have k':=ztV (x:=x) (y:=y) (z:=z) k v0;have hh:zbl I x y z=true:=by unfold zbp at hs;exact(Bool.and_eq_true .. ▸ hs).1
 obtain⟨_,hp,_,_⟩:=zez k hh;have r':=r.put _ hp v;rw[Nat.zero_add]at r';have e:zcs I x y z v={ I with il:=I.il.set (zL I x y z).toNat v }:=by unfold zcs;rw[if_pos hs]
 rw[e]at k' ⊢;have n1:some g≠some h:=λe=>hne (Option.some.inj e)
 refine⟨cap,cg hg n1 c0,cg hg n1 c1,cg hg n1 c2,cg hg n1 c3,?_,r',λj hj=>?_,?_,hne,k'⟩
 ·rw[List.length_set];exact cg hg n1 c4
 ·rw[World.frozen?_setCell];exact zz j (by simpa using hj)
 ·rw[List.length_set];exact hc
theorem ImgAt.new {w:World} {h cap:Nat} {I:Im} {T:TypeId} (hr:RowAt .u16 w (some ⟨h,0,none⟩) I.il) (hz:∀ j,w.frozen? ⟨h,j,none⟩=false) (hc:I.il.length<=cap) (k:zay I) :
  ImgAt (w.alloc (.cells #[.int .i64 I.iw,.int .i64 I.ih,.int .i64 I.ic,.int .i64 I.it,.slice (some ⟨h,0,none⟩) I.il.length cap] T)) w.heap.size h I:=by
 have hl:=ze (hr.at (zbr k).1);exact⟨cap,by simp,by simp,by simp,by simp,by simp,hr.below (zg _ _),λj hj=>fb (zg _ _) hl (hz j),hc,Nat.ne_of_gt hl,k⟩
def zfM (B:Nat) (w:World) (v:Value) (I:Im):Prop:=∃ g h,v=.pointer (some ⟨g,0,none⟩)/\B<=g/\B<=h/\ImgAt w g h I
theorem zyi {xs:List Int} (h:AllK .u16 xs):∀ x ∈ xs,0<=x/\x<=65535:=λx hx=>by simpa [Lit.wf,IntKind.min,IntKind.max,IntKind.signed,IntKind.bits] using h x hx
structure JobC where
 g:Nat
 h:Nat
 I:Im
 g2:Nat
 ax:Addr
 ay:Addr
 S:Stg
 tn:Int
 tfx:Int
 tfy:Int
 tcx:Int
 tcy:Int
 trg:Int
 x0:Nat
 y0:Nat
 W:Nat
 H:Nat
 C:Nat
 mo:Nat
def JobC.lo (c:JobC):Int:=(zf c.S.lx c.x0).1
def JobC.hi (c:JobC):Int:=(zf c.S.lx (c.x0+c.W-1)).1+((zf c.S.lx (c.x0+c.W-1)).2.length:Int)
def JobC.cnt (c:JobC):Nat:=(c.hi-c.lo).toNat
def JobC.til (c:JobC):Til:=⟨c.tn,(c.x0:Int),(c.y0:Int),(c.W:Int),(c.H:Int),c.tfx,c.tfy,c.tcx,c.tcy,c.trg⟩
def JobC.row (c:JobC) (j:Int):List Int:=zc9 c.I c.S c.x0 c.C (c.W*c.C) j
def JobC.rows (c:JobC) (G:List Int):List (Int×List Int):=(zch c.mo G).map λi=>(i,c.row i)
def JobC.ls (c:JobC) (y n:Nat):List Wnd:=((zbZ c.S.ly).drop y).take n
structure JobK (w0:World) (c:JobC):Prop where
 opk:OpK w0
 tx:Tab w0 (.pointer (some c.ax)) c.S.fx c.S.lx
 ty:Tab w0 (.pointer (some c.ay)) c.S.fy c.S.ly
 img:ImgAt w0 c.g c.h c.I
 suits:zaY c.I c.S=true
 small:zcF c.S
 gap:zdK c.S.ly
 most:zaL c.S.ly=(c.mo:Int)
 mo1:1<=c.mo
 mo2:c.mo<=65536
 ch:c.I.ic=(c.C:Int)
 xw:c.x0+c.W<=c.S.lx.length
 w1:1<=c.W
 yh:c.y0+c.H<=c.S.ly.length
 h1:1<=c.H
def ColsJ (w:World) (cb N x0:Nat) (lo:Int) (L:List (Int×List Int)) (F:Nat->Prop):Prop :=
 ∀ i,i<N->∃ ad cap,w.cell? ⟨cb,i*2,none⟩=some (.int .i64 ((zf L (x0+i)).1-lo))/\w.cell? ⟨cb,i*2+1,none⟩=some (.slice ad (zf L (x0+i)).2.length cap)/\RowAt .i64 w ad (zf L (x0+i)).2/\∀ a,ad=some a->F a.block
theorem ColsJ.off {w w':World} {cb N x0:Nat} {lo:Int} {L:List (Int×List Int)} {F T:Nat->Prop} (h:ColsJ w cb N x0 lo L F) (hc:F cb) (ho:Off T w w') (hn:∀ k,F k->¬T k):ColsJ w' cb N x0 lo L F:=by
 intro i hi;obtain⟨ad,cap,c0,c1,r,hF⟩:=h i hi;exact⟨ad,cap,ho.cell (hn cb hc) c0,ho.cell (hn cb hc) c1,ho.row r (λa e=>hn _ (hF a e)),hF⟩
theorem ColsJ.more {w:World} {cb N x0:Nat} {lo:Int} {L:List (Int×List Int)} {F F':Nat->Prop} (h:ColsJ w cb N x0 lo L F) (hF:∀ k,F k->F' k):ColsJ w cb N x0 lo L F':=by
 intro i hi;obtain⟨ad,cap,c0,c1,r,hF2⟩:=h i hi;exact⟨ad,cap,c0,c1,r,λa e=>hF _ (hF2 a e)⟩
structure JobFix (w:World) (jb pb pc cb cc rb rc r:Nat) (F:Nat->Prop) (c:JobC):Prop where
 c0:w.cell? ⟨jb,0,none⟩=some (.pointer (some ⟨c.g,0,none⟩))
 c1:w.cell? ⟨jb,1,none⟩=some (.pointer (some ⟨c.g2,0,none⟩))
 c2:w.cell? ⟨jb,2,none⟩=some (.pointer (some c.ax))
 c3:w.cell? ⟨jb,3,none⟩=some (.pointer (some c.ay))
 c4:w.cell? ⟨jb,4,none⟩=some (.int .i64 c.S.sb)
 c5:w.cell? ⟨jb,5,none⟩=some (.int .i64 c.tn)
 c6:w.cell? ⟨jb,6,none⟩=some (.int .i64 (c.x0:Int))
 c7:w.cell? ⟨jb,7,none⟩=some (.int .i64 (c.y0:Int))
 c8:w.cell? ⟨jb,8,none⟩=some (.int .i64 (c.W:Int))
 c9:w.cell? ⟨jb,9,none⟩=some (.int .i64 (c.H:Int))
 c10:w.cell? ⟨jb,10,none⟩=some (.int .i64 c.tfx)
 c11:w.cell? ⟨jb,11,none⟩=some (.int .i64 c.tfy)
 c12:w.cell? ⟨jb,12,none⟩=some (.int .i64 c.tcx)
 c13:w.cell? ⟨jb,13,none⟩=some (.int .i64 c.tcy)
 c14:w.cell? ⟨jb,14,none⟩=some (.int .i64 c.trg)
 c15:w.cell? ⟨jb,15,none⟩=some (.slice (some ⟨pb,0,none⟩) c.cnt pc)
 c16:w.cell? ⟨jb,16,none⟩=some (.slice (some ⟨cb,0,none⟩) c.W cc)
 c17:w.cell? ⟨jb,17,none⟩=some (.slice (some ⟨rb,0,none⟩) 1 rc)
 fz:∀ o,w.frozen? ⟨jb,o,none⟩=false
 places:RowAt .i64 w (some ⟨pb,0,none⟩) (zB c.S.sb c.lo c.S.fx c.cnt)
 cols:ColsJ w cb c.W c.x0 c.lo c.S.lx F
 ring:w.cell? ⟨rb,0,none⟩=some (.pointer (some ⟨r,0,none⟩))
 fp:F pb
 fc:F cb
 frb:F rb
def zxI (F:Nat->Prop) (ad:Option Addr) (xs:List Int):Prop:=xs=[]\/∃ b o,ad=some ⟨b,o,none⟩/\F b
theorem Off.rowF {T F:Nat->Prop} {w w':World} {ad:Option Addr} {xs:List Int} (ho:Off T w w') (h:RowAt .i64 w ad xs) (hF:zxI F ad xs) (hn:∀ k,F k->¬T k):RowAt .i64 w' ad xs:=by
 rcases hF with e|⟨b,o,rfl,hb⟩
 ·exact .inl e
 ·exact ho.row h (λa e=>by obtain rfl:=Option.some.inj e;exact hn _ hb)
def RecJ (w w':World) (jb:Nat):Prop:=(∀ o u,o<18->w.cell? ⟨jb,o,none⟩=some u->w'.cell? ⟨jb,o,none⟩=some u)/\∀ o,w.frozen? ⟨jb,o,none⟩=false->w'.frozen? ⟨jb,o,none⟩=false
theorem RecJ.off {T:Nat->Prop} {w w':World} {jb:Nat} (ho:Off T w w') (hn:¬T jb) (hl:jb<w.heap.size):RecJ w w' jb:=⟨λ_ _ _ h=>ho.cell hn h,λo h=>(ho.frozen (o:=o) hn hl).trans h⟩
theorem RecJ.trans {a b d:World} {jb:Nat} (h:RecJ a b jb) (k:RecJ b d jb):RecJ a d jb:=⟨λo u ho hu=>k.1 o u ho (h.1 o u ho hu),λo ho=>k.2 o (h.2 o ho)⟩
theorem RecJ.set (w:World) (jb o:Nat) (ho:18<=o) (u:Value):RecJ w (w.setCell ⟨jb,o,none⟩ u) jb :=
 ⟨λi v hi hv=>(World.cell?_setCell_other _ _ _ _ (by intro e;simp only[Addr.mk.injEq,and_true]at e;omega)).trans hv,λi hi=>by rw[World.frozen?_setCell];exact hi⟩
theorem JobFix.off {w w':World} {jb pb pc cb cc rb rc r:Nat} {F T:Nat->Prop} {c:JobC} (h:JobFix w jb pb pc cb cc rb rc r F c) (ho:Off T w w') (hr:RecJ w w' jb) (hn:∀ k,F k->¬T k):JobFix w' jb pb pc cb cc rb rc r F c where
 c0:=hr.1 0 _ (by decide) h.c0
 c1:=hr.1 1 _ (by decide) h.c1
 c2:=hr.1 2 _ (by decide) h.c2
 c3:=hr.1 3 _ (by decide) h.c3
 c4:=hr.1 4 _ (by decide) h.c4
 c5:=hr.1 5 _ (by decide) h.c5
 c6:=hr.1 6 _ (by decide) h.c6
 c7:=hr.1 7 _ (by decide) h.c7
 c8:=hr.1 8 _ (by decide) h.c8
 c9:=hr.1 9 _ (by decide) h.c9
 c10:=hr.1 10 _ (by decide) h.c10
 c11:=hr.1 11 _ (by decide) h.c11
 c12:=hr.1 12 _ (by decide) h.c12
 c13:=hr.1 13 _ (by decide) h.c13
 c14:=hr.1 14 _ (by decide) h.c14
 c15:=hr.1 15 _ (by decide) h.c15
 c16:=hr.1 16 _ (by decide) h.c16
 c17:=hr.1 17 _ (by decide) h.c17
 fz:=λo=>hr.2 o (h.fz o)
 places:=ho.row h.places (λa e=>by obtain rfl:=Option.some.inj e;exact hn _ h.fp)
 cols:=h.cols.off h.fc ho hn
 ring:=ho.cell (hn _ h.frb) h.ring
 fp:=h.fp
 fc:=h.fc
 frb:=h.frb
theorem JobFix.more {w:World} {jb pb pc cb cc rb rc r:Nat} {F F':Nat->Prop} {c:JobC} (h:JobFix w jb pb pc cb cc rb rc r F c) (hF:∀ k,F k->F' k):JobFix w jb pb pc cb cc rb rc r F' c :=
 { h with cols:=h.cols.more hF,fp:=hF _ h.fp,fc:=hF _ h.fc,frb:=hF _ h.frb }
theorem JobFix.lt {w:World} {jb pb pc cb cc rb rc r:Nat} {F:Nat->Prop} {c:JobC} (h:JobFix w jb pb pc cb cc rb rc r F c):jb<w.heap.size:=ze h.c0
structure JobAt (w0 w:World) (jb:Nat) (F R:Nat->Prop) (c:JobC) (G:List Int) (E:Int) (y n:Nat):Prop where
 bel:Below w0.heap.size w0 w
 jlo:w0.heap.size<=jb
 flo:∀ k,F k->w0.heap.size<=k
 fhi:∀ k,F k->k<w.heap.size
 fj:¬F jb
 rj:¬R jb
 fr:∀ k,F k->¬R k
 c18:w.cell? ⟨jb,18,none⟩=some (.int .i64 (G.length:Int))
 c19:w.cell? ⟨jb,19,none⟩=some (.int .i64 E)
 c20:w.cell? ⟨jb,20,none⟩=some (.int .i64 (y:Int))
 c21:w.cell? ⟨jb,21,none⟩=some (.int .i64 (zf c.S.ly y).1)
 line:∃ ad cap,w.cell? ⟨jb,22,none⟩=some (.slice ad (zf c.S.ly y).2.length cap)/\RowAt .i64 w ad (zf c.S.ly y).2/\zxI F ad (zf c.S.ly y).2
 st:JobG c.mo G E (c.ls y n)
 yn:y+n=c.y0+c.H
 len:E=(zf c.S.ly c.y0).1+(G.length:Int)
 mem:∃ pb pc cb cc rb rc r,JobFix w jb pb pc cb cc rb rc r F c/\RingAt w w0.heap.size r R c.mo (c.W*c.C) (c.rows G)
theorem JobAt.lt {w0 w:World} {jb:Nat} {F R:Nat->Prop} {c:JobC} {G:List Int} {E:Int} {y n:Nat} (J:JobAt w0 w jb F R c G E y n):jb<w.heap.size:=ze J.c18
theorem JobAt.off {w0 w w':World} {jb:Nat} {F R T:Nat->Prop} {c:JobC} {G:List Int} {E:Int} {y n:Nat} (J:JobAt w0 w jb F R c G E y n) (hb:Below w0.heap.size w0 w') (ho:Off T w w') (hj:¬T jb) (hF:∀ k,F k->¬T k) (hR:∀ k,R k->¬T k):JobAt w0 w' jb F R c G E y n where
 bel:=hb
 jlo:=J.jlo
 flo:=J.flo
 fhi:=λk hk=>Nat.lt_of_lt_of_le (J.fhi k hk) ho.size
 fj:=J.fj
 rj:=J.rj
 fr:=J.fr
 c18:=ho.cell hj J.c18
 c19:=ho.cell hj J.c19
 c20:=ho.cell hj J.c20
 c21:=ho.cell hj J.c21
 line:=by
  obtain⟨ad,cap,l0,l1,l2⟩:=J.line;exact⟨ad,cap,ho.cell hj l0,ho.rowF l1 l2 hF,l2⟩
 st:=J.st
 yn:=J.yn
 len:=J.len
 mem:=by
  obtain⟨pb,pc,cb,cc,rb,rc,r,f,q⟩:=J.mem;exact⟨pb,pc,cb,cc,rb,rc,r,f.off ho (RecJ.off ho hj J.lt) hF,q.off ho hR⟩
theorem JobAt.below {w0 w w':World} {jb:Nat} {F R:Nat->Prop} {c:JobC} {G:List Int} {E:Int} {y n:Nat} (J:JobAt w0 w jb F R c G E y n) (hb:Below w.heap.size w w'):JobAt w0 w' jb F R c G E y n :=
 J.off (T:=λ_=>False) (bt J.bel hb) (Off.of_below hb) (λe=>e) (λ_ _ e=>e) (λ_ _ e=>e)
theorem JobK.below {w0 w:World} {c:JobC} (K:JobK w0 c) (hb:Below w0.heap.size w0 w):JobK w c :=
 { K with opk:=zaW _ _ K.opk hb,tx:=K.tx.below hb,ty:=K.ty.below hb,img:=K.img.below hb }
theorem JobK.most_w {w0:World} {c:JobC} (K:JobK w0 c):zdi (zbZ c.S.ly)=c.mo:=by
 have a:=zwS c.S.ly;have b:=K.most;omega
theorem JobK.moves {w0:World} {c:JobC} (K:JobK w0 c):zfh c.S.ly/\zfh c.S.lx:=by
 obtain⟨_,_,_,_,_,_,_,_,_,_,hm,_⟩:=K.ty;obtain⟨_,_,_,_,_,_,_,_,_,_,hm2,_⟩:=K.tx;exact⟨hm,hm2⟩
theorem JobK.lines {w0:World} {c:JobC} (K:JobK w0 c) {y n:Nat} (h:y+n<=c.S.ly.length):zfE c.mo (c.ls y n)/\zmT (c.ls y n):=by
 have ok:=K.ty.ok.1;have m:=zlS K.moves.1 (λj hj=>(ok j hj).2.2.1) n y h;rw[K.most_w]at m;exact⟨m,zwa K.gap n y h⟩
theorem zcJ {c:JobC} {y n:Nat} (h:y<c.S.ly.length):c.ls y (n+1)=((zf c.S.ly y).1,(zf c.S.ly y).2.length) :: c.ls (y+1) n:=zb6 h
theorem zxr {c:JobC} {y:Nat}:c.ls y 0=[]:=List.take_zero
theorem znq {L:List (Int×List Int)} (hM:zfh L) {i k:Nat} (h:i<=k) (hk:k<L.length):(zf L i).1<=(zf L k).1/\(zf L i).1+((zf L i).2.length:Int)<=(zf L k).1+((zf L k).2.length:Int):=zjk hM k h hk
theorem JobK.span {w0:World} {c:JobC} (K:JobK w0 c) {i:Nat} (hi:i<c.W):c.lo<=(zf c.S.lx (c.x0+i)).1/\(zf c.S.lx (c.x0+i)).1+((zf c.S.lx (c.x0+i)).2.length:Int)<=c.hi:=by
 have a:=K.xw;have b:=znq K.moves.2 (i:=c.x0) (k:=c.x0+i) (by omega) (by omega);have d:=znq K.moves.2 (i:=c.x0+i) (k:=c.x0+c.W-1) (by omega) (by omega);exact⟨b.1,d.2⟩
theorem JobK.cnt_in {w0:World} {c:JobC} (K:JobK w0 c):(c.cnt:Int)=c.hi-c.lo/\1<=c.cnt/\c.cnt<=3145728/\-1048576<=c.lo/\c.lo<=2097152/\c.hi<=2097152:=by
 have a:=K.xw;have b:=K.w1;have ok:=K.tx.ok.1;have s:=K.span (i:=0) (by omega);rw[Nat.add_zero]at s;have n1:=K.small.2.2 c.x0 (by omega);have n2:=K.small.2.2 (c.x0+c.W-1) (by omega);have l1:=(ok c.x0 (by omega)).2.2.1;have e1:(zf c.S.lx c.x0).1=c.lo:=rfl;have e2:(zf c.S.lx (c.x0+c.W-1)).1+((zf c.S.lx (c.x0+c.W-1)).2.length:Int)=c.hi:=rfl;unfold JobC.cnt;omega
theorem JobK.row_len {w0:World} {c:JobC} (_K:JobK w0 c) (j:Int):(c.row j).length=c.W*c.C:=ziC ..
theorem JobK.c1 {w0:World} {c:JobC} (K:JobK w0 c):1<=c.C/\c.C<=3/\c.I.ic.toNat=c.C:=by
 obtain⟨_,_,_,_,hc,_⟩:=K.img.ok;have:=K.ch;omega
theorem JobK.suit {w0:World} {c:JobC} (K:JobK w0 c):c.S.fx=c.I.iw/\c.S.fy=c.I.ih/\0<=c.S.sb/\c.S.sb<=2:=by
 have h:=K.suits;unfold zaY at h;simp only[Bool.and_eq_true,decide_eq_true_eq]at h;exact⟨h.1.1.1,h.1.1.2,h.1.2,h.2⟩
theorem JobAt.E_in {w0 w:World} {jb:Nat} {F R:Nat->Prop} {c:JobC} {G:List Int} {E:Int} {y n:Nat} (K:JobK w0 c) (J:JobAt w0 w jb F R c G E y (n+1)):y<c.S.ly.length/\(zf c.S.ly y).1<=E/\E<=(zf c.S.ly y).1+((zf c.S.ly y).2.length:Int)/\zj7 (zf c.S.ly y):=by
 have a:=J.yn;have b:=K.yh;have hy:y<c.S.ly.length:=by omega
 have st:=J.st;rw[zcJ hy]at st;have x:=st.at_ _ _ rfl;have z:=st.end_le;unfold zau at z;exact⟨hy,x,z,K.ty.ok.1 y hy⟩
end Go.Proofs.YtlodkoimdoeopaaGreatDoor
