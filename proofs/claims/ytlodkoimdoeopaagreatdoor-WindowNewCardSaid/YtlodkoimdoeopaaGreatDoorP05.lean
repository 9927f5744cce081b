/- Parts, joined. -/
import Derived.Test.YtlodkoimdoeopaaGreatDoorP04
import Derived.Laws.Externs
import Derived.Shelf.Spec.BitsCarry
import Derived.Deep.RegionHeld3
import Derived.Deep.DeepCutAuto
namespace Go.Proofs.YtlodkoimdoeopaaGreatDoor
open Go.RowKit
theorem zby (x y c:Int) (hx:0<=x) (hy:0<=y) (h0:0<=c) (h1:c<=1) (w:World) :
  (callFunc 129 #[.int .u64 x,.int .u64 y,.int .u64 c]).run Tryz.prog w=.ok (.value (.tuple #[.int .u64 ((x+y+c) % 18446744073709551616),.int .u64 ((x+y+c) / 18446744073709551616)])) w:=by
 rw[run_callFunc_extern Tryz.func129 (by kernel_rfl) (by kernel_rfl) (by kernel_rfl) (e:=add64Entry) (by kernel_rfl),run_add64 x y c hx hy h0 h1];rfl
theorem zhV (x y c:Int) (hx:0<=x) (x1:x<18446744073709551616) (hy:0<=y) (y1:y<18446744073709551616) (h0:0<=c) (h1:c<=1) (w:World) :
  (callFunc 227 #[.int .u64 x,.int .u64 y,.int .u64 c]).run Tryz.prog w=.ok (.value (.tuple #[.int .u64 ((x-y-c) % 18446744073709551616),.int .u64 (if x<y+c then 1 else 0)])) w:=by
 obtain⟨x,rfl⟩:=Int.eq_ofNat_of_zero_le hx;obtain⟨y,rfl⟩:=Int.eq_ofNat_of_zero_le hy;obtain⟨c,rfl⟩:=Int.eq_ofNat_of_zero_le h0;rw[run_callFunc_extern Tryz.func227 (by kernel_rfl) (by kernel_rfl) (by kernel_rfl) (e:=sub64Entry) (by kernel_rfl),run_sub64 x y c (by omega)];have e1:((((x+18446744073709551616-y-c) % 18446744073709551616:Nat)):Int)=((x:Int)-y-c) % 18446744073709551616:=by omega
 have e2:(((if x<y+c then 1 else 0:Nat)):Int)=if(x:Int)<y+c then 1 else 0:=by
  by_cases h:x<y+c
  ·rw[if_pos h,if_pos (by omega)];rfl
  ·rw[if_neg h,if_neg (by omega)];rfl
 simp only[Result.andThen,e1,e2]
theorem zt6 {h l x:Int} (eh:h=hi x) (el:l=lo x) :
  Ending.returned (.agg #[.int .i64 h,.int .u64 l])=.returned (.agg #[.int .i64 (hi x),.int .u64 (lo x)]):=by rw[eh,el]
theorem zfW (x:Int) (h0 : -9223372036854775808<=x) (h1:x<=9223372036854775807) (w:World) :
  Calls Tryz.prog 199 #[.int .i64 x] w λe w'=>e=.returned (.int .u64 (zi x))/\w=w':=by
 go_enter Tryz.func199,Tryz.ntmps199
 go_wp2
 ·rename_i h
  go_ret;exact⟨zeb (by rw[zaU h,IntKind.wrap_u64,IntKind.wrap_u64];omega),rfl⟩
 ·rename_i h
  go_ret;exact⟨zeb (by rw[zaG h]),rfl⟩
theorem zkt (x:Int) (h0 : -9223372036854775808<=x) (h1:x<=9223372036854775807) (w:World) :
  Calls Tryz.prog 202 #[.int .i64 x] w λe w'=>e=.returned (.agg #[.int .i64 (hi x),.int .u64 (lo x)])/\Below w.heap.size w w':=by
 go_enter Tryz.func202,Tryz.ntmps202
 go_wp2;refine bodyPost_ret (v:=.agg #[.int .i64 (x / 9223372036854775808),.int .u64 (IntKind.u64.wrap x)]) (by simp[results,Tryz.results202,go_sem]) rfl ⟨zt6 (zwI h0 h1) (by rw[IntKind.wrap_u64];rfl),zg _ _⟩
theorem zpl (x y:Int) (h0 : -170141183460469231731687303715884105728<=x) (h1:x<170141183460469231731687303715884105728) (k0 : -170141183460469231731687303715884105728<=y) (k1:y<170141183460469231731687303715884105728) (w:World) :
  Calls Tryz.prog 201 #[.agg #[.int .i64 (hi x),.int .u64 (lo x)],.agg #[.int .i64 (hi y),.int .u64 (lo y)]] w λe w'=>e=.returned (.agg #[.int .i64 (hi (zbO (x+y))),.int .u64 (lo (zbO (x+y)))])/\Below w.heap.size w w':=by
 have l0:=lo0 x;have l1:=lo1 x;have m0:=lo0 y;have m1:=lo1 y;have g0:=zqO h0;have g1:=znK h1;have g2:=zqO k0;have g3:=znK k1;have u0:0<=IntKind.u64.wrap (hi x):=by rw[IntKind.wrap_u64];omega
 have u1:0<=IntKind.u64.wrap (hi y):=by rw[IntKind.wrap_u64];omega
 have A2:=za (λw=>zby (IntKind.u64.wrap (hi x)) (IntKind.u64.wrap (hi y)) ((lo x+lo y) / 18446744073709551616) u0 u1 (by omega) (by omega) w);clear h0 h1 k0 k1 u0 u1
 go_enter Tryz.func201,Tryz.ntmps201
 go_wp2_with (first|simp only[A2.out]|simp(disch:=omega) only [zby])
 simp[bodyPost,results,Tryz.results201,go_sem]
 exact⟨⟨by rw[IntKind.wrap_u64,IntKind.wrap_u64];unfold wrap64;exact zuF x y,zxL x y⟩,zsb _ _ _ _⟩
theorem zeN (x:Int) (h0 : -170141183460469231731687303715884105728<=x) (h1:x<170141183460469231731687303715884105728) (w:World) :
  Calls Tryz.prog 198 #[.agg #[.int .i64 (hi x),.int .u64 (lo x)]] w λe w'=>e=.returned (.agg #[.int .i64 (hi (zbO (-x))),.int .u64 (lo (zbO (-x)))])/\Below w.heap.size w w':=by
 have l0:=lo0 x;have l1:=lo1 x;have g0:=zqO h0;have g1:=znK h1;clear h0 h1;have u0:0<=IntKind.u64.wrap (hi x):=by rw[IntKind.wrap_u64];omega
 have u1:IntKind.u64.wrap (hi x)<18446744073709551616:=by rw[IntKind.wrap_u64];omega
 have A1:=za (λw=>zhV 0 (lo x) 0 (by omega) (by omega) l0 l1 (by omega) (by omega) w);have A2:=za (λw=>zhV 0 (IntKind.u64.wrap (hi x)) 0 (by omega) (by omega) u0 u1 (by omega) (by omega) w);have A3:=za (λw=>zhV 0 (IntKind.u64.wrap (hi x)) 1 (by omega) (by omega) u0 u1 (by omega) (by omega) w);have v0:¬(0:Int) > IntKind.u64.wrap (hi x):=by omega
 by_cases h:0<lo x
 ·have H:=za h;have v1:(0:Int)<IntKind.u64.wrap (hi x)+1:=by omega
  clear u0 u1 v0
  go_enter Tryz.func198,Tryz.ntmps198
  go_wp2_with (first|simp only[A1.out]|simp only[A3.out])
  all_goals simp[bodyPost,results,Tryz.results198,go_sem]
  all_goals exact⟨⟨by rw[IntKind.wrap_u64];unfold wrap64;exact zxc H.out,zwC H.out⟩,zfN _ _ _⟩
 ·have h':lo x=0:=by omega
  have H':=za h';clear h' u0 u1 v0
  go_enter Tryz.func198,Tryz.ntmps198
  go_wp2_with (first|simp only[A1.out]|simp only[A2.out])
  all_goals simp[bodyPost,results,Tryz.results198,go_sem]
  all_goals exact⟨⟨by rw[IntKind.wrap_u64];unfold wrap64;exact zwz H'.out,by rw[zwD H'.out,H'.out];rfl⟩,zfN _ _ _⟩
theorem zno (x y P:Int) (hP:x*y=P) (x0:0<=x) (x1:x<18446744073709551616) (y0:0<=y) (y1:y<18446744073709551616) (w:World) :
  Calls Tryz.prog 128 #[.int .u64 x,.int .u64 y] w λe w'=>e=.returned (.tuple #[.int .u64 (hi P),.int .u64 (lo P)])/\w=w':=by
 subst hP;exact zip x y x0 x1 y0 y1 w
theorem ziO (a b:Int) (h0 : -9223372036854775808<=a) (h1:a<=9223372036854775807) (k0 : -9223372036854775808<=b) (k1:b<=9223372036854775807) (w:World) :
  Calls Tryz.prog 197 #[.int .i64 a,.int .i64 b] w λe w'=>e=.returned (.agg #[.int .i64 (hi (a*b)),.int .u64 (lo (a*b))])/\Below w.heap.size w w':=by
 have CA:=zfW a h0 h1;have CB:=zfW b k0 k1;have a0:=zbc a;have b0:=zbc b;have a1:zi a<=9223372036854775808:=zcs h0 (by omega);have b1:zi b<=9223372036854775808:=zcs k0 (by omega);have CM:=zno (zi a) (zi b) _ rfl a0 (by omega) b0 (by omega);obtain⟨m1,m2,m3,m4⟩:=zgo a b;obtain⟨p0,p1⟩:=zdE h0 h1 k0 k1;generalize zi a*zi b=P at *;generalize zi a=A at *;generalize zi b=B at *;clear a0 b0 a1 b1;have g0:=hi0 p0;have g1:hi P<=4611686018427387904:=by unfold hi;omega
 have CN:=zeN P (by omega) (by omega);rw[zeY (by omega) (by omega)]at CN
 by_cases ha:a<0
 ·have da:decide (a<0)=true:=decide_eq_true ha
  by_cases hb:b<0
  ·have db:decide (b<0)=true:=decide_eq_true hb;rw[m1 ha hb];clear m1 m2 m3 m4 p0 p1 ha hb
   go_enter Tryz.func197,Tryz.ntmps197
   go_wp2_with (first
    |(go_at_call 199;(with_reducible refine(CA _).mono ?_);rintro e w' ⟨rfl,rfl⟩)
    |(go_at_call 199;(with_reducible refine(CB _).mono ?_);rintro e w' ⟨rfl,rfl⟩)
    |(go_at_call 128;(with_reducible refine(CM _).mono ?_);rintro e w' ⟨rfl,rfl⟩))
   refine bodyPost_ret (v:=.agg #[.int .i64 (hi P),.int .u64 (lo P)]) (by simp[results,Tryz.results197,go_sem]) rfl ⟨rfl,?_⟩
   repeat (first|exact Below.refl _ _|with_reducible refine ba ?_ _|with_reducible refine bs ?_ (by omega) _|with_reducible refine bd ?_|(with_reducible refine bt ?_ (by assumption)))
  ·have db:decide (b<0)=false:=decide_eq_false hb;rw[m2 ha (by omega)];clear m1 m2 m3 m4 p0 p1 ha hb
   go_enter Tryz.func197,Tryz.ntmps197
   go_wp2_with (first
    |(go_at_call 199;(with_reducible refine(CA _).mono ?_);rintro e w' ⟨rfl,rfl⟩)
    |(go_at_call 199;(with_reducible refine(CB _).mono ?_);rintro e w' ⟨rfl,rfl⟩)
    |(go_at_call 128;(with_reducible refine(CM _).mono ?_);rintro e w' ⟨rfl,rfl⟩)
    |(go_at_call 198;(with_reducible refine(CN _).mono ?_);rintro e w2 ⟨rfl,b2⟩;have q0:w2.cell? ⟨w.heap.size,0,none⟩=some (.int .i64 0):=cb b2 (by simp;omega) (by simp);have q1:w2.cell? ⟨w.heap.size,1,none⟩=some (.int .u64 0):=cb b2 (by simp;omega) (by simp);have q2:w2.frozen? ⟨w.heap.size,0,none⟩=false:=fb b2 (by simp;omega) (by simp);have q3:w2.frozen? ⟨w.heap.size,1,none⟩=false:=fb b2 (by simp;omega) (by simp)))
   refine bodyPost_ret (v:=.agg #[.int .i64 (hi (-P)),.int .u64 (lo (-P))]) (by simp[results,Tryz.results197,go_sem,q0,q1]) rfl ⟨rfl,?_⟩
   repeat (first|exact Below.refl _ _|with_reducible refine ba ?_ _|with_reducible refine bs ?_ (by omega) _|with_reducible refine bd ?_|(with_reducible refine bt ?_ (by assumption)))
 ·have da:decide (a<0)=false:=decide_eq_false ha
  by_cases hb:b<0
  ·have db:decide (b<0)=true:=decide_eq_true hb;rw[m3 (by omega) hb];clear m1 m2 m3 m4 p0 p1 ha hb
   go_enter Tryz.func197,Tryz.ntmps197
   go_wp2_with (first
    |(go_at_call 199;(with_reducible refine(CA _).mono ?_);rintro e w' ⟨rfl,rfl⟩)
    |(go_at_call 199;(with_reducible refine(CB _).mono ?_);rintro e w' ⟨rfl,rfl⟩)
    |(go_at_call 128;(with_reducible refine(CM _).mono ?_);rintro e w' ⟨rfl,rfl⟩)
    |(go_at_call 198;(with_reducible refine(CN _).mono ?_);rintro e w2 ⟨rfl,b2⟩;have q0:w2.cell? ⟨w.heap.size,0,none⟩=some (.int .i64 0):=cb b2 (by simp;omega) (by simp);have q1:w2.cell? ⟨w.heap.size,1,none⟩=some (.int .u64 0):=cb b2 (by simp;omega) (by simp);have q2:w2.frozen? ⟨w.heap.size,0,none⟩=false:=fb b2 (by simp;omega) (by simp);have q3:w2.frozen? ⟨w.heap.size,1,none⟩=false:=fb b2 (by simp;omega) (by simp)))
   refine bodyPost_ret (v:=.agg #[.int .i64 (hi (-P)),.int .u64 (lo (-P))]) (by simp[results,Tryz.results197,go_sem,q0,q1]) rfl ⟨rfl,?_⟩
   repeat (first|exact Below.refl _ _|with_reducible refine ba ?_ _|with_reducible refine bs ?_ (by omega) _|with_reducible refine bd ?_|(with_reducible refine bt ?_ (by assumption)))
  ·have db:decide (b<0)=false:=decide_eq_false hb;rw[m4 (by omega) (by omega)];clear m1 m2 m3 m4 p0 p1 ha hb
   go_enter Tryz.func197,Tryz.ntmps197
   go_wp2_with (first
    |(go_at_call 199;(with_reducible refine(CA _).mono ?_);rintro e w' ⟨rfl,rfl⟩)
    |(go_at_call 199;(with_reducible refine(CB _).mono ?_);rintro e w' ⟨rfl,rfl⟩)
    |(go_at_call 128;(with_reducible refine(CM _).mono ?_);rintro e w' ⟨rfl,rfl⟩))
   refine bodyPost_ret (v:=.agg #[.int .i64 (hi P),.int .u64 (lo P)]) (by simp[results,Tryz.results197,go_sem]) rfl ⟨rfl,?_⟩
   repeat (first|exact Below.refl _ _|with_reducible refine ba ?_ _|with_reducible refine bs ?_ (by omega) _|with_reducible refine bd ?_|(with_reducible refine bt ?_ (by assumption)))
theorem zdc (w:World) (u v:Value) (t:TypeId):(w.alloc (.cells #[u,v] t)).cell? ⟨w.heap.size,0,none⟩=some u:=by simp
theorem zcX (w:World) (u v:Value) (t:TypeId):(w.alloc (.cells #[u,v] t)).cell? ⟨w.heap.size,1,none⟩=some v:=by simp
theorem zbB (w:World) (o:Obj):w.heap.size<(w.alloc o).heap.size:=by simp
theorem zvo (x:Int):lo (wrap64 (lo x))=lo x:=by unfold wrap64 lo;omega
theorem zxR {x:Int} (h0 : -9223372036854775808<=x) (h1:x<=9223372036854775807):wrap64 (lo x)=x:=by unfold wrap64 lo;omega
theorem zxu {x:Int} (h:x < -9223372036854775808\/9223372036854775807<x):hi x≠hi (wrap64 (lo x)):=by unfold wrap64 hi lo;omega
theorem zyM (x:Int) : -9223372036854775808<=wrap64 x:=by unfold wrap64;omega
theorem zyN (x:Int):wrap64 x<=9223372036854775807:=by unfold wrap64;omega
set_option maxHeartbeats 1000000 in
theorem zbe (x:Int) (w:World) :
  Calls Tryz.prog 203 #[.agg #[.int .i64 (hi x),.int .u64 (lo x)]] w λe w'=>e=.returned (.int .i64 (zE x))/\Below w.heap.size w w':=by
 have n0:=zdc w (.int .i64 (hi x)) (.int .u64 (lo x)) 259;have n1:=zcX w (.int .i64 (hi x)) (.int .u64 (lo x)) 259;have n2:=zbB w (.cells #[.int .i64 (hi x),.int .u64 (lo x)] 259);have CO:=zkt (wrap64 (lo x)) (zyM _) (zyN _);rw[zvo]at CO
 by_cases h : -9223372036854775808<=x/\x<=9223372036854775807
 ·rw[zH h.1 h.2];have e:=zxR h.1 h.2;rw[show hi (wrap64 (lo x))=hi x by rw[e]]at CO;have E:=za e;clear e h
  go_enter Tryz.func203,Tryz.ntmps203
  go_wp2
  go_region_held3 (λw'=>w'.cell? ⟨w.heap.size,0,none⟩=some (.int .i64 (hi x))/\w'.cell? ⟨w.heap.size,1,none⟩=some (.int .u64 (lo x)))
   (first|exact⟨n0,n1⟩|exact⟨y0,y1⟩)
   (first
    |(go_at_call 202;(with_reducible refine(CO _).mono ?_);rintro e w1 ⟨rfl,b1⟩;have y0:=cb b1 n2 n0;have y1:=cb b1 n2 n1))
  clear n0 n1 n2;go_wp2;go_ret;refine⟨zm E.out,?_⟩
  repeat (first|exact Below.refl _ _|with_reducible refine ba ?_ _|with_reducible refine bs ?_ (by omega) _|with_reducible refine bd ?_|(with_reducible refine bt ?_ (by assumption)))
 ·have hne:=zxu (x:=x) (by omega);generalize hi (wrap64 (lo x))=h' at *;have hb:(hi x == h')=false:=beq_eq_false_iff_ne.2 hne;have E:=za (hl x);have l0:=lo0 x;have l1:=lo1 x;have NE:=za h;clear hne h
  by_cases hn:hi x<0
  ·have dn:decide (hi x<0)=true:=decide_eq_true hn;rw[zcW (by have:=E.out;have:=NE.out;omega)]
   go_enter Tryz.func203,Tryz.ntmps203
   go_wp2
   go_region_held3 (λw'=>w'.cell? ⟨w.heap.size,0,none⟩=some (.int .i64 (hi x))/\w'.cell? ⟨w.heap.size,1,none⟩=some (.int .u64 (lo x)))
    (first|exact⟨n0,n1⟩|exact⟨y0,y1⟩)
    (first
     |(go_at_call 202;(with_reducible refine(CO _).mono ?_);rintro e w1 ⟨rfl,b1⟩;have y0:=cb b1 n2 n0;have y1:=cb b1 n2 n1))
   clear n0 n1 n2;go_wp2;go_ret;refine⟨rfl,?_⟩
   repeat (first|exact Below.refl _ _|with_reducible refine ba ?_ _|with_reducible refine bs ?_ (by omega) _|with_reducible refine bd ?_|(with_reducible refine bt ?_ (by assumption)))
  ·have dn:decide (hi x<0)=false:=decide_eq_false hn;rw[zbR (by have:=E.out;have:=NE.out;omega)]
   go_enter Tryz.func203,Tryz.ntmps203
   go_wp2
   go_region_held3 (λw'=>w'.cell? ⟨w.heap.size,0,none⟩=some (.int .i64 (hi x))/\w'.cell? ⟨w.heap.size,1,none⟩=some (.int .u64 (lo x)))
    (first|exact⟨n0,n1⟩|exact⟨y0,y1⟩)
    (first
     |(go_at_call 202;(with_reducible refine(CO _).mono ?_);rintro e w1 ⟨rfl,b1⟩;have y0:=cb b1 n2 n0;have y1:=cb b1 n2 n1))
   clear n0 n1 n2;go_wp2;go_ret;refine⟨rfl,?_⟩
   repeat (first|exact Below.refl _ _|with_reducible refine ba ?_ _|with_reducible refine bs ?_ (by omega) _|with_reducible refine bd ?_|(with_reducible refine bt ?_ (by assumption)))
def ziD (h l d:Int):Prop:=∀ w:World,Calls Tryz.prog 228 #[.int .u64 h,.int .u64 l,.int .u64 d] w λe w'=>e=.returned (.tuple #[.int .u64 ((h*18446744073709551616+l) / d),.int .u64 ((h*18446744073709551616+l) % d)])/\Below w.heap.size w w'
theorem zrp (l d:Int) (l0:0<=l) (l1:l<18446744073709551616) (d0:0<d) (d1:d<18446744073709551616):ziD 0 l d:=by
 intro w;rw[Int.zero_mul,Int.zero_add];have hd:(d == 0)=false:=beq_eq_false_iff_ne.2 (by omega);have hd2:decide (d<=0)=false:=decide_eq_false (by omega);have hd3:d≠0:=by omega
 go_enter Tryz.func228,Tryz.ntmps228
 go_wp2
 go_region
 go_wp2
 go_ret2
 exact⟨rfl,bd (Below.refl _ _)⟩
theorem zqU (x d:Int) (h0:0<=x) (h1:x<170141183460469231731687303715884105728) (d0:0<d) (d1:d<18446744073709551616) (CD:ziD (hi x % d) (lo x) d) (w:World) :
  Calls Tryz.prog 200 #[.agg #[.int .i64 (hi x),.int .u64 (lo x)],.int .u64 d] w λe w'=>e=.returned (.tuple #[.agg #[.int .i64 (hi (x / d)),.int .u64 (lo (x / d))],.int .u64 (x % d)])/\Below w.heap.size w w':=by
 have g0:=hi0 h0;have g1:=znK h1;have hd:(d == 0)=false:=beq_eq_false_iff_ne.2 (by omega);have hd2:d≠0:=by omega
 obtain⟨D1,D2,D3⟩:=zpT (x:=x) d0;have em:(hi x).tmod d=hi x % d:=zgP g0;have CD:∀ w:World,Calls Tryz.prog 228 #[.int .u64 ((hi x).tmod d),.int .u64 (lo x),.int .u64 d] w λe w'=>e=.returned (.tuple #[.int .u64 (lo (x / d)),.int .u64 (x % d)])/\Below w.heap.size w w':=by
  rw[em,←D2,←D3];exact CD
 have E1:=za D1;clear D1 D2 D3 em
 go_enter Tryz.func200,Tryz.ntmps200
 go_wp2;have n0:=ca (ob:=.cells #[.int .i64 0,.int .u64 0] 259) (zbB w (.cells #[.int .i64 (hi x),.int .u64 (lo x)] 259)) (zcX w (.int .i64 (hi x)) (.int .u64 (lo x)) 259);have n2:w.heap.size<((w.alloc (.cells #[.int .i64 (hi x),.int .u64 (lo x)] 259)).alloc (.cells #[.int .i64 0,.int .u64 0] 259)).heap.size:=by simp;omega
 go_region_held3 (λw'=>w'.cell? ⟨w.heap.size,1,none⟩=some (.int .u64 (lo x)))
  (first|exact n0|exact y0)
  (first
   |(go_at_call 228;(with_reducible refine(CD _).mono ?_);rintro e w1 ⟨rfl,b1⟩;have y0:=cb b1 n2 n0;have q0:w1.cell? ⟨w.heap.size+1,0,none⟩=some (.int .i64 0):=cb b1 (by simp) (by simp);have q1:w1.cell? ⟨w.heap.size+1,1,none⟩=some (.int .u64 0):=cb b1 (by simp) (by simp);have q2:w1.frozen? ⟨w.heap.size+1,0,none⟩=false:=fb b1 (by simp) (by simp);have q3:w1.frozen? ⟨w.heap.size+1,1,none⟩=false:=fb b1 (by simp) (by simp)))
 clear n0 n2;have s0:0<=hi x / d:=Int.ediv_nonneg g0 (by omega);have s1:hi x / d<=9223372036854775807:=Int.le_trans (Int.ediv_le_self _ g0) g1;go_wp2;refine bodyPost_ret (v:=.tuple #[.agg #[.int .i64 (hi x / d),.int .u64 (lo (x / d))],.int .u64 (x % d)]) (by simp[results,Tryz.results200,go_sem,q0,q1]) rfl ⟨by rw[E1.out],?_⟩
 repeat (first|exact Below.refl _ _|with_reducible refine ba ?_ _|with_reducible refine bs ?_ (by omega) _|with_reducible refine bd ?_|(with_reducible refine bt ?_ (by assumption)))
theorem zmX (x:Int) (n:Nat) (h0 : -170141183460469231731687303715884105728<=x) (h1:x<170141183460469231731687303715884105728) (hn:n<=127) (w:World) :
  Calls Tryz.prog 233 #[.agg #[.int .i64 (hi x),.int .u64 (lo x)],.int .i64 n] w λe w'=>e=.returned (.agg #[.int .i64 (hi (x / 2 ^ n)),.int .u64 (lo (x / 2 ^ n))])/\Below w.heap.size w w':=by
 have g0:=zqO h0;have g1:=znK h1
 by_cases h:64<=n
 ·have e:=zvb (x:=x) h;have p:=zK (n-64);have s0 : -9223372036854775808<=hi x / 2 ^ (n-64):=Int.le_trans (by omega) (Int.le_ediv_of_mul_le p (show -9223372036854775808*2 ^ (n-64)<=hi x from Int.le_trans (by omega) g0));have s1:hi x / 2 ^ (n-64)<=9223372036854775807:=by
   have:hi x / 2 ^ (n-64)<9223372036854775808:=Int.ediv_lt_of_lt_mul p (by omega);omega
  have CO:=zkt (hi x / 2 ^ (n-64)) s0 s1;have E:=za e;clear e s0 s1 p
  go_enter Tryz.func233,Tryz.ntmps233
  go_wp2_with (first
    |(go_at_call 202;(with_reducible refine(CO _).mono ?_);rintro e w2 ⟨rfl,b2⟩;have q0:w2.cell? ⟨w.heap.size+1,0,none⟩=some (.int .i64 0):=cb b2 (by simp) (by simp);have q1:w2.cell? ⟨w.heap.size+1,1,none⟩=some (.int .u64 0):=cb b2 (by simp) (by simp);have q2:w2.frozen? ⟨w.heap.size+1,0,none⟩=false:=fb b2 (by simp) (by simp);have q3:w2.frozen? ⟨w.heap.size+1,1,none⟩=false:=fb b2 (by simp) (by simp)))
  refine bodyPost_ret (v:=.agg #[.int .i64 (hi (hi x / 2 ^ (n-64))),.int .u64 (lo (hi x / 2 ^ (n-64)))]) (by simp[results,Tryz.results233,go_sem,q0,q1]) rfl ⟨by rw[E.out],?_⟩
  repeat (first|exact Below.refl _ _|with_reducible refine ba ?_ _|with_reducible refine bs ?_ (by omega) _|with_reducible refine bd ?_|(with_reducible refine bt ?_ (by assumption)))
 ·go_enter Tryz.func233,Tryz.ntmps233
  go_wp2
  go_region
  go_wp2;refine bodyPost_ret (v:=.agg #[.int .i64 (hi (x / 2 ^ n)),.int .u64 (lo (x / 2 ^ n))]) (by simp[results,Tryz.results233,go_sem];exact⟨zxg,zxh (by omega)⟩) rfl ⟨rfl,?_⟩
  repeat (first|exact Below.refl _ _|with_reducible refine ba ?_ _|with_reducible refine bs ?_ (by omega) _|with_reducible refine bd ?_|(with_reducible refine bt ?_ (by assumption)))
end Go.Proofs.YtlodkoimdoeopaaGreatDoor
