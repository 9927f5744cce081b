/- Parts, joined. -/
import Derived.Test.YtlodkoimdoeopaaGreatDoorP05
import Derived.Test.YtlodkoimdoeopaaGreatDoorP04
import Derived.Lib.BitFns
namespace Go.Proofs.YtlodkoimdoeopaaGreatDoor
open Go.RowKit
def zal (a b n:Int):Int:=if 127<n then 0 else if n<=0 then zE (a*b) else zE (zaz (a*b) (2 ^ n.toNat))
theorem zl0 (a b:Int) (m:Nat) (h:m<=126):zal a b ((m:Int)+1)=zE ((a*b / 2 ^ m+1) / 2):=by
 unfold zal;rw[if_neg (by omega),if_neg (by omega),show((m:Int)+1).toNat=m+1 by omega,zg9]
theorem zpM {a b:Int} (h0 : -9223372036854775808<=a) (h1:a<=9223372036854775807) (k0 : -9223372036854775808<=b) (k1:b<=9223372036854775807) : -85070591730234615865843651857942052864<=a*b/\a*b<=85070591730234615865843651857942052864:=by
 obtain⟨m1,m2,m3,m4⟩:=zgo a b;have p:=zdE h0 h1 k0 k1
 by_cases ha:a<0<;>by_cases hb:b<0
 ·rw[m1 ha hb];omega
 ·rw[m2 ha (by omega)];omega
 ·rw[m3 (by omega) hb];omega
 ·rw[m4 (by omega) (by omega)];omega
theorem zqB {x:Int} (m:Nat) (h0 : -85070591730234615865843651857942052864<=x) (h1:x<=85070591730234615865843651857942052864) : -85070591730234615865843651857942052864<=x / 2 ^ m/\x / 2 ^ m<=85070591730234615865843651857942052864:=by
 have p:=zK m;refine⟨Int.le_ediv_of_mul_le p (Int.le_trans ?_ h0),?_⟩
 ·have:(85070591730234615865843651857942052864:Int)*1<=85070591730234615865843651857942052864*2 ^ m:=Int.mul_le_mul_of_nonneg_left (by omega) (by decide);omega
 ·have:x / 2 ^ m<85070591730234615865843651857942052865:=Int.ediv_lt_of_lt_mul p (by
   have:(85070591730234615865843651857942052865:Int)*1<=85070591730234615865843651857942052865*2 ^ m:=Int.mul_le_mul_of_nonneg_left (by omega) (by decide);omega)
  omega
set_option maxRecDepth 100000 in
set_option maxHeartbeats 1000000 in
theorem zmA (a b n:Int) (h0 : -9223372036854775808<=a) (h1:a<=9223372036854775807) (k0 : -9223372036854775808<=b) (k1:b<=9223372036854775807) (w:World) :
  Calls Tryz.prog 218 #[.int .i64 a,.int .i64 b,.int .i64 n] w λe w'=>e=.returned (.int .i64 (zal a b n))/\Below w.heap.size w w':=by
 by_cases hg:127<n
 ·rw[show zal a b n=0 from if_pos hg]
  go_enter Tryz.func218,Tryz.ntmps218
  go_wp2;go_ret;exact⟨rfl,Below.refl _ _⟩
 have CP:=ziO a b h0 h1 k0 k1;obtain⟨p0,p1⟩:=zpM h0 h1 k0 k1
 by_cases hs:n<=0
 ·rw[show zal a b n=zE (a*b) from(if_neg hg).trans (if_pos hs)];generalize a*b=X at *;have CH:=zbe X;clear p0 p1
  go_enter Tryz.func218,Tryz.ntmps218
  go_wp2_with (first
   |(go_at_call 197;(with_reducible refine(CP _).mono ?_);rintro e w1 ⟨rfl,b1⟩)
   |(go_at_call 203;(with_reducible refine(CH _).mono ?_);rintro e w2 ⟨rfl,b2⟩))
  go_ret;refine⟨rfl,?_⟩
  repeat (first|exact Below.refl _ _|with_reducible refine ba ?_ _|with_reducible refine bs ?_ (by omega) _|with_reducible refine bd ?_|(with_reducible refine bt ?_ (by assumption)))
 obtain⟨m,rfl⟩:∃ m:Nat,n=(m:Int)+1:=⟨n.toNat-1,by omega⟩;rw[zl0 a b m (by omega)];generalize a*b=X at *;obtain⟨q0,q1⟩:=zqB m p0 p1;have C1:=zmX X m (by omega) (by omega) (by omega);have C2:=zkt 1 (by omega) (by omega);have C3:=zpl (X / 2 ^ m) 1 (by omega) (by omega) (by omega) (by omega);rw[zeY (by omega) (by omega)]at C3;have C4:∀ w:World,Calls Tryz.prog 233 #[.agg #[.int .i64 (hi (X / 2 ^ m+1)),.int .u64 (lo (X / 2 ^ m+1))],.int .i64 1] w λe w'=>e=.returned (.agg #[.int .i64 (hi ((X / 2 ^ m+1) / 2)),.int .u64 (lo ((X / 2 ^ m+1) / 2))])/\Below w.heap.size w w' :=
  zmX (X / 2 ^ m+1) 1 (by omega) (by omega) (by omega)
 have C5:=zbe ((X / 2 ^ m+1) / 2);clear p0 p1 q0 q1;generalize (X / 2 ^ m+1) / 2=V at *;generalize X / 2 ^ m+1=U at *;generalize X / 2 ^ m=T at *
 go_enter Tryz.func218,Tryz.ntmps218
 go_wp2_with (first
  |(go_at_call 197;(with_reducible refine(CP _).mono ?_);rintro e w1 ⟨rfl,b1⟩)
  |(go_at_call 233;(with_reducible refine(C1 _).mono ?_);rintro e w2 ⟨rfl,b2⟩)
  |(go_at_call 202;(with_reducible refine(C2 _).mono ?_);rintro e w3 ⟨rfl,b3⟩)
  |(go_at_call 201;(with_reducible refine(C3 _).mono ?_);rintro e w4 ⟨rfl,b4⟩)
  |(go_at_call 233;(with_reducible refine(C4 _).mono ?_);rintro e w5 ⟨rfl,b5⟩)
  |(go_at_call 203;(with_reducible refine(C5 _).mono ?_);rintro e w6 ⟨rfl,b6⟩))
 go_ret;refine⟨rfl,?_⟩
 repeat (first|exact Below.refl _ _|with_reducible refine ba ?_ _|with_reducible refine bs ?_ (by omega) _|with_reducible refine bd ?_|(with_reducible refine bt ?_ (by assumption)))
theorem zqk {X d:Int} (hd:d≠0):zaz X d=if(X<0↔d<0) then zi X / zi d+(if zi d<=2*(zi X % zi d) then 1 else 0) else -(zi X / zi d+(if zi d<2*(zi X % zi d) then 1 else 0)):=by
 unfold zaz
 by_cases hx:X<0<;>by_cases hn:d<0
 ·rw[if_pos hn,if_pos (by omega),zeQ (by omega),zaU hx,zaU hn]
 ·rw[if_neg hn,if_neg (by omega),zaU hx,zaG (by omega)];have h:=zen (a := -X) (b:=d) (by omega);rw[Int.neg_neg]at h;exact h
 ·rw[if_pos hn,if_neg (by omega),zaG (by omega),zaU hn];exact zen (by omega)
 ·rw[if_neg hn,if_pos (by omega),zeQ (by omega),zaG (by omega),zaG (by omega)]
theorem zk5 (a:Int):zM a 0=0:=if_pos rfl
set_option maxRecDepth 100000 in
set_option maxHeartbeats 4000000 in
theorem zqx (a b d:Int) (h0 : -9223372036854775808<=a) (h1:a<=9223372036854775807) (k0 : -9223372036854775808<=b) (k1:b<=9223372036854775807) (d0 : -9223372036854775808<=d) (d1:d<=9223372036854775807)
  (CD:d≠0->ziD (hi (zi (a*b)) % zi d) (lo (zi (a*b))) (zi d)) (w:World) :
  Calls Tryz.prog 173 #[.int .i64 a,.int .i64 b,.int .i64 d] w λe w'=>e=.returned (.int .i64 (zM (a*b) d))/\Below w.heap.size w w':=by
 by_cases hz:d=0
 ·subst hz;rw[zk5]
  go_enter Tryz.func173,Tryz.ntmps173
  go_wp2;go_ret;exact⟨rfl,Below.refl _ _⟩
 have CD:=CD hz;rw[zcg hz];have NC:=zqk (X:=a*b) hz;have CP:=ziO a b h0 h1 k0 k1;obtain⟨p0,p1⟩:=zpM h0 h1 k0 k1;have CS:=zfW d d0 d1;have dz:(d == 0)=false:=beq_eq_false_iff_ne.2 hz;generalize a*b=X at *;have DA:0<zi d:=by unfold zi;split<;>omega
 have DB:zi d<=9223372036854775808:=zcs d0 (by omega);have PA:=zbc X;have PB:zi X<=85070591730234615865843651857942052864:=by unfold zi;split<;>omega
 have CN:=zeN X (by omega) (by omega);rw[zeY (by omega) (by omega)]at CN;have XN:X<0->-X=zi X:=λh=>(zaU h).symm
 have XP:0<=X->X=zi X:=λh=>(zaG h).symm
 have CQ:=zqU (zi X) (zi d) PA (by omega) DA (by omega) CD;have CO:=zkt 1 (by omega) (by omega);have QA:=zcn PA DA;have RA:=za1 (x:=zi X) DA;clear CD;generalize zi X / zi d=Q at *;generalize zi X % zi d=R at *;have CU:=zpl Q 1 (by omega) (by omega) (by omega) (by omega);rw[zeY (by omega) (by omega)]at CU;have CM:=zeN Q (by omega) (by omega);rw[zeY (by omega) (by omega)]at CM;have CV:=zeN (Q+1) (by omega) (by omega);rw[zeY (by omega) (by omega)]at CV;generalize zi d=D at *;obtain⟨QA0,-⟩:=QA;obtain⟨RA0,RA1⟩:=RA
 by_cases hx:X<0
 ·have hx2:hi X<0:=by unfold hi;omega
  by_cases hd:d<0
  ·by_cases hu:D<2*R
   ·have hX:hi X<0:=by omega
    have dX:decide (hi X<0)=true:=decide_eq_true (by omega);have dd:decide (d<0)=true:=decide_eq_true (by omega);rw[if_pos (by omega),if_pos (by omega)]at NC;have CH:=zbe (Q+1);rw[NC];have EX:=XN (by omega);rw[←EX]at CQ;clear NC XN XP EX PA PB p0 p1 hX hz hx hd;have hG:decide (D<2*R)=true:=decide_eq_true (by omega)
    go_enter Tryz.func173,Tryz.ntmps173
    go_upto_region 9 with(first
     |(go_at_call 197;(with_reducible refine(CP _).mono ?_);rintro e w1 ⟨rfl,b1⟩;have z1:w.heap.size<=w1.heap.size:=b1.size)
     |(go_at_call 198;(with_reducible refine(CN _).mono ?_);rintro e w2 ⟨rfl,b2⟩;have n0:w2.cell? ⟨w1.heap.size,0,none⟩=some (.int .i64 (hi X)):=cb b2 (by simp) (by simp);have n1:w2.cell? ⟨w1.heap.size,1,none⟩=some (.int .u64 (lo X)):=cb b2 (by simp) (by simp);have n2:w2.frozen? ⟨w1.heap.size,0,none⟩=false:=fb b2 (by simp) (by simp);have n3:w2.frozen? ⟨w1.heap.size,1,none⟩=false:=fb b2 (by simp) (by simp);have n4:w1.heap.size<w2.heap.size:=(by have:=b2.size;simp at this;omega))
     |(go_at_call 199;(with_reducible refine(CS _).mono ?_);rintro e w' ⟨rfl,rfl⟩)
     |(go_at_call 200;(with_reducible refine(CQ _).mono ?_);rintro e w3 ⟨rfl,b3⟩;have z3:w.heap.size<=w3.heap.size:=(by have:=b3.size;simp[World.setCell]at this;omega)))
    have n5:=zdc w3 (.int .i64 (hi Q)) (.int .u64 (lo Q)) 259;have n6:=zcX w3 (.int .i64 (hi Q)) (.int .u64 (lo Q)) 259;have n7:=zbB w3 (.cells #[.int .i64 (hi Q),.int .u64 (lo Q)] 259);have f5:(w3.alloc (.cells #[.int .i64 (hi Q),.int .u64 (lo Q)] 259)).frozen? ⟨w3.heap.size,0,none⟩=false:=by simp
    have f6:(w3.alloc (.cells #[.int .i64 (hi Q),.int .u64 (lo Q)] 259)).frozen? ⟨w3.heap.size,1,none⟩=false:=by simp
    go_upto_region 10 with(fail)
    go_region_with (first
     |(go_at_call 202;(with_reducible refine(CO _).mono ?_);rintro e w4 ⟨rfl,b4⟩;have m0:=cb b4 n7 n5;have m1:=cb b4 n7 n6;have m2:=fb b4 n7 f5;have m3:=fb b4 n7 f6;have m4:=Nat.lt_of_lt_of_le n7 b4.size)
     |(go_at_call 201;(with_reducible refine(CU _).mono ?_);rintro e w5 ⟨rfl,b5⟩;have o0:=cb b5 m4 m0;have o1:=cb b5 m4 m1;have o2:=fb b5 m4 m2;have o3:=fb b5 m4 m3;have o4:=Nat.lt_of_lt_of_le m4 b5.size))
    all_goals
     go_wp2_with (first
      |(go_at_call 203;(with_reducible refine(CH _).mono ?_);rintro e w7 ⟨rfl,b7⟩))
     go_ret;refine⟨rfl,?_⟩
     repeat (first|exact Below.refl _ _|with_reducible refine ba ?_ _|with_reducible refine bs ?_ (by omega) _|with_reducible refine bd ?_|(with_reducible refine bt ?_ (by assumption)))
   ·by_cases hv:D=2*R
    ·have hv2:D<=2*R:=by omega
     have hv3:2*R<=D:=by omega
     clear hv;have hX:hi X<0:=by omega
     have dX:decide (hi X<0)=true:=decide_eq_true (by omega);have dd:decide (d<0)=true:=decide_eq_true (by omega);rw[if_pos (by omega),if_pos (by omega)]at NC;have CH:=zbe (Q+1);rw[NC];have EX:=XN (by omega);rw[←EX]at CQ;clear NC XN XP EX PA PB p0 p1 hX hz hx hd;have hE:(2*R == D)=true:=beq_iff_eq.2 (by omega);have hG:decide (D<2*R)=false:=decide_eq_false (by omega);clear hu
     go_enter Tryz.func173,Tryz.ntmps173
     go_upto_region 9 with(first
      |(go_at_call 197;(with_reducible refine(CP _).mono ?_);rintro e w1 ⟨rfl,b1⟩;have z1:w.heap.size<=w1.heap.size:=b1.size)
      |(go_at_call 198;(with_reducible refine(CN _).mono ?_);rintro e w2 ⟨rfl,b2⟩;have n0:w2.cell? ⟨w1.heap.size,0,none⟩=some (.int .i64 (hi X)):=cb b2 (by simp) (by simp);have n1:w2.cell? ⟨w1.heap.size,1,none⟩=some (.int .u64 (lo X)):=cb b2 (by simp) (by simp);have n2:w2.frozen? ⟨w1.heap.size,0,none⟩=false:=fb b2 (by simp) (by simp);have n3:w2.frozen? ⟨w1.heap.size,1,none⟩=false:=fb b2 (by simp) (by simp);have n4:w1.heap.size<w2.heap.size:=(by have:=b2.size;simp at this;omega))
      |(go_at_call 199;(with_reducible refine(CS _).mono ?_);rintro e w' ⟨rfl,rfl⟩)
      |(go_at_call 200;(with_reducible refine(CQ _).mono ?_);rintro e w3 ⟨rfl,b3⟩;have z3:w.heap.size<=w3.heap.size:=(by have:=b3.size;simp[World.setCell]at this;omega)))
     have n5:=zdc w3 (.int .i64 (hi Q)) (.int .u64 (lo Q)) 259;have n6:=zcX w3 (.int .i64 (hi Q)) (.int .u64 (lo Q)) 259;have n7:=zbB w3 (.cells #[.int .i64 (hi Q),.int .u64 (lo Q)] 259);have f5:(w3.alloc (.cells #[.int .i64 (hi Q),.int .u64 (lo Q)] 259)).frozen? ⟨w3.heap.size,0,none⟩=false:=by simp
     have f6:(w3.alloc (.cells #[.int .i64 (hi Q),.int .u64 (lo Q)] 259)).frozen? ⟨w3.heap.size,1,none⟩=false:=by simp
     go_upto_region 10 with(fail)
     go_region_with (first
      |(go_at_call 202;(with_reducible refine(CO _).mono ?_);rintro e w4 ⟨rfl,b4⟩;have m0:=cb b4 n7 n5;have m1:=cb b4 n7 n6;have m2:=fb b4 n7 f5;have m3:=fb b4 n7 f6;have m4:=Nat.lt_of_lt_of_le n7 b4.size)
      |(go_at_call 201;(with_reducible refine(CU _).mono ?_);rintro e w5 ⟨rfl,b5⟩;have o0:=cb b5 m4 m0;have o1:=cb b5 m4 m1;have o2:=fb b5 m4 m2;have o3:=fb b5 m4 m3;have o4:=Nat.lt_of_lt_of_le m4 b5.size))
     all_goals
      go_wp2_with (first
       |(go_at_call 203;(with_reducible refine(CH _).mono ?_);rintro e w7 ⟨rfl,b7⟩))
      go_ret;refine⟨rfl,?_⟩
      repeat (first|exact Below.refl _ _|with_reducible refine ba ?_ _|with_reducible refine bs ?_ (by omega) _|with_reducible refine bd ?_|(with_reducible refine bt ?_ (by assumption)))
    ·have hX:hi X<0:=by omega
     have dX:decide (hi X<0)=true:=decide_eq_true (by omega);have dd:decide (d<0)=true:=decide_eq_true (by omega);rw[if_pos (by omega),if_neg (by omega)]at NC;rw[Int.add_zero]at NC;have CH:=zbe (Q);rw[NC];have EX:=XN (by omega);rw[←EX]at CQ;clear NC XN XP EX PA PB p0 p1 hX hz hx hd;have hE:(2*R == D)=false:=beq_eq_false_iff_ne.2 (by omega);have hG:decide (D<2*R)=false:=decide_eq_false (by omega)
     go_enter Tryz.func173,Tryz.ntmps173
     go_upto_region 9 with(first
      |(go_at_call 197;(with_reducible refine(CP _).mono ?_);rintro e w1 ⟨rfl,b1⟩;have z1:w.heap.size<=w1.heap.size:=b1.size)
      |(go_at_call 198;(with_reducible refine(CN _).mono ?_);rintro e w2 ⟨rfl,b2⟩;have n0:w2.cell? ⟨w1.heap.size,0,none⟩=some (.int .i64 (hi X)):=cb b2 (by simp) (by simp);have n1:w2.cell? ⟨w1.heap.size,1,none⟩=some (.int .u64 (lo X)):=cb b2 (by simp) (by simp);have n2:w2.frozen? ⟨w1.heap.size,0,none⟩=false:=fb b2 (by simp) (by simp);have n3:w2.frozen? ⟨w1.heap.size,1,none⟩=false:=fb b2 (by simp) (by simp);have n4:w1.heap.size<w2.heap.size:=(by have:=b2.size;simp at this;omega))
      |(go_at_call 199;(with_reducible refine(CS _).mono ?_);rintro e w' ⟨rfl,rfl⟩)
      |(go_at_call 200;(with_reducible refine(CQ _).mono ?_);rintro e w3 ⟨rfl,b3⟩;have z3:w.heap.size<=w3.heap.size:=(by have:=b3.size;simp[World.setCell]at this;omega)))
     have n5:=zdc w3 (.int .i64 (hi Q)) (.int .u64 (lo Q)) 259;have n6:=zcX w3 (.int .i64 (hi Q)) (.int .u64 (lo Q)) 259;have n7:=zbB w3 (.cells #[.int .i64 (hi Q),.int .u64 (lo Q)] 259);have f5:(w3.alloc (.cells #[.int .i64 (hi Q),.int .u64 (lo Q)] 259)).frozen? ⟨w3.heap.size,0,none⟩=false:=by simp
     have f6:(w3.alloc (.cells #[.int .i64 (hi Q),.int .u64 (lo Q)] 259)).frozen? ⟨w3.heap.size,1,none⟩=false:=by simp
     go_wp2_with (first
      |(go_at_call 203;(with_reducible refine(CH _).mono ?_);rintro e w7 ⟨rfl,b7⟩))
     go_ret;refine⟨rfl,?_⟩
     repeat (first|exact Below.refl _ _|with_reducible refine ba ?_ _|with_reducible refine bs ?_ (by omega) _|with_reducible refine bd ?_|(with_reducible refine bt ?_ (by assumption)))
  ·by_cases hu:D<2*R
   ·have hX:hi X<0:=by omega
    have dX:decide (hi X<0)=true:=decide_eq_true (by omega);have dd:decide (d<0)=false:=decide_eq_false (by omega);rw[if_neg (by omega),if_pos (by omega)]at NC;have CH:=zbe (-(Q+1));rw[NC];have EX:=XN (by omega);rw[←EX]at CQ;clear NC XN XP EX PA PB p0 p1 hX hz hx hd;have hG:decide (D<2*R)=true:=decide_eq_true (by omega)
    go_enter Tryz.func173,Tryz.ntmps173
    go_upto_region 9 with(first
     |(go_at_call 197;(with_reducible refine(CP _).mono ?_);rintro e w1 ⟨rfl,b1⟩;have z1:w.heap.size<=w1.heap.size:=b1.size)
     |(go_at_call 198;(with_reducible refine(CN _).mono ?_);rintro e w2 ⟨rfl,b2⟩;have n0:w2.cell? ⟨w1.heap.size,0,none⟩=some (.int .i64 (hi X)):=cb b2 (by simp) (by simp);have n1:w2.cell? ⟨w1.heap.size,1,none⟩=some (.int .u64 (lo X)):=cb b2 (by simp) (by simp);have n2:w2.frozen? ⟨w1.heap.size,0,none⟩=false:=fb b2 (by simp) (by simp);have n3:w2.frozen? ⟨w1.heap.size,1,none⟩=false:=fb b2 (by simp) (by simp);have n4:w1.heap.size<w2.heap.size:=(by have:=b2.size;simp at this;omega))
     |(go_at_call 199;(with_reducible refine(CS _).mono ?_);rintro e w' ⟨rfl,rfl⟩)
     |(go_at_call 200;(with_reducible refine(CQ _).mono ?_);rintro e w3 ⟨rfl,b3⟩;have z3:w.heap.size<=w3.heap.size:=(by have:=b3.size;simp[World.setCell]at this;omega)))
    have n5:=zdc w3 (.int .i64 (hi Q)) (.int .u64 (lo Q)) 259;have n6:=zcX w3 (.int .i64 (hi Q)) (.int .u64 (lo Q)) 259;have n7:=zbB w3 (.cells #[.int .i64 (hi Q),.int .u64 (lo Q)] 259);have f5:(w3.alloc (.cells #[.int .i64 (hi Q),.int .u64 (lo Q)] 259)).frozen? ⟨w3.heap.size,0,none⟩=false:=by simp
    have f6:(w3.alloc (.cells #[.int .i64 (hi Q),.int .u64 (lo Q)] 259)).frozen? ⟨w3.heap.size,1,none⟩=false:=by simp
    go_upto_region 10 with(fail)
    go_region_with (first
     |(go_at_call 202;(with_reducible refine(CO _).mono ?_);rintro e w4 ⟨rfl,b4⟩;have m0:=cb b4 n7 n5;have m1:=cb b4 n7 n6;have m2:=fb b4 n7 f5;have m3:=fb b4 n7 f6;have m4:=Nat.lt_of_lt_of_le n7 b4.size)
     |(go_at_call 201;(with_reducible refine(CU _).mono ?_);rintro e w5 ⟨rfl,b5⟩;have o0:=cb b5 m4 m0;have o1:=cb b5 m4 m1;have o2:=fb b5 m4 m2;have o3:=fb b5 m4 m3;have o4:=Nat.lt_of_lt_of_le m4 b5.size))
    all_goals
     go_wp2_with (first
      |(go_at_call 198;(with_reducible refine(CV _).mono ?_);rintro e w6 ⟨rfl,b6⟩;have o5:=cb b6 (by simpa [World.setCell] using o4) (cs (by omega) (cw o0));have o6:=cb b6 (by simpa [World.setCell] using o4) (cw (cs (by omega) o1));have o7:=fb b6 (o:=0) (by simpa [World.setCell] using o4) (by simp[o2]);have o8:=fb b6 (o:=1) (by simpa [World.setCell] using o4) (by simp[o3]))
      |(go_at_call 203;(with_reducible refine(CH _).mono ?_);rintro e w7 ⟨rfl,b7⟩))
     go_ret;refine⟨rfl,?_⟩
     repeat (first|exact Below.refl _ _|with_reducible refine ba ?_ _|with_reducible refine bs ?_ (by omega) _|with_reducible refine bd ?_|(with_reducible refine bt ?_ (by assumption)))
   ·by_cases hv:D=2*R
    ·have hv2:D<=2*R:=by omega
     have hv3:2*R<=D:=by omega
     clear hv;have hX:hi X<0:=by omega
     have dX:decide (hi X<0)=true:=decide_eq_true (by omega);have dd:decide (d<0)=false:=decide_eq_false (by omega);rw[if_neg (by omega),if_neg (by omega)]at NC;rw[Int.add_zero]at NC;have CH:=zbe (-Q);rw[NC];have EX:=XN (by omega);rw[←EX]at CQ;clear NC XN XP EX PA PB p0 p1 hX hz hx hd;have hE:(2*R == D)=true:=beq_iff_eq.2 (by omega);have hG:decide (D<2*R)=false:=decide_eq_false (by omega);clear hu
     go_enter Tryz.func173,Tryz.ntmps173
     go_upto_region 9 with(first
      |(go_at_call 197;(with_reducible refine(CP _).mono ?_);rintro e w1 ⟨rfl,b1⟩;have z1:w.heap.size<=w1.heap.size:=b1.size)
      |(go_at_call 198;(with_reducible refine(CN _).mono ?_);rintro e w2 ⟨rfl,b2⟩;have n0:w2.cell? ⟨w1.heap.size,0,none⟩=some (.int .i64 (hi X)):=cb b2 (by simp) (by simp);have n1:w2.cell? ⟨w1.heap.size,1,none⟩=some (.int .u64 (lo X)):=cb b2 (by simp) (by simp);have n2:w2.frozen? ⟨w1.heap.size,0,none⟩=false:=fb b2 (by simp) (by simp);have n3:w2.frozen? ⟨w1.heap.size,1,none⟩=false:=fb b2 (by simp) (by simp);have n4:w1.heap.size<w2.heap.size:=(by have:=b2.size;simp at this;omega))
      |(go_at_call 199;(with_reducible refine(CS _).mono ?_);rintro e w' ⟨rfl,rfl⟩)
      |(go_at_call 200;(with_reducible refine(CQ _).mono ?_);rintro e w3 ⟨rfl,b3⟩;have z3:w.heap.size<=w3.heap.size:=(by have:=b3.size;simp[World.setCell]at this;omega)))
     have n5:=zdc w3 (.int .i64 (hi Q)) (.int .u64 (lo Q)) 259;have n6:=zcX w3 (.int .i64 (hi Q)) (.int .u64 (lo Q)) 259;have n7:=zbB w3 (.cells #[.int .i64 (hi Q),.int .u64 (lo Q)] 259);have f5:(w3.alloc (.cells #[.int .i64 (hi Q),.int .u64 (lo Q)] 259)).frozen? ⟨w3.heap.size,0,none⟩=false:=by simp
     have f6:(w3.alloc (.cells #[.int .i64 (hi Q),.int .u64 (lo Q)] 259)).frozen? ⟨w3.heap.size,1,none⟩=false:=by simp
     go_wp2_with (first
      |(go_at_call 198;(with_reducible refine(CM _).mono ?_);rintro e w6 ⟨rfl,b6⟩;have m0:=cb b6 n7 n5;have m1:=cb b6 n7 n6;have m2:=fb b6 n7 f5;have m3:=fb b6 n7 f6)
      |(go_at_call 203;(with_reducible refine(CH _).mono ?_);rintro e w7 ⟨rfl,b7⟩))
     go_ret;refine⟨rfl,?_⟩
     repeat (first|exact Below.refl _ _|with_reducible refine ba ?_ _|with_reducible refine bs ?_ (by omega) _|with_reducible refine bd ?_|(with_reducible refine bt ?_ (by assumption)))
    ·have hX:hi X<0:=by omega
     have dX:decide (hi X<0)=true:=decide_eq_true (by omega);have dd:decide (d<0)=false:=decide_eq_false (by omega);rw[if_neg (by omega),if_neg (by omega)]at NC;rw[Int.add_zero]at NC;have CH:=zbe (-Q);rw[NC];have EX:=XN (by omega);rw[←EX]at CQ;clear NC XN XP EX PA PB p0 p1 hX hz hx hd;have hE:(2*R == D)=false:=beq_eq_false_iff_ne.2 (by omega);have hG:decide (D<2*R)=false:=decide_eq_false (by omega)
     go_enter Tryz.func173,Tryz.ntmps173
     go_upto_region 9 with(first
      |(go_at_call 197;(with_reducible refine(CP _).mono ?_);rintro e w1 ⟨rfl,b1⟩;have z1:w.heap.size<=w1.heap.size:=b1.size)
      |(go_at_call 198;(with_reducible refine(CN _).mono ?_);rintro e w2 ⟨rfl,b2⟩;have n0:w2.cell? ⟨w1.heap.size,0,none⟩=some (.int .i64 (hi X)):=cb b2 (by simp) (by simp);have n1:w2.cell? ⟨w1.heap.size,1,none⟩=some (.int .u64 (lo X)):=cb b2 (by simp) (by simp);have n2:w2.frozen? ⟨w1.heap.size,0,none⟩=false:=fb b2 (by simp) (by simp);have n3:w2.frozen? ⟨w1.heap.size,1,none⟩=false:=fb b2 (by simp) (by simp);have n4:w1.heap.size<w2.heap.size:=(by have:=b2.size;simp at this;omega))
      |(go_at_call 199;(with_reducible refine(CS _).mono ?_);rintro e w' ⟨rfl,rfl⟩)
      |(go_at_call 200;(with_reducible refine(CQ _).mono ?_);rintro e w3 ⟨rfl,b3⟩;have z3:w.heap.size<=w3.heap.size:=(by have:=b3.size;simp[World.setCell]at this;omega)))
     have n5:=zdc w3 (.int .i64 (hi Q)) (.int .u64 (lo Q)) 259;have n6:=zcX w3 (.int .i64 (hi Q)) (.int .u64 (lo Q)) 259;have n7:=zbB w3 (.cells #[.int .i64 (hi Q),.int .u64 (lo Q)] 259);have f5:(w3.alloc (.cells #[.int .i64 (hi Q),.int .u64 (lo Q)] 259)).frozen? ⟨w3.heap.size,0,none⟩=false:=by simp
     have f6:(w3.alloc (.cells #[.int .i64 (hi Q),.int .u64 (lo Q)] 259)).frozen? ⟨w3.heap.size,1,none⟩=false:=by simp
     go_wp2_with (first
      |(go_at_call 198;(with_reducible refine(CM _).mono ?_);rintro e w6 ⟨rfl,b6⟩;have m0:=cb b6 n7 n5;have m1:=cb b6 n7 n6;have m2:=fb b6 n7 f5;have m3:=fb b6 n7 f6)
      |(go_at_call 203;(with_reducible refine(CH _).mono ?_);rintro e w7 ⟨rfl,b7⟩))
     go_ret;refine⟨rfl,?_⟩
     repeat (first|exact Below.refl _ _|with_reducible refine ba ?_ _|with_reducible refine bs ?_ (by omega) _|with_reducible refine bd ?_|(with_reducible refine bt ?_ (by assumption)))
 ·have hx2:0<=hi X:=by unfold hi;omega
  by_cases hd:d<0
  ·by_cases hu:D<2*R
   ·have hX:0<=hi X:=by omega
    have dX:decide (hi X<0)=false:=decide_eq_false (by omega);have dd:decide (d<0)=true:=decide_eq_true (by omega);rw[if_neg (by omega),if_pos (by omega)]at NC;have CH:=zbe (-(Q+1));rw[NC];have EX:=XP (by omega);rw[←EX]at CQ;clear NC XN XP EX PA PB p0 p1 hX hz hx hd;have hG:decide (D<2*R)=true:=decide_eq_true (by omega)
    go_enter Tryz.func173,Tryz.ntmps173
    go_upto_region 9 with(first
     |(go_at_call 197;(with_reducible refine(CP _).mono ?_);rintro e w1 ⟨rfl,b1⟩;have z1:w.heap.size<=w1.heap.size:=b1.size)
     |(go_at_call 199;(with_reducible refine(CS _).mono ?_);rintro e w' ⟨rfl,rfl⟩)
     |(go_at_call 200;(with_reducible refine(CQ _).mono ?_);rintro e w3 ⟨rfl,b3⟩;have z3:w.heap.size<=w3.heap.size:=(by have:=b3.size;simp at this;omega)))
    have n5:=zdc w3 (.int .i64 (hi Q)) (.int .u64 (lo Q)) 259;have n6:=zcX w3 (.int .i64 (hi Q)) (.int .u64 (lo Q)) 259;have n7:=zbB w3 (.cells #[.int .i64 (hi Q),.int .u64 (lo Q)] 259);have f5:(w3.alloc (.cells #[.int .i64 (hi Q),.int .u64 (lo Q)] 259)).frozen? ⟨w3.heap.size,0,none⟩=false:=by simp
    have f6:(w3.alloc (.cells #[.int .i64 (hi Q),.int .u64 (lo Q)] 259)).frozen? ⟨w3.heap.size,1,none⟩=false:=by simp
    go_upto_region 10 with(fail)
    go_region_with (first
     |(go_at_call 202;(with_reducible refine(CO _).mono ?_);rintro e w4 ⟨rfl,b4⟩;have m0:=cb b4 n7 n5;have m1:=cb b4 n7 n6;have m2:=fb b4 n7 f5;have m3:=fb b4 n7 f6;have m4:=Nat.lt_of_lt_of_le n7 b4.size)
     |(go_at_call 201;(with_reducible refine(CU _).mono ?_);rintro e w5 ⟨rfl,b5⟩;have o0:=cb b5 m4 m0;have o1:=cb b5 m4 m1;have o2:=fb b5 m4 m2;have o3:=fb b5 m4 m3;have o4:=Nat.lt_of_lt_of_le m4 b5.size))
    all_goals
     go_wp2_with (first
      |(go_at_call 198;(with_reducible refine(CV _).mono ?_);rintro e w6 ⟨rfl,b6⟩;have o5:=cb b6 (by simpa [World.setCell] using o4) (cs (by omega) (cw o0));have o6:=cb b6 (by simpa [World.setCell] using o4) (cw (cs (by omega) o1));have o7:=fb b6 (o:=0) (by simpa [World.setCell] using o4) (by simp[o2]);have o8:=fb b6 (o:=1) (by simpa [World.setCell] using o4) (by simp[o3]))
      |(go_at_call 203;(with_reducible refine(CH _).mono ?_);rintro e w7 ⟨rfl,b7⟩))
     go_ret;refine⟨rfl,?_⟩
     repeat (first|exact Below.refl _ _|with_reducible refine ba ?_ _|with_reducible refine bs ?_ (by omega) _|with_reducible refine bd ?_|(with_reducible refine bt ?_ (by assumption)))
   ·by_cases hv:D=2*R
    ·have hv2:D<=2*R:=by omega
     have hv3:2*R<=D:=by omega
     clear hv;have hX:0<=hi X:=by omega
     have dX:decide (hi X<0)=false:=decide_eq_false (by omega);have dd:decide (d<0)=true:=decide_eq_true (by omega);rw[if_neg (by omega),if_neg (by omega)]at NC;rw[Int.add_zero]at NC;have CH:=zbe (-Q);rw[NC];have EX:=XP (by omega);rw[←EX]at CQ;clear NC XN XP EX PA PB p0 p1 hX hz hx hd;have hE:(2*R == D)=true:=beq_iff_eq.2 (by omega);have hG:decide (D<2*R)=false:=decide_eq_false (by omega);clear hu
     go_enter Tryz.func173,Tryz.ntmps173
     go_upto_region 9 with(first
      |(go_at_call 197;(with_reducible refine(CP _).mono ?_);rintro e w1 ⟨rfl,b1⟩;have z1:w.heap.size<=w1.heap.size:=b1.size)
      |(go_at_call 199;(with_reducible refine(CS _).mono ?_);rintro e w' ⟨rfl,rfl⟩)
      |(go_at_call 200;(with_reducible refine(CQ _).mono ?_);rintro e w3 ⟨rfl,b3⟩;have z3:w.heap.size<=w3.heap.size:=(by have:=b3.size;simp at this;omega)))
     have n5:=zdc w3 (.int .i64 (hi Q)) (.int .u64 (lo Q)) 259;have n6:=zcX w3 (.int .i64 (hi Q)) (.int .u64 (lo Q)) 259;have n7:=zbB w3 (.cells #[.int .i64 (hi Q),.int .u64 (lo Q)] 259);have f5:(w3.alloc (.cells #[.int .i64 (hi Q),.int .u64 (lo Q)] 259)).frozen? ⟨w3.heap.size,0,none⟩=false:=by simp
     have f6:(w3.alloc (.cells #[.int .i64 (hi Q),.int .u64 (lo Q)] 259)).frozen? ⟨w3.heap.size,1,none⟩=false:=by simp
     go_wp2_with (first
      |(go_at_call 198;(with_reducible refine(CM _).mono ?_);rintro e w6 ⟨rfl,b6⟩;have m0:=cb b6 n7 n5;have m1:=cb b6 n7 n6;have m2:=fb b6 n7 f5;have m3:=fb b6 n7 f6)
      |(go_at_call 203;(with_reducible refine(CH _).mono ?_);rintro e w7 ⟨rfl,b7⟩))
     go_ret;refine⟨rfl,?_⟩
     repeat (first|exact Below.refl _ _|with_reducible refine ba ?_ _|with_reducible refine bs ?_ (by omega) _|with_reducible refine bd ?_|(with_reducible refine bt ?_ (by assumption)))
    ·have hX:0<=hi X:=by omega
     have dX:decide (hi X<0)=false:=decide_eq_false (by omega);have dd:decide (d<0)=true:=decide_eq_true (by omega);rw[if_neg (by omega),if_neg (by omega)]at NC;rw[Int.add_zero]at NC;have CH:=zbe (-Q);rw[NC];have EX:=XP (by omega);rw[←EX]at CQ;clear NC XN XP EX PA PB p0 p1 hX hz hx hd;have hE:(2*R == D)=false:=beq_eq_false_iff_ne.2 (by omega);have hG:decide (D<2*R)=false:=decide_eq_false (by omega)
     go_enter Tryz.func173,Tryz.ntmps173
     go_upto_region 9 with(first
      |(go_at_call 197;(with_reducible refine(CP _).mono ?_);rintro e w1 ⟨rfl,b1⟩;have z1:w.heap.size<=w1.heap.size:=b1.size)
      |(go_at_call 199;(with_reducible refine(CS _).mono ?_);rintro e w' ⟨rfl,rfl⟩)
      |(go_at_call 200;(with_reducible refine(CQ _).mono ?_);rintro e w3 ⟨rfl,b3⟩;have z3:w.heap.size<=w3.heap.size:=(by have:=b3.size;simp at this;omega)))
     have n5:=zdc w3 (.int .i64 (hi Q)) (.int .u64 (lo Q)) 259;have n6:=zcX w3 (.int .i64 (hi Q)) (.int .u64 (lo Q)) 259;have n7:=zbB w3 (.cells #[.int .i64 (hi Q),.int .u64 (lo Q)] 259);have f5:(w3.alloc (.cells #[.int .i64 (hi Q),.int .u64 (lo Q)] 259)).frozen? ⟨w3.heap.size,0,none⟩=false:=by simp
     have f6:(w3.alloc (.cells #[.int .i64 (hi Q),.int .u64 (lo Q)] 259)).frozen? ⟨w3.heap.size,1,none⟩=false:=by simp
     go_wp2_with (first
      |(go_at_call 198;(with_reducible refine(CM _).mono ?_);rintro e w6 ⟨rfl,b6⟩;have m0:=cb b6 n7 n5;have m1:=cb b6 n7 n6;have m2:=fb b6 n7 f5;have m3:=fb b6 n7 f6)
      |(go_at_call 203;(with_reducible refine(CH _).mono ?_);rintro e w7 ⟨rfl,b7⟩))
     go_ret;refine⟨rfl,?_⟩
     repeat (first|exact Below.refl _ _|with_reducible refine ba ?_ _|with_reducible refine bs ?_ (by omega) _|with_reducible refine bd ?_|(with_reducible refine bt ?_ (by assumption)))
  ·by_cases hu:D<2*R
   ·have hX:0<=hi X:=by omega
    have dX:decide (hi X<0)=false:=decide_eq_false (by omega);have dd:decide (d<0)=false:=decide_eq_false (by omega);rw[if_pos (by omega),if_pos (by omega)]at NC;have CH:=zbe (Q+1);rw[NC];have EX:=XP (by omega);rw[←EX]at CQ;clear NC XN XP EX PA PB p0 p1 hX hz hx hd;have hG:decide (D<2*R)=true:=decide_eq_true (by omega)
    go_enter Tryz.func173,Tryz.ntmps173
    go_upto_region 9 with(first
     |(go_at_call 197;(with_reducible refine(CP _).mono ?_);rintro e w1 ⟨rfl,b1⟩;have z1:w.heap.size<=w1.heap.size:=b1.size)
     |(go_at_call 199;(with_reducible refine(CS _).mono ?_);rintro e w' ⟨rfl,rfl⟩)
     |(go_at_call 200;(with_reducible refine(CQ _).mono ?_);rintro e w3 ⟨rfl,b3⟩;have z3:w.heap.size<=w3.heap.size:=(by have:=b3.size;simp at this;omega)))
    have n5:=zdc w3 (.int .i64 (hi Q)) (.int .u64 (lo Q)) 259;have n6:=zcX w3 (.int .i64 (hi Q)) (.int .u64 (lo Q)) 259;have n7:=zbB w3 (.cells #[.int .i64 (hi Q),.int .u64 (lo Q)] 259);have f5:(w3.alloc (.cells #[.int .i64 (hi Q),.int .u64 (lo Q)] 259)).frozen? ⟨w3.heap.size,0,none⟩=false:=by simp
    have f6:(w3.alloc (.cells #[.int .i64 (hi Q),.int .u64 (lo Q)] 259)).frozen? ⟨w3.heap.size,1,none⟩=false:=by simp
    go_upto_region 10 with(fail)
    go_region_with (first
     |(go_at_call 202;(with_reducible refine(CO _).mono ?_);rintro e w4 ⟨rfl,b4⟩;have m0:=cb b4 n7 n5;have m1:=cb b4 n7 n6;have m2:=fb b4 n7 f5;have m3:=fb b4 n7 f6;have m4:=Nat.lt_of_lt_of_le n7 b4.size)
     |(go_at_call 201;(with_reducible refine(CU _).mono ?_);rintro e w5 ⟨rfl,b5⟩;have o0:=cb b5 m4 m0;have o1:=cb b5 m4 m1;have o2:=fb b5 m4 m2;have o3:=fb b5 m4 m3;have o4:=Nat.lt_of_lt_of_le m4 b5.size))
    all_goals
     go_wp2_with (first
      |(go_at_call 203;(with_reducible refine(CH _).mono ?_);rintro e w7 ⟨rfl,b7⟩))
     go_ret;refine⟨rfl,?_⟩
     repeat (first|exact Below.refl _ _|with_reducible refine ba ?_ _|with_reducible refine bs ?_ (by omega) _|with_reducible refine bd ?_|(with_reducible refine bt ?_ (by assumption)))
   ·by_cases hv:D=2*R
    ·have hv2:D<=2*R:=by omega
     have hv3:2*R<=D:=by omega
     clear hv;have hX:0<=hi X:=by omega
     have dX:decide (hi X<0)=false:=decide_eq_false (by omega);have dd:decide (d<0)=false:=decide_eq_false (by omega);rw[if_pos (by omega),if_pos (by omega)]at NC;have CH:=zbe (Q+1);rw[NC];have EX:=XP (by omega);rw[←EX]at CQ;clear NC XN XP EX PA PB p0 p1 hX hz hx hd;have hE:(2*R == D)=true:=beq_iff_eq.2 (by omega);have hG:decide (D<2*R)=false:=decide_eq_false (by omega);clear hu
     go_enter Tryz.func173,Tryz.ntmps173
     go_upto_region 9 with(first
      |(go_at_call 197;(with_reducible refine(CP _).mono ?_);rintro e w1 ⟨rfl,b1⟩;have z1:w.heap.size<=w1.heap.size:=b1.size)
      |(go_at_call 199;(with_reducible refine(CS _).mono ?_);rintro e w' ⟨rfl,rfl⟩)
      |(go_at_call 200;(with_reducible refine(CQ _).mono ?_);rintro e w3 ⟨rfl,b3⟩;have z3:w.heap.size<=w3.heap.size:=(by have:=b3.size;simp at this;omega)))
     have n5:=zdc w3 (.int .i64 (hi Q)) (.int .u64 (lo Q)) 259;have n6:=zcX w3 (.int .i64 (hi Q)) (.int .u64 (lo Q)) 259;have n7:=zbB w3 (.cells #[.int .i64 (hi Q),.int .u64 (lo Q)] 259);have f5:(w3.alloc (.cells #[.int .i64 (hi Q),.int .u64 (lo Q)] 259)).frozen? ⟨w3.heap.size,0,none⟩=false:=by simp
     have f6:(w3.alloc (.cells #[.int .i64 (hi Q),.int .u64 (lo Q)] 259)).frozen? ⟨w3.heap.size,1,none⟩=false:=by simp
     go_upto_region 10 with(fail)
     go_region_with (first
      |(go_at_call 202;(with_reducible refine(CO _).mono ?_);rintro e w4 ⟨rfl,b4⟩;have m0:=cb b4 n7 n5;have m1:=cb b4 n7 n6;have m2:=fb b4 n7 f5;have m3:=fb b4 n7 f6;have m4:=Nat.lt_of_lt_of_le n7 b4.size)
      |(go_at_call 201;(with_reducible refine(CU _).mono ?_);rintro e w5 ⟨rfl,b5⟩;have o0:=cb b5 m4 m0;have o1:=cb b5 m4 m1;have o2:=fb b5 m4 m2;have o3:=fb b5 m4 m3;have o4:=Nat.lt_of_lt_of_le m4 b5.size))
     all_goals
      go_wp2_with (first
       |(go_at_call 203;(with_reducible refine(CH _).mono ?_);rintro e w7 ⟨rfl,b7⟩))
      go_ret;refine⟨rfl,?_⟩
      repeat (first|exact Below.refl _ _|with_reducible refine ba ?_ _|with_reducible refine bs ?_ (by omega) _|with_reducible refine bd ?_|(with_reducible refine bt ?_ (by assumption)))
    ·have hX:0<=hi X:=by omega
     have dX:decide (hi X<0)=false:=decide_eq_false (by omega);have dd:decide (d<0)=false:=decide_eq_false (by omega);rw[if_pos (by omega),if_neg (by omega)]at NC;rw[Int.add_zero]at NC;have CH:=zbe (Q);rw[NC];have EX:=XP (by omega);rw[←EX]at CQ;clear NC XN XP EX PA PB p0 p1 hX hz hx hd;have hE:(2*R == D)=false:=beq_eq_false_iff_ne.2 (by omega);have hG:decide (D<2*R)=false:=decide_eq_false (by omega)
     go_enter Tryz.func173,Tryz.ntmps173
     go_upto_region 9 with(first
      |(go_at_call 197;(with_reducible refine(CP _).mono ?_);rintro e w1 ⟨rfl,b1⟩;have z1:w.heap.size<=w1.heap.size:=b1.size)
      |(go_at_call 199;(with_reducible refine(CS _).mono ?_);rintro e w' ⟨rfl,rfl⟩)
      |(go_at_call 200;(with_reducible refine(CQ _).mono ?_);rintro e w3 ⟨rfl,b3⟩;have z3:w.heap.size<=w3.heap.size:=(by have:=b3.size;simp at this;omega)))
     have n5:=zdc w3 (.int .i64 (hi Q)) (.int .u64 (lo Q)) 259;have n6:=zcX w3 (.int .i64 (hi Q)) (.int .u64 (lo Q)) 259;have n7:=zbB w3 (.cells #[.int .i64 (hi Q),.int .u64 (lo Q)] 259);have f5:(w3.alloc (.cells #[.int .i64 (hi Q),.int .u64 (lo Q)] 259)).frozen? ⟨w3.heap.size,0,none⟩=false:=by simp
     have f6:(w3.alloc (.cells #[.int .i64 (hi Q),.int .u64 (lo Q)] 259)).frozen? ⟨w3.heap.size,1,none⟩=false:=by simp
     go_wp2_with (first
      |(go_at_call 203;(with_reducible refine(CH _).mono ?_);rintro e w7 ⟨rfl,b7⟩))
     go_ret;refine⟨rfl,?_⟩
     repeat (first|exact Below.refl _ _|with_reducible refine ba ?_ _|with_reducible refine bs ?_ (by omega) _|with_reducible refine bd ?_|(with_reducible refine bt ?_ (by assumption)))
theorem zjb (a b P:Int) (hP:a*b=P) (a0:0<=a) (a1:a<18446744073709551616) (b0:0<=b) (b1:b<18446744073709551616) (w:World) :
  Calls Tryz.prog 214 #[.int .u64 a,.int .u64 b] w λe w'=>e=.returned (.agg #[.int .u64 (hi P),.int .u64 (lo P)])/\Below w.heap.size w w':=by
 subst hP;exact ztD a b a0 a1 b0 b1 w
end Go.Proofs.YtlodkoimdoeopaaGreatDoor
namespace Go.Proofs.YtlodkoimdoeopaaGreatDoor
structure DigC (a c U v:Int):Prop where
 a0:2147483648<=a
 a1:a<4294967296
 c0:0<=c
 c1:c<4294967296
 u0:0<=U
 u1:U<a*4294967296+c
 v0:0<=v
 v1:v<4294967296
def zde (a c U v:Int):Int:=(U*4294967296+v) / (a*4294967296+c)
def zmD (a c U v:Int):Int:=(U*4294967296+v) % (a*4294967296+c)
theorem ztS (a c U v:Int):(a*4294967296+c)*zde a c U v+zmD a c U v=U*4294967296+v:=Int.mul_ediv_add_emod _ _
theorem zbT {a c U v:Int} (C:DigC a c U v):0<=zde a c U v/\zde a c U v<4294967296/\0<=zmD a c U v/\zmD a c U v<a*4294967296+c:=by
 obtain⟨a0,a1,c0,c1,u0,u1,v0,v1⟩:=C;refine⟨Int.ediv_nonneg (by omega) (by omega),Int.ediv_lt_of_lt_mul (by omega) (by omega),Int.emod_nonneg _ (by omega),Int.emod_lt_of_pos _ (by omega)⟩
structure Dig (a c U v q r:Int):Prop where
 e:q*a+r=U
 r0:0<=r
 lo:zde a c U v<=q
 hi:q<=4294967297
theorem Dig.first {a c U v:Int} (C:DigC a c U v):Dig a c U v (U / a) (U % a)/\U % a<4294967296:=by
 obtain⟨a0,a1,c0,c1,u0,u1,v0,v1⟩:=C;have ap:0<a:=by omega
 have e:=Int.mul_ediv_add_emod U a;have r:=za1 (x:=U) ap;refine⟨⟨by rw[Int.mul_comm];exact e,r.1,?_,?_⟩,by omega⟩
 ·have q0:0<=U / a:=Int.ediv_nonneg u0 (by omega);have p0:=Int.mul_nonneg q0 c0;have h1:zde a c U v<U / a+1:=Int.ediv_lt_of_lt_mul (by omega) (by
   have h2:(U / a+1)*(a*4294967296+c)=(a*(U / a))*4294967296+(U / a)*c+(a*4294967296+c):=by
    rw[Int.add_mul,Int.one_mul,Int.mul_add,←Int.mul_assoc,Int.mul_comm (U / a) a]
   rw[h2];omega)
  omega
 ·have:U / a<4294967298:=Int.ediv_lt_of_lt_mul ap (by omega);omega
theorem Dig.times {a c U v q r:Int} (h:Dig a c U v q r):(a*4294967296+c)*q=(U-r)*4294967296+q*c:=by
 have e:=h.e;have e2:(a*4294967296+c)*q=q*a*4294967296+q*c:=by
  rw[Int.add_mul,Int.mul_comm c q,Int.mul_right_comm,Int.mul_comm a q]
 rw[e2];have:q*a=U-r:=by omega
 rw[this]
theorem Dig.above {a c U v q r:Int} (C:DigC a c U v) (h:Dig a c U v q r) (hc:4294967296*r+v<q*c):zde a c U v<q:=by
 have t:=h.times;have:=C.a0;have:=C.c0;exact Int.ediv_lt_of_lt_mul (by omega) (by rw[Int.mul_comm q,t];omega)
theorem Dig.below {a c U v q r:Int} (C:DigC a c U v) (h:Dig a c U v q r) (hc:q*c<=4294967296*r+v):zde a c U v=q:=by
 have t:=h.times;have:=C.a0;have:=C.c0;have h2:q<=zde a c U v:=Int.le_ediv_of_mul_le (by omega) (by rw[Int.mul_comm,t];omega);have:=h.lo;omega
theorem Dig.next {a c U v q r:Int} (C:DigC a c U v) (h:Dig a c U v q r) (hq:zde a c U v<q):Dig a c U v (q-1) (r+a):=by
 have:=C.a0;have e:=h.e;have r0:=h.r0;have hi:=h.hi;refine⟨?_,by omega,by omega,by omega⟩;rw[Int.sub_mul,Int.one_mul];omega
theorem Dig.stop {a c U v q r:Int} (C:DigC a c U v) (h:Dig a c U v q r) (hq:zde a c U v<q) (hr:4294967296<=r+a):zde a c U v=q-1:=by
 refine(h.next C hq).below C ?_;have hi:=h.hi;have:=C.c0;have:=C.c1;have:=C.v0;have d:=(zbT C).1;have m:=Int.mul_le_mul (show q-1<=4294967296 by omega) (show c<=4294967295 by omega) (by omega) (by omega);omega
theorem Dig.prod {a c U v q r:Int} (C:DigC a c U v) (h:Dig a c U v q r) (hq:q<4294967296):0<=q*c/\q*c<=18446744065119617025:=by
 have lo:=h.lo;have:=C.c0;have:=C.c1;have d:=(zbT C).1;refine⟨Int.mul_nonneg (by omega) (by omega),?_⟩;have m:=Int.mul_le_mul (show q<=4294967295 by omega) (show c<=4294967295 by omega) (by omega) (by omega);omega
theorem zsB:∀ (n x:Nat),x<=n->x≠0->x<2 ^ 64->∃ k:Nat,Lib.bitLen x=k+1/\2 ^ k<=x/\x<2 ^ (k+1):=by
 intro n
 induction n with
 |zero=>intro x h h0 _;omega
 |succ n ih =>
  intro x h h0 h1;have e:=Lib.bitLen_half x h0 h1
  by_cases hx:x=1
  ·subst hx;exact⟨0,by rw[e];decide,by decide,by decide⟩
  ·obtain⟨k,ek,k0,k1⟩:=ih (x / 2) (by omega) (by omega) (by omega);exact⟨k+1,by omega,by rw[Nat.pow_succ];omega,by rw[Nat.pow_succ];omega⟩
theorem zvi (d:Int) (d0:0<d) (d1:d<=18446744073709551615):∃ s:Nat,64-(Lib.bitLen d.toNat:Int)=s/\s<=63/\9223372036854775808<=d*2 ^ s/\d*2 ^ s<18446744073709551616:=by
 obtain⟨x,rfl⟩:=Int.eq_ofNat_of_zero_le (Int.le_of_lt d0);obtain⟨k,ek,k0,k1⟩:=zsB x x (Nat.le_refl _) (by omega) (by omega);have hk:k<64:=by
  by_cases h:k<64
  ·exact h
  ·have:2 ^ 64<=2 ^ k:=Nat.pow_le_pow_right (by decide) (by omega);omega
 have ex:((x:Int)).toNat=x:=by omega
 refine⟨63-k,by rw[ex,ek];omega,by omega,?_,?_⟩
 ·have h:2 ^ k*2 ^ (63-k)<=x*2 ^ (63-k):=Nat.mul_le_mul_right _ k0;rw[←Nat.pow_add,show k+(63-k)=63 by omega]at h;have:((2 ^ 63:Nat):Int)<=((x*2 ^ (63-k):Nat):Int):=by exact_mod_cast h
  simpa using this
 ·have h:x*2 ^ (63-k)<2 ^ (k+1)*2 ^ (63-k):=Nat.mul_lt_mul_of_pos_right k1 (Nat.pow_pos (by decide));rw[←Nat.pow_add,show k+1+(63-k)=64 by omega]at h;have:((x*2 ^ (63-k):Nat):Int)<((2 ^ 64:Nat):Int):=by exact_mod_cast h
  simpa using this
theorem zrR {x:Int} (h0:0<=x) (h1:x<18446744073709551616):bits .and .u64 x 4294967295=x % 4294967296:=by
 obtain⟨a,rfl⟩:=Int.eq_ofNat_of_zero_le h0;have h:=bits_and_u64_nat a 4294967295 (by omega) (by omega);have e:a &&& 4294967295=a % 4294967296:=Nat.and_two_pow_sub_one_eq_mod a 32;rw[e]at h;exact h.trans (by omega)
structure Parts (h l d:Int) (s:Nat) (Y a c U t v v0:Int):Prop where
 eY:IntKind.u64.wrap (d*2 ^ s)=Y
 ea:Y / 4294967296=a
 ec:bits .and .u64 Y 4294967295=c
 eU:bits .or .u64 (IntKind.u64.wrap (h*2 ^ s)) (l / 2 ^ (64-s))=U
 et:IntKind.u64.wrap (l*2 ^ s)=t
 ev:t / 4294967296=v
 ev0:bits .and .u64 t 4294967295=v0
 C:DigC a c U v
 ys:Y=a*4294967296+c
 y1:Y<18446744073709551616
 u1:U<18446744073709551616
 t0:0<=t
 w0:0<=v0
 w1:v0<4294967296
 fin:∀ q1 q0 R1 R0:Int,Y*q1+R1=U*4294967296+v->Y*q0+R0=R1*4294967296+v0->0<=R0->R0<Y ->
  q1*4294967296+q0=(h*18446744073709551616+l) / d/\R0 / 2 ^ s=(h*18446744073709551616+l) % d
theorem zsP {h l d:Int} {s:Nat} (h0:0<=h) (hd:h<d) (l0:0<=l) (l1:l<18446744073709551616) (s1:s<=63) (n0:9223372036854775808<=d*2 ^ s) (n1:d*2 ^ s<18446744073709551616) :
  ∃ Y a c U t v v0:Int,Parts h l d s Y a c U t v v0:=by
 have p:=zK s;have pq:=zK (64-s);have e64:=zlB (n:=s) (by omega);have hm:(h+1)*2 ^ s<=d*2 ^ s:=Int.mul_le_mul_of_nonneg_right (by omega) (Int.le_of_lt p);rw[Int.add_mul,Int.one_mul]at hm;have h2:=Int.mul_nonneg h0 (Int.le_of_lt p);have b0:0<=l / 2 ^ (64-s):=Int.ediv_nonneg l0 (Int.le_of_lt pq);have b1:l / 2 ^ (64-s)<2 ^ s:=Int.ediv_lt_of_lt_mul pq (by rw[←e64];exact l1);have b2:l / 2 ^ (64-s)<18446744073709551616:=Int.lt_of_le_of_lt (Int.ediv_le_self _ l0) l1;have eU:=zmI h (l / 2 ^ (64-s)) s h0 (by omega) b0 b1 b2;have wh:IntKind.u64.wrap (h*2 ^ s)=h*2 ^ s:=by rw[IntKind.wrap_u64];omega
 have wd:IntKind.u64.wrap (d*2 ^ s)=d*2 ^ s:=by rw[IntKind.wrap_u64];omega
 -- what is left of l
 have el:l*2 ^ s=18446744073709551616*(l / 2 ^ (64-s))+(l % 2 ^ (64-s))*2 ^ s:=by
  have e:=Int.mul_ediv_add_emod l (2 ^ (64-s))
  conv=>lhs;rw[←e]
  rw[Int.add_mul,e64,Int.mul_right_comm,Int.mul_comm (2 ^ (64-s)) (2 ^ s)]
 have m:=za1 (x:=l) pq;have m1:(l % 2 ^ (64-s)+1)*2 ^ s<=18446744073709551616:=by
  rw[e64,Int.mul_comm (2 ^ s)];exact Int.mul_le_mul_of_nonneg_right (by omega) (Int.le_of_lt p)
 rw[Int.add_mul,Int.one_mul]at m1;have m0:=Int.mul_nonneg m.1 (Int.le_of_lt p);have wt:IntKind.u64.wrap (l*2 ^ s)=(l % 2 ^ (64-s))*2 ^ s:=by
  rw[IntKind.wrap_u64];exact ze6 el m0 (by omega)
 refine⟨_,_,_,h*2 ^ s+l / 2 ^ (64-s),_,_,_,⟨wd,rfl,zrR (by omega) n1,by rw[wh];exact eU,wt,rfl,zrR m0 (by omega),⟨by omega,by omega,by omega,by omega,by omega,by omega,by omega,by omega⟩,by omega,n1,by omega,m0,by omega,by omega,?_⟩⟩;intro q1 q0 R1 R0 e1 e2 r0 r1;have total:(h*18446744073709551616+l)*2 ^ s=(d*2 ^ s)*(q1*4294967296+q0)+R0:=by
  have x1:(h*18446744073709551616+l)*2 ^ s=h*2 ^ s*18446744073709551616+l*2 ^ s:=by
   rw[Int.add_mul,Int.mul_right_comm]
  have x2:(d*2 ^ s)*(q1*4294967296+q0)=(d*2 ^ s)*q1*4294967296+(d*2 ^ s)*q0:=by
   rw[Int.mul_add,Int.mul_assoc (d*2 ^ s) q1]
  rw[x1,x2,el];generalize l % 2 ^ (64-s)*2 ^ s=t at *;generalize (d*2 ^ s)*q1=Yq1 at *;generalize (d*2 ^ s)*q0=Yq0 at *;omega
 have tq:(h*18446744073709551616+l)=d*(q1*4294967296+q0)+R0 / 2 ^ s:=by
  have k1:R0=2 ^ s*((h*18446744073709551616+l)-d*(q1*4294967296+q0)):=by
   rw[Int.mul_sub,Int.mul_comm (2 ^ s),total,←Int.mul_assoc,Int.mul_comm (2 ^ s) d];omega
  have k2:R0 / 2 ^ s=(h*18446744073709551616+l)-d*(q1*4294967296+q0):=by
   conv=>lhs;rw[k1]
   exact Int.mul_ediv_cancel_left _ (Int.ne_of_gt p)
  omega
 have z0:0<=R0 / 2 ^ s:=Int.ediv_nonneg r0 (Int.le_of_lt p);have z1:R0 / 2 ^ s<d:=Int.ediv_lt_of_lt_mul p r1;exact⟨(zdR tq z0 z1).symm,(ze6 tq z0 z1).symm⟩
end Go.Proofs.YtlodkoimdoeopaaGreatDoor
