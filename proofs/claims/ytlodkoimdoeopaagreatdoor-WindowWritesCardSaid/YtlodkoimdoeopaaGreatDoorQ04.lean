/- Parts, joined. -/
import Derived.Test.YtlodkoimdoeopaaGreatDoorQ03
import Derived.Test.YtlodkoimdoeopaaGreatDoorQ02
import Derived.Laws.Bits64b
import Derived.Laws.Externs
import Derived.Shelf.Spec.BitsCarry
namespace Go.Proofs.YtlodkoimdoeopaaGreatDoor
open Go.RowKit
structure ShSt (w wq:World) (a b c:Nat) (X Y Z:Int):Prop where
 x:BigAt wq a X
 y:BigAt wq b Y
 z:BigAt wq c Z
 hb:Below w.heap.size w wq
theorem ShSt.below {w wq w1:World} {a b c:Nat} {X Y Z:Int} (h:ShSt w wq a b c X Y Z) (hb:Below wq.heap.size wq w1):ShSt w w1 a b c X Y Z :=
 ⟨h.x.below hb,h.y.below hb,h.z.below hb,bt h.hb hb⟩
theorem ShSt.drew {w wq:World} {a b c:Nat} {X Y Z:Int} (h:ShSt w wq a b c X Y Z):ShSt w wq.drew a b c X Y Z:=⟨h.x.drew,h.y.drew,h.z.drew,h.hb.drew⟩
theorem ShSt.alloc {w wq:World} {a b c:Nat} {X Y Z:Int} (h:ShSt w wq a b c X Y Z) (o:Obj):ShSt w (wq.alloc o) a b c X Y Z:=⟨h.x.alloc o,h.y.alloc o,h.z.alloc o,ba h.hb o⟩
theorem ShSt.setZ {w wq:World} {a b c:Nat} {X Y Z:Int} (Z':Int) (h:ShSt w wq a b c X Y Z) (hc:w.heap.size<=c) (h1:a≠c) (h2:b≠c) :
  ShSt w ((wq.setCell ⟨c,0,none⟩ (.int .u64 (hi Z'))).setCell ⟨c,1,none⟩ (.int .u64 (lo Z'))) a b c X Y Z' :=
 ⟨h.x.far (Ne.symm h1),h.y.far (Ne.symm h2),h.z.set Z',bs (bs h.hb hc _) hc _⟩
theorem ShSt.far {w wq:World} {a b c d o o':Nat} {u v:Value} {X Y Z:Int} (h:ShSt w wq a b c X Y Z) (hd:w.heap.size<=d) (h1:a≠d) (h2:b≠d) (h3:c≠d) :
  ShSt w ((wq.setCell ⟨d,o,none⟩ u).setCell ⟨d,o',none⟩ v) a b c X Y Z :=
 ⟨h.x.far (Ne.symm h1),h.y.far (Ne.symm h2),h.z.far (Ne.symm h3),bs (bs h.hb hd _) hd _⟩
theorem zw4 (w:World) (o:Obj):w.heap.size<(w.alloc o).heap.size:=by simp
theorem ShSt.zero {w wr:World} {N:Nat} {M:Int} {t:TypeId} (g:BigAt wr w.heap.size (2 ^ N)) (hb:Below w.heap.size w wr) (M0:0<=M) (M1:M<18446744073709551616) :
  ShSt w ((wr.alloc (.cells #[.int .u64 0,.int .u64 M] t)).alloc (.cells #[.int .u64 0,.int .u64 0] t)) w.heap.size wr.heap.size (wr.heap.size+1) (2 ^ N) M (M / 2 ^ 128):=by
 refine⟨(g.alloc _).alloc _,(BigAt.new wr (hiz _ M0 M1) (loz _ M0 M1) _).alloc _,?_,ba (ba hb _) _⟩;rw[zeV M0 (by omega)];have h:=BigAt.new (wr.alloc (.cells #[.int .u64 0,.int .u64 M] t)) (h:=0) (l:=0) (X:=0) rfl rfl t
 simpa using h
theorem zkp (x n:Int) (h:n<1) (w:World) :
  Calls Tryz.prog 96 #[.int .i64 x,.int .i64 n] w λe w'=>e=.returned (.int .i64 x)/\w=w':=by
 go_enter Tryz.func96,Tryz.ntmps96
 go_wp2;go_ret;exact⟨rfl,rfl⟩
theorem zkf (x n:Int) (h:64<n) (w:World) :
  Calls Tryz.prog 96 #[.int .i64 x,.int .i64 n] w λe w'=>e=.returned (.int .i64 0)/\w=w':=by
 go_enter Tryz.func96,Tryz.ntmps96
 go_wp2;go_ret;exact⟨rfl,rfl⟩
set_option maxRecDepth 100000 in
set_option maxHeartbeats 4000000 in
theorem zno (x M:Int) (N:Nat) (hM:zi x=M) (h0 : -9223372036854775808<=x) (h1:x<=9223372036854775807) (hN:N<=63) (w:World) :
  Calls Tryz.prog 96 #[.int .i64 x,.int .i64 ((N:Int)+1)] w λe w' =>
   e=.returned (.int .i64 (zV x ((N:Int)+1)))/\Below w.heap.size w w':=by
 have CS:=zbW x M hM h0 h1;have M0:0<=M:=hM ▸ za6 x;have M1:M<=9223372036854775808:=hM ▸ zcu h0 (by omega);have HM:=za hM;clear hM;have t1:decide ((N:Int)+1<1)=false:=decide_eq_false (by omega);have t2:decide ((64:Int)<(N:Int)+1)=false:=decide_eq_false (by omega)
 go_enter Tryz.func96,Tryz.ntmps96
 go_wp2
 go_loopw [21] (λi wr=>∃ j:Nat,j<=N/\i=.int .i64 j/\BigAt wr w.heap.size (2 ^ j)/\Below w.heap.size w wr) (λi _=>N-(intOf i).toNat)
 case atStart=>exact⟨0,by omega,rfl,BigAt.new w (h:=0) (l:=1) (X:=2 ^ 0) rfl rfl _,zg _ _⟩
 case round =>
  obtain⟨j,hj,rfl,g,hb⟩:=hrel
  by_cases hlt:j<N
  ·have G:=za g;have HB:=za hb;obtain⟨c0,c1,f0,f1,lt⟩:=g;clear hb;have CT:=zhk (2 ^ j) (Int.le_of_lt (zK j)) (zmb (by omega));rw[←zlx]at CT
   go_wp2_with (first
    |(go_at_call 131;(with_reducible refine(CT _).mono ?_);rintro e w3 ⟨rfl,hb3⟩;have q3:=cb hb3 lt c0;have q4:=cb hb3 lt c1;have t3:=fb hb3 lt f0;have t4:=fb hb3 lt f1))
   go_roundw
   case rel=>exact⟨j+1,by omega,by go_num,(G.out.below hb3).set _,((HB.out.trans (hb3.mono (by have:=HB.out.size;omega))).setCell (by show _<=w.heap.size;omega) _).setCell (by show _<=w.heap.size;omega) _⟩
   case measure=>simp[intOf];omega
  ·obtain rfl:N=j:=by omega
   clear hj hlt;have G:=za g;have HB:=za hb;have zs:=hb.size;clear g hb
   go_wp2_with (first
    |(go_at_call 132;(with_reducible refine(CS _).mono ?_);rintro e w' ⟨rfl,rfl⟩))
   rename World=>W1
   go_loopw [8] (λi wq=>∃ j:Nat,N+1<=j/\j<=128/\i=.int .i64 ((j:Int)-1)/\ShSt w wq w.heap.size W1.heap.size (W1.heap.size+1) (2 ^ N) M (M / 2 ^ j)) (λi _=>(intOf i+1).toNat)
   case atStart=>exact⟨128,by omega,by omega,rfl,ShSt.zero G.out HB.out M0 (by omega)⟩
   case round =>
    obtain⟨j,hj0,hj1,rfl,hst⟩:=hrel;have lt0:=G.out.lt;have ST:=za hst
    by_cases hlt:N+1<j
    ·obtain⟨k,rfl⟩:∃ k,j=k+1:=⟨j-1,by omega⟩;have ek:((k+1:Nat):Int)-1=(k:Int):=by omega
     rw[ek];clear ek;have P0:0<=M / 2 ^ (k+1):=Int.ediv_nonneg M0 (Int.le_of_lt (zK _));have P1:=zfP k M0 (show M<340282366920938463463374607431768211456 by omega);have CB:=zfA M k M0 (by omega) (by omega);have CT:=zej (M / 2 ^ (k+1)) (zaR M k) P0 P1 (zfi M k) (zfs M k);rw[←zd1]at CT;obtain⟨-,⟨m0,m1,-,-,ml⟩,⟨q0,q1,qf0,qf1,ql⟩,-⟩:=hst;clear P0 P1 CS;go_wp2
     go_region_with
      (first
       |(go_at_call 133;refine(CB _).mono ?_;rintro e w1 ⟨rfl,hb1⟩;have s0:=cb hb1 ql q0;have s1:=cb hb1 ql q1)
       |(go_at_call 131;refine(CT _).mono ?_;rintro e w2 ⟨rfl,hb2⟩;have z1:=Nat.lt_of_lt_of_le ql hb1.size;have s2:=cb hb2 z1 s0;have s3:=cb hb2 z1 s1;have t2:=fb hb2 z1 (fb hb1 ql qf0);have t3:=fb hb2 z1 (fb hb1 ql qf1)))
     all_goals
      go_wp2
      go_roundw
      case rel=>exact⟨k,by omega,by omega,rfl,((ST.out.drew.below hb1).below hb2).setZ _ (by omega) (by omega) (by omega)⟩
      case measure=>simp[intOf]
    ·obtain rfl:j=N+1:=by omega
     have ek:((N+1:Nat):Int)-1=(N:Int):=by omega
     rw[ek];clear ek hj0 hj1 hlt;obtain⟨-,⟨m0,m1,-,-,ml⟩,⟨-,-,-,-,ql⟩,-⟩:=hst;go_wp2
     rename World=>W2
     have z2:W2.heap.size<(W2.alloc (.cells #[.int .u64 (hi M),.int .u64 (lo M)] 202)).heap.size:=zw4 _ _
     go_loopw [10] (λi wq=>∃ j:Nat,N+1<=j/\j<=128/\i=.int .i64 j/\ShSt w wq w.heap.size W1.heap.size (W1.heap.size+1) (2 ^ N) M (M / 2 ^ (N+1))/\BigAt wq W2.heap.size (zcx M (N+1) j)) (λi _=>128-(intOf i).toNat)
     case atStart=>exact⟨N+1,by omega,by omega,by go_num,ST.out.alloc _,by rw[zqQ];exact BigAt.new W2 rfl rfl _⟩
     case round =>
      obtain⟨i,hi0,hi1,rfl,hst,hr⟩:=hrel;have S3:=za hst;have R3:=za hr;obtain⟨⟨p0,p1,-,-,pl⟩,⟨m0,m1,-,-,ml⟩,⟨q0,q1,qf0,qf1,ql⟩,hb⟩:=hst;obtain⟨r0,r1,rf0,rf1,rl⟩:=hr;clear hb
      by_cases hlt:i<128
      ·have CB:=zfA M i M0 (by omega) hlt
       by_cases hbit:zaR M i=1
       ·rw[hbit]at CB;have HB:=za hbit;clear hbit
        go_wp2_with (first
         |(go_at_call 133;(with_reducible refine(CB _).mono ?_);rintro e w4 ⟨rfl,b4⟩))
        have s4:=b4.size
        rename World=>W4
        have CM:=zli (zcx M (N+1) i) (2 ^ i) (Int.le_of_lt (zK i)) (znt (N+1) i M0 HB.out).1 (by have:=zwJ (N+1) i M0;omega);rw[(znt (N+1) i M0 HB.out).2]at CM;have S4:=za ((S3.out.below b4).alloc (.cells #[.int .u64 0,.int .u64 1] 202));have R4:=za ((R3.out.below b4).alloc (.cells #[.int .u64 0,.int .u64 1] 202));have P4:=za (BigAt.new W4 (h:=0) (l:=1) (X:=2 ^ 0) rfl rfl 202);clear p0 p1 m0 m1 q0 q1 qf0 qf1 r0 r1 rf0 rf1 CB
        go_loopw [52] (λv wq=>∃ j:Nat,j<=i/\v=.int .i64 j/\ShSt w wq w.heap.size W1.heap.size (W1.heap.size+1) (2 ^ N) M (M / 2 ^ (N+1))/\BigAt wq W2.heap.size (zcx M (N+1) i)/\BigAt wq W4.heap.size (2 ^ j)) (λv _=>i-(intOf v).toNat)
        case atStart=>exact⟨0,by omega,rfl,S4.out,R4.out,P4.out⟩
        case round =>
         obtain⟨j,hj,rfl,hs5,hr5,hp5⟩:=hrel;have S5:=za hs5;have R5:=za hr5;have P5:=za hp5;obtain⟨a0,a1,af0,af1,al⟩:=hp5;obtain⟨r0,r1,rf0,rf1,rl5⟩:=hr5;clear hs5
         by_cases hji:j<i
         ·have CT:=zhk (2 ^ j) (Int.le_of_lt (zK j)) (zmb (by omega));rw[←zlx]at CT
          go_wp2_with (first
           |(go_at_call 131;(with_reducible refine(CT _).mono ?_);rintro e w5 ⟨rfl,b5⟩;have q3:=cb b5 al a0;have q4:=cb b5 al a1;have t3:=fb b5 al af0;have t4:=fb b5 al af1))
          go_roundw
          case rel=>exact⟨j+1,by omega,by go_num,(S5.out.below b5).far (by omega) (by omega) (by omega) (by omega),(R5.out.below b5).far (by omega),(P5.out.below b5).set _⟩
          case measure=>simp[intOf];omega
         ·obtain rfl:i=j:=by omega
          go_wp2_with (first
           |(go_at_call 134;(with_reducible refine(CM _).mono ?_);rintro e w5 ⟨rfl,b5⟩;have q3:=cb b5 rl5 r0;have q4:=cb b5 rl5 r1;have t3:=fb b5 rl5 rf0;have t4:=fb b5 rl5 rf1))
          go_roundw
          case rel=>exact⟨i+1,by omega,by omega,by go_num,(S5.out.below b5).far (by omega) (by omega) (by omega) (by omega),(R5.out.below b5).set _⟩
          case measure=>simp[intOf];omega
       ·have hb0:zaR M i=0:=by have:=zfi M i;have:=zfs M i;omega
        rw[hb0]at CB;have HB:=za hb0;clear hbit hb0
        go_wp2_with (first
         |(go_at_call 133;(with_reducible refine(CB _).mono ?_);rintro e w4 ⟨rfl,b4⟩))
        go_roundw
        case rel=>exact⟨i+1,by omega,by omega,by go_num,S3.out.below b4,by have e:=zlz M (N+1) i;rw[HB.out,Int.mul_zero,Int.add_zero]at e;rw[←e];exact R3.out.below b4⟩
        case measure=>simp[intOf];omega
      ·obtain rfl:i=128:=by omega
       rw[zt4 (N+1) M0 (by omega)]at R3 r0 r1;have RR:=za1 (x:=M) (zK (N+1));have hf:=zK N;have hf2:=zxf (i:=N) (by omega);have QQ:=zct M0 (zK (N+1));have RM:M % 2 ^ (N+1)<=M:=by
        have e2:=Int.mul_ediv_add_emod M (2 ^ (N+1));have:=Int.mul_nonneg (Int.le_of_lt (zK (N+1))) (Int.ediv_nonneg M0 (Int.le_of_lt (zK (N+1))));omega
       obtain⟨res0,res1⟩:=ztp HM.out h0 h1 hN;obtain⟨RR0,-⟩:=RR;obtain⟨QQ0,QQ1⟩:=QQ;clear m0 m1 p0 p1 q0 q1 qf0 qf1 r0 r1 rf0 rf1 hlt CS hi0 hi1;have P3:=S3.out.x;have Q3:=S3.out.z;obtain⟨p0,p1,-,-,pl⟩:=P3;obtain⟨q0,q1,qf0,qf1,ql⟩:=Q3;have R3':=R3.out;obtain⟨r0,r1,-,-,rl⟩:=R3';generalize (2:Int) ^ N=hf' at *;generalize M % 2 ^ (N+1)=R at *;generalize M / 2 ^ (N+1)=Q at *
       by_cases hx:x<0
       ·by_cases c1:hf'<R
        ·have CL:=zbS R hf' (by omega) (by omega) (by omega) (by omega);rw[show decide (R<hf')=false from decide_eq_false (by omega)]at CL;have CK:=zbS hf' R (by omega) (by omega) (by omega) (by omega);rw[show decide (hf'<R)=true from decide_eq_true (by omega)]at CK;have CP:=zd6 Q QQ0 (by omega);have CH:=zat (Q+1) true (by omega) (by omega);have da:decide (x<0)=true:=decide_eq_true (by omega);have res:=za (res1 hx);rw[if_pos c1]at res;clear res0 res1
         go_wp2_with (first
          |(go_at_call 135;(with_reducible refine(CL _).mono ?_);rintro e w5 ⟨rfl,b5⟩;have pl5:=Nat.lt_of_lt_of_le pl b5.size;have p0_5:=cb b5 pl p0;have p1_5:=cb b5 pl p1;have ql5:=Nat.lt_of_lt_of_le ql b5.size;have q0_5:=cb b5 ql q0;have q1_5:=cb b5 ql q1;have qf0_5:=fb b5 ql qf0;have qf1_5:=fb b5 ql qf1;have rl5:=Nat.lt_of_lt_of_le rl b5.size;have r0_5:=cb b5 rl r0;have r1_5:=cb b5 rl r1;have S5:=za (S3.out.below b5))
          |(go_at_call 135;(with_reducible refine(CK _).mono ?_);rintro e w6 ⟨rfl,b6⟩;have pl6:=Nat.lt_of_lt_of_le pl5 b6.size;have p0_6:=cb b6 pl5 p0_5;have p1_6:=cb b6 pl5 p1_5;have ql6:=Nat.lt_of_lt_of_le ql5 b6.size;have q0_6:=cb b6 ql5 q0_5;have q1_6:=cb b6 ql5 q1_5;have qf0_6:=fb b6 ql5 qf0_5;have qf1_6:=fb b6 ql5 qf1_5;have rl6:=Nat.lt_of_lt_of_le rl5 b6.size;have r0_6:=cb b6 rl5 r0_5;have r1_6:=cb b6 rl5 r1_5;have S6:=za (S5.out.below b6))
          |(go_at_call 136;(with_reducible refine(CP _).mono ?_);rintro e w7 ⟨rfl,b7⟩;have ql7:=Nat.lt_of_lt_of_le ql6 b7.size;have q0_7:=cb b7 ql6 q0_6;have q1_7:=cb b7 ql6 q1_6;have qf0_7:=fb b7 ql6 qf0_6;have qf1_7:=fb b7 ql6 qf1_6;have S7:=za (ShSt.setZ (Q+1) (S6.out.below b7) (by omega) (by omega) (by omega));have q0_8:=S7.out.z.c0;have q1_8:=S7.out.z.c1)
          |(go_at_call 137;(with_reducible refine(CH _).mono ?_);rintro e w9 ⟨rfl,b9⟩))
         go_ret;exact⟨zl (by rw[res.out];simp[zb0]),bt S7.out.hb b9⟩
        ·by_cases c2:hf'=R
         ·have c3:R<=hf':=by omega
          have c4:hf'<=R:=by omega
          clear c2;have CL:=zbS R hf' (by omega) (by omega) (by omega) (by omega);rw[show decide (R<hf')=false from decide_eq_false (by omega)]at CL;have CK:=zbS hf' R (by omega) (by omega) (by omega) (by omega);rw[show decide (hf'<R)=false from decide_eq_false (by omega)]at CK;have CH:=zat Q true (by omega) (by omega);have da:decide (x<0)=true:=decide_eq_true (by omega);have res:=za (res1 hx);rw[if_neg c1]at res;clear res0 res1
          go_wp2_with (first
           |(go_at_call 135;(with_reducible refine(CL _).mono ?_);rintro e w5 ⟨rfl,b5⟩;have pl5:=Nat.lt_of_lt_of_le pl b5.size;have p0_5:=cb b5 pl p0;have p1_5:=cb b5 pl p1;have ql5:=Nat.lt_of_lt_of_le ql b5.size;have q0_5:=cb b5 ql q0;have q1_5:=cb b5 ql q1;have qf0_5:=fb b5 ql qf0;have qf1_5:=fb b5 ql qf1;have rl5:=Nat.lt_of_lt_of_le rl b5.size;have r0_5:=cb b5 rl r0;have r1_5:=cb b5 rl r1;have S5:=za (S3.out.below b5))
           |(go_at_call 135;(with_reducible refine(CK _).mono ?_);rintro e w6 ⟨rfl,b6⟩;have pl6:=Nat.lt_of_lt_of_le pl5 b6.size;have p0_6:=cb b6 pl5 p0_5;have p1_6:=cb b6 pl5 p1_5;have ql6:=Nat.lt_of_lt_of_le ql5 b6.size;have q0_6:=cb b6 ql5 q0_5;have q1_6:=cb b6 ql5 q1_5;have qf0_6:=fb b6 ql5 qf0_5;have qf1_6:=fb b6 ql5 qf1_5;have rl6:=Nat.lt_of_lt_of_le rl5 b6.size;have r0_6:=cb b6 rl5 r0_5;have r1_6:=cb b6 rl5 r1_5;have S6:=za (S5.out.below b6))
           |(go_at_call 137;(with_reducible refine(CH _).mono ?_);rintro e w9 ⟨rfl,b9⟩))
          go_ret;exact⟨zl (by rw[res.out];simp[zb0]),bt S6.out.hb b9⟩
         ·have CL:=zbS R hf' (by omega) (by omega) (by omega) (by omega);rw[show decide (R<hf')=true from decide_eq_true (by omega)]at CL;have CK:=zbS hf' R (by omega) (by omega) (by omega) (by omega);rw[show decide (hf'<R)=false from decide_eq_false (by omega)]at CK;have CH:=zat Q true (by omega) (by omega);have da:decide (x<0)=true:=decide_eq_true (by omega);have res:=za (res1 hx);rw[if_neg c1]at res;clear res0 res1
          go_wp2_with (first
           |(go_at_call 135;(with_reducible refine(CL _).mono ?_);rintro e w5 ⟨rfl,b5⟩;have pl5:=Nat.lt_of_lt_of_le pl b5.size;have p0_5:=cb b5 pl p0;have p1_5:=cb b5 pl p1;have ql5:=Nat.lt_of_lt_of_le ql b5.size;have q0_5:=cb b5 ql q0;have q1_5:=cb b5 ql q1;have qf0_5:=fb b5 ql qf0;have qf1_5:=fb b5 ql qf1;have rl5:=Nat.lt_of_lt_of_le rl b5.size;have r0_5:=cb b5 rl r0;have r1_5:=cb b5 rl r1;have S5:=za (S3.out.below b5))
           |(go_at_call 135;(with_reducible refine(CK _).mono ?_);rintro e w6 ⟨rfl,b6⟩;have pl6:=Nat.lt_of_lt_of_le pl5 b6.size;have p0_6:=cb b6 pl5 p0_5;have p1_6:=cb b6 pl5 p1_5;have ql6:=Nat.lt_of_lt_of_le ql5 b6.size;have q0_6:=cb b6 ql5 q0_5;have q1_6:=cb b6 ql5 q1_5;have qf0_6:=fb b6 ql5 qf0_5;have qf1_6:=fb b6 ql5 qf1_5;have rl6:=Nat.lt_of_lt_of_le rl5 b6.size;have r0_6:=cb b6 rl5 r0_5;have r1_6:=cb b6 rl5 r1_5;have S6:=za (S5.out.below b6))
           |(go_at_call 137;(with_reducible refine(CH _).mono ?_);rintro e w9 ⟨rfl,b9⟩))
          go_ret;exact⟨zl (by rw[res.out];simp[zb0]),bt S6.out.hb b9⟩
       ·by_cases c1:hf'<=R
        ·have CL:=zbS R hf' (by omega) (by omega) (by omega) (by omega);rw[show decide (R<hf')=false from decide_eq_false (by omega)]at CL;have CP:=zd6 Q QQ0 (by omega);have CH:=zat (Q+1) false (by omega) (by omega);have da:decide (x<0)=false:=decide_eq_false (by omega);have res:=za (res0 (by omega));rw[if_pos c1]at res;clear res0 res1
         go_wp2_with (first
          |(go_at_call 135;(with_reducible refine(CL _).mono ?_);rintro e w5 ⟨rfl,b5⟩;have pl5:=Nat.lt_of_lt_of_le pl b5.size;have p0_5:=cb b5 pl p0;have p1_5:=cb b5 pl p1;have ql5:=Nat.lt_of_lt_of_le ql b5.size;have q0_5:=cb b5 ql q0;have q1_5:=cb b5 ql q1;have qf0_5:=fb b5 ql qf0;have qf1_5:=fb b5 ql qf1;have rl5:=Nat.lt_of_lt_of_le rl b5.size;have r0_5:=cb b5 rl r0;have r1_5:=cb b5 rl r1;have S5:=za (S3.out.below b5))
          |(go_at_call 136;(with_reducible refine(CP _).mono ?_);rintro e w7 ⟨rfl,b7⟩;have ql7:=Nat.lt_of_lt_of_le ql5 b7.size;have q0_7:=cb b7 ql5 q0_5;have q1_7:=cb b7 ql5 q1_5;have qf0_7:=fb b7 ql5 qf0_5;have qf1_7:=fb b7 ql5 qf1_5;have S7:=za (ShSt.setZ (Q+1) (S5.out.below b7) (by omega) (by omega) (by omega));have q0_8:=S7.out.z.c0;have q1_8:=S7.out.z.c1)
          |(go_at_call 137;(with_reducible refine(CH _).mono ?_);rintro e w9 ⟨rfl,b9⟩))
         go_ret;exact⟨zl (by rw[res.out];simp[zb0]),bt S7.out.hb b9⟩
        ·have CL:=zbS R hf' (by omega) (by omega) (by omega) (by omega);rw[show decide (R<hf')=true from decide_eq_true (by omega)]at CL;have CH:=zat Q false (by omega) (by omega);have da:decide (x<0)=false:=decide_eq_false (by omega);have res:=za (res0 (by omega));rw[if_neg c1]at res;clear res0 res1
         go_wp2_with (first
          |(go_at_call 135;(with_reducible refine(CL _).mono ?_);rintro e w5 ⟨rfl,b5⟩;have pl5:=Nat.lt_of_lt_of_le pl b5.size;have p0_5:=cb b5 pl p0;have p1_5:=cb b5 pl p1;have ql5:=Nat.lt_of_lt_of_le ql b5.size;have q0_5:=cb b5 ql q0;have q1_5:=cb b5 ql q1;have qf0_5:=fb b5 ql qf0;have qf1_5:=fb b5 ql qf1;have rl5:=Nat.lt_of_lt_of_le rl b5.size;have r0_5:=cb b5 rl r0;have r1_5:=cb b5 rl r1;have S5:=za (S3.out.below b5))
          |(go_at_call 137;(with_reducible refine(CH _).mono ?_);rintro e w9 ⟨rfl,b9⟩))
         go_ret;exact⟨zl (by rw[res.out];simp[zb0]),bt S5.out.hb b9⟩
theorem zvH (r b:Int) (hb:b<0) (b0 : -9223372036854775808<=b) (r0:b<r) (r1:r<=0) (t:Bool) (ht:decide (2*r<=b)=t) (w:World) :
  Calls Tryz.prog 216 #[.int .i64 r,.int .i64 b] w λe w'=>e=.returned (.bool t)/\w=w':=by
 have T:=za ht;clear ht
 go_enter Tryz.func216,Tryz.ntmps216
 go_wp2;go_ret;exact⟨zU ((decide_eq_decide.2 (by omega)).trans T.out),rfl⟩
theorem zvf (r b:Int) (hb:0<b) (b0:b<=9223372036854775807) (r0:0<=r) (r1:r<b) (t:Bool) (ht:decide (b<=2*r)=t) (w:World) :
  Calls Tryz.prog 216 #[.int .i64 r,.int .i64 b] w λe w'=>e=.returned (.bool t)/\w=w':=by
 have T:=za ht;clear ht;have hb':¬b<0:=by omega
 go_enter Tryz.func216,Tryz.ntmps216
 go_wp2;go_ret;exact⟨zU ((decide_eq_decide.2 (by omega)).trans T.out),rfl⟩
theorem zrk (a b:Int) (h0 : -9223372036854775808<=a) (h1:a<=9223372036854775807) (k0 : -9223372036854775808<=b) (k1:b<=9223372036854775807) (w:World) :
  Calls Tryz.prog 186 #[.int .i64 a,.int .i64 b] w λe w'=>e=.returned (.int .i64 (zN a b))/\w=w':=by
 have CF:=zdp a b h0 h1 k0 k1;have CM:=zfq a b h0 h1 k0 k1
 by_cases hb:b=0
 ·subst hb;rw[show zc1 a 0=0 from if_pos rfl]at CF;rw[show zkB a 0=0 from if_pos rfl]at CM;rw[show zN a 0=0 from if_pos rfl]
  go_enter Tryz.func186,Tryz.ntmps186
  go_wp2_with (first
   |(go_at_call 168;(with_reducible refine(CF _).mono ?_);rintro e w' ⟨rfl,rfl⟩)
   |(go_at_call 122;(with_reducible refine(CM _).mono ?_);rintro e w' ⟨rfl,rfl⟩))
  go_ret;exact⟨rfl,rfl⟩
 rw[zdo hb]at CF;rw[zij hb]at CM;rw[zck hb];have I:=zlq a b
 by_cases hr:zaH a b=0
 ·have e:zaC a b=zak a b:=by
   by_cases hn:b<0
   ·rw[zng hn,hr,if_neg (by omega),Int.add_zero]
   ·rw[zlP (by omega),hr,if_neg (by omega),Int.add_zero]
  rw[e];rw[hr]at CM;clear e I hr
  go_enter Tryz.func186,Tryz.ntmps186
  go_wp2_with (first
   |(go_at_call 168;(with_reducible refine(CF _).mono ?_);rintro e w' ⟨rfl,rfl⟩)
   |(go_at_call 122;(with_reducible refine(CM _).mono ?_);rintro e w' ⟨rfl,rfl⟩))
  go_ret;exact⟨rfl,rfl⟩
 have Q:=zqd h0 h1 hb hr;rw[zH (by omega) (by omega)]at CF;have key:∃ t:Bool,zaC a b=zak a b+(if t=true then 1 else 0)/\(∀ w:World,Calls Tryz.prog 216 #[.int .i64 (zaH a b),.int .i64 b] w λe w'=>e=.returned (.bool t)/\w=w'):=by
  by_cases hn:b<0
  ·have i:=I.2 hn;refine⟨decide (2*zaH a b<=b),?_,λw=>zvH _ b hn k0 i.1 i.2 _ rfl w⟩;rw[zng hn];simp only[decide_eq_true_eq]
  ·have i:=I.1 (by omega);refine⟨decide (b<=2*zaH a b),?_,λw=>zvf _ b (by omega) k1 i.1 i.2 _ rfl w⟩;rw[zlP (by omega)];simp only[decide_eq_true_eq]
 obtain⟨t,et,CH⟩:=key;have hr':(zaH a b != 0)=true:=by simp[hr]
 clear hr I;rw[et];clear et;generalize zak a b=q at *;generalize zaH a b=r at *
 cases t
 ·rw[if_neg (by decide),Int.add_zero,zH (by omega) (by omega)]
  go_enter Tryz.func186,Tryz.ntmps186
  go_wp2_with (first
   |(go_at_call 168;(with_reducible refine(CF _).mono ?_);rintro e w' ⟨rfl,rfl⟩)
   |(go_at_call 122;(with_reducible refine(CM _).mono ?_);rintro e w' ⟨rfl,rfl⟩)
   |(go_at_call 216;(with_reducible refine(CH _).mono ?_);rintro e w' ⟨rfl,rfl⟩))
  go_ret;exact⟨rfl,rfl⟩
 ·rw[if_pos rfl,zH (by omega) (by omega)]
  go_enter Tryz.func186,Tryz.ntmps186
  go_wp2_with (first
   |(go_at_call 168;(with_reducible refine(CF _).mono ?_);rintro e w' ⟨rfl,rfl⟩)
   |(go_at_call 122;(with_reducible refine(CM _).mono ?_);rintro e w' ⟨rfl,rfl⟩)
   |(go_at_call 216;(with_reducible refine(CH _).mono ?_);rintro e w' ⟨rfl,rfl⟩))
  go_ret;exact⟨by first|rfl|exact zl (zbm (by omega) (by omega)),rfl⟩
theorem zeG (x n:Int) (h0 : -9223372036854775808<=x) (h1:x<=9223372036854775807) (w:World) :
  Calls Tryz.prog 96 #[.int .i64 x,.int .i64 n] w λe w'=>e=.returned (.int .i64 (zV x n))/\Below w.heap.size w w':=by
 by_cases hs:n<1
 ·rw[show zV x n=x from if_pos (by omega)];exact(zkp x n hs w).mono λe w' ⟨he,hw⟩=>⟨he,hw ▸ Below.refl _ _⟩
 by_cases hg:64<n
 ·rw[show zV x n=0 from(if_neg (by omega)).trans (if_pos (by omega))];exact(zkf x n hg w).mono λe w' ⟨he,hw⟩=>⟨he,hw ▸ Below.refl _ _⟩
 obtain⟨N,rfl⟩:∃ N:Nat,n=(N:Int)+1:=⟨n.toNat-1,by omega⟩;exact zno x _ N rfl h0 h1 (by omega) w
end Go.Proofs.YtlodkoimdoeopaaGreatDoor
namespace Go.Proofs.YtlodkoimdoeopaaGreatDoor
def zbO (x:Int):Int:=(x+170141183460469231731687303715884105728) % 340282366920938463463374607431768211456-170141183460469231731687303715884105728
theorem zeQ {x:Int} (h0 : -170141183460469231731687303715884105728<=x) (h1:x<170141183460469231731687303715884105728):zbO x=x:=by unfold zbO;omega
theorem zqk {x:Int} (h0 : -170141183460469231731687303715884105728<=x) : -9223372036854775808<=hi x:=by unfold hi;omega
theorem zmh {x:Int} (h1:x<170141183460469231731687303715884105728):hi x<=9223372036854775807:=by unfold hi;omega
theorem zxJ (x y:Int):(lo x+lo y) % 18446744073709551616=lo (zbO (x+y)):=by unfold lo zbO;omega
theorem zxx (x y:Int):(hi x+hi y+(lo x+lo y) / 18446744073709551616+9223372036854775808) % 18446744073709551616-9223372036854775808=hi (zbO (x+y)):=by unfold hi lo zbO;omega
theorem zxM (x:Int):(0-lo x) % 18446744073709551616=lo (zbO (-x)):=by unfold lo zbO;omega
theorem ztk (x:Int):(0-hi x-(if 0<lo x then 1 else 0)+9223372036854775808) % 18446744073709551616-9223372036854775808=hi (zbO (-x)):=by unfold hi lo zbO;split<;>omega
theorem zvJ (x y:Int):((hi x % 18446744073709551616+hi y % 18446744073709551616+(lo x+lo y) / 18446744073709551616) % 18446744073709551616+9223372036854775808) % 18446744073709551616-9223372036854775808=hi (zbO (x+y)):=by rw[←zxx];omega
theorem zxe {x:Int} (h:lo x=0):lo (zbO (-x))=0:=by unfold lo at h;unfold lo zbO;omega
theorem zwW {x:Int} (h:lo x=0):(-(hi x % 18446744073709551616) % 18446744073709551616+9223372036854775808) % 18446744073709551616-9223372036854775808=hi (zbO (-x)):=by rw[←ztk,if_neg (by omega)];omega
theorem zwg {x:Int} (_h:0<lo x) : -lo x % 18446744073709551616=lo (zbO (-x)):=by rw[←zxM];omega
theorem zwI {x:Int} (h:0<lo x):((-(hi x % 18446744073709551616)-1) % 18446744073709551616+9223372036854775808) % 18446744073709551616-9223372036854775808=hi (zbO (-x)):=by rw[←ztk,if_pos h];omega
theorem zwM {x:Int} (h0 : -9223372036854775808<=x) (h1:x<=9223372036854775807):x / 9223372036854775808=hi x:=by unfold hi;omega
theorem zmJ (a b:Int) (k:Nat) (a0:0<=a) (a1:a*2 ^ k<18446744073709551616) (b0:0<=b) (b1:b<2 ^ k) (b2:b<18446744073709551616):bits .or .u64 (a*2 ^ k) b=a*2 ^ k+b:=by
 obtain⟨a,rfl⟩:=Int.eq_ofNat_of_zero_le a0;obtain⟨b,rfl⟩:=Int.eq_ofNat_of_zero_le b0;have hk:(2:Int) ^ k=((2 ^ k:Nat):Int):=by simp
 rw[hk]at a1 b1 ⊢;have e:(a:Int)*((2 ^ k:Nat):Int)=((a*2 ^ k:Nat):Int):=by simp
 rw[e]at a1 ⊢;rw[bits_or_u64_nat _ _ (by omega) (by omega)];have h:=Nat.two_pow_add_eq_or_of_lt (show b<2 ^ k by omega) a;rw[Nat.mul_comm a];omega
theorem zlt {n:Nat} (h:n<=64):(18446744073709551616:Int)=2 ^ n*2 ^ (64-n):=by
 have h2:(18446744073709551616:Int)=2 ^ (n+(64-n)):=by
  have:n+(64-n)=64:=by omega
  rw[this];rfl
 rw[h2,Int.pow_add]
theorem zvY {x:Int} {n:Nat} (h:64<=n):hi x / 2 ^ (n-64)=x / 2 ^ n:=by
 have h2:(2:Int) ^ n=18446744073709551616*2 ^ (n-64):=by
  have h2:(2:Int) ^ n=2 ^ (64+(n-64)):=by congr 1;omega
  rw[h2,Int.pow_add];rfl
 unfold hi;rw[h2,Int.ediv_ediv_of_nonneg (by decide)]
theorem zwl {x:Int} {n:Nat}:hi x / 2 ^ n=hi (x / 2 ^ n):=by
 unfold hi;rw[Int.ediv_ediv_of_nonneg (by decide),Int.ediv_ediv_of_nonneg (Int.le_of_lt (zK n)),Int.mul_comm]
theorem zwz {x:Int} {n:Nat} (h:n<=64):bits .or .u64 (IntKind.u64.wrap (IntKind.u64.wrap (hi x)*2 ^ (64-n))) (lo x / 2 ^ n)=lo (x / 2 ^ n):=by
 have e:=zlt h;have p:=zK n;have q:=zK (64-n);have l0:=lo0 x;have l1:=lo1 x;have b0:0<=lo x / 2 ^ n:=Int.ediv_nonneg l0 (Int.le_of_lt p);have b1:lo x / 2 ^ n<2 ^ (64-n):=Int.ediv_lt_of_lt_mul p (by rw[Int.mul_comm,←e];exact l1);have b2:lo x / 2 ^ n<18446744073709551616:=Int.lt_of_le_of_lt (Int.ediv_le_self _ l0) l1;have ed:x / 2 ^ n=hi x*2 ^ (64-n)+lo x / 2 ^ n:=by
  have hx:=hl x
  conv=>lhs;rw[←hx,e]
  rw[Int.mul_comm (2 ^ n) (2 ^ (64-n)),←Int.mul_assoc,Int.mul_comm,Int.mul_add_ediv_left _ _ (Int.ne_of_gt p)]
 rw[IntKind.wrap_u64,IntKind.wrap_u64];have ew:(hi x % 18446744073709551616*2 ^ (64-n)) % 18446744073709551616=(hi x % 2 ^ n)*2 ^ (64-n):=by
  conv=>lhs;rw[e]
  rw[Int.mul_comm (2 ^ n) (2 ^ (64-n)),Int.mul_comm _ (2 ^ (64-n)),Int.mul_emod_mul_of_pos _ _ q,Int.mul_comm]
  congr 1
  rw[Int.emod_emod_of_dvd];exact⟨2 ^ (64-n),Int.mul_comm _ _⟩
 rw[ew];have m:=za1 (x:=hi x) p;have hm:hi x % 2 ^ n*2 ^ (64-n)<18446744073709551616:=by
  rw[e];exact Int.mul_lt_mul_of_pos_right m.2 q
 rw[zmJ _ _ _ m.1 hm b0 b1 b2];have hk:=Int.mul_ediv_add_emod (hi x) (2 ^ n);have et:hi x*2 ^ (64-n)=18446744073709551616*(hi x / 2 ^ n)+hi x % 2 ^ n*2 ^ (64-n):=by
  conv=>lhs;rw[←hk]
  rw[Int.add_mul,e,Int.mul_right_comm]
 have hle:(hi x % 2 ^ n+1)*2 ^ (64-n)<=18446744073709551616:=by
  rw[e];exact Int.mul_le_mul_of_nonneg_right (by omega) (Int.le_of_lt q)
 rw[Int.add_mul,Int.one_mul]at hle;have m0:=Int.mul_nonneg m.1 (Int.le_of_lt q);exact(zc8 (a:=x / 2 ^ n) (b:=18446744073709551616) (q:=hi x / 2 ^ n) (by rw[ed,et];omega) (by omega) (by omega)).symm
theorem zqp {x d:Int} (d0:0<d):hi x / d=hi (x / d)/\(hi x % d*18446744073709551616+lo x) / d=lo (x / d)/\(hi x % d*18446744073709551616+lo x) % d=x % d:=by
 have hx:=hl x;have l0:=lo0 x;have l1:=lo1 x;have e:=Int.mul_ediv_add_emod (hi x) d;have r:=za1 (x:=hi x) d0;generalize hi x % d=R at *;generalize hi x / d=Q at *;have e2:=Int.mul_ediv_add_emod (R*18446744073709551616+lo x) d;have r2:=za1 (x:=R*18446744073709551616+lo x) d0;have q1:(R*18446744073709551616+lo x) / d<18446744073709551616:=Int.ediv_lt_of_lt_mul d0 (by
  have:(R+1)*18446744073709551616<=d*18446744073709551616:=Int.mul_le_mul_of_nonneg_right (by omega) (by decide);rw[Int.mul_comm 18446744073709551616 d]at *;omega)
 have q0:0<=(R*18446744073709551616+lo x) / d:=Int.ediv_nonneg (by omega) (by omega);generalize (R*18446744073709551616+lo x) / d=q at *;generalize (R*18446744073709551616+lo x) % d=r at *;have ex:x=d*(Q*18446744073709551616+q)+r:=by
  rw[Int.mul_add,←Int.mul_assoc];generalize d*q=dq at *;have:d*Q*18446744073709551616=(hi x-R)*18446744073709551616:=by congr 1;omega
  rw[this];omega
 rw[zdS ex r2.1 r2.2,zc8 ex r2.1 r2.2];exact⟨zpG rfl q0 q1,zqO rfl q0 q1,rfl⟩
end Go.Proofs.YtlodkoimdoeopaaGreatDoor
namespace Go.Proofs.YtlodkoimdoeopaaGreatDoor
open Go.RowKit
theorem zgN {p:Int} (h0 : -9223372036854775808<=p) (h1:p<=9223372036854775807):wrap64 p=p:=zbm h0 h1
theorem zgh (a b:Int):(a<0->b<0->a*b=zi a*zi b)/\(a<0->0<=b->a*b = -(zi a*zi b))/\(0<=a->b<0->a*b = -(zi a*zi b))/\(0<=a->0<=b->a*b=zi a*zi b):=by
 refine⟨λh k=>?_,λh k=>?_,λh k=>?_,λh k=>?_⟩
 ·rw[zaS h,zaS k,Int.neg_mul_neg]
 ·rw[zaS h,zaJ k,Int.neg_mul,Int.neg_neg]
 ·rw[zaJ h,zaS k,Int.mul_neg,Int.neg_neg]
 ·rw[zaJ h,zaJ k]
theorem zdM {a b:Int} (h0 : -9223372036854775808<=a) (h1:a<=9223372036854775807) (k0 : -9223372036854775808<=b) (k1:b<=9223372036854775807):0<=zi a*zi b/\zi a*zi b<=85070591730234615865843651857942052864:=by
 have a0:=za6 a;have b0:=za6 b;have a1:zi a<=9223372036854775808:=zcu h0 (by omega);have b1:zi b<=9223372036854775808:=zcu k0 (by omega);exact⟨Int.mul_nonneg a0 b0,by have:=Int.mul_le_mul a1 b1 b0 (by omega);omega⟩
theorem zhx (x y:Int) (x0:0<=x) (x1:x<18446744073709551616) (y0:0<=y) (y1:y<18446744073709551616) (w:World) :
  Calls Tryz.prog 128 #[.int .u64 x,.int .u64 y] w λe w'=>e=.returned (.tuple #[.int .u64 (x*y / 18446744073709551616),.int .u64 (x*y % 18446744073709551616)])/\w=w':=by
 obtain⟨x,rfl⟩:=Int.eq_ofNat_of_zero_le x0;obtain⟨y,rfl⟩:=Int.eq_ofNat_of_zero_le y0;have h:=zkL x y (by omega) (by omega) w
 simpa using h
set_option maxHeartbeats 1000000 in
theorem zqJ (a b:Int) (h0 : -9223372036854775808<=a) (h1:a<=9223372036854775807) (k0 : -9223372036854775808<=b) (k1:b<=9223372036854775807) (w:World) :
  Calls Tryz.prog 193 #[.int .i64 a,.int .i64 b] w λe w'=>e=.returned (.int .i64 (zE (a*b)))/\w=w':=by
 have CA:=ziK a h0 h1;have CB:=ziK b k0 k1;have a0:=za6 a;have b0:=za6 b;have a1:zi a<=9223372036854775808:=zcu h0 (by omega);have b1:zi b<=9223372036854775808:=zcu k0 (by omega);have CM:=zhx (zi a) (zi b) a0 (by omega) b0 (by omega);obtain⟨m1,m2,m3,m4⟩:=zgh a b;obtain⟨p0,p1⟩:=zdM h0 h1 k0 k1;generalize zi a*zi b=P at *;generalize zi a=A at *;generalize zi b=B at *;clear a0 b0 a1 b1;obtain⟨H,eH⟩:∃ H,H=P / 18446744073709551616:=⟨_,rfl⟩;obtain⟨L,eL⟩:∃ L,L=P % 18446744073709551616:=⟨_,rfl⟩;rw[←eH,←eL]at CM;have eP:H*18446744073709551616+L=P:=by omega
 have H0:0<=H:=by omega
 have L0:0<=L:=by omega
 have L1:L<18446744073709551616:=by omega
 have M1:=za m1;have M2:=za m2;have M3:=za m3;have M4:=za m4;have EP:=za eP;clear m1 m2 m3 m4 eP eH eL p0 p1
 by_cases ha:a<0
 ·by_cases hb:b<0
  ·have ga:a<0:=by omega
   have gb:b<0:=by omega
   have e:=M1.out ga gb;have da:decide (a<0)=true:=decide_eq_true (by omega);have db:decide (b<0)=true:=decide_eq_true (by omega)
   by_cases hH0:H=0
   ·by_cases hL:9223372036854775807<L
    ·rw[zbU (by have:=EP.out;omega)];clear ga gb e;have hH:(H != 0)=false:=by simp[hH0]
     go_enter Tryz.func193,Tryz.ntmps193
     go_wp2_with (first
      |(go_at_call 224;(with_reducible refine(CA _).mono ?_);rintro e w' ⟨rfl,rfl⟩)
      |(go_at_call 224;(with_reducible refine(CB _).mono ?_);rintro e w' ⟨rfl,rfl⟩)
      |(go_at_call 128;(with_reducible refine(CM _).mono ?_);rintro e w' ⟨rfl,rfl⟩))
     go_ret;exact⟨rfl,rfl⟩
    ·have e2:a*b=L:=by have:=EP.out;omega
     rw[e,←e,zH (by omega) (by omega)];have W:=za (show wrap64 (a*b)=a*b from zgN (by omega) (by omega));clear e2;clear ga gb e;have hH:(H != 0)=false:=by simp[hH0]
     go_enter Tryz.func193,Tryz.ntmps193
     go_wp2_with (first
      |(go_at_call 224;(with_reducible refine(CA _).mono ?_);rintro e w' ⟨rfl,rfl⟩)
      |(go_at_call 224;(with_reducible refine(CB _).mono ?_);rintro e w' ⟨rfl,rfl⟩)
      |(go_at_call 128;(with_reducible refine(CM _).mono ?_);rintro e w' ⟨rfl,rfl⟩))
     go_ret;exact⟨zl (by first|rfl|exact W.out),rfl⟩
   ·rw[zbU (by have:=EP.out;omega)];clear ga gb e;have hH:(H != 0)=true:=by simp[hH0]
    go_enter Tryz.func193,Tryz.ntmps193
    go_wp2_with (first
     |(go_at_call 224;(with_reducible refine(CA _).mono ?_);rintro e w' ⟨rfl,rfl⟩)
     |(go_at_call 224;(with_reducible refine(CB _).mono ?_);rintro e w' ⟨rfl,rfl⟩)
     |(go_at_call 128;(with_reducible refine(CM _).mono ?_);rintro e w' ⟨rfl,rfl⟩))
    go_ret;exact⟨rfl,rfl⟩
  ·have ga:a<0:=by omega
   have gb:0<=b:=by omega
   have e:=M2.out ga gb;have da:decide (a<0)=true:=decide_eq_true (by omega);have db:decide (b<0)=false:=decide_eq_false (by omega)
   by_cases hH0:H=0
   ·by_cases hL:9223372036854775808<L
    ·rw[zcY (by have:=EP.out;omega)];clear ga gb e;have hH:(H != 0)=false:=by simp[hH0]
     go_enter Tryz.func193,Tryz.ntmps193
     go_wp2_with (first
      |(go_at_call 224;(with_reducible refine(CA _).mono ?_);rintro e w' ⟨rfl,rfl⟩)
      |(go_at_call 224;(with_reducible refine(CB _).mono ?_);rintro e w' ⟨rfl,rfl⟩)
      |(go_at_call 128;(with_reducible refine(CM _).mono ?_);rintro e w' ⟨rfl,rfl⟩))
     go_ret;exact⟨rfl,rfl⟩
    ·have e2:a*b = -L:=by have:=EP.out;omega
     rw[e,←e,zH (by omega) (by omega)];have W:=za (show wrap64 (a*b)=a*b from zgN (by omega) (by omega));clear e2;clear ga gb e;have hH:(H != 0)=false:=by simp[hH0]
     go_enter Tryz.func193,Tryz.ntmps193
     go_wp2_with (first
      |(go_at_call 224;(with_reducible refine(CA _).mono ?_);rintro e w' ⟨rfl,rfl⟩)
      |(go_at_call 224;(with_reducible refine(CB _).mono ?_);rintro e w' ⟨rfl,rfl⟩)
      |(go_at_call 128;(with_reducible refine(CM _).mono ?_);rintro e w' ⟨rfl,rfl⟩))
     go_ret;exact⟨zl (by first|rfl|exact W.out),rfl⟩
   ·rw[zcY (by have:=EP.out;omega)];clear ga gb e;have hH:(H != 0)=true:=by simp[hH0]
    go_enter Tryz.func193,Tryz.ntmps193
    go_wp2_with (first
     |(go_at_call 224;(with_reducible refine(CA _).mono ?_);rintro e w' ⟨rfl,rfl⟩)
     |(go_at_call 224;(with_reducible refine(CB _).mono ?_);rintro e w' ⟨rfl,rfl⟩)
     |(go_at_call 128;(with_reducible refine(CM _).mono ?_);rintro e w' ⟨rfl,rfl⟩))
    go_ret;exact⟨rfl,rfl⟩
 ·by_cases hb:b<0
  ·have ga:0<=a:=by omega
   have gb:b<0:=by omega
   have e:=M3.out ga gb;have da:decide (a<0)=false:=decide_eq_false (by omega);have db:decide (b<0)=true:=decide_eq_true (by omega)
   by_cases hH0:H=0
   ·by_cases hL:9223372036854775808<L
    ·rw[zcY (by have:=EP.out;omega)];clear ga gb e;have hH:(H != 0)=false:=by simp[hH0]
     go_enter Tryz.func193,Tryz.ntmps193
     go_wp2_with (first
      |(go_at_call 224;(with_reducible refine(CA _).mono ?_);rintro e w' ⟨rfl,rfl⟩)
      |(go_at_call 224;(with_reducible refine(CB _).mono ?_);rintro e w' ⟨rfl,rfl⟩)
      |(go_at_call 128;(with_reducible refine(CM _).mono ?_);rintro e w' ⟨rfl,rfl⟩))
     go_ret;exact⟨rfl,rfl⟩
    ·have e2:a*b = -L:=by have:=EP.out;omega
     rw[e,←e,zH (by omega) (by omega)];have W:=za (show wrap64 (a*b)=a*b from zgN (by omega) (by omega));clear e2;clear ga gb e;have hH:(H != 0)=false:=by simp[hH0]
     go_enter Tryz.func193,Tryz.ntmps193
     go_wp2_with (first
      |(go_at_call 224;(with_reducible refine(CA _).mono ?_);rintro e w' ⟨rfl,rfl⟩)
      |(go_at_call 224;(with_reducible refine(CB _).mono ?_);rintro e w' ⟨rfl,rfl⟩)
      |(go_at_call 128;(with_reducible refine(CM _).mono ?_);rintro e w' ⟨rfl,rfl⟩))
     go_ret;exact⟨zl (by first|rfl|exact W.out),rfl⟩
   ·rw[zcY (by have:=EP.out;omega)];clear ga gb e;have hH:(H != 0)=true:=by simp[hH0]
    go_enter Tryz.func193,Tryz.ntmps193
    go_wp2_with (first
     |(go_at_call 224;(with_reducible refine(CA _).mono ?_);rintro e w' ⟨rfl,rfl⟩)
     |(go_at_call 224;(with_reducible refine(CB _).mono ?_);rintro e w' ⟨rfl,rfl⟩)
     |(go_at_call 128;(with_reducible refine(CM _).mono ?_);rintro e w' ⟨rfl,rfl⟩))
    go_ret;exact⟨rfl,rfl⟩
  ·have ga:0<=a:=by omega
   have gb:0<=b:=by omega
   have e:=M4.out ga gb;have da:decide (a<0)=false:=decide_eq_false (by omega);have db:decide (b<0)=false:=decide_eq_false (by omega)
   by_cases hH0:H=0
   ·by_cases hL:9223372036854775807<L
    ·rw[zbU (by have:=EP.out;omega)];clear ga gb e;have hH:(H != 0)=false:=by simp[hH0]
     go_enter Tryz.func193,Tryz.ntmps193
     go_wp2_with (first
      |(go_at_call 224;(with_reducible refine(CA _).mono ?_);rintro e w' ⟨rfl,rfl⟩)
      |(go_at_call 224;(with_reducible refine(CB _).mono ?_);rintro e w' ⟨rfl,rfl⟩)
      |(go_at_call 128;(with_reducible refine(CM _).mono ?_);rintro e w' ⟨rfl,rfl⟩))
     go_ret;exact⟨rfl,rfl⟩
    ·have e2:a*b=L:=by have:=EP.out;omega
     rw[e,←e,zH (by omega) (by omega)];have W:=za (show wrap64 (a*b)=a*b from zgN (by omega) (by omega));clear e2;clear ga gb e;have hH:(H != 0)=false:=by simp[hH0]
     go_enter Tryz.func193,Tryz.ntmps193
     go_wp2_with (first
      |(go_at_call 224;(with_reducible refine(CA _).mono ?_);rintro e w' ⟨rfl,rfl⟩)
      |(go_at_call 224;(with_reducible refine(CB _).mono ?_);rintro e w' ⟨rfl,rfl⟩)
      |(go_at_call 128;(with_reducible refine(CM _).mono ?_);rintro e w' ⟨rfl,rfl⟩))
     go_ret;exact⟨zl (by first|rfl|exact W.out),rfl⟩
   ·rw[zbU (by have:=EP.out;omega)];clear ga gb e;have hH:(H != 0)=true:=by simp[hH0]
    go_enter Tryz.func193,Tryz.ntmps193
    go_wp2_with (first
     |(go_at_call 224;(with_reducible refine(CA _).mono ?_);rintro e w' ⟨rfl,rfl⟩)
     |(go_at_call 224;(with_reducible refine(CB _).mono ?_);rintro e w' ⟨rfl,rfl⟩)
     |(go_at_call 128;(with_reducible refine(CM _).mono ?_);rintro e w' ⟨rfl,rfl⟩))
    go_ret;exact⟨rfl,rfl⟩
theorem zbz (x y c:Int) (hx:0<=x) (hy:0<=y) (h0:0<=c) (h1:c<=1) (w:World) :
  (callFunc 129 #[.int .u64 x,.int .u64 y,.int .u64 c]).run Tryz.prog w=.ok (.value (.tuple #[.int .u64 ((x+y+c) % 18446744073709551616),.int .u64 ((x+y+c) / 18446744073709551616)])) w:=by
 rw[run_callFunc_extern Tryz.func129 (by kernel_rfl) (by kernel_rfl) (by kernel_rfl) (e:=add64Entry) (by kernel_rfl),run_add64 x y c hx hy h0 h1];rfl
theorem zhw (x y c:Int) (hx:0<=x) (x1:x<18446744073709551616) (hy:0<=y) (y1:y<18446744073709551616) (h0:0<=c) (h1:c<=1) (w:World) :
  (callFunc 227 #[.int .u64 x,.int .u64 y,.int .u64 c]).run Tryz.prog w=.ok (.value (.tuple #[.int .u64 ((x-y-c) % 18446744073709551616),.int .u64 (if x<y+c then 1 else 0)])) w:=by
 obtain⟨x,rfl⟩:=Int.eq_ofNat_of_zero_le hx;obtain⟨y,rfl⟩:=Int.eq_ofNat_of_zero_le hy;obtain⟨c,rfl⟩:=Int.eq_ofNat_of_zero_le h0;rw[run_callFunc_extern Tryz.func227 (by kernel_rfl) (by kernel_rfl) (by kernel_rfl) (e:=sub64Entry) (by kernel_rfl),run_sub64 x y c (by omega)];have e1:((((x+18446744073709551616-y-c) % 18446744073709551616:Nat)):Int)=((x:Int)-y-c) % 18446744073709551616:=by omega
 have e2:(((if x<y+c then 1 else 0:Nat)):Int)=if(x:Int)<y+c then 1 else 0:=by
  by_cases h:x<y+c
  ·rw[if_pos h,if_pos (by omega)];rfl
  ·rw[if_neg h,if_neg (by omega)];rfl
 simp only[Result.andThen,e1,e2]
theorem zuS {h l x:Int} (eh:h=hi x) (el:l=lo x) :
  Ending.returned (.agg #[.int .i64 h,.int .u64 l])=.returned (.agg #[.int .i64 (hi x),.int .u64 (lo x)]):=by rw[eh,el]
theorem zfL (x:Int) (h0 : -9223372036854775808<=x) (h1:x<=9223372036854775807) (w:World) :
  Calls Tryz.prog 199 #[.int .i64 x] w λe w'=>e=.returned (.int .u64 (zi x))/\w=w':=by
 go_enter Tryz.func199,Tryz.ntmps199
 go_wp2
 ·rename_i h
  go_ret;exact⟨zeb (by rw[zaS h,IntKind.wrap_u64,IntKind.wrap_u64];omega),rfl⟩
 ·rename_i h
  go_ret;exact⟨zeb (by rw[zaJ h]),rfl⟩
theorem zkd (x:Int) (h0 : -9223372036854775808<=x) (h1:x<=9223372036854775807) (w:World) :
  Calls Tryz.prog 202 #[.int .i64 x] w λe w'=>e=.returned (.agg #[.int .i64 (hi x),.int .u64 (lo x)])/\Below w.heap.size w w':=by
 go_enter Tryz.func202,Tryz.ntmps202
 go_wp2;refine bodyPost_ret (v:=.agg #[.int .i64 (x / 9223372036854775808),.int .u64 (IntKind.u64.wrap x)]) (by simp[results,Tryz.results202,go_sem]) rfl ⟨zuS (zwM h0 h1) (by rw[IntKind.wrap_u64];rfl),zg _ _⟩
theorem zpg (x y:Int) (h0 : -170141183460469231731687303715884105728<=x) (h1:x<170141183460469231731687303715884105728) (k0 : -170141183460469231731687303715884105728<=y) (k1:y<170141183460469231731687303715884105728) (w:World) :
  Calls Tryz.prog 201 #[.agg #[.int .i64 (hi x),.int .u64 (lo x)],.agg #[.int .i64 (hi y),.int .u64 (lo y)]] w λe w'=>e=.returned (.agg #[.int .i64 (hi (zbO (x+y))),.int .u64 (lo (zbO (x+y)))])/\Below w.heap.size w w':=by
 have l0:=lo0 x;have l1:=lo1 x;have m0:=lo0 y;have m1:=lo1 y;have g0:=zqk h0;have g1:=zmh h1;have g2:=zqk k0;have g3:=zmh k1;have u0:0<=IntKind.u64.wrap (hi x):=by rw[IntKind.wrap_u64];omega
 have u1:0<=IntKind.u64.wrap (hi y):=by rw[IntKind.wrap_u64];omega
 have A2:=za (λw=>zbz (IntKind.u64.wrap (hi x)) (IntKind.u64.wrap (hi y)) ((lo x+lo y) / 18446744073709551616) u0 u1 (by omega) (by omega) w);clear h0 h1 k0 k1 u0 u1
 go_enter Tryz.func201,Tryz.ntmps201
 go_wp2_with (first|simp only[A2.out]|simp(disch:=omega) only [zbz])
 simp[bodyPost,results,Tryz.results201,go_sem]
 exact⟨⟨by rw[IntKind.wrap_u64,IntKind.wrap_u64];unfold wrap64;exact zvJ x y,zxJ x y⟩,zsy _ _ _ _⟩
theorem zeu (x:Int) (h0 : -170141183460469231731687303715884105728<=x) (h1:x<170141183460469231731687303715884105728) (w:World) :
  Calls Tryz.prog 198 #[.agg #[.int .i64 (hi x),.int .u64 (lo x)]] w λe w'=>e=.returned (.agg #[.int .i64 (hi (zbO (-x))),.int .u64 (lo (zbO (-x)))])/\Below w.heap.size w w':=by
 have l0:=lo0 x;have l1:=lo1 x;have g0:=zqk h0;have g1:=zmh h1;clear h0 h1;have u0:0<=IntKind.u64.wrap (hi x):=by rw[IntKind.wrap_u64];omega
 have u1:IntKind.u64.wrap (hi x)<18446744073709551616:=by rw[IntKind.wrap_u64];omega
 have A1:=za (λw=>zhw 0 (lo x) 0 (by omega) (by omega) l0 l1 (by omega) (by omega) w);have A2:=za (λw=>zhw 0 (IntKind.u64.wrap (hi x)) 0 (by omega) (by omega) u0 u1 (by omega) (by omega) w);have A3:=za (λw=>zhw 0 (IntKind.u64.wrap (hi x)) 1 (by omega) (by omega) u0 u1 (by omega) (by omega) w);have v0:¬(0:Int) > IntKind.u64.wrap (hi x):=by omega
 by_cases h:0<lo x
 ·have H:=za h;have v1:(0:Int)<IntKind.u64.wrap (hi x)+1:=by omega
  clear u0 u1 v0
  go_enter Tryz.func198,Tryz.ntmps198
  go_wp2_with (first|simp only[A1.out]|simp only[A3.out])
  all_goals simp[bodyPost,results,Tryz.results198,go_sem]
  all_goals exact⟨⟨by rw[IntKind.wrap_u64];unfold wrap64;exact zwI H.out,zwg H.out⟩,zfY _ _ _⟩
 ·have h':lo x=0:=by omega
  have H':=za h';clear h' u0 u1 v0
  go_enter Tryz.func198,Tryz.ntmps198
  go_wp2_with (first|simp only[A1.out]|simp only[A2.out])
  all_goals simp[bodyPost,results,Tryz.results198,go_sem]
  all_goals exact⟨⟨by rw[IntKind.wrap_u64];unfold wrap64;exact zwW H'.out,by rw[zxe H'.out,H'.out];rfl⟩,zfY _ _ _⟩
theorem zm9 (x y P:Int) (hP:x*y=P) (x0:0<=x) (x1:x<18446744073709551616) (y0:0<=y) (y1:y<18446744073709551616) (w:World) :
  Calls Tryz.prog 128 #[.int .u64 x,.int .u64 y] w λe w'=>e=.returned (.tuple #[.int .u64 (hi P),.int .u64 (lo P)])/\w=w':=by
 subst hP;exact zhx x y x0 x1 y0 y1 w
theorem ziw (a b:Int) (h0 : -9223372036854775808<=a) (h1:a<=9223372036854775807) (k0 : -9223372036854775808<=b) (k1:b<=9223372036854775807) (w:World) :
  Calls Tryz.prog 197 #[.int .i64 a,.int .i64 b] w λe w'=>e=.returned (.agg #[.int .i64 (hi (a*b)),.int .u64 (lo (a*b))])/\Below w.heap.size w w':=by
 have CA:=zfL a h0 h1;have CB:=zfL b k0 k1;have a0:=za6 a;have b0:=za6 b;have a1:zi a<=9223372036854775808:=zcu h0 (by omega);have b1:zi b<=9223372036854775808:=zcu k0 (by omega);have CM:=zm9 (zi a) (zi b) _ rfl a0 (by omega) b0 (by omega);obtain⟨m1,m2,m3,m4⟩:=zgh a b;obtain⟨p0,p1⟩:=zdM h0 h1 k0 k1;generalize zi a*zi b=P at *;generalize zi a=A at *;generalize zi b=B at *;clear a0 b0 a1 b1;have g0:=hi0 p0;have g1:hi P<=4611686018427387904:=by unfold hi;omega
 have CN:=zeu P (by omega) (by omega);rw[zeQ (by omega) (by omega)]at CN
 by_cases ha:a<0
 ·have da:decide (a<0)=true:=decide_eq_true ha
  by_cases hb:b<0
  ·have db:decide (b<0)=true:=decide_eq_true hb;rw[m1 ha hb];clear m1 m2 m3 m4 p0 p1 ha hb
   go_enter Tryz.func197,Tryz.ntmps197
   go_wp2_with (first
    |(go_at_call 199;(with_reducible refine(CA _).mono ?_);rintro e w' ⟨rfl,rfl⟩)
    |(go_at_call 199;(with_reducible refine(CB _).mono ?_);rintro e w' ⟨rfl,rfl⟩)
    |(go_at_call 128;(with_reducible refine(CM _).mono ?_);rintro e w' ⟨rfl,rfl⟩))
   refine bodyPost_ret (v:=.agg #[.int .i64 (hi P),.int .u64 (lo P)]) (by simp[results,Tryz.results197,go_sem]) rfl ⟨rfl,?_⟩
   repeat (first|exact Below.refl _ _|with_reducible refine ba ?_ _|with_reducible refine bs ?_ (by omega) _|with_reducible refine bd ?_|(with_reducible refine bt ?_ (by assumption)))
  ·have db:decide (b<0)=false:=decide_eq_false hb;rw[m2 ha (by omega)];clear m1 m2 m3 m4 p0 p1 ha hb
   go_enter Tryz.func197,Tryz.ntmps197
   go_wp2_with (first
    |(go_at_call 199;(with_reducible refine(CA _).mono ?_);rintro e w' ⟨rfl,rfl⟩)
    |(go_at_call 199;(with_reducible refine(CB _).mono ?_);rintro e w' ⟨rfl,rfl⟩)
    |(go_at_call 128;(with_reducible refine(CM _).mono ?_);rintro e w' ⟨rfl,rfl⟩)
    |(go_at_call 198;(with_reducible refine(CN _).mono ?_);rintro e w2 ⟨rfl,b2⟩;have q0:w2.cell? ⟨w.heap.size,0,none⟩=some (.int .i64 0):=cb b2 (by simp;omega) (by simp);have q1:w2.cell? ⟨w.heap.size,1,none⟩=some (.int .u64 0):=cb b2 (by simp;omega) (by simp);have q2:w2.frozen? ⟨w.heap.size,0,none⟩=false:=fb b2 (by simp;omega) (by simp);have q3:w2.frozen? ⟨w.heap.size,1,none⟩=false:=fb b2 (by simp;omega) (by simp)))
   refine bodyPost_ret (v:=.agg #[.int .i64 (hi (-P)),.int .u64 (lo (-P))]) (by simp[results,Tryz.results197,go_sem,q0,q1]) rfl ⟨rfl,?_⟩
   repeat (first|exact Below.refl _ _|with_reducible refine ba ?_ _|with_reducible refine bs ?_ (by omega) _|with_reducible refine bd ?_|(with_reducible refine bt ?_ (by assumption)))
 ·have da:decide (a<0)=false:=decide_eq_false ha
  by_cases hb:b<0
  ·have db:decide (b<0)=true:=decide_eq_true hb;rw[m3 (by omega) hb];clear m1 m2 m3 m4 p0 p1 ha hb
   go_enter Tryz.func197,Tryz.ntmps197
   go_wp2_with (first
    |(go_at_call 199;(with_reducible refine(CA _).mono ?_);rintro e w' ⟨rfl,rfl⟩)
    |(go_at_call 199;(with_reducible refine(CB _).mono ?_);rintro e w' ⟨rfl,rfl⟩)
    |(go_at_call 128;(with_reducible refine(CM _).mono ?_);rintro e w' ⟨rfl,rfl⟩)
    |(go_at_call 198;(with_reducible refine(CN _).mono ?_);rintro e w2 ⟨rfl,b2⟩;have q0:w2.cell? ⟨w.heap.size,0,none⟩=some (.int .i64 0):=cb b2 (by simp;omega) (by simp);have q1:w2.cell? ⟨w.heap.size,1,none⟩=some (.int .u64 0):=cb b2 (by simp;omega) (by simp);have q2:w2.frozen? ⟨w.heap.size,0,none⟩=false:=fb b2 (by simp;omega) (by simp);have q3:w2.frozen? ⟨w.heap.size,1,none⟩=false:=fb b2 (by simp;omega) (by simp)))
   refine bodyPost_ret (v:=.agg #[.int .i64 (hi (-P)),.int .u64 (lo (-P))]) (by simp[results,Tryz.results197,go_sem,q0,q1]) rfl ⟨rfl,?_⟩
   repeat (first|exact Below.refl _ _|with_reducible refine ba ?_ _|with_reducible refine bs ?_ (by omega) _|with_reducible refine bd ?_|(with_reducible refine bt ?_ (by assumption)))
  ·have db:decide (b<0)=false:=decide_eq_false hb;rw[m4 (by omega) (by omega)];clear m1 m2 m3 m4 p0 p1 ha hb
   go_enter Tryz.func197,Tryz.ntmps197
   go_wp2_with (first
    |(go_at_call 199;(with_reducible refine(CA _).mono ?_);rintro e w' ⟨rfl,rfl⟩)
    |(go_at_call 199;(with_reducible refine(CB _).mono ?_);rintro e w' ⟨rfl,rfl⟩)
    |(go_at_call 128;(with_reducible refine(CM _).mono ?_);rintro e w' ⟨rfl,rfl⟩))
   refine bodyPost_ret (v:=.agg #[.int .i64 (hi P),.int .u64 (lo P)]) (by simp[results,Tryz.results197,go_sem]) rfl ⟨rfl,?_⟩
   repeat (first|exact Below.refl _ _|with_reducible refine ba ?_ _|with_reducible refine bs ?_ (by omega) _|with_reducible refine bd ?_|(with_reducible refine bt ?_ (by assumption)))
end Go.Proofs.YtlodkoimdoeopaaGreatDoor
