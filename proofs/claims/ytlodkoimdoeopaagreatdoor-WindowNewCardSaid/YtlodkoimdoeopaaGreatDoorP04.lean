/- Parts, joined. -/
import Derived.Test.YtlodkoimdoeopaaGreatDoorP03
import Derived.Test.YtlodkoimdoeopaaGreatDoorP02
import Derived.Deep.DeepCutAuto
import Derived.Laws.Bits64b
namespace Go.Proofs.YtlodkoimdoeopaaGreatDoor
open Go.RowKit
structure BigAt (w:World) (b:Nat) (X:Int):Prop where
 c0:w.cell? ⟨b,0,none⟩=some (.int .u64 (hi X))
 c1:w.cell? ⟨b,1,none⟩=some (.int .u64 (lo X))
 f0:w.frozen? ⟨b,0,none⟩=false
 f1:w.frozen? ⟨b,1,none⟩=false
 lt:b<w.heap.size
theorem BigAt.below {w w1:World} {b:Nat} {X:Int} (h:BigAt w b X) (hb:Below w.heap.size w w1):BigAt w1 b X :=
 ⟨cb hb h.lt h.c0,cb hb h.lt h.c1,fb hb h.lt h.f0,fb hb h.lt h.f1,Nat.lt_of_lt_of_le h.lt hb.size⟩
theorem BigAt.drew {w:World} {b:Nat} {X:Int} (h:BigAt w b X):BigAt w.drew b X:=⟨h.c0,h.c1,h.f0,h.f1,h.lt⟩
theorem BigAt.alloc {w:World} {b:Nat} {X:Int} (h:BigAt w b X) (o:Obj):BigAt (w.alloc o) b X :=
 ⟨ca h.lt h.c0,ca h.lt h.c1,fa h.lt h.f0,fa h.lt h.f1,by have:=h.lt;simp;omega⟩
theorem BigAt.new (w:World) {h l X:Int} (eh:h=hi X) (el:l=lo X) (t:TypeId):BigAt (w.alloc (.cells #[.int .u64 h,.int .u64 l] t)) w.heap.size X:=by
 subst eh;subst el;exact⟨by simp,by simp,by simp,by simp,by simp⟩
theorem BigAt.set {w:World} {b:Nat} {X:Int} (X':Int) (h:BigAt w b X):BigAt ((w.setCell ⟨b,0,none⟩ (.int .u64 (hi X'))).setCell ⟨b,1,none⟩ (.int .u64 (lo X'))) b X' :=
 ⟨cs (by omega) (cw h.c0),cw (cs (by omega) h.c1),by simp[h.f0],by simp[h.f1],by simpa [World.setCell] using h.lt⟩
theorem BigAt.far {w:World} {b b' o o':Nat} {X:Int} {u v:Value} (h:BigAt w b X) (hne:b'≠b):BigAt ((w.setCell ⟨b',o,none⟩ u).setCell ⟨b',o',none⟩ v) b X :=
 ⟨cs (by omega) (cs (by omega) h.c0),cs (by omega) (cs (by omega) h.c1),by simp[h.f0],by simp[h.f1],by simpa [World.setCell] using h.lt⟩
theorem zg9 (x:Int) (m:Nat):zaz x (2 ^ (m+1))=(x / 2 ^ m+1) / 2:=by
 have p:=zK m;have e:(2:Int) ^ (m+1)=2*2 ^ m:=by rw[Int.pow_succ,Int.mul_comm]
 unfold zaz;rw[if_neg (by omega),e,←Int.mul_add,Int.mul_ediv_mul_of_pos _ _ (by decide),Int.mul_comm 2 (2 ^ m),←Int.ediv_ediv_of_nonneg (Int.le_of_lt p),Int.add_ediv_of_dvd_right (Int.dvd_refl _),Int.ediv_self (Int.ne_of_gt p)]
def zct (M:Int) (n i:Nat):Int:=M % 2 ^ n+2 ^ i*(M / 2 ^ i)
theorem zrn (M:Int) (n:Nat):zct M n n=M:=by unfold zct;rw[Int.add_comm];exact Int.mul_ediv_add_emod M (2 ^ n)
theorem zva {M:Int} (n:Nat) (h0:0<=M) (h1:M<340282366920938463463374607431768211456):zct M n 128=M % 2 ^ n:=by
 unfold zct;rw[ze0 h0 h1,Int.mul_zero,Int.add_zero]
theorem zlt (M:Int) (n i:Nat):zct M n i=zct M n (i+1)+2 ^ i*zaS M i:=by
 unfold zct;have e:(2:Int) ^ (i+1)=2 ^ i*2:=Int.pow_succ _ _;rw[zd3 M i,Int.mul_add,e];rw[show(2:Int) ^ i*(2*(M / (2 ^ i*2)))=2 ^ i*2*(M / (2 ^ i*2)) by rw[Int.mul_assoc]];omega
theorem zuB {M:Int} (n i:Nat) (h0:0<=M):0<=zct M n i:=by
 unfold zct;have:=Int.emod_nonneg M (Int.ne_of_gt (zK n));have:=Int.mul_nonneg (Int.le_of_lt (zK i)) (Int.ediv_nonneg h0 (Int.le_of_lt (zK i)));omega
theorem zw6 {M:Int} (n i:Nat) (h0:0<=M):zct M n i<=2*M:=by
 unfold zct;have e:=Int.mul_ediv_add_emod M (2 ^ i);have r:=Int.emod_nonneg M (Int.ne_of_gt (zK i));have a:M % 2 ^ n<=M:=by
  have e2:=Int.mul_ediv_add_emod M (2 ^ n);have:=Int.mul_nonneg (Int.le_of_lt (zK n)) (Int.ediv_nonneg h0 (Int.le_of_lt (zK n)));omega
 omega
theorem zmu {M:Int} (n i:Nat) (h0:0<=M) (h:zaS M i=1):2 ^ i<=zct M n i/\zct M n i-2 ^ i=zct M n (i+1):=by
 have e:=zlt M n i;rw[h,Int.mul_one]at e;have:=zuB n (i+1) h0;omega
theorem ztF {x M:Int} {N:Nat} (hM:zi x=M) (h0 : -9223372036854775808<=x) (h1:x<=9223372036854775807) (hN:N<=63) :
  (0<=x->zW x ((N:Int)+1)=zE (M / 2 ^ (N+1)+if 2 ^ N<=M % 2 ^ (N+1) then 1 else 0)) /\
  (x<0->zW x ((N:Int)+1)=zE (-(M / 2 ^ (N+1)+if 2 ^ N<M % 2 ^ (N+1) then 1 else 0))):=by
 have hb:=zK (N+1);have ee:(2:Int) ^ (N+1)=2*2 ^ N:=by rw[Int.pow_succ,Int.mul_comm]
 by_cases hs:N<=62
 ·have e0:zW x ((N:Int)+1)=zaz x (2 ^ (N+1)):=by
   rw[zg9];unfold zW;rw[if_neg (by omega),if_neg (by omega)];have:((N:Int)+1).toNat-1=N:=by omega
   rw[this]
  have hin:=zgX N h0 h1;rw[←zg9]at hin;refine⟨λh=>?_,λh=>?_⟩
  ·have e1:zaz x (2 ^ (N+1))=M / 2 ^ (N+1)+if 2 ^ N<=M % 2 ^ (N+1) then 1 else 0:=by
    rw[zaG h]at hM;subst hM;unfold zaz;rw[if_neg (by omega),zeQ hb]
    congr 1
    by_cases c:(2:Int) ^ N<=x % 2 ^ (N+1)
    ·rw[if_pos c,if_pos (by omega)]
    ·rw[if_neg c,if_neg (by omega)]
   rw[e0,←e1,zH hin.1 hin.2]
  ·have e1:zaz x (2 ^ (N+1)) = -(M / 2 ^ (N+1)+if 2 ^ N<M % 2 ^ (N+1) then 1 else 0):=by
    rw[zaU h]at hM;obtain rfl:x = -M:=by omega
    unfold zaz;rw[if_neg (by omega),zen hb]
    congr 2
    by_cases c:(2:Int) ^ N<M % 2 ^ (N+1)
    ·rw[if_pos c,if_pos (by omega)]
    ·rw[if_neg c,if_neg (by omega)]
   rw[e0,←e1,zH hin.1 hin.2]
 ·obtain rfl:N=63:=by omega
  have M0:0<=M:=hM ▸ zbc x;have M1:M<=9223372036854775808:=hM ▸ zcs h0 (by omega);have p64:(2:Int) ^ (63+1)=18446744073709551616:=by decide
  have p63:(2:Int) ^ 63=9223372036854775808:=by decide
  have e0:zW x (((63:Nat):Int)+1)=0:=by unfold zW;rw[if_neg (by omega),if_pos (by omega)]
  rw[e0,p64,p63,Int.ediv_eq_zero_of_lt M0 (by omega),Int.emod_eq_of_lt M0 (by omega)];refine⟨λh=>?_,λh=>?_⟩
  ·rw[zaG h]at hM;rw[if_neg (by omega)];decide
  ·rw[if_neg (by omega)];decide
theorem zxe {i:Nat} (h:i<=127):(2:Int) ^ i<=170141183460469231731687303715884105728:=by
 have:(2:Int) ^ i<=2 ^ 127:=by exact_mod_cast Nat.pow_le_pow_right (by decide) h
 simpa using this
theorem zmk {i:Nat} (h:i<=126):(2:Int) ^ i<170141183460469231731687303715884105728:=by
 have:(2:Int) ^ i<=2 ^ 126:=by exact_mod_cast Nat.pow_le_pow_right (by decide) h
 have e:(2:Int) ^ 126=85070591730234615865843651857942052864:=by decide
 omega
theorem zlE (i:Nat):(2:Int) ^ (i+1)=2*2 ^ i:=by rw[Int.pow_succ,Int.mul_comm]
structure ShSt (w wq:World) (a b c:Nat) (X Y Z:Int):Prop where
 x:BigAt wq a X
 y:BigAt wq b Y
 z:BigAt wq c Z
 hb:Below w.heap.size w wq
theorem ShSt.below {w wq w1:World} {a b c:Nat} {X Y Z:Int} (h:ShSt w wq a b c X Y Z) (hb:Below wq.heap.size wq w1):ShSt w w1 a b c X Y Z :=
 ⟨h.x.below hb,h.y.below hb,h.z.below hb,bt h.hb hb⟩
theorem ShSt.drew {w wq:World} {a b c:Nat} {X Y Z:Int} (h:ShSt w wq a b c X Y Z):ShSt w wq.drew a b c X Y Z:=⟨h.x.drew,h.y.drew,h.z.drew,h.hb.drew⟩
theorem ShSt.alloc {w wq:World} {a b c:Nat} {X Y Z:Int} (h:ShSt w wq a b c X Y Z) (o:Obj):ShSt w (wq.alloc o) a b c X Y Z:=⟨h.x.alloc o,h.y.alloc o,h.z.alloc o,ba h.hb o⟩
theorem ShSt.setZ {w wq:World} {a b c:Nat} {X Y Z:Int} (Z':Int) (h:ShSt w wq a b c X Y Z) (hc:w.heap.size<=c) (h1:a≠c) (h2:b≠c) :
  ShSt w ((wq.setCell ⟨c,0,none⟩ (.int .u64 (hi Z'))).setCell ⟨c,1,none⟩ (.int .u64 (lo Z'))) a b c X Y Z' :=
 ⟨h.x.far (Ne.symm h1),h.y.far (Ne.symm h2),h.z.set Z',bs (bs h.hb hc _) hc _⟩
theorem ShSt.far {w wq:World} {a b c d o o':Nat} {u v:Value} {X Y Z:Int} (h:ShSt w wq a b c X Y Z) (hd:w.heap.size<=d) (h1:a≠d) (h2:b≠d) (h3:c≠d) :
  ShSt w ((wq.setCell ⟨d,o,none⟩ u).setCell ⟨d,o',none⟩ v) a b c X Y Z :=
 ⟨h.x.far (Ne.symm h1),h.y.far (Ne.symm h2),h.z.far (Ne.symm h3),bs (bs h.hb hd _) hd _⟩
theorem zxb (w:World) (o:Obj):w.heap.size<(w.alloc o).heap.size:=by simp
theorem ShSt.zero {w wr:World} {N:Nat} {M:Int} {t:TypeId} (g:BigAt wr w.heap.size (2 ^ N)) (hb:Below w.heap.size w wr) (M0:0<=M) (M1:M<18446744073709551616) :
  ShSt w ((wr.alloc (.cells #[.int .u64 0,.int .u64 M] t)).alloc (.cells #[.int .u64 0,.int .u64 0] t)) w.heap.size wr.heap.size (wr.heap.size+1) (2 ^ N) M (M / 2 ^ 128):=by
 refine⟨(g.alloc _).alloc _,(BigAt.new wr (hiz _ M0 M1) (loz _ M0 M1) _).alloc _,?_,ba (ba hb _) _⟩;rw[ze0 M0 (by omega)];have h:=BigAt.new (wr.alloc (.cells #[.int .u64 0,.int .u64 M] t)) (h:=0) (l:=0) (X:=0) rfl rfl t
 simpa using h
theorem zk1 (x n:Int) (h:n<1) (w:World) :
  Calls Tryz.prog 96 #[.int .i64 x,.int .i64 n] w λe w'=>e=.returned (.int .i64 x)/\w=w':=by
 go_enter Tryz.func96,Tryz.ntmps96
 go_wp2;go_ret;exact⟨rfl,rfl⟩
theorem zkH (x n:Int) (h:64<n) (w:World) :
  Calls Tryz.prog 96 #[.int .i64 x,.int .i64 n] w λe w'=>e=.returned (.int .i64 0)/\w=w':=by
 go_enter Tryz.func96,Tryz.ntmps96
 go_wp2;go_ret;exact⟨rfl,rfl⟩
set_option maxRecDepth 100000 in
set_option maxHeartbeats 4000000 in
theorem zmg (x M:Int) (N:Nat) (hM:zi x=M) (h0 : -9223372036854775808<=x) (h1:x<=9223372036854775807) (hN:N<=63) (w:World) :
  Calls Tryz.prog 96 #[.int .i64 x,.int .i64 ((N:Int)+1)] w λe w' =>
   e=.returned (.int .i64 (zW x ((N:Int)+1)))/\Below w.heap.size w w':=by
 have CS:=zbY x M hM h0 h1;have M0:0<=M:=hM ▸ zbc x;have M1:M<=9223372036854775808:=hM ▸ zcs h0 (by omega);have HM:=za hM;clear hM;have t1:decide ((N:Int)+1<1)=false:=decide_eq_false (by omega);have t2:decide ((64:Int)<(N:Int)+1)=false:=decide_eq_false (by omega)
 go_enter Tryz.func96,Tryz.ntmps96
 go_wp2
 go_loopw [21] (λi wr=>∃ j:Nat,j<=N/\i=.int .i64 j/\BigAt wr w.heap.size (2 ^ j)/\Below w.heap.size w wr) (λi _=>N-(intOf i).toNat)
 case atStart=>exact⟨0,by omega,rfl,BigAt.new w (h:=0) (l:=1) (X:=2 ^ 0) rfl rfl _,zg _ _⟩
 case round =>
  obtain⟨j,hj,rfl,g,hb⟩:=hrel
  by_cases hlt:j<N
  ·have G:=za g;have HB:=za hb;obtain⟨c0,c1,f0,f1,lt⟩:=g;clear hb;have CT:=zhb (2 ^ j) (Int.le_of_lt (zK j)) (zmk (by omega));rw[←zlE]at CT
   go_wp2_with (first
    |(go_at_call 131;(with_reducible refine(CT _).mono ?_);rintro e w3 ⟨rfl,hb3⟩;have q3:=cb hb3 lt c0;have q4:=cb hb3 lt c1;have t3:=fb hb3 lt f0;have t4:=fb hb3 lt f1))
   go_roundw
   case rel=>exact⟨j+1,by omega,by go_num,(G.out.below hb3).set _,((HB.out.trans (hb3.mono (by have:=HB.out.size;omega))).setCell (by show _<=w.heap.size;omega) _).setCell (by show _<=w.heap.size;omega) _⟩
   case measure=>simp[intOf];omega
  ·obtain rfl:N=j:=by omega
   clear hj hlt;have G:=za g;have HB:=za hb;have zs:=hb.size;clear g hb
   go_wp2_with (first
    |(go_at_call 132;(with_reducible refine(CS _).mono ?_);rintro e w' ⟨rfl,rfl⟩))
   rename World=>W1
   go_loopw [8] (λi wq=>∃ j:Nat,N+1<=j/\j<=128/\i=.int .i64 ((j:Int)-1)/\ShSt w wq w.heap.size W1.heap.size (W1.heap.size+1) (2 ^ N) M (M / 2 ^ j)) (λi _=>(intOf i+1).toNat)
   case atStart=>exact⟨128,by omega,by omega,rfl,ShSt.zero G.out HB.out M0 (by omega)⟩
   case round =>
    obtain⟨j,hj0,hj1,rfl,hst⟩:=hrel;have lt0:=G.out.lt;have ST:=za hst
    by_cases hlt:N+1<j
    ·obtain⟨k,rfl⟩:∃ k,j=k+1:=⟨j-1,by omega⟩;have ek:((k+1:Nat):Int)-1=(k:Int):=by omega
     rw[ek];clear ek;have P0:0<=M / 2 ^ (k+1):=Int.ediv_nonneg M0 (Int.le_of_lt (zK _));have P1:=zf4 k M0 (show M<340282366920938463463374607431768211456 by omega);have CB:=zfI M k M0 (by omega) (by omega);have CT:=zei (M / 2 ^ (k+1)) (zaS M k) P0 P1 (zfs M k) (zfp M k);rw[←zd3]at CT;obtain⟨-,⟨m0,m1,-,-,ml⟩,⟨q0,q1,qf0,qf1,ql⟩,-⟩:=hst;clear P0 P1 CS;go_wp2
     go_region_with
      (first
       |(go_at_call 133;refine(CB _).mono ?_;rintro e w1 ⟨rfl,hb1⟩;have s0:=cb hb1 ql q0;have s1:=cb hb1 ql q1)
       |(go_at_call 131;refine(CT _).mono ?_;rintro e w2 ⟨rfl,hb2⟩;have z1:=Nat.lt_of_lt_of_le ql hb1.size;have s2:=cb hb2 z1 s0;have s3:=cb hb2 z1 s1;have t2:=fb hb2 z1 (fb hb1 ql qf0);have t3:=fb hb2 z1 (fb hb1 ql qf1)))
     all_goals
      go_wp2
      go_roundw
      case rel=>exact⟨k,by omega,by omega,rfl,((ST.out.drew.below hb1).below hb2).setZ _ (by omega) (by omega) (by omega)⟩
      case measure=>simp[intOf]
    ·obtain rfl:j=N+1:=by omega
     have ek:((N+1:Nat):Int)-1=(N:Int):=by omega
     rw[ek];clear ek hj0 hj1 hlt;obtain⟨-,⟨m0,m1,-,-,ml⟩,⟨-,-,-,-,ql⟩,-⟩:=hst;go_wp2
     rename World=>W2
     have z2:W2.heap.size<(W2.alloc (.cells #[.int .u64 (hi M),.int .u64 (lo M)] 202)).heap.size:=zxb _ _
     go_loopw [10] (λi wq=>∃ j:Nat,N+1<=j/\j<=128/\i=.int .i64 j/\ShSt w wq w.heap.size W1.heap.size (W1.heap.size+1) (2 ^ N) M (M / 2 ^ (N+1))/\BigAt wq W2.heap.size (zct M (N+1) j)) (λi _=>128-(intOf i).toNat)
     case atStart=>exact⟨N+1,by omega,by omega,by go_num,ST.out.alloc _,by rw[zrn];exact BigAt.new W2 rfl rfl _⟩
     case round =>
      obtain⟨i,hi0,hi1,rfl,hst,hr⟩:=hrel;have S3:=za hst;have R3:=za hr;obtain⟨⟨p0,p1,-,-,pl⟩,⟨m0,m1,-,-,ml⟩,⟨q0,q1,qf0,qf1,ql⟩,hb⟩:=hst;obtain⟨r0,r1,rf0,rf1,rl⟩:=hr;clear hb
      by_cases hlt:i<128
      ·have CB:=zfI M i M0 (by omega) hlt
       by_cases hbit:zaS M i=1
       ·rw[hbit]at CB;have HB:=za hbit;clear hbit
        go_wp2_with (first
         |(go_at_call 133;(with_reducible refine(CB _).mono ?_);rintro e w4 ⟨rfl,b4⟩))
        have s4:=b4.size
        rename World=>W4
        have CM:=zlr (zct M (N+1) i) (2 ^ i) (Int.le_of_lt (zK i)) (zmu (N+1) i M0 HB.out).1 (by have:=zw6 (N+1) i M0;omega);rw[(zmu (N+1) i M0 HB.out).2]at CM;have S4:=za ((S3.out.below b4).alloc (.cells #[.int .u64 0,.int .u64 1] 202));have R4:=za ((R3.out.below b4).alloc (.cells #[.int .u64 0,.int .u64 1] 202));have P4:=za (BigAt.new W4 (h:=0) (l:=1) (X:=2 ^ 0) rfl rfl 202);clear p0 p1 m0 m1 q0 q1 qf0 qf1 r0 r1 rf0 rf1 CB
        go_loopw [52] (λv wq=>∃ j:Nat,j<=i/\v=.int .i64 j/\ShSt w wq w.heap.size W1.heap.size (W1.heap.size+1) (2 ^ N) M (M / 2 ^ (N+1))/\BigAt wq W2.heap.size (zct M (N+1) i)/\BigAt wq W4.heap.size (2 ^ j)) (λv _=>i-(intOf v).toNat)
        case atStart=>exact⟨0,by omega,rfl,S4.out,R4.out,P4.out⟩
        case round =>
         obtain⟨j,hj,rfl,hs5,hr5,hp5⟩:=hrel;have S5:=za hs5;have R5:=za hr5;have P5:=za hp5;obtain⟨a0,a1,af0,af1,al⟩:=hp5;obtain⟨r0,r1,rf0,rf1,rl5⟩:=hr5;clear hs5
         by_cases hji:j<i
         ·have CT:=zhb (2 ^ j) (Int.le_of_lt (zK j)) (zmk (by omega));rw[←zlE]at CT
          go_wp2_with (first
           |(go_at_call 131;(with_reducible refine(CT _).mono ?_);rintro e w5 ⟨rfl,b5⟩;have q3:=cb b5 al a0;have q4:=cb b5 al a1;have t3:=fb b5 al af0;have t4:=fb b5 al af1))
          go_roundw
          case rel=>exact⟨j+1,by omega,by go_num,(S5.out.below b5).far (by omega) (by omega) (by omega) (by omega),(R5.out.below b5).far (by omega),(P5.out.below b5).set _⟩
          case measure=>simp[intOf];omega
         ·obtain rfl:i=j:=by omega
          go_wp2_with (first
           |(go_at_call 134;(with_reducible refine(CM _).mono ?_);rintro e w5 ⟨rfl,b5⟩;have q3:=cb b5 rl5 r0;have q4:=cb b5 rl5 r1;have t3:=fb b5 rl5 rf0;have t4:=fb b5 rl5 rf1))
          go_roundw
          case rel=>exact⟨i+1,by omega,by omega,by go_num,(S5.out.below b5).far (by omega) (by omega) (by omega) (by omega),(R5.out.below b5).set _⟩
          case measure=>simp[intOf];omega
       ·have hb0:zaS M i=0:=by have:=zfs M i;have:=zfp M i;omega
        rw[hb0]at CB;have HB:=za hb0;clear hbit hb0
        go_wp2_with (first
         |(go_at_call 133;(with_reducible refine(CB _).mono ?_);rintro e w4 ⟨rfl,b4⟩))
        go_roundw
        case rel=>exact⟨i+1,by omega,by omega,by go_num,S3.out.below b4,by have e:=zlt M (N+1) i;rw[HB.out,Int.mul_zero,Int.add_zero]at e;rw[←e];exact R3.out.below b4⟩
        case measure=>simp[intOf];omega
      ·obtain rfl:i=128:=by omega
       rw[zva (N+1) M0 (by omega)]at R3 r0 r1;have RR:=za1 (x:=M) (zK (N+1));have hf:=zK N;have hf2:=zxe (i:=N) (by omega);have QQ:=zcn M0 (zK (N+1));have RM:M % 2 ^ (N+1)<=M:=by
        have e2:=Int.mul_ediv_add_emod M (2 ^ (N+1));have:=Int.mul_nonneg (Int.le_of_lt (zK (N+1))) (Int.ediv_nonneg M0 (Int.le_of_lt (zK (N+1))));omega
       obtain⟨res0,res1⟩:=ztF HM.out h0 h1 hN;obtain⟨RR0,-⟩:=RR;obtain⟨QQ0,QQ1⟩:=QQ;clear m0 m1 p0 p1 q0 q1 qf0 qf1 r0 r1 rf0 rf1 hlt CS hi0 hi1;have P3:=S3.out.x;have Q3:=S3.out.z;obtain⟨p0,p1,-,-,pl⟩:=P3;obtain⟨q0,q1,qf0,qf1,ql⟩:=Q3;have R3':=R3.out;obtain⟨r0,r1,-,-,rl⟩:=R3';generalize (2:Int) ^ N=hf' at *;generalize M % 2 ^ (N+1)=R at *;generalize M / 2 ^ (N+1)=Q at *
       by_cases hx:x<0
       ·by_cases c1:hf'<R
        ·have CL:=zbQ R hf' (by omega) (by omega) (by omega) (by omega);rw[show decide (R<hf')=false from decide_eq_false (by omega)]at CL;have CK:=zbQ hf' R (by omega) (by omega) (by omega) (by omega);rw[show decide (hf'<R)=true from decide_eq_true (by omega)]at CK;have CP:=zd6 Q QQ0 (by omega);have CH:=zav (Q+1) true (by omega) (by omega);have da:decide (x<0)=true:=decide_eq_true (by omega);have res:=za (res1 hx);rw[if_pos c1]at res;clear res0 res1
         go_wp2_with (first
          |(go_at_call 135;(with_reducible refine(CL _).mono ?_);rintro e w5 ⟨rfl,b5⟩;have pl5:=Nat.lt_of_lt_of_le pl b5.size;have p0_5:=cb b5 pl p0;have p1_5:=cb b5 pl p1;have ql5:=Nat.lt_of_lt_of_le ql b5.size;have q0_5:=cb b5 ql q0;have q1_5:=cb b5 ql q1;have qf0_5:=fb b5 ql qf0;have qf1_5:=fb b5 ql qf1;have rl5:=Nat.lt_of_lt_of_le rl b5.size;have r0_5:=cb b5 rl r0;have r1_5:=cb b5 rl r1;have S5:=za (S3.out.below b5))
          |(go_at_call 135;(with_reducible refine(CK _).mono ?_);rintro e w6 ⟨rfl,b6⟩;have pl6:=Nat.lt_of_lt_of_le pl5 b6.size;have p0_6:=cb b6 pl5 p0_5;have p1_6:=cb b6 pl5 p1_5;have ql6:=Nat.lt_of_lt_of_le ql5 b6.size;have q0_6:=cb b6 ql5 q0_5;have q1_6:=cb b6 ql5 q1_5;have qf0_6:=fb b6 ql5 qf0_5;have qf1_6:=fb b6 ql5 qf1_5;have rl6:=Nat.lt_of_lt_of_le rl5 b6.size;have r0_6:=cb b6 rl5 r0_5;have r1_6:=cb b6 rl5 r1_5;have S6:=za (S5.out.below b6))
          |(go_at_call 136;(with_reducible refine(CP _).mono ?_);rintro e w7 ⟨rfl,b7⟩;have ql7:=Nat.lt_of_lt_of_le ql6 b7.size;have q0_7:=cb b7 ql6 q0_6;have q1_7:=cb b7 ql6 q1_6;have qf0_7:=fb b7 ql6 qf0_6;have qf1_7:=fb b7 ql6 qf1_6;have S7:=za (ShSt.setZ (Q+1) (S6.out.below b7) (by omega) (by omega) (by omega));have q0_8:=S7.out.z.c0;have q1_8:=S7.out.z.c1)
          |(go_at_call 137;(with_reducible refine(CH _).mono ?_);rintro e w9 ⟨rfl,b9⟩))
         go_ret;exact⟨zm (by rw[res.out];simp[zbU]),bt S7.out.hb b9⟩
        ·by_cases c2:hf'=R
         ·have c3:R<=hf':=by omega
          have c4:hf'<=R:=by omega
          clear c2;have CL:=zbQ R hf' (by omega) (by omega) (by omega) (by omega);rw[show decide (R<hf')=false from decide_eq_false (by omega)]at CL;have CK:=zbQ hf' R (by omega) (by omega) (by omega) (by omega);rw[show decide (hf'<R)=false from decide_eq_false (by omega)]at CK;have CH:=zav Q true (by omega) (by omega);have da:decide (x<0)=true:=decide_eq_true (by omega);have res:=za (res1 hx);rw[if_neg c1]at res;clear res0 res1
          go_wp2_with (first
           |(go_at_call 135;(with_reducible refine(CL _).mono ?_);rintro e w5 ⟨rfl,b5⟩;have pl5:=Nat.lt_of_lt_of_le pl b5.size;have p0_5:=cb b5 pl p0;have p1_5:=cb b5 pl p1;have ql5:=Nat.lt_of_lt_of_le ql b5.size;have q0_5:=cb b5 ql q0;have q1_5:=cb b5 ql q1;have qf0_5:=fb b5 ql qf0;have qf1_5:=fb b5 ql qf1;have rl5:=Nat.lt_of_lt_of_le rl b5.size;have r0_5:=cb b5 rl r0;have r1_5:=cb b5 rl r1;have S5:=za (S3.out.below b5))
           |(go_at_call 135;(with_reducible refine(CK _).mono ?_);rintro e w6 ⟨rfl,b6⟩;have pl6:=Nat.lt_of_lt_of_le pl5 b6.size;have p0_6:=cb b6 pl5 p0_5;have p1_6:=cb b6 pl5 p1_5;have ql6:=Nat.lt_of_lt_of_le ql5 b6.size;have q0_6:=cb b6 ql5 q0_5;have q1_6:=cb b6 ql5 q1_5;have qf0_6:=fb b6 ql5 qf0_5;have qf1_6:=fb b6 ql5 qf1_5;have rl6:=Nat.lt_of_lt_of_le rl5 b6.size;have r0_6:=cb b6 rl5 r0_5;have r1_6:=cb b6 rl5 r1_5;have S6:=za (S5.out.below b6))
           |(go_at_call 137;(with_reducible refine(CH _).mono ?_);rintro e w9 ⟨rfl,b9⟩))
          go_ret;exact⟨zm (by rw[res.out];simp[zbU]),bt S6.out.hb b9⟩
         ·have CL:=zbQ R hf' (by omega) (by omega) (by omega) (by omega);rw[show decide (R<hf')=true from decide_eq_true (by omega)]at CL;have CK:=zbQ hf' R (by omega) (by omega) (by omega) (by omega);rw[show decide (hf'<R)=false from decide_eq_false (by omega)]at CK;have CH:=zav Q true (by omega) (by omega);have da:decide (x<0)=true:=decide_eq_true (by omega);have res:=za (res1 hx);rw[if_neg c1]at res;clear res0 res1
          go_wp2_with (first
           |(go_at_call 135;(with_reducible refine(CL _).mono ?_);rintro e w5 ⟨rfl,b5⟩;have pl5:=Nat.lt_of_lt_of_le pl b5.size;have p0_5:=cb b5 pl p0;have p1_5:=cb b5 pl p1;have ql5:=Nat.lt_of_lt_of_le ql b5.size;have q0_5:=cb b5 ql q0;have q1_5:=cb b5 ql q1;have qf0_5:=fb b5 ql qf0;have qf1_5:=fb b5 ql qf1;have rl5:=Nat.lt_of_lt_of_le rl b5.size;have r0_5:=cb b5 rl r0;have r1_5:=cb b5 rl r1;have S5:=za (S3.out.below b5))
           |(go_at_call 135;(with_reducible refine(CK _).mono ?_);rintro e w6 ⟨rfl,b6⟩;have pl6:=Nat.lt_of_lt_of_le pl5 b6.size;have p0_6:=cb b6 pl5 p0_5;have p1_6:=cb b6 pl5 p1_5;have ql6:=Nat.lt_of_lt_of_le ql5 b6.size;have q0_6:=cb b6 ql5 q0_5;have q1_6:=cb b6 ql5 q1_5;have qf0_6:=fb b6 ql5 qf0_5;have qf1_6:=fb b6 ql5 qf1_5;have rl6:=Nat.lt_of_lt_of_le rl5 b6.size;have r0_6:=cb b6 rl5 r0_5;have r1_6:=cb b6 rl5 r1_5;have S6:=za (S5.out.below b6))
           |(go_at_call 137;(with_reducible refine(CH _).mono ?_);rintro e w9 ⟨rfl,b9⟩))
          go_ret;exact⟨zm (by rw[res.out];simp[zbU]),bt S6.out.hb b9⟩
       ·by_cases c1:hf'<=R
        ·have CL:=zbQ R hf' (by omega) (by omega) (by omega) (by omega);rw[show decide (R<hf')=false from decide_eq_false (by omega)]at CL;have CP:=zd6 Q QQ0 (by omega);have CH:=zav (Q+1) false (by omega) (by omega);have da:decide (x<0)=false:=decide_eq_false (by omega);have res:=za (res0 (by omega));rw[if_pos c1]at res;clear res0 res1
         go_wp2_with (first
          |(go_at_call 135;(with_reducible refine(CL _).mono ?_);rintro e w5 ⟨rfl,b5⟩;have pl5:=Nat.lt_of_lt_of_le pl b5.size;have p0_5:=cb b5 pl p0;have p1_5:=cb b5 pl p1;have ql5:=Nat.lt_of_lt_of_le ql b5.size;have q0_5:=cb b5 ql q0;have q1_5:=cb b5 ql q1;have qf0_5:=fb b5 ql qf0;have qf1_5:=fb b5 ql qf1;have rl5:=Nat.lt_of_lt_of_le rl b5.size;have r0_5:=cb b5 rl r0;have r1_5:=cb b5 rl r1;have S5:=za (S3.out.below b5))
          |(go_at_call 136;(with_reducible refine(CP _).mono ?_);rintro e w7 ⟨rfl,b7⟩;have ql7:=Nat.lt_of_lt_of_le ql5 b7.size;have q0_7:=cb b7 ql5 q0_5;have q1_7:=cb b7 ql5 q1_5;have qf0_7:=fb b7 ql5 qf0_5;have qf1_7:=fb b7 ql5 qf1_5;have S7:=za (ShSt.setZ (Q+1) (S5.out.below b7) (by omega) (by omega) (by omega));have q0_8:=S7.out.z.c0;have q1_8:=S7.out.z.c1)
          |(go_at_call 137;(with_reducible refine(CH _).mono ?_);rintro e w9 ⟨rfl,b9⟩))
         go_ret;exact⟨zm (by rw[res.out];simp[zbU]),bt S7.out.hb b9⟩
        ·have CL:=zbQ R hf' (by omega) (by omega) (by omega) (by omega);rw[show decide (R<hf')=true from decide_eq_true (by omega)]at CL;have CH:=zav Q false (by omega) (by omega);have da:decide (x<0)=false:=decide_eq_false (by omega);have res:=za (res0 (by omega));rw[if_neg c1]at res;clear res0 res1
         go_wp2_with (first
          |(go_at_call 135;(with_reducible refine(CL _).mono ?_);rintro e w5 ⟨rfl,b5⟩;have pl5:=Nat.lt_of_lt_of_le pl b5.size;have p0_5:=cb b5 pl p0;have p1_5:=cb b5 pl p1;have ql5:=Nat.lt_of_lt_of_le ql b5.size;have q0_5:=cb b5 ql q0;have q1_5:=cb b5 ql q1;have qf0_5:=fb b5 ql qf0;have qf1_5:=fb b5 ql qf1;have rl5:=Nat.lt_of_lt_of_le rl b5.size;have r0_5:=cb b5 rl r0;have r1_5:=cb b5 rl r1;have S5:=za (S3.out.below b5))
          |(go_at_call 137;(with_reducible refine(CH _).mono ?_);rintro e w9 ⟨rfl,b9⟩))
         go_ret;exact⟨zm (by rw[res.out];simp[zbU]),bt S5.out.hb b9⟩
theorem zvG (r b:Int) (hb:b<0) (b0 : -9223372036854775808<=b) (r0:b<r) (r1:r<=0) (t:Bool) (ht:decide (2*r<=b)=t) (w:World) :
  Calls Tryz.prog 216 #[.int .i64 r,.int .i64 b] w λe w'=>e=.returned (.bool t)/\w=w':=by
 have T:=za ht;clear ht
 go_enter Tryz.func216,Tryz.ntmps216
 go_wp2;go_ret;exact⟨zag ((decide_eq_decide.2 (by omega)).trans T.out),rfl⟩
theorem zvD (r b:Int) (hb:0<b) (b0:b<=9223372036854775807) (r0:0<=r) (r1:r<b) (t:Bool) (ht:decide (b<=2*r)=t) (w:World) :
  Calls Tryz.prog 216 #[.int .i64 r,.int .i64 b] w λe w'=>e=.returned (.bool t)/\w=w':=by
 have T:=za ht;clear ht;have hb':¬b<0:=by omega
 go_enter Tryz.func216,Tryz.ntmps216
 go_wp2;go_ret;exact⟨zag ((decide_eq_decide.2 (by omega)).trans T.out),rfl⟩
theorem zrA (a b:Int) (h0 : -9223372036854775808<=a) (h1:a<=9223372036854775807) (k0 : -9223372036854775808<=b) (k1:b<=9223372036854775807) (w:World) :
  Calls Tryz.prog 186 #[.int .i64 a,.int .i64 b] w λe w'=>e=.returned (.int .i64 (zM a b))/\w=w':=by
 have CF:=zdh a b h0 h1 k0 k1;have CM:=zft a b h0 h1 k0 k1
 by_cases hb:b=0
 ·subst hb;rw[show zcZ a 0=0 from if_pos rfl]at CF;rw[show zkW a 0=0 from if_pos rfl]at CM;rw[show zM a 0=0 from if_pos rfl]
  go_enter Tryz.func186,Tryz.ntmps186
  go_wp2_with (first
   |(go_at_call 168;(with_reducible refine(CF _).mono ?_);rintro e w' ⟨rfl,rfl⟩)
   |(go_at_call 122;(with_reducible refine(CM _).mono ?_);rintro e w' ⟨rfl,rfl⟩))
  go_ret;exact⟨rfl,rfl⟩
 rw[zdl hb]at CF;rw[ziG hb]at CM;rw[zcg hb];have I:=zlf a b
 by_cases hr:zaC a b=0
 ·have e:zaz a b=zan a b:=by
   by_cases hn:b<0
   ·rw[znQ hn,hr,if_neg (by omega),Int.add_zero]
   ·rw[znA (by omega),hr,if_neg (by omega),Int.add_zero]
  rw[e];rw[hr]at CM;clear e I hr
  go_enter Tryz.func186,Tryz.ntmps186
  go_wp2_with (first
   |(go_at_call 168;(with_reducible refine(CF _).mono ?_);rintro e w' ⟨rfl,rfl⟩)
   |(go_at_call 122;(with_reducible refine(CM _).mono ?_);rintro e w' ⟨rfl,rfl⟩))
  go_ret;exact⟨rfl,rfl⟩
 have Q:=zqQ h0 h1 hb hr;rw[zH (by omega) (by omega)]at CF;have key:∃ t:Bool,zaz a b=zan a b+(if t=true then 1 else 0)/\(∀ w:World,Calls Tryz.prog 216 #[.int .i64 (zaC a b),.int .i64 b] w λe w'=>e=.returned (.bool t)/\w=w'):=by
  by_cases hn:b<0
  ·have i:=I.2 hn;refine⟨decide (2*zaC a b<=b),?_,λw=>zvG _ b hn k0 i.1 i.2 _ rfl w⟩;rw[znQ hn];simp only[decide_eq_true_eq]
  ·have i:=I.1 (by omega);refine⟨decide (b<=2*zaC a b),?_,λw=>zvD _ b (by omega) k1 i.1 i.2 _ rfl w⟩;rw[znA (by omega)];simp only[decide_eq_true_eq]
 obtain⟨t,et,CH⟩:=key;have hr':(zaC a b != 0)=true:=by simp[hr]
 clear hr I;rw[et];clear et;generalize zan a b=q at *;generalize zaC a b=r at *
 cases t
 ·rw[if_neg (by decide),Int.add_zero,zH (by omega) (by omega)]
  go_enter Tryz.func186,Tryz.ntmps186
  go_wp2_with (first
   |(go_at_call 168;(with_reducible refine(CF _).mono ?_);rintro e w' ⟨rfl,rfl⟩)
   |(go_at_call 122;(with_reducible refine(CM _).mono ?_);rintro e w' ⟨rfl,rfl⟩)
   |(go_at_call 216;(with_reducible refine(CH _).mono ?_);rintro e w' ⟨rfl,rfl⟩))
  go_ret;exact⟨rfl,rfl⟩
 ·rw[if_pos rfl,zH (by omega) (by omega)]
  go_enter Tryz.func186,Tryz.ntmps186
  go_wp2_with (first
   |(go_at_call 168;(with_reducible refine(CF _).mono ?_);rintro e w' ⟨rfl,rfl⟩)
   |(go_at_call 122;(with_reducible refine(CM _).mono ?_);rintro e w' ⟨rfl,rfl⟩)
   |(go_at_call 216;(with_reducible refine(CH _).mono ?_);rintro e w' ⟨rfl,rfl⟩))
  go_ret;exact⟨by first|rfl|exact zm (zbo (by omega) (by omega)),rfl⟩
theorem zfP (x n:Int) (h0 : -9223372036854775808<=x) (h1:x<=9223372036854775807) (w:World) :
  Calls Tryz.prog 96 #[.int .i64 x,.int .i64 n] w λe w'=>e=.returned (.int .i64 (zW x n))/\Below w.heap.size w w':=by
 by_cases hs:n<1
 ·rw[show zW x n=x from if_pos (by omega)];exact(zk1 x n hs w).mono λe w' ⟨he,hw⟩=>⟨he,hw ▸ Below.refl _ _⟩
 by_cases hg:64<n
 ·rw[show zW x n=0 from(if_neg (by omega)).trans (if_pos (by omega))];exact(zkH x n hg w).mono λe w' ⟨he,hw⟩=>⟨he,hw ▸ Below.refl _ _⟩
 obtain⟨N,rfl⟩:∃ N:Nat,n=(N:Int)+1:=⟨n.toNat-1,by omega⟩;exact zmg x _ N rfl h0 h1 (by omega) w
end Go.Proofs.YtlodkoimdoeopaaGreatDoor
namespace Go.Proofs.YtlodkoimdoeopaaGreatDoor
def zbO (x:Int):Int:=(x+170141183460469231731687303715884105728) % 340282366920938463463374607431768211456-170141183460469231731687303715884105728
theorem zeY {x:Int} (h0 : -170141183460469231731687303715884105728<=x) (h1:x<170141183460469231731687303715884105728):zbO x=x:=by unfold zbO;omega
theorem zqO {x:Int} (h0 : -170141183460469231731687303715884105728<=x) : -9223372036854775808<=hi x:=by unfold hi;omega
theorem znK {x:Int} (h1:x<170141183460469231731687303715884105728):hi x<=9223372036854775807:=by unfold hi;omega
theorem zxL (x y:Int):(lo x+lo y) % 18446744073709551616=lo (zbO (x+y)):=by unfold lo zbO;omega
theorem zyb (x y:Int):(hi x+hi y+(lo x+lo y) / 18446744073709551616+9223372036854775808) % 18446744073709551616-9223372036854775808=hi (zbO (x+y)):=by unfold hi lo zbO;omega
theorem zxP (x:Int):(0-lo x) % 18446744073709551616=lo (zbO (-x)):=by unfold lo zbO;omega
theorem zsH (x:Int):(0-hi x-(if 0<lo x then 1 else 0)+9223372036854775808) % 18446744073709551616-9223372036854775808=hi (zbO (-x)):=by unfold hi lo zbO;split<;>omega
theorem zuF (x y:Int):((hi x % 18446744073709551616+hi y % 18446744073709551616+(lo x+lo y) / 18446744073709551616) % 18446744073709551616+9223372036854775808) % 18446744073709551616-9223372036854775808=hi (zbO (x+y)):=by rw[←zyb];omega
theorem zwD {x:Int} (h:lo x=0):lo (zbO (-x))=0:=by unfold lo at h;unfold lo zbO;omega
theorem zwz {x:Int} (h:lo x=0):(-(hi x % 18446744073709551616) % 18446744073709551616+9223372036854775808) % 18446744073709551616-9223372036854775808=hi (zbO (-x)):=by rw[←zsH,if_neg (by omega)];omega
theorem zwC {x:Int} (_h:0<lo x) : -lo x % 18446744073709551616=lo (zbO (-x)):=by rw[←zxP];omega
theorem zxc {x:Int} (h:0<lo x):((-(hi x % 18446744073709551616)-1) % 18446744073709551616+9223372036854775808) % 18446744073709551616-9223372036854775808=hi (zbO (-x)):=by rw[←zsH,if_pos h];omega
theorem zwI {x:Int} (h0 : -9223372036854775808<=x) (h1:x<=9223372036854775807):x / 9223372036854775808=hi x:=by unfold hi;omega
theorem zmI (a b:Int) (k:Nat) (a0:0<=a) (a1:a*2 ^ k<18446744073709551616) (b0:0<=b) (b1:b<2 ^ k) (b2:b<18446744073709551616):bits .or .u64 (a*2 ^ k) b=a*2 ^ k+b:=by
 obtain⟨a,rfl⟩:=Int.eq_ofNat_of_zero_le a0;obtain⟨b,rfl⟩:=Int.eq_ofNat_of_zero_le b0;have hk:(2:Int) ^ k=((2 ^ k:Nat):Int):=by simp
 rw[hk]at a1 b1 ⊢;have e:(a:Int)*((2 ^ k:Nat):Int)=((a*2 ^ k:Nat):Int):=by simp
 rw[e]at a1 ⊢;rw[bits_or_u64_nat _ _ (by omega) (by omega)];have h:=Nat.two_pow_add_eq_or_of_lt (show b<2 ^ k by omega) a;rw[Nat.mul_comm a];omega
theorem zlB {n:Nat} (h:n<=64):(18446744073709551616:Int)=2 ^ n*2 ^ (64-n):=by
 have h2:(18446744073709551616:Int)=2 ^ (n+(64-n)):=by
  have:n+(64-n)=64:=by omega
  rw[this];rfl
 rw[h2,Int.pow_add]
theorem zvb {x:Int} {n:Nat} (h:64<=n):hi x / 2 ^ (n-64)=x / 2 ^ n:=by
 have h2:(2:Int) ^ n=18446744073709551616*2 ^ (n-64):=by
  have h2:(2:Int) ^ n=2 ^ (64+(n-64)):=by congr 1;omega
  rw[h2,Int.pow_add];rfl
 unfold hi;rw[h2,Int.ediv_ediv_of_nonneg (by decide)]
theorem zxg {x:Int} {n:Nat}:hi x / 2 ^ n=hi (x / 2 ^ n):=by
 unfold hi;rw[Int.ediv_ediv_of_nonneg (by decide),Int.ediv_ediv_of_nonneg (Int.le_of_lt (zK n)),Int.mul_comm]
theorem zxh {x:Int} {n:Nat} (h:n<=64):bits .or .u64 (IntKind.u64.wrap (IntKind.u64.wrap (hi x)*2 ^ (64-n))) (lo x / 2 ^ n)=lo (x / 2 ^ n):=by
 have e:=zlB h;have p:=zK n;have q:=zK (64-n);have l0:=lo0 x;have l1:=lo1 x;have b0:0<=lo x / 2 ^ n:=Int.ediv_nonneg l0 (Int.le_of_lt p);have b1:lo x / 2 ^ n<2 ^ (64-n):=Int.ediv_lt_of_lt_mul p (by rw[Int.mul_comm,←e];exact l1);have b2:lo x / 2 ^ n<18446744073709551616:=Int.lt_of_le_of_lt (Int.ediv_le_self _ l0) l1;have ed:x / 2 ^ n=hi x*2 ^ (64-n)+lo x / 2 ^ n:=by
  have hx:=hl x
  conv=>lhs;rw[←hx,e]
  rw[Int.mul_comm (2 ^ n) (2 ^ (64-n)),←Int.mul_assoc,Int.mul_comm,Int.mul_add_ediv_left _ _ (Int.ne_of_gt p)]
 rw[IntKind.wrap_u64,IntKind.wrap_u64];have ew:(hi x % 18446744073709551616*2 ^ (64-n)) % 18446744073709551616=(hi x % 2 ^ n)*2 ^ (64-n):=by
  conv=>lhs;rw[e]
  rw[Int.mul_comm (2 ^ n) (2 ^ (64-n)),Int.mul_comm _ (2 ^ (64-n)),Int.mul_emod_mul_of_pos _ _ q,Int.mul_comm]
  congr 1
  rw[Int.emod_emod_of_dvd];exact⟨2 ^ (64-n),Int.mul_comm _ _⟩
 rw[ew];have m:=za1 (x:=hi x) p;have hm:hi x % 2 ^ n*2 ^ (64-n)<18446744073709551616:=by
  rw[e];exact Int.mul_lt_mul_of_pos_right m.2 q
 rw[zmI _ _ _ m.1 hm b0 b1 b2];have hk:=Int.mul_ediv_add_emod (hi x) (2 ^ n);have et:hi x*2 ^ (64-n)=18446744073709551616*(hi x / 2 ^ n)+hi x % 2 ^ n*2 ^ (64-n):=by
  conv=>lhs;rw[←hk]
  rw[Int.add_mul,e,Int.mul_right_comm]
 have hle:(hi x % 2 ^ n+1)*2 ^ (64-n)<=18446744073709551616:=by
  rw[e];exact Int.mul_le_mul_of_nonneg_right (by omega) (Int.le_of_lt q)
 rw[Int.add_mul,Int.one_mul]at hle;have m0:=Int.mul_nonneg m.1 (Int.le_of_lt q);exact(ze6 (a:=x / 2 ^ n) (b:=18446744073709551616) (q:=hi x / 2 ^ n) (by rw[ed,et];omega) (by omega) (by omega)).symm
theorem zpT {x d:Int} (d0:0<d):hi x / d=hi (x / d)/\(hi x % d*18446744073709551616+lo x) / d=lo (x / d)/\(hi x % d*18446744073709551616+lo x) % d=x % d:=by
 have hx:=hl x;have l0:=lo0 x;have l1:=lo1 x;have e:=Int.mul_ediv_add_emod (hi x) d;have r:=za1 (x:=hi x) d0;generalize hi x % d=R at *;generalize hi x / d=Q at *;have e2:=Int.mul_ediv_add_emod (R*18446744073709551616+lo x) d;have r2:=za1 (x:=R*18446744073709551616+lo x) d0;have q1:(R*18446744073709551616+lo x) / d<18446744073709551616:=Int.ediv_lt_of_lt_mul d0 (by
  have:(R+1)*18446744073709551616<=d*18446744073709551616:=Int.mul_le_mul_of_nonneg_right (by omega) (by decide);rw[Int.mul_comm 18446744073709551616 d]at *;omega)
 have q0:0<=(R*18446744073709551616+lo x) / d:=Int.ediv_nonneg (by omega) (by omega);generalize (R*18446744073709551616+lo x) / d=q at *;generalize (R*18446744073709551616+lo x) % d=r at *;have ex:x=d*(Q*18446744073709551616+q)+r:=by
  rw[Int.mul_add,←Int.mul_assoc];generalize d*q=dq at *;have:d*Q*18446744073709551616=(hi x-R)*18446744073709551616:=by congr 1;omega
  rw[this];omega
 rw[zdR ex r2.1 r2.2,ze6 ex r2.1 r2.2];exact⟨zql rfl q0 q1,zq8 rfl q0 q1,rfl⟩
end Go.Proofs.YtlodkoimdoeopaaGreatDoor
namespace Go.Proofs.YtlodkoimdoeopaaGreatDoor
open Go.RowKit
theorem zg7 {p:Int} (h0 : -9223372036854775808<=p) (h1:p<=9223372036854775807):wrap64 p=p:=zbo h0 h1
theorem zgo (a b:Int):(a<0->b<0->a*b=zi a*zi b)/\(a<0->0<=b->a*b = -(zi a*zi b))/\(0<=a->b<0->a*b = -(zi a*zi b))/\(0<=a->0<=b->a*b=zi a*zi b):=by
 refine⟨λh k=>?_,λh k=>?_,λh k=>?_,λh k=>?_⟩
 ·rw[zaU h,zaU k,Int.neg_mul_neg]
 ·rw[zaU h,zaG k,Int.neg_mul,Int.neg_neg]
 ·rw[zaG h,zaU k,Int.mul_neg,Int.neg_neg]
 ·rw[zaG h,zaG k]
theorem zdE {a b:Int} (h0 : -9223372036854775808<=a) (h1:a<=9223372036854775807) (k0 : -9223372036854775808<=b) (k1:b<=9223372036854775807):0<=zi a*zi b/\zi a*zi b<=85070591730234615865843651857942052864:=by
 have a0:=zbc a;have b0:=zbc b;have a1:zi a<=9223372036854775808:=zcs h0 (by omega);have b1:zi b<=9223372036854775808:=zcs k0 (by omega);exact⟨Int.mul_nonneg a0 b0,by have:=Int.mul_le_mul a1 b1 b0 (by omega);omega⟩
theorem zip (x y:Int) (x0:0<=x) (x1:x<18446744073709551616) (y0:0<=y) (y1:y<18446744073709551616) (w:World) :
  Calls Tryz.prog 128 #[.int .u64 x,.int .u64 y] w λe w'=>e=.returned (.tuple #[.int .u64 (x*y / 18446744073709551616),.int .u64 (x*y % 18446744073709551616)])/\w=w':=by
 obtain⟨x,rfl⟩:=Int.eq_ofNat_of_zero_le x0;obtain⟨y,rfl⟩:=Int.eq_ofNat_of_zero_le y0;have h:=zld x y (by omega) (by omega) w
 simpa using h
set_option maxHeartbeats 1000000 in
theorem zqr (a b:Int) (h0 : -9223372036854775808<=a) (h1:a<=9223372036854775807) (k0 : -9223372036854775808<=b) (k1:b<=9223372036854775807) (w:World) :
  Calls Tryz.prog 193 #[.int .i64 a,.int .i64 b] w λe w'=>e=.returned (.int .i64 (zE (a*b)))/\w=w':=by
 have CA:=zi8 a h0 h1;have CB:=zi8 b k0 k1;have a0:=zbc a;have b0:=zbc b;have a1:zi a<=9223372036854775808:=zcs h0 (by omega);have b1:zi b<=9223372036854775808:=zcs k0 (by omega);have CM:=zip (zi a) (zi b) a0 (by omega) b0 (by omega);obtain⟨m1,m2,m3,m4⟩:=zgo a b;obtain⟨p0,p1⟩:=zdE h0 h1 k0 k1;generalize zi a*zi b=P at *;generalize zi a=A at *;generalize zi b=B at *;clear a0 b0 a1 b1;obtain⟨H,eH⟩:∃ H,H=P / 18446744073709551616:=⟨_,rfl⟩;obtain⟨L,eL⟩:∃ L,L=P % 18446744073709551616:=⟨_,rfl⟩;rw[←eH,←eL]at CM;have eP:H*18446744073709551616+L=P:=by omega
 have H0:0<=H:=by omega
 have L0:0<=L:=by omega
 have L1:L<18446744073709551616:=by omega
 have M1:=za m1;have M2:=za m2;have M3:=za m3;have M4:=za m4;have EP:=za eP;clear m1 m2 m3 m4 eP eH eL p0 p1
 by_cases ha:a<0
 ·by_cases hb:b<0
  ·have ga:a<0:=by omega
   have gb:b<0:=by omega
   have e:=M1.out ga gb;have da:decide (a<0)=true:=decide_eq_true (by omega);have db:decide (b<0)=true:=decide_eq_true (by omega)
   by_cases hH0:H=0
   ·by_cases hL:9223372036854775807<L
    ·rw[zbR (by have:=EP.out;omega)];clear ga gb e;have hH:(H != 0)=false:=by simp[hH0]
     go_enter Tryz.func193,Tryz.ntmps193
     go_wp2_with (first
      |(go_at_call 224;(with_reducible refine(CA _).mono ?_);rintro e w' ⟨rfl,rfl⟩)
      |(go_at_call 224;(with_reducible refine(CB _).mono ?_);rintro e w' ⟨rfl,rfl⟩)
      |(go_at_call 128;(with_reducible refine(CM _).mono ?_);rintro e w' ⟨rfl,rfl⟩))
     go_ret;exact⟨rfl,rfl⟩
    ·have e2:a*b=L:=by have:=EP.out;omega
     rw[e,←e,zH (by omega) (by omega)];have W:=za (show wrap64 (a*b)=a*b from zg7 (by omega) (by omega));clear e2;clear ga gb e;have hH:(H != 0)=false:=by simp[hH0]
     go_enter Tryz.func193,Tryz.ntmps193
     go_wp2_with (first
      |(go_at_call 224;(with_reducible refine(CA _).mono ?_);rintro e w' ⟨rfl,rfl⟩)
      |(go_at_call 224;(with_reducible refine(CB _).mono ?_);rintro e w' ⟨rfl,rfl⟩)
      |(go_at_call 128;(with_reducible refine(CM _).mono ?_);rintro e w' ⟨rfl,rfl⟩))
     go_ret;exact⟨zm (by first|rfl|exact W.out),rfl⟩
   ·rw[zbR (by have:=EP.out;omega)];clear ga gb e;have hH:(H != 0)=true:=by simp[hH0]
    go_enter Tryz.func193,Tryz.ntmps193
    go_wp2_with (first
     |(go_at_call 224;(with_reducible refine(CA _).mono ?_);rintro e w' ⟨rfl,rfl⟩)
     |(go_at_call 224;(with_reducible refine(CB _).mono ?_);rintro e w' ⟨rfl,rfl⟩)
     |(go_at_call 128;(with_reducible refine(CM _).mono ?_);rintro e w' ⟨rfl,rfl⟩))
    go_ret;exact⟨rfl,rfl⟩
  ·have ga:a<0:=by omega
   have gb:0<=b:=by omega
   have e:=M2.out ga gb;have da:decide (a<0)=true:=decide_eq_true (by omega);have db:decide (b<0)=false:=decide_eq_false (by omega)
   by_cases hH0:H=0
   ·by_cases hL:9223372036854775808<L
    ·rw[zcW (by have:=EP.out;omega)];clear ga gb e;have hH:(H != 0)=false:=by simp[hH0]
     go_enter Tryz.func193,Tryz.ntmps193
     go_wp2_with (first
      |(go_at_call 224;(with_reducible refine(CA _).mono ?_);rintro e w' ⟨rfl,rfl⟩)
      |(go_at_call 224;(with_reducible refine(CB _).mono ?_);rintro e w' ⟨rfl,rfl⟩)
      |(go_at_call 128;(with_reducible refine(CM _).mono ?_);rintro e w' ⟨rfl,rfl⟩))
     go_ret;exact⟨rfl,rfl⟩
    ·have e2:a*b = -L:=by have:=EP.out;omega
     rw[e,←e,zH (by omega) (by omega)];have W:=za (show wrap64 (a*b)=a*b from zg7 (by omega) (by omega));clear e2;clear ga gb e;have hH:(H != 0)=false:=by simp[hH0]
     go_enter Tryz.func193,Tryz.ntmps193
     go_wp2_with (first
      |(go_at_call 224;(with_reducible refine(CA _).mono ?_);rintro e w' ⟨rfl,rfl⟩)
      |(go_at_call 224;(with_reducible refine(CB _).mono ?_);rintro e w' ⟨rfl,rfl⟩)
      |(go_at_call 128;(with_reducible refine(CM _).mono ?_);rintro e w' ⟨rfl,rfl⟩))
     go_ret;exact⟨zm (by first|rfl|exact W.out),rfl⟩
   ·rw[zcW (by have:=EP.out;omega)];clear ga gb e;have hH:(H != 0)=true:=by simp[hH0]
    go_enter Tryz.func193,Tryz.ntmps193
    go_wp2_with (first
     |(go_at_call 224;(with_reducible refine(CA _).mono ?_);rintro e w' ⟨rfl,rfl⟩)
     |(go_at_call 224;(with_reducible refine(CB _).mono ?_);rintro e w' ⟨rfl,rfl⟩)
     |(go_at_call 128;(with_reducible refine(CM _).mono ?_);rintro e w' ⟨rfl,rfl⟩))
    go_ret;exact⟨rfl,rfl⟩
 ·by_cases hb:b<0
  ·have ga:0<=a:=by omega
   have gb:b<0:=by omega
   have e:=M3.out ga gb;have da:decide (a<0)=false:=decide_eq_false (by omega);have db:decide (b<0)=true:=decide_eq_true (by omega)
   by_cases hH0:H=0
   ·by_cases hL:9223372036854775808<L
    ·rw[zcW (by have:=EP.out;omega)];clear ga gb e;have hH:(H != 0)=false:=by simp[hH0]
     go_enter Tryz.func193,Tryz.ntmps193
     go_wp2_with (first
      |(go_at_call 224;(with_reducible refine(CA _).mono ?_);rintro e w' ⟨rfl,rfl⟩)
      |(go_at_call 224;(with_reducible refine(CB _).mono ?_);rintro e w' ⟨rfl,rfl⟩)
      |(go_at_call 128;(with_reducible refine(CM _).mono ?_);rintro e w' ⟨rfl,rfl⟩))
     go_ret;exact⟨rfl,rfl⟩
    ·have e2:a*b = -L:=by have:=EP.out;omega
     rw[e,←e,zH (by omega) (by omega)];have W:=za (show wrap64 (a*b)=a*b from zg7 (by omega) (by omega));clear e2;clear ga gb e;have hH:(H != 0)=false:=by simp[hH0]
     go_enter Tryz.func193,Tryz.ntmps193
     go_wp2_with (first
      |(go_at_call 224;(with_reducible refine(CA _).mono ?_);rintro e w' ⟨rfl,rfl⟩)
      |(go_at_call 224;(with_reducible refine(CB _).mono ?_);rintro e w' ⟨rfl,rfl⟩)
      |(go_at_call 128;(with_reducible refine(CM _).mono ?_);rintro e w' ⟨rfl,rfl⟩))
     go_ret;exact⟨zm (by first|rfl|exact W.out),rfl⟩
   ·rw[zcW (by have:=EP.out;omega)];clear ga gb e;have hH:(H != 0)=true:=by simp[hH0]
    go_enter Tryz.func193,Tryz.ntmps193
    go_wp2_with (first
     |(go_at_call 224;(with_reducible refine(CA _).mono ?_);rintro e w' ⟨rfl,rfl⟩)
     |(go_at_call 224;(with_reducible refine(CB _).mono ?_);rintro e w' ⟨rfl,rfl⟩)
     |(go_at_call 128;(with_reducible refine(CM _).mono ?_);rintro e w' ⟨rfl,rfl⟩))
    go_ret;exact⟨rfl,rfl⟩
  ·have ga:0<=a:=by omega
   have gb:0<=b:=by omega
   have e:=M4.out ga gb;have da:decide (a<0)=false:=decide_eq_false (by omega);have db:decide (b<0)=false:=decide_eq_false (by omega)
   by_cases hH0:H=0
   ·by_cases hL:9223372036854775807<L
    ·rw[zbR (by have:=EP.out;omega)];clear ga gb e;have hH:(H != 0)=false:=by simp[hH0]
     go_enter Tryz.func193,Tryz.ntmps193
     go_wp2_with (first
      |(go_at_call 224;(with_reducible refine(CA _).mono ?_);rintro e w' ⟨rfl,rfl⟩)
      |(go_at_call 224;(with_reducible refine(CB _).mono ?_);rintro e w' ⟨rfl,rfl⟩)
      |(go_at_call 128;(with_reducible refine(CM _).mono ?_);rintro e w' ⟨rfl,rfl⟩))
     go_ret;exact⟨rfl,rfl⟩
    ·have e2:a*b=L:=by have:=EP.out;omega
     rw[e,←e,zH (by omega) (by omega)];have W:=za (show wrap64 (a*b)=a*b from zg7 (by omega) (by omega));clear e2;clear ga gb e;have hH:(H != 0)=false:=by simp[hH0]
     go_enter Tryz.func193,Tryz.ntmps193
     go_wp2_with (first
      |(go_at_call 224;(with_reducible refine(CA _).mono ?_);rintro e w' ⟨rfl,rfl⟩)
      |(go_at_call 224;(with_reducible refine(CB _).mono ?_);rintro e w' ⟨rfl,rfl⟩)
      |(go_at_call 128;(with_reducible refine(CM _).mono ?_);rintro e w' ⟨rfl,rfl⟩))
     go_ret;exact⟨zm (by first|rfl|exact W.out),rfl⟩
   ·rw[zbR (by have:=EP.out;omega)];clear ga gb e;have hH:(H != 0)=true:=by simp[hH0]
    go_enter Tryz.func193,Tryz.ntmps193
    go_wp2_with (first
     |(go_at_call 224;(with_reducible refine(CA _).mono ?_);rintro e w' ⟨rfl,rfl⟩)
     |(go_at_call 224;(with_reducible refine(CB _).mono ?_);rintro e w' ⟨rfl,rfl⟩)
     |(go_at_call 128;(with_reducible refine(CM _).mono ?_);rintro e w' ⟨rfl,rfl⟩))
    go_ret;exact⟨rfl,rfl⟩
end Go.Proofs.YtlodkoimdoeopaaGreatDoor
