/- Parts, joined. -/
import Derived.Test.YtlodkoimdoeopaaGreatDoorQ03
import Derived.Test.YtlodkoimdoeopaaGreatDoorQ11
import Derived.Test.YtlodkoimdoeopaaGreatDoorQ02
import Derived.Test.YtlodkoimdoeopaaGreatDoorRows
import Derived.Test.YtlodkoimdoeopaaGreatDoorQ12
import Derived.Test.YtlodkoimdoeopaaGreatDoorQ08
import Derived.ProofKit
import Derived.LaidMore
import Derived.OpenShut
import Derived.ChangeMaps5
import Derived.Laws.Strings
import Derived.Lib.LazyBuf
import Derived.BigQuiet
import Derived.Shelf.SlSortCmp.Insertion
import Derived.Sort.Statements
namespace Go.Proofs.YtlodkoimdoeopaaGreatDoor
open Go.RowKit
theorem zfj (a b:Int) (h0 : -9223372036854775808<=a) (h1:a<=9223372036854775807) (k0 : -9223372036854775808<=b) (k1:b<=9223372036854775807) (w:World) :
  Calls Tryz.prog 82 #[.int .i64 a,.int .i64 b] w λe w'=>e=.returned (.int .i64 (zE (a+b)))/\w=w':=by
 by_cases hp:0<b
 ·by_cases hc:9223372036854775807-b<a
  ·rw[zbU (by omega)]
   go_enter Tryz.func82,Tryz.ntmps82
   go_wp2;go_ret;exact⟨rfl,rfl⟩
  ·rw[zH (by omega) (by omega)]
   go_enter Tryz.func82,Tryz.ntmps82
   go_wp2;go_ret;exact⟨rfl,rfl⟩
 by_cases hn:b<0
 ·by_cases hc:a < -9223372036854775808-b
  ·rw[zcY (by omega)]
   go_enter Tryz.func82,Tryz.ntmps82
   go_wp2;go_ret;exact⟨rfl,rfl⟩
  ·rw[zH (by omega) (by omega)]
   go_enter Tryz.func82,Tryz.ntmps82
   go_wp2;go_ret;exact⟨rfl,rfl⟩
 ·obtain rfl:b=0:=by omega
  rw[zH (by omega) (by omega)]
  go_enter Tryz.func82,Tryz.ntmps82
  go_wp2;go_ret;exact⟨by first|rfl|simp,rfl⟩
def zeC (x low high:Int):Int:=if x<low\/high<low then low else if high<x then high else x
theorem zfN (x l h:Int) (w:World) :
  Calls Tryz.prog 123 #[.int .i64 x,.int .i64 l,.int .i64 h] w λe w'=>e=.returned (.int .i64 (zeC x l h))/\w=w':=by
 unfold zeC
 by_cases c1:x<l
 ·rw[if_pos (Or.inl c1)]
  go_enter Tryz.func123,Tryz.ntmps123
  go_wp2;go_ret;exact⟨rfl,rfl⟩
 by_cases c2:h<l
 ·rw[if_pos (Or.inr c2)]
  go_enter Tryz.func123,Tryz.ntmps123
  go_wp2;go_ret;exact⟨rfl,rfl⟩
 rw[if_neg (by omega)]
 by_cases c3:h<x
 ·rw[if_pos c3]
  go_enter Tryz.func123,Tryz.ntmps123
  go_wp2;go_ret;exact⟨rfl,rfl⟩
 ·rw[if_neg c3]
  go_enter Tryz.func123,Tryz.ntmps123
  go_wp2;go_ret;exact⟨rfl,rfl⟩
theorem zmo {a b:Int} (hb:0<b):zkB a b=a % b:=by
 rw[zij (by omega)];unfold zaH;rw[if_neg (by omega)]
theorem zfm (p:Int) (p0:0<=p) (p1:p<=2) (w:World) :
  Calls Tryz.prog 100 #[.int .i64 p] w λe w'=>e=.returned (.bool true)/\w=w':=by
 go_enter Tryz.func100,Tryz.ntmps100
 go_wp2;go_ret
 first|exact⟨rfl,rfl⟩|exact⟨zU (decide_eq_true (by omega)),rfl⟩
theorem zla (p:Int) (h:p<0\/2<p) (w:World) :
  Calls Tryz.prog 100 #[.int .i64 p] w λe w'=>e=.returned (.bool false)/\w=w':=by
 rcases h with h|h
 all_goals
  go_enter Tryz.func100,Tryz.ntmps100
  go_wp2;go_ret
  first|exact⟨rfl,rfl⟩|exact⟨zU (decide_eq_false (by omega)),rfl⟩
theorem zrE (n:Int) (n0:1<=n) (n1:n<=65536) (w:World) :
  Calls Tryz.prog 121 #[.int .i64 n] w λe w'=>e=.returned (.bool true)/\w=w':=by
 go_enter Tryz.func121,Tryz.ntmps121
 go_wp2;go_ret
 first|exact⟨rfl,rfl⟩|exact⟨zU (decide_eq_true (by omega)),rfl⟩
theorem zvM (n:Int) (h:n<1\/65536<n) (w:World) :
  Calls Tryz.prog 121 #[.int .i64 n] w λe w'=>e=.returned (.bool false)/\w=w':=by
 rcases h with h|h
 all_goals
  go_enter Tryz.func121,Tryz.ntmps121
  go_wp2;go_ret
  first|exact⟨rfl,rfl⟩|exact⟨zU (decide_eq_false (by omega)),rfl⟩
theorem zpH (j n:Int) (n0:1<=n):zeC j 0 (n-1)=zc7 j n:=by
 unfold zeC zc7
 by_cases h0:j<0
 ·rw[if_pos (Or.inl h0),if_pos h0]
 ·rw[if_neg (by omega),if_neg h0]
  by_cases h1:n<=j
  ·rw[if_pos (by omega),if_pos h1]
  ·rw[if_neg (by omega),if_neg h1]
theorem zmv (p j n:Int) (h0 : -9223372036854775808<=j) (h1:j<=9223372036854775807) (w:World) :
  Calls Tryz.prog 81 #[.int .i64 p,.int .i64 j,.int .i64 n] w λe w'=>e=.returned (.int .i64 (atF p j n))/\w=w':=by
 by_cases hp:0<=p/\p<=2
 ·obtain⟨p0,p1⟩:=hp;have K:=λw=>zfm p p0 p1 w
  by_cases hn:1<=n/\n<=65536
  ·obtain⟨n0,n1⟩:=hn;have S:=λw=>zrE n n0 n1 w
   by_cases e1:p=1
   ·subst e1;rw[zjB n0 n1];unfold zcK;have CM:=λw=>zfq j (2*n) h0 h1 (by omega) (by omega) w
    rw[zmo (by omega)]at CM;have t0:=Int.emod_nonneg j (show 2*n≠0 by omega);have t1:=Int.emod_lt_of_pos j (show 0<2*n by omega);generalize j % (2*n)=t at *
    by_cases ht:t<n
    ·rw[if_pos ht]
     go_enter Tryz.func81,Tryz.ntmps81
     go_wp2_with (first
      |(go_at_call 100;(with_reducible refine(K _).mono ?_);rintro e w1 ⟨rfl,rfl⟩)
      |(go_at_call 121;(with_reducible refine(S _).mono ?_);rintro e w1 ⟨rfl,rfl⟩)
      |(go_at_call 122;(with_reducible refine(CM _).mono ?_);rintro e w1 ⟨rfl,rfl⟩))
     go_ret
     first|exact⟨rfl,rfl⟩|exact⟨zl (by omega),rfl⟩
    rw[if_neg ht]
    go_enter Tryz.func81,Tryz.ntmps81
    go_wp2_with (first
     |(go_at_call 100;(with_reducible refine(K _).mono ?_);rintro e w1 ⟨rfl,rfl⟩)
     |(go_at_call 121;(with_reducible refine(S _).mono ?_);rintro e w1 ⟨rfl,rfl⟩)
     |(go_at_call 122;(with_reducible refine(CM _).mono ?_);rintro e w1 ⟨rfl,rfl⟩))
    go_ret
    first|exact⟨rfl,rfl⟩|exact⟨zl (by omega),rfl⟩
   by_cases e2:p=2
   ·subst e2;rw[zme n0 n1];have CM:=λw=>zfq j n h0 h1 (by omega) (by omega) w
    rw[zmo (by omega)]at CM;generalize j % n=t at *;clear e1
    go_enter Tryz.func81,Tryz.ntmps81
    go_wp2_with (first
     |(go_at_call 100;(with_reducible refine(K _).mono ?_);rintro e w1 ⟨rfl,rfl⟩)
     |(go_at_call 121;(with_reducible refine(S _).mono ?_);rintro e w1 ⟨rfl,rfl⟩)
     |(go_at_call 122;(with_reducible refine(CM _).mono ?_);rintro e w1 ⟨rfl,rfl⟩))
    go_ret
    first|exact⟨rfl,rfl⟩|exact⟨zl (by omega),rfl⟩
   ·obtain rfl:p=0:=by omega
    rw[zlu n0 n1,←zpH j n n0];have CC:=λw=>zfN j 0 (n-1) w
    generalize zeC j 0 (n-1)=t at *;clear e1 e2
    go_enter Tryz.func81,Tryz.ntmps81
    go_wp2_with (first
     |(go_at_call 100;(with_reducible refine(K _).mono ?_);rintro e w1 ⟨rfl,rfl⟩)
     |(go_at_call 121;(with_reducible refine(S _).mono ?_);rintro e w1 ⟨rfl,rfl⟩)
     |(go_at_call 123;(with_reducible refine(CC _).mono ?_);rintro e w1 ⟨rfl,rfl⟩))
    go_ret
    first|exact⟨rfl,rfl⟩|exact⟨zl (by omega),rfl⟩
  ·rw[zm3 (λg=>hn ⟨g.2.2.1,g.2.2.2⟩)];have S:=λw=>zvM n (by omega) w
   clear hn
   go_enter Tryz.func81,Tryz.ntmps81
   go_wp2_with (first
    |(go_at_call 100;(with_reducible refine(K _).mono ?_);rintro e w1 ⟨rfl,rfl⟩)
    |(go_at_call 121;(with_reducible refine(S _).mono ?_);rintro e w1 ⟨rfl,rfl⟩))
   go_ret
   first|exact⟨rfl,rfl⟩|exact⟨zl (by omega),rfl⟩
 ·rw[zm3 (λg=>hp ⟨g.1,g.2.1⟩)];have K:=λw=>zla p (by omega) w
  clear hp
  go_enter Tryz.func81,Tryz.ntmps81
  go_wp2_with (go_at_call 100;(with_reducible refine(K _).mono ?_);rintro e w1 ⟨rfl,rfl⟩)
  go_ret
  first|exact⟨rfl,rfl⟩|exact⟨zl (by omega),rfl⟩
theorem zvd (p j n:Int) (h:¬zf5 p n) (w:World) :
  Calls Tryz.prog 97 #[.int .i64 p,.int .i64 j,.int .i64 n] w λe w'=>e=.returned (.int .i64 0)/\w=w':=by
 by_cases a1:n<1
 ·clear h
  go_enter Tryz.func97,Tryz.ntmps97
  go_wp2;go_ret
  first|exact⟨rfl,rfl⟩|exact⟨zl (by omega),rfl⟩
 by_cases a2:65536<n
 ·clear h
  go_enter Tryz.func97,Tryz.ntmps97
  go_wp2;go_ret
  first|exact⟨rfl,rfl⟩|exact⟨zl (by omega),rfl⟩
 by_cases a3:p<0
 ·clear h
  go_enter Tryz.func97,Tryz.ntmps97
  go_wp2;go_ret
  first|exact⟨rfl,rfl⟩|exact⟨zl (by omega),rfl⟩
 have a4:2<p:=by
  by_cases g:2<p
  ·exact g
  ·exact absurd ⟨by omega,by omega,by omega,by omega⟩ h
 clear h
 go_enter Tryz.func97,Tryz.ntmps97
 go_wp2;go_ret
 first|exact⟨rfl,rfl⟩|exact⟨zl (by omega),rfl⟩
theorem zvl (p j n:Int) (h:zf5 p n) (h0:0<=j) (h1:j<n) (w:World) :
  Calls Tryz.prog 97 #[.int .i64 p,.int .i64 j,.int .i64 n] w λe w'=>e=.returned (.int .i64 j)/\w=w':=by
 obtain⟨p0,p1,n0,n1⟩:=h
 go_enter Tryz.func97,Tryz.ntmps97
 go_wp2;go_ret
 first|exact⟨rfl,rfl⟩|exact⟨zl (by omega),rfl⟩
theorem zob (j n:Int) (n0:1<=n) (n1:n<=65536) (h:j<0\/n<=j) (w:World) :
  Calls Tryz.prog 97 #[.int .i64 0,.int .i64 j,.int .i64 n] w λe w'=>e=.returned (.int .i64 (zc7 j n))/\w=w':=by
 rcases h with h|h
 ·rw[show zc7 j n=0 from if_pos h]
  go_enter Tryz.func97,Tryz.ntmps97
  go_wp2;go_ret
  first|exact⟨rfl,rfl⟩|exact⟨zl (by omega),rfl⟩
 ·rw[show zc7 j n=n-1 from(if_neg (by omega)).trans (if_pos h)]
  go_enter Tryz.func97,Tryz.ntmps97
  go_wp2;go_ret
  first|exact⟨rfl,rfl⟩|exact⟨zl (by omega),rfl⟩
theorem zr1 {u m:Int} (h0 : -m<u) (h1:u<m):u % m=if u<0 then u+m else u:=by
 split
 ·exact zc8 (q := -1) (by omega) (by omega) (by omega)
 ·exact zc8 (q:=0) (by omega) (by omega) (by omega)
theorem ztR (p j n v:Int) (hv:v=if p=1 then zcK j n else j % n) (p0:1<=p) (p1:p<=2) (n0:1<=n) (n1:n<=65536) (h:j<0\/n<=j) (h0 : -9223372036854775808<=j) (h1:j<=9223372036854775807) (w:World) :
  Calls Tryz.prog 97 #[.int .i64 p,.int .i64 j,.int .i64 n] w λe w'=>e=.returned (.int .i64 v)/\w=w':=by
 obtain⟨s1,s2,s3⟩:=zpy (a:=j) (m:=2*n) (by omega);have HV:=za hv;have t0:=Int.emod_nonneg j (show 2*n≠0 by omega);have t1:=Int.emod_lt_of_pos j (show 0<2*n by omega);obtain⟨t,ht⟩:∃ t,j % (2*n)=t:=⟨_,rfl⟩;rw[ht]at t0 t1 s1;have HT:=za ht;have HS:=za s1;clear hv ht s1;obtain⟨u,hu⟩:∃ u,j.tmod (2*n)=u:=⟨_,rfl⟩;have e:=HS.out;rw[hu]at s2 s3 e;have HE:=za e;clear e HS;have hz:(2*n == 0)=false:=beq_eq_false_iff_ne.2 (by omega);have hg:(decide (0<=j) && decide (j<n))=false:=by
  rcases h with h|h
  ·rw[decide_eq_false (by omega)];rfl
  ·rw[decide_eq_false (show ¬j<n by omega),Bool.and_false]
 have main:∀ w,Calls Tryz.prog 97 #[.int .i64 p,.int .i64 j,.int .i64 n] w λe w'=>e=.returned (.int .i64 v)/\w=w':=by
  intro w;rcases h with h|h
  all_goals
   clear hg
   go_enter Tryz.func97,Tryz.ntmps97
   go_wp2
   go_loop [7] (λr=>∃ y:Int,r=.int .i64 y/\-(2*n)<y/\y<2*n/\Hid (y % (2*n)=t)) (λr=>if intOf r<0 then 1 else 0)
   case atStart=>exact⟨_,rfl,by omega,by omega,HE⟩
   case round =>
    obtain⟨y,rfl,y0,y1,hy⟩:=hrel;have ey:=zr1 y0 y1;rw[hy.out]at ey
    by_cases hl:y<0
    ·rw[if_pos hl]at ey;have EY:=za ey;clear ey;go_wp2
     go_round
     case rel=>exact⟨_,rfl,by omega,by omega,by rw[Int.add_emod_right];exact hy.out⟩
     case measure =>
      have e9:=EY.out;have g9:¬y+2*n<0:=by omega
      simp[intOf,hl,g9]
    ·rw[if_neg hl]at ey;subst ey
     by_cases hn:t<n
     ·have ev:v=t:=by
       rw[HV.out];split
       ·unfold zcK;rw[HT.out,if_pos hn]
       ·rw[zlo n0,HT.out,if_pos hn]
      subst ev;go_wp2;go_ret
      first|exact⟨rfl,rfl⟩|exact⟨zl (by omega),rfl⟩
     ·by_cases e2:p=2
      ·subst e2;have ev:v=t-n:=by
        rw[HV.out,if_neg (by omega),zlo n0,HT.out,if_neg hn]
       subst ev;go_wp2;go_ret
       first|exact⟨rfl,rfl⟩|exact⟨zl (by omega),rfl⟩
      ·have ev:v=2*n-1-t:=by
        rw[HV.out,if_pos (by omega)];unfold zcK;rw[HT.out,if_neg hn]
       subst ev;obtain rfl:p=1:=by omega
       go_wp2;go_ret
       first|exact⟨rfl,rfl⟩|exact⟨zl (by omega),rfl⟩
 exact main w
theorem ztf (p j n:Int) (h0 : -9223372036854775808<=j) (h1:j<=9223372036854775807) (w:World) :
  Calls Tryz.prog 97 #[.int .i64 p,.int .i64 j,.int .i64 n] w λe w'=>e=.returned (.int .i64 (atF p j n))/\w=w':=by
 by_cases h:zf5 p n
 ·by_cases hi:0<=j/\j<n
  ·rw[zmk h hi.1 hi.2];exact zvl p j n h hi.1 hi.2 w
  ·obtain⟨p0,p1,n0,n1⟩:=h
   by_cases e0:p=0
   ·subst e0;rw[zlu n0 n1];exact zob j n n0 n1 (by omega) w
   ·refine ztR p j n _ ?_ (by omega) p1 n0 n1 (by omega) h0 h1 w
    by_cases e1:p=1
    ·subst e1;rw[zjB n0 n1,if_pos rfl]
    ·obtain rfl:p=2:=by omega
     rw[zme n0 n1,if_neg (by omega)]
 ·rw[zm3 h];exact zvd p j n h w
def zB (p first n:Int) (j:Nat):List Int:=(List.range j).map λk:Nat=>atF p (zE (first+(k:Int))) n
theorem ziG (p first n:Int) (j:Nat):zB p first n (j+1)=zB p first n j++[atF p (zE (first+(j:Int))) n]:=by unfold zB;rw[List.range_succ,List.map_append];rfl
theorem zaw (p first n:Int) (j:Nat):(zB p first n j).length=j:=by unfold zB;rw[List.length_map,List.length_range]
theorem zst (p first c n:Int) (h:c<=0) (w:World) :
  Calls Tryz.prog 43 #[.int .i64 p,.int .i64 first,.int .i64 c,.int .i64 n] w λe w'=>e=.returned (.slice none 0 0)/\w=w':=by
 go_enter Tryz.func43,Tryz.ntmps43
 go_wp2;go_ret;exact⟨rfl,rfl⟩
set_option maxHeartbeats 1000000 in
theorem zh8 (p first n:Int) (c:Nat) (c0:1<=c) (c1:c<=1048576) (h0 : -9223372036854775808<=first) (h1:first<=9223372036854775807) (w:World) :
  Calls Tryz.prog 43 #[.int .i64 p,.int .i64 first,.int .i64 (c:Int),.int .i64 n] w λe w'=>∃ v,e=.returned v/\OwnI .i64 2 w' w.heap.size v (zB p first n c)/\Below w.heap.size w w':=by
 obtain⟨zs,MK,MO,_⟩:=zh9 c c1;have HMO:=za MO;clear MO
 go_enter Tryz.func43,Tryz.ntmps43
 go_wp2;have O1:=HMO.out w w.heap.size (Nat.le_refl _);rw[←zdl]at O1;have HO1:=za O1;have HB1:=za (ba (Below.refl w.heap.size w) (.cells zs 2));clear MK HMO O1;generalize w.alloc (.cells zs 2)=w1 at *
 go_loopw [21] (λi wr=>∃ k:Nat,k<=c/\i=.int .i64 (k:Int)/\OwnI .i64 2 wr w.heap.size (.slice (some ⟨w.heap.size,0,none⟩) c c) (zbH (zB p first n k) c)/\Below w.heap.size w wr) (λi _=>c-(intOf i).toNat)
 case atStart=>exact⟨0,by omega,rfl,HO1.out,HB1.out⟩
 case round =>
  clear HO1 HB1;obtain⟨k,hk,rfl,ho,hb⟩:=hrel;have HO:=za ho;have HB:=za hb;clear ho hb
  by_cases hlt:k<c
  ·have CA:=λw=>zfj first (k:Int) h0 h1 (by omega) (by omega) w
   have d0:=zfF (first+(k:Int));have d1:=ze3 (first+(k:Int));have HS:=za (ziG p first n k);have LK:=zaw p first n k
   have LP:=zd3 (L:=zB p first n k) (n:=c) (by omega);have HP:=za (zdA LK hlt (atF p (zE (first+(k:Int))) n));have c1:=HO.out.cellAt LP hlt;have z1:=HO.out.frozenAt LP k;have ST:=HO.out.stored LP k (atF p (zE (first+(k:Int))) n);rw[HP.out,←HS.out]at ST;have H5:=za (And.intro ST (bs HB.out (Nat.le_refl _) (b:=w.heap.size) (o:=k) (.int .i64 (atF p (zE (first+(k:Int))) n))));clear LK LP HP ST HS;generalize zE (first+(k:Int))=d at *;have CE:=λw=>zmv p d n d0 d1 w
   generalize atF p d n=x at *
   go_wp2_with (first
    |(go_at_call 82;(with_reducible refine(CA _).mono ?_);rintro e w2 ⟨rfl,rfl⟩)
    |(go_at_call 81;(with_reducible refine(CE _).mono ?_);rintro e w2 ⟨rfl,rfl⟩))
   go_roundw
   case rel=>exact⟨k+1,by omega,by go_num,H5.out.1,H5.out.2⟩
   case measure=>simp[intOf];omega
  ·obtain rfl:k=c:=by omega
   have O2:=HO.out;rw[zcL (zaw p first n k)]at O2;have HO2:=za O2;clear O2;go_wp2;go_ret;exact⟨_,rfl,HO2.out,HB.out⟩
end Go.Proofs.YtlodkoimdoeopaaGreatDoor
namespace Go.Proofs.YtlodkoimdoeopaaGreatDoor
open Go.ChangeShapes Go.WideShapes Go.ChangeAt Go.WideMaps Go.WideElems Go.RowKit
theorem gNamesE : Tryz.prog.globalNamed "smalto/border.names" = some 0 := by kernel_rfl
theorem tNamesE:(Tryz.prog.globals[0]?).map (·.type)=some 161:=by kernel_rfl
theorem zox:Tryz.prog.cellsOf 161=3:=by kernel_rfl
theorem zsw:Tryz.prog.cellsOf 9=1:=by kernel_rfl
abbrev znc:ByteArray:=⟨#[99,108,97,109,112]⟩
abbrev zkr:ByteArray:=⟨#[109,105,114,114,111,114]⟩
abbrev zpT:ByteArray:=⟨#[119,114,97,112]⟩
theorem zvr {s:ByteArray} {l:List UInt8} (h:s.data.toList=l):s=⟨l.toArray⟩:=by
 subst h;rfl
theorem zjl {H:Type} {enc:TypeId×Value->H} {w:World} {base:Nat} {sp:Nat->Bool} {held:Bool} {fuel:Nat} {a:Value} {l:List UInt8} {y:DataW H×List MemPlace}
  (h:DataW.trod enc Tryz.prog w base sp held fuel 9 [a]=some y) (hy:y.1=.lit (.string l)):a=.string ⟨l.toArray⟩:=by
 obtain⟨s,e0,rfl,_⟩:=DataW.trod_string Tryz.underlying9 h;simp at e0 hy;rw[e0,zvr hy]
set_option maxRecDepth 100000 in
theorem znR {H:Type} {enc:TypeId×Value->H} {w:World} {base:Nat} {sp:Nat->Bool} {held:Bool} {fuel:Nat} {cs:Array Value} {p:List MemPlace}
  (h:DataW.trod enc Tryz.prog w base sp held fuel 161 cs.toList=some (Rows.laid_smalto_border_names,p)) :
  cs=#[.string znc,.string zkr,.string zpT]:=by
 obtain⟨l⟩:=cs;obtain⟨xs,m,rfl,hx,hl,hn,he⟩:=DataW.trod_array Tryz.underlying161 h;rw[zox]at hl;rw[zsw]at he;obtain⟨c0,c1,c2,rfl⟩:∃ c0 c1 c2,l=[c0,c1,c2]:=by
  match l,hl with
  |[a,b,c],_=>exact⟨a,b,c,rfl⟩
 obtain⟨y0,y1,y2,rfl⟩:∃ y0 y1 y2,xs=[y0,y1,y2]:=by
  match xs,hn with
  |[a,b,c],_=>exact⟨a,b,c,rfl⟩
 have h0:=he 0 (by omega);have h1:=he 1 (by omega);have h2:=he 2 (by omega);simp at h0 h1 h2
 simp[Rows.laid_smalto_border_names]at hx
 obtain⟨⟨g0,g1,g2⟩,_⟩:=hx;obtain rfl:=zjl h0 g0.symm;obtain rfl:=zjl h1 g1.symm;obtain rfl:=zjl h2 g2.symm;rfl
def ze0 (w:World):Prop :=
 w.cell? ⟨0,0,none⟩=some (.string znc)/\w.cell? ⟨0,1,none⟩=some (.string zkr)/\w.cell? ⟨0,2,none⟩=some (.string zpT)
theorem zu4 {w:World} {b o:Nat} {v:Value} (h:w.cell? ⟨b,o,none⟩=some v):b<w.heap.size:=by
 by_cases g:b<w.heap.size
 ·exact g
 ·have e:w.heap[b]?=none:=Array.getElem?_eq_none (by omega)
  simp[World.cell?,e]at h
theorem zdD {w w1:World} (h:ze0 w) (b:Below w.heap.size w w1):ze0 w1:=by
 obtain⟨c0,c1,c2⟩:=h;have lc:=zu4 c0;exact⟨cb b lc c0,cb b lc c1,cb b lc c2⟩
def zgT (p:Int):Value:=if p=0 then .string znc else if p=1 then .string zkr else if p=2 then .string zpT else .string ⟨#[]⟩
theorem zgg (p:Int) (w:World) (hk:ze0 w) :
  Calls Tryz.prog 63 #[.int .i64 p] w λe w'=>e=.returned (zgT p)/\w=w':=by
 obtain⟨k0,k1,k2⟩:=hk
 by_cases h0:p=0
 ·subst h0;have C:=λw=>zfm 0 (by omega) (by omega) w
  go_enter Tryz.func63,Tryz.ntmps63
  go_wp2_with (go_at_call 100;(with_reducible refine(C _).mono ?_);rintro e w1 ⟨rfl,rfl⟩)
  go_ret;exact⟨rfl,rfl⟩
 by_cases h1:p=1
 ·subst h1;have C:=λw=>zfm 1 (by omega) (by omega) w
  go_enter Tryz.func63,Tryz.ntmps63
  go_wp2_with (go_at_call 100;(with_reducible refine(C _).mono ?_);rintro e w1 ⟨rfl,rfl⟩)
  go_ret;exact⟨rfl,rfl⟩
 by_cases h2:p=2
 ·subst h2;have C:=λw=>zfm 2 (by omega) (by omega) w
  go_enter Tryz.func63,Tryz.ntmps63
  go_wp2_with (go_at_call 100;(with_reducible refine(C _).mono ?_);rintro e w1 ⟨rfl,rfl⟩)
  go_ret;exact⟨rfl,rfl⟩
 ·have C:=λw=>zla p (by omega) w
  rw[show zgT p=.string ⟨#[]⟩ by unfold zgT;rw[if_neg h0,if_neg h1,if_neg h2]];clear h0 h1 h2 k0 k1 k2
  go_enter Tryz.func63,Tryz.ntmps63
  go_wp2_with (go_at_call 100;(with_reducible refine(C _).mono ?_);rintro e w1 ⟨rfl,rfl⟩)
  go_ret;exact⟨rfl,rfl⟩
end Go.Proofs.YtlodkoimdoeopaaGreatDoor
namespace Go.Proofs.YtlodkoimdoeopaaGreatDoor
open Go.RowKit
theorem zhi (k:Int) (h0:0<=k) (h1:k<=3) (w:World) :
  Calls Tryz.prog 62 #[.int .i64 k] w λe w'=>e=.returned (.bool true)/\w=w':=by
 go_enter Tryz.func62,Tryz.ntmps62
 go_wp2;go_ret
 first|exact⟨rfl,rfl⟩|exact⟨zU (decide_eq_true (by omega)),rfl⟩
theorem zrH (k:Int) (h:k<0\/3<k) (w:World) :
  Calls Tryz.prog 62 #[.int .i64 k] w λe w'=>e=.returned (.bool false)/\w=w':=by
 rcases h with h|h
 all_goals
  go_enter Tryz.func62,Tryz.ntmps62
  go_wp2;go_ret
  first|exact⟨rfl,rfl⟩|exact⟨zU (decide_eq_false (by omega)),rfl⟩
theorem zcM (n:Int) (h0:1<=n) (h1:n<=65536) (w:World) :
  Calls Tryz.prog 64 #[.int .i64 n] w λe w'=>e=.returned (.bool true)/\w=w':=by
 go_enter Tryz.func64,Tryz.ntmps64
 go_wp2;go_ret
 first|exact⟨rfl,rfl⟩|exact⟨zU (decide_eq_true (by omega)),rfl⟩
theorem zhd (n:Int) (h:n<1\/65536<n) (w:World) :
  Calls Tryz.prog 64 #[.int .i64 n] w λe w'=>e=.returned (.bool false)/\w=w':=by
 rcases h with h|h
 all_goals
  go_enter Tryz.func64,Tryz.ntmps64
  go_wp2;go_ret
  first|exact⟨rfl,rfl⟩|exact⟨zU (decide_eq_false (by omega)),rfl⟩
theorem ztv (o:Opr) (ax:Option Addr) (cx:Nat) (ay:Option Addr) (cy:Nat) (a b:Int) (w:World) :
  Calls Tryz.prog 116 #[opV o ax cx ay cy,.int .i64 a,.int .i64 b] w λe w'=>e=.returned (.tuple #[.int .i64 (toW o a),.int .i64 (toH o b)])/\Below w.heap.size w w':=by
 unfold opV toW toH;obtain⟨kd,bd,sg,rd,xs,ys,fl,wd,ht⟩:=o;simp only;generalize xs.length=nx at *;generalize ys.length=ny at *
 by_cases h:kd=3
 ·rw[if_pos h,if_pos h];subst h
  go_enter Tryz.func116,Tryz.ntmps116
  go_wp2
  go_quiet (fail)
  go_wp2;exact bodyPost_ret (v:=.tuple #[.int .i64 wd,.int .i64 ht]) (by simp[results,Tryz.results116,go_sem]) rfl ⟨rfl,by repeat (first|exact Below.refl _ _|with_reducible refine bdN ?_ _|with_reducible refine bd ?_|with_reducible refine ba ?_ _)⟩
 ·rw[if_neg h,if_neg h];have hq:(kd == 3)=false:=by simpa using h
  clear h
  go_enter Tryz.func116,Tryz.ntmps116
  go_wp2;exact bodyPost_ret (v:=.tuple #[.int .i64 a,.int .i64 b]) (by simp[results,Tryz.results116,go_sem]) rfl ⟨rfl,by repeat (first|exact Below.refl _ _|with_reducible refine bd ?_|with_reducible refine ba ?_ _)⟩
theorem zfu (p:Int) (p0:0<=p) (p1:p<=2):∃ s,zgT p=.string s/\s.toList.isEmpty=false:=by
 unfold zgT
 by_cases h0:p=0
 ·rw[if_pos h0];exact⟨_,rfl,by decide +kernel⟩
 by_cases h1:p=1
 ·rw[if_neg h0,if_pos h1];exact⟨_,rfl,by decide +kernel⟩
 ·rw[if_neg h0,if_neg h1,if_pos (by omega)];exact⟨_,rfl,by decide +kernel⟩
theorem zj0 (p:Int) (h:p<0\/2<p):zgT p=.string ⟨#[]⟩:=by
 unfold zgT;rw[if_neg (by omega),if_neg (by omega),if_neg (by omega)]
theorem zph:(Tryz.prog.info? 103).map (λi=>(i.zero,i.size,i.bytes))=some (some (.agg #[.int .i64 0,.slice none 0 0]),2,32):=by kernel_rfl
def LinesHead (w:World) (h:Nat) (L:List (Int×List Int)):Prop :=
 ∀ j,j<L.length->w.cell? ⟨h,j*2,none⟩=some (.int .i64 (zf L j).1)/\∃ b cap,w.cell? ⟨h,j*2+1,none⟩=some (.slice (some ⟨b,0,none⟩) (zf L j).2.length cap)/\RowAt .i64 w (some ⟨b,0,none⟩) (zf L j).2
theorem LinesHead.lines {w:World} {h:Nat} {L:List (Int×List Int)} (H:LinesHead w h L):LinesAt w h L:=by
 intro j hj;obtain⟨c1,b,cap,c2,hr⟩:=H j hj;exact⟨c1,_,c2,_,cap,rfl,hr⟩
theorem LinesHead.below {w w':World} {h:Nat} {L:List (Int×List Int)} (H:LinesHead w h L) (hb:Below w.heap.size w w'):LinesHead w' h L:=by
 intro j hj;obtain⟨c1,b,cap,c2,hr⟩:=H j hj;exact⟨cb hb (ze c1) c1,b,cap,cb hb (ze c2) c2,hr.below hb⟩
def Tab (w:World) (v:Value) (n:Int) (L:List (Int×List Int)):Prop :=
 ∃ g h cap,v=.pointer (some ⟨g,0,none⟩)/\w.cell? ⟨g,0,none⟩=some (.int .i64 n)/\w.cell? ⟨g,1,none⟩=some (.slice (some ⟨h,0,none⟩) L.length cap)/\w.cell? ⟨g,2,none⟩=some (.int .i64 (zaL L))/\w.cell? ⟨g,3,none⟩=some (.int .i64 (zdW L)) /\
  LinesHead w h L/\zby L/\zfh L/\1<=L.length/\L.length<=65536/\1<=n/\n<=65536
def TabM (w:World) (v:Value) (n:Int) (L:List (Int×List Int)):Prop :=
 ∃ g h cap,v=.pointer (some ⟨g,0,none⟩)/\w.cell? ⟨g,0,none⟩=some (.int .i64 n)/\w.cell? ⟨g,1,none⟩=some (.slice (some ⟨h,0,none⟩) L.length cap)/\w.cell? ⟨g,2,none⟩=some (.int .i64 (zaL L))/\w.cell? ⟨g,3,none⟩=some (.int .i64 (zdW L))/\LinesHead w h L
theorem TabM.tab {w:World} {v:Value} {n:Int} {L:List (Int×List Int)} (h:TabM w v n L) (hok:zby L) (hm:zfh L) (l0:1<=L.length) (l1:L.length<=65536) (n0:1<=n) (n1:n<=65536):Tab w v n L:=by
 obtain⟨g,h,cap,e,c0,c1,c2,c3,hl⟩:=h;exact⟨g,h,cap,e,c0,c1,c2,c3,hl,hok,hm,l0,l1,n0,n1⟩
theorem Tab.below {w w':World} {v:Value} {n:Int} {L:List (Int×List Int)} (h:Tab w v n L) (hb:Below w.heap.size w w'):Tab w' v n L:=by
 obtain⟨g,h,cap,rfl,c0,c1,c2,c3,hl,r⟩:=h;have gl:=ze c0;exact⟨g,h,cap,rfl,cb hb gl c0,cb hb gl c1,cb hb gl c2,cb hb gl c3,hl.below hb,r⟩
theorem Tab.kept {w w':World} {v:Value} {n:Int} {L:List (Int×List Int)} {r:Option Nat} (h:Tab w v n L) (hg:w.grownBy w' r) (hp:∀ b x,r=some b->w.cell? ⟨b,0,none⟩≠some (.int .i64 x)):Tab w' v n L:=by
 obtain⟨g,h,cap,rfl,c0,c1,c2,c3,hl,hok,hm,l0,l1,n0,n1⟩:=h;have ng:some g≠r:=λe=>hp g _ e.symm c0
 refine⟨g,h,cap,rfl,cg hg ng c0,cg hg ng c1,cg hg ng c2,cg hg ng c3,λj hj=>?_,hok,hm,l0,l1,n0,n1⟩;have nh:some h≠r:=by
  have:=(hl 0 l0).1;rw[Nat.zero_mul]at this;exact λe=>hp h _ e.symm this
 obtain⟨d1,b,cp,d2,hr⟩:=hl j hj;have nb:some b≠r:=by
  have:=hr.at (hok j hj).2.2.1;rw[Nat.zero_add]at this;exact λe=>hp b _ e.symm this
 exact⟨cg hg nh d1,b,cp,cg hg nh d2,hr.grown hg nb⟩
theorem Tab.ptr {w:World} {v:Value} {n:Int} {L:List (Int×List Int)} (h:Tab w v n L):∃ a,v=.pointer (some a):=by
 obtain⟨g,h,cap,rfl,_⟩:=h;exact⟨_,rfl⟩
theorem Tab.ok {w:World} {v:Value} {n:Int} {L:List (Int×List Int)} (h:Tab w v n L):zby L/\1<=L.length/\L.length<=65536/\1<=n/\n<=65536:=by
 obtain⟨g,h,cap,_,_,_,_,_,_,a,_,b⟩:=h;exact⟨a,b⟩
theorem zfZ {w:World} {v:Value} {n:Int} {L:List (Int×List Int)} (h:Tab w v n L):Calls Tryz.prog 106 #[v] w λe w'=>e=.returned (.int .i64 n)/\Below w.heap.size w w':=by
 obtain⟨g,h,cap,rfl,c0,c1,c2,c3,hl,hok,hm,l0,l1,n0,n1⟩:=h;clear hl hok hm c1 c2 c3
 go_enter Tryz.func106,Tryz.ntmps106
 go_wp2;go_ret;exact⟨rfl,Below.refl _ _⟩
theorem zeA {w:World} {v:Value} {n:Int} {L:List (Int×List Int)} (h:Tab w v n L):Calls Tryz.prog 32 #[v] w λe w'=>e=.returned (.int .i64 (L.length:Int))/\Below w.heap.size w w':=by
 obtain⟨g,h,cap,rfl,c0,c1,c2,c3,hl,hok,hm,l0,l1,n0,n1⟩:=h;clear hl hok hm c0 c2 c3;generalize L.length=m at *
 go_enter Tryz.func32,Tryz.ntmps32
 go_wp2;go_ret;exact⟨rfl,Below.refl _ _⟩
theorem zuD {w:World} {v:Value} {n:Int} {L:List (Int×List Int)} (h:Tab w v n L):Calls Tryz.prog 16 #[v] w λe w'=>e=.returned (.int .i64 (zaL L))/\Below w.heap.size w w':=by
 obtain⟨g,h,cap,rfl,c0,c1,c2,c3,hl,hok,hm,l0,l1,n0,n1⟩:=h;clear hl hok hm c0 c1 c3;generalize zaL L=m at *
 go_enter Tryz.func16,Tryz.ntmps16
 go_wp2;go_ret;exact⟨rfl,Below.refl _ _⟩
theorem zdz {w:World} {v:Value} {n:Int} {L:List (Int×List Int)} (h:Tab w v n L):Calls Tryz.prog 32 #[v] w λe w'=>e=.returned (.int .i64 (L.length:Int))/\Drew w w':=by
 obtain⟨g,h,cap,rfl,c0,c1,c2,c3,hl,hok,hm,l0,l1,n0,n1⟩:=h;clear hl hok hm c0 c2 c3;generalize L.length=m at *
 go_enter Tryz.func32,Tryz.ntmps32
 go_wp2;go_ret;exact⟨rfl,Drew.refl _⟩
theorem zqc {w:World} {v:Value} {n:Int} {L:List (Int×List Int)} (h:Tab w v n L):Calls Tryz.prog 16 #[v] w λe w'=>e=.returned (.int .i64 (zaL L))/\Drew w w':=by
 obtain⟨g,h,cap,rfl,c0,c1,c2,c3,hl,hok,hm,l0,l1,n0,n1⟩:=h;clear hl hok hm c0 c1 c3;generalize zaL L=m at *
 go_enter Tryz.func16,Tryz.ntmps16
 go_wp2;go_ret;exact⟨rfl,Drew.refl _⟩
theorem ztQ (xs:List Int) (n:Nat) (hn:xs.length=n) (b off cap:Nat) (h1:n<=1048576) (w:World) (hr:RowAt .i64 w (some ⟨b,off,none⟩) xs) :
  Calls Tryz.prog 86 #[.slice (some ⟨b,off,none⟩) n cap] w λe w'=>∃ v,e=.returned v/\OwnI .i64 2 w' w.heap.size v xs/\Below w.heap.size w w':=by
 have HR:=za hr;have HN:=za hn;obtain⟨i0,hi,hz0,hz1,hz2⟩:=info_parts zdZ;have q:∀ w:World,(binOp .eql 28 (.slice (some ⟨b,off,none⟩) n cap) (.slice none 0 0)).run Tryz.prog w=.ok (.bool false) w:=λw=>Lib.run_eql_slice_nil w _ _ _ n cap 0 0 Tryz.underlying28
 clear hr hn
 go_enter Tryz.func86,Tryz.ntmps86
 go_wp2_with (at_builtin;refine zdP .i64 _ rfl _ _ 28 rfl w.heap.size 2 i0 (.int .i64 0) 8 Tryz.underlying28 hi hz0 hz1 hz2 rfl (.slice (some ⟨w.heap.size,0,none⟩) 0 0) [] rfl (zi6 _ _ _ _ (Nat.le_refl _)) (some ⟨b,off,none⟩) n cap xs rfl HN.out (HR.out.below (zg _ _)) (λe=>by cases e) (by simp;unfold maxLen;omega) (by simp;omega) (by simp) ?_;intro v1 w2 own2 grow2 _;have bw2:=zhM (Below.refl _ _) grow2;rw[List.nil_append]at own2)
 go_ret;exact⟨v1,rfl,own2,bw2⟩
theorem zc {w:World} {a b o j:Nat} {u:Value} (h:a≠b\/o≠j):(w.setCell ⟨a,o,none⟩ u).cell? ⟨b,j,none⟩=w.cell? ⟨b,j,none⟩ :=
 World.cell?_setCell_other _ _ _ _ (by intro e;simp only[Addr.mk.injEq,and_true]at e;omega)
theorem zkv {k:IntKind} {T:TypeId} {w:World} {base:Nat} {v:Value} {xs:List Int} (h:OwnI k T w base v xs) {b:Nat} (o:Nat) (u:Value) (hb:b<base):OwnI k T (w.setCell ⟨b,o,none⟩ u) base v xs:=by
 refine⟨h.1,?_⟩;rcases h.2 with h2|⟨g',cap',cur,hv,hB,hg,r⟩
 ·exact .inl h2
 ·refine .inr ⟨g',cap',cur,hv,hB,?_,r⟩;rw[heap_setCell_other w ⟨b,o,none⟩ g' u (by show g'≠b;omega)];exact hg
set_option maxRecDepth 100000 in
theorem zeH {w:World} {v:Value} {n:Int} {L:List (Int×List Int)} (h:Tab w v n L) (j:Nat) (hj:j<L.length) :
  Calls Tryz.prog 46 #[v,.int .i64 (j:Int)] w λe w'=>∃ u,e=.returned (.agg #[.int .i64 (zf L j).1,u])/\OwnI .i64 2 w' w.heap.size u (zf L j).2/\Below w.heap.size w w':=by
 obtain⟨g,h,cap,rfl,c0,c1,c2,c3,hl,hok,hm,l0,l1,n0,n1⟩:=h
 replace hl:=hl.lines
 obtain⟨d1,u,d2,ad,cp,rfl,hr⟩:=hl j hj;obtain⟨f0,f1,t0,t1,hx⟩:=hok j hj;obtain⟨f,ts,he⟩:∃ f ts,zf L j=(f,ts):=⟨_,_,rfl⟩;rw[he]at d1 d2 hr f0 f1 t0 t1 hx ⊢;obtain⟨m,hmm⟩:∃ m,ts.length=m:=⟨_,rfl⟩
 replace d1:w.cell? ⟨h,j*2,none⟩=some (.int .i64 f):=d1
 replace d2:w.cell? ⟨h,j*2+1,none⟩=some (.slice ad ts.length cp):=d2
 replace t0:1<=ts.length:=t0
 replace t1:ts.length<=1048576:=t1
 obtain⟨b,off,rfl,_⟩:=hr.get (show 0<ts.length by omega);have CC:=λw' hr=>ztQ ts m hmm b off cp (by omega) w' hr
 rw[hmm]at d2 t0 t1;obtain⟨M,hM⟩:∃ M,L.length=M:=⟨_,rfl⟩;rw[hM]at c1 hj l1;have HR:=za hr;have HMM:=za hmm;have gl:=ze c1;have hlt:=ze d1;clear hl hok hm he hmm hr hx c0 c2 c3 l0 hM n0 n1 f0 f1
 go_enter Tryz.func46,Tryz.ntmps46
 go_upto_region 4 with fail
 go_region_with (go_at_call 86;(with_reducible refine(CC _ (HR.out.below (by repeat (first|exact Below.refl _ _|(with_reducible refine bt ?_ (by assumption))|with_reducible refine bd ?_|with_reducible refine ba ?_ _)))).mono ?_);rintro e w4 ⟨v,rfl,own,b4⟩;obtain⟨ad2,cap2,rfl,_,_⟩:=own.formn HMM.out;have q0:=cb b4 (b:=w.heap.size) (o:=0) (v:=.int .i64 0) (by simp;omega) (by simp);have q1:=cb b4 (b:=w.heap.size) (o:=1) (v:=.slice none 0 0) (by simp;omega) (by simp);have q2:=fb b4 (b:=w.heap.size) (o:=0) (by simp;omega) (by simp);have q3:=fb b4 (b:=w.heap.size) (o:=1) (by simp;omega) (by simp);have q4:=cb b4 (b:=w.heap.size+1) (o:=0) (v:=.int .i64 f) (by simp) (by simp);have q5:=cb b4 (b:=w.heap.size+1) (o:=1) (v:=.slice (some ⟨b,off,none⟩) m cp) (by simp) (by simp))
 all_goals go_wp2
 all_goals
  have r0:((w4.setCell ⟨w.heap.size,0,none⟩ (.int .i64 f)).setCell ⟨w.heap.size,1,none⟩ (.slice ad2 m cap2)).cell? ⟨w.heap.size,0,none⟩=some (.int .i64 f):=(zc (Or.inr (by omega))).trans (World.cell?_setCell_same' _ _ _ (by rw[q0];rfl));have r1:((w4.setCell ⟨w.heap.size,0,none⟩ (.int .i64 f)).setCell ⟨w.heap.size,1,none⟩ (.slice ad2 m cap2)).cell? ⟨w.heap.size,1,none⟩=some (.slice ad2 m cap2):=World.cell?_setCell_same' _ _ _ (by rw[zc (Or.inr (by omega)),q1];rfl);have own2:=zkv (zkv own 0 (.int .i64 f) (b:=w.heap.size) (by simp;omega)) 1 (.slice ad2 m cap2) (b:=w.heap.size) (by simp;omega);have own3:=own2.mono (base':=w.heap.size) (by simp;omega);have B5:=bs (bs (bt (bd (ba (ba (Below.refl _ w) (.cells #[.int .i64 0,.slice none 0 0] 103)) (.cells #[.int .i64 f,.slice (some ⟨b,off,none⟩) m cp] 103))) b4) (b:=w.heap.size) (o:=0) (Nat.le_refl _) (.int .i64 f)) (b:=w.heap.size) (o:=1) (Nat.le_refl _) (.slice ad2 m cap2);have E5:=za (And.intro own3 B5);clear own2 own3 B5 own b4;exact bodyPost_ret (v:=.agg #[.int .i64 f,.slice ad2 m cap2]) (by simp[results,Tryz.results46,go_sem,r0,r1]) rfl ⟨.slice ad2 m cap2,rfl,E5.out.1,E5.out.2⟩
set_option maxRecDepth 100000 in
theorem zqE {w:World} {v:Value} {n:Int} {L:List (Int×List Int)} (h:Tab w v n L) (i:Int) (i0 : -9223372036854775808<=i) (i1:i<=9223372036854775807) (hi:i<0\/(L.length:Int)<=i) :
  Calls Tryz.prog 46 #[v,.int .i64 i] w λe w'=>∃ ad cap,e=.returned (.agg #[.int .i64 0,.slice ad 0 cap])/\Below w.heap.size w w':=by
 obtain⟨g,h,cap,rfl,c0,c1,c2,c3,hl,hok,hm,l0,l1,n0,n1⟩:=h;have gl:=ze c1;clear hl hok hm c0 c2 c3 n0 n1;generalize L.length=M at *
 by_cases h0:i<0
 ·clear hi
  go_enter Tryz.func46,Tryz.ntmps46
  go_wp2;exact bodyPost_ret (v:=.agg #[.int .i64 0,.slice none 0 0]) (by simp[results,Tryz.results46,go_sem]) rfl (by first|exact⟨⟨none,0,rfl⟩,ba (Below.refl _ _) _⟩|exact⟨none,0,rfl,ba (Below.refl _ _) _⟩)
 ·have hi:(M:Int)<=i:=by omega
  go_enter Tryz.func46,Tryz.ntmps46
  go_wp2;exact bodyPost_ret (v:=.agg #[.int .i64 0,.slice none 0 0]) (by simp[results,Tryz.results46,go_sem]) rfl (by first|exact⟨⟨none,0,rfl⟩,ba (Below.refl _ _) _⟩|exact⟨none,0,rfl,ba (Below.refl _ _) _⟩)
theorem zlR {w:World} {v:Value} {n:Int} {L:List (Int×List Int)} (h:Tab w v n L) (i k:Int) (hno:min k (L.length:Int)<=max i 0) :
  Calls Tryz.prog 42 #[v,.int .i64 i,.int .i64 k] w λe w'=>e=.returned (.tuple #[.int .i64 0,.int .i64 0])/\Below w.heap.size w w':=by
 obtain⟨g,h,cap,rfl,c0,c1,c2,c3,hl,hok,hm,l0,l1,n0,n1⟩:=h;have gl:=ze c1;clear hl hok hm c0 c2 c3 n0 n1;generalize L.length=M at *
 go_enter Tryz.func42,Tryz.ntmps42
 go_upto_region 1 with fail
 go_region
 all_goals go_wp2
 all_goals exact bodyPost_ret (v:=.tuple #[.int .i64 0,.int .i64 0]) (by simp[results,Tryz.results42,go_sem]) rfl ⟨rfl,bd (Below.refl _ _)⟩
set_option maxRecDepth 100000 in
theorem zfb {w:World} {v:Value} {n:Int} {L:List (Int×List Int)} (h:Tab w v n L) (i k:Int) {p q:Nat} (hp:(p:Int)=max i 0) (hq:(q:Int)+1=min k (L.length:Int)) (hpq:p<=q) :
  Calls Tryz.prog 42 #[v,.int .i64 i,.int .i64 k] w λe w'=>e=.returned (.tuple #[.int .i64 (zf L p).1,.int .i64 ((zf L q).1+((zf L q).2.length:Int)-(zf L p).1)])/\Below w.heap.size w w':=by
 obtain⟨g,h,cap,rfl,c0,c1,c2,c3,hl,hok,hm,l0,l1,n0,n1⟩:=h;have gl:=ze c1;have hqM:q<L.length:=by omega
 replace hl:=hl.lines
 obtain⟨d1,-⟩:=hl p (by omega);obtain⟨e1,u,e2,ad,cp,rfl,-⟩:=hl q hqM;obtain⟨f0,f1,-,-,-⟩:=hok p (by omega);obtain⟨f2,f3,t0,t1,-⟩:=hok q hqM;obtain⟨len,hlen⟩:∃ len,(zf L q).2.length=len:=⟨_,rfl⟩;rw[hlen]at e2 t0 t1 ⊢;have hlt:=ze d1;clear hl hok hm c0 c2 c3 n0 n1 hlen;generalize (zf L p).1=f at *;generalize (zf L q).1=f' at *;generalize L.length=M at *
 go_enter Tryz.func42,Tryz.ntmps42
 go_upto_region 1 with fail
 go_cut [1,2,10,17] (λa b c d wx=>a=.int .i64 (p:Int)/\b=.int .i64 ((q:Int)+1)/\c=.int .i64 (p:Int)/\d=.int .i64 ((q:Int)+1)/\wx=w.drew)
 case first =>
  go_region
  all_goals (go_wp2_with fail;go_meet)
  all_goals exact⟨by rw[hp],by rw[hq],by rw[hp],by rw[hq],rfl⟩
 case rest =>
  obtain⟨rfl,rfl,rfl,rfl,rfl⟩:=hcut;clear hp hq
  go_wp2_with fail
  go_quiet (fail)
  go_wp2;exact bodyPost_ret (v:=.tuple #[.int .i64 f,.int .i64 (f'-f+(len:Int))]) (by simp[results,Tryz.results42,go_sem]) rfl ⟨by rw[show f'-f+(len:Int)=f'+(len:Int)-f by omega],(by repeat (first|exact Below.refl _ _|(with_reducible refine bdN ?_ _)|with_reducible refine bd ?_|with_reducible refine ba ?_ _))⟩
theorem zf8 {w:World} {v:Value} {n:Int} {L:List (Int×List Int)} (h:Tab w v n L) (i k:Int) (_ : -9223372036854775808<=i) (_:i<=9223372036854775807) (_ : -9223372036854775808<=k) (_:k<=9223372036854775807) :
  Calls Tryz.prog 42 #[v,.int .i64 i,.int .i64 k] w λe w'=>e=.returned (.tuple #[.int .i64 (zav L i k).1,.int .i64 ((zav L i k).2.1-(zav L i k).1)])/\Below w.heap.size w w':=by
 by_cases hno:min k (L.length:Int)<=max i 0
 ·rw[zrs hno];exact zlR h i k hno
 ·obtain⟨p,hp⟩:∃ p:Nat,(p:Int)=max i 0:=⟨(max i 0).toNat,by omega⟩;obtain⟨q,hq⟩:∃ q:Nat,(q:Int)+1=min k (L.length:Int):=⟨(min k (L.length:Int)-1).toNat,by omega⟩;have hM:zfh L:=by
   obtain⟨_,_,_,_,_,_,_,_,_,_,hm,_⟩:=h;exact hm
  rw[zqx hM hp hq (by omega)];exact zfb h i k hp hq (by omega)
def orI (a b:Int):Int:=if a=0 then b else a
def cfR (r:List Int) (n:Nat) (x y:Fin n):Int:=orI (Lib.compareInt (r.getD y.val 0) (r.getD x.val 0)) (Lib.compareInt (x.val:Int) (y.val:Int))
theorem zso (x y:Int):(Lib.compareInt x y<0↔x<y)/\(Lib.compareInt x y=0↔x=y):=by
 unfold Lib.compareInt
 by_cases h:x<y
 ·rw[if_pos h];omega
 ·rw[if_neg h]
  by_cases g:x > y
  ·rw[if_pos g];omega
  ·rw[if_neg g];omega
theorem zj6 (r:List Int) (n:Nat) (x y:Fin n):ltOf (cfR r n) x y=decide (r.getD y.val 0<r.getD x.val 0\/(r.getD y.val 0=r.getD x.val 0/\x.val<y.val)):=by
 unfold ltOf cfR orI;obtain⟨a,b⟩:=zso (r.getD y.val 0) (r.getD x.val 0);obtain⟨c,d⟩:=zso (x.val:Int) (y.val:Int);rw[decide_eq_decide]
 by_cases h:Lib.compareInt (r.getD y.val 0) (r.getD x.val 0)=0
 ·rw[if_pos h];omega
 ·rw[if_neg h];omega
theorem zwp (r:List Int) (n:Nat):Sort.SWO (ltOf (cfR r n)) where
 irrefl x:=by rw[zj6];simp
 trans x y z h1 h2:=by rw[zj6]at *;simp only[decide_eq_true_eq]at *;omega
 ntrans x y z h1 h2:=by rw[zj6]at *;simp only[decide_eq_false_iff_not]at *;omega
structure Ranked (r:List Int) (p:List Nat):Prop where
 len:p.length=r.length
 lt:∀ k,k<p.length->p.getD k 0<r.length
 all:∀ j,j<r.length->∃ k,k<p.length/\p.getD k 0=j
 one:∀ i k,i<p.length->k<p.length->p.getD i 0=p.getD k 0->i=k
 order:∀ i k,i<k->k<p.length->r.getD (p.getD k 0) 0<r.getD (p.getD i 0) 0\/(r.getD (p.getD k 0) 0=r.getD (p.getD i 0) 0/\p.getD i 0<p.getD k 0)
def zcC (o:List Int) (p:List Nat):Nat->List Int
 |0=>o
 |m+1=>(zcC o p m).set (p.getD m 0) ((zcC o p m).getD (p.getD m 0) 0+1)
theorem zsj (o:List Int) (p:List Nat) (m:Nat):(zcC o p m).length=o.length:=by
 induction m with
 |zero=>rfl
 |succ m ih=>unfold zcC;rw[List.length_set];exact ih
theorem zjY {o r:List Int} {p:List Nat} (hp:Ranked r p) (hr:∀ j,j<r.length->0<=r.getD j 0) (hl:o.length=r.length) (m:Nat) (hm:m<=r.length) :
  zcC o p m=(zk o r m).1/\(∀ k,k<r.length->(zk o r m).2.getD (p.getD k 0) 0=if k<m then -1 else r.getD (p.getD k 0) 0):=by
 induction m with
 |zero=>exact⟨rfl,λk _=>by rw[if_neg (by omega)];rfl⟩
 |succ m ih =>
  obtain⟨e1,e2⟩:=ih (by omega);obtain⟨l1,l2⟩:=ze2 o r m;obtain⟨pl,plt,pall,pone,pord⟩:=hp;have hb:zF (zk o r m).2 (zk o r m).2.length=p.getD m 0:=by
   have bl:=zhA (zk o r m).2 (zk o r m).2.length;have bm:=zhg (zk o r m).2 (zk o r m).2.length;have bf:=zl6 (zk o r m).2 (zk o r m).2.length;rw[l2]at bl bm bf ⊢;generalize zF (zk o r m).2 r.length=b at *;have vm:=e2 m (by omega);rw[if_neg (by omega)]at vm;have pm:=plt m (by omega);have h0:=hr _ pm;have mx:=bm _ pm;obtain⟨k,k1,k2⟩:=pall b (by omega);have vk:=e2 k (by omega);rw[k2]at vk
   by_cases g:k<m
   ·rw[if_pos g]at vk;omega
   ·rw[if_neg g]at vk
    by_cases gk:k=m
    ·subst gk;exact k2.symm
    ·have:=pord m k (by omega) k1;rw[k2]at this;have:=bf (p.getD m 0);omega
  refine⟨?_,?_⟩
  ·show(zcC o p m).set _ _=((zk o r m).1.set _ _)
   rw[e1,hb]
  ·intro k hk
   show((zk o r m).2.set (zF (zk o r m).2 (zk o r m).2.length) (-1)).getD (p.getD k 0) 0=_
   have pm:=plt m (by omega);rw[hb,zdH _ _ _ _ (by omega)]
   by_cases g:p.getD m 0=p.getD k 0
   ·have:=pone m k (by omega) (by omega) g;rw[if_pos g,if_pos (by omega)]
   ·rw[if_neg g,e2 k hk]
    by_cases g2:k<m
    ·rw[if_pos g2,if_pos (by omega)]
    ·rw[if_neg g2]
     by_cases g3:k<m+1
     ·exfalso;apply g;rw[show k=m by omega]
     ·rw[if_neg g3]
def zbG {n:Nat} (d:Array (Fin n)):List Nat:=d.toList.map Fin.val
theorem zd4 {n:Nat} [Inhabited (Fin n)] (d:Array (Fin n)) {k:Nat} (h:k<d.size):(zbG d).getD k 0=(d[k]!).val:=by
 unfold zbG;rw[List.getD_eq_getElem?_getD,List.getElem?_map,getElem!_pos d k h]
 simp[h]
theorem zsE {r:List Int} {n:Nat} (hn:r.length=n) [Inhabited (Fin n)] (d d':Array (Fin n)) (h0:d.toList=List.finRange n) (hp:Sort.PermIn 0 d.size d d') (hs:Sort.SortedIn (ltOf (cfR r n)) 0 d.size d'):Ranked r (zbG d'):=by
 obtain⟨hz,_,hperm⟩:=hp;have sz:d.size=n:=by rw[←Array.length_toList,h0,List.length_finRange]
 have e0:(d.extract 0 d.size).toList=d.toList:=by simp
 have e1:(d'.extract 0 d.size).toList=d'.toList:=by rw[←hz];simp
 rw[e0,e1,h0]at hperm;have pl:(zbG d').length=n:=by unfold zbG;rw[List.length_map,Array.length_toList];omega
 have nd:(zbG d').Nodup:=by
  unfold zbG;have:d'.toList.Nodup:=hperm.nodup_iff.2 (List.nodup_finRange n);exact List.pairwise_map.2 (List.Pairwise.imp (λ{a b} h e=>h (Fin.ext e)) this)
 refine⟨by omega,?_,?_,?_,?_⟩
 ·intro k hk;rw[zd4 d' (by omega)];have:=(d'[k]!).isLt;omega
 ·intro j hj;have hm:(⟨j,by omega⟩:Fin n) ∈ d'.toList:=hperm.mem_iff.2 (List.mem_finRange _);obtain⟨k,hk,e⟩:=List.getElem_of_mem hm;refine⟨k,by rw[pl];simp at hk;omega,?_⟩;unfold zbG;rw[List.getD_eq_getElem?_getD,List.getElem?_map,List.getElem?_eq_getElem hk,e];rfl
 ·intro i k hi hk h;rw[List.getD_eq_getElem?_getD,List.getD_eq_getElem?_getD,List.getElem?_eq_getElem hi,List.getElem?_eq_getElem hk]at h;exact(List.getElem_inj nd).1 h
 ·intro i k hik hk;have S:=hs i k (Nat.zero_le _) hik (by omega);rw[zj6]at S;simp only[decide_eq_false_iff_not]at S;rw[zd4 d' (by omega),zd4 d' (by omega)];have ne:(d'[i]!).val≠(d'[k]!).val:=by
   rw[←zd4 d' (by omega),←zd4 d' (by omega)];intro h;rw[List.getD_eq_getElem?_getD,List.getD_eq_getElem?_getD,List.getElem?_eq_getElem (by omega),List.getElem?_eq_getElem hk]at h;have:=(List.getElem_inj nd).1 h;omega
  omega
end Go.Proofs.YtlodkoimdoeopaaGreatDoor
