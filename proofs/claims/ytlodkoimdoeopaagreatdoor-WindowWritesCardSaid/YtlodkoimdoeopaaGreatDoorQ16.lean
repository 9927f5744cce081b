/- Parts, joined. -/
import Derived.Test.YtlodkoimdoeopaaGreatDoorQ08
import Derived.Test.YtlodkoimdoeopaaGreatDoorQ15
import Derived.Test.YtlodkoimdoeopaaGreatDoorQ04
import Derived.Test.YtlodkoimdoeopaaGreatDoorQ02
import Derived.Test.YtlodkoimdoeopaaGreatDoorProg
import Derived.Shelf.SlSortCmp.Kit1
import Derived.Deep.RegionHeld3
import Derived.Shelf.SlLaysF
import Derived.Shelf.SlSortCmp.Whole1
namespace Go.Proofs.YtlodkoimdoeopaaGreatDoor
open Go.RowKit
theorem zoU (x:Int):0<=zaK x/\zaK x<=9223372036854775807:=by
 unfold zaK zE;have:=za6 x;split<;>(try split)<;>omega
theorem zuL {x:Int} (h:x<0):zaK x=zE (-x):=by unfold zaK zi;rw[if_pos h]
theorem ztX {x:Int} (h:¬x<0) (h1:x<=9223372036854775807):zaK x=x:=by unfold zaK zi;rw[if_neg h,zH (by omega) (by omega)]
theorem ziP (x:Int) (h0 : -9223372036854775808<=x) (h1:x<=9223372036854775807) (w:World) :
  Calls Tryz.prog 170 #[.int .i64 x] w λe w'=>e=.returned (.int .i64 (zaK x))/\w=w':=by
 by_cases g:x<0
 ·rw[zuL g];have CM:∀ w:World,Calls Tryz.prog 193 #[.int .i64 x,.int .i64 (-1)] w λe w'=>e=.returned (.int .i64 (zE (-x)))/\w=w':=λw=>by
   have:=zqJ x (-1) h0 h1 (by omega) (by omega) w;rw[show x * -1 = -x by omega]at this;exact this
  generalize zE (-x)=y at *
  go_enter Tryz.func170,Tryz.ntmps170
  go_wp2_with (go_at_call 193;(with_reducible refine(CM _).mono ?_);rintro e w1 ⟨rfl,rfl⟩)
  go_ret;exact⟨rfl,rfl⟩
 ·rw[ztX g h1]
  go_enter Tryz.func170,Tryz.ntmps170
  go_wp2;go_ret;exact⟨rfl,rfl⟩
theorem zny (xs:List Int) (ad:Option Addr) (cap:Nat) (w:World) (hr:RowAt .i64 w ad xs) (hx:zad xs) (hl:xs.length<=9223372036854775807) :
  Calls Tryz.prog 167 #[.slice ad xs.length cap] w λe w'=>e=.returned (.int .i64 (zr xs))/\w=w':=by
 have HR:=za hr;have HX:=za hx;clear hr hx;obtain⟨n,hn⟩:∃ n,xs.length=n:=⟨_,rfl⟩;have HN:=za hn;rw[hn]at hl ⊢;clear hn
 go_enter Tryz.func167,Tryz.ntmps167
 go_wp2
 go_loop [3,8] (λs i=>∃ k:Nat,k<=n/\i=.int .i64 (k:Int)/\s=.int .i64 (zr (xs.take k))) (λ_ i=>n-(intOf i).toNat)
 case atStart=>exact⟨0,by omega,rfl,rfl⟩
 case round =>
  obtain⟨k,hk,rfl,rfl⟩:=hrel
  by_cases hlt:k<n
  ·obtain⟨b,off,rfl,hc⟩:=HR.out.get (show k<xs.length by rw[HN.out];exact hlt);obtain⟨x0,x1⟩:=HX.out k (by rw[HN.out];exact hlt);obtain⟨s0,s1⟩:=zgE (xs.take k);have hs:zr (xs.take (k+1))=zE (zr (xs.take k)+xs.getD k 0):=by rw[zb5 xs (by rw[HN.out];exact hlt),zgf];rfl
   have HS:=za hs;clear hs;have CP:=λw=>zfj (zr (xs.take k)) (xs.getD k 0) s0 s1 x0 x1 w
   generalize xs.getD k 0=x at *;generalize zE (zr (xs.take k)+x)=y at *
   go_wp2_with (go_at_call 82;(with_reducible refine(CP _).mono ?_);rintro e w1 ⟨rfl,rfl⟩)
   go_round
   case rel=>exact⟨k+1,by omega,by go_num,by rw[HS.out]⟩
   case measure=>simp[intOf];omega
  ·obtain rfl:k=n:=by omega
   have e:xs.take k=xs:=List.take_of_length_le (by rw[HN.out];exact Nat.le_refl _);have HE:=za e;clear e;go_wp2;go_ret;exact⟨zl (by rw[HE.out]),rfl⟩
theorem zhy (xs:List Int) (ad:Option Addr) (cap:Nat) (w:World) (hr:RowAt .i64 w ad xs) (hx:zad xs) (hl:xs.length<=9223372036854775807) :
  Calls Tryz.prog 143 #[.slice ad xs.length cap] w λe w'=>e=.returned (.int .i64 (zP xs))/\w=w':=by
 have HR:=za hr;have HX:=za hx;clear hr hx;obtain⟨n,hn⟩:∃ n,xs.length=n:=⟨_,rfl⟩;have HN:=za hn;rw[hn]at hl ⊢;clear hn
 go_enter Tryz.func143,Tryz.ntmps143
 go_wp2
 go_loop [3,8] (λs i=>∃ k:Nat,k<=n/\i=.int .i64 (k:Int)/\s=.int .i64 (zP (xs.take k))) (λ_ i=>n-(intOf i).toNat)
 case atStart=>exact⟨0,by omega,rfl,rfl⟩
 case round =>
  obtain⟨k,hk,rfl,rfl⟩:=hrel
  by_cases hlt:k<n
  ·obtain⟨b,off,rfl,hc⟩:=HR.out.get (show k<xs.length by rw[HN.out];exact hlt);obtain⟨x0,x1⟩:=HX.out k (by rw[HN.out];exact hlt);obtain⟨s0,s1⟩:=zdB (xs.take k);have hs:zP (xs.take (k+1))=zE (zP (xs.take k)+zaK (xs.getD k 0)):=by rw[zb5 xs (by rw[HN.out];exact hlt),zen];rfl
   have HS:=za hs;clear hs;have CW:=λw=>ziP (xs.getD k 0) x0 x1 w
   obtain⟨a0,a1⟩:=zoU (xs.getD k 0);have CP:=λw=>zfj (zP (xs.take k)) (zaK (xs.getD k 0)) (by omega) s1 (by omega) a1 w
   generalize xs.getD k 0=x at *;generalize zaK x=a at *;generalize zE (zP (xs.take k)+a)=y at *
   go_wp2_with (first
    |(go_at_call 82;(with_reducible refine(CP _).mono ?_);rintro e w1 ⟨rfl,rfl⟩)
    |(go_at_call 170;(with_reducible refine(CW _).mono ?_);rintro e w1 ⟨rfl,rfl⟩))
   go_round
   case rel=>exact⟨k+1,by omega,by go_num,by rw[HS.out]⟩
   case measure=>simp[intOf];omega
  ·obtain rfl:k=n:=by omega
   have e:xs.take k=xs:=List.take_of_length_le (by rw[HN.out];exact Nat.le_refl _);have HE:=za e;clear e;go_wp2;go_ret;exact⟨zl (by rw[HE.out]),rfl⟩
theorem zmx {x:Int}:zaa x↔¬1099511627776<zaK x:=by
 unfold zaa zaK zi
 by_cases g:x<0
 ·rw[if_pos g]
  by_cases h : -x<=9223372036854775807
  ·rw[zH (by omega) (by omega)];omega
  ·rw[zbU (by omega)];omega
 ·rw[if_neg g]
  by_cases h:x<=9223372036854775807
  ·rw[zH (by omega) (by omega)];omega
  ·rw[zbU (by omega)];omega
theorem zgp (xs:List Int) (ad:Option Addr) (cap:Nat) (w:World) (hr:RowAt .i64 w ad xs) (hx:zad xs) (hl:xs.length<=9223372036854775807) (v:Bool) (hv:zfX xs=!v) :
  Calls Tryz.prog 166 #[.slice ad xs.length cap] w λe w'=>e=.returned (.bool v)/\w=w':=by
 have B:=zeR xs;rw[hv]at B;have HB1:=za (show(¬(xs.length<1\/1048576<xs.length))->(∀ x ∈ xs,zaa x)->v=true from λh0 h=>by
  cases v with
  |true=>rfl
  |false =>
   rcases B.1 rfl with h1|h1|h1
   ·exact absurd (Or.inl h1) h0
   ·exact absurd (Or.inr h1) h0
   ·exact absurd h h1)
 have HB2:=za (show(xs.length<1\/1048576<xs.length\/¬∀ x ∈ xs,zaa x)->v=false from λh=>by
  have:=B.2 h
  cases v with
  |true=>cases this
  |false=>rfl)
 clear hv B;have HR:=za hr;have HX:=za hx;clear hr hx;obtain⟨n,hn⟩:∃ n,xs.length=n:=⟨_,rfl⟩;have HN:=za hn;rw[hn]at hl ⊢;clear hn
 by_cases g0:n=0
 ·obtain rfl:=HB2.out (Or.inl (by rw[HN.out];omega));subst g0;clear HN HB1 HB2
  go_enter Tryz.func166,Tryz.ntmps166
  go_wp2;go_ret;exact⟨rfl,rfl⟩
 by_cases g1:1048576<n
 ·obtain rfl:=HB2.out (Or.inr (Or.inl (by rw[HN.out];omega)));have b0:((n:Int) == 0)=false:=beq_eq_false_iff_ne.2 (by omega);have b1:decide ((1048576:Int)<(n:Int))=true:=decide_eq_true (by omega);clear HB1 HB2
  go_enter Tryz.func166,Tryz.ntmps166
  go_wp2;go_ret;exact⟨rfl,rfl⟩
 have HV1:=za (HB1.out (by rw[HN.out];omega));have b0:((n:Int) == 0)=false:=beq_eq_false_iff_ne.2 (by omega);have b1:decide ((1048576:Int)<(n:Int))=false:=decide_eq_false (by omega);clear g0 HB1
 go_enter Tryz.func166,Tryz.ntmps166
 go_wp2;clear b0 b1
 go_loop [15] (λi=>∃ k:Nat,k<=n/\i=.int .i64 (k:Int)/\Hid (∀ j,j<k->zaa (xs.getD j 0))) (λi=>n-(intOf i).toNat)
 case atStart=>exact⟨0,by omega,rfl,za (λj hj=>absurd hj (Nat.not_lt_zero _))⟩
 case round =>
  obtain⟨k,hk,rfl,HJ⟩:=hrel
  by_cases hlt:k<n
  ·obtain⟨b,off,rfl,hc⟩:=HR.out.get (show k<xs.length by rw[HN.out];exact hlt);obtain⟨x0,x1⟩:=HX.out k (by rw[HN.out];exact hlt);have CW:=λw=>ziP (xs.getD k 0) x0 x1 w
   obtain⟨a0,a1⟩:=zoU (xs.getD k 0)
   by_cases g:1099511627776<zaK (xs.getD k 0)
   ·obtain rfl:=HB2.out (Or.inr (Or.inr (λh=>by
     have:=zbk h (show k<xs.length by rw[HN.out];exact hlt);exact zmx.1 this g)))
    generalize xs.getD k 0=x at hc CW x0 x1 a0 a1 g;generalize zaK x=a at *
    go_wp2_with (go_at_call 170;(with_reducible refine(CW _).mono ?_);rintro e w1 ⟨rfl,rfl⟩)
    go_ret;exact⟨rfl,rfl⟩
   ·have HS:=za (zmx.2 g);have HK:=za (show ∀ j,j<k+1->zaa (xs.getD j 0) from λj hj=>by
     by_cases e:j=k
     ·subst e;exact HS.out
     ·exact HJ.out j (by omega))
    clear HS;generalize xs.getD k 0=x at hc CW x0 x1 a0 a1 g;generalize zaK x=a at *
    go_wp2_with (go_at_call 170;(with_reducible refine(CW _).mono ?_);rintro e w1 ⟨rfl,rfl⟩)
    go_round
    case rel=>exact⟨k+1,by omega,by go_num,HK⟩
    case measure=>simp[intOf];omega
  ·obtain rfl:k=n:=by omega
   obtain rfl:=HV1.out (zi1 (λj hj=>HJ.out j (by rw[HN.out]at hj;exact hj)));go_wp2;go_ret;exact⟨rfl,rfl⟩
theorem zpB (x:Int) (w:World):Calls Tryz.prog 222 #[.int .i64 x] w λe w'=>e=.returned (.bool false)/\w=w':=by
 go_enter Tryz.func222,Tryz.ntmps222
 go_wp2;go_ret;exact⟨by simp,rfl⟩
theorem zug (x:Int) (w:World):Calls Tryz.prog 223 #[.int .i64 x] w λe w'=>e=.returned (.bool false)/\w=w':=by
 go_enter Tryz.func223,Tryz.ntmps223
 go_wp2;go_ret;exact⟨by simp,rfl⟩
theorem zya (x y:Int) (w:World):Calls Tryz.prog 191 #[.int .i64 x,.int .i64 y] w λe w'=>e=.returned (.int .i64 (Lib.compareInt x y))/\w=w':=by
 unfold Lib.compareInt
 by_cases h:x<y
 ·rw[if_pos h]
  go_enter Tryz.func191,Tryz.ntmps191
  go_wp2_with (go_at_call 222;(with_reducible refine(zpB _ _).mono ?_);rintro e w1 ⟨rfl,rfl⟩)
  go_ret;exact⟨rfl,rfl⟩
 ·rw[if_neg h]
  by_cases g:x > y
  ·rw[if_pos g]
   go_enter Tryz.func191,Tryz.ntmps191
   go_wp2_with (go_at_call 222;(with_reducible refine(zpB _ _).mono ?_);rintro e w1 ⟨rfl,rfl⟩)
   go_ret;exact⟨rfl,rfl⟩
  ·rw[if_neg g]
   go_enter Tryz.func191,Tryz.ntmps191
   go_wp2_with (go_at_call 222;(with_reducible refine(zpB _ _).mono ?_);rintro e w1 ⟨rfl,rfl⟩)
   go_ret;exact⟨rfl,rfl⟩
theorem zyo (x y:Int) (w:World):Calls Tryz.prog 192 #[.int .i64 x,.int .i64 y] w λe w'=>e=.returned (.int .i64 (Lib.compareInt x y))/\w=w':=by
 unfold Lib.compareInt
 by_cases h:x<y
 ·rw[if_pos h]
  go_enter Tryz.func192,Tryz.ntmps192
  go_wp2_with (go_at_call 223;(with_reducible refine(zug _ _).mono ?_);rintro e w1 ⟨rfl,rfl⟩)
  go_ret;exact⟨rfl,rfl⟩
 ·rw[if_neg h]
  by_cases g:x > y
  ·rw[if_pos g]
   go_enter Tryz.func192,Tryz.ntmps192
   go_wp2_with (go_at_call 223;(with_reducible refine(zug _ _).mono ?_);rintro e w1 ⟨rfl,rfl⟩)
   go_ret;exact⟨rfl,rfl⟩
  ·rw[if_neg g]
   go_enter Tryz.func192,Tryz.ntmps192
   go_wp2_with (go_at_call 223;(with_reducible refine(zug _ _).mono ?_);rintro e w1 ⟨rfl,rfl⟩)
   go_ret;exact⟨rfl,rfl⟩
theorem zx0 (a b r:Int) (hr:orI a b=r) (k o:Nat) (w:World) (h0:w.cell? ⟨k,o,none⟩=some (.int .i64 a)) (h1:w.cell? ⟨k,o+1,none⟩=some (.int .i64 b)) :
  Calls Tryz.prog 190 #[.slice (some ⟨k,o,none⟩) 2 2] w λe w'=>e=.returned (.int .i64 r)/\w=w':=by
 unfold orI at hr;have HR:=za hr;clear hr
 go_enter Tryz.func190,Tryz.ntmps190
 go_wp2
 go_loop [8] (λi=>∃ j:Nat,j<=2/\i=.int .i64 (j:Int)/\(0<j->a=0)/\(1<j->b=0)) (λi=>2-(intOf i).toNat)
 case atStart=>exact⟨0,by omega,rfl,by omega,by omega⟩
 case round =>
  obtain⟨j,hj,rfl,p0,p1⟩:=hrel
  by_cases j0:j=0
  ·subst j0
   by_cases ha:a=0
   ·subst ha;clear p0 p1;go_wp2
    go_round
    case rel=>exact⟨1,by omega,by go_num,by simp,by simp⟩
    case measure=>simp[intOf]
   ·have e:=HR.out;rw[if_neg ha]at e;subst e;have b0:(a == 0)=false:=beq_eq_false_iff_ne.2 ha;clear p0 p1;go_wp2;go_ret;exact⟨rfl,rfl⟩
  by_cases j1:j=1
  ·subst j1;obtain rfl:=p0 (by omega);clear p0 p1;have e:=HR.out;rw[if_pos rfl]at e;subst e
   by_cases hb:b=0
   ·subst hb;go_wp2
    go_round
    case rel=>exact⟨2,by omega,by go_num,by simp,by simp⟩
    case measure=>simp[intOf]
   ·have b0:(b == 0)=false:=beq_eq_false_iff_ne.2 hb;go_wp2;go_ret;exact⟨rfl,rfl⟩
  ·obtain rfl:j=2:=by omega
   obtain rfl:=p0 (by omega);obtain rfl:=p1 (by omega);have e:=HR.out;rw[if_pos rfl]at e;subst e;clear p0 p1;go_wp2;go_ret;exact⟨rfl,rfl⟩
set_option maxHeartbeats 4000000 in
set_option maxRecDepth 1000000 in
theorem zon (rs:List Int) (n:Nat) (hn:rs.length=n) (x y:Fin n) (b1:Nat) (ad:Option Addr) (cap:Nat) (W:World) (hc:W.cell? ⟨b1,0,none⟩=some (.slice ad n cap)) (hr:RowAt .i64 W ad rs) :
  Calls Tryz.prog 189 #[.int .i64 (x.val:Int),.int .i64 (y.val:Int),.pointer (some ⟨b1,0,none⟩)] W λe w'=>e=.returned (.int .i64 (cfR rs n x y))/\∃ q os',w'=Sort.grow (W.drewN q) os':=by
 obtain⟨x,hx⟩:=x;obtain⟨y,hy⟩:=y;obtain⟨b,off,rfl,c1⟩:=hr.get (show x<rs.length by omega);have c2:=hr.at (show y<rs.length by omega);unfold cfR
 show Calls _ _ #[.int .i64 (x:Int),.int .i64 (y:Int),_] W _
 simp only;have C1:=λw=>zya (rs.getD y 0) (rs.getD x 0) w
 have C2:=λw=>zyo (x:Int) (y:Int) w
 generalize rs.getD y 0=ry at *;generalize rs.getD x 0=rx at *;generalize Lib.compareInt ry rx=p at *;generalize Lib.compareInt (x:Int) (y:Int)=q at *;obtain⟨r,hr2⟩:∃ r,orI p q=r:=⟨_,rfl⟩;rw[hr2];have CO:=λk w=>zx0 p q r hr2 k 0 w
 have HO:=za hr2;clear hr hn hr2;have z1:=World.new_ne W _ hc;have z2:=World.new_ne W _ c1;have z3:=World.new_ne W _ c2
 go_enter Tryz.func189,Tryz.ntmps189
 go_wp2_with fail
 go_region_held3 (λw'=>w'.cell? ⟨b1,0,none⟩=some (.slice (some ⟨b,off,none⟩) n cap)/\w'.cell? ⟨b,off+x,none⟩=some (.int .i64 rx)/\w'.cell? ⟨b,off+y,none⟩=some (.int .i64 ry)) (go_keep)
  (first
   |(go_at_call 191;(with_reducible refine(C1 _).mono ?_);rintro e w1 ⟨rfl,rfl⟩)
   |(go_at_call 192;(with_reducible refine(C2 _).mono ?_);rintro e w1 ⟨rfl,rfl⟩)
   |(go_at_call 190;(with_reducible refine(CO _ _ (by simp) (by simp)).mono ?_);rintro e w1 ⟨rfl,rfl⟩))
 go_wp2;go_ret;exact⟨rfl,1,#[_],by rw[Sort.alloc_eq_grow];rfl⟩
theorem zkF {α:Type} [Inhabited α] (enc:α->Value) (w:World) (blk off m:Nat) (dk:Array α) (os:Array Obj) {b o:Nat} {v:Value} (h:w.cell? ⟨b,o,none⟩=some v) (hne:b≠blk):(sortWorld enc w blk off m dk os).cell? ⟨b,o,none⟩=some v:=by
 unfold sortWorld;rw[Sort.cell?_grow _ _ _ (by simp only[Sort.size_putRow,Sort.heap_ahead];exact ze h),Sort.cell?_putRow_other _ _ _ _ _ _ (Or.inl hne),Sort.cell?_ahead];exact h
theorem zqV {α:Type} [Inhabited α] {enc:α->Value} {B:Nat} {w0 w:World} {g n:Nat} {d:Array α} {os:Array Obj} (h:Below B w0 w) (hg:B<=g) (hs:g<w.heap.size):Below B w0 (sortWorld enc w g 0 n d os):=by
 refine Below.trans h ⟨rfl,rfl,rfl,by unfold sortWorld;simp,λk hk=>?_⟩;unfold sortWorld Sort.grow
 show((Sort.putRow enc (Sort.ahead w n) g 0 d).heap++os)[k]?=w.heap[k]?
 rw[Array.getElem?_append_left (by rw[Sort.size_putRow,Sort.heap_ahead];omega)]
 simp[Sort.putRow,Sort.mapBlock,Sort.ahead,Array.getElem?_modify,show g≠k by omega]
theorem zvA (xs:List Int) (ad:Option Addr) (cap:Nat) (w:World) (hr:RowAt .i64 w ad xs) (hx:zad xs) (hl:xs.length<=9223372036854775807) (h:¬zeW xs) :
  Calls Tryz.prog 146 #[.slice ad xs.length cap] w λe w'=>e=.returned (.tuple #[.slice none 0 0,.int .i64 7])/\Below w.heap.size w w':=by
 have CS:=λw hr=>zhy xs ad cap w hr hx hl
 obtain⟨s0,s1⟩:=zdB xs;unfold zeW at h;have HR:=za hr;clear hr hx;generalize zP xs=s at *;generalize xs.length=n at *
 by_cases a1:n % 2=1
 ·have b1:((n:Int) % 2 == 0)=false:=beq_eq_false_iff_ne.2 (by omega)
  by_cases a2:n<=1024
  ·have b3:decide ((1024:Int)<(n:Int))=false:=decide_eq_false (by omega)
   by_cases a3:1<=s
   ·have a4:1048576<s:=by omega
    have b2:(s == 0)=false:=beq_eq_false_iff_ne.2 (by omega);clear h a1
    go_enter Tryz.func146,Tryz.ntmps146
    go_wp2_with (go_at_call 143;(with_reducible refine(CS _ HR.out).mono ?_);rintro e w1 ⟨rfl,rfl⟩)
    exact bodyPost_ret (v:=.tuple #[.slice none 0 0,.int .i64 7]) (by simp[results,Tryz.results146,go_sem]) rfl ⟨rfl,Below.refl _ _⟩
   ·obtain rfl:s=0:=by omega
    clear h a1
    go_enter Tryz.func146,Tryz.ntmps146
    go_wp2_with (go_at_call 143;(with_reducible refine(CS _ HR.out).mono ?_);rintro e w1 ⟨rfl,rfl⟩)
    exact bodyPost_ret (v:=.tuple #[.slice none 0 0,.int .i64 7]) (by simp[results,Tryz.results146,go_sem]) rfl ⟨rfl,Below.refl _ _⟩
  ·have b3:(1024:Int)<(n:Int):=by omega
   clear h a1
   go_enter Tryz.func146,Tryz.ntmps146
   go_wp2_with (go_at_call 143;(with_reducible refine(CS _ HR.out).mono ?_);rintro e w1 ⟨rfl,rfl⟩)
   exact bodyPost_ret (v:=.tuple #[.slice none 0 0,.int .i64 7]) (by simp[results,Tryz.results146,go_sem]) rfl ⟨rfl,Below.refl _ _⟩
 ·have b1:((n:Int) % 2 == 0)=true:=beq_iff_eq.2 (by omega);clear h a1
  go_enter Tryz.func146,Tryz.ntmps146
  go_wp2_with (go_at_call 143;(with_reducible refine(CS _ HR.out).mono ?_);rintro e w1 ⟨rfl,rfl⟩)
  exact bodyPost_ret (v:=.tuple #[.slice none 0 0,.int .i64 7]) (by simp[results,Tryz.results146,go_sem]) rfl ⟨rfl,Below.refl _ _⟩
set_option maxHeartbeats 4000000 in
set_option maxRecDepth 1000000 in
theorem zo3 (xs:List Int) (ad:Option Addr) (cap:Nat) (w:World) (hr:RowAt .i64 w ad xs) (hx:zad xs) (h:zeW xs) :
  Calls Tryz.prog 146 #[.slice ad xs.length cap] w λe w'=>∃ v,e=.returned (.tuple #[v,.int .i64 0])/\OwnI .i64 2 w' w.heap.size v (zbP xs)/\Below w.heap.size w w':=by
 obtain⟨p0,p1,s0,s1⟩:=h;have CS:=λw hr=>zhy xs ad cap w hr hx (by omega)
 obtain⟨i0,hi,hz0,hz1,hz2⟩:=info_parts zdZ;have HR:=za hr;have HX:=za hx;have HE:=za (show zbP xs=xs.map λx=>zN (x*1073741824) (zP xs) from rfl);clear hr hx;obtain⟨n,hn⟩:∃ n,xs.length=n:=⟨_,rfl⟩;have HN:=za hn;rw[hn]at p0 p1 CS ⊢;generalize zP xs=s at *;generalize zbP xs=us at *;have b1:((n:Int) % 2 == 0)=false:=beq_eq_false_iff_ne.2 (by omega);have b2:(s == 0)=false:=beq_eq_false_iff_ne.2 (by omega);have b3:decide ((1024:Int)<(n:Int))=false:=decide_eq_false (by omega);have n1:n<=1024:=p1;clear hn p0 p1
 go_enter Tryz.func146,Tryz.ntmps146
 go_wp2_with (first
  |(go_at_call 143;(with_reducible refine(CS _ HR.out).mono ?_);rintro e w1 ⟨rfl,rfl⟩)
  |(at_make;refine wpList_make_full _ rfl _ _ 28 rfl w.heap.size 2 i0 (.int .i64 0) 1 Tryz.underlying28 hi hz0 hz1 .i64 .i64 (n:Int) (n:Int) n rfl rfl rfl rfl (by rw[hz2];omega) (by unfold maxLen;omega) (Nat.le_refl _) ?_;intro w2 hown hgrow))
 have own0:OwnI .i64 2 w2 w.heap.size (.slice (some ⟨w.heap.size,0,none⟩) n n) (zdN (λx=>zN (x*1073741824) s) xs n 0):=by rw[zg4];exact OwnI.made hown
 have B2:=zhj (Below.refl _ w) hgrow;clear hown hgrow CS b1 b2 b3
 go_loopw [32] (λi wr=>∃ j:Nat,j<=n/\i=.int .i64 (j:Int)/\OwnI .i64 2 wr w.heap.size (.slice (some ⟨w.heap.size,0,none⟩) n n) (zdN (λx=>zN (x*1073741824) s) xs n j)/\Below w.heap.size w wr) (λi _=>n-(intOf i).toNat)
 case atStart=>exact⟨0,by omega,rfl,own0,B2⟩
 case round =>
  clear own0 B2;obtain⟨j,hj,rfl,ho,hb⟩:=hrel;have HO:=za ho;have HB:=za hb;clear ho hb
  by_cases hlt:j<n
  ·obtain⟨b,off,rfl,hc⟩:=(HR.out.below HB.out).get (show j<xs.length by rw[HN.out];exact hlt);obtain⟨x0,x1⟩:=HX.out j (by rw[HN.out];exact hlt);have CM:=λw=>zd9 (xs.getD j 0) 1073741824 s _ rfl x0 x1 (by omega) (by omega) (by omega) (by omega) w
   have HZ:=za (zhP (F:=λx=>zN (x*1073741824) s) HN.out hlt);have HL:=za (zhz (F:=λx=>zN (x*1073741824) s) (j:=j) HN.out);generalize zdN (λx=>zN (x*1073741824) s) xs n j=L1 at *;generalize xs.getD j 0=x at *;generalize zN (x*1073741824) s=q at *
   go_wp2_with (go_at_call 173;(with_reducible refine(CM _).mono ?_);rintro e w3 ⟨rfl,b3⟩;have fz:=(HO.out.below b3).frozenAt HL.out j;have cl:=(HO.out.below b3).cellAt HL.out hlt)
   go_roundw
   case rel=>exact⟨j+1,by omega,by go_num,by rw[←HZ.out];exact(HO.out.below b3).stored HL.out j q,bs (bt HB.out b3) (Nat.le_refl _) _⟩
   case measure=>simp[intOf];omega
  ·obtain rfl:j=n:=by omega
   have O2:=HO.out;rw[zh6 HN.out,←HE.out]at O2;have HO2:=za O2;clear O2 HO;go_wp2;exact bodyPost_ret (v:=.tuple #[_,.int .i64 0]) (by simp[results,Tryz.results146,go_sem]) rfl ⟨_,rfl,HO2.out,HB.out⟩
theorem znm (s:Int) (h:s<1\/4194304<s) (w:World) :
  Calls Tryz.prog 144 #[.int .i64 s] w λe w'=>e=.returned (.tuple #[.slice none 0 0,.int .i64 7])/\Below w.heap.size w w':=by
 rcases h with h|h
 ·go_enter Tryz.func144,Tryz.ntmps144
  go_wp2;exact bodyPost_ret (v:=.tuple #[.slice none 0 0,.int .i64 7]) (by simp[results,Tryz.results144,go_sem]) rfl ⟨rfl,Below.refl _ _⟩
 ·have h2:decide (s<1)=false:=decide_eq_false (by omega)
  go_enter Tryz.func144,Tryz.ntmps144
  go_wp2;exact bodyPost_ret (v:=.tuple #[.slice none 0 0,.int .i64 7]) (by simp[results,Tryz.results144,go_sem]) rfl ⟨rfl,Below.refl _ _⟩
theorem zti {s r:Int} (s0:1<=s) (s1:s<=4194304) (hr:zdQ s=r):zc1 (-3*s) 65536 = -r:=by
 rw[zdo (by omega),←hr];unfold zak zdQ;rw[if_neg (by omega),zH (by omega) (by omega)];omega
set_option maxHeartbeats 4000000 in
set_option maxRecDepth 1000000 in
theorem znY (s:Int) (s0:1<=s) (s1:s<=4194304) (w:World) :
  Calls Tryz.prog 144 #[.int .i64 s] w λe w'=>∃ v,e=.returned (.tuple #[v,.int .i64 0])/\OwnI .i64 2 w' w.heap.size v (zc6 s)/\Below w.heap.size w w':=by
 obtain⟨i0,hi,hz0,hz1,hz2⟩:=info_parts zdZ;obtain⟨r,hr⟩:∃ r:Nat,zdQ s=(r:Int):=⟨(zdQ s).toNat,by unfold zdQ;omega⟩;have hf:=zti s0 s1 hr;have r1:r<=192:=by unfold zdQ at hr;omega
 have CF:=λw=>zdp (-3*s) 65536 (by omega) (by omega) (by omega) (by omega) w
 rw[hf]at CF;have HG:=za (show zc6 s=zbN r s (2*r+1) by unfold zc6;rw[hr,show((r:Int)).toNat=r by omega]);generalize zc6 s=gs at *;clear hr hf;have t0 : -3*s<=0:=by omega
 have t1 : -12582912<=-3*s:=by omega
 go_enter Tryz.func144,Tryz.ntmps144
 obtain⟨n,hn⟩:∃ n,2*r+1=n:=⟨_,rfl⟩;have hn':2*(r:Int)+1=(n:Int):=by omega
 have nn : - -(r:Int)=(r:Int):=by omega
 have n1:n<=385:=by omega
 go_wp2_with (first
  |(go_at_call 168;(with_reducible refine(CF _).mono ?_);rintro e w1 ⟨rfl,rfl⟩)
  |(at_make;refine wpList_make_full _ rfl _ _ 28 rfl w.heap.size 2 i0 (.int .i64 0) 1 Tryz.underlying28 hi hz0 hz1 .i64 .i64 (n:Int) (n:Int) n rfl rfl rfl rfl (by rw[hz2];omega) (by unfold maxLen;omega) (Nat.le_refl _) ?_;intro w2 hown hgrow))
 have own0:OwnI .i64 2 w2 w.heap.size (.slice (some ⟨w.heap.size,0,none⟩) n n) (zbH (zbN r s 0) n):=by
  rw[show zbN r s 0=[] from rfl,zdl];exact OwnI.made hown
 have B2:=zhj (Below.refl _ w) hgrow;have HNN:=za hn;clear hown hgrow CF hn hn' nn t0 t1
 go_loopw [23] (λi wr=>∃ j:Nat,j<=n/\i=.int .i64 (j:Int)/\OwnI .i64 2 wr w.heap.size (.slice (some ⟨w.heap.size,0,none⟩) n n) (zbH (zbN r s j) n)/\Below w.heap.size w wr) (λi _=>n-(intOf i).toNat)
 case atStart=>exact⟨0,by omega,rfl,own0,B2⟩
 case round =>
  clear own0 B2;obtain⟨j,hj,rfl,ho,hb⟩:=hrel;have HO:=za ho;have HB:=za hb;clear ho hb
  by_cases hlt:j<n
  ·have CG:=λw=>zsR ((j:Int)-r) s (by omega) (by omega) (by omega) (by omega) w
   have HZ:=za (zdA (zcB r s j) hlt (zc2 ((j:Int)-r) s));have HS:=za (zhU r s j);have HL:=za (zd3 (show(zbN r s j).length<=n by rw[zcB];exact hj));generalize zbH (zbN r s j) n=L1 at *;generalize zc2 ((j:Int)-r) s=q at *
   go_wp2_with (go_at_call 171;(with_reducible refine(CG _).mono ?_);rintro e w3 ⟨rfl,b3⟩;have fz:=(HO.out.below b3).frozenAt HL.out j;have cl:=(HO.out.below b3).cellAt HL.out hlt)
   go_roundw
   case rel=>exact⟨j+1,by omega,by go_num,by rw[HS.out,←HZ.out];exact(HO.out.below b3).stored HL.out j q,bs (bt HB.out b3) (Nat.le_refl _) _⟩
   case measure=>simp[intOf];omega
  ·obtain rfl:j=n:=by omega
   have O2:=HO.out;rw[zcL (zcB _ _ _)]at O2;have EJ:=HG.out;rw[HNN.out]at EJ;rw[←EJ]at O2;have HO2:=za O2;clear O2 HO EJ;go_wp2;exact bodyPost_ret (v:=.tuple #[_,.int .i64 0]) (by simp[results,Tryz.results144,go_sem]) rfl ⟨_,rfl,HO2.out,HB.out⟩
end Go.Proofs.YtlodkoimdoeopaaGreatDoor
namespace Go.Proofs.YtlodkoimdoeopaaGreatDoor
def zsO:Go.Shelf.Ren:=⟨fun|6=>188|15=>221|14=>220|28=>242|29=>243|20=>234|21=>235|22=>236|23=>237|24=>238|25=>239|26=>240|27=>241|46=>248|47=>249|48=>250|49=>251|50=>252|57=>253|n=>n,fun|22=>239|24=>3|25=>171|3=>3|39=>199|0=>0|53=>277|55=>153|4=>4|46=>287|45=>286|50=>291|5=>5|9=>9|66=>297|70=>301|76=>303|77=>180|n=>n,fun|n=>n⟩
theorem zyh:Go.Proofs.SlLaysF.n6 Tryz.prog zsO:={
 mixed:=by kernel_rfl
 f6:=⟨Tryz.f188.name,by decide,Tryz.func188.trans (congrArg some (by kernel_rfl))⟩
 f14:=⟨Tryz.f220.name,by decide,Tryz.func220.trans (congrArg some (by kernel_rfl))⟩
 f15:=Tryz.func221.trans (congrArg some (by kernel_rfl))
 f20:=⟨Tryz.f234.name,by decide,Tryz.func234.trans (congrArg some (by kernel_rfl))⟩
 f21:=⟨Tryz.f235.name,by decide,Tryz.func235.trans (congrArg some (by kernel_rfl))⟩
 f22:=⟨Tryz.f236.name,by decide,Tryz.func236.trans (congrArg some (by kernel_rfl))⟩
 f23:=⟨Tryz.f237.name,by decide,Tryz.func237.trans (congrArg some (by kernel_rfl))⟩
 f24:=⟨Tryz.f238.name,by decide,Tryz.func238.trans (congrArg some (by kernel_rfl))⟩
 f25:=⟨Tryz.f239.name,by decide,Tryz.func239.trans (congrArg some (by kernel_rfl))⟩
 f26:=⟨Tryz.f240.name,by decide,Tryz.func240.trans (congrArg some (by kernel_rfl))⟩
 f27:=⟨Tryz.f241.name,by decide,Tryz.func241.trans (congrArg some (by kernel_rfl))⟩
 f28:=Tryz.func242.trans (congrArg some (by kernel_rfl))
 f29:=Tryz.func243.trans (congrArg some (by kernel_rfl))
 f46:=⟨Tryz.f248.name,by decide,Tryz.func248.trans (congrArg some (by kernel_rfl))⟩
 f47:=Tryz.func249.trans (congrArg some (by kernel_rfl))
 f48:=Tryz.func250.trans (congrArg some (by kernel_rfl))
 f49:=⟨Tryz.f251.name,by decide,Tryz.func251.trans (congrArg some (by kernel_rfl))⟩
 f50:=⟨Tryz.f252.name,by decide,Tryz.func252.trans (congrArg some (by kernel_rfl))⟩
 f57:=⟨Tryz.f253.name,by decide,Tryz.func253.trans (congrArg some (by kernel_rfl))⟩
 t0:=Tryz.underlying0
 a0:=Tryz.isAgg0
 z0:=Tryz.sizeOf0
 v0:=Tryz.zeroValue0
 t3:=Tryz.underlying3
 a3:=Tryz.isAgg3
 z3:=Tryz.sizeOf3
 v3:=Tryz.zeroValue3
 t4:=Tryz.underlying4
 a4:=Tryz.isAgg4
 z4:=Tryz.sizeOf4
 v4:=Tryz.zeroValue4
 t5:=Tryz.underlying5
 a5:=Tryz.isAgg5
 z5:=Tryz.sizeOf5
 v5:=Tryz.zeroValue5
 t9:=Tryz.underlying9
 a9:=Tryz.isAgg9
 z9:=Tryz.sizeOf9
 v9:=Tryz.zeroValue9
 t22:=Tryz.underlying239
 a22:=Tryz.isAgg239
 z22:=Tryz.sizeOf239
 v22:=Tryz.zeroValue239
 a24:=Tryz.isAgg3
 z24:=Tryz.sizeOf3
 t25:=Tryz.underlying171
 a25:=Tryz.isAgg171
 z25:=Tryz.sizeOf171
 v25:=Tryz.zeroValue171
 t39:=Tryz.underlying199
 a39:=Tryz.isAgg199
 z39:=Tryz.sizeOf199
 v39:=Tryz.zeroValue199
 t45:=Tryz.underlying286
 a45:=Tryz.isAgg286
 z45:=Tryz.sizeOf286
 v45:=Tryz.zeroValue286
 t46:=Tryz.underlying287
 a46:=Tryz.isAgg287
 z46:=Tryz.sizeOf287
 v46:=Tryz.zeroValue287
 t50:=Tryz.underlying291
 a50:=Tryz.isAgg291
 z50:=Tryz.sizeOf291
 v50:=Tryz.zeroValue291
 t53:=Tryz.underlying277
 a53:=Tryz.isAgg277
 z53:=Tryz.sizeOf277
 v53:=Tryz.zeroValue277
 t55:=Tryz.underlying153
 a55:=Tryz.isAgg153
 z55:=Tryz.sizeOf153
 v55:=Tryz.zeroValue153
 t66:=Tryz.underlying297
 a66:=Tryz.isAgg297
 z66:=Tryz.sizeOf297
 v66:=Tryz.zeroValue297
 t70:=Tryz.underlying301
 a70:=Tryz.isAgg301
 z70:=Tryz.sizeOf301
 v70:=Tryz.zeroValue301
 t76:=Tryz.underlying303
 a76:=Tryz.isAgg303
 z76:=Tryz.sizeOf303
 v76:=Tryz.zeroValue303
 t77:=Tryz.underlying180
 a77:=Tryz.isAgg180
 z77:=Tryz.sizeOf180
 v77:=Tryz.zeroValue180 }
end Go.Proofs.YtlodkoimdoeopaaGreatDoor
namespace Go.Proofs.YtlodkoimdoeopaaGreatDoor
open Go.RowKit
theorem zve:(Tryz.prog.info? 3).map (λi=>(i.zero,i.size,i.bytes))=some (some (.int .i64 0),1,8):=by kernel_rfl
def zc3 (j:Nat):List Int:=(List.range j).map λk:Nat=>(k:Int)
theorem zog (j:Nat):zc3 (j+1)=zc3 j++[(j:Int)]:=by unfold zc3;rw[List.range_succ,List.map_append];rfl
theorem zek (j:Nat):(zc3 j).length=j:=by unfold zc3;rw[List.length_map,List.length_range]
theorem zqC {j n:Nat} (h:j<n):(zc3 n).getD j 0=(j:Int):=by
 unfold zc3;rw[List.getD_eq_getElem?_getD,List.getElem?_map,List.getElem?_range h];rfl
set_option maxHeartbeats 4000000 in
set_option maxRecDepth 1000000 in
theorem zqg (rs:List Int) (n:Nat) (ad:Option Addr) (cap:Nat) (w:World) (hn:rs.length=n) (n0:1<=n) (n1:n<=1048576) (hr:RowAt .i64 w ad rs) :
  Calls Tryz.prog 169 #[.slice ad n cap] w λe w'=>∃ g p,e=.returned (.slice (some ⟨g,0,none⟩) n n)/\Ranked rs p/\RowAt .i64 w' (some ⟨g,0,none⟩) (p.map λk:Nat=>(k:Int))/\w.heap.size<=g/\Below w.heap.size w w':=by
 obtain⟨i0,hi,hz0,hz1,hz2⟩:=info_parts zve;have HR:=za hr;have HN:=za hn;clear hr hn
 go_enter Tryz.func169,Tryz.ntmps169
 go_wp2_with (at_make;refine wpList_make_full _ rfl _ _ 239 rfl w.heap.size 3 i0 (.int .i64 0) 1 Tryz.underlying239 hi hz0 hz1 .i64 .i64 (n:Int) (n:Int) n rfl rfl rfl rfl (by rw[hz2];omega) (by unfold maxLen;omega) (by simp) ?_;intro w2 hown hgrow)
 have es:(w.alloc (.cells #[.slice ad n cap] 28)).heap.size=w.heap.size+1:=by simp
 rw[es]at hown;have own0:OwnI .i64 3 w2 w.heap.size (.slice (some ⟨w.heap.size+1,0,none⟩) n n) (zbH (zc3 0) n):=by
  rw[show zc3 0=[] from rfl,zdl];exact OwnI.made hown
 have B2:=zhj (Below.refl _ (w.alloc (.cells #[.slice ad n cap] 28))) hgrow;rw[es]at B2;have hcell:(w.alloc (.cells #[.slice ad n cap] 28)).cell? ⟨w.heap.size,0,none⟩=some (.slice ad n cap):=by simp
 have HC:=za hcell;have HBA:=za (ba (Below.refl w.heap.size w) (.cells #[.slice ad n cap] 28));have HES:=za es;generalize w.alloc (.cells #[.slice ad n cap] 28)=wa at *;clear hown hgrow hcell es
 go_loopw [10] (λi wr=>∃ j:Nat,j<=n/\i=.int .i64 (j:Int)/\OwnI .i64 3 wr w.heap.size (.slice (some ⟨w.heap.size+1,0,none⟩) n n) (zbH (zc3 j) n)/\Below (w.heap.size+1) wa wr) (λi _=>n-(intOf i).toNat)
 case atStart=>exact⟨0,by omega,rfl,own0,B2⟩
 case round =>
  clear own0 B2;obtain⟨j,hj,rfl,ho,hb⟩:=hrel;have HO:=za ho;have HB:=za hb;clear ho hb
  by_cases hlt:j<n
  ·have HZ:=za (zdA (zek j) hlt (j:Int));have HS:=za (zog j);have HL:=za (zd3 (show(zc3 j).length<=n by rw[zek];exact hj));have fz:=HO.out.frozenAt HL.out j;have cl:=HO.out.cellAt HL.out hlt;generalize zbH (zc3 j) n=L1 at *;go_wp2
   go_roundw
   case rel=>exact⟨j+1,by omega,by go_num,by rw[HS.out,←HZ.out];exact HO.out.stored HL.out j (j:Int),by have h:=HB.out;rw[←HES.out]at h ⊢;exact bs h (Nat.le_refl _) _⟩
   case measure=>simp[intOf];omega
  ·obtain rfl:j=n:=by omega
   have O2:=HO.out;rw[zcL (zek _)]at O2
   haveI:Inhabited (Fin j):=⟨⟨0,by omega⟩⟩
   obtain⟨d,hd⟩:∃ d:Array (Fin j),d.toList=List.finRange j:=⟨(List.finRange j).toArray,by simp⟩;have dz:d.size=j:=by rw[←Array.length_toList,hd,List.length_finRange]
   have BW:Below w.heap.size w wr:=Below.trans HBA.out (HB.out.mono (by omega));have hz:w.heap.size+1<wr.heap.size:=O2.lt _ rfl;have dk:∀ k,k<j->(d[k]!).val=k:=by
    intro k hk;have:(zbG d).getD k 0=k:=by
     unfold zbG;rw[hd,List.getD_eq_getElem?_getD,List.getElem?_map,List.getElem?_eq_getElem (by rw[List.length_finRange];exact hk)]
     simp
    rw[←zd4 d (by omega)];exact this
   have hH:Sort.Holds (λx:Fin j=>Value.int .i64 (x.val:Int)) wr (w.heap.size+1) 0 d:=by
    intro k hk;rw[dz]at hk;have c:=O2.cellAt (zek j) hk;rw[zqC hk]at c;rw[Nat.zero_add]
    show wr.cell? _=some (Value.int .i64 ((d[k]!).val:Int))/\_
    rw[dk k hk];exact⟨c,O2.frozenAt (zek j) k⟩
   have hcb:=HB.out.cell (p:=⟨w.heap.size,0,none⟩) (by show w.heap.size<_;omega);rw[HC.out]at hcb;have hcmp:CmpLays1 Tryz.prog 189 #[.pointer (some ⟨w.heap.size,0,none⟩)] (λx:Fin j=>Value.int .i64 (x.val:Int)) (cfR rs j) (w.heap.size+1) 0 d.size wr:=by
    intro m os dk hdk x y;refine zon rs j HN.out x y w.heap.size ad cap _ (zkF _ _ _ _ _ _ _ hcb (by omega)) ?_;rcases HR.out with e|⟨b,off,e1,e2⟩
    ·exact Or.inl e
    ·refine Or.inr ⟨b,off,e1,λk hk=>?_⟩;have hlb:=ze (e2 k hk);exact zkF _ _ _ _ _ _ _ (cb BW hlb (e2 k hk)) (by omega)
   have eg:∀ args w,(callFunc 189 args).run Tryz.prog w=.ok (.enter 189 args) w:=enters_of Tryz.func189 (by kernel_rfl) rfl;have hS:=Any.slices_SortFunc zyh (λx:Fin j=>Value.int .i64 (x.val:Int)) (λ_=>rfl) (cfR rs j) (zwp rs j) 189 #[.pointer (some ⟨w.heap.size,0,none⟩)] (w.heap.size+1) 0 j d wr eg hcmp hH hz (by omega);rw[dz]at hS
   change Calls Tryz.prog 188 _ _ _ at hS
   have HD:=za hd;have HZ:=za dz;have HH:=za hH;have HBW:=za BW;clear hcb hcmp eg hd dz dk hH BW O2 HO
   go_wp2_with (go_at_call 188;(with_reducible refine hS.mono ?_);rintro e w3 ⟨rfl,d',m,os,hp,hs,hw3⟩;have HW3:=za hw3;clear hw3)
   have dz:=HZ.out;have RK:=zsE HN.out d d' HD.out (by rw[dz];exact hp) (by rw[dz];exact hs);have hH3:Sort.Holds (λx:Fin j=>Value.int .i64 (x.val:Int)) w3 (w.heap.size+1) 0 d':=by
    refine SW.holds (enc:=λx:Fin j=>Value.int .i64 (x.val:Int)) (w0:=wr) ⟨m,os,HW3.out⟩ hz HH.out ?_;exact hp.1
   have B3:Below w.heap.size w w3:=by rw[HW3.out];exact zqV HBW.out (Nat.le_succ _) hz
   have pl:(zbG d').length=d'.size:=by unfold zbG;rw[List.length_map,Array.length_toList]
   have RA:RowAt .i64 w3 (some ⟨w.heap.size+1,0,none⟩) ((zbG d').map λk:Nat=>(k:Int)):=by
    refine Or.inr ⟨w.heap.size+1,0,rfl,λk hk=>?_⟩;rw[List.length_map,pl]at hk;rw[(hH3 k hk).1]
    show some (Value.int .i64 ((d'[k]!).val:Int))=_
    rw[←zd4 d' hk,List.getD_eq_getElem?_getD,List.getD_eq_getElem?_getD,List.getElem?_map,List.getElem?_eq_getElem (by rw[pl];exact hk)];rfl
   have H4:=za (And.intro RK (And.intro RA B3));clear hp hs dz RK hH3 B3 pl RA hS;go_wp2;go_ret;exact⟨_,_,rfl,H4.out.1,H4.out.2.1,Nat.le_succ _,H4.out.2.2⟩
theorem RowAt.apart {k:IntKind} {w:World} {g off:Nat} {xs:List Int} (h:RowAt k w (some ⟨g,off,none⟩) xs) {b:Nat} (hne:b≠g) (o:Nat) (u:Value):RowAt k (w.setCell ⟨b,o,none⟩ u) (some ⟨g,off,none⟩) xs:=by
 by_cases e:xs=[]
 ·exact Or.inl e
 ·refine Or.inr ⟨g,off,rfl,λj hj=>?_⟩;rw[World.cell?_setCell_other _ _ _ _ (by intro e';simp only[Addr.mk.injEq]at e';omega)];exact h.at hj
theorem zsr {s x:Int} (s0:0<s) (h:zaa x):zkB (x*16384) s=za9 s x:=by
 obtain⟨_,e,_⟩:=zf2 s0 h;rw[zij (by omega),e];unfold zaH;rw[if_neg (by omega)]
set_option maxHeartbeats 8000000 in
set_option maxRecDepth 1000000 in
theorem zgI (xs:List Int) (ad:Option Addr) (cap:Nat) (w:World) (hr:RowAt .i64 w ad xs) (hx:zad xs) (hf:Fits xs) :
  Calls Tryz.prog 142 #[.slice ad xs.length cap] w λe w'=>∃ v,e=.returned (.tuple #[v,.int .i64 0])/\OwnI .i64 2 w' w.heap.size v (zG xs)/\Below w.heap.size w w':=by
 have HF:=za hf;obtain⟨h0,h1,h,s0⟩:=hf;have CB:=λw hr=>zgp xs ad cap w hr hx (by omega) true (by
  have B:=zeR xs
  cases hb:zfX xs with
  |false=>rfl
  |true =>
   exfalso
   rcases B.1 hb with q|q|q
   ·omega
   ·omega
   ·exact q h)
 have CS:=λw hr=>zny xs ad cap w hr hx (by omega)
 have s1:=(zgE xs).2;have HR:=za hr;have HX:=za hx;have HH:=za h;clear hr hx h;obtain⟨n,hn⟩:∃ n,xs.length=n:=⟨_,rfl⟩;have HN:=za hn;rw[hn]at h0 h1 CS CB ⊢;obtain⟨s,hs⟩:∃ s,zr xs=s:=⟨_,rfl⟩;have HS:=za hs;rw[hs]at s0 s1 CS;have ub:s<=1152921504606846976:=by
  obtain⟨a,_,b⟩:=zg2 xs HH.out (by omega);rw[←hs,a];rw[hn]at b;omega
 clear hn hs;obtain⟨zs,MK,MO,_⟩:=zh9 n (by omega);have HMO:=za MO;clear MO
 go_enter Tryz.func142,Tryz.ntmps142
 go_upto_region 6 with(first
  |(go_at_call 166;(with_reducible refine(CB _ HR.out).mono ?_);rintro e w1 ⟨rfl,rfl⟩)
  |(go_at_call 167;(with_reducible refine(CS _ HR.out).mono ?_);rintro e w1 ⟨rfl,rfl⟩))
 clear CS CB
 go_cut [5,6] (λu v wx=>∃ g1 g2,u=.slice (some ⟨g1,0,none⟩) n n/\v=.slice (some ⟨g2,0,none⟩) n n/\g1≠g2/\w.heap.size<=g1/\w.heap.size<=g2/\OwnI .i64 2 wx w.heap.size (.slice (some ⟨g1,0,none⟩) n n) (List.replicate n 0)/\OwnI .i64 2 wx w.heap.size (.slice (some ⟨g2,0,none⟩) n n) (List.replicate n 0)/\Below w.heap.size w wx)
 case first =>
  have O1:=(HMO.out w w.heap.size (Nat.le_refl _)).alloc (.cells zs 2);have O2:=HMO.out (w.alloc (.cells zs 2)) w.heap.size (by simp);rw[show(w.alloc (.cells zs 2)).heap.size=w.heap.size+1 by simp]at O2;have B2:=bd (ba (ba (Below.refl w.heap.size w) (.cells zs 2)) (.cells zs 2));have H4:=za (And.intro O1 (And.intro O2 B2));clear O1 O2 B2
  go_region
  all_goals (go_wp2_with fail;go_meet)
  ·exact⟨_,_,rfl,rfl,Nat.ne_of_lt (Nat.lt_succ_self _),Nat.le_refl _,Nat.le_succ _,H4.out.1,H4.out.2.1,H4.out.2.2⟩
  ·exact⟨_,_,rfl,rfl,Nat.ne_of_gt (Nat.lt_succ_self _),Nat.le_succ _,Nat.le_refl _,H4.out.2.1,H4.out.1,H4.out.2.2⟩
 case rest =>
  obtain⟨g1,g2,rfl,rfl,hne,gb1,gb2,ho,hq,hb⟩:=hcut;clear MK HMO;rw[←zg4 (zae s) xs n]at ho;rw[←zg4 (za9 s) xs n]at hq;go_wp2
  go_loopw [7,28] (λt i wr=>∃ k:Nat,k<=n/\i=.int .i64 (k:Int)/\t=.int .i64 (16384-(zW s (xs.take k)).sum)/\OwnI .i64 2 wr w.heap.size (.slice (some ⟨g1,0,none⟩) n n) (zdN (zae s) xs n k)/\OwnI .i64 2 wr w.heap.size (.slice (some ⟨g2,0,none⟩) n n) (zdN (za9 s) xs n k)/\Below w.heap.size w wr) (λ_ i _=>n-(intOf i).toNat)
  case atStart=>exact⟨0,by omega,rfl,rfl,ho,hq,hb⟩
  case round =>
   clear ho hq hb;obtain⟨k,hk,rfl,rfl,ho,hq,hb⟩:=hrel;have HO:=za ho;have HQ:=za hq;have HB:=za hb;clear ho hq hb;have HL1:=za (zhz (F:=zae s) (j:=k) HN.out);have HL2:=za (zhz (F:=za9 s) (j:=k) HN.out)
   by_cases hlt:k<n
   ·obtain⟨b,off,rfl,hc⟩:=(HR.out.below HB.out).get (show k<xs.length by rw[HN.out];exact hlt);have hsm:=zbk HH.out (show k<xs.length by rw[HN.out];exact hlt);obtain⟨q0,q1,r0,r1⟩:=zbJ s0 hsm;have CF:=λw=>zdp (xs.getD k 0*16384) s (by unfold zaa at hsm;omega) (by unfold zaa at hsm;omega) (by omega) (by omega) w
    have CM:=λw=>zfq (xs.getD k 0*16384) s (by unfold zaa at hsm;omega) (by unfold zaa at hsm;omega) (by omega) (by omega) w
    rw[show zc1 (xs.getD k 0*16384) s=zae s (xs.getD k 0) from rfl]at CF;rw[zsr (by omega) hsm]at CM;have HT:=za (zb5 xs (show k<xs.length by rw[HN.out];exact hlt));have sq:=zjd s0 (xs.take k) (λx hx=>HH.out x (List.mem_of_mem_take hx));have tl:(xs.take k).length=k:=by rw[List.length_take];have:=HN.out;omega
    rw[tl]at sq;obtain⟨sq0,sq1⟩:=sq;clear tl;have HZ1:=za (zhP (F:=zae s) HN.out hlt);have HZ2:=za (zhP (F:=za9 s) HN.out hlt);have OO:=HO.out;have QQ:=HQ.out;have c1:=OO.cellAt HL1.out hlt;have z1:=OO.frozenAt HL1.out k;have QS:=OwnI.other (u:=.int .i64 (zae s (xs.getD k 0))) QQ g1 k hne;have c2:=QS.cellAt HL2.out hlt;have z2:=QS.frozenAt HL2.out k;have OS:=OwnI.other (u:=.int .i64 (za9 s (xs.getD k 0))) (OO.stored HL1.out k (zae s (xs.getD k 0))) g2 k hne.symm;have c3:=OS.cellAt (by rw[List.length_set];exact HL1.out) hlt;rw[zdH _ _ _ _ (by rw[HL1.out];exact hlt),if_pos rfl]at c3;have QS2:=QS.stored HL2.out k (za9 s (xs.getD k 0));rw[HZ1.out]at OS;rw[HZ2.out]at QS2;have H5:=za (And.intro OS (And.intro QS2 (bs (bs HB.out gb1 (b:=g1) (o:=k) (.int .i64 (zae s (xs.getD k 0)))) gb2 (b:=g2) (o:=k) (.int .i64 (za9 s (xs.getD k 0))))));clear OO QQ QS OS QS2 HO HQ HZ1 HZ2;unfold zaa at hsm;obtain⟨x0,x1⟩:=hsm;generalize xs.getD k 0=x at *;generalize hqe:zae s x=q at *;generalize za9 s x=r at *;generalize hse:(zW s (xs.take k)).sum=S at *;have HQE:=za hqe;have HSE:=za hse;clear hqe hse
    go_wp2_with (first
     |(go_at_call 168;(with_reducible refine(CF _).mono ?_);rintro e w2 ⟨rfl,rfl⟩)
     |(go_at_call 122;(with_reducible refine(CM _).mono ?_);rintro e w2 ⟨rfl,rfl⟩))
    go_roundw
    case rel =>
     obtain⟨O4,Q4,B4⟩:=H5.out;refine⟨k+1,by omega,by go_num,?_,O4,Q4,B4⟩;rw[HT.out,zgu,HQE.out,List.sum_append,HSE.out,List.sum_singleton,show 16384-(S+q)=16384-S-q by omega]
    case measure=>simp[intOf];omega
   ·obtain rfl:k=n:=by omega
    have HO0:=HO.out;have HQ0:=HQ.out;rw[zh6 HN.out,show xs.map (zae s)=zW s xs from rfl]at HO0;rw[zh6 HN.out,show xs.map (za9 s)=zaA s xs from rfl]at HQ0;rw[show xs.take k=xs from List.take_of_length_le (by rw[HN.out];exact Nat.le_refl _)];obtain⟨ST,L0,LL⟩:=zfH HF.out;rw[HS.out]at ST L0 LL;rw[HN.out]at ST LL;have EX:zG xs=(zk (zW s xs) (zaA s xs) (za7 s xs).toNat).1:=by unfold zG;rw[HS.out]
    obtain⟨lf,hlf⟩:∃ lf:Nat,za7 s xs=(lf:Int):=⟨(za7 s xs).toNat,by omega⟩;rw[show(za7 s xs).toNat=lf by omega]at ST EX;have lk:lf<k:=by omega
    rw[show(16384-(zW s xs).sum:Int)=(lf:Int) from hlf];have QI:∀ b,b<k->-67108864<=(zW s xs).getD b 0/\(zW s xs).getD b 0<=67108864:=by
     intro b hb;unfold zW;rw[zfJ _ _ (by rw[HN.out];exact hb)];have:=zbJ s0 (zbk HH.out (show b<xs.length by rw[HN.out];exact hb));exact⟨this.1,this.2.1⟩
    have CBR:=λwq hr=>zqg (zaA s xs) k (some ⟨g2,0,none⟩) k wq ST.rl h0 h1 hr
    have HRR:=za (show RowAt .i64 wr (some ⟨g2,0,none⟩) (zaA s xs) from Or.inr ⟨g2,0,rfl,λj hj=>by
     rw[ST.rl]at hj;rw[Nat.zero_add];exact HQ0.cellAt ST.rl hj⟩)
    have HST:=za ST;have HEX:=za EX;have HQI:=za QI;have glt:=HO0.lt g1 rfl;have HO1:=za HO0;generalize zW s xs=Q0 at *;generalize zaA s xs=R0 at *;clear HO0 HQ0 ST EX QI L0 LL hlf hk hlt HO HQ HL1 HL2
    go_wp2_with (go_at_call 169;(with_reducible refine(CBR _ HRR.out).mono ?_);rintro e w4 ⟨g,p,rfl,hrk,hrow,hg,b4⟩)
    have HRK:=za hrk;have HBW:=za (bt HB.out b4);have HO2:=za (HO1.out.below b4);have HROW:=za hrow;have hgne:g1≠g:=by omega
    have pl:p.length=k:=by rw[hrk.len,HST.out.rl]
    have HPL:=za pl;clear hrk hrow hg b4 HO1 HB HRR CBR pl glt
    go_loopg [59] lf (λr i wq=>∃ m:Nat,m+r=lf/\i=.int .i64 (m:Int)/\OwnI .i64 2 wq w.heap.size (.slice (some ⟨g1,0,none⟩) k k) (zcC Q0 p m)/\RowAt .i64 wq (some ⟨g,0,none⟩) (p.map λk:Nat=>(k:Int))/\Below w.heap.size w wq)
    case atStart=>exact⟨0,by omega,by simp,HO2.out,HROW.out,HBW.out⟩
    case round =>
     clear HO2 HROW HBW;obtain⟨m,hm,rfl,ho,hrw,hb⟩:=hrel;obtain⟨W,hW⟩:∃ W,W=wr:=⟨_,rfl⟩;subst hW;have HM:=za hm;have HO:=za ho;have HRW:=za hrw;have HB:=za hb;have mle:m<=lf:=by omega
     have HL:=za ((zsj Q0 p m).trans HST.out.ql);clear hm ho hrw hb
     by_cases hlt:m<lf
     ·have pm:p.getD m 0<k:=by
       have:=HRK.out.lt m (by rw[HPL.out];omega);rw[HST.out.rl]at this;exact this
      have cp:=HRW.out.at (show m<(p.map λk:Nat=>(k:Int)).length by rw[List.length_map,HPL.out];omega);rw[Nat.zero_add]at cp;rw[show(p.map λk:Nat=>(k:Int)).getD m 0=((p.getD m 0:Nat):Int) by
       rw[List.getD_eq_getElem?_getD,List.getD_eq_getElem?_getD,List.getElem?_map,List.getElem?_eq_getElem (by rw[HPL.out];omega)];rfl]at cp
      have ob : -67108864<=(zcC Q0 p m).getD (p.getD m 0) 0/\(zcC Q0 p m).getD (p.getD m 0) 0<=67108865:=by
       have e:=(zjY HRK.out (λj hj=>((HST.out.rin j (by rw[HST.out.rl]at hj;exact hj))).1) (HST.out.ql.trans HST.out.rl.symm) m (by rw[HST.out.rl];omega)).1;rw[e];have q:=HQI.out _ pm;rcases(zi2 HST.out m (by omega)).each _ pm with e|e
       ·have:=e.2;omega
       ·have:=e.2.1;omega
      obtain⟨ob0,ob1⟩:=ob;have c1:=HO.out.cellAt HL.out pm;have z1:=HO.out.frozenAt HL.out (p.getD m 0);have HS2:=za (show zcC Q0 p (m+1)=(zcC Q0 p m).set (p.getD m 0) ((zcC Q0 p m).getD (p.getD m 0) 0+1) from rfl);have H7:=za (And.intro (HO.out.stored HL.out (p.getD m 0) ((zcC Q0 p m).getD (p.getD m 0) 0+1)) (And.intro (HRW.out.apart hgne (p.getD m 0) (.int .i64 ((zcC Q0 p m).getD (p.getD m 0) 0+1))) (bs HB.out gb1 (b:=g1) (o:=p.getD m 0) (.int .i64 ((zcC Q0 p m).getD (p.getD m 0) 0+1)))));clear HO HRW HB;generalize (zcC Q0 p m).getD (p.getD m 0) 0=a at *;generalize p.getD m 0=P at *;go_wp2
      go_roundg (gk-1)
      case measure=>have:=HM.out;omega
      case rel=>exact⟨m+1,by have:=HM.out;omega,by go_num,by rw[HS2.out];exact H7.out.1,H7.out.2.1,H7.out.2.2⟩
     ·obtain rfl:m=lf:=by have:=HM.out;omega
      have e:=(zjY HRK.out (λj hj=>((HST.out.rin j (by rw[HST.out.rl]at hj;exact hj))).1) (HST.out.ql.trans HST.out.rl.symm) m (by rw[HST.out.rl];omega)).1;have O5:=za (show OwnI .i64 2 W w.heap.size (.slice (some ⟨g1,0,none⟩) k k) (zG xs) by rw[HEX.out,←e];exact HO.out);clear HO e;go_wp2;exact bodyPost_ret (v:=.tuple #[.slice (some ⟨g1,0,none⟩) k k,.int .i64 0]) (by simp[results,Tryz.results142,go_sem]) rfl ⟨_,rfl,O5.out,HB.out⟩
end Go.Proofs.YtlodkoimdoeopaaGreatDoor
