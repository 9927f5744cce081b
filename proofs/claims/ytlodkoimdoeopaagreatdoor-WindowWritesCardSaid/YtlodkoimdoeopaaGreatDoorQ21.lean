/- Parts, joined. -/
import Derived.Test.YtlodkoimdoeopaaGreatDoorQ19
import Derived.Test.YtlodkoimdoeopaaGreatDoorQ20
import Derived.Deep.RegionHeld3
import Derived.Deep.DeepCutAuto
import Derived.BigQuiet
import Derived.OpenShut
import Derived.Lib.LazyBuf
import Derived.Deep.QuietTactic
import Derived.Deep.RegionWith
import Derived.Deep.LoopGhost
namespace Go.Proofs.YtlodkoimdoeopaaGreatDoor
open Go.RowKit
theorem zlb (n:Int) (n0:1<=n) (n1:n<=65536) (w:World) :
  Calls Tryz.prog 138 #[.int .i64 n] w λe w'=>e=.returned (.bool true)/\w=w':=by
 go_enter Tryz.func138,Tryz.ntmps138
 go_wp2;go_ret
 first|exact⟨rfl,rfl⟩|exact⟨zU (decide_eq_true (by omega)),rfl⟩
theorem zl3 (n:Int) (h:¬(1<=n/\n<=65536)) (w:World) :
  Calls Tryz.prog 138 #[.int .i64 n] w λe w'=>e=.returned (.bool false)/\w=w':=by
 rcases(show n<1\/65536<n by omega)with h'|h'
 all_goals
  clear h
  go_enter Tryz.func138,Tryz.ntmps138
  go_wp2;go_ret
  first|exact⟨rfl,rfl⟩|exact⟨zU (decide_eq_false (by omega)),rfl⟩
theorem znH (c:Int) (h:c=1\/c=3) (w:World) :
  Calls Tryz.prog 98 #[.int .i64 c] w λe w'=>e=.returned (.bool true)/\w=w':=by
 rcases h with rfl|rfl
 all_goals
  go_enter Tryz.func98,Tryz.ntmps98
  go_wp2;go_ret;exact⟨rfl,rfl⟩
theorem zo8 (c:Int) (h:¬(c=1\/c=3)) (w:World) :
  Calls Tryz.prog 98 #[.int .i64 c] w λe w'=>e=.returned (.bool false)/\w=w':=by
 have e1:(c == 1)=false:=beq_eq_false_iff_ne.2 (by omega);have e3:(c == 3)=false:=beq_eq_false_iff_ne.2 (by omega);clear h
 go_enter Tryz.func98,Tryz.ntmps98
 go_wp2;go_ret;exact⟨rfl,rfl⟩
theorem zeM {a b c:Int} (h:¬(1<=a/\a<=65536)\/¬(1<=b/\b<=65536)\/¬(c=1\/c=3)):zaE a b c=false:=by
 cases e:zaE a b c with
 |false=>rfl
 |true =>
  have:=zdq.1 e;omega
theorem znb {a b c:Int} (ha:1<=a/\a<=65536) (hb:1<=b/\b<=65536) (hc:c=1\/c=3):zaE a b c=decide (a*b*c<=268435456):=by
 unfold zaE;exact decide_eq_decide.2 ⟨λh=>h.2.2.2.2.2,λh=>⟨ha.1,ha.2,hb.1,hb.2,hc,h⟩⟩
theorem zhV (a b c:Int) (w:World) :
  Calls Tryz.prog 99 #[.int .i64 a,.int .i64 b,.int .i64 c] w λe w'=>e=.returned (.bool (zaE a b c))/\w=w':=by
 by_cases ha:1<=a/\a<=65536
 ·have S1:=zlb a ha.1 ha.2
  by_cases hb:1<=b/\b<=65536
  ·have S2:=zlb b hb.1 hb.2
   by_cases hc:c=1\/c=3
   ·have S3:=znH c hc;rw[znb ha hb hc];obtain⟨m0,m1⟩:=zcQ ha.1 ha.2 hb.1 hb.2;obtain⟨p0,p1⟩:=zd8 ha.1 ha.2 hb.1 hb.2 hc;clear ha hb hc
    go_enter Tryz.func99,Tryz.ntmps99
    go_wp2_with (first
     |(go_at_call 138;(with_reducible refine(S1 _).mono ?_);rintro e w1 ⟨rfl,rfl⟩)
     |(go_at_call 138;(with_reducible refine(S2 _).mono ?_);rintro e w1 ⟨rfl,rfl⟩)
     |(go_at_call 98;(with_reducible refine(S3 _).mono ?_);rintro e w1 ⟨rfl,rfl⟩))
    go_ret;exact⟨rfl,rfl⟩
   ·have S3:=zo8 c hc;rw[zeM (.inr (.inr hc))];clear ha hb hc
    go_enter Tryz.func99,Tryz.ntmps99
    go_wp2_with (first
     |(go_at_call 138;(with_reducible refine(S1 _).mono ?_);rintro e w1 ⟨rfl,rfl⟩)
     |(go_at_call 138;(with_reducible refine(S2 _).mono ?_);rintro e w1 ⟨rfl,rfl⟩)
     |(go_at_call 98;(with_reducible refine(S3 _).mono ?_);rintro e w1 ⟨rfl,rfl⟩))
    go_ret;exact⟨rfl,rfl⟩
  ·have S2:=zl3 b hb;rw[zeM (.inr (.inl hb))];clear ha hb
   go_enter Tryz.func99,Tryz.ntmps99
   go_wp2_with (first
    |(go_at_call 138;(with_reducible refine(S1 _).mono ?_);rintro e w1 ⟨rfl,rfl⟩)
    |(go_at_call 138;(with_reducible refine(S2 _).mono ?_);rintro e w1 ⟨rfl,rfl⟩))
   go_ret;exact⟨rfl,rfl⟩
 ·have S1:=zl3 a ha;rw[zeM (.inl ha)];clear ha
  go_enter Tryz.func99,Tryz.ntmps99
  go_wp2_with (go_at_call 138;(with_reducible refine(S1 _).mono ?_);rintro e w1 ⟨rfl,rfl⟩)
  go_ret;exact⟨rfl,rfl⟩
theorem zxn {a b c t:Int} (h:t<1\/65535<t):zbj a b c t=2:=by unfold zbj;rw[if_pos (by omega)]
theorem zwD {a b c t:Int} (h:¬(c=1\/c=3)):zbj a b c t=2:=by unfold zbj;rw[if_pos (.inr (.inr h))]
theorem zwZ {a b c t:Int} (h:¬(t<1\/65535<t)) (hc:c=1\/c=3):zbj a b c t=if zaE a b c=true then 0 else 5:=by
 unfold zbj;rw[if_neg (by omega)]
theorem zfl (a b c t:Int) (w:World) :
  Calls Tryz.prog 61 #[.int .i64 a,.int .i64 b,.int .i64 c,.int .i64 t] w λe w'=>e=.returned (.int .i64 (zbj a b c t))/\w=w':=by
 by_cases ht:t<1\/65535<t
 ·rw[zxn ht];rcases ht with ht|ht
  all_goals
   go_enter Tryz.func61,Tryz.ntmps61
   go_wp2;go_ret;exact⟨rfl,rfl⟩
 ·have t0:1<=t:=by omega
  have t1:t<=65535:=by omega
  by_cases hc:c=1\/c=3
  ·have S3:=znH c hc;have S4:=zhV a b c;rw[zwZ ht hc]
   cases hf:zaE a b c with
   |true =>
    rw[hf]at S4;rw[if_pos rfl];clear hf ht hc
    go_enter Tryz.func61,Tryz.ntmps61
    go_wp2_with (first
     |(go_at_call 98;(with_reducible refine(S3 _).mono ?_);rintro e w1 ⟨rfl,rfl⟩)
     |(go_at_call 99;(with_reducible refine(S4 _).mono ?_);rintro e w1 ⟨rfl,rfl⟩))
    go_ret;exact⟨rfl,rfl⟩
   |false =>
    rw[hf]at S4;rw[if_neg (by decide)];clear hf ht hc
    go_enter Tryz.func61,Tryz.ntmps61
    go_wp2_with (first
     |(go_at_call 98;(with_reducible refine(S3 _).mono ?_);rintro e w1 ⟨rfl,rfl⟩)
     |(go_at_call 99;(with_reducible refine(S4 _).mono ?_);rintro e w1 ⟨rfl,rfl⟩))
    go_ret;exact⟨rfl,rfl⟩
  ·have S3:=zo8 c hc;rw[zwD hc];clear hc ht
   go_enter Tryz.func61,Tryz.ntmps61
   go_wp2_with (go_at_call 98;(with_reducible refine(S3 _).mono ?_);rintro e w1 ⟨rfl,rfl⟩)
   go_ret;exact⟨rfl,rfl⟩
theorem zk4 (a b c:Int) (w:World) :
  Calls Tryz.prog 117 #[.int .i64 a,.int .i64 b,.int .i64 c] w λe w'=>e=.returned (.bool (zaE a b c))/\w=w':=by
 by_cases ha:1<=a/\a<=65536
 ·obtain⟨a0,a1⟩:=ha
  by_cases hb:1<=b/\b<=65536
  ·obtain⟨b0,b1⟩:=hb
   by_cases hc:c=1\/c=3
   ·rw[znb ⟨a0,a1⟩ ⟨b0,b1⟩ hc];obtain⟨m0,m1⟩:=zcQ a0 a1 b0 b1;rcases hc with rfl|rfl
    all_goals
     go_enter Tryz.func117,Tryz.ntmps117
     go_wp2;go_ret;exact⟨zU (decide_eq_decide.2 (by omega)),rfl⟩
   ·rw[zeM (.inr (.inr hc))];have e1:(c != 1)=true:=bne_iff_ne.2 (by omega);have e3:(c != 3)=true:=bne_iff_ne.2 (by omega);clear hc
    go_enter Tryz.func117,Tryz.ntmps117
    go_wp2;go_ret;exact⟨rfl,rfl⟩
  ·rw[zeM (.inr (.inl hb))];rcases(show b<1\/65536<b by omega)with h'|h'
   all_goals
    clear hb
    go_enter Tryz.func117,Tryz.ntmps117
    go_wp2;go_ret;exact⟨rfl,rfl⟩
 ·rw[zeM (.inl ha)];rcases(show a<1\/65536<a by omega)with h'|h'
  all_goals
   clear ha
   go_enter Tryz.func117,Tryz.ntmps117
   go_wp2;go_ret;exact⟨rfl,rfl⟩
theorem zkt:(Tryz.prog.info? 22).map (λi=>(i.zero,i.size,i.bytes))=some (some (.int .u16 0),1,2):=by kernel_rfl
theorem zmy (n:Nat) (h:n<=268435456):∃ zs:Array Value,(∀ w:World,(Instr.makeSlice 23 (.int .i64 (n:Int)) (.int .i64 (n:Int))).run Tryz.prog w=.ok (.slice (some ⟨w.heap.size,0,none⟩) n n) (w.alloc (.cells zs 22)))/\(∀ (w:World) (B:Nat),B<=w.heap.size->OwnI .u16 22 (w.alloc (.cells zs 22)) B (.slice (some ⟨w.heap.size,0,none⟩) n n) (List.replicate n 0)):=by
 obtain⟨i0,hi,hz0,hz1,hz2⟩:=info_parts zkt;have hm:(n:Int)<=9223372036854775807:=by omega
 refine⟨madeCells (Value.int .u16 0).cells (n*i0.size),λw=>?_,λw B hB=>?_⟩
 ·have hr:=run_make (P:=Tryz.prog) w 23 22 i0 (.int .u16 0) Tryz.underlying23 hi hz0 .i64 .i64 n n (by omega) (Int.le_refl _) (by rw[hz2];omega) hm
  simpa only [Int.toNat_natCast] using hr
 ·refine OwnI.made ?_;rw[hz1];exact World.ownsRow_lit w _ n hB (by unfold maxLen;omega) (by rw[size_madeCells])
theorem ziq (xs:List Int) (n:Nat) (hn:xs.length=n) (b off cap:Nat) (h1:n<=268435456) (w:World) (hr:RowAt .u16 w (some ⟨b,off,none⟩) xs) :
  Calls Tryz.prog 39 #[.slice (some ⟨b,off,none⟩) n cap] w λe w'=>∃ v,e=.returned v/\OwnI .u16 22 w' w.heap.size v xs/\Below w.heap.size w w':=by
 have HR:=za hr;have HN:=za hn;obtain⟨i0,hi,hz0,hz1,hz2⟩:=info_parts zkt;have q:∀ w:World,(binOp .eql 23 (.slice (some ⟨b,off,none⟩) n cap) (.slice none 0 0)).run Tryz.prog w=.ok (.bool false) w:=λw=>Lib.run_eql_slice_nil w _ _ _ n cap 0 0 Tryz.underlying23
 clear hr hn
 go_enter Tryz.func39,Tryz.ntmps39
 go_wp2_with (at_builtin;refine zdP .u16 _ rfl _ _ 23 rfl w.heap.size 22 i0 (.int .u16 0) 2 Tryz.underlying23 hi hz0 hz1 hz2 rfl (.slice (some ⟨w.heap.size,0,none⟩) 0 0) [] rfl (zi6 _ _ _ _ (Nat.le_refl _)) (some ⟨b,off,none⟩) n cap xs rfl HN.out (HR.out.below (zg _ _)) (λe=>by cases e) (by simp;unfold maxLen;omega) (by simp;omega) (by simp) ?_;intro v1 w2 own2 grow2 _;have bw2:=zhM (Below.refl _ _) grow2;rw[List.nil_append]at own2)
 go_ret;exact⟨v1,rfl,own2,bw2⟩
def zdE (xs:List Int):Nat->Int
 |0=>xs.getD 0 0
 |k+1=>max (zdE xs k) (xs.getD k 0)
theorem zmY (xs:List Int):zdE xs 1=xs.getD 0 0:=by
 show max (xs.getD 0 0) (xs.getD 0 0)=_
 omega
theorem zkj {xs:List Int} (h:∀ x ∈ xs,0<=x/\x<=65535) (h0:1<=xs.length):∀ k,k<=xs.length->0<=zdE xs k/\zdE xs k<=65535
 |0,_=>zg7 h (by omega)
 |k+1,hk=>by
  have a:=zkj h h0 k (by omega);have b:=zg7 h (show k<xs.length by omega)
  show 0<=max (zdE xs k) (xs.getD k 0)/\max (zdE xs k) (xs.getD k 0)<=65535
  omega
theorem zoX {xs:List Int} {t:Int}:∀ k,1<=k->(zdE xs k<=t↔∀ j,j<k->xs.getD j 0<=t)
 |0,h=>absurd h (by omega)
 |1,_=>by
  rw[zmY];refine⟨λh j hj=>?_,λh=>h 0 (by omega)⟩;obtain rfl:j=0:=by omega
  exact h
 |k+2,_=>by
  have ih:=zoX (xs:=xs) (t:=t) (k+1) (by omega)
  show max (zdE xs (k+1)) (xs.getD (k+1) 0)<=t↔_
  constructor
  ·intro h j hj
   by_cases e:j=k+1
   ·subst e;omega
   ·exact ih.1 (by omega) j (by omega)
  ·intro h;have a:=ih.2 (λj hj=>h j (by omega));have b:=h (k+1) (by omega);omega
theorem zsm {xs:List Int} {t:Int} (h0:1<=xs.length):zdE xs xs.length<=t↔∀ x ∈ xs,x<=t:=by
 rw[zoX _ h0]
 constructor
 ·intro h x hx;obtain⟨j,hj,rfl⟩:=List.mem_iff_getElem.1 hx;have:=h j hj;rw[List.getD_eq_getElem?_getD,List.getElem?_eq_getElem hj]at this;exact this
 ·intro h j hj;rw[List.getD_eq_getElem?_getD,List.getElem?_eq_getElem hj];exact h _ (List.getElem_mem hj)
theorem zyf (xs:List Int) (n:Nat) (hn:xs.length=n) (ad:Option Addr) (cap:Nat) (h0:1<=n) (h1:n<=268435456) (hx:∀ x ∈ xs,0<=x/\x<=65535) (w:World) (hr:RowAt .u16 w ad xs) :
  Calls Tryz.prog 111 #[.slice ad n cap] w λe w'=>e=.returned (.int .u16 (zdE xs n))/\w=w':=by
 have HR:=za hr;have HN:=za hn;have HX:=za hx;obtain⟨b,off,rfl,c0⟩:=hr.get (show 0<xs.length by omega);rw[←zmY,Nat.add_zero]at c0;have HI:=za (λk hk=>zkj hx (show 1<=xs.length by omega) k hk);clear hr hn hx
 go_enter Tryz.func111,Tryz.ntmps111
 go_wp2
 go_loopw [3,4] (λm i wr=>∃ k:Nat,1<=k/\k<=n/\i=.int .i64 (k:Int)/\m=.int .u16 (zdE xs k)/\wr=w) (λ_ i _=>n-(intOf i).toNat)
 case atStart=>exact⟨1,by omega,by omega,rfl,rfl,rfl⟩
 case round =>
  obtain⟨k,hk0,hk,rfl,rfl,rfl⟩:=hrel;clear c0
  by_cases hlt:k<n
  ·have hc:=HR.out.at (show k<xs.length by rw[HN.out];exact hlt);have hm:=HI.out k (by rw[HN.out];exact hk);have hy:=zg7 HX.out (show k<xs.length by rw[HN.out];exact hlt);have HS:=za (show zdE xs (k+1)=max (zdE xs k) (xs.getD k 0) from rfl);generalize xs.getD k 0=x at *;generalize zdE xs k=m at *;go_wp2
   go_roundw
   case rel=>exact⟨k+1,by omega,by omega,by go_num,(by rw[HS.out];first|done|exact congrArg _ (by split<;>omega)),trivial⟩
   case measure=>simp[intOf];omega
  ·obtain rfl:k=n:=by omega
   go_wp2;go_ret;exact⟨rfl,rfl⟩
theorem zgw {xs ys:List Int} {n:Nat} (hx:xs.length=n) (hy:ys.length=n) (h:xs.take n=ys.take n):xs=ys:=by
 rwa [List.take_of_length_le (by omega),List.take_of_length_le (by omega)]at h
theorem zfI {xs ys:List Int} {k:Nat} (hx:k<xs.length) (hy:k<ys.length) (h:xs.take k=ys.take k) (e:xs.getD k 0=ys.getD k 0):xs.take (k+1)=ys.take (k+1):=by
 rw[zb5 xs hx,zb5 ys hy,h,e]
theorem zwv (xs ys:List Int) (n m:Nat) (hn:xs.length=n) (hm:ys.length=m) (ad bd:Option Addr) (cap cap':Nat) (h1:n<=268435456) (w:World) (hr:RowAt .u16 w ad xs) (hq:RowAt .u16 w bd ys) :
  Calls Tryz.prog 47 #[.slice ad n cap,.slice bd m cap'] w λe w'=>e=.returned (.bool (decide (xs=ys)))/\Drew w w':=by
 have HR:=za hr;have HQ:=za hq;clear hr hq
 by_cases hne:n=m
 ·subst hne;have HN:=za hn;have HM:=za hm;clear hn hm
  go_enter Tryz.func47,Tryz.ntmps47
  go_wp2
  go_loopw [13] (λi wr=>∃ k:Nat,k<=n/\i=.int .i64 (k:Int)/\Hid (xs.take k=ys.take k)/\Drew w wr) (λi _=>n-(intOf i).toNat)
  case atStart=>exact⟨0,by omega,rfl,rfl,Drew.refl _⟩
  case round =>
   obtain⟨k,hk,rfl,ht,hb⟩:=hrel;have HB:=za hb;clear hb
   by_cases hlt:k<n
   ·obtain⟨b,off,rfl,hc⟩:=(HR.out.below HB.out.below).get (show k<xs.length by rw[HN.out];exact hlt);obtain⟨b',off',rfl,hc'⟩:=(HQ.out.below HB.out.below).get (show k<ys.length by rw[HM.out];exact hlt);have HE:=za (λe=>zfI (show k<xs.length by rw[HN.out];exact hlt) (show k<ys.length by rw[HM.out];exact hlt) ht.out e);have HF:=za (fun(e:xs=ys)=>congrArg (λl=>l.getD k (0:Int)) e);generalize xs.getD k 0=x at *;obtain⟨y,hy⟩:∃ y,ys.getD k 0=y:=⟨_,rfl⟩;rw[hy]at hc'
    by_cases e:x=y
    ·subst e;have HT:=za (HE.out hy.symm);have hxx:(x != x)=false:=by simp
     clear hy HE HF
     go_wp2_with fail
     go_quiet (fail)
     go_wp2
     go_roundw
     case rel=>exact⟨k+1,by omega,by go_num,HT.out,HB.out.more _⟩
     case measure=>simp[intOf];omega
    ·have hxy:(x != y)=true:=bne_iff_ne.2 e;have HD:=za (show decide (xs=ys)=false from decide_eq_false (λg=>e ((HF.out g).trans hy)));clear hy HE HF e
     go_wp2_with fail
     go_quiet (fail)
     go_wp2;go_ret;exact⟨zU HD.out.symm,HB.out.more _⟩
   ·obtain rfl:k=n:=by omega
    have HD:=za (show decide (xs=ys)=true from decide_eq_true (zgw HN.out HM.out ht.out));go_wp2;go_ret;exact⟨zU HD.out.symm,HB.out⟩
 ·have hb:((n:Int) != (m:Int))=true:=bne_iff_ne.2 (by omega);have HD:=za (show decide (xs=ys)=false from decide_eq_false (λg=>hne (by rw[←hn,←hm,g])));clear hn hm hne
  go_enter Tryz.func47,Tryz.ntmps47
  go_wp2;go_ret;exact⟨zU HD.out.symm,Drew.refl _⟩
theorem zrR (xs ys:List Int) (n m:Nat) (hn:xs.length=n) (hm:ys.length=m) (ad bd:Option Addr) (cap cap':Nat) (h1:n<=268435456) (w:World) (hr:RowAt .u16 w ad xs) (hq:RowAt .u16 w bd ys) :
  Calls Tryz.prog 60 #[.slice ad n cap,.slice bd m cap'] w λe w'=>e=.returned (.bool (decide (xs=ys)))/\Below w.heap.size w w':=by
 have HR:=za hr;have HQ:=za hq;clear hr hq
 by_cases hne:n=m
 ·subst hne;have HN:=za hn;have HM:=za hm;clear hn hm
  go_enter Tryz.func60,Tryz.ntmps60
  go_wp2
  go_loopw [13] (λi wr=>∃ k:Nat,k<=n/\i=.int .i64 (k:Int)/\Hid (xs.take k=ys.take k)/\Below w.heap.size w wr) (λi _=>n-(intOf i).toNat)
  case atStart=>exact⟨0,by omega,rfl,rfl,Below.refl _ _⟩
  case round =>
   obtain⟨k,hk,rfl,ht,hb⟩:=hrel;have HB:=za hb;clear hb
   by_cases hlt:k<n
   ·obtain⟨b,off,rfl,hc⟩:=(HR.out.below HB.out).get (show k<xs.length by rw[HN.out];exact hlt);obtain⟨b',off',rfl,hc'⟩:=(HQ.out.below HB.out).get (show k<ys.length by rw[HM.out];exact hlt);have HE:=za (λe=>zfI (show k<xs.length by rw[HN.out];exact hlt) (show k<ys.length by rw[HM.out];exact hlt) ht.out e);have HF:=za (fun(e:xs=ys)=>congrArg (λl=>l.getD k (0:Int)) e);generalize xs.getD k 0=x at *;obtain⟨y,hy⟩:∃ y,ys.getD k 0=y:=⟨_,rfl⟩;rw[hy]at hc'
    by_cases e:x=y
    ·subst e;have HT:=za (HE.out hy.symm);have hxx:(x != x)=false:=by simp
     clear hy HE HF
     go_wp2_with fail
     go_quiet (fail)
     go_wp2
     go_roundw
     case rel=>exact⟨k+1,by omega,by go_num,HT.out,bdN HB.out _⟩
     case measure=>simp[intOf];omega
    ·have hxy:(x != y)=true:=bne_iff_ne.2 e;have HD:=za (show decide (xs=ys)=false from decide_eq_false (λg=>e ((HF.out g).trans hy)));clear hy HE HF e
     go_wp2_with fail
     go_quiet (fail)
     go_wp2;go_ret;exact⟨zU HD.out.symm,bdN HB.out _⟩
   ·obtain rfl:k=n:=by omega
    have HD:=za (show decide (xs=ys)=true from decide_eq_true (zgw HN.out HM.out ht.out));go_wp2;go_ret;exact⟨zU HD.out.symm,HB.out⟩
 ·have hb:((n:Int) != (m:Int))=true:=bne_iff_ne.2 (by omega);have HD:=za (show decide (xs=ys)=false from decide_eq_false (λg=>hne (by rw[←hn,←hm,g])));clear hn hm hne
  go_enter Tryz.func60,Tryz.ntmps60
  go_wp2;go_ret;exact⟨zU HD.out.symm,Below.refl _ _⟩
theorem zio (xs ys:List Int) (n m:Nat) (hn:xs.length=n) (hm:ys.length=m) (ad bd:Option Addr) (cap cap':Nat) (h1:n<=268435456) (w:World) (hr:RowAt .i64 w ad xs) (hq:RowAt .i64 w bd ys) :
  Calls Tryz.prog 83 #[.slice ad n cap,.slice bd m cap'] w λe w'=>e=.returned (.bool (decide (xs=ys)))/\Drew w w':=by
 have HR:=za hr;have HQ:=za hq;clear hr hq
 by_cases hne:n=m
 ·subst hne;have HN:=za hn;have HM:=za hm;clear hn hm
  go_enter Tryz.func83,Tryz.ntmps83
  go_wp2
  go_loopw [13] (λi wr=>∃ k:Nat,k<=n/\i=.int .i64 (k:Int)/\Hid (xs.take k=ys.take k)/\Drew w wr) (λi _=>n-(intOf i).toNat)
  case atStart=>exact⟨0,by omega,rfl,rfl,Drew.refl _⟩
  case round =>
   obtain⟨k,hk,rfl,ht,hb⟩:=hrel;have HB:=za hb;clear hb
   by_cases hlt:k<n
   ·obtain⟨b,off,rfl,hc⟩:=(HR.out.below HB.out.below).get (show k<xs.length by rw[HN.out];exact hlt);obtain⟨b',off',rfl,hc'⟩:=(HQ.out.below HB.out.below).get (show k<ys.length by rw[HM.out];exact hlt);have HE:=za (λe=>zfI (show k<xs.length by rw[HN.out];exact hlt) (show k<ys.length by rw[HM.out];exact hlt) ht.out e);have HF:=za (fun(e:xs=ys)=>congrArg (λl=>l.getD k (0:Int)) e);generalize xs.getD k 0=x at *;obtain⟨y,hy⟩:∃ y,ys.getD k 0=y:=⟨_,rfl⟩;rw[hy]at hc'
    by_cases e:x=y
    ·subst e;have HT:=za (HE.out hy.symm);have hxx:(x != x)=false:=by simp
     clear hy HE HF
     go_wp2_with fail
     go_quiet (fail)
     go_wp2
     go_roundw
     case rel=>exact⟨k+1,by omega,by go_num,HT.out,HB.out.more _⟩
     case measure=>simp[intOf];omega
    ·have hxy:(x != y)=true:=bne_iff_ne.2 e;have HD:=za (show decide (xs=ys)=false from decide_eq_false (λg=>e ((HF.out g).trans hy)));clear hy HE HF e
     go_wp2_with fail
     go_quiet (fail)
     go_wp2;go_ret;exact⟨zU HD.out.symm,HB.out.more _⟩
   ·obtain rfl:k=n:=by omega
    have HD:=za (show decide (xs=ys)=true from decide_eq_true (zgw HN.out HM.out ht.out));go_wp2;go_ret;exact⟨zU HD.out.symm,HB.out⟩
 ·have hb:((n:Int) != (m:Int))=true:=bne_iff_ne.2 (by omega);have HD:=za (show decide (xs=ys)=false from decide_eq_false (λg=>hne (by rw[←hn,←hm,g])));clear hn hm hne
  go_enter Tryz.func83,Tryz.ntmps83
  go_wp2;go_ret;exact⟨zU HD.out.symm,Drew.refl _⟩
theorem zkl (n:Nat) (h:n<=2147483647):∃ zs:Array Value,(∀ w:World,(Instr.makeSlice 28 (.int .i64 (n:Int)) (.int .i64 (n:Int))).run Tryz.prog w=.ok (.slice (some ⟨w.heap.size,0,none⟩) n n) (w.alloc (.cells zs 2)))/\(∀ (w:World) (B:Nat),B<=w.heap.size->OwnI .i64 2 (w.alloc (.cells zs 2)) B (.slice (some ⟨w.heap.size,0,none⟩) n n) (List.replicate n 0)):=by
 obtain⟨i0,hi,hz0,hz1,hz2⟩:=info_parts zdZ;have hm:(n:Int)<=9223372036854775807:=by omega
 refine⟨madeCells (Value.int .i64 0).cells (n*i0.size),λw=>?_,λw B hB=>?_⟩
 ·have hr:=run_make (P:=Tryz.prog) w 28 2 i0 (.int .i64 0) Tryz.underlying28 hi hz0 .i64 .i64 n n (by omega) (Int.le_refl _) (by rw[hz2];omega) hm
  simpa only [Int.toNat_natCast] using hr
 ·refine OwnI.made ?_;rw[hz1];exact World.ownsRow_lit w _ n hB (by unfold maxLen;omega) (by rw[size_madeCells])
set_option maxHeartbeats 1000000 in
theorem zly (p first n:Int) (c:Nat) (c0:1<=c) (c1:c<=2147483647) (h0 : -9223372036854775808<=first) (h1:first<=9223372036854775807) (w:World) :
  Calls Tryz.prog 43 #[.int .i64 p,.int .i64 first,.int .i64 (c:Int),.int .i64 n] w λe w'=>∃ v,e=.returned v/\OwnI .i64 2 w' w.heap.size v (zB p first n c)/\Below w.heap.size w w':=by
 obtain⟨zs,MK,MO⟩:=zkl c c1;have HMO:=za MO;clear MO
 go_enter Tryz.func43,Tryz.ntmps43
 go_wp2;have O1:=HMO.out w w.heap.size (Nat.le_refl _);rw[←zdl]at O1;have HO1:=za O1;have HB1:=za (ba (Below.refl w.heap.size w) (.cells zs 2));clear MK HMO O1;generalize w.alloc (.cells zs 2)=w1 at *
 go_loopw [21] (λi wr=>∃ k:Nat,k<=c/\i=.int .i64 (k:Int)/\OwnI .i64 2 wr w.heap.size (.slice (some ⟨w.heap.size,0,none⟩) c c) (zbH (zB p first n k) c)/\Below w.heap.size w wr) (λi _=>c-(intOf i).toNat)
 case atStart=>exact⟨0,by omega,rfl,HO1.out,HB1.out⟩
 case round =>
  clear HO1 HB1;obtain⟨k,hk,rfl,ho,hb⟩:=hrel;have HO:=za ho;have HB:=za hb;clear ho hb
  by_cases hlt:k<c
  ·have CA:=λw=>zfj first (k:Int) h0 h1 (by omega) (by omega) w
   have d0:=zfF (first+(k:Int));have d1:=ze3 (first+(k:Int));have HS:=za (ziG p first n k);have LK:=zaw p first n k
   have LP:=zd3 (L:=zB p first n k) (n:=c) (by omega);have HP:=za (zdA LK hlt (atF p (zE (first+(k:Int))) n));have c1:=HO.out.cellAt LP hlt;have z1:=HO.out.frozenAt LP k;have ST:=HO.out.stored LP k (atF p (zE (first+(k:Int))) n);rw[HP.out,←HS.out]at ST;have H5:=za (And.intro ST (bs HB.out (Nat.le_refl _) (b:=w.heap.size) (o:=k) (.int .i64 (atF p (zE (first+(k:Int))) n))));clear LK LP HP ST HS;generalize zE (first+(k:Int))=d at *;have CE:=λw=>zmv p d n d0 d1 w
   generalize atF p d n=x at *
   go_wp2_with (first
    |(go_at_call 82;(with_reducible refine(CA _).mono ?_);rintro e w2 ⟨rfl,rfl⟩)
    |(go_at_call 81;(with_reducible refine(CE _).mono ?_);rintro e w2 ⟨rfl,rfl⟩))
   go_roundw
   case rel=>exact⟨k+1,by omega,by go_num,H5.out.1,H5.out.2⟩
   case measure=>simp[intOf];omega
  ·obtain rfl:k=c:=by omega
   have O2:=HO.out;rw[zcL (zaw p first n k)]at O2;have HO2:=za O2;clear O2;go_wp2;go_ret;exact⟨_,rfl,HO2.out,HB.out⟩
theorem zsx (p f n:Int) {c d m:Nat} (h:d+m<=c):((zB p f n c).drop d).take m=zB p (f+(d:Int)) n m:=by
 refine List.ext_getElem (by rw[List.length_take,List.length_drop,zaw,zaw];omega) (λj h1 h2=>?_);rw[zaw]at h2;simp only[zB,List.getElem_take,List.getElem_drop,List.getElem_map,List.getElem_range]
 congr 2
 omega
theorem zsA (L:List (Int×List Int)) (k:Int) (o:Nat) (ho:(o:Int)<=k):(0<o->(zaf L 0 k o).2.2=true)/\∀ j,j<o->(zaf L 0 k o).1<=(zf L j).1/\(zf L j).1+((zf L j).2.length:Int)<=(zaf L 0 k o).2.1:=by
 induction o with
 |zero=>exact⟨λh=>absurd h (Nat.lt_irrefl _),λj hj=>absurd hj (Nat.not_lt_zero _)⟩
 |succ o ih =>
  obtain⟨i1,i2⟩:=ih (by omega);have e:zaf L 0 k (o+1)=zdy (zaf L 0 k o) (zf L o).1 (zf L o).2.length:=if_neg (by omega);rw[e];unfold zdy
  by_cases h0:o=0
  ·subst h0;rw[if_neg (by show ¬(false=true);decide)];refine⟨λ_=>rfl,λj hj=>?_⟩;obtain rfl:j=0:=by omega
   exact⟨Int.le_refl _,Int.le_refl _⟩
  ·rw[if_pos (i1 (by omega))];refine⟨λ_=>rfl,λj hj=>?_⟩
   show min _ _<=_/\_<=max _ _
   by_cases e2:j=o
   ·subst e2;omega
   ·have:=i2 j (by omega);omega
theorem zqM {L:List (Int×List Int)} (h:zib L) (k:Int) (o:Nat) (ho:o<=L.length) : -1048576<=(zaf L 0 k o).1/\(zaf L 0 k o).2.1<=2097152:=by
 induction o with
 |zero =>
  show -1048576<=(0:Int)/\(0:Int)<=2097152
  omega
 |succ o ih =>
  have i:=ih (by omega);have a:=h o (by omega);unfold zaf
  split
  ·exact i
  ·unfold zdy
   split
   ·show -1048576<=min _ _/\max _ _<=2097152
    omega
   ·exact a
theorem zsp:(Tryz.prog.info? 177).map (λi=>(i.zero,i.size,i.bytes))=some (some (.agg #[.slice none 0 0,.slice none 0 0]),2,48):=by kernel_rfl
def ColAt (w:World) (B h:Nat) (S:Stg) (i:Nat):Prop :=
 ∃ pb po pc wb wo wc,w.cell? ⟨h,i*2,none⟩=some (.slice (some ⟨pb,po,none⟩) (zf S.lx i).2.length pc)/\w.cell? ⟨h,i*2+1,none⟩=some (.slice (some ⟨wb,wo,none⟩) (zf S.lx i).2.length wc) /\
  RowAt .i64 w (some ⟨pb,po,none⟩) (zB S.sb (zf S.lx i).1 S.fx (zf S.lx i).2.length)/\RowAt .i64 w (some ⟨wb,wo,none⟩) (zf S.lx i).2/\B<=pb/\B<=wb/\pb≠h/\wb≠h
theorem ColAt.grown {w w':World} {B h R:Nat} {S:Stg} {i:Nat} (H:ColAt w B h S i) (hg:w.grownBy w' (some R)) (hR:R<B) (hh:B<=h):ColAt w' B h S i:=by
 obtain⟨pb,po,pc,wb,wo,wc,c0,c1,rp,rw',b0,b1,n0,n1⟩:=H;have hne:some h≠some R:=λe=>by have:=Option.some.inj e;omega
 exact⟨pb,po,pc,wb,wo,wc,cg hg hne c0,cg hg hne c1,rp.grown hg (λe=>by have:=Option.some.inj e;omega),rw'.grown hg (λe=>by have:=Option.some.inj e;omega),b0,b1,n0,n1⟩
theorem ColAt.below {w w':World} {B h:Nat} {S:Stg} {i:Nat} (H:ColAt w B h S i) (hb:Below w.heap.size w w'):ColAt w' B h S i:=by
 obtain⟨pb,po,pc,wb,wo,wc,c0,c1,rp,rw',r⟩:=H;exact⟨pb,po,pc,wb,wo,wc,cb hb (ze c0) c0,cb hb (ze c1) c1,rp.below hb,rw'.below hb,r⟩
def ColFill (w:World) (B h n:Nat) (S:Stg) (k:Nat):Prop:=(∀ j,j<n*2->(∃ v,w.cell? ⟨h,j,none⟩=some v)/\w.frozen? ⟨h,j,none⟩=false)/\∀ i,i<k->ColAt w B h S i
theorem ColFill.below {w w':World} {B h n:Nat} {S:Stg} {k:Nat} (H:ColFill w B h n S k) (hb:Below w.heap.size w w'):ColFill w' B h n S k:=by
 refine⟨λj hj=>?_,λi hi=>(H.2 i hi).below hb⟩;obtain⟨⟨v,c⟩,f⟩:=H.1 j hj;exact⟨⟨v,cb hb (ze c) c⟩,fb hb (ze c) f⟩
theorem ColFill.put {w:World} {B h n:Nat} {S:Stg} {k:Nat} (H:ColFill w B h n S k) (hk:k<n) {pb po pc wb wo wc m:Nat} (hm:(zf S.lx k).2.length=m) (rp:RowAt .i64 w (some ⟨pb,po,none⟩) (zB S.sb (zf S.lx k).1 S.fx m)) (rw':RowAt .i64 w (some ⟨wb,wo,none⟩) (zf S.lx k).2) (b0:B<=pb) (b1:B<=wb) (n0:pb≠h) (n1:wb≠h) :
  ColFill ((w.setCell ⟨h,k*2,none⟩ (.slice (some ⟨pb,po,none⟩) m pc)).setCell ⟨h,k*2+1,none⟩ (.slice (some ⟨wb,wo,none⟩) m wc)) B h n S (k+1):=by
 obtain⟨hc,hx⟩:=H;subst hm;obtain⟨⟨v0,c0⟩,_⟩:=hc (k*2) (by omega);obtain⟨⟨v1,c1⟩,_⟩:=hc (k*2+1) (by omega);have hg:=(zn w h (k*2) (.slice (some ⟨pb,po,none⟩) (zf S.lx k).2.length pc)).trans (zn _ h (k*2+1) (.slice (some ⟨wb,wo,none⟩) (zf S.lx k).2.length wc));have E:∀ j,j≠k*2->j≠k*2+1->((w.setCell ⟨h,k*2,none⟩ (.slice (some ⟨pb,po,none⟩) (zf S.lx k).2.length pc)).setCell ⟨h,k*2+1,none⟩ (.slice (some ⟨wb,wo,none⟩) (zf S.lx k).2.length wc)).cell? ⟨h,j,none⟩=w.cell? ⟨h,j,none⟩:=λj a b=>(zc (Or.inr (by omega))).trans (zc (Or.inr (by omega)))
 have E0:((w.setCell ⟨h,k*2,none⟩ (.slice (some ⟨pb,po,none⟩) (zf S.lx k).2.length pc)).setCell ⟨h,k*2+1,none⟩ (.slice (some ⟨wb,wo,none⟩) (zf S.lx k).2.length wc)).cell? ⟨h,k*2,none⟩=some (.slice (some ⟨pb,po,none⟩) (zf S.lx k).2.length pc) :=
  (zc (Or.inr (by omega))).trans (World.cell?_setCell_same' _ _ _ (by rw[c0];rfl))
 have E1:((w.setCell ⟨h,k*2,none⟩ (.slice (some ⟨pb,po,none⟩) (zf S.lx k).2.length pc)).setCell ⟨h,k*2+1,none⟩ (.slice (some ⟨wb,wo,none⟩) (zf S.lx k).2.length wc)).cell? ⟨h,k*2+1,none⟩=some (.slice (some ⟨wb,wo,none⟩) (zf S.lx k).2.length wc) :=
  World.cell?_setCell_same' _ _ _ (by rw[zc (Or.inr (by omega)),c1];rfl)
 have K:∀ {b o:Nat} {xs:List Int},b≠h->RowAt .i64 w (some ⟨b,o,none⟩) xs->RowAt .i64 ((w.setCell ⟨h,k*2,none⟩ (.slice (some ⟨pb,po,none⟩) (zf S.lx k).2.length pc)).setCell ⟨h,k*2+1,none⟩ (.slice (some ⟨wb,wo,none⟩) (zf S.lx k).2.length wc)) (some ⟨b,o,none⟩) xs:=λhne r=>r.grown hg (λe=>hne (Option.some.inj e))
 refine⟨λj hj=>?_,λi hi=>?_⟩
 ·simp only[World.frozen?_setCell];refine⟨?_,(hc j hj).2⟩
  by_cases a:j=k*2
  ·subst a;exact⟨_,E0⟩
  by_cases b:j=k*2+1
  ·subst b;exact⟨_,E1⟩
  rw[E j a b];exact(hc j hj).1
 ·by_cases e:i=k
  ·subst e;exact⟨pb,po,pc,wb,wo,wc,E0,E1,K n0 rp,K n1 rw',b0,b1,n0,n1⟩
  ·obtain⟨pb',po',pc',wb',wo',wc',d0,d1,rp',rw'',b0',b1',n0',n1'⟩:=hx i (by omega);exact⟨pb',po',pc',wb',wo',wc',(E _ (by omega) (by omega)).trans d0,(E _ (by omega) (by omega)).trans d1,K n0' rp',K n1' rw'',b0',b1',n0',n1'⟩
theorem zxg (n:Nat) (h:n<=1048576):∃ zs:Array Value,(∀ w:World,(Instr.makeSlice 173 (.int .i64 (n:Int)) (.int .i64 (n:Int))).run Tryz.prog w=.ok (.slice (some ⟨w.heap.size,0,none⟩) n n) (w.alloc (.cells zs 177)))/\(∀ (w:World) (B:Nat) (S:Stg),ColFill (w.alloc (.cells zs 177)) B w.heap.size n S 0):=by
 obtain⟨i0,hi,hz0,hz1,hz2⟩:=info_parts zsp;have hm:(n:Int)<=9223372036854775807:=by omega
 refine⟨madeCells (Value.agg #[.slice none 0 0,.slice none 0 0]).cells (n*i0.size),λw=>?_,λw B S=>?_⟩
 ·have hr:=run_make (P:=Tryz.prog) w 173 177 i0 (.agg #[.slice none 0 0,.slice none 0 0]) Tryz.underlying173 hi hz0 .i64 .i64 n n (by omega) (Int.le_refl _) (by rw[hz2];omega) hm
  simpa only [Int.toNat_natCast] using hr
 ·rw[hz1];have ho:(w.alloc (.cells (madeCells (Value.agg #[.slice none 0 0,.slice none 0 0]).cells (n*2)) 177)).ownsRow 0 177 2 (.slice (some ⟨w.heap.size,0,none⟩) n n) n (madeCells (Value.agg #[.slice none 0 0,.slice none 0 0]).cells (n*2)).toList :=
   World.ownsRow_lit w _ n (Nat.zero_le _) (by unfold maxLen;omega) (by rw[size_madeCells])
  have hl:=ho.1;refine⟨λj hj=>⟨?_,ho.frozenAt j⟩,λi hi=>absurd hi (Nat.not_lt_zero _)⟩;rw[ho.cellAt j hj];exact⟨_,List.getElem?_eq_getElem (by omega)⟩
theorem zsN {a b c t:Int} (h:zbj a b c t=0):zay ⟨a,b,c,t,List.replicate (a*b*c).toNat 0⟩/\(((a*b*c).toNat:Nat):Int)=a*b*c/\(a*b*c).toNat<=268435456:=by
 obtain⟨t0,t1,a0,a1,b0,b1,hc,hm⟩:=zfo h;have:=zd8 a0 a1 b0 b1 hc;refine⟨⟨a0,a1,b0,b1,hc,t0,t1,hm,?_,λx hx=>?_⟩,by omega,by omega⟩
 ·show((List.replicate (a*b*c).toNat (0:Int)).length:Int)=a*b*c
  rw[List.length_replicate];omega
 ·show 0<=x/\x<=t
  obtain⟨_,rfl⟩:=List.mem_replicate.1 hx;omega
theorem zoR (a b c t:Int) (h:zbj a b c t=0) (w:World) :
  Calls Tryz.prog 33 #[.int .i64 a,.int .i64 b,.int .i64 c,.int .i64 t] w λe w'=>∃ v,e=.returned (.tuple #[v,.int .i64 0])/\zfM w.heap.size w' v ⟨a,b,c,t,List.replicate (a*b*c).toNat 0⟩/\Below w.heap.size w w':=by
 obtain⟨hok,hn,hl⟩:=zsN h;obtain⟨t0,t1,a0,a1,b0,b1,hc,hm⟩:=zfo h;obtain⟨m0,m1⟩:=zcQ a0 a1 b0 b1;obtain⟨p0,p1⟩:=zd8 a0 a1 b0 b1 hc;have CC:=zfl a b c t;rw[h]at CC;obtain⟨zs,MK,MO⟩:=zmy (a*b*c).toNat hl;have HMO:=za MO;have HOK:=za hok;rw[hn]at MK;have n0:1<=(a*b*c).toNat:=by omega
 generalize (a*b*c).toNat=n at *;have HL:=za (List.length_replicate (n:=n) (a:=(0:Int)));clear MO hok hn hc h
 go_enter Tryz.func33,Tryz.ntmps33
 go_wp2_with (go_at_call 61;(with_reducible refine(CC _).mono ?_);rintro e w1 ⟨rfl,rfl⟩)
 obtain⟨g,cp,hv,hg,hlt,hr,_,hz⟩:=zax (HMO.out w w.heap.size (Nat.le_refl _)) HL.out n0;simp only[Value.slice.injEq,Option.some.injEq,Addr.mk.injEq,and_true,true_and]at hv;obtain⟨rfl,rfl⟩:=hv;have hi:=ImgAt.new (T:=89) hr hz (by rw[HL.out];exact Nat.le_refl _) HOK.out;rw[HL.out]at hi;have HI:=za hi;clear hi hr hz;exact bodyPost_ret (v:=.tuple #[.pointer (some ⟨w.heap.size+1,0,none⟩),.int .i64 0]) (by simp[results,Tryz.results33,go_sem]) rfl ⟨_,rfl,⟨w.heap.size+1,w.heap.size,rfl,by omega,Nat.le_refl _,by simpa using HI.out⟩,ba (zg _ _) _⟩
theorem zx5 (a b c t:Int) (h:zbj a b c t≠0) (w:World) :
  Calls Tryz.prog 33 #[.int .i64 a,.int .i64 b,.int .i64 c,.int .i64 t] w λe w'=>e=.returned (.tuple #[.pointer none,.int .i64 (zbj a b c t)])/\w=w':=by
 have CC:=zfl a b c t;generalize zbj a b c t=k at *;have hk:(k != 0)=true:=bne_iff_ne.2 h;clear h
 go_enter Tryz.func33,Tryz.ntmps33
 go_wp2_with (go_at_call 61;(with_reducible refine(CC _).mono ?_);rintro e w1 ⟨rfl,rfl⟩)
 exact bodyPost_ret (v:=.tuple #[.pointer none,.int .i64 k]) (by simp[results,Tryz.results33,go_sem]) rfl ⟨rfl,rfl⟩
theorem ztj (a b c t:Int) (h:zbj a b c t=0) (xs:List Int) (n:Nat) (hx:xs.length=n) (ad:Option Addr) (cap:Nat) (hn:(n:Int)=a*b*c) (hb:∀ x ∈ xs,0<=x/\x<=65535) (ht:zdE xs n<=t) (w:World) (hr:RowAt .u16 w ad xs) :
  Calls Tryz.prog 71 #[.int .i64 a,.int .i64 b,.int .i64 c,.int .i64 t,.slice ad n cap] w λe w'=>∃ v,e=.returned (.tuple #[v,.int .i64 0])/\zfM w.heap.size w' v ⟨a,b,c,t,xs⟩/\Below w.heap.size w w':=by
 obtain⟨t0,t1,a0,a1,b0,b1,hc,hm⟩:=zfo h;obtain⟨m0,m1⟩:=zcQ a0 a1 b0 b1;obtain⟨p0,p1⟩:=zd8 a0 a1 b0 b1 hc;have CC:=zfl a b c t;rw[h]at CC;have hk:((n:Int) != a*b*c)=false:=by rw[hn];simp
 have CM:=λw hr=>zyf xs n hx ad cap (by omega) (by omega) hb w hr
 obtain⟨x0,x1⟩:=zkj hb (by omega) n (by omega);have HOK:=za (show zay ⟨a,b,c,t,xs⟩ from⟨a0,a1,b0,b1,hc,t0,t1,hm,by rw[hx];exact hn,λx hx'=>⟨(hb x hx').1,(zsm (xs:=xs) (by omega)).1 (by rw[hx];exact ht) x hx'⟩⟩);have HR:=za hr;have n0:1<=n:=by omega
 have n1:n<=268435456:=by omega
 have HX:=za hx;obtain⟨bl,off,rfl,_⟩:=hr.get (show 0<xs.length by omega);have CD:=λw hr=>ziq xs n hx bl off cap n1 w hr
 generalize zdE xs n=x at *;clear h hn hc hb hr hx
 go_enter Tryz.func71,Tryz.ntmps71
 go_wp2_with (first
  |(go_at_call 61;(with_reducible refine(CC _).mono ?_);rintro e w1 ⟨rfl,rfl⟩)
  |(go_at_call 111;(with_reducible refine(CM _ HR.out).mono ?_);rintro e w1 ⟨rfl,rfl⟩)
  |(go_at_call 39;(with_reducible refine(CD _ HR.out).mono ?_);rintro e w2 ⟨v,rfl,own,b2⟩;obtain⟨g,cp,rfl,hg,hlt,hr,hcp,hz⟩:=zax own HX.out n0;clear own))
 have hi:=ImgAt.new (T:=89) hr hz (by rw[HX.out];exact hcp) HOK.out;have s2:=b2.size
 replace hi:ImgAt (w2.alloc (.cells #[.int .i64 a,.int .i64 b,.int .i64 c,.int .i64 t,.slice (some ⟨g,0,none⟩) xs.length cp] 89)) w2.heap.size g ⟨a,b,c,t,xs⟩:=hi
 rw[HX.out]at hi;exact bodyPost_ret (v:=.tuple #[.pointer (some ⟨w2.heap.size,0,none⟩),.int .i64 0]) (by simp[results,Tryz.results71,go_sem]) rfl ⟨_,rfl,⟨w2.heap.size,g,rfl,s2,hg,hi⟩,ba b2 _⟩
theorem zdu {w:World} {g h:Nat} {I:Im} (H:ImgAt w g h I):Calls Tryz.prog 24 #[.pointer (some ⟨g,0,none⟩)] w λe w'=>e=.returned (.int .i64 I.iw)/\w=w':=by
 obtain⟨cap,c0,-⟩:=H;generalize I.iw=a at *
 go_enter Tryz.func24,Tryz.ntmps24
 go_wp2;go_ret;exact⟨rfl,rfl⟩
theorem zcO {w:World} {g h:Nat} {I:Im} (H:ImgAt w g h I):Calls Tryz.prog 25 #[.pointer (some ⟨g,0,none⟩)] w λe w'=>e=.returned (.int .i64 I.ih)/\w=w':=by
 obtain⟨cap,_,c0,-⟩:=H;generalize I.ih=a at *
 go_enter Tryz.func25,Tryz.ntmps25
 go_wp2;go_ret;exact⟨rfl,rfl⟩
theorem zaF {w:World} {g h:Nat} {I:Im} (H:ImgAt w g h I):Calls Tryz.prog 17 #[.pointer (some ⟨g,0,none⟩)] w λe w'=>e=.returned (.int .i64 I.ic)/\w=w':=by
 obtain⟨cap,_,_,c0,-⟩:=H;generalize I.ic=a at *
 go_enter Tryz.func17,Tryz.ntmps17
 go_wp2;go_ret;exact⟨rfl,rfl⟩
theorem zcW {w:World} {g h:Nat} {I:Im} (H:ImgAt w g h I):Calls Tryz.prog 23 #[.pointer (some ⟨g,0,none⟩)] w λe w'=>e=.returned (.int .i64 I.it)/\w=w':=by
 obtain⟨cap,_,_,_,c0,-⟩:=H;generalize I.it=a at *
 go_enter Tryz.func23,Tryz.ntmps23
 go_wp2;go_ret;exact⟨rfl,rfl⟩
theorem ziR {w:World} {g h:Nat} {I:Im} (H:ImgAt w g h I):Calls Tryz.prog 56 #[.pointer (some ⟨g,0,none⟩)] w λe w'=>∃ v,e=.returned v/\OwnI .u16 22 w' w.heap.size v I.il/\Below w.heap.size w w':=by
 obtain⟨l0,l1⟩:=zbr H.ok;obtain⟨cap,_,_,_,_,c4,hr,-⟩:=H;have CC:=λw hr=>ziq I.il I.il.length rfl h 0 cap l1 w hr
 have HR:=za hr;generalize I.il.length=n at *;clear hr
 go_enter Tryz.func56,Tryz.ntmps56
 go_wp2_with (go_at_call 39;(with_reducible refine(CC _ HR.out).mono ?_);rintro e w2 ⟨v,rfl,own,b2⟩)
 go_ret;exact⟨_,rfl,own,b2⟩
theorem zkA {w:World} {g h:Nat} {I:Im} (H:ImgAt w g h I) (x y z:Int):Calls Tryz.prog 54 #[.pointer (some ⟨g,0,none⟩),.int .i64 x,.int .i64 y,.int .i64 z] w λe w'=>e=.returned (.bool (zbl I x y z))/\w=w':=by
 obtain⟨cap,c0,c1,c2,-⟩:=H;obtain⟨b,hb⟩:∃ b,zbl I x y z=b:=⟨_,rfl⟩;have HB:=za hb;unfold zbl at hb;rw[show zbl I x y z=b from HB.out];generalize I.iw=a at *;generalize I.ih=a2 at *;generalize I.ic=a3 at *
 by_cases h0:0<=x
 ·by_cases h1:x<a
  ·by_cases h2:0<=y
   ·by_cases h3:y<a2
    ·by_cases h4:0<=z
     ·by_cases h5:z<a3
      ·obtain rfl:b=true:=by rw[←hb];exact decide_eq_true (by omega)
       clear hb HB
       go_enter Tryz.func54,Tryz.ntmps54
       go_wp2;go_ret;exact⟨rfl,rfl⟩
      ·obtain rfl:b=false:=by rw[←hb];exact decide_eq_false (by omega)
       clear hb HB
       go_enter Tryz.func54,Tryz.ntmps54
       go_wp2;go_ret;exact⟨rfl,rfl⟩
     ·obtain rfl:b=false:=by rw[←hb];exact decide_eq_false (by omega)
      clear hb HB
      go_enter Tryz.func54,Tryz.ntmps54
      go_wp2;go_ret;exact⟨rfl,rfl⟩
    ·obtain rfl:b=false:=by rw[←hb];exact decide_eq_false (by omega)
     clear hb HB
     go_enter Tryz.func54,Tryz.ntmps54
     go_wp2;go_ret;exact⟨rfl,rfl⟩
   ·obtain rfl:b=false:=by rw[←hb];exact decide_eq_false (by omega)
    clear hb HB
    go_enter Tryz.func54,Tryz.ntmps54
    go_wp2;go_ret;exact⟨rfl,rfl⟩
  ·obtain rfl:b=false:=by rw[←hb];exact decide_eq_false (by omega)
   clear hb HB
   go_enter Tryz.func54,Tryz.ntmps54
   go_wp2;go_ret;exact⟨rfl,rfl⟩
 ·obtain rfl:b=false:=by rw[←hb];exact decide_eq_false (by omega)
  clear hb HB
  go_enter Tryz.func54,Tryz.ntmps54
  go_wp2;go_ret;exact⟨rfl,rfl⟩
theorem zh1 {w:World} {g h:Nat} {I:Im} (H:ImgAt w g h I) {x y z:Int} (hh:zbl I x y z=true):Calls Tryz.prog 55 #[.pointer (some ⟨g,0,none⟩),.int .i64 x,.int .i64 y,.int .i64 z] w λe w'=>e=.returned (.int .i64 (zL I x y z))/\Drew w w':=by
 have hk:=H.ok;obtain⟨a0,a1,b0,b1,hc,_,_,hm,_,_⟩:=hk;obtain⟨x0,x1,y0,y1,z0,z1⟩:=zcP.1 hh;obtain⟨p0,p1,p2,p3,p4,p5⟩:=zi9 x0 x1 y0 y1 z0 z1;obtain⟨m0,m1⟩:=zcQ a0 a1 b0 b1;obtain⟨cap,c0,c1,c2,-⟩:=H;unfold zL;have HP:=za (show zcc I.iw I.ic x y z=(y*I.iw+x)*I.ic+z from rfl);rw[HP.out]at p4 p5 ⊢;clear hh HP;generalize I.iw=a at *;generalize I.ih=b at *;generalize I.ic=c at *
 go_enter Tryz.func55,Tryz.ntmps55
 go_wp2_with fail
 go_quiet (fail)
 go_wp2;go_ret;exact⟨rfl,(Drew.refl _).more _⟩
theorem zmz {w:World} {g h:Nat} {I:Im} (H:ImgAt w g h I) (x y z:Int):Calls Tryz.prog 30 #[.pointer (some ⟨g,0,none⟩),.int .i64 x,.int .i64 y,.int .i64 z] w λe w'=>e=.returned (.int .u16 (zbe I x y z))/\Drew w w':=by
 have CH:=zkA H x y z;unfold zbe
 cases hh:zbl I x y z with
 |false =>
  rw[hh]at CH;rw[if_neg (by decide)];clear H hh
  go_enter Tryz.func30,Tryz.ntmps30
  go_wp2_with (go_at_call 54;(with_reducible refine CH.mono ?_);rintro e w1 ⟨rfl,rfl⟩)
  go_ret;exact⟨rfl,Drew.refl _⟩
 |true =>
  rw[hh]at CH;rw[if_pos rfl];have CP:=λn=>zh1 (H.below (bdN (Below.refl _ _) n)) hh
  obtain⟨p0,p1,p2,p3⟩:=zez H.ok hh;obtain⟨l0,l1⟩:=zbr H.ok;obtain⟨cap,c0,c1,c2,c3,c4,hr,-⟩:=H;have hc:=hr.at p1;rw[Nat.zero_add]at hc;rw[←p2]at CP;generalize (zL I x y z).toNat=k at *;generalize I.il.getD k 0=v at *;generalize I.il.length=n at *;clear hh hr c0 c1 c2 c3 p2 p0 p3
  go_enter Tryz.func30,Tryz.ntmps30
  go_wp2_with (go_at_call 54;(with_reducible refine CH.mono ?_);rintro e w1 ⟨rfl,rfl⟩)
  go_quiet ((go_at_call 55;with_reducible exact zbR (CP _)))
  go_wp2;go_ret;exact⟨rfl,(Drew.refl _).more _⟩
theorem zjJ {w:World} {g h:Nat} {I:Im} (H:ImgAt w g h I) (x y z v:Int) (v0:0<=v) (v1:v<=65535) (hs:zbp I x y z v=false):Calls Tryz.prog 26 #[.pointer (some ⟨g,0,none⟩),.int .i64 x,.int .i64 y,.int .i64 z,.int .u16 v] w λe w'=>e=.returned (.bool false)/\w=w':=by
 have CH:=zkA H x y z
 cases hh:zbl I x y z with
 |false =>
  rw[hh]at CH;clear H hh hs
  go_enter Tryz.func26,Tryz.ntmps26
  go_wp2_with (go_at_call 54;(with_reducible refine CH.mono ?_);rintro e w1 ⟨rfl,rfl⟩)
  go_ret;exact⟨rfl,rfl⟩
 |true =>
  rw[hh]at CH;have ht:I.it<v:=by
   unfold zbp at hs;rw[hh,Bool.true_and,decide_eq_false_iff_not]at hs;omega
  obtain⟨cap,c0,c1,c2,c3,-⟩:=H;generalize I.it=t at *;clear hh hs c0 c1 c2
  go_enter Tryz.func26,Tryz.ntmps26
  go_wp2_with (go_at_call 54;(with_reducible refine CH.mono ?_);rintro e w1 ⟨rfl,rfl⟩)
  go_ret;exact⟨rfl,rfl⟩
theorem zeT {w:World} {g h:Nat} {I:Im} (H:ImgAt w g h I) (x y z v:Int) (v0:0<=v) (v1:v<=65535) (hs:zbp I x y z v=true):Calls Tryz.prog 26 #[.pointer (some ⟨g,0,none⟩),.int .i64 x,.int .i64 y,.int .i64 z,.int .u16 v] w λe w'=>e=.returned (.bool true)/\ImgAt w' g h (zcs I x y z v)/\w.grownBy w' (some h):=by
 have CH:=zkA H x y z;have hs':=hs;unfold zbp at hs';rw[Bool.and_eq_true,decide_eq_true_iff]at hs';obtain⟨hh,ht⟩:=hs';rw[hh]at CH;have CP:=zh1 (H.below (bd (Below.refl _ _))) hh;have HF:=za (λn=>(H.below (bdN (Below.refl _ _) n)).put v0 hs);obtain⟨p0,p1,p2,p3⟩:=zez H.ok hh;obtain⟨l0,l1⟩:=zbr H.ok;obtain⟨cap,c0,c1,c2,c3,c4,hr,hz,-⟩:=H;have hc:=hr.at p1;rw[Nat.zero_add]at hc;have hz:=hz _ p1;rw[←p2]at CP;generalize (zL I x y z).toNat=k at *;generalize I.il.getD k 0=u at *;generalize I.il.length=n at *;generalize I.it=t at *;clear hh hr c0 c1 c2 p2 p0 p3 hs
 go_enter Tryz.func26,Tryz.ntmps26
 go_upto_region 3 with(go_at_call 54;(with_reducible refine CH.mono ?_);rintro e w1 ⟨rfl,rfl⟩)
 go_region_with (go_at_call 55;(with_reducible refine CP.mono ?_);rintro e w2 ⟨rfl,m,rfl⟩)
 all_goals go_wp2
 all_goals go_ret
 all_goals exact⟨rfl,HF.out _,(zeX w _ _).trans (zn _ _ _ _)⟩
theorem zfB {a:Int} (h0 : -4611686018427387904<=a) (h1:a<=4611686018427387904):wrap64 a=a:=by unfold wrap64;omega
theorem zgG {a b n:Nat} (h:a*b=n) (hn:n<=4294967296):wrap64 ((a:Int)*(b:Int))=(n:Int):=by
 rw[←Int.natCast_mul,h];exact zfB (by omega) (by omega)
theorem zjH {a b n:Nat} (h:a+b=n) (hn:n<=4294967296):wrap64 ((a:Int)+(b:Int))=(n:Int):=by
 rw[←Int.natCast_add,h];exact zfB (by omega) (by omega)
theorem zef {a b A:Nat} (h:a<=A) (hb:b<=3):a*b<=A*3:=Nat.mul_le_mul h hb
theorem zqS {a b:Nat} (h:a<b) {B:Nat} (hb:b<=B):a<=B:=by omega
theorem zhY {N C i q:Nat} (hi:i<N) (hq:q<C):i*C+q<N*C:=by
 have:=Nat.mul_le_mul_right C (show i+1<=N by omega);rw[Nat.add_mul,Nat.one_mul]at this;omega
theorem zvN {p f n:Int} {m j:Nat} (f0 : -1099511627776<=f) (f1:f<=1099511627776) (hm:m<=4294967296) (h:j<m):(zB p f n m).getD j 0=atF p (f+(j:Int)) n:=by
 unfold zB;rw[List.getD_eq_getElem?_getD,List.getElem?_map,List.getElem?_range h]
 show atF p (zE (f+(j:Int))) n=_
 rw[zH (by omega) (by omega)]
theorem zxZ (c:JobC) (E:Int) {k q:Nat} (hq:q<c.C):zfc c E (k*c.C+q)=zbe c.I (atF c.S.sb (c.lo+(k:Int)) c.I.iw) (atF c.S.sb E c.I.ih) (q:Int):=by
 obtain⟨e1,e2⟩:=zfz (i:=k) hq;unfold zfc;rw[e1,e2]
set_option maxHeartbeats 8000000 in
set_option maxRecDepth 100000 in
theorem zmN {w0 w:World} {jb:Nat} {F R:Nat->Prop} {c:JobC} {G:List Int} {E:Int} {y n:Nat} (K:JobK w0 c) (J:JobAt w0 w jb F R c G E y (n+1)) :
  Calls Tryz.prog 90 #[.pointer (some ⟨jb,0,none⟩)] w λe w'=>∃ v,e=.returned v/\OwnI .i64 2 w' w.heap.size v (zfa c E (c.cnt*c.C))/\Below w.heap.size w w':=by
 obtain⟨pb,pc,cbk,cc,rb,rc,r,fx,-⟩:=J.mem;obtain⟨hy,e1,e2,b1,b2,b3,b4,-⟩:=J.E_in K;obtain⟨ef,eg,s0,s1⟩:=K.suit;obtain⟨k0,k1,k2,k3,k4,k5⟩:=K.cnt_in;obtain⟨C1,C3,-⟩:=K.c1;have q0:=fx.c0;have q4:=fx.c4;have q19:=J.c19;have q15:=fx.c15;have HP:=za fx.places;have HPL:=za (zaw c.S.sb c.lo c.S.fx c.cnt);have HPA:=za (fun(k:Nat) (hk:k<c.cnt)=>show(zB c.S.sb c.lo c.S.fx c.cnt).getD k 0=atF c.S.sb (c.lo+(k:Int)) c.I.iw by
  rw[zvN (by omega) (by omega) (by omega) hk,ef])
 have HI:=za (K.img.below J.bel);have E0 : -9223372036854775808<=E/\E<=9223372036854775807:=by omega
 have CH:=λq=>zcO (HI.out.below (bdN (Below.refl _ w) q))
 have CA:=λw=>zmv c.S.sb E c.I.ih E0.1 E0.2 w
 have CC:=λw' (b:Below w.heap.size w w')=>zaF (HI.out.below b)
 rw[K.ch]at CC;have HSM:=za (fun(k q:Nat) (hq:q<c.C)=>zxZ c E (k:=k) hq);have HSI:=za (λq=>zkk K E q);obtain⟨N,hN⟩:∃ N,c.cnt*c.C=N:=⟨_,rfl⟩;have n1:N<=3145728*3:=hN ▸ zef k2 C3;have n3:N<=4294967296:=Nat.le_trans n1 (by decide);have W0:=zgG hN n3;obtain⟨zs,MK,MO⟩:=zkl N (Nat.le_trans n1 (by decide));have HMO:=za MO;have HN:=za hN;obtain⟨yy,hyy⟩:∃ yy,atF c.S.sb E c.I.ih=yy:=⟨_,rfl⟩;rw[hyy]at CA;simp only[hyy]at HSM;have X0:=za q0;have X15:=za q15;rw[hN];clear K J fx hy n1 e1 e2 b1 b2 b3 b4 ef eg s0 s1 k0 k3 k4 k5 hyy MO hN E0;generalize c.S.sb=sb at *;generalize c.I.ih=ih at *;obtain⟨cn,hcn⟩:∃ cn,c.cnt=cn:=⟨_,rfl⟩;obtain⟨C,hC⟩:∃ C,c.C=C:=⟨_,rfl⟩;rw[hcn]at k1 k2 q15 HP HPL HPA W0 HN X15;rw[hC]at C1 C3 CC HSM W0 HN
 go_enter Tryz.func90,Tryz.ntmps90
 go_wp2_with fail
 go_quiet (first|(go_at_call 25;with_reducible exact zcg (CH _))|(go_at_call 81;with_reducible exact zcg (CA _)))
 have B1:=za (bdN (Below.refl _ w) nq);have y15:=ca (ob:=.cells zs 2) (w:=w.drewN nq) (show jb<(w.drewN nq).heap.size from ze q0) (show(w.drewN nq).cell? ⟨jb,15,none⟩=_ from q15)
 go_wp2_with (go_at_call 17;(with_reducible refine(CC _ B1.out).mono ?_);rintro e w2 ⟨rfl,rfl⟩)
 have O1:=HMO.out (w.drewN nq) w.heap.size (Nat.le_refl _);rw[←zdl]at O1;have HO1:=za O1;have HB1:=za (ba B1.out (.cells zs 2));have hl:=ze q0;clear MK HMO O1 q0 q4 q19 q15 y15 W0 CA CH;have hsz:(w.drewN nq).heap.size=w.heap.size:=rfl;generalize (w.drewN nq).alloc (.cells zs 2)=W2 at *;simp only[hsz]at *
 go_loopg [42] cn (λr i wr=>∃ k:Nat,k+r=cn/\i=.int .i64 (k:Int)/\OwnI .i64 2 wr w.heap.size (.slice (some ⟨w.heap.size,0,none⟩) N N) (zbH (zfa c E (k*C)) N)/\Below w.heap.size w wr)
 case atStart=>exact⟨0,by omega,rfl,by rw[Nat.zero_mul];exact HO1.out,HB1.out⟩
 case round =>
  clear HO1 HB1;obtain⟨k,hk,rfl,ho,hb⟩:=hrel;have HO:=za ho;have HB:=za hb;have HK:=za hk;clear ho hb hk;obtain⟨G0,hG⟩:∃ G0,G0=gk:=⟨_,rfl⟩;subst hG
  by_cases hlt:k<cn
  ·have cu1:=(HP.out.below HB.out).at (show k<_ by rw[HPL.out];exact hlt);rw[HPA.out k hlt,Nat.zero_add]at cu1;obtain⟨x,hx⟩:∃ x,atF sb (c.lo+(k:Int)) c.I.iw=x:=⟨_,rfl⟩;rw[hx]at cu1;have HX:=za hx;clear hx;go_wp2
   go_loopg [48] C (λr i wr=>∃ q:Nat,q+r=C/\i=.int .i64 (q:Int)/\OwnI .i64 2 wr w.heap.size (.slice (some ⟨w.heap.size,0,none⟩) N N) (zbH (zfa c E (k*C+q)) N)/\Below w.heap.size w wr)
   case atStart=>exact⟨0,by omega,rfl,HO.out,HB.out⟩
   case round =>
    clear cu1;obtain⟨q,hq,rfl,ho,hb⟩:=hrel;have HO2:=za ho;have HB2:=za hb;have HQ:=za hq;clear ho hb hq
    by_cases hlt2:q<C
    ·have hp:=zhY hlt hlt2;rw[HN.out]at hp;have LP:=zd3 (L:=zfa c E (k*C+q)) (n:=N) (by rw[zg8];omega);have z5:=HO2.out.frozenAt LP (k*C+q);have z6:=HO2.out.cellAt LP hp;have x0:=cb HB2.out hl X0.out;have hq4:k*C+q<=4294967296:=zqS hp n3;have M1:=zgG (a:=k) (b:=C) rfl (Nat.le_trans (Nat.le_add_right _ q) hq4);have M2:=zjH (a:=k*C) (b:=q) rfl hq4;have sv:=HSI.out (k*C+q);have se:=HSM.out k q hlt2;rw[HX.out]at se;obtain⟨V,hV⟩:∃ V,zfc c E (k*C+q)=V:=⟨_,rfl⟩;rw[hV]at sv se;have M3:wrap64 V=V:=zfB (by omega) (by omega);have M4:IntKind.i64.wrap V=V:=zaN (by omega) (by omega);have CAT:=zmz (HI.out.below HB2.out) x yy (q:Int);rw[←se]at CAT;have ST:=λw' (b:Drew wr w')=>(HO2.out.below b.below).stored LP (k*C+q) V
     rw[zdA (zg8 c E (k*C+q)) hp,←hV,←zse]at ST;rw[hV]at ST;have HST:=za ST;have HPQ:=za hp;generalize hm:k*C+q=m at *;generalize k*C=kc at *;have HMQ:=za hm;obtain⟨z,hz⟩:∃ z,(zbH (zfa c E m) N).getD m 0=z:=⟨_,rfl⟩;rw[hz]at z6;clear ST sv se hV LP hm hq4 hp hz
     go_wp2_with (go_at_call 30;(with_reducible refine CAT.mono ?_);rintro e w3 ⟨rfl,d3⟩;have HD3:=za d3;have z7:=fb d3.below (HO2.out.lt w.heap.size rfl) z5;have z8:=cb d3.below (HO2.out.lt w.heap.size rfl) z6;clear d3)
     go_roundg (gk-1)
     case measure=>have:=HQ.out;omega
     case rel=>exact⟨q+1,by have:=HQ.out;omega,by go_num,by rw[show kc+(q+1)=m+1 by have:=HMQ.out;omega];exact HST.out _ HD3.out,bs (bt HB2.out HD3.out.below) (Nat.le_refl _) _⟩
    ·obtain rfl:C=q:=by have:=HQ.out;omega
     have e:=Nat.succ_mul k C;have OO:=HO2.out;rw[←e]at OO;have HOO:=za OO;clear OO e hlt2;go_wp2
     go_roundg (G0-1)
     case measure=>have:=HK.out;omega
     case rel=>exact⟨k+1,by have:=HK.out;omega,by go_num,HOO.out,HB2.out⟩
  ·obtain rfl:cn=k:=by have:=HK.out;omega
   have OO:=HO.out;rw[HN.out,zcL (zg8 c E N)]at OO;have HOO:=za OO;clear OO hlt;go_wp2;go_ret;exact⟨_,rfl,HOO.out,HB.out⟩
end Go.Proofs.YtlodkoimdoeopaaGreatDoor
