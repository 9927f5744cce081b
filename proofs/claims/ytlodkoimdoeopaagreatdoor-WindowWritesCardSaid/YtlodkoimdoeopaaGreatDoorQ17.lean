/- Parts, joined. -/
import Derived.Test.YtlodkoimdoeopaaGreatDoorQ16
import Derived.Test.YtlodkoimdoeopaaGreatDoorQ03
import Derived.Test.YtlodkoimdoeopaaGreatDoorQ10
import Derived.Test.YtlodkoimdoeopaaGreatDoorQ09
import Derived.Test.YtlodkoimdoeopaaGreatDoorQ15
import Derived.Test.YtlodkoimdoeopaaGreatDoorQ12
import Derived.Test.YtlodkoimdoeopaaGreatDoorQ11
import Derived.Laws.OwnMore
import Derived.Deep.LoopGhost
namespace Go.Proofs.YtlodkoimdoeopaaGreatDoor
open Go.RowKit
theorem zhq (xs:List Int) (ad:Option Addr) (cap:Nat) (w:World) (hr:RowAt .i64 w ad xs) (hx:zad xs) (hl:xs.length<=9223372036854775807) :
  Calls Tryz.prog 142 #[.slice ad xs.length cap] w λe w'=>∃ v,e=.returned (.tuple #[v,.int .i64 (zX xs)])/\Ret .i64 (zc4 xs) w' v/\Below w.heap.size w w':=by
 by_cases hf:Fits xs
 ·have e:=zap.2 hf;have e2:zc4 xs=zG xs:=by unfold zc4;rw[if_pos e]
  rw[e,e2];refine(zgI xs ad cap w hr hx hf).mono ?_;rintro e w1 ⟨v,rfl,o,b⟩;exact⟨v,rfl,o.ret,b⟩
 ·have e:zX xs≠0:=λg=>hf (zap.1 g)
  have e2:zc4 xs=[]:=by unfold zc4;rw[if_neg e]
  rw[e2];have HR:=za hr;have CS:=λw hr=>zny xs ad cap w hr hx hl
  by_cases hb:zfX xs=true
  ·have e3:zX xs=7:=by unfold zX;rw[if_pos hb]
   rw[e3];have CB:=λw hr=>zgp xs ad cap w hr hx hl false (by rw[hb];rfl)
   clear hr hx CS hf e e2 e3 hb;generalize xs.length=n at *
   go_enter Tryz.func142,Tryz.ntmps142
   go_wp2_with (go_at_call 166;(with_reducible refine(CB _ HR.out).mono ?_);rintro e w1 ⟨rfl,rfl⟩)
   exact bodyPost_ret (v:=.tuple #[.slice none 0 0,.int .i64 7]) (by simp[results,Tryz.results142,go_sem]) rfl ⟨_,rfl,zcG _ _ _ _,Below.refl _ _⟩
  ·have hb':zfX xs=false:=by
    cases h:zfX xs with
    |true=>exact absurd h hb
    |false=>rfl
   have h3:zr xs<268435456:=by
    by_cases q:zr xs<268435456
    ·exact q
    ·have nb:¬(xs.length<1\/1048576<xs.length\/¬∀ x ∈ xs,zaa x):=λq=>hb ((zeR xs).2 q)
     refine absurd ⟨?_,?_,?_,by omega⟩ hf
     ·by_cases q:xs.length<1
      ·exact absurd (Or.inl q) nb
      ·omega
     ·by_cases q:1048576<xs.length
      ·exact absurd (Or.inr (Or.inl q)) nb
      ·omega
     ·exact Classical.byContradiction λq=>nb (Or.inr (Or.inr q))
   have e3:zX xs=8:=by unfold zX;rw[if_neg hb,if_pos h3]
   rw[e3];have CB:=λw hr=>zgp xs ad cap w hr hx hl true (by rw[hb'];rfl)
   obtain⟨s0,s1⟩:=zgE xs;generalize zr xs=s at *;clear hr hx hf e e2 e3 hb hb';generalize xs.length=n at *
   go_enter Tryz.func142,Tryz.ntmps142
   go_wp2_with (first
    |(go_at_call 166;(with_reducible refine(CB _ HR.out).mono ?_);rintro e w1 ⟨rfl,rfl⟩)
    |(go_at_call 167;(with_reducible refine(CS _ HR.out).mono ?_);rintro e w1 ⟨rfl,rfl⟩))
   exact bodyPost_ret (v:=.tuple #[.slice none 0 0,.int .i64 8]) (by simp[results,Tryz.results142,go_sem]) rfl ⟨_,rfl,zcG _ _ _ _,Below.refl _ _⟩
theorem zv6 (xs:List Int) (ad:Option Addr) (cap:Nat) (w:World) (hr:RowAt .i64 w ad xs) (hx:zad xs) (hl:xs.length<=9223372036854775807) :
  Calls Tryz.prog 146 #[.slice ad xs.length cap] w λe w'=>∃ v,e=.returned (.tuple #[v,.int .i64 (zY xs)])/\Ret .i64 (zJ xs) w' v/\Below w.heap.size w w':=by
 unfold zY zJ
 by_cases hu:zga xs=true
 ·rw[if_pos hu,if_pos hu];refine(zo3 xs ad cap w hr hx ((zdI xs).1 hu)).mono ?_;rintro e w1 ⟨v,rfl,o,b⟩;exact⟨v,rfl,o.ret,b⟩
 ·rw[if_neg hu,if_neg hu];refine(zvA xs ad cap w hr hx hl (λq=>hu ((zdI xs).2 q))).mono ?_;rintro e w1 ⟨rfl,b⟩;exact⟨_,rfl,zcG _ _ _ _,b⟩
theorem zhI (s:Int) (w:World) :
  Calls Tryz.prog 144 #[.int .i64 s] w λe w'=>∃ v,e=.returned (.tuple #[v,.int .i64 (zbc s)])/\Ret .i64 (zS s) w' v/\Below w.heap.size w w':=by
 unfold zbc zS
 by_cases h:1<=s/\s<=4194304
 ·rw[if_pos h,if_pos h];refine(znY s h.1 h.2 w).mono ?_;rintro e w1 ⟨v,rfl,o,b⟩;exact⟨v,rfl,o.ret,b⟩
 ·rw[if_neg h,if_neg h];refine(znm s (by omega) w).mono ?_;rintro e w1 ⟨rfl,b⟩;exact⟨_,rfl,zcG _ _ _ _,b⟩
theorem zoz (m:Nat) (h:m<18446744073709551616) (w:World) :
  Calls Tryz.prog 196 #[.int .u64 1,.int .u64 (m:Int)] w λe w'=>e=.returned (.tuple #[.int .u64 0,.int .u64 (m:Int)])/\w=w':=by
 have C:∀ w:World,Calls Tryz.prog 128 #[.int .u64 1,.int .u64 (m:Int)] w λe w'=>e=.returned (.tuple #[.int .u64 0,.int .u64 (m:Int)])/\w=w':=λw=>by
  have:=zkL 1 m (by omega) h w;rw[Nat.one_mul,Nat.mod_eq_of_lt h,Nat.div_eq_of_lt h]at this;exact this
 go_enter Tryz.func196,Tryz.ntmps196
 go_wp2_with (go_at_call 128;(with_reducible refine(C _).mono ?_);rintro e w1 ⟨rfl,rfl⟩)
 exact bodyPost_ret (v:=.tuple #[.int .u64 0,.int .u64 (m:Int)]) (by simp[results,Tryz.results196,go_sem]) rfl ⟨rfl,rfl⟩
def zcq (c m:Nat):List Value:=List.replicate c (.int .i64 1)++List.replicate (m-c) (.int .i64 0)
theorem zkY {c m:Nat} (h:c<=m):(zcq c m).length=m:=by unfold zcq;rw[List.length_append,List.length_replicate,List.length_replicate];omega
theorem zrN {c m j:Nat} (h:j<c):(zcq c m)[j]?=some (.int .i64 1):=by
 unfold zcq;rw[List.getElem?_append_left (by rw[List.length_replicate];exact h),List.getElem?_replicate,if_pos h]
theorem zju {c m d:Nat} (h:c+d<=m):splice (zcq c m) c (List.replicate d (.int .i64 1))=zcq (c+d) m:=by
 unfold splice zcq;rw[List.length_replicate,List.take_left' (by rw[List.length_replicate]),List.drop_append,List.length_replicate,List.drop_of_length_le (by rw[List.length_replicate];omega),List.nil_append,List.drop_replicate,←List.append_assoc,List.replicate_append_replicate]
 congr 2
 omega
theorem zrV (m:Nat):zcq m m=(List.replicate m (1:Int)).map (Value.int .i64):=by unfold zcq;simp
theorem zws:(Tryz.prog.info? 2).map (·.size)=some 1:=by kernel_rfl
theorem bdG {B:Nat} {a w:World} (h:Below B a w):Below B a w.drew:=h.trans ⟨rfl,rfl,rfl,Nat.le_refl _,λ_ _=>rfl⟩
set_option maxHeartbeats 4000000 in
set_option maxRecDepth 1000000 in
theorem zpD (m:Nat) (m0:1<=m) (m1:m<=2000) (k:Nat) (w:World) (hc:w.cell? ⟨k,0,none⟩=some (.int .i64 1)) :
  Calls Tryz.prog 172 #[.slice (some ⟨k,0,none⟩) 1 1,.int .i64 (m:Int)] w λe w'=>∃ v,e=.returned v/\OwnI .i64 2 w' w.heap.size v (List.replicate m 1)/\Below w.heap.size w w':=by
 have CM:=λw=>zoz m (by omega) w
 obtain⟨zs,MK,_,MZ⟩:=zh9 m (by omega);have hsz:=zws;have HC:=za hc;have kl:=ze hc;have HW:=za (show(w.alloc (.cells zs 2)).heap[w.heap.size]?=some (.cells (zcq 0 m).toArray 2 (0,0)) by
  have e:zs=(zcq 0 m).toArray:=by
   apply Array.toList_inj.1
   rw[MZ];unfold zcq;simp
  rw[←e];exact heap_alloc_new w _)
 have HC1:=za (show(w.alloc (.cells zs 2)).cell? ⟨k,0,none⟩=some (.int .i64 1) from cb (ba (Below.refl _ _) _) kl hc);have HS:=za hsz;obtain⟨w2,hrun,hg2,hb2⟩:=zl4 (P:=Tryz.prog) (w.alloc (.cells zs 2)) 28 28 3 2 Tryz.underlying28 hsz w.heap.size 0 m m ⟨k,0,none⟩ 1 1 (zcq 0 m) 2 [.int .i64 1] 1 HW.out rfl (show 1=min 1 m by omega) (λj v hj=>by
  match j,hj with
  |0,hj=>simp at hj;subst hj;exact HC1.out) (by rw[zkY (Nat.zero_le _)];omega) (zeg _ _) w.heap.size (Nat.le_refl _)
 have hg2':w2.heap[w.heap.size]?=some (.cells (zcq 1 m).toArray 2 (0,0)):=by
  rw[hg2];have:=zju (c:=0) (d:=1) (m:=m) (by omega);rw[List.replicate_one,Nat.zero_add]at this;rw[this]
 have hb2':Below w.heap.size w w2:=(ba (Below.refl _ _) _).trans hb2;have HG2:=za hg2';have HB2:=za hb2';clear MZ hc hsz hg2 hg2' hb2 hb2' HC HC1 kl
 go_enter Tryz.func172,Tryz.ntmps172
 go_wp2_with (go_at_call 196;(with_reducible refine(CM _).mono ?_);rintro e w1 ⟨rfl,rfl⟩)
 clear hrun CM MK HW;obtain⟨g,hg⟩:∃ g,w.heap.size=g:=⟨_,rfl⟩;have HGE:=za hg;rw[hg]at HG2 HB2 ⊢;clear hg
 go_loopw [8] (λu wr=>∃ c:Nat,1<=c/\c<=m/\u=.int .i64 (c:Int)/\Hid (wr.heap[g]?=some (.cells (zcq c m).toArray 2 (0,0)))/\Below g w wr) (λu _=>m-(intOf u).toNat)
 case atStart=>exact⟨1,by omega,by omega,rfl,HG2,HB2.out⟩
 case round =>
  obtain⟨c,c0,c1,rfl,HG,hb⟩:=hrel;have HB:=za hb;clear hb HG2 HB2
  by_cases hlt:c<m
  ·obtain⟨d,hd⟩:∃ d,min c (m-c)=d:=⟨_,rfl⟩;have d0:1<=d:=by omega
   have d1:c+d<=m:=by omega
   have d2:d<=c:=by omega
   obtain⟨w3,hrun,hg3,hb3⟩:=zl4 (P:=Tryz.prog) wr.drew 28 28 3 2 Tryz.underlying28 HS.out g c (m-c) (m-c) ⟨g,0,none⟩ c m (zcq c m) 2 (List.replicate d (.int .i64 1)) d HG.out List.length_replicate (show d=Nat.min c (m-c) from hd.symm) (λj v hj=>by
    rw[List.getElem?_replicate]at hj
    by_cases h:j<d
    ·rw[if_pos h]at hj;obtain rfl:=Option.some.inj hj;rw[zeO,Nat.zero_add];have e:wr.drew.heap[g]?=some (.cells (zcq c m).toArray 2 (0,0)):=HG.out;unfold World.cell?;simp only[e,List.getElem?_toArray];exact zrN (by omega)
    ·rw[if_neg h]at hj;cases hj) (by rw[zkY c1];omega) (λv hv=>by obtain rfl:=List.eq_of_mem_replicate hv;rfl) g (Nat.le_refl _)
   rw[zju d1]at hg3;have HG3:=za hg3;have HB3:=za (Below.trans (bdG HB.out) hb3);have hmc:¬m=c:=by omega
   have HD:=za hd;clear hg3 hb3 hd HG HB
   go_wp2_with fail
   go_region
   go_wp2
   go_roundw
   case rel=>exact⟨c+d,by omega,d1,by go_num,HG3,HB3.out⟩
   case measure=>simp[intOf];omega
  ·obtain rfl:c=m:=by omega
   have e:=HG.out;rw[zrV]at e;have HO:=za (OwnI.of_block (base:=w.heap.size) e List.length_replicate (by rw[HGE.out];exact Nat.le_refl _) (by unfold maxLen;omega));have HBW:=za (show Below w.heap.size w wr by rw[HGE.out];exact HB.out);clear HG e HB;go_wp2;go_ret;exact⟨_,rfl,HO.out,HBW.out⟩
theorem zvO (r:Int) (h:r<0\/511<r) (w:World) :
  Calls Tryz.prog 145 #[.int .i64 r] w λe w'=>e=.returned (.tuple #[.slice none 0 0,.int .i64 7])/\Below w.heap.size w w':=by
 rcases h with h|h
 ·go_enter Tryz.func145,Tryz.ntmps145
  go_wp2;exact bodyPost_ret (v:=.tuple #[.slice none 0 0,.int .i64 7]) (by simp[results,Tryz.results145,go_sem]) rfl ⟨rfl,Below.refl _ _⟩
 ·have h2:decide (r<0)=false:=decide_eq_false (by omega)
  go_enter Tryz.func145,Tryz.ntmps145
  go_wp2;exact bodyPost_ret (v:=.tuple #[.slice none 0 0,.int .i64 7]) (by simp[results,Tryz.results145,go_sem]) rfl ⟨rfl,Below.refl _ _⟩
set_option maxHeartbeats 4000000 in
set_option maxRecDepth 1000000 in
theorem zxj (r:Nat) (h:r<=511) (w:World) :
  Calls Tryz.prog 145 #[.int .i64 (r:Int)] w λe w'=>∃ v,e=.returned (.tuple #[v,.int .i64 0])/\OwnI .i64 2 w' w.heap.size v (zbP (List.replicate (2*r+1) 1))/\Below w.heap.size w w':=by
 obtain⟨us,hus⟩:∃ us,us=zbP (List.replicate (2*r+1) 1):=⟨_,rfl⟩;have HUS:=za hus;rw[←hus];obtain⟨m,hm⟩:∃ m,2*r+1=m:=⟨_,rfl⟩;have hm':2*(r:Int)+1=(m:Int):=by omega
 have CR:=λk w hc=>zpD m (by omega) (by omega) k w hc
 have CU:=λw ad cap hr=>zo3 (List.replicate m 1) ad cap w hr (zpp m) (by rw[←hm];exact zkX r h)
 rw[List.length_replicate]at CU;rw[←show us=zbP (List.replicate m 1) by rw[hus,hm]]at CU;have m1:m<=1023:=by omega
 have HM:=za hm;clear hus hm
 go_enter Tryz.func145,Tryz.ntmps145
 go_wp2_with (first
  |(go_at_call 172;(with_reducible refine(CR _ _ (by simp)).mono ?_);rintro e w2 ⟨v,rfl,hov,b2⟩;obtain⟨ad,cap,rfl,hrow,_⟩:=hov.formn List.length_replicate;have HRW:=za hrow;clear hov hrow)
  |(go_at_call 146;(with_reducible refine(CU _ _ _ HRW.out).mono ?_);rintro e w3 ⟨v,rfl,hov,b3⟩))
 have B3:=bt (bt (ba (Below.refl w.heap.size w) _) b2) b3;have O3:=hov.mono (bt (ba (Below.refl w.heap.size w) _) b2).size;exact bodyPost_ret (v:=.tuple #[v,.int .i64 0]) (by simp[results,Tryz.results145,go_sem]) rfl ⟨_,rfl,O3,B3⟩
theorem zvo (r:Int) (w:World) :
  Calls Tryz.prog 145 #[.int .i64 r] w λe w'=>∃ v,e=.returned (.tuple #[v,.int .i64 (za5 r)])/\Ret .i64 (zM r) w' v/\Below w.heap.size w w':=by
 unfold za5 zM
 by_cases h:0<=r/\r<=511
 ·rw[if_pos h,if_pos h];obtain⟨n,rfl⟩:∃ n:Nat,r=(n:Int):=⟨r.toNat,by omega⟩;refine(zxj n (by omega) w).mono ?_;rintro e w1 ⟨v,rfl,o,b⟩;exact⟨v,rfl,o.ret,b⟩
 ·rw[if_neg h,if_neg h];refine(zvO r (by omega) w).mono ?_;rintro e w1 ⟨rfl,b⟩;exact⟨_,rfl,zcG _ _ _ _,b⟩
theorem zyg:zwc:=λa b h0 h1 w=>zmf a b h0 h1 w
theorem zei (n:Int) (n0:1<=n) (n1:n<=65536) (w:World) :
  Calls Tryz.prog 140 #[.int .i64 n] w λe w'=>e=.returned (.bool true)/\w=w':=by
 go_enter Tryz.func140,Tryz.ntmps140
 go_wp2;go_ret
 first|exact⟨rfl,rfl⟩|exact⟨zU (decide_eq_true (by omega)),rfl⟩
theorem zjn (n:Int) (h:n<1\/65536<n) (w:World) :
  Calls Tryz.prog 140 #[.int .i64 n] w λe w'=>e=.returned (.bool false)/\w=w':=by
 rcases h with h|h
 all_goals
  go_enter Tryz.func140,Tryz.ntmps140
  go_wp2;go_ret
  first|exact⟨rfl,rfl⟩|exact⟨zU (decide_eq_false (by omega)),rfl⟩
theorem zrv (f n m i:Int) (h:zdf f n m i) (w:World) (hk:zaT w) :
  Calls Tryz.prog 141 #[.int .i64 f,.int .i64 n,.int .i64 m,.int .i64 i] w λe w'=>∃ v,e=.returned (.tuple #[.int .i64 (za4 f n m i),v])/\OwnI .i64 2 w' w.heap.size v (zbg f n m i)/\Below w.heap.size w w':=by
 refine(zpe f n m i h w hk).mono ?_;rintro e w1 ⟨a,c,v,hwin,rfl,ho,b⟩;obtain⟨rfl,rfl⟩:=zig h.2.2.2.2.1 hwin (zkq h);exact⟨v,rfl,znh ho,b⟩
theorem zhp (n:Nat) (xs:List Int) (hn:xs.length=n) (ad:Option Addr) (cap:Nat) (w:World) (hr:RowAt .i64 w ad xs) (hx:zad xs) (hl:n<=9223372036854775807) :
  Calls Tryz.prog 142 #[.slice ad n cap] w λe w'=>∃ v,e=.returned (.tuple #[v,.int .i64 (zX xs)])/\(zX xs=0->OwnI .i64 2 w' w.heap.size v (zG xs))/\Below w.heap.size w w':=by
 subst hn
 by_cases hf:Fits xs
 ·have e:=zap.2 hf;rw[e];refine(zgI xs ad cap w hr hx hf).mono ?_;rintro e w1 ⟨v,rfl,o,b⟩;exact⟨v,rfl,λ_=>o,b⟩
 ·have e:zX xs≠0:=λg=>hf (zap.1 g)
  refine(zhq xs ad cap w hr hx hl).mono ?_;rintro e' w1 ⟨v,rfl,_,b⟩;exact⟨v,rfl,λg=>absurd g e,b⟩
theorem zpn (n:Nat) (xs:List Int) (hn:xs.length=n) (ad:Option Addr) (cap:Nat) (w:World) (hr:RowAt .i64 w ad xs) (hx:zad xs) (hl:n<=9223372036854775807) :
  Calls Tryz.prog 143 #[.slice ad n cap] w λe w'=>e=.returned (.int .i64 (zP xs))/\w=w':=by
 subst hn;exact zhy xs ad cap w hr hx hl
def Fill (w:World) (g h m:Nat) (L:List (Int×List Int)):Prop :=
 h≠g/\L.length<=m/\(∀ j,j<m*2->(∃ v,w.cell? ⟨h,j,none⟩=some v)/\w.frozen? ⟨h,j,none⟩=false) /\
 ∀ j,j<L.length->w.cell? ⟨h,j*2,none⟩=some (.int .i64 (zf L j).1)/\∃ b cap,w.cell? ⟨h,j*2+1,none⟩=some (.slice (some ⟨b,0,none⟩) (zf L j).2.length cap)/\b≠g/\b≠h/\RowAt .i64 w (some ⟨b,0,none⟩) (zf L j).2
theorem Fill.below {w w':World} {g h m:Nat} {L:List (Int×List Int)} (F:Fill w g h m L) (hb:Below w.heap.size w w'):Fill w' g h m L:=by
 obtain⟨hne,hl,hc,hx⟩:=F;refine⟨hne,hl,λj hj=>?_,λj hj=>?_⟩
 ·obtain⟨⟨v,c⟩,z⟩:=hc j hj;exact⟨⟨v,cb hb (ze c) c⟩,fb hb (ze c) z⟩
 ·obtain⟨c1,b,cap,c2,h1,h2,hr⟩:=hx j hj;exact⟨cb hb (ze c1) c1,b,cap,cb hb (ze c2) c2,h1,h2,hr.below hb⟩
theorem Fill.table {w:World} {g h m:Nat} {L:List (Int×List Int)} (F:Fill w g h m L) (o:Nat) (u:Value):Fill (w.setCell ⟨g,o,none⟩ u) g h m L:=by
 obtain⟨hne,hl,hc,hx⟩:=F;have E:∀ j,(w.setCell ⟨g,o,none⟩ u).cell? ⟨h,j,none⟩=w.cell? ⟨h,j,none⟩:=λj=>zc (Or.inl hne.symm)
 refine⟨hne,hl,λj hj=>?_,λj hj=>?_⟩
 ·rw[E,World.frozen?_setCell];exact hc j hj
 ·obtain⟨c1,b,cap,c2,h1,h2,hr⟩:=hx j hj;exact⟨(E _).trans c1,b,cap,(E _).trans c2,h1,h2,hr.apart h1.symm o u⟩
theorem Fill.more {w:World} {g h m k:Nat} {L:List (Int×List Int)} (F:Fill w g h m L) (hk:L.length=k) (hm:k<m) (f:Int) (ts:List Int) {n b cap:Nat} (hn:ts.length=n) (h1:b≠g) (h2:b≠h) (hr:RowAt .i64 w (some ⟨b,0,none⟩) ts) :
  Fill ((w.setCell ⟨h,k*2,none⟩ (.int .i64 f)).setCell ⟨h,k*2+1,none⟩ (.slice (some ⟨b,0,none⟩) n cap)) g h m (L++[(f,ts)]):=by
 subst hk;subst hn;obtain⟨hne,hl,hc,hx⟩:=F;obtain⟨⟨v0,c0⟩,_⟩:=hc (L.length*2) (by omega);obtain⟨⟨v1,c1⟩,_⟩:=hc (L.length*2+1) (by omega);have E0:∀ j,j≠L.length*2->j≠L.length*2+1->((w.setCell ⟨h,L.length*2,none⟩ (.int .i64 f)).setCell ⟨h,L.length*2+1,none⟩ (.slice (some ⟨b,0,none⟩) ts.length cap)).cell? ⟨h,j,none⟩=w.cell? ⟨h,j,none⟩:=λj g1 g2 =>
  (zc (Or.inr (Ne.symm g2))).trans (zc (Or.inr (Ne.symm g1)))
 have E1:((w.setCell ⟨h,L.length*2,none⟩ (.int .i64 f)).setCell ⟨h,L.length*2+1,none⟩ (.slice (some ⟨b,0,none⟩) ts.length cap)).cell? ⟨h,L.length*2,none⟩=some (.int .i64 f) :=
  (zc (Or.inr (by omega))).trans (World.cell?_setCell_same' _ _ _ (by rw[c0];rfl))
 have E2:((w.setCell ⟨h,L.length*2,none⟩ (.int .i64 f)).setCell ⟨h,L.length*2+1,none⟩ (.slice (some ⟨b,0,none⟩) ts.length cap)).cell? ⟨h,L.length*2+1,none⟩=some (.slice (some ⟨b,0,none⟩) ts.length cap) :=
  World.cell?_setCell_same' _ _ _ (by rw[zc (Or.inr (by omega)),c1];rfl)
 refine⟨hne,by rw[List.length_append,List.length_singleton];omega,λj hj=>?_,λj hj=>?_⟩
 ·rw[World.frozen?_setCell,World.frozen?_setCell];refine⟨?_,(hc j hj).2⟩
  by_cases g1:j=L.length*2
  ·subst g1;exact⟨_,E1⟩
  by_cases g2:j=L.length*2+1
  ·subst g2;exact⟨_,E2⟩
  rw[E0 j g1 g2];exact(hc j hj).1
 ·rw[List.length_append,List.length_singleton]at hj
  by_cases e:j=L.length
  ·subst e;rw[zgU];exact⟨E1,b,cap,E2,h1,h2,(hr.apart h2.symm _ _).apart h2.symm _ _⟩
  ·rw[zhc _ (by omega)];obtain⟨d1,b',cap',d2,g1,g2,hr'⟩:=hx j (by omega);exact⟨(E0 _ (by omega) (by omega)).trans d1,b',cap',(E0 _ (by omega) (by omega)).trans d2,g1,g2,(hr'.apart g2.symm _ _).apart g2.symm _ _⟩
theorem Fill.heads {w:World} {g h m:Nat} {L:List (Int×List Int)} (F:Fill w g h m L):LinesHead w h L:=by
 obtain⟨_,_,_,hx⟩:=F;intro j hj;obtain⟨c1,b,cap,c2,_,_,hr⟩:=hx j hj;exact⟨c1,b,cap,c2,hr⟩
theorem Fill.start {w:World} {B g h m cap:Nat} {T:TypeId} {xs:List Value} (ho:w.ownsRow B T 2 (.slice (some ⟨h,0,none⟩) m cap) m xs) (hne:h≠g):Fill w g h m []:=by
 refine⟨hne,Nat.zero_le _,λj hj=>⟨?_,ho.frozenAt j⟩,λj hj=>absurd hj (Nat.not_lt_zero _)⟩;have hl:=ho.1;rw[ho.cellAt j hj];exact⟨_,List.getElem?_eq_getElem (by omega)⟩
theorem zxO (n:Nat) (h:n<=1048576):∃ zs:Array Value,(∀ w:World,(Instr.makeSlice 108 (.int .i64 (n:Int)) (.int .i64 (n:Int))).run Tryz.prog w=.ok (.slice (some ⟨w.heap.size,0,none⟩) n n) (w.alloc (.cells zs 103)))/\(∀ (w:World) (B:Nat),B<=w.heap.size->(w.alloc (.cells zs 103)).ownsRow B 103 2 (.slice (some ⟨w.heap.size,0,none⟩) n n) n zs.toList):=by
 obtain⟨i0,hi,hz0,hz1,hz2⟩:=info_parts zph;have hm:(n:Int)<=9223372036854775807:=by omega
 refine⟨madeCells (Value.agg #[.int .i64 0,.slice none 0 0]).cells (n*i0.size),λw=>?_,λw B hB=>?_⟩
 ·have hr:=run_make (P:=Tryz.prog) w 108 103 i0 (.agg #[.int .i64 0,.slice none 0 0]) Tryz.underlying108 hi hz0 .i64 .i64 n n (by omega) (Int.le_refl _) (by rw[hz2];omega) hm
  simpa only [Int.toNat_natCast] using hr
 ·rw[hz1];exact World.ownsRow_lit w _ n hB (by unfold maxLen;omega) (by rw[size_madeCells])
theorem Fill.room {w:World} {g h m k:Nat} {L:List (Int×List Int)} (F:Fill w g h m L) (hk:k<m) :
  (∃ v,w.cell? ⟨h,k*2,none⟩=some v)/\w.frozen? ⟨h,k*2,none⟩=false/\(∃ v,w.cell? ⟨h,k*2+1,none⟩=some v)/\w.frozen? ⟨h,k*2+1,none⟩=false:=by
 obtain⟨_,_,hc,_⟩:=F;obtain⟨a,b⟩:=hc (k*2) (by omega);obtain⟨c,d⟩:=hc (k*2+1) (by omega);exact⟨a,b,c,d⟩
theorem zs2 {w:World} {g h m k:Nat} {L:List (Int×List Int)} (F:Fill w g h m L) (hk:L.length=k) (hm:k<m) (f:Int) (ts:List Int) {n b cap:Nat} (hn:ts.length=n) (h1:b≠g) (h2:b≠h) (hr:RowAt .i64 w (some ⟨b,0,none⟩) ts)
  {x0 x1 x2 x3:Value} (d0:w.cell? ⟨g,0,none⟩=some x0) (d1:w.cell? ⟨g,1,none⟩=some x1) (d2:w.cell? ⟨g,2,none⟩=some x2) (d3:w.cell? ⟨g,3,none⟩=some x3) (z2:w.frozen? ⟨g,2,none⟩=false) (z3:w.frozen? ⟨g,3,none⟩=false) (u:Value)
  {W:World} (hW:W=((w.setCell ⟨h,k*2,none⟩ (.int .i64 f)).setCell ⟨h,k*2+1,none⟩ (.slice (some ⟨b,0,none⟩) n cap)).setCell ⟨g,2,none⟩ u) :
  Fill W g h m (L++[(f,ts)])/\RowAt .i64 W (some ⟨b,0,none⟩) ts/\W.cell? ⟨g,0,none⟩=some x0/\W.cell? ⟨g,1,none⟩=some x1/\W.cell? ⟨g,2,none⟩=some u/\W.cell? ⟨g,3,none⟩=some x3/\W.frozen? ⟨g,2,none⟩=false/\W.frozen? ⟨g,3,none⟩=false:=by
 subst hW;have hne:h≠g:=F.1;have E:∀ j,((w.setCell ⟨h,k*2,none⟩ (.int .i64 f)).setCell ⟨h,k*2+1,none⟩ (.slice (some ⟨b,0,none⟩) n cap)).cell? ⟨g,j,none⟩=w.cell? ⟨g,j,none⟩:=λj=>(zc (Or.inl hne)).trans (zc (Or.inl hne))
 refine⟨(F.more hk hm f ts hn h1 h2 hr).table 2 u,((hr.apart h2.symm _ _).apart h2.symm _ _).apart h1.symm _ _,?_,?_,?_,?_,?_,?_⟩
 ·rw[zc (Or.inr (by decide)),E];exact d0
 ·rw[zc (Or.inr (by decide)),E];exact d1
 ·exact World.cell?_setCell_same' _ _ _ (by rw[E,d2];rfl)
 ·rw[zc (Or.inr (by decide)),E];exact d3
 ·rw[World.frozen?_setCell,World.frozen?_setCell,World.frozen?_setCell];exact z2
 ·rw[World.frozen?_setCell,World.frozen?_setCell,World.frozen?_setCell];exact z3
theorem zsf {w:World} {g h m:Nat} {L:List (Int×List Int)} (F:Fill w g h m L)
  {x0 x1 x2 x3:Value} (d0:w.cell? ⟨g,0,none⟩=some x0) (d1:w.cell? ⟨g,1,none⟩=some x1) (d2:w.cell? ⟨g,2,none⟩=some x2) (d3:w.cell? ⟨g,3,none⟩=some x3) (z2:w.frozen? ⟨g,2,none⟩=false) (z3:w.frozen? ⟨g,3,none⟩=false) (u:Value)
  {W:World} (hW:W=w.drew.setCell ⟨g,3,none⟩ u) :
  Fill W g h m L/\W.cell? ⟨g,0,none⟩=some x0/\W.cell? ⟨g,1,none⟩=some x1/\W.cell? ⟨g,2,none⟩=some x2/\W.cell? ⟨g,3,none⟩=some u/\W.frozen? ⟨g,2,none⟩=false/\W.frozen? ⟨g,3,none⟩=false:=by
 subst hW;refine⟨(F.below (bd (Below.refl _ _))).table 3 u,?_,?_,?_,?_,?_,?_⟩
 ·rw[zc (Or.inr (by decide))];exact d0
 ·rw[zc (Or.inr (by decide))];exact d1
 ·rw[zc (Or.inr (by decide))];exact d2
 ·exact World.cell?_setCell_same' _ _ _ (by rw[show w.drew.cell? ⟨g,3,none⟩=w.cell? ⟨g,3,none⟩ from rfl,d3];rfl)
 ·rw[World.frozen?_setCell];exact z2
 ·rw[World.frozen?_setCell];exact z3
theorem ztq (L:List (Int×List Int)) (x:Int×List Int):zaL (L++[x])=max (zaL L) (x.2.length:Int):=by
 have e:∀ o,o<=L.length->zbh (L++[x]) o=zbh L o:=by
  intro o ho
  induction o with
  |zero=>rfl
  |succ o ih =>
   show max (zbh (L++[x]) o) ((zf (L++[x]) o).2.length:Int)=max (zbh L o) ((zf L o).2.length:Int)
   rw[ih (by omega),zhc x (by omega)]
 unfold zaL;rw[List.length_append,List.length_singleton]
 show max (zbh (L++[x]) L.length) ((zf (L++[x]) L.length).2.length:Int)=_
 rw[e _ (Nat.le_refl _),zgU]
theorem zrA (L:List (Int×List Int)) (x:Int×List Int):zdW (L++[x])=max (zdW L) (zP x.2):=by
 have e:∀ o,o<=L.length->zdV (L++[x]) o=zdV L o:=by
  intro o ho
  induction o with
  |zero=>rfl
  |succ o ih =>
   show max (zdV (L++[x]) o) (zP (zf (L++[x]) o).2)=max (zdV L o) (zP (zf L o).2)
   rw[ih (by omega),zhc x (by omega)]
 unfold zdW;rw[List.length_append,List.length_singleton]
 show max (zdV (L++[x]) L.length) (zP (zf (L++[x]) L.length).2)=_
 rw[e _ (Nat.le_refl _),zgU]
theorem zf6 (f:Int) (f0:0<=f) (f1:f<=2):∃ s,zfg f=.string s/\s.toList.isEmpty=false:=by
 unfold zfg
 by_cases h0:f=0
 ·rw[if_pos h0];exact⟨_,rfl,by decide +kernel⟩
 by_cases h1:f=1
 ·rw[if_neg h0,if_pos h1];exact⟨_,rfl,by decide +kernel⟩
 ·rw[if_neg h0,if_neg h1,if_pos (by omega)];exact⟨_,rfl,by decide +kernel⟩
theorem znF {k:IntKind} {T:TypeId} {w:World} {base n:Nat} {v:Value} {xs:List Int} (h:OwnI k T w base v xs) (hn:xs.length=n) (h0:1<=n) :
  ∃ b cap,v=.slice (some ⟨b,0,none⟩) n cap/\base<=b/\RowAt k w (some ⟨b,0,none⟩) xs:=by
 subst hn;obtain⟨ad,cap,rfl,hr,hz,hs,_⟩:=h.form;rcases ad with _|a
 ·have:=(hz rfl).1;rw[this]at h0;exact absurd h0 (by decide)
 ·obtain⟨g,rfl,hb,_⟩:=hs a rfl;exact⟨g,cap,rfl,hb,hr⟩
set_option maxHeartbeats 4000000 in
set_option maxRecDepth 100000 in
theorem zoo (f n:Int) (m:Nat) (f0:0<=f) (f1:f<=2) (n0:1<=n) (n1:n<=65536) (m0:1<=m) (m1:m<=65536) (w:World) (hk:zaT w) :
  Calls Tryz.prog 102 #[.int .i64 f,.int .i64 n,.int .i64 (m:Int)] w λe w'=>∃ v,e=.returned (.tuple #[v,.int .i64 (zR f n m m)])/\(zR f n m m=0->TabM w' v n (zt f n m m))/\(zR f n m m≠0->v=.pointer none)/\Below w.heap.size w w':=by
 have S1:=zei n n0 n1;have S2:=zei (m:Int) (by omega) (by omega);have CN:=λw hk=>zhn f (by unfold I64;omega) w hk
 obtain⟨s,hs,s0⟩:=zf6 f f0 f1;rw[hs]at CN;obtain⟨i0,hi,hz0,hz1,hz2⟩:=info_parts zph;obtain⟨cm,hcd⟩:∃ cm,zR f n m m=cm:=⟨_,rfl⟩;rw[hcd];have HCD:=za hcd;have HK:=za (fun(w':World) (b:Below w.heap.size w w')=>zbq hk b);clear hcd hs
 go_enter Tryz.func102,Tryz.ntmps102
 go_upto_region 3 with(first
  |(go_at_call 101;(with_reducible refine(CN _ hk).mono ?_);rintro e w0 ⟨rfl,b0⟩)
  |(go_at_call 140;(with_reducible refine(S1 _).mono ?_);rintro e w1 ⟨rfl,rfl⟩)
  |(go_at_call 140;(with_reducible refine(S2 _).mono ?_);rintro e w1 ⟨rfl,rfl⟩))
 clear S1 S2 CN
 go_wp2_with (at_make;refine wpList_make_full _ rfl _ _ 108 rfl w.heap.size 103 i0 (.agg #[.int .i64 0,.slice none 0 0]) 2 Tryz.underlying108 hi hz0 hz1 .i64 .i64 (m:Int) (m:Int) m rfl rfl rfl rfl (by rw[hz2];omega) (by unfold maxLen;omega) (by have:=b0.size;omega) ?_;intro w2 hown hgrow)
 have B2:Below w.heap.size w w2:=b0.grown hgrow b0.size (λj hj=>by cases hj);have hlt:=(World.ownsRow.lt hown w0.heap.size rfl).2;have F0:=za (Fill.start (g:=w2.heap.size) (hown.alloc (.cells #[.int .i64 n,.slice (some ⟨w0.heap.size,0,none⟩) m m,.int .i64 0,.int .i64 0] 110)) (Nat.ne_of_lt hlt));have BA:=za (ba B2 (.cells #[.int .i64 n,.slice (some ⟨w0.heap.size,0,none⟩) m m,.int .i64 0,.int .i64 0] 110));have hgB:w.heap.size<=w2.heap.size:=B2.size;have hhB:w.heap.size<=w0.heap.size:=b0.size;clear hown hgrow b0 B2 hk;obtain⟨h,hh⟩:∃ h,w0.heap.size=h:=⟨_,rfl⟩;rw[hh]at F0 BA hhB hlt;obtain⟨g,hg⟩:∃ g,w2.heap.size=g:=⟨_,rfl⟩;have HG:=za hg;rw[hg]at F0 hgB hlt;have hne:h≠g:=Nat.ne_of_lt hlt;have hne2:g≠h:=λe=>hne e.symm
 simp only[hh];simp only[hg];clear hh
 go_loopw [37] (λi wr=>∃ k:Nat,k<=m/\i=.int .i64 (k:Int)/\Hid (zR f n m k=0)/\Hid (Fill wr g h m (zt f n m k))/\wr.cell? ⟨g,0,none⟩=some (.int .i64 n)/\wr.cell? ⟨g,1,none⟩=some (.slice (some ⟨h,0,none⟩) m m)/\wr.cell? ⟨g,2,none⟩=some (.int .i64 (zaL (zt f n m k)))/\wr.cell? ⟨g,3,none⟩=some (.int .i64 (zdW (zt f n m k)))/\wr.frozen? ⟨g,2,none⟩=false/\wr.frozen? ⟨g,3,none⟩=false/\Below w.heap.size w wr) (λi _=>m-(intOf i).toNat)
 case atStart =>
  subst hg;exact⟨0,by omega,rfl,rfl,F0,by simp,by simp,by simp;rfl,by simp;rfl,by simp,by simp,BA.out⟩
 case round =>
  obtain⟨k,hkm,rfl,hf,HF,c0,c1,c2,c3,z2,z3,hb⟩:=hrel;have HB:=za hb;have gl:=ze c0;clear hb F0 BA HG hg hlt;have hll:=zaq f n m k
  by_cases hkl:k<m
  ·have hM:zdf f n m k:=⟨f0,f1,n0,n1,by omega,by omega,by omega,by omega⟩;have CR:=zrv f n m k hM;obtain⟨s0,s1,b0,b1⟩:=zgW hM;clear hM;have hx:=zpj f n m k;have hln:=zbE f n m k;have hc1:zR f n m (k+1)=zX (zbg f n m k):=if_pos hf.out;have hsn:=zhT f n m k;have hlr:zbQ f n m k=(za4 f n m k,zG (zbg f n m k)):=rfl;rw[hlr]at hsn;have HM1:=za ((congrArg zaL hsn).trans (ztq _ _));have HS1:=za ((congrArg zdW hsn).trans (zrA _ _));have HSN:=za hsn;clear hlr hsn;obtain⟨st,cn,xs,cd,e1,e2,e3,e4⟩:=zlh f n m k;rw[e1,e3]at CR HSN HM1 HS1;rw[e1]at s0 s1;rw[e2]at b0 b1 hln;rw[e3]at hx hln hc1;rw[e4]at hc1;have CA:∀ (ad:Option Addr) (cap:Nat) (w:World),RowAt .i64 w ad xs->Calls Tryz.prog 142 #[.slice ad cn cap] w λe w'=>∃ v,e=.returned (.tuple #[v,.int .i64 cd])/\(cd=0->OwnI .i64 2 w' w.heap.size v (zG xs))/\Below w.heap.size w w':=by
    intro ad cap w hr;have:=zhp cn xs hln ad cap w hr hx (by omega);rw[e4]at this;exact this
   have hal:(zG xs).length=cn:=by rw[zaU];exact hln
   have HLN:=za hln;have HAL:=za hal;have HC1:=za hc1;have HLL:=za hll
   by_cases hz:cd=0
   ·have hfit:Fits xs:=zap.1 (e4.trans hz);have HX:=za (zis hfit);subst hz;obtain⟨ts,hts⟩:∃ ts,zG xs=ts:=⟨_,rfl⟩;rw[hts]at CA HX HAL HSN HM1 HS1;obtain⟨so,hso⟩:∃ so,zdW (zt f n m k)=so:=⟨_,rfl⟩;obtain⟨mo,hmo⟩:∃ mo,zaL (zt f n m k)=mo:=⟨_,rfl⟩;rw[hso]at HS1 c3;rw[hmo]at HM1 c2;obtain⟨sz,hsz⟩:∃ sz,zP ts=sz:=⟨_,rfl⟩;have HS2:=za (show zdW (zt f n m (k+1))=max so sz by rw[←hsz];exact HS1.out);have HM2:=za (show zaL (zt f n m (k+1))=max mo (cn:Int) by rw[←HAL.out];exact HM1.out);have CS:=λw ad cap hr=>zpn cn ts HAL.out ad cap w hr HX.out (by omega)
    rw[hsz]at CS;clear e1 e2 e3 e4 hx hln hc1 hal hts hso hmo hsz hfit HX HS1 HM1 hll
    go_upto_region 13 with(first
     |(go_at_call 141;(with_reducible refine(CR _ (HK.out _ HB.out)).mono ?_);rintro e w2 ⟨v,rfl,ho1,b2⟩;obtain⟨ad,cap,rfl,hrow,_⟩:=ho1.formn HLN.out)
     |(go_at_call 142;(with_reducible refine(CA _ _ _ hrow).mono ?_);rintro e w3 ⟨v2,rfl,ho2,b3⟩;obtain⟨b,cap2,rfl,hbb,hrt⟩:=znF (ho2 (by trivial)) HAL.out b0;clear ho2;have b23:=bt b2 b3;have F3:=HF.out.below b23;obtain⟨⟨v0,r0⟩,y0,⟨v1,r1⟩,y1⟩:=F3.room hkl;have d0:=cb b23 gl c0;have d1:=cb b23 gl c1;have d2:=cb b23 gl c2;have d3:=cb b23 gl c3;have x2:=fb b23 gl z2;have x3:=fb b23 gl z3))
    have hl2:=ze (HF.out.room hkl).1.choose_spec;have s2:=b2.size;obtain⟨F4,R4,p0,p1,p2,p3,w2',w3'⟩:=zs2 (cap:=cap2) F3 HLL.out hkl st ts HAL.out (show b≠g by omega) (show b≠h by omega) hrt d0 d1 d2 d3 x2 x3 (.int .i64 (max mo (cn:Int))) rfl;have B4:=bs (bs (bs (bt HB.out b23) hhB (b:=h) (o:=k*2) (.int .i64 st)) hhB (b:=h) (o:=k*2+1) (.slice (some ⟨b,0,none⟩) cn cap2)) hgB (b:=g) (o:=2) (.int .i64 (max mo (cn:Int)));have HF4:=za F4;have HR4:=za R4;have HB4:=za B4;clear F4 R4 B4 F3 b23 b2 b3 hrt d0 d1 d2 d3 x2 x3 c0 c1 c2 c3 z2 z3 r0 y0 r1 y1 hbb ho1 hrow CA CR HF HB;generalize ((w3.setCell ⟨h,k*2,none⟩ (.int .i64 st)).setCell ⟨h,k*2+1,none⟩ (.slice (some ⟨b,0,none⟩) cn cap2)).setCell ⟨g,2,none⟩ (.int .i64 (max mo (cn:Int)))=W at *;obtain⟨F5,q0,q1,q2,q3,o2,o3⟩:=zsf (W:=W.drew.setCell ⟨g,3,none⟩ (.int .i64 (max so sz))) HF4.out p0 p1 p2 p3 w2' w3' (.int .i64 (max so sz)) rfl;have B5:Below w.heap.size w (W.drew.setCell ⟨g,3,none⟩ (.int .i64 (max so sz))):=bs (bd HB4.out) hgB (b:=g) (o:=3) _;rw[←HSN.out]at F5;have H5:=za (And.intro F5 (And.intro q0 (And.intro q1 (And.intro q2 (And.intro q3 (And.intro o2 (And.intro o3 B5)))))));clear F5 B5 q0 q1 q2 q3 o2 o3
    go_region_with (go_at_call 143;(with_reducible refine(CS _ _ _ (HR4.out.below (by first|exact Below.refl _ _|exact bd (Below.refl _ _)))).mono ?_);rintro e w4 ⟨rfl,rfl⟩)
    all_goals
     go_wp2
     go_roundw
     case rel =>
      obtain⟨F5,q0,q1,q2,q3,o2,o3,B5⟩:=H5.out;exact⟨k+1,by omega,by go_num,HC1,F5,q0,q1,(by rw[HM2.out];exact q2),(by rw[HS2.out];exact q3),o2,o3,B5⟩
     case measure=>simp[intOf];omega
   ·have hend:zR f n m m=cd:=(zeq (by rw[hc1];exact hz) (show k+1<=m by omega)).trans hc1;have hcc:cm=cd:=HCD.out.symm.trans hend;subst hcc;have hzb:(cm != 0)=true:=by simpa using hz
    have HZ:=za hz;clear e1 e2 e3 e4 hx hln hc1 hal hend hz HC1 HSN HS1 HM1 hll
    go_wp2_with (first
     |(go_at_call 141;(with_reducible refine(CR _ (HK.out _ HB.out)).mono ?_);rintro e w2 ⟨v,rfl,ho1,b2⟩;obtain⟨ad,cap,rfl,hrow,_⟩:=ho1.formn HLN.out)
     |(go_at_call 142;(with_reducible refine(CA _ _ _ hrow).mono ?_);rintro e w3 ⟨v2,rfl,ho2,b3⟩))
    exact bodyPost_ret (v:=.tuple #[.pointer none,.int .i64 cm]) (by simp[results,Tryz.results102,go_sem]) rfl (by
     have B9:=bt (bt HB.out b2) b3
     first|exact⟨.pointer none,rfl,(λg=>absurd g HZ.out),(λ_=>rfl),B9⟩|exact⟨.pointer none,rfl,(λg=>absurd g HZ.out),trivial,B9⟩)
  ·obtain rfl:k=m:=by omega
   have hcc:cm=0:=HCD.out.symm.trans hf.out;subst hcc;have hT:=za (show TabM wr (.pointer (some ⟨g,0,none⟩)) n (zt f n k k) from⟨g,h,k,rfl,c0,by rw[hll];exact c1,c2,c3,HF.out.heads⟩);clear HCD hf hkl hkm HF c0 c1 c2 c3;go_wp2;exact bodyPost_ret (v:=.tuple #[.pointer (some ⟨g,0,none⟩),.int .i64 0]) (by simp[results,Tryz.results102,go_sem]) rfl (by first|exact⟨_,rfl,hT.out,HB.out⟩|exact⟨_,rfl,(λ_=>hT.out),(λg=>absurd rfl g),HB.out⟩)
theorem zn3 (f n m:Int) (h:zdO f n m=false) (hf:I64 f) (w:World) (hk:zaT w) :
  Calls Tryz.prog 102 #[.int .i64 f,.int .i64 n,.int .i64 m] w λe w'=>e=.returned (.tuple #[.pointer none,.int .i64 6])/\Below w.heap.size w w':=by
 have hb:=λg=>Bool.false_ne_true (h.symm.trans ((zdr f n m).2 g))
 clear h;have CN:=λw hk=>zhn f hf w hk
 by_cases hfr:0<=f/\f<=2
 ·obtain⟨s,hs,s0⟩:=zf6 f hfr.1 hfr.2;rw[hs]at CN;clear hs
  by_cases hn:1<=n/\n<=65536
  ·have S1:=zei n hn.1 hn.2;have S2:=zjn m (by
    by_cases q:m<1
    ·exact Or.inl q
    ·refine Or.inr ?_
     by_cases q2:65536<m
     ·exact q2
     ·exact absurd ⟨hfr.1,hfr.2,hn,by omega,by omega⟩ hb)
   clear hb hn hfr
   go_enter Tryz.func102,Tryz.ntmps102
   go_wp2_with (first
    |(go_at_call 101;(with_reducible refine(CN _ hk).mono ?_);rintro e w0 ⟨rfl,b0⟩)
    |(go_at_call 140;(with_reducible refine(S1 _).mono ?_);rintro e w1 ⟨rfl,rfl⟩)
    |(go_at_call 140;(with_reducible refine(S2 _).mono ?_);rintro e w1 ⟨rfl,rfl⟩))
   exact bodyPost_ret (v:=.tuple #[.pointer none,.int .i64 6]) (by simp[results,Tryz.results102,go_sem]) rfl ⟨rfl,b0⟩
  ·have S1:=zjn n (by omega);clear hb hn hfr
   go_enter Tryz.func102,Tryz.ntmps102
   go_wp2_with (first
    |(go_at_call 101;(with_reducible refine(CN _ hk).mono ?_);rintro e w0 ⟨rfl,b0⟩)
    |(go_at_call 140;(with_reducible refine(S1 _).mono ?_);rintro e w1 ⟨rfl,rfl⟩))
   exact bodyPost_ret (v:=.tuple #[.pointer none,.int .i64 6]) (by simp[results,Tryz.results102,go_sem]) rfl ⟨rfl,b0⟩
 ·rw[show zfg f=.string ⟨#[]⟩ by unfold zfg;rw[if_neg (by omega),if_neg (by omega),if_neg (by omega)]]at CN;clear hb hfr
  go_enter Tryz.func102,Tryz.ntmps102
  go_wp2_with (go_at_call 101;(with_reducible refine(CN _ hk).mono ?_);rintro e w0 ⟨rfl,b0⟩)
  exact bodyPost_ret (v:=.tuple #[.pointer none,.int .i64 6]) (by simp[results,Tryz.results102,go_sem]) rfl ⟨rfl,b0⟩
theorem ziY:zxo zaT Tab:=by
 intro f n m f0 f1 n0 n1 m0 m1 w hk
 cases hB:zdO f n m with
 |false =>
  have e:zO f n m=6:=by unfold zO;rw[hB];rfl
  rw[e];refine(zn3 f n m hB ⟨f0,f1⟩ w hk).mono ?_;rintro e w1 ⟨rfl,b⟩;exact⟨_,rfl,(λg=>absurd g (by decide)),(λ_=>rfl),b⟩
 |true =>
  obtain⟨a0,a1,⟨b0,b1⟩,c0,c1⟩:=(zdr f n m).1 hB;obtain⟨k,rfl⟩:∃ k:Nat,m=(k:Int):=⟨m.toNat,by omega⟩;have e:zO f n k=zR f n k k:=by unfold zO;rw[hB,if_pos rfl,Int.toNat_natCast]
  have HE:=za e;rw[Int.toNat_natCast];refine(zoo f n k a0 a1 b0 b1 (by omega) (by omega) w hk).mono ?_;rintro e w1 ⟨v,rfl,hT,hN,b⟩;rw[HE.out];refine⟨v,rfl,λg=>(hT g).tab (zuy (HE.out.trans g) hB) (zn8 a0 a1 b0 b1 (by omega)) (by rw[zaq];omega) (by rw[zaq];omega) b0 b1,hN,b⟩
def zie (ts:List Int):Nat:=ts.length / 2
def zbx (ts:List Int) (k:Nat):List (Int×List Int):=(List.range k).map λi:Nat=>((i:Int)-(zie ts:Int),ts)
theorem zer (ts:List Int) (k:Nat):(zbx ts k).length=k:=by unfold zbx;rw[List.length_map,List.length_range]
theorem znV {ts:List Int} {k j:Nat} (h:j<k):zf (zbx ts k) j=((j:Int)-(zie ts:Int),ts):=zcS _ h
theorem zlE (ts:List Int) (k:Nat):zbx ts (k+1)=zbx ts k++[((k:Int)-(zie ts:Int),ts)]:=by unfold zbx;rw[List.range_succ,List.map_append];rfl
theorem zqf (xs:List Int) (k:Nat):zQ xs k=zbx (zG xs) k:=by
 unfold zQ zbx zie;rw[zaU];rfl
theorem zoH (ts:List Int) {k:Nat} (h:1<=k):zaL (zbx ts k)=(ts.length:Int)/\zdW (zbx ts k)=zP ts :=
 zna (L:=zbx ts k) (ts:=ts) (λj hj=>by rw[zer]at hj;rw[znV hj]) (by rw[zer];exact h)
set_option maxHeartbeats 4000000 in
set_option maxRecDepth 100000 in
theorem zrp (ts:List Int) (l:Nat) (hl:ts.length=l) (l0:1<=l) (l1:l<=1048576) (hx:zad ts) (n:Nat) (n0:1<=n) (n1:n<=65536) (b cap:Nat) (w:World) (hr:RowAt .i64 w (some ⟨b,0,none⟩) ts) :
  Calls Tryz.prog 147 #[.slice (some ⟨b,0,none⟩) l cap,.int .i64 (n:Int)] w λe w'=>∃ v,e=.returned v/\TabM w' v n (zbx ts n)/\Below w.heap.size w w':=by
 obtain⟨zs,MK,MO⟩:=zxO n (by omega);have CS:=λw hr=>zpn l ts hl (some ⟨b,0,none⟩) cap w hr hx (by omega)
 have blt:b<w.heap.size:=by
  obtain⟨b',off,e,c⟩:=hr.get (show 0<ts.length by omega);simp only[Option.some.injEq,Addr.mk.injEq,and_true]at e;obtain⟨rfl,rfl⟩:=e;exact ze c
 have HR:=za hr;have HL:=za hl;have HX:=za hx;have HMO:=za MO;have SI:=(zdB ts);obtain⟨s,hs⟩:∃ s,zP ts=s:=⟨_,rfl⟩;have HS:=za hs;rw[hs]at CS SI;obtain⟨HF,hHF⟩:∃ q,l / 2=q:=⟨_,rfl⟩;have HH:=za (show zie ts=HF by unfold zie;rw[hl,hHF]);clear hr hx hl MO hs
 go_enter Tryz.func147,Tryz.ntmps147
 go_upto_region 1 with fail
 go_cut [5] (λt wx=>t=.pointer (some ⟨w.heap.size+1,0,none⟩)/\wx=((w.alloc (.cells zs 103)).alloc (.cells #[.int .i64 (n:Int),.slice (some ⟨w.heap.size,0,none⟩) n n,.int .i64 (l:Int),.int .i64 s] 110)).drew)
 case first =>
  go_region_with (go_at_call 143;(with_reducible refine(CS _ (HR.out.below (by repeat (first|exact Below.refl _ _|(with_reducible refine bt ?_ (by assumption))|with_reducible refine bd ?_|with_reducible refine ba ?_ _)))).mono ?_);rintro e w4 ⟨rfl,rfl⟩)
  all_goals (go_wp2_with fail;go_meet)
  all_goals exact⟨rfl,rfl⟩
 case rest =>
  obtain⟨rfl,hcut⟩:=hcut;have F0:=Fill.start (g:=w.heap.size+1) ((HMO.out w w.heap.size (Nat.le_refl _)).alloc (.cells #[.int .i64 (n:Int),.slice (some ⟨w.heap.size,0,none⟩) n n,.int .i64 (l:Int),.int .i64 s] 110)) (by omega);have F1:=za (show Fill wc (w.heap.size+1) w.heap.size n [] by rw[hcut];exact F0.below (bd (Below.refl _ _)));have BA:=za (show Below w.heap.size w wc by rw[hcut];exact bd (ba (ba (Below.refl _ _) _) _));have c0:wc.cell? ⟨w.heap.size+1,0,none⟩=some (.int .i64 (n:Int)):=by rw[hcut];simp
  have c1:wc.cell? ⟨w.heap.size+1,1,none⟩=some (.slice (some ⟨w.heap.size,0,none⟩) n n):=by rw[hcut];simp
  have c2:wc.cell? ⟨w.heap.size+1,2,none⟩=some (.int .i64 (l:Int)):=by rw[hcut];simp
  have c3:wc.cell? ⟨w.heap.size+1,3,none⟩=some (.int .i64 s):=by rw[hcut];simp
  clear F0 hcut MK HMO CS;obtain⟨h,hh⟩:∃ h,w.heap.size=h:=⟨_,rfl⟩;rw[hh]at F1 c0 c1 c2 c3 blt;simp only[hh];obtain⟨g,hg⟩:∃ g,h+1=g:=⟨_,rfl⟩;rw[hg]at F1 c0 c1 c2 c3;simp only[hg];have hgB:w.heap.size<=g:=by omega
  have hhB:w.heap.size<=h:=by omega
  have hne:h≠g:=by omega
  have hne2:g≠h:=by omega
  have hbg:b≠g:=by omega
  have hbh:b≠h:=by omega
  have hhalf:(l:Int) / 2=(HF:Int):=by omega
  have h0:(HF:Int)<=524288:=by omega
  have h1:0<=(HF:Int):=by omega
  have HHH:=za hh;clear hh hg hHF blt;go_wp2;clear hhalf
  go_loopw [25] (λi wr=>∃ k:Nat,k<=n/\i=.int .i64 (k:Int)/\Hid (Fill wr g h n (zbx ts k))/\wr.cell? ⟨g,0,none⟩=some (.int .i64 (n:Int))/\wr.cell? ⟨g,1,none⟩=some (.slice (some ⟨h,0,none⟩) n n)/\wr.cell? ⟨g,2,none⟩=some (.int .i64 (l:Int))/\wr.cell? ⟨g,3,none⟩=some (.int .i64 s)/\Below w.heap.size w wr) (λi _=>n-(intOf i).toNat)
  case atStart=>exact⟨0,by omega,rfl,F1,c0,c1,c2,c3,BA.out⟩
  case round =>
   clear F1 BA c0 c1 c2 c3;obtain⟨k,hkn,rfl,HF1,c0,c1,c2,c3,hb⟩:=hrel;have HB:=za hb;clear hb
   by_cases hkl:k<n
   ·obtain⟨⟨v0,r0⟩,y0,⟨v1,r1⟩,y1⟩:=HF1.out.room hkl;have F4:=HF1.out.more (zer ts k) hkl ((k:Int)-(HF:Int)) ts HL.out hbg hbh (HR.out.below HB.out) (cap:=cap);have es:=zlE ts k;rw[HH.out]at es;rw[←es]at F4;have B4:=bs (bs HB.out hhB (b:=h) (o:=k*2) (.int .i64 ((k:Int)-(HF:Int)))) hhB (b:=h) (o:=k*2+1) (.slice (some ⟨b,0,none⟩) l cap);have E:∀ j,((wr.setCell ⟨h,k*2,none⟩ (.int .i64 ((k:Int)-(HF:Int)))).setCell ⟨h,k*2+1,none⟩ (.slice (some ⟨b,0,none⟩) l cap)).cell? ⟨g,j,none⟩=wr.cell? ⟨g,j,none⟩:=λj=>(zc (Or.inl hne)).trans (zc (Or.inl hne))
    have H4:=za (And.intro F4 (And.intro ((E 0).trans c0) (And.intro ((E 1).trans c1) (And.intro ((E 2).trans c2) (And.intro ((E 3).trans c3) B4)))));clear F4 es B4 E HF1 c0 c2 c3;go_wp2
    go_roundw
    case rel =>
     obtain⟨F4,q0,q1,q2,q3,B4⟩:=H4.out;exact⟨k+1,by omega,by go_num,F4,q0,q1,q2,q3,B4⟩
    case measure=>simp[intOf];omega
   ·obtain rfl:k=n:=by omega
    obtain⟨em,es⟩:=zoH ts (k:=k) n0;rw[HL.out]at em;rw[HS.out]at es;have hT:=za (show TabM wr (.pointer (some ⟨g,0,none⟩)) k (zbx ts k) from⟨g,h,k,rfl,c0,by rw[zer];exact c1,by rw[em];exact c2,by rw[es];exact c3,HF1.out.heads⟩);clear em es HF1 c0 c1 c2 c3 hkl hkn;go_wp2;go_ret;exact⟨_,rfl,hT.out,HB.out⟩
theorem zqq (xs:List Int) (ad:Option Addr) (cap:Nat) (n:Int) (h:zcT n=false) (w:World) :
  Calls Tryz.prog 104 #[.slice ad xs.length cap,.int .i64 n] w λe w'=>e=.returned (.tuple #[.pointer none,.int .i64 6])/\w=w':=by
 have S1:=zjn n (by
  have q:=λg=>Bool.false_ne_true (h.symm.trans ((zco n).2 g))
  by_cases q1:n<1
  ·exact Or.inl q1
  ·refine Or.inr ?_
   by_cases q2:65536<n
   ·exact q2
   ·exact absurd ⟨by omega,by omega⟩ q)
 clear h;generalize xs.length=l at *
 go_enter Tryz.func104,Tryz.ntmps104
 go_wp2_with (go_at_call 140;(with_reducible refine(S1 _).mono ?_);rintro e w1 ⟨rfl,rfl⟩)
 exact bodyPost_ret (v:=.tuple #[.pointer none,.int .i64 6]) (by simp[results,Tryz.results104,go_sem]) rfl ⟨rfl,rfl⟩
theorem zmX (l:Nat) (ad:Option Addr) (cap:Nat) (n:Int) (n0:1<=n) (n1:n<=65536) (h2:l % 2=0) (hl:l<=9223372036854775807) (w:World) :
  Calls Tryz.prog 104 #[.slice ad l cap,.int .i64 n] w λe w'=>e=.returned (.tuple #[.pointer none,.int .i64 7])/\w=w':=by
 have S1:=zei n n0 n1;have h3:(l:Int) % 2=0:=by omega
 go_enter Tryz.func104,Tryz.ntmps104
 go_wp2_with (go_at_call 140;(with_reducible refine(S1 _).mono ?_);rintro e w1 ⟨rfl,rfl⟩)
 exact bodyPost_ret (v:=.tuple #[.pointer none,.int .i64 7]) (by simp[results,Tryz.results104,go_sem]) rfl ⟨rfl,rfl⟩
theorem zov (xs:List Int) (l:Nat) (hn:xs.length=l) (ad:Option Addr) (cap:Nat) (n:Int) (n0:1<=n) (n1:n<=65536) (h2:l % 2=1) (hl:l<=9223372036854775807) (cd:Int) (hc:zX xs=cd) (hz:cd≠0) (w:World) (hr:RowAt .i64 w ad xs) (hx:zad xs) :
  Calls Tryz.prog 104 #[.slice ad l cap,.int .i64 n] w λe w'=>e=.returned (.tuple #[.pointer none,.int .i64 cd])/\Below w.heap.size w w':=by
 have S1:=zei n n0 n1;have CA:=zhp l xs hn ad cap w hr hx hl;rw[hc]at CA;have h3:(l:Int) % 2=1:=by omega
 have hzb:(cd != 0)=true:=by simpa using hz
 clear hr hx hc hn
 go_enter Tryz.func104,Tryz.ntmps104
 go_wp2_with (first
  |(go_at_call 140;(with_reducible refine(S1 _).mono ?_);rintro e w1 ⟨rfl,rfl⟩)
  |(go_at_call 142;(with_reducible refine CA.mono ?_);rintro e w2 ⟨v,rfl,_,b2⟩))
 exact bodyPost_ret (v:=.tuple #[.pointer none,.int .i64 cd]) (by simp[results,Tryz.results104,go_sem]) rfl ⟨rfl,b2⟩
theorem zsB (xs:List Int) (l:Nat) (hn:xs.length=l) (ad:Option Addr) (cap:Nat) (n:Nat) (n0:1<=n) (n1:n<=65536) (h2:l % 2=1) (hc:zX xs=0) (w:World) (hr:RowAt .i64 w ad xs) (hx:zad xs) :
  Calls Tryz.prog 104 #[.slice ad l cap,.int .i64 (n:Int)] w λe w'=>∃ v,e=.returned (.tuple #[v,.int .i64 0])/\Tab w' v n (zQ xs n)/\Below w.heap.size w w':=by
 have hf:=zap.1 hc;have l1:l<=1048576:=by
  obtain⟨_,h1,_⟩:=hf;omega
 have l0:1<=l:=by omega
 have S1:=zei n (by omega) (by omega);have CA:=zhp l xs hn ad cap w hr hx (by omega);rw[hc]at CA;have CR:=λb cap w hr=>zrp (zG xs) l (by rw[zaU];exact hn) l0 l1 (zis hf) n n0 n1 b cap w hr
 rw[←zqf]at CR;have CT:∀ (w':World) (v:Value),TabM w' v n (zQ xs n)->Tab w' v n (zQ xs n):=λw' v h=>h.tab (zxT hf n1) (zr7 xs n) (by rw[zar];exact n0) (by rw[zar];exact n1) (by omega) (by omega)
 have HT:=za CT;have h3:(l:Int) % 2=1:=by omega
 have HA:=za (show(zG xs).length=l by rw[zaU];exact hn);clear CT hr hx hc hn hf;generalize zQ xs n=L at *
 go_enter Tryz.func104,Tryz.ntmps104
 go_wp2_with (first
  |(go_at_call 140;(with_reducible refine(S1 _).mono ?_);rintro e w1 ⟨rfl,rfl⟩)
  |(go_at_call 142;(with_reducible refine CA.mono ?_);rintro e w2 ⟨v,rfl,ho,b2⟩;obtain⟨b,cap2,rfl,_,hrt⟩:=znF (ho (by trivial)) HA.out l0;clear ho)
  |(go_at_call 147;(with_reducible refine(CR _ _ _ hrt).mono ?_);rintro e w3 ⟨v,rfl,hm,b3⟩))
 exact bodyPost_ret (v:=.tuple #[v,.int .i64 0]) (by simp[results,Tryz.results104,go_sem]) rfl ⟨_,rfl,HT.out _ _ hm,bt b2 b3⟩
theorem zmQ:zw6 zaT Tab:=by
 intro xs ad cap n w _ hr hx hl n0 n1
 cases hB:zcT n with
 |false =>
  have e:zA xs n=6:=by unfold zA;rw[hB];rfl
  rw[e];refine(zqq xs ad cap n hB w).mono ?_;rintro e w1 ⟨rfl,rfl⟩;exact⟨_,rfl,(λg=>absurd g (by decide)),(λ_=>rfl),Below.refl _ _⟩
 |true =>
  obtain⟨a0,a1⟩:=(zco n).1 hB
  by_cases h2:xs.length % 2=0
  ·have e:zA xs n=7:=by unfold zA;rw[hB,if_pos rfl,if_pos h2]
   rw[e];refine(zmX xs.length ad cap n a0 a1 h2 hl w).mono ?_;rintro e w1 ⟨rfl,rfl⟩;exact⟨_,rfl,(λg=>absurd g (by decide)),(λ_=>rfl),Below.refl _ _⟩
  ·have e:zA xs n=zX xs:=by unfold zA;rw[hB,if_pos rfl,if_neg h2]
   rw[e]
   by_cases hz:zX xs=0
   ·obtain⟨k,rfl⟩:∃ k:Nat,n=(k:Int):=⟨n.toNat,by omega⟩;rw[hz,Int.toNat_natCast];refine(zsB xs xs.length rfl ad cap k (by omega) (by omega) (by omega) hz w hr hx).mono ?_;rintro e w1 ⟨v,rfl,hT,b⟩;exact⟨v,rfl,(λ_=>hT),(λg=>absurd rfl g),b⟩
   ·have HZ:=za hz;refine(zov xs xs.length rfl ad cap n a0 a1 (by omega) hl (zX xs) rfl hz w hr hx).mono ?_;rintro e w1 ⟨rfl,b⟩;exact⟨_,rfl,(λg=>absurd g HZ.out),(λ_=>rfl),b⟩
end Go.Proofs.YtlodkoimdoeopaaGreatDoor
