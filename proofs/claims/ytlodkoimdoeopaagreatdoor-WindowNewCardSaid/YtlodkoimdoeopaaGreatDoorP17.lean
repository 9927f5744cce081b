/- Parts, joined. -/
import Derived.Test.YtlodkoimdoeopaaGreatDoorP13
import Derived.Test.YtlodkoimdoeopaaGreatDoorP02
import Derived.Test.YtlodkoimdoeopaaGreatDoorP09
import Derived.Test.YtlodkoimdoeopaaGreatDoorP16
import Derived.Test.YtlodkoimdoeopaaGreatDoorP04
import Derived.Test.YtlodkoimdoeopaaGreatDoorProg
import Derived.Lib.LazyBuf
import Derived.BigQuiet
import Derived.Shelf.SlSortCmp.Insertion
import Derived.Sort.Statements
import Derived.Shelf.SlSortCmp.Kit1
import Derived.Deep.RegionHeld3
import Derived.Shelf.SlLaysF
namespace Go.Proofs.YtlodkoimdoeopaaGreatDoor
open Go.RowKit
theorem zpm:(Tryz.prog.info? 103).map (λi=>(i.zero,i.size,i.bytes))=some (some (.agg #[.int .i64 0,.slice none 0 0]),2,32):=by kernel_rfl
def LinesHead (w:World) (h:Nat) (L:List (Int×List Int)):Prop :=
 ∀ j,j<L.length->w.cell? ⟨h,j*2,none⟩=some (.int .i64 (ze L j).1)/\∃ b cap,w.cell? ⟨h,j*2+1,none⟩=some (.slice (some ⟨b,0,none⟩) (ze L j).2.length cap)/\RowAt .i64 w (some ⟨b,0,none⟩) (ze L j).2
theorem LinesHead.lines {w:World} {h:Nat} {L:List (Int×List Int)} (H:LinesHead w h L):LinesAt w h L:=by
 intro j hj;obtain⟨c1,b,cap,c2,hr⟩:=H j hj;exact⟨c1,_,c2,_,cap,rfl,hr⟩
theorem LinesHead.below {w w':World} {h:Nat} {L:List (Int×List Int)} (H:LinesHead w h L) (hb:Below w.heap.size w w'):LinesHead w' h L:=by
 intro j hj;obtain⟨c1,b,cap,c2,hr⟩:=H j hj;exact⟨cb hb (zf c1) c1,b,cap,cb hb (zf c2) c2,hr.below hb⟩
def Tab (w:World) (v:Value) (n:Int) (L:List (Int×List Int)):Prop :=
 ∃ g h cap,v=.pointer (some ⟨g,0,none⟩)/\w.cell? ⟨g,0,none⟩=some (.int .i64 n)/\w.cell? ⟨g,1,none⟩=some (.slice (some ⟨h,0,none⟩) L.length cap)/\w.cell? ⟨g,2,none⟩=some (.int .i64 (zaB L))/\w.cell? ⟨g,3,none⟩=some (.int .i64 (zdT L)) /\
  LinesHead w h L/\zcj L/\zfE L/\1<=L.length/\L.length<=65536/\1<=n/\n<=65536
def TabM (w:World) (v:Value) (n:Int) (L:List (Int×List Int)):Prop :=
 ∃ g h cap,v=.pointer (some ⟨g,0,none⟩)/\w.cell? ⟨g,0,none⟩=some (.int .i64 n)/\w.cell? ⟨g,1,none⟩=some (.slice (some ⟨h,0,none⟩) L.length cap)/\w.cell? ⟨g,2,none⟩=some (.int .i64 (zaB L))/\w.cell? ⟨g,3,none⟩=some (.int .i64 (zdT L))/\LinesHead w h L
theorem TabM.tab {w:World} {v:Value} {n:Int} {L:List (Int×List Int)} (h:TabM w v n L) (hok:zcj L) (hm:zfE L) (l0:1<=L.length) (l1:L.length<=65536) (n0:1<=n) (n1:n<=65536):Tab w v n L:=by
 obtain⟨g,h,cap,e,c0,c1,c2,c3,hl⟩:=h;exact⟨g,h,cap,e,c0,c1,c2,c3,hl,hok,hm,l0,l1,n0,n1⟩
theorem Tab.below {w w':World} {v:Value} {n:Int} {L:List (Int×List Int)} (h:Tab w v n L) (hb:Below w.heap.size w w'):Tab w' v n L:=by
 obtain⟨g,h,cap,rfl,c0,c1,c2,c3,hl,r⟩:=h;have gl:=zf c0;exact⟨g,h,cap,rfl,cb hb gl c0,cb hb gl c1,cb hb gl c2,cb hb gl c3,hl.below hb,r⟩
theorem Tab.kept {w w':World} {v:Value} {n:Int} {L:List (Int×List Int)} {r:Option Nat} (h:Tab w v n L) (hg:w.grownBy w' r) (hp:∀ b x,r=some b->w.cell? ⟨b,0,none⟩≠some (.int .i64 x)):Tab w' v n L:=by
 obtain⟨g,h,cap,rfl,c0,c1,c2,c3,hl,hok,hm,l0,l1,n0,n1⟩:=h;have ng:some g≠r:=λe=>hp g _ e.symm c0
 refine⟨g,h,cap,rfl,cg hg ng c0,cg hg ng c1,cg hg ng c2,cg hg ng c3,λj hj=>?_,hok,hm,l0,l1,n0,n1⟩;have nh:some h≠r:=by
  have:=(hl 0 l0).1;rw[Nat.zero_mul]at this;exact λe=>hp h _ e.symm this
 obtain⟨d1,b,cp,d2,hr⟩:=hl j hj;have nb:some b≠r:=by
  have:=hr.at (hok j hj).2.2.1;rw[Nat.zero_add]at this;exact λe=>hp b _ e.symm this
 exact⟨cg hg nh d1,b,cp,cg hg nh d2,hr.grown hg nb⟩
theorem Tab.ptr {w:World} {v:Value} {n:Int} {L:List (Int×List Int)} (h:Tab w v n L):∃ a,v=.pointer (some a):=by
 obtain⟨g,h,cap,rfl,_⟩:=h;exact⟨_,rfl⟩
theorem Tab.ok {w:World} {v:Value} {n:Int} {L:List (Int×List Int)} (h:Tab w v n L):zcj L/\1<=L.length/\L.length<=65536/\1<=n/\n<=65536:=by
 obtain⟨g,h,cap,_,_,_,_,_,_,a,_,b⟩:=h;exact⟨a,b⟩
theorem zfS {w:World} {v:Value} {n:Int} {L:List (Int×List Int)} (h:Tab w v n L):Calls Tryz.prog 106 #[v] w λe w'=>e=.returned (.int .i64 n)/\Below w.heap.size w w':=by
 obtain⟨g,h,cap,rfl,c0,c1,c2,c3,hl,hok,hm,l0,l1,n0,n1⟩:=h;clear hl hok hm c1 c2 c3
 go_enter Tryz.func106,Tryz.ntmps106
 go_wp2;go_ret;exact⟨rfl,Below.refl _ _⟩
theorem zeC {w:World} {v:Value} {n:Int} {L:List (Int×List Int)} (h:Tab w v n L):Calls Tryz.prog 32 #[v] w λe w'=>e=.returned (.int .i64 (L.length:Int))/\Below w.heap.size w w':=by
 obtain⟨g,h,cap,rfl,c0,c1,c2,c3,hl,hok,hm,l0,l1,n0,n1⟩:=h;clear hl hok hm c0 c2 c3;generalize L.length=m at *
 go_enter Tryz.func32,Tryz.ntmps32
 go_wp2;go_ret;exact⟨rfl,Below.refl _ _⟩
theorem zu2 {w:World} {v:Value} {n:Int} {L:List (Int×List Int)} (h:Tab w v n L):Calls Tryz.prog 16 #[v] w λe w'=>e=.returned (.int .i64 (zaB L))/\Below w.heap.size w w':=by
 obtain⟨g,h,cap,rfl,c0,c1,c2,c3,hl,hok,hm,l0,l1,n0,n1⟩:=h;clear hl hok hm c0 c1 c3;generalize zaB L=m at *
 go_enter Tryz.func16,Tryz.ntmps16
 go_wp2;go_ret;exact⟨rfl,Below.refl _ _⟩
theorem zcv {w:World} {v:Value} {n:Int} {L:List (Int×List Int)} (h:Tab w v n L):Calls Tryz.prog 32 #[v] w λe w'=>e=.returned (.int .i64 (L.length:Int))/\Drew w w':=by
 obtain⟨g,h,cap,rfl,c0,c1,c2,c3,hl,hok,hm,l0,l1,n0,n1⟩:=h;clear hl hok hm c0 c2 c3;generalize L.length=m at *
 go_enter Tryz.func32,Tryz.ntmps32
 go_wp2;go_ret;exact⟨rfl,Drew.refl _⟩
theorem zhB {w:World} {v:Value} {n:Int} {L:List (Int×List Int)} (h:Tab w v n L):Calls Tryz.prog 16 #[v] w λe w'=>e=.returned (.int .i64 (zaB L))/\Drew w w':=by
 obtain⟨g,h,cap,rfl,c0,c1,c2,c3,hl,hok,hm,l0,l1,n0,n1⟩:=h;clear hl hok hm c0 c1 c3;generalize zaB L=m at *
 go_enter Tryz.func16,Tryz.ntmps16
 go_wp2;go_ret;exact⟨rfl,Drew.refl _⟩
theorem zrY (xs:List Int) (n:Nat) (hn:xs.length=n) (b off cap:Nat) (h1:n<=1048576) (w:World) (hr:RowAt .i64 w (some ⟨b,off,none⟩) xs) :
  Calls Tryz.prog 86 #[.slice (some ⟨b,off,none⟩) n cap] w λe w'=>∃ v,e=.returned v/\OwnI .i64 2 w' w.heap.size v xs/\Below w.heap.size w w':=by
 have HR:=za hr;have HN:=za hn;obtain⟨i0,hi,hz0,hz1,hz2⟩:=info_parts zdW;have q:∀ w:World,(binOp .eql 28 (.slice (some ⟨b,off,none⟩) n cap) (.slice none 0 0)).run Tryz.prog w=.ok (.bool false) w:=λw=>Lib.run_eql_slice_nil w _ _ _ n cap 0 0 Tryz.underlying28
 clear hr hn
 go_enter Tryz.func86,Tryz.ntmps86
 go_wp2_with (at_builtin;refine zdK .i64 _ rfl _ _ 28 rfl w.heap.size 2 i0 (.int .i64 0) 8 Tryz.underlying28 hi hz0 hz1 hz2 rfl (.slice (some ⟨w.heap.size,0,none⟩) 0 0) [] rfl (zjj _ _ _ _ (Nat.le_refl _)) (some ⟨b,off,none⟩) n cap xs rfl HN.out (HR.out.below (zg _ _)) (λe=>by cases e) (by simp;unfold maxLen;omega) (by simp;omega) (by simp) ?_;intro v1 w2 own2 grow2 _;have bw2:=zhN (Below.refl _ _) grow2;rw[List.nil_append]at own2)
 go_ret;exact⟨v1,rfl,own2,bw2⟩
theorem zc {w:World} {a b o j:Nat} {u:Value} (h:a≠b\/o≠j):(w.setCell ⟨a,o,none⟩ u).cell? ⟨b,j,none⟩=w.cell? ⟨b,j,none⟩ :=
 World.cell?_setCell_other _ _ _ _ (by intro e;simp only[Addr.mk.injEq,and_true]at e;omega)
theorem zkI {k:IntKind} {T:TypeId} {w:World} {base:Nat} {v:Value} {xs:List Int} (h:OwnI k T w base v xs) {b:Nat} (o:Nat) (u:Value) (hb:b<base):OwnI k T (w.setCell ⟨b,o,none⟩ u) base v xs:=by
 refine⟨h.1,?_⟩;rcases h.2 with h2|⟨g',cap',cur,hv,hB,hg,r⟩
 ·exact .inl h2
 ·refine .inr ⟨g',cap',cur,hv,hB,?_,r⟩;rw[heap_setCell_other w ⟨b,o,none⟩ g' u (by show g'≠b;omega)];exact hg
set_option maxRecDepth 100000 in
theorem zeX {w:World} {v:Value} {n:Int} {L:List (Int×List Int)} (h:Tab w v n L) (j:Nat) (hj:j<L.length) :
  Calls Tryz.prog 46 #[v,.int .i64 (j:Int)] w λe w'=>∃ u,e=.returned (.agg #[.int .i64 (ze L j).1,u])/\OwnI .i64 2 w' w.heap.size u (ze L j).2/\Below w.heap.size w w':=by
 obtain⟨g,h,cap,rfl,c0,c1,c2,c3,hl,hok,hm,l0,l1,n0,n1⟩:=h
 replace hl:=hl.lines
 obtain⟨d1,u,d2,ad,cp,rfl,hr⟩:=hl j hj;obtain⟨f0,f1,t0,t1,hx⟩:=hok j hj;obtain⟨f,ts,he⟩:∃ f ts,ze L j=(f,ts):=⟨_,_,rfl⟩;rw[he]at d1 d2 hr f0 f1 t0 t1 hx ⊢;obtain⟨m,hmm⟩:∃ m,ts.length=m:=⟨_,rfl⟩
 replace d1:w.cell? ⟨h,j*2,none⟩=some (.int .i64 f):=d1
 replace d2:w.cell? ⟨h,j*2+1,none⟩=some (.slice ad ts.length cp):=d2
 replace t0:1<=ts.length:=t0
 replace t1:ts.length<=1048576:=t1
 obtain⟨b,off,rfl,_⟩:=hr.get (show 0<ts.length by omega);have CC:=λw' hr=>zrY ts m hmm b off cp (by omega) w' hr
 rw[hmm]at d2 t0 t1;obtain⟨M,hM⟩:∃ M,L.length=M:=⟨_,rfl⟩;rw[hM]at c1 hj l1;have HR:=za hr;have HMM:=za hmm;have gl:=zf c1;have hlt:=zf d1;clear hl hok hm he hmm hr hx c0 c2 c3 l0 hM n0 n1 f0 f1
 go_enter Tryz.func46,Tryz.ntmps46
 go_upto_region 4 with fail
 go_region_with (go_at_call 86;(with_reducible refine(CC _ (HR.out.below (by repeat (first|exact Below.refl _ _|(with_reducible refine bt ?_ (by assumption))|with_reducible refine bd ?_|with_reducible refine ba ?_ _)))).mono ?_);rintro e w4 ⟨v,rfl,own,b4⟩;obtain⟨ad2,cap2,rfl,_,_⟩:=own.formn HMM.out;have q0:=cb b4 (b:=w.heap.size) (o:=0) (v:=.int .i64 0) (by simp;omega) (by simp);have q1:=cb b4 (b:=w.heap.size) (o:=1) (v:=.slice none 0 0) (by simp;omega) (by simp);have q2:=fb b4 (b:=w.heap.size) (o:=0) (by simp;omega) (by simp);have q3:=fb b4 (b:=w.heap.size) (o:=1) (by simp;omega) (by simp);have q4:=cb b4 (b:=w.heap.size+1) (o:=0) (v:=.int .i64 f) (by simp) (by simp);have q5:=cb b4 (b:=w.heap.size+1) (o:=1) (v:=.slice (some ⟨b,off,none⟩) m cp) (by simp) (by simp))
 all_goals go_wp2
 all_goals
  have r0:((w4.setCell ⟨w.heap.size,0,none⟩ (.int .i64 f)).setCell ⟨w.heap.size,1,none⟩ (.slice ad2 m cap2)).cell? ⟨w.heap.size,0,none⟩=some (.int .i64 f):=(zc (Or.inr (by omega))).trans (World.cell?_setCell_same' _ _ _ (by rw[q0];rfl));have r1:((w4.setCell ⟨w.heap.size,0,none⟩ (.int .i64 f)).setCell ⟨w.heap.size,1,none⟩ (.slice ad2 m cap2)).cell? ⟨w.heap.size,1,none⟩=some (.slice ad2 m cap2):=World.cell?_setCell_same' _ _ _ (by rw[zc (Or.inr (by omega)),q1];rfl);have own2:=zkI (zkI own 0 (.int .i64 f) (b:=w.heap.size) (by simp;omega)) 1 (.slice ad2 m cap2) (b:=w.heap.size) (by simp;omega);have own3:=own2.mono (base':=w.heap.size) (by simp;omega);have B5:=bs (bs (bt (bd (ba (ba (Below.refl _ w) (.cells #[.int .i64 0,.slice none 0 0] 103)) (.cells #[.int .i64 f,.slice (some ⟨b,off,none⟩) m cp] 103))) b4) (b:=w.heap.size) (o:=0) (Nat.le_refl _) (.int .i64 f)) (b:=w.heap.size) (o:=1) (Nat.le_refl _) (.slice ad2 m cap2);have E5:=za (And.intro own3 B5);clear own2 own3 B5 own b4;exact bodyPost_ret (v:=.agg #[.int .i64 f,.slice ad2 m cap2]) (by simp[results,Tryz.results46,go_sem,r0,r1]) rfl ⟨.slice ad2 m cap2,rfl,E5.out.1,E5.out.2⟩
set_option maxRecDepth 100000 in
theorem zqd {w:World} {v:Value} {n:Int} {L:List (Int×List Int)} (h:Tab w v n L) (i:Int) (i0 : -9223372036854775808<=i) (i1:i<=9223372036854775807) (hi:i<0\/(L.length:Int)<=i) :
  Calls Tryz.prog 46 #[v,.int .i64 i] w λe w'=>∃ ad cap,e=.returned (.agg #[.int .i64 0,.slice ad 0 cap])/\Below w.heap.size w w':=by
 obtain⟨g,h,cap,rfl,c0,c1,c2,c3,hl,hok,hm,l0,l1,n0,n1⟩:=h;have gl:=zf c1;clear hl hok hm c0 c2 c3 n0 n1;generalize L.length=M at *
 by_cases h0:i<0
 ·clear hi
  go_enter Tryz.func46,Tryz.ntmps46
  go_wp2;exact bodyPost_ret (v:=.agg #[.int .i64 0,.slice none 0 0]) (by simp[results,Tryz.results46,go_sem]) rfl (by first|exact⟨⟨none,0,rfl⟩,ba (Below.refl _ _) _⟩|exact⟨none,0,rfl,ba (Below.refl _ _) _⟩)
 ·have hi:(M:Int)<=i:=by omega
  go_enter Tryz.func46,Tryz.ntmps46
  go_wp2;exact bodyPost_ret (v:=.agg #[.int .i64 0,.slice none 0 0]) (by simp[results,Tryz.results46,go_sem]) rfl (by first|exact⟨⟨none,0,rfl⟩,ba (Below.refl _ _) _⟩|exact⟨none,0,rfl,ba (Below.refl _ _) _⟩)
theorem znw {w:World} {v:Value} {n:Int} {L:List (Int×List Int)} (h:Tab w v n L) (i k:Int) (hno:min k (L.length:Int)<=max i 0) :
  Calls Tryz.prog 42 #[v,.int .i64 i,.int .i64 k] w λe w'=>e=.returned (.tuple #[.int .i64 0,.int .i64 0])/\Below w.heap.size w w':=by
 obtain⟨g,h,cap,rfl,c0,c1,c2,c3,hl,hok,hm,l0,l1,n0,n1⟩:=h;have gl:=zf c1;clear hl hok hm c0 c2 c3 n0 n1;generalize L.length=M at *
 go_enter Tryz.func42,Tryz.ntmps42
 go_upto_region 1 with fail
 go_region
 all_goals go_wp2
 all_goals exact bodyPost_ret (v:=.tuple #[.int .i64 0,.int .i64 0]) (by simp[results,Tryz.results42,go_sem]) rfl ⟨rfl,bd (Below.refl _ _)⟩
set_option maxRecDepth 100000 in
theorem zdV {w:World} {v:Value} {n:Int} {L:List (Int×List Int)} (h:Tab w v n L) (i k:Int) {p q:Nat} (hp:(p:Int)=max i 0) (hq:(q:Int)+1=min k (L.length:Int)) (hpq:p<=q) :
  Calls Tryz.prog 42 #[v,.int .i64 i,.int .i64 k] w λe w'=>e=.returned (.tuple #[.int .i64 (ze L p).1,.int .i64 ((ze L q).1+((ze L q).2.length:Int)-(ze L p).1)])/\Below w.heap.size w w':=by
 obtain⟨g,h,cap,rfl,c0,c1,c2,c3,hl,hok,hm,l0,l1,n0,n1⟩:=h;have gl:=zf c1;have hqM:q<L.length:=by omega
 replace hl:=hl.lines
 obtain⟨d1,-⟩:=hl p (by omega);obtain⟨e1,u,e2,ad,cp,rfl,-⟩:=hl q hqM;obtain⟨f0,f1,-,-,-⟩:=hok p (by omega);obtain⟨f2,f3,t0,t1,-⟩:=hok q hqM;obtain⟨len,hlen⟩:∃ len,(ze L q).2.length=len:=⟨_,rfl⟩;rw[hlen]at e2 t0 t1 ⊢;have hlt:=zf d1;clear hl hok hm c0 c2 c3 n0 n1 hlen;generalize (ze L p).1=f at *;generalize (ze L q).1=f' at *;generalize L.length=M at *
 go_enter Tryz.func42,Tryz.ntmps42
 go_upto_region 1 with fail
 go_cut [1,2,10,17] (λa b c d wx=>a=.int .i64 (p:Int)/\b=.int .i64 ((q:Int)+1)/\c=.int .i64 (p:Int)/\d=.int .i64 ((q:Int)+1)/\wx=w.drew)
 case first =>
  go_region
  all_goals (go_wp2_with fail;go_meet)
  all_goals exact⟨by rw[hp],by rw[hq],by rw[hp],by rw[hq],rfl⟩
 case rest =>
  obtain⟨rfl,rfl,rfl,rfl,rfl⟩:=hcut;clear hp hq
  go_wp2_with fail
  go_quiet (fail)
  go_wp2;exact bodyPost_ret (v:=.tuple #[.int .i64 f,.int .i64 (f'-f+(len:Int))]) (by simp[results,Tryz.results42,go_sem]) rfl ⟨by rw[show f'-f+(len:Int)=f'+(len:Int)-f by omega],(by repeat (first|exact Below.refl _ _|(with_reducible refine bdN ?_ _)|with_reducible refine bd ?_|with_reducible refine ba ?_ _))⟩
theorem zgm {w:World} {v:Value} {n:Int} {L:List (Int×List Int)} (h:Tab w v n L) (i k:Int) (_ : -9223372036854775808<=i) (_:i<=9223372036854775807) (_ : -9223372036854775808<=k) (_:k<=9223372036854775807) :
  Calls Tryz.prog 42 #[v,.int .i64 i,.int .i64 k] w λe w'=>e=.returned (.tuple #[.int .i64 (zau L i k).1,.int .i64 ((zau L i k).2.1-(zau L i k).1)])/\Below w.heap.size w w':=by
 by_cases hno:min k (L.length:Int)<=max i 0
 ·rw[zp7 hno];exact znw h i k hno
 ·obtain⟨p,hp⟩:∃ p:Nat,(p:Int)=max i 0:=⟨(max i 0).toNat,by omega⟩;obtain⟨q,hq⟩:∃ q:Nat,(q:Int)+1=min k (L.length:Int):=⟨(min k (L.length:Int)-1).toNat,by omega⟩;have hM:zfE L:=by
   obtain⟨_,_,_,_,_,_,_,_,_,_,hm,_⟩:=h;exact hm
  rw[zq0 hM hp hq (by omega)];exact zdV h i k hp hq (by omega)
def orI (a b:Int):Int:=if a=0 then b else a
def cfR (r:List Int) (n:Nat) (x y:Fin n):Int:=orI (Lib.compareInt (r.getD y.val 0) (r.getD x.val 0)) (Lib.compareInt (x.val:Int) (y.val:Int))
theorem ztK (x y:Int):(Lib.compareInt x y<0↔x<y)/\(Lib.compareInt x y=0↔x=y):=by
 unfold Lib.compareInt
 by_cases h:x<y
 ·rw[if_pos h];omega
 ·rw[if_neg h]
  by_cases g:x > y
  ·rw[if_pos g];omega
  ·rw[if_neg g];omega
theorem zka (r:List Int) (n:Nat) (x y:Fin n):ltOf (cfR r n) x y=decide (r.getD y.val 0<r.getD x.val 0\/(r.getD y.val 0=r.getD x.val 0/\x.val<y.val)):=by
 unfold ltOf cfR orI;obtain⟨a,b⟩:=ztK (r.getD y.val 0) (r.getD x.val 0);obtain⟨c,d⟩:=ztK (x.val:Int) (y.val:Int);rw[decide_eq_decide]
 by_cases h:Lib.compareInt (r.getD y.val 0) (r.getD x.val 0)=0
 ·rw[if_pos h];omega
 ·rw[if_neg h];omega
theorem zwZ (r:List Int) (n:Nat):Sort.SWO (ltOf (cfR r n)) where
 irrefl x:=by rw[zka];simp
 trans x y z h1 h2:=by rw[zka]at *;simp only[decide_eq_true_eq]at *;omega
 ntrans x y z h1 h2:=by rw[zka]at *;simp only[decide_eq_false_iff_not]at *;omega
structure Ranked (r:List Int) (p:List Nat):Prop where
 len:p.length=r.length
 lt:∀ k,k<p.length->p.getD k 0<r.length
 all:∀ j,j<r.length->∃ k,k<p.length/\p.getD k 0=j
 one:∀ i k,i<p.length->k<p.length->p.getD i 0=p.getD k 0->i=k
 order:∀ i k,i<k->k<p.length->r.getD (p.getD k 0) 0<r.getD (p.getD i 0) 0\/(r.getD (p.getD k 0) 0=r.getD (p.getD i 0) 0/\p.getD i 0<p.getD k 0)
def zcC (o:List Int) (p:List Nat):Nat->List Int
 |0=>o
 |m+1=>(zcC o p m).set (p.getD m 0) ((zcC o p m).getD (p.getD m 0) 0+1)
theorem zs3 (o:List Int) (p:List Nat) (m:Nat):(zcC o p m).length=o.length:=by
 induction m with
 |zero=>rfl
 |succ m ih=>unfold zcC;rw[List.length_set];exact ih
theorem zjX {o r:List Int} {p:List Nat} (hp:Ranked r p) (hr:∀ j,j<r.length->0<=r.getD j 0) (hl:o.length=r.length) (m:Nat) (hm:m<=r.length) :
  zcC o p m=(zk o r m).1/\(∀ k,k<r.length->(zk o r m).2.getD (p.getD k 0) 0=if k<m then -1 else r.getD (p.getD k 0) 0):=by
 induction m with
 |zero=>exact⟨rfl,λk _=>by rw[if_neg (by omega)];rfl⟩
 |succ m ih =>
  obtain⟨e1,e2⟩:=ih (by omega);obtain⟨l1,l2⟩:=ze4 o r m;obtain⟨pl,plt,pall,pone,pord⟩:=hp;have hb:zF (zk o r m).2 (zk o r m).2.length=p.getD m 0:=by
   have bl:=zid (zk o r m).2 (zk o r m).2.length;have bm:=zhr (zk o r m).2 (zk o r m).2.length;have bf:=zny (zk o r m).2 (zk o r m).2.length;rw[l2]at bl bm bf ⊢;generalize zF (zk o r m).2 r.length=b at *;have vm:=e2 m (by omega);rw[if_neg (by omega)]at vm;have pm:=plt m (by omega);have h0:=hr _ pm;have mx:=bm _ pm;obtain⟨k,k1,k2⟩:=pall b (by omega);have vk:=e2 k (by omega);rw[k2]at vk
   by_cases g:k<m
   ·rw[if_pos g]at vk;omega
   ·rw[if_neg g]at vk
    by_cases gk:k=m
    ·subst gk;exact k2.symm
    ·have:=pord m k (by omega) k1;rw[k2]at this;have:=bf (p.getD m 0);omega
  refine⟨?_,?_⟩
  ·show(zcC o p m).set _ _=((zk o r m).1.set _ _)
   rw[e1,hb]
  ·intro k hk
   show((zk o r m).2.set (zF (zk o r m).2 (zk o r m).2.length) (-1)).getD (p.getD k 0) 0=_
   have pm:=plt m (by omega);rw[hb,zdw _ _ _ _ (by omega)]
   by_cases g:p.getD m 0=p.getD k 0
   ·have:=pone m k (by omega) (by omega) g;rw[if_pos g,if_pos (by omega)]
   ·rw[if_neg g,e2 k hk]
    by_cases g2:k<m
    ·rw[if_pos g2,if_pos (by omega)]
    ·rw[if_neg g2]
     by_cases g3:k<m+1
     ·exfalso;apply g;rw[show k=m by omega]
     ·rw[if_neg g3]
def zbA {n:Nat} (d:Array (Fin n)):List Nat:=d.toList.map Fin.val
theorem zd5 {n:Nat} [Inhabited (Fin n)] (d:Array (Fin n)) {k:Nat} (h:k<d.size):(zbA d).getD k 0=(d[k]!).val:=by
 unfold zbA;rw[List.getD_eq_getElem?_getD,List.getElem?_map,getElem!_pos d k h]
 simp[h]
theorem ztf {r:List Int} {n:Nat} (hn:r.length=n) [Inhabited (Fin n)] (d d':Array (Fin n)) (h0:d.toList=List.finRange n) (hp:Sort.PermIn 0 d.size d d') (hs:Sort.SortedIn (ltOf (cfR r n)) 0 d.size d'):Ranked r (zbA d'):=by
 obtain⟨hz,_,hperm⟩:=hp;have sz:d.size=n:=by rw[←Array.length_toList,h0,List.length_finRange]
 have e0:(d.extract 0 d.size).toList=d.toList:=by simp
 have e1:(d'.extract 0 d.size).toList=d'.toList:=by rw[←hz];simp
 rw[e0,e1,h0]at hperm;have pl:(zbA d').length=n:=by unfold zbA;rw[List.length_map,Array.length_toList];omega
 have nd:(zbA d').Nodup:=by
  unfold zbA;have:d'.toList.Nodup:=hperm.nodup_iff.2 (List.nodup_finRange n);exact List.pairwise_map.2 (List.Pairwise.imp (λ{a b} h e=>h (Fin.ext e)) this)
 refine⟨by omega,?_,?_,?_,?_⟩
 ·intro k hk;rw[zd5 d' (by omega)];have:=(d'[k]!).isLt;omega
 ·intro j hj;have hm:(⟨j,by omega⟩:Fin n) ∈ d'.toList:=hperm.mem_iff.2 (List.mem_finRange _);obtain⟨k,hk,e⟩:=List.getElem_of_mem hm;refine⟨k,by rw[pl];simp at hk;omega,?_⟩;unfold zbA;rw[List.getD_eq_getElem?_getD,List.getElem?_map,List.getElem?_eq_getElem hk,e];rfl
 ·intro i k hi hk h;rw[List.getD_eq_getElem?_getD,List.getD_eq_getElem?_getD,List.getElem?_eq_getElem hi,List.getElem?_eq_getElem hk]at h;exact(List.getElem_inj nd).1 h
 ·intro i k hik hk;have S:=hs i k (Nat.zero_le _) hik (by omega);rw[zka]at S;simp only[decide_eq_false_iff_not]at S;rw[zd5 d' (by omega),zd5 d' (by omega)];have ne:(d'[i]!).val≠(d'[k]!).val:=by
   rw[←zd5 d' (by omega),←zd5 d' (by omega)];intro h;rw[List.getD_eq_getElem?_getD,List.getD_eq_getElem?_getD,List.getElem?_eq_getElem (by omega),List.getElem?_eq_getElem hk]at h;have:=(List.getElem_inj nd).1 h;omega
  omega
theorem zps (x:Int):0<=zaI x/\zaI x<=9223372036854775807:=by
 unfold zaI zE;have:=zbc x;split<;>(try split)<;>omega
theorem zvr {x:Int} (h:x<0):zaI x=zE (-x):=by unfold zaI zi;rw[if_pos h]
theorem zu3 {x:Int} (h:¬x<0) (h1:x<=9223372036854775807):zaI x=x:=by unfold zaI zi;rw[if_neg h,zH (by omega) (by omega)]
theorem zi0 (x:Int) (h0 : -9223372036854775808<=x) (h1:x<=9223372036854775807) (w:World) :
  Calls Tryz.prog 170 #[.int .i64 x] w λe w'=>e=.returned (.int .i64 (zaI x))/\w=w':=by
 by_cases g:x<0
 ·rw[zvr g];have CM:∀ w:World,Calls Tryz.prog 193 #[.int .i64 x,.int .i64 (-1)] w λe w'=>e=.returned (.int .i64 (zE (-x)))/\w=w':=λw=>by
   have:=zqr x (-1) h0 h1 (by omega) (by omega) w;rw[show x * -1 = -x by omega]at this;exact this
  generalize zE (-x)=y at *
  go_enter Tryz.func170,Tryz.ntmps170
  go_wp2_with (go_at_call 193;(with_reducible refine(CM _).mono ?_);rintro e w1 ⟨rfl,rfl⟩)
  go_ret;exact⟨rfl,rfl⟩
 ·rw[zu3 g h1]
  go_enter Tryz.func170,Tryz.ntmps170
  go_wp2;go_ret;exact⟨rfl,rfl⟩
theorem zmL (xs:List Int) (ad:Option Addr) (cap:Nat) (w:World) (hr:RowAt .i64 w ad xs) (hx:zad xs) (hl:xs.length<=9223372036854775807) :
  Calls Tryz.prog 167 #[.slice ad xs.length cap] w λe w'=>e=.returned (.int .i64 (zq xs))/\w=w':=by
 have HR:=za hr;have HX:=za hx;clear hr hx;obtain⟨n,hn⟩:∃ n,xs.length=n:=⟨_,rfl⟩;have HN:=za hn;rw[hn]at hl ⊢;clear hn
 go_enter Tryz.func167,Tryz.ntmps167
 go_wp2
 go_loop [3,8] (λs i=>∃ k:Nat,k<=n/\i=.int .i64 (k:Int)/\s=.int .i64 (zq (xs.take k))) (λ_ i=>n-(intOf i).toNat)
 case atStart=>exact⟨0,by omega,rfl,rfl⟩
 case round =>
  obtain⟨k,hk,rfl,rfl⟩:=hrel
  by_cases hlt:k<n
  ·obtain⟨b,off,rfl,hc⟩:=HR.out.get (show k<xs.length by rw[HN.out];exact hlt);obtain⟨x0,x1⟩:=HX.out k (by rw[HN.out];exact hlt);obtain⟨s0,s1⟩:=zgL (xs.take k);have hs:zq (xs.take (k+1))=zE (zq (xs.take k)+xs.getD k 0):=by rw[zb1 xs (by rw[HN.out];exact hlt),zgp];rfl
   have HS:=za hs;clear hs;have CP:=λw=>zfF (zq (xs.take k)) (xs.getD k 0) s0 s1 x0 x1 w
   generalize xs.getD k 0=x at *;generalize zE (zq (xs.take k)+x)=y at *
   go_wp2_with (go_at_call 82;(with_reducible refine(CP _).mono ?_);rintro e w1 ⟨rfl,rfl⟩)
   go_round
   case rel=>exact⟨k+1,by omega,by go_num,by rw[HS.out]⟩
   case measure=>simp[intOf];omega
  ·obtain rfl:k=n:=by omega
   have e:xs.take k=xs:=List.take_of_length_le (by rw[HN.out];exact Nat.le_refl _);have HE:=za e;clear e;go_wp2;go_ret;exact⟨zm (by rw[HE.out]),rfl⟩
theorem zig (xs:List Int) (ad:Option Addr) (cap:Nat) (w:World) (hr:RowAt .i64 w ad xs) (hx:zad xs) (hl:xs.length<=9223372036854775807) :
  Calls Tryz.prog 143 #[.slice ad xs.length cap] w λe w'=>e=.returned (.int .i64 (zP xs))/\w=w':=by
 have HR:=za hr;have HX:=za hx;clear hr hx;obtain⟨n,hn⟩:∃ n,xs.length=n:=⟨_,rfl⟩;have HN:=za hn;rw[hn]at hl ⊢;clear hn
 go_enter Tryz.func143,Tryz.ntmps143
 go_wp2
 go_loop [3,8] (λs i=>∃ k:Nat,k<=n/\i=.int .i64 (k:Int)/\s=.int .i64 (zP (xs.take k))) (λ_ i=>n-(intOf i).toNat)
 case atStart=>exact⟨0,by omega,rfl,rfl⟩
 case round =>
  obtain⟨k,hk,rfl,rfl⟩:=hrel
  by_cases hlt:k<n
  ·obtain⟨b,off,rfl,hc⟩:=HR.out.get (show k<xs.length by rw[HN.out];exact hlt);obtain⟨x0,x1⟩:=HX.out k (by rw[HN.out];exact hlt);obtain⟨s0,s1⟩:=zdf (xs.take k);have hs:zP (xs.take (k+1))=zE (zP (xs.take k)+zaI (xs.getD k 0)):=by rw[zb1 xs (by rw[HN.out];exact hlt),zeL];rfl
   have HS:=za hs;clear hs;have CW:=λw=>zi0 (xs.getD k 0) x0 x1 w
   obtain⟨a0,a1⟩:=zps (xs.getD k 0);have CP:=λw=>zfF (zP (xs.take k)) (zaI (xs.getD k 0)) (by omega) s1 (by omega) a1 w
   generalize xs.getD k 0=x at *;generalize zaI x=a at *;generalize zE (zP (xs.take k)+a)=y at *
   go_wp2_with (first
    |(go_at_call 82;(with_reducible refine(CP _).mono ?_);rintro e w1 ⟨rfl,rfl⟩)
    |(go_at_call 170;(with_reducible refine(CW _).mono ?_);rintro e w1 ⟨rfl,rfl⟩))
   go_round
   case rel=>exact⟨k+1,by omega,by go_num,by rw[HS.out]⟩
   case measure=>simp[intOf];omega
  ·obtain rfl:k=n:=by omega
   have e:xs.take k=xs:=List.take_of_length_le (by rw[HN.out];exact Nat.le_refl _);have HE:=za e;clear e;go_wp2;go_ret;exact⟨zm (by rw[HE.out]),rfl⟩
theorem zmM {x:Int}:zaa x↔¬1099511627776<zaI x:=by
 unfold zaa zaI zi
 by_cases g:x<0
 ·rw[if_pos g]
  by_cases h : -x<=9223372036854775807
  ·rw[zH (by omega) (by omega)];omega
  ·rw[zbR (by omega)];omega
 ·rw[if_neg g]
  by_cases h:x<=9223372036854775807
  ·rw[zH (by omega) (by omega)];omega
  ·rw[zbR (by omega)];omega
theorem zgB (xs:List Int) (ad:Option Addr) (cap:Nat) (w:World) (hr:RowAt .i64 w ad xs) (hx:zad xs) (hl:xs.length<=9223372036854775807) (v:Bool) (hv:zfR xs=!v) :
  Calls Tryz.prog 166 #[.slice ad xs.length cap] w λe w'=>e=.returned (.bool v)/\w=w':=by
 have B:=zeV xs;rw[hv]at B;have HB1:=za (show(¬(xs.length<1\/1048576<xs.length))->(∀ x ∈ xs,zaa x)->v=true from λh0 h=>by
  cases v with
  |true=>rfl
  |false =>
   rcases B.1 rfl with h1|h1|h1
   ·exact absurd (Or.inl h1) h0
   ·exact absurd (Or.inr h1) h0
   ·exact absurd h h1)
 have HB2:=za (show(xs.length<1\/1048576<xs.length\/¬∀ x ∈ xs,zaa x)->v=false from λh=>by
  have:=B.2 h
  cases v with
  |true=>cases this
  |false=>rfl)
 clear hv B;have HR:=za hr;have HX:=za hx;clear hr hx;obtain⟨n,hn⟩:∃ n,xs.length=n:=⟨_,rfl⟩;have HN:=za hn;rw[hn]at hl ⊢;clear hn
 by_cases g0:n=0
 ·obtain rfl:=HB2.out (Or.inl (by rw[HN.out];omega));subst g0;clear HN HB1 HB2
  go_enter Tryz.func166,Tryz.ntmps166
  go_wp2;go_ret;exact⟨rfl,rfl⟩
 by_cases g1:1048576<n
 ·obtain rfl:=HB2.out (Or.inr (Or.inl (by rw[HN.out];omega)));have b0:((n:Int) == 0)=false:=beq_eq_false_iff_ne.2 (by omega);have b1:decide ((1048576:Int)<(n:Int))=true:=decide_eq_true (by omega);clear HB1 HB2
  go_enter Tryz.func166,Tryz.ntmps166
  go_wp2;go_ret;exact⟨rfl,rfl⟩
 have HV1:=za (HB1.out (by rw[HN.out];omega));have b0:((n:Int) == 0)=false:=beq_eq_false_iff_ne.2 (by omega);have b1:decide ((1048576:Int)<(n:Int))=false:=decide_eq_false (by omega);clear g0 HB1
 go_enter Tryz.func166,Tryz.ntmps166
 go_wp2;clear b0 b1
 go_loop [15] (λi=>∃ k:Nat,k<=n/\i=.int .i64 (k:Int)/\Hid (∀ j,j<k->zaa (xs.getD j 0))) (λi=>n-(intOf i).toNat)
 case atStart=>exact⟨0,by omega,rfl,za (λj hj=>absurd hj (Nat.not_lt_zero _))⟩
 case round =>
  obtain⟨k,hk,rfl,HJ⟩:=hrel
  by_cases hlt:k<n
  ·obtain⟨b,off,rfl,hc⟩:=HR.out.get (show k<xs.length by rw[HN.out];exact hlt);obtain⟨x0,x1⟩:=HX.out k (by rw[HN.out];exact hlt);have CW:=λw=>zi0 (xs.getD k 0) x0 x1 w
   obtain⟨a0,a1⟩:=zps (xs.getD k 0)
   by_cases g:1099511627776<zaI (xs.getD k 0)
   ·obtain rfl:=HB2.out (Or.inr (Or.inr (λh=>by
     have:=zbn h (show k<xs.length by rw[HN.out];exact hlt);exact zmM.1 this g)))
    generalize xs.getD k 0=x at hc CW x0 x1 a0 a1 g;generalize zaI x=a at *
    go_wp2_with (go_at_call 170;(with_reducible refine(CW _).mono ?_);rintro e w1 ⟨rfl,rfl⟩)
    go_ret;exact⟨rfl,rfl⟩
   ·have HS:=za (zmM.2 g);have HK:=za (show ∀ j,j<k+1->zaa (xs.getD j 0) from λj hj=>by
     by_cases e:j=k
     ·subst e;exact HS.out
     ·exact HJ.out j (by omega))
    clear HS;generalize xs.getD k 0=x at hc CW x0 x1 a0 a1 g;generalize zaI x=a at *
    go_wp2_with (go_at_call 170;(with_reducible refine(CW _).mono ?_);rintro e w1 ⟨rfl,rfl⟩)
    go_round
    case rel=>exact⟨k+1,by omega,by go_num,HK⟩
    case measure=>simp[intOf];omega
  ·obtain rfl:k=n:=by omega
   obtain rfl:=HV1.out (zji (λj hj=>HJ.out j (by rw[HN.out]at hj;exact hj)));go_wp2;go_ret;exact⟨rfl,rfl⟩
theorem zrv (x:Int) (w:World):Calls Tryz.prog 222 #[.int .i64 x] w λe w'=>e=.returned (.bool false)/\w=w':=by
 go_enter Tryz.func222,Tryz.ntmps222
 go_wp2;go_ret;exact⟨by simp,rfl⟩
theorem zus (x:Int) (w:World):Calls Tryz.prog 223 #[.int .i64 x] w λe w'=>e=.returned (.bool false)/\w=w':=by
 go_enter Tryz.func223,Tryz.ntmps223
 go_wp2;go_ret;exact⟨by simp,rfl⟩
theorem zyA (x y:Int) (w:World):Calls Tryz.prog 191 #[.int .i64 x,.int .i64 y] w λe w'=>e=.returned (.int .i64 (Lib.compareInt x y))/\w=w':=by
 unfold Lib.compareInt
 by_cases h:x<y
 ·rw[if_pos h]
  go_enter Tryz.func191,Tryz.ntmps191
  go_wp2_with (go_at_call 222;(with_reducible refine(zrv _ _).mono ?_);rintro e w1 ⟨rfl,rfl⟩)
  go_ret;exact⟨rfl,rfl⟩
 ·rw[if_neg h]
  by_cases g:x > y
  ·rw[if_pos g]
   go_enter Tryz.func191,Tryz.ntmps191
   go_wp2_with (go_at_call 222;(with_reducible refine(zrv _ _).mono ?_);rintro e w1 ⟨rfl,rfl⟩)
   go_ret;exact⟨rfl,rfl⟩
  ·rw[if_neg g]
   go_enter Tryz.func191,Tryz.ntmps191
   go_wp2_with (go_at_call 222;(with_reducible refine(zrv _ _).mono ?_);rintro e w1 ⟨rfl,rfl⟩)
   go_ret;exact⟨rfl,rfl⟩
theorem zyP (x y:Int) (w:World):Calls Tryz.prog 192 #[.int .i64 x,.int .i64 y] w λe w'=>e=.returned (.int .i64 (Lib.compareInt x y))/\w=w':=by
 unfold Lib.compareInt
 by_cases h:x<y
 ·rw[if_pos h]
  go_enter Tryz.func192,Tryz.ntmps192
  go_wp2_with (go_at_call 223;(with_reducible refine(zus _ _).mono ?_);rintro e w1 ⟨rfl,rfl⟩)
  go_ret;exact⟨rfl,rfl⟩
 ·rw[if_neg h]
  by_cases g:x > y
  ·rw[if_pos g]
   go_enter Tryz.func192,Tryz.ntmps192
   go_wp2_with (go_at_call 223;(with_reducible refine(zus _ _).mono ?_);rintro e w1 ⟨rfl,rfl⟩)
   go_ret;exact⟨rfl,rfl⟩
  ·rw[if_neg g]
   go_enter Tryz.func192,Tryz.ntmps192
   go_wp2_with (go_at_call 223;(with_reducible refine(zus _ _).mono ?_);rintro e w1 ⟨rfl,rfl⟩)
   go_ret;exact⟨rfl,rfl⟩
theorem zyf (a b r:Int) (hr:orI a b=r) (k o:Nat) (w:World) (h0:w.cell? ⟨k,o,none⟩=some (.int .i64 a)) (h1:w.cell? ⟨k,o+1,none⟩=some (.int .i64 b)) :
  Calls Tryz.prog 190 #[.slice (some ⟨k,o,none⟩) 2 2] w λe w'=>e=.returned (.int .i64 r)/\w=w':=by
 unfold orI at hr;have HR:=za hr;clear hr
 go_enter Tryz.func190,Tryz.ntmps190
 go_wp2
 go_loop [8] (λi=>∃ j:Nat,j<=2/\i=.int .i64 (j:Int)/\(0<j->a=0)/\(1<j->b=0)) (λi=>2-(intOf i).toNat)
 case atStart=>exact⟨0,by omega,rfl,by omega,by omega⟩
 case round =>
  obtain⟨j,hj,rfl,p0,p1⟩:=hrel
  by_cases j0:j=0
  ·subst j0
   by_cases ha:a=0
   ·subst ha;clear p0 p1;go_wp2
    go_round
    case rel=>exact⟨1,by omega,by go_num,by simp,by simp⟩
    case measure=>simp[intOf]
   ·have e:=HR.out;rw[if_neg ha]at e;subst e;have b0:(a == 0)=false:=beq_eq_false_iff_ne.2 ha;clear p0 p1;go_wp2;go_ret;exact⟨rfl,rfl⟩
  by_cases j1:j=1
  ·subst j1;obtain rfl:=p0 (by omega);clear p0 p1;have e:=HR.out;rw[if_pos rfl]at e;subst e
   by_cases hb:b=0
   ·subst hb;go_wp2
    go_round
    case rel=>exact⟨2,by omega,by go_num,by simp,by simp⟩
    case measure=>simp[intOf]
   ·have b0:(b == 0)=false:=beq_eq_false_iff_ne.2 hb;go_wp2;go_ret;exact⟨rfl,rfl⟩
  ·obtain rfl:j=2:=by omega
   obtain rfl:=p0 (by omega);obtain rfl:=p1 (by omega);have e:=HR.out;rw[if_pos rfl]at e;subst e;clear p0 p1;go_wp2;go_ret;exact⟨rfl,rfl⟩
set_option maxHeartbeats 4000000 in
set_option maxRecDepth 1000000 in
theorem zoP (rs:List Int) (n:Nat) (hn:rs.length=n) (x y:Fin n) (b1:Nat) (ad:Option Addr) (cap:Nat) (W:World) (hc:W.cell? ⟨b1,0,none⟩=some (.slice ad n cap)) (hr:RowAt .i64 W ad rs) :
  Calls Tryz.prog 189 #[.int .i64 (x.val:Int),.int .i64 (y.val:Int),.pointer (some ⟨b1,0,none⟩)] W λe w'=>e=.returned (.int .i64 (cfR rs n x y))/\∃ q os',w'=Sort.grow (W.drewN q) os':=by
 obtain⟨x,hx⟩:=x;obtain⟨y,hy⟩:=y;obtain⟨b,off,rfl,c1⟩:=hr.get (show x<rs.length by omega);have c2:=hr.at (show y<rs.length by omega);unfold cfR
 show Calls _ _ #[.int .i64 (x:Int),.int .i64 (y:Int),_] W _
 simp only;have C1:=λw=>zyA (rs.getD y 0) (rs.getD x 0) w
 have C2:=λw=>zyP (x:Int) (y:Int) w
 generalize rs.getD y 0=ry at *;generalize rs.getD x 0=rx at *;generalize Lib.compareInt ry rx=p at *;generalize Lib.compareInt (x:Int) (y:Int)=q at *;obtain⟨r,hr2⟩:∃ r,orI p q=r:=⟨_,rfl⟩;rw[hr2];have CO:=λk w=>zyf p q r hr2 k 0 w
 have HO:=za hr2;clear hr hn hr2;have z1:=World.new_ne W _ hc;have z2:=World.new_ne W _ c1;have z3:=World.new_ne W _ c2
 go_enter Tryz.func189,Tryz.ntmps189
 go_wp2_with fail
 go_region_held3 (λw'=>w'.cell? ⟨b1,0,none⟩=some (.slice (some ⟨b,off,none⟩) n cap)/\w'.cell? ⟨b,off+x,none⟩=some (.int .i64 rx)/\w'.cell? ⟨b,off+y,none⟩=some (.int .i64 ry)) (go_keep)
  (first
   |(go_at_call 191;(with_reducible refine(C1 _).mono ?_);rintro e w1 ⟨rfl,rfl⟩)
   |(go_at_call 192;(with_reducible refine(C2 _).mono ?_);rintro e w1 ⟨rfl,rfl⟩)
   |(go_at_call 190;(with_reducible refine(CO _ _ (by simp) (by simp)).mono ?_);rintro e w1 ⟨rfl,rfl⟩))
 go_wp2;go_ret;exact⟨rfl,1,#[_],by rw[Sort.alloc_eq_grow];rfl⟩
theorem zli {α:Type} [Inhabited α] (enc:α->Value) (w:World) (blk off m:Nat) (dk:Array α) (os:Array Obj) {b o:Nat} {v:Value} (h:w.cell? ⟨b,o,none⟩=some v) (hne:b≠blk):(sortWorld enc w blk off m dk os).cell? ⟨b,o,none⟩=some v:=by
 unfold sortWorld;rw[Sort.cell?_grow _ _ _ (by simp only[Sort.size_putRow,Sort.heap_ahead];exact zf h),Sort.cell?_putRow_other _ _ _ _ _ _ (Or.inl hne),Sort.cell?_ahead];exact h
theorem zqs {α:Type} [Inhabited α] {enc:α->Value} {B:Nat} {w0 w:World} {g n:Nat} {d:Array α} {os:Array Obj} (h:Below B w0 w) (hg:B<=g) (hs:g<w.heap.size):Below B w0 (sortWorld enc w g 0 n d os):=by
 refine Below.trans h ⟨rfl,rfl,rfl,by unfold sortWorld;simp,λk hk=>?_⟩;unfold sortWorld Sort.grow
 show((Sort.putRow enc (Sort.ahead w n) g 0 d).heap++os)[k]?=w.heap[k]?
 rw[Array.getElem?_append_left (by rw[Sort.size_putRow,Sort.heap_ahead];omega)]
 simp[Sort.putRow,Sort.mapBlock,Sort.ahead,Array.getElem?_modify,show g≠k by omega]
theorem zvX (xs:List Int) (ad:Option Addr) (cap:Nat) (w:World) (hr:RowAt .i64 w ad xs) (hx:zad xs) (hl:xs.length<=9223372036854775807) (h:¬ze1 xs) :
  Calls Tryz.prog 146 #[.slice ad xs.length cap] w λe w'=>e=.returned (.tuple #[.slice none 0 0,.int .i64 7])/\Below w.heap.size w w':=by
 have CS:=λw hr=>zig xs ad cap w hr hx hl
 obtain⟨s0,s1⟩:=zdf xs;unfold ze1 at h;have HR:=za hr;clear hr hx;generalize zP xs=s at *;generalize xs.length=n at *
 by_cases a1:n % 2=1
 ·have b1:((n:Int) % 2 == 0)=false:=beq_eq_false_iff_ne.2 (by omega)
  by_cases a2:n<=1024
  ·have b3:decide ((1024:Int)<(n:Int))=false:=decide_eq_false (by omega)
   by_cases a3:1<=s
   ·have a4:1048576<s:=by omega
    have b2:(s == 0)=false:=beq_eq_false_iff_ne.2 (by omega);clear h a1
    go_enter Tryz.func146,Tryz.ntmps146
    go_wp2_with (go_at_call 143;(with_reducible refine(CS _ HR.out).mono ?_);rintro e w1 ⟨rfl,rfl⟩)
    exact bodyPost_ret (v:=.tuple #[.slice none 0 0,.int .i64 7]) (by simp[results,Tryz.results146,go_sem]) rfl ⟨rfl,Below.refl _ _⟩
   ·obtain rfl:s=0:=by omega
    clear h a1
    go_enter Tryz.func146,Tryz.ntmps146
    go_wp2_with (go_at_call 143;(with_reducible refine(CS _ HR.out).mono ?_);rintro e w1 ⟨rfl,rfl⟩)
    exact bodyPost_ret (v:=.tuple #[.slice none 0 0,.int .i64 7]) (by simp[results,Tryz.results146,go_sem]) rfl ⟨rfl,Below.refl _ _⟩
  ·have b3:(1024:Int)<(n:Int):=by omega
   clear h a1
   go_enter Tryz.func146,Tryz.ntmps146
   go_wp2_with (go_at_call 143;(with_reducible refine(CS _ HR.out).mono ?_);rintro e w1 ⟨rfl,rfl⟩)
   exact bodyPost_ret (v:=.tuple #[.slice none 0 0,.int .i64 7]) (by simp[results,Tryz.results146,go_sem]) rfl ⟨rfl,Below.refl _ _⟩
 ·have b1:((n:Int) % 2 == 0)=true:=beq_iff_eq.2 (by omega);clear h a1
  go_enter Tryz.func146,Tryz.ntmps146
  go_wp2_with (go_at_call 143;(with_reducible refine(CS _ HR.out).mono ?_);rintro e w1 ⟨rfl,rfl⟩)
  exact bodyPost_ret (v:=.tuple #[.slice none 0 0,.int .i64 7]) (by simp[results,Tryz.results146,go_sem]) rfl ⟨rfl,Below.refl _ _⟩
set_option maxHeartbeats 4000000 in
set_option maxRecDepth 1000000 in
theorem zo6 (xs:List Int) (ad:Option Addr) (cap:Nat) (w:World) (hr:RowAt .i64 w ad xs) (hx:zad xs) (h:ze1 xs) :
  Calls Tryz.prog 146 #[.slice ad xs.length cap] w λe w'=>∃ v,e=.returned (.tuple #[v,.int .i64 0])/\OwnI .i64 2 w' w.heap.size v (zbP xs)/\Below w.heap.size w w':=by
 obtain⟨p0,p1,s0,s1⟩:=h;have CS:=λw hr=>zig xs ad cap w hr hx (by omega)
 obtain⟨i0,hi,hz0,hz1,hz2⟩:=info_parts zdW;have HR:=za hr;have HX:=za hx;have HE:=za (show zbP xs=xs.map λx=>zM (x*1073741824) (zP xs) from rfl);clear hr hx;obtain⟨n,hn⟩:∃ n,xs.length=n:=⟨_,rfl⟩;have HN:=za hn;rw[hn]at p0 p1 CS ⊢;generalize zP xs=s at *;generalize zbP xs=us at *;have b1:((n:Int) % 2 == 0)=false:=beq_eq_false_iff_ne.2 (by omega);have b2:(s == 0)=false:=beq_eq_false_iff_ne.2 (by omega);have b3:decide ((1024:Int)<(n:Int))=false:=decide_eq_false (by omega);have n1:n<=1024:=p1;clear hn p0 p1
 go_enter Tryz.func146,Tryz.ntmps146
 go_wp2_with (first
  |(go_at_call 143;(with_reducible refine(CS _ HR.out).mono ?_);rintro e w1 ⟨rfl,rfl⟩)
  |(at_make;refine wpList_make_full _ rfl _ _ 28 rfl w.heap.size 2 i0 (.int .i64 0) 1 Tryz.underlying28 hi hz0 hz1 .i64 .i64 (n:Int) (n:Int) n rfl rfl rfl rfl (by rw[hz2];omega) (by unfold maxLen;omega) (Nat.le_refl _) ?_;intro w2 hown hgrow))
 have own0:OwnI .i64 2 w2 w.heap.size (.slice (some ⟨w.heap.size,0,none⟩) n n) (zdI (λx=>zM (x*1073741824) s) xs n 0):=by rw[zhw];exact OwnI.made hown
 have B2:=zg4 (Below.refl _ w) hgrow;clear hown hgrow CS b1 b2 b3
 go_loopw [32] (λi wr=>∃ j:Nat,j<=n/\i=.int .i64 (j:Int)/\OwnI .i64 2 wr w.heap.size (.slice (some ⟨w.heap.size,0,none⟩) n n) (zdI (λx=>zM (x*1073741824) s) xs n j)/\Below w.heap.size w wr) (λi _=>n-(intOf i).toNat)
 case atStart=>exact⟨0,by omega,rfl,own0,B2⟩
 case round =>
  clear own0 B2;obtain⟨j,hj,rfl,ho,hb⟩:=hrel;have HO:=za ho;have HB:=za hb;clear ho hb
  by_cases hlt:j<n
  ·obtain⟨b,off,rfl,hc⟩:=(HR.out.below HB.out).get (show j<xs.length by rw[HN.out];exact hlt);obtain⟨x0,x1⟩:=HX.out j (by rw[HN.out];exact hlt);have CM:=λw=>zej (xs.getD j 0) 1073741824 s _ rfl x0 x1 (by omega) (by omega) (by omega) (by omega) w
   have HZ:=za (zim (F:=λx=>zM (x*1073741824) s) HN.out hlt);have HL:=za (zio (F:=λx=>zM (x*1073741824) s) (j:=j) HN.out);generalize zdI (λx=>zM (x*1073741824) s) xs n j=L1 at *;generalize xs.getD j 0=x at *;generalize zM (x*1073741824) s=q at *
   go_wp2_with (go_at_call 173;(with_reducible refine(CM _).mono ?_);rintro e w3 ⟨rfl,b3⟩;have fz:=(HO.out.below b3).frozenAt HL.out j;have cl:=(HO.out.below b3).cellAt HL.out hlt)
   go_roundw
   case rel=>exact⟨j+1,by omega,by go_num,by rw[←HZ.out];exact(HO.out.below b3).stored HL.out j q,bs (bt HB.out b3) (Nat.le_refl _) _⟩
   case measure=>simp[intOf];omega
  ·obtain rfl:j=n:=by omega
   have O2:=HO.out;rw[zij HN.out,←HE.out]at O2;have HO2:=za O2;clear O2 HO;go_wp2;exact bodyPost_ret (v:=.tuple #[_,.int .i64 0]) (by simp[results,Tryz.results146,go_sem]) rfl ⟨_,rfl,HO2.out,HB.out⟩
theorem znS (s:Int) (h:s<1\/4194304<s) (w:World) :
  Calls Tryz.prog 144 #[.int .i64 s] w λe w'=>e=.returned (.tuple #[.slice none 0 0,.int .i64 7])/\Below w.heap.size w w':=by
 rcases h with h|h
 ·go_enter Tryz.func144,Tryz.ntmps144
  go_wp2;exact bodyPost_ret (v:=.tuple #[.slice none 0 0,.int .i64 7]) (by simp[results,Tryz.results144,go_sem]) rfl ⟨rfl,Below.refl _ _⟩
 ·have h2:decide (s<1)=false:=decide_eq_false (by omega)
  go_enter Tryz.func144,Tryz.ntmps144
  go_wp2;exact bodyPost_ret (v:=.tuple #[.slice none 0 0,.int .i64 7]) (by simp[results,Tryz.results144,go_sem]) rfl ⟨rfl,Below.refl _ _⟩
theorem zrF {s r:Int} (s0:1<=s) (s1:s<=4194304) (hr:zdO s=r):zcZ (-3*s) 65536 = -r:=by
 rw[zdl (by omega),←hr];unfold zan zdO;rw[if_neg (by omega),zH (by omega) (by omega)];omega
set_option maxHeartbeats 4000000 in
set_option maxRecDepth 1000000 in
theorem zoj (s:Int) (s0:1<=s) (s1:s<=4194304) (w:World) :
  Calls Tryz.prog 144 #[.int .i64 s] w λe w'=>∃ v,e=.returned (.tuple #[v,.int .i64 0])/\OwnI .i64 2 w' w.heap.size v (zc0 s)/\Below w.heap.size w w':=by
 obtain⟨i0,hi,hz0,hz1,hz2⟩:=info_parts zdW;obtain⟨r,hr⟩:∃ r:Nat,zdO s=(r:Int):=⟨(zdO s).toNat,by unfold zdO;omega⟩;have hf:=zrF s0 s1 hr;have r1:r<=192:=by unfold zdO at hr;omega
 have CF:=λw=>zdh (-3*s) 65536 (by omega) (by omega) (by omega) (by omega) w
 rw[hf]at CF;have HG:=za (show zc0 s=zbM r s (2*r+1) by unfold zc0;rw[hr,show((r:Int)).toNat=r by omega]);generalize zc0 s=gs at *;clear hr hf;have t0 : -3*s<=0:=by omega
 have t1 : -12582912<=-3*s:=by omega
 go_enter Tryz.func144,Tryz.ntmps144
 obtain⟨n,hn⟩:∃ n,2*r+1=n:=⟨_,rfl⟩;have hn':2*(r:Int)+1=(n:Int):=by omega
 have nn : - -(r:Int)=(r:Int):=by omega
 have n1:n<=385:=by omega
 go_wp2_with (first
  |(go_at_call 168;(with_reducible refine(CF _).mono ?_);rintro e w1 ⟨rfl,rfl⟩)
  |(at_make;refine wpList_make_full _ rfl _ _ 28 rfl w.heap.size 2 i0 (.int .i64 0) 1 Tryz.underlying28 hi hz0 hz1 .i64 .i64 (n:Int) (n:Int) n rfl rfl rfl rfl (by rw[hz2];omega) (by unfold maxLen;omega) (Nat.le_refl _) ?_;intro w2 hown hgrow))
 have own0:OwnI .i64 2 w2 w.heap.size (.slice (some ⟨w.heap.size,0,none⟩) n n) (zbC (zbM r s 0) n):=by
  rw[show zbM r s 0=[] from rfl,zdp];exact OwnI.made hown
 have B2:=zg4 (Below.refl _ w) hgrow;have HNN:=za hn;clear hown hgrow CF hn hn' nn t0 t1
 go_loopw [23] (λi wr=>∃ j:Nat,j<=n/\i=.int .i64 (j:Int)/\OwnI .i64 2 wr w.heap.size (.slice (some ⟨w.heap.size,0,none⟩) n n) (zbC (zbM r s j) n)/\Below w.heap.size w wr) (λi _=>n-(intOf i).toNat)
 case atStart=>exact⟨0,by omega,rfl,own0,B2⟩
 case round =>
  clear own0 B2;obtain⟨j,hj,rfl,ho,hb⟩:=hrel;have HO:=za ho;have HB:=za hb;clear ho hb
  by_cases hlt:j<n
  ·have CG:=λw=>ztG ((j:Int)-r) s (by omega) (by omega) (by omega) (by omega) w
   have HZ:=za (zdy (zcx r s j) hlt (zc1 ((j:Int)-r) s));have HS:=za (zhO r s j);have HL:=za (zdX (show(zbM r s j).length<=n by rw[zcx];exact hj));generalize zbC (zbM r s j) n=L1 at *;generalize zc1 ((j:Int)-r) s=q at *
   go_wp2_with (go_at_call 171;(with_reducible refine(CG _).mono ?_);rintro e w3 ⟨rfl,b3⟩;have fz:=(HO.out.below b3).frozenAt HL.out j;have cl:=(HO.out.below b3).cellAt HL.out hlt)
   go_roundw
   case rel=>exact⟨j+1,by omega,by go_num,by rw[HS.out,←HZ.out];exact(HO.out.below b3).stored HL.out j q,bs (bt HB.out b3) (Nat.le_refl _) _⟩
   case measure=>simp[intOf];omega
  ·obtain rfl:j=n:=by omega
   have O2:=HO.out;rw[zcM (zcx _ _ _)]at O2;have EJ:=HG.out;rw[HNN.out]at EJ;rw[←EJ]at O2;have HO2:=za O2;clear O2 HO EJ;go_wp2;exact bodyPost_ret (v:=.tuple #[_,.int .i64 0]) (by simp[results,Tryz.results144,go_sem]) rfl ⟨_,rfl,HO2.out,HB.out⟩
end Go.Proofs.YtlodkoimdoeopaaGreatDoor
namespace Go.Proofs.YtlodkoimdoeopaaGreatDoor
def zrZ:Go.Shelf.Ren:=⟨fun|6=>188|15=>221|14=>220|28=>242|29=>243|20=>234|21=>235|22=>236|23=>237|24=>238|25=>239|26=>240|27=>241|46=>248|47=>249|48=>250|49=>251|50=>252|57=>253|n=>n,fun|22=>239|24=>3|25=>171|3=>3|39=>199|0=>0|53=>277|55=>153|4=>4|46=>287|45=>286|50=>291|5=>5|9=>9|66=>297|70=>301|76=>303|77=>180|n=>n,fun|n=>n⟩
theorem zyx:Go.Proofs.SlLaysF.n6 Tryz.prog zrZ:={
 mixed:=by kernel_rfl
 f6:=⟨Tryz.f188.name,by decide,Tryz.func188.trans (congrArg some (by kernel_rfl))⟩
 f14:=⟨Tryz.f220.name,by decide,Tryz.func220.trans (congrArg some (by kernel_rfl))⟩
 f15:=Tryz.func221.trans (congrArg some (by kernel_rfl))
 f20:=⟨Tryz.f234.name,by decide,Tryz.func234.trans (congrArg some (by kernel_rfl))⟩
 f21:=⟨Tryz.f235.name,by decide,Tryz.func235.trans (congrArg some (by kernel_rfl))⟩
 f22:=⟨Tryz.f236.name,by decide,Tryz.func236.trans (congrArg some (by kernel_rfl))⟩
 f23:=⟨Tryz.f237.name,by decide,Tryz.func237.trans (congrArg some (by kernel_rfl))⟩
 f24:=⟨Tryz.f238.name,by decide,Tryz.func238.trans (congrArg some (by kernel_rfl))⟩
 f25:=⟨Tryz.f239.name,by decide,Tryz.func239.trans (congrArg some (by kernel_rfl))⟩
 f26:=⟨Tryz.f240.name,by decide,Tryz.func240.trans (congrArg some (by kernel_rfl))⟩
 f27:=⟨Tryz.f241.name,by decide,Tryz.func241.trans (congrArg some (by kernel_rfl))⟩
 f28:=Tryz.func242.trans (congrArg some (by kernel_rfl))
 f29:=Tryz.func243.trans (congrArg some (by kernel_rfl))
 f46:=⟨Tryz.f248.name,by decide,Tryz.func248.trans (congrArg some (by kernel_rfl))⟩
 f47:=Tryz.func249.trans (congrArg some (by kernel_rfl))
 f48:=Tryz.func250.trans (congrArg some (by kernel_rfl))
 f49:=⟨Tryz.f251.name,by decide,Tryz.func251.trans (congrArg some (by kernel_rfl))⟩
 f50:=⟨Tryz.f252.name,by decide,Tryz.func252.trans (congrArg some (by kernel_rfl))⟩
 f57:=⟨Tryz.f253.name,by decide,Tryz.func253.trans (congrArg some (by kernel_rfl))⟩
 t0:=Tryz.underlying0
 a0:=Tryz.isAgg0
 z0:=Tryz.sizeOf0
 v0:=Tryz.zeroValue0
 t3:=Tryz.underlying3
 a3:=Tryz.isAgg3
 z3:=Tryz.sizeOf3
 v3:=Tryz.zeroValue3
 t4:=Tryz.underlying4
 a4:=Tryz.isAgg4
 z4:=Tryz.sizeOf4
 v4:=Tryz.zeroValue4
 t5:=Tryz.underlying5
 a5:=Tryz.isAgg5
 z5:=Tryz.sizeOf5
 v5:=Tryz.zeroValue5
 t9:=Tryz.underlying9
 a9:=Tryz.isAgg9
 z9:=Tryz.sizeOf9
 v9:=Tryz.zeroValue9
 t22:=Tryz.underlying239
 a22:=Tryz.isAgg239
 z22:=Tryz.sizeOf239
 v22:=Tryz.zeroValue239
 a24:=Tryz.isAgg3
 z24:=Tryz.sizeOf3
 t25:=Tryz.underlying171
 a25:=Tryz.isAgg171
 z25:=Tryz.sizeOf171
 v25:=Tryz.zeroValue171
 t39:=Tryz.underlying199
 a39:=Tryz.isAgg199
 z39:=Tryz.sizeOf199
 v39:=Tryz.zeroValue199
 t45:=Tryz.underlying286
 a45:=Tryz.isAgg286
 z45:=Tryz.sizeOf286
 v45:=Tryz.zeroValue286
 t46:=Tryz.underlying287
 a46:=Tryz.isAgg287
 z46:=Tryz.sizeOf287
 v46:=Tryz.zeroValue287
 t50:=Tryz.underlying291
 a50:=Tryz.isAgg291
 z50:=Tryz.sizeOf291
 v50:=Tryz.zeroValue291
 t53:=Tryz.underlying277
 a53:=Tryz.isAgg277
 z53:=Tryz.sizeOf277
 v53:=Tryz.zeroValue277
 t55:=Tryz.underlying153
 a55:=Tryz.isAgg153
 z55:=Tryz.sizeOf153
 v55:=Tryz.zeroValue153
 t66:=Tryz.underlying297
 a66:=Tryz.isAgg297
 z66:=Tryz.sizeOf297
 v66:=Tryz.zeroValue297
 t70:=Tryz.underlying301
 a70:=Tryz.isAgg301
 z70:=Tryz.sizeOf301
 v70:=Tryz.zeroValue301
 t76:=Tryz.underlying303
 a76:=Tryz.isAgg303
 z76:=Tryz.sizeOf303
 v76:=Tryz.zeroValue303
 t77:=Tryz.underlying180
 a77:=Tryz.isAgg180
 z77:=Tryz.sizeOf180
 v77:=Tryz.zeroValue180 }
end Go.Proofs.YtlodkoimdoeopaaGreatDoor
