/- Parts, joined. -/
import Derived.Test.YtlodkoimdoeopaaGreatDoorQ07
import Derived.Test.YtlodkoimdoeopaaGreatDoorQ03
import Derived.Test.YtlodkoimdoeopaaGreatDoorQ02
import Derived.Test.YtlodkoimdoeopaaGreatDoorQ01
import Derived.Deep.LoopGhost
import Derived.ProofKit
import Derived.OpenShut
import Derived.ArgAppend
namespace Go.Proofs.YtlodkoimdoeopaaGreatDoor
open Go.RowKit
theorem zg3:(Tryz.prog.info? 2).map (λi=>(i.zero,i.size,i.bytes))=some (some (.int .i64 0),1,8):=by kernel_rfl
theorem zg5 {x:Int} (h0 : -9223372036854775808<=x) (h1:x<=9223372036854775807):zaK x<=1099511627776↔zaa x:=by
 unfold zaK zaa zi zE
 split<;>(try split)<;>(try split)<;>omega
theorem zqI (xs:List Int) (ad:Option Addr) (cap:Nat) (w:World) (hl:xs.length<=9223372036854775807) (h:xs.length<1\/1048576<xs.length) :
  Calls Tryz.prog 177 #[.slice ad xs.length cap] w λe w'=>e=.returned (.tuple #[.slice none 0 0,.int .i64 7])/\Below w.heap.size w w':=by
 generalize xs.length=n at *;rcases h with h|h
 ·obtain rfl:n=0:=by omega
  go_enter Tryz.func177,Tryz.ntmps177
  go_wp2;exact bodyPost_ret (v:=.tuple #[.slice none 0 0,.int .i64 7]) (by simp[results,Tryz.results177,go_sem]) rfl ⟨rfl,Below.refl _ _⟩
 ·have h0:¬((n:Int)<1):=by omega
  have h2:(1048576:Int)<(n:Int):=by omega
  go_enter Tryz.func177,Tryz.ntmps177
  go_wp2;exact bodyPost_ret (v:=.tuple #[.slice none 0 0,.int .i64 7]) (by simp[results,Tryz.results177,go_sem]) rfl ⟨rfl,Below.refl _ _⟩
theorem zre (xs:List Int) (ad:Option Addr) (cap:Nat) (w:World) (hr:RowAt .i64 w ad xs) (hx:zad xs) (h0:1<=xs.length) (h1:xs.length<=1048576) (h:¬∀ x ∈ xs,zaa x) :
  Calls Tryz.prog 177 #[.slice ad xs.length cap] w λe w'=>e=.returned (.tuple #[.slice none 0 0,.int .i64 7])/\Below w.heap.size w w':=by
 have HR:=za hr;have HX:=za hx;have HH:=za h;clear hr hx h;obtain⟨n,hn⟩:∃ n,xs.length=n:=⟨_,rfl⟩;have HN:=za hn;rw[hn]at h0 h1 ⊢;clear hn
 go_enter Tryz.func177,Tryz.ntmps177
 go_wp2
 go_loop [25] (λi=>∃ k:Nat,k<=n/\i=.int .i64 (k:Int)/\∀ j,j<k->zaa (xs.getD j 0)) (λi=>n-(intOf i).toNat)
 case atStart=>exact⟨0,by omega,rfl,λj hj=>absurd hj (Nat.not_lt_zero _)⟩
 case round =>
  obtain⟨k,hk,rfl,hs⟩:=hrel;have HS:=za hs;clear hs
  by_cases hlt:k<n
  ·obtain⟨b,off,rfl,hc⟩:=HR.out.get (show k<xs.length by rw[HN.out];exact hlt);obtain⟨x0,x1⟩:=HX.out k (by rw[HN.out];exact hlt);have CA:=λw=>zey (xs.getD k 0) x0 x1 w
   have I:=zg5 x0 x1
   by_cases g:zaa (xs.getD k 0)
   ·have g2:=I.2 g;have HG:=za g;clear g I;generalize hx:xs.getD k 0=x at hc x0 x1 CA g2;have HXX:=za hx;clear hx;generalize zaK x=y at *
    go_wp2_with (go_at_call 208;(with_reducible refine(CA _).mono ?_);rintro e w1 ⟨rfl,rfl⟩)
    go_round
    case rel=>exact⟨k+1,by omega,by go_num,λj hj=>by
     by_cases e:j=k
     ·subst e;exact HG.out
     ·exact HS.out j (by omega)⟩
    case measure=>simp[intOf];omega
   ·have g2:1099511627776<zaK (xs.getD k 0):=by
     by_cases q:zaK (xs.getD k 0)<=1099511627776
     ·exact absurd (I.1 q) g
     ·omega
    clear g I;generalize xs.getD k 0=x at hc x0 x1 CA g2;generalize zaK x=y at *
    go_wp2_with (go_at_call 208;(with_reducible refine(CA _).mono ?_);rintro e w1 ⟨rfl,rfl⟩)
    exact bodyPost_ret (v:=.tuple #[.slice none 0 0,.int .i64 7]) (by simp[results,Tryz.results177,go_sem]) rfl ⟨rfl,Below.refl _ _⟩
  ·exfalso
   exact HH.out (zi1 λj hj=>HS.out j (by rw[HN.out]at hj;omega))
theorem zgu (s:Int) (l:List Int) (x:Int):zW s (l++[x])=zW s l++[zae s x]:=by unfold zW;rw[List.map_append];rfl
theorem zoa (s:Int) (l:List Int) (x:Int):zaA s (l++[x])=zaA s l++[za9 s x]:=by unfold zaA;rw[List.map_append];rfl
theorem zfx (s:Int) (l:List Int):(zW s l).length=l.length:=by unfold zW;simp
theorem zhb (s:Int) (l:List Int):(zaA s l).length=l.length:=by unfold zaA;simp
theorem zbJ {s x:Int} (s0:268435456<=s) (h:zaa x) : -67108864<=zae s x/\zae s x<=67108864/\0<=x*16384-zae s x*s/\x*16384-zae s x*s<s:=by
 obtain⟨q,_,r0,r1,_⟩:=zf2 (s:=s) (by omega) h;unfold zaa at h;have up:x*16384 / s<=67108864:=by
  have:x*16384 / s<67108865:=Int.ediv_lt_of_lt_mul (by omega) (by
   have:=Int.mul_le_mul_of_nonneg_left s0 (show(0:Int)<=67108865 by omega);omega)
  omega
 have dn : -67108864<=x*16384 / s:=by
  apply Int.le_ediv_of_mul_le (by omega)
  have:=Int.mul_le_mul_of_nonneg_left s0 (show(0:Int)<=67108864 by omega);rw[Int.neg_mul];omega
 refine⟨by omega,by omega,?_,?_⟩
 ·have:za9 s x=x*16384-zae s x*s:=rfl;omega
 ·have:za9 s x=x*16384-zae s x*s:=rfl;omega
theorem zjd {s:Int} (s0:268435456<=s) (l:List Int) (h:∀ x ∈ l,zaa x) : -((l.length:Int)*67108864)<=(zW s l).sum/\(zW s l).sum<=(l.length:Int)*67108864:=by
 induction l with
 |nil=>simp[zW]
 |cons a l ih =>
  obtain⟨c0,c1⟩:=ih (λx hx=>h x (by simp[hx]));obtain⟨d0,d1,_⟩:=zbJ s0 (h a (by simp));have e:(zW s (a :: l)).sum=zae s a+(zW s l).sum:=by unfold zW;simp
  rw[e,show((a :: l).length:Int)=(l.length:Int)+1 by simp];omega
theorem zp1 (xs:List Int) (ad:Option Addr) (cap:Nat) (w:World) (hr:RowAt .i64 w ad xs) (hx:zad xs) (h0:1<=xs.length) (h1:xs.length<=1048576) (h:∀ x ∈ xs,zaa x) (hs:zr xs<268435456) :
  Calls Tryz.prog 177 #[.slice ad xs.length cap] w λe w'=>e=.returned (.tuple #[.slice none 0 0,.int .i64 8])/\Below w.heap.size w w':=by
 have CS:=λw hr=>zjN xs ad cap w hr hx (by omega)
 have HR:=za hr;have HX:=za hx;have HH:=za h;clear hr hx h;obtain⟨n,hn⟩:∃ n,xs.length=n:=⟨_,rfl⟩;have HN:=za hn;rw[hn]at h0 h1 CS ⊢;generalize zr xs=s at *;clear hn
 go_enter Tryz.func177,Tryz.ntmps177
 go_wp2
 go_loop [25] (λi=>∃ k:Nat,k<=n/\i=.int .i64 (k:Int)) (λi=>n-(intOf i).toNat)
 case atStart=>exact⟨0,by omega,rfl⟩
 case round =>
  obtain⟨k,hk,rfl⟩:=hrel
  by_cases hlt:k<n
  ·obtain⟨b,off,rfl,hc⟩:=HR.out.get (show k<xs.length by rw[HN.out];exact hlt);obtain⟨x0,x1⟩:=HX.out k (by rw[HN.out];exact hlt);have CA:=λw=>zey (xs.getD k 0) x0 x1 w
   have g2:=(zg5 x0 x1).2 (zbk HH.out (by rw[HN.out];exact hlt));generalize xs.getD k 0=x at hc x0 x1 CA g2;generalize zaK x=y at *
   go_wp2_with (go_at_call 208;(with_reducible refine(CA _).mono ?_);rintro e w1 ⟨rfl,rfl⟩)
   go_round
   case rel=>exact⟨k+1,by omega,by go_num⟩
   case measure=>simp[intOf];omega
  ·obtain rfl:k=n:=by omega
   go_wp2_with (go_at_call 209;(with_reducible refine(CS _ HR.out).mono ?_);rintro e w1 ⟨rfl,rfl⟩)
   exact bodyPost_ret (v:=.tuple #[.slice none 0 0,.int .i64 8]) (by simp[results,Tryz.results177,go_sem]) rfl ⟨rfl,Below.refl _ _⟩
set_option maxHeartbeats 4000000 in
set_option maxRecDepth 1000000 in
theorem ziL (xs:List Int) (ad:Option Addr) (cap:Nat) (w:World) (hr:RowAt .i64 w ad xs) (hx:zad xs) (hf:Fits xs) :
  Calls Tryz.prog 177 #[.slice ad xs.length cap] w λe w'=>∃ v,e=.returned (.tuple #[v,.int .i64 0])/\OwnI .i64 2 w' w.heap.size v (zG xs)/\Below w.heap.size w w':=by
 have HF:=za hf;obtain⟨h0,h1,h,s0⟩:=hf;obtain⟨i0,hi,hz0,hz1,hz2⟩:=info_parts zg3;have CS:=λw hr=>zjN xs ad cap w hr hx (by omega)
 have s1:=(zgE xs).2;have HR:=za hr;have HX:=za hx;have HH:=za h;clear hr hx h;obtain⟨n,hn⟩:∃ n,xs.length=n:=⟨_,rfl⟩;have HN:=za hn;rw[hn]at h0 h1 CS ⊢;obtain⟨s,hs⟩:∃ s,zr xs=s:=⟨_,rfl⟩;have HS:=za hs;rw[hs]at s0 s1 CS;have ub:s<=1152921504606846976:=by
  obtain⟨a,_,b⟩:=zg2 xs HH.out (by omega);rw[←hs,a];rw[hn]at b;omega
 clear hn hs
 go_enter Tryz.func177,Tryz.ntmps177
 go_wp2
 go_loop [25] (λi=>∃ k:Nat,k<=n/\i=.int .i64 (k:Int)) (λi=>n-(intOf i).toNat)
 case atStart=>exact⟨0,by omega,rfl⟩
 case round =>
  obtain⟨k,hk,rfl⟩:=hrel
  by_cases hlt:k<n
  ·obtain⟨b,off,rfl,hc⟩:=HR.out.get (show k<xs.length by rw[HN.out];exact hlt);obtain⟨x0,x1⟩:=HX.out k (by rw[HN.out];exact hlt);have CA:=λw=>zey (xs.getD k 0) x0 x1 w
   have g2:=(zg5 x0 x1).2 (zbk HH.out (by rw[HN.out];exact hlt));generalize xs.getD k 0=x at hc x0 x1 CA g2;generalize zaK x=y at *
   go_wp2_with (go_at_call 208;(with_reducible refine(CA _).mono ?_);rintro e w1 ⟨rfl,rfl⟩)
   go_round
   case rel=>exact⟨k+1,by omega,by go_num⟩
   case measure=>simp[intOf];omega
  ·obtain rfl:k=n:=by omega
   clear hlt hk
   go_wp2_with (go_at_call 209;(with_reducible refine(CS _ HR.out).mono ?_);rintro e w1 ⟨rfl,rfl⟩)
   clear CS
   go_loopw [7,8,9,39] (λu v t i wr=>∃ j:Nat,j<=k/\i=.int .i64 (j:Int)/\OwnI .i64 2 wr w.heap.size u (zW s (xs.take j))/\OwnI .i64 2 wr w.heap.size v (zaA s (xs.take j))/\Apart u v/\t=.int .i64 (16384-(zW s (xs.take j)).sum)/\Below w.heap.size w wr) (λ_ _ _ i _=>k-(intOf i).toNat)
   case atStart=>exact⟨0,by omega,rfl,OwnI.nil _ _ _ _,OwnI.nil _ _ _ _,Apart.nil _,rfl,Below.refl _ _⟩
   case round =>
    obtain⟨j,hj,rfl,ho,hq,hap,rfl,hb⟩:=hrel;have HO:=za ho;have HQ:=za hq;have HA:=za hap;have HB:=za hb;clear ho hq hap hb
    by_cases hlt:j<k
    ·obtain⟨b,off,rfl,hc⟩:=(HR.out.below HB.out).get (show j<xs.length by rw[HN.out];exact hlt);have hsm:=zbk HH.out (show j<xs.length by rw[HN.out];exact hlt);obtain⟨q0,q1,r0,r1⟩:=zbJ s0 hsm;have CF:=λw=>zfW (xs.getD j 0*16384) s (by unfold zaa at hsm;omega) (by unfold zaa at hsm;omega) (by omega) (by omega) w
     rw[show zc1 (xs.getD j 0*16384) s=zae s (xs.getD j 0) from rfl]at CF;have HT:=za (zb5 xs (show j<xs.length by rw[HN.out];exact hlt));have HRW:=za (show za9 s (xs.getD j 0)=xs.getD j 0*16384-zae s (xs.getD j 0)*s from rfl);have sq:=zjd s0 (xs.take j) (λx hx=>HH.out x (List.mem_of_mem_take hx));have tl:(xs.take j).length=j:=by rw[List.length_take];have:=HN.out;omega
     rw[tl]at sq;have HL1:=za ((zfx s (xs.take j)).trans tl);have HL2:=za ((zhb s (xs.take j)).trans tl);obtain⟨sq0,sq1⟩:=sq;clear tl;unfold zaa at hsm;obtain⟨x0,x1⟩:=hsm;generalize xs.getD j 0=x at *;generalize hqe:zae s x=q at *;generalize hse:(zW s (xs.take j)).sum=S at *;have HQE:=za hqe;have HSE:=za hse;clear hqe hse
     go_wp2_with (first
      |(go_at_call 210;(with_reducible refine(CF _).mono ?_);rintro e w2 ⟨rfl,b2⟩)
      |(at_builtin;refine zdg _ rfl (.tmp 47) (.tmp 49) 28 rfl w.heap.size 2 i0 (.int .i64 0) 1 8 Tryz.underlying28 hi hz0 hz1 hz2 rfl (by decide) _ _ _ rfl ((HO.out.below b2).alloc _) ⟨w2.heap.size,0,none⟩ 1 1 [.int .i64 q] rfl rfl (zea _ _ _) (zeg _ _) (by rw[HL1.out];unfold maxLen;omega) (by rw[HL1.out];omega) (by have:=HB.out.size;have:=b2.size;simp;omega) ?_;intro u' w3 own3 grow3 ap3)
      |(at_builtin;refine zdg _ rfl (.tmp 51) (.tmp 58) 28 rfl w.heap.size 2 i0 (.int .i64 0) 1 8 Tryz.underlying28 hi hz0 hz1 hz2 rfl (by decide) _ _ _ rfl ((OwnI.kept ((HQ.out.below b2).alloc _) grow3 HA.out.symm).alloc _) ⟨w3.heap.size,0,none⟩ 1 1 [.int .i64 (x*16384-q*s)] rfl rfl (zea _ _ _) (zeg _ _) (by rw[HL2.out];unfold maxLen;omega) (by rw[HL2.out];omega) (by have:=HB.out.size;have:=b2.size;have g3:=grow3.size;simp at g3 ⊢;omega) ?_;intro v' w4 own4 grow4 ap4))
     have O3:OwnI .i64 2 w3 w.heap.size u' (zW s (xs.take j)++[q]):=OwnI.append own3;have Q4:OwnI .i64 2 w4 w.heap.size v' (zaA s (xs.take j)++[x*16384-q*s]):=OwnI.append own4;have A3:=Apart.grown HA.out ((HQ.out.below b2).alloc _).lt ap3;have O4:=OwnI.kept (O3.alloc _) grow4 A3;have A4:=Apart.grown A3.symm (O3.alloc _).lt ap4;have B2:=bt HB.out b2;have B3:=(B2.alloc B2.size _).grown grow3 (by have:=B2.size;simp;omega) (λg hg=>(World.ownsRow.lt (HO.out.below b2) g hg).1);have B4:=(B3.alloc B3.size _).grown grow4 (by have:=B3.size;simp;omega) (λg hg=>(World.ownsRow.lt (OwnI.kept ((HQ.out.below b2).alloc _) grow3 HA.out.symm) g hg).1);have H4:=za (And.intro O4 (And.intro Q4 (And.intro A4 B4)));clear own3 own4 grow3 grow4 ap3 ap4 O3 Q4 A3 O4 A4 B2 B3 B4 b2 CF;go_wp2
     go_roundw
     case rel =>
      obtain⟨O4,Q4,A4,B4⟩:=H4.out;refine⟨j+1,by omega,by go_num,?_,?_,A4.symm,?_,B4⟩
      ·rw[HT.out,zgu,HQE.out];exact O4
      ·rw[HT.out,zoa,HRW.out];exact Q4
      ·rw[HT.out,zgu,HQE.out,List.sum_append,HSE.out,List.sum_singleton,show 16384-(S+q)=16384-S-q by omega]
     case measure=>simp[intOf];omega
    ·obtain rfl:j=k:=by omega
     have et:xs.take j=xs:=List.take_of_length_le (by rw[HN.out];exact Nat.le_refl _);obtain⟨ad1,cap1,rfl,_,f1,f2,_⟩:=HO.out.form;obtain⟨ad2,cap2,rfl,_,f3,f4,_⟩:=HQ.out.form;have HQ0:=HQ.out;have HO0:=HO.out;have HA0:=HA.out;clear HO HQ HA;rw[et]at f1 f3 HO0 HQ0 HA0 ⊢;rw[zfx,HN.out]at HO0 HA0 ⊢;rw[zhb,HN.out]at HQ0 HA0 ⊢;clear et;obtain⟨a1,rfl⟩:∃ a,ad1=some a:=by
      cases ad1 with
      |none=>have e:=(f1 rfl).1;have l:=zfx s xs;rw[e,HN.out]at l;simp at l;omega
      |some a=>exact⟨a,rfl⟩
     obtain⟨a2,rfl⟩:∃ a,ad2=some a:=by
      cases ad2 with
      |none=>have e:=(f3 rfl).1;have l:=zhb s xs;rw[e,HN.out]at l;simp at l;omega
      |some a=>exact⟨a,rfl⟩
     obtain⟨g1,rfl,gb1,_⟩:=f2 _ rfl;obtain⟨g2,rfl,gb2,_⟩:=f4 _ rfl;have hne:g2≠g1:=λe=>HA0 g1 rfl (by rw[e];rfl)
     obtain⟨ST,L0,_⟩:=zfH HF.out;rw[HS.out]at ST L0;rw[HN.out]at ST;have EX:zG xs=(zk (zW s xs) (zaA s xs) (za7 s xs).toNat).1:=by unfold zG;rw[HS.out]
     obtain⟨lf,hlf⟩:∃ lf:Nat,za7 s xs=(lf:Int):=⟨(za7 s xs).toNat,by omega⟩;rw[show(za7 s xs).toNat=lf by omega]at ST EX;rw[show(16384-(zW s xs).sum:Int)=(lf:Int) from hlf];have lb:(lf:Int)<=70368744194048:=by
      have:=(zjd s0 xs HH.out).1;rw[HN.out]at this;have e:za7 s xs=16384-(zW s xs).sum:=rfl;omega
     have QI:∀ b,b<j->-67108864<=(zW s xs).getD b 0/\(zW s xs).getD b 0<=67108864:=by
      intro b hb;unfold zW;rw[zfJ _ _ (by rw[HN.out];exact hb)];have:=zbJ s0 (zbk HH.out (show b<xs.length by rw[HN.out];exact hb));exact⟨this.1,this.2.1⟩
     have HST:=za ST;have HEX:=za EX;have HQI:=za QI;have HO:=za HO0;have HQ:=za HQ0;generalize zW s xs=Q0 at *;generalize zaA s xs=R0 at *;clear f1 f2 f3 f4 HA0 HO0 HQ0 ST EX QI L0 hlf hlt hj;go_wp2
     go_loopg [9] lf (λr t wq=>∃ m:Nat,m+r=lf/\t=.int .i64 ((lf:Int)-(m:Int))/\OwnI .i64 2 wq w.heap.size (.slice (some ⟨g1,0,none⟩) j cap1) (zk Q0 R0 m).1/\OwnI .i64 2 wq w.heap.size (.slice (some ⟨g2,0,none⟩) j cap2) (zk Q0 R0 m).2/\Below w.heap.size w wq)
     case atStart=>exact⟨0,by omega,by simp,HO.out,HQ.out,HB.out⟩
     case round =>
      clear HO HQ HB;obtain⟨m,hm,rfl,ho,hq,hb⟩:=hrel;obtain⟨G,hG⟩:∃ G,G=gk:=⟨_,rfl⟩;subst hG;obtain⟨W,hW⟩:∃ W,W=wr:=⟨_,rfl⟩;subst hW;have HM:=za hm;have HO:=za ho;have HQ:=za hq;have HB:=za hb;obtain⟨l1,l2⟩:=ze2 Q0 R0 m;rw[HST.out.ql]at l1;rw[HST.out.rl]at l2;have HL1:=za l1;have HL2:=za l2;clear hm ho hq hb l1 l2
      by_cases hlt:m<lf
      ·go_wp2
       go_loopg [13,68] j (λr b i wi=>∃ t:Nat,t+r=j/\i=.int .i64 (t:Int)/\b=.int .i64 ((zF (zk Q0 R0 m).2 t:Nat):Int)/\Below W.heap.size W wi)
       case atStart=>exact⟨0,by omega,rfl,rfl,Below.refl _ _⟩
       case round =>
        obtain⟨t,ht,rfl,rfl,hb⟩:=hrel;have HT:=za ht;have HB2:=za hb;have BL:=zhA (zk Q0 R0 m).2 t;have HBS:=za (show zF (zk Q0 R0 m).2 (t+1)=if(zk Q0 R0 m).2.getD (zF (zk Q0 R0 m).2 t) 0<(zk Q0 R0 m).2.getD t 0 then t else zF (zk Q0 R0 m).2 t from rfl);have tj:t<=j:=by omega
        clear ht hb
        by_cases hlt2:t<j
        ·have c1:=(HQ.out.below HB2.out).cellAt HL2.out hlt2;have c2:=(HQ.out.below HB2.out).cellAt HL2.out (show zF (zk Q0 R0 m).2 t<j by omega);have bj:zF (zk Q0 R0 m).2 t<j:=by omega
         clear BL
         by_cases g:(zk Q0 R0 m).2.getD (zF (zk Q0 R0 m).2 t) 0<(zk Q0 R0 m).2.getD t 0
         ·have e:=HBS.out;rw[if_pos g]at e;have HE:=za e;clear e HBS;generalize zF (zk Q0 R0 m).2 t=B at *;generalize (zk Q0 R0 m).2.getD B 0=y at *;generalize (zk Q0 R0 m).2.getD t 0=x at *
          go_wp2_with fail
          go_quiet (fail)
          go_wp2
          go_roundg (gk-1)
          case measure=>have:=HT.out;omega
          case rel=>exact⟨t+1,by have:=HT.out;omega,by go_num,by rw[HE.out],bdN HB2.out _⟩
         ·have e:=HBS.out;rw[if_neg g]at e;have HE:=za e;clear e HBS;generalize zF (zk Q0 R0 m).2 t=B at *;generalize (zk Q0 R0 m).2.getD B 0=y at *;generalize (zk Q0 R0 m).2.getD t 0=x at *
          go_wp2_with fail
          go_quiet (fail)
          go_wp2
          go_roundg (gk-1)
          case measure=>have:=HT.out;omega
          case rel=>exact⟨t+1,by have:=HT.out;omega,by go_num,by rw[HE.out],bdN HB2.out _⟩
        ·obtain rfl:t=j:=by omega
         have bj:zF (zk Q0 R0 m).2 t<t:=by omega
         have E1:=za (show(zk Q0 R0 (m+1)).1=(zk Q0 R0 m).1.set (zF (zk Q0 R0 m).2 t) ((zk Q0 R0 m).1.getD (zF (zk Q0 R0 m).2 t) 0+1) by
          have:=HL2.out
          show(zk Q0 R0 m).1.set (zF (zk Q0 R0 m).2 (zk Q0 R0 m).2.length) ((zk Q0 R0 m).1.getD (zF (zk Q0 R0 m).2 (zk Q0 R0 m).2.length) 0+1)=_
          rw[this])
         have E2:=za (show(zk Q0 R0 (m+1)).2=(zk Q0 R0 m).2.set (zF (zk Q0 R0 m).2 t) (-1) by
          have:=HL2.out
          show(zk Q0 R0 m).2.set (zF (zk Q0 R0 m).2 (zk Q0 R0 m).2.length) (-1)=_
          rw[this])
         have ob : -67108864<=(zk Q0 R0 m).1.getD (zF (zk Q0 R0 m).2 t) 0/\(zk Q0 R0 m).1.getD (zF (zk Q0 R0 m).2 t) 0<=67108865:=by
          have q:=HQI.out _ bj;rcases(zi2 HST.out m (by have:=HM.out;omega)).each _ bj with e|e
          ·have:=e.2;omega
          ·have:=e.2.1;omega
         obtain⟨ob0,ob1⟩:=ob;have OO:=HO.out.below HB2.out;have QQ:=HQ.out.below HB2.out;have c1:=OO.cellAt HL1.out bj;have z1:=OO.frozenAt HL1.out (zF (zk Q0 R0 m).2 t);have QS:=OwnI.other (u:=.int .i64 ((zk Q0 R0 m).1.getD (zF (zk Q0 R0 m).2 t) 0+1)) QQ g1 (zF (zk Q0 R0 m).2 t) hne.symm;have c2:=QS.cellAt HL2.out bj;have z2:=QS.frozenAt HL2.out (zF (zk Q0 R0 m).2 t);have HF3:=za (OwnI.other (u:=.int .i64 (-1)) (OO.stored HL1.out (zF (zk Q0 R0 m).2 t) ((zk Q0 R0 m).1.getD (zF (zk Q0 R0 m).2 t) 0+1)) g2 (zF (zk Q0 R0 m).2 t) hne);have HF4:=za (QS.stored HL2.out (zF (zk Q0 R0 m).2 t) (-1));have HF5:=za (bs (bs (bt HB.out HB2.out) gb1 (b:=g1) (o:=zF (zk Q0 R0 m).2 t) (.int .i64 ((zk Q0 R0 m).1.getD (zF (zk Q0 R0 m).2 t) 0+1))) gb2 (b:=g2) (o:=zF (zk Q0 R0 m).2 t) (.int .i64 (-1)));clear OO QQ QS BL HBS;generalize zF (zk Q0 R0 m).2 t=B at *;generalize (zk Q0 R0 m).1.getD B 0=a at *;go_wp2
         go_roundg (G-1)
         case measure=>have:=HM.out;omega
         case rel=>exact⟨m+1,by have:=HM.out;omega,by go_num,by rw[E1.out];exact HF3.out,by rw[E2.out];exact HF4.out,HF5.out⟩
      ·obtain rfl:m=lf:=by have:=HM.out;omega
       have O5:=za (show OwnI .i64 2 W w.heap.size (.slice (some ⟨g1,0,none⟩) j cap1) (zG xs) by rw[HEX.out];exact HO.out);clear HO HQ;go_wp2;exact bodyPost_ret (v:=.tuple #[.slice (some ⟨g1,0,none⟩) j cap1,.int .i64 0]) (by simp[results,Tryz.results177,go_sem]) rfl ⟨_,rfl,O5.out,HB.out⟩
def zbP (l:List Int):List Int:=l.map λx=>zN (x*1073741824) (zP l)
def zeW (l:List Int):Prop:=l.length % 2=1/\l.length<=1024/\1<=zP l/\zP l<=1048576
theorem znW (xs:List Int) (ad:Option Addr) (cap:Nat) (w:World) (hr:RowAt .i64 w ad xs) (hx:zad xs) (hl:xs.length<=9223372036854775807) (h:¬zeW xs) :
  Calls Tryz.prog 160 #[.slice ad xs.length cap] w λe w'=>e=.returned (.tuple #[.slice none 0 0,.int .i64 7])/\Below w.heap.size w w':=by
 have CS:=λw hr=>zhu xs ad cap w hr hx hl
 obtain⟨s0,s1⟩:=zdB xs;unfold zeW at h;have HR:=za hr;clear hr hx;generalize zP xs=s at *;generalize xs.length=n at *
 by_cases a1:n % 2=1
 ·by_cases a2:n<=1024
  ·by_cases a3:1<=s
   ·have a4:1048576<s:=by omega
    have b1:((n:Int) % 2 == 0)=false:=beq_eq_false_iff_ne.2 (by omega);have b2:(s == 0)=false:=beq_eq_false_iff_ne.2 (by omega);clear h a1
    go_enter Tryz.func160,Tryz.ntmps160
    go_wp2_with (go_at_call 179;(with_reducible refine(CS _ HR.out).mono ?_);rintro e w1 ⟨rfl,rfl⟩)
    exact bodyPost_ret (v:=.tuple #[.slice none 0 0,.int .i64 7]) (by simp[results,Tryz.results160,go_sem]) rfl ⟨rfl,Below.refl _ _⟩
   ·obtain rfl:s=0:=by omega
    have b1:((n:Int) % 2 == 0)=false:=beq_eq_false_iff_ne.2 (by omega);clear h a1
    go_enter Tryz.func160,Tryz.ntmps160
    go_wp2_with (go_at_call 179;(with_reducible refine(CS _ HR.out).mono ?_);rintro e w1 ⟨rfl,rfl⟩)
    exact bodyPost_ret (v:=.tuple #[.slice none 0 0,.int .i64 7]) (by simp[results,Tryz.results160,go_sem]) rfl ⟨rfl,Below.refl _ _⟩
  ·have b1:((n:Int) % 2 == 0)=false:=beq_eq_false_iff_ne.2 (by omega);have b3:(1024:Int)<(n:Int):=by omega
   clear h a1
   go_enter Tryz.func160,Tryz.ntmps160
   go_wp2_with (go_at_call 179;(with_reducible refine(CS _ HR.out).mono ?_);rintro e w1 ⟨rfl,rfl⟩)
   exact bodyPost_ret (v:=.tuple #[.slice none 0 0,.int .i64 7]) (by simp[results,Tryz.results160,go_sem]) rfl ⟨rfl,Below.refl _ _⟩
 ·have b1:((n:Int) % 2 == 0)=true:=beq_iff_eq.2 (by omega);clear h a1
  go_enter Tryz.func160,Tryz.ntmps160
  go_wp2_with (go_at_call 179;(with_reducible refine(CS _ HR.out).mono ?_);rintro e w1 ⟨rfl,rfl⟩)
  exact bodyPost_ret (v:=.tuple #[.slice none 0 0,.int .i64 7]) (by simp[results,Tryz.results160,go_sem]) rfl ⟨rfl,Below.refl _ _⟩
set_option maxHeartbeats 4000000 in
set_option maxRecDepth 1000000 in
theorem zjO (xs:List Int) (ad:Option Addr) (cap:Nat) (w:World) (hr:RowAt .i64 w ad xs) (hx:zad xs) (h:zeW xs) :
  Calls Tryz.prog 160 #[.slice ad xs.length cap] w λe w'=>∃ v,e=.returned (.tuple #[v,.int .i64 0])/\OwnI .i64 2 w' w.heap.size v (zbP xs)/\Below w.heap.size w w':=by
 obtain⟨p0,p1,s0,s1⟩:=h;have CS:=λw hr=>zhu xs ad cap w hr hx (by omega)
 obtain⟨i0,hi,hz0,hz1,hz2⟩:=info_parts zg3;have HR:=za hr;have HX:=za hx;have HE:=za (show zbP xs=xs.map λx=>zN (x*1073741824) (zP xs) from rfl);clear hr hx;obtain⟨n,hn⟩:∃ n,xs.length=n:=⟨_,rfl⟩;have HN:=za hn;rw[hn]at p0 p1 CS ⊢;generalize zP xs=s at *;generalize zbP xs=us at *;have b1:((n:Int) % 2 == 0)=false:=beq_eq_false_iff_ne.2 (by omega);have b2:(s == 0)=false:=beq_eq_false_iff_ne.2 (by omega);clear hn p0
 go_enter Tryz.func160,Tryz.ntmps160
 go_wp2_with (go_at_call 179;(with_reducible refine(CS _ HR.out).mono ?_);rintro e w1 ⟨rfl,rfl⟩)
 clear CS
 go_loopw [5,29] (λu i wr=>∃ j:Nat,j<=n/\i=.int .i64 (j:Int)/\OwnI .i64 2 wr w.heap.size u ((xs.take j).map λx=>zN (x*1073741824) s)/\Below w.heap.size w wr) (λ_ i _=>n-(intOf i).toNat)
 case atStart=>exact⟨0,by omega,rfl,OwnI.nil _ _ _ _,Below.refl _ _⟩
 case round =>
  obtain⟨j,hj,rfl,ho,hb⟩:=hrel;have HO:=za ho;have HB:=za hb;clear ho hb
  by_cases hlt:j<n
  ·obtain⟨b,off,rfl,hc⟩:=(HR.out.below HB.out).get (show j<xs.length by rw[HN.out];exact hlt);obtain⟨x0,x1⟩:=HX.out j (by rw[HN.out];exact hlt);have CM:=λw=>zbv (xs.getD j 0) 1073741824 s _ rfl x0 x1 (by omega) (by omega) (by omega) (by omega) w
   have HT:=za (zb5 xs (show j<xs.length by rw[HN.out];exact hlt));have HL:=za (show((xs.take j).map λx=>zN (x*1073741824) s).length=j by rw[List.length_map,List.length_take];have:=HN.out;omega);generalize xs.getD j 0=x at *;generalize hqe:zN (x*1073741824) s=q at *;have HQE:=za hqe;clear hqe
   go_wp2_with (first
    |(go_at_call 180;(with_reducible refine(CM _).mono ?_);rintro e w2 ⟨rfl,b2⟩)
    |(at_builtin;refine wpList_append_own _ rfl _ _ 28 rfl w.heap.size 2 i0 (.int .i64 0) 1 8 Tryz.underlying28 hi hz0 hz1 hz2 rfl (by decide) _ _ _ rfl ((HO.out.below b2).alloc _) ⟨w2.heap.size,0,none⟩ 1 1 [.int .i64 q] rfl rfl (zea _ _ _) (zeg _ _) (by rw[HL.out];unfold maxLen;omega) (by rw[HL.out];omega) (by have:=HB.out.size;have:=b2.size;simp;omega) ?_;intro u' w3 own3 grow3 _))
   have R:=za (zi4 (bt HB.out b2) (HO.out.below b2) own3 grow3);clear own3 grow3 b2 CM;go_wp2
   go_roundw
   case rel=>exact⟨j+1,by omega,by go_num,by rw[HT.out,List.map_append,List.map_singleton,HQE.out];exact R.out.1,R.out.2⟩
   case measure=>simp[intOf];omega
  ·obtain rfl:j=n:=by omega
   have et:xs.take j=xs:=List.take_of_length_le (by rw[HN.out];exact Nat.le_refl _);have O2:=HO.out;rw[et,←HE.out]at O2;have HO2:=za O2;clear O2 HO et;go_wp2;exact bodyPost_ret (v:=.tuple #[_,.int .i64 0]) (by simp[results,Tryz.results160,go_sem]) rfl ⟨_,rfl,HO2.out,HB.out⟩
def zdQ (s:Int):Int:=(3*s+65535) / 65536
def zbN (r s:Int) (j:Nat):List Int:=(List.range j).map λk:Nat=>zc2 ((k:Int)-r) s
theorem zhU (r s:Int) (j:Nat):zbN r s (j+1)=zbN r s j++[zc2 ((j:Int)-r) s]:=by unfold zbN;rw[List.range_succ,List.map_append];rfl
theorem zcB (r s:Int) (j:Nat):(zbN r s j).length=j:=by unfold zbN;rw[List.length_map,List.length_range]
def zc6 (s:Int):List Int:=zbN (zdQ s) s (2*(zdQ s).toNat+1)
theorem zjX (s:Int) (h:s<1\/4194304<s) (w:World) :
  Calls Tryz.prog 158 #[.int .i64 s] w λe w'=>e=.returned (.tuple #[.slice none 0 0,.int .i64 7])/\Below w.heap.size w w':=by
 rcases h with h|h
 all_goals
  go_enter Tryz.func158,Tryz.ntmps158
  go_wp2;exact bodyPost_ret (v:=.tuple #[.slice none 0 0,.int .i64 7]) (by simp[results,Tryz.results158,go_sem]) rfl ⟨rfl,Below.refl _ _⟩
set_option maxHeartbeats 4000000 in
set_option maxRecDepth 1000000 in
theorem zkz (s:Int) (s0:1<=s) (s1:s<=4194304) (w:World) :
  Calls Tryz.prog 158 #[.int .i64 s] w λe w'=>∃ v,e=.returned (.tuple #[v,.int .i64 0])/\OwnI .i64 2 w' w.heap.size v (zc6 s)/\Below w.heap.size w w':=by
 obtain⟨i0,hi,hz0,hz1,hz2⟩:=info_parts zg3;obtain⟨r,hr⟩:∃ r,zdQ s=r:=⟨_,rfl⟩;have hr2:=hr;unfold zdQ at hr2;have r0:0<=r:=by omega
 have r1:r<=192:=by omega
 have ra:3*s<=r*65536:=by omega
 have rb:r*65536<3*s+65536:=by omega
 have HG:=za (show zc6 s=zbN r s (2*r.toNat+1) by unfold zc6;rw[hr]);generalize zc6 s=gs at *;clear hr hr2
 go_enter Tryz.func158,Tryz.ntmps158
 go_wp2
 go_loop [4] (λx=>∃ t:Int,x=.int .i64 t/\0<=t/\t<=r) (λx=>(r-intOf x).toNat)
 case atStart=>exact⟨0,rfl,by omega,r0⟩
 case round =>
  obtain⟨t,rfl,t0,t1⟩:=hrel
  by_cases hlt:t<r
  ·have g:t*65536<3*s:=by omega
   go_wp2
   go_round
   case rel=>exact⟨t+1,by go_num,by omega,by omega⟩
   case measure=>simp[intOf];omega
  ·obtain rfl:t=r:=by omega
   have g:¬t*65536<3*s:=by omega
   go_wp2
   go_loopw [5,6] (λu d wr=>∃ j:Nat,(j:Int)<=2*t+1/\d=.int .i64 ((j:Int)-t)/\OwnI .i64 2 wr w.heap.size u (zbN t s j)/\Below w.heap.size w wr) (λ_ d _=>(2*t+2-(intOf d+t)).toNat)
   case atStart=>exact⟨0,by omega,by simp,OwnI.nil _ _ _ _,Below.refl _ _⟩
   case round =>
    obtain⟨j,hj,rfl,ho,hb⟩:=hrel;have HO:=za ho;have HB:=za hb;clear ho hb
    by_cases hlt2:(j:Int)<2*t+1
    ·have CG:=λw=>zmF ((j:Int)-t) s (by omega) (by omega) (by omega) (by omega) w
     have HL:=za (zcB t s j);have HRS:=za (zhU t s j);generalize zc2 ((j:Int)-t) s=q at *
     go_wp2_with (first
      |(go_at_call 178;(with_reducible refine(CG _).mono ?_);rintro e w2 ⟨rfl,b2⟩)
      |(at_builtin;refine wpList_append_own _ rfl _ _ 28 rfl w.heap.size 2 i0 (.int .i64 0) 1 8 Tryz.underlying28 hi hz0 hz1 hz2 rfl (by decide) _ _ _ rfl ((HO.out.below b2).alloc _) ⟨w2.heap.size,0,none⟩ 1 1 [.int .i64 q] rfl rfl (zea _ _ _) (zeg _ _) (by rw[HL.out];unfold maxLen;omega) (by rw[HL.out];omega) (by have:=HB.out.size;have:=b2.size;simp;omega) ?_;intro u' w3 own3 grow3 _))
     have R:=za (zi4 (bt HB.out b2) (HO.out.below b2) own3 grow3);clear own3 grow3 b2 CG;go_wp2
     go_roundw
     case rel=>exact⟨j+1,by omega,by first|go_num|(rw[show((j+1:Nat):Int)-t=(j:Int)-t+1 by omega]),by rw[HRS.out];exact R.out.1,R.out.2⟩
     case measure=>simp[intOf];omega
    ·have ej:j=2*t.toNat+1:=by omega
     have O2:=HO.out;rw[ej,←HG.out]at O2;have HO2:=za O2;clear O2 HO ej;go_wp2;exact bodyPost_ret (v:=.tuple #[_,.int .i64 0]) (by simp[results,Tryz.results158,go_sem]) rfl ⟨_,rfl,HO2.out,HB.out⟩
theorem zoh (r:Int) (h:r<0\/511<r) (w:World) :
  Calls Tryz.prog 159 #[.int .i64 r] w λe w'=>e=.returned (.tuple #[.slice none 0 0,.int .i64 7])/\Below w.heap.size w w':=by
 rcases h with h|h
 all_goals
  go_enter Tryz.func159,Tryz.ntmps159
  go_wp2;exact bodyPost_ret (v:=.tuple #[.slice none 0 0,.int .i64 7]) (by simp[results,Tryz.results159,go_sem]) rfl ⟨rfl,Below.refl _ _⟩
theorem zhl (n:Nat) (h:n<=2000):zP (List.replicate n 1)=n:=by
 induction n with
 |zero=>rfl
 |succ n ih =>
  rw[List.replicate_succ',zen,ih (by omega)];have e:zaK 1=1:=by decide
  rw[e];unfold zcD;rw[zH (by omega) (by omega)];omega
theorem zkX (r:Nat) (h:r<=511):zeW (List.replicate (2*r+1) 1):=by
 unfold zeW;rw[zhl _ (by omega),List.length_replicate];omega
theorem zpp (n:Nat):zad (List.replicate n 1):=by
 intro j hj;rw[List.getD_eq_getElem?_getD,List.getElem?_eq_getElem hj,List.getElem_replicate]
 simp
set_option maxHeartbeats 4000000 in
set_option maxRecDepth 1000000 in
theorem zpQ (r:Nat) (h:r<=511) (w:World) :
  Calls Tryz.prog 159 #[.int .i64 (r:Int)] w λe w'=>∃ v,e=.returned (.tuple #[v,.int .i64 0])/\OwnI .i64 2 w' w.heap.size v (zbP (List.replicate (2*r+1) 1))/\Below w.heap.size w w':=by
 obtain⟨i0,hi,hz0,hz1,hz2⟩:=info_parts zg3;have HU:=za (zkX r h);have HG:=za (show ∀ u:List Int,u=zbP (List.replicate (2*r+1) 1)->u=zbP (List.replicate (2*r+1) 1) from λ_ h=>h);obtain⟨us,hus⟩:∃ us,us=zbP (List.replicate (2*r+1) 1):=⟨_,rfl⟩;have HUS:=za hus;rw[←hus];clear hus HG
 go_enter Tryz.func159,Tryz.ntmps159
 go_wp2
 go_loopw [4,14] (λu i wr=>∃ j:Nat,j<=2*r+1/\i=.int .i64 (j:Int)/\OwnI .i64 2 wr w.heap.size u (List.replicate j 1)/\Below w.heap.size w wr) (λ_ i _=>2*r+1-(intOf i).toNat)
 case atStart=>exact⟨0,by omega,rfl,OwnI.nil _ _ _ _,Below.refl _ _⟩
 case round =>
  obtain⟨j,hj,rfl,ho,hb⟩:=hrel;have HO:=za ho;have HB:=za hb;clear ho hb
  by_cases hlt:j<2*r+1
  ·have HL:=za (show(List.replicate j (1:Int)).length=j from List.length_replicate);have HRS:=za (show List.replicate (j+1) (1:Int)=List.replicate j 1++[1] from List.replicate_succ');have hlt':(j:Int)<2*(r:Int)+1:=by omega
   go_wp2_with (at_builtin;refine wpList_append_own _ rfl _ _ 28 rfl w.heap.size 2 i0 (.int .i64 0) 1 8 Tryz.underlying28 hi hz0 hz1 hz2 rfl (by decide) _ _ _ rfl (HO.out.alloc _) ⟨wr.heap.size,0,none⟩ 1 1 [.int .i64 1] rfl rfl (zea _ _ _) (zeg _ _) (by rw[HL.out];unfold maxLen;omega) (by rw[HL.out];omega) (by have:=HB.out.size;simp;omega) ?_;intro u' w3 own3 grow3 _)
   have R:=za (zi4 HB.out HO.out own3 grow3);clear own3 grow3;go_wp2
   go_roundw
   case rel=>exact⟨j+1,by omega,by go_num,by rw[HRS.out];exact R.out.1,R.out.2⟩
   case measure=>simp[intOf];omega
  ·obtain rfl:j=2*r+1:=by omega
   have hge:¬((2*r+1:Nat):Int)<2*(r:Int)+1:=by omega
   obtain⟨ad,cap,rfl,RA,_⟩:=HO.out.form;have CU:=zjO (List.replicate (2*r+1) 1) ad cap wr RA (zpp _) HU.out;rw[←HUS.out]at CU;rw[List.length_replicate]at CU ⊢;clear RA HU HUS hlt hj
   go_wp2_with (go_at_call 160;(with_reducible refine CU.mono ?_);rintro e w2 ⟨v,rfl,ov,b2⟩)
   exact bodyPost_ret (v:=.tuple #[v,.int .i64 0]) (by simp[results,Tryz.results159,go_sem]) rfl ⟨_,rfl,ov.mono HB.out.size,bt HB.out b2⟩
def AllK (k:IntKind) (xs:List Int):Prop:=∀ n ∈ xs,(Lit.int k n).wf=true
theorem znu {k:IntKind} {w:World} {a:Option Addr} {len cap:Nat}
  (h:(a=none/\len=0/\cap=0)\/∃ (x:Addr) (zs:List Int),a=some x/\len<=cap/\cap<=maxLen/\zs.length=cap/\(∀ i,i<zs.length->w.cell? (x.add i)=some (.int k (zs.getD i 0)))/\∀ n ∈ zs,(Lit.int k n).wf=true) :
  ∃ xs:List Int,xs.length=len/\RowAt k w a xs/\AllK k xs/\xs.length<=maxLen/\(a=none->cap=0):=by
 rcases h with⟨rfl,rfl,rfl⟩|⟨x,zs,rfl,hl,hm,hz,hc,hw⟩
 ·exact⟨[],rfl,Or.inl rfl,(λn hn=>by cases hn),by simp,λ_=>rfl⟩
 ·refine⟨zs.take len,by rw[List.length_take];omega,?_,λn hn=>hw n (List.mem_of_mem_take hn),by rw[List.length_take];omega,λh=>by cases h⟩
  by_cases h0:len=0
  ·subst h0;exact Or.inl rfl
  ·obtain⟨b,off,rfl,c⟩:=ints_at hc (by omega);refine Or.inr ⟨b,off,rfl,λj hj=>?_⟩;rw[List.length_take]at hj;have:=c j (by omega);rw[this,List.getD_eq_getElem?_getD,List.getD_eq_getElem?_getD,List.getElem?_take,if_pos (by omega)]
theorem zku {k:IntKind} {xs:List Int} (h:AllK k xs) {j:Nat} (hj:j<xs.length):(Lit.int k (xs.getD j 0)).wf=true:=by
 rw[List.getD_eq_getElem?_getD,List.getElem?_eq_getElem hj];exact h _ (List.getElem_mem hj)
theorem zuQ {xs:List Int} (h:AllK .i64 xs) {j:Nat} (hj:j<xs.length) : -9223372036854775808<=xs.getD j 0/\xs.getD j 0<=9223372036854775807:=by
 simpa [Lit.wf,IntKind.min,IntKind.max,IntKind.signed,IntKind.bits] using zku h hj
theorem zyr {xs:List Int} (h:AllK .i32 xs) {j:Nat} (hj:j<xs.length) : -2147483648<=xs.getD j 0/\xs.getD j 0<=2147483647:=by
 simpa [Lit.wf,IntKind.min,IntKind.max,IntKind.signed,IntKind.bits] using zku h hj
theorem zys {xs:List Int} (h:AllK .u8 xs) {j:Nat} (hj:j<xs.length):0<=xs.getD j 0/\xs.getD j 0<=255:=by
 simpa [Lit.wf,IntKind.min,IntKind.max,IntKind.signed,IntKind.bits] using zku h hj
def Ret (k:IntKind) (xs:List Int) (w:World) (v:Value):Prop:=∃ ad cap,v=.slice ad xs.length cap/\RowAt k w ad xs
theorem OwnI.ret {k:IntKind} {T:TypeId} {w:World} {base:Nat} {v:Value} {xs:List Int} (h:OwnI k T w base v xs):Ret k xs w v:=by
 obtain⟨ad,cap,h1,h2,_⟩:=h.form;exact⟨ad,cap,h1,h2⟩
theorem zcG (k:IntKind) (w:World) (ad:Option Addr) (cap:Nat):Ret k [] w (.slice ad 0 cap):=⟨ad,cap,rfl,Or.inl rfl⟩
theorem Ret.below {k:IntKind} {xs:List Int} {w w':World} {v:Value} (h:Ret k xs w v) (hb:Below w.heap.size w w'):Ret k xs w' v:=by
 obtain⟨ad,cap,h1,h2⟩:=h;exact⟨ad,cap,h1,h2.below hb⟩
theorem Ret.formn {k:IntKind} {w:World} {n:Nat} {v:Value} {xs:List Int} (h:Ret k xs w v) (hn:xs.length=n):∃ ad cap,v=.slice ad n cap/\RowAt k w ad xs:=by subst hn;exact h
def zfX (l:List Int):Bool:=decide (l.length<1) || decide (1048576<l.length) || l.any (λx=>decide (x < -1099511627776) || decide (1099511627776<x))
def zX (l:List Int):Int:=if zfX l=true then 7 else if zr l<268435456 then 8 else 0
def zc4 (l:List Int):List Int:=if zX l=0 then zG l else[]
theorem zeR (l:List Int):zfX l=true↔l.length<1\/1048576<l.length\/¬∀ x ∈ l,zaa x:=by
 unfold zfX zaa;rw[Bool.or_eq_true,Bool.or_eq_true,decide_eq_true_eq,decide_eq_true_eq,List.any_eq_true]
 constructor
 ·rintro ((h|h)|⟨x,hx,h⟩)
  ·exact Or.inl h
  ·exact Or.inr (Or.inl h)
  ·refine Or.inr (Or.inr λg=>?_);have:=g x hx;simp at h;omega
 ·rintro (h|h|h)
  ·exact Or.inl (Or.inl h)
  ·exact Or.inl (Or.inr h)
  ·refine Or.inr ?_;simp only[Classical.not_forall]at h;obtain⟨x,hx,g⟩:=h;refine⟨x,hx,?_⟩
   simp
   omega
theorem zap {l:List Int}:zX l=0↔Fits l:=by
 unfold zX;have B:=zeR l
 constructor
 ·intro h
  by_cases g:zfX l=true
  ·rw[if_pos g]at h;omega
  ·rw[if_neg g]at h
   by_cases g2:zr l<268435456
   ·rw[if_pos g2]at h;omega
   ·have nb:¬(l.length<1\/1048576<l.length\/¬∀ x ∈ l,zaa x):=λq=>g (B.2 q)
    refine⟨?_,?_,?_,by omega⟩
    ·by_cases q:l.length<1
     ·exact absurd (Or.inl q) nb
     ·omega
    ·by_cases q:1048576<l.length
     ·exact absurd (Or.inr (Or.inl q)) nb
     ·omega
    ·exact Classical.byContradiction λq=>nb (Or.inr (Or.inr q))
 ·rintro ⟨h0,h1,h2,h3⟩;have g:¬zfX l=true:=λq=>by
   rcases B.1 q with h|h|h
   ·omega
   ·omega
   ·exact h h2
  rw[if_neg g,if_neg (by omega)]
theorem zq4 (xs:List Int) (ad:Option Addr) (cap:Nat) (w:World) (hr:RowAt .i64 w ad xs) (hx:zad xs) (hl:xs.length<=9223372036854775807) :
  Calls Tryz.prog 177 #[.slice ad xs.length cap] w λe w'=>∃ v,e=.returned (.tuple #[v,.int .i64 (zX xs)])/\Ret .i64 (zc4 xs) w' v/\Below w.heap.size w w':=by
 by_cases hf:Fits xs
 ·have e:=zap.2 hf;have e2:zc4 xs=zG xs:=by unfold zc4;rw[if_pos e]
  rw[e,e2];refine(ziL xs ad cap w hr hx hf).mono ?_;rintro e w1 ⟨v,rfl,o,b⟩;exact⟨v,rfl,o.ret,b⟩
 ·have e:zX xs≠0:=λg=>hf (zap.1 g)
  have e2:zc4 xs=[]:=by unfold zc4;rw[if_neg e]
  rw[e2]
  by_cases hb:zfX xs=true
  ·have e3:zX xs=7:=by unfold zX;rw[if_pos hb]
   rw[e3]
   by_cases g:xs.length<1\/1048576<xs.length
   ·refine(zqI xs ad cap w hl g).mono ?_;rintro e w1 ⟨rfl,b⟩;exact⟨_,rfl,zcG _ _ _ _,b⟩
   ·have g2:¬∀ x ∈ xs,zaa x:=by
     rcases(zeR xs).1 hb with h|h|h
     ·exact absurd (Or.inl h) g
     ·exact absurd (Or.inr h) g
     ·exact h
    refine(zre xs ad cap w hr hx (by omega) (by omega) g2).mono ?_;rintro e w1 ⟨rfl,b⟩;exact⟨_,rfl,zcG _ _ _ _,b⟩
  ·have nb:¬(xs.length<1\/1048576<xs.length\/¬∀ x ∈ xs,zaa x):=λq=>hb ((zeR xs).2 q)
   have h0:1<=xs.length:=by
    by_cases q:xs.length<1
    ·exact absurd (Or.inl q) nb
    ·omega
   have h1:xs.length<=1048576:=by
    by_cases q:1048576<xs.length
    ·exact absurd (Or.inr (Or.inl q)) nb
    ·omega
   have h2:∀ x ∈ xs,zaa x:=Classical.byContradiction λq=>nb (Or.inr (Or.inr q))
   have h3:zr xs<268435456:=by
    by_cases q:zr xs<268435456
    ·exact q
    ·exact absurd ⟨h0,h1,h2,by omega⟩ hf
   have e3:zX xs=8:=by unfold zX;rw[if_neg hb,if_pos h3]
   rw[e3];refine(zp1 xs ad cap w hr hx h0 h1 h2 h3).mono ?_;rintro e w1 ⟨rfl,b⟩;exact⟨_,rfl,zcG _ _ _ _,b⟩
def zga (l:List Int):Bool:=decide (l.length % 2=1) && decide (l.length<=1024) && decide (1<=zP l) && decide (zP l<=1048576)
theorem zdI (l:List Int):zga l=true↔zeW l:=by unfold zga zeW;simp;omega
def zY (l:List Int):Int:=if zga l=true then 0 else 7
def zJ (l:List Int):List Int:=if zga l=true then zbP l else[]
theorem ziV (xs:List Int) (ad:Option Addr) (cap:Nat) (w:World) (hr:RowAt .i64 w ad xs) (hx:zad xs) (hl:xs.length<=9223372036854775807) :
  Calls Tryz.prog 160 #[.slice ad xs.length cap] w λe w'=>∃ v,e=.returned (.tuple #[v,.int .i64 (zY xs)])/\Ret .i64 (zJ xs) w' v/\Below w.heap.size w w':=by
 unfold zY zJ
 by_cases hu:zga xs=true
 ·rw[if_pos hu,if_pos hu];refine(zjO xs ad cap w hr hx ((zdI xs).1 hu)).mono ?_;rintro e w1 ⟨v,rfl,o,b⟩;exact⟨v,rfl,o.ret,b⟩
 ·rw[if_neg hu,if_neg hu];refine(znW xs ad cap w hr hx hl (λq=>hu ((zdI xs).2 q))).mono ?_;rintro e w1 ⟨rfl,b⟩;exact⟨_,rfl,zcG _ _ _ _,b⟩
def zbc (s:Int):Int:=if 1<=s/\s<=4194304 then 0 else 7
def zS (s:Int):List Int:=if 1<=s/\s<=4194304 then zc6 s else[]
theorem zjw (s:Int) (w:World) :
  Calls Tryz.prog 158 #[.int .i64 s] w λe w'=>∃ v,e=.returned (.tuple #[v,.int .i64 (zbc s)])/\Ret .i64 (zS s) w' v/\Below w.heap.size w w':=by
 unfold zbc zS
 by_cases h:1<=s/\s<=4194304
 ·rw[if_pos h,if_pos h];refine(zkz s h.1 h.2 w).mono ?_;rintro e w1 ⟨v,rfl,o,b⟩;exact⟨v,rfl,o.ret,b⟩
 ·rw[if_neg h,if_neg h];refine(zjX s (by omega) w).mono ?_;rintro e w1 ⟨rfl,b⟩;exact⟨_,rfl,zcG _ _ _ _,b⟩
def za5 (r:Int):Int:=if 0<=r/\r<=511 then 0 else 7
def zM (r:Int):List Int:=if 0<=r/\r<=511 then zbP (List.replicate (2*r.toNat+1) 1) else[]
theorem zn9 (r:Int) (w:World) :
  Calls Tryz.prog 159 #[.int .i64 r] w λe w'=>∃ v,e=.returned (.tuple #[v,.int .i64 (za5 r)])/\Ret .i64 (zM r) w' v/\Below w.heap.size w w':=by
 unfold za5 zM
 by_cases h:0<=r/\r<=511
 ·rw[if_pos h,if_pos h];obtain⟨n,rfl⟩:∃ n:Nat,r=(n:Int):=⟨r.toNat,by omega⟩;refine(zpQ n (by omega) w).mono ?_;rintro e w1 ⟨v,rfl,o,b⟩;exact⟨v,rfl,o.ret,b⟩
 ·rw[if_neg h,if_neg h];refine(zoh r (by omega) w).mono ?_;rintro e w1 ⟨rfl,b⟩;exact⟨_,rfl,zcG _ _ _ _,b⟩
def zyq (K:World->Prop):Prop:=∀ (xs:List Int) (ad:Option Addr) (cap:Nat) (w:World),K w->RowAt .i64 w ad xs->zad xs->xs.length<=9223372036854775807 ->
 Calls Tryz.prog 142 #[.slice ad xs.length cap] w λe w'=>∃ v,e=.returned (.tuple #[v,.int .i64 (zX xs)])/\Ret .i64 (zc4 xs) w' v/\Below w.heap.size w w'
def zyp (K:World->Prop):Prop:=∀ (s:Int) (w:World),K w->-9223372036854775808<=s->s<=9223372036854775807 ->
 Calls Tryz.prog 144 #[.int .i64 s] w λe w'=>∃ v,e=.returned (.tuple #[v,.int .i64 (zbc s)])/\Ret .i64 (zS s) w' v/\Below w.heap.size w w'
def LinesAt (w:World) (g:Nat) (L:List (Int×List Int)):Prop :=
 ∀ j,j<L.length->w.cell? ⟨g,j*2,none⟩=some (.int .i64 (zf L j).1)/\∃ u,w.cell? ⟨g,j*2+1,none⟩=some u/\Ret .i64 (zf L j).2 w u
theorem LinesAt.below {w w':World} {g:Nat} {L:List (Int×List Int)} (h:LinesAt w g L) (hb:Below w.heap.size w w'):LinesAt w' g L:=by
 intro j hj;obtain⟨h1,u,h2,h3⟩:=h j hj;exact⟨cb hb (ze h1) h1,u,cb hb (ze h2) h2,h3.below hb⟩
def zds:List (Int×List Int)->List Value->List Value
 |x :: L,u :: us=>.int .i64 x.1 :: u :: zds L us
 |_,_=>[]
theorem zol {L:List (Int×List Int)} {us:List Value} (h:us.length=L.length) (x:Int×List Int) (u:Value):zds (L++[x]) (us++[u])=zds L us++[.int .i64 x.1,u]:=by
 induction L generalizing us with
 |nil=>rw[List.eq_nil_of_length_eq_zero h];rfl
 |cons y L ih =>
  cases us with
  |nil=>simp at h
  |cons v us =>
   show _ :: _ :: zds (L++[x]) (us++[u])=_
   rw[ih (by simpa using h)];rfl
theorem zq6 {L:List (Int×List Int)} {us:List Value} (h:us.length=L.length) {j:Nat} (hj:j<L.length):(zds L us)[2*j]?=some (.int .i64 (zf L j).1)/\(zds L us)[2*j+1]?=some (us.getD j undef):=by
 induction L generalizing us j with
 |nil=>simp at hj
 |cons y L ih =>
  cases us with
  |nil=>simp at h
  |cons v us =>
   cases j with
   |zero=>exact⟨rfl,rfl⟩
   |succ j =>
    have:=ih (us:=us) (by simpa using h) (j:=j) (by simpa using hj)
    show(Value.int .i64 y.1 :: v :: zds L us)[2*(j+1)]?=_/\(Value.int .i64 y.1 :: v :: zds L us)[2*(j+1)+1]?=_
    rw[show 2*(j+1)=2*j+1+1 by omega];exact this
theorem zuC {us:List Value} {u:Value} {j:Nat} (h:j<us.length):(us++[u]).getD j undef=us.getD j undef:=by
 rw[List.getD_eq_getElem?_getD,List.getD_eq_getElem?_getD,List.getElem?_append_left h]
theorem ztT (us:List Value) (u:Value):(us++[u]).getD us.length undef=u:=by
 rw[List.getD_eq_getElem?_getD,List.getElem?_append_right (Nat.le_refl _),Nat.sub_self];rfl
def OwnLs (T:TypeId) (w:World) (base:Nat) (v:Value) (L:List (Int×List Int)):Prop :=
 ∃ us:List Value,us.length=L.length/\w.ownsRow base T 2 v L.length (zds L us)/\∀ j,j<L.length->OwnI .i64 2 w base (us.getD j undef) (zf L j).2
theorem OwnLs.nil (T:TypeId) (w:World) (base:Nat):OwnLs T w base (.slice none 0 0) []:=⟨[],rfl,World.ownsRow_nil _ _ _ _,λ_ h=>absurd h (Nat.not_lt_zero _)⟩
theorem zjg {T:TypeId} {w w':World} {base k:Nat} {v:Value} {n:Nat} {xs:List Value} (h:w.ownsRow base T k v n xs) (hb:Below w.heap.size w w'):w'.ownsRow base T k v n xs:=by
 refine⟨h.1,?_⟩;rcases h.2 with h2|⟨g,cap,cur,hv,hB,hg,r⟩
 ·exact .inl h2
 ·refine .inr ⟨g,cap,cur,hv,hB,?_,r⟩;have hlt:g<w.heap.size:=by
   rcases Nat.lt_or_ge g w.heap.size with hlt|hge
   ·exact hlt
   ·rw[Array.getElem?_eq_none hge]at hg;cases hg
  rw[hb.block g hlt];exact hg
theorem OwnLs.below {T:TypeId} {w w':World} {base:Nat} {v:Value} {L:List (Int×List Int)} (h:OwnLs T w base v L) (hb:Below w.heap.size w w'):OwnLs T w' base v L:=by
 obtain⟨us,h1,h2,h3⟩:=h;exact⟨us,h1,zjg h2 hb,λj hj=>(h3 j hj).below hb⟩
theorem zgk {T T':TypeId} (hne:T≠T') {w:World} {base base' k k':Nat} {v v':Value} {n n':Nat} {xs xs':List Value} (h:w.ownsRow base T k v n xs) (h':w.ownsRow base' T' k' v' n' xs'):Apart v v':=by
 intro g hg hg';rcases h.2 with⟨hv,_⟩|⟨b,cap,cur,hv,_,hb,_⟩
 ·subst hv;cases hg
 ·rcases h'.2 with⟨hv',_⟩|⟨b',cap',cur',hv',_,hb',_⟩
  ·subst hv';cases hg'
  ·subst hv;subst hv';obtain rfl:=Option.some.inj hg;obtain rfl:=Option.some.inj hg';rw[hb]at hb'
   injection hb' with hb'
   injection hb' with _ ht
   exact hne ht
theorem OwnLs.more {T:TypeId} (hT:2≠T) {w0 wc w2:World} {v v' u:Value} {L:List (Int×List Int)} {x:Int×List Int} {o:Obj} (hb:Below w0.heap.size w0 wc) {us:List Value} (hu:us.length=L.length)
  (hown:wc.ownsRow w0.heap.size T 2 v L.length (zds L us)) (hin:∀ j,j<L.length->OwnI .i64 2 wc w0.heap.size (us.getD j undef) (zf L j).2) (hx:OwnI .i64 2 wc w0.heap.size u x.2)
  (hown':w2.ownsRow w0.heap.size T 2 v' (L.length+1) (zds L us++[.int .i64 x.1,u])) (hgrow:(wc.alloc o).grownBy w2 v.ownBlock) :
  OwnLs T w2 w0.heap.size v' (L++[x])/\Below w0.heap.size w0 w2:=by
 have hs:=hb.size;refine⟨⟨us++[u],by rw[List.length_append,List.length_append,hu];rfl,?_,?_⟩,(hb.alloc (by omega) o).grown hgrow (by simp;omega) (λj hj=>(World.ownsRow.lt hown j hj).1)⟩
 ·rw[zol hu,List.length_append];exact hown'
 ·intro j hj;have K:∀ {y:Value} {xs:List Int},OwnI .i64 2 wc w0.heap.size y xs->OwnI .i64 2 w2 w0.heap.size y xs:=λ{y xs} hy=>OwnI.kept (hy.alloc o) hgrow (zgk hT (hy.alloc o) (World.ownsRow.alloc hown o))
  rw[List.length_append,List.length_singleton]at hj
  by_cases e:j=L.length
  ·subst e;rw[zgU,show(us++[u]).getD L.length undef=u by rw[←hu];exact ztT us u];exact K hx
  ·rw[zhc x (by omega),zuC (by omega)];exact K (hin j (by omega))
theorem OwnLs.read {T:TypeId} {w:World} {base:Nat} {v:Value} {L:List (Int×List Int)} (h:OwnLs T w base v L) (h0:L≠[]):∃ g cap,v=.slice (some ⟨g,0,none⟩) L.length cap/\g<w.heap.size/\LinesAt w g L:=by
 obtain⟨us,h1,h2,h3⟩:=h;have hl:0<L.length:=List.length_pos_iff.2 h0;obtain⟨g,cap,hv,hlt⟩:∃ g cap,v=.slice (some ⟨g,0,none⟩) L.length cap/\g<w.heap.size:=by
  rcases h2.2 with⟨_,h0⟩|⟨g,cap,cur,hv,_,hg,_⟩
  ·omega
  ·refine⟨g,cap,hv,?_⟩;rcases Nat.lt_or_ge g w.heap.size with hlt|hge
   ·exact hlt
   ·rw[Array.getElem?_eq_none hge]at hg;cases hg
 subst hv;refine⟨g,cap,rfl,hlt,λj hj=>?_⟩;obtain⟨c1,c2⟩:=zq6 h1 hj;have e1:=World.ownsRow.cells h2 (g:=g) rfl _ _ c1;have e2:=World.ownsRow.cells h2 (g:=g) rfl _ _ c2;rw[zeO,Nat.zero_add]at e1 e2;rw[Nat.mul_comm 2 j]at e1 e2;exact⟨e1,_,e2,(h3 j hj).ret⟩
def zbZ (L:List (Int×List Int)):List Wnd:=L.map (λl=>(l.1,l.2.length))
theorem zdT (L:List (Int×List Int)):(zbZ L).length=L.length:=List.length_map ..
theorem zir {L:List (Int×List Int)} {k:Nat} (h:k<L.length):(zbZ L)[k]'(by rw[zdT];exact h)=((zf L k).1,(zf L k).2.length):=by
 rw[zmj h];unfold zbZ;rw[List.getElem_map]
theorem zts {L:List (Int×List Int)} {k:Nat} (h:k<L.length):zdi ((zbZ L).take (k+1))=max (zdi ((zbZ L).take k)) (zf L k).2.length:=by
 rw[List.take_succ_eq_append_getElem (by rw[zdT];exact h),zp2,zir h]
end Go.Proofs.YtlodkoimdoeopaaGreatDoor
