/- Parts, joined. -/
import Derived.Test.YtlodkoimdoeopaaGreatDoorP17
import Derived.Test.YtlodkoimdoeopaaGreatDoorP02
import Derived.Test.YtlodkoimdoeopaaGreatDoorP03
import Derived.Test.YtlodkoimdoeopaaGreatDoorP12
import Derived.Test.YtlodkoimdoeopaaGreatDoorP11
import Derived.Shelf.SlSortCmp.Whole1
namespace Go.Proofs.YtlodkoimdoeopaaGreatDoor
open Go.RowKit
theorem zvQ:(Tryz.prog.info? 3).map (λi=>(i.zero,i.size,i.bytes))=some (some (.int .i64 0),1,8):=by kernel_rfl
def zc2 (j:Nat):List Int:=(List.range j).map λk:Nat=>(k:Int)
theorem zoL (j:Nat):zc2 (j+1)=zc2 j++[(j:Int)]:=by unfold zc2;rw[List.range_succ,List.map_append];rfl
theorem zeK (j:Nat):(zc2 j).length=j:=by unfold zc2;rw[List.length_map,List.length_range]
theorem zpR {j n:Nat} (h:j<n):(zc2 n).getD j 0=(j:Int):=by
 unfold zc2;rw[List.getD_eq_getElem?_getD,List.getElem?_map,List.getElem?_range h];rfl
set_option maxHeartbeats 4000000 in
set_option maxRecDepth 1000000 in
theorem zrj (rs:List Int) (n:Nat) (ad:Option Addr) (cap:Nat) (w:World) (hn:rs.length=n) (n0:1<=n) (n1:n<=1048576) (hr:RowAt .i64 w ad rs) :
  Calls Tryz.prog 169 #[.slice ad n cap] w λe w'=>∃ g p,e=.returned (.slice (some ⟨g,0,none⟩) n n)/\Ranked rs p/\RowAt .i64 w' (some ⟨g,0,none⟩) (p.map λk:Nat=>(k:Int))/\w.heap.size<=g/\Below w.heap.size w w':=by
 obtain⟨i0,hi,hz0,hz1,hz2⟩:=info_parts zvQ;have HR:=za hr;have HN:=za hn;clear hr hn
 go_enter Tryz.func169,Tryz.ntmps169
 go_wp2_with (at_make;refine wpList_make_full _ rfl _ _ 239 rfl w.heap.size 3 i0 (.int .i64 0) 1 Tryz.underlying239 hi hz0 hz1 .i64 .i64 (n:Int) (n:Int) n rfl rfl rfl rfl (by rw[hz2];omega) (by unfold maxLen;omega) (by simp) ?_;intro w2 hown hgrow)
 have es:(w.alloc (.cells #[.slice ad n cap] 28)).heap.size=w.heap.size+1:=by simp
 rw[es]at hown;have own0:OwnI .i64 3 w2 w.heap.size (.slice (some ⟨w.heap.size+1,0,none⟩) n n) (zbC (zc2 0) n):=by
  rw[show zc2 0=[] from rfl,zdp];exact OwnI.made hown
 have B2:=zg4 (Below.refl _ (w.alloc (.cells #[.slice ad n cap] 28))) hgrow;rw[es]at B2;have hcell:(w.alloc (.cells #[.slice ad n cap] 28)).cell? ⟨w.heap.size,0,none⟩=some (.slice ad n cap):=by simp
 have HC:=za hcell;have HBA:=za (ba (Below.refl w.heap.size w) (.cells #[.slice ad n cap] 28));have HES:=za es;generalize w.alloc (.cells #[.slice ad n cap] 28)=wa at *;clear hown hgrow hcell es
 go_loopw [10] (λi wr=>∃ j:Nat,j<=n/\i=.int .i64 (j:Int)/\OwnI .i64 3 wr w.heap.size (.slice (some ⟨w.heap.size+1,0,none⟩) n n) (zbC (zc2 j) n)/\Below (w.heap.size+1) wa wr) (λi _=>n-(intOf i).toNat)
 case atStart=>exact⟨0,by omega,rfl,own0,B2⟩
 case round =>
  clear own0 B2;obtain⟨j,hj,rfl,ho,hb⟩:=hrel;have HO:=za ho;have HB:=za hb;clear ho hb
  by_cases hlt:j<n
  ·have HZ:=za (zdy (zeK j) hlt (j:Int));have HS:=za (zoL j);have HL:=za (zdX (show(zc2 j).length<=n by rw[zeK];exact hj));have fz:=HO.out.frozenAt HL.out j;have cl:=HO.out.cellAt HL.out hlt;generalize zbC (zc2 j) n=L1 at *;go_wp2
   go_roundw
   case rel=>exact⟨j+1,by omega,by go_num,by rw[HS.out,←HZ.out];exact HO.out.stored HL.out j (j:Int),by have h:=HB.out;rw[←HES.out]at h ⊢;exact bs h (Nat.le_refl _) _⟩
   case measure=>simp[intOf];omega
  ·obtain rfl:j=n:=by omega
   have O2:=HO.out;rw[zcM (zeK _)]at O2
   haveI:Inhabited (Fin j):=⟨⟨0,by omega⟩⟩
   obtain⟨d,hd⟩:∃ d:Array (Fin j),d.toList=List.finRange j:=⟨(List.finRange j).toArray,by simp⟩;have dz:d.size=j:=by rw[←Array.length_toList,hd,List.length_finRange]
   have BW:Below w.heap.size w wr:=Below.trans HBA.out (HB.out.mono (by omega));have hz:w.heap.size+1<wr.heap.size:=O2.lt _ rfl;have dk:∀ k,k<j->(d[k]!).val=k:=by
    intro k hk;have:(zbA d).getD k 0=k:=by
     unfold zbA;rw[hd,List.getD_eq_getElem?_getD,List.getElem?_map,List.getElem?_eq_getElem (by rw[List.length_finRange];exact hk)]
     simp
    rw[←zd5 d (by omega)];exact this
   have hH:Sort.Holds (λx:Fin j=>Value.int .i64 (x.val:Int)) wr (w.heap.size+1) 0 d:=by
    intro k hk;rw[dz]at hk;have c:=O2.cellAt (zeK j) hk;rw[zpR hk]at c;rw[Nat.zero_add]
    show wr.cell? _=some (Value.int .i64 ((d[k]!).val:Int))/\_
    rw[dk k hk];exact⟨c,O2.frozenAt (zeK j) k⟩
   have hcb:=HB.out.cell (p:=⟨w.heap.size,0,none⟩) (by show w.heap.size<_;omega);rw[HC.out]at hcb;have hcmp:CmpLays1 Tryz.prog 189 #[.pointer (some ⟨w.heap.size,0,none⟩)] (λx:Fin j=>Value.int .i64 (x.val:Int)) (cfR rs j) (w.heap.size+1) 0 d.size wr:=by
    intro m os dk hdk x y;refine zoP rs j HN.out x y w.heap.size ad cap _ (zli _ _ _ _ _ _ _ hcb (by omega)) ?_;rcases HR.out with e|⟨b,off,e1,e2⟩
    ·exact Or.inl e
    ·refine Or.inr ⟨b,off,e1,λk hk=>?_⟩;have hlb:=zf (e2 k hk);exact zli _ _ _ _ _ _ _ (cb BW hlb (e2 k hk)) (by omega)
   have eg:∀ args w,(callFunc 189 args).run Tryz.prog w=.ok (.enter 189 args) w:=enters_of Tryz.func189 (by kernel_rfl) rfl;have hS:=Any.slices_SortFunc zyx (λx:Fin j=>Value.int .i64 (x.val:Int)) (λ_=>rfl) (cfR rs j) (zwZ rs j) 189 #[.pointer (some ⟨w.heap.size,0,none⟩)] (w.heap.size+1) 0 j d wr eg hcmp hH hz (by omega);rw[dz]at hS
   change Calls Tryz.prog 188 _ _ _ at hS
   have HD:=za hd;have HZ:=za dz;have HH:=za hH;have HBW:=za BW;clear hcb hcmp eg hd dz dk hH BW O2 HO
   go_wp2_with (go_at_call 188;(with_reducible refine hS.mono ?_);rintro e w3 ⟨rfl,d',m,os,hp,hs,hw3⟩;have HW3:=za hw3;clear hw3)
   have dz:=HZ.out;have RK:=ztf HN.out d d' HD.out (by rw[dz];exact hp) (by rw[dz];exact hs);have hH3:Sort.Holds (λx:Fin j=>Value.int .i64 (x.val:Int)) w3 (w.heap.size+1) 0 d':=by
    refine SW.holds (enc:=λx:Fin j=>Value.int .i64 (x.val:Int)) (w0:=wr) ⟨m,os,HW3.out⟩ hz HH.out ?_;exact hp.1
   have B3:Below w.heap.size w w3:=by rw[HW3.out];exact zqs HBW.out (Nat.le_succ _) hz
   have pl:(zbA d').length=d'.size:=by unfold zbA;rw[List.length_map,Array.length_toList]
   have RA:RowAt .i64 w3 (some ⟨w.heap.size+1,0,none⟩) ((zbA d').map λk:Nat=>(k:Int)):=by
    refine Or.inr ⟨w.heap.size+1,0,rfl,λk hk=>?_⟩;rw[List.length_map,pl]at hk;rw[(hH3 k hk).1]
    show some (Value.int .i64 ((d'[k]!).val:Int))=_
    rw[←zd5 d' hk,List.getD_eq_getElem?_getD,List.getD_eq_getElem?_getD,List.getElem?_map,List.getElem?_eq_getElem (by rw[pl];exact hk)];rfl
   have H4:=za (And.intro RK (And.intro RA B3));clear hp hs dz RK hH3 B3 pl RA hS;go_wp2;go_ret;exact⟨_,_,rfl,H4.out.1,H4.out.2.1,Nat.le_succ _,H4.out.2.2⟩
theorem RowAt.apart {k:IntKind} {w:World} {g off:Nat} {xs:List Int} (h:RowAt k w (some ⟨g,off,none⟩) xs) {b:Nat} (hne:b≠g) (o:Nat) (u:Value):RowAt k (w.setCell ⟨b,o,none⟩ u) (some ⟨g,off,none⟩) xs:=by
 by_cases e:xs=[]
 ·exact Or.inl e
 ·refine Or.inr ⟨g,off,rfl,λj hj=>?_⟩;rw[World.cell?_setCell_other _ _ _ _ (by intro e';simp only[Addr.mk.injEq]at e';omega)];exact h.at hj
theorem zs6 {s x:Int} (s0:0<s) (h:zaa x):zkW (x*16384) s=zbb s x:=by
 obtain⟨_,e,_⟩:=zfL s0 h;rw[ziG (by omega),e];unfold zaC;rw[if_neg (by omega)]
set_option maxHeartbeats 8000000 in
set_option maxRecDepth 1000000 in
theorem zgI (xs:List Int) (ad:Option Addr) (cap:Nat) (w:World) (hr:RowAt .i64 w ad xs) (hx:zad xs) (hf:Fits xs) :
  Calls Tryz.prog 142 #[.slice ad xs.length cap] w λe w'=>∃ v,e=.returned (.tuple #[v,.int .i64 0])/\OwnI .i64 2 w' w.heap.size v (zG xs)/\Below w.heap.size w w':=by
 have HF:=za hf;obtain⟨h0,h1,h,s0⟩:=hf;have CB:=λw hr=>zgB xs ad cap w hr hx (by omega) true (by
  have B:=zeV xs
  cases hb:zfR xs with
  |false=>rfl
  |true =>
   exfalso
   rcases B.1 hb with q|q|q
   ·omega
   ·omega
   ·exact q h)
 have CS:=λw hr=>zmL xs ad cap w hr hx (by omega)
 have s1:=(zgL xs).2;have HR:=za hr;have HX:=za hx;have HH:=za h;clear hr hx h;obtain⟨n,hn⟩:∃ n,xs.length=n:=⟨_,rfl⟩;have HN:=za hn;rw[hn]at h0 h1 CS CB ⊢;obtain⟨s,hs⟩:∃ s,zq xs=s:=⟨_,rfl⟩;have HS:=za hs;rw[hs]at s0 s1 CS;have ub:s<=1152921504606846976:=by
  obtain⟨a,_,b⟩:=zg2 xs HH.out (by omega);rw[←hs,a];rw[hn]at b;omega
 clear hn hs;obtain⟨zs,MK,MO,_⟩:=zii n (by omega);have HMO:=za MO;clear MO
 go_enter Tryz.func142,Tryz.ntmps142
 go_upto_region 6 with(first
  |(go_at_call 166;(with_reducible refine(CB _ HR.out).mono ?_);rintro e w1 ⟨rfl,rfl⟩)
  |(go_at_call 167;(with_reducible refine(CS _ HR.out).mono ?_);rintro e w1 ⟨rfl,rfl⟩))
 clear CS CB
 go_cut [5,6] (λu v wx=>∃ g1 g2,u=.slice (some ⟨g1,0,none⟩) n n/\v=.slice (some ⟨g2,0,none⟩) n n/\g1≠g2/\w.heap.size<=g1/\w.heap.size<=g2/\OwnI .i64 2 wx w.heap.size (.slice (some ⟨g1,0,none⟩) n n) (List.replicate n 0)/\OwnI .i64 2 wx w.heap.size (.slice (some ⟨g2,0,none⟩) n n) (List.replicate n 0)/\Below w.heap.size w wx)
 case first =>
  have O1:=(HMO.out w w.heap.size (Nat.le_refl _)).alloc (.cells zs 2);have O2:=HMO.out (w.alloc (.cells zs 2)) w.heap.size (by simp);rw[show(w.alloc (.cells zs 2)).heap.size=w.heap.size+1 by simp]at O2;have B2:=bd (ba (ba (Below.refl w.heap.size w) (.cells zs 2)) (.cells zs 2));have H4:=za (And.intro O1 (And.intro O2 B2));clear O1 O2 B2
  go_region
  all_goals (go_wp2_with fail;go_meet)
  ·exact⟨_,_,rfl,rfl,Nat.ne_of_lt (Nat.lt_succ_self _),Nat.le_refl _,Nat.le_succ _,H4.out.1,H4.out.2.1,H4.out.2.2⟩
  ·exact⟨_,_,rfl,rfl,Nat.ne_of_gt (Nat.lt_succ_self _),Nat.le_succ _,Nat.le_refl _,H4.out.2.1,H4.out.1,H4.out.2.2⟩
 case rest =>
  obtain⟨g1,g2,rfl,rfl,hne,gb1,gb2,ho,hq,hb⟩:=hcut;clear MK HMO;rw[←zhw (zaf s) xs n]at ho;rw[←zhw (zbb s) xs n]at hq;go_wp2
  go_loopw [7,28] (λt i wr=>∃ k:Nat,k<=n/\i=.int .i64 (k:Int)/\t=.int .i64 (16384-(zU s (xs.take k)).sum)/\OwnI .i64 2 wr w.heap.size (.slice (some ⟨g1,0,none⟩) n n) (zdI (zaf s) xs n k)/\OwnI .i64 2 wr w.heap.size (.slice (some ⟨g2,0,none⟩) n n) (zdI (zbb s) xs n k)/\Below w.heap.size w wr) (λ_ i _=>n-(intOf i).toNat)
  case atStart=>exact⟨0,by omega,rfl,rfl,ho,hq,hb⟩
  case round =>
   clear ho hq hb;obtain⟨k,hk,rfl,rfl,ho,hq,hb⟩:=hrel;have HO:=za ho;have HQ:=za hq;have HB:=za hb;clear ho hq hb;have HL1:=za (zio (F:=zaf s) (j:=k) HN.out);have HL2:=za (zio (F:=zbb s) (j:=k) HN.out)
   by_cases hlt:k<n
   ·obtain⟨b,off,rfl,hc⟩:=(HR.out.below HB.out).get (show k<xs.length by rw[HN.out];exact hlt);have hsm:=zbn HH.out (show k<xs.length by rw[HN.out];exact hlt);obtain⟨q0,q1,r0,r1⟩:=zbE s0 hsm;have CF:=λw=>zdh (xs.getD k 0*16384) s (by unfold zaa at hsm;omega) (by unfold zaa at hsm;omega) (by omega) (by omega) w
    have CM:=λw=>zft (xs.getD k 0*16384) s (by unfold zaa at hsm;omega) (by unfold zaa at hsm;omega) (by omega) (by omega) w
    rw[show zcZ (xs.getD k 0*16384) s=zaf s (xs.getD k 0) from rfl]at CF;rw[zs6 (by omega) hsm]at CM;have HT:=za (zb1 xs (show k<xs.length by rw[HN.out];exact hlt));have sq:=zjz s0 (xs.take k) (λx hx=>HH.out x (List.mem_of_mem_take hx));have tl:(xs.take k).length=k:=by rw[List.length_take];have:=HN.out;omega
    rw[tl]at sq;obtain⟨sq0,sq1⟩:=sq;clear tl;have HZ1:=za (zim (F:=zaf s) HN.out hlt);have HZ2:=za (zim (F:=zbb s) HN.out hlt);have OO:=HO.out;have QQ:=HQ.out;have c1:=OO.cellAt HL1.out hlt;have z1:=OO.frozenAt HL1.out k;have QS:=OwnI.other (u:=.int .i64 (zaf s (xs.getD k 0))) QQ g1 k hne;have c2:=QS.cellAt HL2.out hlt;have z2:=QS.frozenAt HL2.out k;have OS:=OwnI.other (u:=.int .i64 (zbb s (xs.getD k 0))) (OO.stored HL1.out k (zaf s (xs.getD k 0))) g2 k hne.symm;have c3:=OS.cellAt (by rw[List.length_set];exact HL1.out) hlt;rw[zdw _ _ _ _ (by rw[HL1.out];exact hlt),if_pos rfl]at c3;have QS2:=QS.stored HL2.out k (zbb s (xs.getD k 0));rw[HZ1.out]at OS;rw[HZ2.out]at QS2;have H5:=za (And.intro OS (And.intro QS2 (bs (bs HB.out gb1 (b:=g1) (o:=k) (.int .i64 (zaf s (xs.getD k 0)))) gb2 (b:=g2) (o:=k) (.int .i64 (zbb s (xs.getD k 0))))));clear OO QQ QS OS QS2 HO HQ HZ1 HZ2;unfold zaa at hsm;obtain⟨x0,x1⟩:=hsm;generalize xs.getD k 0=x at *;generalize hqe:zaf s x=q at *;generalize zbb s x=r at *;generalize hse:(zU s (xs.take k)).sum=S at *;have HQE:=za hqe;have HSE:=za hse;clear hqe hse
    go_wp2_with (first
     |(go_at_call 168;(with_reducible refine(CF _).mono ?_);rintro e w2 ⟨rfl,rfl⟩)
     |(go_at_call 122;(with_reducible refine(CM _).mono ?_);rintro e w2 ⟨rfl,rfl⟩))
    go_roundw
    case rel =>
     obtain⟨O4,Q4,B4⟩:=H5.out;refine⟨k+1,by omega,by go_num,?_,O4,Q4,B4⟩;rw[HT.out,zgD,HQE.out,List.sum_append,HSE.out,List.sum_singleton,show 16384-(S+q)=16384-S-q by omega]
    case measure=>simp[intOf];omega
   ·obtain rfl:k=n:=by omega
    have HO0:=HO.out;have HQ0:=HQ.out;rw[zij HN.out,show xs.map (zaf s)=zU s xs from rfl]at HO0;rw[zij HN.out,show xs.map (zbb s)=zay s xs from rfl]at HQ0;rw[show xs.take k=xs from List.take_of_length_le (by rw[HN.out];exact Nat.le_refl _)];obtain⟨ST,L0,LL⟩:=zf6 HF.out;rw[HS.out]at ST L0 LL;rw[HN.out]at ST LL;have EX:zG xs=(zk (zU s xs) (zay s xs) (zbg s xs).toNat).1:=by unfold zG;rw[HS.out]
    obtain⟨lf,hlf⟩:∃ lf:Nat,zbg s xs=(lf:Int):=⟨(zbg s xs).toNat,by omega⟩;rw[show(zbg s xs).toNat=lf by omega]at ST EX;have lk:lf<k:=by omega
    rw[show(16384-(zU s xs).sum:Int)=(lf:Int) from hlf];have QI:∀ b,b<k->-67108864<=(zU s xs).getD b 0/\(zU s xs).getD b 0<=67108864:=by
     intro b hb;unfold zU;rw[zfQ _ _ (by rw[HN.out];exact hb)];have:=zbE s0 (zbn HH.out (show b<xs.length by rw[HN.out];exact hb));exact⟨this.1,this.2.1⟩
    have CBR:=λwq hr=>zrj (zay s xs) k (some ⟨g2,0,none⟩) k wq ST.rl h0 h1 hr
    have HRR:=za (show RowAt .i64 wr (some ⟨g2,0,none⟩) (zay s xs) from Or.inr ⟨g2,0,rfl,λj hj=>by
     rw[ST.rl]at hj;rw[Nat.zero_add];exact HQ0.cellAt ST.rl hj⟩)
    have HST:=za ST;have HEX:=za EX;have HQI:=za QI;have glt:=HO0.lt g1 rfl;have HO1:=za HO0;generalize zU s xs=Q0 at *;generalize zay s xs=R0 at *;clear HO0 HQ0 ST EX QI L0 LL hlf hk hlt HO HQ HL1 HL2
    go_wp2_with (go_at_call 169;(with_reducible refine(CBR _ HRR.out).mono ?_);rintro e w4 ⟨g,p,rfl,hrk,hrow,hg,b4⟩)
    have HRK:=za hrk;have HBW:=za (bt HB.out b4);have HO2:=za (HO1.out.below b4);have HROW:=za hrow;have hgne:g1≠g:=by omega
    have pl:p.length=k:=by rw[hrk.len,HST.out.rl]
    have HPL:=za pl;clear hrk hrow hg b4 HO1 HB HRR CBR pl glt
    go_loopg [59] lf (λr i wq=>∃ m:Nat,m+r=lf/\i=.int .i64 (m:Int)/\OwnI .i64 2 wq w.heap.size (.slice (some ⟨g1,0,none⟩) k k) (zcC Q0 p m)/\RowAt .i64 wq (some ⟨g,0,none⟩) (p.map λk:Nat=>(k:Int))/\Below w.heap.size w wq)
    case atStart=>exact⟨0,by omega,by simp,HO2.out,HROW.out,HBW.out⟩
    case round =>
     clear HO2 HROW HBW;obtain⟨m,hm,rfl,ho,hrw,hb⟩:=hrel;obtain⟨W,hW⟩:∃ W,W=wr:=⟨_,rfl⟩;subst hW;have HM:=za hm;have HO:=za ho;have HRW:=za hrw;have HB:=za hb;have mle:m<=lf:=by omega
     have HL:=za ((zs3 Q0 p m).trans HST.out.ql);clear hm ho hrw hb
     by_cases hlt:m<lf
     ·have pm:p.getD m 0<k:=by
       have:=HRK.out.lt m (by rw[HPL.out];omega);rw[HST.out.rl]at this;exact this
      have cp:=HRW.out.at (show m<(p.map λk:Nat=>(k:Int)).length by rw[List.length_map,HPL.out];omega);rw[Nat.zero_add]at cp;rw[show(p.map λk:Nat=>(k:Int)).getD m 0=((p.getD m 0:Nat):Int) by
       rw[List.getD_eq_getElem?_getD,List.getD_eq_getElem?_getD,List.getElem?_map,List.getElem?_eq_getElem (by rw[HPL.out];omega)];rfl]at cp
      have ob : -67108864<=(zcC Q0 p m).getD (p.getD m 0) 0/\(zcC Q0 p m).getD (p.getD m 0) 0<=67108865:=by
       have e:=(zjX HRK.out (λj hj=>((HST.out.rin j (by rw[HST.out.rl]at hj;exact hj))).1) (HST.out.ql.trans HST.out.rl.symm) m (by rw[HST.out.rl];omega)).1;rw[e];have q:=HQI.out _ pm;rcases(zjv HST.out m (by omega)).each _ pm with e|e
       ·have:=e.2;omega
       ·have:=e.2.1;omega
      obtain⟨ob0,ob1⟩:=ob;have c1:=HO.out.cellAt HL.out pm;have z1:=HO.out.frozenAt HL.out (p.getD m 0);have HS2:=za (show zcC Q0 p (m+1)=(zcC Q0 p m).set (p.getD m 0) ((zcC Q0 p m).getD (p.getD m 0) 0+1) from rfl);have H7:=za (And.intro (HO.out.stored HL.out (p.getD m 0) ((zcC Q0 p m).getD (p.getD m 0) 0+1)) (And.intro (HRW.out.apart hgne (p.getD m 0) (.int .i64 ((zcC Q0 p m).getD (p.getD m 0) 0+1))) (bs HB.out gb1 (b:=g1) (o:=p.getD m 0) (.int .i64 ((zcC Q0 p m).getD (p.getD m 0) 0+1)))));clear HO HRW HB;generalize (zcC Q0 p m).getD (p.getD m 0) 0=a at *;generalize p.getD m 0=P at *;go_wp2
      go_roundg (gk-1)
      case measure=>have:=HM.out;omega
      case rel=>exact⟨m+1,by have:=HM.out;omega,by go_num,by rw[HS2.out];exact H7.out.1,H7.out.2.1,H7.out.2.2⟩
     ·obtain rfl:m=lf:=by have:=HM.out;omega
      have e:=(zjX HRK.out (λj hj=>((HST.out.rin j (by rw[HST.out.rl]at hj;exact hj))).1) (HST.out.ql.trans HST.out.rl.symm) m (by rw[HST.out.rl];omega)).1;have O5:=za (show OwnI .i64 2 W w.heap.size (.slice (some ⟨g1,0,none⟩) k k) (zG xs) by rw[HEX.out,←e];exact HO.out);clear HO e;go_wp2;exact bodyPost_ret (v:=.tuple #[.slice (some ⟨g1,0,none⟩) k k,.int .i64 0]) (by simp[results,Tryz.results142,go_sem]) rfl ⟨_,rfl,O5.out,HB.out⟩
theorem zhG (xs:List Int) (ad:Option Addr) (cap:Nat) (w:World) (hr:RowAt .i64 w ad xs) (hx:zad xs) (hl:xs.length<=9223372036854775807) :
  Calls Tryz.prog 142 #[.slice ad xs.length cap] w λe w'=>∃ v,e=.returned (.tuple #[v,.int .i64 (zV xs)])/\Ret .i64 (zc3 xs) w' v/\Below w.heap.size w w':=by
 by_cases hf:Fits xs
 ·have e:=zas.2 hf;have e2:zc3 xs=zG xs:=by unfold zc3;rw[if_pos e]
  rw[e,e2];refine(zgI xs ad cap w hr hx hf).mono ?_;rintro e w1 ⟨v,rfl,o,b⟩;exact⟨v,rfl,o.ret,b⟩
 ·have e:zV xs≠0:=λg=>hf (zas.1 g)
  have e2:zc3 xs=[]:=by unfold zc3;rw[if_neg e]
  rw[e2];have HR:=za hr;have CS:=λw hr=>zmL xs ad cap w hr hx hl
  by_cases hb:zfR xs=true
  ·have e3:zV xs=7:=by unfold zV;rw[if_pos hb]
   rw[e3];have CB:=λw hr=>zgB xs ad cap w hr hx hl false (by rw[hb];rfl)
   clear hr hx CS hf e e2 e3 hb;generalize xs.length=n at *
   go_enter Tryz.func142,Tryz.ntmps142
   go_wp2_with (go_at_call 166;(with_reducible refine(CB _ HR.out).mono ?_);rintro e w1 ⟨rfl,rfl⟩)
   exact bodyPost_ret (v:=.tuple #[.slice none 0 0,.int .i64 7]) (by simp[results,Tryz.results142,go_sem]) rfl ⟨_,rfl,zcH _ _ _ _,Below.refl _ _⟩
  ·have hb':zfR xs=false:=by
    cases h:zfR xs with
    |true=>exact absurd h hb
    |false=>rfl
   have h3:zq xs<268435456:=by
    by_cases q:zq xs<268435456
    ·exact q
    ·have nb:¬(xs.length<1\/1048576<xs.length\/¬∀ x ∈ xs,zaa x):=λq=>hb ((zeV xs).2 q)
     refine absurd ⟨?_,?_,?_,by omega⟩ hf
     ·by_cases q:xs.length<1
      ·exact absurd (Or.inl q) nb
      ·omega
     ·by_cases q:1048576<xs.length
      ·exact absurd (Or.inr (Or.inl q)) nb
      ·omega
     ·exact Classical.byContradiction λq=>nb (Or.inr (Or.inr q))
   have e3:zV xs=8:=by unfold zV;rw[if_neg hb,if_pos h3]
   rw[e3];have CB:=λw hr=>zgB xs ad cap w hr hx hl true (by rw[hb'];rfl)
   obtain⟨s0,s1⟩:=zgL xs;generalize zq xs=s at *;clear hr hx hf e e2 e3 hb hb';generalize xs.length=n at *
   go_enter Tryz.func142,Tryz.ntmps142
   go_wp2_with (first
    |(go_at_call 166;(with_reducible refine(CB _ HR.out).mono ?_);rintro e w1 ⟨rfl,rfl⟩)
    |(go_at_call 167;(with_reducible refine(CS _ HR.out).mono ?_);rintro e w1 ⟨rfl,rfl⟩))
   exact bodyPost_ret (v:=.tuple #[.slice none 0 0,.int .i64 8]) (by simp[results,Tryz.results142,go_sem]) rfl ⟨_,rfl,zcH _ _ _ _,Below.refl _ _⟩
theorem zuV (xs:List Int) (ad:Option Addr) (cap:Nat) (w:World) (hr:RowAt .i64 w ad xs) (hx:zad xs) (hl:xs.length<=9223372036854775807) :
  Calls Tryz.prog 146 #[.slice ad xs.length cap] w λe w'=>∃ v,e=.returned (.tuple #[v,.int .i64 (zX xs)])/\Ret .i64 (zJ xs) w' v/\Below w.heap.size w w':=by
 unfold zX zJ
 by_cases hu:zgf xs=true
 ·rw[if_pos hu,if_pos hu];refine(zo6 xs ad cap w hr hx ((zdB xs).1 hu)).mono ?_;rintro e w1 ⟨v,rfl,o,b⟩;exact⟨v,rfl,o.ret,b⟩
 ·rw[if_neg hu,if_neg hu];refine(zvX xs ad cap w hr hx hl (λq=>hu ((zdB xs).2 q))).mono ?_;rintro e w1 ⟨rfl,b⟩;exact⟨_,rfl,zcH _ _ _ _,b⟩
theorem zh0 (s:Int) (w:World) :
  Calls Tryz.prog 144 #[.int .i64 s] w λe w'=>∃ v,e=.returned (.tuple #[v,.int .i64 (zbh s)])/\Ret .i64 (zS s) w' v/\Below w.heap.size w w':=by
 unfold zbh zS
 by_cases h:1<=s/\s<=4194304
 ·rw[if_pos h,if_pos h];refine(zoj s h.1 h.2 w).mono ?_;rintro e w1 ⟨v,rfl,o,b⟩;exact⟨v,rfl,o.ret,b⟩
 ·rw[if_neg h,if_neg h];refine(znS s (by omega) w).mono ?_;rintro e w1 ⟨rfl,b⟩;exact⟨_,rfl,zcH _ _ _ _,b⟩
theorem zoJ (m:Nat) (h:m<18446744073709551616) (w:World) :
  Calls Tryz.prog 196 #[.int .u64 1,.int .u64 (m:Int)] w λe w'=>e=.returned (.tuple #[.int .u64 0,.int .u64 (m:Int)])/\w=w':=by
 have C:∀ w:World,Calls Tryz.prog 128 #[.int .u64 1,.int .u64 (m:Int)] w λe w'=>e=.returned (.tuple #[.int .u64 0,.int .u64 (m:Int)])/\w=w':=λw=>by
  have:=zld 1 m (by omega) h w;rw[Nat.one_mul,Nat.mod_eq_of_lt h,Nat.div_eq_of_lt h]at this;exact this
 go_enter Tryz.func196,Tryz.ntmps196
 go_wp2_with (go_at_call 128;(with_reducible refine(C _).mono ?_);rintro e w1 ⟨rfl,rfl⟩)
 exact bodyPost_ret (v:=.tuple #[.int .u64 0,.int .u64 (m:Int)]) (by simp[results,Tryz.results196,go_sem]) rfl ⟨rfl,rfl⟩
def zco (c m:Nat):List Value:=List.replicate c (.int .i64 1)++List.replicate (m-c) (.int .i64 0)
theorem zlP {c m:Nat} (h:c<=m):(zco c m).length=m:=by unfold zco;rw[List.length_append,List.length_replicate,List.length_replicate];omega
theorem ztz {c m j:Nat} (h:j<c):(zco c m)[j]?=some (.int .i64 1):=by
 unfold zco;rw[List.getElem?_append_left (by rw[List.length_replicate];exact h),List.getElem?_replicate,if_pos h]
theorem zjY {c m d:Nat} (h:c+d<=m):splice (zco c m) c (List.replicate d (.int .i64 1))=zco (c+d) m:=by
 unfold splice zco;rw[List.length_replicate,List.take_left' (by rw[List.length_replicate]),List.drop_append,List.length_replicate,List.drop_of_length_le (by rw[List.length_replicate];omega),List.nil_append,List.drop_replicate,←List.append_assoc,List.replicate_append_replicate]
 congr 2
 omega
theorem zsl (m:Nat):zco m m=(List.replicate m (1:Int)).map (Value.int .i64):=by unfold zco;simp
theorem zw3:(Tryz.prog.info? 2).map (·.size)=some 1:=by kernel_rfl
theorem bdG {B:Nat} {a w:World} (h:Below B a w):Below B a w.drew:=h.trans ⟨rfl,rfl,rfl,Nat.le_refl _,λ_ _=>rfl⟩
set_option maxHeartbeats 4000000 in
set_option maxRecDepth 1000000 in
theorem zqP (m:Nat) (m0:1<=m) (m1:m<=2000) (k:Nat) (w:World) (hc:w.cell? ⟨k,0,none⟩=some (.int .i64 1)) :
  Calls Tryz.prog 172 #[.slice (some ⟨k,0,none⟩) 1 1,.int .i64 (m:Int)] w λe w'=>∃ v,e=.returned v/\OwnI .i64 2 w' w.heap.size v (List.replicate m 1)/\Below w.heap.size w w':=by
 have CM:=λw=>zoJ m (by omega) w
 obtain⟨zs,MK,_,MZ⟩:=zii m (by omega);have hsz:=zw3;have HC:=za hc;have kl:=zf hc;have HW:=za (show(w.alloc (.cells zs 2)).heap[w.heap.size]?=some (.cells (zco 0 m).toArray 2 (0,0)) by
  have e:zs=(zco 0 m).toArray:=by
   apply Array.toList_inj.1
   rw[MZ];unfold zco;simp
  rw[←e];exact heap_alloc_new w _)
 have HC1:=za (show(w.alloc (.cells zs 2)).cell? ⟨k,0,none⟩=some (.int .i64 1) from cb (ba (Below.refl _ _) _) kl hc);have HS:=za hsz;obtain⟨w2,hrun,hg2,hb2⟩:=znL (P:=Tryz.prog) (w.alloc (.cells zs 2)) 28 28 3 2 Tryz.underlying28 hsz w.heap.size 0 m m ⟨k,0,none⟩ 1 1 (zco 0 m) 2 [.int .i64 1] 1 HW.out rfl (show 1=min 1 m by omega) (λj v hj=>by
  match j,hj with
  |0,hj=>simp at hj;subst hj;exact HC1.out) (by rw[zlP (Nat.zero_le _)];omega) (zeS _ _) w.heap.size (Nat.le_refl _)
 have hg2':w2.heap[w.heap.size]?=some (.cells (zco 1 m).toArray 2 (0,0)):=by
  rw[hg2];have:=zjY (c:=0) (d:=1) (m:=m) (by omega);rw[List.replicate_one,Nat.zero_add]at this;rw[this]
 have hb2':Below w.heap.size w w2:=(ba (Below.refl _ _) _).trans hb2;have HG2:=za hg2';have HB2:=za hb2';clear MZ hc hsz hg2 hg2' hb2 hb2' HC HC1 kl
 go_enter Tryz.func172,Tryz.ntmps172
 go_wp2_with (go_at_call 196;(with_reducible refine(CM _).mono ?_);rintro e w1 ⟨rfl,rfl⟩)
 clear hrun CM MK HW;obtain⟨g,hg⟩:∃ g,w.heap.size=g:=⟨_,rfl⟩;have HGE:=za hg;rw[hg]at HG2 HB2 ⊢;clear hg
 go_loopw [8] (λu wr=>∃ c:Nat,1<=c/\c<=m/\u=.int .i64 (c:Int)/\Hid (wr.heap[g]?=some (.cells (zco c m).toArray 2 (0,0)))/\Below g w wr) (λu _=>m-(intOf u).toNat)
 case atStart=>exact⟨1,by omega,by omega,rfl,HG2,HB2.out⟩
 case round =>
  obtain⟨c,c0,c1,rfl,HG,hb⟩:=hrel;have HB:=za hb;clear hb HG2 HB2
  by_cases hlt:c<m
  ·obtain⟨d,hd⟩:∃ d,min c (m-c)=d:=⟨_,rfl⟩;have d0:1<=d:=by omega
   have d1:c+d<=m:=by omega
   have d2:d<=c:=by omega
   obtain⟨w3,hrun,hg3,hb3⟩:=znL (P:=Tryz.prog) wr.drew 28 28 3 2 Tryz.underlying28 HS.out g c (m-c) (m-c) ⟨g,0,none⟩ c m (zco c m) 2 (List.replicate d (.int .i64 1)) d HG.out List.length_replicate (show d=Nat.min c (m-c) from hd.symm) (λj v hj=>by
    rw[List.getElem?_replicate]at hj
    by_cases h:j<d
    ·rw[if_pos h]at hj;obtain rfl:=Option.some.inj hj;rw[zd0,Nat.zero_add];have e:wr.drew.heap[g]?=some (.cells (zco c m).toArray 2 (0,0)):=HG.out;unfold World.cell?;simp only[e,List.getElem?_toArray];exact ztz (by omega)
    ·rw[if_neg h]at hj;cases hj) (by rw[zlP c1];omega) (λv hv=>by obtain rfl:=List.eq_of_mem_replicate hv;rfl) g (Nat.le_refl _)
   rw[zjY d1]at hg3;have HG3:=za hg3;have HB3:=za (Below.trans (bdG HB.out) hb3);have hmc:¬m=c:=by omega
   have HD:=za hd;clear hg3 hb3 hd HG HB
   go_wp2_with fail
   go_region
   go_wp2
   go_roundw
   case rel=>exact⟨c+d,by omega,d1,by go_num,HG3,HB3.out⟩
   case measure=>simp[intOf];omega
  ·obtain rfl:c=m:=by omega
   have e:=HG.out;rw[zsl]at e;have HO:=za (OwnI.of_block (base:=w.heap.size) e List.length_replicate (by rw[HGE.out];exact Nat.le_refl _) (by unfold maxLen;omega));have HBW:=za (show Below w.heap.size w wr by rw[HGE.out];exact HB.out);clear HG e HB;go_wp2;go_ret;exact⟨_,rfl,HO.out,HBW.out⟩
theorem zvZ (r:Int) (h:r<0\/511<r) (w:World) :
  Calls Tryz.prog 145 #[.int .i64 r] w λe w'=>e=.returned (.tuple #[.slice none 0 0,.int .i64 7])/\Below w.heap.size w w':=by
 rcases h with h|h
 ·go_enter Tryz.func145,Tryz.ntmps145
  go_wp2;exact bodyPost_ret (v:=.tuple #[.slice none 0 0,.int .i64 7]) (by simp[results,Tryz.results145,go_sem]) rfl ⟨rfl,Below.refl _ _⟩
 ·have h2:decide (r<0)=false:=decide_eq_false (by omega)
  go_enter Tryz.func145,Tryz.ntmps145
  go_wp2;exact bodyPost_ret (v:=.tuple #[.slice none 0 0,.int .i64 7]) (by simp[results,Tryz.results145,go_sem]) rfl ⟨rfl,Below.refl _ _⟩
set_option maxHeartbeats 4000000 in
set_option maxRecDepth 1000000 in
theorem zxf (r:Nat) (h:r<=511) (w:World) :
  Calls Tryz.prog 145 #[.int .i64 (r:Int)] w λe w'=>∃ v,e=.returned (.tuple #[v,.int .i64 0])/\OwnI .i64 2 w' w.heap.size v (zbP (List.replicate (2*r+1) 1))/\Below w.heap.size w w':=by
 obtain⟨us,hus⟩:∃ us,us=zbP (List.replicate (2*r+1) 1):=⟨_,rfl⟩;have HUS:=za hus;rw[←hus];obtain⟨m,hm⟩:∃ m,2*r+1=m:=⟨_,rfl⟩;have hm':2*(r:Int)+1=(m:Int):=by omega
 have CR:=λk w hc=>zqP m (by omega) (by omega) k w hc
 have CU:=λw ad cap hr=>zo6 (List.replicate m 1) ad cap w hr (zpr m) (by rw[←hm];exact zlh r h)
 rw[List.length_replicate]at CU;rw[←show us=zbP (List.replicate m 1) by rw[hus,hm]]at CU;have m1:m<=1023:=by omega
 have HM:=za hm;clear hus hm
 go_enter Tryz.func145,Tryz.ntmps145
 go_wp2_with (first
  |(go_at_call 172;(with_reducible refine(CR _ _ (by simp)).mono ?_);rintro e w2 ⟨v,rfl,hov,b2⟩;obtain⟨ad,cap,rfl,hrow,_⟩:=hov.formn List.length_replicate;have HRW:=za hrow;clear hov hrow)
  |(go_at_call 146;(with_reducible refine(CU _ _ _ HRW.out).mono ?_);rintro e w3 ⟨v,rfl,hov,b3⟩))
 have B3:=bt (bt (ba (Below.refl w.heap.size w) _) b2) b3;have O3:=hov.mono (bt (ba (Below.refl w.heap.size w) _) b2).size;exact bodyPost_ret (v:=.tuple #[v,.int .i64 0]) (by simp[results,Tryz.results145,go_sem]) rfl ⟨_,rfl,O3,B3⟩
theorem zt9 (r:Int) (w:World) :
  Calls Tryz.prog 145 #[.int .i64 r] w λe w'=>∃ v,e=.returned (.tuple #[v,.int .i64 (za9 r)])/\Ret .i64 (zL r) w' v/\Below w.heap.size w w':=by
 unfold za9 zL
 by_cases h:0<=r/\r<=511
 ·rw[if_pos h,if_pos h];obtain⟨n,rfl⟩:∃ n:Nat,r=(n:Int):=⟨r.toNat,by omega⟩;refine(zxf n (by omega) w).mono ?_;rintro e w1 ⟨v,rfl,o,b⟩;exact⟨v,rfl,o.ret,b⟩
 ·rw[if_neg h,if_neg h];refine(zvZ r (by omega) w).mono ?_;rintro e w1 ⟨rfl,b⟩;exact⟨_,rfl,zcH _ _ _ _,b⟩
theorem zyw:zwp:=λa b h0 h1 w=>zmt a b h0 h1 w
theorem zd9 (n:Int) (n0:1<=n) (n1:n<=65536) (w:World) :
  Calls Tryz.prog 140 #[.int .i64 n] w λe w'=>e=.returned (.bool true)/\w=w':=by
 go_enter Tryz.func140,Tryz.ntmps140
 go_wp2;go_ret
 first|exact⟨rfl,rfl⟩|exact⟨zag (decide_eq_true (by omega)),rfl⟩
theorem zjB (n:Int) (h:n<1\/65536<n) (w:World) :
  Calls Tryz.prog 140 #[.int .i64 n] w λe w'=>e=.returned (.bool false)/\w=w':=by
 rcases h with h|h
 all_goals
  go_enter Tryz.func140,Tryz.ntmps140
  go_wp2;go_ret
  first|exact⟨rfl,rfl⟩|exact⟨zag (decide_eq_false (by omega)),rfl⟩
theorem zsN (f n m i:Int) (h:zc9 f n m i) (w:World) (hk:zaT w) :
  Calls Tryz.prog 141 #[.int .i64 f,.int .i64 n,.int .i64 m,.int .i64 i] w λe w'=>∃ v,e=.returned (.tuple #[.int .i64 (za8 f n m i),v])/\OwnI .i64 2 w' w.heap.size v (zbl f n m i)/\Below w.heap.size w w':=by
 refine(zpC f n m i h w hk).mono ?_;rintro e w1 ⟨a,c,v,hwin,rfl,ho,b⟩;obtain⟨rfl,rfl⟩:=ziE h.2.2.2.2.1 hwin (zkV h);exact⟨v,rfl,znP ho,b⟩
theorem zhi (n:Nat) (xs:List Int) (hn:xs.length=n) (ad:Option Addr) (cap:Nat) (w:World) (hr:RowAt .i64 w ad xs) (hx:zad xs) (hl:n<=9223372036854775807) :
  Calls Tryz.prog 142 #[.slice ad n cap] w λe w'=>∃ v,e=.returned (.tuple #[v,.int .i64 (zV xs)])/\(zV xs=0->OwnI .i64 2 w' w.heap.size v (zG xs))/\Below w.heap.size w w':=by
 subst hn
 by_cases hf:Fits xs
 ·have e:=zas.2 hf;rw[e];refine(zgI xs ad cap w hr hx hf).mono ?_;rintro e w1 ⟨v,rfl,o,b⟩;exact⟨v,rfl,λ_=>o,b⟩
 ·have e:zV xs≠0:=λg=>hf (zas.1 g)
  refine(zhG xs ad cap w hr hx hl).mono ?_;rintro e' w1 ⟨v,rfl,_,b⟩;exact⟨v,rfl,λg=>absurd g e,b⟩
theorem zpx (n:Nat) (xs:List Int) (hn:xs.length=n) (ad:Option Addr) (cap:Nat) (w:World) (hr:RowAt .i64 w ad xs) (hx:zad xs) (hl:n<=9223372036854775807) :
  Calls Tryz.prog 143 #[.slice ad n cap] w λe w'=>e=.returned (.int .i64 (zP xs))/\w=w':=by
 subst hn;exact zig xs ad cap w hr hx hl
def Fill (w:World) (g h m:Nat) (L:List (Int×List Int)):Prop :=
 h≠g/\L.length<=m/\(∀ j,j<m*2->(∃ v,w.cell? ⟨h,j,none⟩=some v)/\w.frozen? ⟨h,j,none⟩=false) /\
 ∀ j,j<L.length->w.cell? ⟨h,j*2,none⟩=some (.int .i64 (ze L j).1)/\∃ b cap,w.cell? ⟨h,j*2+1,none⟩=some (.slice (some ⟨b,0,none⟩) (ze L j).2.length cap)/\b≠g/\b≠h/\RowAt .i64 w (some ⟨b,0,none⟩) (ze L j).2
theorem Fill.below {w w':World} {g h m:Nat} {L:List (Int×List Int)} (F:Fill w g h m L) (hb:Below w.heap.size w w'):Fill w' g h m L:=by
 obtain⟨hne,hl,hc,hx⟩:=F;refine⟨hne,hl,λj hj=>?_,λj hj=>?_⟩
 ·obtain⟨⟨v,c⟩,z⟩:=hc j hj;exact⟨⟨v,cb hb (zf c) c⟩,fb hb (zf c) z⟩
 ·obtain⟨c1,b,cap,c2,h1,h2,hr⟩:=hx j hj;exact⟨cb hb (zf c1) c1,b,cap,cb hb (zf c2) c2,h1,h2,hr.below hb⟩
theorem Fill.table {w:World} {g h m:Nat} {L:List (Int×List Int)} (F:Fill w g h m L) (o:Nat) (u:Value):Fill (w.setCell ⟨g,o,none⟩ u) g h m L:=by
 obtain⟨hne,hl,hc,hx⟩:=F;have E:∀ j,(w.setCell ⟨g,o,none⟩ u).cell? ⟨h,j,none⟩=w.cell? ⟨h,j,none⟩:=λj=>zc (Or.inl hne.symm)
 refine⟨hne,hl,λj hj=>?_,λj hj=>?_⟩
 ·rw[E,World.frozen?_setCell];exact hc j hj
 ·obtain⟨c1,b,cap,c2,h1,h2,hr⟩:=hx j hj;exact⟨(E _).trans c1,b,cap,(E _).trans c2,h1,h2,hr.apart h1.symm o u⟩
theorem Fill.more {w:World} {g h m k:Nat} {L:List (Int×List Int)} (F:Fill w g h m L) (hk:L.length=k) (hm:k<m) (f:Int) (ts:List Int) {n b cap:Nat} (hn:ts.length=n) (h1:b≠g) (h2:b≠h) (hr:RowAt .i64 w (some ⟨b,0,none⟩) ts) :
  Fill ((w.setCell ⟨h,k*2,none⟩ (.int .i64 f)).setCell ⟨h,k*2+1,none⟩ (.slice (some ⟨b,0,none⟩) n cap)) g h m (L++[(f,ts)]):=by
 subst hk;subst hn;obtain⟨hne,hl,hc,hx⟩:=F;obtain⟨⟨v0,c0⟩,_⟩:=hc (L.length*2) (by omega);obtain⟨⟨v1,c1⟩,_⟩:=hc (L.length*2+1) (by omega);have E0:∀ j,j≠L.length*2->j≠L.length*2+1->((w.setCell ⟨h,L.length*2,none⟩ (.int .i64 f)).setCell ⟨h,L.length*2+1,none⟩ (.slice (some ⟨b,0,none⟩) ts.length cap)).cell? ⟨h,j,none⟩=w.cell? ⟨h,j,none⟩:=λj g1 g2 =>
  (zc (Or.inr (Ne.symm g2))).trans (zc (Or.inr (Ne.symm g1)))
 have E1:((w.setCell ⟨h,L.length*2,none⟩ (.int .i64 f)).setCell ⟨h,L.length*2+1,none⟩ (.slice (some ⟨b,0,none⟩) ts.length cap)).cell? ⟨h,L.length*2,none⟩=some (.int .i64 f) :=
  (zc (Or.inr (by omega))).trans (World.cell?_setCell_same' _ _ _ (by rw[c0];rfl))
 have E2:((w.setCell ⟨h,L.length*2,none⟩ (.int .i64 f)).setCell ⟨h,L.length*2+1,none⟩ (.slice (some ⟨b,0,none⟩) ts.length cap)).cell? ⟨h,L.length*2+1,none⟩=some (.slice (some ⟨b,0,none⟩) ts.length cap) :=
  World.cell?_setCell_same' _ _ _ (by rw[zc (Or.inr (by omega)),c1];rfl)
 refine⟨hne,by rw[List.length_append,List.length_singleton];omega,λj hj=>?_,λj hj=>?_⟩
 ·rw[World.frozen?_setCell,World.frozen?_setCell];refine⟨?_,(hc j hj).2⟩
  by_cases g1:j=L.length*2
  ·subst g1;exact⟨_,E1⟩
  by_cases g2:j=L.length*2+1
  ·subst g2;exact⟨_,E2⟩
  rw[E0 j g1 g2];exact(hc j hj).1
 ·rw[List.length_append,List.length_singleton]at hj
  by_cases e:j=L.length
  ·subst e;rw[zgZ];exact⟨E1,b,cap,E2,h1,h2,(hr.apart h2.symm _ _).apart h2.symm _ _⟩
  ·rw[zg0 _ (by omega)];obtain⟨d1,b',cap',d2,g1,g2,hr'⟩:=hx j (by omega);exact⟨(E0 _ (by omega) (by omega)).trans d1,b',cap',(E0 _ (by omega) (by omega)).trans d2,g1,g2,(hr'.apart g2.symm _ _).apart g2.symm _ _⟩
theorem Fill.heads {w:World} {g h m:Nat} {L:List (Int×List Int)} (F:Fill w g h m L):LinesHead w h L:=by
 obtain⟨_,_,_,hx⟩:=F;intro j hj;obtain⟨c1,b,cap,c2,_,_,hr⟩:=hx j hj;exact⟨c1,b,cap,c2,hr⟩
theorem Fill.start {w:World} {B g h m cap:Nat} {T:TypeId} {xs:List Value} (ho:w.ownsRow B T 2 (.slice (some ⟨h,0,none⟩) m cap) m xs) (hne:h≠g):Fill w g h m []:=by
 refine⟨hne,Nat.zero_le _,λj hj=>⟨?_,ho.frozenAt j⟩,λj hj=>absurd hj (Nat.not_lt_zero _)⟩;have hl:=ho.1;rw[ho.cellAt j hj];exact⟨_,List.getElem?_eq_getElem (by omega)⟩
theorem zxX (n:Nat) (h:n<=1048576):∃ zs:Array Value,(∀ w:World,(Instr.makeSlice 108 (.int .i64 (n:Int)) (.int .i64 (n:Int))).run Tryz.prog w=.ok (.slice (some ⟨w.heap.size,0,none⟩) n n) (w.alloc (.cells zs 103)))/\(∀ (w:World) (B:Nat),B<=w.heap.size->(w.alloc (.cells zs 103)).ownsRow B 103 2 (.slice (some ⟨w.heap.size,0,none⟩) n n) n zs.toList):=by
 obtain⟨i0,hi,hz0,hz1,hz2⟩:=info_parts zpm;have hm:(n:Int)<=9223372036854775807:=by omega
 refine⟨madeCells (Value.agg #[.int .i64 0,.slice none 0 0]).cells (n*i0.size),λw=>?_,λw B hB=>?_⟩
 ·have hr:=run_make (P:=Tryz.prog) w 108 103 i0 (.agg #[.int .i64 0,.slice none 0 0]) Tryz.underlying108 hi hz0 .i64 .i64 n n (by omega) (Int.le_refl _) (by rw[hz2];omega) hm
  simpa only [Int.toNat_natCast] using hr
 ·rw[hz1];exact World.ownsRow_lit w _ n hB (by unfold maxLen;omega) (by rw[size_madeCells])
theorem Fill.room {w:World} {g h m k:Nat} {L:List (Int×List Int)} (F:Fill w g h m L) (hk:k<m) :
  (∃ v,w.cell? ⟨h,k*2,none⟩=some v)/\w.frozen? ⟨h,k*2,none⟩=false/\(∃ v,w.cell? ⟨h,k*2+1,none⟩=some v)/\w.frozen? ⟨h,k*2+1,none⟩=false:=by
 obtain⟨_,_,hc,_⟩:=F;obtain⟨a,b⟩:=hc (k*2) (by omega);obtain⟨c,d⟩:=hc (k*2+1) (by omega);exact⟨a,b,c,d⟩
theorem zs9 {w:World} {g h m k:Nat} {L:List (Int×List Int)} (F:Fill w g h m L) (hk:L.length=k) (hm:k<m) (f:Int) (ts:List Int) {n b cap:Nat} (hn:ts.length=n) (h1:b≠g) (h2:b≠h) (hr:RowAt .i64 w (some ⟨b,0,none⟩) ts)
  {x0 x1 x2 x3:Value} (d0:w.cell? ⟨g,0,none⟩=some x0) (d1:w.cell? ⟨g,1,none⟩=some x1) (d2:w.cell? ⟨g,2,none⟩=some x2) (d3:w.cell? ⟨g,3,none⟩=some x3) (z2:w.frozen? ⟨g,2,none⟩=false) (z3:w.frozen? ⟨g,3,none⟩=false) (u:Value)
  {W:World} (hW:W=((w.setCell ⟨h,k*2,none⟩ (.int .i64 f)).setCell ⟨h,k*2+1,none⟩ (.slice (some ⟨b,0,none⟩) n cap)).setCell ⟨g,2,none⟩ u) :
  Fill W g h m (L++[(f,ts)])/\RowAt .i64 W (some ⟨b,0,none⟩) ts/\W.cell? ⟨g,0,none⟩=some x0/\W.cell? ⟨g,1,none⟩=some x1/\W.cell? ⟨g,2,none⟩=some u/\W.cell? ⟨g,3,none⟩=some x3/\W.frozen? ⟨g,2,none⟩=false/\W.frozen? ⟨g,3,none⟩=false:=by
 subst hW;have hne:h≠g:=F.1;have E:∀ j,((w.setCell ⟨h,k*2,none⟩ (.int .i64 f)).setCell ⟨h,k*2+1,none⟩ (.slice (some ⟨b,0,none⟩) n cap)).cell? ⟨g,j,none⟩=w.cell? ⟨g,j,none⟩:=λj=>(zc (Or.inl hne)).trans (zc (Or.inl hne))
 refine⟨(F.more hk hm f ts hn h1 h2 hr).table 2 u,((hr.apart h2.symm _ _).apart h2.symm _ _).apart h1.symm _ _,?_,?_,?_,?_,?_,?_⟩
 ·rw[zc (Or.inr (by decide)),E];exact d0
 ·rw[zc (Or.inr (by decide)),E];exact d1
 ·exact World.cell?_setCell_same' _ _ _ (by rw[E,d2];rfl)
 ·rw[zc (Or.inr (by decide)),E];exact d3
 ·rw[World.frozen?_setCell,World.frozen?_setCell,World.frozen?_setCell];exact z2
 ·rw[World.frozen?_setCell,World.frozen?_setCell,World.frozen?_setCell];exact z3
theorem ztT {w:World} {g h m:Nat} {L:List (Int×List Int)} (F:Fill w g h m L)
  {x0 x1 x2 x3:Value} (d0:w.cell? ⟨g,0,none⟩=some x0) (d1:w.cell? ⟨g,1,none⟩=some x1) (d2:w.cell? ⟨g,2,none⟩=some x2) (d3:w.cell? ⟨g,3,none⟩=some x3) (z2:w.frozen? ⟨g,2,none⟩=false) (z3:w.frozen? ⟨g,3,none⟩=false) (u:Value)
  {W:World} (hW:W=w.drew.setCell ⟨g,3,none⟩ u) :
  Fill W g h m L/\W.cell? ⟨g,0,none⟩=some x0/\W.cell? ⟨g,1,none⟩=some x1/\W.cell? ⟨g,2,none⟩=some x2/\W.cell? ⟨g,3,none⟩=some u/\W.frozen? ⟨g,2,none⟩=false/\W.frozen? ⟨g,3,none⟩=false:=by
 subst hW;refine⟨(F.below (bd (Below.refl _ _))).table 3 u,?_,?_,?_,?_,?_,?_⟩
 ·rw[zc (Or.inr (by decide))];exact d0
 ·rw[zc (Or.inr (by decide))];exact d1
 ·rw[zc (Or.inr (by decide))];exact d2
 ·exact World.cell?_setCell_same' _ _ _ (by rw[show w.drew.cell? ⟨g,3,none⟩=w.cell? ⟨g,3,none⟩ from rfl,d3];rfl)
 ·rw[World.frozen?_setCell];exact z2
 ·rw[World.frozen?_setCell];exact z3
theorem zsk (L:List (Int×List Int)) (x:Int×List Int):zaB (L++[x])=max (zaB L) (x.2.length:Int):=by
 have e:∀ o,o<=L.length->za7 (L++[x]) o=za7 L o:=by
  intro o ho
  induction o with
  |zero=>rfl
  |succ o ih =>
   show max (za7 (L++[x]) o) ((ze (L++[x]) o).2.length:Int)=max (za7 L o) ((ze L o).2.length:Int)
   rw[ih (by omega),zg0 x (by omega)]
 unfold zaB;rw[List.length_append,List.length_singleton]
 show max (za7 (L++[x]) L.length) ((ze (L++[x]) L.length).2.length:Int)=_
 rw[e _ (Nat.le_refl _),zgZ]
theorem zrO (L:List (Int×List Int)) (x:Int×List Int):zdT (L++[x])=max (zdT L) (zP x.2):=by
 have e:∀ o,o<=L.length->zdS (L++[x]) o=zdS L o:=by
  intro o ho
  induction o with
  |zero=>rfl
  |succ o ih =>
   show max (zdS (L++[x]) o) (zP (ze (L++[x]) o).2)=max (zdS L o) (zP (ze L o).2)
   rw[ih (by omega),zg0 x (by omega)]
 unfold zdT;rw[List.length_append,List.length_singleton]
 show max (zdS (L++[x]) L.length) (zP (ze (L++[x]) L.length).2)=_
 rw[e _ (Nat.le_refl _),zgZ]
end Go.Proofs.YtlodkoimdoeopaaGreatDoor
