/- Parts, joined. -/
import Derived.Test.YtlodkoimdoeopaaGreatDoorQ22
import Derived.Test.YtlodkoimdoeopaaGreatDoorQ24
import Derived.Test.YtlodkoimdoeopaaGreatDoorQ19
import Derived.Test.YtlodkoimdoeopaaGreatDoorQ09
import Derived.Test.YtlodkoimdoeopaaGreatDoorQ18
import Derived.Deep.RegionHeld3
import Derived.Deep.DeepCutAuto
import Derived.Deep.LoopGhost
namespace Go.Proofs.YtlodkoimdoeopaaGreatDoor
open Go.RowKit
theorem zwP {i W:Nat} (h:i<W) (hW:W<=65536):IntKind.i64.wrap (i:Int)=(i:Int):=zaN (by omega) (by omega)
theorem zx4 {a i n:Nat} (h:a+i=n) (hn:n<=65536):IntKind.i64.wrap ((a:Int)+(i:Int))=(n:Int):=by
 rw[←Int.natCast_add,h];exact zaN (by omega) (by omega)
theorem zwO {a i W:Nat} (h:i<W) (hw:a+W<=65536):a+i<=65536:=by omega
theorem zyk {r t:Int} (h:r<=t) (ht:t<=65535):r<=65535:=by omega
theorem zul {q M:Nat} (h:q<M) (hM:M<=4294967296):0<=(q:Int)/\(q:Int)<=9223372036854775807:=by omega
theorem zxN {i W:Nat} (h:i<W) (hW:W<=65536) : -4611686018427387904<=(i:Int)/\(i:Int)<=4611686018427387904:=by omega
theorem zwx:(Tryz.prog.info? 155).map (λi=>(i.zero,i.size,i.bytes))=some (some (.agg #[.int .u64 0,.int .u64 0]),2,16):=by kernel_rfl
theorem zuE (m j:Nat) (h:j<m):(madeCells #[.int .u64 0,.int .u64 0] m).toList[j]?=some (.int .u64 0):=by
 unfold madeCells;simp only[Array.toList_map,Array.toList_range,List.getElem?_map,List.getElem?_range h,Option.map_some];have:j % 2=0\/j % 2=1:=by omega
 rcases this with e|e<;>simp[e]
theorem zwk (n:Nat) (h:n<=1048576):∃ zs:Array Value,(∀ w:World,(Instr.makeSlice 151 (.int .i64 (n:Int)) (.int .i64 (n:Int))).run Tryz.prog w=.ok (.slice (some ⟨w.heap.size,0,none⟩) n n) (w.alloc (.cells zs 155)))/\(∀ (w:World) (i:Nat),i<n->Tot2 (w.alloc (.cells zs 155)) w.heap.size (i*2) 0):=by
 obtain⟨i0,hinf,hz0,hz1,hz2⟩:=info_parts zwx;have hm:(n:Int)<=9223372036854775807:=by omega
 refine⟨madeCells (Value.agg #[.int .u64 0,.int .u64 0]).cells (n*i0.size),λw=>?_,λw i hin=>?_⟩
 ·have hr:=run_make (P:=Tryz.prog) w 151 155 i0 (.agg #[.int .u64 0,.int .u64 0]) Tryz.underlying151 hinf hz0 .i64 .i64 n n (by omega) (Int.le_refl _) (by rw[hz2];omega) hm
  simpa only [Int.toNat_natCast] using hr
 ·rw[hz1];have ho:(w.alloc (.cells (madeCells (Value.agg #[.int .u64 0,.int .u64 0]).cells (n*2)) 155)).ownsRow 0 155 2 (.slice (some ⟨w.heap.size,0,none⟩) n n) n (madeCells (Value.agg #[.int .u64 0,.int .u64 0]).cells (n*2)).toList :=
   World.ownsRow_lit w _ n (Nat.zero_le _) (by unfold maxLen;omega) (by rw[size_madeCells])
  have hc:∀ j,j<n*2->(w.alloc (.cells (madeCells (Value.agg #[.int .u64 0,.int .u64 0]).cells (n*2)) 155)).cell? ⟨w.heap.size,j,none⟩=some (.int .u64 0):=λj hj=>by
   rw[ho.cellAt j hj];exact zuE _ j hj
  refine⟨⟨?_,ho.frozenAt _⟩,?_,ho.frozenAt _⟩
  ·rw[show hi 0 % 18446744073709551616=0 from rfl];exact hc _ (by omega)
  ·rw[show lo 0=0 from rfl];exact hc _ (by omega)
theorem zr8 {c:JobC} {G:List Int} {j:Int} (h:j ∈ zch c.mo G):zbu (c.rows G) j=true/\zdR (c.rows G) j=c.row j:=by
 have a:zbu (c.rows G) j=true:=zkN.2 h;refine⟨a,?_⟩;have b:=zns a;obtain⟨i,_,e⟩:=List.mem_map.1 b;have e1:i=j:=congrArg Prod.fst e;have e2:c.row i=zdR (c.rows G) j:=congrArg Prod.snd e;rw[←e2,e1]
theorem TotEnd.other {w w':World} {b o o2:Nat} {X:Int} (h:TotEnd w w' b o) (t:Tot2 w b o2 X) (n:o2≠o/\o2≠o+1/\o2+1≠o/\o2+1≠o+1):Tot2 w' b o2 X:=by
 obtain⟨⟨c0,f0⟩,c1,f1⟩:=t;exact⟨⟨(h.2.1 _ n.1 n.2.1).trans c0,(h.2.2 _).trans f0⟩,(h.2.1 _ n.2.2.1 n.2.2.2).trans c1,(h.2.2 _).trans f1⟩
def TotsJ (w:World) (B M:Nat) (c:JobC) (y k q:Nat):Prop:=∀ p,p<M->Tot2 w B (p*2) (if p<q then zd7 c y p (k+1) else zd7 c y p k)
theorem TotsJ.at {w:World} {B M:Nat} {c:JobC} {y k q:Nat} (h:TotsJ w B M c y k q) (hq:q<M):Tot2 w B (q*2) (zd7 c y q k):=by
 have:=h q hq
 rwa [if_neg (Nat.lt_irrefl q)]at this
theorem TotsJ.step {w w':World} {B M:Nat} {c:JobC} {y k q:Nat} (h:TotsJ w B M c y k q) (he:TotEnd w w' B (q*2)) (ht:Tot2 w' B (q*2) (zd7 c y q (k+1))):TotsJ w' B M c y k (q+1):=by
 intro p hp
 by_cases e:p=q
 ·subst e;rw[if_pos (Nat.lt_succ_self p)];exact ht
 ·have a:=he.other (h p hp) (by omega)
  by_cases g:p<q
  ·rw[if_pos g]at a;rw[if_pos (by omega)];exact a
  ·rw[if_neg g]at a;rw[if_neg (by omega)];exact a
theorem TotsJ.start {w:World} {B M:Nat} {c:JobC} {y k:Nat} (h:∀ p,p<M->Tot2 w B (p*2) (zd7 c y p k)):TotsJ w B M c y k 0:=λp hp=>by
 rw[if_neg (Nat.not_lt_zero p)];exact h p hp
theorem TotsJ.all {w:World} {B M:Nat} {c:JobC} {y k:Nat} (h:TotsJ w B M c y k M):∀ p,p<M->Tot2 w B (p*2) (zd7 c y p (k+1)):=λp hp=>by
 have:=h p hp
 rwa [if_pos hp]at this
set_option maxHeartbeats 16000000 in
set_option maxRecDepth 100000 in
theorem zqy {w0 w:World} {jb h2:Nat} {F R:Nat->Prop} {c:JobC} {G:List Int} {E:Int} {y n:Nat} {O:Im} (K:JobK w0 c) (J:JobAt w0 w jb F R c G E y (n+1)) (hE:¬E<(zf c.S.ly y).1+((zf c.S.ly y).2.length:Int)) (HO:ImgAt w c.g2 h2 O) (ow:O.iw=(c.S.lx.length:Int)) (oh:O.ih=(c.S.ly.length:Int)) (oc:O.ic=c.I.ic) (ot:O.it=c.I.it)
  (hj:jb≠h2) (hF:¬F h2) (hR:¬R h2) (_:w0.heap.size<=h2) :
  Calls Tryz.prog 52 #[.pointer (some ⟨jb,0,none⟩)] w λe w'=>e=.returned (.tuple #[])/\ImgAt w' c.g2 h2 (zac O c.I c.S c.x0 c.W y 0 (c.W*c.C))/\w.grownBy w' (some h2):=by
 obtain⟨pb,pc,cbk,cc,rb,rc,r,fx,RR⟩:=J.mem;obtain⟨hy,e1,e2,lok⟩:=J.E_in K;obtain⟨C1,C3,hCn⟩:=K.c1;have w1':=K.w1;have wb:c.W<=65536:=by have:=K.xw;have:=K.tx.ok.2.2.1;omega
 obtain⟨b1,b2,b3,b4,b5⟩:=lok;have st:=J.st;rw[zcJ hy]at st;have HHAS:=za (fun(k:Nat) (hk:k<(zf c.S.ly y).2.length)=>zr8 (st.has (j:=(zf c.S.ly y).1+(k:Int)) hE (by omega) (by unfold zau;show _<(zf c.S.ly y).1+((zf c.S.ly y).2.length:Int);omega)));have q1:=fx.c1;have q6:=fx.c6;have q16:=fx.c16;have q17:=fx.c17;have q20:=J.c20;have q21:=J.c21;obtain⟨ad,cap,q22,lrow,-⟩:=J.line;have HRR:=za RR;have qr:=fx.ring;have HRL:=za (fun(j:Int)=>K.row_len j);have HPI:=za (fun(q k:Nat) (hk:k<=(zf c.S.ly y).2.length)=>zpd K (q:=q) hy hk);have HPS:=za (fun(q k:Nat)=>show zd7 c y q (k+1)=zd7 c y q k+(zf c.S.ly y).2.getD k 0*(c.row ((zf c.S.ly y).1+(k:Int))).getD q 0 from rfl);have HRI:=za (fun(j:Int) (q:Nat)=>zmA K j q);have HAB:=za (fun(k:Nat) (hk:k<(zf c.S.ly y).2.length)=>b5 k hk);have HPA:=za (fun(i ch:Nat) (hi:i<c.W) (hc:ch<c.C)=>zu0 K hy hi hc);have HSW:=za (fun(x ch:Nat)=>show -9223372036854775808<=zbA c.I c.S x y (ch:Int)/\zbA c.I c.S x y (ch:Int)<=9223372036854775807 from zry _);have hxw:=K.xw;have hit:1<=c.I.it/\c.I.it<=65535:=by obtain⟨_,_,_,_,_,a,b,_⟩:=K.img.ok;exact⟨a,b⟩
 have HRF:=za (λs=>show 0<=zaM s c.I.it/\zaM s c.I.it<=c.I.it by have:=zgn s c.I.it;rw[zfr (by omega) hit.2]at this;exact this);have HTS:=za (fun(i ch:Nat) (hi:i<c.W) (hc:ch<c.C)=>show zbp (zac O c.I c.S c.x0 c.W y 0 (i*c.C+ch)) ((c.x0+i:Nat):Int) ((y:Nat):Int) (ch:Int) (zaM (zbA c.I c.S (c.x0+i) y (ch:Int)) c.I.it)=true/\zcs (zac O c.I c.S c.x0 c.W y 0 (i*c.C+ch)) ((c.x0+i:Nat):Int) ((y:Nat):Int) (ch:Int) (zaM (zbA c.I c.S (c.x0+i) y (ch:Int)) c.I.it)=zac O c.I c.S c.x0 c.W y 0 (i*c.C+ch+1) from by
  have hs:zbp O ((c.x0+i:Nat):Int) ((y+0:Nat):Int) (ch:Int) (zaM (zbA c.I c.S (c.x0+i) (y+0) (ch:Int)) c.I.it)=true:=by
   have rf:=HRF.out (zbA c.I c.S (c.x0+i) y (ch:Int));unfold zbp;rw[Bool.and_eq_true,decide_eq_true_iff];refine⟨zcP.2 ⟨by omega,by omega,by omega,by omega,by omega,by rw[oc,K.ch];omega⟩,?_⟩;rw[ot];exact rf.2
  have t:=zp4 (O:=O) (I:=c.I) (S:=c.S) (x0:=c.x0) (W:=c.W) (y0:=y) (k:=0) (i:=i) (c:=ch) ow oc (by rw[hCn,K.ch]) (by rw[hCn];exact hc) (by omega) hs;rw[hCn]at t;exact⟨hs,t⟩)
 have T0:zac O c.I c.S c.x0 c.W y 0 0=O:=zgr _ _ _ _ _ _;have HOK:=za T0;have CC:=zaF HO;rw[oc,K.ch]at CC;have OIT:=za (λm=>show(zac O c.I c.S c.x0 c.W y 0 m).it=c.I.it from ot);obtain⟨M,hM⟩:∃ M,c.W*c.C=M:=⟨_,rfl⟩;have m0:1<=M:=by rw[←hM];exact Nat.mul_pos (by omega) (by omega)
 have m1:M<=65536*3:=hM ▸ zef wb C3;have m3:M<=4294967296:=Nat.le_trans m1 (by decide);have W0:=zgG hM m3;obtain⟨zs,MK,MO⟩:=zwk M (Nat.le_trans m1 (by decide));have HMO:=za MO;have HM:=za hM;have HIMG:=za HO;have hl:=J.lt;have X:=za (And.intro q1 (And.intro q6 (And.intro q16 (And.intro q17 (And.intro q20 (And.intro q21 (And.intro q22 qr)))))));have HLR:=za lrow;have HN:=za hj;have HNR:=za (show rb≠h2/\¬R h2 from⟨λe=>hF (e ▸ fx.frb),hR⟩);have hh2:=HO.lt.2;have ylt:y<=65536:=by have:=K.ty.ok.2.2.1;omega
 have xlt:c.x0+c.W<=65536:=by have:=K.tx.ok.2.2.1;omega
 rw[hM]at HRL ⊢;have N3:=za m3;clear K J fx RR st MO hM HO T0 lrow qr hE e1 e2 hF hR ow oh oc ot hj b5 m1 m3;obtain⟨C,hC⟩:∃ C,c.C=C:=⟨_,rfl⟩;obtain⟨W,hW⟩:∃ W,c.W=W:=⟨_,rfl⟩;rw[hC]at C1 C3 CC W0 HM HPA HTS;rw[hW]at w1' wb q16 W0 HM HPA hxw xlt;have HWE:=za hW;clear hW hC;obtain⟨lf,hlf⟩:∃ lf,(zf c.S.ly y).1=lf:=⟨_,rfl⟩;obtain⟨ts,hts⟩:∃ ts,(zf c.S.ly y).2=ts:=⟨_,rfl⟩;obtain⟨m,hm⟩:∃ m,ts.length=m:=⟨_,rfl⟩;rw[hts,hm]at HHAS HPI HAB HPA b3 b4 X q22;rw[hlf]at HHAS HPS X b1 b2 q21;rw[hts]at HPS HLR;have HMM:=za hm;clear hlf hts hm
 go_enter Tryz.func52,Tryz.ntmps52
 go_wp2_with (go_at_call 17;(with_reducible refine CC.mono ?_);rintro e w2 ⟨rfl,rfl⟩;have z22:=ca (ob:=.cells zs 155) hl q22)
 have T1:=za (λi hi=>HMO.out w i hi);have G1:=za (zZ (zg w (.cells zs 155)) (some w.heap.size));clear MK HMO W0 q1 q6 q16 q17 q20 q21 q22 z22 CC;have hB0:w.heap.size<(w.alloc (.cells zs 155)).heap.size:=by simp
 have GB:=za (zg w (.cells zs 155));generalize w.alloc (.cells zs 155)=W1 at *;obtain⟨B,hB⟩:∃ B,w.heap.size=B:=⟨_,rfl⟩;simp only[hB]at T1 hB0 ⊢;have HBE:=za hB;have HB0:=za hB0;have HLT:=za (show jb≠B/\h2<B/\jb<B from by omega);have NB:=za (show ∀ b,b<B->(some b:Option Nat)≠some B from λb hb e=>by have:=Option.some.inj e;omega);clear hB hB0 hl hh2
 go_loopg [29] m (λr i wr=>∃ k:Nat,k+r=m/\i=.int .i64 (k:Int)/\(∀ q,q<M->Tot2 wr B (q*2) (zd7 c y q k))/\W1.grownBy wr (some B))
 case atStart=>exact⟨0,by omega,rfl,λq hq=>T1.out q hq,zbi _ _⟩
 case round =>
  clear T1;obtain⟨k,hk,rfl,ht,hg⟩:=hrel;have HT:=za ht;have HG:=za hg;have HK:=za hk;clear ht hg hk;obtain⟨G0,hG0⟩:∃ G0,G0=gk:=⟨_,rfl⟩;subst hG0;have GW:=za ((zZ GB.out (some B)).trans HG.out);have nj:=NB.out jb HLT.out.2.2
  by_cases hlt:k<m
  ·have x17:=cg GW.out nj X.out.2.2.2.1;have x21:=cg GW.out nj X.out.2.2.2.2.2.1;have xr:=cg GW.out (NB.out rb (by have:=ze X.out.2.2.2.2.2.2.2;have:=HBE.out;omega)) X.out.2.2.2.2.2.2.2;obtain⟨tb,tof,rfl,ctb⟩:=HLR.out.get (show k<_ by rw[HMM.out];exact hlt);have cu:=cg GW.out (NB.out tb (by have:=ze ctb;have:=HBE.out;omega)) ctb;obtain⟨hh1,hh2⟩:=HHAS.out k hlt;have RW:=za (HRR.out.off (Off.of_grown GW.out) (λb hb e=>by have:=HRR.out.hi b hb;have:=HBE.out;omega));have HWR:=za (show B<wr.heap.size from by have:=HG.out.size;have:=HB0.out;omega);have CRW:=λw' (b':Below wr.heap.size wr w')=>ztS (j:=lf+(k:Int)) (by omega) (by omega) (RW.out.below b') hh1 (cb b' (ze x17) x17) (cb b' (ze xr) xr)
   rw[hh2]at CRW;have HX21:=za x21;have aw:=HAB.out k hlt;obtain⟨A,hA⟩:∃ A,ts.getD k 0=A:=⟨_,rfl⟩;rw[hA]at cu aw;have HSK:=za (λq=>HPS.out q k);rw[hA]at HSK;have HRK:=za (HRL.out (lf+(k:Int)));have HRI2:=za (λq=>HRI.out (lf+(k:Int)) q);obtain⟨RJ,hRJ⟩:∃ RJ,c.row (lf+(k:Int))=RJ:=⟨_,rfl⟩;simp only[hRJ]at HSK HRK HRI2 CRW;have WS:IntKind.i64.wrap (lf+(k:Int))=lf+(k:Int):=by rw[IntKind.wrap_i64];omega
   obtain⟨LK,hLK⟩:∃ LK,lf+(k:Int)=LK:=⟨_,rfl⟩;rw[hLK]at WS CRW;have cu0:=za cu;clear hh1 hh2 hRJ hA x17 xr ctb
   go_upto_region 5 with fail
   go_region_held3 (λw'=>w'.cell? ⟨jb,21,none⟩=some (.int .i64 lf)) (first|with_reducible assumption|(with_reducible exact y21)|go_keep)
    (first|(go_at_call 91;(with_reducible refine(CRW _ bch).mono ?_);rintro e w5 ⟨v5,rfl,own5,b5⟩;obtain⟨vb,vc,rfl,hvb,_,hrow5,_,_⟩:=zax own5 HRK.out m0;have K5:=za (bt (show Below wr.heap.size wr _ by repeat (first|exact Below.refl _ _|(with_reducible refine bdN ?_ _)|with_reducible refine bd ?_)) b5);have y21:=cb K5.out (ze HX21.out) HX21.out;have HR5:=za hrow5;have HVB:=za hvb;clear own5 b5 hrow5 hvb))
   have HT5:=za (TotsJ.start (λp hp=>(HT.out p hp).below K5.out));have HVN:=za (show(some vb:Option Nat)≠some B from λe=>by have:=Option.some.inj e;have h9:wr.heap.size<=vb:=HVB.out;have:=HWR.out;omega);clear CRW WS x21 cu y21;go_wp2
   go_loopg [46] M (λr i w6=>∃ q:Nat,q+r=M/\i=.int .i64 (q:Int)/\TotsJ w6 B M c y k q/\w5.grownBy w6 (some B))
   case atStart=>exact⟨0,by omega,rfl,HT5.out,zbi _ _⟩
   case round =>
    obtain⟨q,hq,rfl,ht2,hg2⟩:=hrel;have HT6:=za ht2;have HG6:=za hg2;have HQ:=za hq;clear ht2 hg2 hq
    by_cases hlt2:q<M
    ·have cv:=(HR5.out.grown HG6.out HVN.out).at (show q<RJ.length by rw[HRK.out];exact hlt2);rw[Nat.zero_add]at cv;have av:=HRI2.out q;have hq9:q<4294967296:=Nat.lt_of_lt_of_le hlt2 N3.out;have sk:=HSK.out q;obtain⟨V,hV⟩:∃ V,RJ.getD q 0=V:=⟨_,rfl⟩;rw[hV]at cv av sk;have CAD:=zvp A V (by omega) (by omega) (by omega) (by omega) B (q*2) (zd7 c y q k) wr (HT6.out.at hlt2);rw[←sk]at CAD;clear hV av sk
     go_wp2_with (go_at_call 92;(with_reducible refine CAD.mono ?_);rintro e w7 ⟨rfl,t7,e7⟩;have HT7:=za (HT6.out.step e7 t7);have HG7:=za (HG6.out.trans e7.1);clear t7 e7)
     go_roundg (gk-1)
     case measure=>have:=HQ.out;omega
     case rel=>exact⟨q+1,by have:=HQ.out;omega,by go_num,HT7.out,HG7.out⟩
    ·obtain rfl:M=q:=by have:=HQ.out;omega
     have HTA:=za HT6.out.all;clear hlt2;go_wp2
     go_roundg (G0-1)
     case measure=>have:=HK.out;omega
     case rel=>exact⟨k+1,by have:=HK.out;omega,by go_num,HTA.out,(HG.out.trans (zZ K5.out _)).trans HG6.out⟩
  ·obtain rfl:m=k:=by have:=HK.out;omega
   clear hlt;have CWX:=za GW.out;have HIW:=za (HIMG.out.grown GW.out (NB.out _ (HIMG.out.lt.1 |> λh=>by have:=HBE.out;omega)) (NB.out h2 HLT.out.2.1));have HTW:=za HT.out;obtain⟨WA,hWA⟩:∃ WA,WA=wr:=⟨_,rfl⟩;subst hWA;have y1:=cg CWX.out nj X.out.1;have y6:=cg CWX.out nj X.out.2.1;have y20:=cg CWX.out nj X.out.2.2.2.2.1;have HY:=za (And.intro y1 (And.intro y6 y20));have HHB:=za (show(some B:Option Nat)≠some h2 from λe=>by have:=Option.some.inj e;have:=HLT.out.2.1;omega);have HJH:=za (show(some jb:Option Nat)≠some h2 from λe=>HN.out (Option.some.inj e));rw[←HOK.out]at HIW;clear HT HG GW y1 y6 y20 nj;go_wp2
   go_loopg [61] M (λr i w7=>∃ q:Nat,q+r=M/\i=.int .i64 (q:Int)/\ImgAt w7 c.g2 h2 (zac O c.I c.S c.x0 c.W y 0 q)/\WA.grownBy w7 (some h2))
   case atStart=>exact⟨0,by omega,rfl,HIW.out,zbi _ _⟩
   case round =>
    obtain⟨q,hq,rfl,hi7,hg7⟩:=hrel;have HI7:=za hi7;have HG7:=za hg7;have HQ:=za hq;clear hi7 hg7 hq
    by_cases hlt2:q<M
    ·have hq9:q<4294967296:=Nat.lt_of_lt_of_le hlt2 N3.out;have ch3:q % C<C:=Nat.mod_lt _ (by omega);have iw3:q / C<W:=Nat.div_lt_of_lt_mul (by rw[Nat.mul_comm,HM.out];exact hlt2);have eq3:q / C*C+q % C=q:=Nat.div_add_mod' q C;obtain⟨i,hi'⟩:∃ i,q / C=i:=⟨_,rfl⟩;obtain⟨ch,hch⟩:∃ ch,q % C=ch:=⟨_,rfl⟩;have hz:((C:Int) == 0)=false:=beq_eq_false_iff_ne.2 (by omega);have D1:(q:Int).tdiv (C:Int)=(i:Int):=by rw[Int.tdiv_eq_ediv_of_nonneg (zul hlt2 N3.out).1,←hi'];rfl
     have D2:(q:Int).tmod (C:Int)=(ch:Int):=by rw[Int.tmod_eq_emod_of_nonneg (zul hlt2 N3.out).1,←hch];rfl
     have D3:(q:Int) / (C:Int)=(i:Int):=by rw[←hi'];rfl
     have D4:(q:Int) % (C:Int)=(ch:Int):=by rw[←hch];rfl
     have qn:=(zul hlt2 N3.out);obtain⟨qn0,qn1⟩:=qn;rw[hi']at iw3 eq3;rw[hch]at ch3 eq3;have W7:=zfB (a:=(i:Int)) (zxN iw3 wb).1 (zxN iw3 wb).2;have W8:=zwP iw3 wb;have cz1:¬C=0:=by omega
     have cz2:(1:Int)<=(C:Int):=by omega
     have pa:=HPA.out i ch iw3 ch3;obtain⟨ts1,ts2⟩:=HTS.out i ch (HWE.out ▸ iw3) ch3;rw[eq3]at pa ts1 ts2;have sw:=HSW.out (c.x0+i) ch;have rf:=HRF.out (zbA c.I c.S (c.x0+i) y (ch:Int));have y1:=cg HG7.out HJH.out HY.out.1;have y6:=cg HG7.out HJH.out HY.out.2.1;have y20:=cg HG7.out HJH.out HY.out.2.2;have tq:=((HTW.out q hlt2).grown HG7.out HHB.out);rw[pa]at tq;obtain⟨V,hV⟩:∃ V,zbA c.I c.S (c.x0+i) y (ch:Int)=V:=⟨_,rfl⟩;rw[hV]at tq sw rf ts1 ts2;have HTQ:=za tq;have CHE:=λw' (b:Below wr.heap.size wr w')=>zsK B (q*2) V w' (HTQ.out.below b) sw.1 sw.2
     have CMO:=λw' (b:Below wr.heap.size wr w')=>zcW (HI7.out.below b)
     rw[OIT.out q]at CMO;have CRD:=λw'=>zkP V c.I.it sw.1 sw.2 w'
     obtain⟨RV,hRV⟩:∃ RV,zaM V c.I.it=RV:=⟨_,rfl⟩;simp only[hRV]at CRD;rw[hRV]at rf ts1 ts2;have W6:=zx4 (a:=c.x0) (i:=i) rfl (zwO iw3 xlt);obtain⟨xx,hxx⟩:∃ xx,c.x0+i=xx:=⟨_,rfl⟩;rw[hxx]at W6 ts1 ts2;have CSE:=λw' (b:Below wr.heap.size wr w')=>zeT (HI7.out.below b) (xx:Int) (y:Int) (ch:Int) RV rf.1 (zyk rf.2 hit.2) ts1
     rw[ts2]at CSE;obtain⟨it,hit2⟩:∃ it,c.I.it=it:=⟨_,rfl⟩;rw[hit2]at CMO CRD;have cz:(C:Int)≠0:=by omega
     clear hV hRV hxx pa ts1 ts2 sw rf tq eq3 hi' hch iw3 ch3 hit2
     go_upto_region 14 with fail
     go_region_held3 (λw'=>w'.cell? ⟨jb,1,none⟩=some (.pointer (some ⟨c.g2,0,none⟩))/\w'.cell? ⟨jb,6,none⟩=some (.int .i64 (c.x0:Int))/\w'.cell? ⟨jb,20,none⟩=some (.int .i64 (y:Int))) (first|with_reducible assumption|(with_reducible exact⟨y1,y6,y20⟩)|(with_reducible exact⟨z1,z6,z20⟩)|go_keep)
      (first
       |(go_at_call 94;(with_reducible refine(CHE _ bch).mono ?_);rintro e w9 ⟨rfl,rfl⟩)
       |(go_at_call 23;(with_reducible refine(CMO _ bch).mono ?_);rintro e w9 ⟨rfl,rfl⟩)
       |(go_at_call 93;(with_reducible refine(CRD _).mono ?_);rintro e w9 ⟨rfl,b9⟩;have K9:=za (bt (show Below wr.heap.size wr _ by repeat (first|exact Below.refl _ _|(with_reducible refine bdN ?_ _)|with_reducible refine bd ?_)) b9);have z1:=cb K9.out (ze y1) y1;have z6:=cb K9.out (ze y6) y6;have z20:=cb K9.out (ze y20) y20;clear b9))
     go_upto_region 15 with fail
     clear y1 y6 y20
     go_region_held3 (λw'=>w'.cell? ⟨jb,1,none⟩=some (.pointer (some ⟨c.g2,0,none⟩))/\w'.cell? ⟨jb,6,none⟩=some (.int .i64 (c.x0:Int))/\w'.cell? ⟨jb,20,none⟩=some (.int .i64 (y:Int))) (first|with_reducible assumption|(with_reducible exact⟨z1,z6,z20⟩)|(with_reducible exact⟨v1,v6,v20⟩)|go_keep)
      (first|(go_at_call 26;(with_reducible refine(CSE _ (bt K9.out bch)).mono ?_);rintro e wb ⟨rfl,ib,gb⟩;have HIB:=za ib;have HGB:=za ((zZ (bt K9.out (show Below w9.heap.size w9 _ by repeat (first|exact Below.refl _ _|(with_reducible refine bdN ?_ _)|with_reducible refine bd ?_))) _).trans gb);have v1:=cg HGB.out HJH.out (cg HG7.out HJH.out HY.out.1);have v6:=cg HGB.out HJH.out (cg HG7.out HJH.out HY.out.2.1);have v20:=cg HGB.out HJH.out (cg HG7.out HJH.out HY.out.2.2);clear ib gb))
     go_wp2
     go_roundg (gk-1)
     case measure=>have:=HQ.out;omega
     case rel=>exact⟨q+1,by have:=HQ.out;omega,by go_num,HIB.out,HG7.out.trans HGB.out⟩
    ·obtain rfl:M=q:=by have:=HQ.out;omega
     clear hlt2;go_wp2
     go_end0
     refine⟨rfl,HI7.out,(?_:w.grownBy wr (some h2))⟩;exact(zZ ((Below.refl _ w).grown CWX.out (Nat.le_refl _) (λj hj=>Nat.le_of_eq (HBE.out.trans (Option.some.inj hj)))) _).trans HG7.out
theorem zwT {w0 w w1 w2:World} {jb:Nat} {F R:Nat->Prop} {c:JobC} {G:List Int} {E:Int} {y n:Nat} (K:JobK w0 c) (J:JobAt w0 w jb F R c G E y (n+1)) (hE:E<(zf c.S.ly y).1+((zf c.S.ly y).2.length:Int)) (b1:Below w.heap.size w w1)
  {r:Nat} (hr:∃ pb pc cb cc rb rc,JobFix w jb pb pc cb cc rb rc r F c) (hp:zqX w1 w0.heap.size r jb R c.mo (c.W*c.C) (zfS c.mo (c.rows G) (E,c.row E)) (G.length:Int) w2) :
  ∃ R',JobAt w0 (w2.setCell ⟨jb,19,none⟩ (.int .i64 (E+1))) jb F R' c (G++[E]) (E+1) y (n+1)/\Off (λk=>R k\/k=jb) w (w2.setCell ⟨jb,19,none⟩ (.int .i64 (E+1)))/\∀ k,R' k->R k\/w1.heap.size<=k:=by
 obtain⟨R',R2,o2,s2,c18,cl,fr⟩:=hp;obtain⟨pb,pc,cbk,cc,rb,rc,fx⟩:=hr;obtain⟨hy,e1,e2,lok⟩:=J.E_in K;have hl:=J.lt;have sz:=b1.size;have O1:Off (λk=>R k\/k=jb) w w2:=(Off.of_below (S:=λk=>R k\/k=jb) b1).trans o2 (λ_ _ e=>e);have O2:Off (λk=>R k\/k=jb) w (w2.setCell ⟨jb,19,none⟩ (.int .i64 (E+1))):=O1.set (λ_=>Or.inr rfl) _;have RJ:RecJ w (w2.setCell ⟨jb,19,none⟩ (.int .i64 (E+1))) jb :=
  (RecJ.trans ⟨λo u ho hu=>cl o u (by omega) (cb b1 hl hu),λo ho=>fr o (fb b1 hl ho)⟩ (RecJ.set w2 jb 19 (by decide) _))
 have nF:∀ k,F k->¬(R k\/k=jb):=λk hk e=>by
  rcases e with e|e
  ·exact J.fr k hk e
  ·exact J.fj (e ▸ hk)
 have other:∀ o u,o≠18->o≠19->w.cell? ⟨jb,o,none⟩=some u->(w2.setCell ⟨jb,19,none⟩ (.int .i64 (E+1))).cell? ⟨jb,o,none⟩=some u:=λo u h1 h2 hu =>
  (World.cell?_setCell_other _ _ _ _ (by intro e;simp only[Addr.mk.injEq,and_true]at e;omega)).trans (cl o u h1 (cb b1 hl hu))
 have hst:=J.st;rw[zcJ hy]at hst;have lastR:=hst.last;have st2:JobG c.mo (G++[E]) (E+1) (c.ls y (n+1)):=by
  rw[zcJ hy];exact hst.filter hE
 have rows:zfS c.mo (c.rows G) (E,c.row E)=c.rows (G++[E]):=ztY K.mo1 lastR;rw[rows]at R2;have R3:=R2.off (T:=λk=>k=jb) (Off.of_grown (zn w2 jb 19 (.int .i64 (E+1)))) (λk hk e=>by
  subst e;rcases s2 _ hk with q|q
  ·exact J.rj q
  ·omega)
 refine⟨R',⟨J.bel.trans (O2.below J.bel.size (λk e=>by
   rcases e with e|e
   ·obtain⟨_,_,_,_,_,_,_,_,q⟩:=J.mem;exact q.lo k e
   ·exact e ▸ J.jlo)),J.jlo,J.flo,λk hk=>by have:=J.fhi k hk;have:=O2.size;omega,J.fj,λe=>by
   rcases s2 _ e with q|q
   ·exact J.rj q
   ·omega,λk hk e=>by
   rcases s2 _ e with q|q
   ·exact J.fr k hk q
   ·have:=J.fhi k hk;omega,?_,?_,other 20 _ (by decide) (by decide) J.c20,other 21 _ (by decide) (by decide) J.c21,?_,st2,J.yn,by rw[List.length_append,List.length_singleton,Int.natCast_add,Int.natCast_one,J.len];omega,⟨pb,pc,cbk,cc,rb,rc,r,fx.off O2 RJ nF,R3⟩⟩,O2,λk hk=>?_⟩
 ·rw[World.cell?_setCell_other _ _ _ _ (by intro e;simp at e),c18,List.length_append,List.length_singleton];rfl
 ·exact World.cell?_setCell_same' _ _ _ (by rw[cl 19 _ (by decide) (cb b1 hl J.c19)];rfl)
 ·obtain⟨ad,cap,l0,l1,l2⟩:=J.line;exact⟨ad,cap,other 22 _ (by decide) (by decide) l0,O2.rowF l1 l2 nF,l2⟩
 ·exact s2 k hk
theorem zr3 {w V1 ws w4:World} {base r jb room width MB RB:Nat} {S:Nat->Prop} {L:List (Int×List Int)} {p E:Int} {m0 m1 r0 r1:Value} (hp:zqX ws base r jb S room width L p w4) (hn:∀ k,w.heap.size<=k->¬(S k\/k=jb)) (_hb:w.heap.size<=V1.heap.size) (ks:Below V1.heap.size V1 ws)
  (c0:V1.cell? ⟨MB,0,none⟩=some m0) (c1:V1.cell? ⟨MB,1,none⟩=some m1) (d0:V1.cell? ⟨RB,0,none⟩=some r0) (d1:V1.cell? ⟨RB,1,none⟩=some r1) (df:∀ o,V1.frozen? ⟨RB,o,none⟩=false) (hm:w.heap.size<=MB) (hr:w.heap.size<=RB) (q19:ws.cell? ⟨jb,19,none⟩=some (.int .i64 E)) (f19:ws.frozen? ⟨jb,19,none⟩=false) :
  w4.cell? ⟨jb,19,none⟩=some (.int .i64 E)/\w4.frozen? ⟨jb,19,none⟩=false/\w4.cell? ⟨MB,0,none⟩=some m0/\w4.cell? ⟨MB,1,none⟩=some m1/\w4.cell? ⟨RB,0,none⟩=some r0/\w4.cell? ⟨RB,1,none⟩=some r1/\∀ o,w4.frozen? ⟨RB,o,none⟩=false:=by
 obtain⟨_,_,o2,_,_,q5,q6⟩:=hp;have lm:=ze c0;have lr:=ze d0;exact⟨q5 19 _ (by decide) q19,q6 19 f19,o2.cell (hn MB hm) (cb ks lm c0),o2.cell (hn MB hm) (cb ks lm c1),o2.cell (hn RB hr) (cb ks lr d0),o2.cell (hn RB hr) (cb ks lr d1),λo=>(o2.frozen (hn RB hr) (Nat.lt_of_lt_of_le lr ks.size)).trans (fb ks lr (df o))⟩
theorem zmO {w0 w ws:World} {jb:Nat} {F R:Nat->Prop} {c:JobC} {G G':List Int} {E E2 k j:Int} {y n y' n':Nat} {F':Nat->Prop} {T:Nat->Prop} {u0 u1:Value} {W5:World} (J:JobAt w0 w jb F R c G E y n)
  (h:∃ R',JobAt w0 W5 jb F' R' c G' E2 y' n'/\Off T w W5/\∀ k,R' k->R k\/ws.heap.size<=k) (hs:w.heap.size<ws.heap.size) (hF:∀ k,F' k->F k\/w.heap.size<k) (_:∀ k,T k->k<w.heap.size)
  (c0:W5.cell? ⟨w.heap.size,0,none⟩=some u0) (c1:W5.cell? ⟨w.heap.size,1,none⟩=some u1) :
  ((W5.setCell ⟨w.heap.size,0,none⟩ (.int .i64 k)).setCell ⟨w.heap.size,1,none⟩ (.int .i64 j)).cell? ⟨w.heap.size,0,none⟩=some (.int .i64 k)/\((W5.setCell ⟨w.heap.size,0,none⟩ (.int .i64 k)).setCell ⟨w.heap.size,1,none⟩ (.int .i64 j)).cell? ⟨w.heap.size,1,none⟩=some (.int .i64 j) /\
  ∃ R',JobAt w0 ((W5.setCell ⟨w.heap.size,0,none⟩ (.int .i64 k)).setCell ⟨w.heap.size,1,none⟩ (.int .i64 j)) jb F' R' c G' E2 y' n'/\Off T w ((W5.setCell ⟨w.heap.size,0,none⟩ (.int .i64 k)).setCell ⟨w.heap.size,1,none⟩ (.int .i64 j))/\∀ k,R' k->R k\/w.heap.size<=k:=by
 obtain⟨R',J',o',s'⟩:=h;have O2:Off (λb=>b=w.heap.size) W5 ((W5.setCell ⟨w.heap.size,0,none⟩ (.int .i64 k)).setCell ⟨w.heap.size,1,none⟩ (.int .i64 j)):=((Off.refl (λb=>b=w.heap.size) W5).set (λ_=>rfl) _).set (λ_=>rfl) _;have lw0:=J.bel.size;have jl:=J.lt;refine⟨(zc (Or.inr (by decide))).trans (World.cell?_setCell_same' _ _ _ (by rw[c0];rfl)),World.cell?_setCell_same' _ _ _ (by rw[zc (Or.inr (by decide)),c1];rfl),R',J'.off (J'.bel.trans (O2.below J'.bel.size (λb e=>by subst e;exact lw0))) O2 (by show ¬jb=w.heap.size;omega) (λb hb e=>?_) (λb hb e=>?_),o'.trans O2 (λb hb e=>absurd hb (by have e2:b=w.heap.size:=e;omega)),λb hb=>?_⟩
 ·have e2:b=w.heap.size:=e;rcases hF b hb with q|q
  ·have:=J.fhi b q;omega
  ·omega
 ·have e2:b=w.heap.size:=e;obtain⟨_,_,_,_,_,_,_,_,q⟩:=J.mem;rcases s' b hb with h|h
  ·have:=q.hi b h;omega
  ·omega
 ·rcases s' b hb with h|h
  ·exact Or.inl h
  ·exact Or.inr (by omega)
set_option maxHeartbeats 16000000 in
set_option maxRecDepth 100000 in
theorem zmr {w0 w:World} {jb:Nat} {F R:Nat->Prop} {c:JobC} {G:List Int} {E:Int} {y n:Nat} (K:JobK w0 c) (J:JobAt w0 w jb F R c G E y (n+1)) (hE:E<(zf c.S.ly y).1+((zf c.S.ly y).2.length:Int)) :
  Calls Tryz.prog 21 #[.pointer (some ⟨jb,0,none⟩)] w λe w'=>e=.returned (mvV (1,E))/\∃ R',JobAt w0 w' jb F R' c (G++[E]) (E+1) y (n+1)/\Off (λk=>R k\/k=jb) w w'/\∀ k,R' k->R k\/w.heap.size<=k:=by
 obtain⟨hy,e1,e2,lok⟩:=J.E_in K;obtain⟨b1,b2,b3,b4,-⟩:=lok;have hn:zeU c E y (n+1)=(1,E):=by unfold zeU;rw[if_neg (Nat.succ_ne_zero n),if_pos hE]
 have CN:=λw' (b:Below w.heap.size w w')=>zhQ K (J.below b)
 have CF:=λw' (b:Below w.heap.size w w')=>zlH K (J.below b)
 rw[hn]at CN;have HK:=za K;have HJ:=za J;have HE:=za hE;have hl:=J.lt;have m0:1<=c.W*c.C:=Nat.mul_pos (by have:=K.w1;omega) (by have:=K.c1;omega);have HRL:=za (K.row_len E);have hG:(G.length:Int)<=4611686018427387904:=by
  have h1:=J.len;have h2:=(K.ty.ok.1 c.y0 (by have:=K.yh;have:=K.h1;omega)).1;omega
 have CP:=za (fun(w3 w4:World) (b:Below w.heap.size w w3) (b':Below w3.heap.size w3 w4) (vb vc:Nat) (hvb:w.heap.size<=vb) (hr:RowAt .i64 w3 (some ⟨vb,0,none⟩) (c.row E)) (q19:True)=>show Calls Tryz.prog 50 #[.pointer (some ⟨jb,17,none⟩),.int .i64 E,.slice (some ⟨vb,0,none⟩) (c.W*c.C) vc] w4 λe w'=>e=.returned (.tuple #[])/\∃ r,(∃ pb pc cb cc rb rc,JobFix w jb pb pc cb cc rb rc r F c)/\zqX w4 w0.heap.size r jb R c.mo (c.W*c.C) (zfS c.mo (c.rows G) (E,c.row E)) (G.length:Int) w' from by
  have J4:=J.below (bt b b');obtain⟨pb,pc,cbk,cc,rb,rc,r,fx,RR⟩:=J.mem;have bb:=bt b b';have fx4:=fx.off (T:=λ_=>False) (Off.of_below bb) (RecJ.off (T:=λ_=>False) (Off.of_below bb) (λe=>e) J.lt) (λ_ _ e=>e);have RR4:=RR.below bb;have hst:=J.st;rw[zcJ hy]at hst;have hnj:zbu (c.rows G) E=false:=by
   cases h:zbu (c.rows G) E
   ·rfl
   ·have:=hst.last E (ze1 (zkN.1 h));omega
  have hpb:zi8 c.mo (c.W*c.C) (c.rows G) E (c.W*c.C)=true:=by
   unfold zi8;rw[hnj,decide_eq_true rfl]
   by_cases q:(c.rows G).length=c.mo
   ·rw[decide_eq_true q];have:¬E<zjG (c.rows G):=by
     intro lt
     cases hr2:c.rows G with
     |nil=>rw[hr2]at q;have:=K.mo1;simp at q;omega
     |cons z zs =>
      rw[hr2]at lt;have hz:z ∈ c.rows G:=by rw[hr2];exact List.mem_cons_self ..
      obtain⟨i,hi,rfl⟩:=List.mem_map.1 hz;have:=hst.last i (ze1 hi);have e:zjG ((i,c.row i) :: zs)=i:=rfl;rw[e]at lt;omega
    rw[decide_eq_false this];rfl
   ·rw[decide_eq_false q];rfl
  refine(zuR (jb:=jb) (rb:=rb) (rc:=rc) (p:=(G.length:Int)) (cap:=vc) (vb:=vb) (xs:=c.row E) (by omega) (by omega) RR4 fx4.c17 (J4.c18) (by omega) hG (fx4.fz 18) fx4.ring (K.row_len E) (hr.below b') (λe=>by have:=RR.hi _ e;omega) (by omega) J.rj (λe=>J.fj (e ▸ fx.frb)) hpb).mono ?_;rintro e w' ⟨rfl,hp⟩;exact⟨rfl,r,⟨pb,pc,cbk,cc,rb,rc,fx⟩,hp⟩)
 have c19:=J.c19;have HNR:=za (show ∀ k,w.heap.size<=k->¬(R k\/k=jb) from λk hk e=>by
  rcases e with e|e
  ·obtain⟨_,_,_,_,_,_,_,_,q⟩:=J.mem;have:=q.hi k e;omega
  ·omega)
 have HTR:=za (show ∀ k,(R k\/k=jb)->k<w.heap.size from λk e=>by
  rcases e with e|e
  ·obtain⟨_,_,_,_,_,_,_,_,q⟩:=J.mem;exact q.hi k e
  ·omega)
 have FZ:=za (show w.frozen? ⟨jb,19,none⟩=false by obtain⟨_,_,_,_,_,_,_,f,_⟩:=J.mem;exact f.fz 19);have MV:=za (fun(w:World)=>show(w.alloc (.cells #[.int .i64 1,.int .i64 E] 65)).cell? ⟨w.heap.size,0,none⟩=some (.int .i64 1)/\(w.alloc (.cells #[.int .i64 1,.int .i64 E] 65)).cell? ⟨w.heap.size,1,none⟩=some (.int .i64 E) by constructor<;>simp);have A0:=za (zg w (.cells #[.int .i64 0,.int .i64 0] 65));have R0:=za (show((w.alloc (.cells #[.int .i64 0,.int .i64 0] 65)).cell? ⟨w.heap.size,0,none⟩=some (.int .i64 0)/\(w.alloc (.cells #[.int .i64 0,.int .i64 0] 65)).cell? ⟨w.heap.size,1,none⟩=some (.int .i64 0))/\∀ o,(w.alloc (.cells #[.int .i64 0,.int .i64 0] 65)).frozen? ⟨w.heap.size,o,none⟩=false by refine⟨⟨?_,?_⟩,λo=>?_⟩<;>simp);have hx:(E:Int)=E:=rfl;unfold mvV at CN ⊢;clear K J hE hn hx
 go_enter Tryz.func21,Tryz.ntmps21
 go_upto_region 4 with(go_at_call 20;(with_reducible refine(CN _ A0.out).mono ?_);rintro e w1 ⟨rfl,b1⟩;have B1:=za (bt A0.out b1);have R1:=za (show(w1.cell? ⟨w.heap.size,0,none⟩=some (.int .i64 0)/\w1.cell? ⟨w.heap.size,1,none⟩=some (.int .i64 0))/\∀ o,w1.frozen? ⟨w.heap.size,o,none⟩=false from⟨⟨cb b1 (by simp) R0.out.1.1,cb b1 (by simp) R0.out.1.2⟩,λo=>fb b1 (by simp) (R0.out.2 o)⟩);clear b1)
 obtain⟨V1,hV1⟩:∃ V1,w1.alloc (.cells #[.int .i64 1,.int .i64 E] 65)=V1:=⟨_,rfl⟩;have BV:=za (show Below w.heap.size w V1 by rw[←hV1];exact ba B1.out _);have MV1:=za (MV.out w1);have RV1:=za (show(V1.cell? ⟨w.heap.size,0,none⟩=some (.int .i64 0)/\V1.cell? ⟨w.heap.size,1,none⟩=some (.int .i64 0))/\∀ o,V1.frozen? ⟨w.heap.size,o,none⟩=false by
  rw[←hV1];exact⟨⟨ca (ze R1.out.1.1) R1.out.1.1,ca (ze R1.out.1.2) R1.out.1.2⟩,λo=>fa (ze R1.out.1.1) (R1.out.2 o)⟩)
 have HVL:=za (show w.heap.size<V1.heap.size from ze RV1.out.1.1);rw[hV1]at MV1;obtain⟨MB,hMB⟩:∃ MB,w1.heap.size=MB:=⟨_,rfl⟩;rw[hMB]at MV1;have HMB:=za (show w.heap.size<MB from hMB ▸ (by have:=B1.out.size;have:=ze R1.out.1.1;omega));have x19:=cb BV.out hl c19;rw[hV1,hMB];clear hV1 hMB MV R1 R0 c19 CN
 go_region_held3 (λw'=>w'.cell? ⟨jb,19,none⟩=some (.int .i64 E)) (first|with_reducible assumption|go_keep)
  (first
   |(go_at_call 51;(with_reducible refine(CF _ (bt BV.out bch)).mono ?_);rintro e w3 ⟨v3,rfl,own,b3⟩;obtain⟨vb,vc,rfl,hvb,_,hrow,_,_⟩:=zax own HRL.out m0;have K3:=za (bt (show Below V1.heap.size V1 _ by repeat (first|exact Below.refl _ _|(with_reducible refine bdN ?_ _)|with_reducible refine bd ?_)) b3);have HR3:=za hrow;have HVB:=za (show w.heap.size<=vb from Nat.le_trans BV.out.size hvb);have y19:=cb K3.out (ze x19) x19;clear own b3 hrow hvb)
   |(go_at_call 50;(with_reducible refine(CP.out w3 _ (bt BV.out K3.out) bch vb vc HVB.out HR3.out trivial).mono ?_);rintro e w4 ⟨rfl,r,hfx,hp⟩;have KS:=za (show Below V1.heap.size V1 _ from bt K3.out (show Below w3.heap.size w3 _ by repeat (first|exact Below.refl _ _|(with_reducible refine bdN ?_ _)|with_reducible refine bd ?_)));have HPUT:=za (zwT HK.out HJ.out HE.out (bt BV.out KS.out) hfx hp);have HF4:=za (zr3 hp HNR.out BV.out.size KS.out MV1.out.1 MV1.out.2 RV1.out.1.1 RV1.out.1.2 RV1.out.2 (Nat.le_of_lt HMB.out) (Nat.le_refl _) (cb KS.out (ze x19) x19) (fb KS.out (by have:=BV.out.size;omega) (fb BV.out hl FZ.out)));have z19:=HF4.out.1;clear hp hfx))
 all_goals
  obtain⟨_,z19f,m0c,m1c,r0c,r1c,rfz⟩:=HF4.out;have rf0:=rfz 0;have rf1:=rfz 1;have jn:jb≠w.heap.size:=by omega
  have nm:jb≠MB:=by have:=HMB.out;omega
  have cq:(w4.setCell ⟨jb,19,none⟩ (.int .i64 (E+1))).cell? ⟨w.heap.size,0,none⟩=w4.cell? ⟨w.heap.size,0,none⟩:=zc (Or.inl jn);have cq1:(w4.setCell ⟨jb,19,none⟩ (.int .i64 (E+1))).cell? ⟨w.heap.size,1,none⟩=w4.cell? ⟨w.heap.size,1,none⟩:=zc (Or.inl jn);have FIN:=za (zmO (k:=1) (j:=E) HJ.out HPUT.out (by have:=KS.out.size;have:=HVL.out;omega) (λk hk=>Or.inl hk) HTR.out (cq.trans r0c) (cq1.trans r1c));clear rfz x19 CF CP;go_wp2;obtain⟨g0,g1,g2⟩:=FIN.out;exact bodyPost_ret (v:=.agg #[.int .i64 1,.int .i64 E]) (by simp[results,Tryz.results21,go_sem,g0,g1]) rfl ⟨rfl,g2⟩
def F10 (w:World) (b:Nat):Prop :=
 w.frozen? ⟨b,0,none⟩=false/\w.frozen? ⟨b,1,none⟩=false/\w.frozen? ⟨b,2,none⟩=false/\w.frozen? ⟨b,3,none⟩=false/\w.frozen? ⟨b,4,none⟩=false/\w.frozen? ⟨b,5,none⟩=false/\w.frozen? ⟨b,6,none⟩=false/\w.frozen? ⟨b,7,none⟩=false/\w.frozen? ⟨b,8,none⟩=false/\w.frozen? ⟨b,9,none⟩=false/\b<w.heap.size
theorem F10.new (w:World) (cs:Array Value) (T:TypeId):F10 (w.alloc (.cells cs T)) w.heap.size:=by
 unfold F10
 simp
theorem F10.below {w w':World} {b:Nat} (h:F10 w b) (hb:Below w.heap.size w w'):F10 w' b:=by
 obtain⟨f0,f1,f2,f3,f4,f5,f6,f7,f8,f9,hl⟩:=h;exact⟨fb hb hl f0,fb hb hl f1,fb hb hl f2,fb hb hl f3,fb hb hl f4,fb hb hl f5,fb hb hl f6,fb hb hl f7,fb hb hl f8,fb hb hl f9,Nat.lt_of_lt_of_le hl hb.size⟩
end Go.Proofs.YtlodkoimdoeopaaGreatDoor
