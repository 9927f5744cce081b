/- Parts, joined. -/
import Derived.Test.YtlodkoimdoeopaaGreatDoorP15
import Derived.Test.YtlodkoimdoeopaaGreatDoorP03
import Derived.Test.YtlodkoimdoeopaaGreatDoorP13
import Derived.Test.YtlodkoimdoeopaaGreatDoorP02
import Derived.Test.YtlodkoimdoeopaaGreatDoorRows
import Derived.Test.YtlodkoimdoeopaaGreatDoorP14
import Derived.BigQuiet
import Derived.ProofKit
import Derived.LaidMore
import Derived.OpenShut
import Derived.ChangeMaps5
import Derived.Laws.Strings
namespace Go.Proofs.YtlodkoimdoeopaaGreatDoor
open Go.RowKit
open Go.Maps (Keyed)
open Go.MapKept Go.ChangeMaps
theorem zjV {L:List (Int×List Int)} {h:List Int} (hp:h.Perm (L.map (·.1))) (hh:zbL h h.length) (hr:zfJ L) (h0:L≠[]):h.getD 0 0=zjM L:=by
 cases L with
 |nil=>exact absurd rfl h0
 |cons y r =>
  show h.getD 0 0=y.1
  have hl:0<h.length:=by rw[hp.length_eq];simp
  have hm:y.1 ∈ h:=hp.mem_iff.2 (by simp);obtain⟨k,hk,e⟩:=List.mem_iff_getElem.1 hm;have a:=zrc hh k hk;rw[List.getD_eq_getElem?_getD (i:=k),List.getElem?_eq_getElem hk,Option.getD_some,e]at a;have hm0:h.getD 0 0 ∈ h:=by
   rw[List.getD_eq_getElem?_getD,List.getElem?_eq_getElem hl];exact List.getElem_mem hl
  obtain⟨z,hz,e2⟩:=List.mem_map.1 (hp.mem_iff.1 hm0);rcases List.mem_cons.1 hz with rfl|hz
  ·exact e2.symm
  ·have:=(List.pairwise_cons.1 hr).1 z hz;have e3:z.1=h.getD 0 0:=e2;omega
set_option maxHeartbeats 4000000 in
theorem zuc {w:World} {base r:Nat} {S:Nat->Prop} {room width:Nat} {L:List (Int×List Int)} {j:Int} (h1 : -9223372036854775808<=j) (h2:j<=9223372036854775807) (R:RingAt w base r S room width L) :
  Calls Tryz.prog 124 #[.pointer (some ⟨r,0,none⟩),.int .i64 j] w λe w'=>e=.returned (.bool (zbw L j))/\w=w':=by
 obtain⟨m,v,h,D,V,M⟩:=R.mem;have c2:=M.c2;have HM:=za M.map;have HK:=za (zjC h1 h2);have HB:=za (M.has j);clear M R h1 h2
 go_enter Tryz.func124,Tryz.ntmps124
 go_wp2_with (at_lookup;refine wpList_lookup_own_ok _ rfl _ _ 190 rfl 2 28 zeP Tryz.underlying190 zdG (znD _) (.held (.slice none 0 0)) [] rfl m (Maps.size D) D rfl HM.out _ _ rfl HK.out ?_;intro u ps hu)
 go_ret;exact⟨by rw[HB.out];rfl,rfl⟩
set_option maxHeartbeats 4000000 in
theorem zja {w:World} {base r:Nat} {S:Nat->Prop} {room width:Nat} {L:List (Int×List Int)} (R:RingAt w base r S room width L) :
  Calls Tryz.prog 95 #[.pointer (some ⟨r,0,none⟩)] w λe w'=>e=.returned (.int .i64 (L.length:Int))/\w=w':=by
 obtain⟨m,v,h,D,V,M⟩:=R.mem;have c2:=M.c2;have hlen:=M.map.len Tryz.underlying190 3;rw[M.size]at hlen;clear M R
 go_enter Tryz.func95,Tryz.ntmps95
 go_wp2;go_ret;exact⟨rfl,rfl⟩
theorem zhJ {w:World} {base r:Nat} {S:Nat->Prop} {room width:Nat} {L:List (Int×List Int)} (R:RingAt w base r S room width L) :
  Calls Tryz.prog 85 #[.pointer (some ⟨r,0,none⟩)] w λe w'=>e=.returned (.int .i64 (room:Int))/\w=w':=by
 have c0:=R.c0;clear R
 go_enter Tryz.func85,Tryz.ntmps85
 go_wp2;go_ret;exact⟨rfl,rfl⟩
theorem znI {room width:Nat} (h1:room<=65536) (h2:width<=262144):(room:Int)*(width:Int)<=17179869184:=by
 have:=Nat.mul_le_mul h1 h2;have e:((room*width:Nat):Int)=(room:Int)*(width:Int):=Int.natCast_mul _ _;omega
set_option maxHeartbeats 4000000 in
theorem zqS {w:World} {base r:Nat} {S:Nat->Prop} {room width:Nat} {L:List (Int×List Int)} (R:RingAt w base r S room width L) :
  Calls Tryz.prog 87 #[.pointer (some ⟨r,0,none⟩)] w λe w'=>e=.returned (.int .i64 ((room:Int)*(width:Int)))/\Drew w w':=by
 have c0:=R.c0;have c1:=R.c1;have hm:=znI R.ok.r2 R.ok.wd;have hm0:0<=(room:Int)*(width:Int):=Int.mul_nonneg (by omega) (by omega);have hwr:IntKind.i64.wrap ((room:Int)*(width:Int))=(room:Int)*(width:Int):=by
  generalize (room:Int)*(width:Int)=p at *;exact IntWalk.i64_in _ (by omega)
 clear R
 go_enter Tryz.func87,Tryz.ntmps87
 go_wp2
 go_quiet (fail)
 go_wp2;go_ret;exact⟨rfl,nq,rfl⟩
theorem zsg {L:List (Int×List Int)} {j:Int} (h:zbw L j=false):zdL L j=[]:=by
 unfold zdL;have:L.find? (λy=>decide (y.1=j))=none:=by
  rw[List.find?_eq_none];intro x hx e;have:=(zbS L j).2 ⟨x,hx,of_decide_eq_true e⟩;rw[h]at this;cases this
 rw[this]
theorem zmY {L:List (Int×List Int)} {j:Int} (h:zbw L j=true):(j,zdL L j) ∈ L:=by
 obtain⟨x,hx,e⟩:=(zbS L j).1 h;have hs:(L.find? (λy=>decide (y.1=j))).isSome=true:=List.find?_isSome.2 ⟨x,hx,decide_eq_true e⟩;obtain⟨y,hy⟩:=Option.isSome_iff_exists.1 hs;have h1:=List.mem_of_find?_eq_some hy;have h2:=List.find?_some hy;have h3:y.1=j:=of_decide_eq_true h2;have e2:zdL L j=y.2:=by unfold zdL;rw[hy]
 rw[e2,←h3];exact h1
theorem zml {u v:Value} {ps:List MemPlace} (h:zdG u=some (.held v,ps)):u=v:=by
 unfold zdG at h;simp only[Option.some.injEq,Prod.mk.injEq,DataW.held.injEq]at h;exact h.1
set_option maxHeartbeats 4000000 in
theorem zuq {w:World} {base r:Nat} {S:Nat->Prop} {room width:Nat} {L:List (Int×List Int)} {j:Int} (h1 : -9223372036854775808<=j) (h2:j<=9223372036854775807) (R:RingAt w base r S room width L) :
  Calls Tryz.prog 127 #[.pointer (some ⟨r,0,none⟩),.int .i64 j] w λe w'=>∃ v,e=.returned (.tuple #[v,.bool (zbw L j)])/\OwnI .i64 2 w' w.heap.size v (zdL L j)/\Below w.heap.size w w':=by
 obtain⟨m,v,h,D,V,M⟩:=R.mem;have c2:=M.c2;have HM:=za M.map;have HK:=za (zjC h1 h2);have HB:=za (M.has j);obtain⟨zv,hzv,hown⟩:∃ zv,D.atKey (.int .i64 j) (.held (.slice none 0 0))=.held zv/\∃ ad cap,zv=.slice ad (zdL L j).length cap/\RowAt .i64 w ad (zdL L j)/\(ad=none->(zdL L j).length=0/\cap=0)/\(zdL L j).length<=262144:=by
  rcases hb:zbw L j with _|_
  ·have hz:=zsg hb;have hn:Maps.has D (.int .i64 j)=false:=by rw[M.has j];exact hb
   rw[hz];exact⟨_,Maps.atKey_of_not_has hn _,none,0,rfl,Or.inl rfl,λ_=>⟨rfl,rfl⟩,by simp⟩
  ·have hm:=zmY hb;obtain⟨ad,cap,e,hr,hz,_⟩:=(M.rows _ hm).form;have hw:=(R.ok.rows _ hm).1;have:=R.ok.wd;exact⟨V j,M.at_ _ hm _,ad,cap,e,hr,λq=>⟨by have e2:zdL L j=[]:=(hz q).1;rw[e2];rfl,(hz q).2⟩,by simp only at hw;omega⟩
 obtain⟨ad,cap,rfl,hr,hz,hn⟩:=hown;have HZ:=za hzv;have CL:=zpb (zdL L j) _ rfl ad cap (by omega) hz w hr;generalize zdL L j=xs at *;clear M R h1 h2 hr hz hzv hn
 go_enter Tryz.func127,Tryz.ntmps127
 go_wp2_with (first
  |(at_lookup;refine wpList_lookup_own_ok _ rfl _ _ 190 rfl 2 28 zeP Tryz.underlying190 zdG (znD _) (.held (.slice none 0 0)) [] rfl m (Maps.size D) D rfl HM.out _ _ rfl HK.out ?_;intro u ps hu;rw[HZ.out]at hu;have e:=zml hu;subst e;clear hu)
  |(go_at_call 86;(with_reducible refine CL.mono ?_);rintro e w2 ⟨v2,rfl,o2,b2⟩))
 go_ret2
 exact⟨v2,by rw[←HB.out];rfl,o2,b2⟩
theorem zqY:zfJ []:=List.Pairwise.nil
theorem RMem.none {w:World} {base r:Nat} {S:Nat->Prop} {m:Nat} (c2:w.cell? ⟨r,2,none⟩=some (.map (some m))) (sm:S m) (mr:m≠r) (c3:w.cell? ⟨r,3,none⟩=some (.slice none 0 0)) (hm:w.ownsMap Tryz.prog 2 zdG m 0 (.map [])) :
  RMem w base r S [] m (.slice none 0 0) [] (.map []) (λ_=>.slice none 0 0) where
 c2:=c2
 sm:=sm
 mr:=mr
 c3:=c3
 nums:=OwnI.nil _ _ _ _
 vb:=λg hg=>by cases hg
 perm:=List.Perm.refl _
 heap:=zut
 map:=hm
 size:=rfl
 has:=λ_=>rfl
 at_:=λx hx=>by cases hx
 rows:=λx hx=>by cases hx
 blk:=λx hx=>by cases hx
 apart:=λx hx=>by cases hx
theorem zwU {room width:Nat} (r1:1<=room) (r2:room<=65536) (wd:width<=262144):RingOk room width []:=⟨zqY,Nat.zero_le _,r1,r2,wd,λx hx=>by cases hx⟩
theorem zrS (w:World) {x y:Int} {room width:Nat} (hx:x=(room:Int)) (hy:y=(width:Int)) (r1:1<=room) (r2:room<=65536) (wd:width<=262144) :
  RingAt ((w.alloc (.map #[] 0)).alloc (.cells #[.int .i64 x,.int .i64 y,.map (some w.heap.size),.slice none 0 0] 193)) w.heap.size (w.heap.size+1) (λk=>w.heap.size<=k/\k<w.heap.size+2) room width []:=by
 subst hx hy;have hs:(w.alloc (.map #[] 0)).heap.size=w.heap.size+1:=by simp
 have hm:=(World.ownsMap_made w Tryz.prog 2 zdG).alloc (.cells #[.int .i64 (room:Int),.int .i64 (width:Int),.map (some w.heap.size),.slice none 0 0] 193);have hc:∀ o u,#[Value.int .i64 (room:Int),.int .i64 (width:Int),.map (some w.heap.size),.slice none 0 0][o]?=some u->((w.alloc (.map #[] 0)).alloc (.cells #[.int .i64 (room:Int),.int .i64 (width:Int),.map (some w.heap.size),.slice none 0 0] 193)).cell? ⟨w.heap.size+1,o,none⟩=some u:=by
  intro o u hu;rw[←hs];have hlt:o<4:=by
   by_cases q:o<4
   ·exact q
   ·rw[Array.getElem?_eq_none (by simp;omega)]at hu;cases hu
  match o,hlt,hu with
  |0,_,hu=>simp at hu;subst hu;simp
  |1,_,hu=>simp at hu;subst hu;simp
  |2,_,hu=>simp at hu;subst hu;simp
  |3,_,hu=>simp at hu;subst hu;simp
 refine⟨zwU r1 r2 wd,λk hk=>hk.1,λk hk=>?_,⟨by omega,by omega⟩,hc 0 _ rfl,hc 1 _ rfl,λo=>?_,w.heap.size,_,_,_,_,RMem.none (hc 2 _ rfl) ⟨by omega,by omega⟩ (by omega) (hc 3 _ rfl) hm⟩
 ·simp
  omega
 ·rw[←hs]
  simp
theorem zu7 (a:Int):1<=zhe a/\zhe a<=65536:=by unfold zhe;split<;>(try split)<;>omega
theorem ztY (b:Int):0<=zf1 b/\zf1 b<=262144:=by unfold zf1;split<;>(try split)<;>omega
set_option maxHeartbeats 4000000 in
theorem zuS (a b:Int) (a1 : -9223372036854775808<=a) (a2:a<=9223372036854775807) (b1 : -9223372036854775808<=b) (b2:b<=9223372036854775807) (w:World) :
  Calls Tryz.prog 84 #[.int .i64 a,.int .i64 b] w λe w'=>∃ r S,e=.returned (.pointer (some ⟨r,0,none⟩))/\RingAt w' w.heap.size r S (zhe a).toNat (zf1 b).toNat []/\Below w.heap.size w w':=by
 have hmm:=@run_makeMap Tryz.prog
 go_enter Tryz.func84,Tryz.ntmps84
 have ra:=za (zu7 a);have wb:=za (ztY b);go_wp2
 all_goals
  go_ret;have ra:=ra.out;have wb:=wb.out
  first
   |refine⟨_,rfl,⟨_,zrS w ?_ ?_ (by omega) (by omega) (by omega)⟩,(((Below.refl w.heap.size w).alloc (Nat.le_refl _) _).alloc (by simp) _)⟩
   |refine⟨_,_,rfl,zrS w ?_ ?_ (by omega) (by omega) (by omega),(((Below.refl w.heap.size w).alloc (Nat.le_refl _) _).alloc (by simp) _)⟩
  ·unfold zhe
   (repeat split)<;>omega
  ·unfold zf1
   (repeat split)<;>omega
theorem zr8 (x:Int×List Int) (L:List (Int×List Int)):(zda x L).Perm (x :: L):=by
 induction L with
 |nil=>exact List.Perm.refl _
 |cons y r ih =>
  unfold zda
  split
  ·exact List.Perm.refl _
  ·exact(ih.cons y).trans (List.Perm.swap x y r)
theorem ztr (x:Int×List Int) (L:List (Int×List Int)) (j:Int):zbw (zda x L) j=(decide (x.1=j) || zbw L j):=by
 rw[Bool.eq_iff_iff,zbS,Bool.or_eq_true,zbS,decide_eq_true_eq]
 constructor
 ·rintro ⟨y,hy,e⟩;rcases(zb9 x L y).1 hy with rfl|hy
  ·exact Or.inl e
  ·exact Or.inr ⟨y,hy,e⟩
 ·rintro (e|⟨y,hy,e⟩)
  ·exact⟨x,(zb9 x L x).2 (Or.inl rfl),e⟩
  ·exact⟨y,(zb9 x L y).2 (Or.inr hy),e⟩
theorem zjN {i j:Int} (h:i≠j):Lit.int .i64 i≠Lit.int .i64 j:=λe=>h (by injection e)
theorem zcR {L:List (Int×List Int)} {j:Int} (h:zbw L j=false) {x:Int×List Int} (hx:x ∈ L):x.1≠j:=λe=>by
 have:=(zbS L j).2 ⟨x,hx,e⟩;rw[h]at this;cases this
theorem zvE {w w1 w2:World} {base r m:Nat} {S:Nat->Prop} {room width:Nat} {L:List (Int×List Int)} {v u:Value} {h h' xs:List Int} {D:DataW Value} {V:Int->Value} {j:Int} {n b cap:Nat}
  (j1 : -9223372036854775808<=j) (j2:j<=9223372036854775807) (R:RingAt w base r S room width L) (M:RMem w base r S L m v h D V) (hl:L.length<room) (hj:zbw L j=false) (hx:xs.length=width) (ho:OwnI .i64 2 w base u xs) (hu:∀ g,u.ownBlock=some g->¬S g)
  (m1:w1.ownsMap Tryz.prog 2 zdG m n (D.put (.int .i64 j) (.held u))) (g1:w.grownBy w1 (some m))
  (N2:NumAt w2 r base b (h.length+1) cap h') (hrb:r≠b) (hb:v.ownBlock=some b\/w1.heap.size<=b) (hbl:b<w2.heap.size) (r2:RecK w1 w2 r) (o2:Off (λk=>k=r\/v.ownBlock=some k) w1 w2) (p2:h'.Perm (h++[j])) (k2:zbL h' (h.length+1)) :
  RingAt w2 base r (λk=>S k\/u.ownBlock=some k\/k=b) room width (zda (j,xs) L)/\Off S w w2:=by
 have hr:=R.hi r R.sr;have hml:=R.hi m M.sm;have s1:=g1.size;have s2:=o2.size;have O1:=Off.of_grown g1;have rm:r≠m:=λe=>M.mr e.symm
 have ul:∀ g,u.ownBlock=some g->g<w.heap.size:=λg hg=>OwnI.lt ho g hg
 have nb:∀ g,g<w.heap.size->v.ownBlock≠some g->g≠b:=λg hg hv e=>by
  subst e;rcases hb with hb|hb
  ·exact hv hb
  ·omega
 have ub:∀ g,u.ownBlock=some g->g≠r/\g≠m/\v.ownBlock≠some g/\g≠b:=λg hg=>by
  have hv:v.ownBlock≠some g:=λe=>hu g hg (M.vb g e).1
  exact⟨λe=>hu g hg (e ▸ R.sr),λe=>hu g hg (e ▸ M.sm),hv,nb g (ul g hg) hv⟩
 have cell:∀ o z,o≠3->w.cell? ⟨r,o,none⟩=some z->w2.cell? ⟨r,o,none⟩=some z:=λo z hne hc=>r2.cl hne (O1.cell rm hc)
 have HO:Off S w w2:=(O1.mono (λk _ e=>by subst e;exact M.sm)).trans o2 (λk hk e=>by
  rcases e with e|e
  ·subst e;exact R.sr
  ·exact(M.vb k e).1)
 refine⟨⟨⟨zn9 R.ok.rising hj,by rw[zi6];omega,R.ok.r1,R.ok.r2,R.ok.wd,λx hx'=>?_⟩,λk hk=>?_,λk hk=>?_,Or.inl R.sr,cell 0 _ (by decide) R.c0,cell 1 _ (by decide) R.c1,λo=>r2.fr ((O1.frozen rm hr).trans (R.fr o)),m,.slice (some ⟨b,0,none⟩) (h.length+1) cap,h',D.put (.int .i64 j) (.held u),(λi=>if i=j then u else V i),?_⟩,HO⟩
 ·rcases(zb9 _ _ _).1 hx' with rfl|hx'
  ·exact⟨hx,j1,j2⟩
  ·exact R.ok.rows x hx'
 ·rcases hk with hk|hk|hk
  ·exact R.lo k hk
  ·exact zeh ho k hk
  ·subst hk;rcases hb with hb|hb
   ·exact zeh M.nums _ hb
   ·have:=R.lo r R.sr;omega
 ·rcases hk with hk|hk|hk
  ·have:=R.hi k hk;omega
  ·have:=ul k hk;omega
  ·subst hk;exact hbl
 ·have hs:=M.size;have hD:Maps.has D (.int .i64 j)=false:=by rw[M.has];exact hj
  have hmap:=Off.map o2 m1 (λe=>by
   rcases e with e|e
   ·exact M.mr e
   ·exact(M.vb m e).2.2 rfl)
  refine⟨cell 2 _ (by decide) M.c2,Or.inl M.sm,M.mr,N2.1,N2.2.1,λg hg=>?_,?_,?_,zk4 hmap,?_,λi=>?_,λx hx' z=>?_,λx hx'=>?_,λx hx' g hg=>?_,λx hx' y hy' hne=>?_⟩
  ·obtain rfl:b=g:=Option.some.inj hg;refine⟨Or.inr (Or.inr rfl),λe=>hrb e.symm,λe=>?_⟩;rcases hb with hb|hb
   ·exact(M.vb _ hb).2.2 e
   ·omega
  ·refine p2.trans ?_;have q:=(zr8 (j,xs) L).map (·.1);refine List.Perm.trans ?_ q.symm;rw[List.map_cons];exact List.perm_append_comm.trans (M.perm.cons j)
  ·rw[N2.2.2];exact k2
  ·rw[Maps.size_put (M.map.tidy zeP),hD,zi6,hs];rfl
  ·rw[ztr]
   by_cases e:i=j
   ·subst e;rw[Maps.has_put_same M.map.isMap (by trivial)]
    simp
   ·rw[Maps.has_put_other (zjN e),M.has,decide_eq_false (show ¬(j,xs).1=i from λq=>e q.symm),Bool.false_or]
  ·show _=DataW.held (if x.1=j then u else V x.1)
   rcases(zb9 _ _ _).1 hx' with rfl|hx'
   ·rw[if_pos rfl,Maps.atKey_put_same M.map.isMap (by trivial)]
   ·have hne:=zcR hj hx';rw[if_neg hne,Maps.atKey_put_other (zjN hne),M.at_ x hx']
  ·show OwnI _ _ _ _ (if x.1=j then u else V x.1) _
   rcases(zb9 _ _ _).1 hx' with rfl|hx'
   ·rw[if_pos rfl];exact o2.own (O1.own ho (λg hg=>(ub g hg).2.1)) (λg hg e=>by
     rcases e with e|e
     ·exact(ub g hg).1 e
     ·exact(ub g hg).2.2.1 e)
   ·rw[if_neg (zcR hj hx')];exact o2.own (O1.own (M.rows x hx') (λg hg=>(M.blk x hx' g hg).2.2.1)) (λg hg e=>by
     rcases e with e|e
     ·exact(M.blk x hx' g hg).2.1 e
     ·exact(M.blk x hx' g hg).2.2.2 e)
  ·have hg':(if x.1=j then u else V x.1).ownBlock=some g:=hg;rcases(zb9 _ _ _).1 hx' with rfl|hx'
   ·rw[if_pos rfl]at hg';obtain⟨a1,a2,a3,a4⟩:=ub g hg';exact⟨Or.inr (Or.inl hg'),a1,a2,λe=>a4 (Option.some.inj e).symm⟩
   ·rw[if_neg (zcR hj hx')]at hg';obtain⟨a1,a2,a3,a4⟩:=M.blk x hx' g hg';exact⟨Or.inl a1,a2,a3,λe=>nb g (R.hi g a1) a4 (Option.some.inj e).symm⟩
  ·show Apart (if x.1=j then u else V x.1) (if y.1=j then u else V y.1)
   rcases(zb9 _ _ _).1 hx' with rfl|hx'
   ·rcases(zb9 _ _ _).1 hy' with rfl|hy'
    ·exact absurd rfl hne
    ·rw[if_pos rfl,if_neg (zcR hj hy')];exact λg hg e=>hu g hg (M.blk y hy' g e).1
   ·rcases(zb9 _ _ _).1 hy' with rfl|hy'
    ·rw[if_pos rfl,if_neg (zcR hj hx')];exact λg hg e=>hu g e (M.blk x hx' g hg).1
    ·rw[if_neg (zcR hj hx'),if_neg (zcR hj hy')];exact M.apart x hx' y hy' hne
set_option maxHeartbeats 4000000 in
theorem zla {w:World} {base r:Nat} {S:Nat->Prop} {room width:Nat} {L:List (Int×List Int)} {j:Int} {u:Value} {xs:List Int} (j1 : -9223372036854775808<=j) (j2:j<=9223372036854775807) (R:RingAt w base r S room width L) (hl:L.length<room) (hj:zbw L j=false) (hx:xs.length=width)
  (ho:OwnI .i64 2 w base u xs) (hu:∀ g,u.ownBlock=some g->¬S g) :
  Calls Tryz.prog 125 #[.pointer (some ⟨r,0,none⟩),.int .i64 j,u] w λe w'=>e=.returned (.tuple #[])/\∃ S',RingAt w' base r S' room width (zda (j,xs) L)/\Off S w w'/\∀ k,S' k->S k\/u.ownBlock=some k\/w.heap.size<=k:=by
 obtain⟨m,v,h,D,V,M⟩:=R.mem;have c2:=M.c2;have HM:=za M.map;have HK:=za (zjC j1 j2);have hn:Maps.size D<maxLen:=by
  have:=M.size;have:=R.ok.r2;unfold maxLen;omega
 have HN:=za hn;have hhl:h.length=L.length:=by rw[M.perm.length_eq,List.length_map]
 have NEXT:=za (fun(w1:World) (g1:w.grownBy w1 (some m))=>zsJ (r:=r) (base:=base) (v:=v) (h:=h) (x:=j) w1 (cg g1 (λe=>M.mr (Option.some.inj e).symm) M.c3) (((Off.of_grown g1).frozen (o:=3) (λe=>M.mr e.symm) (R.hi r R.sr)).trans (R.fr 3))
  ((Off.of_grown g1).own M.nums (λg hg=>(M.vb g hg).2.2)) (λg hg=>(M.vb g hg).2.1) (by have:=g1.size;have:=R.lo r R.sr;have:=R.hi r R.sr;omega) (by have:=R.ok.r2;omega) M.heap)
 have HEND:=za (fun(w1 w2:World) (n b cap:Nat) (h':List Int)=>zvE (w1:=w1) (w2:=w2) (n:=n) (b:=b) (cap:=cap) (h':=h') j1 j2 R M hl hj hx ho hu);have HVB:=za M.vb;clear M R j1 j2 hl hj hx ho hu hn hhl
 go_enter Tryz.func125,Tryz.ntmps125
 go_wp2_with (first
  |(at_mapUpdate;refine wpList_mapUpdate_in _ rfl _ _ _ 190 rfl 2 28 zeP Tryz.underlying190 zdG m (Maps.size D) D rfl HM.out HN.out _ _ _ rfl rfl HK.out (.held u) [] rfl ?_;intro w1 m1 t1;have G1:=za t1.grown;have HM1:=za m1;clear m1 t1)
  |(go_at_call 162;(with_reducible refine(NEXT.out _ G1.out).mono ?_);rintro e w2 ⟨rfl,b,cap,h',N2,q1,q2,q3,q4,q5,q6,q7⟩;have HF:=za (HEND.out _ _ _ _ _ _ HM1.out G1.out N2 q1 q2 q3 q4 q5 q6 q7);have HQ:=za q2;clear N2 q1 q2 q3 q4 q5 q6 q7))
 go_end0
 have s1:=G1.out.size;refine⟨rfl,_,HF.out.1,HF.out.2,λk hk=>?_⟩;rcases hk with hk|hk|hk
 ·exact Or.inl hk
 ·exact Or.inr (Or.inl hk)
 ·subst hk;rcases HQ.out with q|q
  ·exact Or.inl (HVB.out _ q).1
  ·exact Or.inr (Or.inr (Nat.le_trans s1 q))
theorem zik {y:Int×List Int} {L:List (Int×List Int)} (hr:zfJ (y :: L)) (j:Int):zbw L j=(zbw (y :: L) j && !decide (j=y.1)):=by
 obtain⟨h1,_⟩:=List.pairwise_cons.1 hr;rw[Bool.eq_iff_iff,Bool.and_eq_true,zbS,zbS,Bool.not_eq_true',decide_eq_false_iff_not]
 constructor
 ·rintro ⟨z,hz,rfl⟩;exact⟨⟨z,List.mem_cons_of_mem _ hz,rfl⟩,λe=>by have:=h1 z hz;omega⟩
 ·rintro ⟨⟨z,hz,rfl⟩,hne⟩;rcases List.mem_cons.1 hz with rfl|hz
  ·exact absurd rfl hne
  ·exact⟨z,hz,rfl⟩
theorem zt1 {w w1 w2:World} {base r m:Nat} {S:Nat->Prop} {room width:Nat} {L:List (Int×List Int)} {y:Int×List Int} {h h':List Int} {D:DataW Value} {V:Int->Value} {n b cap:Nat}
  (R:RingAt w base r S room width (y :: L)) (M:RMem w base r S (y :: L) m (.slice (some ⟨b,0,none⟩) (L.length+1) cap) h D V)
  (N1:NumAt w1 r base b L.length cap h') (p1:(h'++[y.1]).Perm h) (k1:zbL h' L.length) (r1:RecK w w1 r) (o1:Off (λk=>k=r\/k=b) w w1)
  (m2:w2.ownsMap Tryz.prog 2 zdG m n (D.del (.int .i64 y.1))) (g2:w1.grownBy w2 (some m)) :
  RingAt w2 base r (λk=>S k/\(V y.1).ownBlock≠some k) room width L/\Off S w w2/\OwnI .i64 2 w2 base (V y.1) y.2/\(∀ g,(V y.1).ownBlock=some g->S g):=by
 have hr:=R.hi r R.sr;have s1:=o1.size;have s2:=g2.size;have O2:=Off.of_grown g2;have rm:r≠m:=λe=>M.mr e.symm
 have hy:y ∈ y :: L:=List.mem_cons_self ..;obtain⟨bS,br,bm⟩:=M.vb b rfl;obtain⟨hlt,hL⟩:=List.pairwise_cons.1 R.ok.rising;have yb:=M.blk y hy;have cell:∀ o z,o≠3->w.cell? ⟨r,o,none⟩=some z->w2.cell? ⟨r,o,none⟩=some z:=λo z hne hc=>O2.cell rm (r1.cl hne hc)
 have HO:Off S w w2:=(o1.mono (λk _ e=>by
  rcases e with e|e
  ·subst e;exact R.sr
  ·subst e;exact bS)).trans O2 (λk _ e=>by subst e;exact M.sm)
 have own:∀ x ∈ y :: L,OwnI .i64 2 w2 base (V x.1) x.2:=λx hx=>O2.own (o1.own (M.rows x hx) (λg hg e=>by
  rcases e with e|e
  ·exact(M.blk x hx g hg).2.1 e
  ·subst e;exact(M.blk x hx g hg).2.2.2 rfl)) (λg hg=>(M.blk x hx g hg).2.2.1)
 have hlen:=R.ok.len;rw[List.length_cons]at hlen;refine⟨⟨⟨hL,by omega,R.ok.r1,R.ok.r2,R.ok.wd,λx hx=>R.ok.rows x (List.mem_cons_of_mem _ hx)⟩,λk hk=>R.lo k hk.1,λk hk=>by have:=R.hi k hk.1;omega,⟨R.sr,λe=>(yb r e).2.1 rfl⟩,cell 0 _ (by decide) R.c0,cell 1 _ (by decide) R.c1,λo=>?_,m,.slice (some ⟨b,0,none⟩) L.length cap,h',D.del (.int .i64 y.1),V,?_⟩,HO,own y hy,λg hg=>(yb g hg).1⟩
 ·exact(O2.frozen rm (by omega)).trans (r1.fr (R.fr o))
 ·have hmap:w2.ownsMap Tryz.prog 2 zdG m n (D.del (.int .i64 y.1)):=m2;have hD:Maps.has D (.int .i64 y.1)=true:=by rw[M.has];exact(zbS _ _).2 ⟨y,hy,rfl⟩
  have sd:=Maps.size_del (k:=.int .i64 y.1) (M.map.tidy zeP);rw[hD,M.size,List.length_cons,if_pos rfl]at sd;refine⟨cell 2 _ (by decide) M.c2,⟨M.sm,λe=>(yb m e).2.2.1 rfl⟩,M.mr,O2.cell rm N1.1,O2.own N1.2.1 (λg hg=>?_),λg hg=>?_,?_,by rw[N1.2.2];exact k1,zk4 hmap,by omega,λi=>?_,λx hx z=>?_,λx hx=>own x (List.mem_cons_of_mem _ hx),λx hx g hg=>?_,λx hx z hz hne=>M.apart x (List.mem_cons_of_mem _ hx) z (List.mem_cons_of_mem _ hz) hne⟩
  ·obtain rfl:b=g:=Option.some.inj hg;exact bm
  ·obtain rfl:b=g:=Option.some.inj hg;exact⟨⟨bS,λe=>(yb _ e).2.2.2 rfl⟩,br,bm⟩
  ·have q:=p1.trans M.perm;rw[List.map_cons]at q;exact(List.perm_cons y.1).1 ((List.perm_append_comm (l₁:=[y.1]) (l₂:=h')).trans q)
  ·rw[zik R.ok.rising]
   by_cases e:i=y.1
   ·subst e;rw[Maps.has_del_same]
    simp
   ·rw[Maps.has_del_other (zjN e),M.has,decide_eq_false e,Bool.not_false,Bool.and_true]
  ·have hne:x.1≠y.1:=by have:=hlt x hx;omega
   rw[Maps.atKey_del_other (zjN hne),M.at_ x (List.mem_cons_of_mem _ hx)]
  ·obtain⟨a1,a2,a3,a4⟩:=M.blk x (List.mem_cons_of_mem _ hx) g hg;have hne:x.1≠y.1:=by have:=hlt x hx;omega
   exact⟨⟨a1,M.apart x (List.mem_cons_of_mem _ hx) y hy hne g hg⟩,a2,a3,a4⟩
set_option maxHeartbeats 4000000 in
theorem zsL {w:World} {base r:Nat} {S:Nat->Prop} {room width:Nat} {L:List (Int×List Int)} {y:Int×List Int} (R:RingAt w base r S room width (y :: L)) :
  Calls Tryz.prog 126 #[.pointer (some ⟨r,0,none⟩)] w λe w'=>∃ u S',e=.returned u/\RingAt w' base r S' room width L/\OwnI .i64 2 w' base u y.2/\(∀ g,u.ownBlock=some g->S g/\¬S' g)/\Off S w w'/\∀ k,S' k->S k:=by
 obtain⟨m,v,h,D,V,M⟩:=R.mem;have hl:h.length=L.length+1:=by rw[M.perm.length_eq,List.length_map,List.length_cons]
 obtain⟨b,cap,rfl,hbb,hbl,_,_,_⟩:=zaN M.nums hl (by omega);have hf:=zjV M.perm M.heap R.ok.rising (by simp);have hf2:h.getD 0 0=y.1:=hf;have hlen:=R.ok.len;rw[List.length_cons]at hlen;have hr2:=R.ok.r2;have br:=(M.vb b rfl).2.1;have bm:=(M.vb b rfl).2.2;have HP:=M.heap;rw[hl]at HP;have CP:=zud (r:=r) (base:=base) (n:=L.length) (λe=>br e.symm) (by omega) w ⟨M.c3,M.nums,hl⟩ (R.fr 3) HP;rw[hf2]at CP;obtain⟨k1,k2⟩:=(R.ok.rows y (List.mem_cons_self ..)).2;have HK:=za (zjC k1 k2);have LOOK:=za (fun(w1:World) (r1:RecK w w1 r) (o1:Off (λk=>k=r\/k=b) w w1)=>(⟨r1.cl (by decide) M.c2,Off.map o1 M.map (λe=>by
  rcases e with e|e
  ·exact M.mr e
  ·exact bm e.symm),by
   obtain⟨u,ps,hrun,hu⟩:=(Off.map o1 M.map (λe=>by
    rcases e with e|e
    ·exact M.mr e
    ·exact bm e.symm)).lookup zeP Tryz.underlying190 (znD w1) (zd:=.held (.slice none 0 0)) (zp:=[]) rfl (zjC k1 k2)
   rw[M.at_ y (List.mem_cons_self ..)]at hu;rw[hrun,zml hu]⟩:w1.cell? ⟨r,2,none⟩=some (.map (some m))/\w1.ownsMap Tryz.prog 2 zdG m (Maps.size D) D/\(Instr.lookup 190 (.map (some m)) (.int .i64 y.1) false).run Tryz.prog w1=.ok (V y.1) w1))
 have HEND:=za (fun(w1 w2:World) (n:Nat) (h':List Int)=>zt1 (w1:=w1) (w2:=w2) (n:=n) (h':=h') R M);have hta:=zmo y.1;clear M R hl hbb hbl hf hf2 HP hlen hr2 br bm k1 k2
 go_enter Tryz.func126,Tryz.ntmps126
 go_wp2_with (first
  |(go_at_call 163;(with_reducible refine CP.mono ?_);rintro e w1 ⟨rfl,h',N1,p1,k1,r1,o1⟩;obtain⟨c2,mo,lk⟩:=LOOK.out w1 r1 o1;have HM:=za mo;have HE:=za (fun(w2:World) (n:Nat)=>HEND.out w1 w2 n h' N1 p1 k1 r1 o1);clear N1 p1 k1 r1 o1 mo)
  |(at_delete;refine wpList_delete_own _ rfl _ _ 190 2 rfl 28 zeP Tryz.underlying190 zdG m (Maps.size D) D rfl HM.out _ _ rfl HK.out ?_;intro w2 m2 t2;have HF:=za (HE.out w2 _ m2 t2.grown);clear m2 t2))
 go_ret;obtain⟨f1,f2,f3,f4⟩:=HF.out;exact⟨V y.1,_,rfl,f1,f3,λg hg=>⟨f4 g hg,λe=>e.2 hg⟩,f2,λk hk=>hk.1⟩
theorem zcc {P:Program} {f:FuncId} {args:Array Value} {u:Value} {w:World} {n:Nat} (h:Calls P f args (w.drewN n) λe w'=>e=.returned u/\w.drewN n=w') :
  Calls P f args (w.drewN n) λe w''=>e=.returned u/\∃ m,w''=w.drewN m:=h.mono λ_ _ q=>⟨q.1,n,q.2.symm⟩
theorem OwnI.fresh {k:IntKind} {T:TypeId} {w:World} {base:Nat} {v:Value} {xs:List Int} (h:OwnI k T w base v xs):∀ g,v.ownBlock=some g->base<=g:=zeh h
def PutEnd (w:World) (base r:Nat) (S:Nat->Prop) (room width:Nat) (L:List (Int×List Int)) (w':World):Prop:=∃ S',RingAt w' base r S' room width L/\Off S w w'/\∀ k,S' k->S k\/w.heap.size<=k
theorem PutEnd.same {w:World} {base r:Nat} {S:Nat->Prop} {room width:Nat} {L:List (Int×List Int)} (R:RingAt w base r S room width L):PutEnd w base r S room width L w:=⟨S,R,Off.refl _ _,λ_ h=>Or.inl h⟩
theorem PutEnd.drew {w:World} {base r:Nat} {S:Nat->Prop} {room width:Nat} {L:List (Int×List Int)} (R:RingAt w base r S room width L) (n:Nat):PutEnd w base r S room width L (w.drewN n):=⟨S,R.drewN n,(Off.refl _ w).drewN n,λ_ h=>Or.inl h⟩
set_option maxHeartbeats 4000000 in
set_option maxRecDepth 100000 in
theorem zuk {w:World} {base r:Nat} {S:Nat->Prop} {room width:Nat} {L:List (Int×List Int)} {j:Int} {xs:List Int} {n cap:Nat} {ad:Option Addr} (j1 : -9223372036854775808<=j) (j2:j<=9223372036854775807) (R:RingAt w base r S room width L) (hn:xs.length=n) (hb:n<=9223372036854775807) (hr:RowAt .i64 w ad xs) (hz:ad=none->cap=0) (hS:∀ a,ad=some a->¬S a.block) :
  Calls Tryz.prog 89 #[.pointer (some ⟨r,0,none⟩),.int .i64 j,.slice ad n cap] w λe w'=>e=.returned (.bool (zjf room width L j n))/\PutEnd w base r S room width (if zjf room width L j n=true then zf2 room L (j,xs) else L) w':=by
 have c0:=R.c0;have c1:=R.c1;have CH:=zuc j1 j2 R;have hw:=R.ok.wd;have hrm:=R.ok.r2;have hlen:=R.ok.len;have HR:=za R;have HRO:=za hr;have HNL:=za hn;have hz0:ad=none->n=0/\cap=0:=λe=>by
  refine⟨?_,hz e⟩;rcases hr with h|⟨b,off,h,_⟩
  ·rw[h]at hn;exact hn.symm
  ·rw[e]at h;exact absurd h (by simp)
 have HZ:=za hz0;have HS:=za hS;have HJ:=za (And.intro j1 j2);obtain⟨B,hB⟩:∃ B,zjf room width L j n=B:=⟨_,rfl⟩;rw[hB];have HB:=za hB;unfold zjf at hB;clear R hr hz hz0 hS j1 j2 hn
 by_cases hnw:n=width
 ·subst hnw;have qn:((n:Int) != (n:Int))=false:=by simp
  cases hj:zbw L j
  ·rw[hj]at CH
   by_cases hroom:L.length<room
   ·obtain rfl:B=true:=by
     rw[←hB,hj,decide_eq_true rfl,decide_eq_false (show ¬L.length=room by omega)];rfl
    have ql:decide ((L.length:Int)<(room:Int))=true:=decide_eq_true (by omega);have HJN:=za hj;have HL:=za hroom;have CL:=λq=>zja (HR.out.drewN q)
    have CC:=λq=>zpb xs n HNL.out ad cap (by omega) HZ.out (w.drewN q) (HRO.out.below (bdN (Below.refl _ _) q))
    have e0:(if(true:Bool)=true then zf2 room L (j,xs) else L)=zda (j,xs) L:=by
     rw[if_pos rfl];unfold zf2;rw[if_neg (by omega)]
    rw[e0];clear hj hB e0
    go_enter Tryz.func89,Tryz.ntmps89
    go_wp2_with (go_at_call 124;(with_reducible refine CH.mono ?_);rintro e w1 ⟨rfl,rfl⟩)
    go_quiet ((go_at_call 95;with_reducible exact zcc (CL _)))
    go_wp2_with (first
     |(go_at_call 86;(with_reducible refine(CC _).mono ?_);rintro e w2 ⟨u,rfl,o2,b2⟩;have HO2:=za o2;have HB2:=za b2;clear o2 b2)
     |(go_at_call 125;(with_reducible refine(zla HJ.out.1 HJ.out.2 ((HR.out.drewN nq).below HB2.out) HL.out HJN.out HNL.out (HO2.out.mono (by have:=HR.out.lo r HR.out.sr;have:=HR.out.hi r HR.out.sr;simp;omega)) (λg hg e=>by have:=HO2.out.fresh g hg;have:=HR.out.hi g e;simp at *;omega)).mono ?_);rintro e w3 ⟨rfl,S',R3,o3,s3⟩;have HF:=za (And.intro R3 (And.intro o3 s3));clear R3 o3 s3))
    go_ret;obtain⟨R3,o3,s3⟩:=HF.out;have o2:Off S w w2:=((Off.refl S w).drewN nq).trans (Off.of_below (S:=S) HB2.out) (λ_ _ e=>e);refine⟨rfl,S',R3,o2.trans o3 (λ_ _ e=>e),λk hk=>?_⟩;have s2:=HB2.out.size;rcases s3 k hk with q|q|q
    ·exact Or.inl q
    ·exact Or.inr (HO2.out.fresh k q)
    ·exact Or.inr (Nat.le_trans s2 q)
   ·have hfull:L.length=room:=by omega
    have ql:decide ((L.length:Int)<(room:Int))=false:=decide_eq_false (by omega);have hr1:=HR.out.ok.r1
    cases L with
    |nil=>simp at hfull;omega
    |cons y L =>
     obtain⟨m,v,h,D,V,M⟩:=HR.out.mem;have hl:h.length=L.length+1:=by rw[M.perm.length_eq,List.length_map,List.length_cons]
     obtain⟨b,cp,rfl,_,_,hrow,_⟩:=zaN M.nums hl (by omega);have hf:h.getD 0 0=y.1:=zjV M.perm M.heap HR.out.ok.rising (by simp);have cf:=hrow.at (j:=0) (by omega);rw[hf,Nat.zero_add]at cf;have c3:=M.c3;have CL:=λq=>zja (HR.out.drewN q)
     have hy:=HR.out.ok.rows y (List.mem_cons_self ..);clear M hf hrow hl;have hfl:L.length+1=room:=by simpa using hfull
     have qfl:decide ((L.length:Int)+1<(room:Int))=false:=decide_eq_false (by omega)
     by_cases hlow:j<y.1
     ·obtain rfl:B=false:=by
       rw[←hB,hj,decide_eq_true rfl,decide_eq_true hfull]
       show(true && !false && !(true && decide (j<y.1)))=false
       rw[decide_eq_true hlow];rfl
      clear hj hB hfull hfl
      go_enter Tryz.func89,Tryz.ntmps89
      go_wp2_with (go_at_call 124;(with_reducible refine CH.mono ?_);rintro e w1 ⟨rfl,rfl⟩)
      go_quiet ((go_at_call 95;with_reducible exact zcc (CL _)))
      go_wp2;go_ret;exact⟨rfl,PutEnd.drew HR.out nq⟩
     ·obtain rfl:B=true:=by
       rw[←hB,hj,decide_eq_true rfl,decide_eq_true hfull]
       show(true && !false && !(true && decide (j<y.1)))=true
       rw[decide_eq_false hlow];rfl
      have e0:(if(true:Bool)=true then zf2 room (y :: L) (j,xs) else(y :: L))=zda (j,xs) L:=by
       rw[if_pos rfl];unfold zf2;rw[if_pos hfull];rfl
      rw[e0];have HT:=za (show zbw L j=false by rw[zik HR.out.ok.rising,hj];rfl);have HLL:=za (show L.length<room by rw[List.length_cons]at hfull;omega);have CD:=λq=>zsL (HR.out.drewN q)
      have HY:=za hy.1;have hju:=Tryz.underlying28;clear hj hB e0 hfull hfl
      go_enter Tryz.func89,Tryz.ntmps89
      go_wp2_with (go_at_call 124;(with_reducible refine CH.mono ?_);rintro e w1 ⟨rfl,rfl⟩)
      go_quiet ((go_at_call 95;with_reducible exact zcc (CL _)))
      go_wp2_with (first
       |(go_at_call 126;(with_reducible refine(CD _).mono ?_);rintro e w2 ⟨u,S2,rfl,R2,o2,u2,f2,s2⟩;have HR2:=za R2;have HF2:=za (And.intro u2 (And.intro f2 s2));obtain⟨w3,crun,o3,g3⟩:=zmj 28 28 3 2 hju zuI .i64 2 base u n y.2 xs o2 HY.out ad cap HNL.out (Off.row (((Off.refl S w).drewN nq).trans f2 (λ_ _ e=>e)) HRO.out HS.out);have HO3:=za o3;have HG3:=za g3;clear R2 o2 u2 f2 s2 o3 g3)
       |(go_at_call 125;(with_reducible refine(zla HJ.out.1 HJ.out.2 (HR2.out.off (Off.of_grownO HG3.out) (λk hk e=>absurd hk (HF2.out.1 k e.symm).2)) HLL.out HT.out HNL.out HO3.out (λg hg=>(HF2.out.1 g hg).2)).mono ?_);rintro e w4 ⟨rfl,S',R4,o4,s4⟩;have HF:=za (And.intro R4 (And.intro o4 s4));clear R4 o4 s4))
      go_ret;obtain⟨R4,o4,s4⟩:=HF.out;obtain⟨u2,f2,s2⟩:=HF2.out;have z2:w.heap.size<=w2.heap.size:=f2.size;have z3:=HG3.out.size;refine⟨rfl,S',R4,((((Off.refl S w).drewN nq).trans f2 (λ_ _ e=>e)).trans (Off.of_grownO HG3.out) (λk _ e=>(u2 k e.symm).1)).trans o4 (λk _ e=>s2 k e),λk hk=>?_⟩;rcases s4 k hk with q|q|q
      ·exact Or.inl (s2 k q)
      ·exact Or.inl (u2 k q).1
      ·exact Or.inr (by omega)
  ·rw[hj]at CH;obtain rfl:B=false:=by rw[←hB,hj];simp
   clear hj hB
   go_enter Tryz.func89,Tryz.ntmps89
   go_wp2_with (go_at_call 124;(with_reducible refine CH.mono ?_);rintro e w1 ⟨rfl,rfl⟩)
   go_ret;exact⟨rfl,PutEnd.same HR.out⟩
 ·obtain rfl:B=false:=by rw[←hB,decide_eq_false hnw];rfl
  have qn:((n:Int) != (width:Int))=true:=by simp;omega
  clear hB
  go_enter Tryz.func89,Tryz.ntmps89
  go_wp2;go_ret;exact⟨rfl,PutEnd.same HR.out⟩
end Go.Proofs.YtlodkoimdoeopaaGreatDoor
namespace Go.Proofs.YtlodkoimdoeopaaGreatDoor
open Go.RowKit
theorem zfF (a b:Int) (h0 : -9223372036854775808<=a) (h1:a<=9223372036854775807) (k0 : -9223372036854775808<=b) (k1:b<=9223372036854775807) (w:World) :
  Calls Tryz.prog 82 #[.int .i64 a,.int .i64 b] w λe w'=>e=.returned (.int .i64 (zE (a+b)))/\w=w':=by
 by_cases hp:0<b
 ·by_cases hc:9223372036854775807-b<a
  ·rw[zbR (by omega)]
   go_enter Tryz.func82,Tryz.ntmps82
   go_wp2;go_ret;exact⟨rfl,rfl⟩
  ·rw[zH (by omega) (by omega)]
   go_enter Tryz.func82,Tryz.ntmps82
   go_wp2;go_ret;exact⟨rfl,rfl⟩
 by_cases hn:b<0
 ·by_cases hc:a < -9223372036854775808-b
  ·rw[zcW (by omega)]
   go_enter Tryz.func82,Tryz.ntmps82
   go_wp2;go_ret;exact⟨rfl,rfl⟩
  ·rw[zH (by omega) (by omega)]
   go_enter Tryz.func82,Tryz.ntmps82
   go_wp2;go_ret;exact⟨rfl,rfl⟩
 ·obtain rfl:b=0:=by omega
  rw[zH (by omega) (by omega)]
  go_enter Tryz.func82,Tryz.ntmps82
  go_wp2;go_ret;exact⟨by first|rfl|simp,rfl⟩
def zes (x low high:Int):Int:=if x<low\/high<low then low else if high<x then high else x
theorem zfO (x l h:Int) (w:World) :
  Calls Tryz.prog 123 #[.int .i64 x,.int .i64 l,.int .i64 h] w λe w'=>e=.returned (.int .i64 (zes x l h))/\w=w':=by
 unfold zes
 by_cases c1:x<l
 ·rw[if_pos (Or.inl c1)]
  go_enter Tryz.func123,Tryz.ntmps123
  go_wp2;go_ret;exact⟨rfl,rfl⟩
 by_cases c2:h<l
 ·rw[if_pos (Or.inr c2)]
  go_enter Tryz.func123,Tryz.ntmps123
  go_wp2;go_ret;exact⟨rfl,rfl⟩
 rw[if_neg (by omega)]
 by_cases c3:h<x
 ·rw[if_pos c3]
  go_enter Tryz.func123,Tryz.ntmps123
  go_wp2;go_ret;exact⟨rfl,rfl⟩
 ·rw[if_neg c3]
  go_enter Tryz.func123,Tryz.ntmps123
  go_wp2;go_ret;exact⟨rfl,rfl⟩
theorem zmp {a b:Int} (hb:0<b):zkW a b=a % b:=by
 rw[ziG (by omega)];unfold zaC;rw[if_neg (by omega)]
theorem zfu (p:Int) (p0:0<=p) (p1:p<=2) (w:World) :
  Calls Tryz.prog 100 #[.int .i64 p] w λe w'=>e=.returned (.bool true)/\w=w':=by
 go_enter Tryz.func100,Tryz.ntmps100
 go_wp2;go_ret
 first|exact⟨rfl,rfl⟩|exact⟨zag (decide_eq_true (by omega)),rfl⟩
theorem zlq (p:Int) (h:p<0\/2<p) (w:World) :
  Calls Tryz.prog 100 #[.int .i64 p] w λe w'=>e=.returned (.bool false)/\w=w':=by
 rcases h with h|h
 all_goals
  go_enter Tryz.func100,Tryz.ntmps100
  go_wp2;go_ret
  first|exact⟨rfl,rfl⟩|exact⟨zag (decide_eq_false (by omega)),rfl⟩
theorem zrN (n:Int) (n0:1<=n) (n1:n<=65536) (w:World) :
  Calls Tryz.prog 121 #[.int .i64 n] w λe w'=>e=.returned (.bool true)/\w=w':=by
 go_enter Tryz.func121,Tryz.ntmps121
 go_wp2;go_ret
 first|exact⟨rfl,rfl⟩|exact⟨zag (decide_eq_true (by omega)),rfl⟩
theorem zt8 (n:Int) (h:n<1\/65536<n) (w:World) :
  Calls Tryz.prog 121 #[.int .i64 n] w λe w'=>e=.returned (.bool false)/\w=w':=by
 rcases h with h|h
 all_goals
  go_enter Tryz.func121,Tryz.ntmps121
  go_wp2;go_ret
  first|exact⟨rfl,rfl⟩|exact⟨zag (decide_eq_false (by omega)),rfl⟩
theorem zrl (j n:Int) (n0:1<=n):zes j 0 (n-1)=zeH j n:=by
 unfold zes zeH
 by_cases h0:j<0
 ·rw[if_pos (Or.inl h0),if_pos h0]
 ·rw[if_neg (by omega),if_neg h0]
  by_cases h1:n<=j
  ·rw[if_pos (by omega),if_pos h1]
  ·rw[if_neg (by omega),if_neg h1]
theorem znt (p j n:Int) (h0 : -9223372036854775808<=j) (h1:j<=9223372036854775807) (w:World) :
  Calls Tryz.prog 81 #[.int .i64 p,.int .i64 j,.int .i64 n] w λe w'=>e=.returned (.int .i64 (atF p j n))/\w=w':=by
 by_cases hp:0<=p/\p<=2
 ·obtain⟨p0,p1⟩:=hp;have K:=λw=>zfu p p0 p1 w
  by_cases hn:1<=n/\n<=65536
  ·obtain⟨n0,n1⟩:=hn;have S:=λw=>zrN n n0 n1 w
   by_cases e1:p=1
   ·subst e1;rw[zqh n0 n1];unfold zed;have CM:=λw=>zft j (2*n) h0 h1 (by omega) (by omega) w
    rw[zmp (by omega)]at CM;have t0:=Int.emod_nonneg j (show 2*n≠0 by omega);have t1:=Int.emod_lt_of_pos j (show 0<2*n by omega);generalize j % (2*n)=t at *
    by_cases ht:t<n
    ·rw[if_pos ht]
     go_enter Tryz.func81,Tryz.ntmps81
     go_wp2_with (first
      |(go_at_call 100;(with_reducible refine(K _).mono ?_);rintro e w1 ⟨rfl,rfl⟩)
      |(go_at_call 121;(with_reducible refine(S _).mono ?_);rintro e w1 ⟨rfl,rfl⟩)
      |(go_at_call 122;(with_reducible refine(CM _).mono ?_);rintro e w1 ⟨rfl,rfl⟩))
     go_ret
     first|exact⟨rfl,rfl⟩|exact⟨zm (by omega),rfl⟩
    rw[if_neg ht]
    go_enter Tryz.func81,Tryz.ntmps81
    go_wp2_with (first
     |(go_at_call 100;(with_reducible refine(K _).mono ?_);rintro e w1 ⟨rfl,rfl⟩)
     |(go_at_call 121;(with_reducible refine(S _).mono ?_);rintro e w1 ⟨rfl,rfl⟩)
     |(go_at_call 122;(with_reducible refine(CM _).mono ?_);rintro e w1 ⟨rfl,rfl⟩))
    go_ret
    first|exact⟨rfl,rfl⟩|exact⟨zm (by omega),rfl⟩
   by_cases e2:p=2
   ·subst e2;rw[zvj n0 n1];have CM:=λw=>zft j n h0 h1 (by omega) (by omega) w
    rw[zmp (by omega)]at CM;generalize j % n=t at *;clear e1
    go_enter Tryz.func81,Tryz.ntmps81
    go_wp2_with (first
     |(go_at_call 100;(with_reducible refine(K _).mono ?_);rintro e w1 ⟨rfl,rfl⟩)
     |(go_at_call 121;(with_reducible refine(S _).mono ?_);rintro e w1 ⟨rfl,rfl⟩)
     |(go_at_call 122;(with_reducible refine(CM _).mono ?_);rintro e w1 ⟨rfl,rfl⟩))
    go_ret
    first|exact⟨rfl,rfl⟩|exact⟨zm (by omega),rfl⟩
   ·obtain rfl:p=0:=by omega
    rw[zrM n0 n1,←zrl j n n0];have CC:=λw=>zfO j 0 (n-1) w
    generalize zes j 0 (n-1)=t at *;clear e1 e2
    go_enter Tryz.func81,Tryz.ntmps81
    go_wp2_with (first
     |(go_at_call 100;(with_reducible refine(K _).mono ?_);rintro e w1 ⟨rfl,rfl⟩)
     |(go_at_call 121;(with_reducible refine(S _).mono ?_);rintro e w1 ⟨rfl,rfl⟩)
     |(go_at_call 123;(with_reducible refine(CC _).mono ?_);rintro e w1 ⟨rfl,rfl⟩))
    go_ret
    first|exact⟨rfl,rfl⟩|exact⟨zm (by omega),rfl⟩
  ·rw[zsM (λg=>hn ⟨g.2.2.1,g.2.2.2⟩)];have S:=λw=>zt8 n (by omega) w
   clear hn
   go_enter Tryz.func81,Tryz.ntmps81
   go_wp2_with (first
    |(go_at_call 100;(with_reducible refine(K _).mono ?_);rintro e w1 ⟨rfl,rfl⟩)
    |(go_at_call 121;(with_reducible refine(S _).mono ?_);rintro e w1 ⟨rfl,rfl⟩))
   go_ret
   first|exact⟨rfl,rfl⟩|exact⟨zm (by omega),rfl⟩
 ·rw[zsM (λg=>hp ⟨g.1,g.2.1⟩)];have K:=λw=>zlq p (by omega) w
  clear hp
  go_enter Tryz.func81,Tryz.ntmps81
  go_wp2_with (go_at_call 100;(with_reducible refine(K _).mono ?_);rintro e w1 ⟨rfl,rfl⟩)
  go_ret
  first|exact⟨rfl,rfl⟩|exact⟨zm (by omega),rfl⟩
def zC (p first n:Int) (j:Nat):List Int:=(List.range j).map λk:Nat=>atF p (zE (first+(k:Int))) n
theorem zi2 (p first n:Int) (j:Nat):zC p first n (j+1)=zC p first n j++[atF p (zE (first+(j:Int))) n]:=by unfold zC;rw[List.range_succ,List.map_append];rfl
theorem zaw (p first n:Int) (j:Nat):(zC p first n j).length=j:=by unfold zC;rw[List.length_map,List.length_range]
theorem zrW (p first c n:Int) (h:c<=0) (w:World) :
  Calls Tryz.prog 43 #[.int .i64 p,.int .i64 first,.int .i64 c,.int .i64 n] w λe w'=>e=.returned (.slice none 0 0)/\w=w':=by
 go_enter Tryz.func43,Tryz.ntmps43
 go_wp2;go_ret;exact⟨rfl,rfl⟩
set_option maxHeartbeats 1000000 in
theorem zil (p first n:Int) (c:Nat) (c0:1<=c) (c1:c<=1048576) (h0 : -9223372036854775808<=first) (h1:first<=9223372036854775807) (w:World) :
  Calls Tryz.prog 43 #[.int .i64 p,.int .i64 first,.int .i64 (c:Int),.int .i64 n] w λe w'=>∃ v,e=.returned v/\OwnI .i64 2 w' w.heap.size v (zC p first n c)/\Below w.heap.size w w':=by
 obtain⟨zs,MK,MO,_⟩:=zii c c1;have HMO:=za MO;clear MO
 go_enter Tryz.func43,Tryz.ntmps43
 go_wp2;have O1:=HMO.out w w.heap.size (Nat.le_refl _);rw[←zdp]at O1;have HO1:=za O1;have HB1:=za (ba (Below.refl w.heap.size w) (.cells zs 2));clear MK HMO O1;generalize w.alloc (.cells zs 2)=w1 at *
 go_loopw [21] (λi wr=>∃ k:Nat,k<=c/\i=.int .i64 (k:Int)/\OwnI .i64 2 wr w.heap.size (.slice (some ⟨w.heap.size,0,none⟩) c c) (zbC (zC p first n k) c)/\Below w.heap.size w wr) (λi _=>c-(intOf i).toNat)
 case atStart=>exact⟨0,by omega,rfl,HO1.out,HB1.out⟩
 case round =>
  clear HO1 HB1;obtain⟨k,hk,rfl,ho,hb⟩:=hrel;have HO:=za ho;have HB:=za hb;clear ho hb
  by_cases hlt:k<c
  ·have CA:=λw=>zfF first (k:Int) h0 h1 (by omega) (by omega) w
   have d0:=zfK (first+(k:Int));have d1:=ze8 (first+(k:Int));have HS:=za (zi2 p first n k);have LK:=zaw p first n k
   have LP:=zdX (L:=zC p first n k) (n:=c) (by omega);have HP:=za (zdy LK hlt (atF p (zE (first+(k:Int))) n));have c1:=HO.out.cellAt LP hlt;have z1:=HO.out.frozenAt LP k;have ST:=HO.out.stored LP k (atF p (zE (first+(k:Int))) n);rw[HP.out,←HS.out]at ST;have H5:=za (And.intro ST (bs HB.out (Nat.le_refl _) (b:=w.heap.size) (o:=k) (.int .i64 (atF p (zE (first+(k:Int))) n))));clear LK LP HP ST HS;generalize zE (first+(k:Int))=d at *;have CE:=λw=>znt p d n d0 d1 w
   generalize atF p d n=x at *
   go_wp2_with (first
    |(go_at_call 82;(with_reducible refine(CA _).mono ?_);rintro e w2 ⟨rfl,rfl⟩)
    |(go_at_call 81;(with_reducible refine(CE _).mono ?_);rintro e w2 ⟨rfl,rfl⟩))
   go_roundw
   case rel=>exact⟨k+1,by omega,by go_num,H5.out.1,H5.out.2⟩
   case measure=>simp[intOf];omega
  ·obtain rfl:k=c:=by omega
   have O2:=HO.out;rw[zcM (zaw p first n k)]at O2;have HO2:=za O2;clear O2;go_wp2;go_ret;exact⟨_,rfl,HO2.out,HB.out⟩
end Go.Proofs.YtlodkoimdoeopaaGreatDoor
namespace Go.Proofs.YtlodkoimdoeopaaGreatDoor
open Go.ChangeShapes Go.WideShapes Go.ChangeAt Go.WideMaps Go.WideElems Go.RowKit
theorem gNamesE : Tryz.prog.globalNamed "smalto/border.names" = some 0 := by kernel_rfl
theorem tNamesE:(Tryz.prog.globals[0]?).map (·.type)=some 161:=by kernel_rfl
theorem zoA:Tryz.prog.cellsOf 161=3:=by kernel_rfl
theorem ztc:Tryz.prog.cellsOf 9=1:=by kernel_rfl
abbrev zmG:ByteArray:=⟨#[99,108,97,109,112]⟩
abbrev zkx:ByteArray:=⟨#[109,105,114,114,111,114]⟩
abbrev zqf:ByteArray:=⟨#[119,114,97,112]⟩
theorem zt4 {s:ByteArray} {l:List UInt8} (h:s.data.toList=l):s=⟨l.toArray⟩:=by
 subst h;rfl
theorem zjh {H:Type} {enc:TypeId×Value->H} {w:World} {base:Nat} {sp:Nat->Bool} {held:Bool} {fuel:Nat} {a:Value} {l:List UInt8} {y:DataW H×List MemPlace}
  (h:DataW.trod enc Tryz.prog w base sp held fuel 9 [a]=some y) (hy:y.1=.lit (.string l)):a=.string ⟨l.toArray⟩:=by
 obtain⟨s,e0,rfl,_⟩:=DataW.trod_string Tryz.underlying9 h;simp at e0 hy;rw[e0,zt4 hy]
set_option maxRecDepth 100000 in
theorem zn8 {H:Type} {enc:TypeId×Value->H} {w:World} {base:Nat} {sp:Nat->Bool} {held:Bool} {fuel:Nat} {cs:Array Value} {p:List MemPlace}
  (h:DataW.trod enc Tryz.prog w base sp held fuel 161 cs.toList=some (Rows.laid_smalto_border_names,p)) :
  cs=#[.string zmG,.string zkx,.string zqf]:=by
 obtain⟨l⟩:=cs;obtain⟨xs,m,rfl,hx,hl,hn,he⟩:=DataW.trod_array Tryz.underlying161 h;rw[zoA]at hl;rw[ztc]at he;obtain⟨c0,c1,c2,rfl⟩:∃ c0 c1 c2,l=[c0,c1,c2]:=by
  match l,hl with
  |[a,b,c],_=>exact⟨a,b,c,rfl⟩
 obtain⟨y0,y1,y2,rfl⟩:∃ y0 y1 y2,xs=[y0,y1,y2]:=by
  match xs,hn with
  |[a,b,c],_=>exact⟨a,b,c,rfl⟩
 have h0:=he 0 (by omega);have h1:=he 1 (by omega);have h2:=he 2 (by omega);simp at h0 h1 h2
 simp[Rows.laid_smalto_border_names]at hx
 obtain⟨⟨g0,g1,g2⟩,_⟩:=hx;obtain rfl:=zjh h0 g0.symm;obtain rfl:=zjh h1 g1.symm;obtain rfl:=zjh h2 g2.symm;rfl
def ze7 (w:World):Prop :=
 w.cell? ⟨0,0,none⟩=some (.string zmG)/\w.cell? ⟨0,1,none⟩=some (.string zkx)/\w.cell? ⟨0,2,none⟩=some (.string zqf)
theorem zwf {w:World} {b o:Nat} {v:Value} (h:w.cell? ⟨b,o,none⟩=some v):b<w.heap.size:=by
 by_cases g:b<w.heap.size
 ·exact g
 ·have e:w.heap[b]?=none:=Array.getElem?_eq_none (by omega)
  simp[World.cell?,e]at h
theorem zdq {w w1:World} (h:ze7 w) (b:Below w.heap.size w w1):ze7 w1:=by
 obtain⟨c0,c1,c2⟩:=h;have lc:=zwf c0;exact⟨cb b lc c0,cb b lc c1,cb b lc c2⟩
def zhh (p:Int):Value:=if p=0 then .string zmG else if p=1 then .string zkx else if p=2 then .string zqf else .string ⟨#[]⟩
theorem zgq (p:Int) (w:World) (hk:ze7 w) :
  Calls Tryz.prog 63 #[.int .i64 p] w λe w'=>e=.returned (zhh p)/\w=w':=by
 obtain⟨k0,k1,k2⟩:=hk
 by_cases h0:p=0
 ·subst h0;have C:=λw=>zfu 0 (by omega) (by omega) w
  go_enter Tryz.func63,Tryz.ntmps63
  go_wp2_with (go_at_call 100;(with_reducible refine(C _).mono ?_);rintro e w1 ⟨rfl,rfl⟩)
  go_ret;exact⟨rfl,rfl⟩
 by_cases h1:p=1
 ·subst h1;have C:=λw=>zfu 1 (by omega) (by omega) w
  go_enter Tryz.func63,Tryz.ntmps63
  go_wp2_with (go_at_call 100;(with_reducible refine(C _).mono ?_);rintro e w1 ⟨rfl,rfl⟩)
  go_ret;exact⟨rfl,rfl⟩
 by_cases h2:p=2
 ·subst h2;have C:=λw=>zfu 2 (by omega) (by omega) w
  go_enter Tryz.func63,Tryz.ntmps63
  go_wp2_with (go_at_call 100;(with_reducible refine(C _).mono ?_);rintro e w1 ⟨rfl,rfl⟩)
  go_ret;exact⟨rfl,rfl⟩
 ·have C:=λw=>zlq p (by omega) w
  rw[show zhh p=.string ⟨#[]⟩ by unfold zhh;rw[if_neg h0,if_neg h1,if_neg h2]];clear h0 h1 h2 k0 k1 k2
  go_enter Tryz.func63,Tryz.ntmps63
  go_wp2_with (go_at_call 100;(with_reducible refine(C _).mono ?_);rintro e w1 ⟨rfl,rfl⟩)
  go_ret;exact⟨rfl,rfl⟩
end Go.Proofs.YtlodkoimdoeopaaGreatDoor
namespace Go.Proofs.YtlodkoimdoeopaaGreatDoor
open Go.RowKit
theorem zht (k:Int) (h0:0<=k) (h1:k<=3) (w:World) :
  Calls Tryz.prog 62 #[.int .i64 k] w λe w'=>e=.returned (.bool true)/\w=w':=by
 go_enter Tryz.func62,Tryz.ntmps62
 go_wp2;go_ret
 first|exact⟨rfl,rfl⟩|exact⟨zag (decide_eq_true (by omega)),rfl⟩
theorem zsV (k:Int) (h:k<0\/3<k) (w:World) :
  Calls Tryz.prog 62 #[.int .i64 k] w λe w'=>e=.returned (.bool false)/\w=w':=by
 rcases h with h|h
 all_goals
  go_enter Tryz.func62,Tryz.ntmps62
  go_wp2;go_ret
  first|exact⟨rfl,rfl⟩|exact⟨zag (decide_eq_false (by omega)),rfl⟩
theorem zcN (n:Int) (h0:1<=n) (h1:n<=65536) (w:World) :
  Calls Tryz.prog 64 #[.int .i64 n] w λe w'=>e=.returned (.bool true)/\w=w':=by
 go_enter Tryz.func64,Tryz.ntmps64
 go_wp2;go_ret
 first|exact⟨rfl,rfl⟩|exact⟨zag (decide_eq_true (by omega)),rfl⟩
theorem zg5 (n:Int) (h:n<1\/65536<n) (w:World) :
  Calls Tryz.prog 64 #[.int .i64 n] w λe w'=>e=.returned (.bool false)/\w=w':=by
 rcases h with h|h
 all_goals
  go_enter Tryz.func64,Tryz.ntmps64
  go_wp2;go_ret
  first|exact⟨rfl,rfl⟩|exact⟨zag (decide_eq_false (by omega)),rfl⟩
theorem zsX (o:Opr) (ax:Option Addr) (cx:Nat) (ay:Option Addr) (cy:Nat) (a b:Int) (w:World) :
  Calls Tryz.prog 116 #[opV o ax cx ay cy,.int .i64 a,.int .i64 b] w λe w'=>e=.returned (.tuple #[.int .i64 (toW o a),.int .i64 (toH o b)])/\Below w.heap.size w w':=by
 unfold opV toW toH;obtain⟨kd,bd,sg,rd,xs,ys,fl,wd,ht⟩:=o;simp only;generalize xs.length=nx at *;generalize ys.length=ny at *
 by_cases h:kd=3
 ·rw[if_pos h,if_pos h];subst h
  go_enter Tryz.func116,Tryz.ntmps116
  go_wp2
  go_quiet (fail)
  go_wp2;exact bodyPost_ret (v:=.tuple #[.int .i64 wd,.int .i64 ht]) (by simp[results,Tryz.results116,go_sem]) rfl ⟨rfl,by repeat (first|exact Below.refl _ _|with_reducible refine bdN ?_ _|with_reducible refine bd ?_|with_reducible refine ba ?_ _)⟩
 ·rw[if_neg h,if_neg h];have hq:(kd == 3)=false:=by simpa using h
  clear h
  go_enter Tryz.func116,Tryz.ntmps116
  go_wp2;exact bodyPost_ret (v:=.tuple #[.int .i64 a,.int .i64 b]) (by simp[results,Tryz.results116,go_sem]) rfl ⟨rfl,by repeat (first|exact Below.refl _ _|with_reducible refine bd ?_|with_reducible refine ba ?_ _)⟩
theorem zfk (p:Int) (p0:0<=p) (p1:p<=2):∃ s,zhh p=.string s/\s.toList.isEmpty=false:=by
 unfold zhh
 by_cases h0:p=0
 ·rw[if_pos h0];exact⟨_,rfl,by decide +kernel⟩
 by_cases h1:p=1
 ·rw[if_neg h0,if_pos h1];exact⟨_,rfl,by decide +kernel⟩
 ·rw[if_neg h0,if_neg h1,if_pos (by omega)];exact⟨_,rfl,by decide +kernel⟩
theorem zkn (p:Int) (h:p<0\/2<p):zhh p=.string ⟨#[]⟩:=by
 unfold zhh;rw[if_neg (by omega),if_neg (by omega),if_neg (by omega)]
end Go.Proofs.YtlodkoimdoeopaaGreatDoor
