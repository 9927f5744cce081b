/- Parts, joined. -/
import Derived.Test.YtlodkoimdoeopaaGreatDoorQ13
import Derived.Test.YtlodkoimdoeopaaGreatDoorQ01
import Derived.Deep.RegionLaw
import Derived.Laws.CopyOwn
import Derived.BigQuiet
namespace Go.Proofs.YtlodkoimdoeopaaGreatDoor
open Go.RowKit
def RecK (w w':World) (r:Nat):Prop:=(∀ o u,o≠3->w.cell? ⟨r,o,none⟩=some u->w'.cell? ⟨r,o,none⟩=some u)/\(∀ o,w.frozen? ⟨r,o,none⟩=false->w'.frozen? ⟨r,o,none⟩=false)
theorem RecK.fr {w w':World} {r o:Nat} (h:RecK w w' r) (hf:w.frozen? ⟨r,o,none⟩=false):w'.frozen? ⟨r,o,none⟩=false:=h.2 o hf
theorem RecK.cl {w w':World} {r o:Nat} {u:Value} (h:RecK w w' r) (ho:o≠3) (hc:w.cell? ⟨r,o,none⟩=some u):w'.cell? ⟨r,o,none⟩=some u:=h.1 o u ho hc
theorem RecK.refl (w:World) (r:Nat):RecK w w r:=⟨λ_ _ _ h=>h,λ_ h=>h⟩
theorem RecK.trans {a b c:World} {r:Nat} (h:RecK a b r) (k:RecK b c r):RecK a c r:=⟨λo u ho hu=>k.1 o u ho (h.1 o u ho hu),λo ho=>k.2 o (h.2 o ho)⟩
theorem RecK.of_off {S:Nat->Prop} {w w':World} {r:Nat} (h:Off S w w') (hn:¬S r) (hl:r<w.heap.size):RecK w w' r:=⟨λ_ _ _ hu=>h.cell hn hu,λo hf=>(h.frozen (o:=o) hn hl).trans hf⟩
theorem RecK.grown {w w':World} {r b:Nat} (h:w.grownBy w' (some b)) (hn:r≠b) (hl:r<w.heap.size):RecK w w' r:=RecK.of_off (Off.of_grown h) hn hl
theorem RecK.set (w:World) (r:Nat) (u:Value):RecK w (w.setCell ⟨r,3,none⟩ u) r :=
 ⟨λo _ ho hu=>(World.cell?_setCell_other _ _ _ _ (by intro e;simp only[Addr.mk.injEq,and_true]at e;omega)).trans hu,λo hf=>(World.frozen?_setCell _ _ _ _).trans hf⟩
theorem OwnI.cut {k:IntKind} {T:TypeId} {w:World} {base g n cap:Nat} {xs:List Int} (h:OwnI k T w base (.slice (some ⟨g,0,none⟩) (n+1) cap) xs) (hn:xs.length=n+1):OwnI k T w base (.slice (some ⟨g,0,none⟩) n cap) (xs.take n):=by
 have hl:(xs.take n).length=n:=by rw[List.length_take];omega
 unfold OwnI at h ⊢;rw[hn]at h;rw[hl];refine⟨by rw[List.length_map,hl,Nat.mul_one],?_⟩;rcases h.2 with⟨hv,_⟩|⟨g',cap',cur,hv,hB,hg,hnc,hcm,hcs,ht⟩
 ·cases hv
 ·simp only[Value.slice.injEq,Option.some.injEq,Addr.mk.injEq,and_true,true_and]at hv;obtain⟨rfl,rfl⟩:=hv;refine .inr ⟨g,cap,cur,rfl,hB,hg,by omega,hcm,hcs,?_⟩;rw[Nat.mul_one]at ht ⊢;rw[List.map_take,←ht,List.take_take,Nat.min_eq_left (by omega)]
theorem zl1 (x:Int) (w:World):(Instr.typeAssert (.iface 2 (.int .i64 x)) 20 2 false).run Tryz.prog w=.ok (.int .i64 x) w:=by
 have hu:=run_underlying (P:=Tryz.prog) (w:=w) Tryz.underlying2
 simp[Instr.typeAssert,hu,Result.andThen]
set_option maxHeartbeats 4000000 in
theorem zxw {r base:Nat} {v:Value} {h:List Int} {x:Int} (w:World) (hc:w.cell? ⟨r,3,none⟩=some v) (hf:w.frozen? ⟨r,3,none⟩=false) (ho:OwnI .i64 2 w base v h) (hne:∀ g,v.ownBlock=some g->g≠r) (hb:base<=w.heap.size) (hl:h.length<=1048575) :
  Calls Tryz.prog 275 #[.pointer (some ⟨r,3,none⟩),.iface 2 (.int .i64 x)] w λe w'=>e=.returned (.tuple #[])/\∃ b cap,NumAt w' r base b (h.length+1) cap (h++[x])/\r≠b/\(v.ownBlock=some b\/w.heap.size<=b)/\b<w'.heap.size/\RecK w w' r/\Off (λk=>k=r\/v.ownBlock=some k) w w':=by
 obtain⟨i0,hi0,hz0,hz1,hz2⟩:=info_parts zdZ;have hr:=ze hc;have HO:=za ho;have HB:=za hb;have HL:=za hl;have HNE:=za hne;have HF:=za hf;have HC:=za hc;have HR:=za hr;have HUL:=za (Tryz.underlying191);have hta:=zl1 x;obtain⟨ad,cap0,rfl,_⟩:=ho.form;have HK:=za (fun(o:Obj) (w9:World) (hg:((w.alloc o).drew).grownBy w9 (Value.slice ad h.length cap0).ownBlock)=>(⟨cg hg (λe=>hne r e.symm rfl) (ca hr hc),fg hg (λe=>hne r e.symm rfl) (ca hr hc) (fa hr hf)⟩:w9.cell? ⟨r,3,none⟩=some (.slice ad h.length cap0)/\w9.frozen? ⟨r,3,none⟩=false));have hca:=fun(o:Obj)=>ca (ob:=o) hr hc
 clear ho hb hl hne hr
 go_enter Tryz.func275,Tryz.ntmps275
 go_wp2_with fail
 go_region_law (refine step_append_lies _ (by rfl) _ _ _ (by rfl) base 2 i0 (.int .i64 0) 1 8 HUL.out hi0 hz0 hz1 hz2 rfl (by decide) (.slice ad h.length cap0) h.length (h.map (Value.int .i64)) (by rfl) (HO.out.alloc _) _ _ _ [.int .i64 x] (by rfl) rfl (zea _ _ _) (zeg _ _) (by decide) (by have:=HL.out;unfold maxLen;omega) (by have:=HL.out;omega) (by have:=HB.out;simp;omega) _ (by rfl) ?_;intro g9 cap9 w9 hown9 hgrow9 hat9 hlt9;obtain⟨c9,f9⟩:=HK.out _ _ hgrow9)
 all_goals
  go_wp2
  go_end0
  have hrg:r≠g9:=by
   rcases hat9 with e|e
   ·exact λq=>HNE.out g9 e q.symm
   ·have:=HR.out;have e2:g9=w.heap.size+1:=e.trans (by simp);omega
  have hgb:(Value.slice ad h.length cap0).ownBlock=some g9\/w.heap.size<=g9:=by
   rcases hat9 with e|e
   ·exact Or.inl e
   ·have e2:g9=w.heap.size+1:=e.trans (by simp);exact Or.inr (by omega)
  have hOff:Off (λk=>k=r\/(Value.slice ad h.length cap0).ownBlock=some k) w w9:=by
   refine(((Off.refl _ w).drewN 1).alloc _).trans (Off.of_grownO hgrow9) (λk hk e=>Or.inr e.symm)
  have hRec:RecK w w9 r:=by
   refine RecK.trans (b:=(w.drewN 1).alloc _) (RecK.of_off (S:=λ_=>False) (((Off.refl _ w).drewN 1).alloc _) (λe=>e) HR.out) (RecK.of_off (Off.of_grownO hgrow9) (λe=>HNE.out r e.symm rfl) ?_);have:=HR.out
   simp
   omega
  refine⟨rfl,g9,cap9,⟨?_,?_,by simp⟩,hrg,hgb,by simpa [World.setCell] using hlt9,hRec.trans (RecK.set _ _ _),hOff.set (λ_=>Or.inl rfl) _⟩
  ·rw[World.cell?_setCell_same' _ _ _ (by rw[c9];rfl)]
  ·have:=(OwnI.append hown9).other r 3 (u:=.slice (some ⟨g9,0,none⟩) (h.length+1) cap9) hrg;exact this
set_option maxHeartbeats 4000000 in
theorem zx9 {r base b n cap:Nat} {h:List Int} (_hr:r≠b) (hn:n<=1048576) (w:World) (H:NumAt w r base b (n+1) cap h) (hf:w.frozen? ⟨r,3,none⟩=false) :
  Calls Tryz.prog 274 #[.pointer (some ⟨r,3,none⟩)] w λe w'=>e=.returned (.iface 2 (.int .i64 (h.getD n 0)))/\w'=w.setCell ⟨r,3,none⟩ (.slice (some ⟨b,0,none⟩) n cap):=by
 obtain⟨hc,ho,hl⟩:=H;have cn:=OwnI.cellAt ho hl (show n<n+1 by omega);have hcap:n+1<=cap:=by
  obtain⟨ad,cp,e,_,_,_,h6⟩:=ho.form;simp only[Value.slice.injEq]at e;omega
 generalize h.getD n 0=x at *;have e0:((n:Int)+1)-1=(n:Int):=by omega
 clear ho hl
 go_enter Tryz.func274,Tryz.ntmps274
 go_wp2;go_ret;exact⟨rfl,rfl⟩
theorem NumAt.cut {w:World} {r base b n cap:Nat} {h:List Int} (H:NumAt w r base b (n+1) cap h) (hr:r≠b):NumAt (w.setCell ⟨r,3,none⟩ (.slice (some ⟨b,0,none⟩) n cap)) r base b n cap (h.take n):=by
 obtain⟨hc,ho,hl⟩:=H;refine⟨World.cell?_setCell_same' _ _ _ (by rw[hc];rfl),?_,by rw[List.length_take];omega⟩;exact(ho.cut hl).other r 3 hr
set_option maxHeartbeats 4000000 in
theorem ztO {r base:Nat} {v:Value} {h:List Int} {x:Int} (w:World) (hc:w.cell? ⟨r,3,none⟩=some v) (hf:w.frozen? ⟨r,3,none⟩=false) (ho:OwnI .i64 2 w base v h) (hne:∀ g,v.ownBlock=some g->g≠r) (hb:base<=w.heap.size) (hl:h.length<=1048575) (hh:zbM h h.length) :
  Calls Tryz.prog 162 #[.iface 234 (.pointer (some ⟨r,3,none⟩)),.iface 2 (.int .i64 x)] w λe w'=>e=.returned (.tuple #[])/\∃ b cap h',NumAt w' r base b (h.length+1) cap h'/\r≠b/\(v.ownBlock=some b\/w.heap.size<=b)/\b<w'.heap.size/\RecK w w' r/\Off (λk=>k=r\/v.ownBlock=some k) w w'/\h'.Perm (h++[x])/\zbM h' (h.length+1):=by
 have hr:=ze hc;have CP:=zxw (x:=x) w hc hf ho hne hb hl;have UO:=za (zrY rfl hh x);have HL:=za hl;have HR:=za hr;have mP:=zsM r w;have eP:=zuA;have eN:=zo5;generalize hm:h.length=m at *;have e0:((m:Int)+1)-1=(m:Int):=by omega
 clear hc hf ho hne hb hh hr hm
 go_enter Tryz.func162,Tryz.ntmps162
 go_wp2_with (first
  |(go_at_fn 275;(with_reducible refine CP.mono ?_);rintro e w1 ⟨rfl,b,cap,N1,n1,q1,l1,r1,o1⟩;have mN:=zmp N1.1;have HN1:=za N1;have HR1:=za r1;have HO1:=za o1;have HQ1:=za (And.intro n1 (And.intro q1 l1));clear N1 n1 q1 l1 r1 o1)
  |(go_at_fn 271;(with_reducible refine(zwb _ _ _ _).mono ?_);rintro e w2 ⟨rfl,rfl⟩)
  |(go_at_call 181;(with_reducible refine(zxz HQ1.out.1 (by omega) (by have:=HL.out;omega) UO.out _ HN1.out).mono ?_);rintro e w3 ⟨rfl,h3,N3,g3,p3,k3⟩))
 go_end0
 obtain⟨n1,q1,l1⟩:=HQ1.out;exact⟨rfl,b,cap,h3,N3,n1,q1,Nat.lt_of_lt_of_le l1 g3.size,HR1.out.trans (RecK.grown g3 n1 (Nat.lt_of_lt_of_le HR.out HO1.out.size)),HO1.out.trans (Off.of_grown g3) (λk hk e=>by subst e;rcases q1 with q|q;exact Or.inr q;omega),p3,k3⟩
set_option maxHeartbeats 4000000 in
theorem zu7 {r base b n cap:Nat} {h:List Int} (hr:r≠b) (hn:n<=1048575) (w:World) (H:NumAt w r base b (n+1) cap h) (hf:w.frozen? ⟨r,3,none⟩=false) (hh:zbM h (n+1)) :
  Calls Tryz.prog 163 #[.iface 234 (.pointer (some ⟨r,3,none⟩))] w λe w'=>e=.returned (.iface 2 (.int .i64 (h.getD 0 0)))/\∃ h',NumAt w' r base b n cap h'/\(h'++[h.getD 0 0]).Perm h/\zbM h' n/\RecK w w' r/\Off (λk=>k=r\/k=b) w w':=by
 have hl:=H.2.2;have hrl:=ze H.1;have mN:=zmp H.1;have mS:=zgd H.1;have c0:=OwnI.cellAt H.2.1 H.2.2 (show 0<n+1 by omega);have cn:=OwnI.cellAt H.2.1 H.2.2 (show n<n+1 by omega);have f0:=OwnI.frozenAt H.2.1 H.2.2 0;have fn:=OwnI.frozenAt H.2.1 H.2.2 n;have CS:=zms b (n+1) cap _ _ 0 n (by omega) (by omega) (by omega) w c0 cn f0 fn;have SW:=za (λq=>NumAt.swap (i:=0) (j:=n) H hr q);have DO:=za (ztA hl hh);have SR:=za (zrz hl);have HN:=za hn;have HF:=za hf;have HRL:=za hrl;have HR:=za hr;have mP:=zv5 r;have eN:=zo5;have eS:=zi0;have eP:=zxm;have e0:((n:Int)+1)-1=(n:Int):=by omega
 rw[show((0:Nat):Int)=0 from rfl]at CS;clear H hf hh hl hrl c0 cn f0 fn
 go_enter Tryz.func163,Tryz.ntmps163
 go_wp2_with (first
  |(go_at_fn 271;(with_reducible refine(zwb _ _ _ _).mono ?_);rintro e w1 ⟨rfl,rfl⟩)
  |(go_at_fn 273;((with_reducible refine CS.mono ?_);rintro e w2 ⟨rfl,q,hw2⟩;obtain⟨N2,g2⟩:=SW.out q;rw[←hw2]at N2 g2;have HN2:=za N2;have HG2:=za g2;clear N2 g2 hw2))
  |(go_at_call 182;(with_reducible refine(zpU HR.out (by omega) (by have:=HN.out;omega) DO.out _ HN2.out).mono ?_);rintro e w3 ⟨bb,rfl,h3,N3,g3,p3,k3,d3⟩;have HN3:=za N3;have R3:=za (RecK.grown (zb2 HG2.out g3) HR.out HRL.out);have HG3:=za (zb2 HG2.out g3);have HP3:=za (And.intro p3 (And.intro k3 d3));clear N3 g3 p3 k3 d3)
  |(go_at_fn 274;((with_reducible refine(zx9 (n:=n) HR.out (by omega) _ HN3.out (R3.out.fr HF.out)).mono ?_);rintro e w4 ⟨rfl,rfl⟩)))
 go_ret;obtain⟨s1,s2⟩:=SR.out;obtain⟨p3,k3,d3⟩:=HP3.out;have hl3:=HN3.out.2.2;have e3:h3.getD n 0=h.getD 0 0:=by
  have a:(h3.drop n).getD 0 0=((swp h 0 n).drop n).getD 0 0:=by rw[d3]
  rw[List.getD_eq_getElem?_getD,List.getD_eq_getElem?_getD,List.getElem?_drop,List.getElem?_drop,Nat.add_zero,←List.getD_eq_getElem?_getD,←List.getD_eq_getElem?_getD,s1]at a;exact a
 refine⟨by show Ending.returned (Value.iface 2 (.int .i64 (h3.getD n 0)))=_;rw[e3],h3.take n,HN3.out.cut HR.out,?_,ztG k3,R3.out.trans (RecK.set _ _ _),(((Off.refl (λk=>k=r\/k=b) w).trans (Off.of_grown HG3.out) (λk _ e=>Or.inr e)).set (λ_=>Or.inl rfl) _)⟩;exact((zs1 p3 d3).append_right _).trans s2
end Go.Proofs.YtlodkoimdoeopaaGreatDoor
namespace Go.Proofs.YtlodkoimdoeopaaGreatDoor
open Go.RowKit
open Go.Maps (Keyed)
open Go.MapKept Go.ChangeMaps
structure RingOk (room width:Nat) (L:List (Int×List Int)):Prop where
 rising:zfC L
 len:L.length<=room
 r1:1<=room
 r2:room<=65536
 wd:width<=262144
 rows:∀ x ∈ L,x.2.length=width/\-9223372036854775808<=x.1/\x.1<=9223372036854775807
structure RMem (w:World) (base r:Nat) (S:Nat->Prop) (L:List (Int×List Int)) (m:Nat) (v:Value) (h:List Int) (D:DataW Value) (V:Int->Value):Prop where
 c2:w.cell? ⟨r,2,none⟩=some (.map (some m))
 sm:S m
 mr:m≠r
 c3:w.cell? ⟨r,3,none⟩=some v
 nums:OwnI .i64 2 w base v h
 vb:∀ g,v.ownBlock=some g->S g/\g≠r/\g≠m
 perm:h.Perm (L.map (·.1))
 heap:zbM h h.length
 map:w.ownsMap Tryz.prog 2 zdJ m (Maps.size D) D
 size:Maps.size D=L.length
 has:∀ j,Maps.has D (.int .i64 j)=zbu L j
 at_:∀ x ∈ L,∀ z,D.atKey (.int .i64 x.1) z=.held (V x.1)
 rows:∀ x ∈ L,OwnI .i64 2 w base (V x.1) x.2
 blk:∀ x ∈ L,∀ g,(V x.1).ownBlock=some g->S g/\g≠r/\g≠m/\v.ownBlock≠some g
 apart:∀ x ∈ L,∀ y ∈ L,x.1≠y.1->Apart (V x.1) (V y.1)
structure RingAt (w:World) (base r:Nat) (S:Nat->Prop) (room width:Nat) (L:List (Int×List Int)):Prop where
 ok:RingOk room width L
 lo:∀ k,S k->base<=k
 hi:∀ k,S k->k<w.heap.size
 sr:S r
 c0:w.cell? ⟨r,0,none⟩=some (.int .i64 (room:Int))
 c1:w.cell? ⟨r,1,none⟩=some (.int .i64 (width:Int))
 fr:∀ o,w.frozen? ⟨r,o,none⟩=false
 mem:∃ m v h D V,RMem w base r S L m v h D V
theorem RMem.off {w w':World} {base r:Nat} {S T:Nat->Prop} {L:List (Int×List Int)} {m:Nat} {v:Value} {h:List Int} {D:DataW Value} {V:Int->Value} (M:RMem w base r S L m v h D V) (hr:S r) (ho:Off T w w') (hn:∀ k,S k->¬T k):RMem w' base r S L m v h D V where
 c2:=ho.cell (hn r hr) M.c2
 sm:=M.sm
 mr:=M.mr
 c3:=ho.cell (hn r hr) M.c3
 nums:=ho.own M.nums (λg hg=>hn g (M.vb g hg).1)
 vb:=M.vb
 perm:=M.perm
 heap:=M.heap
 map:=ho.map M.map (hn m M.sm)
 size:=M.size
 has:=M.has
 at_:=M.at_
 rows:=λx hx=>ho.own (M.rows x hx) (λg hg=>hn g (M.blk x hx g hg).1)
 blk:=M.blk
 apart:=M.apart
theorem RingAt.off {w w':World} {base r:Nat} {S T:Nat->Prop} {room width:Nat} {L:List (Int×List Int)} (R:RingAt w base r S room width L) (ho:Off T w w') (hn:∀ k,S k->¬T k):RingAt w' base r S room width L where
 ok:=R.ok
 lo:=R.lo
 hi:=λk hk=>Nat.lt_of_lt_of_le (R.hi k hk) ho.size
 sr:=R.sr
 c0:=ho.cell (hn r R.sr) R.c0
 c1:=ho.cell (hn r R.sr) R.c1
 fr:=λo=>(ho.frozen (hn r R.sr) (R.hi r R.sr)).trans (R.fr o)
 mem:=by
  obtain⟨m,v,h,D,V,M⟩:=R.mem;exact⟨m,v,h,D,V,M.off R.sr ho hn⟩
theorem RingAt.below {w w':World} {base r:Nat} {S:Nat->Prop} {room width:Nat} {L:List (Int×List Int)} (R:RingAt w base r S room width L) (hb:Below w.heap.size w w'):RingAt w' base r S room width L :=
 R.off (T:=λ_=>False) (Off.of_below hb) (λ_ _ e=>e)
theorem RingAt.drewN {w:World} {base r:Nat} {S:Nat->Prop} {room width:Nat} {L:List (Int×List Int)} (R:RingAt w base r S room width L) (n:Nat):RingAt (w.drewN n) base r S room width L:=R.below (bdN (Below.refl _ _) n)
theorem zj5 {j:Int} (h1 : -9223372036854775808<=j) (h2:j<=9223372036854775807):keyOf Tryz.prog 2 (.int .i64 j)=some (.int .i64 j):=by
 have hw:(Lit.int .i64 j).wf=true:=by simp[Lit.wf,IntKind.min,IntKind.max,IntKind.signed,IntKind.bits];omega
 simp[keyOf,mapKey,Tryz.underlying2,hw]
theorem znn (w:World):(zeroValue 28).run Tryz.prog w=.ok (.slice none 0 0) w:=by kernel_rfl
theorem zeI:Keyed Tryz.prog 2:=Go.Maps.int_keyed Tryz.underlying2
theorem zvS:(Tryz.prog.info? 2).map (·.size)=some 1:=by kernel_rfl
theorem zmn {P:Program} {w:World} (dT sT ty:TypeId) (elem:TypeId) (hu:P.underlying dT=some (.slice elem)) (hsz:(P.info? elem).map (·.size)=some 1)
  (k:IntKind) (T:TypeId) (base:Nat) (v:Value) (n:Nat) (ys xs:List Int) (hown:OwnI k T w base v ys) (hy:ys.length=n) (sp:Option Addr) (sCap:Nat) (hx:xs.length=n) (hr:RowAt k w sp xs) :
  ∃ w',(Builtin.copy_ #[dT,sT] ty #[v,.slice sp n sCap]).run P w=.ok (.int .i64 (n:Int)) w'/\OwnI k T w' base v xs/\w.grownBy w' v.ownBlock:=by
 subst hx
 by_cases h0:xs.length=0
 ·have e1:=List.eq_nil_of_length_eq_zero h0;have e2:ys=[]:=List.eq_nil_of_length_eq_zero (by omega);subst e1 e2;obtain⟨ad,cap,rfl,_⟩:=hown.form;exact⟨w,run_copy_none (P:=P) w dT sT ty elem ad sp _ cap _ sCap hu hsz (by simp),hown,zbi _ _⟩
 ·rcases hown.2 with⟨rfl,h1⟩|⟨g,cap,cur,rfl,hB,hg,hn,hm,hcs,ht⟩
  ·omega
  ·obtain⟨b,off,rfl,hc⟩:=hr.get (show 0<xs.length by omega);have hcl:(xs.map (Value.int k)).length=xs.length:=by rw[List.length_map]
   rw[Nat.mul_one]at hcs;have hfit:0+(xs.map (Value.int k)).length<=cur.size:=by rw[hcl];omega
   have key:=setRow_heap w g cur (((cur.toList.take 0)++((xs.map (Value.int k))++cur.toList.drop (0+(xs.map (Value.int k)).length))).toArray) T _ hg;have hrun:=run_copy_row (P:=P) w dT sT ty elem g 0 ys.length cap ⟨b,off,none⟩ xs.length sCap cur T (xs.map (Value.int k)) hu hsz hg (by rw[hcl,hy];exact(Nat.min_self _).symm) (λj u hj=>by
    rw[List.getElem?_map]at hj;have hlt:j<xs.length:=by
     by_cases q:j<xs.length
     ·exact q
     ·rw[List.getElem?_eq_none (by omega)]at hj;cases hj
    rw[zeO,hr.at hlt,←hj,List.getD_eq_getElem?_getD,List.getElem?_eq_getElem hlt];rfl) hfit (λu hu=>by
    obtain⟨y,_,rfl⟩:=List.mem_map.1 hu;rfl)
   rw[hcl]at hrun key;refine⟨_,hrun,⟨by rw[hcl,Nat.mul_one],.inr ⟨g,cap,_,by rw[hy],hB,key,by omega,hm,?_,?_⟩⟩,?_⟩
   ·simp[hcl]
    omega
   ·rw[Nat.mul_one,List.toList_toArray,List.take_zero,List.nil_append];exact List.take_left' hcl
   ·exact⟨rfl,rfl,rfl,by simp[World.setRow],λi hi hne=>setRow_other w g i _ (λe=>hne (by rw[e];rfl))⟩
theorem zpq (xs:List Int) (n:Nat) (hn:xs.length=n) (ad:Option Addr) (cap:Nat) (h1:n<=1048576) (hz:ad=none->n=0/\cap=0) (w:World) (hr:RowAt .i64 w ad xs) :
  Calls Tryz.prog 86 #[.slice ad n cap] w λe w'=>∃ v,e=.returned v/\OwnI .i64 2 w' w.heap.size v xs/\Below w.heap.size w w':=by
 have HR:=za hr;have HN:=za hn;obtain⟨i0,hi,hz0,hz1,hz2⟩:=info_parts zdZ;rcases ad with _|ad
 ·obtain⟨rfl,rfl⟩:=hz rfl;obtain rfl:xs=[]:=List.eq_nil_of_length_eq_zero hn;have q:∀ w:World,(binOp .eql 28 (.slice none 0 0) (.slice none 0 0)).run Tryz.prog w=.ok (.bool true) w:=λw=>Lib.run_eql_slice_nil w _ _ _ 0 0 0 0 Tryz.underlying28
  clear hr hn hz
  go_enter Tryz.func86,Tryz.ntmps86
  go_wp2;go_ret;exact⟨_,rfl,OwnI.nil _ _ _ _,Below.refl _ _⟩
 ·have q:∀ w:World,(binOp .eql 28 (.slice (some ad) n cap) (.slice none 0 0)).run Tryz.prog w=.ok (.bool false) w:=λw=>Lib.run_eql_slice_nil w _ _ _ n cap 0 0 Tryz.underlying28
  clear hr hn hz
  go_enter Tryz.func86,Tryz.ntmps86
  go_wp2_with (at_builtin;refine zdP .i64 _ rfl _ _ 28 rfl w.heap.size 2 i0 (.int .i64 0) 8 Tryz.underlying28 hi hz0 hz1 hz2 rfl (.slice (some ⟨w.heap.size,0,none⟩) 0 0) [] rfl (zi6 _ _ _ _ (Nat.le_refl _)) (some ad) n cap xs rfl HN.out (HR.out.below (zg _ _)) (λe=>by cases e) (by simp;unfold maxLen;omega) (by simp;omega) (by simp) ?_;intro v1 w2 own2 grow2 _;have bw2:=zhM (Below.refl _ _) grow2;rw[List.nil_append]at own2)
  go_ret;exact⟨v1,rfl,own2,bw2⟩
theorem zjC {L:List (Int×List Int)} {h:List Int} (hp:h.Perm (L.map (·.1))) (hh:zbM h h.length) (hr:zfC L) (h0:L≠[]):h.getD 0 0=zjG L:=by
 cases L with
 |nil=>exact absurd rfl h0
 |cons y r =>
  show h.getD 0 0=y.1
  have hl:0<h.length:=by rw[hp.length_eq];simp
  have hm:y.1 ∈ h:=hp.mem_iff.2 (by simp);obtain⟨k,hk,e⟩:=List.mem_iff_getElem.1 hm;have a:=zp5 hh k hk;rw[List.getD_eq_getElem?_getD (i:=k),List.getElem?_eq_getElem hk,Option.getD_some,e]at a;have hm0:h.getD 0 0 ∈ h:=by
   rw[List.getD_eq_getElem?_getD,List.getElem?_eq_getElem hl];exact List.getElem_mem hl
  obtain⟨z,hz,e2⟩:=List.mem_map.1 (hp.mem_iff.1 hm0);rcases List.mem_cons.1 hz with rfl|hz
  ·exact e2.symm
  ·have:=(List.pairwise_cons.1 hr).1 z hz;have e3:z.1=h.getD 0 0:=e2;omega
set_option maxHeartbeats 4000000 in
theorem zu8 {w:World} {base r:Nat} {S:Nat->Prop} {room width:Nat} {L:List (Int×List Int)} {j:Int} (h1 : -9223372036854775808<=j) (h2:j<=9223372036854775807) (R:RingAt w base r S room width L) :
  Calls Tryz.prog 124 #[.pointer (some ⟨r,0,none⟩),.int .i64 j] w λe w'=>e=.returned (.bool (zbu L j))/\w=w':=by
 obtain⟨m,v,h,D,V,M⟩:=R.mem;have c2:=M.c2;have HM:=za M.map;have HK:=za (zj5 h1 h2);have HB:=za (M.has j);clear M R h1 h2
 go_enter Tryz.func124,Tryz.ntmps124
 go_wp2_with (at_lookup;refine wpList_lookup_own_ok _ rfl _ _ 190 rfl 2 28 zeI Tryz.underlying190 zdJ (znn _) (.held (.slice none 0 0)) [] rfl m (Maps.size D) D rfl HM.out _ _ rfl HK.out ?_;intro u ps hu)
 go_ret;exact⟨by rw[HB.out];rfl,rfl⟩
set_option maxHeartbeats 4000000 in
theorem zlQ {w:World} {base r:Nat} {S:Nat->Prop} {room width:Nat} {L:List (Int×List Int)} (R:RingAt w base r S room width L) :
  Calls Tryz.prog 95 #[.pointer (some ⟨r,0,none⟩)] w λe w'=>e=.returned (.int .i64 (L.length:Int))/\w=w':=by
 obtain⟨m,v,h,D,V,M⟩:=R.mem;have c2:=M.c2;have hlen:=M.map.len Tryz.underlying190 3;rw[M.size]at hlen;clear M R
 go_enter Tryz.func95,Tryz.ntmps95
 go_wp2;go_ret;exact⟨rfl,rfl⟩
theorem zhG {w:World} {base r:Nat} {S:Nat->Prop} {room width:Nat} {L:List (Int×List Int)} (R:RingAt w base r S room width L) :
  Calls Tryz.prog 85 #[.pointer (some ⟨r,0,none⟩)] w λe w'=>e=.returned (.int .i64 (room:Int))/\w=w':=by
 have c0:=R.c0;clear R
 go_enter Tryz.func85,Tryz.ntmps85
 go_wp2;go_ret;exact⟨rfl,rfl⟩
theorem zrI {L:List (Int×List Int)} {j:Int} (h:zbu L j=false):zdR L j=[]:=by
 unfold zdR;have:L.find? (λy=>decide (y.1=j))=none:=by
  rw[List.find?_eq_none];intro x hx e;have:=(zbT L j).2 ⟨x,hx,of_decide_eq_true e⟩;rw[h]at this;cases this
 rw[this]
theorem zns {L:List (Int×List Int)} {j:Int} (h:zbu L j=true):(j,zdR L j) ∈ L:=by
 obtain⟨x,hx,e⟩:=(zbT L j).1 h;have hs:(L.find? (λy=>decide (y.1=j))).isSome=true:=List.find?_isSome.2 ⟨x,hx,decide_eq_true e⟩;obtain⟨y,hy⟩:=Option.isSome_iff_exists.1 hs;have h1:=List.mem_of_find?_eq_some hy;have h2:=List.find?_some hy;have h3:y.1=j:=of_decide_eq_true h2;have e2:zdR L j=y.2:=by unfold zdR;rw[hy]
 rw[e2,←h3];exact h1
theorem zmq {u v:Value} {ps:List MemPlace} (h:zdJ u=some (.held v,ps)):u=v:=by
 unfold zdJ at h;simp only[Option.some.injEq,Prod.mk.injEq,DataW.held.injEq]at h;exact h.1
set_option maxHeartbeats 4000000 in
theorem zvR {w:World} {base r:Nat} {S:Nat->Prop} {room width:Nat} {L:List (Int×List Int)} {j:Int} (h1 : -9223372036854775808<=j) (h2:j<=9223372036854775807) (R:RingAt w base r S room width L) :
  Calls Tryz.prog 127 #[.pointer (some ⟨r,0,none⟩),.int .i64 j] w λe w'=>∃ v,e=.returned (.tuple #[v,.bool (zbu L j)])/\OwnI .i64 2 w' w.heap.size v (zdR L j)/\Below w.heap.size w w':=by
 obtain⟨m,v,h,D,V,M⟩:=R.mem;have c2:=M.c2;have HM:=za M.map;have HK:=za (zj5 h1 h2);have HB:=za (M.has j);obtain⟨zv,hzv,hown⟩:∃ zv,D.atKey (.int .i64 j) (.held (.slice none 0 0))=.held zv/\∃ ad cap,zv=.slice ad (zdR L j).length cap/\RowAt .i64 w ad (zdR L j)/\(ad=none->(zdR L j).length=0/\cap=0)/\(zdR L j).length<=262144:=by
  rcases hb:zbu L j with _|_
  ·have hz:=zrI hb;have hn:Maps.has D (.int .i64 j)=false:=by rw[M.has j];exact hb
   rw[hz];exact⟨_,Maps.atKey_of_not_has hn _,none,0,rfl,Or.inl rfl,λ_=>⟨rfl,rfl⟩,by simp⟩
  ·have hm:=zns hb;obtain⟨ad,cap,e,hr,hz,_⟩:=(M.rows _ hm).form;have hw:=(R.ok.rows _ hm).1;have:=R.ok.wd;exact⟨V j,M.at_ _ hm _,ad,cap,e,hr,λq=>⟨by have e2:zdR L j=[]:=(hz q).1;rw[e2];rfl,(hz q).2⟩,by simp only at hw;omega⟩
 obtain⟨ad,cap,rfl,hr,hz,hn⟩:=hown;have HZ:=za hzv;have CL:=zpq (zdR L j) _ rfl ad cap (by omega) hz w hr;generalize zdR L j=xs at *;clear M R h1 h2 hr hz hzv hn
 go_enter Tryz.func127,Tryz.ntmps127
 go_wp2_with (first
  |(at_lookup;refine wpList_lookup_own_ok _ rfl _ _ 190 rfl 2 28 zeI Tryz.underlying190 zdJ (znn _) (.held (.slice none 0 0)) [] rfl m (Maps.size D) D rfl HM.out _ _ rfl HK.out ?_;intro u ps hu;rw[HZ.out]at hu;have e:=zmq hu;subst e;clear hu)
  |(go_at_call 86;(with_reducible refine CL.mono ?_);rintro e w2 ⟨v2,rfl,o2,b2⟩))
 go_ret2
 exact⟨v2,by rw[←HB.out];rfl,o2,b2⟩
theorem zrj:zfC []:=List.Pairwise.nil
theorem RMem.none {w:World} {base r:Nat} {S:Nat->Prop} {m:Nat} (c2:w.cell? ⟨r,2,none⟩=some (.map (some m))) (sm:S m) (mr:m≠r) (c3:w.cell? ⟨r,3,none⟩=some (.slice none 0 0)) (hm:w.ownsMap Tryz.prog 2 zdJ m 0 (.map [])) :
  RMem w base r S [] m (.slice none 0 0) [] (.map []) (λ_=>.slice none 0 0) where
 c2:=c2
 sm:=sm
 mr:=mr
 c3:=c3
 nums:=OwnI.nil _ _ _ _
 vb:=λg hg=>by cases hg
 perm:=List.Perm.refl _
 heap:=zvK
 map:=hm
 size:=rfl
 has:=λ_=>rfl
 at_:=λx hx=>by cases hx
 rows:=λx hx=>by cases hx
 blk:=λx hx=>by cases hx
 apart:=λx hx=>by cases hx
theorem zwr {room width:Nat} (r1:1<=room) (r2:room<=65536) (wd:width<=262144):RingOk room width []:=⟨zrj,Nat.zero_le _,r1,r2,wd,λx hx=>by cases hx⟩
theorem zsH (w:World) {x y:Int} {room width:Nat} (hx:x=(room:Int)) (hy:y=(width:Int)) (r1:1<=room) (r2:room<=65536) (wd:width<=262144) :
  RingAt ((w.alloc (.map #[] 0)).alloc (.cells #[.int .i64 x,.int .i64 y,.map (some w.heap.size),.slice none 0 0] 193)) w.heap.size (w.heap.size+1) (λk=>w.heap.size<=k/\k<w.heap.size+2) room width []:=by
 subst hx hy;have hs:(w.alloc (.map #[] 0)).heap.size=w.heap.size+1:=by simp
 have hm:=(World.ownsMap_made w Tryz.prog 2 zdJ).alloc (.cells #[.int .i64 (room:Int),.int .i64 (width:Int),.map (some w.heap.size),.slice none 0 0] 193);have hc:∀ o u,#[Value.int .i64 (room:Int),.int .i64 (width:Int),.map (some w.heap.size),.slice none 0 0][o]?=some u->((w.alloc (.map #[] 0)).alloc (.cells #[.int .i64 (room:Int),.int .i64 (width:Int),.map (some w.heap.size),.slice none 0 0] 193)).cell? ⟨w.heap.size+1,o,none⟩=some u:=by
  intro o u hu;rw[←hs];have hlt:o<4:=by
   by_cases q:o<4
   ·exact q
   ·rw[Array.getElem?_eq_none (by simp;omega)]at hu;cases hu
  match o,hlt,hu with
  |0,_,hu=>simp at hu;subst hu;simp
  |1,_,hu=>simp at hu;subst hu;simp
  |2,_,hu=>simp at hu;subst hu;simp
  |3,_,hu=>simp at hu;subst hu;simp
 refine⟨zwr r1 r2 wd,λk hk=>hk.1,λk hk=>?_,⟨by omega,by omega⟩,hc 0 _ rfl,hc 1 _ rfl,λo=>?_,w.heap.size,_,_,_,_,RMem.none (hc 2 _ rfl) ⟨by omega,by omega⟩ (by omega) (hc 3 _ rfl) hm⟩
 ·simp
  omega
 ·rw[←hs]
  simp
theorem zv1 (a:Int):1<=zgP a/\zgP a<=65536:=by unfold zgP;split<;>(try split)<;>omega
theorem zs7 (b:Int):0<=zfU b/\zfU b<=262144:=by unfold zfU;split<;>(try split)<;>omega
set_option maxHeartbeats 4000000 in
theorem zuZ (a b:Int) (a1 : -9223372036854775808<=a) (a2:a<=9223372036854775807) (b1 : -9223372036854775808<=b) (b2:b<=9223372036854775807) (w:World) :
  Calls Tryz.prog 84 #[.int .i64 a,.int .i64 b] w λe w'=>∃ r S,e=.returned (.pointer (some ⟨r,0,none⟩))/\RingAt w' w.heap.size r S (zgP a).toNat (zfU b).toNat []/\Below w.heap.size w w':=by
 have hmm:=@run_makeMap Tryz.prog
 go_enter Tryz.func84,Tryz.ntmps84
 have ra:=za (zv1 a);have wb:=za (zs7 b);go_wp2
 all_goals
  go_ret;have ra:=ra.out;have wb:=wb.out
  first
   |refine⟨_,rfl,⟨_,zsH w ?_ ?_ (by omega) (by omega) (by omega)⟩,(((Below.refl w.heap.size w).alloc (Nat.le_refl _) _).alloc (by simp) _)⟩
   |refine⟨_,_,rfl,zsH w ?_ ?_ (by omega) (by omega) (by omega),(((Below.refl w.heap.size w).alloc (Nat.le_refl _) _).alloc (by simp) _)⟩
  ·unfold zgP
   (repeat split)<;>omega
  ·unfold zfU
   (repeat split)<;>omega
theorem ztM (x:Int×List Int) (L:List (Int×List Int)):(zdd x L).Perm (x :: L):=by
 induction L with
 |nil=>exact List.Perm.refl _
 |cons y r ih =>
  unfold zdd
  split
  ·exact List.Perm.refl _
  ·exact(ih.cons y).trans (List.Perm.swap x y r)
theorem zta (x:Int×List Int) (L:List (Int×List Int)) (j:Int):zbu (zdd x L) j=(decide (x.1=j) || zbu L j):=by
 rw[Bool.eq_iff_iff,zbT,Bool.or_eq_true,zbT,decide_eq_true_eq]
 constructor
 ·rintro ⟨y,hy,e⟩;rcases(zcd x L y).1 hy with rfl|hy
  ·exact Or.inl e
  ·exact Or.inr ⟨y,hy,e⟩
 ·rintro (e|⟨y,hy,e⟩)
  ·exact⟨x,(zcd x L x).2 (Or.inl rfl),e⟩
  ·exact⟨y,(zcd x L y).2 (Or.inr hy),e⟩
theorem zjE {i j:Int} (h:i≠j):Lit.int .i64 i≠Lit.int .i64 j:=λe=>h (by injection e)
theorem zcU {L:List (Int×List Int)} {j:Int} (h:zbu L j=false) {x:Int×List Int} (hx:x ∈ L):x.1≠j:=λe=>by
 have:=(zbT L j).2 ⟨x,hx,e⟩;rw[h]at this;cases this
theorem zvs {w w1 w2:World} {base r m:Nat} {S:Nat->Prop} {room width:Nat} {L:List (Int×List Int)} {v u:Value} {h h' xs:List Int} {D:DataW Value} {V:Int->Value} {j:Int} {n b cap:Nat}
  (j1 : -9223372036854775808<=j) (j2:j<=9223372036854775807) (R:RingAt w base r S room width L) (M:RMem w base r S L m v h D V) (hl:L.length<room) (hj:zbu L j=false) (hx:xs.length=width) (ho:OwnI .i64 2 w base u xs) (hu:∀ g,u.ownBlock=some g->¬S g)
  (m1:w1.ownsMap Tryz.prog 2 zdJ m n (D.put (.int .i64 j) (.held u))) (g1:w.grownBy w1 (some m))
  (N2:NumAt w2 r base b (h.length+1) cap h') (hrb:r≠b) (hb:v.ownBlock=some b\/w1.heap.size<=b) (hbl:b<w2.heap.size) (r2:RecK w1 w2 r) (o2:Off (λk=>k=r\/v.ownBlock=some k) w1 w2) (p2:h'.Perm (h++[j])) (k2:zbM h' (h.length+1)) :
  RingAt w2 base r (λk=>S k\/u.ownBlock=some k\/k=b) room width (zdd (j,xs) L)/\Off S w w2:=by
 have hr:=R.hi r R.sr;have hml:=R.hi m M.sm;have s1:=g1.size;have s2:=o2.size;have O1:=Off.of_grown g1;have rm:r≠m:=λe=>M.mr e.symm
 have ul:∀ g,u.ownBlock=some g->g<w.heap.size:=λg hg=>OwnI.lt ho g hg
 have nb:∀ g,g<w.heap.size->v.ownBlock≠some g->g≠b:=λg hg hv e=>by
  subst e;rcases hb with hb|hb
  ·exact hv hb
  ·omega
 have ub:∀ g,u.ownBlock=some g->g≠r/\g≠m/\v.ownBlock≠some g/\g≠b:=λg hg=>by
  have hv:v.ownBlock≠some g:=λe=>hu g hg (M.vb g e).1
  exact⟨λe=>hu g hg (e ▸ R.sr),λe=>hu g hg (e ▸ M.sm),hv,nb g (ul g hg) hv⟩
 have cell:∀ o z,o≠3->w.cell? ⟨r,o,none⟩=some z->w2.cell? ⟨r,o,none⟩=some z:=λo z hne hc=>r2.cl hne (O1.cell rm hc)
 have HO:Off S w w2:=(O1.mono (λk _ e=>by subst e;exact M.sm)).trans o2 (λk hk e=>by
  rcases e with e|e
  ·subst e;exact R.sr
  ·exact(M.vb k e).1)
 refine⟨⟨⟨zoQ R.ok.rising hj,by rw[ziE];omega,R.ok.r1,R.ok.r2,R.ok.wd,λx hx'=>?_⟩,λk hk=>?_,λk hk=>?_,Or.inl R.sr,cell 0 _ (by decide) R.c0,cell 1 _ (by decide) R.c1,λo=>r2.fr ((O1.frozen rm hr).trans (R.fr o)),m,.slice (some ⟨b,0,none⟩) (h.length+1) cap,h',D.put (.int .i64 j) (.held u),(λi=>if i=j then u else V i),?_⟩,HO⟩
 ·rcases(zcd _ _ _).1 hx' with rfl|hx'
  ·exact⟨hx,j1,j2⟩
  ·exact R.ok.rows x hx'
 ·rcases hk with hk|hk|hk
  ·exact R.lo k hk
  ·exact zdw ho k hk
  ·subst hk;rcases hb with hb|hb
   ·exact zdw M.nums _ hb
   ·have:=R.lo r R.sr;omega
 ·rcases hk with hk|hk|hk
  ·have:=R.hi k hk;omega
  ·have:=ul k hk;omega
  ·subst hk;exact hbl
 ·have hs:=M.size;have hD:Maps.has D (.int .i64 j)=false:=by rw[M.has];exact hj
  have hmap:=Off.map o2 m1 (λe=>by
   rcases e with e|e
   ·exact M.mr e
   ·exact(M.vb m e).2.2 rfl)
  refine⟨cell 2 _ (by decide) M.c2,Or.inl M.sm,M.mr,N2.1,N2.2.1,λg hg=>?_,?_,?_,zkG hmap,?_,λi=>?_,λx hx' z=>?_,λx hx'=>?_,λx hx' g hg=>?_,λx hx' y hy' hne=>?_⟩
  ·obtain rfl:b=g:=Option.some.inj hg;refine⟨Or.inr (Or.inr rfl),λe=>hrb e.symm,λe=>?_⟩;rcases hb with hb|hb
   ·exact(M.vb _ hb).2.2 e
   ·omega
  ·refine p2.trans ?_;have q:=(ztM (j,xs) L).map (·.1);refine List.Perm.trans ?_ q.symm;rw[List.map_cons];exact List.perm_append_comm.trans (M.perm.cons j)
  ·rw[N2.2.2];exact k2
  ·rw[Maps.size_put (M.map.tidy zeI),hD,ziE,hs];rfl
  ·rw[zta]
   by_cases e:i=j
   ·subst e;rw[Maps.has_put_same M.map.isMap (by trivial)]
    simp
   ·rw[Maps.has_put_other (zjE e),M.has,decide_eq_false (show ¬(j,xs).1=i from λq=>e q.symm),Bool.false_or]
  ·show _=DataW.held (if x.1=j then u else V x.1)
   rcases(zcd _ _ _).1 hx' with rfl|hx'
   ·rw[if_pos rfl,Maps.atKey_put_same M.map.isMap (by trivial)]
   ·have hne:=zcU hj hx';rw[if_neg hne,Maps.atKey_put_other (zjE hne),M.at_ x hx']
  ·show OwnI _ _ _ _ (if x.1=j then u else V x.1) _
   rcases(zcd _ _ _).1 hx' with rfl|hx'
   ·rw[if_pos rfl];exact o2.own (O1.own ho (λg hg=>(ub g hg).2.1)) (λg hg e=>by
     rcases e with e|e
     ·exact(ub g hg).1 e
     ·exact(ub g hg).2.2.1 e)
   ·rw[if_neg (zcU hj hx')];exact o2.own (O1.own (M.rows x hx') (λg hg=>(M.blk x hx' g hg).2.2.1)) (λg hg e=>by
     rcases e with e|e
     ·exact(M.blk x hx' g hg).2.1 e
     ·exact(M.blk x hx' g hg).2.2.2 e)
  ·have hg':(if x.1=j then u else V x.1).ownBlock=some g:=hg;rcases(zcd _ _ _).1 hx' with rfl|hx'
   ·rw[if_pos rfl]at hg';obtain⟨a1,a2,a3,a4⟩:=ub g hg';exact⟨Or.inr (Or.inl hg'),a1,a2,λe=>a4 (Option.some.inj e).symm⟩
   ·rw[if_neg (zcU hj hx')]at hg';obtain⟨a1,a2,a3,a4⟩:=M.blk x hx' g hg';exact⟨Or.inl a1,a2,a3,λe=>nb g (R.hi g a1) a4 (Option.some.inj e).symm⟩
  ·show Apart (if x.1=j then u else V x.1) (if y.1=j then u else V y.1)
   rcases(zcd _ _ _).1 hx' with rfl|hx'
   ·rcases(zcd _ _ _).1 hy' with rfl|hy'
    ·exact absurd rfl hne
    ·rw[if_pos rfl,if_neg (zcU hj hy')];exact λg hg e=>hu g hg (M.blk y hy' g e).1
   ·rcases(zcd _ _ _).1 hy' with rfl|hy'
    ·rw[if_pos rfl,if_neg (zcU hj hx')];exact λg hg e=>hu g e (M.blk x hx' g hg).1
    ·rw[if_neg (zcU hj hx'),if_neg (zcU hj hy')];exact M.apart x hx' y hy' hne
set_option maxHeartbeats 4000000 in
theorem zlg {w:World} {base r:Nat} {S:Nat->Prop} {room width:Nat} {L:List (Int×List Int)} {j:Int} {u:Value} {xs:List Int} (j1 : -9223372036854775808<=j) (j2:j<=9223372036854775807) (R:RingAt w base r S room width L) (hl:L.length<room) (hj:zbu L j=false) (hx:xs.length=width)
  (ho:OwnI .i64 2 w base u xs) (hu:∀ g,u.ownBlock=some g->¬S g) :
  Calls Tryz.prog 125 #[.pointer (some ⟨r,0,none⟩),.int .i64 j,u] w λe w'=>e=.returned (.tuple #[])/\∃ S',RingAt w' base r S' room width (zdd (j,xs) L)/\Off S w w'/\∀ k,S' k->S k\/u.ownBlock=some k\/w.heap.size<=k:=by
 obtain⟨m,v,h,D,V,M⟩:=R.mem;have c2:=M.c2;have HM:=za M.map;have HK:=za (zj5 j1 j2);have hn:Maps.size D<maxLen:=by
  have:=M.size;have:=R.ok.r2;unfold maxLen;omega
 have HN:=za hn;have hhl:h.length=L.length:=by rw[M.perm.length_eq,List.length_map]
 have NEXT:=za (fun(w1:World) (g1:w.grownBy w1 (some m))=>ztO (r:=r) (base:=base) (v:=v) (h:=h) (x:=j) w1 (cg g1 (λe=>M.mr (Option.some.inj e).symm) M.c3) (((Off.of_grown g1).frozen (o:=3) (λe=>M.mr e.symm) (R.hi r R.sr)).trans (R.fr 3))
  ((Off.of_grown g1).own M.nums (λg hg=>(M.vb g hg).2.2)) (λg hg=>(M.vb g hg).2.1) (by have:=g1.size;have:=R.lo r R.sr;have:=R.hi r R.sr;omega) (by have:=R.ok.r2;omega) M.heap)
 have HEND:=za (fun(w1 w2:World) (n b cap:Nat) (h':List Int)=>zvs (w1:=w1) (w2:=w2) (n:=n) (b:=b) (cap:=cap) (h':=h') j1 j2 R M hl hj hx ho hu);have HVB:=za M.vb;clear M R j1 j2 hl hj hx ho hu hn hhl
 go_enter Tryz.func125,Tryz.ntmps125
 go_wp2_with (first
  |(at_mapUpdate;refine wpList_mapUpdate_in _ rfl _ _ _ 190 rfl 2 28 zeI Tryz.underlying190 zdJ m (Maps.size D) D rfl HM.out HN.out _ _ _ rfl rfl HK.out (.held u) [] rfl ?_;intro w1 m1 t1;have G1:=za t1.grown;have HM1:=za m1;clear m1 t1)
  |(go_at_call 162;(with_reducible refine(NEXT.out _ G1.out).mono ?_);rintro e w2 ⟨rfl,b,cap,h',N2,q1,q2,q3,q4,q5,q6,q7⟩;have HF:=za (HEND.out _ _ _ _ _ _ HM1.out G1.out N2 q1 q2 q3 q4 q5 q6 q7);have HQ:=za q2;clear N2 q1 q2 q3 q4 q5 q6 q7))
 go_end0
 have s1:=G1.out.size;refine⟨rfl,_,HF.out.1,HF.out.2,λk hk=>?_⟩;rcases hk with hk|hk|hk
 ·exact Or.inl hk
 ·exact Or.inr (Or.inl hk)
 ·subst hk;rcases HQ.out with q|q
  ·exact Or.inl (HVB.out _ q).1
  ·exact Or.inr (Or.inr (Nat.le_trans s1 q))
theorem zhD {y:Int×List Int} {L:List (Int×List Int)} (hr:zfC (y :: L)) (j:Int):zbu L j=(zbu (y :: L) j && !decide (j=y.1)):=by
 obtain⟨h1,_⟩:=List.pairwise_cons.1 hr;rw[Bool.eq_iff_iff,Bool.and_eq_true,zbT,zbT,Bool.not_eq_true',decide_eq_false_iff_not]
 constructor
 ·rintro ⟨z,hz,rfl⟩;exact⟨⟨z,List.mem_cons_of_mem _ hz,rfl⟩,λe=>by have:=h1 z hz;omega⟩
 ·rintro ⟨⟨z,hz,rfl⟩,hne⟩;rcases List.mem_cons.1 hz with rfl|hz
  ·exact absurd rfl hne
  ·exact⟨z,hz,rfl⟩
theorem zt3 {w w1 w2:World} {base r m:Nat} {S:Nat->Prop} {room width:Nat} {L:List (Int×List Int)} {y:Int×List Int} {h h':List Int} {D:DataW Value} {V:Int->Value} {n b cap:Nat}
  (R:RingAt w base r S room width (y :: L)) (M:RMem w base r S (y :: L) m (.slice (some ⟨b,0,none⟩) (L.length+1) cap) h D V)
  (N1:NumAt w1 r base b L.length cap h') (p1:(h'++[y.1]).Perm h) (k1:zbM h' L.length) (r1:RecK w w1 r) (o1:Off (λk=>k=r\/k=b) w w1)
  (m2:w2.ownsMap Tryz.prog 2 zdJ m n (D.del (.int .i64 y.1))) (g2:w1.grownBy w2 (some m)) :
  RingAt w2 base r (λk=>S k/\(V y.1).ownBlock≠some k) room width L/\Off S w w2/\OwnI .i64 2 w2 base (V y.1) y.2/\(∀ g,(V y.1).ownBlock=some g->S g):=by
 have hr:=R.hi r R.sr;have s1:=o1.size;have s2:=g2.size;have O2:=Off.of_grown g2;have rm:r≠m:=λe=>M.mr e.symm
 have hy:y ∈ y :: L:=List.mem_cons_self ..;obtain⟨bS,br,bm⟩:=M.vb b rfl;obtain⟨hlt,hL⟩:=List.pairwise_cons.1 R.ok.rising;have yb:=M.blk y hy;have cell:∀ o z,o≠3->w.cell? ⟨r,o,none⟩=some z->w2.cell? ⟨r,o,none⟩=some z:=λo z hne hc=>O2.cell rm (r1.cl hne hc)
 have HO:Off S w w2:=(o1.mono (λk _ e=>by
  rcases e with e|e
  ·subst e;exact R.sr
  ·subst e;exact bS)).trans O2 (λk _ e=>by subst e;exact M.sm)
 have own:∀ x ∈ y :: L,OwnI .i64 2 w2 base (V x.1) x.2:=λx hx=>O2.own (o1.own (M.rows x hx) (λg hg e=>by
  rcases e with e|e
  ·exact(M.blk x hx g hg).2.1 e
  ·subst e;exact(M.blk x hx g hg).2.2.2 rfl)) (λg hg=>(M.blk x hx g hg).2.2.1)
 have hlen:=R.ok.len;rw[List.length_cons]at hlen;refine⟨⟨⟨hL,by omega,R.ok.r1,R.ok.r2,R.ok.wd,λx hx=>R.ok.rows x (List.mem_cons_of_mem _ hx)⟩,λk hk=>R.lo k hk.1,λk hk=>by have:=R.hi k hk.1;omega,⟨R.sr,λe=>(yb r e).2.1 rfl⟩,cell 0 _ (by decide) R.c0,cell 1 _ (by decide) R.c1,λo=>?_,m,.slice (some ⟨b,0,none⟩) L.length cap,h',D.del (.int .i64 y.1),V,?_⟩,HO,own y hy,λg hg=>(yb g hg).1⟩
 ·exact(O2.frozen rm (by omega)).trans (r1.fr (R.fr o))
 ·have hmap:w2.ownsMap Tryz.prog 2 zdJ m n (D.del (.int .i64 y.1)):=m2;have hD:Maps.has D (.int .i64 y.1)=true:=by rw[M.has];exact(zbT _ _).2 ⟨y,hy,rfl⟩
  have sd:=Maps.size_del (k:=.int .i64 y.1) (M.map.tidy zeI);rw[hD,M.size,List.length_cons,if_pos rfl]at sd;refine⟨cell 2 _ (by decide) M.c2,⟨M.sm,λe=>(yb m e).2.2.1 rfl⟩,M.mr,O2.cell rm N1.1,O2.own N1.2.1 (λg hg=>?_),λg hg=>?_,?_,by rw[N1.2.2];exact k1,zkG hmap,by omega,λi=>?_,λx hx z=>?_,λx hx=>own x (List.mem_cons_of_mem _ hx),λx hx g hg=>?_,λx hx z hz hne=>M.apart x (List.mem_cons_of_mem _ hx) z (List.mem_cons_of_mem _ hz) hne⟩
  ·obtain rfl:b=g:=Option.some.inj hg;exact bm
  ·obtain rfl:b=g:=Option.some.inj hg;exact⟨⟨bS,λe=>(yb _ e).2.2.2 rfl⟩,br,bm⟩
  ·have q:=p1.trans M.perm;rw[List.map_cons]at q;exact(List.perm_cons y.1).1 ((List.perm_append_comm (l₁:=[y.1]) (l₂:=h')).trans q)
  ·rw[zhD R.ok.rising]
   by_cases e:i=y.1
   ·subst e;rw[Maps.has_del_same]
    simp
   ·rw[Maps.has_del_other (zjE e),M.has,decide_eq_false e,Bool.not_false,Bool.and_true]
  ·have hne:x.1≠y.1:=by have:=hlt x hx;omega
   rw[Maps.atKey_del_other (zjE hne),M.at_ x (List.mem_cons_of_mem _ hx)]
  ·obtain⟨a1,a2,a3,a4⟩:=M.blk x (List.mem_cons_of_mem _ hx) g hg;have hne:x.1≠y.1:=by have:=hlt x hx;omega
   exact⟨⟨a1,M.apart x (List.mem_cons_of_mem _ hx) y hy hne g hg⟩,a2,a3,a4⟩
set_option maxHeartbeats 4000000 in
theorem zsX {w:World} {base r:Nat} {S:Nat->Prop} {room width:Nat} {L:List (Int×List Int)} {y:Int×List Int} (R:RingAt w base r S room width (y :: L)) :
  Calls Tryz.prog 126 #[.pointer (some ⟨r,0,none⟩)] w λe w'=>∃ u S',e=.returned u/\RingAt w' base r S' room width L/\OwnI .i64 2 w' base u y.2/\(∀ g,u.ownBlock=some g->S g/\¬S' g)/\Off S w w'/\∀ k,S' k->S k:=by
 obtain⟨m,v,h,D,V,M⟩:=R.mem;have hl:h.length=L.length+1:=by rw[M.perm.length_eq,List.length_map,List.length_cons]
 obtain⟨b,cap,rfl,hbb,hbl,_,_,_⟩:=zax M.nums hl (by omega);have hf:=zjC M.perm M.heap R.ok.rising (by simp);have hf2:h.getD 0 0=y.1:=hf;have hlen:=R.ok.len;rw[List.length_cons]at hlen;have hr2:=R.ok.r2;have br:=(M.vb b rfl).2.1;have bm:=(M.vb b rfl).2.2;have HP:=M.heap;rw[hl]at HP;have CP:=zu7 (r:=r) (base:=base) (n:=L.length) (λe=>br e.symm) (by omega) w ⟨M.c3,M.nums,hl⟩ (R.fr 3) HP;rw[hf2]at CP;obtain⟨k1,k2⟩:=(R.ok.rows y (List.mem_cons_self ..)).2;have HK:=za (zj5 k1 k2);have LOOK:=za (fun(w1:World) (r1:RecK w w1 r) (o1:Off (λk=>k=r\/k=b) w w1)=>(⟨r1.cl (by decide) M.c2,Off.map o1 M.map (λe=>by
  rcases e with e|e
  ·exact M.mr e
  ·exact bm e.symm),by
   obtain⟨u,ps,hrun,hu⟩:=(Off.map o1 M.map (λe=>by
    rcases e with e|e
    ·exact M.mr e
    ·exact bm e.symm)).lookup zeI Tryz.underlying190 (znn w1) (zd:=.held (.slice none 0 0)) (zp:=[]) rfl (zj5 k1 k2)
   rw[M.at_ y (List.mem_cons_self ..)]at hu;rw[hrun,zmq hu]⟩:w1.cell? ⟨r,2,none⟩=some (.map (some m))/\w1.ownsMap Tryz.prog 2 zdJ m (Maps.size D) D/\(Instr.lookup 190 (.map (some m)) (.int .i64 y.1) false).run Tryz.prog w1=.ok (V y.1) w1))
 have HEND:=za (fun(w1 w2:World) (n:Nat) (h':List Int)=>zt3 (w1:=w1) (w2:=w2) (n:=n) (h':=h') R M);have hta:=zl1 y.1;clear M R hl hbb hbl hf hf2 HP hlen hr2 br bm k1 k2
 go_enter Tryz.func126,Tryz.ntmps126
 go_wp2_with (first
  |(go_at_call 163;(with_reducible refine CP.mono ?_);rintro e w1 ⟨rfl,h',N1,p1,k1,r1,o1⟩;obtain⟨c2,mo,lk⟩:=LOOK.out w1 r1 o1;have HM:=za mo;have HE:=za (fun(w2:World) (n:Nat)=>HEND.out w1 w2 n h' N1 p1 k1 r1 o1);clear N1 p1 k1 r1 o1 mo)
  |(at_delete;refine wpList_delete_own _ rfl _ _ 190 2 rfl 28 zeI Tryz.underlying190 zdJ m (Maps.size D) D rfl HM.out _ _ rfl HK.out ?_;intro w2 m2 t2;have HF:=za (HE.out w2 _ m2 t2.grown);clear m2 t2))
 go_ret;obtain⟨f1,f2,f3,f4⟩:=HF.out;exact⟨V y.1,_,rfl,f1,f3,λg hg=>⟨f4 g hg,λe=>e.2 hg⟩,f2,λk hk=>hk.1⟩
theorem zcg {P:Program} {f:FuncId} {args:Array Value} {u:Value} {w:World} {n:Nat} (h:Calls P f args (w.drewN n) λe w'=>e=.returned u/\w.drewN n=w') :
  Calls P f args (w.drewN n) λe w''=>e=.returned u/\∃ m,w''=w.drewN m:=h.mono λ_ _ q=>⟨q.1,n,q.2.symm⟩
theorem OwnI.fresh {k:IntKind} {T:TypeId} {w:World} {base:Nat} {v:Value} {xs:List Int} (h:OwnI k T w base v xs):∀ g,v.ownBlock=some g->base<=g:=zdw h
def PutEnd (w:World) (base r:Nat) (S:Nat->Prop) (room width:Nat) (L:List (Int×List Int)) (w':World):Prop:=∃ S',RingAt w' base r S' room width L/\Off S w w'/\∀ k,S' k->S k\/w.heap.size<=k
theorem PutEnd.same {w:World} {base r:Nat} {S:Nat->Prop} {room width:Nat} {L:List (Int×List Int)} (R:RingAt w base r S room width L):PutEnd w base r S room width L w:=⟨S,R,Off.refl _ _,λ_ h=>Or.inl h⟩
theorem PutEnd.drew {w:World} {base r:Nat} {S:Nat->Prop} {room width:Nat} {L:List (Int×List Int)} (R:RingAt w base r S room width L) (n:Nat):PutEnd w base r S room width L (w.drewN n):=⟨S,R.drewN n,(Off.refl _ w).drewN n,λ_ h=>Or.inl h⟩
set_option maxHeartbeats 4000000 in
set_option maxRecDepth 100000 in
theorem zuG {w:World} {base r:Nat} {S:Nat->Prop} {room width:Nat} {L:List (Int×List Int)} {j:Int} {xs:List Int} {n cap:Nat} {ad:Option Addr} (j1 : -9223372036854775808<=j) (j2:j<=9223372036854775807) (R:RingAt w base r S room width L) (hn:xs.length=n) (hb:n<=9223372036854775807) (hr:RowAt .i64 w ad xs) (hz:ad=none->cap=0) (hS:∀ a,ad=some a->¬S a.block) :
  Calls Tryz.prog 89 #[.pointer (some ⟨r,0,none⟩),.int .i64 j,.slice ad n cap] w λe w'=>e=.returned (.bool (zi8 room width L j n))/\PutEnd w base r S room width (if zi8 room width L j n=true then zfS room L (j,xs) else L) w':=by
 have c0:=R.c0;have c1:=R.c1;have CH:=zu8 j1 j2 R;have hw:=R.ok.wd;have hrm:=R.ok.r2;have hlen:=R.ok.len;have HR:=za R;have HRO:=za hr;have HNL:=za hn;have hz0:ad=none->n=0/\cap=0:=λe=>by
  refine⟨?_,hz e⟩;rcases hr with h|⟨b,off,h,_⟩
  ·rw[h]at hn;exact hn.symm
  ·rw[e]at h;exact absurd h (by simp)
 have HZ:=za hz0;have HS:=za hS;have HJ:=za (And.intro j1 j2);obtain⟨B,hB⟩:∃ B,zi8 room width L j n=B:=⟨_,rfl⟩;rw[hB];have HB:=za hB;unfold zi8 at hB;clear R hr hz hz0 hS j1 j2 hn
 by_cases hnw:n=width
 ·subst hnw;have qn:((n:Int) != (n:Int))=false:=by simp
  cases hj:zbu L j
  ·rw[hj]at CH
   by_cases hroom:L.length<room
   ·obtain rfl:B=true:=by
     rw[←hB,hj,decide_eq_true rfl,decide_eq_false (show ¬L.length=room by omega)];rfl
    have ql:decide ((L.length:Int)<(room:Int))=true:=decide_eq_true (by omega);have HJN:=za hj;have HL:=za hroom;have CL:=λq=>zlQ (HR.out.drewN q)
    have CC:=λq=>zpq xs n HNL.out ad cap (by omega) HZ.out (w.drewN q) (HRO.out.below (bdN (Below.refl _ _) q))
    have e0:(if(true:Bool)=true then zfS room L (j,xs) else L)=zdd (j,xs) L:=by
     rw[if_pos rfl];unfold zfS;rw[if_neg (by omega)]
    rw[e0];clear hj hB e0
    go_enter Tryz.func89,Tryz.ntmps89
    go_wp2_with (go_at_call 124;(with_reducible refine CH.mono ?_);rintro e w1 ⟨rfl,rfl⟩)
    go_quiet ((go_at_call 95;with_reducible exact zcg (CL _)))
    go_wp2_with (first
     |(go_at_call 86;(with_reducible refine(CC _).mono ?_);rintro e w2 ⟨u,rfl,o2,b2⟩;have HO2:=za o2;have HB2:=za b2;clear o2 b2)
     |(go_at_call 125;(with_reducible refine(zlg HJ.out.1 HJ.out.2 ((HR.out.drewN nq).below HB2.out) HL.out HJN.out HNL.out (HO2.out.mono (by have:=HR.out.lo r HR.out.sr;have:=HR.out.hi r HR.out.sr;simp;omega)) (λg hg e=>by have:=HO2.out.fresh g hg;have:=HR.out.hi g e;simp at *;omega)).mono ?_);rintro e w3 ⟨rfl,S',R3,o3,s3⟩;have HF:=za (And.intro R3 (And.intro o3 s3));clear R3 o3 s3))
    go_ret;obtain⟨R3,o3,s3⟩:=HF.out;have o2:Off S w w2:=((Off.refl S w).drewN nq).trans (Off.of_below (S:=S) HB2.out) (λ_ _ e=>e);refine⟨rfl,S',R3,o2.trans o3 (λ_ _ e=>e),λk hk=>?_⟩;have s2:=HB2.out.size;rcases s3 k hk with q|q|q
    ·exact Or.inl q
    ·exact Or.inr (HO2.out.fresh k q)
    ·exact Or.inr (Nat.le_trans s2 q)
   ·have hfull:L.length=room:=by omega
    have ql:decide ((L.length:Int)<(room:Int))=false:=decide_eq_false (by omega);have hr1:=HR.out.ok.r1
    cases L with
    |nil=>simp at hfull;omega
    |cons y L =>
     obtain⟨m,v,h,D,V,M⟩:=HR.out.mem;have hl:h.length=L.length+1:=by rw[M.perm.length_eq,List.length_map,List.length_cons]
     obtain⟨b,cp,rfl,_,_,hrow,_⟩:=zax M.nums hl (by omega);have hf:h.getD 0 0=y.1:=zjC M.perm M.heap HR.out.ok.rising (by simp);have cf:=hrow.at (j:=0) (by omega);rw[hf,Nat.zero_add]at cf;have c3:=M.c3;have CL:=λq=>zlQ (HR.out.drewN q)
     have hy:=HR.out.ok.rows y (List.mem_cons_self ..);clear M hf hrow hl;have hfl:L.length+1=room:=by simpa using hfull
     have qfl:decide ((L.length:Int)+1<(room:Int))=false:=decide_eq_false (by omega)
     by_cases hlow:j<y.1
     ·obtain rfl:B=false:=by
       rw[←hB,hj,decide_eq_true rfl,decide_eq_true hfull]
       show(true && !false && !(true && decide (j<y.1)))=false
       rw[decide_eq_true hlow];rfl
      clear hj hB hfull hfl
      go_enter Tryz.func89,Tryz.ntmps89
      go_wp2_with (go_at_call 124;(with_reducible refine CH.mono ?_);rintro e w1 ⟨rfl,rfl⟩)
      go_quiet ((go_at_call 95;with_reducible exact zcg (CL _)))
      go_wp2;go_ret;exact⟨rfl,PutEnd.drew HR.out nq⟩
     ·obtain rfl:B=true:=by
       rw[←hB,hj,decide_eq_true rfl,decide_eq_true hfull]
       show(true && !false && !(true && decide (j<y.1)))=true
       rw[decide_eq_false hlow];rfl
      have e0:(if(true:Bool)=true then zfS room (y :: L) (j,xs) else(y :: L))=zdd (j,xs) L:=by
       rw[if_pos rfl];unfold zfS;rw[if_pos hfull];rfl
      rw[e0];have HT:=za (show zbu L j=false by rw[zhD HR.out.ok.rising,hj];rfl);have HLL:=za (show L.length<room by rw[List.length_cons]at hfull;omega);have CD:=λq=>zsX (HR.out.drewN q)
      have HY:=za hy.1;have hju:=Tryz.underlying28;clear hj hB e0 hfull hfl
      go_enter Tryz.func89,Tryz.ntmps89
      go_wp2_with (go_at_call 124;(with_reducible refine CH.mono ?_);rintro e w1 ⟨rfl,rfl⟩)
      go_quiet ((go_at_call 95;with_reducible exact zcg (CL _)))
      go_wp2_with (first
       |(go_at_call 126;(with_reducible refine(CD _).mono ?_);rintro e w2 ⟨u,S2,rfl,R2,o2,u2,f2,s2⟩;have HR2:=za R2;have HF2:=za (And.intro u2 (And.intro f2 s2));obtain⟨w3,crun,o3,g3⟩:=zmn 28 28 3 2 hju zvS .i64 2 base u n y.2 xs o2 HY.out ad cap HNL.out (Off.row (((Off.refl S w).drewN nq).trans f2 (λ_ _ e=>e)) HRO.out HS.out);have HO3:=za o3;have HG3:=za g3;clear R2 o2 u2 f2 s2 o3 g3)
       |(go_at_call 125;(with_reducible refine(zlg HJ.out.1 HJ.out.2 (HR2.out.off (Off.of_grownO HG3.out) (λk hk e=>absurd hk (HF2.out.1 k e.symm).2)) HLL.out HT.out HNL.out HO3.out (λg hg=>(HF2.out.1 g hg).2)).mono ?_);rintro e w4 ⟨rfl,S',R4,o4,s4⟩;have HF:=za (And.intro R4 (And.intro o4 s4));clear R4 o4 s4))
      go_ret;obtain⟨R4,o4,s4⟩:=HF.out;obtain⟨u2,f2,s2⟩:=HF2.out;have z2:w.heap.size<=w2.heap.size:=f2.size;have z3:=HG3.out.size;refine⟨rfl,S',R4,((((Off.refl S w).drewN nq).trans f2 (λ_ _ e=>e)).trans (Off.of_grownO HG3.out) (λk _ e=>(u2 k e.symm).1)).trans o4 (λk _ e=>s2 k e),λk hk=>?_⟩;rcases s4 k hk with q|q|q
      ·exact Or.inl (s2 k q)
      ·exact Or.inl (u2 k q).1
      ·exact Or.inr (by omega)
  ·rw[hj]at CH;obtain rfl:B=false:=by rw[←hB,hj];simp
   clear hj hB
   go_enter Tryz.func89,Tryz.ntmps89
   go_wp2_with (go_at_call 124;(with_reducible refine CH.mono ?_);rintro e w1 ⟨rfl,rfl⟩)
   go_ret;exact⟨rfl,PutEnd.same HR.out⟩
 ·obtain rfl:B=false:=by rw[←hB,decide_eq_false hnw];rfl
  have qn:((n:Int) != (width:Int))=true:=by simp;omega
  clear hB
  go_enter Tryz.func89,Tryz.ntmps89
  go_wp2;go_ret;exact⟨rfl,PutEnd.same HR.out⟩
end Go.Proofs.YtlodkoimdoeopaaGreatDoor
