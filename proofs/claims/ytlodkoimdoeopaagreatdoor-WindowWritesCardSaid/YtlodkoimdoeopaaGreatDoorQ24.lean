/- Parts, joined. -/
import Derived.Test.YtlodkoimdoeopaaGreatDoorQ23
import Derived.Test.YtlodkoimdoeopaaGreatDoorQ12
import Derived.Test.YtlodkoimdoeopaaGreatDoorQ21
import Derived.Test.YtlodkoimdoeopaaGreatDoorQ18
import Derived.Test.YtlodkoimdoeopaaGreatDoorQ19
import Derived.Test.YtlodkoimdoeopaaGreatDoorQ20
import Derived.Test.YtlodkoimdoeopaaGreatDoorQ15
import Derived.Test.YtlodkoimdoeopaaGreatDoorQ03
import Derived.Test.YtlodkoimdoeopaaGreatDoorQ01
import Derived.Deep.RegionHeld3
import Derived.IntWalk
namespace Go.Proofs.YtlodkoimdoeopaaGreatDoor
open Go.RowKit
theorem zrw (o:Opr) (ax:Option Addr) (cx:Nat) (ay:Option Addr) (cy:Nat) (a b:Int) (w:World) (hA:OpAt w o ax cx ay cy) (hF:OpFits o) :
  Calls Tryz.prog 118 #[opV o ax cx ay cy,.int .i64 a,.int .i64 b] w λe w'=>zb8 w.heap.size e w' (zC o a b) (zj o a b)/\Below w.heap.size w w':=by
 cases h:okO o a b with
 |false =>
  refine(zsV o ax cx ay cy a b w h).mono ?_;rintro e w1 ⟨rfl,bb⟩;have hc:zC o a b=6:=by unfold zC;rw[if_pos h]
  rw[hc];exact⟨.inl ⟨by decide,rfl⟩,bb⟩
 |true =>
  obtain⟨⟨k0,k1⟩,_⟩:=(zbD o a b).1 h;rcases(show o.kd=0\/o.kd=1\/o.kd=2\/o.kd=3 by omega)with k|k|k|k
  ·exact zpS o ax cx ay cy a b w h k
  ·exact ztH o ax cx ay cy a b w h k
  ·exact zr2 o ax cx ay cy a b w h k hA hF
  ·exact znQ o ax cx ay cy a b w h k
theorem zux:(Tryz.prog.info? 39).map (λi=>(i.zero,i.size,i.bytes))=some (some (.agg #[.slice none 0 0,.slice none 0 0,.int .i64 0,.int .i64 0,.int .i64 0]),5,72):=by kernel_rfl
def zf0 (x y:Value) (S:Stg):List Value:=[x,y,.int .i64 S.fx,.int .i64 S.fy,.int .i64 S.sb]
def StgSo (B:Nat) (w:World) (F:Nat->Stg) (k:Nat) (v:Value):Prop :=
 ∃ us,us.length=k/\OwnRec 39 5 w B v us/\∀ j,j<k->∃ x y,us.getD j []=zf0 x y (F j)/\OwnLs 111 w B x (F j).lx/\OwnLs 111 w B y (F j).ly
theorem OwnLs.kept {T U:TypeId} {w w':World} {base base' n k:Nat} {v y:Value} {xs:List Value} {L:List (Int×List Int)} (hTU:T≠U) (hIU:2≠U) (h:OwnLs T w base y L) (hv:w.ownsRow base' U k v n xs) (hg:w.grownBy w' v.ownBlock):OwnLs T w' base y L:=by
 obtain⟨us,h1,h2,h3⟩:=h;refine⟨us,h1,World.ownsRow.kept h2 hg ?_,λj hj=>(h3 j hj).kept hg (zgk hIU (h3 j hj) hv)⟩;have ap:=zgk hTU h2 hv;rcases e:y.ownBlock with _|g
 ·exact Or.inl rfl
 ·exact Or.inr (λq=>ap g e q.symm)
theorem OwnLs.alloc {T:TypeId} {w:World} {base:Nat} {v:Value} {L:List (Int×List Int)} (h:OwnLs T w base v L) (o:Obj):OwnLs T (w.alloc o) base v L:=h.below (zg w o)
theorem StgSo.below {B:Nat} {w w':World} {F:Nat->Stg} {k:Nat} {v:Value} (h:StgSo B w F k v) (hb:Below w.heap.size w w'):StgSo B w' F k v:=by
 obtain⟨us,hu,ho,hc⟩:=h;refine⟨us,hu,ho.below hb,λj hj=>?_⟩;obtain⟨x,y,e,a,b⟩:=hc j hj;exact⟨x,y,e,a.below hb,b.below hb⟩
theorem StgSo.more {B:Nat} {wc w2:World} {F:Nat->Stg} {k:Nat} {v v' x y:Value} {us:List (List Value)} (hu:us.length=k) (ho:OwnRec 39 5 wc B v us) (hc:∀ j,j<k->∃ x y,us.getD j []=zf0 x y (F j)/\OwnLs 111 wc B x (F j).lx/\OwnLs 111 wc B y (F j).ly)
  (hx:OwnLs 111 wc B x (F k).lx) (hy:OwnLs 111 wc B y (F k).ly) (own:w2.ownsRow B 39 5 v' (k+1) (us.flatten++zf0 x y (F k))) (grow:wc.grownBy w2 v.ownBlock):StgSo B w2 F (k+1) v':=by
 have K:∀ {z:Value} {L:List (Int×List Int)},OwnLs 111 wc B z L->OwnLs 111 w2 B z L:=λh=>h.kept (by decide) (by decide) ho.1 grow
 refine⟨us++[zf0 x y (F k)],by rw[List.length_append,hu];rfl,OwnRec.more ho.2 rfl (by rw[hu]) own,λj hj=>?_⟩
 by_cases e:j=k
 ·subst e;refine⟨x,y,?_,K hx,K hy⟩;rw[←hu,List.getD_eq_getElem?_getD,List.getElem?_append_right (Nat.le_refl _),Nat.sub_self];rfl
 ·obtain⟨x',y',h1,h2,h3⟩:=hc j (by omega);refine⟨x',y',?_,K h2,K h3⟩;rw[List.getD_eq_getElem?_getD,List.getElem?_append_left (by omega),←List.getD_eq_getElem?_getD];exact h1
def StgsRef (w:World) (ad:Option Addr) (n:Nat) (F:Nat->Stg):Prop :=
 n=0\/∃ b,ad=some ⟨b,0,none⟩/\∀ j,j<n->∃ gx px gy py,w.cell? ⟨b,j*5,none⟩=some (.slice (some ⟨gx,0,none⟩) (F j).lx.length px)/\w.cell? ⟨b,j*5+1,none⟩=some (.slice (some ⟨gy,0,none⟩) (F j).ly.length py)/\w.cell? ⟨b,j*5+2,none⟩=some (.int .i64 (F j).fx)/\w.cell? ⟨b,j*5+3,none⟩=some (.int .i64 (F j).fy)/\w.cell? ⟨b,j*5+4,none⟩=some (.int .i64 (F j).sb)/\LinesAt w gx (F j).lx/\LinesAt w gy (F j).ly
theorem StgSo.read {B:Nat} {w:World} {F:Nat->Stg} {k:Nat} {v:Value} (h:StgSo B w F k v) (hne:∀ j,j<k->(F j).lx≠[]/\(F j).ly≠[]):∃ ad cap,v=.slice ad k cap/\StgsRef w ad k F:=by
 obtain⟨us,hu,ho,hc⟩:=h
 by_cases e:us=[]
 ·subst e;obtain⟨ad,cap,rfl,_,_⟩:=ho.form rfl;have hk0:k=0:=by simpa using hu.symm
  subst hk0;exact⟨ad,cap,rfl,.inl rfl⟩
 ·obtain⟨g,cap,rfl,_,_,_,hr⟩:=ho.read e;rw[hu];refine⟨_,cap,rfl,.inr ⟨g,rfl,λj hj=>?_⟩⟩;obtain⟨x,y,hcell,ox,oy⟩:=hc j (by omega);obtain⟨n1,n2⟩:=hne j hj;obtain⟨gx,px,rfl,_,rx⟩:=ox.read n1;obtain⟨gy,py,rfl,_,ry⟩:=oy.read n2;have R:=hr j (by omega);unfold zlO at R;rw[hcell]at R;exact⟨gx,px,gy,py,R 0 (by decide),R 1 (by decide),R 2 (by decide),R 3 (by decide),R 4 (by decide),rx,ry⟩
theorem zxB {o:Opr} {a b:Int} (h:zC o a b=0):(zj o a b).lx≠[]/\(zj o a b).ly≠[]:=by
 have ho:okO o a b=true:=by
  cases e:okO o a b with
  |true=>rfl
  |false =>
   unfold zC at h;rw[if_pos e]at h
   cases h
 obtain⟨_,_,⟨a0,a1⟩,⟨b0,b1⟩,hr⟩:=(zbD o a b).1 ho
 by_cases k:o.kd=3
 ·obtain⟨⟨w0,_⟩,⟨t0,_⟩,_⟩:=hr k;have e1:(zj o a b).lx=zt o.fl a o.wd o.wd.toNat:=if_pos k;have e2:(zj o a b).ly=zt o.fl b o.ht o.ht.toNat:=if_pos k;have l1:=zaq o.fl a o.wd o.wd.toNat;have l2:=zaq o.fl b o.ht o.ht.toNat;rw[e1,e2];exact⟨λe=>by rw[e]at l1;simp at l1;omega,λe=>by rw[e]at l2;simp at l2;omega⟩
 ·have e1:(zj o a b).lx=zQ (wX o) a.toNat:=if_neg k;have e2:(zj o a b).ly=zQ (wY o) b.toNat:=if_neg k;have l1:=zar (wX o) a.toNat;have l2:=zar (wY o) b.toNat;rw[e1,e2];exact⟨λe=>by rw[e]at l1;simp at l1;omega,λe=>by rw[e]at l2;simp at l2;omega⟩
theorem zki {L:List Opr} {a b c:Int} {k:Nat} (h:zC (zh L k) (zm L a b k).1 (zm L a b k).2≠0):zaO L a b c k=zC (zh L k) (zm L a b k).1 (zm L a b k).2:=if_pos h
theorem zjc {L:List Opr} {a b c:Int} {k:Nat} (h:zC (zh L k) (zm L a b k).1 (zm L a b k).2=0):zaO L a b c k=if zaE (toW (zh L k) (zm L a b k).1) (toH (zh L k) (zm L a b k).2) c=true then 0 else 5:=if_neg (λq=>q h)
def zhE (B:Nat) (e:Ending) (w':World) (k:Int) (n:Nat) (F:Nat->Stg):Prop :=
 (k≠0/\e=.returned (.tuple #[.slice none 0 0,.int .i64 k]))\/(k=0/\∃ v,e=.returned (.tuple #[v,.int .i64 0])/\StgSo B w' F n v)
set_option maxHeartbeats 4000000 in
set_option maxRecDepth 100000 in
theorem zvL (L:List Opr) (n:Nat) (hn:L.length=n) (h1:n<=maxLen) (ad:Option Addr) (cap:Nat) (a b c:Int) (w:World) (hr:OpsAt w ad L) (hF:zfV L) :
  Calls Tryz.prog 77 #[.slice ad n cap,.int .i64 a,.int .i64 b,.int .i64 c] w λe w'=>zhE w.heap.size e w' (zaD L a b c) n (zD L a b)/\Below w.heap.size w w':=by
 have hm:n<=9223372036854775807:=h1
 by_cases h16:16<n
 ·have e:zaD L a b c=6:=if_pos (by rw[hn];exact h16);rw[e];have HA:=za (fun(w':World)=>show zhE w.heap.size (.returned (.tuple #[.slice none 0 0,.int .i64 6])) w' 6 n (zD L a b) from .inl ⟨by decide,rfl⟩);clear hr hF hn h1 e
  go_enter Tryz.func77,Tryz.ntmps77
  go_wp2;exact bodyPost_ret (v:=.tuple #[.slice none 0 0,.int .i64 6]) (by simp[results,Tryz.results77,go_sem]) rfl ⟨HA.out _,Below.refl _ _⟩
 have CFT:=λw=>zk4 a b c w
 by_cases hft:zaE a b c=true
 case neg =>
  have e:zaD L a b c=5:=(if_neg (by rw[hn];exact h16)).trans (if_pos (by simpa using hft));rw[e];have HA:=za (fun(w':World)=>show zhE w.heap.size (.returned (.tuple #[.slice none 0 0,.int .i64 5])) w' 5 n (zD L a b) from .inl ⟨by decide,rfl⟩);rw[show zaE a b c=false by simpa using hft]at CFT;clear hr hF hn h1 e hft
  go_enter Tryz.func77,Tryz.ntmps77
  go_wp2_with (go_at_call 117;(with_reducible refine(CFT _).mono ?_);rintro e w1 ⟨rfl,rfl⟩)
  exact bodyPost_ret (v:=.tuple #[.slice none 0 0,.int .i64 5]) (by simp[results,Tryz.results77,go_sem]) rfl ⟨HA.out _,Below.refl _ _⟩
 have e0:zaD L a b c=zah L a b c n:=by
  unfold zaD;rw[if_neg (by rw[hn];exact h16),if_neg (by rw[hft];decide),hn]
 rw[e0];rw[hft]at CFT;have HBAD:=za (fun(k:Nat) (w':World) (hk:k<n) (hf:zah L a b c k=0) (hs:zaO L a b c k≠0)=>show zhE w.heap.size (.returned (.tuple #[.slice none 0 0,.int .i64 (zaO L a b c k)])) w' (zah L a b c n) n (zD L a b) by
  rw[zgs hf hs hk];exact .inl ⟨hs,rfl⟩)
 have HR:=za hr;have HN:=za hn;have HF:=za hF;obtain⟨i0,hi,hz0,hz1,hz2⟩:=info_parts zux;clear hr hF hn h1 e0 hft
 go_enter Tryz.func77,Tryz.ntmps77
 go_wp2_with (go_at_call 117;(with_reducible refine(CFT _).mono ?_);rintro e w1 ⟨rfl,rfl⟩)
 go_loopw [1,2,10,25] (λp q u i wr=>∃ (k:Nat) (v:Value),k<=n/\v=u/\i=.int .i64 (k:Int)/\p=.int .i64 (zm L a b k).1/\q=.int .i64 (zm L a b k).2/\Hid (zah L a b c k=0)/\StgSo w.heap.size wr (zD L a b) k v/\Below w.heap.size w wr) (λ_ _ _ i _=>n-(intOf i).toNat)
 case atStart=>exact⟨0,_,by omega,rfl,rfl,rfl,rfl,za rfl,⟨[],rfl,OwnRec.nil _ _ _ _,λj hj=>absurd hj (Nat.not_lt_zero _)⟩,Below.refl _ _⟩
 case round =>
  clear CFT;obtain⟨k,v,hk,rfl,rfl,rfl,rfl,hf,hs,hb⟩:=hrel;have HB:=za hb
  by_cases hlt:k<n
  ·obtain⟨bl,off,rfl,hop⟩:=HR.out.get (show k<L.length by rw[HN.out];exact hlt);obtain⟨g0,g1,g2,g3,g6,g7,g8,ax,cx,ay,cy,g4,g5,ga⟩:=hop.below hb;have HBADk:=za (λw' hs=>HBAD.out k w' hlt hf.out hs);have hfit:=HF.out k (by rw[HN.out];exact hlt);have CD:=λw' (b':Below wr.heap.size wr w')=>zrw (zh L k) ax cx ay cy (zm L a b k).1 (zm L a b k).2 w' (ga.below b') hfit
   have CZ:=λw'=>zoK (zh L k) ax cx ay cy (zm L a b k).1 (zm L a b k).2 w'
   have CF:=λw'=>zk4 (toW (zh L k) (zm L a b k).1) (toH (zh L k) (zm L a b k).2) c w'
   have P0:=za (P9.new wr 183 (zh L k).kd (zh L k).bd (zh L k).sg (zh L k).rd (.slice ax (zh L k).xs.length cx) (.slice ay (zh L k).ys.length cy) (zh L k).fl (zh L k).wd (zh L k).ht);have so:=zki (L:=L) (a:=a) (b:=b) (c:=c) (k:=k);have sf:=zjc (L:=L) (a:=a) (b:=b) (c:=c) (k:=k);have sn:=zxB (o:=zh L k) (a:=(zm L a b k).1) (b:=(zm L a b k).2);have HS:=za hs;unfold opV at CD CZ;clear ga hfit hs hb hop
   by_cases hz:zC (zh L k) (zm L a b k).1 (zm L a b k).2=0
   case neg =>
    have CD2:∀ w',Below wr.heap.size wr w'->Calls Tryz.prog 118 #[.agg #[.int .i64 (zh L k).kd,.int .i64 (zh L k).bd,.int .i64 (zh L k).sg,.int .i64 (zh L k).rd,.slice ax (zh L k).xs.length cx,.slice ay (zh L k).ys.length cy,.int .i64 (zh L k).fl,.int .i64 (zh L k).wd,.int .i64 (zh L k).ht],.int .i64 (zm L a b k).1,.int .i64 (zm L a b k).2] w' λe w''=>e=.returned (.tuple #[.agg #[.slice none 0 0,.slice none 0 0,.int .i64 0,.int .i64 0,.int .i64 0],.int .i64 (zC (zh L k) (zm L a b k).1 (zm L a b k).2)])/\Below w'.heap.size w' w'':=λw' b' =>
     (CD w' b').mono λe w'' ⟨hA,hB⟩=>by
      rcases hA with⟨_,he⟩|⟨h0,_⟩
      ·exact⟨he,hB⟩
      ·exact absurd h0 hz
    have HE:=za (λw'=>by have:=HBADk.out w' (by rw[so hz];exact hz);rw[so hz]at this;exact this);have qz:(zC (zh L k) (zm L a b k).1 (zm L a b k).2 != 0)=true:=bne_iff_ne.2 hz;clear CD CZ CF so sf sn hz HBADk HBAD;generalize zC (zh L k) (zm L a b k).1 (zm L a b k).2=oc at *;generalize (zm L a b k).1=p at *;generalize (zm L a b k).2=q at *;generalize (zh L k).kd=kd at *;generalize (zh L k).bd=bd at *;generalize (zh L k).sg=sg at *;generalize (zh L k).rd=rd at *;generalize (zh L k).xs.length=nx at *;generalize (zh L k).ys.length=ny at *;generalize (zh L k).fl=fl at *;generalize (zh L k).wd=wd at *;generalize (zh L k).ht=ht at *
    go_wp2_with (go_at_call 118;(with_reducible refine(CD2 _ (zg _ _)).mono ?_);rintro e w3 ⟨rfl,b3⟩)
    exact bodyPost_ret (v:=.tuple #[.slice none 0 0,.int .i64 oc]) (by simp[results,Tryz.results77,go_sem]) rfl ⟨HE.out _,ba (bt (ba HB.out _) b3) _⟩
   have CD2:∀ w',Below wr.heap.size wr w'->Calls Tryz.prog 118 #[.agg #[.int .i64 (zh L k).kd,.int .i64 (zh L k).bd,.int .i64 (zh L k).sg,.int .i64 (zh L k).rd,.slice ax (zh L k).xs.length cx,.slice ay (zh L k).ys.length cy,.int .i64 (zh L k).fl,.int .i64 (zh L k).wd,.int .i64 (zh L k).ht],.int .i64 (zm L a b k).1,.int .i64 (zm L a b k).2] w' λe w''=>(∃ gx px gy py n1 n2,e=.returned (.tuple #[.agg #[.slice (some ⟨gx,0,none⟩) n1 px,.slice (some ⟨gy,0,none⟩) n2 py,.int .i64 (zD L a b k).fx,.int .i64 (zD L a b k).fy,.int .i64 (zD L a b k).sb],.int .i64 0])/\OwnLs 111 w'' w'.heap.size (.slice (some ⟨gx,0,none⟩) n1 px) (zD L a b k).lx/\OwnLs 111 w'' w'.heap.size (.slice (some ⟨gy,0,none⟩) n2 py) (zD L a b k).ly)/\Below w'.heap.size w' w'':=λw' b' =>
    (CD w' b').mono λe w'' ⟨hA,hB⟩=>by
     rcases hA with⟨h0,_⟩|⟨_,x,y,he,ox,oy⟩
     ·exact absurd hz h0
     ·obtain⟨gx,px,rfl,_,_⟩:=ox.read (sn hz).1;obtain⟨gy,py,rfl,_,_⟩:=oy.read (sn hz).2;exact⟨⟨gx,px,gy,py,_,_,he,ox,oy⟩,hB⟩
   have hstep:=sf hz;have HM:=za (fun(wc w2:World) (u u' x y:Value) (us:List (List Value)) (hu:us.length=k) (ho:OwnRec 39 5 wc w.heap.size u us) (hc:∀ j,j<k->∃ x y,us.getD j []=zf0 x y (zD L a b j)/\OwnLs 111 wc w.heap.size x (zD L a b j).lx/\OwnLs 111 wc w.heap.size y (zD L a b j).ly)
    (hx:OwnLs 111 wc w.heap.size x (zD L a b k).lx) (hy:OwnLs 111 wc w.heap.size y (zD L a b k).ly) (own:w2.ownsRow w.heap.size 39 5 u' (k+1) (us.flatten++[x,y,.int .i64 (zD L a b k).fx,.int .i64 (zD L a b k).fy,.int .i64 (zD L a b k).sb])) (grow:wc.grownBy w2 u.ownBlock)=>StgSo.more hu ho hc hx hy own grow)
   have HW1:=za (show toW (zh L k) (zm L a b k).1=(zm L a b (k+1)).1 from rfl);have HW2:=za (show toH (zh L k) (zm L a b k).2=(zm L a b (k+1)).2 from rfl);clear CD so sf sn hz HBAD
   by_cases hq:zaE (toW (zh L k) (zm L a b k).1) (toH (zh L k) (zm L a b k).2) c=true
   case neg =>
    rw[if_neg hq]at hstep;have HE:=za (λw'=>by have:=HBADk.out w' (by rw[hstep];decide);rw[hstep]at this;exact this);rw[show zaE (toW (zh L k) (zm L a b k).1) (toH (zh L k) (zm L a b k).2) c=false by simpa using hq]at CF;clear hstep hq HBADk HM HW1 HW2;generalize toW (zh L k) (zm L a b k).1=p' at *;generalize toH (zh L k) (zm L a b k).2=q' at *;generalize (zm L a b k).1=p at *;generalize (zm L a b k).2=q at *;generalize (zD L a b k).fx=fx at *;generalize (zD L a b k).fy=fy at *;generalize (zD L a b k).sb=sb at *;generalize (zh L k).kd=kd at *;generalize (zh L k).bd=bd at *;generalize (zh L k).sg=sg at *;generalize (zh L k).rd=rd at *;generalize (zh L k).xs.length=nx at *;generalize (zh L k).ys.length=ny at *;generalize (zh L k).fl=fl at *;generalize (zh L k).wd=wd at *;generalize (zh L k).ht=ht at *
    go_wp2_with (first
     |(go_at_call 118;(with_reducible refine(CD2 _ (zg _ _)).mono ?_);rintro e w3 ⟨⟨gx,px,gy,py,n1,n2,rfl,_,_⟩,b3⟩;have P3:=(P0.out.below b3).below (zg w3 (.cells #[.slice (some ⟨gx,0,none⟩) n1 px,.slice (some ⟨gy,0,none⟩) n2 py,.int .i64 fx,.int .i64 fy,.int .i64 sb] 39));obtain⟨a0,a1,a2,a3,a4,a5,a6,a7,a8⟩:=P3)
     |(go_at_call 119;(with_reducible refine(CZ _).mono ?_);rintro e w4 ⟨rfl,b4⟩)
     |(go_at_call 117;(with_reducible refine(CF _).mono ?_);rintro e w5 ⟨rfl,rfl⟩))
    exact bodyPost_ret (v:=.tuple #[.slice none 0 0,.int .i64 5]) (by simp[results,Tryz.results77,go_sem]) rfl ⟨HE.out _,bt (ba (bt (ba HB.out _) b3) _) b4⟩
   rw[if_pos hq]at hstep;rw[hq]at CF;have hfn:=za (ziH hf.out hstep);obtain⟨us,hu,ho,hc⟩:=HS.out;have HU:=za hu;have HO:=za ho;have HC:=za hc;have hw0:=HB.out.size;clear hstep hq HBADk HS hu ho hc hf;rw[show toW (zh L k) (zm L a b k).1=(zm L a b (k+1)).1 from rfl,show toH (zh L k) (zm L a b k).2=(zm L a b (k+1)).2 from rfl]at CZ CF;generalize (zm L a b k).1=p at *;generalize (zm L a b k).2=q at *;generalize (zD L a b k).fx=fx at *;generalize (zD L a b k).fy=fy at *;generalize (zD L a b k).sb=sb at *;generalize (zh L k).kd=kd at *;generalize (zh L k).bd=bd at *;generalize (zh L k).sg=sg at *;generalize (zh L k).rd=rd at *;generalize (zh L k).xs.length=nx at *;generalize (zh L k).ys.length=ny at *;generalize (zh L k).fl=fl at *;generalize (zh L k).wd=wd at *;generalize (zh L k).ht=ht at *;have ONE:∀ (gx n1 px gy n2 py:Nat),∀ u ∈ [Value.slice (some ⟨gx,0,none⟩) n1 px,.slice (some ⟨gy,0,none⟩) n2 py,.int .i64 fx,.int .i64 fy,.int .i64 sb],u.oneCell'=true:=by
    intro gx n1 px gy n2 py u hu;simp only[List.mem_cons,List.not_mem_nil,or_false]at hu;rcases hu with rfl|rfl|rfl|rfl|rfl<;>rfl
   have HONE:=za ONE;clear ONE
   go_wp2_with (first
    |(go_at_call 118;(with_reducible refine(CD2 _ (zg _ _)).mono ?_);rintro e w3 ⟨⟨gx,px,gy,py,n1,n2,rfl,ox,oy⟩,b3⟩;have P3:=(P0.out.below b3).below (zg w3 (.cells #[.slice (some ⟨gx,0,none⟩) n1 px,.slice (some ⟨gy,0,none⟩) n2 py,.int .i64 fx,.int .i64 fy,.int .i64 sb] 39));obtain⟨a0,a1,a2,a3,a4,a5,a6,a7,a8⟩:=P3;have HOX:=za ox;have HOY:=za oy;clear ox oy;have s3:=b3.size;simp at s3)
    |(go_at_call 119;(with_reducible refine(CZ _).mono ?_);rintro e w4 ⟨rfl,b4⟩;have T4:=S5.below (S5.new w3 39 (.slice (some ⟨gx,0,none⟩) n1 px) (.slice (some ⟨gy,0,none⟩) n2 py) (.int .i64 fx) (.int .i64 fy) (.int .i64 sb)) b4;obtain⟨⟨t0,_⟩,⟨t1,_⟩,⟨t2,_⟩,⟨t3,_⟩,⟨t4,_⟩⟩:=T4;have s4:=b4.size;simp at s4)
    |(go_at_call 117;(with_reducible refine(CF _).mono ?_);rintro e w5 ⟨rfl,rfl⟩)
    |(at_builtin;refine wpList_append_own _ rfl _ _ 84 rfl w.heap.size 39 i0 (.agg #[.slice none 0 0,.slice none 0 0,.int .i64 0,.int .i64 0,.int .i64 0]) 5 72 Tryz.underlying84 hi hz0 hz1 hz2 rfl (by decide) _ _ _ rfl (zfy HO.out.1 (ba (bt (ba (bt (zg _ _) b3) _) b4) _)) ⟨w4.heap.size,0,none⟩ 1 1 [.slice (some ⟨gx,0,none⟩) n1 px,.slice (some ⟨gy,0,none⟩) n2 py,.int .i64 fx,.int .i64 fy,.int .i64 sb] rfl rfl (zmC _ _ _) (HONE.out _ _ _ _ _ _) (by rw[HU.out];unfold maxLen;omega) (by rw[HU.out];omega) (by simp;omega) ?_;intro v' w6 own6 grow6 _;rw[HU.out]at own6))
   have BW:=za (show Below wr.heap.size wr ((w4.alloc (.cells #[.slice (some ⟨gx,0,none⟩) n1 px,.slice (some ⟨gy,0,none⟩) n2 py,.int .i64 fx,.int .i64 fy,.int .i64 sb] 39))) from ba (bt (ba (bt (zg _ _) b3) _) b4) _);have OX:=za (OwnLs.mono (((HOX.out.alloc _).below b4).alloc (.cells #[.slice (some ⟨gx,0,none⟩) n1 px,.slice (some ⟨gy,0,none⟩) n2 py,.int .i64 fx,.int .i64 fy,.int .i64 sb] 39)) (base':=w.heap.size) (by simp;omega));have OY:=za (OwnLs.mono (((HOY.out.alloc _).below b4).alloc (.cells #[.slice (some ⟨gx,0,none⟩) n1 px,.slice (some ⟨gy,0,none⟩) n2 py,.int .i64 fx,.int .i64 fy,.int .i64 sb] 39)) (base':=w.heap.size) (by simp;omega));have M6:=za (HM.out _ _ _ _ _ _ us HU.out (HO.out.below BW.out) (λj hj=>by
    obtain⟨x,y,e,p1,p2⟩:=HC.out j hj;exact⟨x,y,e,p1.below BW.out,p2.below BW.out⟩) OX.out OY.out own6 grow6)
   have B6:Below w.heap.size w w6:=(bt HB.out BW.out).grown grow6 (by simp;omega) (λg hg=>(World.ownsRow.lt HO.out.1 g hg).1);have HB6:=za B6;clear own6 grow6 B6 b3 b4 a0 a1 a2 a3 a4 a5 a6 a7 a8 t0 t1 t2 t3 t4;go_wp2
   go_roundw
   case rel=>exact⟨k+1,v',by omega,rfl,by go_num,rfl,rfl,hfn,M6.out,HB6.out⟩
   case measure=>simp[intOf];omega
  ·obtain rfl:k=n:=by omega
   have hv:=hf.out;have HA:=za (show zhE w.heap.size (.returned (.tuple #[v,.int .i64 0])) wr (zah L a b c k) k (zD L a b) from .inr ⟨hv,v,rfl,hs⟩);obtain⟨us,hu,ho,hc⟩:=hs;obtain⟨ad',cap',rfl,_,_⟩:=ho.form hu;clear hv hu ho hc hb hf;go_wp2;exact bodyPost_ret (v:=.tuple #[.slice ad' k cap',.int .i64 0]) (by simp[results,Tryz.results77,go_sem]) rfl ⟨HA.out,HB.out⟩
set_option maxHeartbeats 4000000 in
set_option maxRecDepth 100000 in
theorem zpI (L:List Opr) (n:Nat) (hn:L.length=n) (h1:n<=maxLen) (s:Int) (ad:Option Addr) (cap:Nat) (w:World) (hr:OpsAt w ad L) :
  Calls Tryz.prog 75 #[.slice ad n cap,.int .i64 s] w λe w'=>e=.returned (.bool (!zcj s L n))/\Below w.heap.size w w':=by
 have hm:n<=9223372036854775807:=h1;have HR:=za hr;have HN:=za hn;clear hr hn h1
 go_enter Tryz.func75,Tryz.ntmps75
 go_wp2
 go_loopw [9] (λi wr=>∃ k:Nat,k<=n/\i=.int .i64 (k:Int)/\Hid (zcj s L k=false)/\Below w.heap.size w wr) (λi _=>n-(intOf i).toNat)
 case atStart=>exact⟨0,by omega,rfl,za rfl,Below.refl _ _⟩
 case round =>
  obtain⟨k,hk,rfl,hs,hb⟩:=hrel;have HB:=za hb;have hb0:=(HR.out.below hb);clear hb
  by_cases hlt:k<n
  ·obtain⟨b,off,rfl,h0,h1,h2,h3,h6,h7,h8,ax,cx,ay,cy,h4,h5,_⟩:=hb0.get (show k<L.length by rw[HN.out];exact hlt);clear hb0;have hF:zdc s (zh L k)->(!zcj s L n)=false:=λq=>by rw[zjL ((zf9 s L k).2 (.inr q)) hlt];rfl
   have hP:¬zdc s (zh L k)->zcj s L (k+1)=false:=λq=>by
    cases e:zcj s L (k+1) with
    |false=>rfl
    |true =>
     rcases(zf9 s L k).1 e with r|r
     ·rw[hs.out]at r;cases r
     ·exact absurd r q
   unfold zdc at hF hP;obtain⟨o,ho⟩:∃ o,zh L k=o:=⟨_,rfl⟩;rw[ho]at h0 h1 h2 h3 h6 h7 h8 h4 h5 hF hP;clear ho;obtain⟨kd,bd,sg,rd,xs,ys,fl,wd,ht⟩:=o;simp only at h0 h1 h2 h3 h6 h7 h8 h4 h5 hF hP;generalize xs.length=nx at *;generalize ys.length=ny at *;have HF:=za hF;have HP:=za hP;have HB9:=za (λo=>ba HB.out o);clear hF hP hs
   go_upto_region 4 with fail
   rcases(show(40:Int)<(nx:Int)\/(nx:Int)<=40 by omega)with cF|c1
   ·have v:=HF.out (.inl (by omega));go_wp2;go_ret;exact⟨by first|rfl|(rw[v];rfl),HB9.out _⟩
   rcases(show(40:Int)<(ny:Int)\/(ny:Int)<=40 by omega)with cF|c2
   ·have v:=HF.out (.inr (.inl (by omega)));go_wp2;go_ret;exact⟨by first|rfl|(rw[v];rfl),HB9.out _⟩
   rcases(show sg<=262144\/(262144<sg/\4194304<sg)\/(262144<sg/\sg<=4194304) by omega)with c3|⟨c3,c3'⟩|⟨c3,cF⟩
   case inr.inr =>
    have v:=HF.out (.inr (.inr (.inl ⟨c3,cF⟩)));go_wp2;go_ret;exact⟨by first|rfl|(rw[v];rfl),HB9.out _⟩
   all_goals rcases(show rd<=20\/(20<rd/\512<=rd)\/(20<rd/\rd<512) by omega)with c4|⟨c4,c4'⟩|⟨c4,cF⟩
   all_goals try
    have v:=HF.out (.inr (.inr (.inr (.inl ⟨c4,cF⟩))));go_wp2;go_ret;exact⟨by first|rfl|(rw[v];rfl),HB9.out _⟩
   all_goals rcases(show wd<=s\/(s<wd/\65536<wd)\/(s<wd/\wd<=65536) by omega)with c5|⟨c5,c5'⟩|⟨c5,cF⟩
   all_goals try
    have v:=HF.out (.inr (.inr (.inr (.inr (.inl ⟨c5,cF⟩)))));go_wp2;go_ret;exact⟨by first|rfl|(rw[v];rfl),HB9.out _⟩
   all_goals rcases(show ht<=s\/(s<ht/\65536<ht)\/(s<ht/\ht<=65536) by omega)with c6|⟨c6,c6'⟩|⟨c6,cF⟩
   all_goals try
    have v:=HF.out (.inr (.inr (.inr (.inr (.inr ⟨c6,cF⟩)))));go_wp2;go_ret;exact⟨by first|rfl|(rw[v];rfl),HB9.out _⟩
   all_goals
    have v:=za (HP.out (by omega));go_wp2
    go_roundw
    case rel=>exact⟨k+1,by omega,by go_num,v.out,HB9.out _⟩
    case measure=>simp[intOf];omega
  ·obtain rfl:k=n:=by omega
   have hv:=hs.out;clear hb0 hs;go_wp2;go_ret;exact⟨by rw[hv];rfl,HB.out⟩
def StgsAt (w:World) (ad:Option Addr) (n:Nat) (F:Nat->Stg):Prop :=
 n=0\/∃ b off,ad=some ⟨b,off,none⟩/\∀ j,j<n->∃ x y,w.cell? ⟨b,off+j*3,none⟩=some x/\w.cell? ⟨b,off+j*3+1,none⟩=some y/\w.cell? ⟨b,off+j*3+2,none⟩=some (.int .i64 (F j).sb)/\Tab w x (F j).fx (F j).lx/\Tab w y (F j).fy (F j).ly
theorem StgsAt.below {w w':World} {ad:Option Addr} {n:Nat} {F:Nat->Stg} (h:StgsAt w ad n F) (hb:Below w.heap.size w w'):StgsAt w' ad n F:=by
 rcases h with h|⟨b,off,e,h⟩
 ·exact .inl h
 ·refine .inr ⟨b,off,e,λj hj=>?_⟩;obtain⟨x,y,c0,c1,c2,tx,ty⟩:=h j hj;exact⟨x,y,cb hb (ze c0) c0,cb hb (ze c0) c1,cb hb (ze c0) c2,tx.below hb,ty.below hb⟩
theorem StgsAt.get {w:World} {ad:Option Addr} {n:Nat} {F:Nat->Stg} (h:StgsAt w ad n F) {j:Nat} (hj:j<n):∃ b off,ad=some ⟨b,off,none⟩/\∃ x y,w.cell? ⟨b,off+j*3,none⟩=some x/\w.cell? ⟨b,off+j*3+1,none⟩=some y/\w.cell? ⟨b,off+j*3+2,none⟩=some (.int .i64 (F j).sb)/\Tab w x (F j).fx (F j).lx/\Tab w y (F j).fy (F j).ly:=by
 rcases h with h|⟨b,off,e,h⟩
 ·omega
 ·exact⟨b,off,e,h j hj⟩
theorem StgsRef.below {w w':World} {ad:Option Addr} {n:Nat} {F:Nat->Stg} (h:StgsRef w ad n F) (hb:Below w.heap.size w w'):StgsRef w' ad n F:=by
 rcases h with h|⟨b,e,h⟩
 ·exact .inl h
 ·refine .inr ⟨b,e,λj hj=>?_⟩;obtain⟨gx,px,gy,py,c0,c1,c2,c3,c4,lx,ly⟩:=h j hj;have hl:=ze c0;exact⟨gx,px,gy,py,cb hb hl c0,cb hb hl c1,cb hb hl c2,cb hb hl c3,cb hb hl c4,lx.below hb,ly.below hb⟩
theorem StgsRef.get {w:World} {ad:Option Addr} {n:Nat} {F:Nat->Stg} (h:StgsRef w ad n F) {j:Nat} (hj:j<n):∃ b,ad=some ⟨b,0,none⟩/\∃ gx px gy py,w.cell? ⟨b,j*5,none⟩=some (.slice (some ⟨gx,0,none⟩) (F j).lx.length px)/\w.cell? ⟨b,j*5+1,none⟩=some (.slice (some ⟨gy,0,none⟩) (F j).ly.length py)/\w.cell? ⟨b,j*5+2,none⟩=some (.int .i64 (F j).fx)/\w.cell? ⟨b,j*5+3,none⟩=some (.int .i64 (F j).fy)/\w.cell? ⟨b,j*5+4,none⟩=some (.int .i64 (F j).sb)/\LinesAt w gx (F j).lx/\LinesAt w gy (F j).ly:=by
 rcases h with h|⟨b,e,h⟩
 ·omega
 ·exact⟨b,e,h j hj⟩
def zgB (e:Ending) (w':World) (k:Int) (n:Nat) (F:Nat->Stg):Prop :=
 (k≠0/\∃ ad cap,e=.returned (.tuple #[.slice ad 0 cap,.int .i64 k]))\/(k=0/\∃ ad cap,e=.returned (.tuple #[.slice ad n cap,.int .i64 0])/\StgsAt w' ad n F)
def zyd (K:World->Prop):Prop:=∀ (L:List Opr) (ad:Option Addr) (cap:Nat) (a b c:Int) (w:World),K w->OpsAt w ad L->zfV L->L.length<=maxLen->(ad=none->cap=0)->zaz a->zaz b->zaz c ->
 Calls Tryz.prog 76 #[.slice ad L.length cap,.int .i64 a,.int .i64 b,.int .i64 c] w λe w'=>zgB e w' (zaD L a b c) L.length (zD L a b)/\Below w.heap.size w w'
def zao (I:Im) (S:Stg):Int:=if zaY I S=true then(if zaE (S.lx.length:Int) (S.ly.length:Int) I.ic=true then 0 else 5) else 6
def zcA (I:Im):List Stg->Int
 |[]=>0
 |S :: r=>if zao I S=0 then zcA (zI I S) r else zao I S
theorem zdL {I:Im} {S:Stg} (h:zao I S=0):zaY I S=true/\zaE (S.lx.length:Int) (S.ly.length:Int) I.ic=true:=by
 unfold zao at h
 split at h
 ·split at h
  ·exact⟨by assumption,by assumption⟩
  ·omega
 ·omega
theorem zv0 {I:Im} {S:Stg} (hI:zay I) (h:zao I S=0):zay (zI I S):=zmZ hI (zdL h).2
def zh4 (F:Nat->Stg) (n:Nat):List Stg:=(List.range n).map F
theorem zk8 (F:Nat->Stg) (n:Nat):zh4 F (n+1)=zh4 F n++[F n]:=by unfold zh4;rw[List.range_succ,List.map_append];rfl
theorem zh7 (I:Im) (L:List Stg) (S:Stg):zce I (L++[S])=zI (zce I L) S:=by
 induction L generalizing I with
 |nil=>rfl
 |cons a r ih=>exact ih (zI I a)
theorem zkK (I:Im) (L:List Stg) (S:Stg) (h:zcA I L=0):zcA I (L++[S])=zao (zce I L) S:=by
 induction L generalizing I with
 |nil =>
  show(if zao I S=0 then zcA (zI I S) [] else zao I S)=zao I S
  split
  ·rename_i e;rw[e];rfl
  ·rfl
 |cons a r ih =>
  show(if zao I a=0 then zcA (zI I a) (r++[S]) else zao I a)=zao (zce (zI I a) r) S
  have h':(if zao I a=0 then zcA (zI I a) r else zao I a)=0:=h
  by_cases e:zao I a=0
  ·rw[if_pos e]at h' ⊢;exact ih (zI I a) h'
  ·rw[if_neg e]at h';exact absurd h' e
theorem zp3 {I:Im} (hI:zay I) (L:List Stg) (h:zcA I L=0):zay (zce I L)/\(zce I L).ic=I.ic/\(zce I L).it=I.it:=by
 induction L generalizing I with
 |nil=>exact⟨hI,rfl,rfl⟩
 |cons a r ih =>
  have h':(if zao I a=0 then zcA (zI I a) r else zao I a)=0:=h
  by_cases e:zao I a=0
  ·rw[if_pos e]at h';obtain⟨x,y,z⟩:=ih (zv0 hI e) h';exact⟨x,y,z⟩
  ·rw[if_neg e]at h';exact absurd h' e
theorem zth {L:List Opr} {I:Im} (hI:zay I) (hz:zaD L I.iw I.ih I.ic=0) (k:Nat) (hk:k<=L.length):zcA I (zh4 (zD L I.iw I.ih) k)=0/\(zce I (zh4 (zD L I.iw I.ih) k)).iw=(zm L I.iw I.ih k).1/\(zce I (zh4 (zD L I.iw I.ih) k)).ih=(zm L I.iw I.ih k).2:=by
 have hf:zah L I.iw I.ih I.ic L.length=0:=by
  unfold zaD at hz
  split at hz
  ·omega
  ·split at hz
   ·omega
   ·exact hz
 induction k with
 |zero=>exact⟨rfl,rfl,rfl⟩
 |succ k ih =>
  obtain⟨i1,i2,i3⟩:=ih (by omega);have hb:=(zeY hf (show k<L.length by omega)).2;have ho:zC (zh L k) (zm L I.iw I.ih k).1 (zm L I.iw I.ih k).2=0:=by
   by_cases g:zC (zh L k) (zm L I.iw I.ih k).1 (zm L I.iw I.ih k).2=0
   ·exact g
   ·unfold zaO at hb;rw[if_pos g]at hb;exact absurd hb g
  have hfit:zaE (zm L I.iw I.ih (k+1)).1 (zm L I.iw I.ih (k+1)).2 I.ic=true:=by
   unfold zaO at hb;rw[if_neg (by rw[ho];decide)]at hb
   cases g:zaE (zm L I.iw I.ih (k+1)).1 (zm L I.iw I.ih (k+1)).2 I.ic
   ·rw[g]at hb;exact absurd hb (by decide)
   ·rfl
  obtain⟨ok,ic,_⟩:=zp3 hI _ i1;have hok:=(zbD _ _ _).1 (zfG ho).1;obtain⟨_,hbd,hw,hh,hr⟩:=hok;have hl:((zD L I.iw I.ih k).lx.length:Int)=(zm L I.iw I.ih (k+1)).1/\((zD L I.iw I.ih k).ly.length:Int)=(zm L I.iw I.ih (k+1)).2:=by
   show((zcf (zh L k) _).length:Int)=toW (zh L k) _/\((zbK (zh L k) _).length:Int)=toH (zh L k) _
   unfold zcf zbK toW toH
   by_cases hk3:(zh L k).kd=3
   ·have:=hr hk3;simp only[if_pos hk3,zaq];omega
   ·simp only[if_neg hk3,zar];omega
  have hst:zao (zce I (zh4 (zD L I.iw I.ih) k)) (zD L I.iw I.ih k)=0:=by
   unfold zao zaY;rw[i2,i3,ic,hl.1,hl.2,hfit];have e1:(zD L I.iw I.ih k).fx=(zm L I.iw I.ih k).1:=rfl;have e2:(zD L I.iw I.ih k).fy=(zm L I.iw I.ih k).2:=rfl;have e3:(zD L I.iw I.ih k).sb=(zh L k).bd:=rfl;rw[e1,e2,e3]
   simp[hbd.1,hbd.2]
  rw[zk8];refine⟨(zkK _ _ _ i1).trans hst,?_,?_⟩
  ·rw[zh7];exact hl.1
  ·rw[zh7];exact hl.2
theorem zrg:∀ (p:Addr) (w:World),(binOp .eql 34 (.pointer (some p)) (.pointer none)).run Tryz.prog w=.ok (.bool false) w:=λp w=>by kernel_rfl
theorem zm6 {I:Im} {S:Stg} (h:S.sb<0\/2<S.sb):zaY I S=false:=by
 unfold zaY;rcases h with h|h
 ·rw[decide_eq_false (show ¬(0<=S.sb) by omega)];simp
 ·rw[decide_eq_false (show ¬(S.sb<=2) by omega)];simp
theorem zt5 {I:Im} {S:Stg} (h0:0<=S.sb) (h1:S.sb<=2):zaY I S=(decide (S.fx=I.iw) && decide (S.fy=I.ih)):=by
 unfold zaY;rw[decide_eq_true h0,decide_eq_true h1]
 simp
set_option maxHeartbeats 2000000 in
theorem zge {w:World} {g h:Nat} {I:Im} {x y:Value} {S:Stg} (hk:OpK w) (H:ImgAt w g h I) (tx:Tab w x S.fx S.lx) (ty:Tab w y S.fy S.ly) :
  Calls Tryz.prog 79 #[.pointer (some ⟨g,0,none⟩),.agg #[x,y,.int .i64 S.sb]] w λe w'=>e=.returned (.bool (zaY I S))/\Below w.heap.size w w':=by
 have CN:=λw' (b:Below w.heap.size w w')=>zgg S.sb w' (zdD hk.2 b)
 have CX:=λw' (b:Below w.heap.size w w')=>zfZ (tx.below b)
 have CY:=λw' (b:Below w.heap.size w w')=>zfZ (ty.below b)
 have CW:=λw' (b:Below w.heap.size w w')=>zdu (H.below b)
 have CH:=λw' (b:Below w.heap.size w w')=>zcO (H.below b)
 obtain⟨ax,rfl⟩:=tx.ptr;obtain⟨ay,rfl⟩:=ty.ptr;have e1:=zrg
 by_cases hs:S.sb<0\/2<S.sb
 ·rw[zm6 hs];rw[zj0 _ hs]at CN;clear tx ty hk H CX CY CW CH hs
  go_enter Tryz.func79,Tryz.ntmps79
  go_wp2_with (go_at_call 63;(with_reducible refine(CN _ (zg _ _)).mono ?_);rintro e w1 ⟨rfl,rfl⟩)
  go_ret;exact⟨rfl,zg _ _⟩
 ·rw[zt5 (by omega) (by omega)];obtain⟨s,hs1,hs2⟩:=zfu S.sb (by omega) (by omega);rw[hs1]at CN;clear tx ty hk H hs hs1;generalize S.fx=fx at *;generalize S.fy=fy at *;generalize S.sb=sb at *;generalize I.iw=iw at *;generalize I.ih=ih at *
  by_cases hx:fx=iw
  ·subst hx;rw[show decide (fx=fx)=true from decide_eq_true rfl,Bool.true_and]
   by_cases hy:fy=ih
   ·subst hy;rw[show decide (fy=fy)=true from decide_eq_true rfl]
    go_enter Tryz.func79,Tryz.ntmps79
    go_wp2_with (first
     |(go_at_call 63;(with_reducible refine(CN _ (zg _ _)).mono ?_);rintro e w1 ⟨rfl,rfl⟩)
     |(go_at_call 106;(with_reducible refine(CX _ (zg _ _)).mono ?_);rintro e w2 ⟨rfl,b2⟩;have q1:=cb b2 (b:=w.heap.size) (o:=1) (v:=.pointer (some ay)) (by simp) (by simp))
     |(go_at_call 106;(with_reducible refine(CY _ (bt (zg _ _) b2)).mono ?_);rintro e w3 ⟨rfl,b3⟩)
     |(go_at_call 24;(with_reducible refine(CW _ (bt (zg _ _) b2)).mono ?_);rintro e w4 ⟨rfl,rfl⟩)
     |(go_at_call 25;(with_reducible refine(CH _ (bt (bt (zg _ _) b2) b3)).mono ?_);rintro e w5 ⟨rfl,rfl⟩))
    go_ret;exact⟨rfl,bt (bt (zg _ _) b2) b3⟩
   ·have hq:(fy == ih)=false:=by simpa using hy
    rw[decide_eq_false hy];clear hy
    go_enter Tryz.func79,Tryz.ntmps79
    go_wp2_with (first
     |(go_at_call 63;(with_reducible refine(CN _ (zg _ _)).mono ?_);rintro e w1 ⟨rfl,rfl⟩)
     |(go_at_call 106;(with_reducible refine(CX _ (zg _ _)).mono ?_);rintro e w2 ⟨rfl,b2⟩;have q1:=cb b2 (b:=w.heap.size) (o:=1) (v:=.pointer (some ay)) (by simp) (by simp))
     |(go_at_call 106;(with_reducible refine(CY _ (bt (zg _ _) b2)).mono ?_);rintro e w3 ⟨rfl,b3⟩)
     |(go_at_call 24;(with_reducible refine(CW _ (bt (zg _ _) b2)).mono ?_);rintro e w4 ⟨rfl,rfl⟩)
     |(go_at_call 25;(with_reducible refine(CH _ (bt (bt (zg _ _) b2) b3)).mono ?_);rintro e w5 ⟨rfl,rfl⟩))
    go_ret;exact⟨rfl,bt (bt (zg _ _) b2) b3⟩
  ·have hq:(fx == iw)=false:=by simpa using hx
   rw[decide_eq_false hx,Bool.false_and];clear hx
   go_enter Tryz.func79,Tryz.ntmps79
   go_wp2_with (first
    |(go_at_call 63;(with_reducible refine(CN _ (zg _ _)).mono ?_);rintro e w1 ⟨rfl,rfl⟩)
    |(go_at_call 106;(with_reducible refine(CX _ (zg _ _)).mono ?_);rintro e w2 ⟨rfl,b2⟩)
    |(go_at_call 24;(with_reducible refine(CW _ (bt (zg _ _) b2)).mono ?_);rintro e w4 ⟨rfl,rfl⟩))
   go_ret;exact⟨rfl,bt (zg _ _) b2⟩
theorem zqm (t:Int):zeC t 0 65535=zcy t:=by unfold zeC zcy;split<;>split<;>(try split)<;>omega
theorem zn4 (v t:Int):zeC v 0 (zcy t)=(if v<0 then 0 else if zcy t<v then zcy t else v):=by
 have:=zjh t;unfold zeC;generalize zcy t=m at *
 split<;>split<;>(try split)<;>omega
theorem zkP (s t:Int) (s0 : -9223372036854775808<=s) (s1:s<=9223372036854775807) (w:World):Calls Tryz.prog 93 #[.int .i64 s,.int .i64 t] w λe w'=>e=.returned (.int .u16 (zaM s t))/\Below w.heap.size w w':=by
 have C1:=λw=>zfN t 0 65535 w
 have C2:=λw=>zew s 28 s0 s1 (by omega) (by omega) w
 have C3:=λw=>zfN (zV s 28) 0 (zcy t) w
 rw[zqm]at C1;rw[zn4]at C3;have hr:=zgn s t;have hm:=zjh t;unfold zaM at hr ⊢;generalize zcy t=m at *;generalize zV s 28=V at *;generalize (if V<0 then 0 else if m<V then m else V)=R at *;obtain⟨r0,r1⟩:=hr;have E:IntKind.u16.wrap R=R:=by rw[IntKind.wrap_u16];omega
 have HE:=za E
 go_enter Tryz.func93,Tryz.ntmps93
 go_wp2_with (first
  |(go_at_call 130;(with_reducible refine(C2 _).mono ?_);rintro e w2 ⟨rfl,b2⟩)
  |(go_at_call 123;(with_reducible refine(C1 _).mono ?_);rintro e w1 ⟨rfl,rfl⟩)
  |(go_at_call 123;(with_reducible refine(C3 _).mono ?_);rintro e w3 ⟨rfl,rfl⟩))
 go_ret;exact⟨rfl,b2⟩
theorem zwe {x y z:Int} (x0:0<=x) (y0:1<=y) (h:x % y=z) (w:World):(binOp .rem 3 (.int .i64 x) (.int .i64 y)).run Tryz.prog w=.ok (.int .i64 z) w:=by
 have hz:(y == 0)=false:=beq_eq_false_iff_ne.2 (by omega);have hm:x.tmod y=z:=by rw[Int.tmod_eq_emod_of_nonneg x0];exact h
 go_simp
 omega
end Go.Proofs.YtlodkoimdoeopaaGreatDoor
