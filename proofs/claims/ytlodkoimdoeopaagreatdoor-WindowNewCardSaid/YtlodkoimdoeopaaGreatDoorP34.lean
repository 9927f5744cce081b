/- Parts, joined. -/
import Derived.Test.YtlodkoimdoeopaaGreatDoorP33
import Derived.Test.YtlodkoimdoeopaaGreatDoorP10
import Derived.Test.YtlodkoimdoeopaaGreatDoorP12
import Derived.Test.YtlodkoimdoeopaaGreatDoorRows
import Derived.Test.YtlodkoimdoeopaaGreatDoorP21
import Derived.Test.YtlodkoimdoeopaaGreatDoorP19
import Derived.Test.YtlodkoimdoeopaaGreatDoorP32
import Derived.Test.YtlodkoimdoeopaaGreatDoorP26
import Derived.Maps.RangeWalk
import Derived.Maps.OwnOps
import Derived.Deep.WholeRow
import Derived.Deep.LoopGhost
import Derived.ProofKit
import Derived.LaidMore
import Derived.OpenShut
namespace Go.Proofs.YtlodkoimdoeopaaGreatDoor
open Go.RowKit
theorem LawC.more {w0 wn w':World} {h2:Nat} {c:JobC} {O:Im} (C:LawC w0 wn h2 c O) (s:wn.heap.size<=w'.heap.size):LawC w0 w' h2 c O :=
 ⟨C.job,C.ow,C.oh,C.oc,C.ot,Nat.lt_of_lt_of_le C.lg s,Nat.lt_of_lt_of_le C.lh s,C.base,Nat.le_trans C.size s⟩
def JobC.steps (c:JobC):List Mv:=zO (ze c.S.ly c.y0).1 (c.y0:Int) (c.ls c.y0 c.H)
theorem zpE {w w0 wn w':World} {c:JobC} {h2 gx px gy py:Nat} {O:Im} (B:BegIn w w0 wn c h2 gx px gy py O) (hb:Below wn.heap.size wn w') :
  Calls Tryz.prog 11 #[.pointer (some ⟨c.g,0,none⟩),.pointer (some ⟨c.g2,0,none⟩),.agg #[.pointer (some c.ax),.pointer (some c.ay),.int .i64 c.S.sb],.agg #[.int .i64 0,.int .i64 (c.x0:Int),.int .i64 (c.y0:Int),.int .i64 (c.W:Int),.int .i64 (c.H:Int),.int .i64 0,.int .i64 0,.int .i64 0,.int .i64 0,.int .i64 0]] w' λe w''=>∃ jb,e=.returned (.tuple #[.pointer (some ⟨jb,0,none⟩),.int .i64 0])/\LawC w0 w' h2 c O/\LawT w0 w' w'' jb h2 c O c.steps/\Below w'.heap.size w' w'':=by
 have C:=B.law.more hb.size;have e:zbV c.til=.agg #[.int .i64 0,.int .i64 (c.x0:Int),.int .i64 (c.y0:Int),.int .i64 (c.W:Int),.int .i64 (c.H:Int),.int .i64 0,.int .i64 0,.int .i64 0,.int .i64 0,.int .i64 0]:=by
  unfold zbV JobC.til;simp only[B.n0,B.n1,B.n2,B.n3,B.n4,B.n5]
 rw[←e];refine(zh1 C (B.tgt.below hb) B.ne (B.thaw.below B.tgt.lt.1 hb) (bt B.bel hb)).mono ?_;rintro e2 w2 ⟨jb,rfl,L,b⟩;exact⟨jb,rfl,C,L,b⟩
theorem zwq {w w0 wn:World} {c:JobC} {h2 gx px gy py:Nat} {O:Im} (B:BegIn w w0 wn c h2 gx px gy py O):c.steps.length<20000:=by
 obtain⟨o,oc,nb,eS⟩:=B.op;obtain⟨gl,m⟩:=zjt (o:=o) (s:=12) oc nb (by decide) B.i1;rw[←eS]at m;have K:=B.law.job;have l20:c.S.ly.length<=20:=by
  obtain⟨_,_,_,_,hr⟩:=(zbq _ _ _).1 (zdY oc).1;have i1:=B.i1;rw[eS]
  show(zbi o c.I.ih).length<=20
  unfold zcK at nb;unfold zbi
  by_cases hk:o.kd=3
  ·obtain⟨_,_,e1,e2⟩:=hr hk;rw[if_pos hk,zac];omega
  ·rw[if_neg hk,zae];omega
 have ln:(c.ls c.y0 c.H).length<=20:=by
  unfold JobC.ls;rw[List.length_take,List.length_drop];unfold zaM;rw[List.length_map];omega
 unfold JobC.steps;rw[zep];have a:=zkj (n:=900) (ze c.S.ly c.y0).1 (c.ls c.y0 c.H) (λl hl=>by
  unfold JobC.ls at hl;obtain⟨k,_,k1,rfl⟩:=zgh hl;have b:=K.yh;have:=zin (L:=c.S.ly) c.S.ly.length (show k<c.S.ly.length by omega);have e:za7 c.S.ly c.S.ly.length=zaB c.S.ly:=rfl;rw[e]at this
  show(ze c.S.ly k).2.length<=900
  omega)
 have d:900*(c.ls c.y0 c.H).length<=900*20:=Nat.mul_le_mul_left _ ln;omega
end Go.Proofs.YtlodkoimdoeopaaGreatDoor
namespace Go.Proofs.YtlodkoimdoeopaaGreatDoor
def isF (m:Mv):Bool:=decide (m.1=1)
def isW (m:Mv):Bool:=decide (m.1=2)
def zcw (A:List Mv):List Int:=(A.filter isF).map (·.2)
def za0 (A:List Mv):Nat:=(A.filter isW).length
theorem zbH (A B:List Mv):zcw (A++B)=zcw A++zcw B:=by unfold zcw;rw[List.filter_append,List.map_append]
theorem zgr (A B:List Mv):za0 (A++B)=za0 A+za0 B:=by unfold za0;rw[List.filter_append,List.length_append]
theorem zfr (j:Int):zcw [(1,j)]=[j]:=rfl
theorem zjZ (j:Int):zcw [(2,j)]=[]:=rfl
theorem zly (j:Int):za0 [(1,j)]=0:=rfl
theorem zgR (E y:Int) (ls:List Wnd):zcw (zO E y ls)=zbJ E ls:=zl8 E y ls
theorem zlW (E y:Int) (ls:List Wnd):za0 (zO E y ls)=ls.length:=by
 have:=congrArg List.length (zhU E y ls);rw[List.length_map,List.length_map,List.length_range]at this;exact this
theorem zqM {E y:Int} {ls:List Wnd} {m:Mv} (h:m ∈ zO E y ls):m.1=1\/m.1=2:=by
 induction ls generalizing E y with
 |nil=>cases h
 |cons l r ih =>
  rcases List.mem_append.1 h with h|h
  ·obtain⟨x,_,rfl⟩:=List.mem_map.1 h;exact .inl rfl
  ·rcases List.mem_cons.1 h with rfl|h
   ·exact .inr rfl
   ·exact ih h
theorem zjP {E y:Int} {ls:List Wnd} {A B:List Mv} {j:Int} (h:zO E y ls=A++(1,j) :: B):∀ x ∈ zcw A,x<j:=by
 have a:=zgR E y ls;rw[h,zbH]at a;have b:=znR E ls;rw[←a]at b;have c:=(List.pairwise_append.1 b).2.2;intro x hx;exact c x hx j (List.mem_cons_self ..)
theorem zkO {E y:Int} {ls:List Wnd} {A B:List Mv} {j:Int} (h:zO E y ls=A++(2,j) :: B):j=y+(za0 A:Int):=by
 have a:=zhU E y ls;rw[h,List.filter_append,List.map_append,List.filter_cons_of_pos (by simp),List.map_cons]at a;have hn:((A.filter (λm=>decide (m.1=2))).map (·.2)).length=za0 A:=by rw[List.length_map];rfl
 have b:=congrArg (λl:List Int=>l[za0 A]?) a;simp only at b;rw[List.getElem?_append_right (by rw[hn];exact Nat.le_refl _),hn,Nat.sub_self,List.getElem?_cons_zero]at b;rw[List.getElem?_map]at b;rcases hr:(List.range ls.length)[za0 A]? with _|q
 ·rw[hr]at b
  cases b
 ·rw[hr]at b;have e:=Option.some.inj b;have:q=za0 A:=by
   have:=List.getElem?_eq_some_iff.1 hr;obtain⟨_,h2⟩:=this;rw[List.getElem_range]at h2;exact h2.symm
  subst this;exact e
end Go.Proofs.YtlodkoimdoeopaaGreatDoor
namespace Go.Proofs.YtlodkoimdoeopaaGreatDoor
open Go.RowKit Go.Maps
def SeenM (w:World) (b n:Nat) (A:List Int):Prop:=∃ D:DataW Unit,w.ownsMap Tryz.prog 2 (plainElem (H:=Unit) Tryz.prog 3) b n D/\∀ j:Int,has D (.int .i64 j)=true->j ∈ A
theorem SeenM.kept {w w':World} {b n:Nat} {A:List Int} {r:Option Nat} (h:SeenM w b n A) (g:w.grownBy w' r) (ne:some b≠r):SeenM w' b n A:=by
 obtain⟨D,o,k⟩:=h;exact⟨D,o.kept g ne,k⟩
theorem SeenM.same {w w':World} {b n:Nat} {A:List Int} (h:SeenM w b n A) (g:w'.heap[b]?=w.heap[b]?):SeenM w' b n A:=by
 obtain⟨D,⟨es,clock,hb,F⟩,k⟩:=h;exact⟨D,⟨es,clock,g.trans hb,F⟩,k⟩
theorem zj8 (u:World):(zeroValue 3).run Tryz.prog u=.ok (.int .i64 0) u:=by kernel_rfl
theorem zty {w:World} {b n:Nat} {A:List Int} {j:Int} (h:SeenM w b n A) (hn:n<maxLen) (h0 : -9223372036854775808<=j) (h1:j<=9223372036854775807) (hj:j ∉ A) :
  ∃ w1,(Instr.lookup 77 (.map (some b)) (.int .i64 j) false).run Tryz.prog w=.ok (.int .i64 0) w/\(Instr.mapUpdate 77 (.map (some b)) (.int .i64 j) (.int .i64 1)).run Tryz.prog w=.ok () w1 /\
   (Instr.lookup 77 (.map (some b)) (.int .i64 j) false).run Tryz.prog w1=.ok (.int .i64 1) w1/\SeenM w1 b (n+1) (A++[j])/\w.grownBy w1 (some b):=by
 obtain⟨D,hown,hk⟩:=h;have K:Keyed Tryz.prog 2:=int_keyed Tryz.underlying2;have hw:(Lit.int .i64 j).wf=true:=by simp[Lit.wf,IntKind.min,IntKind.max,IntKind.signed,IntKind.bits];omega
 have hkey:=keyOf_int_mk (P:=Tryz.prog) Tryz.underlying2 hw;have hno:has D (.int .i64 j)=false:=by
  cases e:has D (.int .i64 j)
  ·rfl
  ·exact absurd (hk j e) hj
 have hkk:WideAt.IsKeyLit (.int .i64 j):=K.key hkey;obtain⟨c,r1,a1,_⟩:=hown.lookup_int K Tryz.underlying77 Tryz.underlying3 (zj8 w) hkey;rw[atKey_of_not_has hno]at a1;simp only[DataW.lit.injEq,Lit.int.injEq,true_and]at a1;subst a1;have hm:=hown.isMap;obtain⟨w1,rb,ob,gb⟩:=hown.update K Tryz.underlying77 hn hkey (plainElem_int Tryz.underlying3 (show(Lit.int .i64 1).wf=true by decide));obtain⟨c,r2,a2,_⟩:=ob.lookup_int K Tryz.underlying77 Tryz.underlying3 (zj8 w1) hkey;rw[atKey_put_same hm hkk]at a2;simp only[DataW.lit.injEq,Lit.int.injEq,true_and]at a2;subst a2;refine⟨w1,r1,rb,r2,⟨_,ob,λx hx=>?_⟩,gb⟩
 by_cases e:(Lit.int .i64 x)=.int .i64 j
 ·obtain rfl:x=j:=by simpa using e
  simp
 ·rw[has_put_other e]at hx;exact List.mem_append_left _ (hk x hx)
end Go.Proofs.YtlodkoimdoeopaaGreatDoor
namespace Go.Proofs.YtlodkoimdoeopaaGreatDoor
open Go.RowKit
def LawX (w0 wn w:World) (jb h2 b:Nat) (c:JobC) (O:Im) (T:List Mv):Prop :=
 ∃ F R G E y n,JobAt w0 w jb F R c G E y n/\ImgAt w c.g2 h2 (za5 O c.I c.S c.x0 c.W c.y0 (y-c.y0) 0)/\wn.grownBy w (some h2)/\(∀ k,F k\/R k\/k=jb->wn.heap.size<=k/\k≠b)/\b<w.heap.size/\c.y0<=y/\zO E (y:Int) (c.ls y n)=T
theorem LawX.law {w0 wn w:World} {jb h2 b:Nat} {c:JobC} {O:Im} {T:List Mv} (L:LawX w0 wn w jb h2 b c O T):LawT w0 wn w jb h2 c O T:=by
 obtain⟨F,R,G,E,y,n,J,H,g,a,_,y0,e⟩:=L;exact⟨F,R,G,E,y,n,J,H,g,λk q=>(a k q).1,y0,e⟩
theorem LawX.below {w0 wn w w':World} {jb h2 b:Nat} {c:JobC} {O:Im} {T:List Mv} (L:LawX w0 wn w jb h2 b c O T) (hb:Below w.heap.size w w'):LawX w0 wn w' jb h2 b c O T:=by
 obtain⟨F,R,G,E,y,n,J,H,g,a,l,y0,e⟩:=L;exact⟨F,R,G,E,y,n,J.below hb,H.below hb,g.trans (zI hb _),a,Nat.lt_of_lt_of_le l hb.size,y0,e⟩
theorem LawT.beside {w0 wn w w':World} {jb h2:Nat} {c:JobC} {O:Im} {T:List Mv} (L:LawT w0 wn w jb h2 c O T) (hb:Below w.heap.size w w') (hs:w.heap.size<w'.heap.size):LawX w0 wn w' jb h2 w.heap.size c O T:=by
 obtain⟨F,R,G,E,y,n,J,H,g,a,y0,e⟩:=L;refine⟨F,R,G,E,y,n,J.below hb,H.below hb,g.trans (zI hb _),λk q=>⟨a k q,λe=>?_⟩,hs,y0,e⟩;obtain⟨pb,pc,cbk,cc,rb,rc,r,fx,RR⟩:=J.mem;rcases q with q|q|q
 ·have:=J.fhi k q;omega
 ·have:=RR.hi k q;omega
 ·have:=J.lt;omega
theorem LawX.turn {w0 wn w w':World} {jb h2 b:Nat} {c:JobC} {O:Im} {T:List Mv} (C:LawC w0 wn h2 c O) (L:LawX w0 wn w jb h2 b c O T) (hb:w.grownBy w' (some b)) (hw:wn.heap.size<=b):LawX w0 wn w' jb h2 b c O T:=by
 obtain⟨F,R,G,E,y,n,J,H,g,a,l,y0,e⟩:=L;have o:Off (λk=>k=b) w w':=⟨hb.os,hb.tape,hb.output,hb.size,λk hk hn=>hb.block k hk (λe=>hn (Option.some.inj e))⟩;have lg:=C.lg;have lh:=C.lh;have sz:=C.size;refine⟨F,R,G,E,y,n,J.off ⟨hb.os.trans J.bel.os,hb.tape.trans J.bel.tape,hb.output.trans J.bel.output,Nat.le_trans J.bel.size hb.size,λk hk=>?_⟩ o (λe=>(a jb (Or.inr (Or.inr rfl))).2 e) (λk q e=>(a k (Or.inl q)).2 e) (λk q e=>(a k (Or.inr (Or.inl q))).2 e),H.off o (λe=>?_) (λe=>?_),zds g o (λk q=>Or.inl (q ▸ hw)),a,Nat.lt_of_lt_of_le l hb.size,y0,e⟩
 ·exact(hb.block k (Nat.lt_of_lt_of_le hk J.bel.size) (λe=>by have:=Option.some.inj e;omega)).trans (J.bel.block k hk)
 ·have e2:c.g2=b:=e;omega
 ·have e2:h2=b:=e;omega
theorem zyg {w0 wn w:World} {jb h2 b:Nat} {c:JobC} {O:Im} {m:Mv} {T:List Mv} (C:LawC w0 wn h2 c O) (L:LawX w0 wn w jb h2 b c O (m :: T)) (hw:wn.heap.size<=b) :
  Calls Tryz.prog 21 #[.pointer (some ⟨jb,0,none⟩)] w λe w'=>e=.returned (mvV m)/\LawX w0 wn w' jb h2 b c O T/\w'.heap[b]?=w.heap[b]?:=by
 obtain⟨F,R,G,E,y,n,J,H,g,ax,lb,by0,e⟩:=L;have a:=λk q=>(ax k q).1
 have an:=λk q=>(ax k q).2
 cases n with
 |zero =>
  rw[zh6]at e
  cases e
 |succ n =>
  have K:=C.job;have hy:y<c.S.ly.length:=by have:=J.yn;have:=K.yh;omega
  obtain⟨k1,k2⟩:=zev J.st hy;have nj:jb≠h2:=λq=>by have:=a jb (Or.inr (Or.inr rfl));have:=C.lh;omega
  have nF:¬F h2:=λq=>by have:=a h2 (Or.inl q);have:=C.lh;omega
  have nR:¬R h2:=λq=>by have:=a h2 (Or.inr (Or.inl q));have:=C.lh;omega
  have ng:jb≠c.g2:=λq=>by have:=a jb (Or.inr (Or.inr rfl));have:=C.lg;omega
  by_cases hE:E<(ze c.S.ly y).1+((ze c.S.ly y).2.length:Int)
  ·obtain⟨s1,s2,-⟩:=k1 hE;rw[s1]at e;obtain⟨rfl,rfl⟩:=List.cons.inj e;refine(zf3 K J hE).mono ?_;rintro e w' ⟨rfl,R',J',o',s'⟩;refine⟨rfl,⟨F,R',G++[E],E+1,y,n+1,J',H.off o' (λq=>?_) (λq=>?_),zds g o' (λk q=>Or.inl ?_),λk q=>?_,Nat.lt_of_lt_of_le lb o'.size,by0,rfl⟩,o'.block b lb (λq=>?_)⟩
   ·rcases q with q|q
    ·have:=a _ (Or.inr (Or.inl q));have:=C.lg;omega
    ·exact ng q.symm
   ·rcases q with q|q
    ·exact nR q
    ·exact nj q.symm
   ·rcases q with q|q
    ·exact a k (Or.inr (Or.inl q))
    ·exact a k (Or.inr (Or.inr q))
   ·rcases q with q|q|q
    ·exact ax k (Or.inl q)
    ·rcases s' k q with q|q
     ·exact ax k (Or.inr (Or.inl q))
     ·exact⟨Nat.le_trans g.size q,λe=>Nat.lt_irrefl _ (Nat.lt_of_lt_of_le lb (e ▸ q))⟩
    ·exact ax k (Or.inr (Or.inr q))
   ·rcases q with q|q
    ·exact(ax b (Or.inr (Or.inl q))).2 rfl
    ·exact(ax jb (Or.inr (Or.inr rfl))).2 q.symm
  ·obtain⟨s1,s2,-⟩:=k2 hE;rw[s1]at e;obtain⟨rfl,rfl⟩:=List.cons.inj e;refine(zgs K J hE H C.ow C.oh C.oc C.ot nj nF nR C.base ng).mono ?_;rintro e w' ⟨rfl,F',R',J',H',o',f',s'⟩;have tm:=zhz (O:=O) (I:=c.I) (S:=c.S) (x0:=c.x0) (W:=c.W) (y0:=c.y0) (k:=y-c.y0);rw[show c.y0+(y-c.y0)=y by omega,show y-c.y0+1=y+1-c.y0 by omega]at tm;rw[tm]at H';refine⟨rfl,⟨F',R',G,E,y+1,n,J',H',zds g o' (λk q=>?_),λk q=>?_,Nat.lt_of_lt_of_le lb o'.size,by omega,rfl⟩,o'.block b lb (λq=>?_)⟩
   ·rcases q with q|q
    ·exact Or.inl (a k (Or.inr (Or.inr q)))
    ·exact Or.inr q
   ·rcases q with q|q|q
    ·rcases f' k q with q|q
     ·exact ax k (Or.inl q)
     ·exact⟨Nat.le_trans g.size (Nat.le_of_lt q),λe=>Nat.lt_irrefl _ (Nat.lt_trans lb (e ▸ q))⟩
    ·rcases s' k q with q|q
     ·exact ax k (Or.inr (Or.inl q))
     ·exact⟨Nat.le_trans g.size q,λe=>Nat.lt_irrefl _ (Nat.lt_of_lt_of_le lb (e ▸ q))⟩
    ·exact ax k (Or.inr (Or.inr q))
   ·rcases q with q|q
    ·exact(ax jb (Or.inr (Or.inr rfl))).2 q.symm
    ·have:=C.lh;omega
end Go.Proofs.YtlodkoimdoeopaaGreatDoor
namespace Go.Proofs.YtlodkoimdoeopaaGreatDoor
open Go.RowKit Go.Maps
theorem zd8 (L:List Value) (hl:L.length=20) (h1:L.toArray.all (·.oneCell')=true) (w':World):(storeCells ⟨w'.heap.size,0,none⟩ L 0).run Tryz.prog (w'.alloc (.cells #[.pointer none,.pointer none,.pointer none,.pointer none,.int .i64 0,.slice none 0 0,.slice none 0 0,.int .i64 0,.int .i64 0,.int .i64 0,.int .i64 0,.int .i64 0,.int .i64 0,.int .i64 0,.int .i64 0,.int .i64 0,.int .i64 0,.int .i64 0,.int .i64 0,.int .i64 0] 45))=.ok () (w'.alloc (.cells L.toArray 45)) :=
 run_storeCells_new w' 45 #[.pointer none,.pointer none,.pointer none,.pointer none,.int .i64 0,.slice none 0 0,.slice none 0 0,.int .i64 0,.int .i64 0,.int .i64 0,.int .i64 0,.int .i64 0,.int .i64 0,.int .i64 0,.int .i64 0,.int .i64 0,.int .i64 0,.int .i64 0,.int .i64 0,.int .i64 0] L.toArray (by rw[show(Tryz.prog.info? 45).map (·.size)=Option.some 20 by kernel_rfl];simp[hl]) (by simp[hl]) h1
theorem zm2 (k j:Int) (w':World):(storeCells ⟨w'.heap.size,0,none⟩ [.int .i64 k,.int .i64 j] 0).run Tryz.prog (w'.alloc (.cells #[.int .i64 0,.int .i64 0] 65))=.ok () (w'.alloc (.cells #[.int .i64 k,.int .i64 j] 65)) :=
 run_storeCells_new w' 65 #[.int .i64 0,.int .i64 0] #[.int .i64 k,.int .i64 j] (by kernel_rfl) rfl (by simp[Value.oneCell'])
def zbr (c:JobC) (gx px gy py:Nat):List Value :=
 [.pointer (some ⟨c.g,0,none⟩),.pointer (some ⟨c.g2,0,none⟩),.pointer (some c.ax),.pointer (some c.ay),.int .i64 c.S.sb,.slice (some ⟨gx,0,none⟩) c.S.lx.length px,.slice (some ⟨gy,0,none⟩) c.S.ly.length py,.int .i64 c.S.fx,.int .i64 c.S.fy,.int .i64 c.S.sb,.int .i64 0,.int .i64 (c.x0:Int),.int .i64 (c.y0:Int),.int .i64 (c.W:Int),.int .i64 (c.H:Int),.int .i64 0,.int .i64 0,.int .i64 0,.int .i64 0,.int .i64 0]
theorem zkE (c:JobC) (gx px gy py:Nat):(zbr c gx px gy py).toArray.all (·.oneCell')=true:=by
 unfold zbr
 simp[Value.oneCell']
theorem zoc {ls:List Wnd}:∀ {E j:Int},j ∈ zbJ E ls->∃ l ∈ ls,l.1<=j/\j<zY l:=by
 induction ls with
 |nil=>intro E j h;cases h
 |cons l r ih =>
  intro E j h;rcases List.mem_append.1 h with h|h
  ·obtain⟨_,b,d⟩:=zgy.1 h;exact⟨l,List.mem_cons_self ..,b,d⟩
  ·obtain⟨m,hm,q⟩:=ih h;exact⟨m,List.mem_cons_of_mem _ hm,q⟩
theorem zrK {w0:World} {c:JobC} (K:JobK w0 c) {A B:List Mv} {j:Int} (h:A++(1,j) :: B=c.steps) : -9223372036854775808<=j/\j<=9223372036854775807:=by
 have m:j ∈ zbJ (ze c.S.ly c.y0).1 (c.ls c.y0 c.H):=by
  rw[←zgR _ (c.y0:Int)];have:zO (ze c.S.ly c.y0).1 (c.y0:Int) (c.ls c.y0 c.H)=A++(1,j) :: B:=h.symm;rw[this,zbH];exact List.mem_append_right _ (List.mem_cons_self ..)
 obtain⟨l,hl,a,b⟩:=zoc m;unfold JobC.ls at hl;obtain⟨k,_,k1,rfl⟩:=zgh hl;have yh:=K.yh;obtain⟨e1,e2,e3,e4,_⟩:=K.ty.ok.1 k (by omega);unfold zY at b;simp only at a b;omega
theorem zpv {w0:World} {c:JobC} (K:JobK w0 c):za0 c.steps=c.H:=by
 have yh:=K.yh;unfold JobC.steps;rw[zlW];unfold JobC.ls zaM;rw[List.length_take,List.length_drop,List.length_map];omega
attribute [-go_sem] storeCells in
set_option maxHeartbeats 8000000 in
set_option maxRecDepth 100000 in
theorem zkC (q:Pic) (pd:Option Addr) (pc:Nat) (o:Opr) (ax:Option Addr) (cx:Nat) (ay:Option Addr) (cy:Nat) (x y u v:Int) (w:World) (hk:OpK w) (hp:PicAt w q pd pc/\zeW q) (hA:OpAt w o ax cx ay cy/\OpFits o)
  (hx:0<=x/\x<=255) (hy:0<=y/\y<=255) (hu:0<=u/\u<=255) (hv:0<=v/\v<=255) :
  Calls Tryz.prog 6 #[zeM q pd pc,opV o ax cx ay cy,.int .u8 x,.int .u8 y,.int .u8 u,.int .u8 v] w λe w'=>e=.returned (.bool true)/\Below w.heap.size w w':=by
 have K0:=za (λw' (b:Below w.heap.size w w')=>zaE _ _ hk b);have CL:=λw' (b:Below w.heap.size w w')=>zgw w' (K0.out w' b)
 have CB:=λw' (b:Below w.heap.size w w')=>zie q pd pc o ax cx ay cy x y u v w' (K0.out w' b) ⟨hp.1.below b,hp.2⟩ ⟨hA.1.below b,hA.2⟩ hx hy hu hv
 obtain⟨pw,ph,pcc,pm,pl⟩:=q;obtain⟨W0,hW0⟩:∃ W0,(w.alloc (.cells #[.int .u16 pw,.int .u16 ph,.int .u16 pcc,.int .u16 pm,.slice pd pl.length pc] 25)).alloc (.cells #[.int .i64 o.kd,.int .i64 o.bd,.int .i64 o.sg,.int .i64 o.rd,.slice ax o.xs.length cx,.slice ay o.ys.length cy,.int .i64 o.fl,.int .i64 o.wd,.int .i64 o.ht] 31)=W0:=⟨_,rfl⟩;have P0:=za (show S5 W0 w.heap.size (.int .u16 pw) (.int .u16 ph) (.int .u16 pcc) (.int .u16 pm) (.slice pd pl.length pc) from hW0 ▸ ((S5.new w 25 (.int .u16 pw) (.int .u16 ph) (.int .u16 pcc) (.int .u16 pm) (.slice pd pl.length pc)).below (zg _ _)));have O0:=za (show P9 W0 (w.heap.size+1) o.kd o.bd o.sg o.rd (.slice ax o.xs.length cx) (.slice ay o.ys.length cy) o.fl o.wd o.ht from hW0 ▸ (by
  simpa using P9.new (w.alloc (.cells #[.int .u16 pw,.int .u16 ph,.int .u16 pcc,.int .u16 pm,.slice pd pl.length pc] 25)) 31 o.kd o.bd o.sg o.rd (.slice ax o.xs.length cx) (.slice ay o.ys.length cy) o.fl o.wd o.ht))
 have B0:=za (show Below w.heap.size w W0 from hW0 ▸ ba (zg w _) _);have HW0:=za hW0;have SZ:=zd8 [.pointer none,.pointer none,.pointer none,.pointer none,.int .i64 0,.slice none 0 0,.slice none 0 0,.int .i64 0,.int .i64 0,.int .i64 0,.int .i64 0,.int .i64 0,.int .i64 0,.int .i64 0,.int .i64 0,.int .i64 0,.int .i64 0,.int .i64 0,.int .i64 0,.int .i64 0] rfl (by simp[Value.oneCell']);have SY:=λc gx px gy py=>zd8 (zbr c gx px gy py) rfl (zkE c gx px gy py)
 have SM:=zm2;have hmm:=@run_makeMap Tryz.prog;have q1:∀ (a:Addr) (w:World),(binOp .eql 49 (.pointer (some a)) (.pointer none)).run Tryz.prog w=.ok (.bool false) w:=λa w=>by kernel_rfl
 unfold zbr at SY;unfold zkb zkQ zeM opV at CB;unfold zeM opV;clear hk hp hA hW0 hx hy hu hv;obtain⟨kd,bo,sg,rd,xs,ys,fl,wd,ht⟩:=o;simp only at P0 O0 B0 HW0 CB;generalize hnx:xs.length=nx at *;generalize hny:ys.length=ny at *;clear hnx hny
 go_enter Tryz.func6,Tryz.ntmps6
 go_upto_region 1 with fail
 rw[HW0.out];clear HW0
 go_upto_region 3 with(go_at_call 8;(with_reducible refine(CL _ B0.out).mono ?_);rintro e w1 ⟨rfl,b1⟩;have B1:=za (bt B0.out b1);obtain⟨⟨p0,_⟩,⟨p1,_⟩,⟨p2,_⟩,⟨p3,_⟩,⟨p4,_⟩⟩:=P0.out.below b1;obtain⟨o0,o1,o2,o3,o4,o5,o6,o7,o8⟩:=O0.out.below b1)
 have q0:∀ (a b:Value) (w:World),(Instr.field 65 (.agg #[a,b]) 0).run Tryz.prog w=.ok a w:=λa b w=>by kernel_rfl
 go_wp2_with (go_at_call 9;(with_reducible refine(CB _ B1.out).mono ?_);rintro e w2 ⟨rfl|⟨w0,c,h2,gx,px,gy,py,O,rfl,BG⟩,b2⟩;have B2:=za (bt B1.out b2))
 ·go_ret;exact⟨rfl,ba (bt B1.out b2) _⟩
 have HB:=za BG;obtain⟨W3,hW3⟩:∃ W3,w2.alloc (.cells #[.pointer (some ⟨c.g,0,none⟩),.pointer (some ⟨c.g2,0,none⟩),.pointer (some c.ax),.pointer (some c.ay),.int .i64 c.S.sb,.slice (some ⟨gx,0,none⟩) c.S.lx.length px,.slice (some ⟨gy,0,none⟩) c.S.ly.length py,.int .i64 c.S.fx,.int .i64 c.S.fy,.int .i64 c.S.sb,.int .i64 0,.int .i64 (c.x0:Int),.int .i64 (c.y0:Int),.int .i64 (c.W:Int),.int .i64 (c.H:Int),.int .i64 0,.int .i64 0,.int .i64 0,.int .i64 0,.int .i64 0] 45)=W3:=⟨_,rfl⟩;have XB:=za (show CellsAt W3 w2.heap.size (zbr c gx px gy py) from hW3 ▸ CellsAt.new w2 (zbr c gx px gy py) _);have E3:=za (show Below w2.heap.size w2 W3 from hW3 ▸ zg w2 _);have L3:=za (show w2.heap.size<W3.heap.size from by rw[←hW3];simp);have B3:=za (show Below w.heap.size w W3 from hW3 ▸ ba (bt B1.out b2) _);have CN:=zpE BG E3.out;clear CB CL SZ SY p0 p1 p2 p3 p4 o0 o1 o2 o3 o4 o5 o6 o7 o8 b2 BG;rw[hW3];clear hW3;have X0:=XB.out 0 _ rfl;obtain⟨bx,hbx⟩:∃ bx,w2.heap.size=bx:=⟨_,rfl⟩;have HBX:=za hbx
 go_upto_region 9 with(go_at_call 11;(with_reducible refine CN.mono ?_);rintro e w4 ⟨jb,rfl,LC,LT,-⟩;have HC:=za LC;have HT:=za LT;clear LC LT)
 clear X0 hbx CN;have G4:=za HT.out.grown;have s34:=G4.out.size;have h2x:some w2.heap.size≠some h2:=λe=>by have:=Option.some.inj e;have:=HB.out.tgt.lt.2;omega
 have z12:=cg G4.out h2x (XB.out 12 _ rfl);rw[HBX.out]at z12;have MM:=za (show SeenM (w4.alloc (.map #[] 0)) w4.heap.size 0 [] from⟨_,World.ownsMap_made w4 Tryz.prog 2 (plainElem (H:=Unit) Tryz.prog 3),λj h=>by cases h⟩);have HX:=za (HT.out.beside (zg w4 (.map #[] 0)) (by simp));have z12':=ca (ob:=.map #[] 0) (zf z12) z12;clear z12
 go_upto_region 11 with fail
 obtain⟨mb,hmb⟩:∃ mb,w4.heap.size=mb:=⟨_,rfl⟩;have LM:=za (show W3.heap.size<=mb from hmb ▸ s34);rw[hmb]at MM HX;simp only[hmb];clear z12' s34 hmm h2x hmb;have FEW:=za (zwq HB.out);have W3S:=za (show c.y0<=65536/\c.H<=65536 from by have:=HC.out.job.yh;have:=HC.out.job.ty.ok.2.2.1;omega);go_wp2
 go_loopg [59,18,19,20] c.steps.length (λr s59 s18 s19 s20 wr=>∃ (A B:List Mv) (k n:Nat) (first:Bool) (last:Int),A++B=c.steps/\k+r=c.steps.length/\B.length=r/\A.length=k/\s59=.int .i64 (k:Int)/\s18=.int .i64 ((c.y0:Int)+(za0 A:Int))/\s19=.int .i64 last/\s20=.bool first/\(first=false->last ∈ zcw A)/\LawX w0 W3 wr jb h2 mb c O B/\SeenM wr mb n (zcw A)/\n<=k)
 case atStart=>exact⟨[],c.steps,0,0,true,0,rfl,by omega,rfl,rfl,rfl,by simp[za0],rfl,rfl,(λe=>by cases e),HX.out,MM.out,Nat.le_refl _⟩
 case round =>
  obtain⟨A,B,k,n,first,last,hAB,hkr,hB,hA,rfl,rfl,rfl,rfl,hlast,hL,hM,hn⟩:=hrel;have few:=FEW.out;have hk9:k<20000:=by omega
  have hkI:(k:Int)<20000:=by omega
  have wl:za0 A<=k:=by rw[←hA];exact List.length_filter_le _ _
  obtain⟨y9,y8⟩:=W3S.out
  cases B with
  |nil =>
   have eA:A=c.steps:=by rw[←hAB,List.append_nil]
   have eW:(za0 A:Int)=(c.H:Int):=by rw[eA,zpv HC.out.job]
   have CS:=zfG HC.out hL.law;unfold mvV at CS;have CE:=λw' (hL:LawT w0 W3 w' jb h2 c O [])=>zyE HC.out hL
   unfold mvV at CE;simp only[List.headD_nil]at CE;have EW:=za eW;clear hL hM hlast hAB hkr hB hA hn few wl eA eW
   go_upto_region 24 with(go_at_call 21;(with_reducible refine CS.mono ?_);rintro e w8 ⟨rfl,l8⟩;have HL8:=za (l8.below (zg w8 (.cells #[.int .i64 0,.int .i64 0] 65)));clear l8)
   have hx2:some w2.heap.size≠some h2:=λe=>by have:=Option.some.inj e;have:=HB.out.tgt.lt.2;omega
   have z12:=cg HL8.out.grown hx2 (XB.out 12 _ rfl);have z14:=cg HL8.out.grown hx2 (XB.out 14 _ rfl);rw[HBX.out]at z12 z14;rw[EW.out];clear hx2
   go_wp2_with (go_at_call 20;(with_reducible refine(CE _ HL8.out).mono ?_);rintro e w9 ⟨rfl,l9⟩;have HL9:=za l9;clear l9)
   go_ret;exact⟨rfl,bt B1.out (bt HB.out.bel0 HL9.out.base)⟩
  |cons m B =>
   obtain⟨mk,mr⟩:=m;have CS:=zyg HC.out hL LM.out;unfold mvV at CS;simp only at CS;have hst:zO (ze c.S.ly c.y0).1 (c.y0:Int) (c.ls c.y0 c.H)=A++(mk,mr) :: B:=hAB.symm;have hmem:(mk,mr) ∈ zO (ze c.S.ly c.y0).1 (c.y0:Int) (c.ls c.y0 c.H):=by rw[hst];simp
   rcases zqM hmem with hk1|hk2
   ·have e1:mk=1:=hk1;subst e1;have hlt:=zjP hst;have rin:=zrK HC.out.job hAB;have HA:=za (And.intro hAB (And.intro hkr (And.intro hB (And.intro hA (And.intro hlast (And.intro hn (And.intro hlt rin)))))));have HM:=za hM;clear hst hmem hk1 hL hAB hkr hB hA hlt rin hn hM few
    go_upto_region 19 with(go_at_call 21;(with_reducible refine CS.mono ?_);rintro e w8 ⟨rfl,l8,s8⟩;have HL8:=za l8;have HM8:=za ((HM.out.same s8).kept (zI (zg w8 (.cells #[.int .i64 1,.int .i64 mr] 65)) none) (by simp));clear l8 s8)
    have mlt:mb<w8.heap.size:=by
     obtain⟨_,_,_,_,_,_,_,_,_,_,l,_⟩:=HL8.out;exact l
    obtain⟨w9,r1,r2,r3,hM9,g9⟩:=zty HM8.out (by have:=HA.out.2.2.2.2.2.1;unfold maxLen;omega) HA.out.2.2.2.2.2.2.2.1 HA.out.2.2.2.2.2.2.2.2 (λh=>Int.lt_irrefl _ (HA.out.2.2.2.2.2.2.1 _ h));have c0:=cg g9 (b:=w8.heap.size) (o:=0) (v:=.int .i64 1) (by intro e;have:=Option.some.inj e;omega) (by simp);have c1:=cg g9 (b:=w8.heap.size) (o:=1) (v:=.int .i64 mr) (by intro e;have:=Option.some.inj e;omega) (by simp);have HM9:=za hM9;have HL9:=za ((HL8.out.below (zg w8 (.cells #[.int .i64 1,.int .i64 mr] 65))).turn HC.out g9 LM.out);clear hM9 g9 mlt
    cases first with
    |true =>
     go_wp2
     go_roundg (gk-1)
     case measure=>have h1:=HA.out.2.2.1;simp at h1;omega
     case rel =>
      obtain⟨hAB,hkr,hB,hA,hlast,hn,_⟩:=HA.out;simp at hB;exact⟨A++[(1,mr)],B,k+1,n+1,false,mr,by rw[←hAB];simp,by omega,by omega,by simp[hA],by go_num,by rw[zgr,zly,Nat.add_zero],rfl,rfl,(λ_=>by rw[zbH,zfr];simp),HL9.out,by rw[zbH,zfr];exact HM9.out,by omega⟩
    |false =>
     have hmr:last<mr:=HA.out.2.2.2.2.2.2.1 _ (HA.out.2.2.2.2.1 rfl);clear hlast;go_wp2
     go_roundg (gk-1)
     case measure=>have h1:=HA.out.2.2.1;simp at h1;omega
     case rel =>
      obtain⟨hAB,hkr,hB,hA,hlast,hn,_⟩:=HA.out;simp at hB;exact⟨A++[(1,mr)],B,k+1,n+1,false,mr,by rw[←hAB];simp,by omega,by omega,by simp[hA],by go_num,by rw[zgr,zly,Nat.add_zero],rfl,rfl,(λ_=>by rw[zbH,zfr];simp),HL9.out,by rw[zbH,zfr];exact HM9.out,by omega⟩
   ·have e2:mk=2:=hk2;subst e2;have hrow:=zkO hst;subst hrow;have HA:=za (And.intro hAB (And.intro hkr (And.intro hB (And.intro hA (And.intro hlast hn)))));have HM:=za hM;clear hst hmem hk2 hL hAB hkr hB hA hlast hn hM few
    go_wp2_with (go_at_call 21;(with_reducible refine CS.mono ?_);rintro e w8 ⟨rfl,l8,s8⟩;have HL8:=za l8;have HM8:=za (HM.out.same s8);clear l8 s8)
    go_roundg (gk-1)
    case measure=>have h1:=HA.out.2.2.1;simp at h1;omega
    case rel =>
     obtain⟨hAB,hkr,hB,hA,hlast,hn⟩:=HA.out;simp at hB;exact⟨A++[(2,(c.y0:Int)+(za0 A:Int))],B,k+1,n,first,last,by rw[←hAB];simp,by omega,by omega,by simp[hA],by go_num,by rw[zgr,show za0 [((2:Int),(c.y0:Int)+(za0 A:Int))]=1 from rfl];go_num,rfl,rfl,by rw[zbH,zjZ,List.append_nil];exact hlast,HL8.out.below (zg _ _),by rw[zbH,zjZ,List.append_nil];exact HM8.out.kept (zI (zg _ _) none) (by simp),by omega⟩
end Go.Proofs.YtlodkoimdoeopaaGreatDoor
namespace Go.Proofs.YtlodkoimdoeopaaGreatDoor
open Go.ChangeShapes Go.WideShapes Go.ChangeAt Go.WideMaps Go.WideElems Go.RowKit
theorem gKinds : Tryz.prog.globalNamed "smalto/raw.kinds" = some 1 := by kernel_rfl
theorem tKinds:(Tryz.prog.globals[1]?).map (·.type)=some 212:=by kernel_rfl
theorem zp4:Tryz.prog.cellsOf 212=6:=by kernel_rfl
theorem zsR:Tryz.prog.cellsOf 211=2:=by kernel_rfl
theorem ztk:Tryz.prog.cellsOf 9=1:=by kernel_rfl
theorem zsp:Tryz.prog.cellsOf 2=1:=by kernel_rfl
theorem zjW {s:ByteArray} {l:List UInt8} (h:s.data.toList=l):s=⟨l.toArray⟩:=by
 subst h;rfl
theorem zhk {H:Type} {enc:TypeId×Value->H} {w:World} {base:Nat} {sp:Nat->Bool} {held:Bool} {fuel:Nat} {a b:Value} {l:List UInt8} {n:Int} {y:DataW H×List MemPlace}
  (h:DataW.trod enc Tryz.prog w base sp held fuel 211 [a,b]=some y) (hy:y.1=.agg [.lit (.string l),.lit (.int .i64 n)]):a=.string ⟨l.toArray⟩/\b=.int .i64 n:=by
 obtain⟨y0,y1,m,rfl,_,h0,h1⟩:=trod_struct2 Tryz.underlying211 h
 simp[ztk,zsp]at h0 h1 hy
 obtain⟨s,e0,rfl,_⟩:=DataW.trod_string Tryz.underlying9 h0;obtain⟨k,e1,rfl,_⟩:=DataW.trod_int Tryz.underlying2 h1;simp at e0 e1 hy;obtain⟨g0,rfl⟩:=hy;exact⟨by rw[e0,zjW g0],e1⟩
set_option maxRecDepth 100000 in
theorem zoU {H:Type} {enc:TypeId×Value->H} {w:World} {base:Nat} {sp:Nat->Bool} {held:Bool} {fuel:Nat} {cs:Array Value} {p:List MemPlace}
  (h:DataW.trod enc Tryz.prog w base sp held fuel 212 cs.toList=some (Rows.laid_smalto_raw_kinds,p)) :
  cs=#[.string ⟨#[98,111,120]⟩,.int .i64 0,.string ⟨#[99,117,98,105,99]⟩,.int .i64 2,.string ⟨#[108,97,110,99,122,111,115]⟩,.int .i64 3]:=by
 obtain⟨l⟩:=cs;obtain⟨xs,m,rfl,hx,hl,hn,he⟩:=DataW.trod_array Tryz.underlying212 h;rw[zp4]at hl;rw[zsR]at he;obtain⟨c0,c1,c2,c3,c4,c5,rfl⟩:∃ c0 c1 c2 c3 c4 c5,l=[c0,c1,c2,c3,c4,c5]:=by
  match l,hl with
  |[a,b,c,d,e,f],_=>exact⟨a,b,c,d,e,f,rfl⟩
 obtain⟨y0,y1,y2,rfl⟩:∃ y0 y1 y2,xs=[y0,y1,y2]:=by
  match xs,hn with
  |[a,b,c],_=>exact⟨a,b,c,rfl⟩
 have h0:=he 0 (by omega);have h1:=he 1 (by omega);have h2:=he 2 (by omega);simp at h0 h1 h2
 simp[Rows.laid_smalto_raw_kinds]at hx
 obtain⟨⟨g0,g1,g2⟩,_⟩:=hx;obtain⟨rfl,rfl⟩:=zhk h0 g0.symm;obtain⟨rfl,rfl⟩:=zhk h1 g1.symm;obtain⟨rfl,rfl⟩:=zhk h2 g2.symm;rfl
def zcJ {H : Type} : List (String × DataW H) := [("smalto/border.names", Rows.laid_smalto_border_names), ("smalto/raw.kinds", Rows.laid_smalto_raw_kinds)]
theorem zhq (os:Os) (args:Array Value):laidMetH Tryz.prog zcJ ((World.doorLaid Tryz.prog 400 os).forCall (λ_ _=>0) ⟨#[],args,[]⟩).memory :=
 laidMetH_of_parts3 (fuel:=8) (laidMet_of_run' 8 (by kernel_rfl) (by kernel_rfl)) (by kernel_rfl) (by kernel_rfl)
theorem zgt {W:World} (h:laidMetH Tryz.prog zcJ W):OpK W:=by
 rw[MakeChecks.laidMetH_plain _ _ _ (by kernel_rfl)]at h;obtain⟨ps,⟨g0,t0,cs0,f0,p0,q0,hg0,ht0,hv0,hd0,⟨g1,t1,cs1,f1,p1,q1,hg1,ht1,hv1,hd1,_,_⟩,_⟩,_,_⟩:=h;obtain rfl:=Option.some.inj (gNamesE.symm.trans hg0);obtain rfl:=Option.some.inj (tNamesE.symm.trans ht0);obtain rfl:=zn8 hd0;obtain rfl:=Option.some.inj (gKinds.symm.trans hg1);obtain rfl:=Option.some.inj (tKinds.symm.trans ht1);obtain rfl:=zoU hd1;exact⟨⟨World.var?_cell hg1 hv1 0,World.var?_cell hg1 hv1 1,World.var?_cell hg1 hv1 2,World.var?_cell hg1 hv1 3,World.var?_cell hg1 hv1 4,World.var?_cell hg1 hv1 5⟩,World.var?_cell hg0 hv0 0,World.var?_cell hg0 hv0 1,World.var?_cell hg0 hv0 2⟩
end Go.Proofs.YtlodkoimdoeopaaGreatDoor
