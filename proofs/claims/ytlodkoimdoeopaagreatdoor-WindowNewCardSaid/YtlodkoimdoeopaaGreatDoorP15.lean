/- Parts, joined. -/
import Derived.Test.YtlodkoimdoeopaaGreatDoorP01
import Derived.Test.YtlodkoimdoeopaaGreatDoorP14
import Derived.Test.YtlodkoimdoeopaaGreatDoorP02
import Derived.Shelf.Abstract
import Derived.Deep.LoopGhost
import Derived.Deep.RegionLaw
import Derived.Laws.CopyOwn
namespace Go.Proofs.YtlodkoimdoeopaaGreatDoor
def swp (h:List Int) (i j:Nat):List Int:=(h.set i (h.getD j 0)).set j (h.getD i 0)
theorem zjO (h:List Int) (i j:Nat):(swp h i j).length=h.length:=by unfold swp;simp
theorem zjD (h:List Int) (i k:Nat) (x:Int) (hi:i<h.length):(h.set i x).getD k 0=if k=i then x else h.getD k 0:=by
 rw[List.getD_eq_getElem?_getD,List.getD_eq_getElem?_getD]
 by_cases e:k=i
 ·subst e;rw[List.getElem?_set_self hi,if_pos rfl];rfl
 ·rw[List.getElem?_set_ne (λg=>e g.symm),if_neg e]
theorem zhs (h:List Int) {i j:Nat} (hi:i<h.length) (hj:j<h.length) (k:Nat):(swp h i j).getD k 0=if k=j then h.getD i 0 else if k=i then h.getD j 0 else h.getD k 0:=by
 unfold swp;rw[zjD _ _ _ _ (by simpa using hj),zjD _ _ _ _ hi]
theorem zjk (h:List Int) {i j:Nat} (hi:i<h.length) (hj:j<h.length):(swp h i j).Perm h:=by
 have e:swp h i j=(h.toArray.swap i j (by simpa using hi) (by simpa using hj)).toList:=by
  rw[Array.swap_def];unfold swp
  simp[List.getD_eq_getElem?_getD,List.getElem?_eq_getElem hi,List.getElem?_eq_getElem hj]
 rw[e];have:=Array.swap_perm (xs:=h.toArray) (i:=i) (j:=j) (by simpa using hi) (by simpa using hj);exact Array.perm_iff_toList_perm.1 this
def zbL (h:List Int) (n:Nat):Prop:=∀ k,0<k->k<n->h.getD ((k-1) / 2) 0<=h.getD k 0
def zkA (h:List Int) (n j:Nat):Prop:=(∀ k,0<k->k<n->k≠j->h.getD ((k-1) / 2) 0<=h.getD k 0)/\(0<j->∀ k,0<k->k<n->(k-1) / 2=j->h.getD ((j-1) / 2) 0<=h.getD k 0)
def zjw (h:List Int) (n i:Nat):Prop:=(∀ k,0<k->k<n->(k-1) / 2≠i->h.getD ((k-1) / 2) 0<=h.getD k 0)/\(0<i->∀ k,0<k->k<n->(k-1) / 2=i->h.getD ((i-1) / 2) 0<=h.getD k 0)
theorem ztg {h:List Int} {n j:Nat} (hu:zkA h n j) (he:j=0\/h.getD ((j-1) / 2) 0<=h.getD j 0):zbL h n:=by
 intro k hk hn
 by_cases e:k=j
 ·subst e;rcases he with he|he
  ·omega
  ·exact he
 ·exact hu.1 k hk hn e
theorem zw5 {h:List Int} {n j:Nat} (hl:n<=h.length) (hj:j<n) (h0:0<j) (hu:zkA h n j) (hlt:h.getD j 0<h.getD ((j-1) / 2) 0):zkA (swp h ((j-1) / 2) j) n ((j-1) / 2):=by
 have hp:(j-1) / 2<j:=by omega
 generalize hpe:(j-1) / 2=p at *;have hS:=zhs h (i:=p) (j:=j) (by omega) (by omega);obtain⟨u1,u2⟩:=hu;refine⟨λk hk hn hne=>?_,λhp0 k hk hn hkp=>?_⟩
 ·rw[hS,hS]
  by_cases e:k=j
  ·subst e;rw[hpe,if_pos rfl,if_neg (by omega),if_pos rfl];omega
  ·rw[if_neg e,if_neg hne];have a:=u1 k hk hn e
   by_cases e1:(k-1) / 2=j
   ·rw[if_pos e1];have b:=u2 h0 k hk hn e1;rw[hpe]at b;exact b
   ·rw[if_neg e1]
    by_cases e2:(k-1) / 2=p
    ·rw[if_pos e2];rw[e2]at a;omega
    ·rw[if_neg e2];exact a
 ·have a:=u1 p hp0 (by omega) (by omega);rw[hS,hS,if_neg (by omega),if_neg (by omega)]
  by_cases e:k=j
  ·subst e;rw[if_pos rfl];exact a
  ·rw[if_neg e,if_neg (by omega)];have b:=u1 k hk hn e;rw[hkp]at b;omega
theorem zx1 {h:List Int} {n i:Nat} (hd:zjw h n i) (he:∀ k,0<k->k<n->(k-1) / 2=i->h.getD i 0<=h.getD k 0):zbL h n:=by
 intro k hk hn
 by_cases e:(k-1) / 2=i
 ·rw[e];exact he k hk hn e
 ·exact hd.1 k hk hn e
theorem zwt {h:List Int} {n i j:Nat} (hl:n<=h.length) (hj:j<n) (h0:0<j) (hji:(j-1) / 2=i) (hd:zjw h n i) (hlt:h.getD j 0<=h.getD i 0) (hm:∀ k,0<k->k<n->(k-1) / 2=i->h.getD j 0<=h.getD k 0):zjw (swp h i j) n j:=by
 have hS:=zhs h (i:=i) (j:=j) (by omega) (by omega);obtain⟨d1,d2⟩:=hd;refine⟨λk hk hn hne=>?_,λ_ k hk hn hkj=>?_⟩
 ·rw[hS,hS]
  by_cases e:k=j
  ·subst e;rw[hji,if_neg (by omega),if_pos rfl,if_pos rfl];exact hlt
  ·rw[if_neg e,if_neg hne]
   by_cases e1:(k-1) / 2=i
   ·rw[if_pos e1,if_neg (by omega)];exact hm k hk hn e1
   ·rw[if_neg e1];have a:=d1 k hk hn e1
    by_cases e2:k=i
    ·subst e2;rw[if_pos rfl];exact d2 (by omega) j h0 hj hji
    ·rw[if_neg e2];exact a
 ·rw[hS,hS,hji,if_neg (by omega),if_pos rfl,if_neg (by omega),if_neg (by omega)];have a:=d1 k hk hn (by omega);rw[hkj]at a;exact a
theorem zrc {h:List Int} {n:Nat} (hh:zbL h n):∀ k,k<n->h.getD 0 0<=h.getD k 0:=by
 intro k
 induction k using Nat.strongRecOn with
 |ind k ih =>
  intro hn
  by_cases e:k=0
  ·subst e;exact Int.le_refl _
  ·have a:=hh k (by omega) hn;have b:=ih ((k-1) / 2) (by omega) (by omega);omega
theorem zrQ {h:List Int} {n:Nat} (hn:h.length=n) (hh:zbL h n) (x:Int):zkA (h++[x]) (n+1) n:=by
 have old:∀ k,k<n->(h++[x]).getD k 0=h.getD k 0:=λk hk=>by
  rw[List.getD_eq_getElem?_getD,List.getD_eq_getElem?_getD,List.getElem?_append_left (by omega)]
 refine⟨λk hk hkn hne=>?_,λ_ k hk hkn hkp=>?_⟩
 ·rw[old k (by omega),old _ (by omega)];exact hh k hk (by omega)
 ·omega
theorem ztm {h:List Int} {n:Nat} (hn:h.length=n+1) (hh:zbL h (n+1)):zjw (swp h 0 n) n 0:=by
 have hS:=zhs h (i:=0) (j:=n) (by omega) (by omega);refine⟨λk hk hkn hne=>?_,λh0=>absurd h0 (by omega)⟩;rw[hS,hS,if_neg (by omega),if_neg (by omega),if_neg (by omega),if_neg (by omega)];exact hh k hk (by omega)
theorem zut:zbL [] 0:=λ_ _ h=>absurd h (Nat.not_lt_zero _)
theorem zlb (h:List Int) {n k:Nat} (hk:k<n):(h.take n).getD k 0=h.getD k 0:=by
 rw[List.getD_eq_getElem?_getD,List.getD_eq_getElem?_getD,List.getElem?_take,if_pos hk]
theorem ztq {h:List Int} {n:Nat} (hh:zbL h n):zbL (h.take n) n:=by
 intro k hk hn;rw[zlb h hn,zlb h (by omega)];exact hh k hk hn
theorem zsE {h h':List Int} {n:Nat} (hp:h'.Perm h) (he:h'.drop n=h.drop n):(h'.take n).Perm (h.take n):=by
 have a:(h'.take n++h'.drop n).Perm (h.take n++h.drop n):=by rw[List.take_append_drop,List.take_append_drop];exact hp
 rw[he]at a;exact(List.perm_append_right_iff _).1 a
theorem zvM {h:List Int} {i j n:Nat} (hi:i<n) (hj:j<n):(swp h i j).drop n=h.drop n:=by
 unfold swp;rw[List.drop_set_of_lt hj,List.drop_set_of_lt hi]
theorem ztL {h:List Int} {n:Nat} (hn:h.length=n+1):(swp h 0 n).getD n 0=h.getD 0 0/\((swp h 0 n).take n++[h.getD 0 0]).Perm h:=by
 have hS:=zhs h (i:=0) (j:=n) (by omega) (by omega);have a:(swp h 0 n).getD n 0=h.getD 0 0:=by rw[hS,if_pos rfl]
 refine⟨a,?_⟩;have e:(swp h 0 n)=(swp h 0 n).take n++[h.getD 0 0]:=by
  have hl:(swp h 0 n).length=n+1:=by rw[zjO,hn]
  rw[←a,←List.take_append_drop n (swp h 0 n)]
  congr 1
  ·rw[List.take_append_drop]
  ·rw[List.take_append_drop,List.drop_eq_getElem_cons (by omega),List.drop_of_length_le (by omega),List.getD_eq_getElem?_getD,List.getElem?_eq_getElem (by omega)];rfl
 rw[←e];exact zjk h (by omega) (by omega)
end Go.Proofs.YtlodkoimdoeopaaGreatDoor
namespace Go.Proofs.YtlodkoimdoeopaaGreatDoor
open Go.RowKit
theorem znY {r:Nat} {v:Value} {w:World} (h:w.cell? ⟨r,3,none⟩=some v):(loadVar 191 ⟨r,3,none⟩).run Tryz.prog w=.ok v w:=by
 simp[loadVar,h]
theorem zqL (P:Program) (ts:Array TypeId) (ty:TypeId) (a:Addr) (s s':ByteArray) (w:World):(Builtin.ssaWrapNilChk_ ts ty #[.pointer (some a),.string s,.string s']).run P w=.ok (.pointer (some a)) w:=rfl
theorem zhP {P:Program} {t e:TypeId} {name:String} {f:FuncId} (n:Nat)
  (hi:(P.info? t).map (λi=>(i.methods.find? (·.name == name)).map (λm=>(m.path,m.func)))=some (some (#[],some (f,false)))) (ht:P.underlying t=some (.pointer e)) {a:Addr} {v:Value} {w:World} (hl:(loadVar e a).run P w=.ok v w) :
  Sem.run P (method (n+1) t (.pointer (some a)) name) w=.ok (f,v) w:=by
 rcases hI:P.info? t with _|i
 ·rw[hI]at hi;cases hi
 ·rw[hI]at hi;rcases hM:i.methods.find? (·.name == name)with _|m
  ·rw[Option.map_some,hM]at hi;cases hi
  ·rw[Option.map_some,hM,Option.map_some]at hi;simp only[Option.some.injEq,Prod.mk.injEq]at hi;obtain⟨hp,hf⟩:=hi;have hT:(typeInfo t).run P w=.ok i w:=by simp[typeInfo,hI]
   simp[method,hT,hM,hp,hf,follow,receiverAt,run_underlying ht,zqL,strVal,Place.get,hl,asAddr,Result.andThen]
theorem zk8 {P:Program} {t e:TypeId} {name:String} {f:FuncId} (n:Nat)
  (hi:(P.info? t).map (λi=>(i.methods.find? (·.name == name)).map (λm=>(m.path,m.func)))=some (some (#[],some (f,true)))) (ht:P.underlying t=some (.pointer e)) {a:Addr} {w:World} :
  Sem.run P (method (n+1) t (.pointer (some a)) name) w=.ok (f,.pointer (some a)) w:=by
 rcases hI:P.info? t with _|i
 ·rw[hI]at hi;cases hi
 ·rw[hI]at hi;rcases hM:i.methods.find? (·.name == name)with _|m
  ·rw[Option.map_some,hM]at hi;cases hi
  ·rw[Option.map_some,hM,Option.map_some]at hi;simp only[Option.some.injEq,Prod.mk.injEq]at hi;obtain⟨hp,hf⟩:=hi;have hT:(typeInfo t).run P w=.ok i w:=by simp[typeInfo,hI]
   simp[method,hT,hM,hp,hf,follow,receiverAt,run_underlying ht,Place.get,Result.andThen]
theorem znU {r : Nat} {v : Value} {w : World} (h : w.cell? ⟨r, 3, none⟩ = some v) (n : Nat) : Sem.run Tryz.prog (method (n + 1) 234 (.pointer (some ⟨r, 3, none⟩)) "Len") w = .ok (271, v) w :=
 zhP _ (by kernel_rfl) Tryz.underlying234 (znY h)
theorem zh4 {r : Nat} {v : Value} {w : World} (h : w.cell? ⟨r, 3, none⟩ = some v) (n : Nat) : Sem.run Tryz.prog (method (n + 1) 234 (.pointer (some ⟨r, 3, none⟩)) "Less") w = .ok (272, v) w :=
 zhP _ (by kernel_rfl) Tryz.underlying234 (znY h)
theorem zgb {r : Nat} {v : Value} {w : World} (h : w.cell? ⟨r, 3, none⟩ = some v) (n : Nat) : Sem.run Tryz.prog (method (n + 1) 234 (.pointer (some ⟨r, 3, none⟩)) "Swap") w = .ok (273, v) w :=
 zhP _ (by kernel_rfl) Tryz.underlying234 (znY h)
theorem zsi (r : Nat) (w : World) (n : Nat) : Sem.run Tryz.prog (method (n + 1) 234 (.pointer (some ⟨r, 3, none⟩)) "Push") w = .ok (275, .pointer (some ⟨r, 3, none⟩)) w :=
 zk8 _ (by kernel_rfl) Tryz.underlying234
theorem zv1 (r : Nat) (w : World) (n : Nat) : Sem.run Tryz.prog (method (n + 1) 234 (.pointer (some ⟨r, 3, none⟩)) "Pop") w = .ok (274, .pointer (some ⟨r, 3, none⟩)) w :=
 zk8 _ (by kernel_rfl) Tryz.underlying234
theorem zpJ:∀ args w,(callFunc 271 args).run Tryz.prog w=.ok (.enter 271 args) w:=Go.Proofs.enters_of Tryz.func271 (by kernel_rfl) rfl
theorem zmf:∀ args w,(callFunc 272 args).run Tryz.prog w=.ok (.enter 272 args) w:=Go.Proofs.enters_of Tryz.func272 (by kernel_rfl) rfl
theorem zjp:∀ args w,(callFunc 273 args).run Tryz.prog w=.ok (.enter 273 args) w:=Go.Proofs.enters_of Tryz.func273 (by kernel_rfl) rfl
theorem zv0:∀ args w,(callFunc 275 args).run Tryz.prog w=.ok (.enter 275 args) w:=Go.Proofs.enters_of Tryz.func275 (by kernel_rfl) rfl
theorem zxC:∀ args w,(callFunc 274 args).run Tryz.prog w=.ok (.enter 274 args) w:=Go.Proofs.enters_of Tryz.func274 (by kernel_rfl) rfl
set_option maxHeartbeats 2000000 in
theorem zwl (ad:Option Addr) (n cap:Nat) (W:World):Calls Tryz.prog 271 #[.slice ad n cap] W λe w'=>e=.returned (.int .i64 n)/\W=w':=by
 go_enter Tryz.func271,Tryz.ntmps271
 go_wp2;go_ret;exact⟨rfl,rfl⟩
set_option maxHeartbeats 2000000 in
theorem zmh (b n cap:Nat) (x y:Int) (i j:Nat) (hi:i<n) (hj:j<n) (_hn:n<=4294967296) (W:World) (ci:W.cell? ⟨b,i,none⟩=some (.int .i64 x)) (cj:W.cell? ⟨b,j,none⟩=some (.int .i64 y)) :
  Calls Tryz.prog 272 #[.slice (some ⟨b,0,none⟩) n cap,.int .i64 i,.int .i64 j] W λe w'=>e=.returned (.bool (decide (x<y)))/\Drew W w':=by
 go_enter Tryz.func272,Tryz.ntmps272
 go_wp2
 go_quiet (fail)
 go_wp2;go_ret;exact⟨rfl,nq,rfl⟩
set_option maxHeartbeats 2000000 in
theorem znM (b n cap:Nat) (x y:Int) (i j:Nat) (hi:i<n) (hj:j<n) (_hn:n<=4294967296) (W:World)
  (ci:W.cell? ⟨b,i,none⟩=some (.int .i64 x)) (cj:W.cell? ⟨b,j,none⟩=some (.int .i64 y)) (fi:W.frozen? ⟨b,i,none⟩=false) (fj:W.frozen? ⟨b,j,none⟩=false) :
  Calls Tryz.prog 273 #[.slice (some ⟨b,0,none⟩) n cap,.int .i64 i,.int .i64 j] W λe w'=>e=.returned (.tuple #[])/\∃ q,w'=((W.setCell ⟨b,i,none⟩ (.int .i64 y)).setCell ⟨b,j,none⟩ (.int .i64 x)).drewN q:=by
 obtain⟨v',hy'⟩:=cell?_setCell_some (w:=W) (p:=⟨b,i,none⟩) (x:=.int .i64 y) (q:=⟨b,j,none⟩) cj
 go_enter Tryz.func273,Tryz.ntmps273
 go_wp2
 go_region
 all_goals (try go_wp2)
 all_goals go_end0
 all_goals exact⟨rfl,1,rfl⟩
def NumAt (w:World) (r base b n cap:Nat) (h:List Int):Prop:=w.cell? ⟨r,3,none⟩=some (.slice (some ⟨b,0,none⟩) n cap)/\OwnI .i64 2 w base (.slice (some ⟨b,0,none⟩) n cap) h/\h.length=n
theorem zsm {k:IntKind} {T:TypeId} {w:World} {base:Nat} {v:Value} {xs:List Int} (h:OwnI k T w base v xs) (q:Nat):OwnI k T (w.drewN q) base v xs:=h
theorem NumAt.drewN {w:World} {r base b n cap:Nat} {h:List Int} (H:NumAt w r base b n cap h) (q:Nat):NumAt (w.drewN q) r base b n cap h:=H
theorem NumAt.swap {w:World} {r base b n cap i j:Nat} {h:List Int} (H:NumAt w r base b n cap h) (hr:r≠b) (q:Nat) :
  NumAt (((w.setCell ⟨b,i,none⟩ (.int .i64 (h.getD j 0))).setCell ⟨b,j,none⟩ (.int .i64 (h.getD i 0))).drewN q) r base b n cap (swp h i j)/\w.grownBy (((w.setCell ⟨b,i,none⟩ (.int .i64 (h.getD j 0))).setCell ⟨b,j,none⟩ (.int .i64 (h.getD i 0))).drewN q) (some b):=by
 obtain⟨h1,h2,h3⟩:=H;have g1:=zn w b i (.int .i64 (h.getD j 0));have g2:=zn (w.setCell ⟨b,i,none⟩ (.int .i64 (h.getD j 0))) b j (.int .i64 (h.getD i 0));have g:w.grownBy (((w.setCell ⟨b,i,none⟩ (.int .i64 (h.getD j 0))).setCell ⟨b,j,none⟩ (.int .i64 (h.getD i 0))).drewN q) (some b) :=
  ⟨rfl,rfl,rfl,Nat.le_trans g1.size g2.size,λk hk hne=>(g2.block k (Nat.lt_of_lt_of_le hk g1.size) hne).trans (g1.block k hk hne)⟩
 refine⟨⟨?_,?_,by rw[zjO];exact h3⟩,g⟩
 ·exact cg g (λe=>hr (Option.some.inj e)) h1
 ·refine zsm ?_ q;exact(h2.stored h3 i _).stored (by rw[List.length_set];exact h3) j _
theorem zwG (k:Nat):((k:Int)-1).tdiv 2=(((k-1) / 2:Nat):Int):=by
 by_cases h0:k=0
 ·subst h0;rfl
 ·rw[Int.tdiv_eq_ediv_of_nonneg (by omega)];omega
set_option maxHeartbeats 4000000 in
theorem zx8 {r base b n cap:Nat} {h:List Int} {j:Nat} (hr:r≠b) (hj:j<n) (hn:n<=1048576) (hu:zkA h n j) (w:World) (H:NumAt w r base b n cap h) :
  Calls Tryz.prog 181 #[.iface 234 (.pointer (some ⟨r,3,none⟩)),.int .i64 j] w λe w'=>e=.returned (.tuple #[])/\∃ h',NumAt w' r base b n cap h'/\w.grownBy w' (some b)/\h'.Perm h/\zbL h' n:=by
 have eL:=zmf;have eS:=zjp;have HH:=za H;have HU:=za hu;clear H hu
 go_enter Tryz.func181,Tryz.ntmps181
 go_wp2
 go_loopw [1] (λvj wr=>∃ (k:Nat) (d:List Int),vj=.int .i64 k/\k<n/\NumAt wr r base b n cap d/\w.grownBy wr (some b)/\d.Perm h/\zkA d n k) (λvj _=>(intOf vj).toNat)
 case atStart=>exact⟨j,h,rfl,hj,HH.out,zbm _ _,List.Perm.refl _,HU.out⟩
 case round =>
  obtain⟨k,d,rfl,hk,hN,hg,hp,hu⟩:=hrel;have td:=zwG k;obtain⟨p,hpe⟩:∃ p,p=(k-1) / 2:=⟨_,rfl⟩;rw[←hpe]at td;have HP:=za hpe;have HN:=za hN;have HG:=za hg;have HE:=za hp;have HV:=za hu;have hpk:p<=k:=by omega
  by_cases h0:k=0
  ·have q:((p:Int) == (k:Int))=true:=by rw[beq_iff_eq];omega
   have END:=za (⟨d,hN,hg,hp,ztg hu (Or.inl h0)⟩:∃ h',NumAt wr r base b n cap h'/\w.grownBy wr (some b)/\h'.Perm h/\zbL h' n);clear hN hg hp hu hpe;go_wp2
   go_end0
   exact⟨rfl,END.out⟩
  ·have q:((p:Int) == (k:Int))=false:=by rw[beq_eq_false_iff_ne];omega
   have mL:=zh4 hN.1;have mS:=λq=>zgb (w:=wr.drewN q) hN.1
   have ck:=OwnI.cellAt hN.2.1 hN.2.2 hk;have cp:=OwnI.cellAt hN.2.1 hN.2.2 (show p<n by omega);have fk:=OwnI.frozenAt hN.2.1 hN.2.2 k;have fp:=OwnI.frozenAt hN.2.1 hN.2.2 p;have CL:=zmh b n cap (d.getD k 0) (d.getD p 0) k p hk (by omega) (by omega) wr ck cp;have CS:=λq=>znM b n cap (d.getD p 0) (d.getD k 0) p k (by omega) hk (by omega) (wr.drewN q) cp ck fp fk
   have SW:=λq q2=>NumAt.swap (i:=p) (j:=k) (hN.drewN q) hr q2
   have hl:=hN.2.2;generalize hx:d.getD k 0=x at *;generalize hy:d.getD p 0=y at *
   by_cases hlt:x<y
   ·have ql:decide (x<y)=true:=decide_eq_true hlt;rw[ql]at CL;have NX:=za (zw5 (j:=k) (by omega) hk (by omega) hu (by rw[hx,←hpe,hy];exact hlt));have PM:=za ((zjk d (i:=p) (j:=k) (by omega) (by omega)).trans hp);rw[←hpe]at NX;have HSW:=za SW;clear hN hg hp hu hpe SW
    go_wp2_with (first
     |(go_at_fn 272;refine CL.mono ?_;rintro e w' ⟨rfl,q,rfl⟩)
     |(go_at_fn 273;refine(CS _).mono ?_;rintro e w' ⟨rfl,q2,rfl⟩))
    go_roundw
    case rel =>
     obtain⟨s1,s2⟩:=HSW.out q q2;exact⟨p,swp d p k,rfl,by omega,s1,⟨s2.os.trans HG.out.os,s2.tape.trans HG.out.tape,s2.output.trans HG.out.output,Nat.le_trans HG.out.size s2.size,λi hi hne=>(s2.block i (Nat.lt_of_lt_of_le hi HG.out.size) hne).trans (HG.out.block i hi hne)⟩,PM.out,NX.out⟩
    case measure =>
     have:=HP.out
     simp[intOf];omega
   ·have ql:decide (x<y)=false:=decide_eq_false hlt;rw[ql]at CL;have END:=za (λq=>(⟨d,hN.drewN q,⟨hg.os,hg.tape,hg.output,hg.size,hg.block⟩,hp,ztg hu (Or.inr (by rw[←hpe,hx,hy];omega))⟩:∃ h',NumAt (wr.drewN q) r base b n cap h'/\w.grownBy (wr.drewN q) (some b)/\h'.Perm h/\zbL h' n));clear hN hg hp hu hpe SW
    go_wp2_with (go_at_fn 272;refine CL.mono ?_;rintro e w' ⟨rfl,q,rfl⟩)
    go_end0
    exact⟨rfl,END.out q⟩
theorem zb0 {a b c:World} {row:Option Nat} (h:a.grownBy b row) (k:b.grownBy c row):a.grownBy c row:=⟨k.os.trans h.os,k.tape.trans h.tape,k.output.trans h.output,Nat.le_trans h.size k.size,λi hi hne=>(k.block i (Nat.lt_of_lt_of_le hi h.size) hne).trans (h.block i hi hne)⟩
def DnEnd (w:World) (r base b n cap m:Nat) (h:List Int) (w':World):Prop:=∃ h',NumAt w' r base b n cap h'/\w.grownBy w' (some b)/\h'.Perm h/\zbL h' m/\h'.drop m=h.drop m
theorem DnEnd.drewN {w:World} {r base b n cap m:Nat} {h:List Int} {w':World} (H:DnEnd w r base b n cap m h w') (q:Nat):DnEnd w r base b n cap m h (w'.drewN q):=by
 obtain⟨h',a,b,c⟩:=H;exact⟨h',a.drewN q,⟨b.os,b.tape,b.output,b.size,b.block⟩,c⟩
set_option maxHeartbeats 8000000 in
theorem zqZ {r base b n cap m:Nat} {h:List Int} (hr:r≠b) (hmn:m<=n) (hn:n<=1048576) (hd:zjw h m 0) (w:World) (H:NumAt w r base b n cap h) :
  Calls Tryz.prog 182 #[.iface 234 (.pointer (some ⟨r,3,none⟩)),.int .i64 0,.int .i64 m] w λe w'=>∃ bb,e=.returned (.bool bb)/\DnEnd w r base b n cap m h w':=by
 have eL:=zmf;have eS:=zjp;have HH:=za H;have HU:=za hd;clear H hd
 go_enter Tryz.func182,Tryz.ntmps182
 go_wp2
 go_loopw [7] (λvi wr=>∃ (k:Nat) (d:List Int),vi=.int .i64 k/\k<=m/\NumAt wr r base b n cap d/\w.grownBy wr (some b)/\d.Perm h/\zjw d m k/\d.drop m=h.drop m) (λvi _=>m-(intOf vi).toNat)
 case atStart=>exact⟨0,h,rfl,Nat.zero_le _,HH.out,zbm _ _,List.Perm.refl _,HU.out,rfl⟩
 case round =>
  obtain⟨k,d,rfl,hk,hN,hg,hp,hu,hdr⟩:=hrel;obtain⟨j1,hj1⟩:∃ j1,j1=2*k+1:=⟨_,rfl⟩;obtain⟨j2,hj2⟩:∃ j2,j2=j1+1:=⟨_,rfl⟩;have e1:2*(k:Int)+1=(j1:Int):=by omega
  have e2:(j1:Int)+1=(j2:Int):=by omega
  have qn:decide ((j1:Int)<0)=false:=decide_eq_false (by omega);have END:(∀ i,0<i->i<m->(i-1) / 2=k->d.getD k 0<=d.getD i 0)->Hid (DnEnd w r base b n cap m h wr):=λhe=>⟨d,hN,hg,hp,zx1 hu he,hdr⟩
  have hl:=hN.2.2;have NEXT:∀ j,j<m->0<j->(j-1) / 2=k->d.getD j 0<d.getD k 0->(∀ i,0<i->i<m->(i-1) / 2=k->d.getD j 0<=d.getD i 0)->Hid (zjw (swp d k j) m j/\(swp d k j).Perm h/\(swp d k j).drop m=h.drop m):=λj a b c e f =>
   ⟨zwt (by omega) a b c hu (by omega) f,(zjk d (by omega) (by omega)).trans hp,by rw[zvM (by omega) a];exact hdr⟩
  have HG:=za hg;have SW:=λj q q2=>za (NumAt.swap (i:=k) (j:=j) (hN.drewN q) hr q2)
  have:=λj q q' q2=>za (NumAt.swap (i:=k) (j:=j) ((hN.drewN q).drewN q') hr q2)
  have mL:=zh4 hN.1;have mL1:=λq=>zh4 (w:=wr.drewN q) hN.1
  have mS:=λq=>zgb (w:=wr.drewN q) hN.1
  have:=λq q'=>zgb (w:=(wr.drewN q).drewN q') hN.1
  have cA:∀ i,i<m->wr.cell? ⟨b,i,none⟩=some (.int .i64 (d.getD i 0)):=λi hi=>OwnI.cellAt hN.2.1 hl (by omega)
  have fA:∀ i,wr.frozen? ⟨b,i,none⟩=false:=λi=>OwnI.frozenAt hN.2.1 hl i
  have LESS:∀ (i j q:Nat),i<m->j<m->Calls Tryz.prog 272 #[.slice (some ⟨b,0,none⟩) n cap,.int .i64 i,.int .i64 j] (wr.drewN q) λe w'=>e=.returned (.bool (decide (d.getD i 0<d.getD j 0)))/\Drew (wr.drewN q) w':=λi j q hi hj =>
   zmh b n cap _ _ i j (by omega) (by omega) (by omega) (wr.drewN q) (cA i hi) (cA j hj)
  have LESS0:∀ (i j:Nat),i<m->j<m->Calls Tryz.prog 272 #[.slice (some ⟨b,0,none⟩) n cap,.int .i64 i,.int .i64 j] wr λe w'=>e=.returned (.bool (decide (d.getD i 0<d.getD j 0)))/\Drew wr w':=λi j hi hj =>
   zmh b n cap _ _ i j (by omega) (by omega) (by omega) wr (cA i hi) (cA j hj)
  have SWAP:∀ (i j q:Nat),i<m->j<m->Calls Tryz.prog 273 #[.slice (some ⟨b,0,none⟩) n cap,.int .i64 i,.int .i64 j] (wr.drewN q) λe w'=>e=.returned (.tuple #[])/\∃ q',w'=(((wr.drewN q).setCell ⟨b,i,none⟩ (.int .i64 (d.getD j 0))).setCell ⟨b,j,none⟩ (.int .i64 (d.getD i 0))).drewN q':=λi j q hi hj =>
   znM b n cap _ _ i j (by omega) (by omega) (by omega) (wr.drewN q) (cA i hi) (cA j hj) (fA i) (fA j)
  clear hN hg hp hu hdr cA fA
  by_cases hA:m<=j1
  ·have E:=END (λi _ hi he=>by omega);clear END NEXT SW LESS LESS0 SWAP mL mL1 mS;have q1:((m:Int)<=(j1:Int)):=by omega
   clear hj1 hj2;go_wp2;go_ret;exact⟨_,rfl,E.out⟩
  ·have q1:¬((m:Int)<=(j1:Int)):=by omega
   by_cases hB:j2<m
   ·have C1:=LESS0 j2 j1 hB (by omega)
    by_cases hC:d.getD j2 0<d.getD j1 0
    ·have qC:decide (d.getD j2 0<d.getD j1 0)=true:=decide_eq_true hC;simp only[qC]at C1;have MIN:=za (λi (a:0<i) (b:i<m) (c:(i-1) / 2=k)=>show d.getD j2 0<=d.getD i 0 by
      by_cases e:i=j2
      ·subst e;omega
      ·obtain rfl:i=j1:=by omega
       omega)
     have hjk:(j2-1) / 2=k:=by omega
     have C2:=λq=>LESS j2 k q (by omega) (by omega)
     have CS:=λq=>SWAP k j2 q (by omega) (by omega)
     by_cases hS:d.getD j2 0<d.getD k 0
     ·have NX:=NEXT j2 (by omega) (by omega) hjk hS MIN.out;have HSW:=SW;have qS:decide (d.getD j2 0<d.getD k 0)=true:=decide_eq_true hS;simp only[qS]at C2;clear END NEXT LESS LESS0 SWAP;have HJ:=za (And.intro hj1 (And.intro hj2 hjk));clear hj1 hj2 hjk
      go_wp2_with (first
        |(go_at_fn 272;(with_reducible refine C1.mono ?_);rintro e w' ⟨rfl,q,rfl⟩)
        |(go_at_fn 272;(with_reducible refine(C2 _).mono ?_);rintro e w' ⟨rfl,p,rfl⟩)
        |(go_at_fn 273;(with_reducible refine(CS _).mono ?_);rintro e w' ⟨rfl,q2,rfl⟩))
      obtain⟨hj1,hj2,hjk⟩:=HJ.out
      go_roundw
      case rel =>
       obtain⟨s1,s2⟩:=(HSW j2 (q+p) q2).out;obtain⟨n1,n2,n3⟩:=NX.out;exact⟨j2,swp d k j2,rfl,by omega,s1,zb0 (zb0 HG.out (ze3 _ _ _)) s2,n2,n1,n3⟩
      case measure=>simp[intOf];omega
     ·have E:=END (λi a b c=>by have:=MIN.out i a b c;omega);have qS:decide (d.getD j2 0<d.getD k 0)=false:=decide_eq_false hS;simp only[qS]at C2;clear END NEXT LESS LESS0 SWAP SW hj1 hj2 hjk
      go_wp2_with (first
        |(go_at_fn 272;(with_reducible refine C1.mono ?_);rintro e w' ⟨rfl,q,rfl⟩)
        |(go_at_fn 272;(with_reducible refine(C2 _).mono ?_);rintro e w' ⟨rfl,p,rfl⟩))
      go_ret;exact⟨_,rfl,E.out.drewN (q+p)⟩
    ·have qC:decide (d.getD j2 0<d.getD j1 0)=false:=decide_eq_false hC;simp only[qC]at C1;have MIN:=za (λi (a:0<i) (b:i<m) (c:(i-1) / 2=k)=>show d.getD j1 0<=d.getD i 0 by
      by_cases e:i=j2
      ·subst e;omega
      ·obtain rfl:i=j1:=by omega
       omega)
     have hjk:(j1-1) / 2=k:=by omega
     have C2:=λq=>LESS j1 k q (by omega) (by omega)
     have CS:=λq=>SWAP k j1 q (by omega) (by omega)
     by_cases hS:d.getD j1 0<d.getD k 0
     ·have NX:=NEXT j1 (by omega) (by omega) hjk hS MIN.out;have HSW:=SW;have qS:decide (d.getD j1 0<d.getD k 0)=true:=decide_eq_true hS;simp only[qS]at C2;clear END NEXT LESS LESS0 SWAP;have HJ:=za (And.intro hj1 (And.intro hj2 hjk));clear hj1 hj2 hjk
      go_wp2_with (first
        |(go_at_fn 272;(with_reducible refine C1.mono ?_);rintro e w' ⟨rfl,q,rfl⟩)
        |(go_at_fn 272;(with_reducible refine(C2 _).mono ?_);rintro e w' ⟨rfl,p,rfl⟩)
        |(go_at_fn 273;(with_reducible refine(CS _).mono ?_);rintro e w' ⟨rfl,q2,rfl⟩))
      obtain⟨hj1,hj2,hjk⟩:=HJ.out
      go_roundw
      case rel =>
       obtain⟨s1,s2⟩:=(HSW j1 (q+p) q2).out;obtain⟨n1,n2,n3⟩:=NX.out;exact⟨j1,swp d k j1,rfl,by omega,s1,zb0 (zb0 HG.out (ze3 _ _ _)) s2,n2,n1,n3⟩
      case measure=>simp[intOf];omega
     ·have E:=END (λi a b c=>by have:=MIN.out i a b c;omega);have qS:decide (d.getD j1 0<d.getD k 0)=false:=decide_eq_false hS;simp only[qS]at C2;clear END NEXT LESS LESS0 SWAP SW hj1 hj2 hjk
      go_wp2_with (first
        |(go_at_fn 272;(with_reducible refine C1.mono ?_);rintro e w' ⟨rfl,q,rfl⟩)
        |(go_at_fn 272;(with_reducible refine(C2 _).mono ?_);rintro e w' ⟨rfl,p,rfl⟩))
      go_ret;exact⟨_,rfl,E.out.drewN (q+p)⟩
   ·have MIN:=za (λi (a:0<i) (b:i<m) (c:(i-1) / 2=k)=>show d.getD j1 0<=d.getD i 0 by
     obtain rfl:i=j1:=by omega
     omega)
    have hjk:(j1-1) / 2=k:=by omega
    have C2:=LESS0 j1 k (by omega) (by omega);have CS:=λq=>SWAP k j1 q (by omega) (by omega)
    by_cases hS:d.getD j1 0<d.getD k 0
    ·have NX:=NEXT j1 (by omega) (by omega) hjk hS MIN.out;have HSW:=SW;have qS:decide (d.getD j1 0<d.getD k 0)=true:=decide_eq_true hS;simp only[qS]at C2;clear END NEXT LESS LESS0 SWAP;have HJ:=za (And.intro hj1 (And.intro hj2 hjk));clear hj1 hj2 hjk
     go_wp2_with (first
       |(go_at_fn 272;(with_reducible refine C2.mono ?_);rintro e w' ⟨rfl,q,rfl⟩)
       |(go_at_fn 273;(with_reducible refine(CS _).mono ?_);rintro e w' ⟨rfl,q2,rfl⟩))
     obtain⟨hj1,hj2,hjk⟩:=HJ.out
     go_roundw
     case rel =>
      obtain⟨s1,s2⟩:=(HSW j1 q q2).out;obtain⟨n1,n2,n3⟩:=NX.out;exact⟨j1,swp d k j1,rfl,by omega,s1,zb0 (zb0 HG.out (ze3 _ _ _)) s2,n2,n1,n3⟩
     case measure=>simp[intOf];omega
    ·have E:=END (λi a b c=>by have:=MIN.out i a b c;omega);have qS:decide (d.getD j1 0<d.getD k 0)=false:=decide_eq_false hS;simp only[qS]at C2;clear END NEXT LESS LESS0 SWAP SW hj1 hj2 hjk
     go_wp2_with (go_at_fn 272;(with_reducible refine C2.mono ?_);rintro e w' ⟨rfl,q,rfl⟩)
     go_ret;exact⟨_,rfl,E.out.drewN q⟩
def RecK (w w':World) (r:Nat):Prop:=(∀ o u,o≠3->w.cell? ⟨r,o,none⟩=some u->w'.cell? ⟨r,o,none⟩=some u)/\(∀ o,w.frozen? ⟨r,o,none⟩=false->w'.frozen? ⟨r,o,none⟩=false)
theorem RecK.fr {w w':World} {r o:Nat} (h:RecK w w' r) (hf:w.frozen? ⟨r,o,none⟩=false):w'.frozen? ⟨r,o,none⟩=false:=h.2 o hf
theorem RecK.cl {w w':World} {r o:Nat} {u:Value} (h:RecK w w' r) (ho:o≠3) (hc:w.cell? ⟨r,o,none⟩=some u):w'.cell? ⟨r,o,none⟩=some u:=h.1 o u ho hc
theorem RecK.refl (w:World) (r:Nat):RecK w w r:=⟨λ_ _ _ h=>h,λ_ h=>h⟩
theorem RecK.trans {a b c:World} {r:Nat} (h:RecK a b r) (k:RecK b c r):RecK a c r:=⟨λo u ho hu=>k.1 o u ho (h.1 o u ho hu),λo ho=>k.2 o (h.2 o ho)⟩
theorem RecK.of_off {S:Nat->Prop} {w w':World} {r:Nat} (h:Off S w w') (hn:¬S r) (hl:r<w.heap.size):RecK w w' r:=⟨λ_ _ _ hu=>h.cell hn hu,λo hf=>(h.frozen (o:=o) hn hl).trans hf⟩
theorem RecK.grown {w w':World} {r b:Nat} (h:w.grownBy w' (some b)) (hn:r≠b) (hl:r<w.heap.size):RecK w w' r:=RecK.of_off (Off.of_grown h) hn hl
theorem RecK.set (w:World) (r:Nat) (u:Value):RecK w (w.setCell ⟨r,3,none⟩ u) r :=
 ⟨λo _ ho hu=>(World.cell?_setCell_other _ _ _ _ (by intro e;simp only[Addr.mk.injEq,and_true]at e;omega)).trans hu,λo hf=>(World.frozen?_setCell _ _ _ _).trans hf⟩
theorem OwnI.cut {k:IntKind} {T:TypeId} {w:World} {base g n cap:Nat} {xs:List Int} (h:OwnI k T w base (.slice (some ⟨g,0,none⟩) (n+1) cap) xs) (hn:xs.length=n+1):OwnI k T w base (.slice (some ⟨g,0,none⟩) n cap) (xs.take n):=by
 have hl:(xs.take n).length=n:=by rw[List.length_take];omega
 unfold OwnI at h ⊢;rw[hn]at h;rw[hl];refine⟨by rw[List.length_map,hl,Nat.mul_one],?_⟩;rcases h.2 with⟨hv,_⟩|⟨g',cap',cur,hv,hB,hg,hnc,hcm,hcs,ht⟩
 ·cases hv
 ·simp only[Value.slice.injEq,Option.some.injEq,Addr.mk.injEq,and_true,true_and]at hv;obtain⟨rfl,rfl⟩:=hv;refine .inr ⟨g,cap,cur,rfl,hB,hg,by omega,hcm,hcs,?_⟩;rw[Nat.mul_one]at ht ⊢;rw[List.map_take,←ht,List.take_take,Nat.min_eq_left (by omega)]
theorem zmo (x:Int) (w:World):(Instr.typeAssert (.iface 2 (.int .i64 x)) 20 2 false).run Tryz.prog w=.ok (.int .i64 x) w:=by
 have hu:=run_underlying (P:=Tryz.prog) (w:=w) Tryz.underlying2
 simp[Instr.typeAssert,hu,Result.andThen]
set_option maxHeartbeats 4000000 in
theorem zx4 {r base:Nat} {v:Value} {h:List Int} {x:Int} (w:World) (hc:w.cell? ⟨r,3,none⟩=some v) (hf:w.frozen? ⟨r,3,none⟩=false) (ho:OwnI .i64 2 w base v h) (hne:∀ g,v.ownBlock=some g->g≠r) (hb:base<=w.heap.size) (hl:h.length<=1048575) :
  Calls Tryz.prog 275 #[.pointer (some ⟨r,3,none⟩),.iface 2 (.int .i64 x)] w λe w'=>e=.returned (.tuple #[])/\∃ b cap,NumAt w' r base b (h.length+1) cap (h++[x])/\r≠b/\(v.ownBlock=some b\/w.heap.size<=b)/\b<w'.heap.size/\RecK w w' r/\Off (λk=>k=r\/v.ownBlock=some k) w w':=by
 obtain⟨i0,hi0,hz0,hz1,hz2⟩:=info_parts zdW;have hr:=zf hc;have HO:=za ho;have HB:=za hb;have HL:=za hl;have HNE:=za hne;have HF:=za hf;have HC:=za hc;have HR:=za hr;have HUL:=za (Tryz.underlying191);have hta:=zmo x;obtain⟨ad,cap0,rfl,_⟩:=ho.form;have HK:=za (fun(o:Obj) (w9:World) (hg:((w.alloc o).drew).grownBy w9 (Value.slice ad h.length cap0).ownBlock)=>(⟨cg hg (λe=>hne r e.symm rfl) (ca hr hc),fg hg (λe=>hne r e.symm rfl) (ca hr hc) (fa hr hf)⟩:w9.cell? ⟨r,3,none⟩=some (.slice ad h.length cap0)/\w9.frozen? ⟨r,3,none⟩=false));have hca:=fun(o:Obj)=>ca (ob:=o) hr hc
 clear ho hb hl hne hr
 go_enter Tryz.func275,Tryz.ntmps275
 go_wp2_with fail
 go_region_law (refine step_append_lies _ (by rfl) _ _ _ (by rfl) base 2 i0 (.int .i64 0) 1 8 HUL.out hi0 hz0 hz1 hz2 rfl (by decide) (.slice ad h.length cap0) h.length (h.map (Value.int .i64)) (by rfl) (HO.out.alloc _) _ _ _ [.int .i64 x] (by rfl) rfl (zeg _ _ _) (zeS _ _) (by decide) (by have:=HL.out;unfold maxLen;omega) (by have:=HL.out;omega) (by have:=HB.out;simp;omega) _ (by rfl) ?_;intro g9 cap9 w9 hown9 hgrow9 hat9 hlt9;obtain⟨c9,f9⟩:=HK.out _ _ hgrow9)
 all_goals
  go_wp2
  go_end0
  have hrg:r≠g9:=by
   rcases hat9 with e|e
   ·exact λq=>HNE.out g9 e q.symm
   ·have:=HR.out;have e2:g9=w.heap.size+1:=e.trans (by simp);omega
  have hgb:(Value.slice ad h.length cap0).ownBlock=some g9\/w.heap.size<=g9:=by
   rcases hat9 with e|e
   ·exact Or.inl e
   ·have e2:g9=w.heap.size+1:=e.trans (by simp);exact Or.inr (by omega)
  have hOff:Off (λk=>k=r\/(Value.slice ad h.length cap0).ownBlock=some k) w w9:=by
   refine(((Off.refl _ w).drewN 1).alloc _).trans (Off.of_grownO hgrow9) (λk hk e=>Or.inr e.symm)
  have hRec:RecK w w9 r:=by
   refine RecK.trans (b:=(w.drewN 1).alloc _) (RecK.of_off (S:=λ_=>False) (((Off.refl _ w).drewN 1).alloc _) (λe=>e) HR.out) (RecK.of_off (Off.of_grownO hgrow9) (λe=>HNE.out r e.symm rfl) ?_);have:=HR.out
   simp
   omega
  refine⟨rfl,g9,cap9,⟨?_,?_,by simp⟩,hrg,hgb,by simpa [World.setCell] using hlt9,hRec.trans (RecK.set _ _ _),hOff.set (λ_=>Or.inl rfl) _⟩
  ·rw[World.cell?_setCell_same' _ _ _ (by rw[c9];rfl)]
  ·have:=(OwnI.append hown9).other r 3 (u:=.slice (some ⟨g9,0,none⟩) (h.length+1) cap9) hrg;exact this
set_option maxHeartbeats 4000000 in
theorem zyz {r base b n cap:Nat} {h:List Int} (_hr:r≠b) (hn:n<=1048576) (w:World) (H:NumAt w r base b (n+1) cap h) (hf:w.frozen? ⟨r,3,none⟩=false) :
  Calls Tryz.prog 274 #[.pointer (some ⟨r,3,none⟩)] w λe w'=>e=.returned (.iface 2 (.int .i64 (h.getD n 0)))/\w'=w.setCell ⟨r,3,none⟩ (.slice (some ⟨b,0,none⟩) n cap):=by
 obtain⟨hc,ho,hl⟩:=H;have cn:=OwnI.cellAt ho hl (show n<n+1 by omega);have hcap:n+1<=cap:=by
  obtain⟨ad,cp,e,_,_,_,h6⟩:=ho.form;simp only[Value.slice.injEq]at e;omega
 generalize h.getD n 0=x at *;have e0:((n:Int)+1)-1=(n:Int):=by omega
 clear ho hl
 go_enter Tryz.func274,Tryz.ntmps274
 go_wp2;go_ret;exact⟨rfl,rfl⟩
theorem NumAt.cut {w:World} {r base b n cap:Nat} {h:List Int} (H:NumAt w r base b (n+1) cap h) (hr:r≠b):NumAt (w.setCell ⟨r,3,none⟩ (.slice (some ⟨b,0,none⟩) n cap)) r base b n cap (h.take n):=by
 obtain⟨hc,ho,hl⟩:=H;refine⟨World.cell?_setCell_same' _ _ _ (by rw[hc];rfl),?_,by rw[List.length_take];omega⟩;exact(ho.cut hl).other r 3 hr
set_option maxHeartbeats 4000000 in
theorem zsJ {r base:Nat} {v:Value} {h:List Int} {x:Int} (w:World) (hc:w.cell? ⟨r,3,none⟩=some v) (hf:w.frozen? ⟨r,3,none⟩=false) (ho:OwnI .i64 2 w base v h) (hne:∀ g,v.ownBlock=some g->g≠r) (hb:base<=w.heap.size) (hl:h.length<=1048575) (hh:zbL h h.length) :
  Calls Tryz.prog 162 #[.iface 234 (.pointer (some ⟨r,3,none⟩)),.iface 2 (.int .i64 x)] w λe w'=>e=.returned (.tuple #[])/\∃ b cap h',NumAt w' r base b (h.length+1) cap h'/\r≠b/\(v.ownBlock=some b\/w.heap.size<=b)/\b<w'.heap.size/\RecK w w' r/\Off (λk=>k=r\/v.ownBlock=some k) w w'/\h'.Perm (h++[x])/\zbL h' (h.length+1):=by
 have hr:=zf hc;have CP:=zx4 (x:=x) w hc hf ho hne hb hl;have UO:=za (zrQ rfl hh x);have HL:=za hl;have HR:=za hr;have mP:=zsi r w;have eP:=zv0;have eN:=zpJ;generalize hm:h.length=m at *;have e0:((m:Int)+1)-1=(m:Int):=by omega
 clear hc hf ho hne hb hh hr hm
 go_enter Tryz.func162,Tryz.ntmps162
 go_wp2_with (first
  |(go_at_fn 275;(with_reducible refine CP.mono ?_);rintro e w1 ⟨rfl,b,cap,N1,n1,q1,l1,r1,o1⟩;have mN:=znU N1.1;have HN1:=za N1;have HR1:=za r1;have HO1:=za o1;have HQ1:=za (And.intro n1 (And.intro q1 l1));clear N1 n1 q1 l1 r1 o1)
  |(go_at_fn 271;(with_reducible refine(zwl _ _ _ _).mono ?_);rintro e w2 ⟨rfl,rfl⟩)
  |(go_at_call 181;(with_reducible refine(zx8 HQ1.out.1 (by omega) (by have:=HL.out;omega) UO.out _ HN1.out).mono ?_);rintro e w3 ⟨rfl,h3,N3,g3,p3,k3⟩))
 go_end0
 obtain⟨n1,q1,l1⟩:=HQ1.out;exact⟨rfl,b,cap,h3,N3,n1,q1,Nat.lt_of_lt_of_le l1 g3.size,HR1.out.trans (RecK.grown g3 n1 (Nat.lt_of_lt_of_le HR.out HO1.out.size)),HO1.out.trans (Off.of_grown g3) (λk hk e=>by subst e;rcases q1 with q|q;exact Or.inr q;omega),p3,k3⟩
set_option maxHeartbeats 4000000 in
theorem zud {r base b n cap:Nat} {h:List Int} (hr:r≠b) (hn:n<=1048575) (w:World) (H:NumAt w r base b (n+1) cap h) (hf:w.frozen? ⟨r,3,none⟩=false) (hh:zbL h (n+1)) :
  Calls Tryz.prog 163 #[.iface 234 (.pointer (some ⟨r,3,none⟩))] w λe w'=>e=.returned (.iface 2 (.int .i64 (h.getD 0 0)))/\∃ h',NumAt w' r base b n cap h'/\(h'++[h.getD 0 0]).Perm h/\zbL h' n/\RecK w w' r/\Off (λk=>k=r\/k=b) w w':=by
 have hl:=H.2.2;have hrl:=zf H.1;have mN:=znU H.1;have mS:=zgb H.1;have c0:=OwnI.cellAt H.2.1 H.2.2 (show 0<n+1 by omega);have cn:=OwnI.cellAt H.2.1 H.2.2 (show n<n+1 by omega);have f0:=OwnI.frozenAt H.2.1 H.2.2 0;have fn:=OwnI.frozenAt H.2.1 H.2.2 n;have CS:=znM b (n+1) cap _ _ 0 n (by omega) (by omega) (by omega) w c0 cn f0 fn;have SW:=za (λq=>NumAt.swap (i:=0) (j:=n) H hr q);have DO:=za (ztm hl hh);have SR:=za (ztL hl);have HN:=za hn;have HF:=za hf;have HRL:=za hrl;have HR:=za hr;have mP:=zv1 r;have eN:=zpJ;have eS:=zjp;have eP:=zxC;have e0:((n:Int)+1)-1=(n:Int):=by omega
 rw[show((0:Nat):Int)=0 from rfl]at CS;clear H hf hh hl hrl c0 cn f0 fn
 go_enter Tryz.func163,Tryz.ntmps163
 go_wp2_with (first
  |(go_at_fn 271;(with_reducible refine(zwl _ _ _ _).mono ?_);rintro e w1 ⟨rfl,rfl⟩)
  |(go_at_fn 273;((with_reducible refine CS.mono ?_);rintro e w2 ⟨rfl,q,hw2⟩;obtain⟨N2,g2⟩:=SW.out q;rw[←hw2]at N2 g2;have HN2:=za N2;have HG2:=za g2;clear N2 g2 hw2))
  |(go_at_call 182;(with_reducible refine(zqZ HR.out (by omega) (by have:=HN.out;omega) DO.out _ HN2.out).mono ?_);rintro e w3 ⟨bb,rfl,h3,N3,g3,p3,k3,d3⟩;have HN3:=za N3;have R3:=za (RecK.grown (zb0 HG2.out g3) HR.out HRL.out);have HG3:=za (zb0 HG2.out g3);have HP3:=za (And.intro p3 (And.intro k3 d3));clear N3 g3 p3 k3 d3)
  |(go_at_fn 274;((with_reducible refine(zyz (n:=n) HR.out (by omega) _ HN3.out (R3.out.fr HF.out)).mono ?_);rintro e w4 ⟨rfl,rfl⟩)))
 go_ret;obtain⟨s1,s2⟩:=SR.out;obtain⟨p3,k3,d3⟩:=HP3.out;have hl3:=HN3.out.2.2;have e3:h3.getD n 0=h.getD 0 0:=by
  have a:(h3.drop n).getD 0 0=((swp h 0 n).drop n).getD 0 0:=by rw[d3]
  rw[List.getD_eq_getElem?_getD,List.getD_eq_getElem?_getD,List.getElem?_drop,List.getElem?_drop,Nat.add_zero,←List.getD_eq_getElem?_getD,←List.getD_eq_getElem?_getD,s1]at a;exact a
 refine⟨by show Ending.returned (Value.iface 2 (.int .i64 (h3.getD n 0)))=_;rw[e3],h3.take n,HN3.out.cut HR.out,?_,ztq k3,R3.out.trans (RecK.set _ _ _),(((Off.refl (λk=>k=r\/k=b) w).trans (Off.of_grown HG3.out) (λk _ e=>Or.inr e)).set (λ_=>Or.inl rfl) _)⟩;exact((zsE p3 d3).append_right _).trans s2
end Go.Proofs.YtlodkoimdoeopaaGreatDoor
namespace Go.Proofs.YtlodkoimdoeopaaGreatDoor
open Go.RowKit
open Go.Maps (Keyed)
open Go.MapKept Go.ChangeMaps
structure RingOk (room width:Nat) (L:List (Int×List Int)):Prop where
 rising:zfJ L
 len:L.length<=room
 r1:1<=room
 r2:room<=65536
 wd:width<=262144
 rows:∀ x ∈ L,x.2.length=width/\-9223372036854775808<=x.1/\x.1<=9223372036854775807
structure RMem (w:World) (base r:Nat) (S:Nat->Prop) (L:List (Int×List Int)) (m:Nat) (v:Value) (h:List Int) (D:DataW Value) (V:Int->Value):Prop where
 c2:w.cell? ⟨r,2,none⟩=some (.map (some m))
 sm:S m
 mr:m≠r
 c3:w.cell? ⟨r,3,none⟩=some v
 nums:OwnI .i64 2 w base v h
 vb:∀ g,v.ownBlock=some g->S g/\g≠r/\g≠m
 perm:h.Perm (L.map (·.1))
 heap:zbL h h.length
 map:w.ownsMap Tryz.prog 2 zdG m (Maps.size D) D
 size:Maps.size D=L.length
 has:∀ j,Maps.has D (.int .i64 j)=zbw L j
 at_:∀ x ∈ L,∀ z,D.atKey (.int .i64 x.1) z=.held (V x.1)
 rows:∀ x ∈ L,OwnI .i64 2 w base (V x.1) x.2
 blk:∀ x ∈ L,∀ g,(V x.1).ownBlock=some g->S g/\g≠r/\g≠m/\v.ownBlock≠some g
 apart:∀ x ∈ L,∀ y ∈ L,x.1≠y.1->Apart (V x.1) (V y.1)
structure RingAt (w:World) (base r:Nat) (S:Nat->Prop) (room width:Nat) (L:List (Int×List Int)):Prop where
 ok:RingOk room width L
 lo:∀ k,S k->base<=k
 hi:∀ k,S k->k<w.heap.size
 sr:S r
 c0:w.cell? ⟨r,0,none⟩=some (.int .i64 (room:Int))
 c1:w.cell? ⟨r,1,none⟩=some (.int .i64 (width:Int))
 fr:∀ o,w.frozen? ⟨r,o,none⟩=false
 mem:∃ m v h D V,RMem w base r S L m v h D V
theorem RMem.off {w w':World} {base r:Nat} {S T:Nat->Prop} {L:List (Int×List Int)} {m:Nat} {v:Value} {h:List Int} {D:DataW Value} {V:Int->Value} (M:RMem w base r S L m v h D V) (hr:S r) (ho:Off T w w') (hn:∀ k,S k->¬T k):RMem w' base r S L m v h D V where
 c2:=ho.cell (hn r hr) M.c2
 sm:=M.sm
 mr:=M.mr
 c3:=ho.cell (hn r hr) M.c3
 nums:=ho.own M.nums (λg hg=>hn g (M.vb g hg).1)
 vb:=M.vb
 perm:=M.perm
 heap:=M.heap
 map:=ho.map M.map (hn m M.sm)
 size:=M.size
 has:=M.has
 at_:=M.at_
 rows:=λx hx=>ho.own (M.rows x hx) (λg hg=>hn g (M.blk x hx g hg).1)
 blk:=M.blk
 apart:=M.apart
theorem RingAt.off {w w':World} {base r:Nat} {S T:Nat->Prop} {room width:Nat} {L:List (Int×List Int)} (R:RingAt w base r S room width L) (ho:Off T w w') (hn:∀ k,S k->¬T k):RingAt w' base r S room width L where
 ok:=R.ok
 lo:=R.lo
 hi:=λk hk=>Nat.lt_of_lt_of_le (R.hi k hk) ho.size
 sr:=R.sr
 c0:=ho.cell (hn r R.sr) R.c0
 c1:=ho.cell (hn r R.sr) R.c1
 fr:=λo=>(ho.frozen (hn r R.sr) (R.hi r R.sr)).trans (R.fr o)
 mem:=by
  obtain⟨m,v,h,D,V,M⟩:=R.mem;exact⟨m,v,h,D,V,M.off R.sr ho hn⟩
theorem RingAt.below {w w':World} {base r:Nat} {S:Nat->Prop} {room width:Nat} {L:List (Int×List Int)} (R:RingAt w base r S room width L) (hb:Below w.heap.size w w'):RingAt w' base r S room width L :=
 R.off (T:=λ_=>False) (Off.of_below hb) (λ_ _ e=>e)
theorem RingAt.drewN {w:World} {base r:Nat} {S:Nat->Prop} {room width:Nat} {L:List (Int×List Int)} (R:RingAt w base r S room width L) (n:Nat):RingAt (w.drewN n) base r S room width L:=R.below (bdN (Below.refl _ _) n)
theorem zjC {j:Int} (h1 : -9223372036854775808<=j) (h2:j<=9223372036854775807):keyOf Tryz.prog 2 (.int .i64 j)=some (.int .i64 j):=by
 have hw:(Lit.int .i64 j).wf=true:=by simp[Lit.wf,IntKind.min,IntKind.max,IntKind.signed,IntKind.bits];omega
 simp[keyOf,mapKey,Tryz.underlying2,hw]
theorem znD (w:World):(zeroValue 28).run Tryz.prog w=.ok (.slice none 0 0) w:=by kernel_rfl
theorem zeP:Keyed Tryz.prog 2:=Go.Maps.int_keyed Tryz.underlying2
theorem zuI:(Tryz.prog.info? 2).map (·.size)=some 1:=by kernel_rfl
theorem zmj {P:Program} {w:World} (dT sT ty:TypeId) (elem:TypeId) (hu:P.underlying dT=some (.slice elem)) (hsz:(P.info? elem).map (·.size)=some 1)
  (k:IntKind) (T:TypeId) (base:Nat) (v:Value) (n:Nat) (ys xs:List Int) (hown:OwnI k T w base v ys) (hy:ys.length=n) (sp:Option Addr) (sCap:Nat) (hx:xs.length=n) (hr:RowAt k w sp xs) :
  ∃ w',(Builtin.copy_ #[dT,sT] ty #[v,.slice sp n sCap]).run P w=.ok (.int .i64 (n:Int)) w'/\OwnI k T w' base v xs/\w.grownBy w' v.ownBlock:=by
 subst hx
 by_cases h0:xs.length=0
 ·have e1:=List.eq_nil_of_length_eq_zero h0;have e2:ys=[]:=List.eq_nil_of_length_eq_zero (by omega);subst e1 e2;obtain⟨ad,cap,rfl,_⟩:=hown.form;exact⟨w,run_copy_none (P:=P) w dT sT ty elem ad sp _ cap _ sCap hu hsz (by simp),hown,zbm _ _⟩
 ·rcases hown.2 with⟨rfl,h1⟩|⟨g,cap,cur,rfl,hB,hg,hn,hm,hcs,ht⟩
  ·omega
  ·obtain⟨b,off,rfl,hc⟩:=hr.get (show 0<xs.length by omega);have hcl:(xs.map (Value.int k)).length=xs.length:=by rw[List.length_map]
   rw[Nat.mul_one]at hcs;have hfit:0+(xs.map (Value.int k)).length<=cur.size:=by rw[hcl];omega
   have key:=setRow_heap w g cur (((cur.toList.take 0)++((xs.map (Value.int k))++cur.toList.drop (0+(xs.map (Value.int k)).length))).toArray) T _ hg;have hrun:=run_copy_row (P:=P) w dT sT ty elem g 0 ys.length cap ⟨b,off,none⟩ xs.length sCap cur T (xs.map (Value.int k)) hu hsz hg (by rw[hcl,hy];exact(Nat.min_self _).symm) (λj u hj=>by
    rw[List.getElem?_map]at hj;have hlt:j<xs.length:=by
     by_cases q:j<xs.length
     ·exact q
     ·rw[List.getElem?_eq_none (by omega)]at hj;cases hj
    rw[zd0,hr.at hlt,←hj,List.getD_eq_getElem?_getD,List.getElem?_eq_getElem hlt];rfl) hfit (λu hu=>by
    obtain⟨y,_,rfl⟩:=List.mem_map.1 hu;rfl)
   rw[hcl]at hrun key;refine⟨_,hrun,⟨by rw[hcl,Nat.mul_one],.inr ⟨g,cap,_,by rw[hy],hB,key,by omega,hm,?_,?_⟩⟩,?_⟩
   ·simp[hcl]
    omega
   ·rw[Nat.mul_one,List.toList_toArray,List.take_zero,List.nil_append];exact List.take_left' hcl
   ·exact⟨rfl,rfl,rfl,by simp[World.setRow],λi hi hne=>setRow_other w g i _ (λe=>hne (by rw[e];rfl))⟩
theorem zpb (xs:List Int) (n:Nat) (hn:xs.length=n) (ad:Option Addr) (cap:Nat) (h1:n<=1048576) (hz:ad=none->n=0/\cap=0) (w:World) (hr:RowAt .i64 w ad xs) :
  Calls Tryz.prog 86 #[.slice ad n cap] w λe w'=>∃ v,e=.returned v/\OwnI .i64 2 w' w.heap.size v xs/\Below w.heap.size w w':=by
 have HR:=za hr;have HN:=za hn;obtain⟨i0,hi,hz0,hz1,hz2⟩:=info_parts zdW;rcases ad with _|ad
 ·obtain⟨rfl,rfl⟩:=hz rfl;obtain rfl:xs=[]:=List.eq_nil_of_length_eq_zero hn;have q:∀ w:World,(binOp .eql 28 (.slice none 0 0) (.slice none 0 0)).run Tryz.prog w=.ok (.bool true) w:=λw=>Lib.run_eql_slice_nil w _ _ _ 0 0 0 0 Tryz.underlying28
  clear hr hn hz
  go_enter Tryz.func86,Tryz.ntmps86
  go_wp2;go_ret;exact⟨_,rfl,OwnI.nil _ _ _ _,Below.refl _ _⟩
 ·have q:∀ w:World,(binOp .eql 28 (.slice (some ad) n cap) (.slice none 0 0)).run Tryz.prog w=.ok (.bool false) w:=λw=>Lib.run_eql_slice_nil w _ _ _ n cap 0 0 Tryz.underlying28
  clear hr hn hz
  go_enter Tryz.func86,Tryz.ntmps86
  go_wp2_with (at_builtin;refine zdK .i64 _ rfl _ _ 28 rfl w.heap.size 2 i0 (.int .i64 0) 8 Tryz.underlying28 hi hz0 hz1 hz2 rfl (.slice (some ⟨w.heap.size,0,none⟩) 0 0) [] rfl (zjj _ _ _ _ (Nat.le_refl _)) (some ad) n cap xs rfl HN.out (HR.out.below (zg _ _)) (λe=>by cases e) (by simp;unfold maxLen;omega) (by simp;omega) (by simp) ?_;intro v1 w2 own2 grow2 _;have bw2:=zhN (Below.refl _ _) grow2;rw[List.nil_append]at own2)
  go_ret;exact⟨v1,rfl,own2,bw2⟩
end Go.Proofs.YtlodkoimdoeopaaGreatDoor
