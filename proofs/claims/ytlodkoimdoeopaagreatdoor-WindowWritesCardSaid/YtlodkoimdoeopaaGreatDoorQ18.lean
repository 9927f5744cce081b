/- Parts, joined. -/
import Derived.Test.YtlodkoimdoeopaaGreatDoorQ12
import Derived.Test.YtlodkoimdoeopaaGreatDoorQ17
import Derived.Test.YtlodkoimdoeopaaGreatDoorQ09
import Derived.Test.YtlodkoimdoeopaaGreatDoorQ10
import Derived.Test.YtlodkoimdoeopaaGreatDoorQ03
import Derived.Test.YtlodkoimdoeopaaGreatDoorQ15
namespace Go.Proofs.YtlodkoimdoeopaaGreatDoor
open Go.RowKit
set_option maxRecDepth 100000 in
theorem zxR:zx8 zaT 105:=by
 intro w hk;have C5:∀ w:World,zaT w->Calls Tryz.prog 148 #[] w λe w'=>e=.returned (.bool true)/\Below w.heap.size w w':=λw hk=>zxW zpe zyg w hk
 have C6:∀ w:World,zaT w->Calls Tryz.prog 149 #[] w λe w'=>e=.returned (.bool true)/\Below w.heap.size w w':=λw hk=>zxP (K:=zaT) (λ_ _ h b=>zbq h b) (λxs ad cap w _ hr hx hl=>zhq xs ad cap w hr hx hl) (λs w _ _ _=>zhI s w) w hk
 obtain⟨e1,e2,e3⟩:=zxK;have CR1:=λw hk=>ziY 0 4 2 (by omega) (by omega) (by omega) (by omega) (by omega) (by omega) w hk
 rw[e1,show(2:Int).toNat=2 from rfl,e2]at CR1;have CK:∀ w':World,Below w.heap.size w w'->zaT w':=λw' b=>zbq hk b
 have L1:∀ {w:World} {v:Value} {n:Int},Tab w v n [(0,[8192,8192]),(2,[8192,8192])]->Calls Tryz.prog 46 #[v,.int .i64 1] w λe w'=>∃ u,e=.returned (.agg #[.int .i64 2,u])/\OwnI .i64 2 w' w.heap.size u [8192,8192]/\Below w.heap.size w w':=λh=>zeH h 1 (by decide)
 have L0:∀ {w:World} {v:Value} {n:Int},Tab w v n [(0,[8192,8192]),(2,[8192,8192])]->Calls Tryz.prog 46 #[v,.int .i64 0] w λe w'=>∃ u,e=.returned (.agg #[.int .i64 0,u])/\OwnI .i64 2 w' w.heap.size u [8192,8192]/\Below w.heap.size w w':=λh=>zeH h 0 (by decide)
 have LR:∀ {w:World} {v:Value} {n:Int},Tab w v n [(0,[8192,8192]),(2,[8192,8192])]->Calls Tryz.prog 42 #[v,.int .i64 0,.int .i64 2] w λe w'=>e=.returned (.tuple #[.int .i64 0,.int .i64 4])/\Below w.heap.size w w':=by
  intro w v n h;have:=zf8 h 0 2 (by omega) (by omega) (by omega) (by omega);rw[e3]at this;exact this
 clear e1 e2 e3 hk
 go_enter Tryz.func105,Tryz.ntmps105
 go_wp2_with (first
  |(go_at_call 148;(with_reducible refine(C5 _ (CK _ (by repeat (first|exact Below.refl _ _|exact HB.out|(with_reducible refine bt ?_ (by assumption))|with_reducible refine bd ?_|with_reducible refine ba ?_ _)))).mono ?_);rintro e w1 ⟨rfl,b1⟩)
  |(go_at_call 149;(with_reducible refine(C6 _ (CK _ (by repeat (first|exact Below.refl _ _|exact HB.out|(with_reducible refine bt ?_ (by assumption))|with_reducible refine bd ?_|with_reducible refine ba ?_ _)))).mono ?_);rintro e w2 ⟨rfl,b2⟩)
  |(go_at_call 102;(with_reducible refine(CR1 _ (CK _ (by repeat (first|exact Below.refl _ _|exact HB.out|(with_reducible refine bt ?_ (by assumption))|with_reducible refine bd ?_|with_reducible refine ba ?_ _)))).mono ?_);rintro e w3 ⟨v,rfl,hT,_,b3⟩;have HT:=za (hT (by trivial));clear hT;obtain⟨a,rfl⟩:=Tab.ptr HT.out)
  |(go_at_call 46;(with_reducible refine(L1 HT.out).mono ?_);rintro e w4 ⟨u,rfl,ou,b4⟩;obtain⟨ad,cap,rfl,ra,_⟩:=ou.formn (show[(8192:Int),8192].length=2 from rfl))
  |(go_at_call 42;(with_reducible refine(LR (Tab.below HT.out (by repeat (first|exact Below.refl _ _|exact HB.out|(with_reducible refine bt ?_ (by assumption))|with_reducible refine bd ?_|with_reducible refine ba ?_ _)))).mono ?_);rintro e w5 ⟨rfl,b5⟩;have q0:=cb b5 (b:=w4.heap.size) (o:=0) (v:=.int .i64 2) (by simp) (by simp);have q1:=cb b5 (b:=w4.heap.size) (o:=1) (v:=.slice ad 2 cap) (by simp) (by simp);have z5:w4.heap.size<w5.heap.size:=(by have:=b5.size;simp at this;omega))
  |(go_at_call 46;(with_reducible refine(L0 (Tab.below HT.out (by repeat (first|exact Below.refl _ _|exact HB.out|(with_reducible refine bt ?_ (by assumption))|with_reducible refine bd ?_|with_reducible refine ba ?_ _)))).mono ?_);rintro e w6 ⟨u6,rfl,ou6,b6⟩;obtain⟨ad6,cap6,rfl,_,_⟩:=ou6.formn (show[(8192:Int),8192].length=2 from rfl);have F0:=zor 0 ad6 2 cap6;have y0:=cb b6 z5 q0;have y1:=cb b6 z5 q1)
  |(go_at_call 150;(with_reducible refine(zs9 2 [8192,8192] rfl _ _ _ _ _ (ra.below (by repeat (first|exact Below.refl _ _|exact HB.out|(with_reducible refine bt ?_ (by assumption))|with_reducible refine bd ?_|with_reducible refine ba ?_ _))) (zyn _ _ _ _) (by omega)).mono ?_);rintro e w7 ⟨rfl,b7⟩))
 go_ret;refine⟨rfl,?_⟩;exact(by repeat (first|exact Below.refl _ _|exact HB.out|(with_reducible refine bt ?_ (by assumption))|with_reducible refine bd ?_|with_reducible refine ba ?_ _))
theorem zaQ (n:Int) (h0:1<=n) (h1:n<=65536) (w:World) :
  Calls Tryz.prog 156 #[.int .i64 n] w λe w'=>e=.returned (.bool true)/\w=w':=by
 go_enter Tryz.func156,Tryz.ntmps156
 go_wp2;go_ret
 first|exact⟨rfl,rfl⟩|exact⟨zU (decide_eq_true (by omega)),rfl⟩
theorem zfn (n:Int) (h:n<1\/65536<n) (w:World) :
  Calls Tryz.prog 156 #[.int .i64 n] w λe w'=>e=.returned (.bool false)/\w=w':=by
 rcases h with h|h
 all_goals
  go_enter Tryz.func156,Tryz.ntmps156
  go_wp2;go_ret
  first|exact⟨rfl,rfl⟩|exact⟨zU (decide_eq_false (by omega)),rfl⟩
theorem zoK (o:Opr) (ax:Option Addr) (cx:Nat) (ay:Option Addr) (cy:Nat) (a b:Int) (w:World) :
  Calls Tryz.prog 119 #[opV o ax cx ay cy,.int .i64 a,.int .i64 b] w λe w'=>e=.returned (.tuple #[.int .i64 (toW o a),.int .i64 (toH o b)])/\Below w.heap.size w w':=by
 unfold opV toW toH;obtain⟨kd,bd,sg,rd,xs,ys,fl,wd,ht⟩:=o;simp only;generalize xs.length=nx at *;generalize ys.length=ny at *
 by_cases h:kd=3
 ·rw[if_pos h,if_pos h];subst h
  go_enter Tryz.func119,Tryz.ntmps119
  go_wp2
  go_quiet (fail)
  go_wp2;exact bodyPost_ret (v:=.tuple #[.int .i64 wd,.int .i64 ht]) (by simp[results,Tryz.results119,go_sem]) rfl ⟨rfl,by repeat (first|exact Below.refl _ _|with_reducible refine bdN ?_ _|with_reducible refine bd ?_|with_reducible refine ba ?_ _)⟩
 ·rw[if_neg h,if_neg h];have hq:(kd == 3)=false:=by simpa using h
  clear h
  go_enter Tryz.func119,Tryz.ntmps119
  go_wp2;exact bodyPost_ret (v:=.tuple #[.int .i64 a,.int .i64 b]) (by simp[results,Tryz.results119,go_sem]) rfl ⟨rfl,by repeat (first|exact Below.refl _ _|with_reducible refine bd ?_|with_reducible refine ba ?_ _)⟩
def S5 (w:World) (R:Nat) (v0 v1 v2 v3 v4:Value):Prop :=
 (w.cell? ⟨R,0,none⟩=some v0/\w.frozen? ⟨R,0,none⟩=false)/\(w.cell? ⟨R,1,none⟩=some v1/\w.frozen? ⟨R,1,none⟩=false)/\(w.cell? ⟨R,2,none⟩=some v2/\w.frozen? ⟨R,2,none⟩=false) /\
 (w.cell? ⟨R,3,none⟩=some v3/\w.frozen? ⟨R,3,none⟩=false)/\(w.cell? ⟨R,4,none⟩=some v4/\w.frozen? ⟨R,4,none⟩=false)
theorem S5.grown {w w':World} {R:Nat} {v0 v1 v2 v3 v4:Value} {row:Option Nat} (h:S5 w R v0 v1 v2 v3 v4) (g:w.grownBy w' row) (ne:some R≠row):S5 w' R v0 v1 v2 v3 v4:=by
 obtain⟨⟨a,a'⟩,⟨b,b'⟩,⟨c,c'⟩,⟨d,d'⟩,⟨e,e'⟩⟩:=h;exact⟨⟨cg g ne a,fg g ne a a'⟩,⟨cg g ne b,fg g ne b b'⟩,⟨cg g ne c,fg g ne c c'⟩,⟨cg g ne d,fg g ne d d'⟩,⟨cg g ne e,fg g ne e e'⟩⟩
theorem S5.below {w w':World} {R:Nat} {v0 v1 v2 v3 v4:Value} (h:S5 w R v0 v1 v2 v3 v4) (b:Below w.heap.size w w'):S5 w' R v0 v1 v2 v3 v4:=h.grown (zZ b none) (by simp)
theorem S5.new (w:World) (T:TypeId) (v0 v1 v2 v3 v4:Value):S5 (w.alloc (.cells #[v0,v1,v2,v3,v4] T)) w.heap.size v0 v1 v2 v3 v4:=by
 unfold S5
 simp
theorem S5.set0 {w:World} {R:Nat} {v0 v1 v2 v3 v4:Value} (h:S5 w R v0 v1 v2 v3 v4) (u:Value):S5 (w.setCell ⟨R,0,none⟩ u) R u v1 v2 v3 v4:=by
 obtain⟨⟨a,a'⟩,⟨b,b'⟩,⟨c,c'⟩,⟨d,d'⟩,⟨e,e'⟩⟩:=h;unfold S5;simp only[World.frozen?_setCell];refine⟨⟨World.cell?_setCell_same' _ _ _ (by rw[a];rfl),a'⟩,⟨?_,b'⟩,⟨?_,c'⟩,⟨?_,d'⟩,⟨?_,e'⟩⟩<;>rw[World.cell?_setCell_other _ _ _ _ (by intro x;simp at x)]<;>assumption
theorem S5.set1 {w:World} {R:Nat} {v0 v1 v2 v3 v4:Value} (h:S5 w R v0 v1 v2 v3 v4) (u:Value):S5 (w.setCell ⟨R,1,none⟩ u) R v0 u v2 v3 v4:=by
 obtain⟨⟨a,a'⟩,⟨b,b'⟩,⟨c,c'⟩,⟨d,d'⟩,⟨e,e'⟩⟩:=h;unfold S5;simp only[World.frozen?_setCell];refine⟨⟨?_,a'⟩,⟨World.cell?_setCell_same' _ _ _ (by rw[b];rfl),b'⟩,⟨?_,c'⟩,⟨?_,d'⟩,⟨?_,e'⟩⟩<;>rw[World.cell?_setCell_other _ _ _ _ (by intro x;simp at x)]<;>assumption
theorem S5.set2 {w:World} {R:Nat} {v0 v1 v2 v3 v4:Value} (h:S5 w R v0 v1 v2 v3 v4) (u:Value):S5 (w.setCell ⟨R,2,none⟩ u) R v0 v1 u v3 v4:=by
 obtain⟨⟨a,a'⟩,⟨b,b'⟩,⟨c,c'⟩,⟨d,d'⟩,⟨e,e'⟩⟩:=h;unfold S5;simp only[World.frozen?_setCell];refine⟨⟨?_,a'⟩,⟨?_,b'⟩,⟨World.cell?_setCell_same' _ _ _ (by rw[c];rfl),c'⟩,⟨?_,d'⟩,⟨?_,e'⟩⟩<;>rw[World.cell?_setCell_other _ _ _ _ (by intro x;simp at x)]<;>assumption
theorem S5.set3 {w:World} {R:Nat} {v0 v1 v2 v3 v4:Value} (h:S5 w R v0 v1 v2 v3 v4) (u:Value):S5 (w.setCell ⟨R,3,none⟩ u) R v0 v1 v2 u v4:=by
 obtain⟨⟨a,a'⟩,⟨b,b'⟩,⟨c,c'⟩,⟨d,d'⟩,⟨e,e'⟩⟩:=h;unfold S5;simp only[World.frozen?_setCell];refine⟨⟨?_,a'⟩,⟨?_,b'⟩,⟨?_,c'⟩,⟨World.cell?_setCell_same' _ _ _ (by rw[d];rfl),d'⟩,⟨?_,e'⟩⟩<;>rw[World.cell?_setCell_other _ _ _ _ (by intro x;simp at x)]<;>assumption
theorem S5.set4 {w:World} {R:Nat} {v0 v1 v2 v3 v4:Value} (h:S5 w R v0 v1 v2 v3 v4) (u:Value):S5 (w.setCell ⟨R,4,none⟩ u) R v0 v1 v2 v3 u:=by
 obtain⟨⟨a,a'⟩,⟨b,b'⟩,⟨c,c'⟩,⟨d,d'⟩,⟨e,e'⟩⟩:=h;unfold S5;simp only[World.frozen?_setCell];refine⟨⟨?_,a'⟩,⟨?_,b'⟩,⟨?_,c'⟩,⟨?_,d'⟩,⟨World.cell?_setCell_same' _ _ _ (by rw[e];rfl),e'⟩⟩<;>rw[World.cell?_setCell_other _ _ _ _ (by intro x;simp at x)]<;>assumption
theorem S5.fill {w:World} {R:Nat} {u0 u1 u2 u3 u4:Value} (h:S5 w R u0 u1 u2 u3 u4) (v0 v1 v2 v3 v4:Value):S5 (((((w.setCell ⟨R,0,none⟩ v0).setCell ⟨R,1,none⟩ v1).setCell ⟨R,2,none⟩ v2).setCell ⟨R,3,none⟩ v3).setCell ⟨R,4,none⟩ v4) R v0 v1 v2 v3 v4 :=
 ((((h.set0 v0).set1 v1).set2 v2).set3 v3).set4 v4
theorem zaI {a w:World} {R:Nat} (h:Below a.heap.size a w) (hR:a.heap.size<=R) (v0 v1 v2 v3 v4:Value):Below a.heap.size a (((((w.setCell ⟨R,0,none⟩ v0).setCell ⟨R,1,none⟩ v1).setCell ⟨R,2,none⟩ v2).setCell ⟨R,3,none⟩ v3).setCell ⟨R,4,none⟩ v4) :=
 bs (bs (bs (bs (bs h hR _) hR _) hR _) hR _) hR _
def s0V:Value:=.agg #[.slice none 0 0,.slice none 0 0,.int .i64 0,.int .i64 0,.int .i64 0]
set_option maxHeartbeats 4000000 in
set_option maxRecDepth 100000 in
theorem zsV (o:Opr) (ax:Option Addr) (cx:Nat) (ay:Option Addr) (cy:Nat) (a b:Int) (w:World) (h:okO o a b=false) :
  Calls Tryz.prog 118 #[opV o ax cx ay cy,.int .i64 a,.int .i64 b] w λe w'=>e=.returned (.tuple #[s0V,.int .i64 6])/\Below w.heap.size w w':=by
 have hn:¬((0<=o.kd/\o.kd<=3)/\(0<=o.bd/\o.bd<=2)/\(1<=a/\a<=65536)/\(1<=b/\b<=65536)/\(o.kd=3->(1<=o.wd/\o.wd<=65536)/\(1<=o.ht/\o.ht<=65536)/\0<=o.fl/\o.fl<=2)):=λg=>Bool.false_ne_true (h.symm.trans ((zbD o a b).2 g))
 unfold opV s0V;obtain⟨kd,bd,sg,rd,xs,ys,fl,wd,ht⟩:=o;simp only at hn ⊢;clear h;generalize xs.length=nx at *;generalize ys.length=ny at *
 by_cases a1:kd<0
 ·clear hn
  go_enter Tryz.func118,Tryz.ntmps118
  go_wp2;exact bodyPost_ret (v:=.tuple #[.agg #[.slice none 0 0,.slice none 0 0,.int .i64 0,.int .i64 0,.int .i64 0],.int .i64 6]) (by simp[results,Tryz.results118,go_sem]) rfl ⟨rfl,by repeat (first|exact Below.refl _ _|with_reducible refine ba ?_ _)⟩
 by_cases a2:3<kd
 ·clear hn
  go_enter Tryz.func118,Tryz.ntmps118
  go_wp2;exact bodyPost_ret (v:=.tuple #[.agg #[.slice none 0 0,.slice none 0 0,.int .i64 0,.int .i64 0,.int .i64 0],.int .i64 6]) (by simp[results,Tryz.results118,go_sem]) rfl ⟨rfl,by repeat (first|exact Below.refl _ _|with_reducible refine ba ?_ _)⟩
 by_cases a3:bd<0
 ·clear hn
  go_enter Tryz.func118,Tryz.ntmps118
  go_wp2;exact bodyPost_ret (v:=.tuple #[.agg #[.slice none 0 0,.slice none 0 0,.int .i64 0,.int .i64 0,.int .i64 0],.int .i64 6]) (by simp[results,Tryz.results118,go_sem]) rfl ⟨rfl,by repeat (first|exact Below.refl _ _|with_reducible refine ba ?_ _)⟩
 by_cases a4:2<bd
 ·clear hn
  go_enter Tryz.func118,Tryz.ntmps118
  go_wp2;exact bodyPost_ret (v:=.tuple #[.agg #[.slice none 0 0,.slice none 0 0,.int .i64 0,.int .i64 0,.int .i64 0],.int .i64 6]) (by simp[results,Tryz.results118,go_sem]) rfl ⟨rfl,by repeat (first|exact Below.refl _ _|with_reducible refine ba ?_ _)⟩
 by_cases a5:1<=a/\a<=65536
 case neg =>
  have S1:=zfn a (by omega);clear hn a5
  go_enter Tryz.func118,Tryz.ntmps118
  go_wp2_with (first
   |(go_at_call 156;(with_reducible refine(S1 _).mono ?_);rintro e w1 ⟨rfl,rfl⟩))
  exact bodyPost_ret (v:=.tuple #[.agg #[.slice none 0 0,.slice none 0 0,.int .i64 0,.int .i64 0,.int .i64 0],.int .i64 6]) (by simp[results,Tryz.results118,go_sem]) rfl ⟨rfl,by repeat (first|exact Below.refl _ _|with_reducible refine ba ?_ _)⟩
 have S1:=zaQ a a5.1 a5.2
 by_cases a6:1<=b/\b<=65536
 case neg =>
  have S2:=zfn b (by omega);clear hn a5 a6
  go_enter Tryz.func118,Tryz.ntmps118
  go_wp2_with (first
   |(go_at_call 156;(with_reducible refine(S1 _).mono ?_);rintro e w1 ⟨rfl,rfl⟩)
   |(go_at_call 156;(with_reducible refine(S2 _).mono ?_);rintro e w1 ⟨rfl,rfl⟩))
  exact bodyPost_ret (v:=.tuple #[.agg #[.slice none 0 0,.slice none 0 0,.int .i64 0,.int .i64 0,.int .i64 0],.int .i64 6]) (by simp[results,Tryz.results118,go_sem]) rfl ⟨rfl,by repeat (first|exact Below.refl _ _|with_reducible refine ba ?_ _)⟩
 have S2:=zaQ b a6.1 a6.2;have k3:kd=3:=by
  by_cases k:kd=3
  ·exact k
  ·exact absurd ⟨⟨by omega,by omega⟩,⟨by omega,by omega⟩,a5,a6,λe=>absurd e k⟩ hn
 subst k3
 by_cases a7:1<=wd/\wd<=65536
 case neg =>
  have S3:=zfn wd (by omega);clear hn a5 a6 a7
  go_enter Tryz.func118,Tryz.ntmps118
  go_wp2_with (first
   |(go_at_call 156;(with_reducible refine(S1 _).mono ?_);rintro e w1 ⟨rfl,rfl⟩)
   |(go_at_call 156;(with_reducible refine(S2 _).mono ?_);rintro e w1 ⟨rfl,rfl⟩)
   |(go_at_call 156;(with_reducible refine(S3 _).mono ?_);rintro e w1 ⟨rfl,rfl⟩))
  exact bodyPost_ret (v:=.tuple #[.agg #[.slice none 0 0,.slice none 0 0,.int .i64 0,.int .i64 0,.int .i64 0],.int .i64 6]) (by simp[results,Tryz.results118,go_sem]) rfl ⟨rfl,by repeat (first|exact Below.refl _ _|with_reducible refine ba ?_ _)⟩
 have S3:=zaQ wd a7.1 a7.2
 by_cases a8:1<=ht/\ht<=65536
 case neg =>
  have S4:=zfn ht (by omega);clear hn a5 a6 a7 a8
  go_enter Tryz.func118,Tryz.ntmps118
  go_wp2_with (first
   |(go_at_call 156;(with_reducible refine(S1 _).mono ?_);rintro e w1 ⟨rfl,rfl⟩)
   |(go_at_call 156;(with_reducible refine(S2 _).mono ?_);rintro e w1 ⟨rfl,rfl⟩)
   |(go_at_call 156;(with_reducible refine(S3 _).mono ?_);rintro e w1 ⟨rfl,rfl⟩)
   |(go_at_call 156;(with_reducible refine(S4 _).mono ?_);rintro e w1 ⟨rfl,rfl⟩))
  exact bodyPost_ret (v:=.tuple #[.agg #[.slice none 0 0,.slice none 0 0,.int .i64 0,.int .i64 0,.int .i64 0],.int .i64 6]) (by simp[results,Tryz.results118,go_sem]) rfl ⟨rfl,by repeat (first|exact Below.refl _ _|with_reducible refine ba ?_ _)⟩
 have S4:=zaQ ht a8.1 a8.2
 by_cases a9:fl<0
 ·clear hn a5 a6 a7 a8
  go_enter Tryz.func118,Tryz.ntmps118
  go_wp2_with (first
   |(go_at_call 156;(with_reducible refine(S1 _).mono ?_);rintro e w1 ⟨rfl,rfl⟩)
   |(go_at_call 156;(with_reducible refine(S2 _).mono ?_);rintro e w1 ⟨rfl,rfl⟩)
   |(go_at_call 156;(with_reducible refine(S3 _).mono ?_);rintro e w1 ⟨rfl,rfl⟩)
   |(go_at_call 156;(with_reducible refine(S4 _).mono ?_);rintro e w1 ⟨rfl,rfl⟩))
  exact bodyPost_ret (v:=.tuple #[.agg #[.slice none 0 0,.slice none 0 0,.int .i64 0,.int .i64 0,.int .i64 0],.int .i64 6]) (by simp[results,Tryz.results118,go_sem]) rfl ⟨rfl,by repeat (first|exact Below.refl _ _|with_reducible refine ba ?_ _)⟩
 have aa:2<fl:=by
  by_cases k:2<fl
  ·exact k
  ·exact absurd ⟨⟨by omega,by omega⟩,⟨by omega,by omega⟩,a5,a6,λ_=>⟨a7,a8,by omega,by omega⟩⟩ hn
 clear hn a5 a6 a7 a8
 go_enter Tryz.func118,Tryz.ntmps118
 go_wp2_with (first
  |(go_at_call 156;(with_reducible refine(S1 _).mono ?_);rintro e w1 ⟨rfl,rfl⟩)
  |(go_at_call 156;(with_reducible refine(S2 _).mono ?_);rintro e w1 ⟨rfl,rfl⟩)
  |(go_at_call 156;(with_reducible refine(S3 _).mono ?_);rintro e w1 ⟨rfl,rfl⟩)
  |(go_at_call 156;(with_reducible refine(S4 _).mono ?_);rintro e w1 ⟨rfl,rfl⟩))
 exact bodyPost_ret (v:=.tuple #[.agg #[.slice none 0 0,.slice none 0 0,.int .i64 0,.int .i64 0,.int .i64 0],.int .i64 6]) (by simp[results,Tryz.results118,go_sem]) rfl ⟨rfl,by repeat (first|exact Below.refl _ _|with_reducible refine ba ?_ _)⟩
def P9 (w:World) (b:Nat) (k d s r:Int) (x y:Value) (f a h:Int):Prop :=
 w.cell? ⟨b,0,none⟩=some (.int .i64 k)/\w.cell? ⟨b,1,none⟩=some (.int .i64 d)/\w.cell? ⟨b,2,none⟩=some (.int .i64 s)/\w.cell? ⟨b,3,none⟩=some (.int .i64 r)/\w.cell? ⟨b,4,none⟩=some x/\w.cell? ⟨b,5,none⟩=some y /\
 w.cell? ⟨b,6,none⟩=some (.int .i64 f)/\w.cell? ⟨b,7,none⟩=some (.int .i64 a)/\w.cell? ⟨b,8,none⟩=some (.int .i64 h)
theorem P9.below {w w':World} {b:Nat} {k d s r:Int} {x y:Value} {f a h:Int} (p:P9 w b k d s r x y f a h) (hb:Below w.heap.size w w'):P9 w' b k d s r x y f a h:=by
 obtain⟨p0,p1,p2,p3,p4,p5,p6,p7,p8⟩:=p;have hl:=ze p0;exact⟨cb hb hl p0,cb hb hl p1,cb hb hl p2,cb hb hl p3,cb hb hl p4,cb hb hl p5,cb hb hl p6,cb hb hl p7,cb hb hl p8⟩
theorem P9.new (w:World) (T:TypeId) (k d s r:Int) (x y:Value) (f a h:Int):P9 (w.alloc (.cells #[.int .i64 k,.int .i64 d,.int .i64 s,.int .i64 r,x,y,.int .i64 f,.int .i64 a,.int .i64 h] T)) w.heap.size k d s r x y f a h:=by
 unfold P9
 simp
theorem zwt (w:World) (T:TypeId) (o:Opr) (ax:Option Addr) (cx:Nat) (ay:Option Addr) (cy:Nat) (hA:OpAt w o ax cx ay cy):OpsAt (w.alloc (.cells #[.int .i64 o.kd,.int .i64 o.bd,.int .i64 o.sg,.int .i64 o.rd,.slice ax o.xs.length cx,.slice ay o.ys.length cy,.int .i64 o.fl,.int .i64 o.wd,.int .i64 o.ht] T)) (some ⟨w.heap.size,0,none⟩) [o]:=by
 refine .inr ⟨w.heap.size,0,rfl,λj hj=>?_⟩;obtain rfl:j=0:=by simpa using hj
 show OpIn _ _ _ o
 obtain⟨p0,p1,p2,p3,p4,p5,p6,p7,p8⟩:=P9.new w T o.kd o.bd o.sg o.rd (.slice ax o.xs.length cx) (.slice ay o.ys.length cy) o.fl o.wd o.ht;exact⟨p0,p1,p2,p3,p6,p7,p8,ax,cx,ay,cy,p4,p5,hA.below (zg _ _)⟩
def zb7 (e:Ending) (w':World) (k:Int) (S:Stg):Prop :=
 (k≠0/\e=.returned (.tuple #[.agg #[.pointer none,.pointer none,.int .i64 0],.int .i64 k]))\/(k=0/\∃ x y,e=.returned (.tuple #[.agg #[x,y,.int .i64 S.sb],.int .i64 0])/\Tab w' x S.fx S.lx/\Tab w' y S.fy S.ly)
def zrM (K:World->Prop):Prop:=∀ (o:Opr) (ax:Option Addr) (cx:Nat) (ay:Option Addr) (cy:Nat) (a b:Int) (w:World),K w->OpAt w o ax cx ay cy->OpFits o->zaz a->zaz b ->
 Calls Tryz.prog 34 #[opV o ax cx ay cy,.int .i64 a,.int .i64 b] w λe w'=>zb7 e w' (zC o a b) (zj o a b)/\Below w.heap.size w w'
def exO:Opr:=⟨3,0,0,0,[],[],0,2,1⟩
theorem zut:zC exO 4 3=0/\(zj exO 4 3).lx.length=2/\(zj exO 4 3).ly.length=1:=by decide +kernel
theorem zuO:OpFits exO:=by
 refine⟨?_,?_,?_,?_,?_,?_,?_,(λn hn=>by cases hn),(λn hn=>by cases hn),Nat.zero_le _,Nat.zero_le _⟩<;>(unfold zaz exO;simp)
set_option maxRecDepth 100000 in
theorem zsu {K:World->Prop} (hKB:∀ w w',K w->Below w.heap.size w w'->K w') (hKK:∀ w,K w->zaT w) (CM:zrM K) (w:World) (hk:K w) :
  Calls Tryz.prog 67 #[] w λe w'=>e=.returned (.bool true)/\Below w.heap.size w w':=by
 have C8:∀ w:World,zaT w->Calls Tryz.prog 105 #[] w λe w'=>e=.returned (.bool true)/\Below w.heap.size w w':=λw hk=>zxR w hk
 obtain⟨e1,e2,e3⟩:=zut;have C1:∀ w:World,K w->Calls Tryz.prog 34 #[.agg #[.int .i64 3,.int .i64 0,.int .i64 0,.int .i64 0,.slice none 0 0,.slice none 0 0,.int .i64 0,.int .i64 2,.int .i64 1],.int .i64 4,.int .i64 3] w λe w'=>(∃ x y,e=.returned (.tuple #[.agg #[.pointer (some x),.pointer (some y),.int .i64 0],.int .i64 0])/\Tab w' (.pointer (some x)) 4 (zj exO 4 3).lx/\Tab w' (.pointer (some y)) 3 (zj exO 4 3).ly)/\Below w.heap.size w w':=λw hk =>
  (CM exO none 0 none 0 4 3 w hk ⟨.inl rfl,.inl rfl,λ_=>rfl,λ_=>rfl⟩ zuO (by unfold zaz;omega) (by unfold zaz;omega)).mono λe w' ⟨hA,hB⟩=>by
   rw[e1]at hA;rcases hA with⟨h0,_⟩|⟨_,x,y,he,tx,ty⟩
   ·exact absurd rfl h0
   ·obtain⟨ax,rfl⟩:=tx.ptr;obtain⟨ay,rfl⟩:=ty.ptr;exact⟨⟨ax,ay,he,tx,ty⟩,hB⟩
 have TF:=λ{w:World} {v:Value} {n:Int} {L:List (Int×List Int)} (h:Tab w v n L)=>zfZ h
 have TX:=λ{w:World} {v:Value} {n:Int} (h:Tab w v n (zj exO 4 3).lx)=>zeA h
 have TY:=λ{w:World} {v:Value} {n:Int} (h:Tab w v n (zj exO 4 3).ly)=>zeA h
 rw[e2]at TX;rw[e3]at TY;clear e1 e2 e3 CM;generalize (zj exO 4 3).lx=LX at *;generalize (zj exO 4 3).ly=LY at *;have q1:∀ (a:Addr) (w:World),(binOp .neq 34 (.pointer (some a)) (.pointer none)).run Tryz.prog w=.ok (.bool true) w:=λa w=>by kernel_rfl
 go_enter Tryz.func67,Tryz.ntmps67
 go_wp2_with (first
  |(go_at_call 34;(with_reducible refine(C1 _ hk).mono ?_);rintro e w1 ⟨⟨x,y,rfl,tx,ty⟩,b1⟩;have HX:=za tx;have HY:=za ty;clear tx ty)
  |(go_at_call 105;(with_reducible refine(C8 _ (hKK _ (hKB _ _ hk (ba b1 _)))).mono ?_);rintro e w2 ⟨rfl,b2⟩;have p0:=cb b2 (b:=w1.heap.size) (o:=0) (v:=.pointer (some x)) (by simp) (by simp);have p1:=cb b2 (b:=w1.heap.size) (o:=1) (v:=.pointer (some y)) (by simp) (by simp);have l2:w1.heap.size<w2.heap.size:=(by have:=b2.size;simp at this;omega))
  |(go_at_call 106;(with_reducible refine(TF ((HX.out.below (zg _ _)).below b2)).mono ?_);rintro e w3 ⟨rfl,b3⟩;have p2:=cb b3 l2 p0;have p3:=cb b3 l2 p1;have l3:=Nat.lt_of_lt_of_le l2 b3.size)
  |(go_at_call 32;(with_reducible refine(TX (((HX.out.below (zg _ _)).below b2).below b3)).mono ?_);rintro e w4 ⟨rfl,b4⟩;have p5:=cb b4 l3 p3;have l4:=Nat.lt_of_lt_of_le l3 b4.size)
  |(go_at_call 106;(with_reducible refine(TF ((((HY.out.below (zg _ _)).below b2).below b3).below b4)).mono ?_);rintro e w5 ⟨rfl,b5⟩;have p6:=cb b5 l4 p5)
  |(go_at_call 32;(with_reducible refine(TY (((((HY.out.below (zg _ _)).below b2).below b3).below b4).below b5)).mono ?_);rintro e w6 ⟨rfl,b6⟩))
 go_ret;exact⟨rfl,bt (bt (bt (bt (bt (ba b1 _) b2) b3) b4) b5) b6⟩
def S3 (w:World) (R:Nat) (v0 v1 v2:Value):Prop :=
 (w.cell? ⟨R,0,none⟩=some v0/\w.frozen? ⟨R,0,none⟩=false)/\(w.cell? ⟨R,1,none⟩=some v1/\w.frozen? ⟨R,1,none⟩=false)/\(w.cell? ⟨R,2,none⟩=some v2/\w.frozen? ⟨R,2,none⟩=false)
theorem S3.below {w w':World} {R:Nat} {v0 v1 v2:Value} (h:S3 w R v0 v1 v2) (hb:Below w.heap.size w w'):S3 w' R v0 v1 v2:=by
 obtain⟨⟨a,a'⟩,⟨b,b'⟩,⟨c,c'⟩⟩:=h;have hl:=ze a;exact⟨⟨cb hb hl a,fb hb hl a'⟩,⟨cb hb hl b,fb hb hl b'⟩,⟨cb hb hl c,fb hb hl c'⟩⟩
theorem S3.new (w:World) (T:TypeId) (v0 v1 v2:Value):S3 (w.alloc (.cells #[v0,v1,v2] T)) w.heap.size v0 v1 v2:=by
 unfold S3
 simp
theorem S3.fill {w:World} {R:Nat} {u0 u1 u2:Value} (h:S3 w R u0 u1 u2) (v0 v1 v2:Value):S3 (((w.setCell ⟨R,0,none⟩ v0).setCell ⟨R,1,none⟩ v1).setCell ⟨R,2,none⟩ v2) R v0 v1 v2:=by
 obtain⟨⟨a,a'⟩,⟨b,b'⟩,⟨c,c'⟩⟩:=h;unfold S3;simp only[World.frozen?_setCell];have e0:((w.setCell ⟨R,0,none⟩ v0)).cell? ⟨R,0,none⟩=some v0:=World.cell?_setCell_same' _ _ _ (by rw[a];rfl);have e1:((w.setCell ⟨R,0,none⟩ v0).setCell ⟨R,1,none⟩ v1).cell? ⟨R,1,none⟩=some v1:=World.cell?_setCell_same' _ _ _ (by rw[zc (Or.inr (by decide)),b];rfl);have e2:(((w.setCell ⟨R,0,none⟩ v0).setCell ⟨R,1,none⟩ v1).setCell ⟨R,2,none⟩ v2).cell? ⟨R,2,none⟩=some v2:=World.cell?_setCell_same' _ _ _ (by rw[zc (Or.inr (by decide)),zc (Or.inr (by decide)),c];rfl);refine⟨⟨?_,a'⟩,⟨?_,b'⟩,⟨e2,c'⟩⟩
 ·rw[zc (Or.inr (by decide)),zc (Or.inr (by decide))];exact e0
 ·rw[zc (Or.inr (by decide))];exact e1
theorem zaP {a w:World} {R:Nat} (h:Below a.heap.size a w) (hR:a.heap.size<=R) (v0 v1 v2:Value):Below a.heap.size a (((w.setCell ⟨R,0,none⟩ v0).setCell ⟨R,1,none⟩ v1).setCell ⟨R,2,none⟩ v2) :=
 bs (bs (bs h hR _) hR _) hR _
theorem Tab.fill3 {w:World} {R:Nat} {u0 u1 u2:Value} {v:Value} {n:Int} {L:List (Int×List Int)} (h:Tab w v n L) (hs:S3 w R u0 u1 u2) (hp:∀ x,u0≠.int .i64 x) (v0 v1 v2:Value):Tab (((w.setCell ⟨R,0,none⟩ v0).setCell ⟨R,1,none⟩ v1).setCell ⟨R,2,none⟩ v2) v n L:=by
 refine h.kept (((zn w R 0 v0).trans (zn _ R 1 v1)).trans (zn _ R 2 v2)) (λb x e c=>?_);obtain rfl:=Option.some.inj e;rw[hs.1.1]at c;exact hp x (Option.some.inj c)
theorem ztg (n:Nat) (xs:List Int) (hn:xs.length=n) (ad:Option Addr) (cap:Nat) (w:World) (hr:RowAt .i64 w ad xs) (hx:zad xs) (hl:n<=9223372036854775807) :
  Calls Tryz.prog 146 #[.slice ad n cap] w λe w'=>∃ v,e=.returned (.tuple #[v,.int .i64 (zY xs)])/\Ret .i64 (zJ xs) w' v/\Below w.heap.size w w':=by
 subst hn;exact zv6 xs ad cap w hr hx hl
def zri (e:Ending) (w':World) (k:Int) (xs ys:List Int):Prop :=
 ∃ a1 n1 c1 a2 n2 c2,e=.returned (.tuple #[.slice a1 n1 c1,.slice a2 n2 c2,.int .i64 k])/\(k=0->(xs.length=n1/\RowAt .i64 w' a1 xs)/\ys.length=n2/\RowAt .i64 w' a2 ys)
set_option maxHeartbeats 2000000 in
theorem zlJ (o:Opr) (ax:Option Addr) (cx:Nat) (ay:Option Addr) (cy:Nat) (w:World) (k3:o.kd=0) :
  Calls Tryz.prog 103 #[opV o ax cx ay cy] w λe w'=>zri e w' (zbB o) (wX o) (wY o)/\Below w.heap.size w w':=by
 rw[show zbB o=zbc o.sg from if_pos k3,show wX o=zS o.sg from if_pos k3,show wY o=zS o.sg from if_pos k3];unfold opV;obtain⟨kd,bd,sg,rd,xs,ys,fl,wd,ht⟩:=o;simp only at *;subst k3;have CG:=λw=>zhI sg w
 generalize xs.length=nx at *;generalize ys.length=ny at *;generalize zbc sg=kc at *;generalize zS sg=zs at *;obtain⟨nz,hz⟩:∃ n,zs.length=n:=⟨_,rfl⟩;have HZ:=za hz;clear hz
 go_enter Tryz.func103,Tryz.ntmps103
 go_wp2_with (go_at_call 144;(with_reducible refine(CG _).mono ?_);rintro e w1 ⟨v,rfl,hv,b1⟩;obtain⟨ad,cap,rfl,hr⟩:=hv.formn HZ.out;have HR:=za hr;clear hv hr)
 exact bodyPost_ret (v:=.tuple #[.slice ad nz cap,.slice ad nz cap,.int .i64 kc]) (by simp[results,Tryz.results103,go_sem]) rfl ⟨⟨ad,nz,cap,ad,nz,cap,rfl,λ_=>⟨⟨HZ.out,HR.out⟩,HZ.out,HR.out⟩⟩,bt (zg _ _) b1⟩
set_option maxHeartbeats 2000000 in
theorem znC (o:Opr) (ax:Option Addr) (cx:Nat) (ay:Option Addr) (cy:Nat) (w:World) (k3:o.kd=1) :
  Calls Tryz.prog 103 #[opV o ax cx ay cy] w λe w'=>zri e w' (zbB o) (wX o) (wY o)/\Below w.heap.size w w':=by
 rw[show zbB o=za5 o.rd from(if_neg (by omega)).trans (if_pos k3),show wX o=zM o.rd from(if_neg (by omega)).trans (if_pos k3),show wY o=zM o.rd from(if_neg (by omega)).trans (if_pos k3)];unfold opV;obtain⟨kd,bd,sg,rd,xs,ys,fl,wd,ht⟩:=o;simp only at *;subst k3;have CG:=λw=>zvo rd w
 generalize xs.length=nx at *;generalize ys.length=ny at *;generalize za5 rd=kc at *;generalize zM rd=zs at *;obtain⟨nz,hz⟩:∃ n,zs.length=n:=⟨_,rfl⟩;have HZ:=za hz;clear hz
 go_enter Tryz.func103,Tryz.ntmps103
 go_wp2_with (go_at_call 145;(with_reducible refine(CG _).mono ?_);rintro e w1 ⟨v,rfl,hv,b1⟩;obtain⟨ad,cap,rfl,hr⟩:=hv.formn HZ.out;have HR:=za hr;clear hv hr)
 exact bodyPost_ret (v:=.tuple #[.slice ad nz cap,.slice ad nz cap,.int .i64 kc]) (by simp[results,Tryz.results103,go_sem]) rfl ⟨⟨ad,nz,cap,ad,nz,cap,rfl,λ_=>⟨⟨HZ.out,HR.out⟩,HZ.out,HR.out⟩⟩,bt (zg _ _) b1⟩
set_option maxHeartbeats 2000000 in
theorem zkD (o:Opr) (ax:Option Addr) (cx:Nat) (ay:Option Addr) (cy:Nat) (w:World) (k3:o.kd=2) (hA:OpAt w o ax cx ay cy) (hF:OpFits o) :
  Calls Tryz.prog 103 #[opV o ax cx ay cy] w λe w'=>zri e w' (zbB o) (wX o) (wY o)/\Below w.heap.size w w':=by
 have hl1:o.xs.length<=9223372036854775807:=hF.lx;have hl2:o.ys.length<=9223372036854775807:=hF.ly;have CX:=λw' (b:Below w.heap.size w w')=>ztg o.xs.length o.xs rfl ax cx w' (hA.1.below b) hF.xs.all hl1
 have CY:=λw' (b:Below w.heap.size w w')=>ztg o.ys.length o.ys rfl ay cy w' (hA.2.1.below b) hF.ys.all hl2
 have hw:zbB o=if zY o.xs≠0 then zY o.xs else zY o.ys:=(if_neg (by omega)).trans (if_neg (by omega));rw[hw,show wX o=zJ o.xs from(if_neg (by omega)).trans (if_neg (by omega)),show wY o=zJ o.ys from(if_neg (by omega)).trans (if_neg (by omega))];clear hw hA hF hl1 hl2;unfold opV;obtain⟨kd,bd,sg,rd,xs,ys,fl,wd,ht⟩:=o;simp only at *;subst k3;generalize zY xs=kx at *;generalize zY ys=ky at *;generalize zJ xs=us at *;generalize zJ ys=vs at *;generalize xs.length=nx at *;generalize ys.length=ny at *;obtain⟨nu,hu⟩:∃ n,us.length=n:=⟨_,rfl⟩;obtain⟨nv,hv⟩:∃ n,vs.length=n:=⟨_,rfl⟩;have HU:=za hu;have HV:=za hv;clear hu hv;have P0:=za (P9.new w 31 2 bd sg rd (.slice ax nx cx) (.slice ay ny cy) fl wd ht)
 by_cases hz:kx=0
 ·subst hz;rw[if_neg (by decide)]
  go_enter Tryz.func103,Tryz.ntmps103
  go_wp2_with (first
   |(go_at_call 146;(with_reducible refine(CX _ (zg _ _)).mono ?_);rintro e w1 ⟨v,rfl,hv,b1⟩;obtain⟨ad,cap,rfl,hr⟩:=hv.formn HU.out;have HR:=za hr;clear hv hr;have p1:=(P0.out).below b1;obtain⟨a0,a1,a2,a3,a4,a5,a6,a7,a8⟩:=p1)
   |(go_at_call 146;(with_reducible refine(CY _ (bt (zg _ _) b1)).mono ?_);rintro e w2 ⟨v2,rfl,hv2,b2⟩;obtain⟨ad2,cap2,rfl,hr2⟩:=hv2.formn HV.out;have HR2:=za hr2;clear hv2 hr2))
  exact bodyPost_ret (v:=.tuple #[.slice ad nu cap,.slice ad2 nv cap2,.int .i64 ky]) (by simp[results,Tryz.results103,go_sem]) rfl ⟨⟨ad,nu,cap,ad2,nv,cap2,rfl,λ_=>⟨⟨HU.out,HR.out.below b2⟩,HV.out,HR2.out⟩⟩,bt (bt (zg _ _) b1) b2⟩
 ·rw[if_pos hz];have qz:(kx != 0)=true:=bne_iff_ne.2 hz;have HNZ:=za hz;clear hz
  go_enter Tryz.func103,Tryz.ntmps103
  go_wp2_with (go_at_call 146;(with_reducible refine(CX _ (zg _ _)).mono ?_);rintro e w1 ⟨v,rfl,hv,b1⟩;obtain⟨ad,cap,rfl,hr⟩:=hv.formn HU.out;clear hv hr)
  exact bodyPost_ret (v:=.tuple #[.slice none 0 0,.slice none 0 0,.int .i64 kx]) (by simp[results,Tryz.results103,go_sem]) rfl ⟨⟨none,0,0,none,0,0,rfl,λg=>absurd g HNZ.out⟩,bt (zg _ _) b1⟩
theorem zoD (o:Opr) (ax:Option Addr) (cx:Nat) (ay:Option Addr) (cy:Nat) (w:World) (k3:o.kd=0\/o.kd=1\/o.kd=2) (hA:OpAt w o ax cx ay cy) (hF:OpFits o) :
  Calls Tryz.prog 103 #[opV o ax cx ay cy] w λe w'=>zri e w' (zbB o) (wX o) (wY o)/\Below w.heap.size w w':=by
 rcases k3 with k|k|k
 ·exact zlJ o ax cx ay cy w k
 ·exact znC o ax cx ay cy w k
 ·exact zkD o ax cx ay cy w k hA hF
set_option maxHeartbeats 4000000 in
set_option maxRecDepth 100000 in
theorem zod (o:Opr) (ax:Option Addr) (cx:Nat) (ay:Option Addr) (cy:Nat) (a b:Int) (w:World) (hk:zaT w) (hA:OpAt w o ax cx ay cy) (hF:OpFits o) (k3:o.kd=0\/o.kd=1\/o.kd=2) (ha:zaz a) (hb:zaz b) :
  Calls Tryz.prog 66 #[opV o ax cx ay cy,.int .i64 a,.int .i64 b] w λe w'=>zb7 e w' (if zbB o≠0 then zbB o else if zA (wX o) a≠0 then zA (wX o) a else zA (wY o) b) (zj o a b)/\Below w.heap.size w w':=by
 have CW:=λw' (b':Below w.heap.size w w')=>zoD o ax cx ay cy w' k3 (hA.below b') hF
 have HK:=za (fun(w':World) (b':Below w.heap.size w w')=>zbq hk b');have hlen:=λe:zbB o=0=>zxL e
 have CX:=fun(n1:Nat) (hn:(wX o).length=n1) (hl:n1<=1048576) (ad:Option Addr) (cap:Nat) (w':World) (hk:zaT w') (hr:RowAt .i64 w' ad (wX o))=>show Calls Tryz.prog 104 #[.slice ad n1 cap,.int .i64 a] w' λe w''=>∃ v,e=.returned (.tuple #[v,.int .i64 (zA (wX o) a)])/\(zA (wX o) a=0->Tab w'' v a (zQ (wX o) a.toNat))/\(zA (wX o) a≠0->v=.pointer none)/\Below w'.heap.size w' w'' by
  subst hn;exact zmQ (wX o) ad cap a w' hk hr (zwd o).1 (by omega) ha.1 ha.2
 have CY:=fun(n1:Nat) (hn:(wY o).length=n1) (hl:n1<=1048576) (ad:Option Addr) (cap:Nat) (w':World) (hk:zaT w') (hr:RowAt .i64 w' ad (wY o))=>show Calls Tryz.prog 104 #[.slice ad n1 cap,.int .i64 b] w' λe w''=>∃ v,e=.returned (.tuple #[v,.int .i64 (zA (wY o) b)])/\(zA (wY o) b=0->Tab w'' v b (zQ (wY o) b.toNat))/\(zA (wY o) b≠0->v=.pointer none)/\Below w'.heap.size w' w'' by
  subst hn;exact zmQ (wY o) ad cap b w' hk hr (zwd o).2 (by omega) hb.1 hb.2
 have hX:(zj o a b).lx=zQ (wX o) a.toNat:=if_neg (by omega);have hY:(zj o a b).ly=zQ (wY o) b.toNat:=if_neg (by omega);have HS:=za (fun(e:Ending) (w':World) (x y:Value) (he:e=.returned (.tuple #[.agg #[x,y,.int .i64 o.bd],.int .i64 0])) (hx:Tab w' x a (zQ (wX o) a.toNat)) (hy:Tab w' y b (zQ (wY o) b.toNat))=>show zb7 e w' 0 (zj o a b) from .inr ⟨rfl,x,y,he,by rw[hX];exact hx,by rw[hY];exact hy⟩);have HZ:=za (fun(w':World) (k:Int) (hk:k≠0)=>show zb7 (.returned (.tuple #[.agg #[.pointer none,.pointer none,.int .i64 0],.int .i64 k])) w' k (zj o a b) from .inl ⟨hk,rfl⟩);unfold opV at CW ⊢;clear hX hY hA hF ha hb hk k3;generalize zQ (wX o) a.toNat=LX at *;generalize zQ (wY o) b.toNat=LY at *;generalize zA (wX o) a=kx at *;generalize zA (wY o) b=ky at *;generalize wX o=ux at *;generalize wY o=uy at *;generalize zbB o=kw at *;generalize zj o a b=ST at *;obtain⟨kd,bd,sg,rd,xs,ys,fl,wd,ht⟩:=o;simp only at *;generalize xs.length=nx at *;generalize ys.length=ny at *;have HP:=za (show P9 ((w.alloc (.cells #[.int .i64 kd,.int .i64 bd,.int .i64 sg,.int .i64 rd,.slice ax nx cx,.slice ay ny cy,.int .i64 fl,.int .i64 wd,.int .i64 ht] 31)).alloc (.cells #[.pointer none,.pointer none,.int .i64 0] 36)) w.heap.size kd bd sg rd (.slice ax nx cx) (.slice ay ny cy) fl wd ht from(P9.new w 31 kd bd sg rd (.slice ax nx cx) (.slice ay ny cy) fl wd ht).below (zg _ _));have HR:=za (show S3 ((w.alloc (.cells #[.int .i64 kd,.int .i64 bd,.int .i64 sg,.int .i64 rd,.slice ax nx cx,.slice ay ny cy,.int .i64 fl,.int .i64 wd,.int .i64 ht] 31)).alloc (.cells #[.pointer none,.pointer none,.int .i64 0] 36)) (w.heap.size+1) (.pointer none) (.pointer none) (.int .i64 0) from by simpa using S3.new (w.alloc (.cells #[.int .i64 kd,.int .i64 bd,.int .i64 sg,.int .i64 rd,.slice ax nx cx,.slice ay ny cy,.int .i64 fl,.int .i64 wd,.int .i64 ht] 31)) 36 (.pointer none) (.pointer none) (.int .i64 0));have HB:=za (show Below w.heap.size w ((w.alloc (.cells #[.int .i64 kd,.int .i64 bd,.int .i64 sg,.int .i64 rd,.slice ax nx cx,.slice ay ny cy,.int .i64 fl,.int .i64 wd,.int .i64 ht] 31)).alloc (.cells #[.pointer none,.pointer none,.int .i64 0] 36)) from ba (zg _ _) _)
 by_cases zw:kw=0
 case neg =>
  rw[if_pos zw];have qz:(kw != 0)=true:=bne_iff_ne.2 zw
  go_enter Tryz.func66,Tryz.ntmps66
  go_wp2_with (go_at_call 103;(with_reducible refine(CW _ HB.out).mono ?_);rintro e wv ⟨⟨a1,n1,c1,a2,n2,c2,rfl,hv⟩,bv⟩;have HV:=za hv;clear hv;have PV:=za (HP.out.below bv);have RV:=za (HR.out.below bv);have BV:=za (bt HB.out bv);have pv:=PV.out;obtain⟨a0,a1,a2,a3,a4,a5,a6,a7,a8⟩:=pv;have rv:=RV.out;obtain⟨⟨fr0,fy0⟩,⟨fr1,fy1⟩,⟨fr2,fy2⟩⟩:=rv)
  have EN:=za (And.intro (S3.fill RV.out (.pointer none) (.pointer none) (.int .i64 0)) (And.intro (zaP BV.out (Nat.le_add_right _ 1) (.pointer none) (.pointer none) (.int .i64 0)) trivial));generalize (((wv).setCell ⟨w.heap.size+1,0,none⟩ (.pointer none)).setCell ⟨w.heap.size+1,1,none⟩ (.pointer none)).setCell ⟨w.heap.size+1,2,none⟩ (.int .i64 0)=WE at EN ⊢;obtain⟨⟨er0,ey0⟩,⟨er1,ey1⟩,⟨er2,ey2⟩⟩:=EN.out.1;exact bodyPost_ret (v:=.tuple #[.agg #[.pointer none,.pointer none,.int .i64 0],.int .i64 kw]) (by simp[results,Tryz.results66,go_sem,er0,er1,er2]) rfl ⟨HZ.out _ _ zw,EN.out.2.1⟩
 subst zw;rw[if_neg (by decide)];have HLN:=za (hlen rfl);clear hlen
 by_cases zx:kx=0
 case neg =>
  rw[if_pos zx];have qz:(kx != 0)=true:=bne_iff_ne.2 zx
  go_enter Tryz.func66,Tryz.ntmps66
  go_wp2_with (first
   |(go_at_call 103;(with_reducible refine(CW _ HB.out).mono ?_);rintro e wv ⟨⟨a1,n1,c1,a2,n2,c2,rfl,hv⟩,bv⟩;have HV:=za hv;clear hv;have PV:=za (HP.out.below bv);have RV:=za (HR.out.below bv);have BV:=za (bt HB.out bv);have pv:=PV.out;obtain⟨a0,a1,a2,a3,a4,a5,a6,a7,a8⟩:=pv;have rv:=RV.out;obtain⟨⟨fr0,fy0⟩,⟨fr1,fy1⟩,⟨fr2,fy2⟩⟩:=rv)
   |(go_at_call 104;(with_reducible refine(CX n1 (HV.out (by trivial)).1.1 (by rw[←(HV.out (by trivial)).1.1];exact HLN.out.1) _ _ _ (HK.out _ BV.out) (HV.out (by trivial)).1.2).mono ?_);rintro e wx ⟨x,rfl,tx,zv,bx⟩;have PX:=za (PV.out.below bx);have RX:=za (RV.out.below bx);have BX:=za (bt BV.out bx);have px:=PX.out;obtain⟨b0,b1,b2,b3,b4,b5,b6,b7,b8⟩:=px;have rx:=RX.out;obtain⟨⟨gr0,gy0⟩,⟨gr1,gy1⟩,⟨gr2,gy2⟩⟩:=rx;obtain rfl:=zv zx))
  have EN:=za (And.intro (S3.fill RX.out (.pointer none) (.pointer none) (.int .i64 0)) (And.intro (zaP BX.out (Nat.le_add_right _ 1) (.pointer none) (.pointer none) (.int .i64 0)) trivial));generalize (((wx).setCell ⟨w.heap.size+1,0,none⟩ (.pointer none)).setCell ⟨w.heap.size+1,1,none⟩ (.pointer none)).setCell ⟨w.heap.size+1,2,none⟩ (.int .i64 0)=WE at EN ⊢;obtain⟨⟨er0,ey0⟩,⟨er1,ey1⟩,⟨er2,ey2⟩⟩:=EN.out.1;exact bodyPost_ret (v:=.tuple #[.agg #[.pointer none,.pointer none,.int .i64 0],.int .i64 kx]) (by simp[results,Tryz.results66,go_sem,er0,er1,er2]) rfl ⟨HZ.out _ _ zx,EN.out.2.1⟩
 subst zx;rw[if_neg (by decide)]
 by_cases zy:ky=0
 case neg =>
  have qz:(ky != 0)=true:=bne_iff_ne.2 zy
  go_enter Tryz.func66,Tryz.ntmps66
  go_wp2_with (first
   |(go_at_call 103;(with_reducible refine(CW _ HB.out).mono ?_);rintro e wv ⟨⟨a1,n1,c1,a2,n2,c2,rfl,hv⟩,bv⟩;have HV:=za hv;clear hv;have PV:=za (HP.out.below bv);have RV:=za (HR.out.below bv);have BV:=za (bt HB.out bv);have pv:=PV.out;obtain⟨a0,a1,a2,a3,a4,a5,a6,a7,a8⟩:=pv;have rv:=RV.out;obtain⟨⟨fr0,fy0⟩,⟨fr1,fy1⟩,⟨fr2,fy2⟩⟩:=rv)
   |(go_at_call 104;(with_reducible refine(CX n1 (HV.out (by trivial)).1.1 (by rw[←(HV.out (by trivial)).1.1];exact HLN.out.1) _ _ _ (HK.out _ BV.out) (HV.out (by trivial)).1.2).mono ?_);rintro e wx ⟨x,rfl,tx,zv,bx⟩;have PX:=za (PV.out.below bx);have RX:=za (RV.out.below bx);have BX:=za (bt BV.out bx);have px:=PX.out;obtain⟨b0,b1,b2,b3,b4,b5,b6,b7,b8⟩:=px;have rx:=RX.out;obtain⟨⟨gr0,gy0⟩,⟨gr1,gy1⟩,⟨gr2,gy2⟩⟩:=rx;have TX:=za (tx (by trivial));clear tx;obtain⟨gx,rfl⟩:=TX.out.ptr)
   |(go_at_call 104;(with_reducible refine(CY n2 (HV.out (by trivial)).2.1 (by rw[←(HV.out (by trivial)).2.1];exact HLN.out.2) _ _ _ (HK.out _ BX.out) ((HV.out (by trivial)).2.2.below bx)).mono ?_);rintro e wy ⟨y,rfl,ty,zv2,by_⟩;have PY:=za (PX.out.below by_);have RY:=za (RX.out.below by_);have BY:=za (bt BX.out by_);have py:=PY.out;obtain⟨c0,c1,c2,c3,c4,c5,c6,c7,c8⟩:=py;have ry:=RY.out;obtain⟨⟨hr0,hy0⟩,⟨hr1,hy1⟩,⟨hr2,hy2⟩⟩:=ry;obtain rfl:=zv2 zy))
  have EN:=za (And.intro (S3.fill RY.out (.pointer none) (.pointer none) (.int .i64 0)) (And.intro (zaP BY.out (Nat.le_add_right _ 1) (.pointer none) (.pointer none) (.int .i64 0)) trivial));generalize (((wy).setCell ⟨w.heap.size+1,0,none⟩ (.pointer none)).setCell ⟨w.heap.size+1,1,none⟩ (.pointer none)).setCell ⟨w.heap.size+1,2,none⟩ (.int .i64 0)=WE at EN ⊢;obtain⟨⟨er0,ey0⟩,⟨er1,ey1⟩,⟨er2,ey2⟩⟩:=EN.out.1;exact bodyPost_ret (v:=.tuple #[.agg #[.pointer none,.pointer none,.int .i64 0],.int .i64 ky]) (by simp[results,Tryz.results66,go_sem,er0,er1,er2]) rfl ⟨HZ.out _ _ zy,EN.out.2.1⟩
 subst zy
 go_enter Tryz.func66,Tryz.ntmps66
 go_wp2_with (first
  |(go_at_call 103;(with_reducible refine(CW _ HB.out).mono ?_);rintro e wv ⟨⟨a1,n1,c1,a2,n2,c2,rfl,hv⟩,bv⟩;have HV:=za hv;clear hv;have PV:=za (HP.out.below bv);have RV:=za (HR.out.below bv);have BV:=za (bt HB.out bv);have pv:=PV.out;obtain⟨a0,a1,a2,a3,a4,a5,a6,a7,a8⟩:=pv;have rv:=RV.out;obtain⟨⟨fr0,fy0⟩,⟨fr1,fy1⟩,⟨fr2,fy2⟩⟩:=rv)
  |(go_at_call 104;(with_reducible refine(CX n1 (HV.out (by trivial)).1.1 (by rw[←(HV.out (by trivial)).1.1];exact HLN.out.1) _ _ _ (HK.out _ BV.out) (HV.out (by trivial)).1.2).mono ?_);rintro e wx ⟨x,rfl,tx,zv,bx⟩;have PX:=za (PV.out.below bx);have RX:=za (RV.out.below bx);have BX:=za (bt BV.out bx);have px:=PX.out;obtain⟨b0,b1,b2,b3,b4,b5,b6,b7,b8⟩:=px;have rx:=RX.out;obtain⟨⟨gr0,gy0⟩,⟨gr1,gy1⟩,⟨gr2,gy2⟩⟩:=rx;have TX:=za (tx (by trivial));clear tx;obtain⟨gx,rfl⟩:=TX.out.ptr)
  |(go_at_call 104;(with_reducible refine(CY n2 (HV.out (by trivial)).2.1 (by rw[←(HV.out (by trivial)).2.1];exact HLN.out.2) _ _ _ (HK.out _ BX.out) ((HV.out (by trivial)).2.2.below bx)).mono ?_);rintro e wy ⟨y,rfl,ty,zv2,by_⟩;have PY:=za (PX.out.below by_);have RY:=za (RX.out.below by_);have BY:=za (bt BX.out by_);have py:=PY.out;obtain⟨c0,c1,c2,c3,c4,c5,c6,c7,c8⟩:=py;have ry:=RY.out;obtain⟨⟨hr0,hy0⟩,⟨hr1,hy1⟩,⟨hr2,hy2⟩⟩:=ry;have TY:=za (ty (by trivial));clear ty;obtain⟨gy,rfl⟩:=TY.out.ptr))
 have EN:=za (And.intro (S3.fill RY.out (.pointer (some gx)) (.pointer (some gy)) (.int .i64 bd)) (And.intro (zaP BY.out (Nat.le_add_right _ 1) (.pointer (some gx)) (.pointer (some gy)) (.int .i64 bd)) (And.intro (Tab.fill3 (TX.out.below by_) RY.out (λ_ q=>by cases q) (.pointer (some gx)) (.pointer (some gy)) (.int .i64 bd)) (Tab.fill3 TY.out RY.out (λ_ q=>by cases q) (.pointer (some gx)) (.pointer (some gy)) (.int .i64 bd)))));generalize (((wy).setCell ⟨w.heap.size+1,0,none⟩ (.pointer (some gx))).setCell ⟨w.heap.size+1,1,none⟩ (.pointer (some gy))).setCell ⟨w.heap.size+1,2,none⟩ (.int .i64 bd)=WE at EN ⊢;obtain⟨⟨er0,ey0⟩,⟨er1,ey1⟩,⟨er2,ey2⟩⟩:=EN.out.1;exact bodyPost_ret (v:=.tuple #[.agg #[.pointer (some gx),.pointer (some gy),.int .i64 bd],.int .i64 0]) (by simp[results,Tryz.results66,go_sem,er0,er1,er2]) rfl ⟨HS.out _ _ _ _ rfl EN.out.2.2.1 EN.out.2.2.2,EN.out.2.1⟩
set_option maxHeartbeats 4000000 in
set_option maxRecDepth 100000 in
theorem zoC (o:Opr) (ax:Option Addr) (cx:Nat) (ay:Option Addr) (cy:Nat) (a b:Int) (w:World) (hk:zaT w) (hF:OpFits o) (k3:o.kd=3) (ha:zaz a) (hb:zaz b) (w0:1<=o.wd) (w1:o.wd<=65536) (t0:1<=o.ht) (t1:o.ht<=65536) (f0:0<=o.fl) (f1:o.fl<=2) :
  Calls Tryz.prog 65 #[opV o ax cx ay cy,.int .i64 a,.int .i64 b] w λe w'=>zb7 e w' (if zO o.fl a o.wd≠0 then zO o.fl a o.wd else zO o.fl b o.ht) (zj o a b)/\Below w.heap.size w w':=by
 have HK:=za (fun(w':World) (b':Below w.heap.size w w')=>zbq hk b');have S1:=zcM o.wd w0 w1;have S2:=zcM o.ht t0 t1;have CN:=fun(w':World) (hk:zaT w')=>zhn o.fl hF.fl w' hk
 obtain⟨s,hs,s0⟩:=zf6 o.fl f0 f1;rw[hs]at CN;have CX:=fun(w':World) (hk:zaT w')=>ziY o.fl a o.wd hF.fl.1 hF.fl.2 ha.1 ha.2 hF.wd.1 hF.wd.2 w' hk
 have CY:=fun(w':World) (hk:zaT w')=>ziY o.fl b o.ht hF.fl.1 hF.fl.2 hb.1 hb.2 hF.ht.1 hF.ht.2 w' hk
 have hX:(zj o a b).lx=zt o.fl a o.wd o.wd.toNat:=if_pos k3;have hY:(zj o a b).ly=zt o.fl b o.ht o.ht.toNat:=if_pos k3;have HS:=za (fun(e:Ending) (w':World) (x y:Value) (he:e=.returned (.tuple #[.agg #[x,y,.int .i64 o.bd],.int .i64 0])) (hx:Tab w' x a (zt o.fl a o.wd o.wd.toNat)) (hy:Tab w' y b (zt o.fl b o.ht o.ht.toNat))=>show zb7 e w' 0 (zj o a b) from .inr ⟨rfl,x,y,he,by rw[hX];exact hx,by rw[hY];exact hy⟩);have HZ:=za (fun(w':World) (k:Int) (hk:k≠0)=>show zb7 (.returned (.tuple #[.agg #[.pointer none,.pointer none,.int .i64 0],.int .i64 k])) w' k (zj o a b) from .inl ⟨hk,rfl⟩);unfold opV;clear hX hY hF ha hb hk hs w0 w1 t0 t1 f0 f1;generalize zt o.fl a o.wd o.wd.toNat=LX at *;generalize zt o.fl b o.ht o.ht.toNat=LY at *;generalize zO o.fl a o.wd=kx at *;generalize zO o.fl b o.ht=ky at *;generalize zj o a b=ST at *;obtain⟨kd,bd,sg,rd,xs,ys,fl,wd,ht⟩:=o;simp only at *;subst k3;generalize xs.length=nx at *;generalize ys.length=ny at *;have HP:=za (show P9 ((w.alloc (.cells #[.int .i64 3,.int .i64 bd,.int .i64 sg,.int .i64 rd,.slice ax nx cx,.slice ay ny cy,.int .i64 fl,.int .i64 wd,.int .i64 ht] 31)).alloc (.cells #[.pointer none,.pointer none,.int .i64 0] 36)) w.heap.size 3 bd sg rd (.slice ax nx cx) (.slice ay ny cy) fl wd ht from(P9.new w 31 3 bd sg rd (.slice ax nx cx) (.slice ay ny cy) fl wd ht).below (zg _ _));have HR:=za (show S3 ((w.alloc (.cells #[.int .i64 3,.int .i64 bd,.int .i64 sg,.int .i64 rd,.slice ax nx cx,.slice ay ny cy,.int .i64 fl,.int .i64 wd,.int .i64 ht] 31)).alloc (.cells #[.pointer none,.pointer none,.int .i64 0] 36)) (w.heap.size+1) (.pointer none) (.pointer none) (.int .i64 0) from by simpa using S3.new (w.alloc (.cells #[.int .i64 3,.int .i64 bd,.int .i64 sg,.int .i64 rd,.slice ax nx cx,.slice ay ny cy,.int .i64 fl,.int .i64 wd,.int .i64 ht] 31)) 36 (.pointer none) (.pointer none) (.int .i64 0));have HB:=za (show Below w.heap.size w ((w.alloc (.cells #[.int .i64 3,.int .i64 bd,.int .i64 sg,.int .i64 rd,.slice ax nx cx,.slice ay ny cy,.int .i64 fl,.int .i64 wd,.int .i64 ht] 31)).alloc (.cells #[.pointer none,.pointer none,.int .i64 0] 36)) from ba (zg _ _) _)
 by_cases zx:kx=0
 case neg =>
  rw[if_pos zx];have qz:(kx != 0)=true:=bne_iff_ne.2 zx
  go_enter Tryz.func65,Tryz.ntmps65
  go_wp2_with (first
   |(go_at_call 101;(with_reducible refine(CN _ (HK.out _ HB.out)).mono ?_);rintro e wv ⟨rfl,bv⟩;have PV:=za (HP.out.below bv);have RV:=za (HR.out.below bv);have BV:=za (bt HB.out bv);have pv:=PV.out;obtain⟨a0,a1,a2,a3,a4,a5,a6,a7,a8⟩:=pv;have rv:=RV.out;obtain⟨⟨fr0,fy0⟩,⟨fr1,fy1⟩,⟨fr2,fy2⟩⟩:=rv)
   |(go_at_call 64;(with_reducible refine(S1 _).mono ?_);rintro e wz ⟨rfl,rfl⟩)
   |(go_at_call 64;(with_reducible refine(S2 _).mono ?_);rintro e wz ⟨rfl,rfl⟩)
   |(go_at_call 102;(with_reducible refine(CX _ (HK.out _ BV.out)).mono ?_);rintro e wx ⟨x,rfl,tx,zv,bx⟩;have PX:=za (PV.out.below bx);have RX:=za (RV.out.below bx);have BX:=za (bt BV.out bx);have px:=PX.out;obtain⟨b0,b1,b2,b3,b4,b5,b6,b7,b8⟩:=px;have rx:=RX.out;obtain⟨⟨gr0,gy0⟩,⟨gr1,gy1⟩,⟨gr2,gy2⟩⟩:=rx;obtain rfl:=zv zx))
  have EN:=za (And.intro (S3.fill RX.out (.pointer none) (.pointer none) (.int .i64 0)) (And.intro (zaP BX.out (Nat.le_add_right _ 1) (.pointer none) (.pointer none) (.int .i64 0)) trivial));generalize (((wx).setCell ⟨w.heap.size+1,0,none⟩ (.pointer none)).setCell ⟨w.heap.size+1,1,none⟩ (.pointer none)).setCell ⟨w.heap.size+1,2,none⟩ (.int .i64 0)=WE at EN ⊢;obtain⟨⟨er0,ey0⟩,⟨er1,ey1⟩,⟨er2,ey2⟩⟩:=EN.out.1;exact bodyPost_ret (v:=.tuple #[.agg #[.pointer none,.pointer none,.int .i64 0],.int .i64 kx]) (by simp[results,Tryz.results65,go_sem,er0,er1,er2]) rfl ⟨HZ.out _ _ zx,EN.out.2.1⟩
 subst zx;rw[if_neg (by decide)]
 by_cases zy:ky=0
 case neg =>
  have qz:(ky != 0)=true:=bne_iff_ne.2 zy
  go_enter Tryz.func65,Tryz.ntmps65
  go_wp2_with (first
   |(go_at_call 101;(with_reducible refine(CN _ (HK.out _ HB.out)).mono ?_);rintro e wv ⟨rfl,bv⟩;have PV:=za (HP.out.below bv);have RV:=za (HR.out.below bv);have BV:=za (bt HB.out bv);have pv:=PV.out;obtain⟨a0,a1,a2,a3,a4,a5,a6,a7,a8⟩:=pv;have rv:=RV.out;obtain⟨⟨fr0,fy0⟩,⟨fr1,fy1⟩,⟨fr2,fy2⟩⟩:=rv)
   |(go_at_call 64;(with_reducible refine(S1 _).mono ?_);rintro e wz ⟨rfl,rfl⟩)
   |(go_at_call 64;(with_reducible refine(S2 _).mono ?_);rintro e wz ⟨rfl,rfl⟩)
   |(go_at_call 102;(with_reducible refine(CX _ (HK.out _ BV.out)).mono ?_);rintro e wx ⟨x,rfl,tx,zv,bx⟩;have PX:=za (PV.out.below bx);have RX:=za (RV.out.below bx);have BX:=za (bt BV.out bx);have px:=PX.out;obtain⟨b0,b1,b2,b3,b4,b5,b6,b7,b8⟩:=px;have rx:=RX.out;obtain⟨⟨gr0,gy0⟩,⟨gr1,gy1⟩,⟨gr2,gy2⟩⟩:=rx;have TX:=za (tx (by trivial));clear tx;obtain⟨gx,rfl⟩:=TX.out.ptr)
   |(go_at_call 102;(with_reducible refine(CY _ (HK.out _ BX.out)).mono ?_);rintro e wy ⟨y,rfl,ty,zv2,by_⟩;have PY:=za (PX.out.below by_);have RY:=za (RX.out.below by_);have BY:=za (bt BX.out by_);have py:=PY.out;obtain⟨c0,c1,c2,c3,c4,c5,c6,c7,c8⟩:=py;have ry:=RY.out;obtain⟨⟨hr0,hy0⟩,⟨hr1,hy1⟩,⟨hr2,hy2⟩⟩:=ry;obtain rfl:=zv2 zy))
  have EN:=za (And.intro (S3.fill RY.out (.pointer none) (.pointer none) (.int .i64 0)) (And.intro (zaP BY.out (Nat.le_add_right _ 1) (.pointer none) (.pointer none) (.int .i64 0)) trivial));generalize (((wy).setCell ⟨w.heap.size+1,0,none⟩ (.pointer none)).setCell ⟨w.heap.size+1,1,none⟩ (.pointer none)).setCell ⟨w.heap.size+1,2,none⟩ (.int .i64 0)=WE at EN ⊢;obtain⟨⟨er0,ey0⟩,⟨er1,ey1⟩,⟨er2,ey2⟩⟩:=EN.out.1;exact bodyPost_ret (v:=.tuple #[.agg #[.pointer none,.pointer none,.int .i64 0],.int .i64 ky]) (by simp[results,Tryz.results65,go_sem,er0,er1,er2]) rfl ⟨HZ.out _ _ zy,EN.out.2.1⟩
 subst zy
 go_enter Tryz.func65,Tryz.ntmps65
 go_wp2_with (first
  |(go_at_call 101;(with_reducible refine(CN _ (HK.out _ HB.out)).mono ?_);rintro e wv ⟨rfl,bv⟩;have PV:=za (HP.out.below bv);have RV:=za (HR.out.below bv);have BV:=za (bt HB.out bv);have pv:=PV.out;obtain⟨a0,a1,a2,a3,a4,a5,a6,a7,a8⟩:=pv;have rv:=RV.out;obtain⟨⟨fr0,fy0⟩,⟨fr1,fy1⟩,⟨fr2,fy2⟩⟩:=rv)
  |(go_at_call 64;(with_reducible refine(S1 _).mono ?_);rintro e wz ⟨rfl,rfl⟩)
  |(go_at_call 64;(with_reducible refine(S2 _).mono ?_);rintro e wz ⟨rfl,rfl⟩)
  |(go_at_call 102;(with_reducible refine(CX _ (HK.out _ BV.out)).mono ?_);rintro e wx ⟨x,rfl,tx,zv,bx⟩;have PX:=za (PV.out.below bx);have RX:=za (RV.out.below bx);have BX:=za (bt BV.out bx);have px:=PX.out;obtain⟨b0,b1,b2,b3,b4,b5,b6,b7,b8⟩:=px;have rx:=RX.out;obtain⟨⟨gr0,gy0⟩,⟨gr1,gy1⟩,⟨gr2,gy2⟩⟩:=rx;have TX:=za (tx (by trivial));clear tx;obtain⟨gx,rfl⟩:=TX.out.ptr)
  |(go_at_call 102;(with_reducible refine(CY _ (HK.out _ BX.out)).mono ?_);rintro e wy ⟨y,rfl,ty,zv2,by_⟩;have PY:=za (PX.out.below by_);have RY:=za (RX.out.below by_);have BY:=za (bt BX.out by_);have py:=PY.out;obtain⟨c0,c1,c2,c3,c4,c5,c6,c7,c8⟩:=py;have ry:=RY.out;obtain⟨⟨hr0,hy0⟩,⟨hr1,hy1⟩,⟨hr2,hy2⟩⟩:=ry;have TY:=za (ty (by trivial));clear ty;obtain⟨gy,rfl⟩:=TY.out.ptr))
 have EN:=za (And.intro (S3.fill RY.out (.pointer (some gx)) (.pointer (some gy)) (.int .i64 bd)) (And.intro (zaP BY.out (Nat.le_add_right _ 1) (.pointer (some gx)) (.pointer (some gy)) (.int .i64 bd)) (And.intro (Tab.fill3 (TX.out.below by_) RY.out (λ_ q=>by cases q) (.pointer (some gx)) (.pointer (some gy)) (.int .i64 bd)) (Tab.fill3 TY.out RY.out (λ_ q=>by cases q) (.pointer (some gx)) (.pointer (some gy)) (.int .i64 bd)))));generalize (((wy).setCell ⟨w.heap.size+1,0,none⟩ (.pointer (some gx))).setCell ⟨w.heap.size+1,1,none⟩ (.pointer (some gy))).setCell ⟨w.heap.size+1,2,none⟩ (.int .i64 bd)=WE at EN ⊢;obtain⟨⟨er0,ey0⟩,⟨er1,ey1⟩,⟨er2,ey2⟩⟩:=EN.out.1;exact bodyPost_ret (v:=.tuple #[.agg #[.pointer (some gx),.pointer (some gy),.int .i64 bd],.int .i64 0]) (by simp[results,Tryz.results65,go_sem,er0,er1,er2]) rfl ⟨HS.out _ _ _ _ rfl EN.out.2.2.1 EN.out.2.2.2,EN.out.2.1⟩
end Go.Proofs.YtlodkoimdoeopaaGreatDoor
