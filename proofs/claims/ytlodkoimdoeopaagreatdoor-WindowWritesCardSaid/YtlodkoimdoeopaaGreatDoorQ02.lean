/- Parts, joined. -/
import Derived.Test.YtlodkoimdoeopaaGreatDoorQ01
import Derived.WalkKit
import Derived.OwnWalk
import Derived.Laws.OwnMore
import Derived.ArgAppend
import Derived.Laws.AppendOwnNone
import Derived.Deep.QuietTactic
import Derived.Deep.RegionLaw
import Derived.Laws.CopyOwn
import Derived.Maps.AppendAt
import Derived.Maps.Range
import Derived.Deep.AppendLies
import Derived.OpenShut
namespace Go.Proofs.YtlodkoimdoeopaaGreatDoor
open Go.RowKit
theorem bt {a w w1:World} (h:Below a.heap.size a w) (b:Below w.heap.size w w1):Below a.heap.size a w1:=h.trans (b.mono h.size)
theorem ba {a w:World} (h:Below a.heap.size a w) (o:Obj):Below a.heap.size a (w.alloc o):=h.alloc h.size o
theorem bs {a w:World} {b o:Nat} (h:Below a.heap.size a w) (hp:a.heap.size<=b) (u:Value):Below a.heap.size a (w.setCell ⟨b,o,none⟩ u):=h.setCell (p:=⟨b,o,none⟩) hp u
theorem bd {a w:World} (h:Below a.heap.size a w):Below a.heap.size a w.drew:=h.drew
theorem ca {w:World} {b o:Nat} {v:Value} {ob:Obj} (h:b<w.heap.size) (hc:w.cell? ⟨b,o,none⟩=some v):(w.alloc ob).cell? ⟨b,o,none⟩=some v:=(World.cell?_alloc_past ob b o h).trans hc
theorem fa {w:World} {b o:Nat} {ob:Obj} (h:b<w.heap.size) (hc:w.frozen? ⟨b,o,none⟩=false):(w.alloc ob).frozen? ⟨b,o,none⟩=false:=(World.frozen?_alloc_past ob b o h).trans hc
theorem zkV (r:Int) (h0:0<=r) (h1:r<18446744073709551616) (w:World) :
  Calls Tryz.prog 131 #[.agg #[.int .u64 0,.int .u64 r],.int .u64 0] w λe w'=>e=.returned (.agg #[.int .u64 (hi (2*r)),.int .u64 (lo (2*r))])/\Below w.heap.size w w':=by
 have h:=zej r 0 h0 (by omega) (by omega) (by omega) w;rw[zd2 h0 h1,zdG h0 h1,Int.add_zero]at h;exact h
theorem ziZ (x y h l:Int) (eh:h=hi x) (el:l=lo x) (b:Bool) (hb:decide (x<y)=b) (h0:0<=x) (k0:0<=y) (h1:x<340282366920938463463374607431768211456) (k1:y<340282366920938463463374607431768211456) (w:World) :
  Calls Tryz.prog 135 #[.agg #[.int .u64 h,.int .u64 l],.agg #[.int .u64 (hi y),.int .u64 (lo y)]] w λe w'=>e=.returned (.bool b)/\Below w.heap.size w w':=by
 subst eh;subst el;subst hb;exact zbS x y h0 k0 h1 k1 w
theorem zfT (x y h l:Int) (eh:h=hi y) (el:l=lo y) (b:Bool) (hb:decide (x<y)=b) (h0:0<=x) (k0:0<=y) (h1:x<340282366920938463463374607431768211456) (k1:y<340282366920938463463374607431768211456) (w:World) :
  Calls Tryz.prog 135 #[.agg #[.int .u64 (hi x),.int .u64 (lo x)],.agg #[.int .u64 h,.int .u64 l]] w λe w'=>e=.returned (.bool b)/\Below w.heap.size w w':=by
 subst eh;subst el;subst hb;exact zbS x y h0 k0 h1 k1 w
theorem zd6 (x:Int) (h0:0<=x) (h1:x+1<340282366920938463463374607431768211456) (w:World) :
  Calls Tryz.prog 136 #[.agg #[.int .u64 (hi x),.int .u64 (lo x)],.agg #[.int .u64 0,.int .u64 1]] w λe w'=>e=.returned (.agg #[.int .u64 (hi (x+1)),.int .u64 (lo (x+1))])/\Below w.heap.size w w' :=
 znk x 1 h0 (by omega) h1 w
theorem hiz (d:Int) (h0:0<=d) (h1:d<18446744073709551616):0=hi d:=(zd2 h0 h1).symm
theorem loz (d:Int) (h0:0<=d) (h1:d<18446744073709551616):d=lo d:=(zdG h0 h1).symm
set_option maxHeartbeats 1000000 in
theorem zqu (x d:Int) (h0:0<=x) (h1:x<170141183460469231731687303715884105728) (d0:0<d) (d1:d<18446744073709551616) (w:World) :
  Calls Tryz.prog 215 #[.agg #[.int .u64 (hi x),.int .u64 (lo x)],.int .u64 d,.bool false] w λe w' =>
   e=.returned (.int .i64 (zE (x / d+if d<=2*(x % d) then 1 else 0)))/\Below w.heap.size w w':=by
 have Q0:0<=x / d:=Int.ediv_nonneg h0 (by omega);have Q1:x / d<170141183460469231731687303715884105728:=Int.lt_of_le_of_lt (Int.ediv_le_self _ h0) h1;have R0:0<=x % d:=Int.emod_nonneg _ (by omega);have R1:x % d<d:=Int.emod_lt_of_pos _ d0;have CO:=zjb x d h0 (by omega) d0 d1;generalize x / d=Q at *;generalize x % d=R at *;have CT:=zkV R R0 (by omega);clear h0 h1
 by_cases hc:d<=2*R
 ·have CL:=zfT (2*R) d 0 d (hiz d (by omega) d1) (loz d (by omega) d1) false (decide_eq_false (by omega)) (by omega) (by omega) (by omega) (by omega);have CP:=zd6 Q Q0 (by omega);have CH:=zat (Q+1) false (by omega) (by omega);rw[if_pos hc]
  go_enter Tryz.func215,Tryz.ntmps215
  go_wp2_with (first
   |(go_at_call 232;(with_reducible refine(CO _).mono ?_);rintro e w1 ⟨rfl,b1⟩;have z1:w.heap.size+1<=w1.heap.size:=(by simpa using b1.size))
   |(go_at_call 131;(with_reducible refine(CT _).mono ?_);rintro e w2 ⟨rfl,b2⟩;have z2:w1.heap.size+1<=w2.heap.size:=(by simpa using b2.size);have q20:w2.cell? ⟨w1.heap.size,0,none⟩=some (.int .u64 (hi Q)):=cb b2 (by simp) (by simp);have q21:w2.cell? ⟨w1.heap.size,1,none⟩=some (.int .u64 (lo Q)):=cb b2 (by simp) (by simp);have g20:w2.frozen? ⟨w1.heap.size,0,none⟩=false:=fb b2 (by simp) (by simp);have g21:w2.frozen? ⟨w1.heap.size,1,none⟩=false:=fb b2 (by simp) (by simp))
   |(go_at_call 135;(with_reducible refine(CL _).mono ?_);rintro e w3 ⟨rfl,b3⟩;have z3:w2.heap.size+1<=w3.heap.size:=(by simpa using b3.size);have q30:=cb b3 (by simp;omega) (ca (by omega) q20);have g30:=fb b3 (by simp;omega) (fa (by omega) g20);have q31:=cb b3 (by simp;omega) (ca (by omega) q21);have g31:=fb b3 (by simp;omega) (fa (by omega) g21);have t30:w3.cell? ⟨w2.heap.size,0,none⟩=some (.int .u64 (hi (2*R))):=cb b3 (by simp) (by simp);have t31:w3.cell? ⟨w2.heap.size,1,none⟩=some (.int .u64 (lo (2*R))):=cb b3 (by simp) (by simp))
   |(go_at_call 136;(with_reducible refine(CP _).mono ?_);rintro e w4 ⟨rfl,b4⟩;have z4:w3.heap.size<=w4.heap.size:=b4.size;have q40:=cb b4 (by omega) q30;have g40:=fb b4 (by omega) g30;have q41:=cb b4 (by omega) q31;have g41:=fb b4 (by omega) g31)
   |(go_at_call 137;(with_reducible refine(CH _).mono ?_);rintro e w5 ⟨rfl,b5⟩))
  go_ret;refine⟨zl rfl,?_⟩
  repeat (first|exact Below.refl _ _|with_reducible refine ba ?_ _|with_reducible refine bs ?_ (by omega) _|with_reducible refine bd ?_|(with_reducible refine bt ?_ (by assumption)))
 ·have CL:=zfT (2*R) d 0 d (hiz d (by omega) d1) (loz d (by omega) d1) true (decide_eq_true (by omega)) (by omega) (by omega) (by omega) (by omega);have CH:=zat Q false (by omega) (by omega);rw[if_neg hc]
  go_enter Tryz.func215,Tryz.ntmps215
  go_wp2_with (first
   |(go_at_call 232;(with_reducible refine(CO _).mono ?_);rintro e w1 ⟨rfl,b1⟩;have z1:w.heap.size+1<=w1.heap.size:=(by simpa using b1.size))
   |(go_at_call 131;(with_reducible refine(CT _).mono ?_);rintro e w2 ⟨rfl,b2⟩;have z2:w1.heap.size+1<=w2.heap.size:=(by simpa using b2.size);have q20:w2.cell? ⟨w1.heap.size,0,none⟩=some (.int .u64 (hi Q)):=cb b2 (by simp) (by simp);have q21:w2.cell? ⟨w1.heap.size,1,none⟩=some (.int .u64 (lo Q)):=cb b2 (by simp) (by simp);have g20:w2.frozen? ⟨w1.heap.size,0,none⟩=false:=fb b2 (by simp) (by simp);have g21:w2.frozen? ⟨w1.heap.size,1,none⟩=false:=fb b2 (by simp) (by simp))
   |(go_at_call 135;(with_reducible refine(CL _).mono ?_);rintro e w3 ⟨rfl,b3⟩;have z3:w2.heap.size+1<=w3.heap.size:=(by simpa using b3.size);have q30:=cb b3 (by simp;omega) (ca (by omega) q20);have g30:=fb b3 (by simp;omega) (fa (by omega) g20);have q31:=cb b3 (by simp;omega) (ca (by omega) q21);have g31:=fb b3 (by simp;omega) (fa (by omega) g21);have t30:w3.cell? ⟨w2.heap.size,0,none⟩=some (.int .u64 (hi (2*R))):=cb b3 (by simp) (by simp);have t31:w3.cell? ⟨w2.heap.size,1,none⟩=some (.int .u64 (lo (2*R))):=cb b3 (by simp) (by simp))
   |(go_at_call 137;(with_reducible refine(CH _).mono ?_);rintro e w4 ⟨rfl,b4⟩))
  go_ret;refine⟨zl (by simp[zb0]),?_⟩
  repeat (first|exact Below.refl _ _|with_reducible refine ba ?_ _|with_reducible refine bs ?_ (by omega) _|with_reducible refine bd ?_|(with_reducible refine bt ?_ (by assumption)))
set_option maxHeartbeats 1000000 in
theorem zsv (x d:Int) (h0:0<=x) (h1:x<170141183460469231731687303715884105728) (d0:0<d) (d1:d<18446744073709551616) (w:World) :
  Calls Tryz.prog 215 #[.agg #[.int .u64 (hi x),.int .u64 (lo x)],.int .u64 d,.bool true] w λe w' =>
   e=.returned (.int .i64 (zE (-(x / d+if d<2*(x % d) then 1 else 0))))/\Below w.heap.size w w':=by
 have Q0:0<=x / d:=Int.ediv_nonneg h0 (by omega);have Q1:x / d<170141183460469231731687303715884105728:=Int.lt_of_le_of_lt (Int.ediv_le_self _ h0) h1;have R0:0<=x % d:=Int.emod_nonneg _ (by omega);have R1:x % d<d:=Int.emod_lt_of_pos _ d0;have CO:=zjb x d h0 (by omega) d0 d1;generalize x / d=Q at *;generalize x % d=R at *;have CT:=zkV R R0 (by omega);clear h0 h1
 by_cases hc:d<2*R
 ·have CL:=zfT (2*R) d 0 d (hiz d (by omega) d1) (loz d (by omega) d1) false (decide_eq_false (by omega)) (by omega) (by omega) (by omega) (by omega);have CM:=ziZ d (2*R) 0 d (hiz d (by omega) d1) (loz d (by omega) d1) true (decide_eq_true (by omega)) (by omega) (by omega) (by omega) (by omega);have CP:=zd6 Q Q0 (by omega);have CH:=zat (Q+1) true (by omega) (by omega);rw[if_pos hc]
  go_enter Tryz.func215,Tryz.ntmps215
  go_wp2_with (first
   |(go_at_call 232;(with_reducible refine(CO _).mono ?_);rintro e w1 ⟨rfl,b1⟩;have z1:w.heap.size+1<=w1.heap.size:=(by simpa using b1.size))
   |(go_at_call 131;(with_reducible refine(CT _).mono ?_);rintro e w2 ⟨rfl,b2⟩;have z2:w1.heap.size+1<=w2.heap.size:=(by simpa using b2.size);have q20:w2.cell? ⟨w1.heap.size,0,none⟩=some (.int .u64 (hi Q)):=cb b2 (by simp) (by simp);have q21:w2.cell? ⟨w1.heap.size,1,none⟩=some (.int .u64 (lo Q)):=cb b2 (by simp) (by simp);have g20:w2.frozen? ⟨w1.heap.size,0,none⟩=false:=fb b2 (by simp) (by simp);have g21:w2.frozen? ⟨w1.heap.size,1,none⟩=false:=fb b2 (by simp) (by simp))
   |(go_at_call 135;(with_reducible refine(CL _).mono ?_);rintro e w3 ⟨rfl,b3⟩;have z3:w2.heap.size+1<=w3.heap.size:=(by simpa using b3.size);have q30:=cb b3 (by simp;omega) (ca (by omega) q20);have g30:=fb b3 (by simp;omega) (fa (by omega) g20);have q31:=cb b3 (by simp;omega) (ca (by omega) q21);have g31:=fb b3 (by simp;omega) (fa (by omega) g21);have t30:w3.cell? ⟨w2.heap.size,0,none⟩=some (.int .u64 (hi (2*R))):=cb b3 (by simp) (by simp);have t31:w3.cell? ⟨w2.heap.size,1,none⟩=some (.int .u64 (lo (2*R))):=cb b3 (by simp) (by simp))
   |(go_at_call 135;(with_reducible refine(CM _).mono ?_);rintro e w4 ⟨rfl,b4⟩;have z4:w3.heap.size<=w4.heap.size:=b4.size;have q40:=cb b4 (by omega) q30;have g40:=fb b4 (by omega) g30;have q41:=cb b4 (by omega) q31;have g41:=fb b4 (by omega) g31)
   |(go_at_call 136;(with_reducible refine(CP _).mono ?_);rintro e w5 ⟨rfl,b5⟩;have z5:w4.heap.size<=w5.heap.size:=b5.size;have q50:=cb b5 (by omega) q40;have g50:=fb b5 (by omega) g40;have q51:=cb b5 (by omega) q41;have g51:=fb b5 (by omega) g41)
   |(go_at_call 137;(with_reducible refine(CH _).mono ?_);rintro e w6 ⟨rfl,b6⟩))
  go_ret;refine⟨zl rfl,?_⟩
  repeat (first|exact Below.refl _ _|with_reducible refine ba ?_ _|with_reducible refine bs ?_ (by omega) _|with_reducible refine bd ?_|(with_reducible refine bt ?_ (by assumption)))
 ·by_cases he:d=2*R
  ·have he':d<=2*R:=by omega
   clear he;have CL:=zfT (2*R) d 0 d (hiz d (by omega) d1) (loz d (by omega) d1) false (decide_eq_false (by omega)) (by omega) (by omega) (by omega) (by omega);have CM:=ziZ d (2*R) 0 d (hiz d (by omega) d1) (loz d (by omega) d1) false (decide_eq_false (by omega)) (by omega) (by omega) (by omega) (by omega);have CH:=zat Q true (by omega) (by omega);rw[if_neg hc]
   go_enter Tryz.func215,Tryz.ntmps215
   go_wp2_with (first
    |(go_at_call 232;(with_reducible refine(CO _).mono ?_);rintro e w1 ⟨rfl,b1⟩;have z1:w.heap.size+1<=w1.heap.size:=(by simpa using b1.size))
    |(go_at_call 131;(with_reducible refine(CT _).mono ?_);rintro e w2 ⟨rfl,b2⟩;have z2:w1.heap.size+1<=w2.heap.size:=(by simpa using b2.size);have q20:w2.cell? ⟨w1.heap.size,0,none⟩=some (.int .u64 (hi Q)):=cb b2 (by simp) (by simp);have q21:w2.cell? ⟨w1.heap.size,1,none⟩=some (.int .u64 (lo Q)):=cb b2 (by simp) (by simp);have g20:w2.frozen? ⟨w1.heap.size,0,none⟩=false:=fb b2 (by simp) (by simp);have g21:w2.frozen? ⟨w1.heap.size,1,none⟩=false:=fb b2 (by simp) (by simp))
    |(go_at_call 135;(with_reducible refine(CL _).mono ?_);rintro e w3 ⟨rfl,b3⟩;have z3:w2.heap.size+1<=w3.heap.size:=(by simpa using b3.size);have q30:=cb b3 (by simp;omega) (ca (by omega) q20);have g30:=fb b3 (by simp;omega) (fa (by omega) g20);have q31:=cb b3 (by simp;omega) (ca (by omega) q21);have g31:=fb b3 (by simp;omega) (fa (by omega) g21);have t30:w3.cell? ⟨w2.heap.size,0,none⟩=some (.int .u64 (hi (2*R))):=cb b3 (by simp) (by simp);have t31:w3.cell? ⟨w2.heap.size,1,none⟩=some (.int .u64 (lo (2*R))):=cb b3 (by simp) (by simp))
    |(go_at_call 135;(with_reducible refine(CM _).mono ?_);rintro e w4 ⟨rfl,b4⟩;have z4:w3.heap.size<=w4.heap.size:=b4.size;have q40:=cb b4 (by omega) q30;have g40:=fb b4 (by omega) g30;have q41:=cb b4 (by omega) q31;have g41:=fb b4 (by omega) g31)
    |(go_at_call 137;(with_reducible refine(CH _).mono ?_);rintro e w5 ⟨rfl,b5⟩))
   go_ret;refine⟨zl (by simp[zb0]),?_⟩
   repeat (first|exact Below.refl _ _|with_reducible refine ba ?_ _|with_reducible refine bs ?_ (by omega) _|with_reducible refine bd ?_|(with_reducible refine bt ?_ (by assumption)))
  ·have CL:=zfT (2*R) d 0 d (hiz d (by omega) d1) (loz d (by omega) d1) true (decide_eq_true (by omega)) (by omega) (by omega) (by omega) (by omega);have CM:=ziZ d (2*R) 0 d (hiz d (by omega) d1) (loz d (by omega) d1) false (decide_eq_false (by omega)) (by omega) (by omega) (by omega) (by omega);have CH:=zat Q true (by omega) (by omega);rw[if_neg hc]
   go_enter Tryz.func215,Tryz.ntmps215
   go_wp2_with (first
    |(go_at_call 232;(with_reducible refine(CO _).mono ?_);rintro e w1 ⟨rfl,b1⟩;have z1:w.heap.size+1<=w1.heap.size:=(by simpa using b1.size))
    |(go_at_call 131;(with_reducible refine(CT _).mono ?_);rintro e w2 ⟨rfl,b2⟩;have z2:w1.heap.size+1<=w2.heap.size:=(by simpa using b2.size);have q20:w2.cell? ⟨w1.heap.size,0,none⟩=some (.int .u64 (hi Q)):=cb b2 (by simp) (by simp);have q21:w2.cell? ⟨w1.heap.size,1,none⟩=some (.int .u64 (lo Q)):=cb b2 (by simp) (by simp);have g20:w2.frozen? ⟨w1.heap.size,0,none⟩=false:=fb b2 (by simp) (by simp);have g21:w2.frozen? ⟨w1.heap.size,1,none⟩=false:=fb b2 (by simp) (by simp))
    |(go_at_call 135;(with_reducible refine(CL _).mono ?_);rintro e w3 ⟨rfl,b3⟩;have z3:w2.heap.size+1<=w3.heap.size:=(by simpa using b3.size);have q30:=cb b3 (by simp;omega) (ca (by omega) q20);have g30:=fb b3 (by simp;omega) (fa (by omega) g20);have q31:=cb b3 (by simp;omega) (ca (by omega) q21);have g31:=fb b3 (by simp;omega) (fa (by omega) g21);have t30:w3.cell? ⟨w2.heap.size,0,none⟩=some (.int .u64 (hi (2*R))):=cb b3 (by simp) (by simp);have t31:w3.cell? ⟨w2.heap.size,1,none⟩=some (.int .u64 (lo (2*R))):=cb b3 (by simp) (by simp))
    |(go_at_call 135;(with_reducible refine(CM _).mono ?_);rintro e w4 ⟨rfl,b4⟩;have z4:w3.heap.size<=w4.heap.size:=b4.size;have q40:=cb b4 (by omega) q30;have g40:=fb b4 (by omega) g30;have q41:=cb b4 (by omega) q31;have g41:=fb b4 (by omega) g31)
    |(go_at_call 137;(with_reducible refine(CH _).mono ?_);rintro e w5 ⟨rfl,b5⟩))
   go_ret;refine⟨zl (by simp[zb0]),?_⟩
   repeat (first|exact Below.refl _ _|with_reducible refine ba ?_ _|with_reducible refine bs ?_ (by omega) _|with_reducible refine bd ?_|(with_reducible refine bt ?_ (by assumption)))
theorem ze {w:World} {b o:Nat} {v:Value} (h:w.cell? ⟨b,o,none⟩=some v):b<w.heap.size:=by
 by_cases g:b<w.heap.size
 ·exact g
 ·have e:w.heap[b]?=none:=Array.getElem?_eq_none (by omega)
  simp[World.cell?,e]at h
def RowAt (k:IntKind) (w:World) (ad:Option Addr) (xs:List Int):Prop :=
 xs=[]\/∃ b off,ad=some ⟨b,off,none⟩/\∀ j,j<xs.length->w.cell? ⟨b,off+j,none⟩=some (.int k (xs.getD j 0))
theorem RowAt.get {k:IntKind} {w:World} {ad:Option Addr} {xs:List Int} (h:RowAt k w ad xs) {j:Nat} (hj:j<xs.length) :
  ∃ b off,ad=some ⟨b,off,none⟩/\w.cell? ⟨b,off+j,none⟩=some (.int k (xs.getD j 0)):=by
 rcases h with rfl|⟨b,off,h1,h2⟩
 ·exact absurd hj (Nat.not_lt_zero _)
 ·exact⟨b,off,h1,h2 j hj⟩
theorem RowAt.at {k:IntKind} {w:World} {b off:Nat} {xs:List Int} (h:RowAt k w (some ⟨b,off,none⟩) xs) {j:Nat} (hj:j<xs.length):w.cell? ⟨b,off+j,none⟩=some (.int k (xs.getD j 0)):=by
 obtain⟨b',off',e,c⟩:=h.get hj;simp only[Option.some.injEq,Addr.mk.injEq,and_true]at e;obtain⟨rfl,rfl⟩:=e;exact c
theorem RowAt.nil (k:IntKind) (w:World) (ad:Option Addr):RowAt k w ad []:=Or.inl rfl
theorem RowAt.below {k:IntKind} {w w':World} {ad:Option Addr} {xs:List Int} (h:RowAt k w ad xs) (hb:Below w.heap.size w w'):RowAt k w' ad xs:=by
 rcases h with h|⟨b,off,h1,h2⟩
 ·exact Or.inl h
 ·exact Or.inr ⟨b,off,h1,λj hj=>cb hb (ze (h2 j hj)) (h2 j hj)⟩
def OwnI (k:IntKind) (T:TypeId) (w:World) (base:Nat) (v:Value) (xs:List Int):Prop:=w.ownsRow base T 1 v xs.length (xs.map (Value.int k))
theorem OwnI.nil (k:IntKind) (T:TypeId) (w:World) (base:Nat):OwnI k T w base (.slice none 0 0) []:=World.ownsRow_nil _ _ _ _
theorem OwnI.below {k:IntKind} {T:TypeId} {w w':World} {base:Nat} {v:Value} {xs:List Int} (h:OwnI k T w base v xs) (hb:Below w.heap.size w w'):OwnI k T w' base v xs:=by
 refine⟨h.1,?_⟩;rcases h.2 with h2|⟨g,cap,cur,hv,hB,hg,r⟩
 ·exact .inl h2
 ·refine .inr ⟨g,cap,cur,hv,hB,?_,r⟩;have hlt:g<w.heap.size:=by
   rcases Nat.lt_or_ge g w.heap.size with hlt|hge
   ·exact hlt
   ·rw[Array.getElem?_eq_none hge]at hg;cases hg
  rw[hb.block g hlt];exact hg
theorem OwnI.form {k:IntKind} {T:TypeId} {w:World} {base:Nat} {v:Value} {xs:List Int} (h:OwnI k T w base v xs) :
  ∃ ad cap,v=.slice ad xs.length cap/\RowAt k w ad xs/\(ad=none->xs=[]/\cap=0)/\(∀ a,ad=some a->∃ g,a=⟨g,0,none⟩/\base<=g/\g<w.heap.size)/\xs.length<=cap:=by
 rcases h.2 with⟨hv,h0⟩|⟨g,cap,cur,hv,hB,hg,hn,_,_,ht⟩
 ·have e:xs=[]:=List.eq_nil_of_length_eq_zero h0;subst e;exact⟨none,0,hv,Or.inl rfl,λ_=>⟨rfl,rfl⟩,λa ha=>(by cases ha),Nat.le_refl _⟩
 ·have hlt:g<w.heap.size:=by
   rcases Nat.lt_or_ge g w.heap.size with hlt|hge
   ·exact hlt
   ·rw[Array.getElem?_eq_none hge]at hg;cases hg
  refine⟨some ⟨g,0,none⟩,cap,hv,Or.inr ⟨g,0,rfl,λj hj=>?_⟩,λha=>(by cases ha),λa ha=>⟨g,(Option.some.inj ha).symm,hB,hlt⟩,hn⟩;subst hv;have c:=World.ownsRow.cellAt h j (by omega);rw[Nat.zero_add,c,List.getElem?_map,List.getD_eq_getElem?_getD,List.getElem?_eq_getElem hj];rfl
theorem OwnI.append {k:IntKind} {T:TypeId} {w:World} {base:Nat} {v:Value} {xs:List Int} {x:Int} (h:w.ownsRow base T 1 v (xs.length+1) (xs.map (Value.int k)++[Value.int k x])):OwnI k T w base v (xs++[x]):=by
 unfold OwnI;rw[List.length_append,List.map_append];exact h
theorem OwnI.stored {k:IntKind} {T:TypeId} {w:World} {base g n cap:Nat} {xs:List Int} (h:OwnI k T w base (.slice (some ⟨g,0,none⟩) n cap) xs) (hn:xs.length=n) (j:Nat) (x:Int) :
  OwnI k T (w.setCell ⟨g,j,none⟩ (.int k x)) base (.slice (some ⟨g,0,none⟩) n cap) (xs.set j x):=by
 subst hn;have:=(World.ownsRow.stored h j (.int k x)).1;unfold OwnI;rw[List.length_set,List.map_set];exact this
theorem OwnI.frozenAt {k:IntKind} {T:TypeId} {w:World} {base g n cap:Nat} {xs:List Int} (h:OwnI k T w base (.slice (some ⟨g,0,none⟩) n cap) xs) (hn:xs.length=n) (j:Nat):w.frozen? ⟨g,j,none⟩=false:=by
 subst hn;exact World.ownsRow.frozenAt h j
theorem OwnI.cellAt {k:IntKind} {T:TypeId} {w:World} {base g n cap:Nat} {xs:List Int} (h:OwnI k T w base (.slice (some ⟨g,0,none⟩) n cap) xs) (hn:xs.length=n) {j:Nat} (hj:j<n):w.cell? ⟨g,j,none⟩=some (.int k (xs.getD j 0)):=by
 subst hn;rw[World.ownsRow.cellAt h j (by omega),List.getElem?_map,List.getD_eq_getElem?_getD,List.getElem?_eq_getElem hj];rfl
theorem OwnI.other {k:IntKind} {T:TypeId} {w:World} {base g:Nat} {n cap:Nat} {xs:List Int} {u:Value} (h:OwnI k T w base (.slice (some ⟨g,0,none⟩) n cap) xs) (b o:Nat) (hne:b≠g):OwnI k T (w.setCell ⟨b,o,none⟩ u) base (.slice (some ⟨g,0,none⟩) n cap) xs:=by
 refine⟨h.1,?_⟩;rcases h.2 with h2|⟨g',cap',cur,hv,hB,hg,r⟩
 ·exact .inl h2
 ·refine .inr ⟨g',cap',cur,hv,hB,?_,r⟩;simp only[Value.slice.injEq,Option.some.injEq,Addr.mk.injEq,and_true]at hv;obtain⟨⟨rfl,_⟩,_⟩:=hv;rw[heap_setCell_other w ⟨b,o,none⟩ g u (λe=>hne e.symm)];exact hg
theorem OwnI.mono {k:IntKind} {T:TypeId} {w:World} {base base':Nat} {v:Value} {xs:List Int} (h:OwnI k T w base v xs) (hb:base'<=base):OwnI k T w base' v xs:=by
 refine⟨h.1,?_⟩;rcases h.2 with h2|⟨g,cap,cur,hv,hB,r⟩
 ·exact .inl h2
 ·exact .inr ⟨g,cap,cur,hv,by omega,r⟩
theorem zb5 (xs:List Int) {j:Nat} (h:j<xs.length):xs.take (j+1)=xs.take j++[xs.getD j 0]:=by
 rw[List.take_succ_eq_append_getElem h,List.getD_eq_getElem?_getD,List.getElem?_eq_getElem h];rfl
theorem zi4 {w0 wc w2:World} {k:IntKind} {T:TypeId} {v v':Value} {xs:List Int} {x:Int} {o:Obj} (hb:Below w0.heap.size w0 wc) (hown:OwnI k T wc w0.heap.size v xs)
  (hown':w2.ownsRow w0.heap.size T 1 v' (xs.length+1) (xs.map (Value.int k)++[Value.int k x])) (hgrow:(wc.alloc o).grownBy w2 v.ownBlock) :
  OwnI k T w2 w0.heap.size v' (xs++[x])/\Below w0.heap.size w0 w2:=by
 have hs:=hb.size;exact⟨OwnI.append hown',(hb.alloc (by omega) o).grown hgrow (by simp;omega) (λj hj=>(World.ownsRow.lt hown j hj).1)⟩
theorem bdN {a w:World} (h:Below a.heap.size a w) (n:Nat):Below a.heap.size a (w.drewN n):=h.trans ⟨rfl,rfl,rfl,Nat.le_refl _,λ_ _=>rfl⟩
theorem bch {a w:World} (h:Below a.heap.size a w:=by repeat (first|exact Below.refl _ _|(with_reducible refine bdN ?_ _)|with_reducible refine bd ?_)):Below a.heap.size a w:=h
theorem zdw {w:World} {B:Nat} {e:TypeId} {size:Nat} {v:Value} {n:Nat} {xs:List Value} (h:w.ownsRow B e size v n xs):∀ g,v.ownBlock=some g->B<=g:=λg hg=>(h.lt g hg).1
theorem zha {w:World} {B B':Nat} {e:TypeId} {size:Nat} {v:Value} {n:Nat} {xs:List Value} (h:w.ownsRow B e size v n xs) (hb:B'<=B):w.ownsRow B' e size v n xs:=by
 refine⟨h.1,?_⟩;rcases h.2 with h2|⟨g,cap,cur,hv,hB,r⟩
 ·exact .inl h2
 ·exact .inr ⟨g,cap,cur,hv,by omega,r⟩
theorem zqR {w w':World} {row:Option Nat} (h:w.grownBy w' none):w.grownBy w' row:=⟨h.os,h.tape,h.output,h.size,λk hk _=>h.block k hk (by simp)⟩
theorem zdg {P:Program} (w:World) {ops:Array Oper} {rest:List Oper} {o:Oper} {a:Act} {Q:Exit->Act->World->Prop}
  (hg:o.guard=none) (s x:Operand) (t:TypeId) (hop:o.op=Op.call { callee:=Callee.builtin Builtin.append,args:=#[s,x],argTypes:=#[t,t] })
  (base:Nat) (e:TypeId) (i:TypeInfo) (z:Value) (size bytes:Nat) (h1:P.underlying t=some (.slice e)) (h2:P.info? e=some i) (h3:i.zero=some z) (h4:i.size=size) (h5:i.bytes=bytes) (h6:z.cells.size=size) (h7:0<size)
  (v:Value) (n:Nat) (xs:List Value) (hs:a.eval s=v) (hown:w.ownsRow base e size v n xs)
  (ad:Addr) (m c:Nat) (news:List Value) (hx:a.eval x=.slice (some ad) m c) (hn:news.length=m*size) (hc:∀ j u,news[j]?=some u->w.cell? (ad.add j)=some u) (h1c:∀ u ∈ news,u.oneCell'=true)
  (b1:n+m<=maxLen) (b2:(n+m)*bytes<=140737488355328) (b3:base<=w.heap.size)
  (hK:∀ v' w',w'.ownsRow base e size v' (n+m) (xs++news)->w.grownBy w' v.ownBlock->(v'.ownBlock=v.ownBlock\/∀ g,v'.ownBlock=some g->w.heap.size<=g)->wpList P ops Q rest (a.put o.dst v') w') :
  wpList P ops Q (o :: rest) a w:=by
 have hown2:=hown;rcases hown.2 with⟨rfl,h0⟩|⟨g,cap,cur,rfl,hB,hg2,hnc,hcm,hcs,htake⟩
 ·refine wpList_append_own w hg s x t hop w.heap.size e i z size bytes h1 h2 h3 h4 h5 h6 h7 (.slice none 0 0) n xs hs ⟨hown.1,.inl ⟨rfl,h0⟩⟩ ad m c news hx hn hc h1c b1 b2 (Nat.le_refl _) ?_;intro v' w' r1 r2 _;exact hK v' w' (zha r1 b3) r2 (Or.inr (zdw r1))
 ·by_cases hr:n+m<=cap
  ·refine wpList_append_fits w hg s x t hop base e i size h1 h2 h4 g n cap xs hs hown ad m c news hx hn hc h1c hr ?_;intro w' r1 r2;exact hK _ w' r1 r2 (Or.inl rfl)
  ·refine wpList_append_grows w hg s x t hop e i z size bytes h1 h2 h3 h4 h5 h6 h7 (some ⟨g,0,none⟩) n cap xs hs (λh=>by cases h) hown.1 ?_ ad m c news hx hn hc h1c (by omega) b1 b2 ?_
   ·intro b hb j u hj;obtain rfl:=Option.some.inj hb;exact hown2.cells (g:=g) rfl j u hj
   ·intro v' w' r1 r2;exact hK v' w' (zha r1 b3) (zqR r2) (Or.inr (zdw r1))
def Apart (v u:Value):Prop:=∀ g,v.ownBlock=some g->u.ownBlock≠some g
theorem Apart.symm {v u:Value} (h:Apart v u):Apart u v:=λg hg hv=>h g hv hg
theorem Apart.nil (u:Value):Apart (.slice none 0 0) u:=λg hg=>by cases hg
theorem Apart.grown {v u v':Value} {n:Nat} (h:Apart v u) (hu:∀ g,u.ownBlock=some g->g<n) (hv:v'.ownBlock=v.ownBlock\/∀ g,v'.ownBlock=some g->n<=g):Apart v' u:=by
 intro g hg he;rcases hv with hv|hv
 ·exact h g (hv ▸ hg) he
 ·have:=hv g hg;have:=hu g he;omega
theorem OwnI.lt {k:IntKind} {T:TypeId} {w:World} {base:Nat} {v:Value} {xs:List Int} (h:OwnI k T w base v xs):∀ g,v.ownBlock=some g->g<w.heap.size:=λg hg=>(World.ownsRow.lt h g hg).2
theorem OwnI.kept {k:IntKind} {T:TypeId} {w w':World} {base:Nat} {v u:Value} {xs:List Int} (h:OwnI k T w base v xs) (hg:w.grownBy w' u.ownBlock) (ha:Apart v u):OwnI k T w' base v xs:=by
 refine World.ownsRow.kept h hg ?_;rcases hv:v.ownBlock with _|g
 ·exact Or.inl rfl
 ·exact Or.inr (λe=>ha g hv e.symm)
theorem OwnI.alloc {k:IntKind} {T:TypeId} {w:World} {base:Nat} {v:Value} {xs:List Int} (h:OwnI k T w base v xs) (o:Obj):OwnI k T (w.alloc o) base v xs:=World.ownsRow.alloc h o
theorem zea (w:World) (u:Value) (t:TypeId):∀ j x,[u][j]?=some x->(w.alloc (.cells #[u] t)).cell? ((⟨w.heap.size,0,none⟩:Addr).add j)=some x:=by
 intro j x h
 match j,h with
 |0,h=>simp at h;subst h;simp[Addr.add]
theorem zeg (k:IntKind) (x:Int):∀ u ∈ [Value.int k x],u.oneCell'=true:=by
 intro u hu;simp at hu;subst hu;rfl
theorem zeO (b off j:Nat):((⟨b,off,none⟩:Addr).add j)=⟨b,off+j,none⟩:=by
 unfold Addr.add
 by_cases hj:j=0
 ·subst hj;rfl
 ·simp[hj]
theorem zbi (w:World) (row:Option Nat):w.grownBy w row:=⟨rfl,rfl,rfl,Nat.le_refl _,λ_ _ _=>rfl⟩
theorem zdP {P:Program} (k:IntKind) (w:World) {ops:Array Oper} {rest:List Oper} {o:Oper} {a:Act} {Q:Exit->Act->World->Prop}
  (hg:o.guard=none) (s x:Operand) (t:TypeId) (hop:o.op=Op.call { callee:=Callee.builtin Builtin.append,args:=#[s,x],argTypes:=#[t,t] })
  (base:Nat) (e:TypeId) (i:TypeInfo) (z:Value) (bytes:Nat) (h1:P.underlying t=some (.slice e)) (h2:P.info? e=some i) (h3:i.zero=some z) (h4:i.size=1) (h5:i.bytes=bytes) (h6:z.cells.size=1)
  (v:Value) (ys:List Int) (hs:a.eval s=v) (hown:OwnI k e w base v ys)
  (ad:Option Addr) (n cap:Nat) (xs:List Int) (hx:a.eval x=.slice ad n cap) (hn:xs.length=n) (hr:RowAt k w ad xs) (hz:ad=none->cap=0)
  (b1:ys.length+n<=maxLen) (b2:(ys.length+n)*bytes<=140737488355328) (b3:base<=w.heap.size)
  (hK:∀ v' w',OwnI k e w' base v' (ys++xs)->w.grownBy w' v.ownBlock->(v'.ownBlock=v.ownBlock\/∀ g,v'.ownBlock=some g->w.heap.size<=g)->wpList P ops Q rest (a.put o.dst v') w') :
  wpList P ops Q (o :: rest) a w:=by
 subst hn;rcases ad with _|ad
 ·have e0:xs=[]:=by
   rcases hr with h|⟨b,off,h,_⟩
   ·exact h
   ·cases h
  subst e0;have hz':=hz rfl;subst hz';refine wpList_append_own_none hg s x t hop base e i 1 h1 h2 v ys.length (ys.map (Value.int k)) hs hown hx ?_;exact hK v w (by rw[List.append_nil];exact hown) (zbi _ _) (Or.inl rfl)
 ·have hc:∀ j u,(xs.map (Value.int k))[j]?=some u->w.cell? (ad.add j)=some u:=by
   intro j u hj;rw[List.getElem?_map]at hj;have hlt:j<xs.length:=by
    by_cases g:j<xs.length
    ·exact g
    ·rw[List.getElem?_eq_none (by omega)]at hj;cases hj
   obtain⟨b,off,e,c⟩:=hr.get hlt;obtain rfl:=Option.some.inj e;rw[zeO,c,←hj,List.getD_eq_getElem?_getD,List.getElem?_eq_getElem hlt];rfl
  refine zdg w hg s x t hop base e i z 1 bytes h1 h2 h3 h4 h5 h6 (by decide) v ys.length (ys.map (Value.int k)) hs hown ad xs.length cap (xs.map (Value.int k)) hx (by rw[List.length_map,Nat.mul_one]) hc ?_ b1 b2 b3 ?_
  ·intro u hu;obtain⟨y,_,rfl⟩:=List.mem_map.1 hu;rfl
  ·intro v' w' r1 r2 r3;refine hK v' w' ?_ r2 r3;unfold OwnI;rw[List.length_append,List.map_append];exact r1
theorem zi6 (k:IntKind) (T:TypeId) (w:World) (base:Nat) (hb:base<=w.heap.size):OwnI k T (w.alloc (.cells #[] T)) base (.slice (some ⟨w.heap.size,0,none⟩) 0 0) [] :=
 World.ownsRow_lit w #[] 0 hb (by unfold maxLen;omega) (by simp)
theorem OwnI.formn {k:IntKind} {T:TypeId} {w:World} {base n:Nat} {v:Value} {xs:List Int} (h:OwnI k T w base v xs) (hn:xs.length=n) :
  ∃ ad cap,v=.slice ad n cap/\RowAt k w ad xs/\(ad=none->cap=0):=by
 subst hn;obtain⟨ad,cap,h1,h2,h3,_⟩:=h.form;exact⟨ad,cap,h1,h2,λe=>(h3 e).2⟩
theorem zhM {w w1 w2:World} {T:TypeId} (hb:Below w.heap.size w w1) (hg:(w1.alloc (.cells #[] T)).grownBy w2 (Value.slice (some ⟨w1.heap.size,0,none⟩) 0 0).ownBlock):Below w.heap.size w w2:=by
 have hs:=hb.size;refine(ba hb _).grown hg (by simp;omega) (λg h=>?_);have e:w1.heap.size=g:=Option.some.inj h;omega
theorem OwnI.made {k:IntKind} {T:TypeId} {w:World} {base:Nat} {v:Value} {n:Nat} (h:w.ownsRow base T 1 v n (madeCells (Value.int k 0).cells (n*1)).toList):OwnI k T w base v (List.replicate n 0):=by
 unfold OwnI;rw[List.length_replicate,List.map_replicate,←toList_madeCells_one];rw[Nat.mul_one]at h;exact h
def zbH (L:List Int) (n:Nat):List Int:=L++List.replicate (n-L.length) 0
theorem zdl (n:Nat):zbH [] n=List.replicate n 0:=by unfold zbH;simp
theorem zd3 {L:List Int} {n:Nat} (h:L.length<=n):(zbH L n).length=n:=by unfold zbH;rw[List.length_append,List.length_replicate];omega
theorem zcL {L:List Int} {n:Nat} (h:L.length=n):zbH L n=L:=by unfold zbH;rw[h,Nat.sub_self];simp
theorem zdA {L:List Int} {n j:Nat} (hj:L.length=j) (h:j<n) (x:Int):(zbH L n).set j x=zbH (L++[x]) n:=by
 subst hj;unfold zbH;rw[List.set_append_right _ _ (Nat.le_refl _),Nat.sub_self,List.length_append,List.length_singleton];obtain⟨d,hd⟩:∃ d,n-L.length=d+1:=⟨n-L.length-1,by omega⟩;rw[hd,show n-(L.length+1)=d by omega,List.replicate_succ,List.set_cons_zero,List.append_assoc];rfl
def zdN (F:Int->Int) (xs:List Int) (n j:Nat):List Int:=zbH ((xs.take j).map F) n
theorem zg4 (F:Int->Int) (xs:List Int) (n:Nat):zdN F xs n 0=List.replicate n 0:=by unfold zdN;rw[List.take_zero,List.map_nil,zdl]
theorem zhz {F:Int->Int} {xs:List Int} {n j:Nat} (hx:xs.length=n):(zdN F xs n j).length=n:=zd3 (by rw[List.length_map,List.length_take];omega)
theorem zh6 {F:Int->Int} {xs:List Int} {n:Nat} (hx:xs.length=n):zdN F xs n n=xs.map F:=by
 unfold zdN;rw[List.take_of_length_le (by omega),zcL (by rw[List.length_map];exact hx)]
theorem zhP {F:Int->Int} {xs:List Int} {n j:Nat} (hx:xs.length=n) (h:j<n):(zdN F xs n j).set j (F (xs.getD j 0))=zdN F xs n (j+1):=by
 unfold zdN;rw[zdA (by rw[List.length_map,List.length_take];omega) h,zb5 xs (by omega),List.map_append];rfl
theorem OwnI.of_block {k:IntKind} {T:TypeId} {w:World} {base g n:Nat} {xs:List Int} (hg:w.heap[g]?=some (.cells (xs.map (Value.int k)).toArray T (0,0))) (hn:xs.length=n) (hb:base<=g) (hm:n<=maxLen):OwnI k T w base (.slice (some ⟨g,0,none⟩) n n) xs:=by
 subst hn;exact⟨by simp,Or.inr ⟨g,xs.length,_,rfl,hb,hg,Nat.le_refl _,hm,by simp,by rw[List.toList_toArray,Nat.mul_one];exact List.take_of_length_le (by rw[List.length_map];exact Nat.le_refl _)⟩⟩
theorem zl4 {P:Program} (w:World) (dT sT ty elem:TypeId) (hu:P.underlying dT=some (.slice elem)) (hs:(P.info? elem).map (·.size)=some 1) (g o dLen dCap:Nat) (a:Addr) (sLen sCap:Nat) (cur:List Value) (t:TypeId) (cs:List Value) (c:Nat)
  (hg:w.heap[g]?=some (.cells cur.toArray t (0,0))) (hc:cs.length=c) (hn:c=Nat.min sLen dLen)
  (hsrc:∀ j v,cs[j]?=some v->w.cell? (a.add j)=some v) (hfit:o+c<=cur.length) (h1:∀ v ∈ cs,v.oneCell'=true) (B:Nat) (hB:B<=g) :
  ∃ w',(Builtin.copy_ #[dT,sT] ty #[.slice (some ⟨g,o,none⟩) dLen dCap,.slice (some a) sLen sCap]).run P w=.ok (.int .i64 (c:Int)) w'/\w'.heap[g]?=some (.cells (splice cur o cs).toArray t (0,0))/\Below B w w':=by
 subst hc;refine⟨_,run_copy_row (P:=P) w dT sT ty elem g o dLen dCap a sLen sCap cur.toArray t cs hu hs hg hn hsrc (by simpa using hfit) h1,?_,below_setRow (Below.refl _ _) hB _⟩
 simpa [splice] using setRow_heap w g _ _ t _ hg
theorem zhj {w w1 w2:World} (h:Below w.heap.size w w1) (hg:w1.grownBy w2 none):Below w.heap.size w w2:=h.grown hg h.size (λj hj=>by cases hj)
theorem zn (w:World) (b o:Nat) (u:Value):w.grownBy (w.setCell ⟨b,o,none⟩ u) (some b) :=
 ⟨rfl,rfl,rfl,by simp[World.setCell],λk hk hne=>Below.heap_setCell _ _ _ _ (λe=>hne (by rw[e]))⟩
theorem zeX (w:World) (n:Nat) (row:Option Nat):w.grownBy (w.drewN n) row:=⟨rfl,rfl,rfl,Nat.le_refl _,λ_ _ _=>rfl⟩
theorem zpW (w:World) (row:Option Nat):w.grownBy w.drew row:=⟨rfl,rfl,rfl,Nat.le_refl _,λ_ _ _=>rfl⟩
theorem zZ {w w':World} (h:Below w.heap.size w w') (row:Option Nat):w.grownBy w' row:=⟨h.os,h.tape,h.output,h.size,λk hk _=>h.block k hk⟩
theorem zoi {w w':World} (h:w.grownBy w' none):Below w.heap.size w w':=⟨h.os,h.tape,h.output,h.size,λk hk=>h.block k hk (by simp)⟩
theorem cg {w w':World} {row:Option Nat} {b o:Nat} {v:Value} (hg:w.grownBy w' row) (hne:some b≠row) (hc:w.cell? ⟨b,o,none⟩=some v):w'.cell? ⟨b,o,none⟩=some v:=hg.cell hc hne
theorem fg {w w':World} {row:Option Nat} {b o:Nat} {v:Value} (hg:w.grownBy w' row) (hne:some b≠row) (hc:w.cell? ⟨b,o,none⟩=some v) (hf:w.frozen? ⟨b,o,none⟩=false):w'.frozen? ⟨b,o,none⟩=false :=
 (hg.frozen_far ⟨b,o,none⟩ (ze hc) hne).trans hf
theorem RowAt.grown {k:IntKind} {w w':World} {b off:Nat} {xs:List Int} {row:Option Nat} (h:RowAt k w (some ⟨b,off,none⟩) xs) (hg:w.grownBy w' row) (hne:some b≠row):RowAt k w' (some ⟨b,off,none⟩) xs:=by
 by_cases e:xs=[]
 ·exact Or.inl e
 ·exact Or.inr ⟨b,off,rfl,λj hj=>cg hg hne (h.at hj)⟩
theorem RowAt.part {k:IntKind} {w:World} {b off:Nat} {xs:List Int} (h:RowAt k w (some ⟨b,off,none⟩) xs) (i n:Nat) (hn:i+n<=xs.length):RowAt k w (some ⟨b,off+i,none⟩) ((xs.drop i).take n):=by
 refine Or.inr ⟨b,off+i,rfl,λj hj=>?_⟩;have hj':j<n:=by rw[List.length_take]at hj;omega
 have:=h.at (j:=i+j) (by omega);rw[←Nat.add_assoc]at this;rw[this,List.getD_eq_getElem?_getD,List.getD_eq_getElem?_getD,List.getElem?_take,if_pos hj',List.getElem?_drop]
theorem RowAt.put {k:IntKind} {w:World} {b off:Nat} {xs:List Int} (h:RowAt k w (some ⟨b,off,none⟩) xs) (j:Nat) (hj:j<xs.length) (x:Int):RowAt k (w.setCell ⟨b,off+j,none⟩ (.int k x)) (some ⟨b,off,none⟩) (xs.set j x):=by
 refine Or.inr ⟨b,off,rfl,λi hi=>?_⟩;rw[List.length_set]at hi
 by_cases e:i=j
 ·subst e;rw[World.cell?_setCell_same' _ _ _ (by rw[h.at hi];rfl),List.getD_eq_getElem?_getD,List.getElem?_set_self hi];rfl
 ·rw[World.cell?_setCell_other _ _ _ _ (by intro e';simp only[Addr.mk.injEq,and_true]at e';omega),h.at hi,List.getD_eq_getElem?_getD,List.getD_eq_getElem?_getD,List.getElem?_set_ne (λg=>e g.symm)]
theorem zax {k:IntKind} {T:TypeId} {w:World} {base n:Nat} {v:Value} {xs:List Int} (h:OwnI k T w base v xs) (hn:xs.length=n) (h0:1<=n) :
  ∃ b cap,v=.slice (some ⟨b,0,none⟩) n cap/\base<=b/\b<w.heap.size/\RowAt k w (some ⟨b,0,none⟩) xs/\n<=cap/\∀ j,w.frozen? ⟨b,j,none⟩=false:=by
 have h':=h;subst hn;obtain⟨ad,cap,rfl,hr,hz,hs,hc⟩:=h.form;rcases ad with _|a
 ·have:=(hz rfl).1;rw[this]at h0;exact absurd h0 (by decide)
 ·obtain⟨g,rfl,hb,hl⟩:=hs a rfl;exact⟨g,cap,rfl,hb,hl,hr,hc,λj=>OwnI.frozenAt h' rfl j⟩
def Drew (w w':World):Prop:=∃ m,w'=w.drewN m
theorem Drew.refl (w:World):Drew w w:=⟨0,rfl⟩
theorem Drew.more {w w':World} (h:Drew w w') (n:Nat):Drew w (w'.drewN n):=by
 obtain⟨m,rfl⟩:=h;exact⟨m+n,World.drewN_drewN _ _ _⟩
theorem Drew.below {w w':World} (h:Drew w w'):Below w.heap.size w w':=by
 obtain⟨m,rfl⟩:=h;exact bdN (Below.refl _ _) m
theorem Drew.grown {w w':World} (h:Drew w w') (row:Option Nat):w.grownBy w' row:=zZ h.below row
theorem zbR {P:Program} {f:FuncId} {args:Array Value} {u:Value} {w:World} {n:Nat} (h:Calls P f args (w.drewN n) λe w'=>e=.returned u/\Drew (w.drewN n) w') :
  Calls P f args (w.drewN n) λe w''=>e=.returned u/\∃ m,w''=w.drewN m:=Calls.quiet_of h
theorem zdZ:(Tryz.prog.info? 2).map (λi=>(i.zero,i.size,i.bytes))=some (some (.int .i64 0),1,8):=by kernel_rfl
theorem zh9 (n:Nat) (h:n<=1048576):∃ zs:Array Value,(∀ w:World,(Instr.makeSlice 28 (.int .i64 (n:Int)) (.int .i64 (n:Int))).run Tryz.prog w=.ok (.slice (some ⟨w.heap.size,0,none⟩) n n) (w.alloc (.cells zs 2)))/\(∀ (w:World) (B:Nat),B<=w.heap.size->OwnI .i64 2 (w.alloc (.cells zs 2)) B (.slice (some ⟨w.heap.size,0,none⟩) n n) (List.replicate n 0))/\zs.toList=List.replicate n (.int .i64 0):=by
 obtain⟨i0,hi,hz0,hz1,hz2⟩:=info_parts zdZ;have hm:(n:Int)<=9223372036854775807:=by omega
 refine⟨madeCells (Value.int .i64 0).cells (n*i0.size),λw=>?_,λw B hB=>?_,?_⟩
 ·have hr:=run_make (P:=Tryz.prog) w 28 2 i0 (.int .i64 0) Tryz.underlying28 hi hz0 .i64 .i64 n n (by omega) (Int.le_refl _) (by rw[hz2];omega) hm
  simpa only [Int.toNat_natCast] using hr
 ·refine OwnI.made ?_;rw[hz1];exact World.ownsRow_lit w _ n hB (by unfold maxLen;omega) (by rw[size_madeCells])
 ·rw[hz1,Nat.mul_one];exact toList_madeCells_one _ _
end Go.Proofs.YtlodkoimdoeopaaGreatDoor
namespace Go.Proofs.YtlodkoimdoeopaaGreatDoor
def zc1 (a b:Int):Int:=if b=0 then 0 else zE (zak a b)
def zkB (a b:Int):Int:=if b=0 then 0 else zaH a b
def zN (a b:Int):Int:=if b=0 then 0 else zE (zaC a b)
theorem zdo {a b:Int} (h:b≠0):zc1 a b=zE (zak a b):=if_neg h
theorem zij {a b:Int} (h:b≠0):zkB a b=zaH a b:=if_neg h
theorem zck {a b:Int} (h:b≠0):zN a b=zE (zaC a b):=if_neg h
theorem zik {x d:Int} (h0:0<=x):x.tdiv d=x / d:=Int.tdiv_eq_ediv_of_nonneg h0
theorem zgL {x d:Int} (h0:0<=x):x.tmod d=x % d:=Int.tmod_eq_emod_of_nonneg h0
theorem zlr {x d:Int} (hd:0<d):(-x) % d=if 0<x % d then d-x % d else 0:=by
 have e:=Int.mul_ediv_add_emod x d;have r0:=Int.emod_nonneg x (Int.ne_of_gt hd);have r1:=Int.emod_lt_of_pos x hd
 split
 ·exact zc8 (q := -(x / d+1)) (by rw[Int.mul_neg,Int.mul_add];omega) (by omega) (by omega)
 ·exact zc8 (q := -(x / d)) (by rw[Int.mul_neg];omega) (by omega) (by omega)
structure Ways (a b x d T M F R:Int):Prop where
 t:a.tdiv b=T
 m:a.tmod b=M
 f:zak a b=F
 r:zaH a b=R
theorem zwo {a b:Int} (h0:0<=a) (hb:0<b):Ways a b a b (a / b) (a % b) (a / b) (a % b) :=
 ⟨zik h0,zgL h0,if_neg (by omega),if_neg (by omega)⟩
theorem zxk {x d:Int} (h0:0<=x) (hd:0<d):Ways (-x) (-d) x d (x / d) (-(x % d)) (x / d) (-(x % d)):=by
 refine⟨?_,?_,?_,?_⟩
 ·rw[Int.tdiv_neg,Int.neg_tdiv,Int.neg_neg,zik h0]
 ·rw[Int.tmod_neg,Int.neg_tmod,zgL h0]
 ·unfold zak;rw[if_pos (by omega),Int.neg_neg,Int.neg_neg]
 ·unfold zaH;rw[if_pos (by omega),Int.neg_neg,Int.neg_neg]
theorem zw2 {x d:Int} (h0:0<=x) (hd:0<d):Ways (-x) d x d (-(x / d)) (-(x % d)) (-(x / d+(if 0<x % d then 1 else 0))) (if 0<x % d then d-x % d else 0):=by
 refine⟨?_,?_,?_,?_⟩
 ·rw[Int.neg_tdiv,zik h0]
 ·rw[Int.neg_tmod,zgL h0]
 ·unfold zak;rw[if_neg (by omega),zdb hd]
 ·unfold zaH;rw[if_neg (by omega),zlr hd]
theorem zw7 {x d:Int} (h0:0<=x) (hd:0<d):Ways x (-d) x d (-(x / d)) (x % d) (-(x / d+(if 0<x % d then 1 else 0))) (-(if 0<x % d then d-x % d else 0)):=by
 refine⟨?_,?_,?_,?_⟩
 ·rw[Int.tdiv_neg,zik h0]
 ·rw[Int.tmod_neg,zgL h0]
 ·unfold zak;rw[if_pos (by omega),Int.neg_neg,zdb hd]
 ·unfold zaH;rw[if_pos (by omega),Int.neg_neg,zlr hd]
theorem zct {x d:Int} (h0:0<=x) (hd:0<d):0<=x / d/\x / d<=x:=⟨Int.ediv_nonneg h0 (by omega),Int.ediv_le_self _ h0⟩
theorem zgz {x d:Int} (h0:0<=x) (hd:2<=d):2*(x / d)<=x:=by
 have e:=Int.mul_ediv_add_emod x d;have r0:=Int.emod_nonneg x (b:=d) (by omega);have q0:=(zct h0 (d:=d) (by omega)).1;have:2*(x / d)<=d*(x / d):=Int.mul_le_mul_of_nonneg_right hd q0;omega
theorem zjp {x d:Int} (hd:0<d) (h:x % d≠0):2<=d:=by
 by_cases h1:d=1
 ·subst h1;exact absurd (Int.emod_one x) h
 ·omega
theorem za1 {x d:Int} (hd:0<d):0<=x % d/\x % d<d:=⟨Int.emod_nonneg x (Int.ne_of_gt hd),Int.emod_lt_of_pos x hd⟩
theorem zlP {a b:Int} (hb:0<b):zaC a b=zak a b+(if b<=2*zaH a b then 1 else 0):=by
 unfold zaC zak zaH;have h:¬b<0:=by omega
 rw[if_neg h,if_neg h,if_neg h];exact zeS hb
theorem zng {a b:Int} (hb:b<0):zaC a b=zak a b+(if 2*zaH a b<=b then 1 else 0):=by
 unfold zaC zak zaH;rw[if_pos hb,if_pos hb,if_pos hb,zeS (by omega)]
 congr 1
 by_cases h : -b<=2*(-a % -b)
 ·rw[if_pos h,if_pos (by omega)]
 ·rw[if_neg h,if_neg (by omega)]
theorem zlq (a b:Int):(0<b->0<=zaH a b/\zaH a b<b)/\(b<0->b<zaH a b/\zaH a b<=0):=by
 refine⟨λh=>?_,λh=>?_⟩
 ·unfold zaH;rw[if_neg (by omega)];exact za1 h
 ·unfold zaH;rw[if_pos h];have:=za1 (x := -a) (d := -b) (by omega);omega
theorem zqd {a b:Int} (h0 : -9223372036854775808<=a) (h1:a<=9223372036854775807) (hb:b≠0) (hr:zaH a b≠0) : -4611686018427387905<=zak a b/\zak a b<=4611686018427387904:=by
 have key:∀ y d:Int,0<d->y % d≠0->-9223372036854775808<=y->y<=9223372036854775808->-4611686018427387905<=y / d/\y / d<=4611686018427387904:=by
  intro y d hd hy ya yb;have h2:=zjp hd hy
  by_cases hy0:0<=y
  ·have:=zgz hy0 h2;have:=(zct hy0 hd).1;omega
  ·have e:=zdb (a := -y) hd;rw[Int.neg_neg]at e;have:=zgz (x := -y) (by omega) h2;have:=(zct (x := -y) (by omega) hd).1
   split at e<;>omega
 unfold zak;unfold zaH at hr
 by_cases h:b<0
 ·rw[if_pos h]at hr ⊢;exact key _ _ (by omega) (by omega) (by omega) (by omega)
 ·rw[if_neg h]at hr ⊢;exact key _ _ (by omega) hr (by omega) (by omega)
structure Cut (a b:Int):Prop where
 f0:a.tmod b=0->zak a b=a.tdiv b
 f1:(a<0↔b<0)->zak a b=a.tdiv b
 f2:a.tmod b≠0->¬(a<0↔b<0)->zak a b=a.tdiv b-1
 r0:a.tmod b=0->zaH a b=0
 r1:a.tmod b≠0->(a.tmod b<0↔b<0)->zaH a b=a.tmod b
 r2:a.tmod b≠0->¬(a.tmod b<0↔b<0)->zaH a b=a.tmod b+b
 q0 : -9223372036854775808<=zak a b
 q1:a.tmod b≠0\/¬(a = -9223372036854775808/\b = -1)->zak a b<=9223372036854775807
 m0 : -9223372036854775808<=a.tmod b
 m1:a.tmod b<=9223372036854775807
theorem zpv {a b:Int} (h0 : -9223372036854775808<=a) (h1:a<=9223372036854775807) (k0 : -9223372036854775808<=b) (k1:b<=9223372036854775807) (hb:b≠0):Cut a b:=by
 by_cases ha:a<0
 ·obtain⟨x,rfl⟩:∃ x,a = -x:=⟨-a,by omega⟩
  by_cases hn:b<0
  ·obtain⟨d,rfl⟩:∃ d,b = -d:=⟨-b,by omega⟩;have W:=zxk (x:=x) (d:=d) (by omega) (by omega);have q:=zct (x:=x) (d:=d) (by omega) (by omega);have r:=za1 (x:=x) (d:=d) (by omega);have q2:2<=d->2*(x / d)<=x:=zgz (by omega);have t:=W.t;have m:=W.m;have f:=W.f;have g:=W.r;rw[←t]at f;rw[←m]at g;generalize x / d=Q at *;generalize x % d=R at *;exact⟨by omega,by omega,by omega,by omega,by omega,by omega,by omega,by omega,by omega,by omega⟩
  ·have W:=zw2 (x:=x) (d:=b) (by omega) (by omega);have q:=zct (x:=x) (d:=b) (by omega) (by omega);have q2:2<=b->2*(x / b)<=x:=zgz (by omega);have r:=za1 (x:=x) (d:=b) (by omega);have r2:x % b≠0->2<=b:=zjp (by omega);have t:=W.t;have m:=W.m;have f:=W.f;have g:=W.r;generalize x / b=Q at *;generalize x % b=R at *
   split at f<;>split at g<;>exact⟨by omega,by omega,by omega,by omega,by omega,by omega,by omega,by omega,by omega,by omega⟩
 ·by_cases hn:b<0
  ·obtain⟨d,rfl⟩:∃ d,b = -d:=⟨-b,by omega⟩;have W:=zw7 (x:=a) (d:=d) (by omega) (by omega);have q:=zct (x:=a) (d:=d) (by omega) (by omega);have q2:2<=d->2*(a / d)<=a:=zgz (by omega);have r:=za1 (x:=a) (d:=d) (by omega);have r2:a % d≠0->2<=d:=zjp (by omega);have t:=W.t;have m:=W.m;have f:=W.f;have g:=W.r;generalize a / d=Q at *;generalize a % d=R at *
   split at f<;>split at g<;>exact⟨by omega,by omega,by omega,by omega,by omega,by omega,by omega,by omega,by omega,by omega⟩
  ·have W:=zwo (a:=a) (b:=b) (by omega) (by omega);have q:=zct (x:=a) (d:=b) (by omega) (by omega);have r:=za1 (x:=a) (d:=b) (by omega);have t:=W.t;have m:=W.m;have f:=W.f;have g:=W.r;generalize a / b=Q at *;generalize a % b=R at *;exact⟨by omega,by omega,by omega,by omega,by omega,by omega,by omega,by omega,by omega,by omega⟩
end Go.Proofs.YtlodkoimdoeopaaGreatDoor
