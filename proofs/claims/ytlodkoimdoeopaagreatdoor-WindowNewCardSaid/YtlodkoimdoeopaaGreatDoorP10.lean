/- Parts, joined. -/
import Derived.Test.YtlodkoimdoeopaaGreatDoorP09
import Derived.Test.YtlodkoimdoeopaaGreatDoorP03
import Derived.Test.YtlodkoimdoeopaaGreatDoorP06
import Derived.Deep.RegionHeld3
import Derived.Laws.FloatArith
import Derived.RowKit
namespace Go.Proofs.YtlodkoimdoeopaaGreatDoor
open Go.RowKit
set_option maxHeartbeats 4000000 in
theorem zr2 (xs:List Int) (n cap:Nat) (ad:Option Addr) (j:Int) (hn:xs.length=n) (hl:n<=9223372036854775807) (w:World) (hr:RowAt .i64 w ad xs) :
  Calls Tryz.prog 49 #[.slice ad n cap,.int .i64 j] w λe w'=>e=.returned (.bool (decide (j ∈ xs)))/\w=w':=by
 have HR:=za hr;have HN:=za hn;clear hr hn
 go_enter Tryz.func49,Tryz.ntmps49
 go_wp2
 go_loopw [9] (λvk wr=>∃ k:Nat,k<=n/\vk=.int .i64 (k:Int)/\(∀ i,i<k->xs.getD i 0≠j)/\wr=w) (λvk _=>n-(intOf vk).toNat)
 case atStart=>exact⟨0,by omega,rfl,λi hi=>absurd hi (Nat.not_lt_zero _),rfl⟩
 case round =>
  obtain⟨k,hk,rfl,hne,rfl⟩:=hrel;have HNE:=za hne;clear hne
  by_cases hlt:k<n
  ·obtain⟨b,off,rfl,c⟩:=HR.out.get (j:=k) (by rw[HN.out];exact hlt)
   by_cases e:xs.getD k 0=j
   ·have HJ:=za (show decide (j ∈ xs)=true from decide_eq_true (by
     rw[←e,List.getD_eq_getElem?_getD,List.getElem?_eq_getElem (by rw[HN.out];exact hlt)];exact List.getElem_mem _))
    rw[e]at c;clear e;go_wp2;go_ret;exact⟨by rw[HJ.out];rfl,rfl⟩
   ·have HE:=za e;have q1:(xs.getD k 0 == j)=false:=by rw[beq_eq_false_iff_ne];exact e
    generalize hz:xs.getD k 0=z at *;clear e;go_wp2
    go_roundw
    case rel=>exact⟨k+1,by omega,by go_num,λi hi=>by
     by_cases q:i=k
     ·subst q;rw[hz];exact HE.out
     ·exact HNE.out i (by omega),by first|rfl|trivial⟩
    case measure=>simp[intOf];omega
  ·obtain rfl:k=n:=by omega
   have HJ:=za (show decide (j ∈ xs)=false from decide_eq_false (λh=>by
    obtain⟨i,hi,e⟩:=List.mem_iff_getElem.1 h;refine HNE.out i (by rw[←HN.out];exact hi) ?_;rw[List.getD_eq_getElem?_getD,List.getElem?_eq_getElem hi];exact e))
   go_wp2;go_ret;exact⟨by rw[HJ.out];rfl,rfl⟩
def zaM (L:List (Int×List Int)):List Wnd:=L.map (λl=>(l.1,l.2.length))
theorem zbZ (L:List (Int×List Int)):(zaM L).length=L.length:=List.length_map ..
theorem zgG {L:List (Int×List Int)} {k:Nat} (h:k<L.length):(zaM L)[k]'(by rw[zbZ];exact h)=((ze L k).1,(ze L k).2.length):=by
 rw[zn2 h];unfold zaM;rw[List.getElem_map]
theorem zhR {L:List (Int×List Int)} {k:Nat} (h:k<L.length):zbK ((zaM L).take (k+1))=max (zbK ((zaM L).take k)) (ze L k).2.length:=by
 rw[List.take_succ_eq_append_getElem (by rw[zbZ];exact h),zpP,zgG h]
theorem zkl {L:List (Int×List Int)} {B:Nat} (h:∀ k,k<L.length->(ze L k).2.length<=B):∀ k,k<=L.length->zbK ((zaM L).take k)<=B
 |0,_=>Nat.zero_le _
 |k+1,hk=>by
  rw[zhR (by omega)];have:=zkl h k (by omega);have:=h k (by omega);omega
theorem zsK {α:Type} {n:Nat} {G:List α} (x:α) (h:1<=n):zaH n (G++[x])=if(zaH n G).length=n then(zaH n G++[x]).tail else zaH n G++[x]:=by
 rw[zj1 x h];have hl:=zf5 n G
 by_cases e:n<=G.length
 ·rw[if_pos e,if_pos (by omega)]
  cases hL:zaH n G with
  |nil=>rw[hL,List.length_nil]at hl;omega
  |cons a L=>rfl
 ·rw[if_neg e,if_neg (by omega)]
def zk0 (mo:Nat) (T P:List Mv) (G:List Int) (ls:List Wnd) (y:Int):Prop :=
 ∃ E,P++zO E y ls=T/\zc7 mo ls/\∀ l r,ls=l :: r->HeldI G E l/\E<=zY l
def zhg (mo:Nat) (T P:List Mv) (G:List Int) (l:Wnd) (r:List Wnd) (y:Int) (t:Nat):Prop :=
 ∃ E,P++((zam (max E (l.1+(t:Int))) l).map (λj=>((1:Int),j))++((2:Int),y) :: zO (zcI E l) (y+1) r)=T/\zc7 mo (l :: r)/\InI G E l (l.1+(t:Int))/\E<=zY l
theorem ztE {mo:Nat} {ls:List Wnd} {y z:Int} (h:zc7 mo ls) (hz:∀ l r,ls=l :: r->z=l.1):zk0 mo (zO z y ls) [] [] ls y :=
 ⟨z,rfl,h,λl r e=>by
  rw[hz l r e];exact⟨zjU l,by unfold zY;omega⟩⟩
theorem zxS {mo:Nat} {T P:List Mv} {G:List Int} {l:Wnd} {r:List Wnd} {y:Int} (h:zk0 mo T P G (l :: r) y):zhg mo T P G l r y 0:=by
 obtain⟨E,h1,h2,h3⟩:=h;obtain⟨h3,h4⟩:=h3 l r rfl;refine⟨E,?_,h2,?_,h4⟩
 ·rw[Int.natCast_zero,Int.add_zero,zl2];exact h1
 ·rw[Int.natCast_zero,Int.add_zero];exact zvO h3
theorem zxz {mo:Nat} {T P:List Mv} {G:List Int} {l:Wnd} {r:List Wnd} {y:Int} {t:Nat} (h:zhg mo T P G l r y t) (ht:t<l.2) (hj:l.1+(t:Int) ∈ zaH mo G):zhg mo T P G l r y (t+1):=by
 obtain⟨E,h1,h2,h3,h4⟩:=h;have hlt:=(zph h3 (by omega) (by unfold zY;omega) h4 h2.2.1).1 hj;refine⟨E,?_,h2,?_,h4⟩
 ·rw[Int.natCast_add,Int.natCast_one,←Int.add_assoc,zoC hlt];exact h1
 ·rw[Int.natCast_add,Int.natCast_one,←Int.add_assoc];exact zoM h3 hlt
theorem zwO {mo:Nat} {T P:List Mv} {G:List Int} {l:Wnd} {r:List Wnd} {y:Int} {t:Nat} (h:zhg mo T P G l r y t) (ht:t<l.2) (hj:l.1+(t:Int) ∉ zaH mo G):zhg mo T (P++[(1,l.1+(t:Int))]) (G++[l.1+(t:Int)]) l r y (t+1):=by
 obtain⟨E,h1,h2,h3,h4⟩:=h;have hge:E<=l.1+(t:Int):=by
  by_cases q:l.1+(t:Int)<E
  ·exact absurd ((zph h3 (by omega) (by unfold zY;omega) h4 h2.2.1).2 q) hj
  ·omega
 refine⟨E,?_,h2,?_,h4⟩
 ·rw[ziL (by omega) (by unfold zY;omega) hge,List.map_cons]at h1;rw[Int.natCast_add,Int.natCast_one,←Int.add_assoc,List.append_assoc];exact h1
 ·rw[Int.natCast_add,Int.natCast_one,←Int.add_assoc];exact zoa h3 hge
theorem zwV {mo:Nat} {T P:List Mv} {G:List Int} {l:Wnd} {r:List Wnd} {y:Int} (h:zhg mo T P G l r y l.2):zk0 mo T (P++[(2,y)]) G r (y+1):=by
 obtain⟨E,h1,h2,h3,h4⟩:=h;rw[show l.1+(l.2:Int)=zY l from rfl,znu]at h1;refine⟨zcI E l,?_,h2.2.2.2,λm r' e=>?_⟩
 ·rw[List.append_assoc];exact h1
 ·have hm:=h2.2.2.1 m (by rw[e];exact List.mem_cons_self ..);refine⟨zyu h3 hm.1,?_⟩;unfold zcI;omega
theorem zxn {mo:Nat} {T P:List Mv} {G:List Int} {y:Int} (h:zk0 mo T P G [] y):P=T:=by
 obtain⟨E,h1,_⟩:=h;rw[←h1];exact(List.append_nil P).symm
theorem zyd {mo:Nat} {T P:List Mv} {G:List Int} {l:Wnd} {r:List Wnd} {y:Int} {t:Nat} (h:zhg mo T P G l r y t):l.2<=mo:=by
 obtain⟨E,_,h2,_⟩:=h;exact h2.2.1
theorem zpw {mo:Nat} {T P:List Mv} {G:List Int} {l:Wnd} {r:List Wnd} {y:Int} {t:Nat} (h:zhg mo T P G l r y t):P.length<=T.length:=by
 obtain⟨E,h1,_⟩:=h;rw[←h1,List.length_append];omega
theorem zll {L:List (Int×List Int)} {y h j:Nat} (hyh:y+h<=L.length) (hj:j<h):(((zaM L).drop y).take h).drop j=((ze L (y+j)).1,(ze L (y+j)).2.length) :: (((zaM L).drop y).take h).drop (j+1):=by
 have hl:=zbZ L;have hlt:j<(((zaM L).drop y).take h).length:=by rw[List.length_take,List.length_drop];omega
 rw[List.drop_eq_getElem_cons hlt,List.getElem_take,List.getElem_drop,zgG (show y+j<L.length by omega)]
theorem zqK {L:List (Int×List Int)} {y h:Nat}:(((zaM L).drop y).take h).drop h=[]:=List.drop_eq_nil_of_le (by rw[List.length_take];omega)
set_option maxHeartbeats 16000000 in
set_option maxRecDepth 100000 in
theorem znl {L:List (Int×List Int)} {m ycap g y h mo:Nat} {xs fx fy bd:Value} {ls:List Wnd} {T:List Mv} (hm:L.length=m) (hb:∀ k,k<m->(ze L k).2.length<=1048576/\-1099511627776<=(ze L k).1/\(ze L k).1<=1099511627776) (hm2:m<=65536) (hyh:y+h<=m) (hh:1<=h) (hmo:zbK (zaM L)=mo) (hls:((zaM L).drop y).take h=ls) (hT:zO (ze L y).1 (y:Int) ls=T) (hTl:T.length<=1099511627776) (hmv:zc7 mo ls)
  (hxs:∃ a b c,xs=.slice a b c) (hfx:∃ a,fx=.int .i64 a) (hfy:∃ a,fy=.int .i64 a) (hbd:∃ a,bd=.int .i64 a) (w:World) (hr:LinesAt w g L) :
  Calls Tryz.prog 18 #[.agg #[xs,.slice (some ⟨g,0,none⟩) m ycap,fx,fy,bd],.int .i64 (y:Int),.int .i64 (h:Int)] w λe w'=>∃ v,e=.returned v/\w'.ownsRow (w.heap.size+1) 62 2 v T.length (mvC T)/\Below w.heap.size w w':=by
 obtain⟨xa,xb,xc,rfl⟩:=hxs;obtain⟨fx,rfl⟩:=hfx;obtain⟨fy,rfl⟩:=hfy;obtain⟨bd,rfl⟩:=hbd;have HR:=za hr;have HM:=za hm;have HB:=za hb;have HMO:=za hmo;have HTL:=za hTl;have HMB:=za (zkl (L:=L) (B:=1048576) (λk hk=>(hb k (by omega)).1));have M1:mo<=1048576:=by
  have:=HMB.out L.length (Nat.le_refl _);rw[List.take_of_length_le (by rw[zbZ];exact Nat.le_refl _),hmo]at this;exact this
 have HFULL:=za (show zbK ((zaM L).take m)=mo from by rw[List.take_of_length_le (by rw[zbZ];omega),hmo]);have ST:=za (show zk0 mo T [] [] (ls.drop 0) ((y:Int)+((0:Nat):Int)) from by
  rw[List.drop_zero,Int.natCast_zero,Int.add_zero,←hT];refine ztE hmv (λl r e=>?_);have:=zll (L:=L) (y:=y) (h:=h) (j:=0) (by omega) (by omega);rw[List.drop_zero,hls,e]at this;rw[(List.cons.inj this).1];rfl)
 have DL:=za (fun(j:Nat) (hj:j<h)=>hls ▸ zll (L:=L) (y:=y) (h:=h) (j:=j) (by omega) hj);have DE:=za (show ls.drop h=[] from hls ▸ zqK);clear hr hm hb hmv hmo hls hT hTl;obtain⟨i0,hii,_,hiz,_⟩:=info_parts zni
 go_enter Tryz.func18,Tryz.ntmps18
 go_wp2
 go_loopw [7,19] (λvm vk wr=>∃ k:Nat,k<=m/\vk=.int .i64 (k:Int)/\vm=.int .i64 (zbK ((zaM L).take k):Int)/\wr.cell? ⟨w.heap.size,1,none⟩=some (.slice (some ⟨g,0,none⟩) m ycap)/\Below w.heap.size w wr) (λ_ vk _=>m-(intOf vk).toNat)
 case atStart=>exact⟨0,by omega,rfl,by simp[zbK],by simp,zg _ _⟩
 case round =>
  obtain⟨k,hk,rfl,rfl,hbx,hbel⟩:=hrel;have HX:=za hbel;clear hbel
  by_cases hlt:k<m
  ·obtain⟨c0,u,c1,hu⟩:=(HR.out.below HX.out) k (by rw[HM.out];exact hlt);obtain⟨ad2,cap2,rfl,_⟩:=hu;have MT:=za (zhR (L:=L) (k:=k) (by rw[HM.out];exact hlt));have b1:=(HB.out k hlt).1;have b2:=HMB.out k (by rw[HM.out];exact hk);generalize (ze L k).2.length=ln at *;generalize (ze L k).1=z at *;generalize zbK ((zaM L).take k)=mo at *;have bx2:=ca (ob:=.cells #[.int .i64 z,.slice ad2 ln cap2] 111) (zf hbx) hbx
   by_cases hgt:mo<ln
   ·have MX:=za (show max mo ln=ln by omega);go_wp2
    go_roundw
    case rel=>exact⟨k+1,by omega,by go_num,by rw[MT.out,MX.out],by assumption,ba HX.out _⟩
    case measure=>simp[intOf];omega
   ·have MX:=za (show max mo ln=mo by omega);go_wp2
    go_roundw
    case rel=>exact⟨k+1,by omega,by go_num,by rw[MT.out,MX.out],by assumption,ba HX.out _⟩
    case measure=>simp[intOf];omega
  ·have hkm:k=m:=by omega
   subst hkm;have RS:=za (show StepS w wr none (.int .i64 0) (.int .i64 0) (.slice (some ⟨g,0,none⟩) k ycap) (.slice none 0 0) (.slice none 0 0) [] (zaH mo []) from
    ⟨World.ownsRow_nil _ _ _ _,(by rw[show zaH mo ([]:List Int)=[] by simp[zaH]];exact OwnO.nil _ _ _),(λg hg=>by cases hg),hbx,HX.out,zf hbx,(λa ha=>by cases ha)⟩)
   rw[HFULL.out];clear hbx hlt;go_wp2
   go_loopg [10,11,33] h (λr vo vh vk wr=>∃ (j:Nat) (P:List Mv) (G:List Int),j+r=h/\vk=.int .i64 (j:Int)/\StepS w wr none (.int .i64 0) (.int .i64 0) (.slice (some ⟨g,0,none⟩) k ycap) vo vh P (zaH mo G)/\Hid (zk0 mo T P G (ls.drop j) ((y:Int)+(j:Int))))
   case atStart=>exact⟨0,[],[],by omega,rfl,RS.out,ST⟩
   case round =>
    obtain⟨j,P,G0,hj,rfl,hs,HO⟩:=hrel;have HS:=za hs;have HJ:=za hj;have hbox:=hs.box;clear hs hj RS ST;obtain⟨G,hG⟩:∃ G,G=gk:=⟨_,rfl⟩;subst hG;obtain⟨W0,hW0⟩:∃ W0,W0=wr:=⟨_,rfl⟩;subst hW0
    by_cases hlt:j<h
    ·obtain⟨q,hq⟩:∃ q:Nat,y+j=q:=⟨_,rfl⟩;have e1:(y:Int)+(j:Int)=(q:Int):=by omega
     have hqm:q<k:=by omega
     have DJ:=DL.out j hlt;rw[hq]at DJ;rw[DJ,e1]at HO;obtain⟨c0,u,c1,hu⟩:=(HR.out.below HS.out.bel) q (by rw[HM.out];exact hqm);obtain⟨ad2,cap2,rfl,_⟩:=hu;obtain⟨b1,b2,b3⟩:=HB.out q hqm;clear DJ hq;generalize (ze L q).2.length=ln at *;generalize (ze L q).1=z at *;have LS:=za (HS.out.line (x:=.int .i64 z) (y:=.slice ad2 ln cap2) (T:=111));have II:=za (zxS HO.out);go_wp2
     go_loopg [10,11,46] ln (λr vo vh vt wr=>∃ (t:Nat) (P:List Mv) (G:List Int),t+r=ln/\vt=.int .i64 (t:Int)/\StepS w wr (some W0.heap.size) (.int .i64 z) (.slice ad2 ln cap2) (.slice (some ⟨g,0,none⟩) k ycap) vo vh P (zaH mo G)/\Hid (zhg mo T P G (z,ln) (ls.drop (j+1)) (q:Int) t))
     case atStart=>exact⟨0,P,G0,by omega,rfl,LS.out,II⟩
     case round =>
      obtain⟨t,P1,G1,ht,rfl,hs,HI⟩:=hrel;obtain⟨p0,p1,_,_⟩:=hs.pro _ rfl;have HS1:=za hs;have HT1:=za ht;clear hs ht LS II HO;obtain⟨G2,hG2⟩:∃ G2,G2=gk:=⟨_,rfl⟩;subst hG2
      by_cases hlt2:t<ln
      ·obtain⟨nl,hnl⟩:∃ nl,(zaH mo G1).length=nl:=⟨_,rfl⟩;have hf:=HS1.out.held.form;rw[hnl]at hf;obtain⟨ad,cap,rfl,hrow,_⟩:=hf;have hle:nl<=mo:=by rw[←hnl,zf5];omega
       have C:=zr2 (zaH mo G1) nl cap ad (z+(t:Int)) hnl (by omega) wr hrow;have hmo1:ln<=mo:=zyd HI.out;have HNL:=za hnl;have HPL:=za (Nat.le_trans (zpw HI.out) HTL.out);clear hrow hnl
       by_cases hin:z+(t:Int) ∈ zaH mo G1
       ·rw[decide_eq_true hin]at C;have II2:=za (zxz HI.out hlt2 hin);clear hin
        go_wp2_with (go_at_call 49;(with_reducible refine C.mono ?_);rintro e w9 ⟨rfl,rfl⟩)
        go_roundg (G2-1)
        case measure=>have:=HT1.out;omega
        case rel=>exact⟨t+1,P1,G1,by have:=HT1.out;omega,by go_num,HS1.out,II2⟩
       ·rw[decide_eq_false hin]at C;have II2:=za (zwO HI.out hlt2 hin);have CUT:=zsK (n:=mo) (G:=G1) (z+(t:Int)) (by omega);rw[HNL.out]at CUT;clear hin
        by_cases hfull:nl<mo
        ·rw[if_neg (by omega)]at CUT;have HCUT:=za CUT;clear CUT
         go_wp2_with (first
          |(go_at_call 49;(with_reducible refine C.mono ?_);rintro e w9 ⟨rfl,rfl⟩)
          |(at_builtin;(refine zhI (s:=.tmp 56) (e:=.tmp 59) (x:=1) (y:=z+(t:Int)) HS1.out rfl rfl rfl rfl rfl HPL.out ?_);intro v' w1 hs1;have HS2:=za hs1;clear hs1)
          |(at_builtin;(refine zke (s:=.tmp 61) (e:=.tmp 63) (x:=z+(t:Int)) HS2.out rfl rfl rfl rfl rfl HNL.out (by omega) ?_);(intro g1 off1 cap1 w2 hs2 hc2);have HS3:=za hs2;clear hs2))
         go_roundg (G2-1)
         case measure=>have:=HT1.out;omega
         case rel=>exact⟨t+1,_,_,by have:=HT1.out;omega,by go_num,by rw[HCUT.out];exact HS3.out,II2⟩
        ·rw[if_pos (by omega)]at CUT;have HCUT:=za CUT;clear CUT
         go_wp2_with (first
          |(go_at_call 49;(with_reducible refine C.mono ?_);rintro e w9 ⟨rfl,rfl⟩)
          |(at_builtin;(refine zhI (s:=.tmp 56) (e:=.tmp 59) (x:=1) (y:=z+(t:Int)) HS1.out rfl rfl rfl rfl rfl HPL.out ?_);intro v' w1 hs1;have HS2:=za hs1;clear hs1)
          |(at_builtin;(refine zke (s:=.tmp 61) (e:=.tmp 63) (x:=z+(t:Int)) HS2.out rfl rfl rfl rfl rfl HNL.out (by omega) ?_);(intro g1 off1 cap1 w2 hs2 hc2);have HS3:=za hs2;clear hs2;(have RT:=λw=>zur Tryz.underlying28 hii hiz g1 off1 (nl+1) cap1 (by omega) hc2 w)))
         go_roundg (G2-1)
         case measure=>have:=HT1.out;omega
         case rel=>exact⟨t+1,_,_,by have:=HT1.out;omega,by go_num,by
          have X:=HS3.out.cut (by rw[List.length_append,HNL.out];rfl) (by omega);rw[if_neg (by omega),Nat.add_sub_cancel]at X;rw[HCUT.out];exact X,II2⟩
      ·obtain rfl:t=ln:=by have:=HT1.out;omega
       have OO:=za (zwV HI.out);have HPL:=za (Nat.le_trans (zpw HI.out) HTL.out);have HS2:=za (HS1.out.drop (q0:=.int .i64 0) (q1:=.int .i64 0));clear HS1
       go_wp2_with (at_builtin;(refine zhI (s:=.tmp 72) (e:=.tmp 77) (x:=2) (y:=(q:Int)) HS2.out rfl rfl rfl rfl rfl HPL.out ?_);intro v' w1 hs1;have HS3:=za hs1;clear hs1)
       go_roundg (G-1)
       case measure=>have:=HJ.out;omega
       case rel=>exact⟨j+1,_,G1,by have:=HJ.out;omega,by go_num,HS3.out,by
        rw[Int.natCast_add,Int.natCast_one,←Int.add_assoc,e1];exact OO⟩
    ·obtain rfl:j=h:=by have:=HJ.out;omega
     have PT:P=T:=by
      have:=HO.out;rw[DE.out]at this;exact zxn this
     subst PT;go_wp2;go_ret;exact⟨_,rfl,HS.out.out,HS.out.bel⟩
theorem zjy {L:List (Int×List Int)} (hM:∀ j,j+1<L.length->(ze L j).1<=(ze L (j+1)).1/\(ze L j).1+((ze L j).2.length:Int)<=(ze L (j+1)).1+((ze L (j+1)).2.length:Int)) {i:Nat}:∀ k,i<=k->k<L.length->(ze L i).1<=(ze L k).1/\(ze L i).1+((ze L i).2.length:Int)<=(ze L k).1+((ze L k).2.length:Int)
 |0,h,_=>by
  obtain rfl:i=0:=by omega
  exact⟨Int.le_refl _,Int.le_refl _⟩
 |k+1,h,hk=>by
  by_cases e:i=k+1
  ·subst e;exact⟨Int.le_refl _,Int.le_refl _⟩
  ·have a:=zjy hM (i:=i) k (by omega) (by omega);have b:=hM k hk;omega
theorem zb5 {L:List (Int×List Int)} {y h:Nat} (hy:y<L.length):((zaM L).drop y).take (h+1)=((ze L y).1,(ze L y).2.length) :: ((zaM L).drop (y+1)).take h:=by
 rw[List.drop_eq_getElem_cons (by rw[zbZ];exact hy),List.take_succ_cons,zgG hy]
theorem zgh {L:List (Int×List Int)} {y h:Nat} {m:Wnd} (hm:m ∈ ((zaM L).drop y).take h):∃ k,y<=k/\k<L.length/\m=((ze L k).1,(ze L k).2.length):=by
 obtain⟨i,hi,rfl⟩:=List.mem_iff_getElem.1 (List.mem_of_mem_take hm);rw[List.length_drop,zbZ]at hi;refine⟨y+i,by omega,by omega,?_⟩;rw[List.getElem_drop,zgG (by omega)]
theorem znO {L:List (Int×List Int)} (hM:∀ j,j+1<L.length->(ze L j).1<=(ze L (j+1)).1/\(ze L j).1+((ze L j).2.length:Int)<=(ze L (j+1)).1+((ze L (j+1)).2.length:Int)) (h1:∀ j,j<L.length->1<=(ze L j).2.length):∀ h y,y+h<=L.length->zc7 (zbK (zaM L)) (((zaM L).drop y).take h)
 |0,y,_=>by rw[List.take_zero];trivial
 |h+1,y,hy=>by
  rw[zb5 (by omega)];refine⟨h1 y (by omega),?_,λm hm=>?_,znO hM h1 h (y+1) (by omega)⟩
  ·refine zvJ (l:=((ze L y).1,(ze L y).2.length)) ?_;rw[←zgG (show y<L.length by omega)];exact List.getElem_mem _
  ·obtain⟨k,k0,k1,rfl⟩:=zgh hm;exact zjy hM k (by omega) k1
theorem zm5 {L:List (Int×List Int)}:∀ k,k<=L.length->(zbK ((zaM L).take k):Int)=za7 L k
 |0,_=>rfl
 |k+1,hk=>by
  have a:=zm5 (L:=L) k (by omega);rw[zhR (by omega)];unfold za7;rw[←a];omega
theorem zwE (L:List (Int×List Int)):(zbK (zaM L):Int)=zaB L:=by
 have a:=zm5 (L:=L) L.length (Nat.le_refl _);rw[List.take_of_length_le (by rw[zbZ];exact Nat.le_refl _)]at a;exact a
theorem zl3 {L:List (Int×List Int)} {y h:Nat} {z i:Int} (hyh:y+h<=L.length) (hL:L.length<=65536) (hb:∀ k,k<L.length->(ze L k).2.length<=1048576):(zO z i (((zaM L).drop y).take h)).length<=1099511627776:=by
 rw[zep];have a:=zkj (n:=1048576) z (((zaM L).drop y).take h) (λl hl=>by
  obtain⟨k,_,k1,rfl⟩:=zgh hl;exact hb k k1)
 have b:(((zaM L).drop y).take h).length<=65536:=by rw[List.length_take];omega
 have c:1048576*(((zaM L).drop y).take h).length<=1048576*65536:=Nat.mul_le_mul_left _ b;omega
theorem zhU (E y:Int) (ls:List Wnd):((zO E y ls).filter (λm=>decide (m.1=2))).map (·.2)=(List.range ls.length).map (λi:Nat=>y+(i:Int)):=by
 induction ls generalizing E y with
 |nil=>rfl
 |cons l r ih =>
  unfold zO;rw[List.filter_append,List.map_append,List.filter_eq_nil_iff.2 (by intro a ha;obtain⟨x,_,rfl⟩:=List.mem_map.1 ha;simp),List.map_nil,List.nil_append,List.filter_cons_of_pos (by simp),List.map_cons,ih,List.length_cons,List.range_succ_eq_map,List.map_cons,List.map_map]
  congr 1
  ·show y=y+((0:Nat):Int)
   omega
  ·refine List.map_congr_left (λi _=>?_)
   show y+1+(i:Int)=y+((i+1:Nat):Int)
   omega
structure Im where
 iw:Int
 ih:Int
 ic:Int
 it:Int
 il:List Int
def zba (I:Im):Prop :=
 1<=I.iw/\I.iw<=65536/\1<=I.ih/\I.ih<=65536/\(I.ic=1\/I.ic=3)/\1<=I.it/\I.it<=65535/\I.iw*I.ih*I.ic<=268435456/\(I.il.length:Int)=I.iw*I.ih*I.ic/\∀ x ∈ I.il,0<=x/\x<=I.it
def zaJ (a b c:Int):Bool:=decide (1<=a/\a<=65536/\1<=b/\b<=65536/\(c=1\/c=3)/\a*b*c<=268435456)
def zaX (a b c t:Int):Int:=if t<1\/65535<t\/¬(c=1\/c=3) then 2 else if zaJ a b c=true then 0 else 5
theorem zee {a b c:Int}:zaJ a b c=true↔(1<=a/\a<=65536/\1<=b/\b<=65536/\(c=1\/c=3)/\a*b*c<=268435456):=by unfold zaJ;exact decide_eq_true_iff
theorem zfA {a b c t:Int} (h:zaX a b c t=0):1<=t/\t<=65535/\1<=a/\a<=65536/\1<=b/\b<=65536/\(c=1\/c=3)/\a*b*c<=268435456:=by
 unfold zaX at h
 split at h
 ·omega
 ·split at h
  ·have:=zee.1 (by assumption);omega
  ·omega
theorem zjq {a b c t:Int} (t0:1<=t) (t1:t<=65535) (a0:1<=a) (a1:a<=65536) (b0:1<=b) (b1:b<=65536) (hc:c=1\/c=3) (h:a*b*c<=268435456):zaX a b c t=0:=by
 unfold zaX;rw[if_neg (by omega),if_pos (zee.2 ⟨a0,a1,b0,b1,hc,h⟩)]
theorem zcP {a b:Int} (a0:1<=a) (a1:a<=65536) (b0:1<=b) (b1:b<=65536):1<=a*b/\a*b<=4294967296:=by
 have h1:=Int.mul_le_mul a1 b1 (by omega) (by omega);have h2:=Int.mul_le_mul a0 b0 (by omega) (by omega);omega
theorem zem {a b c:Int} (a0:1<=a) (a1:a<=65536) (b0:1<=b) (b1:b<=65536) (hc:c=1\/c=3):1<=a*b*c/\a*b*c<=12884901888:=by
 have:=zcP a0 a1 b0 b1;rcases hc with rfl|rfl<;>omega
def zdQ (a c x y z:Int):Int:=(y*a+x)*c+z
theorem zjc {a b c x y z:Int} (x0:0<=x) (x1:x<a) (y0:0<=y) (y1:y<b) (z0:0<=z) (z1:z<c):0<=y*a/\0<=y*a+x/\y*a+x<a*b/\0<=(y*a+x)*c/\0<=zdQ a c x y z/\zdQ a c x y z<a*b*c:=by
 have h1:0<=y*a:=Int.mul_nonneg y0 (by omega);have h2:y*a+a<=a*b:=by
  have:=Int.mul_le_mul_of_nonneg_right (show y+1<=b by omega) (show(0:Int)<=a by omega);rw[Int.add_mul,Int.one_mul,Int.mul_comm b a]at this;exact this
 have h3:0<=(y*a+x)*c:=Int.mul_nonneg (by omega) (by omega);have h4:(y*a+x)*c+c<=a*b*c:=by
  have:=Int.mul_le_mul_of_nonneg_right (show y*a+x+1<=a*b by omega) (show(0:Int)<=c by omega);rw[Int.add_mul,Int.one_mul]at this;exact this
 unfold zdQ;omega
def zdN (I:Im) (x y z:Int):Bool:=decide (0<=x/\x<I.iw/\0<=y/\y<I.ih/\0<=z/\z<I.ic)
theorem zdj {I:Im} {x y z:Int}:zdN I x y z=true↔(0<=x/\x<I.iw/\0<=y/\y<I.ih/\0<=z/\z<I.ic):=by unfold zdN;exact decide_eq_true_iff
def zao (I:Im) (x y z:Int):Int:=zdQ I.iw I.ic x y z
def zdi (I:Im) (x y z:Int):Int:=if zdN I x y z=true then I.il.getD (zao I x y z).toNat 0 else 0
def zbX (I:Im) (x y z v:Int):Bool:=zdN I x y z && decide (v<=I.it)
def zdH (I:Im) (x y z v:Int):Im:=if zbX I x y z v=true then { I with il:=I.il.set (zao I x y z).toNat v } else I
theorem zgY {I:Im} (hI:zba I) {x y z:Int} (h:zdN I x y z=true):0<=zao I x y z/\(zao I x y z).toNat<I.il.length/\((zao I x y z).toNat:Int)=zao I x y z/\zao I x y z<268435456:=by
 obtain⟨_,_,_,_,_,_,_,hm,hl,_⟩:=hI;obtain⟨x0,x1,y0,y1,z0,z1⟩:=zdj.1 h;have:=zjc x0 x1 y0 y1 z0 z1;unfold zao;omega
theorem zu5 {I:Im} (hI:zba I) {x y z v:Int} (v0:0<=v):zba (zdH I x y z v):=by
 unfold zdH
 split
 ·rename_i h
  obtain⟨a,b,c,d,e,f,g,hm,hl,hx⟩:=hI;refine⟨a,b,c,d,e,f,g,hm,by simpa using hl,λq hq=>?_⟩;unfold zbX at h;rw[Bool.and_eq_true,decide_eq_true_iff]at h;rcases List.mem_or_eq_of_mem_set hq with hq|rfl
  ·exact hx q hq
  ·exact⟨v0,h.2⟩
 ·exact hI
theorem zdg {I:Im} (h:zba I):1<=I.il.length/\I.il.length<=268435456:=by
 obtain⟨a,b,c,d,e,_,_,hm,hl,_⟩:=h;have:=zem a b c d e;omega
def zcB (I:Im) (y:Int):List Int:=(I.il.drop (y*I.iw*I.ic).toNat).take (I.iw*I.ic).toNat
theorem zgJ {I:Im} (hI:zba I) {y:Int} (y0:0<=y) (y1:y<I.ih):1<=I.iw*I.ic/\I.iw*I.ic<=196608/\0<=y*I.iw*I.ic/\y*I.iw*I.ic+I.iw*I.ic<=(I.il.length:Int)/\0<=y*I.iw/\y*I.iw<=4294967296:=by
 obtain⟨a,b,c,d,e,_,_,hm,hl,_⟩:=hI;have h1:0<=y*I.iw:=Int.mul_nonneg y0 (by omega);have h2:y*I.iw+I.iw<=I.iw*I.ih:=by
  have:=Int.mul_le_mul_of_nonneg_right (show y+1<=I.ih by omega) (show(0:Int)<=I.iw by omega);rw[Int.add_mul,Int.one_mul,Int.mul_comm I.ih I.iw]at this;exact this
 have h3:(y*I.iw+I.iw)*I.ic<=I.iw*I.ih*I.ic:=Int.mul_le_mul_of_nonneg_right h2 (by omega);rw[Int.add_mul]at h3;have h4:=zcP a b c d;have h5:0<=y*I.iw*I.ic:=Int.mul_nonneg h1 (by omega);have h6:1<=I.iw*I.ic/\I.iw*I.ic<=196608:=by rcases e with e|e<;>rw[e]<;>omega
 exact⟨h6.1,h6.2,h5,by omega,h1,by omega⟩
theorem zlw {I:Im} (hI:zba I) {y:Int} (y0:0<=y) (y1:y<I.ih):(zcB I y).length=(I.iw*I.ic).toNat:=by
 obtain⟨h1,h2,h3,h4,_⟩:=zgJ hI y0 y1;unfold zcB;rw[List.length_take,List.length_drop];omega
theorem zhn {xs:List Int} (h:∀ x ∈ xs,0<=x/\x<=65535) {j:Nat} (hj:j<xs.length):0<=xs.getD j 0/\xs.getD j 0<=65535:=by
 rw[List.getD_eq_getElem?_getD,List.getElem?_eq_getElem hj];exact h _ (List.getElem_mem hj)
def zcA (O:Im) (F:Nat->Int) (D:Nat->Bool):Im:={ O with il:=(List.range O.il.length).map λp=>if D p=true then F p else O.il.getD p 0 }
theorem za4 (O:Im) (F:Nat->Int) (D:Nat->Bool):(zcA O F D).il.length=O.il.length:=by
 show((List.range O.il.length).map _).length=_
 rw[List.length_map,List.length_range]
theorem zdr {O:Im} {F:Nat->Int} {D:Nat->Bool} {p:Nat} (h:p<O.il.length):(zcA O F D).il.getD p 0=if D p=true then F p else O.il.getD p 0:=by
 show((List.range O.il.length).map _).getD p 0=_
 rw[List.getD_eq_getElem?_getD,List.getElem?_map,List.getElem?_range h];rfl
theorem zjQ {O Q:Im} (h1:O.iw=Q.iw) (h2:O.ih=Q.ih) (h3:O.ic=Q.ic) (h4:O.it=Q.it) (h5:O.il.length=Q.il.length) (h:∀ p,p<O.il.length->O.il.getD p 0=Q.il.getD p 0):O=Q:=by
 obtain⟨a,b,c,d,l⟩:=O;obtain⟨a',b',c',d',l'⟩:=Q;simp only at h1 h2 h3 h4 h5 h;subst h1 h2 h3 h4
 congr 1
 refine List.ext_getElem h5 (λp q1 q2=>?_);have:=h p q1;rw[List.getD_eq_getElem?_getD,List.getD_eq_getElem?_getD,List.getElem?_eq_getElem q1,List.getElem?_eq_getElem q2]at this;exact this
theorem zqX {O:Im} {F:Nat->Int} {D:Nat->Bool} (h:∀ p,p<O.il.length->D p=false):zcA O F D=O :=
 zjQ rfl rfl rfl rfl (za4 O F D) (λp hp=>by
  rw[za4]at hp;rw[zdr hp,h p hp];rfl)
theorem zgA {O:Im} {F G:Nat->Int} {D E:Nat->Bool} (h:∀ p,p<O.il.length->D p=E p) (hF:∀ p,p<O.il.length->D p=true->F p=G p):zcA O F D=zcA O G E :=
 zjQ rfl rfl rfl rfl (by rw[za4,za4]) (λp hp=>by
  rw[za4]at hp;rw[zdr hp,zdr hp,←h p hp]
  split
  ·exact hF p hp (by assumption)
  ·rfl)
theorem zpW {O:Im} {F:Nat->Int} {D E:Nat->Bool}:zcA (zcA O F D) F E=zcA O F (λp=>D p || E p) :=
 zjQ rfl rfl rfl rfl (by rw[za4,za4,za4]) (λp hp=>by
  rw[za4,za4]at hp;rw[zdr (by rw[za4];exact hp),zdr hp,zdr hp]
  cases hE:E p<;>cases hD:D p<;>rfl)
theorem zsW {O:Im} {F:Nat->Int} {D:Nat->Bool} {x y z v:Int} {q:Nat} (hs:zbX O x y z v=true) (hq:(zao O x y z).toNat=q) (hv:v=F q):zdH (zcA O F D) x y z v=zcA O F (λp=>D p || p == q):=by
 have e:zdH (zcA O F D) x y z v={ (zcA O F D)with il:=(zcA O F D).il.set q v }:=by
  unfold zdH;rw[if_pos (show zbX (zcA O F D) x y z v=true from hs),show(zao (zcA O F D) x y z).toNat=q from hq]
 rw[e];refine zjQ rfl rfl rfl rfl (by rw[List.length_set,za4,za4]) (λp hp=>?_);have hp':p<O.il.length:=by
  rw[List.length_set,za4]at hp;exact hp
 rw[zdr hp',List.getD_eq_getElem?_getD,List.getElem?_set]
 by_cases g:q=p
 ·subst g;rw[if_pos rfl,if_pos (by rw[za4];exact hp'),if_pos (by simp)];exact hv
 ·rw[if_neg g,←List.getD_eq_getElem?_getD,zdr hp'];have:(p == q)=false:=beq_eq_false_iff_ne.2 (λe=>g e.symm);rw[this,Bool.or_false]
def zdP (A C x0 W y0 h:Nat) (p:Nat):Bool:=decide (x0<=p / C % A/\p / C % A<x0+W/\y0<=p / C / A/\p / C / A<y0+h)
theorem zeF {A C x0 W y0 h p:Nat}:zdP A C x0 W y0 h p=true↔(x0<=p / C % A/\p / C % A<x0+W/\y0<=p / C / A/\p / C / A<y0+h):=by unfold zdP;exact decide_eq_true_iff
theorem zoX {A C x0 W y0 p:Nat}:zdP A C x0 W y0 0 p=false:=by
 unfold zdP;exact decide_eq_false (by omega)
theorem znh {A C x0 W y0 h k p:Nat} (hk:k<=h):(zdP A C x0 W y0 k p || zdP A C x0 W (y0+k) (h-k) p)=zdP A C x0 W y0 h p:=by
 rw[Bool.eq_iff_iff,Bool.or_eq_true,zeF,zeF,zeF];omega
theorem zxM (w:World) (a b c:Int) (t:TypeId):RowAt .i64 (w.alloc (.cells #[.int .i64 a,.int .i64 b,.int .i64 c] t)) (some ⟨w.heap.size,0,none⟩) [a,b,c]:=by
 refine Or.inr ⟨w.heap.size,0,rfl,λj hj=>?_⟩
 match j,hj with
 |0,_=>simp
 |1,_=>simp
 |2,_=>simp
theorem zuY:zad [536870912,536870912,536870912]:=by
 intro j hj
 match j,hj with
 |0,_=>decide
 |1,_=>decide
 |2,_=>decide
theorem zyl:zV [536870912,536870912,536870912]=0/\zc3 [536870912,536870912,536870912]=[5462,5461,5461]:=by decide +kernel
theorem zye:zbh 65536=0/\(zS 65536).length=7:=by
 refine⟨by decide,?_⟩;unfold zS;rw[if_pos (by omega)];unfold zc0;rw[zcx]
 decide
theorem zyh {K:World->Prop} (hKB:∀ w w',K w->Below w.heap.size w w'->K w') (CA:zyI K) (CG:zyS K) (w:World) (hk:K w) :
  Calls Tryz.prog 149 #[] w λe w'=>e=.returned (.bool true)/\Below w.heap.size w w':=by
 have C1:=fun(w:World) hk hr=>CA [536870912,536870912,536870912] (some ⟨w.heap.size,0,none⟩) 3 (w.alloc (.cells #[.int .i64 536870912,.int .i64 536870912,.int .i64 536870912] 2)) hk hr zuY (by decide)
 rw[show[(536870912:Int),536870912,536870912].length=3 from rfl]at C1;have C2:=λw hk=>CG 65536 w hk (by omega) (by omega)
 obtain⟨e1,e2⟩:=zyl;obtain⟨e3,e4⟩:=zye;rw[e1,e2]at C1;rw[e3]at C2;obtain⟨gs,hgs⟩:∃ gs,zS 65536=gs:=⟨_,rfl⟩;rw[hgs]at C2 e4;have HE4:=za e4;clear e1 e2 e3 hgs CA CG
 go_enter Tryz.func149,Tryz.ntmps149
 go_wp2_with (first
  |(go_at_call 142;(with_reducible refine(C1 _ (hKB _ _ hk (zg _ _)) (zxM _ _ _ _ _)).mono ?_);rintro e w1 ⟨v,rfl,⟨ad,cap,rfl,hr⟩,b1⟩)
  |(go_at_call 144;(with_reducible refine(C2 _ (hKB _ _ hk (bt (zg _ _) b1))).mono ?_);rintro e w2 ⟨v,rfl,⟨ad2,cap2,rfl,hr2⟩,b2⟩)
  |(go_at_call 150;(with_reducible refine(zs5 3 [5462,5461,5461] rfl _ _ _ _ _ ((hr.below b2).below (zg _ _)) (zxM _ _ _ _ _) (by omega)).mono ?_);rintro e w3 ⟨rfl,b3⟩))
 go_ret;exact⟨rfl,bt (ba (bt (bt (zg _ _) b1) b2) _) b3⟩
def zcQ (n:Int):Bool:=decide (1<=n) && decide (n<=65536)
theorem zcu (n:Int):zcQ n=true↔1<=n/\n<=65536:=by unfold zcQ;simp
theorem zc5 (n:Int) (h0:1<=n) (h1:n<=65536) (w:World) :
  Calls Tryz.prog 175 #[.int .i64 n] w λe w'=>e=.returned (.bool true)/\w=w':=by
 go_enter Tryz.func175,Tryz.ntmps175
 go_wp2;go_ret
 first|exact⟨rfl,rfl⟩|exact⟨zag (decide_eq_true (by omega)),rfl⟩
theorem zhd (n:Int) (h:n<1\/65536<n) (w:World) :
  Calls Tryz.prog 175 #[.int .i64 n] w λe w'=>e=.returned (.bool false)/\w=w':=by
 rcases h with h|h
 all_goals
  go_enter Tryz.func175,Tryz.ntmps175
  go_wp2;go_ret
  first|exact⟨rfl,rfl⟩|exact⟨zag (decide_eq_false (by omega)),rfl⟩
theorem zpN:(Tryz.prog.info? 111).map (λi=>(i.zero,i.size,i.bytes))=some (some (.agg #[.int .i64 0,.slice none 0 0]),2,32):=by kernel_rfl
theorem zw4 (xs:List Int) (ad:Option Addr) (cap:Nat) (w:World) (hr:RowAt .i64 w ad xs) (hx:zad xs) (hl:xs.length<=9223372036854775807) :
  Calls Tryz.prog 177 #[.slice ad xs.length cap] w λe w'=>∃ v,e=.returned (.tuple #[v,.int .i64 (zV xs)])/\(zV xs=0->OwnI .i64 2 w' w.heap.size v (zG xs))/\Below w.heap.size w w':=by
 by_cases hf:Fits xs
 ·rw[zas.2 hf];refine(zi5 xs ad cap w hr hx hf).mono ?_;rintro e w1 ⟨v,rfl,o,b⟩;exact⟨v,rfl,λ_=>o,b⟩
 ·refine(zp8 xs ad cap w hr hx hl).mono ?_;rintro e w1 ⟨v,rfl,_,b⟩;exact⟨v,rfl,(λg=>absurd (zas.1 g) hf),b⟩
def zhD (k:Nat):Int:=2*((k:Int)+1)*(2*((k:Int)+1)+1)*1099511627776
def zbu (u:Int):Nat->Int
 |0=>1099511627776
 |n+1=>zM (zbu u n*u) (zhD n)
def zdC (u:Int):Nat->Int
 |0=>1099511627776
 |n+1=>if n % 2=0 then zdC u n-zbu u (n+1) else zdC u n+zbu u (n+1)
def zgu:Nat->Int
 |0=>1099511627776
 |n+1=>zgu n*173627916808752 / zhD n+1
def uF (p q:Int):Int:=zM (zM (10851744800547*p) q*p) q
def zgz (p q:Int):Bool:=decide (1<=q) && decide (q<=1048576) && decide (-4*q<=p) && decide (p<=4*q)
def zT (p q:Int):Int:=zdC (uF (zi p) q) 30
def zah (p q:Int):Int:=if zgz p q=true/\-3*q<p/\p<3*q then zW (zal (zT p q) (zT p (3*q)) 40) 10 else 0
theorem zxF:∀ k<30,6*1099511627776<=zhD k/\zhD k<=3660*1099511627776:=by decide
theorem zo7:∀ k:Nat,k<30->6<=2*((k:Int)+1)*(2*((k:Int)+1)+1)/\2*((k:Int)+1)*(2*((k:Int)+1)+1)<=3660:=by decide
theorem zkK:∀ k<31,1<=zgu k/\zgu k<=4503599627370496:=by decide +kernel
theorem zuZ {u:Int} (h0:0<=u) (h1:u<=173627916808752) (n:Nat) (hn:n<31):0<=zbu u n/\zbu u n<=zgu n:=by
 induction n with
 |zero=>simp[zbu,zgu]
 |succ n ih =>
  obtain⟨a0,a1⟩:=ih (by omega);obtain⟨d0,d1⟩:=zxF n (by omega);obtain⟨t0,t1⟩:=zkK n (by omega);obtain⟨_,t3⟩:=zkK (n+1) hn;have p0:0<=zbu u n*u:=Int.mul_nonneg a0 h0;have p1:zbu u n*u<=zgu n*173627916808752:=Int.mul_le_mul a1 h1 h0 (by omega);have p2:zgu n*173627916808752<(zgu n*173627916808752 / zhD n+1)*zhD n:=Int.lt_mul_of_ediv_lt (by omega) (by omega);have q:=zek (X:=zbu u n*u) (d:=zhD n) (m:=zgu (n+1)) (by omega) p0 (by
   show _<=(zgu n*173627916808752 / zhD n+1)*zhD n
   omega)
  show 0<=zM _ _/\zM _ _<=_
  rw[zcg (by omega),zH (by omega) (by omega)];exact q
theorem zfd {u:Int} (h0:0<=u) (h1:u<=173627916808752) (n:Nat) (hn:n<31):0<=zbu u n/\zbu u n<=4503599627370496:=by
 obtain⟨a,b⟩:=zuZ h0 h1 n hn;obtain⟨_,d⟩:=zkK n hn;exact⟨a,by omega⟩
theorem zpF {u:Int} (h0:0<=u) (h1:u<=173627916808752) (n:Nat) (hn:n<31) : -(((n:Int)+1)*4503599627370496)<=zdC u n/\zdC u n<=((n:Int)+1)*4503599627370496:=by
 induction n with
 |zero=>simp[zdC]
 |succ n ih =>
  have t:=zfd h0 h1 (n+1) hn;have:=ih (by omega);unfold zdC
  split<;>omega
theorem zpV {p q:Int} (hq:0<q) (h0:0<=p) (h1:p<=4*q):0<=zM (10851744800547*p) q/\zM (10851744800547*p) q<=43406979202188/\0<=uF p q/\uF p q<=173627916808752:=by
 have a:=zek (X:=10851744800547*p) (d:=q) (m:=43406979202188) hq (by omega) (by omega);have e1:zM (10851744800547*p) q=zaz (10851744800547*p) q:=by rw[zcg (by omega),zH (by omega) (by omega)]
 unfold uF;rw[e1];generalize zaz (10851744800547*p) q=v at *;obtain⟨a0,a1⟩:=a;have p0:0<=v*p:=Int.mul_nonneg a0 h0;have p1:v*p<=43406979202188*(4*q):=Int.mul_le_mul a1 h1 h0 (by omega);have b:=zek (X:=v*p) (d:=q) (m:=173627916808752) hq p0 (by omega);rw[zcg (by omega),zH (by omega) (by omega)];exact⟨a0,a1,b⟩
theorem zhS {p q:Int} (h0 : -(4*q)<=p) (h1:p<=4*q):0<=zi p/\zi p<=4*q:=by
 unfold zi;split<;>omega
theorem zfB {p q:Int} (hq:0<q) (h0 : -(4*q)<=p) (h1:p<=4*q) : -139611588448485376<=zT p q/\zT p q<=139611588448485376:=by
 obtain⟨a0,a1⟩:=zhS h0 h1;obtain⟨_,_,u0,u1⟩:=zpV hq a0 a1;have:=zpF u0 u1 30 (by omega);unfold zT;omega
theorem ziw (p q:Int):(zgz p q=true/\1<=q/\q<=1048576/\-4*q<=p/\p<=4*q)\/(zgz p q=false/\(q<1\/1048576<q\/p < -4*q\/4*q<p)):=by
 unfold zgz
 by_cases a:1<=q<;>by_cases b:q<=1048576<;>by_cases c : -4*q<=p<;>by_cases d:p<=4*q<;>simp[a,b,c,d]<;>omega
theorem zlH (p:Int):zi (-p)=zi p:=by unfold zi;split<;>split<;>omega
theorem ziY (p q:Int):zT (-p) q=zT p q:=by unfold zT;rw[zlH]
theorem zub (p q:Int):zgz (-p) q=zgz p q:=by
 have a:=ziw p q;have b:=ziw (-p) q;rcases a with⟨a1,a2⟩|⟨a1,a2⟩<;>rcases b with⟨b1,b2⟩|⟨b1,b2⟩<;>first|(exfalso;omega)|rw[b1,a1]
theorem zme (p q:Int):zah (-p) q=zah p q:=by
 have e:(-3*q < -p/\-p<3*q)↔(-3*q<p/\p<3*q):=by omega
 unfold zah;rw[zub,ziY,ziY];simp only[e]
theorem zm3 {X d:Int} (hd:0<d) : -d<=2*(d*zaz X d)-2*X/\2*(d*zaz X d)-2*X<=d:=by
 unfold zaz;rw[if_neg (by omega)];have e:=Int.mul_ediv_add_emod (2*X+d) (2*d);have r0:=Int.emod_nonneg (2*X+d) (show 2*d≠0 by omega);have r1:=Int.emod_lt_of_pos (2*X+d) (show 0<2*d by omega);rw[Int.mul_assoc]at e;omega
end Go.Proofs.YtlodkoimdoeopaaGreatDoor
