/- Parts, joined. -/
import Derived.Test.YtlodkoimdoeopaaGreatDoorQ32
import Derived.Test.YtlodkoimdoeopaaGreatDoorQ26
import Derived.Test.YtlodkoimdoeopaaGreatDoorQ29
import Derived.Test.YtlodkoimdoeopaaGreatDoorQ21
import Derived.Deep.RegionHeld3
namespace Go.Proofs.YtlodkoimdoeopaaGreatDoor
open Go.RowKit
theorem zo6 {P:World->Prop} {w:World} (h:P w):∃ W,W=w/\P W:=⟨w,rfl,h⟩
def JobC.onto (c:JobC) (g:Nat):JobC:={ c with g2:=g }
theorem JobK.onto {w0:World} {c:JobC} (K:JobK w0 c) (g:Nat):JobK w0 (c.onto g) :=
 ⟨K.opk,K.tx,K.ty,K.img,K.suits,K.small,K.gap,K.most,K.mo1,K.mo2,K.ch,K.xw,K.w1,K.yh,K.h1⟩
def zbF (O I:Im) (S:Stg) (x0 W:Nat) (Y H:Nat->Nat):Nat->Im
 |0=>O
 |k+1=>zac (zbF O I S x0 W Y H k) I S x0 W (Y k) (H k) 0
theorem zfQ (O I:Im) (S:Stg) (x0 W:Nat) (Y H:Nat->Nat):∀ k,(zbF O I S x0 W Y H k).iw=O.iw/\(zbF O I S x0 W Y H k).ih=O.ih/\(zbF O I S x0 W Y H k).ic=O.ic/\(zbF O I S x0 W Y H k).it=O.it
 |0=>⟨rfl,rfl,rfl,rfl⟩
 |k+1=>zfQ O I S x0 W Y H k
theorem zhS {O I:Im} {S:Stg} {x0 W:Nat} {Y H:Nat->Nat} {k:Nat} (h:H k=0):zbF O I S x0 W Y H (k+1)=zbF O I S x0 W Y H k:=by
 show zac (zbF O I S x0 W Y H k) I S x0 W (Y k) (H k) 0=_
 rw[h,zgr]
def pY (y0 k:Nat) (tu:Bool) (i:Nat):Nat:=if(i == 0)=tu then y0+k else y0
def pH (h k:Nat) (tu:Bool) (i:Nat):Nat:=if(i == 0)=tu then h-k else k
theorem ziI {O I:Im} {S:Stg} {x0 W y0 h k:Nat} {tu:Bool} (hk:k<=h):zbF O I S x0 W (pY y0 k tu) (pH h k tu) 2=zac O I S x0 W y0 h 0:=by
 cases tu with
 |false =>
  show zac (zac O I S x0 W y0 k 0) I S x0 W (y0+k) (h-k) 0=_
  exact zix hk
 |true =>
  show zac (zac O I S x0 W (y0+k) (h-k) 0) I S x0 W y0 k 0=_
  exact zmt hk
theorem zjv {y0 h k n i:Nat} {tu:Bool} (hk:k<=h) (hn:y0+h<=n):pY y0 k tu i+pH h k tu i<=n:=by
 unfold pY pH
 split<;>omega
theorem P10.far {w:World} {a b o:Nat} {t:Til} {u:Value} (h:P10 w b t) (ne:a≠b):P10 (w.setCell ⟨a,o,none⟩ u) b t:=by
 obtain⟨h0,h1,h2,h3,h4,h5,h6,h7,h8,h9⟩:=h;exact⟨(zc (.inl ne)).trans h0,(zc (.inl ne)).trans h1,(zc (.inl ne)).trans h2,(zc (.inl ne)).trans h3,(zc (.inl ne)).trans h4,(zc (.inl ne)).trans h5,(zc (.inl ne)).trans h6,(zc (.inl ne)).trans h7,(zc (.inl ne)).trans h8,(zc (.inl ne)).trans h9⟩
set_option maxHeartbeats 2000000 in
set_option maxRecDepth 100000 in
theorem zpP {w:World} {g h:Nat} {I:Im} (H:ImgAt w g h I):Calls Tryz.prog 10 #[.pointer (some ⟨g,0,none⟩)] w λe w'=>∃ g' h',e=.returned (.pointer (some ⟨g',0,none⟩))/\w.heap.size<=g'/\w.heap.size<=h'/\ImgAt w' g' h' I/\(∀ j,w'.frozen? ⟨g',j,none⟩=false)/\Below w.heap.size w w':=by
 have hk:=H.ok;obtain⟨l0,l1⟩:=zbr hk;obtain⟨cap,c0,c1,c2,c3,c4,hr,hz,hcap,-⟩:=H;obtain⟨n,hn⟩:∃ n,I.il.length=n:=⟨_,rfl⟩;have HN:=za hn;have CC:=λw hr=>ziq I.il n hn h 0 cap (by omega) w hr
 have HR:=za hr;have HOK:=za hk;rw[hn]at l0 l1 c4 hcap;obtain⟨a,b,c,t,xs⟩:=I
 replace c0:w.cell? ⟨g,0,none⟩=some (.int .i64 a):=c0
 replace c1:w.cell? ⟨g,1,none⟩=some (.int .i64 b):=c1
 replace c2:w.cell? ⟨g,2,none⟩=some (.int .i64 c):=c2
 replace c3:w.cell? ⟨g,3,none⟩=some (.int .i64 t):=c3
 replace CC:∀ w,RowAt .u16 w (some ⟨h,0,none⟩) xs->Calls Tryz.prog 39 #[.slice (some ⟨h,0,none⟩) n cap] w λe w'=>∃ v,e=.returned v/\OwnI .u16 22 w' w.heap.size v xs/\Below w.heap.size w w':=CC
 replace HR:Hid (RowAt .u16 w (some ⟨h,0,none⟩) xs):=HR
 replace HN:Hid (xs.length=n):=HN
 have gl:=ze c0;clear hr hz hk hn hcap
 go_enter Tryz.func10,Tryz.ntmps10
 go_upto_region 1 with fail
 go_region_held3 (λw'=>w'.cell? ⟨g,0,none⟩=some (.int .i64 a)/\w'.cell? ⟨g,1,none⟩=some (.int .i64 b)/\w'.cell? ⟨g,2,none⟩=some (.int .i64 c)/\w'.cell? ⟨g,3,none⟩=some (.int .i64 t)/\w'.cell? ⟨g,4,none⟩=some (.slice (some ⟨h,0,none⟩) n cap)) (go_keep)
  (first|(go_at_call 39;(with_reducible refine(CC _ (HR.out.below (by repeat (first|exact Below.refl _ _|(with_reducible refine bdN ?_ _)|(with_reducible refine bd ?_))))).mono ?_);rintro e w2 ⟨v,rfl,own,b2⟩;obtain⟨g2,cp,rfl,hg,hlt,hr,hcp,hz⟩:=zax own HN.out l0;clear own;have d0:=cb b2 gl c0;have d1:=cb b2 gl c1;have d2:=cb b2 gl c2;have d3:=cb b2 gl c3;have d4:=cb b2 gl c4))
 all_goals go_wp2
 all_goals
  have hi:=ImgAt.new (T:=89) hr hz (by rw[HN.out];exact hcp) HOK.out;have s2:=b2.size
  replace hi:ImgAt (w2.alloc (.cells #[.int .i64 a,.int .i64 b,.int .i64 c,.int .i64 t,.slice (some ⟨g2,0,none⟩) xs.length cp] 89)) w2.heap.size g2 ⟨a,b,c,t,xs⟩:=hi
  rw[HN.out]at hi;exact bodyPost_ret (v:=.pointer (some ⟨w2.heap.size,0,none⟩)) (by simp[results,Tryz.results10,go_sem]) rfl ⟨_,_,rfl,s2,hg,hi,(λj=>by simp),ba (bt (bd (Below.refl _ _)) b2) _⟩
end Go.Proofs.YtlodkoimdoeopaaGreatDoor
