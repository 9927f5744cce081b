/- Parts, joined. -/
import Derived.Test.YtlodkoimdoeopaaGreatDoorP16
import Derived.Test.YtlodkoimdoeopaaGreatDoorP19
import Derived.Test.YtlodkoimdoeopaaGreatDoorP18
namespace Go.Proofs.YtlodkoimdoeopaaGreatDoor
open Go.RowKit
def S3 (w:World) (R:Nat) (v0 v1 v2:Value):Prop :=
 (w.cell? ⟨R,0,none⟩=some v0/\w.frozen? ⟨R,0,none⟩=false)/\(w.cell? ⟨R,1,none⟩=some v1/\w.frozen? ⟨R,1,none⟩=false)/\(w.cell? ⟨R,2,none⟩=some v2/\w.frozen? ⟨R,2,none⟩=false)
theorem S3.below {w w':World} {R:Nat} {v0 v1 v2:Value} (h:S3 w R v0 v1 v2) (hb:Below w.heap.size w w'):S3 w' R v0 v1 v2:=by
 obtain⟨⟨a,a'⟩,⟨b,b'⟩,⟨c,c'⟩⟩:=h;have hl:=zf a;exact⟨⟨cb hb hl a,fb hb hl a'⟩,⟨cb hb hl b,fb hb hl b'⟩,⟨cb hb hl c,fb hb hl c'⟩⟩
theorem S3.new (w:World) (T:TypeId) (v0 v1 v2:Value):S3 (w.alloc (.cells #[v0,v1,v2] T)) w.heap.size v0 v1 v2:=by
 unfold S3
 simp
theorem S3.fill {w:World} {R:Nat} {u0 u1 u2:Value} (h:S3 w R u0 u1 u2) (v0 v1 v2:Value):S3 (((w.setCell ⟨R,0,none⟩ v0).setCell ⟨R,1,none⟩ v1).setCell ⟨R,2,none⟩ v2) R v0 v1 v2:=by
 obtain⟨⟨a,a'⟩,⟨b,b'⟩,⟨c,c'⟩⟩:=h;unfold S3;simp only[World.frozen?_setCell];have e0:((w.setCell ⟨R,0,none⟩ v0)).cell? ⟨R,0,none⟩=some v0:=World.cell?_setCell_same' _ _ _ (by rw[a];rfl);have e1:((w.setCell ⟨R,0,none⟩ v0).setCell ⟨R,1,none⟩ v1).cell? ⟨R,1,none⟩=some v1:=World.cell?_setCell_same' _ _ _ (by rw[zc (Or.inr (by decide)),b];rfl);have e2:(((w.setCell ⟨R,0,none⟩ v0).setCell ⟨R,1,none⟩ v1).setCell ⟨R,2,none⟩ v2).cell? ⟨R,2,none⟩=some v2:=World.cell?_setCell_same' _ _ _ (by rw[zc (Or.inr (by decide)),zc (Or.inr (by decide)),c];rfl);refine⟨⟨?_,a'⟩,⟨?_,b'⟩,⟨e2,c'⟩⟩
 ·rw[zc (Or.inr (by decide)),zc (Or.inr (by decide))];exact e0
 ·rw[zc (Or.inr (by decide))];exact e1
theorem zaP {a w:World} {R:Nat} (h:Below a.heap.size a w) (hR:a.heap.size<=R) (v0 v1 v2:Value):Below a.heap.size a (((w.setCell ⟨R,0,none⟩ v0).setCell ⟨R,1,none⟩ v1).setCell ⟨R,2,none⟩ v2) :=
 bs (bs (bs h hR _) hR _) hR _
theorem Tab.fill3 {w:World} {R:Nat} {u0 u1 u2:Value} {v:Value} {n:Int} {L:List (Int×List Int)} (h:Tab w v n L) (hs:S3 w R u0 u1 u2) (hp:∀ x,u0≠.int .i64 x) (v0 v1 v2:Value):Tab (((w.setCell ⟨R,0,none⟩ v0).setCell ⟨R,1,none⟩ v1).setCell ⟨R,2,none⟩ v2) v n L:=by
 refine h.kept (((zn w R 0 v0).trans (zn _ R 1 v1)).trans (zn _ R 2 v2)) (λb x e c=>?_);obtain rfl:=Option.some.inj e;rw[hs.1.1]at c;exact hp x (Option.some.inj c)
theorem zr3 (n:Nat) (xs:List Int) (hn:xs.length=n) (ad:Option Addr) (cap:Nat) (w:World) (hr:RowAt .i64 w ad xs) (hx:zad xs) (hl:n<=9223372036854775807) :
  Calls Tryz.prog 146 #[.slice ad n cap] w λe w'=>∃ v,e=.returned (.tuple #[v,.int .i64 (zX xs)])/\Ret .i64 (zJ xs) w' v/\Below w.heap.size w w':=by
 subst hn;exact zuV xs ad cap w hr hx hl
def zrC (e:Ending) (w':World) (k:Int) (xs ys:List Int):Prop :=
 ∃ a1 n1 c1 a2 n2 c2,e=.returned (.tuple #[.slice a1 n1 c1,.slice a2 n2 c2,.int .i64 k])/\(k=0->(xs.length=n1/\RowAt .i64 w' a1 xs)/\ys.length=n2/\RowAt .i64 w' a2 ys)
set_option maxHeartbeats 2000000 in
theorem zl9 (o:Opr) (ax:Option Addr) (cx:Nat) (ay:Option Addr) (cy:Nat) (w:World) (k3:o.kd=0) :
  Calls Tryz.prog 103 #[opV o ax cx ay cy] w λe w'=>zrC e w' (zbz o) (wX o) (wY o)/\Below w.heap.size w w':=by
 rw[show zbz o=zbh o.sg from if_pos k3,show wX o=zS o.sg from if_pos k3,show wY o=zS o.sg from if_pos k3];unfold opV;obtain⟨kd,bd,sg,rd,xs,ys,fl,wd,ht⟩:=o;simp only at *;subst k3;have CG:=λw=>zh0 sg w
 generalize xs.length=nx at *;generalize ys.length=ny at *;generalize zbh sg=kc at *;generalize zS sg=zs at *;obtain⟨nz,hz⟩:∃ n,zs.length=n:=⟨_,rfl⟩;have HZ:=za hz;clear hz
 go_enter Tryz.func103,Tryz.ntmps103
 go_wp2_with (go_at_call 144;(with_reducible refine(CG _).mono ?_);rintro e w1 ⟨v,rfl,hv,b1⟩;obtain⟨ad,cap,rfl,hr⟩:=hv.formn HZ.out;have HR:=za hr;clear hv hr)
 exact bodyPost_ret (v:=.tuple #[.slice ad nz cap,.slice ad nz cap,.int .i64 kc]) (by simp[results,Tryz.results103,go_sem]) rfl ⟨⟨ad,nz,cap,ad,nz,cap,rfl,λ_=>⟨⟨HZ.out,HR.out⟩,HZ.out,HR.out⟩⟩,bt (zg _ _) b1⟩
set_option maxHeartbeats 2000000 in
theorem znr (o:Opr) (ax:Option Addr) (cx:Nat) (ay:Option Addr) (cy:Nat) (w:World) (k3:o.kd=1) :
  Calls Tryz.prog 103 #[opV o ax cx ay cy] w λe w'=>zrC e w' (zbz o) (wX o) (wY o)/\Below w.heap.size w w':=by
 rw[show zbz o=za9 o.rd from(if_neg (by omega)).trans (if_pos k3),show wX o=zL o.rd from(if_neg (by omega)).trans (if_pos k3),show wY o=zL o.rd from(if_neg (by omega)).trans (if_pos k3)];unfold opV;obtain⟨kd,bd,sg,rd,xs,ys,fl,wd,ht⟩:=o;simp only at *;subst k3;have CG:=λw=>zt9 rd w
 generalize xs.length=nx at *;generalize ys.length=ny at *;generalize za9 rd=kc at *;generalize zL rd=zs at *;obtain⟨nz,hz⟩:∃ n,zs.length=n:=⟨_,rfl⟩;have HZ:=za hz;clear hz
 go_enter Tryz.func103,Tryz.ntmps103
 go_wp2_with (go_at_call 145;(with_reducible refine(CG _).mono ?_);rintro e w1 ⟨v,rfl,hv,b1⟩;obtain⟨ad,cap,rfl,hr⟩:=hv.formn HZ.out;have HR:=za hr;clear hv hr)
 exact bodyPost_ret (v:=.tuple #[.slice ad nz cap,.slice ad nz cap,.int .i64 kc]) (by simp[results,Tryz.results103,go_sem]) rfl ⟨⟨ad,nz,cap,ad,nz,cap,rfl,λ_=>⟨⟨HZ.out,HR.out⟩,HZ.out,HR.out⟩⟩,bt (zg _ _) b1⟩
set_option maxHeartbeats 2000000 in
theorem zkP (o:Opr) (ax:Option Addr) (cx:Nat) (ay:Option Addr) (cy:Nat) (w:World) (k3:o.kd=2) (hA:OpAt w o ax cx ay cy) (hF:OpFits o) :
  Calls Tryz.prog 103 #[opV o ax cx ay cy] w λe w'=>zrC e w' (zbz o) (wX o) (wY o)/\Below w.heap.size w w':=by
 have hl1:o.xs.length<=9223372036854775807:=hF.lx;have hl2:o.ys.length<=9223372036854775807:=hF.ly;have CX:=λw' (b:Below w.heap.size w w')=>zr3 o.xs.length o.xs rfl ax cx w' (hA.1.below b) hF.xs.all hl1
 have CY:=λw' (b:Below w.heap.size w w')=>zr3 o.ys.length o.ys rfl ay cy w' (hA.2.1.below b) hF.ys.all hl2
 have hw:zbz o=if zX o.xs≠0 then zX o.xs else zX o.ys:=(if_neg (by omega)).trans (if_neg (by omega));rw[hw,show wX o=zJ o.xs from(if_neg (by omega)).trans (if_neg (by omega)),show wY o=zJ o.ys from(if_neg (by omega)).trans (if_neg (by omega))];clear hw hA hF hl1 hl2;unfold opV;obtain⟨kd,bd,sg,rd,xs,ys,fl,wd,ht⟩:=o;simp only at *;subst k3;generalize zX xs=kx at *;generalize zX ys=ky at *;generalize zJ xs=us at *;generalize zJ ys=vs at *;generalize xs.length=nx at *;generalize ys.length=ny at *;obtain⟨nu,hu⟩:∃ n,us.length=n:=⟨_,rfl⟩;obtain⟨nv,hv⟩:∃ n,vs.length=n:=⟨_,rfl⟩;have HU:=za hu;have HV:=za hv;clear hu hv;have P0:=za (P9.new w 31 2 bd sg rd (.slice ax nx cx) (.slice ay ny cy) fl wd ht)
 by_cases hz:kx=0
 ·subst hz;rw[if_neg (by decide)]
  go_enter Tryz.func103,Tryz.ntmps103
  go_wp2_with (first
   |(go_at_call 146;(with_reducible refine(CX _ (zg _ _)).mono ?_);rintro e w1 ⟨v,rfl,hv,b1⟩;obtain⟨ad,cap,rfl,hr⟩:=hv.formn HU.out;have HR:=za hr;clear hv hr;have p1:=(P0.out).below b1;obtain⟨a0,a1,a2,a3,a4,a5,a6,a7,a8⟩:=p1)
   |(go_at_call 146;(with_reducible refine(CY _ (bt (zg _ _) b1)).mono ?_);rintro e w2 ⟨v2,rfl,hv2,b2⟩;obtain⟨ad2,cap2,rfl,hr2⟩:=hv2.formn HV.out;have HR2:=za hr2;clear hv2 hr2))
  exact bodyPost_ret (v:=.tuple #[.slice ad nu cap,.slice ad2 nv cap2,.int .i64 ky]) (by simp[results,Tryz.results103,go_sem]) rfl ⟨⟨ad,nu,cap,ad2,nv,cap2,rfl,λ_=>⟨⟨HU.out,HR.out.below b2⟩,HV.out,HR2.out⟩⟩,bt (bt (zg _ _) b1) b2⟩
 ·rw[if_pos hz];have qz:(kx != 0)=true:=bne_iff_ne.2 hz;have HNZ:=za hz;clear hz
  go_enter Tryz.func103,Tryz.ntmps103
  go_wp2_with (go_at_call 146;(with_reducible refine(CX _ (zg _ _)).mono ?_);rintro e w1 ⟨v,rfl,hv,b1⟩;obtain⟨ad,cap,rfl,hr⟩:=hv.formn HU.out;clear hv hr)
  exact bodyPost_ret (v:=.tuple #[.slice none 0 0,.slice none 0 0,.int .i64 kx]) (by simp[results,Tryz.results103,go_sem]) rfl ⟨⟨none,0,0,none,0,0,rfl,λg=>absurd g HNZ.out⟩,bt (zg _ _) b1⟩
theorem zo3 (o:Opr) (ax:Option Addr) (cx:Nat) (ay:Option Addr) (cy:Nat) (w:World) (k3:o.kd=0\/o.kd=1\/o.kd=2) (hA:OpAt w o ax cx ay cy) (hF:OpFits o) :
  Calls Tryz.prog 103 #[opV o ax cx ay cy] w λe w'=>zrC e w' (zbz o) (wX o) (wY o)/\Below w.heap.size w w':=by
 rcases k3 with k|k|k
 ·exact zl9 o ax cx ay cy w k
 ·exact znr o ax cx ay cy w k
 ·exact zkP o ax cx ay cy w k hA hF
set_option maxHeartbeats 4000000 in
set_option maxRecDepth 100000 in
theorem zoB (o:Opr) (ax:Option Addr) (cx:Nat) (ay:Option Addr) (cy:Nat) (a b:Int) (w:World) (hk:zaT w) (hA:OpAt w o ax cx ay cy) (hF:OpFits o) (k3:o.kd=0\/o.kd=1\/o.kd=2) (ha:zax a) (hb:zax b) :
  Calls Tryz.prog 66 #[opV o ax cx ay cy,.int .i64 a,.int .i64 b] w λe w'=>zb6 e w' (if zbz o≠0 then zbz o else if zu (wX o) a≠0 then zu (wX o) a else zu (wY o) b) (zj o a b)/\Below w.heap.size w w':=by
 have CW:=λw' (b':Below w.heap.size w w')=>zo3 o ax cx ay cy w' k3 (hA.below b') hF
 have HK:=za (fun(w':World) (b':Below w.heap.size w w')=>zbs hk b');have hlen:=λe:zbz o=0=>zx9 e
 have CX:=fun(n1:Nat) (hn:(wX o).length=n1) (hl:n1<=1048576) (ad:Option Addr) (cap:Nat) (w':World) (hk:zaT w') (hr:RowAt .i64 w' ad (wX o))=>show Calls Tryz.prog 104 #[.slice ad n1 cap,.int .i64 a] w' λe w''=>∃ v,e=.returned (.tuple #[v,.int .i64 (zu (wX o) a)])/\(zu (wX o) a=0->Tab w'' v a (zQ (wX o) a.toNat))/\(zu (wX o) a≠0->v=.pointer none)/\Below w'.heap.size w' w'' by
  subst hn;exact zmK (wX o) ad cap a w' hk hr (zwo o).1 (by omega) ha.1 ha.2
 have CY:=fun(n1:Nat) (hn:(wY o).length=n1) (hl:n1<=1048576) (ad:Option Addr) (cap:Nat) (w':World) (hk:zaT w') (hr:RowAt .i64 w' ad (wY o))=>show Calls Tryz.prog 104 #[.slice ad n1 cap,.int .i64 b] w' λe w''=>∃ v,e=.returned (.tuple #[v,.int .i64 (zu (wY o) b)])/\(zu (wY o) b=0->Tab w'' v b (zQ (wY o) b.toNat))/\(zu (wY o) b≠0->v=.pointer none)/\Below w'.heap.size w' w'' by
  subst hn;exact zmK (wY o) ad cap b w' hk hr (zwo o).2 (by omega) hb.1 hb.2
 have hX:(zj o a b).lx=zQ (wX o) a.toNat:=if_neg (by omega);have hY:(zj o a b).ly=zQ (wY o) b.toNat:=if_neg (by omega);have HS:=za (fun(e:Ending) (w':World) (x y:Value) (he:e=.returned (.tuple #[.agg #[x,y,.int .i64 o.bd],.int .i64 0])) (hx:Tab w' x a (zQ (wX o) a.toNat)) (hy:Tab w' y b (zQ (wY o) b.toNat))=>show zb6 e w' 0 (zj o a b) from .inr ⟨rfl,x,y,he,by rw[hX];exact hx,by rw[hY];exact hy⟩);have HZ:=za (fun(w':World) (k:Int) (hk:k≠0)=>show zb6 (.returned (.tuple #[.agg #[.pointer none,.pointer none,.int .i64 0],.int .i64 k])) w' k (zj o a b) from .inl ⟨hk,rfl⟩);unfold opV at CW ⊢;clear hX hY hA hF ha hb hk k3;generalize zQ (wX o) a.toNat=LX at *;generalize zQ (wY o) b.toNat=LY at *;generalize zu (wX o) a=kx at *;generalize zu (wY o) b=ky at *;generalize wX o=ux at *;generalize wY o=uy at *;generalize zbz o=kw at *;generalize zj o a b=ST at *;obtain⟨kd,bd,sg,rd,xs,ys,fl,wd,ht⟩:=o;simp only at *;generalize xs.length=nx at *;generalize ys.length=ny at *;have HP:=za (show P9 ((w.alloc (.cells #[.int .i64 kd,.int .i64 bd,.int .i64 sg,.int .i64 rd,.slice ax nx cx,.slice ay ny cy,.int .i64 fl,.int .i64 wd,.int .i64 ht] 31)).alloc (.cells #[.pointer none,.pointer none,.int .i64 0] 36)) w.heap.size kd bd sg rd (.slice ax nx cx) (.slice ay ny cy) fl wd ht from(P9.new w 31 kd bd sg rd (.slice ax nx cx) (.slice ay ny cy) fl wd ht).below (zg _ _));have HR:=za (show S3 ((w.alloc (.cells #[.int .i64 kd,.int .i64 bd,.int .i64 sg,.int .i64 rd,.slice ax nx cx,.slice ay ny cy,.int .i64 fl,.int .i64 wd,.int .i64 ht] 31)).alloc (.cells #[.pointer none,.pointer none,.int .i64 0] 36)) (w.heap.size+1) (.pointer none) (.pointer none) (.int .i64 0) from by simpa using S3.new (w.alloc (.cells #[.int .i64 kd,.int .i64 bd,.int .i64 sg,.int .i64 rd,.slice ax nx cx,.slice ay ny cy,.int .i64 fl,.int .i64 wd,.int .i64 ht] 31)) 36 (.pointer none) (.pointer none) (.int .i64 0));have HB:=za (show Below w.heap.size w ((w.alloc (.cells #[.int .i64 kd,.int .i64 bd,.int .i64 sg,.int .i64 rd,.slice ax nx cx,.slice ay ny cy,.int .i64 fl,.int .i64 wd,.int .i64 ht] 31)).alloc (.cells #[.pointer none,.pointer none,.int .i64 0] 36)) from ba (zg _ _) _)
 by_cases zw:kw=0
 case neg =>
  rw[if_pos zw];have qz:(kw != 0)=true:=bne_iff_ne.2 zw
  go_enter Tryz.func66,Tryz.ntmps66
  go_wp2_with (go_at_call 103;(with_reducible refine(CW _ HB.out).mono ?_);rintro e wv ⟨⟨a1,n1,c1,a2,n2,c2,rfl,hv⟩,bv⟩;have HV:=za hv;clear hv;have PV:=za (HP.out.below bv);have RV:=za (HR.out.below bv);have BV:=za (bt HB.out bv);have pv:=PV.out;obtain⟨a0,a1,a2,a3,a4,a5,a6,a7,a8⟩:=pv;have rv:=RV.out;obtain⟨⟨fr0,fy0⟩,⟨fr1,fy1⟩,⟨fr2,fy2⟩⟩:=rv)
  have EN:=za (And.intro (S3.fill RV.out (.pointer none) (.pointer none) (.int .i64 0)) (And.intro (zaP BV.out (Nat.le_add_right _ 1) (.pointer none) (.pointer none) (.int .i64 0)) trivial));generalize (((wv).setCell ⟨w.heap.size+1,0,none⟩ (.pointer none)).setCell ⟨w.heap.size+1,1,none⟩ (.pointer none)).setCell ⟨w.heap.size+1,2,none⟩ (.int .i64 0)=WE at EN ⊢;obtain⟨⟨er0,ey0⟩,⟨er1,ey1⟩,⟨er2,ey2⟩⟩:=EN.out.1;exact bodyPost_ret (v:=.tuple #[.agg #[.pointer none,.pointer none,.int .i64 0],.int .i64 kw]) (by simp[results,Tryz.results66,go_sem,er0,er1,er2]) rfl ⟨HZ.out _ _ zw,EN.out.2.1⟩
 subst zw;rw[if_neg (by decide)];have HLN:=za (hlen rfl);clear hlen
 by_cases zx:kx=0
 case neg =>
  rw[if_pos zx];have qz:(kx != 0)=true:=bne_iff_ne.2 zx
  go_enter Tryz.func66,Tryz.ntmps66
  go_wp2_with (first
   |(go_at_call 103;(with_reducible refine(CW _ HB.out).mono ?_);rintro e wv ⟨⟨a1,n1,c1,a2,n2,c2,rfl,hv⟩,bv⟩;have HV:=za hv;clear hv;have PV:=za (HP.out.below bv);have RV:=za (HR.out.below bv);have BV:=za (bt HB.out bv);have pv:=PV.out;obtain⟨a0,a1,a2,a3,a4,a5,a6,a7,a8⟩:=pv;have rv:=RV.out;obtain⟨⟨fr0,fy0⟩,⟨fr1,fy1⟩,⟨fr2,fy2⟩⟩:=rv)
   |(go_at_call 104;(with_reducible refine(CX n1 (HV.out (by trivial)).1.1 (by rw[←(HV.out (by trivial)).1.1];exact HLN.out.1) _ _ _ (HK.out _ BV.out) (HV.out (by trivial)).1.2).mono ?_);rintro e wx ⟨x,rfl,tx,zv,bx⟩;have PX:=za (PV.out.below bx);have RX:=za (RV.out.below bx);have BX:=za (bt BV.out bx);have px:=PX.out;obtain⟨b0,b1,b2,b3,b4,b5,b6,b7,b8⟩:=px;have rx:=RX.out;obtain⟨⟨gr0,gy0⟩,⟨gr1,gy1⟩,⟨gr2,gy2⟩⟩:=rx;obtain rfl:=zv zx))
  have EN:=za (And.intro (S3.fill RX.out (.pointer none) (.pointer none) (.int .i64 0)) (And.intro (zaP BX.out (Nat.le_add_right _ 1) (.pointer none) (.pointer none) (.int .i64 0)) trivial));generalize (((wx).setCell ⟨w.heap.size+1,0,none⟩ (.pointer none)).setCell ⟨w.heap.size+1,1,none⟩ (.pointer none)).setCell ⟨w.heap.size+1,2,none⟩ (.int .i64 0)=WE at EN ⊢;obtain⟨⟨er0,ey0⟩,⟨er1,ey1⟩,⟨er2,ey2⟩⟩:=EN.out.1;exact bodyPost_ret (v:=.tuple #[.agg #[.pointer none,.pointer none,.int .i64 0],.int .i64 kx]) (by simp[results,Tryz.results66,go_sem,er0,er1,er2]) rfl ⟨HZ.out _ _ zx,EN.out.2.1⟩
 subst zx;rw[if_neg (by decide)]
 by_cases zy:ky=0
 case neg =>
  have qz:(ky != 0)=true:=bne_iff_ne.2 zy
  go_enter Tryz.func66,Tryz.ntmps66
  go_wp2_with (first
   |(go_at_call 103;(with_reducible refine(CW _ HB.out).mono ?_);rintro e wv ⟨⟨a1,n1,c1,a2,n2,c2,rfl,hv⟩,bv⟩;have HV:=za hv;clear hv;have PV:=za (HP.out.below bv);have RV:=za (HR.out.below bv);have BV:=za (bt HB.out bv);have pv:=PV.out;obtain⟨a0,a1,a2,a3,a4,a5,a6,a7,a8⟩:=pv;have rv:=RV.out;obtain⟨⟨fr0,fy0⟩,⟨fr1,fy1⟩,⟨fr2,fy2⟩⟩:=rv)
   |(go_at_call 104;(with_reducible refine(CX n1 (HV.out (by trivial)).1.1 (by rw[←(HV.out (by trivial)).1.1];exact HLN.out.1) _ _ _ (HK.out _ BV.out) (HV.out (by trivial)).1.2).mono ?_);rintro e wx ⟨x,rfl,tx,zv,bx⟩;have PX:=za (PV.out.below bx);have RX:=za (RV.out.below bx);have BX:=za (bt BV.out bx);have px:=PX.out;obtain⟨b0,b1,b2,b3,b4,b5,b6,b7,b8⟩:=px;have rx:=RX.out;obtain⟨⟨gr0,gy0⟩,⟨gr1,gy1⟩,⟨gr2,gy2⟩⟩:=rx;have TX:=za (tx (by trivial));clear tx;obtain⟨gx,rfl⟩:=TX.out.ptr)
   |(go_at_call 104;(with_reducible refine(CY n2 (HV.out (by trivial)).2.1 (by rw[←(HV.out (by trivial)).2.1];exact HLN.out.2) _ _ _ (HK.out _ BX.out) ((HV.out (by trivial)).2.2.below bx)).mono ?_);rintro e wy ⟨y,rfl,ty,zv2,by_⟩;have PY:=za (PX.out.below by_);have RY:=za (RX.out.below by_);have BY:=za (bt BX.out by_);have py:=PY.out;obtain⟨c0,c1,c2,c3,c4,c5,c6,c7,c8⟩:=py;have ry:=RY.out;obtain⟨⟨hr0,hy0⟩,⟨hr1,hy1⟩,⟨hr2,hy2⟩⟩:=ry;obtain rfl:=zv2 zy))
  have EN:=za (And.intro (S3.fill RY.out (.pointer none) (.pointer none) (.int .i64 0)) (And.intro (zaP BY.out (Nat.le_add_right _ 1) (.pointer none) (.pointer none) (.int .i64 0)) trivial));generalize (((wy).setCell ⟨w.heap.size+1,0,none⟩ (.pointer none)).setCell ⟨w.heap.size+1,1,none⟩ (.pointer none)).setCell ⟨w.heap.size+1,2,none⟩ (.int .i64 0)=WE at EN ⊢;obtain⟨⟨er0,ey0⟩,⟨er1,ey1⟩,⟨er2,ey2⟩⟩:=EN.out.1;exact bodyPost_ret (v:=.tuple #[.agg #[.pointer none,.pointer none,.int .i64 0],.int .i64 ky]) (by simp[results,Tryz.results66,go_sem,er0,er1,er2]) rfl ⟨HZ.out _ _ zy,EN.out.2.1⟩
 subst zy
 go_enter Tryz.func66,Tryz.ntmps66
 go_wp2_with (first
  |(go_at_call 103;(with_reducible refine(CW _ HB.out).mono ?_);rintro e wv ⟨⟨a1,n1,c1,a2,n2,c2,rfl,hv⟩,bv⟩;have HV:=za hv;clear hv;have PV:=za (HP.out.below bv);have RV:=za (HR.out.below bv);have BV:=za (bt HB.out bv);have pv:=PV.out;obtain⟨a0,a1,a2,a3,a4,a5,a6,a7,a8⟩:=pv;have rv:=RV.out;obtain⟨⟨fr0,fy0⟩,⟨fr1,fy1⟩,⟨fr2,fy2⟩⟩:=rv)
  |(go_at_call 104;(with_reducible refine(CX n1 (HV.out (by trivial)).1.1 (by rw[←(HV.out (by trivial)).1.1];exact HLN.out.1) _ _ _ (HK.out _ BV.out) (HV.out (by trivial)).1.2).mono ?_);rintro e wx ⟨x,rfl,tx,zv,bx⟩;have PX:=za (PV.out.below bx);have RX:=za (RV.out.below bx);have BX:=za (bt BV.out bx);have px:=PX.out;obtain⟨b0,b1,b2,b3,b4,b5,b6,b7,b8⟩:=px;have rx:=RX.out;obtain⟨⟨gr0,gy0⟩,⟨gr1,gy1⟩,⟨gr2,gy2⟩⟩:=rx;have TX:=za (tx (by trivial));clear tx;obtain⟨gx,rfl⟩:=TX.out.ptr)
  |(go_at_call 104;(with_reducible refine(CY n2 (HV.out (by trivial)).2.1 (by rw[←(HV.out (by trivial)).2.1];exact HLN.out.2) _ _ _ (HK.out _ BX.out) ((HV.out (by trivial)).2.2.below bx)).mono ?_);rintro e wy ⟨y,rfl,ty,zv2,by_⟩;have PY:=za (PX.out.below by_);have RY:=za (RX.out.below by_);have BY:=za (bt BX.out by_);have py:=PY.out;obtain⟨c0,c1,c2,c3,c4,c5,c6,c7,c8⟩:=py;have ry:=RY.out;obtain⟨⟨hr0,hy0⟩,⟨hr1,hy1⟩,⟨hr2,hy2⟩⟩:=ry;have TY:=za (ty (by trivial));clear ty;obtain⟨gy,rfl⟩:=TY.out.ptr))
 have EN:=za (And.intro (S3.fill RY.out (.pointer (some gx)) (.pointer (some gy)) (.int .i64 bd)) (And.intro (zaP BY.out (Nat.le_add_right _ 1) (.pointer (some gx)) (.pointer (some gy)) (.int .i64 bd)) (And.intro (Tab.fill3 (TX.out.below by_) RY.out (λ_ q=>by cases q) (.pointer (some gx)) (.pointer (some gy)) (.int .i64 bd)) (Tab.fill3 TY.out RY.out (λ_ q=>by cases q) (.pointer (some gx)) (.pointer (some gy)) (.int .i64 bd)))));generalize (((wy).setCell ⟨w.heap.size+1,0,none⟩ (.pointer (some gx))).setCell ⟨w.heap.size+1,1,none⟩ (.pointer (some gy))).setCell ⟨w.heap.size+1,2,none⟩ (.int .i64 bd)=WE at EN ⊢;obtain⟨⟨er0,ey0⟩,⟨er1,ey1⟩,⟨er2,ey2⟩⟩:=EN.out.1;exact bodyPost_ret (v:=.tuple #[.agg #[.pointer (some gx),.pointer (some gy),.int .i64 bd],.int .i64 0]) (by simp[results,Tryz.results66,go_sem,er0,er1,er2]) rfl ⟨HS.out _ _ _ _ rfl EN.out.2.2.1 EN.out.2.2.2,EN.out.2.1⟩
set_option maxHeartbeats 4000000 in
set_option maxRecDepth 100000 in
theorem zoH (o:Opr) (ax:Option Addr) (cx:Nat) (ay:Option Addr) (cy:Nat) (a b:Int) (w:World) (hk:zaT w) (hF:OpFits o) (k3:o.kd=3) (ha:zax a) (hb:zax b) (w0:1<=o.wd) (w1:o.wd<=65536) (t0:1<=o.ht) (t1:o.ht<=65536) (f0:0<=o.fl) (f1:o.fl<=2) :
  Calls Tryz.prog 65 #[opV o ax cx ay cy,.int .i64 a,.int .i64 b] w λe w'=>zb6 e w' (if zN o.fl a o.wd≠0 then zN o.fl a o.wd else zN o.fl b o.ht) (zj o a b)/\Below w.heap.size w w':=by
 have HK:=za (fun(w':World) (b':Below w.heap.size w w')=>zbs hk b');have S1:=zcN o.wd w0 w1;have S2:=zcN o.ht t0 t1;have CN:=fun(w':World) (hk:zaT w')=>zha o.fl hF.fl w' hk
 obtain⟨s,hs,s0⟩:=zgc o.fl f0 f1;rw[hs]at CN;have CX:=fun(w':World) (hk:zaT w')=>zjx o.fl a o.wd hF.fl.1 hF.fl.2 ha.1 ha.2 hF.wd.1 hF.wd.2 w' hk
 have CY:=fun(w':World) (hk:zaT w')=>zjx o.fl b o.ht hF.fl.1 hF.fl.2 hb.1 hb.2 hF.ht.1 hF.ht.2 w' hk
 have hX:(zj o a b).lx=zt o.fl a o.wd o.wd.toNat:=if_pos k3;have hY:(zj o a b).ly=zt o.fl b o.ht o.ht.toNat:=if_pos k3;have HS:=za (fun(e:Ending) (w':World) (x y:Value) (he:e=.returned (.tuple #[.agg #[x,y,.int .i64 o.bd],.int .i64 0])) (hx:Tab w' x a (zt o.fl a o.wd o.wd.toNat)) (hy:Tab w' y b (zt o.fl b o.ht o.ht.toNat))=>show zb6 e w' 0 (zj o a b) from .inr ⟨rfl,x,y,he,by rw[hX];exact hx,by rw[hY];exact hy⟩);have HZ:=za (fun(w':World) (k:Int) (hk:k≠0)=>show zb6 (.returned (.tuple #[.agg #[.pointer none,.pointer none,.int .i64 0],.int .i64 k])) w' k (zj o a b) from .inl ⟨hk,rfl⟩);unfold opV;clear hX hY hF ha hb hk hs w0 w1 t0 t1 f0 f1;generalize zt o.fl a o.wd o.wd.toNat=LX at *;generalize zt o.fl b o.ht o.ht.toNat=LY at *;generalize zN o.fl a o.wd=kx at *;generalize zN o.fl b o.ht=ky at *;generalize zj o a b=ST at *;obtain⟨kd,bd,sg,rd,xs,ys,fl,wd,ht⟩:=o;simp only at *;subst k3;generalize xs.length=nx at *;generalize ys.length=ny at *;have HP:=za (show P9 ((w.alloc (.cells #[.int .i64 3,.int .i64 bd,.int .i64 sg,.int .i64 rd,.slice ax nx cx,.slice ay ny cy,.int .i64 fl,.int .i64 wd,.int .i64 ht] 31)).alloc (.cells #[.pointer none,.pointer none,.int .i64 0] 36)) w.heap.size 3 bd sg rd (.slice ax nx cx) (.slice ay ny cy) fl wd ht from(P9.new w 31 3 bd sg rd (.slice ax nx cx) (.slice ay ny cy) fl wd ht).below (zg _ _));have HR:=za (show S3 ((w.alloc (.cells #[.int .i64 3,.int .i64 bd,.int .i64 sg,.int .i64 rd,.slice ax nx cx,.slice ay ny cy,.int .i64 fl,.int .i64 wd,.int .i64 ht] 31)).alloc (.cells #[.pointer none,.pointer none,.int .i64 0] 36)) (w.heap.size+1) (.pointer none) (.pointer none) (.int .i64 0) from by simpa using S3.new (w.alloc (.cells #[.int .i64 3,.int .i64 bd,.int .i64 sg,.int .i64 rd,.slice ax nx cx,.slice ay ny cy,.int .i64 fl,.int .i64 wd,.int .i64 ht] 31)) 36 (.pointer none) (.pointer none) (.int .i64 0));have HB:=za (show Below w.heap.size w ((w.alloc (.cells #[.int .i64 3,.int .i64 bd,.int .i64 sg,.int .i64 rd,.slice ax nx cx,.slice ay ny cy,.int .i64 fl,.int .i64 wd,.int .i64 ht] 31)).alloc (.cells #[.pointer none,.pointer none,.int .i64 0] 36)) from ba (zg _ _) _)
 by_cases zx:kx=0
 case neg =>
  rw[if_pos zx];have qz:(kx != 0)=true:=bne_iff_ne.2 zx
  go_enter Tryz.func65,Tryz.ntmps65
  go_wp2_with (first
   |(go_at_call 101;(with_reducible refine(CN _ (HK.out _ HB.out)).mono ?_);rintro e wv ⟨rfl,bv⟩;have PV:=za (HP.out.below bv);have RV:=za (HR.out.below bv);have BV:=za (bt HB.out bv);have pv:=PV.out;obtain⟨a0,a1,a2,a3,a4,a5,a6,a7,a8⟩:=pv;have rv:=RV.out;obtain⟨⟨fr0,fy0⟩,⟨fr1,fy1⟩,⟨fr2,fy2⟩⟩:=rv)
   |(go_at_call 64;(with_reducible refine(S1 _).mono ?_);rintro e wz ⟨rfl,rfl⟩)
   |(go_at_call 64;(with_reducible refine(S2 _).mono ?_);rintro e wz ⟨rfl,rfl⟩)
   |(go_at_call 102;(with_reducible refine(CX _ (HK.out _ BV.out)).mono ?_);rintro e wx ⟨x,rfl,tx,zv,bx⟩;have PX:=za (PV.out.below bx);have RX:=za (RV.out.below bx);have BX:=za (bt BV.out bx);have px:=PX.out;obtain⟨b0,b1,b2,b3,b4,b5,b6,b7,b8⟩:=px;have rx:=RX.out;obtain⟨⟨gr0,gy0⟩,⟨gr1,gy1⟩,⟨gr2,gy2⟩⟩:=rx;obtain rfl:=zv zx))
  have EN:=za (And.intro (S3.fill RX.out (.pointer none) (.pointer none) (.int .i64 0)) (And.intro (zaP BX.out (Nat.le_add_right _ 1) (.pointer none) (.pointer none) (.int .i64 0)) trivial));generalize (((wx).setCell ⟨w.heap.size+1,0,none⟩ (.pointer none)).setCell ⟨w.heap.size+1,1,none⟩ (.pointer none)).setCell ⟨w.heap.size+1,2,none⟩ (.int .i64 0)=WE at EN ⊢;obtain⟨⟨er0,ey0⟩,⟨er1,ey1⟩,⟨er2,ey2⟩⟩:=EN.out.1;exact bodyPost_ret (v:=.tuple #[.agg #[.pointer none,.pointer none,.int .i64 0],.int .i64 kx]) (by simp[results,Tryz.results65,go_sem,er0,er1,er2]) rfl ⟨HZ.out _ _ zx,EN.out.2.1⟩
 subst zx;rw[if_neg (by decide)]
 by_cases zy:ky=0
 case neg =>
  have qz:(ky != 0)=true:=bne_iff_ne.2 zy
  go_enter Tryz.func65,Tryz.ntmps65
  go_wp2_with (first
   |(go_at_call 101;(with_reducible refine(CN _ (HK.out _ HB.out)).mono ?_);rintro e wv ⟨rfl,bv⟩;have PV:=za (HP.out.below bv);have RV:=za (HR.out.below bv);have BV:=za (bt HB.out bv);have pv:=PV.out;obtain⟨a0,a1,a2,a3,a4,a5,a6,a7,a8⟩:=pv;have rv:=RV.out;obtain⟨⟨fr0,fy0⟩,⟨fr1,fy1⟩,⟨fr2,fy2⟩⟩:=rv)
   |(go_at_call 64;(with_reducible refine(S1 _).mono ?_);rintro e wz ⟨rfl,rfl⟩)
   |(go_at_call 64;(with_reducible refine(S2 _).mono ?_);rintro e wz ⟨rfl,rfl⟩)
   |(go_at_call 102;(with_reducible refine(CX _ (HK.out _ BV.out)).mono ?_);rintro e wx ⟨x,rfl,tx,zv,bx⟩;have PX:=za (PV.out.below bx);have RX:=za (RV.out.below bx);have BX:=za (bt BV.out bx);have px:=PX.out;obtain⟨b0,b1,b2,b3,b4,b5,b6,b7,b8⟩:=px;have rx:=RX.out;obtain⟨⟨gr0,gy0⟩,⟨gr1,gy1⟩,⟨gr2,gy2⟩⟩:=rx;have TX:=za (tx (by trivial));clear tx;obtain⟨gx,rfl⟩:=TX.out.ptr)
   |(go_at_call 102;(with_reducible refine(CY _ (HK.out _ BX.out)).mono ?_);rintro e wy ⟨y,rfl,ty,zv2,by_⟩;have PY:=za (PX.out.below by_);have RY:=za (RX.out.below by_);have BY:=za (bt BX.out by_);have py:=PY.out;obtain⟨c0,c1,c2,c3,c4,c5,c6,c7,c8⟩:=py;have ry:=RY.out;obtain⟨⟨hr0,hy0⟩,⟨hr1,hy1⟩,⟨hr2,hy2⟩⟩:=ry;obtain rfl:=zv2 zy))
  have EN:=za (And.intro (S3.fill RY.out (.pointer none) (.pointer none) (.int .i64 0)) (And.intro (zaP BY.out (Nat.le_add_right _ 1) (.pointer none) (.pointer none) (.int .i64 0)) trivial));generalize (((wy).setCell ⟨w.heap.size+1,0,none⟩ (.pointer none)).setCell ⟨w.heap.size+1,1,none⟩ (.pointer none)).setCell ⟨w.heap.size+1,2,none⟩ (.int .i64 0)=WE at EN ⊢;obtain⟨⟨er0,ey0⟩,⟨er1,ey1⟩,⟨er2,ey2⟩⟩:=EN.out.1;exact bodyPost_ret (v:=.tuple #[.agg #[.pointer none,.pointer none,.int .i64 0],.int .i64 ky]) (by simp[results,Tryz.results65,go_sem,er0,er1,er2]) rfl ⟨HZ.out _ _ zy,EN.out.2.1⟩
 subst zy
 go_enter Tryz.func65,Tryz.ntmps65
 go_wp2_with (first
  |(go_at_call 101;(with_reducible refine(CN _ (HK.out _ HB.out)).mono ?_);rintro e wv ⟨rfl,bv⟩;have PV:=za (HP.out.below bv);have RV:=za (HR.out.below bv);have BV:=za (bt HB.out bv);have pv:=PV.out;obtain⟨a0,a1,a2,a3,a4,a5,a6,a7,a8⟩:=pv;have rv:=RV.out;obtain⟨⟨fr0,fy0⟩,⟨fr1,fy1⟩,⟨fr2,fy2⟩⟩:=rv)
  |(go_at_call 64;(with_reducible refine(S1 _).mono ?_);rintro e wz ⟨rfl,rfl⟩)
  |(go_at_call 64;(with_reducible refine(S2 _).mono ?_);rintro e wz ⟨rfl,rfl⟩)
  |(go_at_call 102;(with_reducible refine(CX _ (HK.out _ BV.out)).mono ?_);rintro e wx ⟨x,rfl,tx,zv,bx⟩;have PX:=za (PV.out.below bx);have RX:=za (RV.out.below bx);have BX:=za (bt BV.out bx);have px:=PX.out;obtain⟨b0,b1,b2,b3,b4,b5,b6,b7,b8⟩:=px;have rx:=RX.out;obtain⟨⟨gr0,gy0⟩,⟨gr1,gy1⟩,⟨gr2,gy2⟩⟩:=rx;have TX:=za (tx (by trivial));clear tx;obtain⟨gx,rfl⟩:=TX.out.ptr)
  |(go_at_call 102;(with_reducible refine(CY _ (HK.out _ BX.out)).mono ?_);rintro e wy ⟨y,rfl,ty,zv2,by_⟩;have PY:=za (PX.out.below by_);have RY:=za (RX.out.below by_);have BY:=za (bt BX.out by_);have py:=PY.out;obtain⟨c0,c1,c2,c3,c4,c5,c6,c7,c8⟩:=py;have ry:=RY.out;obtain⟨⟨hr0,hy0⟩,⟨hr1,hy1⟩,⟨hr2,hy2⟩⟩:=ry;have TY:=za (ty (by trivial));clear ty;obtain⟨gy,rfl⟩:=TY.out.ptr))
 have EN:=za (And.intro (S3.fill RY.out (.pointer (some gx)) (.pointer (some gy)) (.int .i64 bd)) (And.intro (zaP BY.out (Nat.le_add_right _ 1) (.pointer (some gx)) (.pointer (some gy)) (.int .i64 bd)) (And.intro (Tab.fill3 (TX.out.below by_) RY.out (λ_ q=>by cases q) (.pointer (some gx)) (.pointer (some gy)) (.int .i64 bd)) (Tab.fill3 TY.out RY.out (λ_ q=>by cases q) (.pointer (some gx)) (.pointer (some gy)) (.int .i64 bd)))));generalize (((wy).setCell ⟨w.heap.size+1,0,none⟩ (.pointer (some gx))).setCell ⟨w.heap.size+1,1,none⟩ (.pointer (some gy))).setCell ⟨w.heap.size+1,2,none⟩ (.int .i64 bd)=WE at EN ⊢;obtain⟨⟨er0,ey0⟩,⟨er1,ey1⟩,⟨er2,ey2⟩⟩:=EN.out.1;exact bodyPost_ret (v:=.tuple #[.agg #[.pointer (some gx),.pointer (some gy),.int .i64 bd],.int .i64 0]) (by simp[results,Tryz.results65,go_sem,er0,er1,er2]) rfl ⟨HS.out _ _ _ _ rfl EN.out.2.2.1 EN.out.2.2.2,EN.out.2.1⟩
end Go.Proofs.YtlodkoimdoeopaaGreatDoor
