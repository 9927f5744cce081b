/- Parts, joined. -/
import Derived.Test.YtaafhjngnjjcmaaGreatDoorJ41
import Derived.Test.YtaafhjngnjjcmaaGreatDoorJ45
import Derived.Test.YtaafhjngnjjcmaaGreatDoorJ44
import Derived.Test.YtaafhjngnjjcmaaGreatDoorJ26
import Derived.Test.YtaafhjngnjjcmaaGreatDoorJ43
import Derived.Deep.DeepCutAuto
import Derived.Deep.RegionHeldLaw
/- What comes out: the law of one stage. -/
namespace Go.Proofs.YtaafhjngnjjcmaaGreatDoor
open Go.RowKit

theorem S5.new4 (w : World) (T : TypeId) (v0 v1 v2 v3 v4 : Value) : S5 (w.drew.alloc (.cells #[v0, v1, v2, v3, v4] T)) w.heap.size v0 v1 v2 v3 v4 := S5.new w.drew T v0 v1 v2 v3 v4
/-- What is in memory behind the stage's calls: the image as it was, and what is wanted. -/
structure Had (w0 w : World) (R b15 c15 g h g2 h2 rb ro xb : Nat) (I J : Im) (S : Stg) (x y : Value) (gx px gy py : Nat) : Prop where
  was : S5 w R (.int .i64 I.iw) (.int .i64 I.ih) (.int .i64 I.ic) (.int .i64 I.it) (.slice (some ⟨b15, 0, none⟩) I.il.length c15)
  row : RowAt .u16 w (some ⟨b15, 0, none⟩) I.il
  img : ImgAt w g h I
  got : ImgAt w g2 h2 J
  s0 : w.cell? ⟨rb, ro, none⟩ = some x
  s1 : w.cell? ⟨rb, ro + 1, none⟩ = some y
  s2 : w.cell? ⟨rb, ro + 2, none⟩ = some (.int .i64 S.sb)
  tx : Tab w x S.fx S.lx
  ty : Tab w y S.fy S.ly
  r0 : w.cell? ⟨xb, 0, none⟩ = some (.slice (some ⟨gx, 0, none⟩) S.lx.length px)
  r1 : w.cell? ⟨xb, 1, none⟩ = some (.slice (some ⟨gy, 0, none⟩) S.ly.length py)
  r2 : w.cell? ⟨xb, 2, none⟩ = some (.int .i64 S.fx)
  r3 : w.cell? ⟨xb, 3, none⟩ = some (.int .i64 S.fy)
  r4 : w.cell? ⟨xb, 4, none⟩ = some (.int .i64 S.sb)
  lx : LinesAt w gx S.lx
  ly : LinesAt w gy S.ly
  bel : Below w0.heap.size w0 w
theorem Had.below {w0 w w' : World} {R b15 c15 g h g2 h2 rb ro xb : Nat} {I J : Im} {S : Stg} {x y : Value} {gx px gy py : Nat} (D : Had w0 w R b15 c15 g h g2 h2 rb ro xb I J S x y gx px gy py) (b : Below w.heap.size w w') : Had w0 w' R b15 c15 g h g2 h2 rb ro xb I J S x y gx px gy py :=
  ⟨D.was.below b, D.row.below b, D.img.below b, D.got.below b, cb b (cell_ltL D.s0) D.s0, cb b (cell_ltL D.s1) D.s1, cb b (cell_ltL D.s2) D.s2, D.tx.below b, D.ty.below b, cb b (cell_ltL D.r0) D.r0, cb b (cell_ltL D.r1) D.r1, cb b (cell_ltL D.r2) D.r2, cb b (cell_ltL D.r3) D.r3, cb b (cell_ltL D.r4) D.r4, D.lx.below b, D.ly.below b, bt D.bel b⟩
set_option maxHeartbeats 4000000 in
set_option maxRecDepth 100000 in
theorem law_DirectApplies (q : Pic) (pd : Option Addr) (pc : Nat) (o : Opr) (ax : Option Addr) (cx : Nat) (ay : Option Addr) (cy : Nat) (x y c : Int) (w : World) (hk : OpK w) (hp : PicAt w q pd pc ∧ PicFits q) (hA : OpAt w o ax cx ay cy ∧ OpFits o)
    (hx : -9223372036854775808 ≤ x ∧ x ≤ 9223372036854775807) (hy : -9223372036854775808 ≤ y ∧ y ≤ 9223372036854775807) (_ : -9223372036854775808 ≤ c ∧ c ≤ 9223372036854775807) :
    Calls Tryz.prog 4 #[picV q pd pc, opV o ax cx ay cy, .int .i64 x, .int .i64 y, .int .i64 c] w fun e w' => e = .returned (.bool true) ∧ Below w.heap.size w w' := by
  have K0 := hide (fun w' (b : Below w.heap.size w w') => opk_below _ _ hk b)
  have CL := fun w' (b : Below w.heap.size w w') => lives15_any w' (K0.out w' b)
  have CD := fun w' (b : Below w.heap.size w w') => pdraw_any q pd pc w' (hp.1.below b) hp.2
  have OF : OpsFit [o] := fun j hj => by
    obtain rfl : j = 0 := by simpa using hj
    exact hA.2
  have OA := hide (fun w' (b : Below w.heap.size w w') => ops_one w' 50 o ax cx ay cy (hA.1.below b))
  have m1 : 1 ≤ maxLen := by unfold maxLen; omega
  have CN := hide (fun w' (b : Below w.heap.size w w') ad (ha : OpsAt w' (some ad) [o]) g h I (H : ImgAt w' g h I) hy => stages_no (L := [o]) (n := 1) (ad := some ad) (cap := 1) rfl m1 (fun e => by cases e) (K0.out w' b) ha OF H hy)
  have CY := hide (fun w' (b : Below w.heap.size w w') ad (ha : OpsAt w' (some ad) [o]) g h I (H : ImgAt w' g h I) hy => stages_yes (L := [o]) (n := 1) (ad := some ad) (cap := 1) rfl m1 (fun e => by cases e) (K0.out w' b) ha OF H hy)
  have GD := hide (fun I (hI : ImOk I) i0 i1 hy => stages_good (L := [o]) (n := 1) rfl hI i0 i1 hy)
  have q1 : ∀ (a : Addr) (w : World), (binOp .neq 28 (.pointer (some a)) (.pointer none)).run Tryz.prog w = .ok (.bool true) w := fun a w => by kernel_rfl
  have q2 : ∀ (a : Addr) (w : World), (binOp .eql 28 (.pointer (some a)) (.pointer none)).run Tryz.prog w = .ok (.bool false) w := fun a w => by kernel_rfl
  obtain ⟨pw, ph, pcc, pm, pl⟩ := q
  have P0 := hide ((S5.new w 25 (.int .u16 pw) (.int .u16 ph) (.int .u16 pcc) (.int .u16 pm) (.slice pd pl.length pc)).below (below1 _ (.cells #[.int .i64 o.kd, .int .i64 o.bd, .int .i64 o.sg, .int .i64 o.rd, .slice ax o.xs.length cx, .slice ay o.ys.length cy, .int .i64 o.fl, .int .i64 o.wd, .int .i64 o.ht] 50)))
  have O0 := hide (show P9 ((w.alloc (.cells #[.int .u16 pw, .int .u16 ph, .int .u16 pcc, .int .u16 pm, .slice pd pl.length pc] 25)).alloc (.cells #[.int .i64 o.kd, .int .i64 o.bd, .int .i64 o.sg, .int .i64 o.rd, .slice ax o.xs.length cx, .slice ay o.ys.length cy, .int .i64 o.fl, .int .i64 o.wd, .int .i64 o.ht] 50)) (w.heap.size + 1) o.kd o.bd o.sg o.rd (.slice ax o.xs.length cx) (.slice ay o.ys.length cy) o.fl o.wd o.ht from by
    simpa using P9.new (w.alloc (.cells #[.int .u16 pw, .int .u16 ph, .int .u16 pcc, .int .u16 pm, .slice pd pl.length pc] 25)) 50 o.kd o.bd o.sg o.rd (.slice ax o.xs.length cx) (.slice ay o.ys.length cy) o.fl o.wd o.ht)
  have B0 := hide (ba (below1 w (.cells #[.int .u16 pw, .int .u16 ph, .int .u16 pcc, .int .u16 pm, .slice pd pl.length pc] 25)) (.cells #[.int .i64 o.kd, .int .i64 o.bd, .int .i64 o.sg, .int .i64 o.rd, .slice ax o.xs.length cx, .slice ay o.ys.length cy, .int .i64 o.fl, .int .i64 o.wd, .int .i64 o.ht] 50))
  unfold picV at CD ⊢
  unfold opV
  clear hk hp hA
  obtain ⟨kd, bo, sg, rd, xs, ys, fl, wd, ht⟩ := o
  simp only at P0 O0 B0 OA
  generalize hnx : xs.length = nx at *
  generalize hny : ys.length = ny at *
  clear hnx hny
  go_enter Tryz.func4, Tryz.ntmps4
  go_upto_region 4 with (first
    | (go_at_call 9; (with_reducible refine (CL _ B0.out).mono ?_); rintro e w1 ⟨rfl, b1⟩; have B1 := hide (bt B0.out b1); have O1 := hide (O0.out.below b1); obtain ⟨⟨p0, _⟩, ⟨p1, _⟩, ⟨p2, _⟩, ⟨p3, _⟩, ⟨p4, _⟩⟩ := P0.out.below b1)
    | (go_at_call 10; (with_reducible refine (CD _ B1.out).mono ?_); rintro e w2 ⟨v2, I, rfl, ⟨g, h, rfl, gB, hB, hi⟩, i0, i1, b2⟩; have HI := hide hi; have B2 := hide (bt B1.out b2); obtain ⟨o0, o1, o2, o3, o4, o5, o6, o7, o8⟩ := O1.out.below b2; clear hi))
  have OA2 := hide (OA.out w2 B2.out)
  have B3 := hide (ba B2.out (.cells #[.int .i64 kd, .int .i64 bo, .int .i64 sg, .int .i64 rd, .slice ax nx cx, .slice ay ny cy, .int .i64 fl, .int .i64 wd, .int .i64 ht] 50))
  have HI3 := hide (HI.out.below (below1 w2 (.cells #[.int .i64 kd, .int .i64 bo, .int .i64 sg, .int .i64 rd, .slice ax nx cx, .slice ay ny cy, .int .i64 fl, .int .i64 wd, .int .i64 ht] 50)))
  generalize (⟨kd, bo, sg, rd, xs, ys, fl, wd, ht⟩ : Opr) = O at *
  by_cases hy' : allCode [O] I.iw I.ih I.ic = 0 ∧ 1 ≤ 4 ∧ bigB 12 [O] 1 = false
  · obtain ⟨sm, cz⟩ := GD.out I HI.out.ok i0 i1 hy'
    have CS := CY.out _ B3.out _ OA2.out g h I HI3.out hy'
    obtain ⟨S, hSS⟩ : ∃ S, stgAt [O] I.iw I.ih 0 = S := ⟨_, rfl⟩
    have SM := hide (show SmallS S from hSS ▸ sm 0 (by omega))
    have c1 := cz 1 (by omega)
    rw [stgL_snoc, comp_snoc I _ _ rfl, hSS] at c1
    have CZ := hide (show stepC I S = 0 from c1)
    have HSS := hide hSS
    clear hSS c1 sm cz GD CN CY hy'
    have CA : ∀ w' x y, Below w.heap.size w w' → ImgAt w' g h I → Tab w' x S.fx S.lx → Tab w' y S.fy S.ly → Calls Tryz.prog 16 #[.pointer (some ⟨g, 0, none⟩), .agg #[x, y, .int .i64 S.sb]] w' fun e w'' => (∃ v, e = .returned (.tuple #[v, .int .i64 0]) ∧ ImgNew w'.heap.size w'' v (applyF I S)) ∧ Below w'.heap.size w' w'' := fun w' x y b H tx ty =>
      (dir_apply (K0.out w' b) H tx ty SM.out).mono fun e w'' ⟨hA, hB⟩ => by
        rw [CZ.out] at hA
        rcases hA with ⟨_, v, he, hi⟩ | ⟨h0, _⟩
        · exact ⟨⟨v, he, hi⟩, hB⟩
        · exact absurd rfl h0
    have CRF := fun w' (D : ImgAt w' g h I) => dref_any D
    unfold imV at CRF
    go_upto_region 9 with (first
      | (go_at_call 11; (with_reducible refine CS.mono ?_); rintro e w3 ⟨⟨ad3, cap3, ad4, cap4, rfl, hs3, hq3⟩, b3⟩; obtain ⟨sb, off, rfl, x3', y3', s0, s1, s2, tx, ty⟩ := hs3.get (show 0 < 1 by omega); obtain ⟨xb, rfl, gx, px, gy, py, r0, r1, r2, r3, r4, lx, ly⟩ := hq3.get (show 0 < 1 by omega); rw [HSS.out] at s2 tx ty r0 r1 r2 r3 r4 lx ly; obtain ⟨x3, rfl⟩ := tx.ptr; obtain ⟨y3, rfl⟩ := ty.ptr; have B4 := hide (bt B3.out b3); have HI4 := hide (HI3.out.below b3); have SS4 := hide (show w3.cell? ⟨sb, off, none⟩ = some (.pointer (some x3)) ∧ w3.cell? ⟨sb, off + 1, none⟩ = some (.pointer (some y3)) ∧ w3.cell? ⟨sb, off + 2, none⟩ = some (.int .i64 S.sb) ∧ Tab w3 (.pointer (some x3)) S.fx S.lx ∧ Tab w3 (.pointer (some y3)) S.fy S.ly from ⟨by simpa using s0, by simpa using s1, by simpa using s2, tx, ty⟩); have RR4 := hide (show w3.cell? ⟨xb, 0, none⟩ = some (.slice (some ⟨gx, 0, none⟩) S.lx.length px) ∧ w3.cell? ⟨xb, 1, none⟩ = some (.slice (some ⟨gy, 0, none⟩) S.ly.length py) ∧ w3.cell? ⟨xb, 2, none⟩ = some (.int .i64 S.fx) ∧ w3.cell? ⟨xb, 3, none⟩ = some (.int .i64 S.fy) ∧ w3.cell? ⟨xb, 4, none⟩ = some (.int .i64 S.sb) ∧ LinesAt w3 gx S.lx ∧ LinesAt w3 gy S.ly from ⟨by simpa using r0, by simpa using r1, by simpa using r2, by simpa using r3, by simpa using r4, lx, ly⟩); clear s0 s1 s2 tx ty r0 r1 r2 r3 r4 lx ly hs3 hq3)
      | (go_at_call 20; (with_reducible refine (CRF _ HI4.out).mono ?_); rintro e w5 ⟨b15, c15, rfl, hr5, _, _, _, bb5⟩; have bb6 := hide (bt bb5 (below1 w5 (.cells #[.int .i64 I.iw, .int .i64 I.ih, .int .i64 I.ic, .int .i64 I.it, .slice (some ⟨b15, 0, none⟩) I.il.length c15] 52))); have HR6 := hide (hr5.below (below1 w5 (.cells #[.int .i64 I.iw, .int .i64 I.ih, .int .i64 I.ic, .int .i64 I.it, .slice (some ⟨b15, 0, none⟩) I.il.length c15] 52))); have WS6 := hide (S5.new w5 52 (.int .i64 I.iw) (.int .i64 I.ih) (.int .i64 I.ic) (.int .i64 I.it) (.slice (some ⟨b15, 0, none⟩) I.il.length c15)); have B6 := hide (bt B4.out bb6.out); have HI6 := hide (HI4.out.below bb6.out); have t0 := cb bb6.out (cell_ltL SS4.out.1) SS4.out.1; have t1 := cb bb6.out (cell_ltL SS4.out.2.1) SS4.out.2.1; have t2 := cb bb6.out (cell_ltL SS4.out.2.2.1) SS4.out.2.2.1; have TX6 := hide (SS4.out.2.2.2.1.below bb6.out); have TY6 := hide (SS4.out.2.2.2.2.below bb6.out); clear hr5)
      | (go_at_call 16; (with_reducible refine (CA _ _ _ B6.out HI6.out TX6.out TY6.out).mono ?_); rintro e w7 ⟨⟨v7, rfl, ⟨g7, h7, rfl, g7B, h7B, hj⟩⟩, b7⟩; have D7 := hide (show Had w w7 w5.heap.size b15 c15 g h g7 h7 sb off xb I (applyF I S) S (.pointer (some x3)) (.pointer (some y3)) gx px gy py from ⟨WS6.out.below b7, HR6.out.below b7, HI6.out.below b7, hj, cb b7 (cell_ltL t0) t0, cb b7 (cell_ltL t1) t1, cb b7 (cell_ltL t2) t2, TX6.out.below b7, TY6.out.below b7, cb (bt bb6.out b7) (cell_ltL RR4.out.1) RR4.out.1, cb (bt bb6.out b7) (cell_ltL RR4.out.2.1) RR4.out.2.1, cb (bt bb6.out b7) (cell_ltL RR4.out.2.2.1) RR4.out.2.2.1, cb (bt bb6.out b7) (cell_ltL RR4.out.2.2.2.1) RR4.out.2.2.2.1, cb (bt bb6.out b7) (cell_ltL RR4.out.2.2.2.2.1) RR4.out.2.2.2.2.1, RR4.out.2.2.2.2.2.1.below (bt bb6.out b7), RR4.out.2.2.2.2.2.2.below (bt bb6.out b7), bt B6.out b7⟩); clear hj b7 t0 t1 t2))
    have tok := D7.out.tx.ok
    have tok2 := D7.out.ty.ok
    have fz := (stepC_zero CZ.out).2
    have CRA := fun w' (D : Had w w' w5.heap.size b15 c15 g h g7 h7 sb off xb I (applyF I S) S (.pointer (some x3)) (.pointer (some y3)) gx px gy py) => dapply15 I S b15 c15 gx px gy py w' HI.out.ok D.row D.lx D.ly tok.1 tok2.1 tok.2.1 tok2.2.1 tok.2.2.1 tok2.2.2.1 fz
    unfold imV at CRA
    obtain ⟨J, hJ⟩ : ∃ J, applyF I S = J := ⟨_, rfl⟩
    rw [hJ] at D7
    simp only [hJ] at CRA
    obtain ⟨⟨⟨y0, _⟩, ⟨y1, _⟩, ⟨y2, _⟩, ⟨y3', _⟩, ⟨y4, _⟩⟩, _, _, _, _, _, _, _, _, r0, r1, r2, r3, r4, _, _, _⟩ := id D7.out
    go_cut [18] (fun a wx => ∃ R b9 c9, a = .pointer (some ⟨R, 0, none⟩) ∧ S5 wx R (.int .i64 J.iw) (.int .i64 J.ih) (.int .i64 J.ic) (.int .i64 J.it) (.slice (some ⟨b9, 0, none⟩) J.il.length c9) ∧ RowAt .u16 wx (some ⟨b9, 0, none⟩) J.il ∧ Had w wx w5.heap.size b15 c15 g h g7 h7 sb off xb I J S (.pointer (some x3)) (.pointer (some y3)) gx px gy py)
    case first =>
      have n1 : w7.heap.size ≠ w5.heap.size := fun e => by have := cell_ltL y0; omega
      have n2 : w7.heap.size ≠ xb := fun e => by have := cell_ltL r0; omega
      go_region_held3 (fun w' => (w'.cell? ⟨w5.heap.size, 0, none⟩ = some (.int .i64 I.iw) ∧ w'.cell? ⟨w5.heap.size, 1, none⟩ = some (.int .i64 I.ih) ∧ w'.cell? ⟨w5.heap.size, 2, none⟩ = some (.int .i64 I.ic) ∧ w'.cell? ⟨w5.heap.size, 3, none⟩ = some (.int .i64 I.it) ∧ w'.cell? ⟨w5.heap.size, 4, none⟩ = some (.slice (some ⟨b15, 0, none⟩) I.il.length c15)) ∧ (w'.cell? ⟨xb, 0, none⟩ = some (.slice (some ⟨gx, 0, none⟩) S.lx.length px) ∧ w'.cell? ⟨xb, 1, none⟩ = some (.slice (some ⟨gy, 0, none⟩) S.ly.length py) ∧ w'.cell? ⟨xb, 2, none⟩ = some (.int .i64 S.fx) ∧ w'.cell? ⟨xb, 3, none⟩ = some (.int .i64 S.fy) ∧ w'.cell? ⟨xb, 4, none⟩ = some (.int .i64 S.sb))) (first | with_reducible assumption | (with_reducible exact ⟨⟨y0, y1, y2, y3', y4⟩, r0, r1, r2, r3, r4⟩) | go_keep)
        (first | (go_at_call 21; (with_reducible refine (CRA _ (D7.out.below (by repeat (first | exact Below.refl _ _ | (with_reducible refine bdN ?_ _) | with_reducible refine bd ?_ | with_reducible refine ba ?_ _)))).mono ?_); rintro e w9 ⟨⟨b9, c9, rfl, hr9, g9⟩, bb9⟩; have HR9 := hide hr9; have K9 := hide (bt (show Below w7.heap.size w7 _ from (by repeat (first | exact Below.refl _ _ | (with_reducible refine bdN ?_ _) | with_reducible refine bd ?_ | with_reducible refine ba ?_ _))) bb9); have D9 := hide (D7.out.below K9.out); (first | (have Z9 := hide ((S5.new4 w7 _ _ _ _ _ _).below bb9); obtain ⟨⟨z0, p0⟩, ⟨z1, p1⟩, ⟨z2, p2⟩, ⟨z3, p3⟩, ⟨z4, p4⟩⟩ := id Z9.out) | (have Z9 := hide (((S5.new w7 _ _ _ _ _ _).below (bd (Below.refl _ _))).below bb9); obtain ⟨⟨z0, p0⟩, ⟨z1, p1⟩, ⟨z2, p2⟩, ⟨z3, p3⟩, ⟨z4, p4⟩⟩ := id Z9.out) | (have Z9 := hide ((S5.new w7 _ _ _ _ _ _).below bb9); obtain ⟨⟨z0, p0⟩, ⟨z1, p1⟩, ⟨z2, p2⟩, ⟨z3, p3⟩, ⟨z4, p4⟩⟩ := id Z9.out) | skip); have ZA := S5.new w9 52 (.int .i64 0) (.int .i64 0) (.int .i64 0) (.int .i64 0) (.slice none 0 0); obtain ⟨⟨k0, l0⟩, ⟨k1, l1⟩, ⟨k2, l2⟩, ⟨k3, l3⟩, ⟨k4, l4⟩⟩ := ZA; clear hr9 bb9; obtain ⟨⟨⟨y0, _⟩, ⟨y1, _⟩, ⟨y2, _⟩, ⟨y3', _⟩, ⟨y4, _⟩⟩, _, _, _, _, _, _, _, _, r0, r1, r2, r3, r4, _, _, _⟩ := id D9.out; have n5 : w9.heap.size ≠ w5.heap.size := (fun e => by have := cell_ltL y0; omega); have n6 : w9.heap.size ≠ xb := (fun e => by have := cell_ltL r0; omega)))
      all_goals
        go_wp2_with fail
        go_meet
        first
          | (have zz := Z9.out
             refine ⟨w7.heap.size, b9, c9, rfl, ?_, ?_, ?_⟩
             · with_reducible exact S5.fill zz (.int .i64 J.iw) (.int .i64 J.ih) (.int .i64 J.ic) (.int .i64 J.it) (.slice (some ⟨b9, 0, none⟩) J.il.length c9)
             · with_reducible refine HR9.out.grown (((((grown_set w9 w7.heap.size 0 (.int .i64 J.iw)).trans (grown_set _ w7.heap.size 1 (.int .i64 J.ih))).trans (grown_set _ w7.heap.size 2 (.int .i64 J.ic))).trans (grown_set _ w7.heap.size 3 (.int .i64 J.it))).trans (grown_set _ w7.heap.size 4 (.slice (some ⟨b9, 0, none⟩) J.il.length c9))) ?_
               intro e
               have := Option.some.inj e
               simp at g9
               omega
             · with_reducible exact D7.out.below (below_fill K9.out (Nat.le_refl _) (.int .i64 J.iw) (.int .i64 J.ih) (.int .i64 J.ic) (.int .i64 J.it) (.slice (some ⟨b9, 0, none⟩) J.il.length c9)))
          | (refine ⟨w9.heap.size, b9, c9, rfl, ?_, ?_, ?_⟩
             · with_reducible exact S5.new _ _ _ _ _ _ _
             · with_reducible exact HR9.out.below (below1 _ _)
             · with_reducible exact D9.out.below (below1 _ _))
    case rest =>
      obtain ⟨R18, b9, c9, rfl, hv, hr9, hd⟩ := hcut
      have HV := hide hv
      have HR9 := hide hr9
      have D10 := hide hd
      have eW : J.iw = (S.lx.length : Int) := by rw [← hJ]; rfl
      have eH : J.ih = (S.ly.length : Int) := by rw [← hJ]; rfl
      have eC : J.ic = I.ic := by rw [← hJ]; rfl
      have su := (stepC_zero CZ.out).1
      clear CRA D7 hJ hr9 hd hv CA CRF y0 y1 y2 y3' y4 r0 r1 r2 r3 r4 TX6 TY6 WS6 HR6 HI6 B6 bb6 SS4 RR4 fz CS
      obtain ⟨RW, hRW⟩ : ∃ RW, w5.heap.size = RW := ⟨_, rfl⟩
      rw [hRW] at D10 ⊢
      clear hRW
      have li := (imOk_len D10.out.img.ok).2
      have lj := (imOk_len D10.out.got.ok).2
      have CRJ := fun w' (D : ImgAt w' g7 h7 J) => dref_any D
      have CRI := fun w' (D : ImgAt w' g h I) => dref_any D
      have CEJ := fun w' b b' cap cap' hr hr' => dequal_any J J b b' cap cap' lj w' hr hr'
      have CEI := fun w' b b' cap cap' hr hr' => dequal_any I I b b' cap cap' li w' hr hr'
      unfold imV at CRJ CRI CEJ CEI
      simp only [imSame_self] at CEJ CEI
      have CSU := hide (fun w' (D : Had w w' RW b15 c15 g h g7 h7 sb off xb I J S (.pointer (some x3)) (.pointer (some y3)) gx px gy py) => dir_suits (K0.out w' D.bel) D.img D.tx D.ty)
      rw [su] at CSU
      have CSM := hide (fun w' (D : Had w w' RW b15 c15 g h g7 h7 sb off xb I J S (.pointer (some x3)) (.pointer (some y3)) gx px gy py) => dir_sum (K0.out w' D.bel) D.img D.tx D.ty SM.out x y c hx hy)
      rw [su, Bool.true_and, ← eW, ← eH, ← eC] at CSM
      have HEW := hide eW
      have HEH := hide eH
      clear eW eH eC
      obtain ⟨⟨v0, _⟩, ⟨v1, _⟩, ⟨v2, _⟩, ⟨v3, _⟩, ⟨v4, _⟩⟩ := HV.out.below (Below.refl _ _); obtain ⟨⟨⟨y0, _⟩, ⟨y1, _⟩, ⟨y2, _⟩, ⟨y3', _⟩, ⟨y4, _⟩⟩, _, _, _, s0, s1, s2, _, _, r0, r1, r2, r3, r4, _, _, _⟩ := D10.out.below (Below.refl _ _)
      go_upto_region 10 with fail
      go_region_held3 (fun w' => (w'.cell? ⟨R18, 0, none⟩ = some (.int .i64 J.iw) ∧ w'.cell? ⟨R18, 1, none⟩ = some (.int .i64 J.ih) ∧ w'.cell? ⟨R18, 2, none⟩ = some (.int .i64 J.ic) ∧ w'.cell? ⟨R18, 3, none⟩ = some (.int .i64 J.it) ∧ w'.cell? ⟨R18, 4, none⟩ = some (.slice (some ⟨b9, 0, none⟩) J.il.length c9)) ∧ (w'.cell? ⟨RW, 0, none⟩ = some (.int .i64 I.iw) ∧ w'.cell? ⟨RW, 1, none⟩ = some (.int .i64 I.ih) ∧ w'.cell? ⟨RW, 2, none⟩ = some (.int .i64 I.ic) ∧ w'.cell? ⟨RW, 3, none⟩ = some (.int .i64 I.it) ∧ w'.cell? ⟨RW, 4, none⟩ = some (.slice (some ⟨b15, 0, none⟩) I.il.length c15)) ∧ (w'.cell? ⟨sb, off, none⟩ = some (.pointer (some x3)) ∧ w'.cell? ⟨sb, off + 1, none⟩ = some (.pointer (some y3)) ∧ w'.cell? ⟨sb, off + 2, none⟩ = some (.int .i64 S.sb))) (first | with_reducible assumption | (with_reducible exact ⟨⟨v0, v1, v2, v3, v4⟩, ⟨y0, y1, y2, y3', y4⟩, s0, s1, s2⟩) | go_keep)
        (first
          | (go_at_call 20; (with_reducible refine (CRJ _ (D10.out.below (by repeat (first | exact Below.refl _ _ | (with_reducible refine bdN ?_ _) | with_reducible refine bd ?_ | with_reducible refine ba ?_ _))).got).mono ?_); rintro e w11 ⟨b11, c11, rfl, hr11, _, _, _, bb11⟩; have K11 := hide (bt (show Below wc.heap.size wc _ from (by repeat (first | exact Below.refl _ _ | (with_reducible refine bdN ?_ _) | with_reducible refine bd ?_ | with_reducible refine ba ?_ _))) bb11); have HR11 := hide hr11; clear hr11; obtain ⟨⟨v0, _⟩, ⟨v1, _⟩, ⟨v2, _⟩, ⟨v3, _⟩, ⟨v4, _⟩⟩ := HV.out.below K11.out; obtain ⟨⟨⟨y0, _⟩, ⟨y1, _⟩, ⟨y2, _⟩, ⟨y3', _⟩, ⟨y4, _⟩⟩, _, _, _, s0, s1, s2, _, _, r0, r1, r2, r3, r4, _, _, _⟩ := D10.out.below K11.out)
          | (go_at_call 22; (with_reducible refine (CEJ _ _ _ _ _ HR11.out (HR9.out.below K11.out)).mono ?_); rintro e w12 ⟨rfl, bb12⟩; have K12 := hide (bt K11.out bb12); obtain ⟨⟨v0, _⟩, ⟨v1, _⟩, ⟨v2, _⟩, ⟨v3, _⟩, ⟨v4, _⟩⟩ := HV.out.below K12.out; obtain ⟨⟨⟨y0, _⟩, ⟨y1, _⟩, ⟨y2, _⟩, ⟨y3', _⟩, ⟨y4, _⟩⟩, _, _, _, s0, s1, s2, _, _, r0, r1, r2, r3, r4, _, _, _⟩ := D10.out.below K12.out)
          | (go_at_call 20; (with_reducible refine (CRI _ (D10.out.below K12.out).img).mono ?_); rintro e w13 ⟨b13, c13, rfl, hr13, _, _, _, bb13⟩; have K13 := hide (bt K12.out bb13); have HR13 := hide hr13; clear hr13; obtain ⟨⟨v0, _⟩, ⟨v1, _⟩, ⟨v2, _⟩, ⟨v3, _⟩, ⟨v4, _⟩⟩ := HV.out.below K13.out; obtain ⟨⟨⟨y0, _⟩, ⟨y1, _⟩, ⟨y2, _⟩, ⟨y3', _⟩, ⟨y4, _⟩⟩, _, _, _, s0, s1, s2, _, _, r0, r1, r2, r3, r4, _, _, _⟩ := D10.out.below K13.out)
          | (go_at_call 22; (with_reducible refine (CEI _ _ _ _ _ HR13.out (D10.out.below K13.out).row).mono ?_); rintro e w14 ⟨rfl, bb14⟩; have K14 := hide (bt K13.out bb14); obtain ⟨⟨v0, _⟩, ⟨v1, _⟩, ⟨v2, _⟩, ⟨v3, _⟩, ⟨v4, _⟩⟩ := HV.out.below K14.out; obtain ⟨⟨⟨y0, _⟩, ⟨y1, _⟩, ⟨y2, _⟩, ⟨y3', _⟩, ⟨y4, _⟩⟩, _, _, _, s0, s1, s2, _, _, r0, r1, r2, r3, r4, _, _, _⟩ := D10.out.below K14.out)
          | (go_at_call 23; (with_reducible refine (CSU.out _ (D10.out.below K14.out)).mono ?_); rintro e w15 ⟨rfl, bb15⟩; have K15 := hide (bt K14.out bb15); obtain ⟨⟨v0, _⟩, ⟨v1, _⟩, ⟨v2, _⟩, ⟨v3, _⟩, ⟨v4, _⟩⟩ := HV.out.below K15.out; obtain ⟨⟨⟨y0, _⟩, ⟨y1, _⟩, ⟨y2, _⟩, ⟨y3', _⟩, ⟨y4, _⟩⟩, _, _, _, s0, s1, s2, _, _, r0, r1, r2, r3, r4, _, _, _⟩ := D10.out.below K15.out))
      clear CRJ CRI CEJ CEI CSU
      go_upto_region 13 with fail
      by_cases hin : (0 ≤ x ∧ x < J.iw) ∧ (0 ≤ y ∧ y < J.ih) ∧ (0 ≤ c ∧ c < J.ic)
      · obtain ⟨⟨x0, x1⟩, ⟨z0, z1⟩, ⟨c0, c1⟩⟩ := hin
        have hb : (inB J.iw x && inB J.ih y && inB J.ic c) = true := by
          unfold inB
          simp only [Bool.and_eq_true, decide_eq_true_eq]
          exact ⟨⟨⟨x0, x1⟩, z0, z1⟩, c0, c1⟩
        have CS2 := CSM.out
        simp only [hb, if_true] at CS2
        obtain ⟨xn, rfl⟩ : ∃ xn : Nat, x = xn := ⟨x.toNat, by omega⟩
        obtain ⟨yn, rfl⟩ : ∃ yn : Nat, y = yn := ⟨y.toNat, by omega⟩
        simp only [Int.toNat_natCast] at CS2
        have xl : xn < S.lx.length := by have := HEW.out; omega
        have yl : yn < S.ly.length := by have := HEH.out; omega
        have CDS := fun w' (D : Had w w' RW b15 c15 g h g7 h7 sb off xb I J S (.pointer (some x3)) (.pointer (some y3)) gx px gy py) => dsum15_any I S b15 c15 gx px gy py xn yn c w' D.img.ok D.row D.lx D.ly (fun j hj => ⟨(tok.1 j hj).1, (tok.1 j hj).2.1, (tok.1 j hj).2.2.1, (tok.1 j hj).2.2.2.1⟩) (fun j hj => ⟨(tok2.1 j hj).1, (tok2.1 j hj).2.1, (tok2.1 j hj).2.2.1, (tok2.1 j hj).2.2.2.1⟩) xl yl tok.2.2.1 tok2.2.2.1
        unfold imV at CDS
        obtain ⟨V, hV⟩ : ∃ V, sumW I S xn yn c = V := ⟨_, rfl⟩
        simp only [hV] at CDS CS2
        clear hV hb CSM
        go_upto_region 14 with fail
        go_region_held3 (fun w' => (w'.cell? ⟨RW, 0, none⟩ = some (.int .i64 I.iw) ∧ w'.cell? ⟨RW, 1, none⟩ = some (.int .i64 I.ih) ∧ w'.cell? ⟨RW, 2, none⟩ = some (.int .i64 I.ic) ∧ w'.cell? ⟨RW, 3, none⟩ = some (.int .i64 I.it) ∧ w'.cell? ⟨RW, 4, none⟩ = some (.slice (some ⟨b15, 0, none⟩) I.il.length c15)) ∧ (w'.cell? ⟨xb, 0, none⟩ = some (.slice (some ⟨gx, 0, none⟩) S.lx.length px) ∧ w'.cell? ⟨xb, 1, none⟩ = some (.slice (some ⟨gy, 0, none⟩) S.ly.length py) ∧ w'.cell? ⟨xb, 2, none⟩ = some (.int .i64 S.fx) ∧ w'.cell? ⟨xb, 3, none⟩ = some (.int .i64 S.fy) ∧ w'.cell? ⟨xb, 4, none⟩ = some (.int .i64 S.sb)) ∧ (w'.cell? ⟨sb, off, none⟩ = some (.pointer (some x3)) ∧ w'.cell? ⟨sb, off + 1, none⟩ = some (.pointer (some y3)) ∧ w'.cell? ⟨sb, off + 2, none⟩ = some (.int .i64 S.sb))) (first | with_reducible assumption | (with_reducible exact ⟨⟨y0, y1, y2, y3', y4⟩, ⟨r0, r1, r2, r3, r4⟩, s0, s1, s2⟩) | go_keep)
          (first | (go_at_call 24; (with_reducible refine (CDS _ (D10.out.below (bt K15.out (by repeat (first | exact Below.refl _ _ | (with_reducible refine bdN ?_ _) | with_reducible refine bd ?_ | with_reducible refine ba ?_ _))))).mono ?_); rintro e w16 ⟨rfl, bb16⟩; have K16 := hide (bt (show Below wc.heap.size wc _ from bt K15.out (by repeat (first | exact Below.refl _ _ | (with_reducible refine bdN ?_ _) | with_reducible refine bd ?_ | with_reducible refine ba ?_ _))) bb16); obtain ⟨⟨⟨y0, _⟩, ⟨y1, _⟩, ⟨y2, _⟩, ⟨y3', _⟩, ⟨y4, _⟩⟩, _, _, _, s0, s1, s2, _, _, r0, r1, r2, r3, r4, _, _, _⟩ := D10.out.below K16.out))
        all_goals
          go_wp2_with (go_at_call 25; (with_reducible refine (CS2 _ (D10.out.below K16.out)).mono ?_); rintro e w17 ⟨rfl, bb17⟩; have K17 := hide (bt K16.out bb17))
          go_ret
          exact ⟨rfl, (D10.out.below K17.out).bel⟩
      · have hb : (inB J.iw x && inB J.ih y && inB J.ic c) = false := by
          cases e : (inB J.iw x && inB J.ih y && inB J.ic c) with
          | false => rfl
          | true =>
            unfold inB at e
            simp only [Bool.and_eq_true, decide_eq_true_eq] at e
            exact absurd ⟨e.1.1, e.1.2, e.2⟩ hin
        have CS2 := CSM.out
        simp only [hb, Bool.false_eq_true, if_false] at CS2
        have h6 : x < 0 ∨ (0 ≤ x ∧ J.iw ≤ x) ∨ (0 ≤ x ∧ x < J.iw ∧ y < 0) ∨ (0 ≤ x ∧ x < J.iw ∧ 0 ≤ y ∧ J.ih ≤ y) ∨ (0 ≤ x ∧ x < J.iw ∧ 0 ≤ y ∧ y < J.ih ∧ c < 0) ∨ (0 ≤ x ∧ x < J.iw ∧ 0 ≤ y ∧ y < J.ih ∧ 0 ≤ c ∧ J.ic ≤ c) := by omega
        clear hb hin CSM
        rcases h6 with e1 | ⟨e1, e2⟩ | ⟨e1, e2, e3⟩ | ⟨e1, e2, e3, e4⟩ | ⟨e1, e2, e3, e4, e5⟩ | ⟨e1, e2, e3, e4, e5, e6⟩
        all_goals
          go_wp2_with (go_at_call 25; (with_reducible refine (CS2 _ (D10.out.below K15.out)).mono ?_); rintro e w17 ⟨rfl, bb17⟩; have K17 := hide (bt K15.out bb17))
          go_ret
          exact ⟨rfl, (D10.out.below K17.out).bel⟩
  · have CS := CN.out _ B3.out _ OA2.out g h I HI3.out hy'
    clear GD CN CY hy'
    go_wp2_with (go_at_call 11; (with_reducible refine CS.mono ?_); rintro e w3 ⟨⟨v3, v4, rfl⟩, b3⟩; have B4 := hide (bt B3.out b3))
    go_ret
    exact ⟨rfl, B4.out⟩
end Go.Proofs.YtaafhjngnjjcmaaGreatDoor
